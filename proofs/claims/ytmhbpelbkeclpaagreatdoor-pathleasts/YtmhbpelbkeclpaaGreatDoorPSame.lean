import Derived.Test.YtmhbpelbkeclpaaGreatDoorPLeast
namespace Go.Proofs.YtmhbpelbkeclpaaGreatDoor
open Go.RowKit Go.Shelf Go.Lib
open Go.Sort hiding Below

theorem teq_t {s t : T3} (h : s = t) : teq s.1 s.2.1 s.2.2 t.1 t.2.1 t.2.2 = true := by subst h; simp [teq]
theorem teq_f {s t : T3} (h : s ≠ t) : teq s.1 s.2.1 s.2.2 t.1 t.2.1 t.2.2 = false := by
  rw [← Bool.not_eq_true, teq_iff]
  rintro ⟨h1, h2, h3⟩
  exact h (Prod.ext h1 (Prod.ext h2 h3))

set_option maxHeartbeats 2000000 in
set_option maxRecDepth 100000 in
theorem same_any (va vb : Value) (ta tb : List T3) (w : World) (ha : Lst w va ta) (hb : Lst w vb tb) (hl : ta.length ≤ maxLen) :
    Calls Tryz.prog 18 #[va, vb] w fun e w' => e = .returned (.bool (decide (ta = tb))) ∧ Gr w w' := by
  unfold maxLen at hl
  obtain ⟨pa, ca, rfl⟩ := ha.form
  obtain ⟨pb, cb, rfl⟩ := hb.form
  have heq := fun a b c x y z W => run_eqP a b c x y z W
  by_cases hlen : ta.length = tb.length
  · have hne : ((ta.length : Int) != (tb.length : Int)) = false := by simp [hlen]
    have Hlen : Hid (ta.length = tb.length) := hlen
    have Ha : Hid (Lst w (.slice pa ta.length ca) ta) := ha
    have Hb : Hid (Lst w (.slice pb tb.length cb) tb) := hb
    clear ha hb hlen
    go_enter Tryz.func18, Tryz.ntmps18
    go_wp2
    go_loopw [13] (fun s13 wr => ∃ k : Nat, k ≤ ta.length ∧ s13 = .int .i64 k ∧ Gr w wr ∧ ta.take k = tb.take k) (fun s13 _ => ta.length - (RowKit.intOf s13).toNat)
    case atStart => exact ⟨0, Nat.zero_le _, rfl, Gr.refl _, rfl⟩
    case round =>
      obtain ⟨k, hk, rfl, hgr, htk⟩ := hrel
      have HTK : Hid (ta.take k = tb.take k) := htk
      clear htk
      by_cases hlt : k < ta.length
      · have hltz : (k : Int) < (ta.length : Int) := by omega
        have hltz2 : (k : Int) < (tb.length : Int) := by have := Hlen.out; omega
        obtain ⟨s, hs⟩ : ∃ s, ta[k]? = some s := ⟨ta[k], by simp⟩
        obtain ⟨t, ht⟩ : ∃ t, tb[k]? = some t := ⟨tb[k]'(by omega), by simp⟩
        obtain ⟨b1, o1, c1, e1, z1, x1, x2, x3⟩ := (Ha.out.below hgr.below).at2 hs
        obtain ⟨b2, o2, c2, e2, z2, y1, y2, y3⟩ := (Hb.out.below hgr.below).at2 ht
        simp only [Value.slice.injEq] at e1 e2
        obtain ⟨rfl, _, rfl⟩ := e1
        obtain ⟨rfl, _, rfl⟩ := e2
        have HS : Hid (ta[k]? = some s ∧ tb[k]? = some t) := ⟨hs, ht⟩
        clear hs ht
        by_cases hst : s = t
        · have hq := teq_t hst
          have HST : Hid (s = t) := hst
          clear hst
          go_wp2
          go_quiet (fail)
          go_wp2
          refine ⟨⟨k + 1, by omega, by go_num, hgr.drewN _, ?_⟩, by simp [RowKit.intOf]; omega⟩
          rw [List.take_add_one, List.take_add_one, HS.out.1, HS.out.2, HTK.out, HST.out]
        · have hq := teq_f hst
          have HST : Hid (s ≠ t) := hst
          clear hst
          go_wp2
          go_quiet (fail)
          go_wp2
          go_ret
          refine ⟨ret_bool ?_, hgr.drewN _⟩
          symm
          rw [decide_eq_false_iff_not]
          intro e
          have h1 := HS.out.1
          rw [e, HS.out.2] at h1
          exact HST.out (Option.some.inj h1).symm
      · have hltz : ¬ (k : Int) < (ta.length : Int) := by omega
        go_wp2
        go_ret
        refine ⟨ret_bool ?_, hgr⟩
        symm
        rw [decide_eq_true_iff]
        have h1 := HTK.out
        rwa [List.take_of_length_le (by omega), List.take_of_length_le (by have := Hlen.out; omega)] at h1
  · have hne : ((ta.length : Int) != (tb.length : Int)) = true := by rw [bne_iff_ne]; omega
    have hd : decide (ta = tb) = false := by rw [decide_eq_false_iff_not]; intro e; exact hlen (by rw [e])
    rw [hd]
    clear hd ha hb
    go_enter Tryz.func18, Tryz.ntmps18
    go_wp2
    go_ret
    exact ⟨rfl, Gr.refl _⟩
end Go.Proofs.YtmhbpelbkeclpaaGreatDoor
