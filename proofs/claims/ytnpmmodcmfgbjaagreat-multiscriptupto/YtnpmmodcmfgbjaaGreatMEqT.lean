import Derived.Test.YtnpmmodcmfgbjaaGreatMEqD
namespace Go.Proofs.YtnpmmodcmfgbjaaGreat
open Go.RowKit Go.Sort
attribute [local go_sem ↓] Go.wp_at_zero Go.wp_at_succ

theorem teq_t {s t : Tm} (h : s = t) : teq s.1.1 s.1.2.1 s.1.2.2 t.1.1 t.1.2.1 t.1.2.2 = true := by rw [teq_dec]; simpa using h
theorem teq_f {s t : Tm} (h : s ≠ t) : teq s.1.1 s.1.2.1 s.1.2.2 t.1.1 t.1.2.1 t.1.2.2 = false := by rw [teq_dec]; simpa using h
set_option maxHeartbeats 1000000 in
theorem tms_any (va vb : Value) (ta tb : List Tm) (w : World) (ha : Ls ET w va ta) (hb : Ls ET w vb tb) (hl : ta.length ≤ maxLen) :
    Calls Tryz.prog 19 #[va, vb] w fun e w' => e = .returned (.bool (decide (ta = tb))) ∧ Gr w w' := by
  unfold maxLen at hl
  obtain ⟨pa, ca, rfl⟩ := ha.form
  obtain ⟨pb, cb, rfl⟩ := hb.form
  have heq := fun a b c x y z W => run_eqT a b c x y z W
  have hm : Tryz.prog.follows .mixedOrders = true := by kernel_rfl
  by_cases hlen : ta.length = tb.length
  · have hne : ((ta.length : Int) != (tb.length : Int)) = false := by simp [hlen]
    have Hlen : Hid (ta.length = tb.length) := hlen
    have Ha : Hid (Ls ET w (.slice pa ta.length ca) ta) := ha
    have Hb : Hid (Ls ET w (.slice pb tb.length cb) tb) := hb
    clear ha hb hlen
    go_enter Tryz.func19, Tryz.ntmps19
    go_wp2
    go_loopw [5] (fun s5 wr => ∃ k : Nat, k ≤ ta.length ∧ s5 = .int .i64 k ∧ Gr w wr ∧ Hid (ta.take k = tb.take k)) (fun s5 _ => ta.length - (RowKit.intOf s5).toNat)
    case atStart => exact ⟨0, Nat.zero_le _, rfl, Gr.refl _, rfl⟩
    case round =>
      obtain ⟨k, hk, rfl, hgr, HTK⟩ := hrel
      by_cases hlt : k < ta.length
      · have hltz : (k : Int) < (ta.length : Int) := by omega
        have hltz2 : (k : Int) < (tb.length : Int) := by have := Hlen.out; omega
        obtain ⟨s, hs⟩ : ∃ s, ta[k]? = some s := ⟨ta[k], by simp⟩
        obtain ⟨t, ht⟩ : ∃ t, tb[k]? = some t := ⟨tb[k]'(by omega), by simp⟩
        obtain ⟨b1, o1, c1, e1, z1, x1, x2, x3⟩ := (Ha.out.below hgr.below).at3 hs
        obtain ⟨b2, o2, c2, e2, z2, y1, y2, y3⟩ := (Hb.out.below hgr.below).at3 ht
        simp only [Value.slice.injEq] at e1 e2
        obtain ⟨rfl, -, rfl⟩ := e1
        obtain ⟨rfl, -, rfl⟩ := e2
        have HS : Hid (ta[k]? = some s) := hs
        have HT : Hid (tb[k]? = some t) := ht
        clear hs ht
        by_cases hst : s = t
        · have hq := teq_t hst
          have HST : Hid (s = t) := hst
          clear hst
          go_wp2_with fail
          go_region
          all_goals go_wp2
          all_goals exact ⟨⟨k + 1, by omega, by go_num, hgr.drew, take_same HTK.out HS.out (by rw [HST.out]; exact HT.out)⟩, by simp [RowKit.intOf]; omega⟩
        · have hq := teq_f hst
          have HST : Hid (s ≠ t) := hst
          clear hst
          go_wp2_with fail
          go_region
          all_goals go_wp2
          all_goals go_ret
          all_goals refine ⟨?_, hgr.drew⟩
          all_goals rw [decide_eq_false (fun e => HST.out (Option.some.inj (HS.out.symm.trans ((congrArg (·[k]?) e).trans HT.out))))]
          all_goals rfl
      · have hltz : ¬ (k : Int) < (ta.length : Int) := by omega
        go_wp2
        go_ret
        refine ⟨?_, hgr⟩
        have h1 := HTK.out
        rw [List.take_of_length_le (by omega), List.take_of_length_le (by have := Hlen.out; omega)] at h1
        rw [decide_eq_true h1]
        rfl
  · have hne : ((ta.length : Int) != (tb.length : Int)) = true := by simp; omega
    have hd : decide (ta = tb) = false := decide_eq_false (fun h => hlen (by rw [h]))
    rw [hd]
    clear ha hb hlen
    go_enter Tryz.func19, Tryz.ntmps19
    go_wp2
    go_ret
    exact ⟨rfl, Gr.refl _⟩

end Go.Proofs.YtnpmmodcmfgbjaaGreat
