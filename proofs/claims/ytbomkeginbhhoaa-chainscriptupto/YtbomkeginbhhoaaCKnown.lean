import Derived.Test.YtbomkeginbhhoaaCRest
namespace Go.Proofs.Ytbomkeginbhhoaa
open Go.RowKit Go.Sort
attribute [local go_sem ↓] Go.wp_at_zero Go.wp_at_succ

set_option maxHeartbeats 1000000 in
theorem insert_nil (x : P2) (w : World) : Calls Try.prog 11 #[.pointer none, pv x] w fun e w' => e = .returned (.bool false) ∧ Gr w w' := by
  go_enter Try.func11, Try.ntmps11
  go_wp2
  go_ret
  exact ⟨rfl, (Gr.refl _).alloc _⟩
set_option maxHeartbeats 1000000 in
theorem cut_nil (x : P2) (w : World) : Calls Try.prog 19 #[.pointer none, pv x] w fun e w' => e = .returned (.int .i64 0) ∧ Gr w w' := by
  go_enter Try.func19, Try.ntmps19
  go_wp2
  go_ret
  exact ⟨rfl, (Gr.refl _).alloc _⟩
theorem list_nil (w : World) : Calls Try.prog 13 #[.pointer none] w fun e w' => e = .returned (.slice none 0 0) ∧ w' = w := by
  go_enter Try.func13, Try.ntmps13
  go_wp2
  go_ret
  exact ⟨rfl, rfl⟩
theorem len_nil (w : World) : Calls Try.prog 12 #[.pointer none] w fun e w' => e = .returned (.int .i64 0) ∧ w' = w := by
  go_enter Try.func12, Try.ntmps12
  go_wp2
  go_ret
  exact ⟨rfl, rfl⟩
theorem copy_nil (w : World) : Calls Try.prog 33 #[.pointer none] w fun e w' => e = .returned (.pointer none) ∧ w' = w := by
  go_enter Try.func33, Try.ntmps33
  go_wp2
  go_ret
  exact ⟨rfl, rfl⟩
theorem clear_nil (w : World) : Calls Try.prog 21 #[.pointer none] w fun e w' => e = .returned (.tuple #[]) ∧ w' = w := by
  go_enter Try.func21, Try.ntmps21
  go_wp2
  go_end0
  exact ⟨rfl, rfl⟩
set_option maxHeartbeats 1000000 in
set_option maxRecDepth 100000 in
theorem join_nil {u : Value} {vs : List P2} (w : World) (hu : Lst w u vs) (hl : vs.length ≤ maxLen) :
    Calls Try.prog 16 #[.pointer none, u] w fun e w' => e = .returned (.int .i64 0) ∧ Gr w w' := by
  unfold maxLen at hl
  obtain ⟨pu, cu, rfl⟩ := hu.form
  have HU : Hid (Lst w (.slice pu vs.length cu) vs) := hu
  clear hu
  go_enter Try.func16, Try.ntmps16
  go_wp2_with fail
  go_loopw [5, 7, 10] (fun s5 _ s10 wr => ∃ (k : Nat), k ≤ vs.length ∧ s10 = .int .i64 k ∧ s5 = .int .i64 0 ∧ Gr w wr) (fun _ _ s10 _ => vs.length - (RowKit.intOf s10).toNat)
  case atStart => exact ⟨0, Nat.zero_le _, rfl, rfl, Gr.refl _⟩
  case round =>
    obtain ⟨k, hk, rfl, rfl, hgr⟩ := hrel
    by_cases hlt : k < vs.length
    · have hltz : (k : Int) < (vs.length : Int) := by omega
      obtain ⟨x, hx⟩ : ∃ x, vs[k]? = some x := ⟨vs[k], by simp⟩
      obtain ⟨b1, o1, c1, e1, z1, x1, x2⟩ := (HU.out.below hgr.below).at2 hx
      simp only [Value.slice.injEq] at e1
      obtain ⟨rfl, -, rfl⟩ := e1
      clear hx
      go_wp2_with fail
      refine (insert_nil x _).mono ?_
      rintro e w2 ⟨rfl, hg2⟩
      go_wp2
      exact ⟨⟨k + 1, by omega, by go_num, rfl, (hgr.alloc _).trans hg2⟩, by simp [RowKit.intOf]; omega⟩
    · have hltz : ¬ (k : Int) < (vs.length : Int) := by omega
      go_wp2
      go_ret
      exact ⟨rfl, hgr⟩

theorem new_any (fb ff : Nat) (w : World) : Calls Try.prog 36 #[fv fb, fv ff] w fun e w' => e = .returned (.pointer (some ⟨w.heap.size, 0, none⟩)) ∧ Ch w' w.heap.size fb ff (.slice none 0 0) [] ∧ Gr w w' := by
  go_enter Try.func36, Try.ntmps36
  go_wp2
  go_ret
  exact ⟨rfl, ⟨heap_new' _ _, World.ownsRow_nil _ _ _ _, by simp [Value.ownBlock]⟩, (Gr.refl _).alloc _⟩

/-- Two functions of number k. -/
structure Fns (k : Int) (fb ff : Nat) : Prop where
  b : FnOk fb (rbel k)
  f : FnOk ff (rfst k)
set_option maxHeartbeats 1000000 in
theorem made_any (k : Int) (h0 : 0 ≤ k) (h5 : k ≤ 5) (w : World) : Calls Try.prog 8 #[.int .i64 k] w fun e w' => e = .returned (.pointer (some ⟨w.heap.size, 0, none⟩)) ∧ ∃ fb ff, Fns k fb ff ∧ Ch w' w.heap.size fb ff (.slice none 0 0) [] ∧ Gr w w' := by
  have hk : k = 0 ∨ k = 1 ∨ k = 2 ∨ k = 3 ∨ k = 4 ∨ k = 5 := by omega
  clear h0 h5
  rcases hk with rfl | rfl | rfl | rfl | rfl | rfl
  · have h := new_any 14 15 w
    go_enter Try.func8, Try.ntmps8
    go_wp2_with fail
    refine h.mono ?_
    rintro e w1 ⟨rfl, hc, hg⟩
    go_wp2
    go_ret
    exact ⟨rfl, _, _, ⟨below0_ok, first0_ok⟩, hc, hg⟩
  · have h := new_any 37 38 w
    go_enter Try.func8, Try.ntmps8
    go_wp2_with fail
    refine h.mono ?_
    rintro e w1 ⟨rfl, hc, hg⟩
    go_wp2
    go_ret
    exact ⟨rfl, _, _, ⟨below1_ok, first1_ok⟩, hc, hg⟩
  · have h := new_any 39 40 w
    go_enter Try.func8, Try.ntmps8
    go_wp2_with fail
    refine h.mono ?_
    rintro e w1 ⟨rfl, hc, hg⟩
    go_wp2
    go_ret
    exact ⟨rfl, _, _, ⟨below2_ok, first2_ok⟩, hc, hg⟩
  · have h := new_any 41 42 w
    go_enter Try.func8, Try.ntmps8
    go_wp2_with fail
    refine h.mono ?_
    rintro e w1 ⟨rfl, hc, hg⟩
    go_wp2
    go_ret
    exact ⟨rfl, _, _, ⟨below3_ok, first3_ok⟩, hc, hg⟩
  · have h := new_any 43 44 w
    go_enter Try.func8, Try.ntmps8
    go_wp2_with fail
    refine h.mono ?_
    rintro e w1 ⟨rfl, hc, hg⟩
    go_wp2
    go_ret
    exact ⟨rfl, _, _, ⟨below4_ok, first4_ok⟩, hc, hg⟩
  · have h := new_any 45 46 w
    go_enter Try.func8, Try.ntmps8
    go_wp2_with fail
    refine h.mono ?_
    rintro e w1 ⟨rfl, hc, hg⟩
    go_wp2
    go_ret
    exact ⟨rfl, _, _, ⟨below5_ok, first5_ok⟩, hc, hg⟩
theorem bool_pair {a b : P2} : (decide (a = b)) = peq a.1 a.2 b.1 b.2 := by
  by_cases h : a = b
  · rw [decide_eq_true h, peq_t h]
  · rw [decide_eq_false h, peq_f h]
theorem take_same {a b : List P2} {k : Nat} {s : P2} (h : a.take k = b.take k) (hs : a[k]? = some s) (ht : b[k]? = some s) : a.take (k + 1) = b.take (k + 1) := by
  rw [List.take_add_one, List.take_add_one, h, hs, ht]
set_option maxHeartbeats 2000000 in
set_option maxRecDepth 100000 in
theorem same_any (va vb : Value) (ta tb : List P2) (w : World) (ha : Lst w va ta) (hb : Lst w vb tb) (hl : ta.length ≤ maxLen) :
    Calls Try.prog 17 #[va, vb] w fun e w' => e = .returned (.bool (decide (ta = tb))) ∧ Gr w w' := by
  unfold maxLen at hl
  obtain ⟨pa, ca, rfl⟩ := ha.form
  obtain ⟨pb, cb, rfl⟩ := hb.form
  have heq := fun a b x y W => run_eqP2 a b x y W
  have hm : Try.prog.follows .mixedOrders = true := by kernel_rfl
  by_cases hlen : ta.length = tb.length
  · have hne : ((ta.length : Int) != (tb.length : Int)) = false := by simp [hlen]
    have Hlen : Hid (ta.length = tb.length) := hlen
    have Ha : Hid (Lst w (.slice pa ta.length ca) ta) := ha
    have Hb : Hid (Lst w (.slice pb tb.length cb) tb) := hb
    clear ha hb hlen
    go_enter Try.func17, Try.ntmps17
    go_wp2
    go_loopw [5] (fun s5 wr => ∃ k : Nat, k ≤ ta.length ∧ s5 = .int .i64 k ∧ Gr w wr ∧ Hid (ta.take k = tb.take k)) (fun s5 _ => ta.length - (RowKit.intOf s5).toNat)
    case atStart => exact ⟨0, Nat.zero_le _, rfl, Gr.refl _, rfl⟩
    case round =>
      obtain ⟨k, hk, rfl, hgr, HTK⟩ := hrel
      by_cases hlt : k < ta.length
      · have hltz : (k : Int) < (ta.length : Int) := by omega
        have hltz2 : (k : Int) < (tb.length : Int) := by have := Hlen.out; omega
        obtain ⟨s, hs⟩ : ∃ s, ta[k]? = some s := ⟨ta[k], by simp⟩
        obtain ⟨t, ht⟩ : ∃ t, tb[k]? = some t := ⟨tb[k]'(by omega), by simp⟩
        obtain ⟨b1, o1, c1, e1, z1, x1, x2⟩ := (Ha.out.below hgr.below).at2 hs
        obtain ⟨b2, o2, c2, e2, z2, y1, y2⟩ := (Hb.out.below hgr.below).at2 ht
        simp only [Value.slice.injEq] at e1 e2
        obtain ⟨rfl, -, rfl⟩ := e1
        obtain ⟨rfl, -, rfl⟩ := e2
        have HS : Hid (ta[k]? = some s) := hs
        have HT : Hid (tb[k]? = some t) := ht
        clear hs ht
        by_cases hst : s = t
        · have hq := peq_t hst
          have HST : Hid (s = t) := hst
          clear hst
          go_wp2_with fail
          go_region
          all_goals go_wp2
          all_goals exact ⟨⟨k + 1, by omega, by go_num, hgr.drew, take_same HTK.out HS.out (by rw [HST.out]; exact HT.out)⟩, by simp [RowKit.intOf]; omega⟩
        · have hq := peq_f hst
          have HST : Hid (s ≠ t) := hst
          clear hst
          go_wp2_with fail
          go_region
          all_goals go_wp2
          all_goals go_ret
          all_goals refine ⟨?_, hgr.drew⟩
          all_goals rw [decide_eq_false (fun e => HST.out (Option.some.inj (HS.out.symm.trans ((congrArg (·[k]?) e).trans HT.out))))]
          all_goals rfl
      · have hltz : ¬ (k : Int) < (ta.length : Int) := by omega
        go_wp2
        go_ret
        refine ⟨?_, hgr⟩
        have h1 := HTK.out
        rw [List.take_of_length_le (by omega), List.take_of_length_le (by have := Hlen.out; omega)] at h1
        rw [decide_eq_true h1]
        rfl
  · have hne : ((ta.length : Int) != (tb.length : Int)) = true := by simp; omega
    have hd : decide (ta = tb) = false := decide_eq_false (fun h => hlen (by rw [h]))
    rw [hd]
    clear ha hb hlen
    go_enter Try.func17, Try.ntmps17
    go_wp2
    go_ret
    exact ⟨rfl, Gr.refl _⟩
end Go.Proofs.Ytbomkeginbhhoaa
