import Derived.Test.YtghofmhlmkpkcaaDoorBOrd
namespace Go.Proofs.YtghofmhlmkpkcaaDoor.Wi
open Go.RowKit Go.Sort
attribute [local go_sem ↓] Go.wp_at_zero Go.wp_at_succ
set_option maxHeartbeats 1000000 in
theorem wrong_any (c : Cx) (w : World) : Calls Tryd.prog 29 #[gv c] w fun e w' => e = .returned (.int .i64 (wr1 c : Nat)) ∧ Gr w w' := by
  have ho := c.ok
  by_cases h0 : c.pl < 0
  · rw [show wr1 c = 12 by unfold wr1; rw [if_pos (Or.inl h0)]]
    go_enter Tryd.func29, Tryd.ntmps29
    go_wp2
    go_ret
    exact ⟨rfl, (Gr.refl _).alloc _⟩
  by_cases h1 : 191 < c.pl
  · rw [show wr1 c = 12 by unfold wr1; rw [if_pos (Or.inr (Or.inl h1))]]
    go_enter Tryd.func29, Tryd.ntmps29
    go_wp2
    go_ret
    exact ⟨rfl, (Gr.refl _).alloc _⟩
  by_cases h2 : c.N < -2147483647
  · rw [show wr1 c = 12 by unfold wr1; rw [if_pos (Or.inr (Or.inr (Or.inl h2)))]]
    go_enter Tryd.func29, Tryd.ntmps29
    go_wp2
    go_ret
    exact ⟨rfl, (Gr.refl _).alloc _⟩
  by_cases h3 : 2147483647 < c.N
  · rw [show wr1 c = 12 by unfold wr1; rw [if_pos (Or.inr (Or.inr (Or.inr h3)))]]
    go_enter Tryd.func29, Tryd.ntmps29
    go_wp2
    go_ret
    exact ⟨rfl, (Gr.refl _).alloc _⟩
  have hn : ¬ (c.pl < 0 ∨ 191 < c.pl ∨ c.N < -2147483647 ∨ 2147483647 < c.N) := by omega
  by_cases h4 : c.N = 0
  · rw [show wr1 c = 31 by unfold wr1; rw [if_neg hn, if_pos h4]]
    go_enter Tryd.func29, Tryd.ntmps29
    go_wp2
    go_ret
    exact ⟨rfl, (Gr.refl _).alloc _⟩
  · rw [show wr1 c = 0 by unfold wr1; rw [if_neg hn, if_neg h4]]
    clear hn
    go_enter Tryd.func29, Tryd.ntmps29
    go_wp2
    go_ret
    exact ⟨rfl, (Gr.refl _).alloc _⟩
theorem refused_any {rb e at_ : Nat} {v : Value} {L : List UInt8} (w : World) (hR : Rd w rb v L at_ e) : Calls Tryd.prog 24 #[.pointer (some ⟨rb, 0, none⟩)] w fun r w' => r = .returned (.pointer (some ⟨w.heap.size, 0, none⟩)) ∧ w' = w.alloc (.cells #[.int .i64 (at_ : Nat), .int .i64 (e : Nat)] 60) := by
  have h1 := rat_any w hR
  have h2 := rerr_any w hR
  clear hR
  go_enter Tryd.func24, Tryd.ntmps24
  go_wp2_with (first | (go_at_call 46; refine h1.mono ?_; rintro r w4 ⟨rfl, rfl⟩) | (go_at_call 23; refine h2.mono ?_; rintro r w5 ⟨rfl, rfl⟩))
  go_ret
  exact ⟨rfl, rfl⟩
theorem wnum0 {wb : Nat} {v : Value} {L : List UInt8} (u : Nat) (hu : u < 18446744073709551616) (w : World) (hW : Wr w wb v L 0) (hl : L.length + 10 ≤ 140737488355328) :
    Calls Tryd.prog 28 #[.pointer (some ⟨wb, 0, none⟩), .int .u64 u] w fun r w' => ∃ v', r = .returned (.tuple #[]) ∧ Wr w' wb v' (L ++ form u) 0 ∧ Turn wb v v' w w' := wnum_any u hu w hW hl
theorem wint0 {wb : Nat} {v : Value} {L : List UInt8} (n : Int) (h0 : -9223372036854775808 ≤ n) (h1 : n ≤ 9223372036854775807) (w : World) (hW : Wr w wb v L 0) (hl : L.length + 10 ≤ 140737488355328) :
    Calls Tryd.prog 51 #[.pointer (some ⟨wb, 0, none⟩), .int .i64 n] w fun r w' => ∃ v', r = .returned (.tuple #[]) ∧ Wr w' wb v' (L ++ form (fold n)) 0 ∧ Turn wb v v' w w' := wint_any n h0 h1 w hW hl
/-- A boxed change. -/
theorem box_at {w : World} {b : Nat} {c : Cx} (h : w.heap[b]? = some (.cells #[.int .i64 c.pl, .int .u64 (c.A : Nat), .int .u64 (c.B : Nat), .int .u64 (c.C : Nat), .int .i64 c.N] 43 (0, 0))) : w.cell? ⟨b, 0, none⟩ = some (.int .i64 c.pl) ∧ w.cell? ⟨b, 1, none⟩ = some (.int .u64 (c.A : Nat)) ∧ w.cell? ⟨b, 2, none⟩ = some (.int .u64 (c.B : Nat)) ∧ w.cell? ⟨b, 3, none⟩ = some (.int .u64 (c.C : Nat)) ∧ w.cell? ⟨b, 4, none⟩ = some (.int .i64 c.N) ∧ b < w.heap.size := by
  refine ⟨?_, ?_, ?_, ?_, ?_, (Array.getElem?_eq_some_iff.1 h).1⟩
  all_goals simp only [World.cell?, h]
  all_goals rfl
set_option maxHeartbeats 2000000 in
theorem lay_any {wb : Nat} {v : Value} {L : List UInt8} (c : Cx) (hc : wr1 c = 0) (w : World) (hW : Wr w wb v L 0) (hl : L.length + 50 ≤ 140737488355328) :
    Calls Tryd.prog 31 #[.pointer (some ⟨wb, 0, none⟩), gv c] w fun r w' => ∃ v', r = .returned (.tuple #[]) ∧ Wr w' wb v' (L ++ fc c) 0 ∧ Turn wb v v' w w' := by
  have ho := c.ok
  have hk := wr1_ok hc
  obtain ⟨pn, hpn⟩ : ∃ pn : Nat, c.pl = pn := ⟨c.pl.toNat, by omega⟩
  have hpl : IntKind.u64.wrap c.pl = (pn : Int) := by rw [IntKind.wrap_u64]; omega
  have hf1 := form_ten (v := pn) (by omega)
  have hf2 := form_ten ho.2.1.1
  have hf3 := form_ten ho.2.1.2.1
  have hf4 := form_ten ho.2.1.2.2
  obtain ⟨W1, hW1⟩ : ∃ W, W = w.alloc (.cells #[.int .i64 c.pl, .int .u64 (c.A : Nat), .int .u64 (c.B : Nat), .int .u64 (c.C : Nat), .int .i64 c.N] 43) := ⟨_, rfl⟩
  obtain ⟨B0, hB0⟩ : ∃ B, B = w.heap.size := ⟨_, rfl⟩
  have G1 : Gr w W1 := by rw [hW1]; exact (Gr.refl _).alloc _
  have hb1 : W1.heap[B0]? = some (.cells #[.int .i64 c.pl, .int .u64 (c.A : Nat), .int .u64 (c.B : Nat), .int .u64 (c.C : Nat), .int .i64 c.N] 43 (0, 0)) := by rw [hW1, hB0]; exact heap_new' _ _
  have hne : ¬ (B0 = wb ∨ v.ownBlock = some B0) := by
    rintro (h | h)
    · have := hW.lt; omega
    · have := hW.row _ h; omega
  have hlt := (Array.getElem?_eq_some_iff.1 hb1).1
  have HB : Hid (∀ v' w', Turn wb v v' W1 w' → w'.heap[B0]? = some (.cells #[.int .i64 c.pl, .int .u64 (c.A : Nat), .int .u64 (c.B : Nat), .int .u64 (c.C : Nat), .int .i64 c.N] 43 (0, 0))) := fun v' w' h => (h.1.block B0 hlt hne).trans hb1
  have HW := hid (hW.gr G1)
  have HG := hid G1
  have T0 : Hid (Turn wb v v W1 W1) := Turn.refl _ _ _
  have HK := hid hk
  have HF : Hid ((form pn).length ≤ 10 ∧ (form c.A).length ≤ 10 ∧ (form c.B).length ≤ 10 ∧ (form c.C).length ≤ 10) := ⟨hf1, hf2, hf3, hf4⟩
  have HO := hid ho
  have HPN : Hid (pn < 18446744073709551616) := by show _ < _; omega
  have HPE : Hid (c.pl.toNat = pn) := by show _ = _; omega
  obtain ⟨z0, z1, z2, z3, z4, z5⟩ := box_at hb1
  clear hf1 hf2 hf3 hf4 hne hlt hW G1 hk ho hb1 hpn
  go_enter Tryd.func31, Tryd.ntmps31
  go_wp2_with fail
  (try rw [← hW1])
  (try rw [← hB0])
  (try rw [hpl])
  clear hW1 hB0
  refine (wnum0 (pn) HPN.out _ HW.out (by omega)).mono ?_
  rintro r wa1 ⟨va1, rfl, ha1, ta1⟩
  have HA1 := hid ha1
  have TA1 := hid (T0.out.trans ta1)
  have hb1 := HB.out _ _ TA1.out
  obtain ⟨y10, y11, y12, y13, y14, y15⟩ := box_at hb1
  clear ha1 ta1 hb1
  go_wp2_with fail
  refine (wnum0 (c.A) HO.out.2.1.1 _ HA1.out (by simp only [List.length_append]; have := HF.out; omega)).mono ?_
  rintro r wa2 ⟨va2, rfl, ha2, ta2⟩
  have HA2 := hid ha2
  have TA2 := hid (TA1.out.trans ta2)
  have hb2 := HB.out _ _ TA2.out
  obtain ⟨y20, y21, y22, y23, y24, y25⟩ := box_at hb2
  clear ha2 ta2 hb2
  go_wp2_with fail
  refine (wnum0 (c.B) HO.out.2.1.2.1 _ HA2.out (by simp only [List.length_append]; have := HF.out; omega)).mono ?_
  rintro r wa3 ⟨va3, rfl, ha3, ta3⟩
  have HA3 := hid ha3
  have TA3 := hid (TA2.out.trans ta3)
  have hb3 := HB.out _ _ TA3.out
  obtain ⟨y30, y31, y32, y33, y34, y35⟩ := box_at hb3
  clear ha3 ta3 hb3
  go_wp2_with fail
  refine (wnum0 (c.C) HO.out.2.1.2.2 _ HA3.out (by simp only [List.length_append]; have := HF.out; omega)).mono ?_
  rintro r wa4 ⟨va4, rfl, ha4, ta4⟩
  have HA4 := hid ha4
  have TA4 := hid (TA3.out.trans ta4)
  have hb4 := HB.out _ _ TA4.out
  obtain ⟨y40, y41, y42, y43, y44, y45⟩ := box_at hb4
  clear ha4 ta4 hb4
  go_wp2_with fail
  refine (wint0 c.N HO.out.2.2.1 HO.out.2.2.2 _ HA4.out (by simp only [List.length_append]; have := HF.out; omega)).mono ?_
  rintro r wa5 ⟨va5, rfl, ha5, ta5⟩
  have HA5 := hid ha5
  have TA5 := hid (TA4.out.trans ta5)
  have hb5 := HB.out _ _ TA5.out
  obtain ⟨y50, y51, y52, y53, y54, y55⟩ := box_at hb5
  clear ha5 ta5 hb5
  go_wp2_with fail
  go_end0
  refine ⟨_, rfl, ?_, Turn.trans (Turn.of_below HG.out.below) TA5.out⟩
  have := HA5.out
  unfold fc
  rw [HPE.out]
  simpa only [List.append_assoc] using this
end Go.Proofs.YtghofmhlmkpkcaaDoor.Wi
