import Derived.Test.YtpgodnaebkmhhaaGreatKEx
import Derived.BigQuiet
namespace Go.Proofs.YtpgodnaebkmhhaaGreat.Df
open Go.RowKit Go.Sort
attribute [local go_sem ↓] Go.wp_at_zero Go.wp_at_succ

theorem own_z {w : World} {B : Nat} {d : Value} {l : List Int} {n : Nat} (h : w.ownsRow B 3 1 d n (fl EI l)) (hn : n = l.length) : ∃ q c, d = .slice q n c ∧ Lz EI w.heap.size w d l := by
  subst hn
  have hz := owns_lz (E := EI) h
  obtain ⟨p, c, e⟩ := hz.form
  exact ⟨p, c, e, hz⟩
theorem exOrd1_any {B gb : Nat} (w : World) (h : Gm B w gb (exG 1)) : Calls Tryz.prog 9 #[.pointer (some ⟨gb, 0, none⟩)] w fun r w' => ∃ q c, r = .returned (.tuple #[.slice q 6 c, .int .i64 0]) ∧ Hid (Below w.heap.size w w' ∧ Lz EI w'.heap.size w' (.slice q 6 c) [0, 1, 5, 2, 3, 4]) := by
  refine (order_any w h ((ex_fl 1 (Or.inr rfl)).ok.1 rfl)).mono ?_
  rintro r w' ⟨hb, hr⟩
  rw [ex_st1] at hr
  obtain ⟨f1, hf1⟩ := ex_ord1
  rcases hr with ⟨e, _⟩ | ⟨o, f, d, e, rfl, hrow⟩
  · rw [show exL1.length = 6 from rfl, hf1] at e
    cases e
  · rw [show exL1.length = 6 from rfl, hf1] at e
    simp only [Option.some.injEq, Prod.mk.injEq] at e
    obtain ⟨rfl, _⟩ := e
    obtain ⟨q, c, rfl, hz⟩ := own_z hrow rfl
    exact ⟨q, c, rfl, hb, hz⟩
theorem exRank1_any {B gb : Nat} (w : World) (h : Gm B w gb (exG 1)) : Calls Tryz.prog 10 #[.pointer (some ⟨gb, 0, none⟩)] w fun r w' => ∃ q c, r = .returned (.tuple #[.slice q 6 c, .int .i64 0]) ∧ Hid (Below w.heap.size w w' ∧ Lz EI w'.heap.size w' (.slice q 6 c) [0, 1, 1, 2, 3, 0]) := by
  refine (rank_any w h ((ex_fl 1 (Or.inr rfl)).ok.1 rfl)).mono ?_
  rintro r w' ⟨hb, hr⟩
  rw [ex_st1] at hr
  obtain ⟨f1, hf1⟩ := ex_ord1
  rcases hr with ⟨e, _⟩ | ⟨us, f, d, e, rfl, hrow⟩
  · rw [show exL1.length = 6 from rfl, hf1] at e
    cases e
  · rw [show exL1.length = 6 from rfl, hf1] at e
    simp only [Option.some.injEq, Prod.mk.injEq] at e
    obtain rfl : [0, 1, 5, 2, 3, 4] = us := ints_inj e.1
    have hl : fnL exL1.length (rkN exL1 [0, 1, 5, 2, 3, 4]) = [0, 1, 1, 2, 3, 0] := by decide
    rw [hl] at hrow
    obtain ⟨q, c, rfl, hz⟩ := own_z hrow rfl
    exact ⟨q, c, rfl, hb, hz⟩
theorem exFind1_any {B gb : Nat} (w : World) (h : Gm B w gb (exG 1)) : Calls Tryz.prog 11 #[.pointer (some ⟨gb, 0, none⟩)] w fun r w' => ∃ q c, r = .returned (.slice q 0 c) ∧ Hid (Below w.heap.size w w') := by
  refine (find_any w h ((ex_fl 1 (Or.inr rfl)).ok.1 rfl)).mono ?_
  rintro r w' ⟨v, rfl, hb, hrow⟩
  rw [ex_st1, show exL1.length = 6 from rfl, ex_find1] at hrow
  obtain ⟨q, c, rfl, _⟩ := own_z hrow rfl
  exact ⟨q, c, rfl, hb⟩
theorem exFindN_any (w : World) : Calls Tryz.prog 11 #[.pointer none] w fun r w' => ∃ q c, r = .returned (.slice q 0 c) ∧ Hid (Below w.heap.size w w') := by
  refine (findNil_any w).mono ?_
  rintro r w' ⟨v, rfl, hb, hrow⟩
  obtain ⟨q, c, rfl, _⟩ := own_z hrow rfl
  exact ⟨q, c, rfl, hb⟩
theorem exOrd0_any {B gb : Nat} (w : World) (h : Gm B w gb (exG 0)) : Calls Tryz.prog 9 #[.pointer (some ⟨gb, 0, none⟩)] w fun r w' => r = .returned (.tuple #[.slice none 0 0, .int .i64 27]) ∧ Hid (Below w.heap.size w w') := by
  refine (order_any w h ((ex_fl 0 (Or.inl rfl)).ok.1 rfl)).mono ?_
  rintro r w' ⟨hb, hr⟩
  rw [ex_st0] at hr
  rcases hr with ⟨_, rfl⟩ | ⟨o, f, d, e, _⟩
  · exact ⟨rfl, hb⟩
  · rw [show exL0.length = 6 from rfl, ex_ord0] at e
    cases e
theorem exFind0_any {B gb : Nat} (w : World) (h : Gm B w gb (exG 0)) : Calls Tryz.prog 11 #[.pointer (some ⟨gb, 0, none⟩)] w fun r w' => ∃ q c, r = .returned (.slice q 4 c) ∧ Hid (Below w.heap.size w w' ∧ Lz EI w'.heap.size w' (.slice q 4 c) [2, 3, 4, 5]) := by
  refine (find_any w h ((ex_fl 0 (Or.inl rfl)).ok.1 rfl)).mono ?_
  rintro r w' ⟨v, rfl, hb, hrow⟩
  rw [ex_st0, show exL0.length = 6 from rfl, ex_find0] at hrow
  obtain ⟨q, c, rfl, hz⟩ := own_z hrow rfl
  exact ⟨q, c, rfl, hb, hz⟩
theorem lit_z (w : World) {l : List Int} {cs : Array Value} (hcs : cs.toList = fl EI l) : Lz EI (w.alloc (.cells cs 3)).heap.size (w.alloc (.cells cs 3)) (.slice (some ⟨w.heap.size, 0, none⟩) l.length l.length) l := Or.inl ⟨sm_rowK hcs (heap_new' _ _), fun k hk => by simp only [Value.ownBlock, Option.some.injEq] at hk; simp; omega⟩
set_option maxRecDepth 100000 in
set_option maxHeartbeats 4000000 in
/-- What the document fixes. -/
theorem known_any (w : World) : Calls Tryz.prog 6 #[] w fun r w' => r = .returned (.bool true) ∧ Hid (Below w.heap.size w w') := by
  go_enter Tryz.func6, Tryz.ntmps6
  go_wp2_with fail
  refine (example_any 1 w).mono ?_
  rintro r w1 ⟨rfl, H1⟩
  go_wp2_with fail
  refine (exNew_any 1 (Or.inr rfl) w1 H1.out.2).mono ?_
  rintro r w2 ⟨g, rfl, H2⟩
  have B2 : Hid (Below w.heap.size w w2) := H1.out.1.trans (H2.out.1.mono H1.out.1.size)
  go_wp2_with fail
  refine (example_any 0 w2).mono ?_
  rintro r w3 ⟨rfl, H3⟩
  go_wp2_with fail
  refine (exNew_any 0 (Or.inl rfl) w3 H3.out.2).mono ?_
  rintro r w4 ⟨h, rfl, H4⟩
  have B24 : Hid (Below w2.heap.size w2 w4) := H3.out.1.trans (H4.out.1.mono H3.out.1.size)
  have B4 : Hid (Below w.heap.size w w4) := B2.out.trans (B24.out.mono B2.out.size)
  have G1 : Hid (Gm w1.heap.size w4 g (exG 1)) := H2.out.2.below B24.out
  have G0 : Hid (Gm w3.heap.size w4 h (exG 0)) := H4.out.2
  clear H1 H2 H3 H4 B2 B24
  go_wp2_with fail
  refine (exOrd1_any w4 G1.out).mono ?_
  rintro r w5 ⟨q5, c5, rfl, H5⟩
  go_wp2_with fail
  refine (exRank1_any w5 (G1.out.below H5.out.1)).mono ?_
  rintro r w6 ⟨q6, c6, rfl, H6⟩
  have B46 : Hid (Below w4.heap.size w4 w6) := H5.out.1.trans (H6.out.1.mono H5.out.1.size)
  have hs1 := sameI_eq (w6.alloc (.cells #[.int .i64 0, .int .i64 1, .int .i64 5, .int .i64 2, .int .i64 3, .int .i64 4] 3)) (((H5.out.2.below H6.out.1).up H6.out.1.size).below ((Gr.refl w6).alloc _).below |>.up ((Gr.refl w6).alloc _).below.size) (lit_z w6 (l := [0, 1, 5, 2, 3, 4]) rfl) (by decide)
  go_wp2_with fail
  refine hs1.mono ?_
  clear hs1
  rintro r w7 ⟨rfl, g7⟩
  have B67 : Hid (Below w6.heap.size w6 w7) := ((Gr.refl w6).alloc _).below.trans (g7.below.mono ((Gr.refl w6).alloc _).below.size)
  clear g7
  have hs2 := sameI_eq (w7.alloc (.cells #[.int .i64 0, .int .i64 1, .int .i64 1, .int .i64 2, .int .i64 3, .int .i64 0] 3)) (((H6.out.2.below B67.out).up B67.out.size).below ((Gr.refl w7).alloc _).below |>.up ((Gr.refl w7).alloc _).below.size) (lit_z w7 (l := [0, 1, 1, 2, 3, 0]) rfl) (by decide)
  go_wp2_with fail
  refine hs2.mono ?_
  clear hs2
  rintro r w8 ⟨rfl, g8⟩
  have B48 : Hid (Below w4.heap.size w4 w8) := by
    have h1 := B46.out.trans (B67.out.mono B46.out.size)
    have h2 := ((Gr.refl w7).alloc (.cells #[.int .i64 0, .int .i64 1, .int .i64 1, .int .i64 2, .int .i64 3, .int .i64 0] 3)).below.trans (g8.below.mono ((Gr.refl w7).alloc _).below.size)
    exact h1.trans (h2.mono h1.size)
  clear g8 B67 B46 H5 H6
  go_wp2_with fail
  refine (exFind1_any w8 (G1.out.below B48.out)).mono ?_
  rintro r w9 ⟨q9, c9, rfl, H9⟩
  have B49 : Hid (Below w4.heap.size w4 w9) := B48.out.trans (H9.out.mono B48.out.size)
  clear B48 H9
  go_wp2_with fail
  refine (exOrd0_any w9 (G0.out.below B49.out)).mono ?_
  rintro r w10 ⟨rfl, H10⟩
  have B410 : Hid (Below w4.heap.size w4 w10) := B49.out.trans (H10.out.mono B49.out.size)
  clear B49 H10
  go_wp2_with fail
  refine (orderNil_any w10).mono ?_
  rintro r w11 ⟨rfl, hw11⟩
  subst hw11
  go_wp2_with fail
  refine (rankNil_any w11).mono ?_
  rintro r w12 ⟨rfl, hw12⟩
  subst hw12
  go_wp2_with fail
  refine (exFind0_any w12 (G0.out.below B410.out)).mono ?_
  rintro r w13 ⟨q13, c13, rfl, H13⟩
  have B413 : Hid (Below w4.heap.size w4 w13) := B410.out.trans (H13.out.1.mono B410.out.size)
  have hs3 := sameI_eq (w13.alloc (.cells #[.int .i64 2, .int .i64 3, .int .i64 4, .int .i64 5] 3)) (H13.out.2.below ((Gr.refl w13).alloc _).below |>.up ((Gr.refl w13).alloc _).below.size) (lit_z w13 (l := [2, 3, 4, 5]) rfl) (by decide)
  go_wp2_with fail
  refine hs3.mono ?_
  clear hs3
  rintro r w14 ⟨rfl, g14⟩
  have B14 : Hid (Below w.heap.size w w14) := by
    have h1 := ((Gr.refl w13).alloc (.cells #[.int .i64 2, .int .i64 3, .int .i64 4, .int .i64 5] 3)).below.trans (g14.below.mono ((Gr.refl w13).alloc _).below.size)
    have h2 := B413.out.trans (h1.mono B413.out.size)
    exact B4.out.trans (h2.mono B4.out.size)
  clear g14
  go_wp2_with fail
  refine (exFindN_any w14).mono ?_
  rintro r w15 ⟨q15, c15, rfl, H15⟩
  go_wp2_with fail
  go_ret
  exact ⟨by first | rfl | simp, B14.out.trans (H15.out.mono B14.out.size)⟩
end Go.Proofs.YtpgodnaebkmhhaaGreat.Df
