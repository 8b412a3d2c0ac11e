import Derived.Test.YtbbfddadnbjlhaaGreatJ19
import Derived.Test.YtbbfddadnbjlhaaGreatJ18
namespace Go.Proofs.YtbbfddadnbjlhaaGreat.Lf
open Go.RowKit Go.Sort Pt
open Df (hid EI)
attribute [local go_sem ↓] Go.wp_at_zero Go.wp_at_succ
set_option maxHeartbeats 1000000 in
theorem sameP_eq {va vb : Value} {l : List Tri} (w : World) (ha : Ls Pc.ET w va l) (hb : Ls Pc.ET w vb l) (hl : l.length ≤ 140737488351232) : Calls Tryz.prog 11 #[va, vb] w fun e w' => e = .returned (.bool true) ∧ Gr w w' := by
 obtain ⟨pa, ca, rfl⟩ := ha.form
 obtain ⟨pb, cb, rfl⟩ := hb.form
 have hm : Tryz.prog.follows .mixedOrders = true := by kernel_rfl
 have Ha := hid ha
 have Hb := hid hb
 have heq := fun a b c x y z W => run_eqP a b c x y z W
 clear ha hb
 go_enter Tryz.func11, Tryz.ntmps11
 go_wp2_with fail
 go_loopw [5] (fun s5 wr => ∃ k : Nat, k ≤ l.length ∧ s5 = .int .i64 (k : Nat) ∧ Gr w wr) (fun s5 _ => l.length - (RowKit.intOf s5).toNat)
 case atStart => exact ⟨0, Nat.zero_le _, rfl, Gr.refl _⟩
 case round =>
  obtain ⟨k, hk, rfl, hgr⟩ := hrel
  by_cases hlt : k < l.length
  ·have hltz : (k : Int) < (l.length : Int) := by omega
   have hk0 : (0 : Int) ≤ (k : Int) := by omega
   obtain ⟨s, hs⟩ : ∃ s, l[k]? = some s := ⟨l[k], by simp⟩
   obtain ⟨b1, o1, c1, e1, z1, x0, x1, x2⟩ := (Ha.out.below hgr.below).atP hs
   obtain ⟨b2, o2, c2, e2, z2, y0, y1, y2⟩ := (Hb.out.below hgr.below).atP hs
   simp only [Value.slice.injEq] at e1 e2
   obtain ⟨rfl, -, rfl⟩ := e1
   obtain ⟨rfl, -, rfl⟩ := e2
   have hq := teq_t (s := s) (t := s) rfl
   have GR' := hid hgr
   clear hs hgr
   go_wp2_with fail
   go_quiet (fail)
   go_wp2_with fail
   go_roundw
   case rel => exact ⟨k + 1, by omega, by go_num, GR'.out.drewN _⟩
   case measure => simp [RowKit.intOf]; omega
  ·have hltz : ¬ (k : Int) < (l.length : Int) := by omega
   go_wp2_with fail
   go_ret
   exact ⟨rfl, hgr⟩
set_option maxHeartbeats 1000000 in
theorem sameI_eq {va vb : Value} {l : List Int} (w : World) (ha : Ls EI w va l) (hb : Ls EI w vb l) (hl : l.length ≤ 140737488351232) : Calls Tryz.prog 28 #[va, vb] w fun e w' => e = .returned (.bool true) ∧ Gr w w' := by
 obtain ⟨pa, ca, rfl⟩ := ha.form
 obtain ⟨pb, cb, rfl⟩ := hb.form
 have hm : Tryz.prog.follows .mixedOrders = true := by kernel_rfl
 have Ha := hid ha
 have Hb := hid hb
 clear ha hb
 go_enter Tryz.func28, Tryz.ntmps28
 go_wp2_with fail
 go_loopw [5] (fun s5 wr => ∃ k : Nat, k ≤ l.length ∧ s5 = .int .i64 (k : Nat) ∧ Gr w wr) (fun s5 _ => l.length - (RowKit.intOf s5).toNat)
 case atStart => exact ⟨0, Nat.zero_le _, rfl, Gr.refl _⟩
 case round =>
  obtain ⟨k, hk, rfl, hgr⟩ := hrel
  by_cases hlt : k < l.length
  ·have hltz : (k : Int) < (l.length : Int) := by omega
   have hk0 : (0 : Int) ≤ (k : Int) := by omega
   obtain ⟨s, hs⟩ : ∃ s, l[k]? = some s := ⟨l[k], by simp⟩
   obtain ⟨b1, o1, c1, e1, z1, x0⟩ := Df.ls_atI (Ha.out.below hgr.below) hs
   obtain ⟨b2, o2, c2, e2, z2, y0⟩ := Df.ls_atI (Hb.out.below hgr.below) hs
   simp only [Value.slice.injEq] at e1 e2
   obtain ⟨rfl, -, rfl⟩ := e1
   obtain ⟨rfl, -, rfl⟩ := e2
   have GR' := hid hgr
   clear hs hgr
   go_wp2_with fail
   go_quiet (fail)
   go_wp2_with fail
   go_roundw
   case rel => exact ⟨k + 1, by omega, by go_num, GR'.out.drewN _⟩
   case measure => simp [RowKit.intOf]; omega
  ·have hltz : ¬ (k : Int) < (l.length : Int) := by omega
   go_wp2_with fail
   go_ret
   exact ⟨rfl, hgr⟩
end Go.Proofs.YtbbfddadnbjlhaaGreat.Lf

namespace Go.Proofs.YtbbfddadnbjlhaaGreat.Lf
open Go.RowKit Go.Sort Pt
open Df (hid EI exG exX exE plN tk_lt GR owns_form owns_caps)
attribute [local go_sem ↓] Go.wp_at_zero Go.wp_at_succ
theorem TP.re {M tb n : Nat} {w : World} {R R' : Nat → Nat → List Tri} (h : TP M w tb n R) (hR : ∀ p, p < n → R p = R' p) : TP M w tb n R' := by
 obtain ⟨v, h1, h2, h3⟩ := h
 exact ⟨v, h1, h2, h3.re hR⟩
theorem exTab_any {B gb : Nat} (w : World) (h : Df.Gm B w gb (exG 1)) : Calls Tryz.prog 33 #[.pointer (some ⟨gb, 0, none⟩)] w fun e w' => ∃ tb, e = .returned (.tuple #[.pointer (some ⟨tb, 0, none⟩), .int .i64 0]) ∧ Hid (Below w.heap.size w w' ∧ TP w'.heap.size w' tb 6 exR) := by
 refine (new_any w h ((Df.ex_fl 1 (Or.inr rfl)).ok.1 rfl) ex_gpt).mono ?_
 rintro e w' ⟨hb, a, ht, hc⟩
 rcases ht.same ex_tab with ⟨_, h⟩ | ⟨_, h⟩ | ⟨R, R', rfl, h2, h3⟩
 ·cases h
 ·cases h
 ·cases h2
  rcases hc with ⟨h, _⟩ | ⟨h, _⟩ | ⟨S, tb, h, rfl, htp⟩
  ·cases h
  ·cases h
  ·cases h
   rw [ex_pl] at htp h3
   exact ⟨tb, rfl, hb, htp.re h3⟩
theorem newNil_any (w : World) : Calls Tryz.prog 33 #[.pointer none] w fun e w' => e = .returned (.tuple #[.pointer none, .int .i64 1]) ∧ w' = w := by
 have h := Df.orderNil_any w
 go_enter Tryz.func33, Tryz.ntmps33
 go_wp2_with fail
 refine h.mono ?_
 rintro e w1 ⟨rfl, hw1⟩
 rw [hw1]
 clear hw1
 go_wp2
 refine bodyPost_ret (v := .tuple #[.pointer none, .int .i64 1]) (by simp [results, Tryz.results33, go_sem]) rfl ?_
 exact ⟨rfl, rfl⟩
def R0 : Nat → Nat → List Tri := fun _ _ => []
theorem bt0 (p q : Int) : bt 0 R0 p q = [] := by
 unfold bt R0
 split <;> rfl
theorem nv (w : World) : Tv 0 w (.pointer none) 0 R0 := Or.inl ⟨rfl, rfl⟩
theorem nilLeast_any (w : World) : Calls Tryz.prog 12 #[.pointer none, .int .i64 0, .int .i64 0] w fun e w' => ∃ q c, e = .returned (.slice q 0 c) ∧ Hid (Below w.heap.size w w') := by
 have h := least_any 0 0 w (nv w) (by rw [bt0]; exact Nat.zero_le _)
 rw [bt0] at h
 refine h.mono ?_
 rintro e w' ⟨v, rfl, h1, h2⟩
 obtain ⟨q, m, c, rfl⟩ := owns_form h1
 obtain ⟨rfl, _⟩ := owns_caps h1 _ _ _ rfl
 exact ⟨q, c, rfl, h2⟩
theorem nilTo_any (w : World) : Calls Tryz.prog 24 #[.pointer none, .int .i64 0] w fun e w' => ∃ q c, e = .returned (.slice q 0 c) ∧ Hid (Below w.heap.size w w') := by
 refine (to_any 0 w (nv w) (Nat.zero_le _) (by decide)).mono ?_
 rintro e w' ⟨v, rfl, h1, h2⟩
 obtain ⟨q, m, c, rfl⟩ := owns_form h1
 obtain ⟨rfl, _⟩ := owns_caps h1 _ _ _ rfl
 exact ⟨q, c, rfl, h2⟩
theorem nilCould_any (w : World) : Calls Tryz.prog 17 #[.pointer none, .agg #[.int .i64 0, .int .u64 0, .int .u64 0, .int .u64 0], .agg #[.int .i64 0, .int .u64 0, .int .u64 0, .int .u64 0]] w fun e w' => e = .returned (.bool false) ∧ Hid (Below w.heap.size w w') := by
 have h := could_any (0, PX.z) (0, PX.z) w (nv w) (Nat.zero_le _) (by rw [bt0]; exact Nat.zero_le _)
 rw [bt0] at h
 exact h
theorem nilFront_any {b : Nat} (w : World) (hb : w.heap[b]? = some (.cells #[.int .i64 0, .int .u64 0, .int .u64 0, .int .u64 0] 52 (0, 0))) : Calls Tryz.prog 19 #[.pointer none, .int .i64 0, .slice (some ⟨b, 0, none⟩) 1 1] w fun e w' => ∃ q c, e = .returned (.slice q 0 c) ∧ Hid (Below w.heap.size w w') := by
 have hls : Ls EF w (.slice (some ⟨b, 0, none⟩) 1 1) [(0, PX.z)] := Df.sm_rowK (E := EF) (l := [(0, PX.z)]) rfl hb
 have h := front_any 0 w (nv w) (Nat.zero_le _) (fun p q => by rw [bt0]; exact Nat.zero_le _) (Or.inl ⟨hls, hls.blk⟩) (by decide)
 have e0 : allT 0 R0 0 [(0, PX.z)] = [] := by
  unfold allT
  simp [bt0, onL]
 rw [e0, frt_nil] at h
 refine h.mono ?_
 rintro e w' ⟨v, rfl, h1, h2⟩
 obtain ⟨q, m, c, rfl⟩ := owns_form h1
 obtain ⟨rfl, _⟩ := owns_caps h1 _ _ _ rfl
 exact ⟨q, c, rfl, h2⟩
theorem exLeast_any {M tb : Nat} (w : World) (h : TP M w tb 6 exR) : Calls Tryz.prog 12 #[.pointer (some ⟨tb, 0, none⟩), .int .i64 3, .int .i64 2] w fun e w' => ∃ q c, e = .returned (.slice q 1 c) ∧ Hid (Below w.heap.size w w' ∧ Ls Pc.ET w' (.slice q 1 c) [tk1 1]) := by
 have e : bt 6 exR 3 2 = [tk1 1] := rfl
 have h := least_any 3 2 w (Or.inr ⟨tb, rfl, h⟩) (by rw [e]; decide)
 rw [e] at h
 refine h.mono ?_
 rintro e w' ⟨v, rfl, h1, h2⟩
 obtain ⟨q, m, c, rfl⟩ := owns_form h1
 obtain ⟨rfl, _⟩ := owns_caps h1 _ _ _ rfl
 exact ⟨q, c, rfl, h2, owns_ls (E := Pc.ET) h1⟩
theorem exTo_any {M tb : Nat} (w : World) (h : TP M w tb 6 exR) (hM : M ≤ w.heap.size) : Calls Tryz.prog 24 #[.pointer (some ⟨tb, 0, none⟩), .int .i64 4] w fun e w' => ∃ q c, e = .returned (.slice q 4 c) ∧ Hid (Below w.heap.size w w' ∧ Ls EI w' (.slice q 4 c) [2, 3, 4, 5]) := by
 have e : toL 6 exR 4 6 = [2, 3, 4, 5] := by decide
 have h := to_any 4 w (Or.inr ⟨tb, rfl, h⟩) hM (by decide)
 rw [e] at h
 refine h.mono ?_
 rintro e w' ⟨v, rfl, h1, h2⟩
 obtain ⟨q, m, c, rfl⟩ := owns_form h1
 obtain ⟨rfl, _⟩ := owns_caps h1 _ _ _ rfl
 exact ⟨q, c, rfl, h2, owns_ls (E := EI) h1⟩
theorem ex_cld : (bt 6 exR 0 5).any (cldP (tri (3, 7, 0)) (tri (4, 7, 0))) = true := by
 have e : bt 6 exR 0 5 = [tk1 1] := rfl
 rw [e]
 simp only [List.any_cons, List.any_nil, Bool.or_false]
 obtain ⟨a1, a2, a3⟩ := tri_val (p := (3, 7, 0)) (by decide)
 obtain ⟨b1, b2, b3⟩ := tri_val (p := (4, 7, 0)) (by decide)
 obtain ⟨c1, c2, c3⟩ := tk1_val (k := 1) (by decide)
 simp only at a1 a2 a3 b1 b2 b3
 obtain ⟨c, hc⟩ := thn3_of (a := tk1 1) (b := tri (3, 7, 0)) ⟨by omega, by omega, by omega⟩
 obtain ⟨d1, d2, d3⟩ := thn3_some hc
 unfold cldP
 rw [hc, thv_some hc]
 simp only [Option.isSome_some, Bool.true_and]
 exact (Pc.bel_iff _ _).2 ⟨by omega, by omega, by omega⟩
theorem exCould_any {M tb : Nat} (w : World) (h : TP M w tb 6 exR) (hM : M ≤ w.heap.size) : Calls Tryz.prog 17 #[.pointer (some ⟨tb, 0, none⟩), .agg #[.int .i64 0, .int .u64 3, .int .u64 7, .int .u64 0], .agg #[.int .i64 5, .int .u64 4, .int .u64 7, .int .u64 0]] w fun e w' => e = .returned (.bool true) ∧ Hid (Below w.heap.size w w') := by
 have h := could_any (0, tri (3, 7, 0)) (5, tri (4, 7, 0)) w (Or.inr ⟨tb, rfl, h⟩) hM (by show (bt 6 exR 0 5).length ≤ 64; decide)
 rw [show (bt 6 exR ((0, tri (3, 7, 0)) : Hf.Th).1 ((5, tri (4, 7, 0)) : Hf.Th).1).any (cldP ((0, tri (3, 7, 0)) : Hf.Th).2 ((5, tri (4, 7, 0)) : Hf.Th).2) = true from ex_cld] at h
 obtain ⟨a1, a2, a3⟩ := tri_val (p := (3, 7, 0)) (by decide)
 obtain ⟨b1, b2, b3⟩ := tri_val (p := (4, 7, 0)) (by decide)
 simp only at a1 a2 a3 b1 b2 b3
 simp only [a1, a2, a3, b1, b2, b3] at h
 exact h
set_option maxRecDepth 100000 in
set_option maxHeartbeats 4000000 in
theorem known_any (w : World) : Calls Tryz.prog 10 #[] w fun r w' => r = .returned (.bool true) ∧ Hid (Below w.heap.size w w') := by
 go_enter Tryz.func10, Tryz.ntmps10
 go_wp2_with fail
 refine (Df.example_any w).mono ?_
 rintro r w1 ⟨rfl, H1⟩
 go_wp2_with fail
 refine (Df.exNew_any 1 (Or.inr rfl) w1 H1.out.2).mono ?_
 rintro r w2 ⟨g, rfl, H2⟩
 have B2 : Hid (Below w.heap.size w w2) := H1.out.1.trans (H2.out.1.mono H1.out.1.size)
 have G2 := hid H2.out.2
 clear H1 H2
 go_wp2_with fail
 refine (exTab_any w2 G2.out).mono ?_
 rintro r w3 ⟨tb, rfl, H3⟩
 have B3 : Hid (Below w.heap.size w w3) := B2.out.trans (H3.out.1.mono B2.out.size)
 have T3 : Hid (TP w3.heap.size w3 tb 6 exR) := H3.out.2
 clear H3 G2 B2
 go_wp2_with fail
 refine (newNil_any w3).mono ?_
 rintro r w4 ⟨rfl, hw4⟩
 rw [hw4]
 clear hw4
 go_wp2_with fail
 refine (nilLeast_any w3).mono ?_
 rintro r w5 ⟨q5, c5, rfl, H5⟩
 go_wp2_with fail
 refine (nilTo_any w5).mono ?_
 rintro r w6 ⟨q6, c6, rfl, H6⟩
 have B36 : Hid (Below w3.heap.size w3 w6) := H5.out.trans (H6.out.mono H5.out.size)
 clear H5 H6
 go_wp2_with fail
 refine (nilCould_any w6).mono ?_
 rintro r w7 ⟨rfl, H7⟩
 have B37 : Hid (Below w3.heap.size w3 w7) := B36.out.trans (H7.out.mono B36.out.size)
 clear B36 H7
 have hnf := nilFront_any (w7.alloc (.cells #[.int .i64 0, .int .u64 0, .int .u64 0, .int .u64 0] 52)) (heap_new' _ _)
 go_wp2_with fail
 refine hnf.mono ?_
 clear hnf
 rintro r w8 ⟨q8, c8, rfl, H8⟩
 have B38 : Hid (Below w3.heap.size w3 w8) := by
  have h1 := B37.out.trans (((Gr.refl w7).alloc (.cells #[.int .i64 0, .int .u64 0, .int .u64 0, .int .u64 0] 52)).below.mono B37.out.size)
  exact h1.trans (H8.out.mono h1.size)
 clear B37 H8
 go_wp2_with fail
 refine (places_any w8 (nv w8)).mono ?_
 rintro r w9 ⟨rfl, hw9⟩
 rw [hw9]
 clear hw9
 go_wp2_with fail
 refine (places_any w8 (Or.inr ⟨tb, rfl, T3.out.keep B38.out⟩)).mono ?_
 rintro r w10 ⟨rfl, hw10⟩
 rw [hw10]
 clear hw10
 go_wp2_with fail
 refine (exLeast_any w8 (T3.out.keep B38.out)).mono ?_
 rintro r w11 ⟨q11, c11, rfl, H11⟩
 have B311 : Hid (Below w3.heap.size w3 w11) := B38.out.trans (H11.out.1.mono B38.out.size)
 have hs1 := sameP_eq (w11.alloc (.cells #[.int .u64 1, .int .u64 0, .int .u64 0] 39)) (H11.out.2.below ((Gr.refl w11).alloc _).below) (Df.sm_rowK (E := Pc.ET) (l := [tk1 1]) (c := 1) rfl (heap_new' _ _)) (by decide)
 clear B38
 go_wp2_with fail
 refine hs1.mono ?_
 clear hs1
 rintro r w12 ⟨rfl, g12⟩
 have B312 : Hid (Below w3.heap.size w3 w12) := by
  have h1 := B311.out.trans (((Gr.refl w11).alloc (.cells #[.int .u64 1, .int .u64 0, .int .u64 0] 39)).below.mono B311.out.size)
  exact h1.trans (g12.below.mono h1.size)
 clear B311 g12 H11
 go_wp2_with fail
 refine (exTo_any w12 (T3.out.keep B312.out) B312.out.size).mono ?_
 rintro r w13 ⟨q13, c13, rfl, H13⟩
 have B313 : Hid (Below w3.heap.size w3 w13) := B312.out.trans (H13.out.1.mono B312.out.size)
 have hs2 := sameI_eq (w13.alloc (.cells #[.int .i64 2, .int .i64 3, .int .i64 4, .int .i64 5] 3)) (H13.out.2.below ((Gr.refl w13).alloc _).below) (Df.sm_rowK (E := EI) (l := [2, 3, 4, 5]) (c := 4) rfl (heap_new' _ _)) (by decide)
 clear B312
 go_wp2_with fail
 refine hs2.mono ?_
 clear hs2
 rintro r w14 ⟨rfl, g14⟩
 have B314 : Hid (Below w3.heap.size w3 w14) := by
  have h1 := B313.out.trans (((Gr.refl w13).alloc (.cells #[.int .i64 2, .int .i64 3, .int .i64 4, .int .i64 5] 3)).below.mono B313.out.size)
  exact h1.trans (g14.below.mono h1.size)
 clear B313 g14 H13
 go_wp2_with fail
 refine (exCould_any w14 (T3.out.keep B314.out) B314.out.size).mono ?_
 rintro r w15 ⟨rfl, H15⟩
 have FIN : Hid (Below w.heap.size w w15) := by
  have h1 := B314.out.trans (H15.out.mono B314.out.size)
  exact B3.out.trans (h1.mono B3.out.size)
 clear B314 H15
 go_wp2
 go_ret
 exact ⟨by first | rfl | simp, FIN.out⟩
end Go.Proofs.YtbbfddadnbjlhaaGreat.Lf

namespace Go.Proofs.YtbbfddadnbjlhaaGreat.Lf
open Go.RowKit Go.Sort Pt
open Df (hid LV EL EI infoI tk_store tk_lt)
attribute [local go_sem ↓] Go.wp_at_zero Go.wp_at_succ
end Go.Proofs.YtbbfddadnbjlhaaGreat.Lf

namespace Go.Proofs.YtbbfddadnbjlhaaGreat.Lf
open Go.RowKit Go.Sort Pt
open Df (hid LV EL EI infoI tk_store tk_lt)
attribute [local go_sem ↓] Go.wp_at_zero Go.wp_at_succ
end Go.Proofs.YtbbfddadnbjlhaaGreat.Lf
