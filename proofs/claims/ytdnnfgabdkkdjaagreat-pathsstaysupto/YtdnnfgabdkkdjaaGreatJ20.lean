import Derived.Test.YtdnnfgabdkkdjaaGreatJ19
import Derived.Test.YtdnnfgabdkkdjaaGreatJ18
namespace Go.Proofs.YtdnnfgabdkkdjaaGreat.Lf
open Go.RowKit Go.Sort Pt
open Df (hid EI)
attribute [local go_sem ↓] Go.wp_at_zero Go.wp_at_succ
set_option maxHeartbeats 1000000 in
theorem sameP_eq {va vb : Value} {l : List Tri} (w : World) (ha : Ls Pc.ET w va l) (hb : Ls Pc.ET w vb l) (hl : l.length ≤ 140737488351232) : Calls Tryz.prog 11 #[va, vb] w fun e w' => e = .returned (.bool true) ∧ Gr w w' := by
 obtain ⟨pa, ca, rfl⟩ := ha.form
 obtain ⟨pb, cb, rfl⟩ := hb.form
 have hm : Tryz.prog.follows .mixedOrders = true := by kernel_rfl
 have Ha := hid ha
 have Hb := hid hb
 have heq := fun a b c x y z W => run_eqP a b c x y z W
 clear ha hb
 go_enter Tryz.func11, Tryz.ntmps11
 go_wp2_with fail
 go_loopw [5] (fun s5 wr => ∃ k : Nat, k ≤ l.length ∧ s5 = .int .i64 (k : Nat) ∧ Gr w wr) (fun s5 _ => l.length - (RowKit.intOf s5).toNat)
 case atStart => exact ⟨0, Nat.zero_le _, rfl, Gr.refl _⟩
 case round =>
  obtain ⟨k, hk, rfl, hgr⟩ := hrel
  by_cases hlt : k < l.length
  ·have hltz : (k : Int) < (l.length : Int) := by omega
   have hk0 : (0 : Int) ≤ (k : Int) := by omega
   obtain ⟨s, hs⟩ : ∃ s, l[k]? = some s := ⟨l[k], by simp⟩
   obtain ⟨b1, o1, c1, e1, z1, x0, x1, x2⟩ := (Ha.out.below hgr.below).atP hs
   obtain ⟨b2, o2, c2, e2, z2, y0, y1, y2⟩ := (Hb.out.below hgr.below).atP hs
   simp only [Value.slice.injEq] at e1 e2
   obtain ⟨rfl, -, rfl⟩ := e1
   obtain ⟨rfl, -, rfl⟩ := e2
   have hq := teq_t (s := s) (t := s) rfl
   have GR' := hid hgr
   clear hs hgr
   go_wp2_with fail
   go_quiet (fail)
   go_wp2_with fail
   go_roundw
   case rel => exact ⟨k + 1, by omega, by go_num, GR'.out.drewN _⟩
   case measure => simp [RowKit.intOf]; omega
  ·have hltz : ¬ (k : Int) < (l.length : Int) := by omega
   go_wp2_with fail
   go_ret
   exact ⟨rfl, hgr⟩
set_option maxHeartbeats 1000000 in
theorem sameT_eq {va vb : Value} {l : List Tri} (w : World) (ha : Ls Pc.ET w va l) (hb : Ls Pc.ET w vb l) (hl : l.length ≤ 140737488351232) : Calls Tryz.prog 22 #[va, vb] w fun e w' => e = .returned (.bool true) ∧ Gr w w' := by
 obtain ⟨pa, ca, rfl⟩ := ha.form
 obtain ⟨pb, cb, rfl⟩ := hb.form
 have hm : Tryz.prog.follows .mixedOrders = true := by kernel_rfl
 have Ha := hid ha
 have Hb := hid hb
 have heq := fun a b c x y z W => run_eqT a b c x y z W
 clear ha hb
 go_enter Tryz.func22, Tryz.ntmps22
 go_wp2_with fail
 go_loopw [5] (fun s5 wr => ∃ k : Nat, k ≤ l.length ∧ s5 = .int .i64 (k : Nat) ∧ Gr w wr) (fun s5 _ => l.length - (RowKit.intOf s5).toNat)
 case atStart => exact ⟨0, Nat.zero_le _, rfl, Gr.refl _⟩
 case round =>
  obtain ⟨k, hk, rfl, hgr⟩ := hrel
  by_cases hlt : k < l.length
  ·have hltz : (k : Int) < (l.length : Int) := by omega
   have hk0 : (0 : Int) ≤ (k : Int) := by omega
   obtain ⟨s, hs⟩ : ∃ s, l[k]? = some s := ⟨l[k], by simp⟩
   obtain ⟨b1, o1, c1, e1, z1, x0, x1, x2⟩ := (Ha.out.below hgr.below).atP hs
   obtain ⟨b2, o2, c2, e2, z2, y0, y1, y2⟩ := (Hb.out.below hgr.below).atP hs
   simp only [Value.slice.injEq] at e1 e2
   obtain ⟨rfl, -, rfl⟩ := e1
   obtain ⟨rfl, -, rfl⟩ := e2
   have hq := teq_t (s := s) (t := s) rfl
   have GR' := hid hgr
   clear hs hgr
   go_wp2_with fail
   go_quiet (fail)
   go_wp2_with fail
   go_roundw
   case rel => exact ⟨k + 1, by omega, by go_num, GR'.out.drewN _⟩
   case measure => simp [RowKit.intOf]; omega
  ·have hltz : ¬ (k : Int) < (l.length : Int) := by omega
   go_wp2_with fail
   go_ret
   exact ⟨rfl, hgr⟩
set_option maxHeartbeats 1000000 in
theorem sameI_eq {va vb : Value} {l : List Int} (w : World) (ha : Ls EI w va l) (hb : Ls EI w vb l) (hl : l.length ≤ 140737488351232) : Calls Tryz.prog 28 #[va, vb] w fun e w' => e = .returned (.bool true) ∧ Gr w w' := by
 obtain ⟨pa, ca, rfl⟩ := ha.form
 obtain ⟨pb, cb, rfl⟩ := hb.form
 have hm : Tryz.prog.follows .mixedOrders = true := by kernel_rfl
 have Ha := hid ha
 have Hb := hid hb
 clear ha hb
 go_enter Tryz.func28, Tryz.ntmps28
 go_wp2_with fail
 go_loopw [5] (fun s5 wr => ∃ k : Nat, k ≤ l.length ∧ s5 = .int .i64 (k : Nat) ∧ Gr w wr) (fun s5 _ => l.length - (RowKit.intOf s5).toNat)
 case atStart => exact ⟨0, Nat.zero_le _, rfl, Gr.refl _⟩
 case round =>
  obtain ⟨k, hk, rfl, hgr⟩ := hrel
  by_cases hlt : k < l.length
  ·have hltz : (k : Int) < (l.length : Int) := by omega
   have hk0 : (0 : Int) ≤ (k : Int) := by omega
   obtain ⟨s, hs⟩ : ∃ s, l[k]? = some s := ⟨l[k], by simp⟩
   obtain ⟨b1, o1, c1, e1, z1, x0⟩ := Df.ls_atI (Ha.out.below hgr.below) hs
   obtain ⟨b2, o2, c2, e2, z2, y0⟩ := Df.ls_atI (Hb.out.below hgr.below) hs
   simp only [Value.slice.injEq] at e1 e2
   obtain ⟨rfl, -, rfl⟩ := e1
   obtain ⟨rfl, -, rfl⟩ := e2
   have GR' := hid hgr
   clear hs hgr
   go_wp2_with fail
   go_quiet (fail)
   go_wp2_with fail
   go_roundw
   case rel => exact ⟨k + 1, by omega, by go_num, GR'.out.drewN _⟩
   case measure => simp [RowKit.intOf]; omega
  ·have hltz : ¬ (k : Int) < (l.length : Int) := by omega
   go_wp2_with fail
   go_ret
   exact ⟨rfl, hgr⟩
end Go.Proofs.YtdnnfgabdkkdjaaGreat.Lf

namespace Go.Proofs.YtdnnfgabdkkdjaaGreat.Lf
open Go.RowKit Go.Sort Pt
open Df (hid EI exG exX exE plN tk_lt GR owns_form owns_caps)
attribute [local go_sem ↓] Go.wp_at_zero Go.wp_at_succ
theorem TP.re {M tb n : Nat} {w : World} {R R' : Nat → Nat → List Tri} (h : TP M w tb n R) (hR : ∀ p, p < n → R p = R' p) : TP M w tb n R' := by
 obtain ⟨v, h1, h2, h3⟩ := h
 exact ⟨v, h1, h2, h3.re hR⟩
theorem exTab_any {B gb : Nat} (w : World) (h : Df.Gm B w gb (exG 1)) : Calls Tryz.prog 33 #[.pointer (some ⟨gb, 0, none⟩)] w fun e w' => ∃ tb, e = .returned (.tuple #[.pointer (some ⟨tb, 0, none⟩), .int .i64 0]) ∧ Hid (Below w.heap.size w w' ∧ TP w'.heap.size w' tb 6 exR) := by
 refine (new_any w h ((Df.ex_fl 1 (Or.inr rfl)).ok.1 rfl) ex_gpt).mono ?_
 rintro e w' ⟨hb, a, ht, hc⟩
 rcases ht.same ex_tab with ⟨_, h⟩ | ⟨_, h⟩ | ⟨R, R', rfl, h2, h3⟩
 ·cases h
 ·cases h
 ·cases h2
  rcases hc with ⟨h, _⟩ | ⟨h, _⟩ | ⟨S, tb, h, rfl, htp⟩
  ·cases h
  ·cases h
  ·cases h
   rw [ex_pl] at htp h3
   exact ⟨tb, rfl, hb, htp.re h3⟩
theorem newNil_any (w : World) : Calls Tryz.prog 33 #[.pointer none] w fun e w' => e = .returned (.tuple #[.pointer none, .int .i64 1]) ∧ w' = w := by
 have h := Df.orderNil_any w
 go_enter Tryz.func33, Tryz.ntmps33
 go_wp2_with fail
 refine h.mono ?_
 rintro e w1 ⟨rfl, hw1⟩
 rw [hw1]
 clear hw1
 go_wp2
 refine bodyPost_ret (v := .tuple #[.pointer none, .int .i64 1]) (by simp [results, Tryz.results33, go_sem]) rfl ?_
 exact ⟨rfl, rfl⟩
def R0 : Nat → Nat → List Tri := fun _ _ => []
theorem bt0 (p q : Int) : bt 0 R0 p q = [] := by
 unfold bt R0
 split <;> rfl
theorem nv (w : World) : Tv 0 w (.pointer none) 0 R0 := Or.inl ⟨rfl, rfl⟩
theorem nilLeast_any (w : World) : Calls Tryz.prog 12 #[.pointer none, .int .i64 0, .int .i64 0] w fun e w' => ∃ q c, e = .returned (.slice q 0 c) ∧ Hid (Below w.heap.size w w') := by
 have h := least_any 0 0 w (nv w) (by rw [bt0]; exact Nat.zero_le _)
 rw [bt0] at h
 refine h.mono ?_
 rintro e w' ⟨v, rfl, h1, h2⟩
 obtain ⟨q, m, c, rfl⟩ := owns_form h1
 obtain ⟨rfl, _⟩ := owns_caps h1 _ _ _ rfl
 exact ⟨q, c, rfl, h2⟩
theorem nilTo_any (w : World) : Calls Tryz.prog 24 #[.pointer none, .int .i64 0] w fun e w' => ∃ q c, e = .returned (.slice q 0 c) ∧ Hid (Below w.heap.size w w') := by
 refine (to_any 0 w (nv w) (Nat.zero_le _) (by decide)).mono ?_
 rintro e w' ⟨v, rfl, h1, h2⟩
 obtain ⟨q, m, c, rfl⟩ := owns_form h1
 obtain ⟨rfl, _⟩ := owns_caps h1 _ _ _ rfl
 exact ⟨q, c, rfl, h2⟩
theorem nilCould_any (w : World) : Calls Tryz.prog 17 #[.pointer none, .agg #[.int .i64 0, .int .u64 0, .int .u64 0, .int .u64 0], .agg #[.int .i64 0, .int .u64 0, .int .u64 0, .int .u64 0]] w fun e w' => e = .returned (.bool false) ∧ Hid (Below w.heap.size w w') := by
 have h := could_any (0, PX.z) (0, PX.z) w (nv w) (Nat.zero_le _) (by rw [bt0]; exact Nat.zero_le _)
 rw [bt0] at h
 exact h
theorem nilFront_any {b : Nat} (w : World) (hb : w.heap[b]? = some (.cells #[.int .i64 0, .int .u64 0, .int .u64 0, .int .u64 0] 52 (0, 0))) : Calls Tryz.prog 19 #[.pointer none, .int .i64 0, .slice (some ⟨b, 0, none⟩) 1 1] w fun e w' => ∃ q c, e = .returned (.slice q 0 c) ∧ Hid (Below w.heap.size w w') := by
 have hls : Ls EF w (.slice (some ⟨b, 0, none⟩) 1 1) [(0, PX.z)] := Df.sm_rowK (E := EF) (l := [(0, PX.z)]) rfl hb
 have h := front_any 0 w (nv w) (Nat.zero_le _) (fun p q => by rw [bt0]; exact Nat.zero_le _) (Or.inl ⟨hls, hls.blk⟩) (by decide)
 have e0 : allT 0 R0 0 [(0, PX.z)] = [] := by
  unfold allT
  simp [bt0, onL]
 rw [e0, frt_nil] at h
 refine h.mono ?_
 rintro e w' ⟨v, rfl, h1, h2⟩
 obtain ⟨q, m, c, rfl⟩ := owns_form h1
 obtain ⟨rfl, _⟩ := owns_caps h1 _ _ _ rfl
 exact ⟨q, c, rfl, h2⟩
theorem exLeast_any {M tb : Nat} (w : World) (h : TP M w tb 6 exR) : Calls Tryz.prog 12 #[.pointer (some ⟨tb, 0, none⟩), .int .i64 3, .int .i64 2] w fun e w' => ∃ q c, e = .returned (.slice q 1 c) ∧ Hid (Below w.heap.size w w' ∧ Ls Pc.ET w' (.slice q 1 c) [tk1 1]) := by
 have e : bt 6 exR 3 2 = [tk1 1] := rfl
 have h := least_any 3 2 w (Or.inr ⟨tb, rfl, h⟩) (by rw [e]; decide)
 rw [e] at h
 refine h.mono ?_
 rintro e w' ⟨v, rfl, h1, h2⟩
 obtain ⟨q, m, c, rfl⟩ := owns_form h1
 obtain ⟨rfl, _⟩ := owns_caps h1 _ _ _ rfl
 exact ⟨q, c, rfl, h2, owns_ls (E := Pc.ET) h1⟩
theorem exTo_any {M tb : Nat} (w : World) (h : TP M w tb 6 exR) (hM : M ≤ w.heap.size) : Calls Tryz.prog 24 #[.pointer (some ⟨tb, 0, none⟩), .int .i64 4] w fun e w' => ∃ q c, e = .returned (.slice q 4 c) ∧ Hid (Below w.heap.size w w' ∧ Ls EI w' (.slice q 4 c) [2, 3, 4, 5]) := by
 have e : toL 6 exR 4 6 = [2, 3, 4, 5] := by decide
 have h := to_any 4 w (Or.inr ⟨tb, rfl, h⟩) hM (by decide)
 rw [e] at h
 refine h.mono ?_
 rintro e w' ⟨v, rfl, h1, h2⟩
 obtain ⟨q, m, c, rfl⟩ := owns_form h1
 obtain ⟨rfl, _⟩ := owns_caps h1 _ _ _ rfl
 exact ⟨q, c, rfl, h2, owns_ls (E := EI) h1⟩
theorem ex_cld : (bt 6 exR 0 5).any (cldP (tri (3, 7, 0)) (tri (4, 7, 0))) = true := by
 have e : bt 6 exR 0 5 = [tk1 1] := rfl
 rw [e]
 simp only [List.any_cons, List.any_nil, Bool.or_false]
 obtain ⟨a1, a2, a3⟩ := tri_val (p := (3, 7, 0)) (by decide)
 obtain ⟨b1, b2, b3⟩ := tri_val (p := (4, 7, 0)) (by decide)
 obtain ⟨c1, c2, c3⟩ := tk1_val (k := 1) (by decide)
 simp only at a1 a2 a3 b1 b2 b3
 obtain ⟨c, hc⟩ := thn3_of (a := tk1 1) (b := tri (3, 7, 0)) ⟨by omega, by omega, by omega⟩
 obtain ⟨d1, d2, d3⟩ := thn3_some hc
 unfold cldP
 rw [hc, thv_some hc]
 simp only [Option.isSome_some, Bool.true_and]
 exact (Pc.bel_iff _ _).2 ⟨by omega, by omega, by omega⟩
theorem exCould_any {M tb : Nat} (w : World) (h : TP M w tb 6 exR) (hM : M ≤ w.heap.size) : Calls Tryz.prog 17 #[.pointer (some ⟨tb, 0, none⟩), .agg #[.int .i64 0, .int .u64 3, .int .u64 7, .int .u64 0], .agg #[.int .i64 5, .int .u64 4, .int .u64 7, .int .u64 0]] w fun e w' => e = .returned (.bool true) ∧ Hid (Below w.heap.size w w') := by
 have h := could_any (0, tri (3, 7, 0)) (5, tri (4, 7, 0)) w (Or.inr ⟨tb, rfl, h⟩) hM (by show (bt 6 exR 0 5).length ≤ 64; decide)
 rw [show (bt 6 exR ((0, tri (3, 7, 0)) : Hf.Th).1 ((5, tri (4, 7, 0)) : Hf.Th).1).any (cldP ((0, tri (3, 7, 0)) : Hf.Th).2 ((5, tri (4, 7, 0)) : Hf.Th).2) = true from ex_cld] at h
 obtain ⟨a1, a2, a3⟩ := tri_val (p := (3, 7, 0)) (by decide)
 obtain ⟨b1, b2, b3⟩ := tri_val (p := (4, 7, 0)) (by decide)
 simp only at a1 a2 a3 b1 b2 b3
 simp only [a1, a2, a3, b1, b2, b3] at h
 exact h
set_option maxRecDepth 100000 in
set_option maxHeartbeats 4000000 in
theorem known_any (w : World) : Calls Tryz.prog 10 #[] w fun r w' => r = .returned (.bool true) ∧ Hid (Below w.heap.size w w') := by
 go_enter Tryz.func10, Tryz.ntmps10
 go_wp2_with fail
 refine (Df.example_any w).mono ?_
 rintro r w1 ⟨rfl, H1⟩
 go_wp2_with fail
 refine (Df.exNew_any 1 (Or.inr rfl) w1 H1.out.2).mono ?_
 rintro r w2 ⟨g, rfl, H2⟩
 have B2 : Hid (Below w.heap.size w w2) := H1.out.1.trans (H2.out.1.mono H1.out.1.size)
 have G2 := hid H2.out.2
 clear H1 H2
 go_wp2_with fail
 refine (exTab_any w2 G2.out).mono ?_
 rintro r w3 ⟨tb, rfl, H3⟩
 have B3 : Hid (Below w.heap.size w w3) := B2.out.trans (H3.out.1.mono B2.out.size)
 have T3 : Hid (TP w3.heap.size w3 tb 6 exR) := H3.out.2
 clear H3 G2 B2
 go_wp2_with fail
 refine (newNil_any w3).mono ?_
 rintro r w4 ⟨rfl, hw4⟩
 rw [hw4]
 clear hw4
 go_wp2_with fail
 refine (nilLeast_any w3).mono ?_
 rintro r w5 ⟨q5, c5, rfl, H5⟩
 go_wp2_with fail
 refine (nilTo_any w5).mono ?_
 rintro r w6 ⟨q6, c6, rfl, H6⟩
 have B36 : Hid (Below w3.heap.size w3 w6) := H5.out.trans (H6.out.mono H5.out.size)
 clear H5 H6
 go_wp2_with fail
 refine (nilCould_any w6).mono ?_
 rintro r w7 ⟨rfl, H7⟩
 have B37 : Hid (Below w3.heap.size w3 w7) := B36.out.trans (H7.out.mono B36.out.size)
 clear B36 H7
 have hnf := nilFront_any (w7.alloc (.cells #[.int .i64 0, .int .u64 0, .int .u64 0, .int .u64 0] 52)) (heap_new' _ _)
 go_wp2_with fail
 refine hnf.mono ?_
 clear hnf
 rintro r w8 ⟨q8, c8, rfl, H8⟩
 have B38 : Hid (Below w3.heap.size w3 w8) := by
  have h1 := B37.out.trans (((Gr.refl w7).alloc (.cells #[.int .i64 0, .int .u64 0, .int .u64 0, .int .u64 0] 52)).below.mono B37.out.size)
  exact h1.trans (H8.out.mono h1.size)
 clear B37 H8
 go_wp2_with fail
 refine (places_any w8 (nv w8)).mono ?_
 rintro r w9 ⟨rfl, hw9⟩
 rw [hw9]
 clear hw9
 go_wp2_with fail
 refine (places_any w8 (Or.inr ⟨tb, rfl, T3.out.keep B38.out⟩)).mono ?_
 rintro r w10 ⟨rfl, hw10⟩
 rw [hw10]
 clear hw10
 go_wp2_with fail
 refine (exLeast_any w8 (T3.out.keep B38.out)).mono ?_
 rintro r w11 ⟨q11, c11, rfl, H11⟩
 have B311 : Hid (Below w3.heap.size w3 w11) := B38.out.trans (H11.out.1.mono B38.out.size)
 have hs1 := sameP_eq (w11.alloc (.cells #[.int .u64 1, .int .u64 0, .int .u64 0] 39)) (H11.out.2.below ((Gr.refl w11).alloc _).below) (Df.sm_rowK (E := Pc.ET) (l := [tk1 1]) (c := 1) rfl (heap_new' _ _)) (by decide)
 clear B38
 go_wp2_with fail
 refine hs1.mono ?_
 clear hs1
 rintro r w12 ⟨rfl, g12⟩
 have B312 : Hid (Below w3.heap.size w3 w12) := by
  have h1 := B311.out.trans (((Gr.refl w11).alloc (.cells #[.int .u64 1, .int .u64 0, .int .u64 0] 39)).below.mono B311.out.size)
  exact h1.trans (g12.below.mono h1.size)
 clear B311 g12 H11
 go_wp2_with fail
 refine (exTo_any w12 (T3.out.keep B312.out) B312.out.size).mono ?_
 rintro r w13 ⟨q13, c13, rfl, H13⟩
 have B313 : Hid (Below w3.heap.size w3 w13) := B312.out.trans (H13.out.1.mono B312.out.size)
 have hs2 := sameI_eq (w13.alloc (.cells #[.int .i64 2, .int .i64 3, .int .i64 4, .int .i64 5] 3)) (H13.out.2.below ((Gr.refl w13).alloc _).below) (Df.sm_rowK (E := EI) (l := [2, 3, 4, 5]) (c := 4) rfl (heap_new' _ _)) (by decide)
 clear B312
 go_wp2_with fail
 refine hs2.mono ?_
 clear hs2
 rintro r w14 ⟨rfl, g14⟩
 have B314 : Hid (Below w3.heap.size w3 w14) := by
  have h1 := B313.out.trans (((Gr.refl w13).alloc (.cells #[.int .i64 2, .int .i64 3, .int .i64 4, .int .i64 5] 3)).below.mono B313.out.size)
  exact h1.trans (g14.below.mono h1.size)
 clear B313 g14 H13
 go_wp2_with fail
 refine (exCould_any w14 (T3.out.keep B314.out) B314.out.size).mono ?_
 rintro r w15 ⟨rfl, H15⟩
 have FIN : Hid (Below w.heap.size w w15) := by
  have h1 := B314.out.trans (H15.out.mono B314.out.size)
  exact B3.out.trans (h1.mono B3.out.size)
 clear B314 H15
 go_wp2
 go_ret
 exact ⟨by first | rfl | simp, FIN.out⟩
end Go.Proofs.YtdnnfgabdkkdjaaGreat.Lf

namespace Go.Proofs.YtdnnfgabdkkdjaaGreat.Lf
open Go.RowKit Go.Sort Pt
open Df (hid LV EL EI infoI tk_store tk_lt)
attribute [local go_sem ↓] Go.wp_at_zero Go.wp_at_succ
set_option maxHeartbeats 1000000 in
theorem rleast_any {M n rb : Nat} {R : Nat → Nat → List Tri} (p q : Int) (w : World) (h : TR M w rb n R) : Calls Tryz.prog 25 #[.pointer (some ⟨rb, 0, none⟩), .int .i64 p, .int .i64 q] w fun e w' => ∃ pp c, e = .returned (.slice pp (bt n R p q).length c) ∧ w' = w ∧ Lq Pc.ET M w (.slice pp (bt n R p q).length c) (bt n R p q) := by
 obtain ⟨v, b1, _, b3⟩ := h
 have c1 := (tk_store b1).1
 have l1 := tk_lt b1
 have no : ¬ ((0 ≤ p ∧ p < (n : Int)) ∧ 0 ≤ q ∧ q < (n : Int)) → bt n R p q = [] := fun h => by unfold bt; rw [if_neg h]
 have fin : Lq Pc.ET M w (.slice none 0 0) ([] : List Tri) := ⟨Ls.nil w, fun k hk => by simp [Value.ownBlock] at hk⟩
 by_cases hp0 : p < 0
 ·have HE := hid (no (by omega))
  rw [HE.out]
  clear no b1 b3
  go_enter Tryz.func25, Tryz.ntmps25
  go_wp2
  go_ret
  exact ⟨none, 0, rfl, rfl, fin⟩
 ·by_cases hq0 : q < 0
  ·have HE := hid (no (by omega))
   rw [HE.out]
   clear no b1 b3
   go_enter Tryz.func25, Tryz.ntmps25
   go_wp2
   go_ret
   exact ⟨none, 0, rfl, rfl, fin⟩
  ·by_cases hpn : (n : Int) ≤ p
   ·have HE := hid (no (by omega))
    rw [HE.out]
    clear no b1 b3
    go_enter Tryz.func25, Tryz.ntmps25
    go_wp2
    go_ret
    exact ⟨none, 0, rfl, rfl, fin⟩
   ·by_cases hqn : (n : Int) ≤ q
    ·have HE := hid (no (by omega))
     rw [HE.out]
     clear no b1 b3
     go_enter Tryz.func25, Tryz.ntmps25
     go_wp2
     go_ret
     exact ⟨none, 0, rfl, rfl, fin⟩
    ·obtain ⟨pn, rfl⟩ := Int.eq_ofNat_of_zero_le (by omega : 0 ≤ p)
     obtain ⟨qn, rfl⟩ := Int.eq_ofNat_of_zero_le (by omega : 0 ≤ q)
     have hp : pn < n := by omega
     have hq : qn < n := by omega
     rw [bt_in hp hq]
     obtain ⟨ps, cs, rfl, hat⟩ := b3.at
     obtain ⟨b, off, b2, o2, c2, pq, cq, rfl, z1, z2, z3, z4, z5⟩ := hat pn qn hp hq
     have HZ := hid z5
     have z6 : (pn : Int) < (n : Int) := by omega
     have z7 : (qn : Int) < (n : Int) := by omega
     clear b1 b3 hat z5 no fin
     generalize (R pn qn).length = rl at *
     go_enter Tryz.func25, Tryz.ntmps25
     go_wp2
     go_ret
     exact ⟨pq, cq, rfl, rfl, HZ.out⟩
set_option maxHeartbeats 1000000 in
theorem rto_any {M n rb : Nat} {R : Nat → Nat → List Tri} (p : Int) (w : World) (h : TR M w rb n R) (hM : M ≤ w.heap.size) (hn : n ≤ 192) : Calls Tryz.prog 26 #[.pointer (some ⟨rb, 0, none⟩), .int .i64 p] w fun e w' => ∃ v', e = .returned v' ∧ w'.ownsRow w.heap.size 3 1 v' (toL n R p n).length (fl EI (toL n R p n)) ∧ Below w.heap.size w w' := by
 have HT : Hid (∀ W, Below w.heap.size w W → TR M W rb n R) := fun W hb => h.keep (hb.mono hM)
 clear h hM
 go_enter Tryz.func26, Tryz.ntmps26
 go_wp2_with fail
 go_loopw [5, 6] (fun s5 s6 wr => ∃ i : Nat, i ≤ n ∧ s6 = .int .i64 i ∧ Hid (wr.ownsRow w.heap.size 3 1 s5 (toL n R p i).length (fl EI (toL n R p i)) ∧ Below w.heap.size w wr)) (fun _ s6 _ => n - (RowKit.intOf s6).toNat)
 case atStart => exact ⟨0, Nat.zero_le _, rfl, World.ownsRow_nil _ _ _ _, Below.refl _ _⟩
 case round =>
  obtain ⟨i, hi, rfl, HI⟩ := hrel
  obtain ⟨v, b1, _, _⟩ := HT.out wr HI.out.2
  have c1 := (tk_store b1).1
  have l1 := tk_lt b1
  clear b1
  by_cases hlt : i < n
  ·have hltz : (i : Int) < (n : Int) := by omega
   have hi0 : (0 : Int) ≤ (i : Int) := by omega
   have hb := rleast_any p (i : Nat) wr (HT.out wr HI.out.2)
   have HSU := hid (toL_succ n R p i)
   have hll := toL_len n R p i
   generalize bt n R p (i : Nat) = bl at *
   generalize toL n R p i = tl at *
   by_cases hz : 0 < bl.length
   ·have hzz : (0 : Int) < (bl.length : Int) := by omega
    have HN : Hid (toL n R p (i + 1) = tl ++ [(i : Int)]) := by rw [HSU.out, if_pos hz]; exact rfl
    clear HSU
    have hwz := HI.out.2.size
    have HO := hid HI.out.1
    have HB := hid HI.out.2
    clear HI
    go_wp2_with fail
    refine hb.mono ?_
    rintro e w2 ⟨pp, c, rfl, hw2, _⟩
    rw [hw2]
    clear hw2 hb
    go_wp2_with (at_builtin; refine wpApp1 EI Tryz.underlying59 infoI rfl (by decide) rfl _ _ rfl w.heap.size _ tl.length _ rfl HO.out (i : Int) rfl (by omega) (by unfold maxLen; omega) hwz _ rfl _ ?_)
    intro g6 c6 w6 ho6 hg6 hl6
    have HE : Hid (w6.ownsRow w.heap.size 3 1 (.slice (some ⟨g6, 0, none⟩) (tl.length + 1) c6) (toL n R p (i + 1)).length (fl EI (toL n R p (i + 1))) ∧ Below w.heap.size w w6) := by
     rw [HN.out]
     exact ⟨owns_re ho6 (by simp) (by rw [fl_append, fl_one]), HB.out.trans ((Kp.grownBy (S := fun k => w.heap.size ≤ k) hg6 (fun k hk => (HO.out.lt k hk).1)).below HB.out.size (fun _ h => h))⟩
    clear ho6 hg6 hl6 c1 l1
    go_wp2
    go_roundw
    case rel => exact ⟨i + 1, by omega, by first | rfl | go_num, HE.out⟩
    case measure => simp [RowKit.intOf]; omega
   ·have hzz : ¬ (0 : Int) < (bl.length : Int) := by omega
    have HN : Hid (toL n R p (i + 1) = tl) := by rw [HSU.out, if_neg hz, List.append_nil]; exact rfl
    clear HSU
    go_wp2_with fail
    refine hb.mono ?_
    rintro e w2 ⟨pp, c, rfl, hw2, _⟩
    rw [hw2]
    clear hw2 hb c1 l1
    go_wp2
    go_roundw
    case rel => exact ⟨i + 1, by omega, by first | rfl | go_num, by rw [HN.out]; exact HI.out⟩
    case measure => simp [RowKit.intOf]; omega
  ·have hltz : ¬ (i : Int) < (n : Int) := by omega
   have hie : i = n := by omega
   subst hie
   go_wp2
   go_ret
   exact ⟨_, rfl, HI.out⟩
theorem frt_of {all r : List Tri} (h1 : r.Pairwise fun p q => Pc.tol p q = true) (h2 : ∀ y, y ∈ r ↔ y ∈ all ∧ ∀ z ∈ all, Pc.bel z y = true → z = y) : r = frt all := by
 refine sorted_same Pc.ords h1 ?_ (fun x => ?_)
 ·have h := good_join (bel := Pc.bel) (fst := Pc.tol) Pc.ords good_nil all
  exact List.Pairwise.imp (fun h => h.1) h
 ·rw [h2]
  exact (mem_least Pc.ords).symm
end Go.Proofs.YtdnnfgabdkkdjaaGreat.Lf

namespace Go.Proofs.YtdnnfgabdkkdjaaGreat.Lf
open Go.RowKit Go.Sort Pt
open Df (hid LV EL EI infoI tk_store tk_lt)
attribute [local go_sem ↓] Go.wp_at_zero Go.wp_at_succ
set_option maxRecDepth 100000 in
set_option maxHeartbeats 2000000 in
theorem rfrontT_any {M M2 n rb : Nat} {sv : Value} {R : Nat → Nat → List Tri} {l : List Hf.Th} (q : Int) (w : World) (h : TR M w rb n R) (hM : M ≤ w.heap.size) (hR : ∀ p q, (bt n R p q).length ≤ 64) (hs : Df.Lz EF M2 w sv l) (hl : (64 * l.length + 1) * 24 ≤ 140737488355328) : Calls Tryz.prog 27 #[.pointer (some ⟨rb, 0, none⟩), .int .i64 q, sv] w fun e w' => ∃ v', e = .returned v' ∧ w'.ownsRow w.heap.size 50 3 v' (frt (allT n R q l)).length (fl Pc.ET (frt (allT n R q l))) ∧ Below w.heap.size w w' := by
 have hmx : Tryz.prog.follows .mixedOrders = true := by kernel_rfl
 have HT : Hid (∀ W, Below w.heap.size w W → TR M W rb n R) := fun W hb => h.keep (hb.mono hM)
 obtain ⟨ps, cs, rfl⟩ := hs.form
 have HS := hid hs
 have HR := hid hR
 have HM := hid hM
 have HBD : Hid (∀ k : Nat, k ≤ 64 * l.length → (k + 1) * 24 ≤ 140737488355328) := fun k hk => Nat.le_trans (Nat.mul_le_mul_right 24 (Nat.add_le_add_right hk 1)) hl
 have hlb : l.length ≤ 91625968981 := by omega
 clear hl h hM hs hR
 go_enter Tryz.func27, Tryz.ntmps27
 go_wp2_with fail
 go_loopw [7, 8, 9, 10, 11, 12] (fun s7 s8 _ _ _ _ wr => ∃ i : Nat, i ≤ l.length ∧ s8 = .int .i64 i ∧ Hid (wr.ownsRow w.heap.size 50 3 s7 (allT n R q (l.take i)).length (Pc.flT (allT n R q (l.take i))) ∧ Below w.heap.size w wr)) (fun _ s8 _ _ _ _ _ => l.length - (RowKit.intOf s8).toNat)
 case atStart => exact ⟨0, Nat.zero_le _, rfl, World.ownsRow_nil _ _ _ _, Below.refl _ _⟩
 case round =>
  obtain ⟨i, hi, rfl, HI⟩ := hrel
  by_cases hlt : i < l.length
  ·have hltz : (i : Int) < (l.length : Int) := by omega
   have hi0 : (0 : Int) ≤ (i : Int) := by omega
   obtain ⟨s, hsi⟩ : ∃ s, l[i]? = some s := ⟨l[i], by simp⟩
   obtain ⟨b1, o1, c1, hv1, hb1, u0, u1, u2, u3⟩ := EF_at ((HS.out.below HI.out.2).ls hsi) hsi
   simp only [Value.slice.injEq] at hv1
   obtain ⟨rfl, -, rfl⟩ := hv1
   have HSI := hid hsi
   have HTK := hid (allT_take (n := n) (R := R) (q := q) hsi)
   have HLN : Hid ((allT n R q (l.take i)).length ≤ 64 * i) := by
    have := allT_len (q := q) HR.out (l.take i)
    rw [List.length_take, Nat.min_eq_left hi] at this
    exact this
   clear hsi
   have hbt := rleast_any s.1 q wr (HT.out wr HI.out.2)
   have hbl := HR.out s.1 q
   generalize bt n R s.1 q = bl at *
   generalize allT n R q (l.take i) = al at *
   go_wp2_with fail
   refine hbt.mono ?_
   rintro e w5 ⟨pp, c5, rfl, hw5, hq5⟩
   rw [hw5]
   have HJ : Hid (wr.ownsRow w.heap.size 50 3 u7 (al ++ onL (bl.take 0) s.2).length (Pc.flT (al ++ onL (bl.take 0) s.2)) ∧ Below w.heap.size w wr ∧ Lq Pc.ET M wr (.slice pp bl.length c5) bl) := by
    have h0 : al ++ onL (bl.take 0) s.2 = al := by simp [onL]
    rw [h0]
    exact ⟨HI.out.1, HI.out.2, hq5⟩
   clear hw5 hbt hq5 HI u0 u1 u2 u3 hb1
   go_wp2_with fail
   go_loopw [7, 10, 11, 12] (fun s7 s10 _ _ wx => ∃ j : Nat, j ≤ bl.length ∧ s10 = .int .i64 j ∧ Hid (wx.ownsRow w.heap.size 50 3 s7 (al ++ onL (bl.take j) s.2).length (Pc.flT (al ++ onL (bl.take j) s.2)) ∧ Below w.heap.size w wx ∧ Lq Pc.ET M wx (.slice pp bl.length c5) bl)) (fun _ s10 _ _ _ => bl.length - (RowKit.intOf s10).toNat)
   case atStart => exact ⟨0, Nat.zero_le _, rfl, HJ.out⟩
   case round =>
    clear HJ
    obtain ⟨j, hj, rfl, HJ⟩ := hrel
    by_cases hjl : j < bl.length
    ·have hjz : (j : Int) < (bl.length : Int) := by omega
     have hj0 : (0 : Int) ≤ (j : Int) := by omega
     obtain ⟨b, hbj⟩ : ∃ b, bl[j]? = some b := ⟨bl[j], by simp⟩
     obtain ⟨b2, o2, c2, hv2, hb2, v0, v1, v2⟩ := HJ.out.2.2.1.atP hbj
     simp only [Value.slice.injEq] at hv2
     obtain ⟨rfl, -, rfl⟩ := hv2
     obtain ⟨b3, o3, c3, hv3, hb3, u0, u1, u2, u3⟩ := EF_at ((HS.out.below HJ.out.2.1).ls HSI.out) HSI.out
     simp only [Value.slice.injEq, Option.some.injEq, Addr.mk.injEq, and_true] at hv3
     obtain ⟨⟨rfl, rfl⟩, -⟩ := hv3
     have HTJ := hid (onL_take s.2 hbj)
     have HLK : Hid ((al ++ onL (bl.take j) s.2).length ≤ 64 * l.length) := by
      show _ ≤ _
      rw [List.length_append]
      have h1 := HLN.out
      have h2 := onL_len (bl.take j) s.2
      rw [List.length_take, Nat.min_eq_left hj] at h2
      clear hjz hj0 hltz hi0 hb2 u0 u1 u2 u3 v0 v1 v2
      omega
     clear hbj
     have hon := fun W => ron_any b s.2 W
     obtain ⟨cv, hcv⟩ : ∃ z, z = thv b s.2 := ⟨_, rfl⟩
     obtain ⟨ok, hok⟩ : ∃ z, z = (thn3 b s.2).isSome := ⟨_, rfl⟩
     rw [← hcv, ← hok] at hon
     unfold Pc.tv at hon
     have HCV : Hid (cv = thv b s.2 ∧ ok = (thn3 b s.2).isSome) := ⟨hcv, hok⟩
     clear hcv hok
     have HSD : Hid (∀ W, Below wr.heap.size wr W → W.cell? ⟨b2, o2 + j * 3, none⟩ = some (.int .u64 b.1.1) ∧ W.cell? ⟨b2, o2 + j * 3 + 1, none⟩ = some (.int .u64 b.1.2.1) ∧ W.cell? ⟨b2, o2 + j * 3 + 2, none⟩ = some (.int .u64 b.1.2.2) ∧ W.cell? ⟨b1, o1 + i * 4 + 1, none⟩ = some (.int .u64 s.2.1.1) ∧ W.cell? ⟨b1, o1 + i * 4 + 2, none⟩ = some (.int .u64 s.2.1.2.1) ∧ W.cell? ⟨b1, o1 + i * 4 + 3, none⟩ = some (.int .u64 s.2.1.2.2) ∧ b2 < W.heap.size ∧ b1 < W.heap.size) := fun W hb =>
      ⟨(hb.cell (p := ⟨b2, o2 + j * 3, none⟩) hb2).trans v0, (hb.cell (p := ⟨b2, o2 + j * 3 + 1, none⟩) hb2).trans v1, (hb.cell (p := ⟨b2, o2 + j * 3 + 2, none⟩) hb2).trans v2, (hb.cell (p := ⟨b1, o1 + i * 4 + 1, none⟩) hb3).trans u1, (hb.cell (p := ⟨b1, o1 + i * 4 + 2, none⟩) hb3).trans u2, (hb.cell (p := ⟨b1, o1 + i * 4 + 3, none⟩) hb3).trans u3, Nat.lt_of_lt_of_le hb2 hb.size, Nat.lt_of_lt_of_le hb3 hb.size⟩
     clear v0 v1 v2 u0 u1 u2 u3 hb2 hb3
     have hth := hon
     clear hon
     go_upto_region 9 with fail
     have hB0 : Below wr.heap.size wr wr.drew := (Gr.refl wr).drew.below
     have hS0 := HSD.out _ hB0
     go_cut [11, 12] (fun s11 s12 wq => ∃ pb, s11 = .pointer (some ⟨pb, 0, none⟩) ∧ s12 = .bool ok ∧ Hid (Below wr.heap.size wr wq ∧ wq.heap[pb]? = some (.cells #[.int .u64 cv.1.1, .int .u64 cv.1.2.1, .int .u64 cv.1.2.2] 50 (0, 0)) ∧ wr.heap.size ≤ pb))
     case first =>
      refine wp_regionD (S := fun W => W.cell? ⟨b2, o2 + j * 3, none⟩ = some (.int .u64 b.1.1) ∧ W.cell? ⟨b2, o2 + j * 3 + 1, none⟩ = some (.int .u64 b.1.2.1) ∧ W.cell? ⟨b2, o2 + j * 3 + 2, none⟩ = some (.int .u64 b.1.2.2) ∧ W.cell? ⟨b1, o1 + i * 4 + 1, none⟩ = some (.int .u64 s.2.1.1) ∧ W.cell? ⟨b1, o1 + i * 4 + 2, none⟩ = some (.int .u64 s.2.1.2.1) ∧ W.cell? ⟨b1, o1 + i * 4 + 3, none⟩ = some (.int .u64 s.2.1.2.2) ∧ b2 < W.heap.size ∧ b1 < W.heap.size) (D := []) hmx ?_
      refine' wpAnyD_take (i := 0) (oi := ⟨some 34, .move (.tmp 9), 35, "ref.go:148", #[], none⟩) (v := _) rfl (by kernel_rfl) (by kernel_rfl) (by kernel_rfl) (fun _ _ _ h => h) (by kernel_rfl) (Or.inl ⟨by rfl, ?hy2001⟩) hS0 ?rest2001
      case hy2001 => (intro W hSw; go_simp; try (with_reducible rfl))
      try simp only [Act.put, List.setIfInBounds_toArray, List.set_cons_zero, List.set_cons_succ]
      refine' wpAnyD_take (i := 1) (oi := ⟨some 35, .move (.tmp 10), 3, "ref.go:148", #[], none⟩) (v := _) rfl (by kernel_rfl) (by kernel_rfl) (by kernel_rfl) (fun _ _ _ h => h) (by kernel_rfl) (Or.inl ⟨by rfl, ?hy2002⟩) hS0 ?rest2002
      case hy2002 => (intro W hSw; go_simp; try (with_reducible rfl))
      try simp only [Act.put, List.setIfInBounds_toArray, List.set_cons_zero, List.set_cons_succ]
      refine' wpAnyD_take (i := 2) (oi := ⟨some 36, .indexAddr 35 (.tmp 34) (.tmp 35), 0, "ref.go:148", #[⟨0, .data⟩, ⟨1, .data⟩], none⟩) (v := _) rfl (by kernel_rfl) (by kernel_rfl) (by kernel_rfl) (fun _ _ _ h => h) (by kernel_rfl) (Or.inl ⟨by rfl, ?hy2003⟩) hS0 ?rest2003
      case hy2003 => (intro W hSw; go_simp; try (with_reducible rfl))
      try simp only [Act.put, List.setIfInBounds_toArray, List.set_cons_zero, List.set_cons_succ]
      refine' wpAnyD_take (i := 3) (oi := ⟨some 37, .load 39 (.tmp 36), 39, "ref.go:148", #[⟨2, .data⟩], none⟩) (v := _) rfl (by kernel_rfl) (by kernel_rfl) (by kernel_rfl) (fun _ _ _ h => h) (by kernel_rfl) (Or.inl ⟨by rfl, ?hy2004⟩) hS0 ?rest2004
      case hy2004 => (intro W hSw; obtain ⟨s1, s2, s3, s4, s5, s6, s7, s8⟩ := hSw; go_simp; try (with_reducible rfl))
      try simp only [Act.put, List.setIfInBounds_toArray, List.set_cons_zero, List.set_cons_succ]
      refine' wpAnyD_take (i := 4) (oi := ⟨some 38, .move (.tmp 2), 49, "ref.go:148", #[], none⟩) (v := _) rfl (by kernel_rfl) (by kernel_rfl) (by kernel_rfl) (fun _ _ _ h => h) (by kernel_rfl) (Or.inl ⟨by rfl, ?hy2005⟩) hS0 ?rest2005
      case hy2005 => (intro W hSw; go_simp; try (with_reducible rfl))
      try simp only [Act.put, List.setIfInBounds_toArray, List.set_cons_zero, List.set_cons_succ]
      refine' wpAnyD_take (i := 5) (oi := ⟨some 39, .move (.tmp 8), 3, "ref.go:148", #[], none⟩) (v := _) rfl (by kernel_rfl) (by kernel_rfl) (by kernel_rfl) (fun _ _ _ h => h) (by kernel_rfl) (Or.inl ⟨by rfl, ?hy2006⟩) hS0 ?rest2006
      case hy2006 => (intro W hSw; go_simp; try (with_reducible rfl))
      try simp only [Act.put, List.setIfInBounds_toArray, List.set_cons_zero, List.set_cons_succ]
      refine' wpAnyD_take (i := 6) (oi := ⟨some 40, .indexAddr 49 (.tmp 38) (.tmp 39), 0, "ref.go:148", #[⟨4, .data⟩, ⟨5, .data⟩], none⟩) (v := _) rfl (by kernel_rfl) (by kernel_rfl) (by kernel_rfl) (fun _ _ _ h => h) (by kernel_rfl) (Or.inl ⟨by rfl, ?hy2007⟩) hS0 ?rest2007
      case hy2007 => (intro W hSw; go_simp; try (with_reducible rfl))
      try simp only [Act.put, List.setIfInBounds_toArray, List.set_cons_zero, List.set_cons_succ]
      refine' wpAnyD_take (i := 7) (oi := ⟨some 41, .fieldAddr 52 (.tmp 40) 1, 0, "ref.go:148", #[⟨6, .data⟩], none⟩) (v := _) rfl (by kernel_rfl) (by kernel_rfl) (by kernel_rfl) (fun _ _ _ h => h) (by kernel_rfl) (Or.inl ⟨by rfl, ?hy2008⟩) hS0 ?rest2008
      case hy2008 => (intro W hSw; go_simp; try (with_reducible rfl))
      try simp only [Act.put, List.setIfInBounds_toArray, List.set_cons_zero, List.set_cons_succ]
      refine' wpAnyD_take (i := 8) (oi := ⟨some 42, .load 50 (.tmp 41), 50, "ref.go:148", #[⟨7, .data⟩], none⟩) (v := _) rfl (by kernel_rfl) (by kernel_rfl) (by kernel_rfl) (fun _ _ _ h => h) (by kernel_rfl) (Or.inl ⟨by rfl, ?hy2009⟩) hS0 ?rest2009
      case hy2009 => (intro W hSw; obtain ⟨s1, s2, s3, s4, s5, s6, s7, s8⟩ := hSw; go_simp; try (with_reducible rfl))
      try simp only [Act.put, List.setIfInBounds_toArray, List.set_cons_zero, List.set_cons_succ]
      refine wpAnyD_two (i := 9) (j := 13) (oi := ⟨some 43, .call ⟨.value (.func 21), #[.tmp 37, .tmp 42], #[39, 50]⟩, 60, "ref.go:148", #[⟨3, .data⟩, ⟨8, .data⟩], none⟩) (oj := ⟨some 11, .alloc 50, 0, "ref.go:148", #[], none⟩) (by kernel_rfl) rfl rfl (fun K hK => ?tA) (fun K hK => ?tB)
      case tA =>
       go_simp
       refine (hth _).mono ?_
       rintro r w14 ⟨rfl, g14⟩
       have hS14 : Below wr.heap.size wr w14 := hB0.trans (g14.mono hB0.size)
       clear g14
       go_wp2_with fail
       refine hK.out _ _ (fun hD => HSD.out _ hS14) ?_
       clear hK K
       try simp only [Act.put, List.setIfInBounds_toArray, List.set_cons_zero, List.set_cons_succ]
       refine' wpAnyD_take (i := 10) (oi := ⟨some 33, .move (.tmp 43), 60, "ref.go:148", #[⟨9, .data⟩], none⟩) (v := _) rfl (by kernel_rfl) (by kernel_rfl) (by kernel_rfl) (fun _ _ _ h => h) (by kernel_rfl) (Or.inl ⟨by rfl, ?hy2010⟩) (HSD.out _ hS14) ?rest2010
       case hy2010 => (intro W hSw; go_simp; try (with_reducible rfl))
       try simp only [Act.put, List.setIfInBounds_toArray, List.set_cons_zero, List.set_cons_succ]
       refine' wpAnyD_take (i := 11) (oi := ⟨some 44, .extract (.tmp 33) 0, 50, "ref.go:148", #[⟨10, .data⟩], none⟩) (v := _) rfl (by kernel_rfl) (by kernel_rfl) (by kernel_rfl) (fun _ _ _ h => h) (by kernel_rfl) (Or.inl ⟨by rfl, ?hy2011⟩) (HSD.out _ hS14) ?rest2011
       case hy2011 => (intro W hSw; go_simp; try (with_reducible rfl))
       try simp only [Act.put, List.setIfInBounds_toArray, List.set_cons_zero, List.set_cons_succ]
       refine' wpAnyD_take (i := 12) (oi := ⟨some 45, .extract (.tmp 33) 1, 4, "ref.go:148", #[⟨10, .data⟩, ⟨14, .gcOnly .lateStores⟩], none⟩) (v := _) rfl (by kernel_rfl) (by kernel_rfl) (by kernel_rfl) (fun _ _ _ h => h) (by kernel_rfl) (Or.inl ⟨by rfl, ?hy2012⟩) (HSD.out _ hS14) ?rest2012
       case hy2012 => (intro W hSw; go_simp; try (with_reducible rfl))
       try simp only [Act.put, List.setIfInBounds_toArray, List.set_cons_zero, List.set_cons_succ]
       refine wpAnyD_one (i := 13) (o := ⟨some 11, .alloc 50, 0, "ref.go:148", #[], none⟩) (by kernel_rfl) rfl (fun K hK => ?_)
       go_simp
       have hS15 : Below wr.heap.size wr (w14.alloc (.cells #[.int .u64 0, .int .u64 0, .int .u64 0] 50)) := hS14.trans (((Gr.refl w14).alloc _).below.mono hS14.size)
       refine hK.out _ _ (fun hD => HSD.out _ hS15) ?_
       clear hK K
       try simp only [Act.put, List.setIfInBounds_toArray, List.set_cons_zero, List.set_cons_succ]
       refine wpAnyD_one (i := 14) (o := ⟨none, .store 50 (.tmp 11) (.tmp 44), 0, "ref.go:148", #[⟨13, .data⟩, ⟨11, .data⟩, ⟨9, .chain⟩, ⟨0, .phase⟩, ⟨1, .phase⟩, ⟨2, .phase⟩, ⟨3, .phase⟩, ⟨4, .phase⟩, ⟨5, .phase⟩, ⟨6, .phase⟩, ⟨7, .phase⟩, ⟨8, .phase⟩, ⟨9, .phase⟩, ⟨10, .phase⟩, ⟨11, .phase⟩, ⟨12, .textOnly .lateStores⟩, ⟨13, .phase⟩], none⟩) (by kernel_rfl) rfl (fun K hK => ?_)
       go_simp
       have hS16 : Below wr.heap.size wr (w14.alloc (.cells #[.int .u64 cv.1.1, .int .u64 cv.1.2.1, .int .u64 cv.1.2.2] 50)) := hS14.trans (((Gr.refl w14).alloc _).below.mono hS14.size)
       refine hK.out _ _ (fun hD => HSD.out _ hS16) ?_
       clear hK K
       try simp only [Act.put, List.setIfInBounds_toArray, List.set_cons_zero, List.set_cons_succ]
       refine wpAnyD_one (i := 15) (o := ⟨some 12, .assign (.tmp 45), 4, "ref.go:148", #[⟨12, .data⟩, ⟨14, .chain⟩, ⟨0, .phase⟩, ⟨1, .phase⟩, ⟨2, .phase⟩, ⟨3, .phase⟩, ⟨4, .phase⟩, ⟨5, .phase⟩, ⟨6, .phase⟩, ⟨7, .phase⟩, ⟨8, .phase⟩, ⟨9, .phase⟩, ⟨10, .phase⟩, ⟨11, .phase⟩, ⟨12, .phase⟩, ⟨13, .phase⟩, ⟨14, .phase⟩], none⟩) (by kernel_rfl) rfl (fun K hK => ?_)
       go_simp
       refine hK.out _ _ (fun hD => HSD.out _ hS16) ?_
       clear hK K
       try simp only [Act.put, List.setIfInBounds_toArray, List.set_cons_zero, List.set_cons_succ]
       refine wpAnyD_done (by kernel_rfl) ?_ _
       go_wp2_with fail
       go_meet
       exact ⟨_, rfl, rfl, hS14.trans (((Gr.refl w14).alloc _).below.mono hS14.size), heap_new' _ _, hS14.size⟩
      case tB =>
       go_simp
       have hSa : Below wr.heap.size wr (wr.drew.alloc (.cells #[.int .u64 0, .int .u64 0, .int .u64 0] 50)) := hB0.trans (((Gr.refl wr.drew).alloc _).below.mono hB0.size)
       have hna := heap_new' wr.drew (.cells #[.int .u64 0, .int .u64 0, .int .u64 0] 50)
       refine hK.out _ _ (fun hD => HSD.out _ hSa) ?_
       clear hK K
       try simp only [Act.put, List.setIfInBounds_toArray, List.set_cons_zero, List.set_cons_succ]
       refine wpAnyD_one (i := 9) (o := ⟨some 43, .call ⟨.value (.func 21), #[.tmp 37, .tmp 42], #[39, 50]⟩, 60, "ref.go:148", #[⟨3, .data⟩, ⟨8, .data⟩], none⟩) (by kernel_rfl) rfl (fun K hK => ?_)
       go_simp
       refine (hth _).mono ?_
       rintro r w14 ⟨rfl, g14⟩
       have hS14 : Below wr.heap.size wr w14 := hSa.trans (g14.mono hSa.size)
       have hbk : w14.heap[wr.heap.size]? = some (.cells #[.int .u64 0, .int .u64 0, .int .u64 0] 50 (0, 0)) := (g14.block _ (tk_lt hna)).trans hna
       clear g14 hna hSa
       go_wp2_with fail
       refine hK.out _ _ (fun hD => HSD.out _ hS14) ?_
       clear hK K
       try simp only [Act.put, List.setIfInBounds_toArray, List.set_cons_zero, List.set_cons_succ]
       refine' wpAnyD_take (i := 10) (oi := ⟨some 33, .move (.tmp 43), 60, "ref.go:148", #[⟨9, .data⟩], none⟩) (v := _) rfl (by kernel_rfl) (by kernel_rfl) (by kernel_rfl) (fun _ _ _ h => h) (by kernel_rfl) (Or.inl ⟨by rfl, ?hy2013⟩) (HSD.out _ hS14) ?rest2013
       case hy2013 => (intro W hSw; go_simp; try (with_reducible rfl))
       try simp only [Act.put, List.setIfInBounds_toArray, List.set_cons_zero, List.set_cons_succ]
       refine' wpAnyD_take (i := 11) (oi := ⟨some 44, .extract (.tmp 33) 0, 50, "ref.go:148", #[⟨10, .data⟩], none⟩) (v := _) rfl (by kernel_rfl) (by kernel_rfl) (by kernel_rfl) (fun _ _ _ h => h) (by kernel_rfl) (Or.inl ⟨by rfl, ?hy2014⟩) (HSD.out _ hS14) ?rest2014
       case hy2014 => (intro W hSw; go_simp; try (with_reducible rfl))
       try simp only [Act.put, List.setIfInBounds_toArray, List.set_cons_zero, List.set_cons_succ]
       refine' wpAnyD_take (i := 12) (oi := ⟨some 45, .extract (.tmp 33) 1, 4, "ref.go:148", #[⟨10, .data⟩, ⟨14, .gcOnly .lateStores⟩], none⟩) (v := _) rfl (by kernel_rfl) (by kernel_rfl) (by kernel_rfl) (fun _ _ _ h => h) (by kernel_rfl) (Or.inl ⟨by rfl, ?hy2015⟩) (HSD.out _ hS14) ?rest2015
       case hy2015 => (intro W hSw; go_simp; try (with_reducible rfl))
       try simp only [Act.put, List.setIfInBounds_toArray, List.set_cons_zero, List.set_cons_succ]
       have cb := (tk_store hbk).1
       have fb := (tk_store hbk).2
       have lb := tk_lt hbk
       refine wpAnyD_one (i := 14) (o := ⟨none, .store 50 (.tmp 11) (.tmp 44), 0, "ref.go:148", #[⟨13, .data⟩, ⟨11, .data⟩, ⟨9, .chain⟩, ⟨0, .phase⟩, ⟨1, .phase⟩, ⟨2, .phase⟩, ⟨3, .phase⟩, ⟨4, .phase⟩, ⟨5, .phase⟩, ⟨6, .phase⟩, ⟨7, .phase⟩, ⟨8, .phase⟩, ⟨9, .phase⟩, ⟨10, .phase⟩, ⟨11, .phase⟩, ⟨12, .textOnly .lateStores⟩, ⟨13, .phase⟩], none⟩) (by kernel_rfl) rfl (fun K hK => ?_)
       go_simp
       obtain ⟨b0, k0⟩ := Df.tk_set hbk 0 (.int .u64 cv.1.1)
       obtain ⟨b1, k1⟩ := Df.tk_set b0 1 (.int .u64 cv.1.2.1)
       obtain ⟨b2, k2⟩ := Df.tk_set b1 2 (.int .u64 cv.1.2.2)
       have kk : Below wr.heap.size wr (((w14.setCell ⟨wr.heap.size, 0, none⟩ (.int .u64 cv.1.1)).setCell ⟨wr.heap.size, 1, none⟩ (.int .u64 cv.1.2.1)).setCell ⟨wr.heap.size, 2, none⟩ (.int .u64 cv.1.2.2)) := hS14.trans (((k0.trans k1 (fun _ _ h => h)).trans k2 (fun _ _ h => h)).below hS14.size (fun k h => by rw [h]; exact Nat.le_refl _))
       clear k0 k1 k2 b0 b1 cb fb lb hbk
       generalize (((w14.setCell ⟨wr.heap.size, 0, none⟩ (.int .u64 cv.1.1)).setCell ⟨wr.heap.size, 1, none⟩ (.int .u64 cv.1.2.1)).setCell ⟨wr.heap.size, 2, none⟩ (.int .u64 cv.1.2.2)) = w16 at kk b2 ⊢
       refine hK.out _ _ (fun hD => HSD.out _ kk) ?_
       clear hK K
       try simp only [Act.put, List.setIfInBounds_toArray, List.set_cons_zero, List.set_cons_succ]
       refine wpAnyD_one (i := 15) (o := ⟨some 12, .assign (.tmp 45), 4, "ref.go:148", #[⟨12, .data⟩, ⟨14, .chain⟩, ⟨0, .phase⟩, ⟨1, .phase⟩, ⟨2, .phase⟩, ⟨3, .phase⟩, ⟨4, .phase⟩, ⟨5, .phase⟩, ⟨6, .phase⟩, ⟨7, .phase⟩, ⟨8, .phase⟩, ⟨9, .phase⟩, ⟨10, .phase⟩, ⟨11, .phase⟩, ⟨12, .phase⟩, ⟨13, .phase⟩, ⟨14, .phase⟩], none⟩) (by kernel_rfl) rfl (fun K hK => ?_)
       go_simp
       refine hK.out _ _ (fun hD => HSD.out _ kk) ?_
       clear hK K
       try simp only [Act.put, List.setIfInBounds_toArray, List.set_cons_zero, List.set_cons_succ]
       refine wpAnyD_done (by kernel_rfl) ?_ _
       go_wp2_with fail
       go_meet
       exact ⟨_, rfl, rfl, kk, b2, Nat.le_refl _⟩
     case rest =>
      obtain ⟨pb, rfl, rfl, HC⟩ := hcut
      clear hS0 hB0 hth HSD
      have cz := (tk_store HC.out.2.1).1
      have lz := tk_lt HC.out.2.1
      have HO := hid (owns_below HJ.out.1 HC.out.1)
      have HB := hid (HJ.out.2.1.trans (HC.out.1.mono HJ.out.2.1.size))
      have HQ := hid (HJ.out.2.2.keep (HC.out.1.mono (Nat.le_trans HM.out HJ.out.2.1.size)))
      have hwz := HB.out.size
      clear HJ
      cases ok with
      | true =>
       generalize hay : al ++ onL (bl.take j) s.2 = ay at *
       have HAY := hid hay
       clear hay
       go_wp2_with (at_builtin; refine wpT1 rfl _ _ rfl w.heap.size _ ay.length _ rfl HO.out cv rfl (HBD.out _ HLK.out) hwz ?_)
       intro g6 c6 w6 ho6 hg6 hl6
       have hK6 := Kp.grownBy (S := fun k => w.heap.size ≤ k) hg6 (fun k hk => (HO.out.lt k hk).1)
       have HE : Hid (w6.ownsRow w.heap.size 50 3 (.slice (some ⟨g6, 0, none⟩) (ay.length + 1) c6) (al ++ onL (bl.take (j + 1)) s.2).length (Pc.flT (al ++ onL (bl.take (j + 1)) s.2)) ∧ Below w.heap.size w w6 ∧ Lq Pc.ET M w6 (.slice (some ⟨b2, o2, none⟩) bl.length c5) bl) := by
        obtain ⟨z, hz⟩ := Option.isSome_iff_exists.1 HCV.out.2.symm
        rw [HTJ.out, hz, Option.toList_some, ← List.append_assoc, HAY.out, show z = cv by rw [HCV.out.1, thv_some hz]]
        exact ⟨owns_re ho6 (by simp) (by rw [Pc.flT_append, Pc.flT_one]), HB.out.trans (hK6.below HB.out.size (fun _ h => h)), HQ.out.keep (hK6.below (Nat.le_trans HM.out hwz) (fun k hk => Nat.le_trans HM.out hk))⟩
       clear ho6 hg6 hl6 hK6 cz lz
       go_wp2
       go_roundw
       case rel => exact ⟨j + 1, by omega, by first | rfl | go_num, HE.out⟩
       case measure => simp [RowKit.intOf]; omega
      | false =>
       have HE : Hid (wc.ownsRow w.heap.size 50 3 u7 (al ++ onL (bl.take (j + 1)) s.2).length (Pc.flT (al ++ onL (bl.take (j + 1)) s.2)) ∧ Below w.heap.size w wc ∧ Lq Pc.ET M wc (.slice (some ⟨b2, o2, none⟩) bl.length c5) bl) := by
        have hz : thn3 b s.2 = none := by
         have := HCV.out.2
         cases h : thn3 b s.2 with
         | none => rfl
         | some z => rw [h] at this; cases this
        rw [HTJ.out, hz, Option.toList_none, List.append_nil]
        exact ⟨HO.out, HB.out, HQ.out⟩
       clear cz lz
       go_wp2
       go_roundw
       case rel => exact ⟨j + 1, by omega, by first | rfl | go_num, HE.out⟩
       case measure => simp [RowKit.intOf]; omega
    ·have hjz : ¬ (j : Int) < (bl.length : Int) := by omega
     have hje : j = bl.length := by omega
     subst hje
     rw [List.take_length] at HJ
     have HN : Hid (wr.ownsRow w.heap.size 50 3 u7 (allT n R q (l.take (i + 1))).length (Pc.flT (allT n R q (l.take (i + 1)))) ∧ Below w.heap.size w wr) := by
      rw [HTK.out]
      exact ⟨HJ.out.1, HJ.out.2.1⟩
     clear HJ
     go_wp2
     go_roundw
     case rel => exact ⟨i + 1, by omega, by first | rfl | go_num, HN.out⟩
     case measure => simp [RowKit.intOf]; omega
  ·have hltz : ¬ (i : Int) < (l.length : Int) := by omega
   have hie : i = l.length := by omega
   subst hie
   rw [List.take_length] at HI
   have HLN := allT_len (q := q) HR.out l
   have hrf := rfront_any u7 (allT n R q l) wr (owns_ls (E := Pc.ET) HI.out.1) (HBD.out _ HLN)
   have HB := hid HI.out.2
   clear HI
   generalize hal : allT n R q l = al at *
   have HAL := hid hal
   clear hal
   go_wp2_with fail
   refine hrf.mono ?_
   rintro e w9 ⟨v9, r, rfl, ho9, hp9, hm9, hb9⟩
   have HF : Hid (w9.ownsRow w.heap.size 50 3 v9 (frt al).length (Pc.flT (frt al)) ∧ Below w.heap.size w w9) := by
    rw [← frt_of hp9 hm9]
    exact ⟨owns_base ho9.owns HB.out.size, HB.out.trans (hb9.mono HB.out.size)⟩
   clear hrf ho9 hp9 hm9 hb9
   go_wp2
   go_ret
   rw [HAL.out]
   exact ⟨v9, rfl, HF.out⟩
end Go.Proofs.YtdnnfgabdkkdjaaGreat.Lf
