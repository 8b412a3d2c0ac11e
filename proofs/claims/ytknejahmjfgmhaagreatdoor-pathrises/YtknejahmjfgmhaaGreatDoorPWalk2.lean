import Derived.Test.YtknejahmjfgmhaaGreatDoorPPure
import Derived.Test.YtknejahmjfgmhaaGreatDoorPKnown
import Derived.Deep.DeepCutAuto
import Derived.Deep.RegionHeld3
import Derived.Shelf.SlSortCmp.QuietGrown
namespace Go.Proofs.YtknejahmjfgmhaaGreatDoor
open Go.RowKit Go.Shelf Go.Lib
open Go.Sort hiding Below
attribute [local go_sem ↓] Go.wp_at_zero Go.wp_at_succ

theorem below_dr {B : Nat} {a w : World} (h : Below B a w) : Below B a w.drew := ⟨h.os, h.tape, h.output, h.size, h.block⟩
theorem below_dN' {B : Nat} {a w : World} (h : Below B a w) (n : Nat) : Below B a (w.drewN n) := ⟨h.os, h.tape, h.output, h.size, h.block⟩
theorem At3.drN {W : World} {b : Nat} {x y z : Value} (h : At3 W b x y z) (n : Nat) : At3 (W.drewN n) b x y z := At3.below ((Gr.refl W).drewN n).below h
theorem case_keep {B : Nat} {a b c x y z s t u s' t' u' : Nat} {W W' : World} (h : B < W.heap.size ∧ W.cell? ⟨B, 0, none⟩ = some (.int .u64 a) ∧ W.cell? ⟨B, 1, none⟩ = some (.int .u64 b) ∧ W.cell? ⟨B, 2, none⟩ = some (.int .u64 c) ∧ W.cell? ⟨B, 3, none⟩ = some (.int .u64 x) ∧ W.cell? ⟨B, 4, none⟩ = some (.int .u64 y) ∧ W.cell? ⟨B, 5, none⟩ = some (.int .u64 z) ∧ W.cell? ⟨B, 9, none⟩ = some (.int .u64 s) ∧ W.cell? ⟨B, 10, none⟩ = some (.int .u64 t) ∧ W.cell? ⟨B, 11, none⟩ = some (.int .u64 u) ∧ W.cell? ⟨B, 12, none⟩ = some (.int .u64 s') ∧ W.cell? ⟨B, 13, none⟩ = some (.int .u64 t') ∧ W.cell? ⟨B, 14, none⟩ = some (.int .u64 u')) (hb : Below W.heap.size W W') : True ∧ (B < W'.heap.size ∧ W'.cell? ⟨B, 0, none⟩ = some (.int .u64 a) ∧ W'.cell? ⟨B, 1, none⟩ = some (.int .u64 b) ∧ W'.cell? ⟨B, 2, none⟩ = some (.int .u64 c) ∧ W'.cell? ⟨B, 3, none⟩ = some (.int .u64 x) ∧ W'.cell? ⟨B, 4, none⟩ = some (.int .u64 y) ∧ W'.cell? ⟨B, 5, none⟩ = some (.int .u64 z) ∧ W'.cell? ⟨B, 9, none⟩ = some (.int .u64 s) ∧ W'.cell? ⟨B, 10, none⟩ = some (.int .u64 t) ∧ W'.cell? ⟨B, 11, none⟩ = some (.int .u64 u) ∧ W'.cell? ⟨B, 12, none⟩ = some (.int .u64 s') ∧ W'.cell? ⟨B, 13, none⟩ = some (.int .u64 t') ∧ W'.cell? ⟨B, 14, none⟩ = some (.int .u64 u')) := by
  obtain ⟨h, h0, h1, h2, h3, h4, h5, h9, h10, h11, h12, h13, h14⟩ := h
  exact ⟨trivial, Nat.lt_of_lt_of_le h hb.size, (hb.cell (p := ⟨B, 0, none⟩) h).trans h0, (hb.cell (p := ⟨B, 1, none⟩) h).trans h1, (hb.cell (p := ⟨B, 2, none⟩) h).trans h2, (hb.cell (p := ⟨B, 3, none⟩) h).trans h3, (hb.cell (p := ⟨B, 4, none⟩) h).trans h4, (hb.cell (p := ⟨B, 5, none⟩) h).trans h5, (hb.cell (p := ⟨B, 9, none⟩) h).trans h9, (hb.cell (p := ⟨B, 10, none⟩) h).trans h10, (hb.cell (p := ⟨B, 11, none⟩) h).trans h11, (hb.cell (p := ⟨B, 12, none⟩) h).trans h12, (hb.cell (p := ⟨B, 13, none⟩) h).trans h13, (hb.cell (p := ⟨B, 14, none⟩) h).trans h14⟩

set_option maxHeartbeats 400000 in
theorem later_any (a b c x y z : Int) (w : World) :
    Calls Tryz.prog 24 #[.agg #[.int .u64 a, .int .u64 b, .int .u64 c], .agg #[.int .u64 x, .int .u64 y, .int .u64 z]] w fun e w' => e = .returned (.bool (tle a b c x y z)) ∧ Gr w w' := by
  unfold tle
  cases h1 : decide (a ≤ x) <;> cases h2 : decide (b ≤ y) <;> cases h3 : decide (c ≤ z)
  all_goals go_enter Tryz.func24, Tryz.ntmps24
  all_goals go_wp2
  all_goals go_ret
  all_goals exact ⟨rfl, ((Gr.refl _).alloc _).alloc _⟩

set_option maxHeartbeats 8000000 in
set_option maxRecDepth 100000 in
theorem rises_walk (hK : KnownTrue) (a b c x y z p q r s t u s' t' u' xx1 xx2 xx3 yy1 yy2 yy3 : Nat) (ok also : Bool) (n : Int) (w : World) (he : Env w)
    (H1 : ∀ W, Calls Tryz.prog 20 #[.agg #[.int .u64 (a : Nat), .int .u64 (b : Nat), .int .u64 (c : Nat)], .agg #[.int .u64 (s : Nat), .int .u64 (t : Nat), .int .u64 (u : Nat)]] W fun e w' => e = .returned (.tuple #[.agg #[.int .u64 (xx1 : Nat), .int .u64 (xx2 : Nat), .int .u64 (xx3 : Nat)], .bool ok]) ∧ Below W.heap.size W w')
    (H2 : ∀ W, Calls Tryz.prog 20 #[.agg #[.int .u64 (x : Nat), .int .u64 (y : Nat), .int .u64 (z : Nat)], .agg #[.int .u64 (s' : Nat), .int .u64 (t' : Nat), .int .u64 (u' : Nat)]] W fun e w' => e = .returned (.tuple #[.agg #[.int .u64 (yy1 : Nat), .int .u64 (yy2 : Nat), .int .u64 (yy3 : Nat)], .bool also]) ∧ Below W.heap.size W w')
    (hr : ok = true → tle s t u xx1 xx2 xx3 = true ∧ teq xx1 xx2 xx3 s t u = teq a b c 0 0 0)
    (hm : tle a b c x y z = true → tle s t u s' t' u' = true → also = true → ok = true ∧ tle xx1 xx2 xx3 yy1 yy2 yy3 = true) :
    Calls Tryz.prog 6 #[.agg #[.int .u64 a, .int .u64 b, .int .u64 c, .int .u64 x, .int .u64 y, .int .u64 z, .int .u64 p, .int .u64 q, .int .u64 r, .int .u64 s, .int .u64 t, .int .u64 u, .int .u64 s', .int .u64 t', .int .u64 u', .int .i64 n]] w fun e w' => e = .returned (.bool true) ∧ Below w.heap.size w w' := by
  have heq := fun a b c x y z W => run_eqP a b c x y z W
  have heqT := fun a b c x y z W => run_eqT a b c x y z W
  have hLt := fun a b c x y z W => later_any a b c x y z W
  have hA := fun a b c x y z W => pAhead_any a b c x y z W
  have hC := fun a b c x y z W => pCompare_any a b c x y z W
  have hAd := fun W => Advances_any a b c W
  have hmx : Tryz.prog.follows .mixedOrders = true := by kernel_rfl
  have HR : Hid (ok = true → tle s t u xx1 xx2 xx3 = true ∧ teq xx1 xx2 xx3 s t u = teq a b c 0 0 0) := hr
  have HM : Hid (tle a b c x y z = true → tle s t u s' t' u' = true → also = true → ok = true ∧ tle xx1 xx2 xx3 yy1 yy2 yy3 = true) := hm
  clear hr hm
  go_enter Tryz.func6, Tryz.ntmps6
  go_upto_region 1 with fail
  go_cut [3, 4, 5, 6] (fun s3 s4 s5 s6 w' => ∃ bP bQ bT bU : Nat, s3 = .pointer (some ⟨bP, 0, none⟩) ∧ s4 = .pointer (some ⟨bQ, 0, none⟩) ∧ s5 = .pointer (some ⟨bT, 0, none⟩) ∧ s6 = .pointer (some ⟨bU, 0, none⟩) ∧ At3 w' bP (.int .u64 a) (.int .u64 b) (.int .u64 c) ∧ At3 w' bQ (.int .u64 x) (.int .u64 y) (.int .u64 z) ∧ At3 w' bT (.int .u64 s) (.int .u64 t) (.int .u64 u) ∧ At3 w' bU (.int .u64 s') (.int .u64 t') (.int .u64 u') ∧ Below w.heap.size w w')
  case first => as_aux_lemma =>
    have g0 : Gr w (w.alloc (.cells #[.int .u64 a, .int .u64 b, .int .u64 c, .int .u64 x, .int .u64 y, .int .u64 z, .int .u64 p, .int .u64 q, .int .u64 r, .int .u64 s, .int .u64 t, .int .u64 u, .int .u64 s', .int .u64 t', .int .u64 u', .int .i64 n] 35)) := (Gr.refl w).alloc _
    have S0 : w.heap.size < (w.alloc (.cells #[.int .u64 a, .int .u64 b, .int .u64 c, .int .u64 x, .int .u64 y, .int .u64 z, .int .u64 p, .int .u64 q, .int .u64 r, .int .u64 s, .int .u64 t, .int .u64 u, .int .u64 s', .int .u64 t', .int .u64 u', .int .i64 n] 35)).heap.size ∧ (w.alloc (.cells #[.int .u64 a, .int .u64 b, .int .u64 c, .int .u64 x, .int .u64 y, .int .u64 z, .int .u64 p, .int .u64 q, .int .u64 r, .int .u64 s, .int .u64 t, .int .u64 u, .int .u64 s', .int .u64 t', .int .u64 u', .int .i64 n] 35)).cell? ⟨w.heap.size, 0, none⟩ = some (.int .u64 a) ∧ (w.alloc (.cells #[.int .u64 a, .int .u64 b, .int .u64 c, .int .u64 x, .int .u64 y, .int .u64 z, .int .u64 p, .int .u64 q, .int .u64 r, .int .u64 s, .int .u64 t, .int .u64 u, .int .u64 s', .int .u64 t', .int .u64 u', .int .i64 n] 35)).cell? ⟨w.heap.size, 1, none⟩ = some (.int .u64 b) ∧ (w.alloc (.cells #[.int .u64 a, .int .u64 b, .int .u64 c, .int .u64 x, .int .u64 y, .int .u64 z, .int .u64 p, .int .u64 q, .int .u64 r, .int .u64 s, .int .u64 t, .int .u64 u, .int .u64 s', .int .u64 t', .int .u64 u', .int .i64 n] 35)).cell? ⟨w.heap.size, 2, none⟩ = some (.int .u64 c) ∧ (w.alloc (.cells #[.int .u64 a, .int .u64 b, .int .u64 c, .int .u64 x, .int .u64 y, .int .u64 z, .int .u64 p, .int .u64 q, .int .u64 r, .int .u64 s, .int .u64 t, .int .u64 u, .int .u64 s', .int .u64 t', .int .u64 u', .int .i64 n] 35)).cell? ⟨w.heap.size, 3, none⟩ = some (.int .u64 x) ∧ (w.alloc (.cells #[.int .u64 a, .int .u64 b, .int .u64 c, .int .u64 x, .int .u64 y, .int .u64 z, .int .u64 p, .int .u64 q, .int .u64 r, .int .u64 s, .int .u64 t, .int .u64 u, .int .u64 s', .int .u64 t', .int .u64 u', .int .i64 n] 35)).cell? ⟨w.heap.size, 4, none⟩ = some (.int .u64 y) ∧ (w.alloc (.cells #[.int .u64 a, .int .u64 b, .int .u64 c, .int .u64 x, .int .u64 y, .int .u64 z, .int .u64 p, .int .u64 q, .int .u64 r, .int .u64 s, .int .u64 t, .int .u64 u, .int .u64 s', .int .u64 t', .int .u64 u', .int .i64 n] 35)).cell? ⟨w.heap.size, 5, none⟩ = some (.int .u64 z) ∧ (w.alloc (.cells #[.int .u64 a, .int .u64 b, .int .u64 c, .int .u64 x, .int .u64 y, .int .u64 z, .int .u64 p, .int .u64 q, .int .u64 r, .int .u64 s, .int .u64 t, .int .u64 u, .int .u64 s', .int .u64 t', .int .u64 u', .int .i64 n] 35)).cell? ⟨w.heap.size, 9, none⟩ = some (.int .u64 s) ∧ (w.alloc (.cells #[.int .u64 a, .int .u64 b, .int .u64 c, .int .u64 x, .int .u64 y, .int .u64 z, .int .u64 p, .int .u64 q, .int .u64 r, .int .u64 s, .int .u64 t, .int .u64 u, .int .u64 s', .int .u64 t', .int .u64 u', .int .i64 n] 35)).cell? ⟨w.heap.size, 10, none⟩ = some (.int .u64 t) ∧ (w.alloc (.cells #[.int .u64 a, .int .u64 b, .int .u64 c, .int .u64 x, .int .u64 y, .int .u64 z, .int .u64 p, .int .u64 q, .int .u64 r, .int .u64 s, .int .u64 t, .int .u64 u, .int .u64 s', .int .u64 t', .int .u64 u', .int .i64 n] 35)).cell? ⟨w.heap.size, 11, none⟩ = some (.int .u64 u) ∧ (w.alloc (.cells #[.int .u64 a, .int .u64 b, .int .u64 c, .int .u64 x, .int .u64 y, .int .u64 z, .int .u64 p, .int .u64 q, .int .u64 r, .int .u64 s, .int .u64 t, .int .u64 u, .int .u64 s', .int .u64 t', .int .u64 u', .int .i64 n] 35)).cell? ⟨w.heap.size, 12, none⟩ = some (.int .u64 s') ∧ (w.alloc (.cells #[.int .u64 a, .int .u64 b, .int .u64 c, .int .u64 x, .int .u64 y, .int .u64 z, .int .u64 p, .int .u64 q, .int .u64 r, .int .u64 s, .int .u64 t, .int .u64 u, .int .u64 s', .int .u64 t', .int .u64 u', .int .i64 n] 35)).cell? ⟨w.heap.size, 13, none⟩ = some (.int .u64 t') ∧ (w.alloc (.cells #[.int .u64 a, .int .u64 b, .int .u64 c, .int .u64 x, .int .u64 y, .int .u64 z, .int .u64 p, .int .u64 q, .int .u64 r, .int .u64 s, .int .u64 t, .int .u64 u, .int .u64 s', .int .u64 t', .int .u64 u', .int .i64 n] 35)).cell? ⟨w.heap.size, 14, none⟩ = some (.int .u64 u') := by refine ⟨by simp, ?_, ?_, ?_, ?_, ?_, ?_, ?_, ?_, ?_, ?_, ?_, ?_⟩ <;> (rw [World.cell?_alloc_mark]; rfl)
    generalize w.alloc (.cells #[.int .u64 a, .int .u64 b, .int .u64 c, .int .u64 x, .int .u64 y, .int .u64 z, .int .u64 p, .int .u64 q, .int .u64 r, .int .u64 s, .int .u64 t, .int .u64 u, .int .u64 s', .int .u64 t', .int .u64 u', .int .i64 n] 35) = w0 at *
    go_region_held3 (fun w' => w.heap.size < w'.heap.size ∧ w'.cell? ⟨w.heap.size, 0, none⟩ = some (.int .u64 a) ∧ w'.cell? ⟨w.heap.size, 1, none⟩ = some (.int .u64 b) ∧ w'.cell? ⟨w.heap.size, 2, none⟩ = some (.int .u64 c) ∧ w'.cell? ⟨w.heap.size, 3, none⟩ = some (.int .u64 x) ∧ w'.cell? ⟨w.heap.size, 4, none⟩ = some (.int .u64 y) ∧ w'.cell? ⟨w.heap.size, 5, none⟩ = some (.int .u64 z) ∧ w'.cell? ⟨w.heap.size, 9, none⟩ = some (.int .u64 s) ∧ w'.cell? ⟨w.heap.size, 10, none⟩ = some (.int .u64 t) ∧ w'.cell? ⟨w.heap.size, 11, none⟩ = some (.int .u64 u) ∧ w'.cell? ⟨w.heap.size, 12, none⟩ = some (.int .u64 s') ∧ w'.cell? ⟨w.heap.size, 13, none⟩ = some (.int .u64 t') ∧ w'.cell? ⟨w.heap.size, 14, none⟩ = some (.int .u64 u')) (first | exact S0 | exact (case_keep S0 (by repeat (first | exact Below.refl _ _ | refine below_dr ?_ | refine Below.alloc ?_ (by simp <;> omega) _ | refine Below.setCell ?_ (by simp <;> omega) _))).2) (fail)
    all_goals go_wp2_with fail
    all_goals go_meet
    all_goals refine ⟨_, _, _, _, rfl, rfl, rfl, rfl, ?_, ?_, ?_, ?_, ((((g0.alloc _).alloc _).alloc _).alloc _).drew.below⟩
    all_goals (constructor <;> first | (simp; done) | (simp; omega) | go_simp)
  obtain ⟨bP, bQ, bT, bU, rfl, rfl, rfl, rfl, LP, LQ, LT, LU, BB⟩ := hcut
  obtain ⟨lP, P0, P1, P2⟩ := id LP
  obtain ⟨lQ, Q0, Q1, Q2⟩ := id LQ
  obtain ⟨lT, T0, T1, T2⟩ := id LT
  obtain ⟨lU, U0, U1, U2⟩ := id LU
  go_wp2_with fail
  refine (hK _ (he.below BB)).mono ?_
  rintro e v1 ⟨rfl, hb⟩
  clear lP P0 P1 P2 lQ Q0 Q1 Q2 lT T0 T1 T2 lU U0 U1 U2
  replace LP : At3 v1 (bP) (.int .u64 a) (.int .u64 b) (.int .u64 c) := At3.below hb (by first | exact LP | exact LP.alloc _ | exact At3.new _ _ _ _ _)
  replace LQ : At3 v1 (bQ) (.int .u64 x) (.int .u64 y) (.int .u64 z) := At3.below hb (by first | exact LQ | exact LQ.alloc _ | exact At3.new _ _ _ _ _)
  replace LT : At3 v1 (bT) (.int .u64 s) (.int .u64 t) (.int .u64 u) := At3.below hb (by first | exact LT | exact LT.alloc _ | exact At3.new _ _ _ _ _)
  replace LU : At3 v1 (bU) (.int .u64 s') (.int .u64 t') (.int .u64 u') := At3.below hb (by first | exact LU | exact LU.alloc _ | exact At3.new _ _ _ _ _)
  replace BB : Below w.heap.size w v1 := by first | exact BB.trans (hb.mono BB.size) | exact (BB.alloc BB.size _).trans (hb.mono (BB.alloc BB.size _).size)
  clear hb
  obtain ⟨lP, P0, P1, P2⟩ := id LP
  obtain ⟨lQ, Q0, Q1, Q2⟩ := id LQ
  obtain ⟨lT, T0, T1, T2⟩ := id LT
  obtain ⟨lU, U0, U1, U2⟩ := id LU
  go_wp2_with fail
  refine (H1 _).mono ?_
  rintro e v2 ⟨rfl, hb⟩
  clear lP P0 P1 P2 lQ Q0 Q1 Q2 lT T0 T1 T2 lU U0 U1 U2
  replace LP : At3 v2 (bP) (.int .u64 a) (.int .u64 b) (.int .u64 c) := At3.below hb (by first | exact LP | exact LP.alloc _ | exact At3.new _ _ _ _ _)
  replace LQ : At3 v2 (bQ) (.int .u64 x) (.int .u64 y) (.int .u64 z) := At3.below hb (by first | exact LQ | exact LQ.alloc _ | exact At3.new _ _ _ _ _)
  replace LT : At3 v2 (bT) (.int .u64 s) (.int .u64 t) (.int .u64 u) := At3.below hb (by first | exact LT | exact LT.alloc _ | exact At3.new _ _ _ _ _)
  replace LU : At3 v2 (bU) (.int .u64 s') (.int .u64 t') (.int .u64 u') := At3.below hb (by first | exact LU | exact LU.alloc _ | exact At3.new _ _ _ _ _)
  replace BB : Below w.heap.size w v2 := by first | exact BB.trans (hb.mono BB.size) | exact (BB.alloc BB.size _).trans (hb.mono (BB.alloc BB.size _).size)
  clear hb
  obtain ⟨lP, P0, P1, P2⟩ := id LP
  obtain ⟨lQ, Q0, Q1, Q2⟩ := id LQ
  obtain ⟨lT, T0, T1, T2⟩ := id LT
  obtain ⟨lU, U0, U1, U2⟩ := id LU
  go_upto_region 5 with fail
  go_cut [8, 43] (fun s8 s43 w' => s8 = .bool ok ∧ s43 = .bool false ∧ At3 w' (bP) (.int .u64 a) (.int .u64 b) (.int .u64 c) ∧ At3 w' (bQ) (.int .u64 x) (.int .u64 y) (.int .u64 z) ∧ At3 w' (bT) (.int .u64 s) (.int .u64 t) (.int .u64 u) ∧ At3 w' (bU) (.int .u64 s') (.int .u64 t') (.int .u64 u') ∧ At3 w' (v2.heap.size) (.int .u64 xx1) (.int .u64 xx2) (.int .u64 xx3) ∧ Below w.heap.size w w')
  case first => as_aux_lemma =>
    cases ok
    · go_wp2_with fail
      go_quiet (fail)
      go_wp2_with fail
      go_meet
      exact ⟨rfl, rfl, At3.drN (LP.alloc _) _, At3.drN (LQ.alloc _) _, At3.drN (LT.alloc _) _, At3.drN (LU.alloc _) _, At3.drN (At3.new _ _ _ _ _) _, below_dN' (BB.alloc BB.size _) _⟩
    · obtain ⟨r1, r2⟩ := HR.out rfl
      have g0 : At3 _ _ _ _ _ := At3.new v2 (.int .u64 xx1) (.int .u64 xx2) (.int .u64 xx3) 25
      have gP := LP.alloc (.cells #[.int .u64 xx1, .int .u64 xx2, .int .u64 xx3] 25)
      have gQ := LQ.alloc (.cells #[.int .u64 xx1, .int .u64 xx2, .int .u64 xx3] 25)
      have gT := LT.alloc (.cells #[.int .u64 xx1, .int .u64 xx2, .int .u64 xx3] 25)
      have gU := LU.alloc (.cells #[.int .u64 xx1, .int .u64 xx2, .int .u64 xx3] 25)
      have BB' := BB.alloc BB.size (.cells #[.int .u64 xx1, .int .u64 xx2, .int .u64 xx3] 25)
      have hzz : (v2.alloc (.cells #[.int .u64 xx1, .int .u64 xx2, .int .u64 xx3] 25)).heap.size = v2.heap.size + 1 := by simp
      generalize v2.alloc (.cells #[.int .u64 xx1, .int .u64 xx2, .int .u64 xx3] 25) = w5 at *
      clear lP P0 P1 P2 lQ Q0 Q1 Q2 lT T0 T1 T2 lU U0 U1 U2
      have gPa := cell_grown (a := ⟨bP, 0, none⟩) gP.lt gP.c0
      have gPb := cell_grown (a := ⟨bP, 1, none⟩) gP.lt gP.c1
      have gPc := cell_grown (a := ⟨bP, 2, none⟩) gP.lt gP.c2
      have gQa := cell_grown (a := ⟨bQ, 0, none⟩) gQ.lt gQ.c0
      have gQb := cell_grown (a := ⟨bQ, 1, none⟩) gQ.lt gQ.c1
      have gQc := cell_grown (a := ⟨bQ, 2, none⟩) gQ.lt gQ.c2
      have gTa := cell_grown (a := ⟨bT, 0, none⟩) gT.lt gT.c0
      have gTb := cell_grown (a := ⟨bT, 1, none⟩) gT.lt gT.c1
      have gTc := cell_grown (a := ⟨bT, 2, none⟩) gT.lt gT.c2
      have gUa := cell_grown (a := ⟨bU, 0, none⟩) gU.lt gU.c0
      have gUb := cell_grown (a := ⟨bU, 1, none⟩) gU.lt gU.c1
      have gUc := cell_grown (a := ⟨bU, 2, none⟩) gU.lt gU.c2
      have g0a := cell_grown (a := ⟨v2.heap.size, 0, none⟩) g0.lt g0.c0
      have g0b := cell_grown (a := ⟨v2.heap.size, 1, none⟩) g0.lt g0.c1
      have g0c := cell_grown (a := ⟨v2.heap.size, 2, none⟩) g0.lt g0.c2
      cases hp0 : teq a b c 0 0 0 <;> rw [hp0] at r2 <;> simp only [hp0, Bool.not_true, Bool.not_false] at hAd
      all_goals go_wp2_with fail
      all_goals go_quiet_grown (first | (go_at_call 24; refine Calls.grown_of (hLt _ _ _ _ _ _ _)) | (go_at_call 25; refine Calls.grown_of (hAd _)))
      all_goals have hgn : Gr w5 (grow (w5.drewN nq) osq) := ⟨nq, osq, rfl⟩
      all_goals generalize grow (w5.drewN nq) osq = wn at hgn ⊢
      all_goals go_wp2_with fail
      all_goals go_meet
      all_goals exact ⟨rfl, rfl, At3.below hgn.below gP, At3.below hgn.below gQ, At3.below hgn.below gT, At3.below hgn.below gU, At3.below hgn.below g0, BB'.trans (hgn.below.mono BB'.size)⟩
  clear BB LP LQ LT LU
  clear lP P0 P1 P2 lQ Q0 Q1 Q2 lT T0 T1 T2 lU U0 U1 U2
  obtain ⟨rfl, rfl, LP, LQ, LT, LU, LX, BB⟩ := hcut
  obtain ⟨lP, P0, P1, P2⟩ := id LP
  obtain ⟨lQ, Q0, Q1, Q2⟩ := id LQ
  obtain ⟨lT, T0, T1, T2⟩ := id LT
  obtain ⟨lU, U0, U1, U2⟩ := id LU
  obtain ⟨lX, X0, X1, X2⟩ := id LX
  go_wp2_with fail
  refine (H2 _).mono ?_
  rintro e v3 ⟨rfl, hb⟩
  clear lP P0 P1 P2 lQ Q0 Q1 Q2 lT T0 T1 T2 lU U0 U1 U2 lX X0 X1 X2
  replace LP : At3 v3 (bP) (.int .u64 a) (.int .u64 b) (.int .u64 c) := At3.below hb (by first | exact LP | exact LP.alloc _ | exact At3.new _ _ _ _ _)
  replace LQ : At3 v3 (bQ) (.int .u64 x) (.int .u64 y) (.int .u64 z) := At3.below hb (by first | exact LQ | exact LQ.alloc _ | exact At3.new _ _ _ _ _)
  replace LT : At3 v3 (bT) (.int .u64 s) (.int .u64 t) (.int .u64 u) := At3.below hb (by first | exact LT | exact LT.alloc _ | exact At3.new _ _ _ _ _)
  replace LU : At3 v3 (bU) (.int .u64 s') (.int .u64 t') (.int .u64 u') := At3.below hb (by first | exact LU | exact LU.alloc _ | exact At3.new _ _ _ _ _)
  replace LX : At3 v3 (v2.heap.size) (.int .u64 xx1) (.int .u64 xx2) (.int .u64 xx3) := At3.below hb (by first | exact LX | exact LX.alloc _ | exact At3.new _ _ _ _ _)
  replace BB : Below w.heap.size w v3 := by first | exact BB.trans (hb.mono BB.size) | exact (BB.alloc BB.size _).trans (hb.mono (BB.alloc BB.size _).size)
  clear hb
  obtain ⟨lP, P0, P1, P2⟩ := id LP
  obtain ⟨lQ, Q0, Q1, Q2⟩ := id LQ
  obtain ⟨lT, T0, T1, T2⟩ := id LT
  obtain ⟨lU, U0, U1, U2⟩ := id LU
  obtain ⟨lX, X0, X1, X2⟩ := id LX
  go_upto_region 8 with fail
  clear lP P0 P1 P2 lQ Q0 Q1 Q2 lT T0 T1 T2 lU U0 U1 U2 lX X0 X1 X2
  replace LP := LP.alloc (.cells #[.int .u64 yy1, .int .u64 yy2, .int .u64 yy3] 25)
  replace LQ := LQ.alloc (.cells #[.int .u64 yy1, .int .u64 yy2, .int .u64 yy3] 25)
  replace LT := LT.alloc (.cells #[.int .u64 yy1, .int .u64 yy2, .int .u64 yy3] 25)
  replace LU := LU.alloc (.cells #[.int .u64 yy1, .int .u64 yy2, .int .u64 yy3] 25)
  replace LX := LX.alloc (.cells #[.int .u64 yy1, .int .u64 yy2, .int .u64 yy3] 25)
  have LY := At3.new v3 (.int .u64 yy1) (.int .u64 yy2) (.int .u64 yy3) 25
  replace BB := BB.alloc BB.size (.cells #[.int .u64 yy1, .int .u64 yy2, .int .u64 yy3] 25)
  generalize v3.alloc (.cells #[.int .u64 yy1, .int .u64 yy2, .int .u64 yy3] 25) = w8 at *
  obtain ⟨lP, P0, P1, P2⟩ := id LP
  obtain ⟨lQ, Q0, Q1, Q2⟩ := id LQ
  obtain ⟨lT, T0, T1, T2⟩ := id LT
  obtain ⟨lU, U0, U1, U2⟩ := id LU
  obtain ⟨lX, X0, X1, X2⟩ := id LX
  obtain ⟨lY, Y0, Y1, Y2⟩ := id LY
  go_cut [8, 10, 70] (fun s8 s10 s70 w' => s8 = .bool ok ∧ s10 = .bool also ∧ s70 = .bool false ∧ At3 w' (bP) (.int .u64 a) (.int .u64 b) (.int .u64 c) ∧ At3 w' (bQ) (.int .u64 x) (.int .u64 y) (.int .u64 z) ∧ At3 w' (bT) (.int .u64 s) (.int .u64 t) (.int .u64 u) ∧ At3 w' (bU) (.int .u64 s') (.int .u64 t') (.int .u64 u') ∧ At3 w' (v2.heap.size) (.int .u64 xx1) (.int .u64 xx2) (.int .u64 xx3) ∧ At3 w' (v3.heap.size) (.int .u64 yy1) (.int .u64 yy2) (.int .u64 yy3) ∧ Below w.heap.size w w')
  case first => as_aux_lemma =>
    have e1 := HM.out
    cases hpq : tle a b c x y z
    case' true => cases htu : tle s t u s' t' u'
    case' true.true => cases also
    case' true.true.true =>
      obtain ⟨rfl, hxy⟩ := e1 hpq htu rfl
    all_goals clear e1
    all_goals go_wp2_with (first | (go_at_call 26; refine (hA _ _ _ _ _ _ _).mono ?_; rintro e w5 ⟨rfl, hb5⟩; replace hb5 := Gr.below hb5; replace LP := At3.below hb5 LP; replace LQ := At3.below hb5 LQ; replace LT := At3.below hb5 LT; replace LU := At3.below hb5 LU; replace LX := At3.below hb5 LX; replace LY := At3.below hb5 LY; replace BB := BB.trans (RowKit.Below.mono hb5 BB.size); clear lP P0 P1 P2 lQ Q0 Q1 Q2 lT T0 T1 T2 lU U0 U1 U2 lX X0 X1 X2 lY Y0 Y1 Y2 hb5; obtain ⟨lP, P0, P1, P2⟩ := id LP; obtain ⟨lQ, Q0, Q1, Q2⟩ := id LQ; obtain ⟨lT, T0, T1, T2⟩ := id LT; obtain ⟨lU, U0, U1, U2⟩ := id LU; obtain ⟨lX, X0, X1, X2⟩ := id LX; obtain ⟨lY, Y0, Y1, Y2⟩ := id LY) | (go_at_call 24; refine (hLt _ _ _ _ _ _ _).mono ?_; rintro e w5 ⟨rfl, hb5⟩; replace hb5 := Gr.below hb5; replace LP := At3.below hb5 LP; replace LQ := At3.below hb5 LQ; replace LT := At3.below hb5 LT; replace LU := At3.below hb5 LU; replace LX := At3.below hb5 LX; replace LY := At3.below hb5 LY; replace BB := BB.trans (RowKit.Below.mono hb5 BB.size); clear lP P0 P1 P2 lQ Q0 Q1 Q2 lT T0 T1 T2 lU U0 U1 U2 lX X0 X1 X2 lY Y0 Y1 Y2 hb5; obtain ⟨lP, P0, P1, P2⟩ := id LP; obtain ⟨lQ, Q0, Q1, Q2⟩ := id LQ; obtain ⟨lT, T0, T1, T2⟩ := id LT; obtain ⟨lU, U0, U1, U2⟩ := id LU; obtain ⟨lX, X0, X1, X2⟩ := id LX; obtain ⟨lY, Y0, Y1, Y2⟩ := id LY))
    all_goals go_meet
    all_goals exact ⟨rfl, rfl, rfl, LP, LQ, LT, LU, LX, LY, BB⟩
  clear lP P0 P1 P2 lQ Q0 Q1 Q2 lT T0 T1 T2 lU U0 U1 U2 lX X0 X1 X2 lY Y0 Y1 Y2
  clear BB LP LQ LT LU LX LY
  obtain ⟨rfl, rfl, rfl, LP, LQ, LT, LU, LX, LY, BB⟩ := hcut
  clear LX LY LT LU
  obtain ⟨lP, P0, P1, P2⟩ := id LP
  obtain ⟨lQ, Q0, Q1, Q2⟩ := id LQ
  go_upto_region 10 with fail
  go_cut [83] (fun s83 w' => s83 = .bool false ∧ At3 w' (bP) (.int .u64 a) (.int .u64 b) (.int .u64 c) ∧ At3 w' (bQ) (.int .u64 x) (.int .u64 y) (.int .u64 z) ∧ Below w.heap.size w w')
  case first => as_aux_lemma =>
    have e1 := teq_le a b c x y z
    cases hpq : tle a b c x y z
    case' true => cases hqp : tle x y z a b c
    case' true.true => rw [hpq, hqp] at e1
    all_goals go_wp2_with (first | (go_at_call 26; refine (hA _ _ _ _ _ _ _).mono ?_; rintro e w5 ⟨rfl, hb5⟩; replace hb5 := Gr.below hb5; replace LP := At3.below hb5 LP; replace LQ := At3.below hb5 LQ; replace BB := BB.trans (RowKit.Below.mono hb5 BB.size); clear lP P0 P1 P2 lQ Q0 Q1 Q2 hb5; obtain ⟨lP, P0, P1, P2⟩ := id LP; obtain ⟨lQ, Q0, Q1, Q2⟩ := id LQ))
    all_goals go_meet
    all_goals exact ⟨rfl, LP, LQ, BB⟩
  clear lP P0 P1 P2 lQ Q0 Q1 Q2
  clear BB LP LQ
  obtain ⟨rfl, LP, LQ, BB⟩ := hcut
  obtain ⟨lP, P0, P1, P2⟩ := id LP
  obtain ⟨lQ, Q0, Q1, Q2⟩ := id LQ
  go_wp2_with fail
  refine (hC _ _ _ _ _ _ _).mono ?_
  rintro e v4 ⟨rfl, hb⟩
  replace hb := hb.below
  clear lP P0 P1 P2 lQ Q0 Q1 Q2
  replace LP : At3 v4 (bP) (.int .u64 a) (.int .u64 b) (.int .u64 c) := At3.below hb (by first | exact LP | exact LP.alloc _ | exact At3.new _ _ _ _ _)
  replace LQ : At3 v4 (bQ) (.int .u64 x) (.int .u64 y) (.int .u64 z) := At3.below hb (by first | exact LQ | exact LQ.alloc _ | exact At3.new _ _ _ _ _)
  replace BB : Below w.heap.size w v4 := by first | exact BB.trans (hb.mono BB.size) | exact (BB.alloc BB.size _).trans (hb.mono (BB.alloc BB.size _).size)
  clear hb
  obtain ⟨lP, P0, P1, P2⟩ := id LP
  obtain ⟨lQ, Q0, Q1, Q2⟩ := id LQ
  go_wp2_with fail
  refine (hC _ _ _ _ _ _ _).mono ?_
  rintro e v5 ⟨rfl, hb⟩
  replace hb := hb.below
  clear lP P0 P1 P2 lQ Q0 Q1 Q2
  replace LP : At3 v5 (bP) (.int .u64 a) (.int .u64 b) (.int .u64 c) := At3.below hb (by first | exact LP | exact LP.alloc _ | exact At3.new _ _ _ _ _)
  replace LQ : At3 v5 (bQ) (.int .u64 x) (.int .u64 y) (.int .u64 z) := At3.below hb (by first | exact LQ | exact LQ.alloc _ | exact At3.new _ _ _ _ _)
  replace BB : Below w.heap.size w v5 := by first | exact BB.trans (hb.mono BB.size) | exact (BB.alloc BB.size _).trans (hb.mono (BB.alloc BB.size _).size)
  clear hb
  obtain ⟨lP, P0, P1, P2⟩ := id LP
  obtain ⟨lQ, Q0, Q1, Q2⟩ := id LQ
  rcases cmp_ways a b c x y z with ⟨hk, hk', hte, hab⟩ | ⟨hk, hk', hte, hab⟩ | ⟨hk, hk', hte, hab⟩ | ⟨hk, hk', hte, hab⟩
  all_goals go_wp2_with (first | (go_at_call 26; refine (hA _ _ _ _ _ _ _).mono ?_; rintro e w5 ⟨rfl, hb5⟩; replace hb5 := Gr.below hb5; replace LP := At3.below hb5 LP; replace LQ := At3.below hb5 LQ; replace BB := BB.trans (RowKit.Below.mono hb5 BB.size); clear lP P0 P1 P2 lQ Q0 Q1 Q2 hb5; obtain ⟨lP, P0, P1, P2⟩ := id LP; obtain ⟨lQ, Q0, Q1, Q2⟩ := id LQ))
  all_goals go_ret
  all_goals exact ⟨rfl, BB⟩
end Go.Proofs.YtknejahmjfgmhaaGreatDoor
