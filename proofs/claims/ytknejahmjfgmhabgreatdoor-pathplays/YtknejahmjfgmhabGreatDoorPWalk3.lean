import Derived.Test.YtknejahmjfgmhabGreatDoorPRef3
import Derived.Test.YtknejahmjfgmhabGreatDoorPKnown
import Derived.Deep.DeepCutAuto
import Derived.Deep.RegionHeld3
import Derived.Shelf.SlSortCmp.QuietGrown
namespace Go.Proofs.YtknejahmjfgmhabGreatDoor
open Go.RowKit Go.Shelf Go.Lib
open Go.Sort hiding Below
attribute [local go_sem ↓] Go.wp_at_zero Go.wp_at_succ

theorem below_dr {B : Nat} {a w : World} (h : Below B a w) : Below B a w.drew := ⟨h.os, h.tape, h.output, h.size, h.block⟩
theorem At3.grown {W : World} {b : Nat} {x y z : Value} (h : At3 W b x y z) : (∀ (n : Nat) (os : Array Obj), (grow (W.drewN n) os).cell? ⟨b, 0, none⟩ = some x) ∧ (∀ (n : Nat) (os : Array Obj), (grow (W.drewN n) os).cell? ⟨b, 1, none⟩ = some y) ∧ (∀ (n : Nat) (os : Array Obj), (grow (W.drewN n) os).cell? ⟨b, 2, none⟩ = some z) :=
  ⟨cell_grown (a := ⟨b, 0, none⟩) h.lt h.c0, cell_grown (a := ⟨b, 1, none⟩) h.lt h.c1, cell_grown (a := ⟨b, 2, none⟩) h.lt h.c2⟩
theorem one_keep {B : Nat} {a b c : Int} {W w1 : World} (h : B < W.heap.size ∧ W.cell? ⟨B, 0, none⟩ = some (.int .u64 a) ∧ W.cell? ⟨B, 1, none⟩ = some (.int .u64 b) ∧ W.cell? ⟨B, 2, none⟩ = some (.int .u64 c)) (hb : Below W.heap.size W w1) :
    B < w1.heap.size ∧ w1.cell? ⟨B, 0, none⟩ = some (.int .u64 a) ∧ w1.cell? ⟨B, 1, none⟩ = some (.int .u64 b) ∧ w1.cell? ⟨B, 2, none⟩ = some (.int .u64 c) :=
  ⟨Nat.lt_of_lt_of_le h.1 hb.size, (hb.cell (p := ⟨B, 0, none⟩) h.1).trans h.2.1, (hb.cell (p := ⟨B, 1, none⟩) h.1).trans h.2.2.1, (hb.cell (p := ⟨B, 2, none⟩) h.1).trans h.2.2.2⟩
theorem case_keep {B : Nat} {a b c x y z s t u : Nat} {n : Int} {W W' : World} (h : B < W.heap.size ∧ W.cell? ⟨B, 0, none⟩ = some (.int .u64 a) ∧ W.cell? ⟨B, 1, none⟩ = some (.int .u64 b) ∧ W.cell? ⟨B, 2, none⟩ = some (.int .u64 c) ∧ W.cell? ⟨B, 3, none⟩ = some (.int .u64 x) ∧ W.cell? ⟨B, 4, none⟩ = some (.int .u64 y) ∧ W.cell? ⟨B, 5, none⟩ = some (.int .u64 z) ∧ W.cell? ⟨B, 9, none⟩ = some (.int .u64 s) ∧ W.cell? ⟨B, 10, none⟩ = some (.int .u64 t) ∧ W.cell? ⟨B, 11, none⟩ = some (.int .u64 u) ∧ W.cell? ⟨B, 15, none⟩ = some (.int .i64 n)) (hb : Below W.heap.size W W') : True ∧ (B < W'.heap.size ∧ W'.cell? ⟨B, 0, none⟩ = some (.int .u64 a) ∧ W'.cell? ⟨B, 1, none⟩ = some (.int .u64 b) ∧ W'.cell? ⟨B, 2, none⟩ = some (.int .u64 c) ∧ W'.cell? ⟨B, 3, none⟩ = some (.int .u64 x) ∧ W'.cell? ⟨B, 4, none⟩ = some (.int .u64 y) ∧ W'.cell? ⟨B, 5, none⟩ = some (.int .u64 z) ∧ W'.cell? ⟨B, 9, none⟩ = some (.int .u64 s) ∧ W'.cell? ⟨B, 10, none⟩ = some (.int .u64 t) ∧ W'.cell? ⟨B, 11, none⟩ = some (.int .u64 u) ∧ W'.cell? ⟨B, 15, none⟩ = some (.int .i64 n)) := by
  obtain ⟨h, h0, h1, h2, h3, h4, h5, h9, h10, h11, h15⟩ := h
  exact ⟨trivial, Nat.lt_of_lt_of_le h hb.size, (hb.cell (p := ⟨B, 0, none⟩) h).trans h0, (hb.cell (p := ⟨B, 1, none⟩) h).trans h1, (hb.cell (p := ⟨B, 2, none⟩) h).trans h2, (hb.cell (p := ⟨B, 3, none⟩) h).trans h3, (hb.cell (p := ⟨B, 4, none⟩) h).trans h4, (hb.cell (p := ⟨B, 5, none⟩) h).trans h5, (hb.cell (p := ⟨B, 9, none⟩) h).trans h9, (hb.cell (p := ⟨B, 10, none⟩) h).trans h10, (hb.cell (p := ⟨B, 11, none⟩) h).trans h11, (hb.cell (p := ⟨B, 15, none⟩) h).trans h15⟩

set_option maxHeartbeats 8000000 in
set_option maxRecDepth 100000 in
theorem plays_walk (hK : KnownTrue) (a b c x y z p q r s t u s' t' u' aa1 aa2 aa3 xx1 xx2 xx3 : Nat) (ok on : Bool) (n : Int) (w : World) (he : Env w)
    (H1 : ∀ W, Calls Tryz.prog 10 #[.agg #[.int .u64 (a : Nat), .int .u64 (b : Nat), .int .u64 (c : Nat)], .agg #[.int .u64 (x : Nat), .int .u64 (y : Nat), .int .u64 (z : Nat)]] W fun e w' => e = .returned (.tuple #[.agg #[.int .u64 (aa1 : Nat), .int .u64 (aa2 : Nat), .int .u64 (aa3 : Nat)], .bool ok]) ∧ Below W.heap.size W w')
    (H2 : ∀ W, Calls Tryz.prog 11 #[.agg #[.int .u64 (a : Nat), .int .u64 (b : Nat), .int .u64 (c : Nat)], .agg #[.int .u64 (x : Nat), .int .u64 (y : Nat), .int .u64 (z : Nat)]] W fun e w' => e = .returned (.tuple #[.agg #[.int .u64 (aa1 : Nat), .int .u64 (aa2 : Nat), .int .u64 (aa3 : Nat)], .bool ok]) ∧ Below W.heap.size W w')
    (H3 : ∀ W, Calls Tryz.prog 12 #[.agg #[.int .u64 (a : Nat), .int .u64 (b : Nat), .int .u64 (c : Nat)], .agg #[.int .u64 (s : Nat), .int .u64 (t : Nat), .int .u64 (u : Nat)]] W fun e w' => e = .returned (.tuple #[.agg #[.int .u64 (xx1 : Nat), .int .u64 (xx2 : Nat), .int .u64 (xx3 : Nat)], .bool on]) ∧ Below W.heap.size W w')
    (H4 : ∀ W, Calls Tryz.prog 13 #[.agg #[.int .u64 (a : Nat), .int .u64 (b : Nat), .int .u64 (c : Nat)], .agg #[.int .u64 (s : Nat), .int .u64 (t : Nat), .int .u64 (u : Nat)]] W fun e w' => e = .returned (.tuple #[.agg #[.int .u64 (xx1 : Nat), .int .u64 (xx2 : Nat), .int .u64 (xx3 : Nat)], .bool on]) ∧ Below W.heap.size W w') :
    Calls Tryz.prog 4 #[.agg #[.int .u64 a, .int .u64 b, .int .u64 c, .int .u64 x, .int .u64 y, .int .u64 z, .int .u64 p, .int .u64 q, .int .u64 r, .int .u64 s, .int .u64 t, .int .u64 u, .int .u64 s', .int .u64 t', .int .u64 u', .int .i64 n]] w fun e w' => e = .returned (.bool true) ∧ Below w.heap.size w w' := by
  have heq := fun a b c x y z W => run_eqP a b c x y z W
  have heqT := fun a b c x y z W => run_eqT a b c x y z W
  have hself : ∀ p q r, teq p q r p q r = true := fun p q r => by simp [teq]
  have hA := fun W => pAhead_any a b c x y z W
  have hA' := fun W => prefAhead_any a b c x y z W
  have hC := fun W => pCompare_any a b c x y z W
  have hC' := fun W => prefCompare_any a b c x y z W
  have hD := fun W => Advances_any a b c W
  have hF := fun W => pFits_any a b c n W
  have hF' := fun W => prefFits_any a b c n W
  have hmx : Tryz.prog.follows .mixedOrders = true := by kernel_rfl
  generalize tle a b c x y z = le at *
  generalize tcmp a b c x y z = cm at *
  generalize tfits a b c n = ft at *
  go_enter Tryz.func4, Tryz.ntmps4
  go_upto_region 1 with fail
  go_cut [3, 4, 5, 6] (fun s3 s4 s5 s6 w' => ∃ bP bQ bT : Nat, s3 = .pointer (some ⟨bP, 0, none⟩) ∧ s4 = .pointer (some ⟨bQ, 0, none⟩) ∧ s5 = .pointer (some ⟨bT, 0, none⟩) ∧ s6 = .int .i64 n ∧ At3 w' bP (.int .u64 a) (.int .u64 b) (.int .u64 c) ∧ At3 w' bQ (.int .u64 x) (.int .u64 y) (.int .u64 z) ∧ At3 w' bT (.int .u64 s) (.int .u64 t) (.int .u64 u) ∧ Below w.heap.size w w')
  case first => as_aux_lemma =>
    have g0 : Gr w (w.alloc (.cells #[.int .u64 a, .int .u64 b, .int .u64 c, .int .u64 x, .int .u64 y, .int .u64 z, .int .u64 p, .int .u64 q, .int .u64 r, .int .u64 s, .int .u64 t, .int .u64 u, .int .u64 s', .int .u64 t', .int .u64 u', .int .i64 n] 38)) := (Gr.refl w).alloc _
    have S0 : w.heap.size < (w.alloc (.cells #[.int .u64 a, .int .u64 b, .int .u64 c, .int .u64 x, .int .u64 y, .int .u64 z, .int .u64 p, .int .u64 q, .int .u64 r, .int .u64 s, .int .u64 t, .int .u64 u, .int .u64 s', .int .u64 t', .int .u64 u', .int .i64 n] 38)).heap.size ∧ (w.alloc (.cells #[.int .u64 a, .int .u64 b, .int .u64 c, .int .u64 x, .int .u64 y, .int .u64 z, .int .u64 p, .int .u64 q, .int .u64 r, .int .u64 s, .int .u64 t, .int .u64 u, .int .u64 s', .int .u64 t', .int .u64 u', .int .i64 n] 38)).cell? ⟨w.heap.size, 0, none⟩ = some (.int .u64 a) ∧ (w.alloc (.cells #[.int .u64 a, .int .u64 b, .int .u64 c, .int .u64 x, .int .u64 y, .int .u64 z, .int .u64 p, .int .u64 q, .int .u64 r, .int .u64 s, .int .u64 t, .int .u64 u, .int .u64 s', .int .u64 t', .int .u64 u', .int .i64 n] 38)).cell? ⟨w.heap.size, 1, none⟩ = some (.int .u64 b) ∧ (w.alloc (.cells #[.int .u64 a, .int .u64 b, .int .u64 c, .int .u64 x, .int .u64 y, .int .u64 z, .int .u64 p, .int .u64 q, .int .u64 r, .int .u64 s, .int .u64 t, .int .u64 u, .int .u64 s', .int .u64 t', .int .u64 u', .int .i64 n] 38)).cell? ⟨w.heap.size, 2, none⟩ = some (.int .u64 c) ∧ (w.alloc (.cells #[.int .u64 a, .int .u64 b, .int .u64 c, .int .u64 x, .int .u64 y, .int .u64 z, .int .u64 p, .int .u64 q, .int .u64 r, .int .u64 s, .int .u64 t, .int .u64 u, .int .u64 s', .int .u64 t', .int .u64 u', .int .i64 n] 38)).cell? ⟨w.heap.size, 3, none⟩ = some (.int .u64 x) ∧ (w.alloc (.cells #[.int .u64 a, .int .u64 b, .int .u64 c, .int .u64 x, .int .u64 y, .int .u64 z, .int .u64 p, .int .u64 q, .int .u64 r, .int .u64 s, .int .u64 t, .int .u64 u, .int .u64 s', .int .u64 t', .int .u64 u', .int .i64 n] 38)).cell? ⟨w.heap.size, 4, none⟩ = some (.int .u64 y) ∧ (w.alloc (.cells #[.int .u64 a, .int .u64 b, .int .u64 c, .int .u64 x, .int .u64 y, .int .u64 z, .int .u64 p, .int .u64 q, .int .u64 r, .int .u64 s, .int .u64 t, .int .u64 u, .int .u64 s', .int .u64 t', .int .u64 u', .int .i64 n] 38)).cell? ⟨w.heap.size, 5, none⟩ = some (.int .u64 z) ∧ (w.alloc (.cells #[.int .u64 a, .int .u64 b, .int .u64 c, .int .u64 x, .int .u64 y, .int .u64 z, .int .u64 p, .int .u64 q, .int .u64 r, .int .u64 s, .int .u64 t, .int .u64 u, .int .u64 s', .int .u64 t', .int .u64 u', .int .i64 n] 38)).cell? ⟨w.heap.size, 9, none⟩ = some (.int .u64 s) ∧ (w.alloc (.cells #[.int .u64 a, .int .u64 b, .int .u64 c, .int .u64 x, .int .u64 y, .int .u64 z, .int .u64 p, .int .u64 q, .int .u64 r, .int .u64 s, .int .u64 t, .int .u64 u, .int .u64 s', .int .u64 t', .int .u64 u', .int .i64 n] 38)).cell? ⟨w.heap.size, 10, none⟩ = some (.int .u64 t) ∧ (w.alloc (.cells #[.int .u64 a, .int .u64 b, .int .u64 c, .int .u64 x, .int .u64 y, .int .u64 z, .int .u64 p, .int .u64 q, .int .u64 r, .int .u64 s, .int .u64 t, .int .u64 u, .int .u64 s', .int .u64 t', .int .u64 u', .int .i64 n] 38)).cell? ⟨w.heap.size, 11, none⟩ = some (.int .u64 u) ∧ (w.alloc (.cells #[.int .u64 a, .int .u64 b, .int .u64 c, .int .u64 x, .int .u64 y, .int .u64 z, .int .u64 p, .int .u64 q, .int .u64 r, .int .u64 s, .int .u64 t, .int .u64 u, .int .u64 s', .int .u64 t', .int .u64 u', .int .i64 n] 38)).cell? ⟨w.heap.size, 15, none⟩ = some (.int .i64 n) := by refine ⟨by simp, ?_, ?_, ?_, ?_, ?_, ?_, ?_, ?_, ?_, ?_⟩ <;> (rw [World.cell?_alloc_mark]; rfl)
    generalize w.alloc (.cells #[.int .u64 a, .int .u64 b, .int .u64 c, .int .u64 x, .int .u64 y, .int .u64 z, .int .u64 p, .int .u64 q, .int .u64 r, .int .u64 s, .int .u64 t, .int .u64 u, .int .u64 s', .int .u64 t', .int .u64 u', .int .i64 n] 38) = w0 at *
    go_region_held3 (fun w' => w.heap.size < w'.heap.size ∧ w'.cell? ⟨w.heap.size, 0, none⟩ = some (.int .u64 a) ∧ w'.cell? ⟨w.heap.size, 1, none⟩ = some (.int .u64 b) ∧ w'.cell? ⟨w.heap.size, 2, none⟩ = some (.int .u64 c) ∧ w'.cell? ⟨w.heap.size, 3, none⟩ = some (.int .u64 x) ∧ w'.cell? ⟨w.heap.size, 4, none⟩ = some (.int .u64 y) ∧ w'.cell? ⟨w.heap.size, 5, none⟩ = some (.int .u64 z) ∧ w'.cell? ⟨w.heap.size, 9, none⟩ = some (.int .u64 s) ∧ w'.cell? ⟨w.heap.size, 10, none⟩ = some (.int .u64 t) ∧ w'.cell? ⟨w.heap.size, 11, none⟩ = some (.int .u64 u) ∧ w'.cell? ⟨w.heap.size, 15, none⟩ = some (.int .i64 n)) (first | exact S0 | exact (case_keep S0 (by repeat (first | exact Below.refl _ _ | refine below_dr ?_ | refine Below.alloc ?_ (by simp <;> omega) _ | refine Below.setCell ?_ (by simp <;> omega) _))).2) (fail)
    all_goals go_wp2_with fail
    all_goals go_meet
    all_goals refine ⟨_, _, _, rfl, rfl, rfl, rfl, ?_, ?_, ?_, (((g0.alloc _).alloc _).alloc _).drew.below⟩
    all_goals (constructor <;> first | (simp; done) | (simp; omega) | go_simp)
  obtain ⟨bP, bQ, bT, rfl, rfl, rfl, rfl, LP, LQ, LT, BB⟩ := hcut
  obtain ⟨lP, P0, P1, P2⟩ := id LP
  obtain ⟨lQ, Q0, Q1, Q2⟩ := id LQ
  obtain ⟨lT, T0, T1, T2⟩ := id LT
  go_wp2_with fail
  refine (H1 _).mono ?_
  rintro e v1 ⟨rfl, hb⟩
  clear lP P0 P1 P2 lQ Q0 Q1 Q2 lT T0 T1 T2
  replace LP : At3 v1 (bP) (.int .u64 a) (.int .u64 b) (.int .u64 c) := At3.below hb (by first | exact LP | exact LP.alloc _ | exact At3.new _ _ _ _ _)
  replace LQ : At3 v1 (bQ) (.int .u64 x) (.int .u64 y) (.int .u64 z) := At3.below hb (by first | exact LQ | exact LQ.alloc _ | exact At3.new _ _ _ _ _)
  replace LT : At3 v1 (bT) (.int .u64 s) (.int .u64 t) (.int .u64 u) := At3.below hb (by first | exact LT | exact LT.alloc _ | exact At3.new _ _ _ _ _)
  replace BB : Below w.heap.size w v1 := by first | exact BB.trans (hb.mono BB.size) | exact (BB.alloc BB.size _).trans (hb.mono (BB.alloc BB.size _).size)
  clear hb
  obtain ⟨lP, P0, P1, P2⟩ := id LP
  obtain ⟨lQ, Q0, Q1, Q2⟩ := id LQ
  obtain ⟨lT, T0, T1, T2⟩ := id LT
  go_wp2_with fail
  refine (H2 _).mono ?_
  rintro e v2 ⟨rfl, hb⟩
  clear lP P0 P1 P2 lQ Q0 Q1 Q2 lT T0 T1 T2
  replace LP : At3 v2 (bP) (.int .u64 a) (.int .u64 b) (.int .u64 c) := At3.below hb (by first | exact LP | exact LP.alloc _ | exact At3.new _ _ _ _ _)
  replace LQ : At3 v2 (bQ) (.int .u64 x) (.int .u64 y) (.int .u64 z) := At3.below hb (by first | exact LQ | exact LQ.alloc _ | exact At3.new _ _ _ _ _)
  replace LT : At3 v2 (bT) (.int .u64 s) (.int .u64 t) (.int .u64 u) := At3.below hb (by first | exact LT | exact LT.alloc _ | exact At3.new _ _ _ _ _)
  have LA : At3 v2 (v1.heap.size) (.int .u64 aa1) (.int .u64 aa2) (.int .u64 aa3) := At3.below hb (At3.new _ _ _ _ _)
  replace BB : Below w.heap.size w v2 := by first | exact BB.trans (hb.mono BB.size) | exact (BB.alloc BB.size _).trans (hb.mono (BB.alloc BB.size _).size)
  clear hb
  obtain ⟨lP, P0, P1, P2⟩ := id LP
  obtain ⟨lQ, Q0, Q1, Q2⟩ := id LQ
  obtain ⟨lT, T0, T1, T2⟩ := id LT
  obtain ⟨lA, A0, A1, A2⟩ := id LA
  go_wp2_with fail
  refine (H3 _).mono ?_
  rintro e v3 ⟨rfl, hb⟩
  clear lP P0 P1 P2 lQ Q0 Q1 Q2 lT T0 T1 T2 lA A0 A1 A2
  replace LP : At3 v3 (bP) (.int .u64 a) (.int .u64 b) (.int .u64 c) := At3.below hb (by first | exact LP | exact LP.alloc _ | exact At3.new _ _ _ _ _)
  replace LQ : At3 v3 (bQ) (.int .u64 x) (.int .u64 y) (.int .u64 z) := At3.below hb (by first | exact LQ | exact LQ.alloc _ | exact At3.new _ _ _ _ _)
  replace LT : At3 v3 (bT) (.int .u64 s) (.int .u64 t) (.int .u64 u) := At3.below hb (by first | exact LT | exact LT.alloc _ | exact At3.new _ _ _ _ _)
  replace LA : At3 v3 (v1.heap.size) (.int .u64 aa1) (.int .u64 aa2) (.int .u64 aa3) := At3.below hb (by first | exact LA | exact LA.alloc _ | exact At3.new _ _ _ _ _)
  have LB : At3 v3 (v2.heap.size) (.int .u64 aa1) (.int .u64 aa2) (.int .u64 aa3) := At3.below hb (At3.new _ _ _ _ _)
  replace BB : Below w.heap.size w v3 := by first | exact BB.trans (hb.mono BB.size) | exact (BB.alloc BB.size _).trans (hb.mono (BB.alloc BB.size _).size)
  clear hb
  obtain ⟨lP, P0, P1, P2⟩ := id LP
  obtain ⟨lQ, Q0, Q1, Q2⟩ := id LQ
  obtain ⟨lT, T0, T1, T2⟩ := id LT
  obtain ⟨lA, A0, A1, A2⟩ := id LA
  obtain ⟨lB, B0, B1, B2⟩ := id LB
  go_wp2_with fail
  refine (H4 _).mono ?_
  rintro e v4 ⟨rfl, hb⟩
  clear lP P0 P1 P2 lQ Q0 Q1 Q2 lT T0 T1 T2 lA A0 A1 A2 lB B0 B1 B2
  replace LP : At3 v4 (bP) (.int .u64 a) (.int .u64 b) (.int .u64 c) := At3.below hb (by first | exact LP | exact LP.alloc _ | exact At3.new _ _ _ _ _)
  replace LQ : At3 v4 (bQ) (.int .u64 x) (.int .u64 y) (.int .u64 z) := At3.below hb (by first | exact LQ | exact LQ.alloc _ | exact At3.new _ _ _ _ _)
  replace LT : At3 v4 (bT) (.int .u64 s) (.int .u64 t) (.int .u64 u) := At3.below hb (by first | exact LT | exact LT.alloc _ | exact At3.new _ _ _ _ _)
  replace LA : At3 v4 (v1.heap.size) (.int .u64 aa1) (.int .u64 aa2) (.int .u64 aa3) := At3.below hb (by first | exact LA | exact LA.alloc _ | exact At3.new _ _ _ _ _)
  replace LB : At3 v4 (v2.heap.size) (.int .u64 aa1) (.int .u64 aa2) (.int .u64 aa3) := At3.below hb (by first | exact LB | exact LB.alloc _ | exact At3.new _ _ _ _ _)
  have LX : At3 v4 (v3.heap.size) (.int .u64 xx1) (.int .u64 xx2) (.int .u64 xx3) := At3.below hb (At3.new _ _ _ _ _)
  replace BB : Below w.heap.size w v4 := by first | exact BB.trans (hb.mono BB.size) | exact (BB.alloc BB.size _).trans (hb.mono (BB.alloc BB.size _).size)
  clear hb
  obtain ⟨lP, P0, P1, P2⟩ := id LP
  obtain ⟨lQ, Q0, Q1, Q2⟩ := id LQ
  obtain ⟨lT, T0, T1, T2⟩ := id LT
  obtain ⟨lA, A0, A1, A2⟩ := id LA
  obtain ⟨lB, B0, B1, B2⟩ := id LB
  obtain ⟨lX, X0, X1, X2⟩ := id LX
  go_upto_region 6 with fail
  clear lP P0 P1 P2 lQ Q0 Q1 Q2 lT T0 T1 T2 lA A0 A1 A2 lB B0 B1 B2 lX X0 X1 X2
  replace LP := LP.alloc (.cells #[.int .u64 xx1, .int .u64 xx2, .int .u64 xx3] 36)
  replace LQ := LQ.alloc (.cells #[.int .u64 xx1, .int .u64 xx2, .int .u64 xx3] 36)
  replace LT := LT.alloc (.cells #[.int .u64 xx1, .int .u64 xx2, .int .u64 xx3] 36)
  replace LA := LA.alloc (.cells #[.int .u64 xx1, .int .u64 xx2, .int .u64 xx3] 36)
  replace LB := LB.alloc (.cells #[.int .u64 xx1, .int .u64 xx2, .int .u64 xx3] 36)
  replace LX := LX.alloc (.cells #[.int .u64 xx1, .int .u64 xx2, .int .u64 xx3] 36)
  have LY := At3.new v4 (.int .u64 xx1) (.int .u64 xx2) (.int .u64 xx3) 36
  replace BB := BB.alloc BB.size (.cells #[.int .u64 xx1, .int .u64 xx2, .int .u64 xx3] 36)
  generalize v4.alloc (.cells #[.int .u64 xx1, .int .u64 xx2, .int .u64 xx3] 36) = w6 at *
  obtain ⟨lP, P0, P1, P2⟩ := id LP
  obtain ⟨lQ, Q0, Q1, Q2⟩ := id LQ
  obtain ⟨lT, T0, T1, T2⟩ := id LT
  obtain ⟨lA, A0, A1, A2⟩ := id LA
  obtain ⟨lB, B0, B1, B2⟩ := id LB
  obtain ⟨lX, X0, X1, X2⟩ := id LX
  obtain ⟨lY, Y0, Y1, Y2⟩ := id LY
  go_upto_region 7 with fail
  clear lP P0 P1 P2 lQ Q0 Q1 Q2 lT T0 T1 T2 lA A0 A1 A2 lB B0 B1 B2 lX X0 X1 X2 lY Y0 Y1 Y2
  clear LA
  clear LB
  clear LX
  clear LY
  clear LT
  go_cut [15, 16] (fun s15 s16 w' => s15 = .bool true ∧ s16 = .bool true ∧ At3 w' (bP) (.int .u64 a) (.int .u64 b) (.int .u64 c) ∧ At3 w' (bQ) (.int .u64 x) (.int .u64 y) (.int .u64 z) ∧ Below w.heap.size w w')
  case first => as_aux_lemma =>
    obtain ⟨gPa, gPb, gPc⟩ := LP.grown
    obtain ⟨gQa, gQb, gQc⟩ := LQ.grown
    cases hp0 : teq a b c 0 0 0 <;> simp only [hp0, Bool.not_true, Bool.not_false] at hD
    all_goals go_wp2_with fail
    all_goals go_quiet_grown (first | (go_at_call 14; refine Calls.grown_of (hA _)) | (go_at_call 15; refine Calls.grown_of (hA' _)) | (go_at_call 16; refine Calls.grown_of (hC _)) | (go_at_call 17; refine Calls.grown_of (hC' _)) | (go_at_call 18; refine Calls.grown_of (hD _)))
    all_goals have hgn : Gr w6 (grow (w6.drewN nq) osq) := ⟨nq, osq, rfl⟩
    all_goals generalize grow (w6.drewN nq) osq = wn at hgn ⊢
    all_goals go_wp2_with fail
    all_goals go_meet
    all_goals exact ⟨rfl, rfl, At3.below hgn.below LP, At3.below hgn.below LQ, BB.trans (hgn.below.mono BB.size)⟩
  clear BB LP LQ
  obtain ⟨rfl, rfl, LP, LQ, BB⟩ := hcut
  clear LQ
  have S0 : bP < wc.heap.size ∧ wc.cell? ⟨bP, 0, none⟩ = some (.int .u64 a) ∧ wc.cell? ⟨bP, 1, none⟩ = some (.int .u64 b) ∧ wc.cell? ⟨bP, 2, none⟩ = some (.int .u64 c) := ⟨LP.lt, LP.c0, LP.c1, LP.c2⟩
  have drw : ∀ W : World, Below W.heap.size W W.drew := fun W => ((Gr.refl W).drew).below
  go_wp2_with fail
  go_region_held3 (fun w' => bP < w'.heap.size ∧ w'.cell? ⟨bP, 0, none⟩ = some (.int .u64 (a : Int)) ∧ w'.cell? ⟨bP, 1, none⟩ = some (.int .u64 (b : Int)) ∧ w'.cell? ⟨bP, 2, none⟩ = some (.int .u64 (c : Int))) (first | exact S0 | exact one_keep S0 (drw _) | exact one_keep (by assumption) (by assumption))
    (first | (go_at_call 9; refine (hK _ (he.below (BB.trans ((drw _).mono BB.size)))).mono ?_; rintro e w7 ⟨rfl, hb7⟩) | (go_at_call 19; refine (hF _).mono ?_; rintro e w8 ⟨rfl, hg8⟩; have hb8 := hg8.below) | (go_at_call 20; refine (hF' _).mono ?_; rintro e w9 ⟨rfl, hg9⟩; have hb9 := hg9.below))
  all_goals go_wp2
  all_goals go_ret
  all_goals have B7 := (BB.trans ((drw wc).mono BB.size)).trans (hb7.mono BB.size)
  all_goals have B8 := B7.trans (hb8.mono B7.size)
  all_goals exact ⟨rfl, B8.trans (hb9.mono B8.size)⟩

theorem plays_any (a b c x y z p q r s t u s' t' u' : Nat) (n : Int) (w : World) (he : Env w)
    (ha : a < 18446744073709551616) (hb : b < 18446744073709551616) (hc : c < 18446744073709551616) (hx : x < 18446744073709551616) (hy : y < 18446744073709551616) (hz : z < 18446744073709551616) (hs : s < 18446744073709551616) (ht : t < 18446744073709551616) (hu : u < 18446744073709551616) :
    Calls Tryz.prog 4 #[.agg #[.int .u64 a, .int .u64 b, .int .u64 c, .int .u64 x, .int .u64 y, .int .u64 z, .int .u64 p, .int .u64 q, .int .u64 r, .int .u64 s, .int .u64 t, .int .u64 u, .int .u64 s', .int .u64 t', .int .u64 u', .int .i64 n]] w fun e w' => e = .returned (.bool true) ∧ Below w.heap.size w w' :=
  plays_walk known_true a b c x y z p q r s t u s' t' u' _ _ _ _ _ _ _ _ n w he (fun W => Then_any a b c x y z W ha hb hc hx hy hz) (fun W => prefThen_any a b c x y z W ha hb hc hx hy hz) (fun W => On_any a b c s t u W ha hb hc hs ht hu) (fun W => prefOn_any a b c s t u W ha hb hc hs ht hu)
end Go.Proofs.YtknejahmjfgmhabGreatDoor
