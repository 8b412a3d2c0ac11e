import Derived.Test.YtknejahmjfgmhaaGreatDoorPWays
import Derived.Deep.DeepCutAuto
import Derived.Deep.RegionHeld3
namespace Go.Proofs.YtknejahmjfgmhaaGreatDoor
open Go.RowKit Go.Shelf Go.Lib
open Go.Sort hiding Below
attribute [local go_sem ↓] Go.wp_at_zero Go.wp_at_succ

theorem below_dr {B : Nat} {a w : World} (h : Below B a w) : Below B a w.drew := ⟨h.os, h.tape, h.output, h.size, h.block⟩
theorem case_keep {B : Nat} {a b c x y z p q r s t u : Nat} {W W' : World} (h : B < W.heap.size ∧ W.cell? ⟨B, 0, none⟩ = some (.int .u64 a) ∧ W.cell? ⟨B, 1, none⟩ = some (.int .u64 b) ∧ W.cell? ⟨B, 2, none⟩ = some (.int .u64 c) ∧ W.cell? ⟨B, 3, none⟩ = some (.int .u64 x) ∧ W.cell? ⟨B, 4, none⟩ = some (.int .u64 y) ∧ W.cell? ⟨B, 5, none⟩ = some (.int .u64 z) ∧ W.cell? ⟨B, 6, none⟩ = some (.int .u64 p) ∧ W.cell? ⟨B, 7, none⟩ = some (.int .u64 q) ∧ W.cell? ⟨B, 8, none⟩ = some (.int .u64 r) ∧ W.cell? ⟨B, 9, none⟩ = some (.int .u64 s) ∧ W.cell? ⟨B, 10, none⟩ = some (.int .u64 t) ∧ W.cell? ⟨B, 11, none⟩ = some (.int .u64 u)) (hb : Below W.heap.size W W') : True ∧ (B < W'.heap.size ∧ W'.cell? ⟨B, 0, none⟩ = some (.int .u64 a) ∧ W'.cell? ⟨B, 1, none⟩ = some (.int .u64 b) ∧ W'.cell? ⟨B, 2, none⟩ = some (.int .u64 c) ∧ W'.cell? ⟨B, 3, none⟩ = some (.int .u64 x) ∧ W'.cell? ⟨B, 4, none⟩ = some (.int .u64 y) ∧ W'.cell? ⟨B, 5, none⟩ = some (.int .u64 z) ∧ W'.cell? ⟨B, 6, none⟩ = some (.int .u64 p) ∧ W'.cell? ⟨B, 7, none⟩ = some (.int .u64 q) ∧ W'.cell? ⟨B, 8, none⟩ = some (.int .u64 r) ∧ W'.cell? ⟨B, 9, none⟩ = some (.int .u64 s) ∧ W'.cell? ⟨B, 10, none⟩ = some (.int .u64 t) ∧ W'.cell? ⟨B, 11, none⟩ = some (.int .u64 u)) := by
  obtain ⟨h, h0, h1, h2, h3, h4, h5, h6, h7, h8, h9, h10, h11⟩ := h
  exact ⟨trivial, Nat.lt_of_lt_of_le h hb.size, (hb.cell (p := ⟨B, 0, none⟩) h).trans h0, (hb.cell (p := ⟨B, 1, none⟩) h).trans h1, (hb.cell (p := ⟨B, 2, none⟩) h).trans h2, (hb.cell (p := ⟨B, 3, none⟩) h).trans h3, (hb.cell (p := ⟨B, 4, none⟩) h).trans h4, (hb.cell (p := ⟨B, 5, none⟩) h).trans h5, (hb.cell (p := ⟨B, 6, none⟩) h).trans h6, (hb.cell (p := ⟨B, 7, none⟩) h).trans h7, (hb.cell (p := ⟨B, 8, none⟩) h).trans h8, (hb.cell (p := ⟨B, 9, none⟩) h).trans h9, (hb.cell (p := ⟨B, 10, none⟩) h).trans h10, (hb.cell (p := ⟨B, 11, none⟩) h).trans h11⟩

set_option maxHeartbeats 8000000 in
set_option maxRecDepth 100000 in
theorem ways_walk (hK : KnownTrue) (a b c x y z p q r s t u aa1 aa2 aa3 cc1 cc2 cc3 dd1 dd2 dd3 ee1 ee2 ee3 xx1 xx2 xx3 yy1 yy2 yy3 zz1 zz2 zz3 s' t' u' : Nat) (ok l m g one two wh : Bool) (n : Int) (w : World) (he : Env w)
    (H1 : ∀ W, Calls Tryz.prog 18 #[.agg #[.int .u64 (a : Nat), .int .u64 (b : Nat), .int .u64 (c : Nat)], .agg #[.int .u64 (x : Nat), .int .u64 (y : Nat), .int .u64 (z : Nat)]] W fun e w' => e = .returned (.tuple #[.agg #[.int .u64 (aa1 : Nat), .int .u64 (aa2 : Nat), .int .u64 (aa3 : Nat)], .bool ok]) ∧ Below W.heap.size W w')
    (H2 : ∀ W, Calls Tryz.prog 18 #[.agg #[.int .u64 (x : Nat), .int .u64 (y : Nat), .int .u64 (z : Nat)], .agg #[.int .u64 (a : Nat), .int .u64 (b : Nat), .int .u64 (c : Nat)]] W fun e w' => e = .returned (.tuple #[.agg #[.int .u64 (aa1 : Nat), .int .u64 (aa2 : Nat), .int .u64 (aa3 : Nat)], .bool ok]) ∧ Below W.heap.size W w')
    (H3 : ∀ W, Calls Tryz.prog 18 #[.agg #[.int .u64 (aa1 : Nat), .int .u64 (aa2 : Nat), .int .u64 (aa3 : Nat)], .agg #[.int .u64 (p : Nat), .int .u64 (q : Nat), .int .u64 (r : Nat)]] W fun e w' => e = .returned (.tuple #[.agg #[.int .u64 (cc1 : Nat), .int .u64 (cc2 : Nat), .int .u64 (cc3 : Nat)], .bool l]) ∧ Below W.heap.size W w')
    (H4 : ∀ W, Calls Tryz.prog 18 #[.agg #[.int .u64 (x : Nat), .int .u64 (y : Nat), .int .u64 (z : Nat)], .agg #[.int .u64 (p : Nat), .int .u64 (q : Nat), .int .u64 (r : Nat)]] W fun e w' => e = .returned (.tuple #[.agg #[.int .u64 (dd1 : Nat), .int .u64 (dd2 : Nat), .int .u64 (dd3 : Nat)], .bool m]) ∧ Below W.heap.size W w')
    (H5 : ∀ W, Calls Tryz.prog 18 #[.agg #[.int .u64 (a : Nat), .int .u64 (b : Nat), .int .u64 (c : Nat)], .agg #[.int .u64 (dd1 : Nat), .int .u64 (dd2 : Nat), .int .u64 (dd3 : Nat)]] W fun e w' => e = .returned (.tuple #[.agg #[.int .u64 (ee1 : Nat), .int .u64 (ee2 : Nat), .int .u64 (ee3 : Nat)], .bool g]) ∧ Below W.heap.size W w')
    (hl : (l && ok) = (g && m)) (hce : (l && ok) = true → teq cc1 cc2 cc3 ee1 ee2 ee3 = true)
    (H6 : ∀ W, Calls Tryz.prog 20 #[.agg #[.int .u64 (a : Nat), .int .u64 (b : Nat), .int .u64 (c : Nat)], .agg #[.int .u64 (s : Nat), .int .u64 (t : Nat), .int .u64 (u : Nat)]] W fun e w' => e = .returned (.tuple #[.agg #[.int .u64 (xx1 : Nat), .int .u64 (xx2 : Nat), .int .u64 (xx3 : Nat)], .bool one]) ∧ Below W.heap.size W w')
    (H7 : ∀ W, Calls Tryz.prog 20 #[.agg #[.int .u64 (x : Nat), .int .u64 (y : Nat), .int .u64 (z : Nat)], .agg #[.int .u64 (xx1 : Nat), .int .u64 (xx2 : Nat), .int .u64 (xx3 : Nat)]] W fun e w' => e = .returned (.tuple #[.agg #[.int .u64 (yy1 : Nat), .int .u64 (yy2 : Nat), .int .u64 (yy3 : Nat)], .bool two]) ∧ Below W.heap.size W w')
    (H8 : ∀ W, Calls Tryz.prog 20 #[.agg #[.int .u64 (aa1 : Nat), .int .u64 (aa2 : Nat), .int .u64 (aa3 : Nat)], .agg #[.int .u64 (s : Nat), .int .u64 (t : Nat), .int .u64 (u : Nat)]] W fun e w' => e = .returned (.tuple #[.agg #[.int .u64 (zz1 : Nat), .int .u64 (zz2 : Nat), .int .u64 (zz3 : Nat)], .bool wh]) ∧ Below W.heap.size W w')
    (h2 : (ok && wh) = (one && two)) (hyz : (ok && wh) = true → teq yy1 yy2 yy3 zz1 zz2 zz3 = true)
    (H9 : ∀ W, Calls Tryz.prog 18 #[.agg #[.int .u64 (a : Nat), .int .u64 (b : Nat), .int .u64 (c : Nat)], .agg #[.int .u64 (0 : Nat), .int .u64 (0 : Nat), .int .u64 (0 : Nat)]] W fun e w' => e = .returned (.tuple #[.agg #[.int .u64 (a : Nat), .int .u64 (b : Nat), .int .u64 (c : Nat)], .bool true]) ∧ Below W.heap.size W w')
    (H10 : ∀ W, Calls Tryz.prog 20 #[.agg #[.int .u64 (0 : Nat), .int .u64 (0 : Nat), .int .u64 (0 : Nat)], .agg #[.int .u64 (s : Nat), .int .u64 (t : Nat), .int .u64 (u : Nat)]] W fun e w' => e = .returned (.tuple #[.agg #[.int .u64 (s : Nat), .int .u64 (t : Nat), .int .u64 (u : Nat)], .bool true]) ∧ Below W.heap.size W w') :
    Calls Tryz.prog 4 #[.agg #[.int .u64 a, .int .u64 b, .int .u64 c, .int .u64 x, .int .u64 y, .int .u64 z, .int .u64 p, .int .u64 q, .int .u64 r, .int .u64 s, .int .u64 t, .int .u64 u, .int .u64 s', .int .u64 t', .int .u64 u', .int .i64 n]] w fun e w' => e = .returned (.bool true) ∧ Below w.heap.size w w' := by
  have heq := fun a b c x y z W => run_eqP a b c x y z W
  have heqT := fun a b c x y z W => run_eqT a b c x y z W
  have hself : ∀ p q r, teq p q r p q r = true := fun p q r => by simp [teq]
  have HL : Hid ((l && ok) = (g && m)) := hl
  have HCE : Hid ((l && ok) = true → teq cc1 cc2 cc3 ee1 ee2 ee3 = true) := hce
  have H2' : Hid ((ok && wh) = (one && two)) := h2
  have HYZ : Hid ((ok && wh) = true → teq yy1 yy2 yy3 zz1 zz2 zz3 = true) := hyz
  clear hl hce h2 hyz
  go_enter Tryz.func4, Tryz.ntmps4
  go_upto_region 1 with fail
  go_cut [3, 4, 5, 6] (fun s3 s4 s5 s6 w' => ∃ bP bQ bR bT : Nat, s3 = .pointer (some ⟨bP, 0, none⟩) ∧ s4 = .pointer (some ⟨bQ, 0, none⟩) ∧ s5 = .pointer (some ⟨bR, 0, none⟩) ∧ s6 = .pointer (some ⟨bT, 0, none⟩) ∧ At3 w' bP (.int .u64 a) (.int .u64 b) (.int .u64 c) ∧ At3 w' bQ (.int .u64 x) (.int .u64 y) (.int .u64 z) ∧ At3 w' bR (.int .u64 p) (.int .u64 q) (.int .u64 r) ∧ At3 w' bT (.int .u64 s) (.int .u64 t) (.int .u64 u) ∧ Below w.heap.size w w')
  case first => as_aux_lemma =>
    have g0 : Gr w (w.alloc (.cells #[.int .u64 a, .int .u64 b, .int .u64 c, .int .u64 x, .int .u64 y, .int .u64 z, .int .u64 p, .int .u64 q, .int .u64 r, .int .u64 s, .int .u64 t, .int .u64 u, .int .u64 s', .int .u64 t', .int .u64 u', .int .i64 n] 35)) := (Gr.refl w).alloc _
    have S0 : w.heap.size < (w.alloc (.cells #[.int .u64 a, .int .u64 b, .int .u64 c, .int .u64 x, .int .u64 y, .int .u64 z, .int .u64 p, .int .u64 q, .int .u64 r, .int .u64 s, .int .u64 t, .int .u64 u, .int .u64 s', .int .u64 t', .int .u64 u', .int .i64 n] 35)).heap.size ∧ (w.alloc (.cells #[.int .u64 a, .int .u64 b, .int .u64 c, .int .u64 x, .int .u64 y, .int .u64 z, .int .u64 p, .int .u64 q, .int .u64 r, .int .u64 s, .int .u64 t, .int .u64 u, .int .u64 s', .int .u64 t', .int .u64 u', .int .i64 n] 35)).cell? ⟨w.heap.size, 0, none⟩ = some (.int .u64 a) ∧ (w.alloc (.cells #[.int .u64 a, .int .u64 b, .int .u64 c, .int .u64 x, .int .u64 y, .int .u64 z, .int .u64 p, .int .u64 q, .int .u64 r, .int .u64 s, .int .u64 t, .int .u64 u, .int .u64 s', .int .u64 t', .int .u64 u', .int .i64 n] 35)).cell? ⟨w.heap.size, 1, none⟩ = some (.int .u64 b) ∧ (w.alloc (.cells #[.int .u64 a, .int .u64 b, .int .u64 c, .int .u64 x, .int .u64 y, .int .u64 z, .int .u64 p, .int .u64 q, .int .u64 r, .int .u64 s, .int .u64 t, .int .u64 u, .int .u64 s', .int .u64 t', .int .u64 u', .int .i64 n] 35)).cell? ⟨w.heap.size, 2, none⟩ = some (.int .u64 c) ∧ (w.alloc (.cells #[.int .u64 a, .int .u64 b, .int .u64 c, .int .u64 x, .int .u64 y, .int .u64 z, .int .u64 p, .int .u64 q, .int .u64 r, .int .u64 s, .int .u64 t, .int .u64 u, .int .u64 s', .int .u64 t', .int .u64 u', .int .i64 n] 35)).cell? ⟨w.heap.size, 3, none⟩ = some (.int .u64 x) ∧ (w.alloc (.cells #[.int .u64 a, .int .u64 b, .int .u64 c, .int .u64 x, .int .u64 y, .int .u64 z, .int .u64 p, .int .u64 q, .int .u64 r, .int .u64 s, .int .u64 t, .int .u64 u, .int .u64 s', .int .u64 t', .int .u64 u', .int .i64 n] 35)).cell? ⟨w.heap.size, 4, none⟩ = some (.int .u64 y) ∧ (w.alloc (.cells #[.int .u64 a, .int .u64 b, .int .u64 c, .int .u64 x, .int .u64 y, .int .u64 z, .int .u64 p, .int .u64 q, .int .u64 r, .int .u64 s, .int .u64 t, .int .u64 u, .int .u64 s', .int .u64 t', .int .u64 u', .int .i64 n] 35)).cell? ⟨w.heap.size, 5, none⟩ = some (.int .u64 z) ∧ (w.alloc (.cells #[.int .u64 a, .int .u64 b, .int .u64 c, .int .u64 x, .int .u64 y, .int .u64 z, .int .u64 p, .int .u64 q, .int .u64 r, .int .u64 s, .int .u64 t, .int .u64 u, .int .u64 s', .int .u64 t', .int .u64 u', .int .i64 n] 35)).cell? ⟨w.heap.size, 6, none⟩ = some (.int .u64 p) ∧ (w.alloc (.cells #[.int .u64 a, .int .u64 b, .int .u64 c, .int .u64 x, .int .u64 y, .int .u64 z, .int .u64 p, .int .u64 q, .int .u64 r, .int .u64 s, .int .u64 t, .int .u64 u, .int .u64 s', .int .u64 t', .int .u64 u', .int .i64 n] 35)).cell? ⟨w.heap.size, 7, none⟩ = some (.int .u64 q) ∧ (w.alloc (.cells #[.int .u64 a, .int .u64 b, .int .u64 c, .int .u64 x, .int .u64 y, .int .u64 z, .int .u64 p, .int .u64 q, .int .u64 r, .int .u64 s, .int .u64 t, .int .u64 u, .int .u64 s', .int .u64 t', .int .u64 u', .int .i64 n] 35)).cell? ⟨w.heap.size, 8, none⟩ = some (.int .u64 r) ∧ (w.alloc (.cells #[.int .u64 a, .int .u64 b, .int .u64 c, .int .u64 x, .int .u64 y, .int .u64 z, .int .u64 p, .int .u64 q, .int .u64 r, .int .u64 s, .int .u64 t, .int .u64 u, .int .u64 s', .int .u64 t', .int .u64 u', .int .i64 n] 35)).cell? ⟨w.heap.size, 9, none⟩ = some (.int .u64 s) ∧ (w.alloc (.cells #[.int .u64 a, .int .u64 b, .int .u64 c, .int .u64 x, .int .u64 y, .int .u64 z, .int .u64 p, .int .u64 q, .int .u64 r, .int .u64 s, .int .u64 t, .int .u64 u, .int .u64 s', .int .u64 t', .int .u64 u', .int .i64 n] 35)).cell? ⟨w.heap.size, 10, none⟩ = some (.int .u64 t) ∧ (w.alloc (.cells #[.int .u64 a, .int .u64 b, .int .u64 c, .int .u64 x, .int .u64 y, .int .u64 z, .int .u64 p, .int .u64 q, .int .u64 r, .int .u64 s, .int .u64 t, .int .u64 u, .int .u64 s', .int .u64 t', .int .u64 u', .int .i64 n] 35)).cell? ⟨w.heap.size, 11, none⟩ = some (.int .u64 u) := by refine ⟨by simp, ?_, ?_, ?_, ?_, ?_, ?_, ?_, ?_, ?_, ?_, ?_, ?_⟩ <;> (rw [World.cell?_alloc_mark]; rfl)
    generalize w.alloc (.cells #[.int .u64 a, .int .u64 b, .int .u64 c, .int .u64 x, .int .u64 y, .int .u64 z, .int .u64 p, .int .u64 q, .int .u64 r, .int .u64 s, .int .u64 t, .int .u64 u, .int .u64 s', .int .u64 t', .int .u64 u', .int .i64 n] 35) = w0 at *
    go_region_held3 (fun w' => w.heap.size < w'.heap.size ∧ w'.cell? ⟨w.heap.size, 0, none⟩ = some (.int .u64 a) ∧ w'.cell? ⟨w.heap.size, 1, none⟩ = some (.int .u64 b) ∧ w'.cell? ⟨w.heap.size, 2, none⟩ = some (.int .u64 c) ∧ w'.cell? ⟨w.heap.size, 3, none⟩ = some (.int .u64 x) ∧ w'.cell? ⟨w.heap.size, 4, none⟩ = some (.int .u64 y) ∧ w'.cell? ⟨w.heap.size, 5, none⟩ = some (.int .u64 z) ∧ w'.cell? ⟨w.heap.size, 6, none⟩ = some (.int .u64 p) ∧ w'.cell? ⟨w.heap.size, 7, none⟩ = some (.int .u64 q) ∧ w'.cell? ⟨w.heap.size, 8, none⟩ = some (.int .u64 r) ∧ w'.cell? ⟨w.heap.size, 9, none⟩ = some (.int .u64 s) ∧ w'.cell? ⟨w.heap.size, 10, none⟩ = some (.int .u64 t) ∧ w'.cell? ⟨w.heap.size, 11, none⟩ = some (.int .u64 u)) (first | exact S0 | exact (case_keep S0 (by repeat (first | exact Below.refl _ _ | refine below_dr ?_ | refine Below.alloc ?_ (by simp <;> omega) _ | refine Below.setCell ?_ (by simp <;> omega) _))).2) (fail)
    all_goals go_wp2_with fail
    all_goals go_meet
    all_goals refine ⟨_, _, _, _, rfl, rfl, rfl, rfl, ?_, ?_, ?_, ?_, ((((g0.alloc _).alloc _).alloc _).alloc _).drew.below⟩
    all_goals (constructor <;> first | (simp; done) | (simp; omega) | go_simp)
  obtain ⟨bP, bQ, bR, bT, rfl, rfl, rfl, rfl, LP, LQ, LR, LT, BB⟩ := hcut
  obtain ⟨lP, P0, P1, P2⟩ := id LP
  obtain ⟨lQ, Q0, Q1, Q2⟩ := id LQ
  obtain ⟨lR, R0, R1, R2⟩ := id LR
  obtain ⟨lT, T0, T1, T2⟩ := id LT
  go_wp2_with fail
  refine (H1 _).mono ?_
  rintro e v1 ⟨rfl, hb⟩
  clear lP P0 P1 P2 lQ Q0 Q1 Q2 lR R0 R1 R2 lT T0 T1 T2
  replace LP : At3 v1 (bP) (.int .u64 a) (.int .u64 b) (.int .u64 c) := At3.below hb (by first | exact LP | exact LP.alloc _ | exact At3.new _ _ _ _ _)
  replace LQ : At3 v1 (bQ) (.int .u64 x) (.int .u64 y) (.int .u64 z) := At3.below hb (by first | exact LQ | exact LQ.alloc _ | exact At3.new _ _ _ _ _)
  replace LR : At3 v1 (bR) (.int .u64 p) (.int .u64 q) (.int .u64 r) := At3.below hb (by first | exact LR | exact LR.alloc _ | exact At3.new _ _ _ _ _)
  replace LT : At3 v1 (bT) (.int .u64 s) (.int .u64 t) (.int .u64 u) := At3.below hb (by first | exact LT | exact LT.alloc _ | exact At3.new _ _ _ _ _)
  replace BB : Below w.heap.size w v1 := by first | exact BB.trans (hb.mono BB.size) | exact (BB.alloc BB.size _).trans (hb.mono (BB.alloc BB.size _).size)
  clear hb
  obtain ⟨lP, P0, P1, P2⟩ := id LP
  obtain ⟨lQ, Q0, Q1, Q2⟩ := id LQ
  obtain ⟨lR, R0, R1, R2⟩ := id LR
  obtain ⟨lT, T0, T1, T2⟩ := id LT
  go_wp2_with fail
  refine (H2 _).mono ?_
  rintro e v2 ⟨rfl, hb⟩
  clear lP P0 P1 P2 lQ Q0 Q1 Q2 lR R0 R1 R2 lT T0 T1 T2
  replace LP : At3 v2 (bP) (.int .u64 a) (.int .u64 b) (.int .u64 c) := At3.below hb (by first | exact LP | exact LP.alloc _ | exact At3.new _ _ _ _ _)
  replace LQ : At3 v2 (bQ) (.int .u64 x) (.int .u64 y) (.int .u64 z) := At3.below hb (by first | exact LQ | exact LQ.alloc _ | exact At3.new _ _ _ _ _)
  replace LR : At3 v2 (bR) (.int .u64 p) (.int .u64 q) (.int .u64 r) := At3.below hb (by first | exact LR | exact LR.alloc _ | exact At3.new _ _ _ _ _)
  replace LT : At3 v2 (bT) (.int .u64 s) (.int .u64 t) (.int .u64 u) := At3.below hb (by first | exact LT | exact LT.alloc _ | exact At3.new _ _ _ _ _)
  have LA : At3 v2 (v1.heap.size) (.int .u64 aa1) (.int .u64 aa2) (.int .u64 aa3) := At3.below hb (At3.new _ _ _ _ _)
  replace BB : Below w.heap.size w v2 := by first | exact BB.trans (hb.mono BB.size) | exact (BB.alloc BB.size _).trans (hb.mono (BB.alloc BB.size _).size)
  clear hb
  obtain ⟨lP, P0, P1, P2⟩ := id LP
  obtain ⟨lQ, Q0, Q1, Q2⟩ := id LQ
  obtain ⟨lR, R0, R1, R2⟩ := id LR
  obtain ⟨lT, T0, T1, T2⟩ := id LT
  obtain ⟨lA, A0, A1, A2⟩ := id LA
  go_wp2_with fail
  refine (hK _ (he.below (by first | exact BB | exact BB.alloc BB.size _))).mono ?_
  rintro e v3 ⟨rfl, hb⟩
  clear lP P0 P1 P2 lQ Q0 Q1 Q2 lR R0 R1 R2 lT T0 T1 T2 lA A0 A1 A2
  replace LP : At3 v3 (bP) (.int .u64 a) (.int .u64 b) (.int .u64 c) := At3.below hb (by first | exact LP | exact LP.alloc _ | exact At3.new _ _ _ _ _)
  replace LQ : At3 v3 (bQ) (.int .u64 x) (.int .u64 y) (.int .u64 z) := At3.below hb (by first | exact LQ | exact LQ.alloc _ | exact At3.new _ _ _ _ _)
  replace LR : At3 v3 (bR) (.int .u64 p) (.int .u64 q) (.int .u64 r) := At3.below hb (by first | exact LR | exact LR.alloc _ | exact At3.new _ _ _ _ _)
  replace LT : At3 v3 (bT) (.int .u64 s) (.int .u64 t) (.int .u64 u) := At3.below hb (by first | exact LT | exact LT.alloc _ | exact At3.new _ _ _ _ _)
  replace LA : At3 v3 (v1.heap.size) (.int .u64 aa1) (.int .u64 aa2) (.int .u64 aa3) := At3.below hb (by first | exact LA | exact LA.alloc _ | exact At3.new _ _ _ _ _)
  have LB : At3 v3 (v2.heap.size) (.int .u64 aa1) (.int .u64 aa2) (.int .u64 aa3) := At3.below hb (At3.new _ _ _ _ _)
  replace BB : Below w.heap.size w v3 := by first | exact BB.trans (hb.mono BB.size) | exact (BB.alloc BB.size _).trans (hb.mono (BB.alloc BB.size _).size)
  clear hb
  obtain ⟨lP, P0, P1, P2⟩ := id LP
  obtain ⟨lQ, Q0, Q1, Q2⟩ := id LQ
  obtain ⟨lR, R0, R1, R2⟩ := id LR
  obtain ⟨lT, T0, T1, T2⟩ := id LT
  obtain ⟨lA, A0, A1, A2⟩ := id LA
  obtain ⟨lB, B0, B1, B2⟩ := id LB
  go_wp2_with fail
  refine (H3 _).mono ?_
  rintro e v4 ⟨rfl, hb⟩
  clear lP P0 P1 P2 lQ Q0 Q1 Q2 lR R0 R1 R2 lT T0 T1 T2 lA A0 A1 A2 lB B0 B1 B2
  clear LB
  replace LP : At3 v4 (bP) (.int .u64 a) (.int .u64 b) (.int .u64 c) := At3.below hb (by first | exact LP | exact LP.alloc _ | exact At3.new _ _ _ _ _)
  replace LQ : At3 v4 (bQ) (.int .u64 x) (.int .u64 y) (.int .u64 z) := At3.below hb (by first | exact LQ | exact LQ.alloc _ | exact At3.new _ _ _ _ _)
  replace LR : At3 v4 (bR) (.int .u64 p) (.int .u64 q) (.int .u64 r) := At3.below hb (by first | exact LR | exact LR.alloc _ | exact At3.new _ _ _ _ _)
  replace LT : At3 v4 (bT) (.int .u64 s) (.int .u64 t) (.int .u64 u) := At3.below hb (by first | exact LT | exact LT.alloc _ | exact At3.new _ _ _ _ _)
  replace LA : At3 v4 (v1.heap.size) (.int .u64 aa1) (.int .u64 aa2) (.int .u64 aa3) := At3.below hb (by first | exact LA | exact LA.alloc _ | exact At3.new _ _ _ _ _)
  replace BB : Below w.heap.size w v4 := by first | exact BB.trans (hb.mono BB.size) | exact (BB.alloc BB.size _).trans (hb.mono (BB.alloc BB.size _).size)
  clear hb
  obtain ⟨lP, P0, P1, P2⟩ := id LP
  obtain ⟨lQ, Q0, Q1, Q2⟩ := id LQ
  obtain ⟨lR, R0, R1, R2⟩ := id LR
  obtain ⟨lT, T0, T1, T2⟩ := id LT
  obtain ⟨lA, A0, A1, A2⟩ := id LA
  go_wp2_with fail
  refine (H4 _).mono ?_
  rintro e v5 ⟨rfl, hb⟩
  clear lP P0 P1 P2 lQ Q0 Q1 Q2 lR R0 R1 R2 lT T0 T1 T2 lA A0 A1 A2
  replace LP : At3 v5 (bP) (.int .u64 a) (.int .u64 b) (.int .u64 c) := At3.below hb (by first | exact LP | exact LP.alloc _ | exact At3.new _ _ _ _ _)
  replace LQ : At3 v5 (bQ) (.int .u64 x) (.int .u64 y) (.int .u64 z) := At3.below hb (by first | exact LQ | exact LQ.alloc _ | exact At3.new _ _ _ _ _)
  replace LR : At3 v5 (bR) (.int .u64 p) (.int .u64 q) (.int .u64 r) := At3.below hb (by first | exact LR | exact LR.alloc _ | exact At3.new _ _ _ _ _)
  replace LT : At3 v5 (bT) (.int .u64 s) (.int .u64 t) (.int .u64 u) := At3.below hb (by first | exact LT | exact LT.alloc _ | exact At3.new _ _ _ _ _)
  replace LA : At3 v5 (v1.heap.size) (.int .u64 aa1) (.int .u64 aa2) (.int .u64 aa3) := At3.below hb (by first | exact LA | exact LA.alloc _ | exact At3.new _ _ _ _ _)
  have LC : At3 v5 (v4.heap.size) (.int .u64 cc1) (.int .u64 cc2) (.int .u64 cc3) := At3.below hb (At3.new _ _ _ _ _)
  replace BB : Below w.heap.size w v5 := by first | exact BB.trans (hb.mono BB.size) | exact (BB.alloc BB.size _).trans (hb.mono (BB.alloc BB.size _).size)
  clear hb
  obtain ⟨lP, P0, P1, P2⟩ := id LP
  obtain ⟨lQ, Q0, Q1, Q2⟩ := id LQ
  obtain ⟨lR, R0, R1, R2⟩ := id LR
  obtain ⟨lT, T0, T1, T2⟩ := id LT
  obtain ⟨lA, A0, A1, A2⟩ := id LA
  obtain ⟨lC, C0, C1, C2⟩ := id LC
  go_wp2_with fail
  refine (H5 _).mono ?_
  rintro e v6 ⟨rfl, hb⟩
  clear lP P0 P1 P2 lQ Q0 Q1 Q2 lR R0 R1 R2 lT T0 T1 T2 lA A0 A1 A2 lC C0 C1 C2
  replace LP : At3 v6 (bP) (.int .u64 a) (.int .u64 b) (.int .u64 c) := At3.below hb (by first | exact LP | exact LP.alloc _ | exact At3.new _ _ _ _ _)
  replace LQ : At3 v6 (bQ) (.int .u64 x) (.int .u64 y) (.int .u64 z) := At3.below hb (by first | exact LQ | exact LQ.alloc _ | exact At3.new _ _ _ _ _)
  replace LR : At3 v6 (bR) (.int .u64 p) (.int .u64 q) (.int .u64 r) := At3.below hb (by first | exact LR | exact LR.alloc _ | exact At3.new _ _ _ _ _)
  replace LT : At3 v6 (bT) (.int .u64 s) (.int .u64 t) (.int .u64 u) := At3.below hb (by first | exact LT | exact LT.alloc _ | exact At3.new _ _ _ _ _)
  replace LA : At3 v6 (v1.heap.size) (.int .u64 aa1) (.int .u64 aa2) (.int .u64 aa3) := At3.below hb (by first | exact LA | exact LA.alloc _ | exact At3.new _ _ _ _ _)
  replace LC : At3 v6 (v4.heap.size) (.int .u64 cc1) (.int .u64 cc2) (.int .u64 cc3) := At3.below hb (by first | exact LC | exact LC.alloc _ | exact At3.new _ _ _ _ _)
  have LD : At3 v6 (v5.heap.size) (.int .u64 dd1) (.int .u64 dd2) (.int .u64 dd3) := At3.below hb (At3.new _ _ _ _ _)
  replace BB : Below w.heap.size w v6 := by first | exact BB.trans (hb.mono BB.size) | exact (BB.alloc BB.size _).trans (hb.mono (BB.alloc BB.size _).size)
  clear hb
  obtain ⟨lP, P0, P1, P2⟩ := id LP
  obtain ⟨lQ, Q0, Q1, Q2⟩ := id LQ
  obtain ⟨lR, R0, R1, R2⟩ := id LR
  obtain ⟨lT, T0, T1, T2⟩ := id LT
  obtain ⟨lA, A0, A1, A2⟩ := id LA
  obtain ⟨lC, C0, C1, C2⟩ := id LC
  obtain ⟨lD, D0, D1, D2⟩ := id LD
  go_upto_region 9 with fail
  go_cut [12] (fun s12 w' => s12 = .bool (l && ok) ∧ At3 w' (bP) (.int .u64 a) (.int .u64 b) (.int .u64 c) ∧ At3 w' (bQ) (.int .u64 x) (.int .u64 y) (.int .u64 z) ∧ At3 w' (bR) (.int .u64 p) (.int .u64 q) (.int .u64 r) ∧ At3 w' (bT) (.int .u64 s) (.int .u64 t) (.int .u64 u) ∧ At3 w' (v1.heap.size) (.int .u64 aa1) (.int .u64 aa2) (.int .u64 aa3) ∧ At3 w' (v4.heap.size) (.int .u64 cc1) (.int .u64 cc2) (.int .u64 cc3) ∧ At3 w' (v5.heap.size) (.int .u64 dd1) (.int .u64 dd2) (.int .u64 dd3) ∧ At3 w' (v6.heap.size) (.int .u64 ee1) (.int .u64 ee2) (.int .u64 ee3) ∧ Below w.heap.size w w')
  case first => as_aux_lemma =>
    cases l <;> cases ok
    all_goals go_wp2_with fail
    all_goals go_meet
    all_goals exact ⟨rfl, (by first | exact LP | exact LP.alloc _), (by first | exact LQ | exact LQ.alloc _), (by first | exact LR | exact LR.alloc _), (by first | exact LT | exact LT.alloc _), (by first | exact LA | exact LA.alloc _), (by first | exact LC | exact LC.alloc _), (by first | exact LD | exact LD.alloc _), At3.new _ _ _ _ _, by first | exact BB | exact BB.alloc BB.size _⟩
  clear lP P0 P1 P2 lQ Q0 Q1 Q2 lR R0 R1 R2 lT T0 T1 T2 lA A0 A1 A2 lC C0 C1 C2 lD D0 D1 D2
  clear BB LT LP LC LA LR LQ LD
  obtain ⟨rfl, LP, LQ, LR, LT, LA, LC, LD, LE, BB⟩ := hcut
  obtain ⟨lP, P0, P1, P2⟩ := id LP
  obtain ⟨lQ, Q0, Q1, Q2⟩ := id LQ
  obtain ⟨lR, R0, R1, R2⟩ := id LR
  obtain ⟨lT, T0, T1, T2⟩ := id LT
  obtain ⟨lA, A0, A1, A2⟩ := id LA
  obtain ⟨lC, C0, C1, C2⟩ := id LC
  obtain ⟨lD, D0, D1, D2⟩ := id LD
  obtain ⟨lE, E0, E1, E2⟩ := id LE
  go_upto_region 10 with fail
  go_cut [16] (fun s16 w' => s16 = .bool (g && m) ∧ At3 w' (bP) (.int .u64 a) (.int .u64 b) (.int .u64 c) ∧ At3 w' (bQ) (.int .u64 x) (.int .u64 y) (.int .u64 z) ∧ At3 w' (bR) (.int .u64 p) (.int .u64 q) (.int .u64 r) ∧ At3 w' (bT) (.int .u64 s) (.int .u64 t) (.int .u64 u) ∧ At3 w' (v1.heap.size) (.int .u64 aa1) (.int .u64 aa2) (.int .u64 aa3) ∧ At3 w' (v4.heap.size) (.int .u64 cc1) (.int .u64 cc2) (.int .u64 cc3) ∧ At3 w' (v5.heap.size) (.int .u64 dd1) (.int .u64 dd2) (.int .u64 dd3) ∧ At3 w' (v6.heap.size) (.int .u64 ee1) (.int .u64 ee2) (.int .u64 ee3) ∧ Below w.heap.size w w')
  case first => as_aux_lemma =>
    cases g <;> cases m
    all_goals go_wp2_with fail
    all_goals go_meet
    all_goals exact ⟨rfl, (by first | exact LP | exact LP.alloc _), (by first | exact LQ | exact LQ.alloc _), (by first | exact LR | exact LR.alloc _), (by first | exact LT | exact LT.alloc _), (by first | exact LA | exact LA.alloc _), (by first | exact LC | exact LC.alloc _), (by first | exact LD | exact LD.alloc _), (by first | exact LE | exact LE.alloc _), by first | exact BB | exact BB.alloc BB.size _⟩
  clear lP P0 P1 P2 lQ Q0 Q1 Q2 lR R0 R1 R2 lT T0 T1 T2 lA A0 A1 A2 lC C0 C1 C2 lD D0 D1 D2 lE E0 E1 E2
  clear BB LT LP LC LA LE LR LQ LD
  obtain ⟨rfl, LP, LQ, LR, LT, LA, LC, LD, LE, BB⟩ := hcut
  obtain ⟨lP, P0, P1, P2⟩ := id LP
  obtain ⟨lQ, Q0, Q1, Q2⟩ := id LQ
  obtain ⟨lR, R0, R1, R2⟩ := id LR
  obtain ⟨lT, T0, T1, T2⟩ := id LT
  obtain ⟨lA, A0, A1, A2⟩ := id LA
  obtain ⟨lC, C0, C1, C2⟩ := id LC
  obtain ⟨lD, D0, D1, D2⟩ := id LD
  obtain ⟨lE, E0, E1, E2⟩ := id LE
  go_upto_region 11 with fail
  go_cut [12, 16, 95] (fun s12 s16 s95 w' => ∃ b1 b2 : Bool, s12 = .bool b1 ∧ s16 = .bool b2 ∧ s95 = .bool false ∧ At3 w' (bP) (.int .u64 a) (.int .u64 b) (.int .u64 c) ∧ At3 w' (bQ) (.int .u64 x) (.int .u64 y) (.int .u64 z) ∧ At3 w' (bR) (.int .u64 p) (.int .u64 q) (.int .u64 r) ∧ At3 w' (bT) (.int .u64 s) (.int .u64 t) (.int .u64 u) ∧ At3 w' (v1.heap.size) (.int .u64 aa1) (.int .u64 aa2) (.int .u64 aa3) ∧ Below w.heap.size w w')
  case first => as_aux_lemma =>
    have e1 := HL.out
    have e2 := HCE.out
    rw [← e1]
    cases hlk : (l && ok)
    all_goals (try have e3 := e2 hlk)
    all_goals clear e1 e2
    all_goals go_wp2_with fail
    all_goals go_meet
    all_goals exact ⟨_, _, rfl, rfl, rfl, (by first | exact LP | exact LP.alloc _), (by first | exact LQ | exact LQ.alloc _), (by first | exact LR | exact LR.alloc _), (by first | exact LT | exact LT.alloc _), (by first | exact LA | exact LA.alloc _), by first | exact BB | exact BB.alloc BB.size _⟩
  clear lP P0 P1 P2 lQ Q0 Q1 Q2 lR R0 R1 R2 lT T0 T1 T2 lA A0 A1 A2 lC C0 C1 C2 lD D0 D1 D2 lE E0 E1 E2
  clear BB LT LP LC LA LE LR LQ LD
  obtain ⟨b1, b2, rfl, rfl, rfl, LP, LQ, LR, LT, LA, BB⟩ := hcut
  obtain ⟨lP, P0, P1, P2⟩ := id LP
  obtain ⟨lQ, Q0, Q1, Q2⟩ := id LQ
  obtain ⟨lR, R0, R1, R2⟩ := id LR
  obtain ⟨lT, T0, T1, T2⟩ := id LT
  obtain ⟨lA, A0, A1, A2⟩ := id LA
  go_wp2_with fail
  refine (H6 _).mono ?_
  rintro e v7 ⟨rfl, hb⟩
  clear lP P0 P1 P2 lQ Q0 Q1 Q2 lR R0 R1 R2 lT T0 T1 T2 lA A0 A1 A2
  replace LP : At3 v7 (bP) (.int .u64 a) (.int .u64 b) (.int .u64 c) := At3.below hb (by first | exact LP | exact LP.alloc _ | exact At3.new _ _ _ _ _)
  replace LQ : At3 v7 (bQ) (.int .u64 x) (.int .u64 y) (.int .u64 z) := At3.below hb (by first | exact LQ | exact LQ.alloc _ | exact At3.new _ _ _ _ _)
  replace LR : At3 v7 (bR) (.int .u64 p) (.int .u64 q) (.int .u64 r) := At3.below hb (by first | exact LR | exact LR.alloc _ | exact At3.new _ _ _ _ _)
  replace LT : At3 v7 (bT) (.int .u64 s) (.int .u64 t) (.int .u64 u) := At3.below hb (by first | exact LT | exact LT.alloc _ | exact At3.new _ _ _ _ _)
  replace LA : At3 v7 (v1.heap.size) (.int .u64 aa1) (.int .u64 aa2) (.int .u64 aa3) := At3.below hb (by first | exact LA | exact LA.alloc _ | exact At3.new _ _ _ _ _)
  replace BB : Below w.heap.size w v7 := by first | exact BB.trans (hb.mono BB.size) | exact (BB.alloc BB.size _).trans (hb.mono (BB.alloc BB.size _).size)
  clear hb
  obtain ⟨lP, P0, P1, P2⟩ := id LP
  obtain ⟨lQ, Q0, Q1, Q2⟩ := id LQ
  obtain ⟨lR, R0, R1, R2⟩ := id LR
  obtain ⟨lT, T0, T1, T2⟩ := id LT
  obtain ⟨lA, A0, A1, A2⟩ := id LA
  go_wp2_with fail
  refine (H7 _).mono ?_
  rintro e v8 ⟨rfl, hb⟩
  clear lP P0 P1 P2 lQ Q0 Q1 Q2 lR R0 R1 R2 lT T0 T1 T2 lA A0 A1 A2
  replace LP : At3 v8 (bP) (.int .u64 a) (.int .u64 b) (.int .u64 c) := At3.below hb (by first | exact LP | exact LP.alloc _ | exact At3.new _ _ _ _ _)
  replace LQ : At3 v8 (bQ) (.int .u64 x) (.int .u64 y) (.int .u64 z) := At3.below hb (by first | exact LQ | exact LQ.alloc _ | exact At3.new _ _ _ _ _)
  replace LR : At3 v8 (bR) (.int .u64 p) (.int .u64 q) (.int .u64 r) := At3.below hb (by first | exact LR | exact LR.alloc _ | exact At3.new _ _ _ _ _)
  replace LT : At3 v8 (bT) (.int .u64 s) (.int .u64 t) (.int .u64 u) := At3.below hb (by first | exact LT | exact LT.alloc _ | exact At3.new _ _ _ _ _)
  replace LA : At3 v8 (v1.heap.size) (.int .u64 aa1) (.int .u64 aa2) (.int .u64 aa3) := At3.below hb (by first | exact LA | exact LA.alloc _ | exact At3.new _ _ _ _ _)
  have LX : At3 v8 (v7.heap.size) (.int .u64 xx1) (.int .u64 xx2) (.int .u64 xx3) := At3.below hb (At3.new _ _ _ _ _)
  replace BB : Below w.heap.size w v8 := by first | exact BB.trans (hb.mono BB.size) | exact (BB.alloc BB.size _).trans (hb.mono (BB.alloc BB.size _).size)
  clear hb
  obtain ⟨lP, P0, P1, P2⟩ := id LP
  obtain ⟨lQ, Q0, Q1, Q2⟩ := id LQ
  obtain ⟨lR, R0, R1, R2⟩ := id LR
  obtain ⟨lT, T0, T1, T2⟩ := id LT
  obtain ⟨lA, A0, A1, A2⟩ := id LA
  obtain ⟨lX, X0, X1, X2⟩ := id LX
  go_wp2_with fail
  refine (H8 _).mono ?_
  rintro e v9 ⟨rfl, hb⟩
  clear lP P0 P1 P2 lQ Q0 Q1 Q2 lR R0 R1 R2 lT T0 T1 T2 lA A0 A1 A2 lX X0 X1 X2
  replace LP : At3 v9 (bP) (.int .u64 a) (.int .u64 b) (.int .u64 c) := At3.below hb (by first | exact LP | exact LP.alloc _ | exact At3.new _ _ _ _ _)
  replace LQ : At3 v9 (bQ) (.int .u64 x) (.int .u64 y) (.int .u64 z) := At3.below hb (by first | exact LQ | exact LQ.alloc _ | exact At3.new _ _ _ _ _)
  replace LR : At3 v9 (bR) (.int .u64 p) (.int .u64 q) (.int .u64 r) := At3.below hb (by first | exact LR | exact LR.alloc _ | exact At3.new _ _ _ _ _)
  replace LT : At3 v9 (bT) (.int .u64 s) (.int .u64 t) (.int .u64 u) := At3.below hb (by first | exact LT | exact LT.alloc _ | exact At3.new _ _ _ _ _)
  replace LA : At3 v9 (v1.heap.size) (.int .u64 aa1) (.int .u64 aa2) (.int .u64 aa3) := At3.below hb (by first | exact LA | exact LA.alloc _ | exact At3.new _ _ _ _ _)
  replace LX : At3 v9 (v7.heap.size) (.int .u64 xx1) (.int .u64 xx2) (.int .u64 xx3) := At3.below hb (by first | exact LX | exact LX.alloc _ | exact At3.new _ _ _ _ _)
  have LY : At3 v9 (v8.heap.size) (.int .u64 yy1) (.int .u64 yy2) (.int .u64 yy3) := At3.below hb (At3.new _ _ _ _ _)
  replace BB : Below w.heap.size w v9 := by first | exact BB.trans (hb.mono BB.size) | exact (BB.alloc BB.size _).trans (hb.mono (BB.alloc BB.size _).size)
  clear hb
  obtain ⟨lP, P0, P1, P2⟩ := id LP
  obtain ⟨lQ, Q0, Q1, Q2⟩ := id LQ
  obtain ⟨lR, R0, R1, R2⟩ := id LR
  obtain ⟨lT, T0, T1, T2⟩ := id LT
  obtain ⟨lA, A0, A1, A2⟩ := id LA
  obtain ⟨lX, X0, X1, X2⟩ := id LX
  obtain ⟨lY, Y0, Y1, Y2⟩ := id LY
  go_upto_region 16 with fail
  go_cut [133] (fun s133 w' => s133 = .bool false ∧ At3 w' (bP) (.int .u64 a) (.int .u64 b) (.int .u64 c) ∧ At3 w' (bT) (.int .u64 s) (.int .u64 t) (.int .u64 u) ∧ Below w.heap.size w w')
  case first => as_aux_lemma =>
    have e1 := H2'.out
    have e2 := HYZ.out
    cases ok <;> cases wh <;> cases one <;> cases two <;> simp only [Bool.and_true, Bool.and_false, Bool.and_self, forall_const, Bool.false_eq_true, Bool.true_eq_false, false_implies] at e1 e2
    all_goals go_wp2_with fail
    all_goals go_meet
    all_goals exact ⟨rfl, (by first | exact LP | exact LP.alloc _), (by first | exact LT | exact LT.alloc _), by first | exact BB | exact BB.alloc BB.size _⟩
  clear lP P0 P1 P2 lQ Q0 Q1 Q2 lR R0 R1 R2 lT T0 T1 T2 lA A0 A1 A2 lX X0 X1 X2 lY Y0 Y1 Y2
  clear BB LT LY LP LX LA LR LQ
  obtain ⟨rfl, LP, LT, BB⟩ := hcut
  obtain ⟨lP, P0, P1, P2⟩ := id LP
  obtain ⟨lT, T0, T1, T2⟩ := id LT
  go_wp2_with fail
  refine (H9 _).mono ?_
  rintro e v10 ⟨rfl, hb⟩
  clear lP P0 P1 P2 lT T0 T1 T2
  replace LP : At3 v10 (bP) (.int .u64 a) (.int .u64 b) (.int .u64 c) := At3.below hb (by first | exact LP | exact LP.alloc _ | exact At3.new _ _ _ _ _)
  replace LT : At3 v10 (bT) (.int .u64 s) (.int .u64 t) (.int .u64 u) := At3.below hb (by first | exact LT | exact LT.alloc _ | exact At3.new _ _ _ _ _)
  replace BB : Below w.heap.size w v10 := by first | exact BB.trans (hb.mono BB.size) | exact (BB.alloc BB.size _).trans (hb.mono (BB.alloc BB.size _).size)
  clear hb
  obtain ⟨lP, P0, P1, P2⟩ := id LP
  obtain ⟨lT, T0, T1, T2⟩ := id LT
  go_wp2_with fail
  refine (H10 _).mono ?_
  rintro e v11 ⟨rfl, hb⟩
  clear lP P0 P1 P2 lT T0 T1 T2
  replace LP : At3 v11 (bP) (.int .u64 a) (.int .u64 b) (.int .u64 c) := At3.below hb (by first | exact LP | exact LP.alloc _ | exact At3.new _ _ _ _ _)
  replace LT : At3 v11 (bT) (.int .u64 s) (.int .u64 t) (.int .u64 u) := At3.below hb (by first | exact LT | exact LT.alloc _ | exact At3.new _ _ _ _ _)
  have LF : At3 v11 (v10.heap.size) (.int .u64 a) (.int .u64 b) (.int .u64 c) := At3.below hb (At3.new _ _ _ _ _)
  replace BB : Below w.heap.size w v11 := by first | exact BB.trans (hb.mono BB.size) | exact (BB.alloc BB.size _).trans (hb.mono (BB.alloc BB.size _).size)
  clear hb
  obtain ⟨lP, P0, P1, P2⟩ := id LP
  obtain ⟨lT, T0, T1, T2⟩ := id LT
  obtain ⟨lF, F0, F1, F2⟩ := id LF
  go_wp2
  go_ret
  exact ⟨rfl, BB.alloc BB.size _⟩
end Go.Proofs.YtknejahmjfgmhaaGreatDoor
