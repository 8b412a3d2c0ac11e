import Derived.Test.YtconceigfommeaaGreatDoorRef2
import Derived.Test.YtconceigfommeaaGreatDoorRef3
import Derived.Test.YtconceigfommeaaGreatDoorRef4
import Derived.Test.YtconceigfommeaaGreatDoorLattice
namespace Go.Proofs.YtconceigfommeaaGreatDoor
open Go.RowKit Go.Shelf Go.Lib
open Go.Sort hiding Below
attribute [local go_sem ↓] Go.wp_at_zero Go.wp_at_succ

theorem two_keep {B : Nat} {a b c x y z : Int} {W w1 : World} (h : B + 1 < W.heap.size ∧ W.cell? ⟨B, 0, none⟩ = some (.int .u64 a) ∧ W.cell? ⟨B, 1, none⟩ = some (.int .u64 b) ∧ W.cell? ⟨B, 2, none⟩ = some (.int .u64 c) ∧ W.cell? ⟨B + 1, 0, none⟩ = some (.int .u64 x) ∧ W.cell? ⟨B + 1, 1, none⟩ = some (.int .u64 y) ∧ W.cell? ⟨B + 1, 2, none⟩ = some (.int .u64 z)) (hb : Below W.heap.size W w1) :
    B + 1 < w1.heap.size ∧ w1.cell? ⟨B, 0, none⟩ = some (.int .u64 a) ∧ w1.cell? ⟨B, 1, none⟩ = some (.int .u64 b) ∧ w1.cell? ⟨B, 2, none⟩ = some (.int .u64 c) ∧ w1.cell? ⟨B + 1, 0, none⟩ = some (.int .u64 x) ∧ w1.cell? ⟨B + 1, 1, none⟩ = some (.int .u64 y) ∧ w1.cell? ⟨B + 1, 2, none⟩ = some (.int .u64 z) := by
  obtain ⟨h0, h1, h2, h3, h4, h5, h6⟩ := h
  have z := hb.size
  refine ⟨by omega, ?_, ?_, ?_, ?_, ?_, ?_⟩
  · rw [hb.cell (p := ⟨B, 0, none⟩) (by show B < _; omega)]; exact h1
  · rw [hb.cell (p := ⟨B, 1, none⟩) (by show B < _; omega)]; exact h2
  · rw [hb.cell (p := ⟨B, 2, none⟩) (by show B < _; omega)]; exact h3
  · rw [hb.cell (p := ⟨B + 1, 0, none⟩) h0]; exact h4
  · rw [hb.cell (p := ⟨B + 1, 1, none⟩) h0]; exact h5
  · rw [hb.cell (p := ⟨B + 1, 2, none⟩) h0]; exact h6

set_option maxHeartbeats 4000000 in
set_option maxRecDepth 100000 in
theorem two_any (a b c x y z n : Int) (w : World) (he : Env w) :
    Calls Tryz.prog 5 #[.agg #[.int .u64 a, .int .u64 b, .int .u64 c], .agg #[.int .u64 x, .int .u64 y, .int .u64 z], .int .i64 n] w fun e w' => e = .returned (.bool true) ∧ Below w.heap.size w w' := by
  have heq := fun a b c x y z W => run_eqT a b c x y z W
  have hself : ∀ p q r, teq p q r p q r = true := fun p q r => by simp [teq]
  have hA := fun W => Ahead_any a b c x y z W
  have hA' := fun W => refAhead_any a b c x y z W
  have hC := fun W => Compare_any a b c x y z W
  have hC' := fun W => refCompare_any a b c x y z W
  have hJ := fun W => Join_any a b c x y z W
  have hJ' := fun W => refJoin_any a b c x y z W
  have hM := fun W => Meet_any a b c x y z W
  have hM' := fun W => refMeet_any a b c x y z W
  have hF := fun W => Fits_any a b c n W
  have hF' := fun W => refFits_any a b c n W
  generalize tle a b c x y z = p at *
  generalize tcmp a b c x y z = k at *
  generalize tfits a b c n = f at *
  generalize max a x = j1 at *; generalize max b y = j2 at *; generalize max c z = j3 at *
  generalize min a x = m1 at *; generalize min b y = m2 at *; generalize min c z = m3 at *
  go_enter Tryz.func5, Tryz.ntmps5
  go_wp2
  go_region_held3 (fun w' => w.heap.size + 1 < w'.heap.size ∧ w'.cell? ⟨w.heap.size, 0, none⟩ = some (.int .u64 a) ∧ w'.cell? ⟨w.heap.size, 1, none⟩ = some (.int .u64 b) ∧ w'.cell? ⟨w.heap.size, 2, none⟩ = some (.int .u64 c) ∧ w'.cell? ⟨w.heap.size + 1, 0, none⟩ = some (.int .u64 x) ∧ w'.cell? ⟨w.heap.size + 1, 1, none⟩ = some (.int .u64 y) ∧ w'.cell? ⟨w.heap.size + 1, 2, none⟩ = some (.int .u64 z)) (first | go_keep | exact two_keep (by assumption) (by assumption))
    (first | (go_at_call 7; refine (hA _).mono ?_; rintro e w1 ⟨rfl, hg1⟩; have hb1 := hg1.below) | (go_at_call 16; refine (hA' _).mono ?_; rintro e w2 ⟨rfl, hg2⟩; have hb2 := hg2.below) | (go_at_call 9; refine (hC _).mono ?_; rintro e w3 ⟨rfl, hg3⟩; have hb3 := hg3.below) | (go_at_call 17; refine (hC' _).mono ?_; rintro e w4 ⟨rfl, hg4⟩; have hb4 := hg4.below))
  have B4 : Below w.heap.size w w4 := (((((((Gr.refl _).alloc _).alloc _).drew.trans hg1).trans hg2).trans hg3).trans hg4).below
  clear hb1 hb2 hb3 hb4 hg1 hg2 hg3 hg4 hA hA' hC hC'
  obtain ⟨z4, k0, k1, k2, k3, k4, k5⟩ := ‹w.heap.size + 1 < w4.heap.size ∧ _›
  go_wp2
  go_region_held3 (fun w' => w.heap.size + 1 < w'.heap.size ∧ w'.cell? ⟨w.heap.size, 0, none⟩ = some (.int .u64 a) ∧ w'.cell? ⟨w.heap.size, 1, none⟩ = some (.int .u64 b) ∧ w'.cell? ⟨w.heap.size, 2, none⟩ = some (.int .u64 c) ∧ w'.cell? ⟨w.heap.size + 1, 0, none⟩ = some (.int .u64 x) ∧ w'.cell? ⟨w.heap.size + 1, 1, none⟩ = some (.int .u64 y) ∧ w'.cell? ⟨w.heap.size + 1, 2, none⟩ = some (.int .u64 z)) (first | go_keep | exact two_keep (by assumption) (by assumption))
    (first | (go_at_call 10; refine (hJ _).mono ?_; rintro e w5 ⟨rfl, hb5⟩) | (go_at_call 18; refine (hJ' _).mono ?_; rintro e w6 ⟨rfl, hb6⟩) | (go_at_call 11; refine (hM _).mono ?_; rintro e w7 ⟨rfl, hb7⟩) | (go_at_call 19; refine (hM' _).mono ?_; rintro e w8 ⟨rfl, hb8⟩))
  have B8 : Below w4.heap.size w4 w8 := (((⟨rfl, rfl, rfl, Nat.le_refl _, fun _ _ => rfl⟩ : Below w4.heap.size w4 w4.drew).trans hb5).trans (hb6.mono hb5.size)).trans ((hb7.mono (Nat.le_trans hb5.size hb6.size)).trans (hb8.mono (Nat.le_trans (Nat.le_trans hb5.size hb6.size) hb7.size)))
  have C8 : Below w.heap.size w w8 := B4.trans (B8.mono B4.size)
  clear hb5 hb6 hb7 hb8 hJ hJ' hM hM' k0 k1 k2 k3 k4 k5
  obtain ⟨z8, k0, k1, k2, k3, k4, k5⟩ := ‹w.heap.size + 1 < w8.heap.size ∧ _›
  go_wp2
  go_region_held3 (fun w' => (w.heap.size + 1 < w'.heap.size ∧ w'.cell? ⟨w.heap.size, 0, none⟩ = some (.int .u64 a) ∧ w'.cell? ⟨w.heap.size, 1, none⟩ = some (.int .u64 b) ∧ w'.cell? ⟨w.heap.size, 2, none⟩ = some (.int .u64 c) ∧ w'.cell? ⟨w.heap.size + 1, 0, none⟩ = some (.int .u64 x) ∧ w'.cell? ⟨w.heap.size + 1, 1, none⟩ = some (.int .u64 y) ∧ w'.cell? ⟨w.heap.size + 1, 2, none⟩ = some (.int .u64 z))) (first | go_keep | exact two_keep (by assumption) (by assumption))
    (first | (go_at_call 20; refine (hF _).mono ?_; rintro e w9 ⟨rfl, hg9⟩; have hb9 := hg9.below) | (go_at_call 21; refine (hF' _).mono ?_; rintro e w10 ⟨rfl, hg10⟩; have hb10 := hg10.below) | (go_at_call 8; refine (taken_any _ (he.below (C8.trans ((((Gr.refl _).drew.trans hg9).trans hg10).below.mono C8.size)))).mono ?_; rintro e w11 ⟨rfl, hb11⟩))
  all_goals go_wp2
  all_goals go_ret
  all_goals exact ⟨rfl, (C8.trans ((((Gr.refl _).drew.trans hg9).trans hg10).below.mono C8.size)).trans (hb11.mono (Nat.le_trans C8.size (((Gr.refl _).drew.trans hg9).trans hg10).size))⟩
end Go.Proofs.YtconceigfommeaaGreatDoor
