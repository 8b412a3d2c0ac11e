import Derived.Test.YtconceigfommeaaGreatDoorRef1
namespace Go.Proofs.YtconceigfommeaaGreatDoor
open Go.RowKit Go.Sort
attribute [local go_sem ↓] Go.wp_at_zero Go.wp_at_succ

theorem below_drewN'' {B : Nat} {a w : World} (h : Below B a w) (n : Nat) : Below B a (w.drewN n) := ⟨h.os, h.tape, h.output, h.size, h.block⟩

set_option maxHeartbeats 1000000 in
set_option maxRecDepth 100000 in
theorem reftime_any (a b c : Int) (bk cap : Nat) (w : World) (hb : bk < w.heap.size) (h0 : w.cell? ⟨bk, 0, none⟩ = some (.int .u64 a)) (h1 : w.cell? ⟨bk, 1, none⟩ = some (.int .u64 b)) (h2 : w.cell? ⟨bk, 2, none⟩ = some (.int .u64 c)) :
    Calls Tryz.prog 46 #[.slice (some ⟨bk, 0, none⟩) 3 cap] w fun e w' => e = .returned (.agg #[.int .u64 a, .int .u64 b, .int .u64 c]) ∧ Gr w w' := by
  have hne : bk ≠ w.heap.size := by omega
  go_enter Tryz.func46, Tryz.ntmps46
  go_wp2
  go_region_held3 (fun w' => w'.cell? ⟨bk, 0, none⟩ = some (.int .u64 a) ∧ w'.cell? ⟨bk, 1, none⟩ = some (.int .u64 b) ∧ w'.cell? ⟨bk, 2, none⟩ = some (.int .u64 c)) (go_keep) (fail)
  go_wp2
  exact bodyPost_ret (v := .agg #[.int .u64 a, .int .u64 b, .int .u64 c]) (by simp [results, Tryz.results46, go_sem]) rfl ⟨rfl, ((Gr.refl _).alloc _).drew⟩

set_option maxHeartbeats 1000000 in
set_option maxRecDepth 100000 in
theorem refJoin_0 (a b c x y z : Int) (w : World) (h0 : ¬ a < x) (h1 : ¬ b < y) (h2 : ¬ c < z) :
    Calls Tryz.prog 18 #[.agg #[.int .u64 a, .int .u64 b, .int .u64 c], .agg #[.int .u64 x, .int .u64 y, .int .u64 z]] w fun e w' => e = .returned (.agg #[.int .u64 a, .int .u64 b, .int .u64 c]) ∧ Below w.heap.size w w' := by
  have hN := fun a b c W => numbers_any a b c W
  go_enter Tryz.func18, Tryz.ntmps18
  go_wp2_with (go_at_call 42; refine (hN _ _ _ _).mono ?_; rintro e w1 ⟨rfl, rfl⟩)
  refine wp_loop_rounds 4 ?_
  rw [rounds_succ]; go_wp2
  go_quiet (fail)
  go_wp2
  rw [rounds_succ]; go_wp2
  go_quiet (fail)
  go_wp2
  rw [rounds_succ]; go_wp2
  go_quiet (fail)
  go_wp2
  rw [rounds_succ]; go_wp2_with fail
  refine (reftime_any a b c _ 3 _ (by simp) (by go_simp) (by go_simp) (by go_simp)).mono ?_
  rintro e w9 ⟨rfl, hg9⟩
  obtain ⟨hc9, hf9⟩ := hg9.cells
  have r0 : w9.cell? ⟨w.heap.size + 1 + 1, 0, none⟩ = some (.int .u64 0) := by rw [hc9 _ _ (by simp)]; go_simp
  have s0 : w9.frozen? ⟨w.heap.size + 1 + 1, 0, none⟩ = false := by rw [hf9 _ _ (by simp)]; go_simp
  have r1 : w9.cell? ⟨w.heap.size + 1 + 1, 1, none⟩ = some (.int .u64 0) := by rw [hc9 _ _ (by simp)]; go_simp
  have s1 : w9.frozen? ⟨w.heap.size + 1 + 1, 1, none⟩ = false := by rw [hf9 _ _ (by simp)]; go_simp
  have r2 : w9.cell? ⟨w.heap.size + 1 + 1, 2, none⟩ = some (.int .u64 0) := by rw [hc9 _ _ (by simp)]; go_simp
  have s2 : w9.frozen? ⟨w.heap.size + 1 + 1, 2, none⟩ = false := by rw [hf9 _ _ (by simp)]; go_simp
  have hB : Below w.heap.size w w9 := Below.trans (by repeat (first | exact Below.refl _ _ | refine below_drewN'' ?_ _ | refine Below.setCell ?_ (by show w.heap.size ≤ w.heap.size + 1 + 1 + 1 + 1; omega) _ | refine Below.alloc ?_ (by simp <;> omega) _)) (hg9.below.mono (by simp <;> omega))
  clear hc9 hf9 hg9
  go_wp2
  refine bodyPost_ret (v := .agg #[.int .u64 a, .int .u64 b, .int .u64 c]) (by simp [results, Tryz.results18, go_sem, *]) rfl ⟨rfl, ?_⟩
  have q : w.heap.size ≤ w.heap.size + 1 + 1 := by omega
  exact ((hB.setCell q _).setCell q _).setCell q _

set_option maxHeartbeats 1000000 in
set_option maxRecDepth 100000 in
theorem refJoin_1 (a b c x y z : Int) (w : World) (h0 : a < x) (h1 : ¬ b < y) (h2 : ¬ c < z) :
    Calls Tryz.prog 18 #[.agg #[.int .u64 a, .int .u64 b, .int .u64 c], .agg #[.int .u64 x, .int .u64 y, .int .u64 z]] w fun e w' => e = .returned (.agg #[.int .u64 x, .int .u64 b, .int .u64 c]) ∧ Below w.heap.size w w' := by
  have hN := fun a b c W => numbers_any a b c W
  go_enter Tryz.func18, Tryz.ntmps18
  go_wp2_with (go_at_call 42; refine (hN _ _ _ _).mono ?_; rintro e w1 ⟨rfl, rfl⟩)
  refine wp_loop_rounds 4 ?_
  rw [rounds_succ]; go_wp2
  go_quiet (fail)
  go_wp2
  rw [rounds_succ]; go_wp2
  go_quiet (fail)
  go_wp2
  rw [rounds_succ]; go_wp2
  go_quiet (fail)
  go_wp2
  rw [rounds_succ]; go_wp2_with fail
  refine (reftime_any x b c _ 3 _ (by simp) (by go_simp) (by go_simp) (by go_simp)).mono ?_
  rintro e w9 ⟨rfl, hg9⟩
  obtain ⟨hc9, hf9⟩ := hg9.cells
  have r0 : w9.cell? ⟨w.heap.size + 1 + 1, 0, none⟩ = some (.int .u64 0) := by rw [hc9 _ _ (by simp)]; go_simp
  have s0 : w9.frozen? ⟨w.heap.size + 1 + 1, 0, none⟩ = false := by rw [hf9 _ _ (by simp)]; go_simp
  have r1 : w9.cell? ⟨w.heap.size + 1 + 1, 1, none⟩ = some (.int .u64 0) := by rw [hc9 _ _ (by simp)]; go_simp
  have s1 : w9.frozen? ⟨w.heap.size + 1 + 1, 1, none⟩ = false := by rw [hf9 _ _ (by simp)]; go_simp
  have r2 : w9.cell? ⟨w.heap.size + 1 + 1, 2, none⟩ = some (.int .u64 0) := by rw [hc9 _ _ (by simp)]; go_simp
  have s2 : w9.frozen? ⟨w.heap.size + 1 + 1, 2, none⟩ = false := by rw [hf9 _ _ (by simp)]; go_simp
  have hB : Below w.heap.size w w9 := Below.trans (by repeat (first | exact Below.refl _ _ | refine below_drewN'' ?_ _ | refine Below.setCell ?_ (by show w.heap.size ≤ w.heap.size + 1 + 1 + 1 + 1; omega) _ | refine Below.alloc ?_ (by simp <;> omega) _)) (hg9.below.mono (by simp <;> omega))
  clear hc9 hf9 hg9
  go_wp2
  refine bodyPost_ret (v := .agg #[.int .u64 x, .int .u64 b, .int .u64 c]) (by simp [results, Tryz.results18, go_sem, *]) rfl ⟨rfl, ?_⟩
  have q : w.heap.size ≤ w.heap.size + 1 + 1 := by omega
  exact ((hB.setCell q _).setCell q _).setCell q _

set_option maxHeartbeats 1000000 in
set_option maxRecDepth 100000 in
theorem refJoin_2 (a b c x y z : Int) (w : World) (h0 : ¬ a < x) (h1 : b < y) (h2 : ¬ c < z) :
    Calls Tryz.prog 18 #[.agg #[.int .u64 a, .int .u64 b, .int .u64 c], .agg #[.int .u64 x, .int .u64 y, .int .u64 z]] w fun e w' => e = .returned (.agg #[.int .u64 a, .int .u64 y, .int .u64 c]) ∧ Below w.heap.size w w' := by
  have hN := fun a b c W => numbers_any a b c W
  go_enter Tryz.func18, Tryz.ntmps18
  go_wp2_with (go_at_call 42; refine (hN _ _ _ _).mono ?_; rintro e w1 ⟨rfl, rfl⟩)
  refine wp_loop_rounds 4 ?_
  rw [rounds_succ]; go_wp2
  go_quiet (fail)
  go_wp2
  rw [rounds_succ]; go_wp2
  go_quiet (fail)
  go_wp2
  rw [rounds_succ]; go_wp2
  go_quiet (fail)
  go_wp2
  rw [rounds_succ]; go_wp2_with fail
  refine (reftime_any a y c _ 3 _ (by simp) (by go_simp) (by go_simp) (by go_simp)).mono ?_
  rintro e w9 ⟨rfl, hg9⟩
  obtain ⟨hc9, hf9⟩ := hg9.cells
  have r0 : w9.cell? ⟨w.heap.size + 1 + 1, 0, none⟩ = some (.int .u64 0) := by rw [hc9 _ _ (by simp)]; go_simp
  have s0 : w9.frozen? ⟨w.heap.size + 1 + 1, 0, none⟩ = false := by rw [hf9 _ _ (by simp)]; go_simp
  have r1 : w9.cell? ⟨w.heap.size + 1 + 1, 1, none⟩ = some (.int .u64 0) := by rw [hc9 _ _ (by simp)]; go_simp
  have s1 : w9.frozen? ⟨w.heap.size + 1 + 1, 1, none⟩ = false := by rw [hf9 _ _ (by simp)]; go_simp
  have r2 : w9.cell? ⟨w.heap.size + 1 + 1, 2, none⟩ = some (.int .u64 0) := by rw [hc9 _ _ (by simp)]; go_simp
  have s2 : w9.frozen? ⟨w.heap.size + 1 + 1, 2, none⟩ = false := by rw [hf9 _ _ (by simp)]; go_simp
  have hB : Below w.heap.size w w9 := Below.trans (by repeat (first | exact Below.refl _ _ | refine below_drewN'' ?_ _ | refine Below.setCell ?_ (by show w.heap.size ≤ w.heap.size + 1 + 1 + 1 + 1; omega) _ | refine Below.alloc ?_ (by simp <;> omega) _)) (hg9.below.mono (by simp <;> omega))
  clear hc9 hf9 hg9
  go_wp2
  refine bodyPost_ret (v := .agg #[.int .u64 a, .int .u64 y, .int .u64 c]) (by simp [results, Tryz.results18, go_sem, *]) rfl ⟨rfl, ?_⟩
  have q : w.heap.size ≤ w.heap.size + 1 + 1 := by omega
  exact ((hB.setCell q _).setCell q _).setCell q _

set_option maxHeartbeats 1000000 in
set_option maxRecDepth 100000 in
theorem refJoin_3 (a b c x y z : Int) (w : World) (h0 : a < x) (h1 : b < y) (h2 : ¬ c < z) :
    Calls Tryz.prog 18 #[.agg #[.int .u64 a, .int .u64 b, .int .u64 c], .agg #[.int .u64 x, .int .u64 y, .int .u64 z]] w fun e w' => e = .returned (.agg #[.int .u64 x, .int .u64 y, .int .u64 c]) ∧ Below w.heap.size w w' := by
  have hN := fun a b c W => numbers_any a b c W
  go_enter Tryz.func18, Tryz.ntmps18
  go_wp2_with (go_at_call 42; refine (hN _ _ _ _).mono ?_; rintro e w1 ⟨rfl, rfl⟩)
  refine wp_loop_rounds 4 ?_
  rw [rounds_succ]; go_wp2
  go_quiet (fail)
  go_wp2
  rw [rounds_succ]; go_wp2
  go_quiet (fail)
  go_wp2
  rw [rounds_succ]; go_wp2
  go_quiet (fail)
  go_wp2
  rw [rounds_succ]; go_wp2_with fail
  refine (reftime_any x y c _ 3 _ (by simp) (by go_simp) (by go_simp) (by go_simp)).mono ?_
  rintro e w9 ⟨rfl, hg9⟩
  obtain ⟨hc9, hf9⟩ := hg9.cells
  have r0 : w9.cell? ⟨w.heap.size + 1 + 1, 0, none⟩ = some (.int .u64 0) := by rw [hc9 _ _ (by simp)]; go_simp
  have s0 : w9.frozen? ⟨w.heap.size + 1 + 1, 0, none⟩ = false := by rw [hf9 _ _ (by simp)]; go_simp
  have r1 : w9.cell? ⟨w.heap.size + 1 + 1, 1, none⟩ = some (.int .u64 0) := by rw [hc9 _ _ (by simp)]; go_simp
  have s1 : w9.frozen? ⟨w.heap.size + 1 + 1, 1, none⟩ = false := by rw [hf9 _ _ (by simp)]; go_simp
  have r2 : w9.cell? ⟨w.heap.size + 1 + 1, 2, none⟩ = some (.int .u64 0) := by rw [hc9 _ _ (by simp)]; go_simp
  have s2 : w9.frozen? ⟨w.heap.size + 1 + 1, 2, none⟩ = false := by rw [hf9 _ _ (by simp)]; go_simp
  have hB : Below w.heap.size w w9 := Below.trans (by repeat (first | exact Below.refl _ _ | refine below_drewN'' ?_ _ | refine Below.setCell ?_ (by show w.heap.size ≤ w.heap.size + 1 + 1 + 1 + 1; omega) _ | refine Below.alloc ?_ (by simp <;> omega) _)) (hg9.below.mono (by simp <;> omega))
  clear hc9 hf9 hg9
  go_wp2
  refine bodyPost_ret (v := .agg #[.int .u64 x, .int .u64 y, .int .u64 c]) (by simp [results, Tryz.results18, go_sem, *]) rfl ⟨rfl, ?_⟩
  have q : w.heap.size ≤ w.heap.size + 1 + 1 := by omega
  exact ((hB.setCell q _).setCell q _).setCell q _

set_option maxHeartbeats 1000000 in
set_option maxRecDepth 100000 in
theorem refJoin_4 (a b c x y z : Int) (w : World) (h0 : ¬ a < x) (h1 : ¬ b < y) (h2 : c < z) :
    Calls Tryz.prog 18 #[.agg #[.int .u64 a, .int .u64 b, .int .u64 c], .agg #[.int .u64 x, .int .u64 y, .int .u64 z]] w fun e w' => e = .returned (.agg #[.int .u64 a, .int .u64 b, .int .u64 z]) ∧ Below w.heap.size w w' := by
  have hN := fun a b c W => numbers_any a b c W
  go_enter Tryz.func18, Tryz.ntmps18
  go_wp2_with (go_at_call 42; refine (hN _ _ _ _).mono ?_; rintro e w1 ⟨rfl, rfl⟩)
  refine wp_loop_rounds 4 ?_
  rw [rounds_succ]; go_wp2
  go_quiet (fail)
  go_wp2
  rw [rounds_succ]; go_wp2
  go_quiet (fail)
  go_wp2
  rw [rounds_succ]; go_wp2
  go_quiet (fail)
  go_wp2
  rw [rounds_succ]; go_wp2_with fail
  refine (reftime_any a b z _ 3 _ (by simp) (by go_simp) (by go_simp) (by go_simp)).mono ?_
  rintro e w9 ⟨rfl, hg9⟩
  obtain ⟨hc9, hf9⟩ := hg9.cells
  have r0 : w9.cell? ⟨w.heap.size + 1 + 1, 0, none⟩ = some (.int .u64 0) := by rw [hc9 _ _ (by simp)]; go_simp
  have s0 : w9.frozen? ⟨w.heap.size + 1 + 1, 0, none⟩ = false := by rw [hf9 _ _ (by simp)]; go_simp
  have r1 : w9.cell? ⟨w.heap.size + 1 + 1, 1, none⟩ = some (.int .u64 0) := by rw [hc9 _ _ (by simp)]; go_simp
  have s1 : w9.frozen? ⟨w.heap.size + 1 + 1, 1, none⟩ = false := by rw [hf9 _ _ (by simp)]; go_simp
  have r2 : w9.cell? ⟨w.heap.size + 1 + 1, 2, none⟩ = some (.int .u64 0) := by rw [hc9 _ _ (by simp)]; go_simp
  have s2 : w9.frozen? ⟨w.heap.size + 1 + 1, 2, none⟩ = false := by rw [hf9 _ _ (by simp)]; go_simp
  have hB : Below w.heap.size w w9 := Below.trans (by repeat (first | exact Below.refl _ _ | refine below_drewN'' ?_ _ | refine Below.setCell ?_ (by show w.heap.size ≤ w.heap.size + 1 + 1 + 1 + 1; omega) _ | refine Below.alloc ?_ (by simp <;> omega) _)) (hg9.below.mono (by simp <;> omega))
  clear hc9 hf9 hg9
  go_wp2
  refine bodyPost_ret (v := .agg #[.int .u64 a, .int .u64 b, .int .u64 z]) (by simp [results, Tryz.results18, go_sem, *]) rfl ⟨rfl, ?_⟩
  have q : w.heap.size ≤ w.heap.size + 1 + 1 := by omega
  exact ((hB.setCell q _).setCell q _).setCell q _

set_option maxHeartbeats 1000000 in
set_option maxRecDepth 100000 in
theorem refJoin_5 (a b c x y z : Int) (w : World) (h0 : a < x) (h1 : ¬ b < y) (h2 : c < z) :
    Calls Tryz.prog 18 #[.agg #[.int .u64 a, .int .u64 b, .int .u64 c], .agg #[.int .u64 x, .int .u64 y, .int .u64 z]] w fun e w' => e = .returned (.agg #[.int .u64 x, .int .u64 b, .int .u64 z]) ∧ Below w.heap.size w w' := by
  have hN := fun a b c W => numbers_any a b c W
  go_enter Tryz.func18, Tryz.ntmps18
  go_wp2_with (go_at_call 42; refine (hN _ _ _ _).mono ?_; rintro e w1 ⟨rfl, rfl⟩)
  refine wp_loop_rounds 4 ?_
  rw [rounds_succ]; go_wp2
  go_quiet (fail)
  go_wp2
  rw [rounds_succ]; go_wp2
  go_quiet (fail)
  go_wp2
  rw [rounds_succ]; go_wp2
  go_quiet (fail)
  go_wp2
  rw [rounds_succ]; go_wp2_with fail
  refine (reftime_any x b z _ 3 _ (by simp) (by go_simp) (by go_simp) (by go_simp)).mono ?_
  rintro e w9 ⟨rfl, hg9⟩
  obtain ⟨hc9, hf9⟩ := hg9.cells
  have r0 : w9.cell? ⟨w.heap.size + 1 + 1, 0, none⟩ = some (.int .u64 0) := by rw [hc9 _ _ (by simp)]; go_simp
  have s0 : w9.frozen? ⟨w.heap.size + 1 + 1, 0, none⟩ = false := by rw [hf9 _ _ (by simp)]; go_simp
  have r1 : w9.cell? ⟨w.heap.size + 1 + 1, 1, none⟩ = some (.int .u64 0) := by rw [hc9 _ _ (by simp)]; go_simp
  have s1 : w9.frozen? ⟨w.heap.size + 1 + 1, 1, none⟩ = false := by rw [hf9 _ _ (by simp)]; go_simp
  have r2 : w9.cell? ⟨w.heap.size + 1 + 1, 2, none⟩ = some (.int .u64 0) := by rw [hc9 _ _ (by simp)]; go_simp
  have s2 : w9.frozen? ⟨w.heap.size + 1 + 1, 2, none⟩ = false := by rw [hf9 _ _ (by simp)]; go_simp
  have hB : Below w.heap.size w w9 := Below.trans (by repeat (first | exact Below.refl _ _ | refine below_drewN'' ?_ _ | refine Below.setCell ?_ (by show w.heap.size ≤ w.heap.size + 1 + 1 + 1 + 1; omega) _ | refine Below.alloc ?_ (by simp <;> omega) _)) (hg9.below.mono (by simp <;> omega))
  clear hc9 hf9 hg9
  go_wp2
  refine bodyPost_ret (v := .agg #[.int .u64 x, .int .u64 b, .int .u64 z]) (by simp [results, Tryz.results18, go_sem, *]) rfl ⟨rfl, ?_⟩
  have q : w.heap.size ≤ w.heap.size + 1 + 1 := by omega
  exact ((hB.setCell q _).setCell q _).setCell q _

set_option maxHeartbeats 1000000 in
set_option maxRecDepth 100000 in
theorem refJoin_6 (a b c x y z : Int) (w : World) (h0 : ¬ a < x) (h1 : b < y) (h2 : c < z) :
    Calls Tryz.prog 18 #[.agg #[.int .u64 a, .int .u64 b, .int .u64 c], .agg #[.int .u64 x, .int .u64 y, .int .u64 z]] w fun e w' => e = .returned (.agg #[.int .u64 a, .int .u64 y, .int .u64 z]) ∧ Below w.heap.size w w' := by
  have hN := fun a b c W => numbers_any a b c W
  go_enter Tryz.func18, Tryz.ntmps18
  go_wp2_with (go_at_call 42; refine (hN _ _ _ _).mono ?_; rintro e w1 ⟨rfl, rfl⟩)
  refine wp_loop_rounds 4 ?_
  rw [rounds_succ]; go_wp2
  go_quiet (fail)
  go_wp2
  rw [rounds_succ]; go_wp2
  go_quiet (fail)
  go_wp2
  rw [rounds_succ]; go_wp2
  go_quiet (fail)
  go_wp2
  rw [rounds_succ]; go_wp2_with fail
  refine (reftime_any a y z _ 3 _ (by simp) (by go_simp) (by go_simp) (by go_simp)).mono ?_
  rintro e w9 ⟨rfl, hg9⟩
  obtain ⟨hc9, hf9⟩ := hg9.cells
  have r0 : w9.cell? ⟨w.heap.size + 1 + 1, 0, none⟩ = some (.int .u64 0) := by rw [hc9 _ _ (by simp)]; go_simp
  have s0 : w9.frozen? ⟨w.heap.size + 1 + 1, 0, none⟩ = false := by rw [hf9 _ _ (by simp)]; go_simp
  have r1 : w9.cell? ⟨w.heap.size + 1 + 1, 1, none⟩ = some (.int .u64 0) := by rw [hc9 _ _ (by simp)]; go_simp
  have s1 : w9.frozen? ⟨w.heap.size + 1 + 1, 1, none⟩ = false := by rw [hf9 _ _ (by simp)]; go_simp
  have r2 : w9.cell? ⟨w.heap.size + 1 + 1, 2, none⟩ = some (.int .u64 0) := by rw [hc9 _ _ (by simp)]; go_simp
  have s2 : w9.frozen? ⟨w.heap.size + 1 + 1, 2, none⟩ = false := by rw [hf9 _ _ (by simp)]; go_simp
  have hB : Below w.heap.size w w9 := Below.trans (by repeat (first | exact Below.refl _ _ | refine below_drewN'' ?_ _ | refine Below.setCell ?_ (by show w.heap.size ≤ w.heap.size + 1 + 1 + 1 + 1; omega) _ | refine Below.alloc ?_ (by simp <;> omega) _)) (hg9.below.mono (by simp <;> omega))
  clear hc9 hf9 hg9
  go_wp2
  refine bodyPost_ret (v := .agg #[.int .u64 a, .int .u64 y, .int .u64 z]) (by simp [results, Tryz.results18, go_sem, *]) rfl ⟨rfl, ?_⟩
  have q : w.heap.size ≤ w.heap.size + 1 + 1 := by omega
  exact ((hB.setCell q _).setCell q _).setCell q _

set_option maxHeartbeats 1000000 in
set_option maxRecDepth 100000 in
theorem refJoin_7 (a b c x y z : Int) (w : World) (h0 : a < x) (h1 : b < y) (h2 : c < z) :
    Calls Tryz.prog 18 #[.agg #[.int .u64 a, .int .u64 b, .int .u64 c], .agg #[.int .u64 x, .int .u64 y, .int .u64 z]] w fun e w' => e = .returned (.agg #[.int .u64 x, .int .u64 y, .int .u64 z]) ∧ Below w.heap.size w w' := by
  have hN := fun a b c W => numbers_any a b c W
  go_enter Tryz.func18, Tryz.ntmps18
  go_wp2_with (go_at_call 42; refine (hN _ _ _ _).mono ?_; rintro e w1 ⟨rfl, rfl⟩)
  refine wp_loop_rounds 4 ?_
  rw [rounds_succ]; go_wp2
  go_quiet (fail)
  go_wp2
  rw [rounds_succ]; go_wp2
  go_quiet (fail)
  go_wp2
  rw [rounds_succ]; go_wp2
  go_quiet (fail)
  go_wp2
  rw [rounds_succ]; go_wp2_with fail
  refine (reftime_any x y z _ 3 _ (by simp) (by go_simp) (by go_simp) (by go_simp)).mono ?_
  rintro e w9 ⟨rfl, hg9⟩
  obtain ⟨hc9, hf9⟩ := hg9.cells
  have r0 : w9.cell? ⟨w.heap.size + 1 + 1, 0, none⟩ = some (.int .u64 0) := by rw [hc9 _ _ (by simp)]; go_simp
  have s0 : w9.frozen? ⟨w.heap.size + 1 + 1, 0, none⟩ = false := by rw [hf9 _ _ (by simp)]; go_simp
  have r1 : w9.cell? ⟨w.heap.size + 1 + 1, 1, none⟩ = some (.int .u64 0) := by rw [hc9 _ _ (by simp)]; go_simp
  have s1 : w9.frozen? ⟨w.heap.size + 1 + 1, 1, none⟩ = false := by rw [hf9 _ _ (by simp)]; go_simp
  have r2 : w9.cell? ⟨w.heap.size + 1 + 1, 2, none⟩ = some (.int .u64 0) := by rw [hc9 _ _ (by simp)]; go_simp
  have s2 : w9.frozen? ⟨w.heap.size + 1 + 1, 2, none⟩ = false := by rw [hf9 _ _ (by simp)]; go_simp
  have hB : Below w.heap.size w w9 := Below.trans (by repeat (first | exact Below.refl _ _ | refine below_drewN'' ?_ _ | refine Below.setCell ?_ (by show w.heap.size ≤ w.heap.size + 1 + 1 + 1 + 1; omega) _ | refine Below.alloc ?_ (by simp <;> omega) _)) (hg9.below.mono (by simp <;> omega))
  clear hc9 hf9 hg9
  go_wp2
  refine bodyPost_ret (v := .agg #[.int .u64 x, .int .u64 y, .int .u64 z]) (by simp [results, Tryz.results18, go_sem, *]) rfl ⟨rfl, ?_⟩
  have q : w.heap.size ≤ w.heap.size + 1 + 1 := by omega
  exact ((hB.setCell q _).setCell q _).setCell q _

theorem refJoin_any (a b c x y z : Int) (w : World) :
    Calls Tryz.prog 18 #[.agg #[.int .u64 a, .int .u64 b, .int .u64 c], .agg #[.int .u64 x, .int .u64 y, .int .u64 z]] w fun e w' => e = .returned (.agg #[.int .u64 (max a x), .int .u64 (max b y), .int .u64 (max c z)]) ∧ Below w.heap.size w w' := by
  by_cases h0 : a < x
  · by_cases h1 : b < y
    · by_cases h2 : c < z
      · have e0 : max a x = x := by omega
        have e1 : max b y = y := by omega
        have e2 : max c z = z := by omega
        rw [e0, e1, e2]; exact refJoin_7 a b c x y z w h0 h1 h2
      · have e0 : max a x = x := by omega
        have e1 : max b y = y := by omega
        have e2 : max c z = c := by omega
        rw [e0, e1, e2]; exact refJoin_3 a b c x y z w h0 h1 h2
    · by_cases h2 : c < z
      · have e0 : max a x = x := by omega
        have e1 : max b y = b := by omega
        have e2 : max c z = z := by omega
        rw [e0, e1, e2]; exact refJoin_5 a b c x y z w h0 h1 h2
      · have e0 : max a x = x := by omega
        have e1 : max b y = b := by omega
        have e2 : max c z = c := by omega
        rw [e0, e1, e2]; exact refJoin_1 a b c x y z w h0 h1 h2
  · by_cases h1 : b < y
    · by_cases h2 : c < z
      · have e0 : max a x = a := by omega
        have e1 : max b y = y := by omega
        have e2 : max c z = z := by omega
        rw [e0, e1, e2]; exact refJoin_6 a b c x y z w h0 h1 h2
      · have e0 : max a x = a := by omega
        have e1 : max b y = y := by omega
        have e2 : max c z = c := by omega
        rw [e0, e1, e2]; exact refJoin_2 a b c x y z w h0 h1 h2
    · by_cases h2 : c < z
      · have e0 : max a x = a := by omega
        have e1 : max b y = b := by omega
        have e2 : max c z = z := by omega
        rw [e0, e1, e2]; exact refJoin_4 a b c x y z w h0 h1 h2
      · have e0 : max a x = a := by omega
        have e1 : max b y = b := by omega
        have e2 : max c z = c := by omega
        rw [e0, e1, e2]; exact refJoin_0 a b c x y z w h0 h1 h2

set_option maxHeartbeats 1000000 in
set_option maxRecDepth 100000 in
theorem refMeet_0 (a b c x y z : Int) (w : World) (h0 : ¬ x < a) (h1 : ¬ y < b) (h2 : ¬ z < c) :
    Calls Tryz.prog 19 #[.agg #[.int .u64 a, .int .u64 b, .int .u64 c], .agg #[.int .u64 x, .int .u64 y, .int .u64 z]] w fun e w' => e = .returned (.agg #[.int .u64 a, .int .u64 b, .int .u64 c]) ∧ Below w.heap.size w w' := by
  have hN := fun a b c W => numbers_any a b c W
  go_enter Tryz.func19, Tryz.ntmps19
  go_wp2_with (go_at_call 42; refine (hN _ _ _ _).mono ?_; rintro e w1 ⟨rfl, rfl⟩)
  refine wp_loop_rounds 4 ?_
  rw [rounds_succ]; go_wp2
  go_quiet (fail)
  go_wp2
  rw [rounds_succ]; go_wp2
  go_quiet (fail)
  go_wp2
  rw [rounds_succ]; go_wp2
  go_quiet (fail)
  go_wp2
  rw [rounds_succ]; go_wp2_with fail
  refine (reftime_any a b c _ 3 _ (by simp) (by go_simp) (by go_simp) (by go_simp)).mono ?_
  rintro e w9 ⟨rfl, hg9⟩
  obtain ⟨hc9, hf9⟩ := hg9.cells
  have r0 : w9.cell? ⟨w.heap.size + 1 + 1, 0, none⟩ = some (.int .u64 0) := by rw [hc9 _ _ (by simp)]; go_simp
  have s0 : w9.frozen? ⟨w.heap.size + 1 + 1, 0, none⟩ = false := by rw [hf9 _ _ (by simp)]; go_simp
  have r1 : w9.cell? ⟨w.heap.size + 1 + 1, 1, none⟩ = some (.int .u64 0) := by rw [hc9 _ _ (by simp)]; go_simp
  have s1 : w9.frozen? ⟨w.heap.size + 1 + 1, 1, none⟩ = false := by rw [hf9 _ _ (by simp)]; go_simp
  have r2 : w9.cell? ⟨w.heap.size + 1 + 1, 2, none⟩ = some (.int .u64 0) := by rw [hc9 _ _ (by simp)]; go_simp
  have s2 : w9.frozen? ⟨w.heap.size + 1 + 1, 2, none⟩ = false := by rw [hf9 _ _ (by simp)]; go_simp
  have hB : Below w.heap.size w w9 := Below.trans (by repeat (first | exact Below.refl _ _ | refine below_drewN'' ?_ _ | refine Below.setCell ?_ (by show w.heap.size ≤ w.heap.size + 1 + 1 + 1 + 1; omega) _ | refine Below.alloc ?_ (by simp <;> omega) _)) (hg9.below.mono (by simp <;> omega))
  clear hc9 hf9 hg9
  go_wp2
  refine bodyPost_ret (v := .agg #[.int .u64 a, .int .u64 b, .int .u64 c]) (by simp [results, Tryz.results19, go_sem, *]) rfl ⟨rfl, ?_⟩
  have q : w.heap.size ≤ w.heap.size + 1 + 1 := by omega
  exact ((hB.setCell q _).setCell q _).setCell q _

set_option maxHeartbeats 1000000 in
set_option maxRecDepth 100000 in
theorem refMeet_1 (a b c x y z : Int) (w : World) (h0 : x < a) (h1 : ¬ y < b) (h2 : ¬ z < c) :
    Calls Tryz.prog 19 #[.agg #[.int .u64 a, .int .u64 b, .int .u64 c], .agg #[.int .u64 x, .int .u64 y, .int .u64 z]] w fun e w' => e = .returned (.agg #[.int .u64 x, .int .u64 b, .int .u64 c]) ∧ Below w.heap.size w w' := by
  have hN := fun a b c W => numbers_any a b c W
  go_enter Tryz.func19, Tryz.ntmps19
  go_wp2_with (go_at_call 42; refine (hN _ _ _ _).mono ?_; rintro e w1 ⟨rfl, rfl⟩)
  refine wp_loop_rounds 4 ?_
  rw [rounds_succ]; go_wp2
  go_quiet (fail)
  go_wp2
  rw [rounds_succ]; go_wp2
  go_quiet (fail)
  go_wp2
  rw [rounds_succ]; go_wp2
  go_quiet (fail)
  go_wp2
  rw [rounds_succ]; go_wp2_with fail
  refine (reftime_any x b c _ 3 _ (by simp) (by go_simp) (by go_simp) (by go_simp)).mono ?_
  rintro e w9 ⟨rfl, hg9⟩
  obtain ⟨hc9, hf9⟩ := hg9.cells
  have r0 : w9.cell? ⟨w.heap.size + 1 + 1, 0, none⟩ = some (.int .u64 0) := by rw [hc9 _ _ (by simp)]; go_simp
  have s0 : w9.frozen? ⟨w.heap.size + 1 + 1, 0, none⟩ = false := by rw [hf9 _ _ (by simp)]; go_simp
  have r1 : w9.cell? ⟨w.heap.size + 1 + 1, 1, none⟩ = some (.int .u64 0) := by rw [hc9 _ _ (by simp)]; go_simp
  have s1 : w9.frozen? ⟨w.heap.size + 1 + 1, 1, none⟩ = false := by rw [hf9 _ _ (by simp)]; go_simp
  have r2 : w9.cell? ⟨w.heap.size + 1 + 1, 2, none⟩ = some (.int .u64 0) := by rw [hc9 _ _ (by simp)]; go_simp
  have s2 : w9.frozen? ⟨w.heap.size + 1 + 1, 2, none⟩ = false := by rw [hf9 _ _ (by simp)]; go_simp
  have hB : Below w.heap.size w w9 := Below.trans (by repeat (first | exact Below.refl _ _ | refine below_drewN'' ?_ _ | refine Below.setCell ?_ (by show w.heap.size ≤ w.heap.size + 1 + 1 + 1 + 1; omega) _ | refine Below.alloc ?_ (by simp <;> omega) _)) (hg9.below.mono (by simp <;> omega))
  clear hc9 hf9 hg9
  go_wp2
  refine bodyPost_ret (v := .agg #[.int .u64 x, .int .u64 b, .int .u64 c]) (by simp [results, Tryz.results19, go_sem, *]) rfl ⟨rfl, ?_⟩
  have q : w.heap.size ≤ w.heap.size + 1 + 1 := by omega
  exact ((hB.setCell q _).setCell q _).setCell q _

set_option maxHeartbeats 1000000 in
set_option maxRecDepth 100000 in
theorem refMeet_2 (a b c x y z : Int) (w : World) (h0 : ¬ x < a) (h1 : y < b) (h2 : ¬ z < c) :
    Calls Tryz.prog 19 #[.agg #[.int .u64 a, .int .u64 b, .int .u64 c], .agg #[.int .u64 x, .int .u64 y, .int .u64 z]] w fun e w' => e = .returned (.agg #[.int .u64 a, .int .u64 y, .int .u64 c]) ∧ Below w.heap.size w w' := by
  have hN := fun a b c W => numbers_any a b c W
  go_enter Tryz.func19, Tryz.ntmps19
  go_wp2_with (go_at_call 42; refine (hN _ _ _ _).mono ?_; rintro e w1 ⟨rfl, rfl⟩)
  refine wp_loop_rounds 4 ?_
  rw [rounds_succ]; go_wp2
  go_quiet (fail)
  go_wp2
  rw [rounds_succ]; go_wp2
  go_quiet (fail)
  go_wp2
  rw [rounds_succ]; go_wp2
  go_quiet (fail)
  go_wp2
  rw [rounds_succ]; go_wp2_with fail
  refine (reftime_any a y c _ 3 _ (by simp) (by go_simp) (by go_simp) (by go_simp)).mono ?_
  rintro e w9 ⟨rfl, hg9⟩
  obtain ⟨hc9, hf9⟩ := hg9.cells
  have r0 : w9.cell? ⟨w.heap.size + 1 + 1, 0, none⟩ = some (.int .u64 0) := by rw [hc9 _ _ (by simp)]; go_simp
  have s0 : w9.frozen? ⟨w.heap.size + 1 + 1, 0, none⟩ = false := by rw [hf9 _ _ (by simp)]; go_simp
  have r1 : w9.cell? ⟨w.heap.size + 1 + 1, 1, none⟩ = some (.int .u64 0) := by rw [hc9 _ _ (by simp)]; go_simp
  have s1 : w9.frozen? ⟨w.heap.size + 1 + 1, 1, none⟩ = false := by rw [hf9 _ _ (by simp)]; go_simp
  have r2 : w9.cell? ⟨w.heap.size + 1 + 1, 2, none⟩ = some (.int .u64 0) := by rw [hc9 _ _ (by simp)]; go_simp
  have s2 : w9.frozen? ⟨w.heap.size + 1 + 1, 2, none⟩ = false := by rw [hf9 _ _ (by simp)]; go_simp
  have hB : Below w.heap.size w w9 := Below.trans (by repeat (first | exact Below.refl _ _ | refine below_drewN'' ?_ _ | refine Below.setCell ?_ (by show w.heap.size ≤ w.heap.size + 1 + 1 + 1 + 1; omega) _ | refine Below.alloc ?_ (by simp <;> omega) _)) (hg9.below.mono (by simp <;> omega))
  clear hc9 hf9 hg9
  go_wp2
  refine bodyPost_ret (v := .agg #[.int .u64 a, .int .u64 y, .int .u64 c]) (by simp [results, Tryz.results19, go_sem, *]) rfl ⟨rfl, ?_⟩
  have q : w.heap.size ≤ w.heap.size + 1 + 1 := by omega
  exact ((hB.setCell q _).setCell q _).setCell q _

set_option maxHeartbeats 1000000 in
set_option maxRecDepth 100000 in
theorem refMeet_3 (a b c x y z : Int) (w : World) (h0 : x < a) (h1 : y < b) (h2 : ¬ z < c) :
    Calls Tryz.prog 19 #[.agg #[.int .u64 a, .int .u64 b, .int .u64 c], .agg #[.int .u64 x, .int .u64 y, .int .u64 z]] w fun e w' => e = .returned (.agg #[.int .u64 x, .int .u64 y, .int .u64 c]) ∧ Below w.heap.size w w' := by
  have hN := fun a b c W => numbers_any a b c W
  go_enter Tryz.func19, Tryz.ntmps19
  go_wp2_with (go_at_call 42; refine (hN _ _ _ _).mono ?_; rintro e w1 ⟨rfl, rfl⟩)
  refine wp_loop_rounds 4 ?_
  rw [rounds_succ]; go_wp2
  go_quiet (fail)
  go_wp2
  rw [rounds_succ]; go_wp2
  go_quiet (fail)
  go_wp2
  rw [rounds_succ]; go_wp2
  go_quiet (fail)
  go_wp2
  rw [rounds_succ]; go_wp2_with fail
  refine (reftime_any x y c _ 3 _ (by simp) (by go_simp) (by go_simp) (by go_simp)).mono ?_
  rintro e w9 ⟨rfl, hg9⟩
  obtain ⟨hc9, hf9⟩ := hg9.cells
  have r0 : w9.cell? ⟨w.heap.size + 1 + 1, 0, none⟩ = some (.int .u64 0) := by rw [hc9 _ _ (by simp)]; go_simp
  have s0 : w9.frozen? ⟨w.heap.size + 1 + 1, 0, none⟩ = false := by rw [hf9 _ _ (by simp)]; go_simp
  have r1 : w9.cell? ⟨w.heap.size + 1 + 1, 1, none⟩ = some (.int .u64 0) := by rw [hc9 _ _ (by simp)]; go_simp
  have s1 : w9.frozen? ⟨w.heap.size + 1 + 1, 1, none⟩ = false := by rw [hf9 _ _ (by simp)]; go_simp
  have r2 : w9.cell? ⟨w.heap.size + 1 + 1, 2, none⟩ = some (.int .u64 0) := by rw [hc9 _ _ (by simp)]; go_simp
  have s2 : w9.frozen? ⟨w.heap.size + 1 + 1, 2, none⟩ = false := by rw [hf9 _ _ (by simp)]; go_simp
  have hB : Below w.heap.size w w9 := Below.trans (by repeat (first | exact Below.refl _ _ | refine below_drewN'' ?_ _ | refine Below.setCell ?_ (by show w.heap.size ≤ w.heap.size + 1 + 1 + 1 + 1; omega) _ | refine Below.alloc ?_ (by simp <;> omega) _)) (hg9.below.mono (by simp <;> omega))
  clear hc9 hf9 hg9
  go_wp2
  refine bodyPost_ret (v := .agg #[.int .u64 x, .int .u64 y, .int .u64 c]) (by simp [results, Tryz.results19, go_sem, *]) rfl ⟨rfl, ?_⟩
  have q : w.heap.size ≤ w.heap.size + 1 + 1 := by omega
  exact ((hB.setCell q _).setCell q _).setCell q _

set_option maxHeartbeats 1000000 in
set_option maxRecDepth 100000 in
theorem refMeet_4 (a b c x y z : Int) (w : World) (h0 : ¬ x < a) (h1 : ¬ y < b) (h2 : z < c) :
    Calls Tryz.prog 19 #[.agg #[.int .u64 a, .int .u64 b, .int .u64 c], .agg #[.int .u64 x, .int .u64 y, .int .u64 z]] w fun e w' => e = .returned (.agg #[.int .u64 a, .int .u64 b, .int .u64 z]) ∧ Below w.heap.size w w' := by
  have hN := fun a b c W => numbers_any a b c W
  go_enter Tryz.func19, Tryz.ntmps19
  go_wp2_with (go_at_call 42; refine (hN _ _ _ _).mono ?_; rintro e w1 ⟨rfl, rfl⟩)
  refine wp_loop_rounds 4 ?_
  rw [rounds_succ]; go_wp2
  go_quiet (fail)
  go_wp2
  rw [rounds_succ]; go_wp2
  go_quiet (fail)
  go_wp2
  rw [rounds_succ]; go_wp2
  go_quiet (fail)
  go_wp2
  rw [rounds_succ]; go_wp2_with fail
  refine (reftime_any a b z _ 3 _ (by simp) (by go_simp) (by go_simp) (by go_simp)).mono ?_
  rintro e w9 ⟨rfl, hg9⟩
  obtain ⟨hc9, hf9⟩ := hg9.cells
  have r0 : w9.cell? ⟨w.heap.size + 1 + 1, 0, none⟩ = some (.int .u64 0) := by rw [hc9 _ _ (by simp)]; go_simp
  have s0 : w9.frozen? ⟨w.heap.size + 1 + 1, 0, none⟩ = false := by rw [hf9 _ _ (by simp)]; go_simp
  have r1 : w9.cell? ⟨w.heap.size + 1 + 1, 1, none⟩ = some (.int .u64 0) := by rw [hc9 _ _ (by simp)]; go_simp
  have s1 : w9.frozen? ⟨w.heap.size + 1 + 1, 1, none⟩ = false := by rw [hf9 _ _ (by simp)]; go_simp
  have r2 : w9.cell? ⟨w.heap.size + 1 + 1, 2, none⟩ = some (.int .u64 0) := by rw [hc9 _ _ (by simp)]; go_simp
  have s2 : w9.frozen? ⟨w.heap.size + 1 + 1, 2, none⟩ = false := by rw [hf9 _ _ (by simp)]; go_simp
  have hB : Below w.heap.size w w9 := Below.trans (by repeat (first | exact Below.refl _ _ | refine below_drewN'' ?_ _ | refine Below.setCell ?_ (by show w.heap.size ≤ w.heap.size + 1 + 1 + 1 + 1; omega) _ | refine Below.alloc ?_ (by simp <;> omega) _)) (hg9.below.mono (by simp <;> omega))
  clear hc9 hf9 hg9
  go_wp2
  refine bodyPost_ret (v := .agg #[.int .u64 a, .int .u64 b, .int .u64 z]) (by simp [results, Tryz.results19, go_sem, *]) rfl ⟨rfl, ?_⟩
  have q : w.heap.size ≤ w.heap.size + 1 + 1 := by omega
  exact ((hB.setCell q _).setCell q _).setCell q _

set_option maxHeartbeats 1000000 in
set_option maxRecDepth 100000 in
theorem refMeet_5 (a b c x y z : Int) (w : World) (h0 : x < a) (h1 : ¬ y < b) (h2 : z < c) :
    Calls Tryz.prog 19 #[.agg #[.int .u64 a, .int .u64 b, .int .u64 c], .agg #[.int .u64 x, .int .u64 y, .int .u64 z]] w fun e w' => e = .returned (.agg #[.int .u64 x, .int .u64 b, .int .u64 z]) ∧ Below w.heap.size w w' := by
  have hN := fun a b c W => numbers_any a b c W
  go_enter Tryz.func19, Tryz.ntmps19
  go_wp2_with (go_at_call 42; refine (hN _ _ _ _).mono ?_; rintro e w1 ⟨rfl, rfl⟩)
  refine wp_loop_rounds 4 ?_
  rw [rounds_succ]; go_wp2
  go_quiet (fail)
  go_wp2
  rw [rounds_succ]; go_wp2
  go_quiet (fail)
  go_wp2
  rw [rounds_succ]; go_wp2
  go_quiet (fail)
  go_wp2
  rw [rounds_succ]; go_wp2_with fail
  refine (reftime_any x b z _ 3 _ (by simp) (by go_simp) (by go_simp) (by go_simp)).mono ?_
  rintro e w9 ⟨rfl, hg9⟩
  obtain ⟨hc9, hf9⟩ := hg9.cells
  have r0 : w9.cell? ⟨w.heap.size + 1 + 1, 0, none⟩ = some (.int .u64 0) := by rw [hc9 _ _ (by simp)]; go_simp
  have s0 : w9.frozen? ⟨w.heap.size + 1 + 1, 0, none⟩ = false := by rw [hf9 _ _ (by simp)]; go_simp
  have r1 : w9.cell? ⟨w.heap.size + 1 + 1, 1, none⟩ = some (.int .u64 0) := by rw [hc9 _ _ (by simp)]; go_simp
  have s1 : w9.frozen? ⟨w.heap.size + 1 + 1, 1, none⟩ = false := by rw [hf9 _ _ (by simp)]; go_simp
  have r2 : w9.cell? ⟨w.heap.size + 1 + 1, 2, none⟩ = some (.int .u64 0) := by rw [hc9 _ _ (by simp)]; go_simp
  have s2 : w9.frozen? ⟨w.heap.size + 1 + 1, 2, none⟩ = false := by rw [hf9 _ _ (by simp)]; go_simp
  have hB : Below w.heap.size w w9 := Below.trans (by repeat (first | exact Below.refl _ _ | refine below_drewN'' ?_ _ | refine Below.setCell ?_ (by show w.heap.size ≤ w.heap.size + 1 + 1 + 1 + 1; omega) _ | refine Below.alloc ?_ (by simp <;> omega) _)) (hg9.below.mono (by simp <;> omega))
  clear hc9 hf9 hg9
  go_wp2
  refine bodyPost_ret (v := .agg #[.int .u64 x, .int .u64 b, .int .u64 z]) (by simp [results, Tryz.results19, go_sem, *]) rfl ⟨rfl, ?_⟩
  have q : w.heap.size ≤ w.heap.size + 1 + 1 := by omega
  exact ((hB.setCell q _).setCell q _).setCell q _

set_option maxHeartbeats 1000000 in
set_option maxRecDepth 100000 in
theorem refMeet_6 (a b c x y z : Int) (w : World) (h0 : ¬ x < a) (h1 : y < b) (h2 : z < c) :
    Calls Tryz.prog 19 #[.agg #[.int .u64 a, .int .u64 b, .int .u64 c], .agg #[.int .u64 x, .int .u64 y, .int .u64 z]] w fun e w' => e = .returned (.agg #[.int .u64 a, .int .u64 y, .int .u64 z]) ∧ Below w.heap.size w w' := by
  have hN := fun a b c W => numbers_any a b c W
  go_enter Tryz.func19, Tryz.ntmps19
  go_wp2_with (go_at_call 42; refine (hN _ _ _ _).mono ?_; rintro e w1 ⟨rfl, rfl⟩)
  refine wp_loop_rounds 4 ?_
  rw [rounds_succ]; go_wp2
  go_quiet (fail)
  go_wp2
  rw [rounds_succ]; go_wp2
  go_quiet (fail)
  go_wp2
  rw [rounds_succ]; go_wp2
  go_quiet (fail)
  go_wp2
  rw [rounds_succ]; go_wp2_with fail
  refine (reftime_any a y z _ 3 _ (by simp) (by go_simp) (by go_simp) (by go_simp)).mono ?_
  rintro e w9 ⟨rfl, hg9⟩
  obtain ⟨hc9, hf9⟩ := hg9.cells
  have r0 : w9.cell? ⟨w.heap.size + 1 + 1, 0, none⟩ = some (.int .u64 0) := by rw [hc9 _ _ (by simp)]; go_simp
  have s0 : w9.frozen? ⟨w.heap.size + 1 + 1, 0, none⟩ = false := by rw [hf9 _ _ (by simp)]; go_simp
  have r1 : w9.cell? ⟨w.heap.size + 1 + 1, 1, none⟩ = some (.int .u64 0) := by rw [hc9 _ _ (by simp)]; go_simp
  have s1 : w9.frozen? ⟨w.heap.size + 1 + 1, 1, none⟩ = false := by rw [hf9 _ _ (by simp)]; go_simp
  have r2 : w9.cell? ⟨w.heap.size + 1 + 1, 2, none⟩ = some (.int .u64 0) := by rw [hc9 _ _ (by simp)]; go_simp
  have s2 : w9.frozen? ⟨w.heap.size + 1 + 1, 2, none⟩ = false := by rw [hf9 _ _ (by simp)]; go_simp
  have hB : Below w.heap.size w w9 := Below.trans (by repeat (first | exact Below.refl _ _ | refine below_drewN'' ?_ _ | refine Below.setCell ?_ (by show w.heap.size ≤ w.heap.size + 1 + 1 + 1 + 1; omega) _ | refine Below.alloc ?_ (by simp <;> omega) _)) (hg9.below.mono (by simp <;> omega))
  clear hc9 hf9 hg9
  go_wp2
  refine bodyPost_ret (v := .agg #[.int .u64 a, .int .u64 y, .int .u64 z]) (by simp [results, Tryz.results19, go_sem, *]) rfl ⟨rfl, ?_⟩
  have q : w.heap.size ≤ w.heap.size + 1 + 1 := by omega
  exact ((hB.setCell q _).setCell q _).setCell q _

set_option maxHeartbeats 1000000 in
set_option maxRecDepth 100000 in
theorem refMeet_7 (a b c x y z : Int) (w : World) (h0 : x < a) (h1 : y < b) (h2 : z < c) :
    Calls Tryz.prog 19 #[.agg #[.int .u64 a, .int .u64 b, .int .u64 c], .agg #[.int .u64 x, .int .u64 y, .int .u64 z]] w fun e w' => e = .returned (.agg #[.int .u64 x, .int .u64 y, .int .u64 z]) ∧ Below w.heap.size w w' := by
  have hN := fun a b c W => numbers_any a b c W
  go_enter Tryz.func19, Tryz.ntmps19
  go_wp2_with (go_at_call 42; refine (hN _ _ _ _).mono ?_; rintro e w1 ⟨rfl, rfl⟩)
  refine wp_loop_rounds 4 ?_
  rw [rounds_succ]; go_wp2
  go_quiet (fail)
  go_wp2
  rw [rounds_succ]; go_wp2
  go_quiet (fail)
  go_wp2
  rw [rounds_succ]; go_wp2
  go_quiet (fail)
  go_wp2
  rw [rounds_succ]; go_wp2_with fail
  refine (reftime_any x y z _ 3 _ (by simp) (by go_simp) (by go_simp) (by go_simp)).mono ?_
  rintro e w9 ⟨rfl, hg9⟩
  obtain ⟨hc9, hf9⟩ := hg9.cells
  have r0 : w9.cell? ⟨w.heap.size + 1 + 1, 0, none⟩ = some (.int .u64 0) := by rw [hc9 _ _ (by simp)]; go_simp
  have s0 : w9.frozen? ⟨w.heap.size + 1 + 1, 0, none⟩ = false := by rw [hf9 _ _ (by simp)]; go_simp
  have r1 : w9.cell? ⟨w.heap.size + 1 + 1, 1, none⟩ = some (.int .u64 0) := by rw [hc9 _ _ (by simp)]; go_simp
  have s1 : w9.frozen? ⟨w.heap.size + 1 + 1, 1, none⟩ = false := by rw [hf9 _ _ (by simp)]; go_simp
  have r2 : w9.cell? ⟨w.heap.size + 1 + 1, 2, none⟩ = some (.int .u64 0) := by rw [hc9 _ _ (by simp)]; go_simp
  have s2 : w9.frozen? ⟨w.heap.size + 1 + 1, 2, none⟩ = false := by rw [hf9 _ _ (by simp)]; go_simp
  have hB : Below w.heap.size w w9 := Below.trans (by repeat (first | exact Below.refl _ _ | refine below_drewN'' ?_ _ | refine Below.setCell ?_ (by show w.heap.size ≤ w.heap.size + 1 + 1 + 1 + 1; omega) _ | refine Below.alloc ?_ (by simp <;> omega) _)) (hg9.below.mono (by simp <;> omega))
  clear hc9 hf9 hg9
  go_wp2
  refine bodyPost_ret (v := .agg #[.int .u64 x, .int .u64 y, .int .u64 z]) (by simp [results, Tryz.results19, go_sem, *]) rfl ⟨rfl, ?_⟩
  have q : w.heap.size ≤ w.heap.size + 1 + 1 := by omega
  exact ((hB.setCell q _).setCell q _).setCell q _

theorem refMeet_any (a b c x y z : Int) (w : World) :
    Calls Tryz.prog 19 #[.agg #[.int .u64 a, .int .u64 b, .int .u64 c], .agg #[.int .u64 x, .int .u64 y, .int .u64 z]] w fun e w' => e = .returned (.agg #[.int .u64 (min a x), .int .u64 (min b y), .int .u64 (min c z)]) ∧ Below w.heap.size w w' := by
  by_cases h0 : x < a
  · by_cases h1 : y < b
    · by_cases h2 : z < c
      · have e0 : min a x = x := by omega
        have e1 : min b y = y := by omega
        have e2 : min c z = z := by omega
        rw [e0, e1, e2]; exact refMeet_7 a b c x y z w h0 h1 h2
      · have e0 : min a x = x := by omega
        have e1 : min b y = y := by omega
        have e2 : min c z = c := by omega
        rw [e0, e1, e2]; exact refMeet_3 a b c x y z w h0 h1 h2
    · by_cases h2 : z < c
      · have e0 : min a x = x := by omega
        have e1 : min b y = b := by omega
        have e2 : min c z = z := by omega
        rw [e0, e1, e2]; exact refMeet_5 a b c x y z w h0 h1 h2
      · have e0 : min a x = x := by omega
        have e1 : min b y = b := by omega
        have e2 : min c z = c := by omega
        rw [e0, e1, e2]; exact refMeet_1 a b c x y z w h0 h1 h2
  · by_cases h1 : y < b
    · by_cases h2 : z < c
      · have e0 : min a x = a := by omega
        have e1 : min b y = y := by omega
        have e2 : min c z = z := by omega
        rw [e0, e1, e2]; exact refMeet_6 a b c x y z w h0 h1 h2
      · have e0 : min a x = a := by omega
        have e1 : min b y = y := by omega
        have e2 : min c z = c := by omega
        rw [e0, e1, e2]; exact refMeet_2 a b c x y z w h0 h1 h2
    · by_cases h2 : z < c
      · have e0 : min a x = a := by omega
        have e1 : min b y = b := by omega
        have e2 : min c z = z := by omega
        rw [e0, e1, e2]; exact refMeet_4 a b c x y z w h0 h1 h2
      · have e0 : min a x = a := by omega
        have e1 : min b y = b := by omega
        have e2 : min c z = c := by omega
        rw [e0, e1, e2]; exact refMeet_0 a b c x y z w h0 h1 h2

end Go.Proofs.YtconceigfommeaaGreatDoor
