import Derived.Test.YtconceigfommeaaGreatDoorFits
namespace Go.Proofs.YtconceigfommeaaGreatDoor
open Go.RowKit Go.Sort
attribute [local go_sem ↓] Go.wp_at_zero Go.wp_at_succ

set_option maxHeartbeats 400000 in
theorem fnJoin_any (x y : Int) (w : World) :
    Calls Tryz.prog 37 #[.int .u64 x, .int .u64 y] w fun e w' => e = .returned (.int .u64 (max x y)) ∧ w' = w := by
  go_enter Tryz.func37, Tryz.ntmps37
  go_wp2
  all_goals go_ret
  all_goals exact ⟨ret_int (by omega), rfl⟩

set_option maxHeartbeats 1000000 in
theorem overJoin_any (a b c x y z : Int) (w : World) :
    Calls Tryz.prog 36 #[.agg #[.int .u64 a, .int .u64 b, .int .u64 c], .agg #[.int .u64 x, .int .u64 y, .int .u64 z], .func (.func 37) #[] #[]] w fun e w' =>
      e = .returned (.agg #[.int .u64 (max a x), .int .u64 (max b y), .int .u64 (max c z)]) ∧ Gr w w' := by
  go_enter Tryz.func36, Tryz.ntmps36
  go_wp2
  go_region_held3 (fun w' => w'.cell? ⟨w.heap.size, 0, none⟩ = some (.int .u64 a) ∧ w'.cell? ⟨w.heap.size, 1, none⟩ = some (.int .u64 b) ∧ w'.cell? ⟨w.heap.size, 2, none⟩ = some (.int .u64 c) ∧ w'.cell? ⟨w.heap.size + 1, 0, none⟩ = some (.int .u64 x) ∧ w'.cell? ⟨w.heap.size + 1, 1, none⟩ = some (.int .u64 y) ∧ w'.cell? ⟨w.heap.size + 1, 2, none⟩ = some (.int .u64 z)) (go_keep)
    (first | (go_at_call 37; refine (fnJoin_any _ _ _).mono ?_; rintro e w' ⟨rfl, rfl⟩))
  go_wp2
  exact bodyPost_ret (v := .agg #[.int .u64 (max a x), .int .u64 (max b y), .int .u64 (max c z)]) (by simp [results, Tryz.results36, go_sem]) rfl ⟨rfl, ((((Gr.refl _).alloc _).alloc _).alloc _).drew⟩

set_option maxHeartbeats 1000000 in
set_option maxRecDepth 100000 in
theorem Join_any (a b c x y z : Int) (w : World) :
    Calls Tryz.prog 10 #[.agg #[.int .u64 a, .int .u64 b, .int .u64 c], .agg #[.int .u64 x, .int .u64 y, .int .u64 z]] w fun e w' =>
      e = .returned (.agg #[.int .u64 (max a x), .int .u64 (max b y), .int .u64 (max c z)]) ∧ Below w.heap.size w w' := by
  have H := fun W => overJoin_any a b c x y z W
  generalize max a x = p at *
  generalize max b y = q at *
  generalize max c z = r at *
  go_enter Tryz.func10, Tryz.ntmps10
  go_wp2_with fail
  refine (H _).mono ?_
  rintro e w1 ⟨rfl, hg1⟩
  go_wp2_with fail
  refine (timeOf_any _ _ _ _).mono ?_
  rintro e w2 ⟨rfl, hg2⟩
  have z1 := hg1.size
  simp at z1
  have hc1 := (hg1.trans hg2).cells.1
  have hf1 := (hg1.trans hg2).cells.2
  have r0 : w2.cell? ⟨w.heap.size + 1 + 1, 0, none⟩ = some (.int .u64 0) := by rw [hc1 _ _ (by simp)]; go_simp
  have r1 : w2.cell? ⟨w.heap.size + 1 + 1, 1, none⟩ = some (.int .u64 0) := by rw [hc1 _ _ (by simp)]; go_simp
  have r2 : w2.cell? ⟨w.heap.size + 1 + 1, 2, none⟩ = some (.int .u64 0) := by rw [hc1 _ _ (by simp)]; go_simp
  have s0 : w2.frozen? ⟨w.heap.size + 1 + 1, 0, none⟩ = false := by rw [hf1 _ _ (by simp)]; go_simp
  have s1 : w2.frozen? ⟨w.heap.size + 1 + 1, 1, none⟩ = false := by rw [hf1 _ _ (by simp)]; go_simp
  have s2 : w2.frozen? ⟨w.heap.size + 1 + 1, 2, none⟩ = false := by rw [hf1 _ _ (by simp)]; go_simp
  have hB : Below w.heap.size w w2 := (((((Gr.refl _).alloc _).alloc _).alloc _).trans (hg1.trans hg2)).below
  clear hc1 hf1 hg1 hg2
  go_wp2
  refine bodyPost_ret (v := .agg #[.int .u64 p, .int .u64 q, .int .u64 r]) (by simp [results, Tryz.results10, go_sem, *]) rfl ⟨rfl, ?_⟩
  have k : w.heap.size ≤ w.heap.size + 1 + 1 := by omega
  exact ((hB.setCell k _).setCell k _).setCell k _

set_option maxHeartbeats 400000 in
theorem fnMeet_any (x y : Int) (w : World) :
    Calls Tryz.prog 38 #[.int .u64 x, .int .u64 y] w fun e w' => e = .returned (.int .u64 (min x y)) ∧ w' = w := by
  go_enter Tryz.func38, Tryz.ntmps38
  go_wp2
  all_goals go_ret
  all_goals exact ⟨ret_int (by omega), rfl⟩

set_option maxHeartbeats 1000000 in
theorem overMeet_any (a b c x y z : Int) (w : World) :
    Calls Tryz.prog 36 #[.agg #[.int .u64 a, .int .u64 b, .int .u64 c], .agg #[.int .u64 x, .int .u64 y, .int .u64 z], .func (.func 38) #[] #[]] w fun e w' =>
      e = .returned (.agg #[.int .u64 (min a x), .int .u64 (min b y), .int .u64 (min c z)]) ∧ Gr w w' := by
  go_enter Tryz.func36, Tryz.ntmps36
  go_wp2
  go_region_held3 (fun w' => w'.cell? ⟨w.heap.size, 0, none⟩ = some (.int .u64 a) ∧ w'.cell? ⟨w.heap.size, 1, none⟩ = some (.int .u64 b) ∧ w'.cell? ⟨w.heap.size, 2, none⟩ = some (.int .u64 c) ∧ w'.cell? ⟨w.heap.size + 1, 0, none⟩ = some (.int .u64 x) ∧ w'.cell? ⟨w.heap.size + 1, 1, none⟩ = some (.int .u64 y) ∧ w'.cell? ⟨w.heap.size + 1, 2, none⟩ = some (.int .u64 z)) (go_keep)
    (first | (go_at_call 38; refine (fnMeet_any _ _ _).mono ?_; rintro e w' ⟨rfl, rfl⟩))
  go_wp2
  exact bodyPost_ret (v := .agg #[.int .u64 (min a x), .int .u64 (min b y), .int .u64 (min c z)]) (by simp [results, Tryz.results36, go_sem]) rfl ⟨rfl, ((((Gr.refl _).alloc _).alloc _).alloc _).drew⟩

set_option maxHeartbeats 1000000 in
set_option maxRecDepth 100000 in
theorem Meet_any (a b c x y z : Int) (w : World) :
    Calls Tryz.prog 11 #[.agg #[.int .u64 a, .int .u64 b, .int .u64 c], .agg #[.int .u64 x, .int .u64 y, .int .u64 z]] w fun e w' =>
      e = .returned (.agg #[.int .u64 (min a x), .int .u64 (min b y), .int .u64 (min c z)]) ∧ Below w.heap.size w w' := by
  have H := fun W => overMeet_any a b c x y z W
  generalize min a x = p at *
  generalize min b y = q at *
  generalize min c z = r at *
  go_enter Tryz.func11, Tryz.ntmps11
  go_wp2_with fail
  refine (H _).mono ?_
  rintro e w1 ⟨rfl, hg1⟩
  go_wp2_with fail
  refine (timeOf_any _ _ _ _).mono ?_
  rintro e w2 ⟨rfl, hg2⟩
  have z1 := hg1.size
  simp at z1
  have hc1 := (hg1.trans hg2).cells.1
  have hf1 := (hg1.trans hg2).cells.2
  have r0 : w2.cell? ⟨w.heap.size + 1 + 1, 0, none⟩ = some (.int .u64 0) := by rw [hc1 _ _ (by simp)]; go_simp
  have r1 : w2.cell? ⟨w.heap.size + 1 + 1, 1, none⟩ = some (.int .u64 0) := by rw [hc1 _ _ (by simp)]; go_simp
  have r2 : w2.cell? ⟨w.heap.size + 1 + 1, 2, none⟩ = some (.int .u64 0) := by rw [hc1 _ _ (by simp)]; go_simp
  have s0 : w2.frozen? ⟨w.heap.size + 1 + 1, 0, none⟩ = false := by rw [hf1 _ _ (by simp)]; go_simp
  have s1 : w2.frozen? ⟨w.heap.size + 1 + 1, 1, none⟩ = false := by rw [hf1 _ _ (by simp)]; go_simp
  have s2 : w2.frozen? ⟨w.heap.size + 1 + 1, 2, none⟩ = false := by rw [hf1 _ _ (by simp)]; go_simp
  have hB : Below w.heap.size w w2 := (((((Gr.refl _).alloc _).alloc _).alloc _).trans (hg1.trans hg2)).below
  clear hc1 hf1 hg1 hg2
  go_wp2
  refine bodyPost_ret (v := .agg #[.int .u64 p, .int .u64 q, .int .u64 r]) (by simp [results, Tryz.results11, go_sem, *]) rfl ⟨rfl, ?_⟩
  have k : w.heap.size ≤ w.heap.size + 1 + 1 := by omega
  exact ((hB.setCell k _).setCell k _).setCell k _

end Go.Proofs.YtconceigfommeaaGreatDoor
