import Derived.Test.YtinggeflllgdmaaOrders
import Derived.Deep.RegionLaw
namespace Go.Proofs.Ytinggeflllgdmaa
open Go.RowKit Go.Sort
attribute [local go_sem ↓] Go.wp_at_zero Go.wp_at_succ

set_option maxHeartbeats 1000000 in
theorem numbersOf_any (a b c : Int) (w : World) :
    Calls Try.prog 21 #[.agg #[.int .u64 a, .int .u64 b, .int .u64 c]] w fun e w' =>
      e = .returned (.agg #[.int .u64 a, .int .u64 b, .int .u64 c]) ∧ Gr w w' := by
  go_enter Try.func21, Try.ntmps21
  go_wp2
  exact bodyPost_ret (v := .agg #[.int .u64 a, .int .u64 b, .int .u64 c]) (by simp [results, Try.results21, go_sem]) rfl ⟨rfl, (((Gr.refl _).alloc _).alloc _)⟩

set_option maxHeartbeats 1000000 in
theorem timeOf_any (a b c : Int) (w : World) :
    Calls Try.prog 22 #[.agg #[.int .u64 a, .int .u64 b, .int .u64 c]] w fun e w' =>
      e = .returned (.agg #[.int .u64 a, .int .u64 b, .int .u64 c]) ∧ Gr w w' := by
  go_enter Try.func22, Try.ntmps22
  go_wp2
  exact bodyPost_ret (v := .agg #[.int .u64 a, .int .u64 b, .int .u64 c]) (by simp [results, Try.results22, go_sem]) rfl ⟨rfl, (((Gr.refl _).alloc _).alloc _)⟩

theorem run_clear1 (a b c : Int) (w1 : World) : Sem.run Try.prog (Builtin.clear_ #[65] 0 #[.slice (some ⟨w1.heap.size, 1, none⟩) 2 2]) (w1.alloc (.cells #[.int .u64 a, .int .u64 b, .int .u64 c] 63)) = .ok (.tuple #[]) (w1.alloc (.cells #[.int .u64 a, .int .u64 0, .int .u64 0] 63)) := by
  unfold Builtin.clear_
  go_simp
  rw [show (Builtin.zeroCells #[Value.int IntKind.u64 0] 2).toList = [Value.int IntKind.u64 0, Value.int IntKind.u64 0] from by kernel_rfl]
  go_simp
theorem run_clear2 (a b c : Int) (w1 : World) : Sem.run Try.prog (Builtin.clear_ #[65] 0 #[.slice (some ⟨w1.heap.size, 2, none⟩) 1 1]) (w1.alloc (.cells #[.int .u64 a, .int .u64 b, .int .u64 c] 63)) = .ok (.tuple #[]) (w1.alloc (.cells #[.int .u64 a, .int .u64 b, .int .u64 0] 63)) := by
  unfold Builtin.clear_
  go_simp
  rw [show (Builtin.zeroCells #[Value.int IntKind.u64 0] 1).toList = [Value.int IntKind.u64 0] from by kernel_rfl]
  go_simp
theorem run_clear3 (p : Option Addr) (n : Nat) (w1 : World) : Sem.run Try.prog (Builtin.clear_ #[65] 0 #[.slice p 0 n]) w1 = .ok (.tuple #[]) w1 := by
  unfold Builtin.clear_
  cases p <;> go_simp

/-- Fits: 0, or 10. -/
def tfits (_a b c n : Int) : Int := if n < 1 ∨ 3 < n then 10 else if (n < 2 → b = 0) ∧ (n < 3 → c = 0) then 0 else 10

set_option maxHeartbeats 1000000 in
set_option maxRecDepth 100000 in
theorem Fits_any (a b c n : Int) (w : World) :
    Calls Try.prog 15 #[.agg #[.int .u64 a, .int .u64 b, .int .u64 c], .int .i64 n] w fun e w' =>
      e = .returned (.int .i64 (tfits a b c n)) ∧ Gr w w' := by
  have heq := fun a b c x y z W => run_eqT a b c x y z W
  by_cases h1 : n < 1
  · have hr : tfits a b c n = 10 := by simp [tfits, h1]
    rw [hr]; clear hr
    go_enter Try.func15, Try.ntmps15
    go_wp2
    go_ret
    exact ⟨rfl, (Gr.refl _).alloc _⟩
  · by_cases h3 : 3 < n
    · have hr : tfits a b c n = 10 := by simp [tfits, h3]
      rw [hr]; clear hr
      go_enter Try.func15, Try.ntmps15
      go_wp2
      go_ret
      exact ⟨rfl, (Gr.refl _).alloc _⟩
    · have hn : n = 1 ∨ n = 2 ∨ n = 3 := by omega
      clear h1 h3
      have hk1 := fun a b c W => run_clear1 a b c W
      have hk2 := fun a b c W => run_clear2 a b c W
      have hk3 := fun p n W => run_clear3 p n W
      rcases hn with rfl | rfl | rfl
      · have hE : (teq a 0 0 a b c = true ∧ tfits a b c 1 = 0) ∨ (teq a 0 0 a b c = false ∧ tfits a b c 1 = 10) := by
          by_cases hb : b = 0 <;> by_cases hc : c = 0 <;> simp [teq, tfits, hb, hc] <;> omega
        rcases hE with ⟨hE, hT⟩ | ⟨hE, hT⟩
        all_goals rw [hT]; clear hT
        all_goals go_enter Try.func15, Try.ntmps15
        all_goals go_wp2_with (go_at_call 21; refine (numbersOf_any _ _ _ _).mono ?_; rintro e w1 ⟨rfl, hg⟩; obtain ⟨hc, hf⟩ := hg.cells; have hz : w.heap.size < w1.heap.size := by { have := hg.size; simp at this; omega }; have hz' : w.heap.size < w1.heap.size + 1 := by omega)
        all_goals go_region_held3 (fun w' => w'.cell? ⟨w.heap.size, 0, none⟩ = some (.int .u64 a) ∧ w'.cell? ⟨w.heap.size, 1, none⟩ = some (.int .u64 b) ∧ w'.cell? ⟨w.heap.size, 2, none⟩ = some (.int .u64 c) ∧ w'.cell? ⟨w1.heap.size, 0, none⟩ = some (.int .u64 a) ∧ w'.cell? ⟨w1.heap.size, 1, none⟩ = some (.int .u64 0) ∧ w'.cell? ⟨w1.heap.size, 2, none⟩ = some (.int .u64 0)) (go_keep)
          (first | (go_at_call 22; refine (timeOf_any _ _ _ _).mono ?_; rintro e w2 ⟨rfl, hg2⟩; obtain ⟨hc2, hf2⟩ := hg2.cells))
        all_goals go_wp2
        all_goals go_ret
        all_goals exact ⟨rfl, ((((Gr.refl _).alloc _).trans hg).alloc _).drew.trans hg2⟩
      · have hE : (teq a b 0 a b c = true ∧ tfits a b c 2 = 0) ∨ (teq a b 0 a b c = false ∧ tfits a b c 2 = 10) := by
          by_cases hc : c = 0 <;> simp [teq, tfits, hc] <;> omega
        rcases hE with ⟨hE, hT⟩ | ⟨hE, hT⟩
        all_goals rw [hT]; clear hT
        all_goals go_enter Try.func15, Try.ntmps15
        all_goals go_wp2_with (go_at_call 21; refine (numbersOf_any _ _ _ _).mono ?_; rintro e w1 ⟨rfl, hg⟩; obtain ⟨hc, hf⟩ := hg.cells; have hz : w.heap.size < w1.heap.size := by { have := hg.size; simp at this; omega }; have hz' : w.heap.size < w1.heap.size + 1 := by omega)
        all_goals go_region_held3 (fun w' => w'.cell? ⟨w.heap.size, 0, none⟩ = some (.int .u64 a) ∧ w'.cell? ⟨w.heap.size, 1, none⟩ = some (.int .u64 b) ∧ w'.cell? ⟨w.heap.size, 2, none⟩ = some (.int .u64 c) ∧ w'.cell? ⟨w1.heap.size, 0, none⟩ = some (.int .u64 a) ∧ w'.cell? ⟨w1.heap.size, 1, none⟩ = some (.int .u64 b) ∧ w'.cell? ⟨w1.heap.size, 2, none⟩ = some (.int .u64 0)) (go_keep)
          (first | (go_at_call 22; refine (timeOf_any _ _ _ _).mono ?_; rintro e w2 ⟨rfl, hg2⟩; obtain ⟨hc2, hf2⟩ := hg2.cells))
        all_goals go_wp2
        all_goals go_ret
        all_goals exact ⟨rfl, ((((Gr.refl _).alloc _).trans hg).alloc _).drew.trans hg2⟩
      · have hE : (teq a b c a b c = true ∧ tfits a b c 3 = 0) ∨ (teq a b c a b c = false ∧ tfits a b c 3 = 10) := by
          simp [teq, tfits]
        rcases hE with ⟨hE, hT⟩ | ⟨hE, hT⟩
        all_goals rw [hT]; clear hT
        all_goals go_enter Try.func15, Try.ntmps15
        all_goals go_wp2_with (go_at_call 21; refine (numbersOf_any _ _ _ _).mono ?_; rintro e w1 ⟨rfl, hg⟩; obtain ⟨hc, hf⟩ := hg.cells; have hz : w.heap.size < w1.heap.size := by { have := hg.size; simp at this; omega }; have hz' : w.heap.size < w1.heap.size + 1 := by omega)
        all_goals go_region_held3 (fun w' => w'.cell? ⟨w.heap.size, 0, none⟩ = some (.int .u64 a) ∧ w'.cell? ⟨w.heap.size, 1, none⟩ = some (.int .u64 b) ∧ w'.cell? ⟨w.heap.size, 2, none⟩ = some (.int .u64 c) ∧ w'.cell? ⟨w1.heap.size, 0, none⟩ = some (.int .u64 a) ∧ w'.cell? ⟨w1.heap.size, 1, none⟩ = some (.int .u64 b) ∧ w'.cell? ⟨w1.heap.size, 2, none⟩ = some (.int .u64 c)) (go_keep)
          (first | (go_at_call 22; refine (timeOf_any _ _ _ _).mono ?_; rintro e w2 ⟨rfl, hg2⟩; obtain ⟨hc2, hf2⟩ := hg2.cells))
        all_goals go_wp2
        all_goals go_ret
        all_goals exact ⟨rfl, ((((Gr.refl _).alloc _).trans hg).alloc _).drew.trans hg2⟩

end Go.Proofs.Ytinggeflllgdmaa
