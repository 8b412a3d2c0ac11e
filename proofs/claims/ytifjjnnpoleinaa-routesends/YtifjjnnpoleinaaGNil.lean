import Derived.Test.YtifjjnnpoleinaaGEds
namespace Go.Proofs.Ytifjjnnpoleinaa.Df
open Go.RowKit Go.Sort Go.Shelf
attribute [local go_sem ↓] Go.wp_at_zero Go.wp_at_succ

theorem nilPlaces_any (w : World) : Calls Try.prog 11 #[.pointer none] w fun r w' => r = .returned (.int .i64 0) ∧ w' = w := by
  go_enter Try.func11, Try.ntmps11
  go_wp2_with fail
  go_ret
  exact ⟨rfl, rfl⟩
theorem nilIn_any (w : World) : Calls Try.prog 12 #[.pointer none, .int .i64 0, .int .i64 0] w fun r w' => r = .returned (.int .i64 0) ∧ w' = w := by
  go_enter Try.func12, Try.ntmps12
  go_wp2_with fail
  go_ret
  exact ⟨rfl, rfl⟩
theorem nilOut_any (w : World) : Calls Try.prog 39 #[.pointer none, .int .i64 0, .int .i64 0] w fun r w' => r = .returned (.int .i64 0) ∧ w' = w := by
  go_enter Try.func39, Try.ntmps39
  go_wp2_with fail
  go_ret
  exact ⟨rfl, rfl⟩
theorem nilRaw_any (w : World) : Calls Try.prog 26 #[.pointer none] w fun r w' => r = .returned (.agg (gvc 0 (.slice none 0 0) (.slice none 0 0))) ∧ Below w.heap.size w w' := by
  go_enter Try.func26, Try.ntmps26
  go_wp2_with fail
  refine bodyPost_ret (v := .agg #[.int .i64 0, .slice none 0 0, .slice none 0 0]) (by simp [results, Try.results26, go_sem]) rfl ?_
  exact ⟨rfl, ((Gr.refl w).alloc _).below⟩
theorem nilOf_any (w : World) : Calls Try.prog 8 #[.pointer none, .int .i64 0] w fun r w' => r = .returned (.tuple #[.int .i64 0, .int .i64 0, .bool false]) ∧ w' = w := by
  go_enter Try.func8, Try.ntmps8
  go_wp2_with fail
  refine bodyPost_ret (v := .tuple #[.int .i64 0, .int .i64 0, .bool false]) (by simp [results, Try.results8, go_sem]) rfl ?_
  exact ⟨rfl, rfl⟩
end Go.Proofs.Ytifjjnnpoleinaa.Df
