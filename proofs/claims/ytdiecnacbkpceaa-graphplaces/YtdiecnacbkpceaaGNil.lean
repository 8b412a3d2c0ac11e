import Derived.Test.YtdiecnacbkpceaaGEds
namespace Go.Proofs.Ytdiecnacbkpceaa.Df
open Go.RowKit Go.Sort Go.Shelf
attribute [local go_sem ↓] Go.wp_at_zero Go.wp_at_succ

theorem nilArity_any (w : World) : Calls Try.prog 17 #[.pointer none] w fun r w' => r = .returned (.int .i64 0) ∧ w' = w := by
  go_enter Try.func17, Try.ntmps17
  go_wp2_with fail
  go_ret
  exact ⟨rfl, rfl⟩
theorem nilNodes_any (w : World) : Calls Try.prog 18 #[.pointer none] w fun r w' => r = .returned (.int .i64 0) ∧ w' = w := by
  go_enter Try.func18, Try.ntmps18
  go_wp2_with fail
  go_ret
  exact ⟨rfl, rfl⟩
theorem nilPlaces_any (w : World) : Calls Try.prog 12 #[.pointer none] w fun r w' => r = .returned (.int .i64 0) ∧ w' = w := by
  go_enter Try.func12, Try.ntmps12
  go_wp2_with fail
  go_ret
  exact ⟨rfl, rfl⟩
theorem nilIn_any (w : World) : Calls Try.prog 8 #[.pointer none, .int .i64 0, .int .i64 0] w fun r w' => r = .returned (.int .i64 0) ∧ w' = w := by
  go_enter Try.func8, Try.ntmps8
  go_wp2_with fail
  go_ret
  exact ⟨rfl, rfl⟩
theorem nilOut_any (w : World) : Calls Try.prog 9 #[.pointer none, .int .i64 0, .int .i64 0] w fun r w' => r = .returned (.int .i64 0) ∧ w' = w := by
  go_enter Try.func9, Try.ntmps9
  go_wp2_with fail
  go_ret
  exact ⟨rfl, rfl⟩
theorem nilRaw_any (w : World) : Calls Try.prog 21 #[.pointer none] w fun r w' => r = .returned (.agg (gvc 0 (.slice none 0 0) (.slice none 0 0))) ∧ Below w.heap.size w w' := by
  go_enter Try.func21, Try.ntmps21
  go_wp2_with fail
  refine bodyPost_ret (v := .agg #[.int .i64 0, .slice none 0 0, .slice none 0 0]) (by simp [results, Try.results21, go_sem]) rfl ?_
  exact ⟨rfl, ((Gr.refl w).alloc _).below⟩
theorem nilOf_any (w : World) : Calls Try.prog 10 #[.pointer none, .int .i64 0] w fun r w' => r = .returned (.tuple #[.int .i64 0, .int .i64 0, .bool false]) ∧ w' = w := by
  go_enter Try.func10, Try.ntmps10
  go_wp2_with fail
  refine bodyPost_ret (v := .tuple #[.int .i64 0, .int .i64 0, .bool false]) (by simp [results, Try.results10, go_sem]) rfl ?_
  exact ⟨rfl, rfl⟩
theorem nilConns_any (w : World) : Calls Try.prog 23 #[.pointer none, .int .i64 0] w fun r w' => r = .returned (.slice none 0 0) ∧ Gr w w' := by
  have hmx : Try.prog.follows .mixedOrders = true := by kernel_rfl
  have hA := fun (W : World) => among_any 0 0 W
  rw [decide_eq_false (by decide)] at hA
  go_enter Try.func23, Try.ntmps23
  go_wp2_with (first | (go_at_call 18; refine (nilNodes_any _).mono ?_; rintro r w1 ⟨rfl, rfl⟩) | (go_at_call 33; refine (hA _).mono ?_; rintro r w1 ⟨rfl, rfl⟩))
  go_ret
  exact ⟨rfl, Gr.refl _⟩
end Go.Proofs.Ytdiecnacbkpceaa.Df
