import Derived.Test.YtcdmgclkgojgaaaPoBusyS
namespace Go.Proofs.Ytcdmgclkgojgaaa.Ps
open Go.RowKit Go.Sort
attribute [local go_sem ↓] Go.wp_at_zero Go.wp_at_succ
/-- The cells of a post with nothing on its links. -/
def nil0 (W : Nat) : Array Value := (Value.int .i64 (W : Nat) :: (List.replicate 64 [Value.slice none 0 0, Value.int .i64 0]).flatten).toArray
theorem rep_get (n i : Nat) (hi : i < n) : (List.replicate n [Value.slice none 0 0, Value.int .i64 0]).flatten[2 * i]? = some (.slice none 0 0) ∧ (List.replicate n [Value.slice none 0 0, Value.int .i64 0]).flatten[2 * i + 1]? = some (.int .i64 0) := by
  induction n generalizing i with
  | zero => omega
  | succ n ih =>
    rw [List.replicate_succ, List.flatten_cons]
    cases i with
    | zero => exact ⟨rfl, rfl⟩
    | succ i =>
      have := ih i (by omega)
      rw [show 2 * (i + 1) = 2 * i + 2 by omega, List.getElem?_append_right (by simp), List.getElem?_append_right (by simp)]
      simpa using this
theorem Bk.nil0 {w : World} {hb W : Nat} (h : w.heap[hb]? = some (.cells (nil0 W) 88 (0, 0))) : Bk w hb W (fun _ => .slice none 0 0) (fun _ => 0) := by
  refine ⟨_, h, ?_, ?_, fun i hi => ?_⟩
  · simp [Ps.nil0]
  · simp [Ps.nil0]
  · have := rep_get 64 i hi
    unfold Ps.nil0
    rw [List.getElem?_toArray, List.getElem?_toArray, show 1 + 2 * i = 2 * i + 1 by omega, show 2 + 2 * i = 2 * i + 1 + 1 by omega, List.getElem?_cons_succ, List.getElem?_cons_succ]
    exact this
theorem Pq.nil0 {w : World} {hb W : Nat} (h8 : W ≤ 8) (h : w.heap[hb]? = some (.cells (nil0 W) 88 (0, 0))) : Pq w (fun k => k = hb) hb W 0 (fun _ => []) :=
  ⟨_, _, fun _ => [], ⟨Bk.nil0 h, fun _ _ => owns_nil _ _ _ _, fun _ _ => Nat.le_refl _, fun _ _ _ _ _ h => by simp [Value.ownBlock] at h, fun _ _ h => by simp [Value.ownBlock] at h, h8⟩, fun _ _ => rfl, fun _ _ => Nat.le_refl _, rfl, fun _ _ _ h => by simp [Value.ownBlock] at h⟩
theorem zero_cells0 : Try.zeroCells88 = nil0 0 := by kernel_rfl
theorem zero_cells (W : Nat) : Try.zeroCells88.setIfInBounds 0 (.int .i64 (W : Nat)) = nil0 W := by
  rw [zero_cells0]
  unfold nil0
  rw [List.setIfInBounds_toArray, List.set_cons_zero]
set_option maxHeartbeats 4000000 in
set_option maxRecDepth 100000 in
theorem new_any (n : Int) (w : World) (h1 : 1 ≤ n) (h8 : n ≤ 8) : Calls Try.prog 12 #[.int .i64 n] w fun e w' => e = .returned (.tuple #[.pointer (some ⟨w.heap.size, 0, none⟩), .int .i64 0]) ∧ Pq w' (fun k => k = w.heap.size) w.heap.size n.toNat 0 (fun _ => []) ∧ Gr w w' := by
  obtain ⟨W, rfl⟩ : ∃ W : Nat, n = W := ⟨n.toNat, by omega⟩
  have h1' : ¬ (W : Int) < 1 := by omega
  have h8' : ¬ (8 : Int) < (W : Int) := by omega
  go_enter Try.func12, Try.ntmps12
  go_wp2
  go_ret2
  refine ⟨rfl, ?_, (Gr.refl _).alloc _⟩
  have hz := zero_cells W
  rw [hz]
  exact Pq.nil0 (by omega) (heap_new' _ _)
theorem new_bad (n : Int) (w : World) (h : n < 1 ∨ 8 < n) : Calls Try.prog 12 #[.int .i64 n] w fun e w' => e = .returned (.tuple #[.pointer none, .int .i64 1]) ∧ w' = w := by
  by_cases h1 : n < 1
  · clear h
    go_enter Try.func12, Try.ntmps12
    go_wp2
    go_ret2
    exact ⟨rfl, rfl⟩
  · have h8 : 8 < n := by omega
    clear h
    go_enter Try.func12, Try.ntmps12
    go_wp2
    go_ret2
    exact ⟨rfl, rfl⟩
end Go.Proofs.Ytcdmgclkgojgaaa.Ps
