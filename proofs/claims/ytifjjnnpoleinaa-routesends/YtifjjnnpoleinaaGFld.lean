import Derived.Test.YtifjjnnpoleinaaGKind
namespace Go.Proofs.Ytifjjnnpoleinaa.Df
open Go.RowKit Go.Sort
attribute [local go_sem ↓] Go.wp_at_zero Go.wp_at_succ

set_option maxHeartbeats 1000000 in
theorem all_any (k i o : Int) (cq : Option Addr) (cm cc : Nat) (via : Pth) (bd : Nat) (dq : Option Addr) (dm dc : Nat) (st : Bool) (w : World) : Calls Try.prog 48 #[.agg (ncells k i o (.slice cq cm cc) via bd (.slice dq dm dc) st)] w fun r w' => r = .returned (.agg (ncells k i o (.slice cq cm cc) via bd (.slice dq dm dc) st)) ∧ Below w.heap.size w w' := by
  go_enter Try.func48, Try.ntmps48
  go_wp2_with fail
  refine bodyPost_ret (v := .agg (ncells k i o (.slice cq cm cc) via bd (.slice dq dm dc) st)) (by simp [results, Try.results48, go_sem]) rfl ?_
  exact ⟨rfl, (((Gr.refl w).alloc _).alloc _).below⟩
set_option maxHeartbeats 1000000 in
theorem wcode_any (k i o : Int) (cq : Option Addr) (cm cc : Nat) (via : Pth) (bd : Nat) (dq : Option Addr) (dm dc : Nat) (st : Bool) (w : World) : Calls Try.prog 51 #[.agg (ncells k i o (.slice cq cm cc) via bd (.slice dq dm dc) st)] w fun r w' => r = .returned (.agg (ncells k i o (.slice none 0 0) via bd (.slice dq dm dc) st)) ∧ Below w.heap.size w w' := by
  go_enter Try.func51, Try.ntmps51
  go_wp2_with fail
  refine bodyPost_ret (v := .agg (ncells k i o (.slice none 0 0) via bd (.slice dq dm dc) st)) (by simp [results, Try.results51, go_sem]) rfl ?_
  exact ⟨rfl, (((Gr.refl w).alloc _).alloc _).below⟩
set_option maxHeartbeats 1000000 in
theorem wby_any (k i o : Int) (cq : Option Addr) (cm cc : Nat) (via : Pth) (bd : Nat) (dq : Option Addr) (dm dc : Nat) (st : Bool) (w : World) : Calls Try.prog 54 #[.agg (ncells k i o (.slice cq cm cc) via bd (.slice dq dm dc) st)] w fun r w' => r = .returned (.agg (ncells k i o (.slice cq cm cc) (0, 0, 0) 0 (.slice dq dm dc) st)) ∧ Below w.heap.size w w' := by
  go_enter Try.func54, Try.ntmps54
  go_wp2_with fail
  refine bodyPost_ret (v := .agg (ncells k i o (.slice cq cm cc) (0, 0, 0) 0 (.slice dq dm dc) st)) (by simp [results, Try.results54, go_sem]) rfl ?_
  exact ⟨rfl, (((Gr.refl w).alloc _).alloc _).below⟩
set_option maxHeartbeats 1000000 in
theorem wconns_any (k i o : Int) (cq : Option Addr) (cm cc : Nat) (via : Pth) (bd : Nat) (dq : Option Addr) (dm dc : Nat) (st : Bool) (w : World) : Calls Try.prog 57 #[.agg (ncells k i o (.slice cq cm cc) via bd (.slice dq dm dc) st)] w fun r w' => r = .returned (.agg (ncells k i o (.slice cq cm cc) via bd (.slice none 0 0) false)) ∧ Below w.heap.size w w' := by
  go_enter Try.func57, Try.ntmps57
  go_wp2_with fail
  refine bodyPost_ret (v := .agg (ncells k i o (.slice cq cm cc) via bd (.slice none 0 0) false)) (by simp [results, Try.results57, go_sem]) rfl ?_
  exact ⟨rfl, (((Gr.refl w).alloc _).alloc _).below⟩
theorem noflaw_any (x : NV) (a : Int) (w : World) : Calls Try.prog 49 #[.agg x.cells, .int .i64 a] w fun r w' => r = .returned (.int .i64 0) ∧ Below w.heap.size w w' := by
  go_enter Try.func49, Try.ntmps49
  go_wp2_with fail
  go_ret
  exact ⟨rfl, ((Gr.refl w).alloc _).below⟩
theorem codeflaw_any (k i o : Int) (cq : Option Addr) (cm cc : Nat) (via : Pth) (bd : Nat) (dq : Option Addr) (dm dc : Nat) (st : Bool) (a : Int) (w : World) : Calls Try.prog 52 #[.agg (ncells k i o (.slice cq cm cc) via bd (.slice dq dm dc) st), .int .i64 a] w fun r w' => r = .returned (.int .i64 (if 16 < cm then 24 else 0)) ∧ Below w.heap.size w w' := by
  by_cases h : 16 < cm
  · have hz : (16 : Int) < (cm : Int) := by omega
    clear h
    go_enter Try.func52, Try.ntmps52
    go_wp2_with fail
    go_ret
    exact ⟨rfl, ((Gr.refl w).alloc _).below⟩
  · have hz : ¬ (16 : Int) < (cm : Int) := by omega
    clear h
    go_enter Try.func52, Try.ntmps52
    go_wp2_with fail
    go_ret
    exact ⟨rfl, ((Gr.refl w).alloc _).below⟩
end Go.Proofs.Ytifjjnnpoleinaa.Df
