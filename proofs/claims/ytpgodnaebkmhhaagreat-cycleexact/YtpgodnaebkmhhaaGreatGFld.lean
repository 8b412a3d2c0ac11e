import Derived.Test.YtpgodnaebkmhhaaGreatGKind
namespace Go.Proofs.YtpgodnaebkmhhaaGreat.Df
open Go.RowKit Go.Sort
attribute [local go_sem ↓] Go.wp_at_zero Go.wp_at_succ

set_option maxHeartbeats 1000000 in
theorem all_any (k i o : Int) (cq : Option Addr) (cm cc : Nat) (via : Pth) (bd : Nat) (dq : Option Addr) (dm dc : Nat) (st : Bool) (w : World) : Calls Tryz.prog 77 #[.agg (ncells k i o (.slice cq cm cc) via bd (.slice dq dm dc) st)] w fun r w' => r = .returned (.agg (ncells k i o (.slice cq cm cc) via bd (.slice dq dm dc) st)) ∧ Below w.heap.size w w' := by
  go_enter Tryz.func77, Tryz.ntmps77
  go_wp2_with fail
  refine bodyPost_ret (v := .agg (ncells k i o (.slice cq cm cc) via bd (.slice dq dm dc) st)) (by simp [results, Tryz.results77, go_sem]) rfl ?_
  exact ⟨rfl, (((Gr.refl w).alloc _).alloc _).below⟩
set_option maxHeartbeats 1000000 in
theorem wcode_any (k i o : Int) (cq : Option Addr) (cm cc : Nat) (via : Pth) (bd : Nat) (dq : Option Addr) (dm dc : Nat) (st : Bool) (w : World) : Calls Tryz.prog 80 #[.agg (ncells k i o (.slice cq cm cc) via bd (.slice dq dm dc) st)] w fun r w' => r = .returned (.agg (ncells k i o (.slice none 0 0) via bd (.slice dq dm dc) st)) ∧ Below w.heap.size w w' := by
  go_enter Tryz.func80, Tryz.ntmps80
  go_wp2_with fail
  refine bodyPost_ret (v := .agg (ncells k i o (.slice none 0 0) via bd (.slice dq dm dc) st)) (by simp [results, Tryz.results80, go_sem]) rfl ?_
  exact ⟨rfl, (((Gr.refl w).alloc _).alloc _).below⟩
set_option maxHeartbeats 1000000 in
theorem wby_any (k i o : Int) (cq : Option Addr) (cm cc : Nat) (via : Pth) (bd : Nat) (dq : Option Addr) (dm dc : Nat) (st : Bool) (w : World) : Calls Tryz.prog 83 #[.agg (ncells k i o (.slice cq cm cc) via bd (.slice dq dm dc) st)] w fun r w' => r = .returned (.agg (ncells k i o (.slice cq cm cc) (0, 0, 0) 0 (.slice dq dm dc) st)) ∧ Below w.heap.size w w' := by
  go_enter Tryz.func83, Tryz.ntmps83
  go_wp2_with fail
  refine bodyPost_ret (v := .agg (ncells k i o (.slice cq cm cc) (0, 0, 0) 0 (.slice dq dm dc) st)) (by simp [results, Tryz.results83, go_sem]) rfl ?_
  exact ⟨rfl, (((Gr.refl w).alloc _).alloc _).below⟩
set_option maxHeartbeats 1000000 in
theorem wconns_any (k i o : Int) (cq : Option Addr) (cm cc : Nat) (via : Pth) (bd : Nat) (dq : Option Addr) (dm dc : Nat) (st : Bool) (w : World) : Calls Tryz.prog 86 #[.agg (ncells k i o (.slice cq cm cc) via bd (.slice dq dm dc) st)] w fun r w' => r = .returned (.agg (ncells k i o (.slice cq cm cc) via bd (.slice none 0 0) false)) ∧ Below w.heap.size w w' := by
  go_enter Tryz.func86, Tryz.ntmps86
  go_wp2_with fail
  refine bodyPost_ret (v := .agg (ncells k i o (.slice cq cm cc) via bd (.slice none 0 0) false)) (by simp [results, Tryz.results86, go_sem]) rfl ?_
  exact ⟨rfl, (((Gr.refl w).alloc _).alloc _).below⟩
theorem noflaw_any (x : NV) (a : Int) (w : World) : Calls Tryz.prog 78 #[.agg x.cells, .int .i64 a] w fun r w' => r = .returned (.int .i64 0) ∧ Below w.heap.size w w' := by
  go_enter Tryz.func78, Tryz.ntmps78
  go_wp2_with fail
  go_ret
  exact ⟨rfl, ((Gr.refl w).alloc _).below⟩
theorem codeflaw_any (k i o : Int) (cq : Option Addr) (cm cc : Nat) (via : Pth) (bd : Nat) (dq : Option Addr) (dm dc : Nat) (st : Bool) (a : Int) (w : World) : Calls Tryz.prog 81 #[.agg (ncells k i o (.slice cq cm cc) via bd (.slice dq dm dc) st), .int .i64 a] w fun r w' => r = .returned (.int .i64 (if 16 < cm then 24 else 0)) ∧ Below w.heap.size w w' := by
  by_cases h : 16 < cm
  · have hz : (16 : Int) < (cm : Int) := by omega
    clear h
    go_enter Tryz.func81, Tryz.ntmps81
    go_wp2_with fail
    go_ret
    exact ⟨rfl, ((Gr.refl w).alloc _).below⟩
  · have hz : ¬ (16 : Int) < (cm : Int) := by omega
    clear h
    go_enter Tryz.func81, Tryz.ntmps81
    go_wp2_with fail
    go_ret
    exact ⟨rfl, ((Gr.refl w).alloc _).below⟩
end Go.Proofs.YtpgodnaebkmhhaaGreat.Df
