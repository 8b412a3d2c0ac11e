import Derived.Test.YtdnnfgabdkkdjaaGreatGKind
namespace Go.Proofs.YtdnnfgabdkkdjaaGreat.Df
open Go.RowKit Go.Sort
attribute [local go_sem ↓] Go.wp_at_zero Go.wp_at_succ
set_option maxHeartbeats 1000000 in
theorem all_any (k i o : Int) (cq : Option Addr) (cm cc : Nat) (via : Pth) (bd : Nat) (dq : Option Addr) (dm dc : Nat) (st : Bool) (w : World) : Calls Tryz.prog 128 #[.agg (ncells k i o (.slice cq cm cc) via bd (.slice dq dm dc) st)] w fun r w' => r = .returned (.agg (ncells k i o (.slice cq cm cc) via bd (.slice dq dm dc) st)) ∧ Below w.heap.size w w' := by
 go_enter Tryz.func128, Tryz.ntmps128
 go_wp2_with fail
 refine bodyPost_ret (v := .agg (ncells k i o (.slice cq cm cc) via bd (.slice dq dm dc) st)) (by simp [results, Tryz.results128, go_sem]) rfl ?_
 exact ⟨rfl, (((Gr.refl w).alloc _).alloc _).below⟩
set_option maxHeartbeats 1000000 in
theorem wcode_any (k i o : Int) (cq : Option Addr) (cm cc : Nat) (via : Pth) (bd : Nat) (dq : Option Addr) (dm dc : Nat) (st : Bool) (w : World) : Calls Tryz.prog 131 #[.agg (ncells k i o (.slice cq cm cc) via bd (.slice dq dm dc) st)] w fun r w' => r = .returned (.agg (ncells k i o (.slice none 0 0) via bd (.slice dq dm dc) st)) ∧ Below w.heap.size w w' := by
 go_enter Tryz.func131, Tryz.ntmps131
 go_wp2_with fail
 refine bodyPost_ret (v := .agg (ncells k i o (.slice none 0 0) via bd (.slice dq dm dc) st)) (by simp [results, Tryz.results131, go_sem]) rfl ?_
 exact ⟨rfl, (((Gr.refl w).alloc _).alloc _).below⟩
set_option maxHeartbeats 1000000 in
theorem wby_any (k i o : Int) (cq : Option Addr) (cm cc : Nat) (via : Pth) (bd : Nat) (dq : Option Addr) (dm dc : Nat) (st : Bool) (w : World) : Calls Tryz.prog 134 #[.agg (ncells k i o (.slice cq cm cc) via bd (.slice dq dm dc) st)] w fun r w' => r = .returned (.agg (ncells k i o (.slice cq cm cc) (0, 0, 0) 0 (.slice dq dm dc) st)) ∧ Below w.heap.size w w' := by
 go_enter Tryz.func134, Tryz.ntmps134
 go_wp2_with fail
 refine bodyPost_ret (v := .agg (ncells k i o (.slice cq cm cc) (0, 0, 0) 0 (.slice dq dm dc) st)) (by simp [results, Tryz.results134, go_sem]) rfl ?_
 exact ⟨rfl, (((Gr.refl w).alloc _).alloc _).below⟩
set_option maxHeartbeats 1000000 in
theorem wconns_any (k i o : Int) (cq : Option Addr) (cm cc : Nat) (via : Pth) (bd : Nat) (dq : Option Addr) (dm dc : Nat) (st : Bool) (w : World) : Calls Tryz.prog 137 #[.agg (ncells k i o (.slice cq cm cc) via bd (.slice dq dm dc) st)] w fun r w' => r = .returned (.agg (ncells k i o (.slice cq cm cc) via bd (.slice none 0 0) false)) ∧ Below w.heap.size w w' := by
 go_enter Tryz.func137, Tryz.ntmps137
 go_wp2_with fail
 refine bodyPost_ret (v := .agg (ncells k i o (.slice cq cm cc) via bd (.slice none 0 0) false)) (by simp [results, Tryz.results137, go_sem]) rfl ?_
 exact ⟨rfl, (((Gr.refl w).alloc _).alloc _).below⟩
theorem noflaw_any (x : NV) (a : Int) (w : World) : Calls Tryz.prog 129 #[.agg x.cells, .int .i64 a] w fun r w' => r = .returned (.int .i64 0) ∧ Below w.heap.size w w' := by
 go_enter Tryz.func129, Tryz.ntmps129
 go_wp2_with fail
 go_ret
 exact ⟨rfl, ((Gr.refl w).alloc _).below⟩
theorem codeflaw_any (k i o : Int) (cq : Option Addr) (cm cc : Nat) (via : Pth) (bd : Nat) (dq : Option Addr) (dm dc : Nat) (st : Bool) (a : Int) (w : World) : Calls Tryz.prog 132 #[.agg (ncells k i o (.slice cq cm cc) via bd (.slice dq dm dc) st), .int .i64 a] w fun r w' => r = .returned (.int .i64 (if 16 < cm then 24 else 0)) ∧ Below w.heap.size w w' := by
 by_cases h : 16 < cm
 ·have hz : (16 : Int) < (cm : Int) := by omega
  clear h
  go_enter Tryz.func132, Tryz.ntmps132
  go_wp2_with fail
  go_ret
  exact ⟨rfl, ((Gr.refl w).alloc _).below⟩
 ·have hz : ¬ (16 : Int) < (cm : Int) := by omega
  clear h
  go_enter Tryz.func132, Tryz.ntmps132
  go_wp2_with fail
  go_ret
  exact ⟨rfl, ((Gr.refl w).alloc _).below⟩
end Go.Proofs.YtdnnfgabdkkdjaaGreat.Df
