import Derived.Test.YtdnnfgabdkkdjaaGreatGEq
namespace Go.Proofs.YtdnnfgabdkkdjaaGreat.Df
open Go.RowKit Go.Sort
attribute [local go_sem ↓] Go.wp_at_zero Go.wp_at_succ
def has (cm : Nat) (via : Pth) (bd dm : Nat) (st : Bool) : Bool := decide (0 < cm) || !decide (via = (0, 0, 0)) || decide (bd ≠ 0) || decide (0 < dm) || st
set_option maxHeartbeats 2000000 in
theorem hasfields_any (k i o : Int) (cq : Option Addr) (cm cc : Nat) (via : Pth) (bd : Nat) (dq : Option Addr) (dm dc : Nat) (st : Bool) (w : World) : Calls Tryz.prog 112 #[.agg (ncells k i o (.slice cq cm cc) via bd (.slice dq dm dc) st)] w fun r w' => r = .returned (.bool (has cm via bd dm st)) ∧ Below w.heap.size w w' := by
 have heq2 : ∀ W : World, Sem.run Tryz.prog (Op.equalIn 10000 39 (.agg #[.int .u64 (via.1 : Nat), .int .u64 (via.2.1 : Nat), .int .u64 (via.2.2 : Nat)]) (.agg #[.int .u64 0, .int .u64 0, .int .u64 0])) W = .ok (decide (via = (0, 0, 0))) W := fun W => by
  rw [run_eqP 9998 via.1 via.2.1 via.2.2 0 0 0 W]
  exact congrArg (fun b => Result.ok b W) (teq_pth via (0, 0, 0))
 by_cases h1 : 0 < cm
 ·have hz : (0 : Int) < (cm : Int) := by omega
  have HR : Hid (has cm via bd dm st = true) := by show _ = _; simp [has, h1]
  clear h1
  go_enter Tryz.func112, Tryz.ntmps112
  go_wp2_with fail
  go_ret
  exact ⟨by rw [HR.out]; rfl, ((Gr.refl w).alloc _).below⟩
 ·obtain rfl : cm = 0 := by omega
  cases hv : decide (via = (0, 0, 0)) with
  | false =>
   have HR : Hid (has 0 via bd dm st = true) := by show _ = _; simp only [has, hv]; simp
   rw [hv] at heq2
   clear h1 hv
   go_enter Tryz.func112, Tryz.ntmps112
   go_wp2_with fail
   go_ret
   exact ⟨by rw [HR.out]; rfl, ((Gr.refl w).alloc _).below⟩
  | true =>
   have HV := hid hv
   rw [hv] at heq2
   by_cases h3 : bd = 0
   ·by_cases h4 : 0 < dm
    ·have hz4 : (0 : Int) < (dm : Int) := by omega
     have HR : Hid (has 0 via bd dm st = true) := by show _ = _; simp [has, h4]
     have hb : ((bd : Int) == 0) = true := by simp [h3]
     have hb' : ((bd : Int) != 0) = false := by simp [h3]
     clear h1 hv h3
     clear h4
     go_enter Tryz.func112, Tryz.ntmps112
     go_wp2_with fail
     go_ret
     exact ⟨by rw [HR.out]; rfl, ((Gr.refl w).alloc _).below⟩
    ·obtain rfl : dm = 0 := by omega
     have HR : Hid (has 0 via bd 0 st = st) := by show _ = _; simp only [has, hv]; simp [h3]
     have hb : ((bd : Int) == 0) = true := by simp [h3]
     have hb' : ((bd : Int) != 0) = false := by simp [h3]
     clear h1 hv h3
     clear h4
     go_enter Tryz.func112, Tryz.ntmps112
     go_wp2_with fail
     go_ret
     exact ⟨by rw [HR.out]; rfl, ((Gr.refl w).alloc _).below⟩
   ·have HR : Hid (has 0 via bd dm st = true) := by show _ = _; simp [has, h3]
    have hb : ((bd : Int) == 0) = false := by simp [h3]
    have hb' : ((bd : Int) != 0) = true := by simp [h3]
    clear h1 hv h3
    go_enter Tryz.func112, Tryz.ntmps112
    go_wp2_with fail
    go_ret
    exact ⟨by rw [HR.out]; rfl, ((Gr.refl w).alloc _).below⟩
end Go.Proofs.YtdnnfgabdkkdjaaGreat.Df
