import Derived.Test.YtjppkehnjnmbnaaGreatJ10
import Derived.Test.YtjppkehnjnmbnaaGreatLHold
import Derived.BigQuiet
namespace Go.Proofs.YtjppkehnjnmbnaaGreat.Df
open Go.RowKit Go.Sort
attribute [local go_sem ↓] Go.wp_at_zero Go.wp_at_succ
def rfl9 (k : Int) (cm : Nat) (via : Pth) (bd dm : Nat) (st : Bool) (a : Int) : Bool := !(has (if k = 2 ∨ k = 3 then 0 else cm) (if k = 5 then (0, 0, 0) else via) (if k = 5 then 0 else bd) (if k = 8 then 0 else dm) (if k = 8 then false else st)) && decide (tfits via.1 via.2.1 via.2.2 a = 0) && decide (bd ≤ 64)
set_option maxHeartbeats 2000000 in
theorem rfields0_any (k : Int) (k2 : ¬ k = 2) (k3 : ¬ k = 3) (k5 : ¬ k = 5) (k8 : ¬ k = 8) (i o : Int) (cq : Option Addr) (cm cc : Nat) (via : Pth) (bd : Nat) (dq : Option Addr) (dm dc : Nat) (st : Bool) (a : Int) (w : World) : Calls Tryz.prog 73 #[.agg (ncells k i o (.slice cq cm cc) via bd (.slice dq dm dc) st), .int .i64 a] w fun r w' => r = .returned (.bool (rfl9 k cm via bd dm st a)) ∧ Below w.heap.size w w' := by
 have heq2 : ∀ W : World, Sem.run Tryz.prog (Op.equalIn 10000 39 (.agg #[.int .u64 (via.1 : Nat), .int .u64 (via.2.1 : Nat), .int .u64 (via.2.2 : Nat)]) (.agg #[.int .u64 0, .int .u64 0, .int .u64 0])) W = .ok (decide (via = (0, 0, 0))) W := fun W => by
  rw [run_eqP 9998 via.1 via.2.1 via.2.2 0 0 0 W]
  exact congrArg (fun b => Result.ok b W) (teq_pth via (0, 0, 0))
 have hf := fun W => rfits_any via a W
 have kb2 : (k != 2) = true := by simp [k2]
 have kb3 : (k != 3) = true := by simp [k3]
 have kb5 : (k != 5) = true := by simp [k5]
 have kb8 : (k != 8) = true := by simp [k8]
 have B0 := hid ((Gr.refl w).alloc (.cells (ncells k i o (.slice cq cm cc) via bd (.slice dq dm dc) st) 89)).below
 have N0 := hid (heap_new' w (.cells (ncells k i o (.slice cq cm cc) via bd (.slice dq dm dc) st) 89))
 obtain ⟨W0, hW0⟩ : ∃ W, W = w.alloc (.cells (ncells k i o (.slice cq cm cc) via bd (.slice dq dm dc) st) 89) := ⟨_, rfl⟩
 have HW : Hid (w.alloc (.cells #[.int .i64 k, .int .i64 i, .int .i64 o, .slice cq cm cc, .int .u64 (via.1 : Nat), .int .u64 (via.2.1 : Nat), .int .u64 (via.2.2 : Nat), .int .u64 (bd : Nat), .slice dq dm dc, .bool st] 89) = W0) := hW0.symm
 rw [← hW0] at B0 N0
 have c0 := (tk_store N0.out).1
 have l0 := tk_lt N0.out
 clear hW0
 go_enter Tryz.func73, Tryz.ntmps73
 go_upto_region 1 with fail
 rw [HW.out]
 clear HW
 by_cases h0 : 0 < cm
 ·have z0 : (0 : Int) < (cm : Int) := by omega
  have HR : Hid (rfl9 k cm via bd dm st a = false) := by show _ = _; simp [rfl9, has, k2, k3, k5, k8, h0]
  clear h0
  go_wp2_with fail
  go_ret
  exact ⟨by rw [HR.out]; rfl, B0.out⟩
 ·have z0 : ¬ (0 : Int) < (cm : Int) := by omega
  have e0 : cm = 0 := by omega
  by_cases g1 : ¬ via = (0, 0, 0)
  ·have d1 : decide (via = (0, 0, 0)) = false := by simp [g1]
   rw [d1] at heq2
   have HR : Hid (rfl9 k cm via bd dm st a = false) := by show _ = _; simp [rfl9, has, k2, k3, k5, k8, e0, g1]
   clear e0 g1
   go_wp2_with fail
   go_ret
   exact ⟨by rw [HR.out]; rfl, B0.out⟩
  ·have d1 : decide (via = (0, 0, 0)) = true := by simpa using g1
   rw [d1] at heq2
   by_cases h2 : ¬ bd = 0
   ·have b2 : ((bd : Int) == 0) = false := by simp [h2]
    have c2 : ((bd : Int) != 0) = true := by simp [h2]
    have HR : Hid (rfl9 k cm via bd dm st a = false) := by show _ = _; simp [rfl9, has, k2, k3, k5, k8, e0, h2]
    clear e0 g1 h2
    go_wp2_with fail
    go_ret
    exact ⟨by rw [HR.out]; rfl, B0.out⟩
   ·have h2 : bd = 0 := by omega
    have b2 : ((bd : Int) == 0) = true := by simp [h2]
    have c2 : ((bd : Int) != 0) = false := by simp [h2]
    have z2 : (bd : Int) ≤ 64 := by omega
    by_cases h3 : 0 < dm
    ·have z3 : (0 : Int) < (dm : Int) := by omega
     have HR : Hid (rfl9 k cm via bd dm st a = false) := by show _ = _; simp [rfl9, has, k2, k3, k5, k8, e0, h2, h3]
     clear e0 g1 h2 h3
     go_wp2_with fail
     go_ret
     exact ⟨by rw [HR.out]; rfl, B0.out⟩
    ·have z3 : ¬ (0 : Int) < (dm : Int) := by omega
     have e3 : dm = 0 := by omega
     by_cases q4 : st = true
     ·subst q4
      have HR : Hid (rfl9 k cm via bd dm true a = false) := by show _ = _; simp [rfl9, has, k2, k3, k5, k8, e0, h2, e3]
      clear e0 g1 h2 e3
      go_wp2_with fail
      go_ret
      exact ⟨by rw [HR.out]; rfl, B0.out⟩
     ·have q4 : st = false := by simpa using q4
      subst q4
      by_cases g5 : ¬ tfits via.1 via.2.1 via.2.2 a = 0
      ·have d5 : decide (tfits via.1 via.2.1 via.2.2 a = 0) = false := by simp [g5]
       rw [d5] at hf
       have HR : Hid (rfl9 k cm via bd dm false a = false) := by show _ = _; simp [rfl9, has, k2, k3, k5, k8, e0, h2, e3, g5]
       clear e0 g1 h2 e3 g5
       go_wp2_with fail
       refine (hf _).mono ?_
       rintro r w1 ⟨rfl, g1⟩
       have B1 := hid (B0.out.trans (g1.below.mono B0.out.size))
       have hn1 := (g1.below.block _ (tk_lt N0.out)).trans N0.out
       have c1 := (tk_store hn1).1
       have l1 := tk_lt hn1
       clear g1 hn1
       go_wp2_with fail
       go_ret
       exact ⟨by rw [HR.out]; first | rfl | (simp; omega), B1.out⟩
      ·have d5 : decide (tfits via.1 via.2.1 via.2.2 a = 0) = true := by simpa using g5
       rw [d5] at hf
       have HR : Hid (rfl9 k cm via bd dm false a = true) := by show _ = _; simp [rfl9, has, k2, k3, k5, k8, e0, h2, e3]; exact ⟨by simpa using g1, by simpa using g5⟩
       clear e0 g1 h2 e3 g5
       go_wp2_with fail
       refine (hf _).mono ?_
       rintro r w1 ⟨rfl, g1⟩
       have B1 := hid (B0.out.trans (g1.below.mono B0.out.size))
       have hn1 := (g1.below.block _ (tk_lt N0.out)).trans N0.out
       have c1 := (tk_store hn1).1
       have l1 := tk_lt hn1
       clear g1 hn1
       go_wp2_with fail
       go_ret
       exact ⟨by rw [HR.out]; first | rfl | (simp; omega), B1.out⟩
set_option maxHeartbeats 2000000 in
theorem rfields2_any (i o : Int) (cq : Option Addr) (cm cc : Nat) (via : Pth) (bd : Nat) (dq : Option Addr) (dm dc : Nat) (st : Bool) (a : Int) (w : World) : Calls Tryz.prog 73 #[.agg (ncells 2 i o (.slice cq cm cc) via bd (.slice dq dm dc) st), .int .i64 a] w fun r w' => r = .returned (.bool (rfl9 2 cm via bd dm st a)) ∧ Below w.heap.size w w' := by
 have heq2 : ∀ W : World, Sem.run Tryz.prog (Op.equalIn 10000 39 (.agg #[.int .u64 (via.1 : Nat), .int .u64 (via.2.1 : Nat), .int .u64 (via.2.2 : Nat)]) (.agg #[.int .u64 0, .int .u64 0, .int .u64 0])) W = .ok (decide (via = (0, 0, 0))) W := fun W => by
  rw [run_eqP 9998 via.1 via.2.1 via.2.2 0 0 0 W]
  exact congrArg (fun b => Result.ok b W) (teq_pth via (0, 0, 0))
 have hf := fun W => rfits_any via a W
 have B0 := hid ((Gr.refl w).alloc (.cells (ncells 2 i o (.slice cq cm cc) via bd (.slice dq dm dc) st) 89)).below
 have N0 := hid (heap_new' w (.cells (ncells 2 i o (.slice cq cm cc) via bd (.slice dq dm dc) st) 89))
 obtain ⟨W0, hW0⟩ : ∃ W, W = w.alloc (.cells (ncells 2 i o (.slice cq cm cc) via bd (.slice dq dm dc) st) 89) := ⟨_, rfl⟩
 have HW : Hid (w.alloc (.cells #[.int .i64 2, .int .i64 i, .int .i64 o, .slice cq cm cc, .int .u64 (via.1 : Nat), .int .u64 (via.2.1 : Nat), .int .u64 (via.2.2 : Nat), .int .u64 (bd : Nat), .slice dq dm dc, .bool st] 89) = W0) := hW0.symm
 rw [← hW0] at B0 N0
 have c0 := (tk_store N0.out).1
 have l0 := tk_lt N0.out
 clear hW0
 go_enter Tryz.func73, Tryz.ntmps73
 go_upto_region 1 with fail
 rw [HW.out]
 clear HW
 by_cases g0 : ¬ via = (0, 0, 0)
 ·have d0 : decide (via = (0, 0, 0)) = false := by simp [g0]
  rw [d0] at heq2
  have HR : Hid (rfl9 2 cm via bd dm st a = false) := by show _ = _; simp [rfl9, has, g0]
  clear g0
  go_wp2_with fail
  go_ret
  exact ⟨by rw [HR.out]; rfl, B0.out⟩
 ·have d0 : decide (via = (0, 0, 0)) = true := by simpa using g0
  rw [d0] at heq2
  by_cases h1 : ¬ bd = 0
  ·have b1 : ((bd : Int) == 0) = false := by simp [h1]
   have c1 : ((bd : Int) != 0) = true := by simp [h1]
   have HR : Hid (rfl9 2 cm via bd dm st a = false) := by show _ = _; simp [rfl9, has, h1]
   clear g0 h1
   go_wp2_with fail
   go_ret
   exact ⟨by rw [HR.out]; rfl, B0.out⟩
  ·have h1 : bd = 0 := by omega
   have b1 : ((bd : Int) == 0) = true := by simp [h1]
   have c1 : ((bd : Int) != 0) = false := by simp [h1]
   have z1 : (bd : Int) ≤ 64 := by omega
   by_cases h2 : 0 < dm
   ·have z2 : (0 : Int) < (dm : Int) := by omega
    have HR : Hid (rfl9 2 cm via bd dm st a = false) := by show _ = _; simp [rfl9, has, h1, h2]
    clear g0 h1 h2
    go_wp2_with fail
    go_ret
    exact ⟨by rw [HR.out]; rfl, B0.out⟩
   ·have z2 : ¬ (0 : Int) < (dm : Int) := by omega
    have e2 : dm = 0 := by omega
    by_cases q3 : st = true
    ·subst q3
     have HR : Hid (rfl9 2 cm via bd dm true a = false) := by show _ = _; simp [rfl9, has, h1, e2]
     clear g0 h1 e2
     go_wp2_with fail
     go_ret
     exact ⟨by rw [HR.out]; rfl, B0.out⟩
    ·have q3 : st = false := by simpa using q3
     subst q3
     by_cases g4 : ¬ tfits via.1 via.2.1 via.2.2 a = 0
     ·have d4 : decide (tfits via.1 via.2.1 via.2.2 a = 0) = false := by simp [g4]
      rw [d4] at hf
      have HR : Hid (rfl9 2 cm via bd dm false a = false) := by show _ = _; simp [rfl9, has, h1, e2, g4]
      clear g0 h1 e2 g4
      go_wp2_with fail
      refine (hf _).mono ?_
      rintro r w1 ⟨rfl, g1⟩
      have B1 := hid (B0.out.trans (g1.below.mono B0.out.size))
      have hn1 := (g1.below.block _ (tk_lt N0.out)).trans N0.out
      have c1 := (tk_store hn1).1
      have l1 := tk_lt hn1
      clear g1 hn1
      go_wp2_with fail
      go_ret
      exact ⟨by rw [HR.out]; first | rfl | (simp; omega), B1.out⟩
     ·have d4 : decide (tfits via.1 via.2.1 via.2.2 a = 0) = true := by simpa using g4
      rw [d4] at hf
      have HR : Hid (rfl9 2 cm via bd dm false a = true) := by show _ = _; simp [rfl9, has, h1, e2]; exact ⟨by simpa using g0, by simpa using g4⟩
      clear g0 h1 e2 g4
      go_wp2_with fail
      refine (hf _).mono ?_
      rintro r w1 ⟨rfl, g1⟩
      have B1 := hid (B0.out.trans (g1.below.mono B0.out.size))
      have hn1 := (g1.below.block _ (tk_lt N0.out)).trans N0.out
      have c1 := (tk_store hn1).1
      have l1 := tk_lt hn1
      clear g1 hn1
      go_wp2_with fail
      go_ret
      exact ⟨by rw [HR.out]; first | rfl | (simp; omega), B1.out⟩
set_option maxHeartbeats 2000000 in
theorem rfields3_any (i o : Int) (cq : Option Addr) (cm cc : Nat) (via : Pth) (bd : Nat) (dq : Option Addr) (dm dc : Nat) (st : Bool) (a : Int) (w : World) : Calls Tryz.prog 73 #[.agg (ncells 3 i o (.slice cq cm cc) via bd (.slice dq dm dc) st), .int .i64 a] w fun r w' => r = .returned (.bool (rfl9 3 cm via bd dm st a)) ∧ Below w.heap.size w w' := by
 have heq2 : ∀ W : World, Sem.run Tryz.prog (Op.equalIn 10000 39 (.agg #[.int .u64 (via.1 : Nat), .int .u64 (via.2.1 : Nat), .int .u64 (via.2.2 : Nat)]) (.agg #[.int .u64 0, .int .u64 0, .int .u64 0])) W = .ok (decide (via = (0, 0, 0))) W := fun W => by
  rw [run_eqP 9998 via.1 via.2.1 via.2.2 0 0 0 W]
  exact congrArg (fun b => Result.ok b W) (teq_pth via (0, 0, 0))
 have hf := fun W => rfits_any via a W
 have B0 := hid ((Gr.refl w).alloc (.cells (ncells 3 i o (.slice cq cm cc) via bd (.slice dq dm dc) st) 89)).below
 have N0 := hid (heap_new' w (.cells (ncells 3 i o (.slice cq cm cc) via bd (.slice dq dm dc) st) 89))
 obtain ⟨W0, hW0⟩ : ∃ W, W = w.alloc (.cells (ncells 3 i o (.slice cq cm cc) via bd (.slice dq dm dc) st) 89) := ⟨_, rfl⟩
 have HW : Hid (w.alloc (.cells #[.int .i64 3, .int .i64 i, .int .i64 o, .slice cq cm cc, .int .u64 (via.1 : Nat), .int .u64 (via.2.1 : Nat), .int .u64 (via.2.2 : Nat), .int .u64 (bd : Nat), .slice dq dm dc, .bool st] 89) = W0) := hW0.symm
 rw [← hW0] at B0 N0
 have c0 := (tk_store N0.out).1
 have l0 := tk_lt N0.out
 clear hW0
 go_enter Tryz.func73, Tryz.ntmps73
 go_upto_region 1 with fail
 rw [HW.out]
 clear HW
 by_cases g0 : ¬ via = (0, 0, 0)
 ·have d0 : decide (via = (0, 0, 0)) = false := by simp [g0]
  rw [d0] at heq2
  have HR : Hid (rfl9 3 cm via bd dm st a = false) := by show _ = _; simp [rfl9, has, g0]
  clear g0
  go_wp2_with fail
  go_ret
  exact ⟨by rw [HR.out]; rfl, B0.out⟩
 ·have d0 : decide (via = (0, 0, 0)) = true := by simpa using g0
  rw [d0] at heq2
  by_cases h1 : ¬ bd = 0
  ·have b1 : ((bd : Int) == 0) = false := by simp [h1]
   have c1 : ((bd : Int) != 0) = true := by simp [h1]
   have HR : Hid (rfl9 3 cm via bd dm st a = false) := by show _ = _; simp [rfl9, has, h1]
   clear g0 h1
   go_wp2_with fail
   go_ret
   exact ⟨by rw [HR.out]; rfl, B0.out⟩
  ·have h1 : bd = 0 := by omega
   have b1 : ((bd : Int) == 0) = true := by simp [h1]
   have c1 : ((bd : Int) != 0) = false := by simp [h1]
   have z1 : (bd : Int) ≤ 64 := by omega
   by_cases h2 : 0 < dm
   ·have z2 : (0 : Int) < (dm : Int) := by omega
    have HR : Hid (rfl9 3 cm via bd dm st a = false) := by show _ = _; simp [rfl9, has, h1, h2]
    clear g0 h1 h2
    go_wp2_with fail
    go_ret
    exact ⟨by rw [HR.out]; rfl, B0.out⟩
   ·have z2 : ¬ (0 : Int) < (dm : Int) := by omega
    have e2 : dm = 0 := by omega
    by_cases q3 : st = true
    ·subst q3
     have HR : Hid (rfl9 3 cm via bd dm true a = false) := by show _ = _; simp [rfl9, has, h1, e2]
     clear g0 h1 e2
     go_wp2_with fail
     go_ret
     exact ⟨by rw [HR.out]; rfl, B0.out⟩
    ·have q3 : st = false := by simpa using q3
     subst q3
     by_cases g4 : ¬ tfits via.1 via.2.1 via.2.2 a = 0
     ·have d4 : decide (tfits via.1 via.2.1 via.2.2 a = 0) = false := by simp [g4]
      rw [d4] at hf
      have HR : Hid (rfl9 3 cm via bd dm false a = false) := by show _ = _; simp [rfl9, has, h1, e2, g4]
      clear g0 h1 e2 g4
      go_wp2_with fail
      refine (hf _).mono ?_
      rintro r w1 ⟨rfl, g1⟩
      have B1 := hid (B0.out.trans (g1.below.mono B0.out.size))
      have hn1 := (g1.below.block _ (tk_lt N0.out)).trans N0.out
      have c1 := (tk_store hn1).1
      have l1 := tk_lt hn1
      clear g1 hn1
      go_wp2_with fail
      go_ret
      exact ⟨by rw [HR.out]; first | rfl | (simp; omega), B1.out⟩
     ·have d4 : decide (tfits via.1 via.2.1 via.2.2 a = 0) = true := by simpa using g4
      rw [d4] at hf
      have HR : Hid (rfl9 3 cm via bd dm false a = true) := by show _ = _; simp [rfl9, has, h1, e2]; exact ⟨by simpa using g0, by simpa using g4⟩
      clear g0 h1 e2 g4
      go_wp2_with fail
      refine (hf _).mono ?_
      rintro r w1 ⟨rfl, g1⟩
      have B1 := hid (B0.out.trans (g1.below.mono B0.out.size))
      have hn1 := (g1.below.block _ (tk_lt N0.out)).trans N0.out
      have c1 := (tk_store hn1).1
      have l1 := tk_lt hn1
      clear g1 hn1
      go_wp2_with fail
      go_ret
      exact ⟨by rw [HR.out]; first | rfl | (simp; omega), B1.out⟩
set_option maxHeartbeats 2000000 in
theorem rfields5_any (i o : Int) (cq : Option Addr) (cm cc : Nat) (via : Pth) (bd : Nat) (dq : Option Addr) (dm dc : Nat) (st : Bool) (a : Int) (w : World) : Calls Tryz.prog 73 #[.agg (ncells 5 i o (.slice cq cm cc) via bd (.slice dq dm dc) st), .int .i64 a] w fun r w' => r = .returned (.bool (rfl9 5 cm via bd dm st a)) ∧ Below w.heap.size w w' := by
 have heq2 : ∀ W : World, Sem.run Tryz.prog (Op.equalIn 10000 39 (.agg #[.int .u64 (via.1 : Nat), .int .u64 (via.2.1 : Nat), .int .u64 (via.2.2 : Nat)]) (.agg #[.int .u64 0, .int .u64 0, .int .u64 0])) W = .ok (decide (via = (0, 0, 0))) W := fun W => by
  rw [run_eqP 9998 via.1 via.2.1 via.2.2 0 0 0 W]
  exact congrArg (fun b => Result.ok b W) (teq_pth via (0, 0, 0))
 have hf := fun W => rfits_any via a W
 have B0 := hid ((Gr.refl w).alloc (.cells (ncells 5 i o (.slice cq cm cc) via bd (.slice dq dm dc) st) 89)).below
 have N0 := hid (heap_new' w (.cells (ncells 5 i o (.slice cq cm cc) via bd (.slice dq dm dc) st) 89))
 obtain ⟨W0, hW0⟩ : ∃ W, W = w.alloc (.cells (ncells 5 i o (.slice cq cm cc) via bd (.slice dq dm dc) st) 89) := ⟨_, rfl⟩
 have HW : Hid (w.alloc (.cells #[.int .i64 5, .int .i64 i, .int .i64 o, .slice cq cm cc, .int .u64 (via.1 : Nat), .int .u64 (via.2.1 : Nat), .int .u64 (via.2.2 : Nat), .int .u64 (bd : Nat), .slice dq dm dc, .bool st] 89) = W0) := hW0.symm
 rw [← hW0] at B0 N0
 have c0 := (tk_store N0.out).1
 have l0 := tk_lt N0.out
 clear hW0
 go_enter Tryz.func73, Tryz.ntmps73
 go_upto_region 1 with fail
 rw [HW.out]
 clear HW
 by_cases h0 : 0 < cm
 ·have z0 : (0 : Int) < (cm : Int) := by omega
  have HR : Hid (rfl9 5 cm via bd dm st a = false) := by show _ = _; simp [rfl9, has, h0]
  clear h0
  go_wp2_with fail
  go_ret
  exact ⟨by rw [HR.out]; rfl, B0.out⟩
 ·have z0 : ¬ (0 : Int) < (cm : Int) := by omega
  have e0 : cm = 0 := by omega
  by_cases h1 : 0 < dm
  ·have z1 : (0 : Int) < (dm : Int) := by omega
   have HR : Hid (rfl9 5 cm via bd dm st a = false) := by show _ = _; simp [rfl9, has, e0, h1]
   clear e0 h1
   go_wp2_with fail
   go_ret
   exact ⟨by rw [HR.out]; rfl, B0.out⟩
  ·have z1 : ¬ (0 : Int) < (dm : Int) := by omega
   have e1 : dm = 0 := by omega
   by_cases q2 : st = true
   ·subst q2
    have HR : Hid (rfl9 5 cm via bd dm true a = false) := by show _ = _; simp [rfl9, has, e0, e1]
    clear e0 e1
    go_wp2_with fail
    go_ret
    exact ⟨by rw [HR.out]; rfl, B0.out⟩
   ·have q2 : st = false := by simpa using q2
    subst q2
    by_cases g3 : ¬ tfits via.1 via.2.1 via.2.2 a = 0
    ·have d3 : decide (tfits via.1 via.2.1 via.2.2 a = 0) = false := by simp [g3]
     rw [d3] at hf
     have HR : Hid (rfl9 5 cm via bd dm false a = false) := by show _ = _; simp [rfl9, has, e0, e1, g3]
     clear e0 e1 g3
     go_wp2_with fail
     refine (hf _).mono ?_
     rintro r w1 ⟨rfl, g1⟩
     have B1 := hid (B0.out.trans (g1.below.mono B0.out.size))
     have hn1 := (g1.below.block _ (tk_lt N0.out)).trans N0.out
     have c1 := (tk_store hn1).1
     have l1 := tk_lt hn1
     clear g1 hn1
     go_wp2_with fail
     go_ret
     exact ⟨by rw [HR.out]; first | rfl | (simp; omega), B1.out⟩
    ·have d3 : decide (tfits via.1 via.2.1 via.2.2 a = 0) = true := by simpa using g3
     rw [d3] at hf
     by_cases h4 : ¬ bd ≤ 64
     ·have z4 : ¬ (bd : Int) ≤ 64 := by omega
      have HR : Hid (rfl9 5 cm via bd dm false a = false) := by show _ = _; simp [rfl9, has, e0, e1, h4]
      clear e0 e1 g3 h4
      go_wp2_with fail
      refine (hf _).mono ?_
      rintro r w1 ⟨rfl, g1⟩
      have B1 := hid (B0.out.trans (g1.below.mono B0.out.size))
      have hn1 := (g1.below.block _ (tk_lt N0.out)).trans N0.out
      have c1 := (tk_store hn1).1
      have l1 := tk_lt hn1
      clear g1 hn1
      go_wp2_with fail
      go_ret
      exact ⟨by rw [HR.out]; first | rfl | (simp; omega), B1.out⟩
     ·have z4 : (bd : Int) ≤ 64 := by omega
      have h4 : bd ≤ 64 := by omega
      have HR : Hid (rfl9 5 cm via bd dm false a = true) := by show _ = _; simp [rfl9, has, e0, e1, h4]; simpa using g3
      clear e0 e1 g3 h4
      go_wp2_with fail
      refine (hf _).mono ?_
      rintro r w1 ⟨rfl, g1⟩
      have B1 := hid (B0.out.trans (g1.below.mono B0.out.size))
      have hn1 := (g1.below.block _ (tk_lt N0.out)).trans N0.out
      have c1 := (tk_store hn1).1
      have l1 := tk_lt hn1
      clear g1 hn1
      go_wp2_with fail
      go_ret
      exact ⟨by rw [HR.out]; first | rfl | (simp; omega), B1.out⟩
set_option maxHeartbeats 2000000 in
theorem rfields8_any (i o : Int) (cq : Option Addr) (cm cc : Nat) (via : Pth) (bd : Nat) (dq : Option Addr) (dm dc : Nat) (st : Bool) (a : Int) (w : World) : Calls Tryz.prog 73 #[.agg (ncells 8 i o (.slice cq cm cc) via bd (.slice dq dm dc) st), .int .i64 a] w fun r w' => r = .returned (.bool (rfl9 8 cm via bd dm st a)) ∧ Below w.heap.size w w' := by
 have heq2 : ∀ W : World, Sem.run Tryz.prog (Op.equalIn 10000 39 (.agg #[.int .u64 (via.1 : Nat), .int .u64 (via.2.1 : Nat), .int .u64 (via.2.2 : Nat)]) (.agg #[.int .u64 0, .int .u64 0, .int .u64 0])) W = .ok (decide (via = (0, 0, 0))) W := fun W => by
  rw [run_eqP 9998 via.1 via.2.1 via.2.2 0 0 0 W]
  exact congrArg (fun b => Result.ok b W) (teq_pth via (0, 0, 0))
 have hf := fun W => rfits_any via a W
 have B0 := hid ((Gr.refl w).alloc (.cells (ncells 8 i o (.slice cq cm cc) via bd (.slice dq dm dc) st) 89)).below
 have N0 := hid (heap_new' w (.cells (ncells 8 i o (.slice cq cm cc) via bd (.slice dq dm dc) st) 89))
 obtain ⟨W0, hW0⟩ : ∃ W, W = w.alloc (.cells (ncells 8 i o (.slice cq cm cc) via bd (.slice dq dm dc) st) 89) := ⟨_, rfl⟩
 have HW : Hid (w.alloc (.cells #[.int .i64 8, .int .i64 i, .int .i64 o, .slice cq cm cc, .int .u64 (via.1 : Nat), .int .u64 (via.2.1 : Nat), .int .u64 (via.2.2 : Nat), .int .u64 (bd : Nat), .slice dq dm dc, .bool st] 89) = W0) := hW0.symm
 rw [← hW0] at B0 N0
 have c0 := (tk_store N0.out).1
 have l0 := tk_lt N0.out
 clear hW0
 go_enter Tryz.func73, Tryz.ntmps73
 go_upto_region 1 with fail
 rw [HW.out]
 clear HW
 by_cases h0 : 0 < cm
 ·have z0 : (0 : Int) < (cm : Int) := by omega
  have HR : Hid (rfl9 8 cm via bd dm st a = false) := by show _ = _; simp [rfl9, has, h0]
  clear h0
  go_wp2_with fail
  go_ret
  exact ⟨by rw [HR.out]; rfl, B0.out⟩
 ·have z0 : ¬ (0 : Int) < (cm : Int) := by omega
  have e0 : cm = 0 := by omega
  by_cases g1 : ¬ via = (0, 0, 0)
  ·have d1 : decide (via = (0, 0, 0)) = false := by simp [g1]
   rw [d1] at heq2
   have HR : Hid (rfl9 8 cm via bd dm st a = false) := by show _ = _; simp [rfl9, has, e0, g1]
   clear e0 g1
   go_wp2_with fail
   go_ret
   exact ⟨by rw [HR.out]; rfl, B0.out⟩
  ·have d1 : decide (via = (0, 0, 0)) = true := by simpa using g1
   rw [d1] at heq2
   by_cases h2 : ¬ bd = 0
   ·have b2 : ((bd : Int) == 0) = false := by simp [h2]
    have c2 : ((bd : Int) != 0) = true := by simp [h2]
    have HR : Hid (rfl9 8 cm via bd dm st a = false) := by show _ = _; simp [rfl9, has, e0, h2]
    clear e0 g1 h2
    go_wp2_with fail
    go_ret
    exact ⟨by rw [HR.out]; rfl, B0.out⟩
   ·have h2 : bd = 0 := by omega
    have b2 : ((bd : Int) == 0) = true := by simp [h2]
    have c2 : ((bd : Int) != 0) = false := by simp [h2]
    have z2 : (bd : Int) ≤ 64 := by omega
    by_cases g3 : ¬ tfits via.1 via.2.1 via.2.2 a = 0
    ·have d3 : decide (tfits via.1 via.2.1 via.2.2 a = 0) = false := by simp [g3]
     rw [d3] at hf
     have HR : Hid (rfl9 8 cm via bd dm st a = false) := by show _ = _; simp [rfl9, has, e0, h2, g3]
     clear e0 g1 h2 g3
     go_wp2_with fail
     refine (hf _).mono ?_
     rintro r w1 ⟨rfl, g1⟩
     have B1 := hid (B0.out.trans (g1.below.mono B0.out.size))
     have hn1 := (g1.below.block _ (tk_lt N0.out)).trans N0.out
     have c1 := (tk_store hn1).1
     have l1 := tk_lt hn1
     clear g1 hn1
     go_wp2_with fail
     go_ret
     exact ⟨by rw [HR.out]; first | rfl | (simp; omega), B1.out⟩
    ·have d3 : decide (tfits via.1 via.2.1 via.2.2 a = 0) = true := by simpa using g3
     rw [d3] at hf
     have HR : Hid (rfl9 8 cm via bd dm st a = true) := by show _ = _; simp [rfl9, has, e0, h2]; exact ⟨by simpa using g1, by simpa using g3⟩
     clear e0 g1 h2 g3
     go_wp2_with fail
     refine (hf _).mono ?_
     rintro r w1 ⟨rfl, g1⟩
     have B1 := hid (B0.out.trans (g1.below.mono B0.out.size))
     have hn1 := (g1.below.block _ (tk_lt N0.out)).trans N0.out
     have c1 := (tk_store hn1).1
     have l1 := tk_lt hn1
     clear g1 hn1
     go_wp2_with fail
     go_ret
     exact ⟨by rw [HR.out]; first | rfl | (simp; omega), B1.out⟩
end Go.Proofs.YtjppkehnjnmbnaaGreat.Df

namespace Go.Proofs.YtjppkehnjnmbnaaGreat.Df
open Go.RowKit Go.Sort
attribute [local go_sem ↓] Go.wp_at_zero Go.wp_at_succ
theorem cok_bad {i o a : Int} {l : List Con} {j : Nat} {c : Con} (hj : l[j]? = some c) (h : ¬ cgood i o a l j c) : cok i o a l = false := by
 rw [Bool.eq_false_iff]
 intro hc
 exact h ((cok_iff.1 hc).2 j c hj)
theorem isin_false {l : List Con} {j : Nat} {y : Con} (h : ∀ m c, m < j → l[m]? = some c → c ≠ y) : isin (l.take j) y = false := by
 unfold isin
 rw [List.any_eq_false]
 intro c hc
 obtain ⟨m, hm, rfl⟩ := List.mem_iff_getElem.1 hc
 have hm2 : m < j ∧ m < l.length := by simp at hm; omega
 have := h m l[m] hm2.1 (by simp [hm2.2])
 simp only [List.getElem_take, decide_eq_true_eq]
 exact fun e => this e.symm
theorem isin_true {l : List Con} {j m : Nat} {y : Con} (hm : m < j) (h : l[m]? = some y) : isin (l.take j) y = true := by
 unfold isin
 rw [List.any_eq_true]
 exact ⟨y, List.mem_of_getElem? (i := m) (by rw [List.getElem?_take, if_pos hm]; exact h), by simp⟩
set_option maxRecDepth 100000 in
set_option maxHeartbeats 8000000 in
theorem rconns_any {M : Nat} (k i o : Int) (cq : Option Addr) (cm cc : Nat) (via : Pth) (bd : Nat) (dq : Option Addr) (dc : Nat) (st : Bool) (l : List Con) (a : Int) (w : World) (hL : Lz EC M w (.slice dq l.length dc) l) : Calls Tryz.prog 74 #[.agg (ncells k i o (.slice cq cm cc) via bd (.slice dq l.length dc) st), .int .i64 a] w fun r w' => r = .returned (.bool (cok i o a l)) ∧ Below w.heap.size w w' := by
 have hmx : Tryz.prog.follows .mixedOrders = true := by kernel_rfl
 have g0 := (Gr.refl w).alloc (.cells (ncells k i o (.slice cq cm cc) via bd (.slice dq l.length dc) st) 89)
 have HL := hid (hL.below g0.below)
 have HB := hid (heap_new' w (.cells (ncells k i o (.slice cq cm cc) via bd (.slice dq l.length dc) st) 89))
 have B0 := hid g0.below
 obtain ⟨n, hn⟩ : ∃ n, n = l.length := ⟨_, rfl⟩
 rw [← hn] at HL HB B0 ⊢
 have HN := hid hn
 obtain ⟨W0, hW0⟩ : ∃ W, W = w.alloc (.cells (ncells k i o (.slice cq cm cc) via bd (.slice dq n dc) st) 89) := ⟨_, rfl⟩
 have HW : Hid (w.alloc (.cells #[.int .i64 k, .int .i64 i, .int .i64 o, .slice cq cm cc, .int .u64 (via.1 : Nat), .int .u64 (via.2.1 : Nat), .int .u64 (via.2.2 : Nat), .int .u64 (bd : Nat), .slice dq n dc, .bool st] 89) = W0) := hW0.symm
 rw [← hW0] at HL HB B0
 have c0 := (tk_store HB.out).1
 have l0 := tk_lt HB.out
 clear hL g0 hW0 hn
 by_cases h16 : 16 < n
 ·have hz : (16 : Int) < (n : Int) := by omega
  have HR : Hid (cok i o a l = false) := by
   show _ = _
   unfold cok
   rw [decide_eq_false (by have := HN.out; omega)]
   rfl
  clear h16
  go_enter Tryz.func74, Tryz.ntmps74
  go_upto_region 1 with fail
  rw [HW.out]
  go_wp2_with fail
  go_ret
  exact ⟨by rw [HR.out]; rfl, B0.out⟩
 ·have hz : ¬ (16 : Int) < (n : Int) := by omega
  go_enter Tryz.func74, Tryz.ntmps74
  go_upto_region 1 with fail
  rw [HW.out]
  clear HW
  go_wp2_with fail
  clear c0 l0
  go_loopw [5] (fun s5 wr => ∃ j : Nat, j ≤ n ∧ s5 = .int .i64 (j : Nat) ∧ Hid (Below W0.heap.size W0 wr ∧ ∀ m c, m < j → l[m]? = some c → cgood i o a l m c)) (fun s5 _ => n - (RowKit.intOf s5).toNat)
  case atStart => exact ⟨0, Nat.zero_le _, rfl, Below.refl _ _, fun m c hm => by omega⟩
  case round =>
   obtain ⟨j, hj, rfl, HI⟩ := hrel
   have hb0 := (HI.out.1.block _ (tk_lt HB.out)).trans HB.out
   have c1 := (tk_store hb0).1
   have l1 := tk_lt hb0
   clear hb0
   by_cases hlt : j < n
   ·have hltz : (j : Int) < (n : Int) := by omega
    have hj0 : (0 : Int) ≤ (j : Int) := by omega
    obtain ⟨y, hy⟩ : ∃ y, l[j]? = some y := ⟨l[j]'(by have := HN.out; omega), by simp⟩
    obtain ⟨b1, o1, q1, ev1, zz1, x0, x1, x2, x3, x4⟩ := ls_atC ((HL.out.below HI.out.1).ls hy) hy
    simp only [Value.slice.injEq] at ev1
    obtain ⟨rfl, -, rfl⟩ := ev1
    have HY := hid hy
    clear hy
    obtain ⟨yb, hyb⟩ : ∃ b, b = wr.heap.size := ⟨_, rfl⟩
    obtain ⟨W5, hW5⟩ : ∃ W, W = wr.alloc (.cells (ccells y) 92) := ⟨_, rfl⟩
    have P5 : Hid (Below W0.heap.size W0 W5 ∧ W5.heap[yb]? = some (.cells (ccells y) 92 (0, 0)) ∧ W5.heap[w.heap.size]? = some (.cells (ncells k i o (.slice cq cm cc) via bd (.slice (some ⟨b1, o1, none⟩) n dc) st) 89 (0, 0))) := by
     have g5 := ((Gr.refl wr).alloc (.cells (ccells y) 92)).below
     have h5 := HI.out.1.trans (g5.mono HI.out.1.size)
     rw [hW5, hyb]
     exact ⟨h5, heap_new' _ _, (h5.block _ (tk_lt HB.out)).trans HB.out⟩
    have HW5 : Hid (wr.alloc (.cells #[.int .i64 y.inn, .int .i64 y.out, .int .u64 (y.via.1 : Nat), .int .u64 (y.via.2.1 : Nat), .int .u64 (y.via.2.2 : Nat)] 92) = W5 ∧ wr.heap.size = yb) := ⟨hW5.symm, hyb.symm⟩
    clear hW5 hyb
    go_upto_region 7 with fail
    rw [HW5.out.1, HW5.out.2]
    clear HW5 x0 x1 x2 x3 x4 zz1 c1 l1
    have cy := (tk_store P5.out.2.1).1
    have ly := tk_lt P5.out.2.1
    have cn := (tk_store P5.out.2.2).1
    have ln := tk_lt P5.out.2.2
    have hf := fun W => rfits_any y.via a W
    by_cases h1 : y.inn < 0
    ·have HR : Hid (cok i o a l = false) := cok_bad HY.out (fun h => by have h1 := h.1; have h2 := h.2.1; omega)
     go_wp2_with fail
     go_ret
     exact ⟨by rw [HR.out]; rfl, B0.out.trans (P5.out.1.mono B0.out.size)⟩
    ·by_cases h2 : i ≤ y.inn
     ·have HR : Hid (cok i o a l = false) := cok_bad HY.out (fun h => by have h1 := h.1; have h2 := h.2.1; omega)
      go_wp2_with fail
      go_ret
      exact ⟨by rw [HR.out]; rfl, B0.out.trans (P5.out.1.mono B0.out.size)⟩
     ·by_cases h3 : y.out < 0
      ·have HR : Hid (cok i o a l = false) := cok_bad HY.out (fun h => by have h1 := h.1; have h2 := h.2.1; omega)
       go_wp2_with fail
       go_ret
       exact ⟨by rw [HR.out]; rfl, B0.out.trans (P5.out.1.mono B0.out.size)⟩
      ·by_cases h4 : o ≤ y.out
       ·have HR : Hid (cok i o a l = false) := cok_bad HY.out (fun h => by have h1 := h.1; have h2 := h.2.1; omega)
        go_wp2_with fail
        go_ret
        exact ⟨by rw [HR.out]; rfl, B0.out.trans (P5.out.1.mono B0.out.size)⟩
       ·by_cases g5 : ¬ tfits y.via.1 y.via.2.1 y.via.2.2 a = 0
        ·have d5 : decide (tfits y.via.1 y.via.2.1 y.via.2.2 a = 0) = false := by simp [g5]
         rw [d5] at hf
         have HR : Hid (cok i o a l = false) := cok_bad HY.out (fun h => g5 h.2.2.1)
         clear g5 d5
         go_wp2_with fail
         refine (hf _).mono ?_
         rintro r w6 ⟨rfl, g6⟩
         have B6 := hid (B0.out.trans ((P5.out.1.trans (g6.below.mono P5.out.1.size)).mono B0.out.size))
         clear g6
         go_wp2_with fail
         go_ret
         exact ⟨by rw [HR.out]; rfl, B6.out⟩
        ·have g5 : tfits y.via.1 y.via.2.1 y.via.2.2 a = 0 := by simpa using g5
         have d5 : decide (tfits y.via.1 y.via.2.1 y.via.2.2 a = 0) = true := by simp [g5]
         rw [d5] at hf
         have HT : Hid ((0 ≤ y.inn ∧ y.inn < i) ∧ (0 ≤ y.out ∧ y.out < o) ∧ tfits y.via.1 y.via.2.1 y.via.2.2 a = 0) := ⟨⟨by omega, by omega⟩, ⟨by omega, by omega⟩, g5⟩
         clear g5 d5
         go_wp2_with fail
         refine (hf _).mono ?_
         rintro r w6 ⟨rfl, g6⟩
         have P6 : Hid (Below W0.heap.size W0 w6 ∧ w6.heap[yb]? = some (.cells (ccells y) 92 (0, 0)) ∧ w6.heap[w.heap.size]? = some (.cells (ncells k i o (.slice cq cm cc) via bd (.slice (some ⟨b1, o1, none⟩) n dc) st) 89 (0, 0))) := ⟨P5.out.1.trans (g6.below.mono P5.out.1.size), (g6.below.block _ (tk_lt P5.out.2.1)).trans P5.out.2.1, (g6.below.block _ (tk_lt P5.out.2.2)).trans P5.out.2.2⟩
         clear g6 cy ly cn ln hf h1 h2 h3 h4
         go_wp2_with fail
         go_loopw [7] (fun s7 wr => ∃ p : Nat, p ≤ j ∧ s7 = .int .i64 (p : Nat) ∧ Hid ((Below W0.heap.size W0 wr ∧ wr.heap[yb]? = some (.cells (ccells y) 92 (0, 0)) ∧ wr.heap[w.heap.size]? = some (.cells (ncells k i o (.slice cq cm cc) via bd (.slice (some ⟨b1, o1, none⟩) n dc) st) 89 (0, 0))) ∧ ∀ m c, m < p → l[m]? = some c → c ≠ y)) (fun s7 _ => j - (RowKit.intOf s7).toNat)
         case atStart => exact ⟨0, Nat.zero_le _, rfl, P6.out, fun m c hm => by omega⟩
         case round =>
          clear P6
          obtain ⟨p, hp, rfl, HP⟩ := hrel
          by_cases hpl : p < j
          ·have hplz : (p : Int) < (j : Int) := by omega
           have hp0 : (0 : Int) ≤ (p : Int) := by omega
           have hpn : (p : Int) < (n : Int) := by omega
           obtain ⟨z, hz2⟩ : ∃ z, l[p]? = some z := ⟨l[p]'(by have := HN.out; omega), by simp⟩
           obtain ⟨b2, o2, q2, ev2, zz2, x0, x1, x2, x3, x4⟩ := ls_atC ((HL.out.below HP.out.1.1).ls hz2) hz2
           simp only [Value.slice.injEq, Option.some.injEq, Addr.mk.injEq] at ev2
           obtain ⟨⟨rfl, rfl, -⟩, -, rfl⟩ := ev2
           have HZ := hid hz2
           have heq := fun W => run_eqC z y W
           have cy := (tk_store HP.out.1.2.1).1
           have ly := tk_lt HP.out.1.2.1
           have cn := (tk_store HP.out.1.2.2).1
           have ln := tk_lt HP.out.1.2.2
           clear hz2
           go_upto_region 12 with fail
           have hS0 : wr.drew = wr.drew := rfl
           refine wp_regionD (S := fun W => W = wr.drew) (D := []) hmx ?_
           refine' wpAnyD_take (i := 0) (oi := {dst := some 58, op := .fieldAddr 89 (.tmp 2) 6, type := 0, pos := "ref.go:83", after := #[], guard := none}) (v := _) rfl (by kernel_rfl) (by kernel_rfl) (by kernel_rfl) (fun _ _ _ h => h) (by kernel_rfl) (Or.inl ⟨by rfl, ?hy1⟩) hS0 ?rest1
           case hy1 => (intro W hSw; subst hSw; go_simp; try (with_reducible rfl))
           try simp only [Act.put, List.setIfInBounds_toArray, List.set_cons_zero, List.set_cons_succ]
           refine' wpAnyD_take (i := 1) (oi := {dst := some 59, op := .load 85 (.tmp 58), type := 85, pos := "ref.go:83", after := #[{on := 0, ground := .data}], guard := none}) (v := _) rfl (by kernel_rfl) (by kernel_rfl) (by kernel_rfl) (fun _ _ _ h => h) (by kernel_rfl) (Or.inl ⟨by rfl, ?hy2⟩) hS0 ?rest2
           case hy2 => (intro W hSw; subst hSw; go_simp; try (with_reducible rfl))
           try simp only [Act.put, List.setIfInBounds_toArray, List.set_cons_zero, List.set_cons_succ]
           refine' wpAnyD_take (i := 2) (oi := {dst := some 60, op := .move (.tmp 7), type := 3, pos := "ref.go:83", after := #[], guard := none}) (v := _) rfl (by kernel_rfl) (by kernel_rfl) (by kernel_rfl) (fun _ _ _ h => h) (by kernel_rfl) (Or.inl ⟨by rfl, ?hy3⟩) hS0 ?rest3
           case hy3 => (intro W hSw; subst hSw; go_simp; try (with_reducible rfl))
           try simp only [Act.put, List.setIfInBounds_toArray, List.set_cons_zero, List.set_cons_succ]
           refine' wpAnyD_take (i := 3) (oi := {dst := some 61, op := .indexAddr 85 (.tmp 59) (.tmp 60), type := 0, pos := "ref.go:83", after := #[{on := 1, ground := .data}, {on := 2, ground := .data}], guard := none}) (v := _) rfl (by kernel_rfl) (by kernel_rfl) (by kernel_rfl) (fun _ _ _ h => h) (by kernel_rfl) (Or.inl ⟨by rfl, ?hy4⟩) hS0 ?rest4
           case hy4 => (intro W hSw; subst hSw; go_simp; try (with_reducible rfl))
           try simp only [Act.put, List.setIfInBounds_toArray, List.set_cons_zero, List.set_cons_succ]
           refine' wpAnyD_take (i := 4) (oi := {dst := some 62, op := .load 92 (.tmp 61), type := 92, pos := "ref.go:83", after := #[{on := 3, ground := .data}], guard := none}) (v := _) rfl (by kernel_rfl) (by kernel_rfl) (by kernel_rfl) (fun _ _ _ h => h) (by kernel_rfl) (Or.inl ⟨by rfl, ?hy5⟩) hS0 ?rest5
           case hy5 => (intro W hSw; subst hSw; go_simp; try (with_reducible rfl))
           try simp only [Act.put, List.setIfInBounds_toArray, List.set_cons_zero, List.set_cons_succ]
           refine' wpAnyD_take (i := 5) (oi := {dst := some 63, op := .load 92 (.tmp 6), type := 92, pos := "ref.go:83", after := #[], guard := none}) (v := _) rfl (by kernel_rfl) (by kernel_rfl) (by kernel_rfl) (fun _ _ _ h => h) (by kernel_rfl) (Or.inl ⟨by rfl, ?hy6⟩) hS0 ?rest6
           case hy6 => (intro W hSw; subst hSw; go_simp; try (with_reducible rfl))
           try simp only [Act.put, List.setIfInBounds_toArray, List.set_cons_zero, List.set_cons_succ]
           refine' wpAnyD_take (i := 6) (oi := {dst := some 64, op := .binOp .eql 92 (.tmp 62) (.tmp 63) 92, type := 4, pos := "ref.go:83", after := #[{on := 4, ground := .data}, {on := 5, ground := .data}], guard := none}) (v := _) rfl (by kernel_rfl) (by kernel_rfl) (by kernel_rfl) (fun _ _ _ h => h) (by kernel_rfl) (Or.inl ⟨by rfl, ?hy7⟩) hS0 ?rest7
           case hy7 => (intro W hSw; subst hSw; go_simp; try (with_reducible rfl))
           try simp only [Act.put, List.setIfInBounds_toArray, List.set_cons_zero, List.set_cons_succ]
           refine wpAnyD_done (by kernel_rfl) ?_ _
           have PD : Hid ((Below W0.heap.size W0 wr.drew ∧ wr.drew.heap[yb]? = some (.cells (ccells y) 92 (0, 0)) ∧ wr.drew.heap[w.heap.size]? = some (.cells (ncells k i o (.slice cq cm cc) via bd (.slice (some ⟨b1, o1, none⟩) n dc) st) 89 (0, 0)))) := ⟨HP.out.1.1.trans ((Gr.refl wr).drew.below.mono HP.out.1.1.size), HP.out.1.2⟩
           clear x0 x1 x2 x3 x4 zz2 cy ly cn ln heq hS0
           generalize wr.drew = Wd at PD ⊢
           by_cases hzy : z = y
           ·have HR : Hid (cok i o a l = false) := cok_bad HY.out (fun h => by
              have h4 := h.2.2.2
              rw [isin_true hpl (by rw [HZ.out, hzy])] at h4
              cases h4)
            have hd : decide (z = y) = true := by simp [hzy]
            rw [hd]
            clear hd hzy
            go_wp2_with fail
            go_ret
            exact ⟨by rw [HR.out]; rfl, B0.out.trans (PD.out.1.mono B0.out.size)⟩
           ·have hd : decide (z = y) = false := by simp [hzy]
            rw [hd]
            have HZY := hid hzy
            clear hd hzy
            go_wp2_with fail
            go_roundw
            case rel => exact ⟨p + 1, by omega, by go_num, PD.out, fun m c hm hc => by
             by_cases e : m = p
             ·subst e
              rw [HZ.out] at hc
              cases hc
              exact HZY.out
             ·exact HP.out.2 m c (by omega) hc⟩
            case measure => simp [RowKit.intOf]; omega
          ·have hplz : ¬ (p : Int) < (j : Int) := by omega
           obtain rfl : p = j := by omega
           have FIN : Hid (Below W0.heap.size W0 wr ∧ ∀ m c, m < p + 1 → l[m]? = some c → cgood i o a l m c) := ⟨HP.out.1.1, fun m c hm hc => by
            by_cases e : m = p
            ·subst e
             rw [HY.out] at hc
             cases hc
             exact ⟨HT.out.1, HT.out.2.1, HT.out.2.2, isin_false HP.out.2⟩
            ·exact HI.out.2 m c (by omega) hc⟩
           go_wp2_with fail
           go_roundw
           case rel => exact ⟨p + 1, by omega, by go_num, FIN.out⟩
           case measure => simp [RowKit.intOf]; omega
   ·have hltz : ¬ (j : Int) < (n : Int) := by omega
    have HR : Hid (cok i o a l = true) := cok_iff.2 ⟨by have := HN.out; omega, fun m c hm => HI.out.2 m c (by have h := (List.getElem?_eq_some_iff.1 hm).1; have := HN.out; omega) hm⟩
    go_wp2_with fail
    go_ret
    exact ⟨by rw [HR.out]; rfl, B0.out.trans (HI.out.1.mono B0.out.size)⟩
theorem nflaw_doc {k i o : Int} {cd : List Opd} {via : Pth} {bd : Nat} {cn : List Con} {st : Bool} {a : Int} (ha : 1 ≤ a ∧ a ≤ 3) (hk1 : ¬ k < 1) (hk8 : ¬ 8 < k) : nflaw a ⟨k, i, o, cd, via, bd, cn, st⟩ = if (pIn k i && pOut k o) = false then 21 else if rfl9 k cd.length via bd cn.length st a = false then 22 else if 16 < cd.length then 24 else if cok i o a cn = false then 23 else 0 := by
 have hz : tfits ((0, 0, 0) : Pth).1 ((0, 0, 0) : Pth).2.1 ((0, 0, 0) : Pth).2.2 a = 0 := by
  show tfits (0 : Nat) (0 : Nat) (0 : Nat) a = 0
  unfold tfits
  rw [if_neg (by omega), if_pos (by simp)]
 have hd0 : (decide (tfits ((0, 0, 0) : Pth).1 ((0, 0, 0) : Pth).2.1 ((0, 0, 0) : Pth).2.2 a = 0) && decide (0 ≤ 64)) = true := by rw [decide_eq_true hz]; rfl
 unfold nflaw
 simp only
 rw [if_neg (by omega)]
 cases hpp : (pIn k i && pOut k o) with
 | false => rw [if_pos (by intro h; rw [h.1, h.2] at hpp; cases hpp), if_pos rfl]
 | true =>
  rw [Bool.and_eq_true] at hpp
  rw [if_neg (by intro h; exact h hpp), if_neg (show ¬ (true = false) by decide)]
  by_cases hh : nhas ⟨k, i, o, cd, via, bd, cn, st⟩ = true
  ·rw [if_pos hh, if_pos]
   have : has (if k = 2 ∨ k = 3 then 0 else cd.length) (if k = 5 then (0, 0, 0) else via) (if k = 5 then 0 else bd) (if k = 8 then 0 else cn.length) (if k = 8 then false else st) = true := hh
   unfold rfl9
   rw [this]
   rfl
  ·rw [if_neg hh]
   have hh2 : nhas ⟨k, i, o, cd, via, bd, cn, st⟩ = false := by simpa using hh
   change has (if k = 2 ∨ k = 3 then 0 else cd.length) (if k = 5 then (0, 0, 0) else via) (if k = 5 then 0 else bd) (if k = 8 then 0 else cn.length) (if k = 8 then false else st) = false at hh2
   have hr9 : rfl9 k cd.length via bd cn.length st a = (decide (tfits via.1 via.2.1 via.2.2 a = 0) && decide (bd ≤ 64)) := by
    unfold rfl9
    rw [hh2]
    rfl
   rw [hr9]
   simp only [has, Bool.or_eq_false_iff, decide_eq_false_iff_not] at hh2
   obtain ⟨⟨⟨⟨q1, q2⟩, q3⟩, q4⟩, q5⟩ := hh2
   unfold nrest
   simp only
   have ce : cok i o a [] = true := by simp [cok]
   by_cases e23 : k = 2 ∨ k = 3
   ·have e5 : ¬ k = 5 := by omega
    have e8 : ¬ k = 8 := by omega
    rw [if_neg e5] at q2 q3
    rw [if_neg e8] at q4
    have v0 : via = (0, 0, 0) := by simpa using q2
    have b0 : bd = 0 := by omega
    have c0 : cn = [] := List.eq_nil_of_length_eq_zero (by omega)
    subst v0 b0 c0
    rw [if_pos e23, hd0, if_neg (show ¬ (true = false) by decide), ce, if_neg (show ¬ (true = false) by decide)]
   ·rw [if_neg e23] at q1
    have l0 : ¬ 16 < cd.length := by omega
    rw [if_neg e23, if_neg l0]
    by_cases e5 : k = 5
    ·have e8 : ¬ k = 8 := by omega
     rw [if_neg e8] at q4
     have c0 : cn = [] := List.eq_nil_of_length_eq_zero (by omega)
     subst c0
     rw [if_pos e5, ce, if_neg (show ¬ (true = false) by decide)]
     by_cases hb : 64 < bd ∨ tfits via.1 via.2.1 via.2.2 a ≠ 0
     ·rw [if_pos hb, if_pos]
      rw [Bool.and_eq_false_iff]
      rcases hb with h | h
      ·exact Or.inr (decide_eq_false (by omega))
      ·exact Or.inl (decide_eq_false h)
     ·have h1 : tfits via.1 via.2.1 via.2.2 a = 0 := Classical.not_not.1 (fun h => hb (Or.inr h))
      have h2 : bd ≤ 64 := by omega
      rw [if_neg hb, if_neg]
      rw [decide_eq_true h1, decide_eq_true h2]
      decide
    ·rw [if_neg e5] at q2 q3
     have v0 : via = (0, 0, 0) := by simpa using q2
     have b0 : bd = 0 := by omega
     subst v0 b0
     rw [if_neg e5, hd0, if_neg (show ¬ (true = false) by decide)]
     by_cases e8 : k = 8
     ·rw [if_pos e8]
      cases cok i o a cn <;> rfl
     ·rw [if_neg e8] at q4
      have c0 : cn = [] := List.eq_nil_of_length_eq_zero (by omega)
      subst c0
      rw [if_neg e8, ce]
      rfl
set_option maxHeartbeats 4000000 in
theorem rnode_any {M : Nat} (x : NV) (a : Int) (ha : 1 ≤ a ∧ a ≤ 3) (w : World) (hx : NR M w x) : Calls Tryz.prog 51 #[.agg x.cells, .int .i64 a] w fun r w' => r = .returned (.int .i64 (nflaw a x.n)) ∧ Below w.heap.size w w' := by
 obtain ⟨⟨k, i, o, cd, via, bd, cn, st⟩, cq, cm, cc, dq, dm, dc⟩ := x
 obtain ⟨_, _, h1⟩ := hx.code.form
 obtain ⟨_, _, h2⟩ := hx.conns.form
 simp only [Value.slice.injEq] at h1 h2
 obtain ⟨-, rfl, -⟩ := h1
 obtain ⟨-, rfl, -⟩ := h2
 have hL := hx.conns
 simp only at hL
 have B0 := hid ((Gr.refl w).alloc (.cells (ncells k i o (.slice cq cd.length cc) via bd (.slice dq cn.length dc) st) 89)).below
 have N0 := hid (heap_new' w (.cells (ncells k i o (.slice cq cd.length cc) via bd (.slice dq cn.length dc) st) 89))
 obtain ⟨W0, hW0⟩ : ∃ W, W = w.alloc (.cells (ncells k i o (.slice cq cd.length cc) via bd (.slice dq cn.length dc) st) 89) := ⟨_, rfl⟩
 have HW : Hid (w.alloc (.cells #[.int .i64 k, .int .i64 i, .int .i64 o, .slice cq cd.length cc, .int .u64 (via.1 : Nat), .int .u64 (via.2.1 : Nat), .int .u64 (via.2.2 : Nat), .int .u64 (bd : Nat), .slice dq cn.length dc, .bool st] 89) = W0) := hW0.symm
 rw [← hW0] at B0 N0
 have c0 := (tk_store N0.out).1
 have l0 := tk_lt N0.out
 have hN : ∀ W, Below W0.heap.size W0 W → W.heap[w.heap.size]? = some (.cells (ncells k i o (.slice cq cd.length cc) via bd (.slice dq cn.length dc) st) 89 (0, 0)) := fun W hb => (hb.block _ (tk_lt N0.out)).trans N0.out
 have HN := hid hN
 clear hW0 hx hN
 by_cases hk1 : k < 1
 ·have HR : Hid (nflaw a ⟨k, i, o, cd, via, bd, cn, st⟩ = 20) := if_pos (Or.inl hk1)
  go_enter Tryz.func51, Tryz.ntmps51
  go_upto_region 1 with fail
  rw [HW.out]
  go_wp2_with fail
  go_ret
  exact ⟨by rw [HR.out]; rfl, B0.out⟩
 ·by_cases hk8 : 8 < k
  ·have HR : Hid (nflaw a ⟨k, i, o, cd, via, bd, cn, st⟩ = 20) := if_pos (Or.inr hk8)
   go_enter Tryz.func51, Tryz.ntmps51
   go_upto_region 1 with fail
   rw [HW.out]
   go_wp2_with fail
   go_ret
   exact ⟨by rw [HR.out]; rfl, B0.out⟩
  ·have hk : k = 1 ∨ k = 2 ∨ k = 3 ∨ k = 4 ∨ k = 5 ∨ k = 6 ∨ k = 7 ∨ k = 8 := by omega
   have hp : ∀ W, Calls Tryz.prog 72 #[.agg (ncells k i o (.slice cq cd.length cc) via bd (.slice dq cn.length dc) st)] W fun r w' => r = .returned (.bool (pIn k i && pOut k o)) ∧ Below W.heap.size W w' := fun W => by
    rcases hk with rfl | rfl | rfl | rfl | rfl | rfl | rfl | rfl
    ·exact rports1_any i o cq cd.length cc via bd dq cn.length dc st W
    ·exact rports2_any i o cq cd.length cc via bd dq cn.length dc st W
    ·exact rports3_any i o cq cd.length cc via bd dq cn.length dc st W
    ·exact rports4_any i o cq cd.length cc via bd dq cn.length dc st W
    ·exact rports5_any i o cq cd.length cc via bd dq cn.length dc st W
    ·exact rports6_any i o cq cd.length cc via bd dq cn.length dc st W
    ·exact rports7_any i o cq cd.length cc via bd dq cn.length dc st W
    ·exact rports8_any i o cq cd.length cc via bd dq cn.length dc st W
   have hfl : ∀ W, Calls Tryz.prog 73 #[.agg (ncells k i o (.slice cq cd.length cc) via bd (.slice dq cn.length dc) st), .int .i64 a] W fun r w' => r = .returned (.bool (rfl9 k cd.length via bd cn.length st a)) ∧ Below W.heap.size W w' := fun W => by
    by_cases e2 : k = 2
    ·subst e2; exact rfields2_any i o cq cd.length cc via bd dq cn.length dc st a W
    ·by_cases e3 : k = 3
     ·subst e3; exact rfields3_any i o cq cd.length cc via bd dq cn.length dc st a W
     ·by_cases e5 : k = 5
      ·subst e5; exact rfields5_any i o cq cd.length cc via bd dq cn.length dc st a W
      ·by_cases e8 : k = 8
       ·subst e8; exact rfields8_any i o cq cd.length cc via bd dq cn.length dc st a W
       ·exact rfields0_any k e2 e3 e5 e8 i o cq cd.length cc via bd dq cn.length dc st a W
   have hcn : ∀ W, Below w.heap.size w W → Calls Tryz.prog 74 #[.agg (ncells k i o (.slice cq cd.length cc) via bd (.slice dq cn.length dc) st), .int .i64 a] W fun r w' => r = .returned (.bool (cok i o a cn)) ∧ Below W.heap.size W w' := fun W hb => rconns_any k i o cq cd.length cc via bd dq dc st cn a W (hL.below hb)
   have HE : Hid (nflaw a ⟨k, i, o, cd, via, bd, cn, st⟩ = if (pIn k i && pOut k o) = false then 21 else if rfl9 k cd.length via bd cn.length st a = false then 22 else if 16 < cd.length then 24 else if cok i o a cn = false then 23 else 0) := nflaw_doc ha hk1 hk8
   clear hk hL
   generalize hlc : cd.length = lc at *
   generalize hld : cn.length = ld at *
   go_enter Tryz.func51, Tryz.ntmps51
   go_upto_region 1 with fail
   rw [HW.out]
   clear HW hlc hld
   cases e1 : (pIn k i && pOut k o) with
   | false =>
    rw [e1] at hp
    have HR : Hid (nflaw a ⟨k, i, o, cd, via, bd, cn, st⟩ = 21) := HE.out.trans (if_pos e1)
    clear e1
    go_wp2_with fail
    refine (hp _).mono ?_
    rintro r w1 ⟨rfl, b1⟩
    have B1 := hid (B0.out.trans (b1.mono B0.out.size))
    clear b1
    go_wp2_with fail
    go_ret
    exact ⟨by rw [HR.out]; rfl, B1.out⟩
   | true =>
    rw [e1] at hp
    cases e2 : rfl9 k lc via bd ld st a with
    | false =>
     rw [e2] at hfl
     have HR : Hid (nflaw a ⟨k, i, o, cd, via, bd, cn, st⟩ = 22) := HE.out.trans ((if_neg (by rw [e1]; decide)).trans (if_pos e2))
     clear e1 e2
     go_wp2_with fail
     refine (hp _).mono ?_
     rintro r w1 ⟨rfl, b1⟩
     have B1 := hid (B0.out.trans (b1.mono B0.out.size))
     have c1 := (tk_store (HN.out w1 b1)).1
     have l1 := tk_lt (HN.out w1 b1)
     clear b1
     go_wp2_with fail
     refine (hfl _).mono ?_
     rintro r w2 ⟨rfl, b2⟩
     have B2 := hid (B1.out.trans (b2.mono B1.out.size))
     clear b2
     go_wp2_with fail
     go_ret
     exact ⟨by rw [HR.out]; rfl, B2.out⟩
    | true =>
     rw [e2] at hfl
     by_cases h16 : 16 < lc
     ·have hz : (16 : Int) < (lc : Int) := by omega
      have HR : Hid (nflaw a ⟨k, i, o, cd, via, bd, cn, st⟩ = 24) := HE.out.trans ((if_neg (by rw [e1]; decide)).trans ((if_neg (by rw [e2]; decide)).trans (if_pos h16)))
      clear e1 e2 h16
      go_wp2_with fail
      refine (hp _).mono ?_
      rintro r w1 ⟨rfl, b1⟩
      have B1 := hid b1
      have c1 := (tk_store (HN.out w1 b1)).1
      have l1 := tk_lt (HN.out w1 b1)
      clear b1
      go_wp2_with fail
      refine (hfl _).mono ?_
      rintro r w2 ⟨rfl, b2⟩
      have b3 := B1.out.trans (b2.mono B1.out.size)
      have B2 := hid (B0.out.trans (b3.mono B0.out.size))
      have c2 := (tk_store (HN.out w2 b3)).1
      have l2 := tk_lt (HN.out w2 b3)
      clear b2 b3
      go_wp2_with fail
      go_ret
      exact ⟨by rw [HR.out]; rfl, B2.out⟩
     ·have hz : ¬ (16 : Int) < (lc : Int) := by omega
      have HR : Hid (nflaw a ⟨k, i, o, cd, via, bd, cn, st⟩ = if cok i o a cn = false then 23 else 0) := HE.out.trans ((if_neg (by rw [e1]; decide)).trans ((if_neg (by rw [e2]; decide)).trans (if_neg h16)))
      clear e1 e2 h16
      go_wp2_with fail
      refine (hp _).mono ?_
      rintro r w1 ⟨rfl, b1⟩
      have B1 := hid b1
      have c1 := (tk_store (HN.out w1 b1)).1
      have l1 := tk_lt (HN.out w1 b1)
      clear b1
      go_wp2_with fail
      refine (hfl _).mono ?_
      rintro r w2 ⟨rfl, b2⟩
      have b3 := B1.out.trans (b2.mono B1.out.size)
      have B2 := hid b3
      have c2 := (tk_store (HN.out w2 b3)).1
      have l2 := tk_lt (HN.out w2 b3)
      have q := hcn w2 (B0.out.trans (b3.mono B0.out.size))
      clear b2 b3 c1 l1 hp hfl hcn
      cases e3 : cok i o a cn with
      | false =>
       rw [e3] at q
       have HR2 : Hid (nflaw a ⟨k, i, o, cd, via, bd, cn, st⟩ = 23) := HR.out.trans (if_pos e3)
       clear e3
       go_wp2_with fail
       refine q.mono ?_
       rintro r w4 ⟨rfl, b4⟩
       have B4 := hid (B0.out.trans ((B2.out.trans (b4.mono B2.out.size)).mono B0.out.size))
       clear b4
       go_wp2_with fail
       go_ret
       exact ⟨by rw [HR2.out]; rfl, B4.out⟩
      | true =>
       rw [e3] at q
       have HR2 : Hid (nflaw a ⟨k, i, o, cd, via, bd, cn, st⟩ = 0) := HR.out.trans (if_neg (by rw [e3]; decide))
       clear e3
       go_wp2_with fail
       refine q.mono ?_
       rintro r w4 ⟨rfl, b4⟩
       have B4 := hid (B0.out.trans ((B2.out.trans (b4.mono B2.out.size)).mono B0.out.size))
       clear b4
       go_wp2_with fail
       go_ret
       exact ⟨by rw [HR2.out]; rfl, B4.out⟩
end Go.Proofs.YtjppkehnjnmbnaaGreat.Df

namespace Go.Proofs.YtjppkehnjnmbnaaGreat.Df
open Go.RowKit Go.Sort
attribute [local go_sem ↓] Go.wp_at_zero Go.wp_at_succ
structure Nr (w : World) (nv : Value) (xs : List NV) : Prop where
 nodes : Lz EV w.heap.size w nv xs
 nl : xs.length ≤ 24
 pok : Pok (xs.map NV.n)
theorem Nr.below {w w' : World} {nv : Value} {xs : List NV} (h : Nr w nv xs) (hb : Below w.heap.size w w') : Nr w' nv xs := ⟨(h.nodes.below hb).up hb.size, h.nl, h.pok⟩
theorem fn_pos {ns : List Nod} {i : Nat} {n : Nod} (hi : ns[i]? = some n) (hp : Pok ns) : (firstN ns i : Int) + n.ins + n.outs = (firstN ns (i + 1) : Nat) := by
 have := hp n (List.mem_of_getElem? hi)
 rw [firstN_succ hi]
 push_cast
 omega
set_option maxHeartbeats 4000000 in
theorem rfirst_any {nv ev : Value} {a : Int} {xs : List NV} (j : Nat) (hj : j ≤ xs.length) (w : World) (h : Nr w nv xs) : Calls Tryz.prog 110 #[.agg (gvc a nv ev), .int .i64 (j : Nat)] w fun r w' => r = .returned (.int .i64 (firstN (xs.map NV.n) j : Nat)) ∧ Gr w w' := by
 have g0 := (Gr.refl w).alloc (.cells (gvc a nv ev) 25)
 have HB := hid (heap_new' w (.cells (gvc a nv ev) 25))
 have HN := hid (h.below g0.below)
 obtain ⟨W0, hW0⟩ : ∃ W, W = w.alloc (.cells (gvc a nv ev) 25) := ⟨_, rfl⟩
 have HW : Hid (w.alloc (.cells #[.int .i64 a, nv, ev] 25) = W0) := hW0.symm
 rw [← hW0] at g0 HB HN
 have G0 := hid g0
 obtain ⟨qn, cn, rfl⟩ := h.nodes.form
 have hnl := h.nl
 have HP := hid h.pok
 obtain ⟨ns, hns⟩ : ∃ ns, ns = xs.map NV.n := ⟨_, rfl⟩
 rw [← hns] at HP ⊢
 have HNS := hid hns
 generalize hxl : xs.length = nl at *
 have HXL := hid hxl
 clear h hW0 g0 hns hxl
 have c0 := (tk_store HB.out).1
 have l0 := tk_lt HB.out
 go_enter Tryz.func110, Tryz.ntmps110
 go_upto_region 1 with fail
 rw [HW.out]
 clear HW
 go_wp2_with fail
 clear c0 l0
 go_loopw [5, 6] (fun sn si wr => ∃ i : Nat, i ≤ j ∧ si = .int .i64 (i : Nat) ∧ sn = .int .i64 (firstN ns i : Nat) ∧ Hid (Gr W0 wr)) (fun _ si _ => j - (RowKit.intOf si).toNat)
 case atStart => exact ⟨0, Nat.zero_le _, rfl, rfl, Gr.refl _⟩
 case round =>
  obtain ⟨i, hi, rfl, rfl, HI⟩ := hrel
  have hb0 := (HI.out.below.block _ (tk_lt HB.out)).trans HB.out
  have c1 := (tk_store hb0).1
  have l1 := tk_lt hb0
  clear hb0
  by_cases hlt : i < j
  ·have hltz : (i : Int) < (j : Int) := by omega
   have hi0 : (0 : Int) ≤ (i : Int) := by omega
   have hil : (i : Int) < (nl : Int) := by omega
   obtain ⟨y, hy⟩ : ∃ y, xs[i]? = some y := ⟨xs[i]'(by have := HXL.out; omega), by simp⟩
   have HYN : Hid (ns[i]? = some y.n) := by show _ = _; rw [HNS.out]; simp [hy]
   obtain ⟨b1, o1, q1, ev1, zz1, x0, x1, x2, -⟩ := ls_atV ((HN.out.nodes.below HI.out.below).ls hy) hy
   simp only [Value.slice.injEq] at ev1
   obtain ⟨rfl, -, rfl⟩ := ev1
   have HFS := hid (fn_pos HYN.out HP.out)
   have hf1 := firstN_le HP.out i
   have hq := HP.out y.n (List.mem_of_getElem? HYN.out)
   obtain ⟨m, hm⟩ : ∃ m, m = firstN ns i := ⟨_, rfl⟩
   rw [← hm] at HFS hf1 ⊢
   have hm9 : (m : Int) ≤ 192 := by omega
   have q1 : 0 ≤ y.n.ins := hq.1
   have q2 : y.n.ins ≤ 4 := hq.2.1
   have q3 : 0 ≤ y.n.outs := hq.2.2.1
   have q4 : y.n.outs ≤ 4 := hq.2.2.2
   clear hy hm hq hf1
   go_upto_region 5 with fail
   go_quiet (fail)
   have G1 := hid (HI.out.drewN nq)
   clear x0 x1 x2 zz1 c1 l1
   go_wp2_with fail
   go_roundw
   case rel => exact ⟨i + 1, by omega, by go_num, by rw [← HFS.out], G1.out⟩
   case measure => simp [RowKit.intOf]; omega
  ·have hltz : ¬ (i : Int) < (j : Int) := by omega
   obtain rfl : i = j := by omega
   go_wp2_with fail
   go_ret
   exact ⟨rfl, G0.out.trans HI.out⟩
end Go.Proofs.YtjppkehnjnmbnaaGreat.Df

namespace Go.Proofs.YtjppkehnjnmbnaaGreat.Df
open Go.RowKit Go.Sort
attribute [local go_sem ↓] Go.wp_at_zero Go.wp_at_succ
set_option maxHeartbeats 4000000 in
theorem rin_any {nv : Value} {qe : Option Addr} {me ce : Nat} {a : Int} {xs : List NV} (i p : Int) (w : World) (h : Nr w nv xs) : Calls Tryz.prog 76 #[.agg (gvc a nv (.slice qe me ce)), .int .i64 i, .int .i64 p] w fun r w' => r = .returned (.int .i64 (inN (xs.map NV.n) i p)) ∧ Gr w w' := by
 have hmx : Tryz.prog.follows .mixedOrders = true := by kernel_rfl
 have g0 := (Gr.refl w).alloc (.cells (gvc a nv (.slice qe me ce)) 25)
 have HB := hid (heap_new' w (.cells (gvc a nv (.slice qe me ce)) 25))
 have HN := hid (h.below g0.below)
 obtain ⟨W0, hW0⟩ : ∃ W, W = w.alloc (.cells (gvc a nv (.slice qe me ce)) 25) := ⟨_, rfl⟩
 have HW : Hid (w.alloc (.cells #[.int .i64 a, nv, .slice qe me ce] 25) = W0) := hW0.symm
 rw [← hW0] at g0 HB HN
 have G0 := hid g0
 have hfst := fun (j : Nat) (hj : j ≤ xs.length) W (hb : Below W0.heap.size W0 W) => rfirst_any (ev := .slice qe me ce) (a := a) j hj W (HN.out.below hb)
 obtain ⟨qn, cn, rfl⟩ := h.nodes.form
 have hnl := h.nl
 have HP := hid h.pok
 obtain ⟨ns, hns⟩ : ∃ ns, ns = xs.map NV.n := ⟨_, rfl⟩
 rw [← hns] at HP hfst ⊢
 have HNS : Hid (ns = xs.map NV.n ∧ ns.length = xs.length) := ⟨hns, by rw [hns, List.length_map]⟩
 generalize hxl : xs.length = nl at *
 have HXL := hid hxl
 clear h hW0 g0 hns hxl
 have c0 := (tk_store HB.out).1
 have l0 := tk_lt HB.out
 have HFALSE : Hid (hasIN ns i p = false → inN ns i p = -1) := fun e => by unfold inN; rw [if_neg (by rw [e]; decide)]
 by_cases hi0 : i < 0
 ·have HR : Hid (inN ns i p = -1) := HFALSE.out (by unfold hasIN natN?; rw [if_neg (by omega)])
  go_enter Tryz.func76, Tryz.ntmps76
  go_upto_region 1 with fail
  rw [HW.out]
  go_wp2_with fail
  go_ret
  exact ⟨by rw [HR.out]; rfl, G0.out⟩
 ·by_cases hil : (nl : Int) ≤ i
  ·have HR : Hid (inN ns i p = -1) := HFALSE.out (by unfold hasIN natN?; rw [if_pos (by omega), List.getElem?_eq_none (by have := HNS.out.2; have := HXL.out; omega)])
   go_enter Tryz.func76, Tryz.ntmps76
   go_upto_region 1 with fail
   rw [HW.out]
   go_wp2_with fail
   go_ret
   exact ⟨by rw [HR.out]; rfl, G0.out⟩
  ·obtain ⟨j, rfl⟩ : ∃ j : Nat, i = (j : Int) := ⟨i.toNat, by omega⟩
   obtain ⟨y, hy⟩ : ∃ y, xs[j]? = some y := ⟨xs[j]'(by have := HXL.out; omega), by simp⟩
   have HYN : Hid (ns[j]? = some y.n) := by show _ = _; rw [HNS.out.1]; simp [hy]
   have HHAS : Hid (hasIN ns (j : Int) p = decide (0 ≤ p ∧ p < y.n.ins)) := by
    show _ = _
    unfold hasIN natN?
    rw [if_pos (by omega), Int.toNat_natCast, HYN.out]
   have HQ := hid (HP.out y.n (List.mem_of_getElem? HYN.out))
   obtain ⟨b1, o1, q1, ev1, zz1, x0, x1, x2, -⟩ := ls_atV (HN.out.nodes.ls hy) hy
   simp only [Value.slice.injEq] at ev1
   obtain ⟨rfl, -, rfl⟩ := ev1
   have HY := hid hy
   clear hy
   have hjz : (j : Int) < (nl : Int) := by omega
   have hj0 : (0 : Int) ≤ (j : Int) := by omega
   by_cases hp0 : p < 0
   ·have HR : Hid (inN ns (j : Int) p = -1) := HFALSE.out (by rw [HHAS.out]; simp; omega)
    go_enter Tryz.func76, Tryz.ntmps76
    go_upto_region 1 with fail
    rw [HW.out]
    go_wp2_with fail
    go_ret
    exact ⟨by rw [HR.out]; rfl, G0.out⟩
   ·by_cases hpn : y.n.ins ≤ p
    ·have HR : Hid (inN ns (j : Int) p = -1) := HFALSE.out (by rw [HHAS.out]; simp; omega)
     go_enter Tryz.func76, Tryz.ntmps76
     go_upto_region 1 with fail
     rw [HW.out]
     go_wp2_with fail
     go_ret
     exact ⟨by rw [HR.out]; rfl, G0.out⟩
    ·have hf1 := firstN_le HP.out j
     have hcall := fun W hb => hfst j (by omega) W hb
     obtain ⟨m, hm⟩ : ∃ m, m = firstN ns j := ⟨_, rfl⟩
     rw [← hm] at hcall hf1
     have q1 : 0 ≤ y.n.ins := HQ.out.1
     have q2 : y.n.ins ≤ 4 := HQ.out.2.1
     have hp4 : p < 4 := by have := HQ.out; omega
     have hm9 : (m : Int) ≤ 192 := by omega
     have HR : Hid (inN ns (j : Int) p = (m : Int) + p) := by
      show _ = _
      unfold inN
      rw [if_pos (by rw [HHAS.out]; simp; omega), Int.toNat_natCast, hm]
     clear hfst hm hf1
     go_enter Tryz.func76, Tryz.ntmps76
     go_upto_region 1 with fail
     rw [HW.out]
     clear HW
     go_wp2_with fail
     refine (hcall _ (Below.refl _ _)).mono ?_
     rintro r w1 ⟨rfl, g1⟩
     have G1 := hid (G0.out.trans g1)
     clear g1
     go_wp2_with fail
     go_ret
     exact ⟨by rw [HR.out]; rfl, G1.out⟩
set_option maxHeartbeats 4000000 in
theorem rout_any {nv : Value} {qe : Option Addr} {me ce : Nat} {a : Int} {xs : List NV} (i p : Int) (w : World) (h : Nr w nv xs) : Calls Tryz.prog 75 #[.agg (gvc a nv (.slice qe me ce)), .int .i64 i, .int .i64 p] w fun r w' => r = .returned (.int .i64 (outN (xs.map NV.n) i p)) ∧ Gr w w' := by
 have hmx : Tryz.prog.follows .mixedOrders = true := by kernel_rfl
 have g0 := (Gr.refl w).alloc (.cells (gvc a nv (.slice qe me ce)) 25)
 have HB := hid (heap_new' w (.cells (gvc a nv (.slice qe me ce)) 25))
 have HN := hid (h.below g0.below)
 obtain ⟨W0, hW0⟩ : ∃ W, W = w.alloc (.cells (gvc a nv (.slice qe me ce)) 25) := ⟨_, rfl⟩
 have HW : Hid (w.alloc (.cells #[.int .i64 a, nv, .slice qe me ce] 25) = W0) := hW0.symm
 rw [← hW0] at g0 HB HN
 have G0 := hid g0
 have hfst := fun (j : Nat) (hj : j ≤ xs.length) W (hb : Below W0.heap.size W0 W) => rfirst_any (ev := .slice qe me ce) (a := a) j hj W (HN.out.below hb)
 obtain ⟨qn, cn, rfl⟩ := h.nodes.form
 have hnl := h.nl
 have HP := hid h.pok
 obtain ⟨ns, hns⟩ : ∃ ns, ns = xs.map NV.n := ⟨_, rfl⟩
 rw [← hns] at HP hfst ⊢
 have HNS : Hid (ns = xs.map NV.n ∧ ns.length = xs.length) := ⟨hns, by rw [hns, List.length_map]⟩
 generalize hxl : xs.length = nl at *
 have HXL := hid hxl
 clear h hW0 g0 hns hxl
 have c0 := (tk_store HB.out).1
 have l0 := tk_lt HB.out
 have HFALSE : Hid (hasON ns i p = false → outN ns i p = -1) := fun e => by unfold outN; rw [if_neg (by rw [e]; decide)]
 by_cases hi0 : i < 0
 ·have HR : Hid (outN ns i p = -1) := HFALSE.out (by unfold hasON natN?; rw [if_neg (by omega)])
  go_enter Tryz.func75, Tryz.ntmps75
  go_upto_region 1 with fail
  rw [HW.out]
  go_wp2_with fail
  go_ret
  exact ⟨by rw [HR.out]; rfl, G0.out⟩
 ·by_cases hil : (nl : Int) ≤ i
  ·have HR : Hid (outN ns i p = -1) := HFALSE.out (by unfold hasON natN?; rw [if_pos (by omega), List.getElem?_eq_none (by have := HNS.out.2; have := HXL.out; omega)])
   go_enter Tryz.func75, Tryz.ntmps75
   go_upto_region 1 with fail
   rw [HW.out]
   go_wp2_with fail
   go_ret
   exact ⟨by rw [HR.out]; rfl, G0.out⟩
  ·obtain ⟨j, rfl⟩ : ∃ j : Nat, i = (j : Int) := ⟨i.toNat, by omega⟩
   obtain ⟨y, hy⟩ : ∃ y, xs[j]? = some y := ⟨xs[j]'(by have := HXL.out; omega), by simp⟩
   have HYN : Hid (ns[j]? = some y.n) := by show _ = _; rw [HNS.out.1]; simp [hy]
   have HHAS : Hid (hasON ns (j : Int) p = decide (0 ≤ p ∧ p < y.n.outs)) := by
    show _ = _
    unfold hasON natN?
    rw [if_pos (by omega), Int.toNat_natCast, HYN.out]
   have HQ := hid (HP.out y.n (List.mem_of_getElem? HYN.out))
   obtain ⟨b1, o1, q1, ev1, zz1, x0, x1, x2, -⟩ := ls_atV (HN.out.nodes.ls hy) hy
   simp only [Value.slice.injEq] at ev1
   obtain ⟨rfl, -, rfl⟩ := ev1
   have HY := hid hy
   clear hy
   have hjz : (j : Int) < (nl : Int) := by omega
   have hj0 : (0 : Int) ≤ (j : Int) := by omega
   by_cases hp0 : p < 0
   ·have HR : Hid (outN ns (j : Int) p = -1) := HFALSE.out (by rw [HHAS.out]; simp; omega)
    go_enter Tryz.func75, Tryz.ntmps75
    go_upto_region 1 with fail
    rw [HW.out]
    go_wp2_with fail
    go_ret
    exact ⟨by rw [HR.out]; rfl, G0.out⟩
   ·by_cases hpn : y.n.outs ≤ p
    ·have HR : Hid (outN ns (j : Int) p = -1) := HFALSE.out (by rw [HHAS.out]; simp; omega)
     go_enter Tryz.func75, Tryz.ntmps75
     go_upto_region 1 with fail
     rw [HW.out]
     go_wp2_with fail
     go_ret
     exact ⟨by rw [HR.out]; rfl, G0.out⟩
    ·have hf1 := firstN_le HP.out j
     have hcall := fun W hb => hfst j (by omega) W hb
     obtain ⟨m, hm⟩ : ∃ m, m = firstN ns j := ⟨_, rfl⟩
     rw [← hm] at hcall hf1
     have q1 : 0 ≤ y.n.ins := HQ.out.1
     have q2 : y.n.ins ≤ 4 := HQ.out.2.1
     have hp4 : p < 4 := by have := HQ.out; omega
     have hm9 : (m : Int) ≤ 192 := by omega
     have HR : Hid (outN ns (j : Int) p = (m : Int) + y.n.ins + p) := by
      show _ = _
      unfold outN
      rw [if_pos (by rw [HHAS.out]; simp; omega), Int.toNat_natCast, hm, HYN.out]
     clear hfst hm hf1
     go_enter Tryz.func75, Tryz.ntmps75
     go_upto_region 1 with fail
     rw [HW.out]
     clear HW
     have hw1 : IntKind.i64.wrap ((m : Int) + y.n.ins) = (m : Int) + y.n.ins := by rw [IntKind.wrap_i64]; omega
     have hw2 : IntKind.i64.wrap ((m : Int) + y.n.ins + p) = (m : Int) + y.n.ins + p := by rw [IntKind.wrap_i64]; omega
     go_upto_region 3 with fail
     have hS0 : Gr W0 W0.drew := (Gr.refl W0).drew
     refine wp_regionD (S := fun W => Gr W0 W) (D := []) hmx ?_
     refine' wpAnyD_take (i := 0) (oi := {dst := some 30, op := .load 25 (.tmp 3), type := 25, pos := "ref.go:180", after := #[], guard := none}) (v := _) rfl (by kernel_rfl) (by kernel_rfl) (by kernel_rfl) (fun _ _ _ h => h) (by kernel_rfl) (Or.inl ⟨by rfl, ?hy1⟩) hS0 ?rest1
     case hy1 => (intro W hSw; have hb := (hSw.below.block _ (tk_lt HB.out)).trans HB.out; have hc := (tk_store hb).1; have hl := tk_lt hb; go_simp; try (with_reducible rfl))
     try simp only [Act.put, List.setIfInBounds_toArray, List.set_cons_zero, List.set_cons_succ]
     refine' wpAnyD_take (i := 1) (oi := {dst := some 31, op := .move (.tmp 1), type := 3, pos := "ref.go:180", after := #[], guard := none}) (v := _) rfl (by kernel_rfl) (by kernel_rfl) (by kernel_rfl) (fun _ _ _ h => h) (by kernel_rfl) (Or.inl ⟨by rfl, ?hy2⟩) hS0 ?rest2
     case hy2 => (intro W hSw; go_simp; try (with_reducible rfl))
     try simp only [Act.put, List.setIfInBounds_toArray, List.set_cons_zero, List.set_cons_succ]
     refine' wpAnyD_take (i := 3) (oi := {dst := some 33, op := .fieldAddr 25 (.tmp 3) 1, type := 0, pos := "ref.go:180", after := #[], guard := none}) (v := _) rfl (by kernel_rfl) (by kernel_rfl) (by kernel_rfl) (fun _ _ _ h => h) (by kernel_rfl) (Or.inl ⟨by rfl, ?hy3⟩) hS0 ?rest3
     case hy3 => (intro W hSw; go_simp; try (with_reducible rfl))
     try simp only [Act.put, List.setIfInBounds_toArray, List.set_cons_zero, List.set_cons_succ]
     refine' wpAnyD_take (i := 4) (oi := {dst := some 34, op := .load 22 (.tmp 33), type := 22, pos := "ref.go:180", after := #[{on := 3, ground := .data}], guard := none}) (v := _) rfl (by kernel_rfl) (by kernel_rfl) (by kernel_rfl) (fun _ _ _ h => h) (by kernel_rfl) (Or.inl ⟨by rfl, ?hy4⟩) hS0 ?rest4
     case hy4 => (intro W hSw; have hb := (hSw.below.block _ (tk_lt HB.out)).trans HB.out; have hc := (tk_store hb).1; have hl := tk_lt hb; go_simp; try (with_reducible rfl))
     try simp only [Act.put, List.setIfInBounds_toArray, List.set_cons_zero, List.set_cons_succ]
     refine' wpAnyD_take (i := 5) (oi := {dst := some 35, op := .move (.tmp 1), type := 3, pos := "ref.go:180", after := #[], guard := none}) (v := _) rfl (by kernel_rfl) (by kernel_rfl) (by kernel_rfl) (fun _ _ _ h => h) (by kernel_rfl) (Or.inl ⟨by rfl, ?hy5⟩) hS0 ?rest5
     case hy5 => (intro W hSw; go_simp; try (with_reducible rfl))
     try simp only [Act.put, List.setIfInBounds_toArray, List.set_cons_zero, List.set_cons_succ]
     refine' wpAnyD_take (i := 6) (oi := {dst := some 36, op := .indexAddr 22 (.tmp 34) (.tmp 35), type := 0, pos := "ref.go:180", after := #[{on := 4, ground := .data}, {on := 5, ground := .data}], guard := none}) (v := _) rfl (by kernel_rfl) (by kernel_rfl) (by kernel_rfl) (fun _ _ _ h => h) (by kernel_rfl) (Or.inl ⟨by rfl, ?hy6⟩) hS0 ?rest6
     case hy6 => (intro W hSw; go_simp; try (with_reducible rfl))
     try simp only [Act.put, List.setIfInBounds_toArray, List.set_cons_zero, List.set_cons_succ]
     refine' wpAnyD_take (i := 7) (oi := {dst := some 37, op := .fieldAddr 89 (.tmp 36) 1, type := 0, pos := "ref.go:180", after := #[{on := 6, ground := .data}], guard := none}) (v := _) rfl (by kernel_rfl) (by kernel_rfl) (by kernel_rfl) (fun _ _ _ h => h) (by kernel_rfl) (Or.inl ⟨by rfl, ?hy7⟩) hS0 ?rest7
     case hy7 => (intro W hSw; go_simp; try (with_reducible rfl))
     try simp only [Act.put, List.setIfInBounds_toArray, List.set_cons_zero, List.set_cons_succ]
     refine' wpAnyD_take (i := 8) (oi := {dst := some 38, op := .load 3 (.tmp 37), type := 3, pos := "ref.go:180", after := #[{on := 7, ground := .data}], guard := none}) (v := _) rfl (by kernel_rfl) (by kernel_rfl) (by kernel_rfl) (fun _ _ _ h => h) (by kernel_rfl) (Or.inl ⟨by rfl, ?hy8⟩) hS0 ?rest8
     case hy8 => (intro W hSw; obtain ⟨b9, o9, q9, e9, z9, y0, y1, -⟩ := ls_atV ((HN.out.nodes.below hSw.below).ls HY.out) HY.out; simp only [Value.slice.injEq, Option.some.injEq, Addr.mk.injEq] at e9; obtain ⟨⟨rfl, rfl, -⟩, -, rfl⟩ := e9; go_simp; try (with_reducible rfl))
     try simp only [Act.put, List.setIfInBounds_toArray, List.set_cons_zero, List.set_cons_succ]
     refine' wpAnyD_take (i := 10) (oi := {dst := some 40, op := .move (.tmp 2), type := 3, pos := "ref.go:180", after := #[], guard := none}) (v := _) rfl (by kernel_rfl) (by kernel_rfl) (by kernel_rfl) (fun _ _ _ h => h) (by kernel_rfl) (Or.inl ⟨by rfl, ?hy9⟩) hS0 ?rest9
     case hy9 => (intro W hSw; go_simp; try (with_reducible rfl))
     try simp only [Act.put, List.setIfInBounds_toArray, List.set_cons_zero, List.set_cons_succ]
     refine wpAnyD_one (i := 2) (o := {dst := some 32, op := .call {callee := .value (.func 110), args := #[.tmp 30, .tmp 31], argTypes := #[25, 3]}, type := 3, pos := "ref.go:180", after := #[{on := 0, ground := .data}, {on := 1, ground := .data}], guard := none}) (by kernel_rfl) rfl (fun K hK => ?_)
     go_simp
     refine (hcall _ hS0.below).mono ?_
     rintro r w6 ⟨rfl, g6⟩
     have hS6 : Gr W0 w6 := hS0.trans g6
     clear g6
     go_wp2_with fail
     refine hK.out _ _ (fun hD => hS6) ?_
     clear hK K
     try simp only [Act.put, List.setIfInBounds_toArray, List.set_cons_zero, List.set_cons_succ]
     refine' wpAnyD_take (i := 9) (oi := {dst := some 39, op := .binOp .add 3 (.tmp 32) (.tmp 38) 3, type := 3, pos := "ref.go:180", after := #[{on := 2, ground := .data}, {on := 8, ground := .data}], guard := none}) (v := _) rfl (by kernel_rfl) (by kernel_rfl) (by kernel_rfl) (fun _ _ _ h => h) (by kernel_rfl) (Or.inl ⟨by rfl, ?hy11⟩) hS6 ?rest11
     case hy11 => (intro W hSw; go_simp; try (with_reducible rfl))
     try simp only [Act.put, List.setIfInBounds_toArray, List.set_cons_zero, List.set_cons_succ]
     refine' wpAnyD_take (i := 11) (oi := {dst := some 41, op := .binOp .add 3 (.tmp 39) (.tmp 40) 3, type := 3, pos := "ref.go:180", after := #[{on := 9, ground := .data}, {on := 10, ground := .data}], guard := none}) (v := _) rfl (by kernel_rfl) (by kernel_rfl) (by kernel_rfl) (fun _ _ _ h => h) (by kernel_rfl) (Or.inl ⟨by rfl, ?hy12⟩) hS6 ?rest12
     case hy12 => (intro W hSw; go_simp; try (with_reducible rfl))
     try simp only [Act.put, List.setIfInBounds_toArray, List.set_cons_zero, List.set_cons_succ]
     refine' wpAnyD_take (i := 12) (oi := {dst := some 6, op := .assign (.tmp 41), type := 3, pos := "ref.go:180", after := #[{on := 11, ground := .data}, {on := 2, ground := .chain}, {on := 0, ground := .phase}, {on := 1, ground := .phase}, {on := 2, ground := .phase}, {on := 3, ground := .phase}, {on := 4, ground := .phase}, {on := 5, ground := .phase}, {on := 6, ground := .phase}, {on := 7, ground := .phase}, {on := 8, ground := .phase}, {on := 9, ground := .phase}, {on := 10, ground := .phase}, {on := 11, ground := .phase}], guard := none}) (v := _) rfl (by kernel_rfl) (by kernel_rfl) (by kernel_rfl) (fun _ _ _ h => h) (by kernel_rfl) (Or.inl ⟨by rfl, ?hy13⟩) hS6 ?rest13
     case hy13 => (intro W hSw; go_simp; try (with_reducible rfl))
     try simp only [Act.put, List.setIfInBounds_toArray, List.set_cons_zero, List.set_cons_succ]
     refine wpAnyD_done (by kernel_rfl) ?_ _
     have G6 := hid (G0.out.trans hS6)
     clear hS0 hS6 hcall
     go_wp2_with fail
     go_ret
     exact ⟨by rw [HR.out]; rfl, G6.out⟩
end Go.Proofs.YtjppkehnjnmbnaaGreat.Df
