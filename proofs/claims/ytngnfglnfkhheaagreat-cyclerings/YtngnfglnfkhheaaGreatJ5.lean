import Derived.Test.YtngnfglnfkhheaaGreatGQs2
import Derived.Test.YtngnfglnfkhheaaGreatJ4
namespace Go.Proofs.YtngnfglnfkhheaaGreat.Df
open Go.RowKit Go.Sort
attribute [local go_sem ↓] Go.wp_at_zero Go.wp_at_succ

set_option maxHeartbeats 1000000 in
theorem rfits_any (p : Pth) (a : Int) (w : World) : Calls Tryz.prog 62 #[.agg #[.int .u64 (p.1 : Nat), .int .u64 (p.2.1 : Nat), .int .u64 (p.2.2 : Nat)], .int .i64 a] w fun r w' => r = .returned (.bool (decide (tfits p.1 p.2.1 p.2.2 a = 0))) ∧ Gr w w' := by
  have hf := fun W => refFits_any p.1 p.2.1 p.2.2 a W
  generalize tfits (p.1 : Nat) (p.2.1 : Nat) (p.2.2 : Nat) a = t at hf ⊢
  by_cases ht : t = 0
  · subst ht
    go_enter Tryz.func62, Tryz.ntmps62
    go_wp2_with fail
    refine (hf _).mono ?_
    rintro r w1 ⟨rfl, g1⟩
    have G1 := hid (((Gr.refl w).alloc (.cells #[.int .u64 (p.1 : Nat), .int .u64 (p.2.1 : Nat), .int .u64 (p.2.2 : Nat)] 43)).trans g1)
    clear g1
    go_wp2_with fail
    go_ret
    exact ⟨rfl, G1.out⟩
  · have hb : (t == 0) = false := by simp [ht]
    have hd : decide (t = 0) = false := by simp [ht]
    rw [hd]
    clear ht hd
    go_enter Tryz.func62, Tryz.ntmps62
    go_wp2_with fail
    refine (hf _).mono ?_
    rintro r w1 ⟨rfl, g1⟩
    have G1 := hid (((Gr.refl w).alloc (.cells #[.int .u64 (p.1 : Nat), .int .u64 (p.2.1 : Nat), .int .u64 (p.2.2 : Nat)] 43)).trans g1)
    clear g1
    go_wp2_with fail
    go_ret
    exact ⟨rfl, G1.out⟩
set_option maxHeartbeats 1000000 in
theorem rports1_any (i o : Int) (cq : Option Addr) (cm cc : Nat) (via : Pth) (bd : Nat) (dq : Option Addr) (dm dc : Nat) (st : Bool) (w : World) : Calls Tryz.prog 38 #[.agg (ncells 1 i o (.slice cq cm cc) via bd (.slice dq dm dc) st)] w fun r w' => r = .returned (.bool (pIn 1 i && pOut 1 o)) ∧ Below w.heap.size w w' := by
  by_cases h0 : i = 0
  · by_cases h1 : o = 1
    · have HR : Hid ((pIn 1 i && pOut 1 o) = true) := by show _ = _; simp [pIn, pOut]; omega
      go_enter Tryz.func38, Tryz.ntmps38
      go_wp2_with fail
      go_ret
      exact ⟨by rw [HR.out]; rfl, ((Gr.refl w).alloc _).below⟩
    · have h1b : (o == 1) = false := by simp [h1]
      have HR : Hid ((pIn 1 i && pOut 1 o) = false) := by show _ = _; simp [pIn, pOut]; omega
      go_enter Tryz.func38, Tryz.ntmps38
      go_wp2_with fail
      go_ret
      exact ⟨by rw [HR.out]; rfl, ((Gr.refl w).alloc _).below⟩
  · have h0b : (i == 0) = false := by simp [h0]
    have HR : Hid ((pIn 1 i && pOut 1 o) = false) := by show _ = _; simp [pIn, pOut]; omega
    go_enter Tryz.func38, Tryz.ntmps38
    go_wp2_with fail
    go_ret
    exact ⟨by rw [HR.out]; rfl, ((Gr.refl w).alloc _).below⟩
set_option maxHeartbeats 1000000 in
theorem rports2_any (i o : Int) (cq : Option Addr) (cm cc : Nat) (via : Pth) (bd : Nat) (dq : Option Addr) (dm dc : Nat) (st : Bool) (w : World) : Calls Tryz.prog 38 #[.agg (ncells 2 i o (.slice cq cm cc) via bd (.slice dq dm dc) st)] w fun r w' => r = .returned (.bool (pIn 2 i && pOut 2 o)) ∧ Below w.heap.size w w' := by
  by_cases h0 : i = 1
  · by_cases h1 : o = 1
    · have HR : Hid ((pIn 2 i && pOut 2 o) = true) := by show _ = _; simp [pIn, pOut]; omega
      go_enter Tryz.func38, Tryz.ntmps38
      go_wp2_with fail
      go_ret
      exact ⟨by rw [HR.out]; rfl, ((Gr.refl w).alloc _).below⟩
    · have h1b : (o == 1) = false := by simp [h1]
      have HR : Hid ((pIn 2 i && pOut 2 o) = false) := by show _ = _; simp [pIn, pOut]; omega
      go_enter Tryz.func38, Tryz.ntmps38
      go_wp2_with fail
      go_ret
      exact ⟨by rw [HR.out]; rfl, ((Gr.refl w).alloc _).below⟩
  · have h0b : (i == 1) = false := by simp [h0]
    have HR : Hid ((pIn 2 i && pOut 2 o) = false) := by show _ = _; simp [pIn, pOut]; omega
    go_enter Tryz.func38, Tryz.ntmps38
    go_wp2_with fail
    go_ret
    exact ⟨by rw [HR.out]; rfl, ((Gr.refl w).alloc _).below⟩
set_option maxHeartbeats 1000000 in
theorem rports3_any (i o : Int) (cq : Option Addr) (cm cc : Nat) (via : Pth) (bd : Nat) (dq : Option Addr) (dm dc : Nat) (st : Bool) (w : World) : Calls Tryz.prog 38 #[.agg (ncells 3 i o (.slice cq cm cc) via bd (.slice dq dm dc) st)] w fun r w' => r = .returned (.bool (pIn 3 i && pOut 3 o)) ∧ Below w.heap.size w w' := by
  by_cases h0 : i = 1
  · by_cases h1 : o = 1
    · have HR : Hid ((pIn 3 i && pOut 3 o) = true) := by show _ = _; simp [pIn, pOut]; omega
      go_enter Tryz.func38, Tryz.ntmps38
      go_wp2_with fail
      go_ret
      exact ⟨by rw [HR.out]; rfl, ((Gr.refl w).alloc _).below⟩
    · have h1b : (o == 1) = false := by simp [h1]
      have HR : Hid ((pIn 3 i && pOut 3 o) = false) := by show _ = _; simp [pIn, pOut]; omega
      go_enter Tryz.func38, Tryz.ntmps38
      go_wp2_with fail
      go_ret
      exact ⟨by rw [HR.out]; rfl, ((Gr.refl w).alloc _).below⟩
  · have h0b : (i == 1) = false := by simp [h0]
    have HR : Hid ((pIn 3 i && pOut 3 o) = false) := by show _ = _; simp [pIn, pOut]; omega
    go_enter Tryz.func38, Tryz.ntmps38
    go_wp2_with fail
    go_ret
    exact ⟨by rw [HR.out]; rfl, ((Gr.refl w).alloc _).below⟩
set_option maxHeartbeats 1000000 in
theorem rports4_any (i o : Int) (cq : Option Addr) (cm cc : Nat) (via : Pth) (bd : Nat) (dq : Option Addr) (dm dc : Nat) (st : Bool) (w : World) : Calls Tryz.prog 38 #[.agg (ncells 4 i o (.slice cq cm cc) via bd (.slice dq dm dc) st)] w fun r w' => r = .returned (.bool (pIn 4 i && pOut 4 o)) ∧ Below w.heap.size w w' := by
  by_cases h0 : 1 ≤ i
  · by_cases h1 : i ≤ 4
    · by_cases h2 : o = 1
      · have HR : Hid ((pIn 4 i && pOut 4 o) = true) := by show _ = _; simp [pIn, pOut]; omega
        go_enter Tryz.func38, Tryz.ntmps38
        go_wp2_with fail
        go_ret
        exact ⟨by rw [HR.out]; rfl, ((Gr.refl w).alloc _).below⟩
      · have h2b : (o == 1) = false := by simp [h2]
        have HR : Hid ((pIn 4 i && pOut 4 o) = false) := by show _ = _; simp [pIn, pOut]; omega
        go_enter Tryz.func38, Tryz.ntmps38
        go_wp2_with fail
        go_ret
        exact ⟨by rw [HR.out]; rfl, ((Gr.refl w).alloc _).below⟩
    · have HR : Hid ((pIn 4 i && pOut 4 o) = false) := by show _ = _; simp [pIn, pOut]; omega
      go_enter Tryz.func38, Tryz.ntmps38
      go_wp2_with fail
      go_ret
      exact ⟨by rw [HR.out]; rfl, ((Gr.refl w).alloc _).below⟩
  · have HR : Hid ((pIn 4 i && pOut 4 o) = false) := by show _ = _; simp [pIn, pOut]; omega
    go_enter Tryz.func38, Tryz.ntmps38
    go_wp2_with fail
    go_ret
    exact ⟨by rw [HR.out]; rfl, ((Gr.refl w).alloc _).below⟩
set_option maxHeartbeats 1000000 in
theorem rports5_any (i o : Int) (cq : Option Addr) (cm cc : Nat) (via : Pth) (bd : Nat) (dq : Option Addr) (dm dc : Nat) (st : Bool) (w : World) : Calls Tryz.prog 38 #[.agg (ncells 5 i o (.slice cq cm cc) via bd (.slice dq dm dc) st)] w fun r w' => r = .returned (.bool (pIn 5 i && pOut 5 o)) ∧ Below w.heap.size w w' := by
  by_cases h0 : i = 1
  · by_cases h1 : o = 1
    · have HR : Hid ((pIn 5 i && pOut 5 o) = true) := by show _ = _; simp [pIn, pOut]; omega
      go_enter Tryz.func38, Tryz.ntmps38
      go_wp2_with fail
      go_ret
      exact ⟨by rw [HR.out]; rfl, ((Gr.refl w).alloc _).below⟩
    · have h1b : (o == 1) = false := by simp [h1]
      have HR : Hid ((pIn 5 i && pOut 5 o) = false) := by show _ = _; simp [pIn, pOut]; omega
      go_enter Tryz.func38, Tryz.ntmps38
      go_wp2_with fail
      go_ret
      exact ⟨by rw [HR.out]; rfl, ((Gr.refl w).alloc _).below⟩
  · have h0b : (i == 1) = false := by simp [h0]
    have HR : Hid ((pIn 5 i && pOut 5 o) = false) := by show _ = _; simp [pIn, pOut]; omega
    go_enter Tryz.func38, Tryz.ntmps38
    go_wp2_with fail
    go_ret
    exact ⟨by rw [HR.out]; rfl, ((Gr.refl w).alloc _).below⟩
set_option maxHeartbeats 1000000 in
theorem rports6_any (i o : Int) (cq : Option Addr) (cm cc : Nat) (via : Pth) (bd : Nat) (dq : Option Addr) (dm dc : Nat) (st : Bool) (w : World) : Calls Tryz.prog 38 #[.agg (ncells 6 i o (.slice cq cm cc) via bd (.slice dq dm dc) st)] w fun r w' => r = .returned (.bool (pIn 6 i && pOut 6 o)) ∧ Below w.heap.size w w' := by
  by_cases h0 : i = 1
  · by_cases h1 : o = 1
    · have HR : Hid ((pIn 6 i && pOut 6 o) = true) := by show _ = _; simp [pIn, pOut]; omega
      go_enter Tryz.func38, Tryz.ntmps38
      go_wp2_with fail
      go_ret
      exact ⟨by rw [HR.out]; rfl, ((Gr.refl w).alloc _).below⟩
    · have h1b : (o == 1) = false := by simp [h1]
      have HR : Hid ((pIn 6 i && pOut 6 o) = false) := by show _ = _; simp [pIn, pOut]; omega
      go_enter Tryz.func38, Tryz.ntmps38
      go_wp2_with fail
      go_ret
      exact ⟨by rw [HR.out]; rfl, ((Gr.refl w).alloc _).below⟩
  · have h0b : (i == 1) = false := by simp [h0]
    have HR : Hid ((pIn 6 i && pOut 6 o) = false) := by show _ = _; simp [pIn, pOut]; omega
    go_enter Tryz.func38, Tryz.ntmps38
    go_wp2_with fail
    go_ret
    exact ⟨by rw [HR.out]; rfl, ((Gr.refl w).alloc _).below⟩
set_option maxHeartbeats 1000000 in
theorem rports7_any (i o : Int) (cq : Option Addr) (cm cc : Nat) (via : Pth) (bd : Nat) (dq : Option Addr) (dm dc : Nat) (st : Bool) (w : World) : Calls Tryz.prog 38 #[.agg (ncells 7 i o (.slice cq cm cc) via bd (.slice dq dm dc) st)] w fun r w' => r = .returned (.bool (pIn 7 i && pOut 7 o)) ∧ Below w.heap.size w w' := by
  by_cases h0 : i = 1
  · by_cases h1 : o = 0
    · have HR : Hid ((pIn 7 i && pOut 7 o) = true) := by show _ = _; simp [pIn, pOut]; omega
      go_enter Tryz.func38, Tryz.ntmps38
      go_wp2_with fail
      go_ret
      exact ⟨by rw [HR.out]; rfl, ((Gr.refl w).alloc _).below⟩
    · have h1b : (o == 0) = false := by simp [h1]
      have HR : Hid ((pIn 7 i && pOut 7 o) = false) := by show _ = _; simp [pIn, pOut]; omega
      go_enter Tryz.func38, Tryz.ntmps38
      go_wp2_with fail
      go_ret
      exact ⟨by rw [HR.out]; rfl, ((Gr.refl w).alloc _).below⟩
  · have h0b : (i == 1) = false := by simp [h0]
    have HR : Hid ((pIn 7 i && pOut 7 o) = false) := by show _ = _; simp [pIn, pOut]; omega
    go_enter Tryz.func38, Tryz.ntmps38
    go_wp2_with fail
    go_ret
    exact ⟨by rw [HR.out]; rfl, ((Gr.refl w).alloc _).below⟩
set_option maxHeartbeats 1000000 in
theorem rports8_any (i o : Int) (cq : Option Addr) (cm cc : Nat) (via : Pth) (bd : Nat) (dq : Option Addr) (dm dc : Nat) (st : Bool) (w : World) : Calls Tryz.prog 38 #[.agg (ncells 8 i o (.slice cq cm cc) via bd (.slice dq dm dc) st)] w fun r w' => r = .returned (.bool (pIn 8 i && pOut 8 o)) ∧ Below w.heap.size w w' := by
  by_cases h0 : 0 ≤ i
  · by_cases h1 : i ≤ 4
    · by_cases h2 : 0 ≤ o
      · by_cases h3 : o ≤ 4
        · have HR : Hid ((pIn 8 i && pOut 8 o) = true) := by show _ = _; simp [pIn, pOut]; omega
          go_enter Tryz.func38, Tryz.ntmps38
          go_wp2_with fail
          go_ret
          exact ⟨by rw [HR.out]; rfl, ((Gr.refl w).alloc _).below⟩
        · have HR : Hid ((pIn 8 i && pOut 8 o) = false) := by show _ = _; simp [pIn, pOut]; omega
          go_enter Tryz.func38, Tryz.ntmps38
          go_wp2_with fail
          go_ret
          exact ⟨by rw [HR.out]; rfl, ((Gr.refl w).alloc _).below⟩
      · have HR : Hid ((pIn 8 i && pOut 8 o) = false) := by show _ = _; simp [pIn, pOut]; omega
        go_enter Tryz.func38, Tryz.ntmps38
        go_wp2_with fail
        go_ret
        exact ⟨by rw [HR.out]; rfl, ((Gr.refl w).alloc _).below⟩
    · have HR : Hid ((pIn 8 i && pOut 8 o) = false) := by show _ = _; simp [pIn, pOut]; omega
      go_enter Tryz.func38, Tryz.ntmps38
      go_wp2_with fail
      go_ret
      exact ⟨by rw [HR.out]; rfl, ((Gr.refl w).alloc _).below⟩
  · have HR : Hid ((pIn 8 i && pOut 8 o) = false) := by show _ = _; simp [pIn, pOut]; omega
    go_enter Tryz.func38, Tryz.ntmps38
    go_wp2_with fail
    go_ret
    exact ⟨by rw [HR.out]; rfl, ((Gr.refl w).alloc _).below⟩
end Go.Proofs.YtngnfglnfkhheaaGreat.Df

namespace Go.Proofs.YtngnfglnfkhheaaGreat.Df
open Go.RowKit Go.Sort
attribute [local go_sem ↓] Go.wp_at_zero Go.wp_at_succ

/-- What the document's fields says. -/
def rfl9 (k : Int) (cm : Nat) (via : Pth) (bd dm : Nat) (st : Bool) (a : Int) : Bool := !(has (if k = 2 ∨ k = 3 then 0 else cm) (if k = 5 then (0, 0, 0) else via) (if k = 5 then 0 else bd) (if k = 8 then 0 else dm) (if k = 8 then false else st)) && decide (tfits via.1 via.2.1 via.2.2 a = 0) && decide (bd ≤ 64)
set_option maxHeartbeats 2000000 in
theorem rfields0_any (k : Int) (k2 : ¬ k = 2) (k3 : ¬ k = 3) (k5 : ¬ k = 5) (k8 : ¬ k = 8) (i o : Int) (cq : Option Addr) (cm cc : Nat) (via : Pth) (bd : Nat) (dq : Option Addr) (dm dc : Nat) (st : Bool) (a : Int) (w : World) : Calls Tryz.prog 39 #[.agg (ncells k i o (.slice cq cm cc) via bd (.slice dq dm dc) st), .int .i64 a] w fun r w' => r = .returned (.bool (rfl9 k cm via bd dm st a)) ∧ Below w.heap.size w w' := by
  have heq2 : ∀ W : World, Sem.run Tryz.prog (Op.equalIn 10000 43 (.agg #[.int .u64 (via.1 : Nat), .int .u64 (via.2.1 : Nat), .int .u64 (via.2.2 : Nat)]) (.agg #[.int .u64 0, .int .u64 0, .int .u64 0])) W = .ok (decide (via = (0, 0, 0))) W := fun W => by
    rw [run_eqP 9998 via.1 via.2.1 via.2.2 0 0 0 W]
    exact congrArg (fun b => Result.ok b W) (teq_pth via (0, 0, 0))
  have hf := fun W => rfits_any via a W
  have kb2 : (k != 2) = true := by simp [k2]
  have kb3 : (k != 3) = true := by simp [k3]
  have kb5 : (k != 5) = true := by simp [k5]
  have kb8 : (k != 8) = true := by simp [k8]
  have B0 := hid ((Gr.refl w).alloc (.cells (ncells k i o (.slice cq cm cc) via bd (.slice dq dm dc) st) 58)).below
  have N0 := hid (heap_new' w (.cells (ncells k i o (.slice cq cm cc) via bd (.slice dq dm dc) st) 58))
  obtain ⟨W0, hW0⟩ : ∃ W, W = w.alloc (.cells (ncells k i o (.slice cq cm cc) via bd (.slice dq dm dc) st) 58) := ⟨_, rfl⟩
  have HW : Hid (w.alloc (.cells #[.int .i64 k, .int .i64 i, .int .i64 o, .slice cq cm cc, .int .u64 (via.1 : Nat), .int .u64 (via.2.1 : Nat), .int .u64 (via.2.2 : Nat), .int .u64 (bd : Nat), .slice dq dm dc, .bool st] 58) = W0) := hW0.symm
  rw [← hW0] at B0 N0
  have c0 := (tk_store N0.out).1
  have l0 := tk_lt N0.out
  clear hW0
  go_enter Tryz.func39, Tryz.ntmps39
  go_upto_region 1 with fail
  rw [HW.out]
  clear HW
  by_cases h0 : 0 < cm
  · have z0 : (0 : Int) < (cm : Int) := by omega
    have HR : Hid (rfl9 k cm via bd dm st a = false) := by show _ = _; simp [rfl9, has, k2, k3, k5, k8, h0]
    clear h0
    go_wp2_with fail
    go_ret
    exact ⟨by rw [HR.out]; rfl, B0.out⟩
  · have z0 : ¬ (0 : Int) < (cm : Int) := by omega
    have e0 : cm = 0 := by omega
    by_cases g1 : ¬ via = (0, 0, 0)
    · have d1 : decide (via = (0, 0, 0)) = false := by simp [g1]
      rw [d1] at heq2
      have HR : Hid (rfl9 k cm via bd dm st a = false) := by show _ = _; simp [rfl9, has, k2, k3, k5, k8, e0, g1]
      clear e0 g1
      go_wp2_with fail
      go_ret
      exact ⟨by rw [HR.out]; rfl, B0.out⟩
    · have d1 : decide (via = (0, 0, 0)) = true := by simpa using g1
      rw [d1] at heq2
      by_cases h2 : ¬ bd = 0
      · have b2 : ((bd : Int) == 0) = false := by simp [h2]
        have c2 : ((bd : Int) != 0) = true := by simp [h2]
        have HR : Hid (rfl9 k cm via bd dm st a = false) := by show _ = _; simp [rfl9, has, k2, k3, k5, k8, e0, h2]
        clear e0 g1 h2
        go_wp2_with fail
        go_ret
        exact ⟨by rw [HR.out]; rfl, B0.out⟩
      · have h2 : bd = 0 := by omega
        have b2 : ((bd : Int) == 0) = true := by simp [h2]
        have c2 : ((bd : Int) != 0) = false := by simp [h2]
        have z2 : (bd : Int) ≤ 64 := by omega
        by_cases h3 : 0 < dm
        · have z3 : (0 : Int) < (dm : Int) := by omega
          have HR : Hid (rfl9 k cm via bd dm st a = false) := by show _ = _; simp [rfl9, has, k2, k3, k5, k8, e0, h2, h3]
          clear e0 g1 h2 h3
          go_wp2_with fail
          go_ret
          exact ⟨by rw [HR.out]; rfl, B0.out⟩
        · have z3 : ¬ (0 : Int) < (dm : Int) := by omega
          have e3 : dm = 0 := by omega
          by_cases q4 : st = true
          · subst q4
            have HR : Hid (rfl9 k cm via bd dm true a = false) := by show _ = _; simp [rfl9, has, k2, k3, k5, k8, e0, h2, e3]
            clear e0 g1 h2 e3
            go_wp2_with fail
            go_ret
            exact ⟨by rw [HR.out]; rfl, B0.out⟩
          · have q4 : st = false := by simpa using q4
            subst q4
            by_cases g5 : ¬ tfits via.1 via.2.1 via.2.2 a = 0
            · have d5 : decide (tfits via.1 via.2.1 via.2.2 a = 0) = false := by simp [g5]
              rw [d5] at hf
              have HR : Hid (rfl9 k cm via bd dm false a = false) := by show _ = _; simp [rfl9, has, k2, k3, k5, k8, e0, h2, e3, g5]
              clear e0 g1 h2 e3 g5
              go_wp2_with fail
              refine (hf _).mono ?_
              rintro r w1 ⟨rfl, g1⟩
              have B1 := hid (B0.out.trans (g1.below.mono B0.out.size))
              have hn1 := (g1.below.block _ (tk_lt N0.out)).trans N0.out
              have c1 := (tk_store hn1).1
              have l1 := tk_lt hn1
              clear g1 hn1
              go_wp2_with fail
              go_ret
              exact ⟨by rw [HR.out]; first | rfl | (simp; omega), B1.out⟩
            · have d5 : decide (tfits via.1 via.2.1 via.2.2 a = 0) = true := by simpa using g5
              rw [d5] at hf
              have HR : Hid (rfl9 k cm via bd dm false a = true) := by show _ = _; simp [rfl9, has, k2, k3, k5, k8, e0, h2, e3]; exact ⟨by simpa using g1, by simpa using g5⟩
              clear e0 g1 h2 e3 g5
              go_wp2_with fail
              refine (hf _).mono ?_
              rintro r w1 ⟨rfl, g1⟩
              have B1 := hid (B0.out.trans (g1.below.mono B0.out.size))
              have hn1 := (g1.below.block _ (tk_lt N0.out)).trans N0.out
              have c1 := (tk_store hn1).1
              have l1 := tk_lt hn1
              clear g1 hn1
              go_wp2_with fail
              go_ret
              exact ⟨by rw [HR.out]; first | rfl | (simp; omega), B1.out⟩
set_option maxHeartbeats 2000000 in
theorem rfields2_any (i o : Int) (cq : Option Addr) (cm cc : Nat) (via : Pth) (bd : Nat) (dq : Option Addr) (dm dc : Nat) (st : Bool) (a : Int) (w : World) : Calls Tryz.prog 39 #[.agg (ncells 2 i o (.slice cq cm cc) via bd (.slice dq dm dc) st), .int .i64 a] w fun r w' => r = .returned (.bool (rfl9 2 cm via bd dm st a)) ∧ Below w.heap.size w w' := by
  have heq2 : ∀ W : World, Sem.run Tryz.prog (Op.equalIn 10000 43 (.agg #[.int .u64 (via.1 : Nat), .int .u64 (via.2.1 : Nat), .int .u64 (via.2.2 : Nat)]) (.agg #[.int .u64 0, .int .u64 0, .int .u64 0])) W = .ok (decide (via = (0, 0, 0))) W := fun W => by
    rw [run_eqP 9998 via.1 via.2.1 via.2.2 0 0 0 W]
    exact congrArg (fun b => Result.ok b W) (teq_pth via (0, 0, 0))
  have hf := fun W => rfits_any via a W
  have B0 := hid ((Gr.refl w).alloc (.cells (ncells 2 i o (.slice cq cm cc) via bd (.slice dq dm dc) st) 58)).below
  have N0 := hid (heap_new' w (.cells (ncells 2 i o (.slice cq cm cc) via bd (.slice dq dm dc) st) 58))
  obtain ⟨W0, hW0⟩ : ∃ W, W = w.alloc (.cells (ncells 2 i o (.slice cq cm cc) via bd (.slice dq dm dc) st) 58) := ⟨_, rfl⟩
  have HW : Hid (w.alloc (.cells #[.int .i64 2, .int .i64 i, .int .i64 o, .slice cq cm cc, .int .u64 (via.1 : Nat), .int .u64 (via.2.1 : Nat), .int .u64 (via.2.2 : Nat), .int .u64 (bd : Nat), .slice dq dm dc, .bool st] 58) = W0) := hW0.symm
  rw [← hW0] at B0 N0
  have c0 := (tk_store N0.out).1
  have l0 := tk_lt N0.out
  clear hW0
  go_enter Tryz.func39, Tryz.ntmps39
  go_upto_region 1 with fail
  rw [HW.out]
  clear HW
  by_cases g0 : ¬ via = (0, 0, 0)
  · have d0 : decide (via = (0, 0, 0)) = false := by simp [g0]
    rw [d0] at heq2
    have HR : Hid (rfl9 2 cm via bd dm st a = false) := by show _ = _; simp [rfl9, has, g0]
    clear g0
    go_wp2_with fail
    go_ret
    exact ⟨by rw [HR.out]; rfl, B0.out⟩
  · have d0 : decide (via = (0, 0, 0)) = true := by simpa using g0
    rw [d0] at heq2
    by_cases h1 : ¬ bd = 0
    · have b1 : ((bd : Int) == 0) = false := by simp [h1]
      have c1 : ((bd : Int) != 0) = true := by simp [h1]
      have HR : Hid (rfl9 2 cm via bd dm st a = false) := by show _ = _; simp [rfl9, has, h1]
      clear g0 h1
      go_wp2_with fail
      go_ret
      exact ⟨by rw [HR.out]; rfl, B0.out⟩
    · have h1 : bd = 0 := by omega
      have b1 : ((bd : Int) == 0) = true := by simp [h1]
      have c1 : ((bd : Int) != 0) = false := by simp [h1]
      have z1 : (bd : Int) ≤ 64 := by omega
      by_cases h2 : 0 < dm
      · have z2 : (0 : Int) < (dm : Int) := by omega
        have HR : Hid (rfl9 2 cm via bd dm st a = false) := by show _ = _; simp [rfl9, has, h1, h2]
        clear g0 h1 h2
        go_wp2_with fail
        go_ret
        exact ⟨by rw [HR.out]; rfl, B0.out⟩
      · have z2 : ¬ (0 : Int) < (dm : Int) := by omega
        have e2 : dm = 0 := by omega
        by_cases q3 : st = true
        · subst q3
          have HR : Hid (rfl9 2 cm via bd dm true a = false) := by show _ = _; simp [rfl9, has, h1, e2]
          clear g0 h1 e2
          go_wp2_with fail
          go_ret
          exact ⟨by rw [HR.out]; rfl, B0.out⟩
        · have q3 : st = false := by simpa using q3
          subst q3
          by_cases g4 : ¬ tfits via.1 via.2.1 via.2.2 a = 0
          · have d4 : decide (tfits via.1 via.2.1 via.2.2 a = 0) = false := by simp [g4]
            rw [d4] at hf
            have HR : Hid (rfl9 2 cm via bd dm false a = false) := by show _ = _; simp [rfl9, has, h1, e2, g4]
            clear g0 h1 e2 g4
            go_wp2_with fail
            refine (hf _).mono ?_
            rintro r w1 ⟨rfl, g1⟩
            have B1 := hid (B0.out.trans (g1.below.mono B0.out.size))
            have hn1 := (g1.below.block _ (tk_lt N0.out)).trans N0.out
            have c1 := (tk_store hn1).1
            have l1 := tk_lt hn1
            clear g1 hn1
            go_wp2_with fail
            go_ret
            exact ⟨by rw [HR.out]; first | rfl | (simp; omega), B1.out⟩
          · have d4 : decide (tfits via.1 via.2.1 via.2.2 a = 0) = true := by simpa using g4
            rw [d4] at hf
            have HR : Hid (rfl9 2 cm via bd dm false a = true) := by show _ = _; simp [rfl9, has, h1, e2]; exact ⟨by simpa using g0, by simpa using g4⟩
            clear g0 h1 e2 g4
            go_wp2_with fail
            refine (hf _).mono ?_
            rintro r w1 ⟨rfl, g1⟩
            have B1 := hid (B0.out.trans (g1.below.mono B0.out.size))
            have hn1 := (g1.below.block _ (tk_lt N0.out)).trans N0.out
            have c1 := (tk_store hn1).1
            have l1 := tk_lt hn1
            clear g1 hn1
            go_wp2_with fail
            go_ret
            exact ⟨by rw [HR.out]; first | rfl | (simp; omega), B1.out⟩
set_option maxHeartbeats 2000000 in
theorem rfields3_any (i o : Int) (cq : Option Addr) (cm cc : Nat) (via : Pth) (bd : Nat) (dq : Option Addr) (dm dc : Nat) (st : Bool) (a : Int) (w : World) : Calls Tryz.prog 39 #[.agg (ncells 3 i o (.slice cq cm cc) via bd (.slice dq dm dc) st), .int .i64 a] w fun r w' => r = .returned (.bool (rfl9 3 cm via bd dm st a)) ∧ Below w.heap.size w w' := by
  have heq2 : ∀ W : World, Sem.run Tryz.prog (Op.equalIn 10000 43 (.agg #[.int .u64 (via.1 : Nat), .int .u64 (via.2.1 : Nat), .int .u64 (via.2.2 : Nat)]) (.agg #[.int .u64 0, .int .u64 0, .int .u64 0])) W = .ok (decide (via = (0, 0, 0))) W := fun W => by
    rw [run_eqP 9998 via.1 via.2.1 via.2.2 0 0 0 W]
    exact congrArg (fun b => Result.ok b W) (teq_pth via (0, 0, 0))
  have hf := fun W => rfits_any via a W
  have B0 := hid ((Gr.refl w).alloc (.cells (ncells 3 i o (.slice cq cm cc) via bd (.slice dq dm dc) st) 58)).below
  have N0 := hid (heap_new' w (.cells (ncells 3 i o (.slice cq cm cc) via bd (.slice dq dm dc) st) 58))
  obtain ⟨W0, hW0⟩ : ∃ W, W = w.alloc (.cells (ncells 3 i o (.slice cq cm cc) via bd (.slice dq dm dc) st) 58) := ⟨_, rfl⟩
  have HW : Hid (w.alloc (.cells #[.int .i64 3, .int .i64 i, .int .i64 o, .slice cq cm cc, .int .u64 (via.1 : Nat), .int .u64 (via.2.1 : Nat), .int .u64 (via.2.2 : Nat), .int .u64 (bd : Nat), .slice dq dm dc, .bool st] 58) = W0) := hW0.symm
  rw [← hW0] at B0 N0
  have c0 := (tk_store N0.out).1
  have l0 := tk_lt N0.out
  clear hW0
  go_enter Tryz.func39, Tryz.ntmps39
  go_upto_region 1 with fail
  rw [HW.out]
  clear HW
  by_cases g0 : ¬ via = (0, 0, 0)
  · have d0 : decide (via = (0, 0, 0)) = false := by simp [g0]
    rw [d0] at heq2
    have HR : Hid (rfl9 3 cm via bd dm st a = false) := by show _ = _; simp [rfl9, has, g0]
    clear g0
    go_wp2_with fail
    go_ret
    exact ⟨by rw [HR.out]; rfl, B0.out⟩
  · have d0 : decide (via = (0, 0, 0)) = true := by simpa using g0
    rw [d0] at heq2
    by_cases h1 : ¬ bd = 0
    · have b1 : ((bd : Int) == 0) = false := by simp [h1]
      have c1 : ((bd : Int) != 0) = true := by simp [h1]
      have HR : Hid (rfl9 3 cm via bd dm st a = false) := by show _ = _; simp [rfl9, has, h1]
      clear g0 h1
      go_wp2_with fail
      go_ret
      exact ⟨by rw [HR.out]; rfl, B0.out⟩
    · have h1 : bd = 0 := by omega
      have b1 : ((bd : Int) == 0) = true := by simp [h1]
      have c1 : ((bd : Int) != 0) = false := by simp [h1]
      have z1 : (bd : Int) ≤ 64 := by omega
      by_cases h2 : 0 < dm
      · have z2 : (0 : Int) < (dm : Int) := by omega
        have HR : Hid (rfl9 3 cm via bd dm st a = false) := by show _ = _; simp [rfl9, has, h1, h2]
        clear g0 h1 h2
        go_wp2_with fail
        go_ret
        exact ⟨by rw [HR.out]; rfl, B0.out⟩
      · have z2 : ¬ (0 : Int) < (dm : Int) := by omega
        have e2 : dm = 0 := by omega
        by_cases q3 : st = true
        · subst q3
          have HR : Hid (rfl9 3 cm via bd dm true a = false) := by show _ = _; simp [rfl9, has, h1, e2]
          clear g0 h1 e2
          go_wp2_with fail
          go_ret
          exact ⟨by rw [HR.out]; rfl, B0.out⟩
        · have q3 : st = false := by simpa using q3
          subst q3
          by_cases g4 : ¬ tfits via.1 via.2.1 via.2.2 a = 0
          · have d4 : decide (tfits via.1 via.2.1 via.2.2 a = 0) = false := by simp [g4]
            rw [d4] at hf
            have HR : Hid (rfl9 3 cm via bd dm false a = false) := by show _ = _; simp [rfl9, has, h1, e2, g4]
            clear g0 h1 e2 g4
            go_wp2_with fail
            refine (hf _).mono ?_
            rintro r w1 ⟨rfl, g1⟩
            have B1 := hid (B0.out.trans (g1.below.mono B0.out.size))
            have hn1 := (g1.below.block _ (tk_lt N0.out)).trans N0.out
            have c1 := (tk_store hn1).1
            have l1 := tk_lt hn1
            clear g1 hn1
            go_wp2_with fail
            go_ret
            exact ⟨by rw [HR.out]; first | rfl | (simp; omega), B1.out⟩
          · have d4 : decide (tfits via.1 via.2.1 via.2.2 a = 0) = true := by simpa using g4
            rw [d4] at hf
            have HR : Hid (rfl9 3 cm via bd dm false a = true) := by show _ = _; simp [rfl9, has, h1, e2]; exact ⟨by simpa using g0, by simpa using g4⟩
            clear g0 h1 e2 g4
            go_wp2_with fail
            refine (hf _).mono ?_
            rintro r w1 ⟨rfl, g1⟩
            have B1 := hid (B0.out.trans (g1.below.mono B0.out.size))
            have hn1 := (g1.below.block _ (tk_lt N0.out)).trans N0.out
            have c1 := (tk_store hn1).1
            have l1 := tk_lt hn1
            clear g1 hn1
            go_wp2_with fail
            go_ret
            exact ⟨by rw [HR.out]; first | rfl | (simp; omega), B1.out⟩
set_option maxHeartbeats 2000000 in
theorem rfields5_any (i o : Int) (cq : Option Addr) (cm cc : Nat) (via : Pth) (bd : Nat) (dq : Option Addr) (dm dc : Nat) (st : Bool) (a : Int) (w : World) : Calls Tryz.prog 39 #[.agg (ncells 5 i o (.slice cq cm cc) via bd (.slice dq dm dc) st), .int .i64 a] w fun r w' => r = .returned (.bool (rfl9 5 cm via bd dm st a)) ∧ Below w.heap.size w w' := by
  have heq2 : ∀ W : World, Sem.run Tryz.prog (Op.equalIn 10000 43 (.agg #[.int .u64 (via.1 : Nat), .int .u64 (via.2.1 : Nat), .int .u64 (via.2.2 : Nat)]) (.agg #[.int .u64 0, .int .u64 0, .int .u64 0])) W = .ok (decide (via = (0, 0, 0))) W := fun W => by
    rw [run_eqP 9998 via.1 via.2.1 via.2.2 0 0 0 W]
    exact congrArg (fun b => Result.ok b W) (teq_pth via (0, 0, 0))
  have hf := fun W => rfits_any via a W
  have B0 := hid ((Gr.refl w).alloc (.cells (ncells 5 i o (.slice cq cm cc) via bd (.slice dq dm dc) st) 58)).below
  have N0 := hid (heap_new' w (.cells (ncells 5 i o (.slice cq cm cc) via bd (.slice dq dm dc) st) 58))
  obtain ⟨W0, hW0⟩ : ∃ W, W = w.alloc (.cells (ncells 5 i o (.slice cq cm cc) via bd (.slice dq dm dc) st) 58) := ⟨_, rfl⟩
  have HW : Hid (w.alloc (.cells #[.int .i64 5, .int .i64 i, .int .i64 o, .slice cq cm cc, .int .u64 (via.1 : Nat), .int .u64 (via.2.1 : Nat), .int .u64 (via.2.2 : Nat), .int .u64 (bd : Nat), .slice dq dm dc, .bool st] 58) = W0) := hW0.symm
  rw [← hW0] at B0 N0
  have c0 := (tk_store N0.out).1
  have l0 := tk_lt N0.out
  clear hW0
  go_enter Tryz.func39, Tryz.ntmps39
  go_upto_region 1 with fail
  rw [HW.out]
  clear HW
  by_cases h0 : 0 < cm
  · have z0 : (0 : Int) < (cm : Int) := by omega
    have HR : Hid (rfl9 5 cm via bd dm st a = false) := by show _ = _; simp [rfl9, has, h0]
    clear h0
    go_wp2_with fail
    go_ret
    exact ⟨by rw [HR.out]; rfl, B0.out⟩
  · have z0 : ¬ (0 : Int) < (cm : Int) := by omega
    have e0 : cm = 0 := by omega
    by_cases h1 : 0 < dm
    · have z1 : (0 : Int) < (dm : Int) := by omega
      have HR : Hid (rfl9 5 cm via bd dm st a = false) := by show _ = _; simp [rfl9, has, e0, h1]
      clear e0 h1
      go_wp2_with fail
      go_ret
      exact ⟨by rw [HR.out]; rfl, B0.out⟩
    · have z1 : ¬ (0 : Int) < (dm : Int) := by omega
      have e1 : dm = 0 := by omega
      by_cases q2 : st = true
      · subst q2
        have HR : Hid (rfl9 5 cm via bd dm true a = false) := by show _ = _; simp [rfl9, has, e0, e1]
        clear e0 e1
        go_wp2_with fail
        go_ret
        exact ⟨by rw [HR.out]; rfl, B0.out⟩
      · have q2 : st = false := by simpa using q2
        subst q2
        by_cases g3 : ¬ tfits via.1 via.2.1 via.2.2 a = 0
        · have d3 : decide (tfits via.1 via.2.1 via.2.2 a = 0) = false := by simp [g3]
          rw [d3] at hf
          have HR : Hid (rfl9 5 cm via bd dm false a = false) := by show _ = _; simp [rfl9, has, e0, e1, g3]
          clear e0 e1 g3
          go_wp2_with fail
          refine (hf _).mono ?_
          rintro r w1 ⟨rfl, g1⟩
          have B1 := hid (B0.out.trans (g1.below.mono B0.out.size))
          have hn1 := (g1.below.block _ (tk_lt N0.out)).trans N0.out
          have c1 := (tk_store hn1).1
          have l1 := tk_lt hn1
          clear g1 hn1
          go_wp2_with fail
          go_ret
          exact ⟨by rw [HR.out]; first | rfl | (simp; omega), B1.out⟩
        · have d3 : decide (tfits via.1 via.2.1 via.2.2 a = 0) = true := by simpa using g3
          rw [d3] at hf
          by_cases h4 : ¬ bd ≤ 64
          · have z4 : ¬ (bd : Int) ≤ 64 := by omega
            have HR : Hid (rfl9 5 cm via bd dm false a = false) := by show _ = _; simp [rfl9, has, e0, e1, h4]
            clear e0 e1 g3 h4
            go_wp2_with fail
            refine (hf _).mono ?_
            rintro r w1 ⟨rfl, g1⟩
            have B1 := hid (B0.out.trans (g1.below.mono B0.out.size))
            have hn1 := (g1.below.block _ (tk_lt N0.out)).trans N0.out
            have c1 := (tk_store hn1).1
            have l1 := tk_lt hn1
            clear g1 hn1
            go_wp2_with fail
            go_ret
            exact ⟨by rw [HR.out]; first | rfl | (simp; omega), B1.out⟩
          · have z4 : (bd : Int) ≤ 64 := by omega
            have h4 : bd ≤ 64 := by omega
            have HR : Hid (rfl9 5 cm via bd dm false a = true) := by show _ = _; simp [rfl9, has, e0, e1, h4]; simpa using g3
            clear e0 e1 g3 h4
            go_wp2_with fail
            refine (hf _).mono ?_
            rintro r w1 ⟨rfl, g1⟩
            have B1 := hid (B0.out.trans (g1.below.mono B0.out.size))
            have hn1 := (g1.below.block _ (tk_lt N0.out)).trans N0.out
            have c1 := (tk_store hn1).1
            have l1 := tk_lt hn1
            clear g1 hn1
            go_wp2_with fail
            go_ret
            exact ⟨by rw [HR.out]; first | rfl | (simp; omega), B1.out⟩
set_option maxHeartbeats 2000000 in
theorem rfields8_any (i o : Int) (cq : Option Addr) (cm cc : Nat) (via : Pth) (bd : Nat) (dq : Option Addr) (dm dc : Nat) (st : Bool) (a : Int) (w : World) : Calls Tryz.prog 39 #[.agg (ncells 8 i o (.slice cq cm cc) via bd (.slice dq dm dc) st), .int .i64 a] w fun r w' => r = .returned (.bool (rfl9 8 cm via bd dm st a)) ∧ Below w.heap.size w w' := by
  have heq2 : ∀ W : World, Sem.run Tryz.prog (Op.equalIn 10000 43 (.agg #[.int .u64 (via.1 : Nat), .int .u64 (via.2.1 : Nat), .int .u64 (via.2.2 : Nat)]) (.agg #[.int .u64 0, .int .u64 0, .int .u64 0])) W = .ok (decide (via = (0, 0, 0))) W := fun W => by
    rw [run_eqP 9998 via.1 via.2.1 via.2.2 0 0 0 W]
    exact congrArg (fun b => Result.ok b W) (teq_pth via (0, 0, 0))
  have hf := fun W => rfits_any via a W
  have B0 := hid ((Gr.refl w).alloc (.cells (ncells 8 i o (.slice cq cm cc) via bd (.slice dq dm dc) st) 58)).below
  have N0 := hid (heap_new' w (.cells (ncells 8 i o (.slice cq cm cc) via bd (.slice dq dm dc) st) 58))
  obtain ⟨W0, hW0⟩ : ∃ W, W = w.alloc (.cells (ncells 8 i o (.slice cq cm cc) via bd (.slice dq dm dc) st) 58) := ⟨_, rfl⟩
  have HW : Hid (w.alloc (.cells #[.int .i64 8, .int .i64 i, .int .i64 o, .slice cq cm cc, .int .u64 (via.1 : Nat), .int .u64 (via.2.1 : Nat), .int .u64 (via.2.2 : Nat), .int .u64 (bd : Nat), .slice dq dm dc, .bool st] 58) = W0) := hW0.symm
  rw [← hW0] at B0 N0
  have c0 := (tk_store N0.out).1
  have l0 := tk_lt N0.out
  clear hW0
  go_enter Tryz.func39, Tryz.ntmps39
  go_upto_region 1 with fail
  rw [HW.out]
  clear HW
  by_cases h0 : 0 < cm
  · have z0 : (0 : Int) < (cm : Int) := by omega
    have HR : Hid (rfl9 8 cm via bd dm st a = false) := by show _ = _; simp [rfl9, has, h0]
    clear h0
    go_wp2_with fail
    go_ret
    exact ⟨by rw [HR.out]; rfl, B0.out⟩
  · have z0 : ¬ (0 : Int) < (cm : Int) := by omega
    have e0 : cm = 0 := by omega
    by_cases g1 : ¬ via = (0, 0, 0)
    · have d1 : decide (via = (0, 0, 0)) = false := by simp [g1]
      rw [d1] at heq2
      have HR : Hid (rfl9 8 cm via bd dm st a = false) := by show _ = _; simp [rfl9, has, e0, g1]
      clear e0 g1
      go_wp2_with fail
      go_ret
      exact ⟨by rw [HR.out]; rfl, B0.out⟩
    · have d1 : decide (via = (0, 0, 0)) = true := by simpa using g1
      rw [d1] at heq2
      by_cases h2 : ¬ bd = 0
      · have b2 : ((bd : Int) == 0) = false := by simp [h2]
        have c2 : ((bd : Int) != 0) = true := by simp [h2]
        have HR : Hid (rfl9 8 cm via bd dm st a = false) := by show _ = _; simp [rfl9, has, e0, h2]
        clear e0 g1 h2
        go_wp2_with fail
        go_ret
        exact ⟨by rw [HR.out]; rfl, B0.out⟩
      · have h2 : bd = 0 := by omega
        have b2 : ((bd : Int) == 0) = true := by simp [h2]
        have c2 : ((bd : Int) != 0) = false := by simp [h2]
        have z2 : (bd : Int) ≤ 64 := by omega
        by_cases g3 : ¬ tfits via.1 via.2.1 via.2.2 a = 0
        · have d3 : decide (tfits via.1 via.2.1 via.2.2 a = 0) = false := by simp [g3]
          rw [d3] at hf
          have HR : Hid (rfl9 8 cm via bd dm st a = false) := by show _ = _; simp [rfl9, has, e0, h2, g3]
          clear e0 g1 h2 g3
          go_wp2_with fail
          refine (hf _).mono ?_
          rintro r w1 ⟨rfl, g1⟩
          have B1 := hid (B0.out.trans (g1.below.mono B0.out.size))
          have hn1 := (g1.below.block _ (tk_lt N0.out)).trans N0.out
          have c1 := (tk_store hn1).1
          have l1 := tk_lt hn1
          clear g1 hn1
          go_wp2_with fail
          go_ret
          exact ⟨by rw [HR.out]; first | rfl | (simp; omega), B1.out⟩
        · have d3 : decide (tfits via.1 via.2.1 via.2.2 a = 0) = true := by simpa using g3
          rw [d3] at hf
          have HR : Hid (rfl9 8 cm via bd dm st a = true) := by show _ = _; simp [rfl9, has, e0, h2]; exact ⟨by simpa using g1, by simpa using g3⟩
          clear e0 g1 h2 g3
          go_wp2_with fail
          refine (hf _).mono ?_
          rintro r w1 ⟨rfl, g1⟩
          have B1 := hid (B0.out.trans (g1.below.mono B0.out.size))
          have hn1 := (g1.below.block _ (tk_lt N0.out)).trans N0.out
          have c1 := (tk_store hn1).1
          have l1 := tk_lt hn1
          clear g1 hn1
          go_wp2_with fail
          go_ret
          exact ⟨by rw [HR.out]; first | rfl | (simp; omega), B1.out⟩
end Go.Proofs.YtngnfglnfkhheaaGreat.Df
