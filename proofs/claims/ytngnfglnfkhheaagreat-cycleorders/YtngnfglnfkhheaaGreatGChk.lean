import Derived.Test.YtngnfglnfkhheaaGreatGQs2
import Derived.Test.YtngnfglnfkhheaaGreatGRef1
namespace Go.Proofs.YtngnfglnfkhheaaGreat.Df
open Go.RowKit Go.Sort
attribute [local go_sem ↓] Go.wp_at_zero Go.wp_at_succ

set_option maxHeartbeats 1000000 in
theorem rfits_any (p : Pth) (a : Int) (w : World) : Calls Tryz.prog 62 #[.agg #[.int .u64 (p.1 : Nat), .int .u64 (p.2.1 : Nat), .int .u64 (p.2.2 : Nat)], .int .i64 a] w fun r w' => r = .returned (.bool (decide (tfits p.1 p.2.1 p.2.2 a = 0))) ∧ Gr w w' := by
  have hf := fun W => refFits_any p.1 p.2.1 p.2.2 a W
  generalize tfits (p.1 : Nat) (p.2.1 : Nat) (p.2.2 : Nat) a = t at hf ⊢
  by_cases ht : t = 0
  · subst ht
    go_enter Tryz.func62, Tryz.ntmps62
    go_wp2_with fail
    refine (hf _).mono ?_
    rintro r w1 ⟨rfl, g1⟩
    have G1 := hid (((Gr.refl w).alloc (.cells #[.int .u64 (p.1 : Nat), .int .u64 (p.2.1 : Nat), .int .u64 (p.2.2 : Nat)] 43)).trans g1)
    clear g1
    go_wp2_with fail
    go_ret
    exact ⟨rfl, G1.out⟩
  · have hb : (t == 0) = false := by simp [ht]
    have hd : decide (t = 0) = false := by simp [ht]
    rw [hd]
    clear ht hd
    go_enter Tryz.func62, Tryz.ntmps62
    go_wp2_with fail
    refine (hf _).mono ?_
    rintro r w1 ⟨rfl, g1⟩
    have G1 := hid (((Gr.refl w).alloc (.cells #[.int .u64 (p.1 : Nat), .int .u64 (p.2.1 : Nat), .int .u64 (p.2.2 : Nat)] 43)).trans g1)
    clear g1
    go_wp2_with fail
    go_ret
    exact ⟨rfl, G1.out⟩
set_option maxHeartbeats 1000000 in
theorem rports1_any (i o : Int) (cq : Option Addr) (cm cc : Nat) (via : Pth) (bd : Nat) (dq : Option Addr) (dm dc : Nat) (st : Bool) (w : World) : Calls Tryz.prog 38 #[.agg (ncells 1 i o (.slice cq cm cc) via bd (.slice dq dm dc) st)] w fun r w' => r = .returned (.bool (pIn 1 i && pOut 1 o)) ∧ Below w.heap.size w w' := by
  by_cases h0 : i = 0
  · by_cases h1 : o = 1
    · have HR : Hid ((pIn 1 i && pOut 1 o) = true) := by show _ = _; simp [pIn, pOut]; omega
      go_enter Tryz.func38, Tryz.ntmps38
      go_wp2_with fail
      go_ret
      exact ⟨by rw [HR.out]; rfl, ((Gr.refl w).alloc _).below⟩
    · have h1b : (o == 1) = false := by simp [h1]
      have HR : Hid ((pIn 1 i && pOut 1 o) = false) := by show _ = _; simp [pIn, pOut]; omega
      go_enter Tryz.func38, Tryz.ntmps38
      go_wp2_with fail
      go_ret
      exact ⟨by rw [HR.out]; rfl, ((Gr.refl w).alloc _).below⟩
  · have h0b : (i == 0) = false := by simp [h0]
    have HR : Hid ((pIn 1 i && pOut 1 o) = false) := by show _ = _; simp [pIn, pOut]; omega
    go_enter Tryz.func38, Tryz.ntmps38
    go_wp2_with fail
    go_ret
    exact ⟨by rw [HR.out]; rfl, ((Gr.refl w).alloc _).below⟩
set_option maxHeartbeats 1000000 in
theorem rports2_any (i o : Int) (cq : Option Addr) (cm cc : Nat) (via : Pth) (bd : Nat) (dq : Option Addr) (dm dc : Nat) (st : Bool) (w : World) : Calls Tryz.prog 38 #[.agg (ncells 2 i o (.slice cq cm cc) via bd (.slice dq dm dc) st)] w fun r w' => r = .returned (.bool (pIn 2 i && pOut 2 o)) ∧ Below w.heap.size w w' := by
  by_cases h0 : i = 1
  · by_cases h1 : o = 1
    · have HR : Hid ((pIn 2 i && pOut 2 o) = true) := by show _ = _; simp [pIn, pOut]; omega
      go_enter Tryz.func38, Tryz.ntmps38
      go_wp2_with fail
      go_ret
      exact ⟨by rw [HR.out]; rfl, ((Gr.refl w).alloc _).below⟩
    · have h1b : (o == 1) = false := by simp [h1]
      have HR : Hid ((pIn 2 i && pOut 2 o) = false) := by show _ = _; simp [pIn, pOut]; omega
      go_enter Tryz.func38, Tryz.ntmps38
      go_wp2_with fail
      go_ret
      exact ⟨by rw [HR.out]; rfl, ((Gr.refl w).alloc _).below⟩
  · have h0b : (i == 1) = false := by simp [h0]
    have HR : Hid ((pIn 2 i && pOut 2 o) = false) := by show _ = _; simp [pIn, pOut]; omega
    go_enter Tryz.func38, Tryz.ntmps38
    go_wp2_with fail
    go_ret
    exact ⟨by rw [HR.out]; rfl, ((Gr.refl w).alloc _).below⟩
set_option maxHeartbeats 1000000 in
theorem rports3_any (i o : Int) (cq : Option Addr) (cm cc : Nat) (via : Pth) (bd : Nat) (dq : Option Addr) (dm dc : Nat) (st : Bool) (w : World) : Calls Tryz.prog 38 #[.agg (ncells 3 i o (.slice cq cm cc) via bd (.slice dq dm dc) st)] w fun r w' => r = .returned (.bool (pIn 3 i && pOut 3 o)) ∧ Below w.heap.size w w' := by
  by_cases h0 : i = 1
  · by_cases h1 : o = 1
    · have HR : Hid ((pIn 3 i && pOut 3 o) = true) := by show _ = _; simp [pIn, pOut]; omega
      go_enter Tryz.func38, Tryz.ntmps38
      go_wp2_with fail
      go_ret
      exact ⟨by rw [HR.out]; rfl, ((Gr.refl w).alloc _).below⟩
    · have h1b : (o == 1) = false := by simp [h1]
      have HR : Hid ((pIn 3 i && pOut 3 o) = false) := by show _ = _; simp [pIn, pOut]; omega
      go_enter Tryz.func38, Tryz.ntmps38
      go_wp2_with fail
      go_ret
      exact ⟨by rw [HR.out]; rfl, ((Gr.refl w).alloc _).below⟩
  · have h0b : (i == 1) = false := by simp [h0]
    have HR : Hid ((pIn 3 i && pOut 3 o) = false) := by show _ = _; simp [pIn, pOut]; omega
    go_enter Tryz.func38, Tryz.ntmps38
    go_wp2_with fail
    go_ret
    exact ⟨by rw [HR.out]; rfl, ((Gr.refl w).alloc _).below⟩
set_option maxHeartbeats 1000000 in
theorem rports4_any (i o : Int) (cq : Option Addr) (cm cc : Nat) (via : Pth) (bd : Nat) (dq : Option Addr) (dm dc : Nat) (st : Bool) (w : World) : Calls Tryz.prog 38 #[.agg (ncells 4 i o (.slice cq cm cc) via bd (.slice dq dm dc) st)] w fun r w' => r = .returned (.bool (pIn 4 i && pOut 4 o)) ∧ Below w.heap.size w w' := by
  by_cases h0 : 1 ≤ i
  · by_cases h1 : i ≤ 4
    · by_cases h2 : o = 1
      · have HR : Hid ((pIn 4 i && pOut 4 o) = true) := by show _ = _; simp [pIn, pOut]; omega
        go_enter Tryz.func38, Tryz.ntmps38
        go_wp2_with fail
        go_ret
        exact ⟨by rw [HR.out]; rfl, ((Gr.refl w).alloc _).below⟩
      · have h2b : (o == 1) = false := by simp [h2]
        have HR : Hid ((pIn 4 i && pOut 4 o) = false) := by show _ = _; simp [pIn, pOut]; omega
        go_enter Tryz.func38, Tryz.ntmps38
        go_wp2_with fail
        go_ret
        exact ⟨by rw [HR.out]; rfl, ((Gr.refl w).alloc _).below⟩
    · have HR : Hid ((pIn 4 i && pOut 4 o) = false) := by show _ = _; simp [pIn, pOut]; omega
      go_enter Tryz.func38, Tryz.ntmps38
      go_wp2_with fail
      go_ret
      exact ⟨by rw [HR.out]; rfl, ((Gr.refl w).alloc _).below⟩
  · have HR : Hid ((pIn 4 i && pOut 4 o) = false) := by show _ = _; simp [pIn, pOut]; omega
    go_enter Tryz.func38, Tryz.ntmps38
    go_wp2_with fail
    go_ret
    exact ⟨by rw [HR.out]; rfl, ((Gr.refl w).alloc _).below⟩
set_option maxHeartbeats 1000000 in
theorem rports5_any (i o : Int) (cq : Option Addr) (cm cc : Nat) (via : Pth) (bd : Nat) (dq : Option Addr) (dm dc : Nat) (st : Bool) (w : World) : Calls Tryz.prog 38 #[.agg (ncells 5 i o (.slice cq cm cc) via bd (.slice dq dm dc) st)] w fun r w' => r = .returned (.bool (pIn 5 i && pOut 5 o)) ∧ Below w.heap.size w w' := by
  by_cases h0 : i = 1
  · by_cases h1 : o = 1
    · have HR : Hid ((pIn 5 i && pOut 5 o) = true) := by show _ = _; simp [pIn, pOut]; omega
      go_enter Tryz.func38, Tryz.ntmps38
      go_wp2_with fail
      go_ret
      exact ⟨by rw [HR.out]; rfl, ((Gr.refl w).alloc _).below⟩
    · have h1b : (o == 1) = false := by simp [h1]
      have HR : Hid ((pIn 5 i && pOut 5 o) = false) := by show _ = _; simp [pIn, pOut]; omega
      go_enter Tryz.func38, Tryz.ntmps38
      go_wp2_with fail
      go_ret
      exact ⟨by rw [HR.out]; rfl, ((Gr.refl w).alloc _).below⟩
  · have h0b : (i == 1) = false := by simp [h0]
    have HR : Hid ((pIn 5 i && pOut 5 o) = false) := by show _ = _; simp [pIn, pOut]; omega
    go_enter Tryz.func38, Tryz.ntmps38
    go_wp2_with fail
    go_ret
    exact ⟨by rw [HR.out]; rfl, ((Gr.refl w).alloc _).below⟩
set_option maxHeartbeats 1000000 in
theorem rports6_any (i o : Int) (cq : Option Addr) (cm cc : Nat) (via : Pth) (bd : Nat) (dq : Option Addr) (dm dc : Nat) (st : Bool) (w : World) : Calls Tryz.prog 38 #[.agg (ncells 6 i o (.slice cq cm cc) via bd (.slice dq dm dc) st)] w fun r w' => r = .returned (.bool (pIn 6 i && pOut 6 o)) ∧ Below w.heap.size w w' := by
  by_cases h0 : i = 1
  · by_cases h1 : o = 1
    · have HR : Hid ((pIn 6 i && pOut 6 o) = true) := by show _ = _; simp [pIn, pOut]; omega
      go_enter Tryz.func38, Tryz.ntmps38
      go_wp2_with fail
      go_ret
      exact ⟨by rw [HR.out]; rfl, ((Gr.refl w).alloc _).below⟩
    · have h1b : (o == 1) = false := by simp [h1]
      have HR : Hid ((pIn 6 i && pOut 6 o) = false) := by show _ = _; simp [pIn, pOut]; omega
      go_enter Tryz.func38, Tryz.ntmps38
      go_wp2_with fail
      go_ret
      exact ⟨by rw [HR.out]; rfl, ((Gr.refl w).alloc _).below⟩
  · have h0b : (i == 1) = false := by simp [h0]
    have HR : Hid ((pIn 6 i && pOut 6 o) = false) := by show _ = _; simp [pIn, pOut]; omega
    go_enter Tryz.func38, Tryz.ntmps38
    go_wp2_with fail
    go_ret
    exact ⟨by rw [HR.out]; rfl, ((Gr.refl w).alloc _).below⟩
set_option maxHeartbeats 1000000 in
theorem rports7_any (i o : Int) (cq : Option Addr) (cm cc : Nat) (via : Pth) (bd : Nat) (dq : Option Addr) (dm dc : Nat) (st : Bool) (w : World) : Calls Tryz.prog 38 #[.agg (ncells 7 i o (.slice cq cm cc) via bd (.slice dq dm dc) st)] w fun r w' => r = .returned (.bool (pIn 7 i && pOut 7 o)) ∧ Below w.heap.size w w' := by
  by_cases h0 : i = 1
  · by_cases h1 : o = 0
    · have HR : Hid ((pIn 7 i && pOut 7 o) = true) := by show _ = _; simp [pIn, pOut]; omega
      go_enter Tryz.func38, Tryz.ntmps38
      go_wp2_with fail
      go_ret
      exact ⟨by rw [HR.out]; rfl, ((Gr.refl w).alloc _).below⟩
    · have h1b : (o == 0) = false := by simp [h1]
      have HR : Hid ((pIn 7 i && pOut 7 o) = false) := by show _ = _; simp [pIn, pOut]; omega
      go_enter Tryz.func38, Tryz.ntmps38
      go_wp2_with fail
      go_ret
      exact ⟨by rw [HR.out]; rfl, ((Gr.refl w).alloc _).below⟩
  · have h0b : (i == 1) = false := by simp [h0]
    have HR : Hid ((pIn 7 i && pOut 7 o) = false) := by show _ = _; simp [pIn, pOut]; omega
    go_enter Tryz.func38, Tryz.ntmps38
    go_wp2_with fail
    go_ret
    exact ⟨by rw [HR.out]; rfl, ((Gr.refl w).alloc _).below⟩
set_option maxHeartbeats 1000000 in
theorem rports8_any (i o : Int) (cq : Option Addr) (cm cc : Nat) (via : Pth) (bd : Nat) (dq : Option Addr) (dm dc : Nat) (st : Bool) (w : World) : Calls Tryz.prog 38 #[.agg (ncells 8 i o (.slice cq cm cc) via bd (.slice dq dm dc) st)] w fun r w' => r = .returned (.bool (pIn 8 i && pOut 8 o)) ∧ Below w.heap.size w w' := by
  by_cases h0 : 0 ≤ i
  · by_cases h1 : i ≤ 4
    · by_cases h2 : 0 ≤ o
      · by_cases h3 : o ≤ 4
        · have HR : Hid ((pIn 8 i && pOut 8 o) = true) := by show _ = _; simp [pIn, pOut]; omega
          go_enter Tryz.func38, Tryz.ntmps38
          go_wp2_with fail
          go_ret
          exact ⟨by rw [HR.out]; rfl, ((Gr.refl w).alloc _).below⟩
        · have HR : Hid ((pIn 8 i && pOut 8 o) = false) := by show _ = _; simp [pIn, pOut]; omega
          go_enter Tryz.func38, Tryz.ntmps38
          go_wp2_with fail
          go_ret
          exact ⟨by rw [HR.out]; rfl, ((Gr.refl w).alloc _).below⟩
      · have HR : Hid ((pIn 8 i && pOut 8 o) = false) := by show _ = _; simp [pIn, pOut]; omega
        go_enter Tryz.func38, Tryz.ntmps38
        go_wp2_with fail
        go_ret
        exact ⟨by rw [HR.out]; rfl, ((Gr.refl w).alloc _).below⟩
    · have HR : Hid ((pIn 8 i && pOut 8 o) = false) := by show _ = _; simp [pIn, pOut]; omega
      go_enter Tryz.func38, Tryz.ntmps38
      go_wp2_with fail
      go_ret
      exact ⟨by rw [HR.out]; rfl, ((Gr.refl w).alloc _).below⟩
  · have HR : Hid ((pIn 8 i && pOut 8 o) = false) := by show _ = _; simp [pIn, pOut]; omega
    go_enter Tryz.func38, Tryz.ntmps38
    go_wp2_with fail
    go_ret
    exact ⟨by rw [HR.out]; rfl, ((Gr.refl w).alloc _).below⟩
end Go.Proofs.YtngnfglnfkhheaaGreat.Df
