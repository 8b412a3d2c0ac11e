import Derived.Test.YtinggeflllgdmaaSoRef
import Derived.Test.YtinggeflllgdmaaSoOp
namespace Go.Proofs.Ytinggeflllgdmaa
open Go.RowKit Go.Sort
attribute [local go_sem ↓] Go.wp_at_zero Go.wp_at_succ
/-- Both inputs, alike. -/
def Ok1 (w : World) (sb rb : Nat) (n : Int) (s : Option T3) : Prop := So w sb n s ∧ Ro w rb n s ∧ sb ≠ rb
abbrev pcs (sb rb : Nat) : Array Value := #[.pointer (some ⟨sb, 0, none⟩), .pointer (some ⟨rb, 0, none⟩)]
abbrev ocs (x : Opx) : Array Value := #[.int .i64 x.kd, .int .i64 x.on, .int .u64 x.t.1, .int .u64 x.t.2.1, .int .u64 x.t.2.2]
/-- The two boxes of step, and both inputs. -/
structure Sf (w W : World) (b2 b3 sb rb : Nat) (x : Opx) (n : Int) (s : Option T3) : Prop where
  x2 : W.heap[b2]? = some (.cells (pcs sb rb) 41 (0, 0))
  x3 : W.heap[b3]? = some (.cells (ocs x) 44 (0, 0))
  so : So W sb n s
  ro : Ro W rb n s
  ne : sb ≠ rb
  n2 : b2 ≠ sb ∧ b2 ≠ rb
  n3 : b3 ≠ sb ∧ b3 ≠ rb
  kp : Kp (fun k => k = sb ∨ k = rb) w W
section
variable {w W W' : World} {b2 b3 sb rb : Nat} {x : Opx} {n : Int} {s s' : Option T3}
theorem Sf.below (h : Sf w W b2 b3 sb rb x n s) (g : Below W.heap.size W W') : Sf w W' b2 b3 sb rb x n s :=
  ⟨(g.block _ (tk_lt h.x2)).trans h.x2, (g.block _ (tk_lt h.x3)).trans h.x3, h.so.below g, h.ro.below g, h.ne, h.n2, h.n3, h.kp.trans (Kp.of_below (S := fun _ => False) g) (fun _ _ h => h.elim)⟩
theorem Sf.cells (h : Sf w W b2 b3 sb rb x n s) : W.cell? ⟨b2, 0, none⟩ = some (.pointer (some ⟨sb, 0, none⟩)) ∧ W.cell? ⟨b2, 1, none⟩ = some (.pointer (some ⟨rb, 0, none⟩)) ∧ W.cell? ⟨b3, 0, none⟩ = some (.int .i64 x.kd) ∧ W.cell? ⟨b3, 2, none⟩ = some (.int .u64 x.t.1) ∧ W.cell? ⟨b3, 3, none⟩ = some (.int .u64 x.t.2.1) ∧ W.cell? ⟨b3, 4, none⟩ = some (.int .u64 x.t.2.2) ∧ b2 < W.heap.size ∧ b3 < W.heap.size :=
  ⟨((tk_store h.x2).1 0).trans rfl, ((tk_store h.x2).1 1).trans rfl, ((tk_store h.x3).1 0).trans rfl, ((tk_store h.x3).1 2).trans rfl, ((tk_store h.x3).1 3).trans rfl, ((tk_store h.x3).1 4).trans rfl, tk_lt h.x2, tk_lt h.x3⟩
/-- The boxes alone. -/
def Bx (W : World) (b2 b3 sb rb : Nat) (x : Opx) : Prop := W.heap[b2]? = some (.cells (pcs sb rb) 41 (0, 0)) ∧ W.heap[b3]? = some (.cells (ocs x) 44 (0, 0))
theorem Bx.cells (h : Bx W b2 b3 sb rb x) : W.cell? ⟨b2, 0, none⟩ = some (.pointer (some ⟨sb, 0, none⟩)) ∧ W.cell? ⟨b2, 1, none⟩ = some (.pointer (some ⟨rb, 0, none⟩)) ∧ W.cell? ⟨b3, 0, none⟩ = some (.int .i64 x.kd) ∧ W.cell? ⟨b3, 2, none⟩ = some (.int .u64 x.t.1) ∧ W.cell? ⟨b3, 3, none⟩ = some (.int .u64 x.t.2.1) ∧ W.cell? ⟨b3, 4, none⟩ = some (.int .u64 x.t.2.2) ∧ b2 < W.heap.size ∧ b3 < W.heap.size :=
  ⟨((tk_store h.1).1 0).trans rfl, ((tk_store h.1).1 1).trans rfl, ((tk_store h.2).1 0).trans rfl, ((tk_store h.2).1 2).trans rfl, ((tk_store h.2).1 3).trans rfl, ((tk_store h.2).1 4).trans rfl, tk_lt h.1, tk_lt h.2⟩
theorem Bx.kp {S : Nat → Prop} (h : Bx W b2 b3 sb rb x) (hk : Kp S W W') (h2 : ¬ S b2) (h3 : ¬ S b3) : Bx W' b2 b3 sb rb x := ⟨(hk.block _ (tk_lt h.1) h2).trans h.1, (hk.block _ (tk_lt h.2) h3).trans h.2⟩
theorem Sf.bx (h : Sf w W b2 b3 sb rb x n s) : Bx W b2 b3 sb rb x := ⟨h.x2, h.x3⟩
/-- Both have turned, one behind the other. -/
theorem Sf.turn {W2 : World} (h : Sf w W b2 b3 sb rb x n s) (h1 : So W2 sb n s') (k1 : Kp (fun k => k = sb) W W2) (h2 : Ro W' rb n s') (k2 : Kp (fun k => k = rb) W2 W') : Sf w W' b2 b3 sb rb x n s' :=
  ⟨(k2.block _ (Nat.lt_of_lt_of_le (tk_lt h.x2) k1.size) h.n2.2).trans ((k1.block _ (tk_lt h.x2) h.n2.1).trans h.x2), (k2.block _ (Nat.lt_of_lt_of_le (tk_lt h.x3) k1.size) h.n3.2).trans ((k1.block _ (tk_lt h.x3) h.n3.1).trans h.x3), h1.kp k2 h.ne, h2, h.ne, h.n2, h.n3,
    (h.kp.trans k1 (fun _ _ e => .inl e)).trans k2 (fun _ _ e => .inr e)⟩
end
/-- What a step leaves. -/
def Stp (w w' : World) (sb rb : Nat) (n : Int) : Prop := ∃ s', Ok1 w' sb rb n s' ∧ Kp (fun k => k = sb ∨ k = rb) w w'
theorem Sf.stp {w W : World} {b2 b3 sb rb : Nat} {x : Opx} {n : Int} {s : Option T3} (h : Sf w W b2 b3 sb rb x n s) : Stp w W sb rb n := ⟨s, ⟨h.so, h.ro, h.ne⟩, h.kp⟩
theorem teq_same (t : T3) : teq t.1 t.2.1 t.2.2 t.1 t.2.1 t.2.2 = true := by simp [teq]
set_option maxHeartbeats 16000000 in
set_option maxRecDepth 100000 in
theorem step_any {sb rb : Nat} {n : Int} {s : Option T3} (x : Opx) (w : World) (h : Ok1 w sb rb n s) : Calls Try.prog 14 #[.agg (pcs sb rb), .agg (ocs x)] w fun e w' => e = .returned (.bool true) ∧ Hid (Stp w w' sb rb n) := by
  have hmx : Try.prog.follows .mixedOrders = true := by kernel_rfl
  obtain ⟨W1, hW1⟩ : ∃ W1, W1 = (w.alloc (.cells (pcs sb rb) 41)).alloc (.cells (ocs x) 44) := ⟨_, rfl⟩
  obtain ⟨b2, hb2⟩ : ∃ b2, b2 = w.heap.size := ⟨_, rfl⟩
  obtain ⟨b3, hb3⟩ : ∃ b3, b3 = b2 + 1 := ⟨_, rfl⟩
  have HF : Hid (Sf w W1 b2 b3 sb rb x n s) := by
    have g : Gr w W1 := by rw [hW1]; exact ((Gr.refl _).alloc _).alloc _
    have q1 : W1.heap[b2]? = some (.cells (pcs sb rb) 41 (0, 0)) := by
      rw [hW1, hb2]
      exact (((Gr.refl _).alloc _).below.block _ (by simp)).trans (heap_new' _ _)
    have q2 : W1.heap[b3]? = some (.cells (ocs x) 44 (0, 0)) := by
      have h := heap_new' (w.alloc (.cells (pcs sb rb) 41)) (.cells (ocs x) 44)
      rw [show (w.alloc (.cells (pcs sb rb) 41)).heap.size = b3 by rw [hb3, hb2]; simp] at h
      rw [hW1]; exact h
    have l1 := tk_lt h.1
    have l2 := h.2.1.lt
    exact ⟨q1, q2, h.1.below g.below, h.2.1.below g.below, h.2.2, ⟨by omega, by omega⟩, ⟨by omega, by omega⟩, Kp.of_gr g⟩
  have heqT := fun (a b c : Int) W => run_eqT a b c a b c W
  simp only [show ∀ a b c : Int, teq a b c a b c = true from fun a b c => teq_same (a, b, c)] at heqT
  obtain ⟨u0, u1, u2, u3, u4, u5, l2, l3⟩ := HF.out.cells
  clear h
  simp only [pcs, ocs] at hW1
  go_enter Try.func14, Try.ntmps14
  go_upto_region 1 with fail
  rw [← hb2, ← hb3, ← hW1]
  clear hW1 hb2 hb3
  by_cases k1 : x.kd = 1
  · have hS0 : (fun W : World => Bx W b2 b3 sb rb x) W1.drew := HF.out.bx
    have q1 : ((x.kd : Int) == 1) = true := by rw [k1]; rfl
    have q2 : ((x.kd : Int) == 2) = false := by rw [k1]; rfl
    have q3 : ((x.kd : Int) == 3) = false := by rw [k1]; rfl
    have q4 : ((x.kd : Int) == 4) = false := by rw [k1]; rfl
    have p3 : ((x.kd : Int) != 3) = true := by rw [k1]; rfl
    have p4 : ((x.kd : Int) != 4) = true := by rw [k1]; rfl
    have hk4 : Hid (x.kd = 1) := k1
    clear k1
    go_upto_region 3 with fail
    refine wp_regionD (S := fun W : World => Bx W b2 b3 sb rb x) (D := []) hmx ?_
    refine' wpAnyD_take (i := 0) (oi := { dst := some 13, op := Go.Op.fieldAddr 41 (Go.Operand.tmp 2) 0, type := 0, pos := "law.go:54", after := #[], guard := none }) (v := _) rfl (by kernel_rfl) (by kernel_rfl) (by kernel_rfl) (fun _ _ _ h => h) (by kernel_rfl) (Or.inl ⟨by rfl, ?hy1⟩) hS0 ?rest1
    case hy1 => (intro W hSw; go_simp; try (with_reducible rfl))
    try simp only [Act.put, List.setIfInBounds_toArray, List.set_cons_zero, List.set_cons_succ]
    refine' wpAnyD_take (i := 1) (oi := { dst := some 14, op := Go.Op.load 23 (Go.Operand.tmp 13), type := 23, pos := "law.go:54", after := #[{ on := 0, ground := Go.Ground.data }], guard := none }) (v := _) rfl (by kernel_rfl) (by kernel_rfl) (by kernel_rfl) (fun _ _ _ h => h) (by kernel_rfl) (Or.inl ⟨by rfl, ?hy2⟩) hS0 ?rest2
    case hy2 => (intro W hSw; obtain ⟨u0, u1, u2, u3, u4, u5, l2, l3⟩ := Bx.cells hSw; go_simp; try (with_reducible rfl))
    try simp only [Act.put, List.setIfInBounds_toArray, List.set_cons_zero, List.set_cons_succ]
    refine' wpAnyD_take (i := 2) (oi := { dst := some 15, op := Go.Op.fieldAddr 44 (Go.Operand.tmp 3) 2, type := 0, pos := "law.go:54", after := #[], guard := none }) (v := _) rfl (by kernel_rfl) (by kernel_rfl) (by kernel_rfl) (fun _ _ _ h => h) (by kernel_rfl) (Or.inl ⟨by rfl, ?hy3⟩) hS0 ?rest3
    case hy3 => (intro W hSw; go_simp; try (with_reducible rfl))
    try simp only [Act.put, List.setIfInBounds_toArray, List.set_cons_zero, List.set_cons_succ]
    refine' wpAnyD_take (i := 3) (oi := { dst := some 16, op := Go.Op.load 30 (Go.Operand.tmp 15), type := 30, pos := "law.go:54", after := #[{ on := 2, ground := Go.Ground.data }], guard := none }) (v := _) rfl (by kernel_rfl) (by kernel_rfl) (by kernel_rfl) (fun _ _ _ h => h) (by kernel_rfl) (Or.inl ⟨by rfl, ?hy4⟩) hS0 ?rest4
    case hy4 => (intro W hSw; obtain ⟨u0, u1, u2, u3, u4, u5, l2, l3⟩ := Bx.cells hSw; go_simp; try (with_reducible rfl))
    try simp only [Act.put, List.setIfInBounds_toArray, List.set_cons_zero, List.set_cons_succ]
    refine' wpAnyD_take (i := 5) (oi := { dst := some 18, op := Go.Op.fieldAddr 41 (Go.Operand.tmp 2) 1, type := 0, pos := "law.go:54", after := #[], guard := none }) (v := _) rfl (by kernel_rfl) (by kernel_rfl) (by kernel_rfl) (fun _ _ _ h => h) (by kernel_rfl) (Or.inl ⟨by rfl, ?hy5⟩) hS0 ?rest5
    case hy5 => (intro W hSw; go_simp; try (with_reducible rfl))
    try simp only [Act.put, List.setIfInBounds_toArray, List.set_cons_zero, List.set_cons_succ]
    refine' wpAnyD_take (i := 6) (oi := { dst := some 19, op := Go.Op.load 37 (Go.Operand.tmp 18), type := 37, pos := "law.go:54", after := #[{ on := 5, ground := Go.Ground.data }], guard := none }) (v := _) rfl (by kernel_rfl) (by kernel_rfl) (by kernel_rfl) (fun _ _ _ h => h) (by kernel_rfl) (Or.inl ⟨by rfl, ?hy6⟩) hS0 ?rest6
    case hy6 => (intro W hSw; obtain ⟨u0, u1, u2, u3, u4, u5, l2, l3⟩ := Bx.cells hSw; go_simp; try (with_reducible rfl))
    try simp only [Act.put, List.setIfInBounds_toArray, List.set_cons_zero, List.set_cons_succ]
    refine' wpAnyD_take (i := 7) (oi := { dst := some 20, op := Go.Op.fieldAddr 44 (Go.Operand.tmp 3) 2, type := 0, pos := "law.go:54", after := #[], guard := none }) (v := _) rfl (by kernel_rfl) (by kernel_rfl) (by kernel_rfl) (fun _ _ _ h => h) (by kernel_rfl) (Or.inl ⟨by rfl, ?hy7⟩) hS0 ?rest7
    case hy7 => (intro W hSw; go_simp; try (with_reducible rfl))
    try simp only [Act.put, List.setIfInBounds_toArray, List.set_cons_zero, List.set_cons_succ]
    refine' wpAnyD_take (i := 8) (oi := { dst := some 21, op := Go.Op.load 30 (Go.Operand.tmp 20), type := 30, pos := "law.go:54", after := #[{ on := 7, ground := Go.Ground.data }], guard := none }) (v := _) rfl (by kernel_rfl) (by kernel_rfl) (by kernel_rfl) (fun _ _ _ h => h) (by kernel_rfl) (Or.inl ⟨by rfl, ?hy8⟩) hS0 ?rest8
    case hy8 => (intro W hSw; obtain ⟨u0, u1, u2, u3, u4, u5, l2, l3⟩ := Bx.cells hSw; go_simp; try (with_reducible rfl))
    try simp only [Act.put, List.setIfInBounds_toArray, List.set_cons_zero, List.set_cons_succ]
    refine wpAnyD_one (i := 4) (o := { dst := some 17, op := Go.Op.call { callee := Go.Callee.value (Go.Operand.func 8), args := #[Go.Operand.tmp 14, Go.Operand.tmp 16], argTypes := #[23, 30] }, type := 24, pos := "law.go:54", after := #[{ on := 1, ground := Go.Ground.data }, { on := 3, ground := Go.Ground.data }], guard := none }) (by kernel_rfl) rfl (fun K hK => ?_)
    go_simp
    refine (send_any x.t W1.drew (HF.out.so.below (Gr.refl W1).drew.below)).mono ?_
    rintro e w4 ⟨rfl, g4⟩
    have hS4 : (fun W : World => Bx W b2 b3 sb rb x) w4 := Bx.kp hS0 (Kp.of_gr (S := fun _ => False) g4) id id
    have HG4 := hid (HF.out.below ((Gr.refl W1).drew.trans g4).below)
    clear g4
    go_wp2_with fail
    refine hK.out _ _ (fun hD => hS4) ?_
    clear hK K
    try simp only [Act.put, List.setIfInBounds_toArray, List.set_cons_zero, List.set_cons_succ]
    refine wpAnyD_one (i := 9) (o := { dst := some 22, op := Go.Op.call { callee := Go.Callee.value (Go.Operand.func 17), args := #[Go.Operand.tmp 19, Go.Operand.tmp 21], argTypes := #[37, 30] }, type := 3, pos := "law.go:54", after := #[{ on := 6, ground := Go.Ground.data }, { on := 8, ground := Go.Ground.data }, { on := 4, ground := Go.Ground.chain }], guard := none }) (by kernel_rfl) rfl (fun K hK => ?_)
    go_simp
    refine (rsend_any x.t w4 HG4.out.ro).mono ?_
    rintro e w5 ⟨rfl, g5⟩
    have hS5 : (fun W : World => Bx W b2 b3 sb rb x) w5 := Bx.kp hS4 (Kp.of_gr (S := fun _ => False) g5) id id
    have HK5 := hid (HG4.out.below g5.below)
    clear g5
    go_wp2_with fail
    refine hK.out _ _ (fun hD => hS5) ?_
    clear hK K
    try simp only [Act.put, List.setIfInBounds_toArray, List.set_cons_zero, List.set_cons_succ]
    refine' wpAnyD_take (i := 10) (oi := { dst := some 23, op := Go.Op.binOp Go.BinOp.neq 3 (Go.Operand.tmp 17) (Go.Operand.tmp 22) 3, type := 4, pos := "law.go:54", after := #[{ on := 4, ground := Go.Ground.data }, { on := 9, ground := Go.Ground.data }], guard := none }) (v := _) rfl (by kernel_rfl) (by kernel_rfl) (by kernel_rfl) (fun _ _ _ h => h) (by kernel_rfl) (Or.inl ⟨by rfl, ?hy11⟩) hS5 ?rest11
    case hy11 => (intro W hSw; go_simp; try (with_reducible rfl))
    try simp only [Act.put, List.setIfInBounds_toArray, List.set_cons_zero, List.set_cons_succ]
    refine wpAnyD_done (by kernel_rfl) ?_ _
    clear hS4 hS5 hS0 HF u0 u1 u2 u3 u4 u5 l2 l3 HG4
    generalize snd n s x.t = r
    obtain ⟨u0, u1, u2, u3, u4, u5, l2, l3⟩ := HK5.out.cells
    go_wp2_with fail
    go_ret
    exact ⟨rfl, HK5.out.stp⟩
  · have q1 : ((x.kd : Int) == 1) = false := beq_eq_false_iff_ne.2 k1
    by_cases k2 : x.kd = 2
    · have hS0 : (fun W : World => Bx W b2 b3 sb rb x) W1.drew := HF.out.bx
      have q1 : ((x.kd : Int) == 1) = false := by rw [k2]; rfl
      have q2 : ((x.kd : Int) == 2) = true := by rw [k2]; rfl
      have q3 : ((x.kd : Int) == 3) = false := by rw [k2]; rfl
      have q4 : ((x.kd : Int) == 4) = false := by rw [k2]; rfl
      have p3 : ((x.kd : Int) != 3) = true := by rw [k2]; rfl
      have p4 : ((x.kd : Int) != 4) = true := by rw [k2]; rfl
      have hk4 : Hid (x.kd = 2) := k2
      clear k1 k2
      go_upto_region 6 with fail
      refine wp_regionD (S := fun W : World => Bx W b2 b3 sb rb x) (D := []) hmx ?_
      refine' wpAnyD_take (i := 0) (oi := { dst := some 26, op := Go.Op.fieldAddr 41 (Go.Operand.tmp 2) 0, type := 0, pos := "law.go:58", after := #[], guard := none }) (v := _) rfl (by kernel_rfl) (by kernel_rfl) (by kernel_rfl) (fun _ _ _ h => h) (by kernel_rfl) (Or.inl ⟨by rfl, ?hy12⟩) hS0 ?rest12
      case hy12 => (intro W hSw; go_simp; try (with_reducible rfl))
      try simp only [Act.put, List.setIfInBounds_toArray, List.set_cons_zero, List.set_cons_succ]
      refine' wpAnyD_take (i := 1) (oi := { dst := some 27, op := Go.Op.load 23 (Go.Operand.tmp 26), type := 23, pos := "law.go:58", after := #[{ on := 0, ground := Go.Ground.data }], guard := none }) (v := _) rfl (by kernel_rfl) (by kernel_rfl) (by kernel_rfl) (fun _ _ _ h => h) (by kernel_rfl) (Or.inl ⟨by rfl, ?hy13⟩) hS0 ?rest13
      case hy13 => (intro W hSw; obtain ⟨u0, u1, u2, u3, u4, u5, l2, l3⟩ := Bx.cells hSw; go_simp; try (with_reducible rfl))
      try simp only [Act.put, List.setIfInBounds_toArray, List.set_cons_zero, List.set_cons_succ]
      refine' wpAnyD_take (i := 2) (oi := { dst := some 28, op := Go.Op.fieldAddr 44 (Go.Operand.tmp 3) 2, type := 0, pos := "law.go:58", after := #[], guard := none }) (v := _) rfl (by kernel_rfl) (by kernel_rfl) (by kernel_rfl) (fun _ _ _ h => h) (by kernel_rfl) (Or.inl ⟨by rfl, ?hy14⟩) hS0 ?rest14
      case hy14 => (intro W hSw; go_simp; try (with_reducible rfl))
      try simp only [Act.put, List.setIfInBounds_toArray, List.set_cons_zero, List.set_cons_succ]
      refine' wpAnyD_take (i := 3) (oi := { dst := some 29, op := Go.Op.load 30 (Go.Operand.tmp 28), type := 30, pos := "law.go:58", after := #[{ on := 2, ground := Go.Ground.data }], guard := none }) (v := _) rfl (by kernel_rfl) (by kernel_rfl) (by kernel_rfl) (fun _ _ _ h => h) (by kernel_rfl) (Or.inl ⟨by rfl, ?hy15⟩) hS0 ?rest15
      case hy15 => (intro W hSw; obtain ⟨u0, u1, u2, u3, u4, u5, l2, l3⟩ := Bx.cells hSw; go_simp; try (with_reducible rfl))
      try simp only [Act.put, List.setIfInBounds_toArray, List.set_cons_zero, List.set_cons_succ]
      refine' wpAnyD_take (i := 5) (oi := { dst := some 31, op := Go.Op.fieldAddr 41 (Go.Operand.tmp 2) 1, type := 0, pos := "law.go:58", after := #[], guard := none }) (v := _) rfl (by kernel_rfl) (by kernel_rfl) (by kernel_rfl) (fun _ _ _ h => h) (by kernel_rfl) (Or.inl ⟨by rfl, ?hy16⟩) hS0 ?rest16
      case hy16 => (intro W hSw; go_simp; try (with_reducible rfl))
      try simp only [Act.put, List.setIfInBounds_toArray, List.set_cons_zero, List.set_cons_succ]
      refine' wpAnyD_take (i := 6) (oi := { dst := some 32, op := Go.Op.load 37 (Go.Operand.tmp 31), type := 37, pos := "law.go:58", after := #[{ on := 5, ground := Go.Ground.data }], guard := none }) (v := _) rfl (by kernel_rfl) (by kernel_rfl) (by kernel_rfl) (fun _ _ _ h => h) (by kernel_rfl) (Or.inl ⟨by rfl, ?hy17⟩) hS0 ?rest17
      case hy17 => (intro W hSw; obtain ⟨u0, u1, u2, u3, u4, u5, l2, l3⟩ := Bx.cells hSw; go_simp; try (with_reducible rfl))
      try simp only [Act.put, List.setIfInBounds_toArray, List.set_cons_zero, List.set_cons_succ]
      refine' wpAnyD_take (i := 7) (oi := { dst := some 33, op := Go.Op.fieldAddr 44 (Go.Operand.tmp 3) 2, type := 0, pos := "law.go:58", after := #[], guard := none }) (v := _) rfl (by kernel_rfl) (by kernel_rfl) (by kernel_rfl) (fun _ _ _ h => h) (by kernel_rfl) (Or.inl ⟨by rfl, ?hy18⟩) hS0 ?rest18
      case hy18 => (intro W hSw; go_simp; try (with_reducible rfl))
      try simp only [Act.put, List.setIfInBounds_toArray, List.set_cons_zero, List.set_cons_succ]
      refine' wpAnyD_take (i := 8) (oi := { dst := some 34, op := Go.Op.load 30 (Go.Operand.tmp 33), type := 30, pos := "law.go:58", after := #[{ on := 7, ground := Go.Ground.data }], guard := none }) (v := _) rfl (by kernel_rfl) (by kernel_rfl) (by kernel_rfl) (fun _ _ _ h => h) (by kernel_rfl) (Or.inl ⟨by rfl, ?hy19⟩) hS0 ?rest19
      case hy19 => (intro W hSw; obtain ⟨u0, u1, u2, u3, u4, u5, l2, l3⟩ := Bx.cells hSw; go_simp; try (with_reducible rfl))
      try simp only [Act.put, List.setIfInBounds_toArray, List.set_cons_zero, List.set_cons_succ]
      refine wpAnyD_one (i := 4) (o := { dst := some 30, op := Go.Op.call { callee := Go.Callee.value (Go.Operand.func 9), args := #[Go.Operand.tmp 27, Go.Operand.tmp 29], argTypes := #[23, 30] }, type := 24, pos := "law.go:58", after := #[{ on := 1, ground := Go.Ground.data }, { on := 3, ground := Go.Ground.data }], guard := none }) (by kernel_rfl) rfl (fun K hK => ?_)
      go_simp
      have HF2 := hid (HF.out.below (Gr.refl W1).drew.below)
      refine (advance_any x.t W1.drew HF2.out.so).mono ?_
      rintro e w4 ⟨rfl, h4⟩
      have hS4 : (fun W : World => Bx W b2 b3 sb rb x) w4 := Bx.kp hS0 h4.out.2 HF2.out.n2.1 HF2.out.n3.1
      go_wp2_with fail
      refine hK.out _ _ (fun hD => hS4) ?_
      clear hK K
      try simp only [Act.put, List.setIfInBounds_toArray, List.set_cons_zero, List.set_cons_succ]
      refine wpAnyD_one (i := 9) (o := { dst := some 35, op := Go.Op.call { callee := Go.Callee.value (Go.Operand.func 18), args := #[Go.Operand.tmp 32, Go.Operand.tmp 34], argTypes := #[37, 30] }, type := 3, pos := "law.go:58", after := #[{ on := 6, ground := Go.Ground.data }, { on := 8, ground := Go.Ground.data }, { on := 4, ground := Go.Ground.chain }], guard := none }) (by kernel_rfl) rfl (fun K hK => ?_)
      go_simp
      refine (radvance_any x.t w4 (HF2.out.ro.kp h4.out.2 (fun e => HF2.out.ne e.symm))).mono ?_
      rintro e w5 ⟨rfl, h5⟩
      have hS5 : (fun W : World => Bx W b2 b3 sb rb x) w5 := Bx.kp hS4 h5.out.2 HF2.out.n2.2 HF2.out.n3.2
      have HK5 := hid (HF2.out.turn h4.out.1 h4.out.2 h5.out.1 h5.out.2)
      clear h4 h5
      go_wp2_with fail
      refine hK.out _ _ (fun hD => hS5) ?_
      clear hK K
      try simp only [Act.put, List.setIfInBounds_toArray, List.set_cons_zero, List.set_cons_succ]
      refine' wpAnyD_take (i := 10) (oi := { dst := some 36, op := Go.Op.binOp Go.BinOp.neq 3 (Go.Operand.tmp 30) (Go.Operand.tmp 35) 3, type := 4, pos := "law.go:58", after := #[{ on := 4, ground := Go.Ground.data }, { on := 9, ground := Go.Ground.data }], guard := none }) (v := _) rfl (by kernel_rfl) (by kernel_rfl) (by kernel_rfl) (fun _ _ _ h => h) (by kernel_rfl) (Or.inl ⟨by rfl, ?hy22⟩) hS5 ?rest22
      case hy22 => (intro W hSw; go_simp; try (with_reducible rfl))
      try simp only [Act.put, List.setIfInBounds_toArray, List.set_cons_zero, List.set_cons_succ]
      refine wpAnyD_done (by kernel_rfl) ?_ _
      clear hS4 hS5 hS0 HF u0 u1 u2 u3 u4 u5 l2 l3 HF2
      generalize snd n s x.t = r
      obtain ⟨u0, u1, u2, u3, u4, u5, l2, l3⟩ := HK5.out.cells
      go_wp2_with fail
      go_ret
      exact ⟨rfl, HK5.out.stp⟩
    · have q2 : ((x.kd : Int) == 2) = false := beq_eq_false_iff_ne.2 k2
      by_cases k3 : x.kd = 3
      · have hS0 : (fun W : World => Bx W b2 b3 sb rb x) W1.drew := HF.out.bx
        have q1 : ((x.kd : Int) == 1) = false := by rw [k3]; rfl
        have q2 : ((x.kd : Int) == 2) = false := by rw [k3]; rfl
        have q3 : ((x.kd : Int) == 3) = true := by rw [k3]; rfl
        have q4 : ((x.kd : Int) == 4) = false := by rw [k3]; rfl
        have p3 : ((x.kd : Int) != 3) = false := by rw [k3]; rfl
        have p4 : ((x.kd : Int) != 4) = true := by rw [k3]; rfl
        have hk4 : Hid (x.kd = 3) := k3
        clear k1 k2 k3
        go_upto_region 9 with fail
        refine wp_regionD (S := fun W : World => Bx W b2 b3 sb rb x) (D := []) hmx ?_
        refine' wpAnyD_take (i := 0) (oi := { dst := some 39, op := Go.Op.fieldAddr 41 (Go.Operand.tmp 2) 0, type := 0, pos := "law.go:62", after := #[], guard := none }) (v := _) rfl (by kernel_rfl) (by kernel_rfl) (by kernel_rfl) (fun _ _ _ h => h) (by kernel_rfl) (Or.inl ⟨by rfl, ?hy23⟩) hS0 ?rest23
        case hy23 => (intro W hSw; go_simp; try (with_reducible rfl))
        try simp only [Act.put, List.setIfInBounds_toArray, List.set_cons_zero, List.set_cons_succ]
        refine' wpAnyD_take (i := 1) (oi := { dst := some 40, op := Go.Op.load 23 (Go.Operand.tmp 39), type := 23, pos := "law.go:62", after := #[{ on := 0, ground := Go.Ground.data }], guard := none }) (v := _) rfl (by kernel_rfl) (by kernel_rfl) (by kernel_rfl) (fun _ _ _ h => h) (by kernel_rfl) (Or.inl ⟨by rfl, ?hy24⟩) hS0 ?rest24
        case hy24 => (intro W hSw; obtain ⟨u0, u1, u2, u3, u4, u5, l2, l3⟩ := Bx.cells hSw; go_simp; try (with_reducible rfl))
        try simp only [Act.put, List.setIfInBounds_toArray, List.set_cons_zero, List.set_cons_succ]
        refine' wpAnyD_take (i := 3) (oi := { dst := some 42, op := Go.Op.fieldAddr 41 (Go.Operand.tmp 2) 1, type := 0, pos := "law.go:62", after := #[], guard := none }) (v := _) rfl (by kernel_rfl) (by kernel_rfl) (by kernel_rfl) (fun _ _ _ h => h) (by kernel_rfl) (Or.inl ⟨by rfl, ?hy25⟩) hS0 ?rest25
        case hy25 => (intro W hSw; go_simp; try (with_reducible rfl))
        try simp only [Act.put, List.setIfInBounds_toArray, List.set_cons_zero, List.set_cons_succ]
        refine' wpAnyD_take (i := 4) (oi := { dst := some 43, op := Go.Op.load 37 (Go.Operand.tmp 42), type := 37, pos := "law.go:62", after := #[{ on := 3, ground := Go.Ground.data }], guard := none }) (v := _) rfl (by kernel_rfl) (by kernel_rfl) (by kernel_rfl) (fun _ _ _ h => h) (by kernel_rfl) (Or.inl ⟨by rfl, ?hy26⟩) hS0 ?rest26
        case hy26 => (intro W hSw; obtain ⟨u0, u1, u2, u3, u4, u5, l2, l3⟩ := Bx.cells hSw; go_simp; try (with_reducible rfl))
        try simp only [Act.put, List.setIfInBounds_toArray, List.set_cons_zero, List.set_cons_succ]
        refine wpAnyD_one (i := 2) (o := { dst := some 41, op := Go.Op.call { callee := Go.Callee.value (Go.Operand.func 10), args := #[Go.Operand.tmp 40], argTypes := #[23] }, type := 24, pos := "law.go:62", after := #[{ on := 1, ground := Go.Ground.data }], guard := none }) (by kernel_rfl) rfl (fun K hK => ?_)
        go_simp
        have HF2 := hid (HF.out.below (Gr.refl W1).drew.below)
        refine (close_any W1.drew HF2.out.so).mono ?_
        rintro e w4 ⟨rfl, h4⟩
        have hS4 : (fun W : World => Bx W b2 b3 sb rb x) w4 := Bx.kp hS0 h4.out.2 HF2.out.n2.1 HF2.out.n3.1
        go_wp2_with fail
        refine hK.out _ _ (fun hD => hS4) ?_
        clear hK K
        try simp only [Act.put, List.setIfInBounds_toArray, List.set_cons_zero, List.set_cons_succ]
        refine wpAnyD_one (i := 5) (o := { dst := some 44, op := Go.Op.call { callee := Go.Callee.value (Go.Operand.func 19), args := #[Go.Operand.tmp 43], argTypes := #[37] }, type := 3, pos := "law.go:62", after := #[{ on := 4, ground := Go.Ground.data }, { on := 2, ground := Go.Ground.chain }], guard := none }) (by kernel_rfl) rfl (fun K hK => ?_)
        go_simp
        refine (rclose_any w4 (HF2.out.ro.kp h4.out.2 (fun e => HF2.out.ne e.symm))).mono ?_
        rintro e w5 ⟨rfl, h5⟩
        have hS5 : (fun W : World => Bx W b2 b3 sb rb x) w5 := Bx.kp hS4 h5.out.2 HF2.out.n2.2 HF2.out.n3.2
        have HK5 := hid (HF2.out.turn h4.out.1 h4.out.2 h5.out.1 h5.out.2)
        clear h4 h5
        go_wp2_with fail
        refine hK.out _ _ (fun hD => hS5) ?_
        clear hK K
        try simp only [Act.put, List.setIfInBounds_toArray, List.set_cons_zero, List.set_cons_succ]
        refine' wpAnyD_take (i := 6) (oi := { dst := some 45, op := Go.Op.binOp Go.BinOp.neq 3 (Go.Operand.tmp 41) (Go.Operand.tmp 44) 3, type := 4, pos := "law.go:62", after := #[{ on := 2, ground := Go.Ground.data }, { on := 5, ground := Go.Ground.data }], guard := none }) (v := _) rfl (by kernel_rfl) (by kernel_rfl) (by kernel_rfl) (fun _ _ _ h => h) (by kernel_rfl) (Or.inl ⟨by rfl, ?hy29⟩) hS5 ?rest29
        case hy29 => (intro W hSw; go_simp; try (with_reducible rfl))
        try simp only [Act.put, List.setIfInBounds_toArray, List.set_cons_zero, List.set_cons_succ]
        refine wpAnyD_done (by kernel_rfl) ?_ _
        clear hS4 hS5 hS0 HF u0 u1 u2 u3 u4 u5 l2 l3 HF2
        generalize cl s = r
        obtain ⟨u0, u1, u2, u3, u4, u5, l2, l3⟩ := HK5.out.cells
        go_wp2_with fail
        refine (epoch_any _ HK5.out.so).mono ?_
        rintro e w7 ⟨rfl, g7⟩
        have HK7 := hid (HK5.out.below g7)
        clear g7 u0 u1 u2 u3 u4 u5 l2 l3
        simp only [ep, tv, Option.getD_none, Option.isSome_none]
        go_upto_region 14 with fail
        obtain ⟨W8, hW8⟩ : ∃ W8, W8 = w7.alloc (.cells #[.int .u64 0, .int .u64 0, .int .u64 0] 30) := ⟨_, rfl⟩
        obtain ⟨b5, hb5⟩ : ∃ b5, b5 = w7.heap.size := ⟨_, rfl⟩
        have HK8 : Hid (Sf w W8 b2 b3 sb rb x n none) := HK7.out.below (by rw [hW8]; exact ((Gr.refl _).alloc _).below)
        have HX8 : Hid (W8.heap[b5]? = some (.cells (tc (0, 0, 0)) 30 (0, 0))) := by rw [hW8, hb5]; exact heap_new' _ _
        rw [← hW8, ← hb5]
        clear hW8 hb5 HK7
        obtain ⟨u0, u1, u2, u3, u4, u5, l2, l3⟩ := HK8.out.cells
        go_wp2_with fail
        refine (repoch_any _ HK8.out.ro).mono ?_
        rintro e w9 ⟨rfl, g9⟩
        have HK9 := hid (HK8.out.below g9.below)
        have HX9 := hid ((g9.below.block b5 (tk_lt HX8.out)).trans HX8.out)
        clear g9 u0 u1 u2 u3 u4 u5 l2 l3 HK8 HX8
        simp only [ep, tv, Option.getD_none, Option.isSome_none]
        go_upto_region 15 with fail
        obtain ⟨W10, hW10⟩ : ∃ W10, W10 = w9.alloc (.cells #[.int .u64 0, .int .u64 0, .int .u64 0] 30) := ⟨_, rfl⟩
        obtain ⟨b7, hb7⟩ : ∃ b7, b7 = w9.heap.size := ⟨_, rfl⟩
        have G10 : Gr w9 W10 := by rw [hW10]; exact (Gr.refl _).alloc _
        have HK10 := hid (HK9.out.below G10.below)
        have HX10 := hid ((G10.below.block b5 (tk_lt HX9.out)).trans HX9.out)
        have HY10 : Hid (W10.heap[b7]? = some (.cells (tc (0, 0, 0)) 30 (0, 0))) := by rw [hW10, hb7]; exact heap_new' _ _
        rw [← hW10, ← hb7]
        clear hW10 hb7 HK9 HX9 G10
        obtain ⟨y0, y1, y2, yz⟩ := box3 HX10.out
        obtain ⟨z0, z1, z2, zz⟩ := box3 HY10.out
        go_wp2_with fail
        go_ret
        exact ⟨by simp, HK10.out.stp⟩
      · have q3 : ((x.kd : Int) == 3) = false := beq_eq_false_iff_ne.2 k3
        by_cases k4 : x.kd = 4
        · have p4 : ((x.kd : Int) != 4) = false := by rw [k4]; rfl
          clear k1 k2 k3 k4
          obtain ⟨u0, u1, u2, u3, u4, u5, l2, l3⟩ := HF.out.cells
          go_wp2_with fail
          refine (epoch_any _ HF.out.so).mono ?_
          rintro e w7 ⟨rfl, g7⟩
          have HK7 := hid (HF.out.below g7)
          clear g7 u0 u1 u2 u3 u4 u5 l2 l3
          simp only [ep, tv]
          go_upto_region 14 with fail
          obtain ⟨W8, hW8⟩ : ∃ W8, W8 = w7.alloc (.cells #[.int .u64 (s.getD (0, 0, 0)).1, .int .u64 (s.getD (0, 0, 0)).2.1, .int .u64 (s.getD (0, 0, 0)).2.2] 30) := ⟨_, rfl⟩
          obtain ⟨b5, hb5⟩ : ∃ b5, b5 = w7.heap.size := ⟨_, rfl⟩
          have HK8 : Hid (Sf w W8 b2 b3 sb rb x n s) := HK7.out.below (by rw [hW8]; exact ((Gr.refl _).alloc _).below)
          have HX8 : Hid (W8.heap[b5]? = some (.cells (tc (s.getD (0, 0, 0))) 30 (0, 0))) := by rw [hW8, hb5]; exact heap_new' _ _
          rw [← hW8, ← hb5]
          clear hW8 hb5 HK7
          obtain ⟨u0, u1, u2, u3, u4, u5, l2, l3⟩ := HK8.out.cells
          go_wp2_with fail
          refine (repoch_any _ HK8.out.ro).mono ?_
          rintro e w9 ⟨rfl, g9⟩
          have HK9 := hid (HK8.out.below g9.below)
          have HX9 := hid ((g9.below.block b5 (tk_lt HX8.out)).trans HX8.out)
          clear g9 u0 u1 u2 u3 u4 u5 l2 l3 HK8 HX8
          simp only [ep, tv]
          go_upto_region 15 with fail
          obtain ⟨W10, hW10⟩ : ∃ W10, W10 = w9.alloc (.cells #[.int .u64 (s.getD (0, 0, 0)).1, .int .u64 (s.getD (0, 0, 0)).2.1, .int .u64 (s.getD (0, 0, 0)).2.2] 30) := ⟨_, rfl⟩
          obtain ⟨b7, hb7⟩ : ∃ b7, b7 = w9.heap.size := ⟨_, rfl⟩
          have G10 : Gr w9 W10 := by rw [hW10]; exact (Gr.refl _).alloc _
          have HK10 := hid (HK9.out.below G10.below)
          have HX10 := hid ((G10.below.block b5 (tk_lt HX9.out)).trans HX9.out)
          have HY10 : Hid (W10.heap[b7]? = some (.cells (tc (s.getD (0, 0, 0))) 30 (0, 0))) := by rw [hW10, hb7]; exact heap_new' _ _
          rw [← hW10, ← hb7]
          clear hW10 hb7 HK9 HX9 G10
          obtain ⟨y0, y1, y2, yz⟩ := box3 HX10.out
          obtain ⟨z0, z1, z2, zz⟩ := box3 HY10.out
          generalize s.isSome = bs
          go_wp2_with fail
          go_ret
          exact ⟨by simp, HK10.out.stp⟩
        · have p4 : ((x.kd : Int) != 4) = true := bne_iff_ne.2 k4
          have p3 : ((x.kd : Int) != 3) = true := bne_iff_ne.2 k3
          clear k1 k2 k3 k4
          go_wp2_with fail
          go_ret
          exact ⟨rfl, HF.out.stp⟩
end Go.Proofs.Ytinggeflllgdmaa
