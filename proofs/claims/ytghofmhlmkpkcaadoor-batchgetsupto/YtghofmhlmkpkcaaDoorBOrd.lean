import Derived.Test.YtghofmhlmkpkcaaDoorBBase
import Derived.Test.YtghofmhlmkpkcaaDoorLHold
namespace Go.Proofs.YtghofmhlmkpkcaaDoor.Wi
open Go.RowKit Go.Sort
attribute [local go_sem ↓] Go.wp_at_zero Go.wp_at_succ
set_option maxHeartbeats 4000000 in
set_option maxRecDepth 100000 in
theorem order_any (a b : Cx) (w : World) : Calls Tryd.prog 50 #[gs a, gs b] w fun e w' => e = .returned (.int .i64 (scm a b)) ∧ Gr w w' := by
  have hmx : Tryd.prog.follows .mixedOrders = true := by kernel_rfl
  unfold scm
  have H1 := fun W => cmpI_any a.pl b.pl W
  have H2 := fun W => cmpU_any (a.A : Nat) (b.A : Nat) W
  have H3 := fun W => cmpU_any (a.B : Nat) (b.B : Nat) W
  have H4 := fun W => cmpU_any (a.C : Nat) (b.C : Nat) W
  generalize c64 a.pl b.pl = p at *
  generalize c64 (a.A : Nat) (b.A : Nat) = q at *
  generalize c64 (a.B : Nat) (b.B : Nat) = r at *
  generalize c64 (a.C : Nat) (b.C : Nat) = s at *
  have HO := fun b W h0 h1 h2 h3 => or4_any p q r s b W h0 h1 h2 h3
  generalize or4 p q r s = z at *
  obtain ⟨B0, hB0⟩ : ∃ B0, B0 = w.heap.size := ⟨_, rfl⟩
  obtain ⟨B1, hB1⟩ : ∃ B1, B1 = w.heap.size + 1 := ⟨_, rfl⟩
  obtain ⟨W2, hW2⟩ : ∃ W, W = (w.alloc (.cells #[.int .i64 a.pl, .int .u64 (a.A : Nat), .int .u64 (a.B : Nat), .int .u64 (a.C : Nat)] 41)).alloc (.cells #[.int .i64 b.pl, .int .u64 (b.A : Nat), .int .u64 (b.B : Nat), .int .u64 (b.C : Nat)] 41) := ⟨_, rfl⟩
  have G2 : Gr w W2 := by rw [hW2]; exact ((Gr.refl _).alloc _).alloc _
  have hb0 : W2.heap[B0]? = some (.cells #[.int .i64 a.pl, .int .u64 (a.A : Nat), .int .u64 (a.B : Nat), .int .u64 (a.C : Nat)] 41 (0, 0)) := by
    rw [hW2, hB0]
    exact (((Gr.refl _).alloc _).below.block _ (by simp)).trans (heap_new' _ _)
  have hb1 : W2.heap[B1]? = some (.cells #[.int .i64 b.pl, .int .u64 (b.A : Nat), .int .u64 (b.B : Nat), .int .u64 (b.C : Nat)] 41 (0, 0)) := by
    have : B1 = (w.alloc (.cells #[.int .i64 a.pl, .int .u64 (a.A : Nat), .int .u64 (a.B : Nat), .int .u64 (a.C : Nat)] 41)).heap.size := by rw [hB1]; simp
    rw [hW2, this]
    exact heap_new' _ _
  have S0 : W2.drew.cell? ⟨B0, 0, none⟩ = some (.int .i64 a.pl) ∧ W2.drew.cell? ⟨B0, 1, none⟩ = some (.int .u64 (a.A : Nat)) ∧ W2.drew.cell? ⟨B0, 2, none⟩ = some (.int .u64 (a.B : Nat)) ∧ W2.drew.cell? ⟨B0, 3, none⟩ = some (.int .u64 (a.C : Nat)) ∧ W2.drew.cell? ⟨B1, 0, none⟩ = some (.int .i64 b.pl) ∧ W2.drew.cell? ⟨B1, 1, none⟩ = some (.int .u64 (b.A : Nat)) ∧ W2.drew.cell? ⟨B1, 2, none⟩ = some (.int .u64 (b.B : Nat)) ∧ W2.drew.cell? ⟨B1, 3, none⟩ = some (.int .u64 (b.C : Nat)) ∧ B0 < W2.drew.heap.size ∧ B1 < W2.drew.heap.size := by
    refine ⟨?_, ?_, ?_, ?_, ?_, ?_, ?_, ?_, (Array.getElem?_eq_some_iff.1 hb0).1, (Array.getElem?_eq_some_iff.1 hb1).1⟩
    all_goals show W2.cell? _ = _
    all_goals simp only [World.cell?, hb0, hb1]
    all_goals rfl
  clear hb0 hb1
  go_enter Tryd.func50, Tryd.ntmps50
  go_upto_region 1 with fail
  have es : (w.alloc (.cells #[.int .i64 a.pl, .int .u64 (a.A : Nat), .int .u64 (a.B : Nat), .int .u64 (a.C : Nat)] 41)).heap.size = B1 := by rw [hB1]; simp
  (try rw [es])
  (try rw [← hB1])
  rw [← hW2, ← hB0]
  clear hB0 hB1 hW2 es
  refine wp_regionD (S := fun W => (W.cell? ⟨B0, 0, none⟩ = some (.int .i64 a.pl) ∧ W.cell? ⟨B0, 1, none⟩ = some (.int .u64 (a.A : Nat)) ∧ W.cell? ⟨B0, 2, none⟩ = some (.int .u64 (a.B : Nat)) ∧ W.cell? ⟨B0, 3, none⟩ = some (.int .u64 (a.C : Nat)) ∧ W.cell? ⟨B1, 0, none⟩ = some (.int .i64 b.pl) ∧ W.cell? ⟨B1, 1, none⟩ = some (.int .u64 (b.A : Nat)) ∧ W.cell? ⟨B1, 2, none⟩ = some (.int .u64 (b.B : Nat)) ∧ W.cell? ⟨B1, 3, none⟩ = some (.int .u64 (b.C : Nat)) ∧ B0 < W.heap.size ∧ B1 < W.heap.size)) (D := []) hmx ?_
  refine' wpAnyD_take (i := 0) (oi := { dst := some 5, op := Go.Op.fieldAddr 41 (Go.Operand.tmp 2) 0, type := 0, pos := "batch.go:84", after := #[], guard := none }) (v := _) rfl (by kernel_rfl) (by kernel_rfl) (by kernel_rfl) (fun _ _ _ h => h) (by kernel_rfl) (Or.inl ⟨by rfl, ?hy1⟩) S0 ?rest1
  case hy1 => (intro W hSw; (try dsimp only at hSw); obtain ⟨s1, s2, s3, s4, s5, s6, s7, s8, s9, s10⟩ := hSw; go_simp; try (with_reducible rfl))
  try simp only [Act.put, List.setIfInBounds_toArray, List.set_cons_zero, List.set_cons_succ]
  refine' wpAnyD_take (i := 1) (oi := { dst := some 6, op := Go.Op.load 3 (Go.Operand.tmp 5), type := 3, pos := "batch.go:84", after := #[{ on := 0, ground := Go.Ground.data }], guard := none }) (v := _) rfl (by kernel_rfl) (by kernel_rfl) (by kernel_rfl) (fun _ _ _ h => h) (by kernel_rfl) (Or.inl ⟨by rfl, ?hy2⟩) S0 ?rest2
  case hy2 => (intro W hSw; (try dsimp only at hSw); obtain ⟨s1, s2, s3, s4, s5, s6, s7, s8, s9, s10⟩ := hSw; go_simp; try (with_reducible rfl))
  try simp only [Act.put, List.setIfInBounds_toArray, List.set_cons_zero, List.set_cons_succ]
  refine' wpAnyD_take (i := 2) (oi := { dst := some 7, op := Go.Op.fieldAddr 41 (Go.Operand.tmp 3) 0, type := 0, pos := "batch.go:84", after := #[], guard := none }) (v := _) rfl (by kernel_rfl) (by kernel_rfl) (by kernel_rfl) (fun _ _ _ h => h) (by kernel_rfl) (Or.inl ⟨by rfl, ?hy3⟩) S0 ?rest3
  case hy3 => (intro W hSw; (try dsimp only at hSw); obtain ⟨s1, s2, s3, s4, s5, s6, s7, s8, s9, s10⟩ := hSw; go_simp; try (with_reducible rfl))
  try simp only [Act.put, List.setIfInBounds_toArray, List.set_cons_zero, List.set_cons_succ]
  refine' wpAnyD_take (i := 3) (oi := { dst := some 8, op := Go.Op.load 3 (Go.Operand.tmp 7), type := 3, pos := "batch.go:84", after := #[{ on := 2, ground := Go.Ground.data }], guard := none }) (v := _) rfl (by kernel_rfl) (by kernel_rfl) (by kernel_rfl) (fun _ _ _ h => h) (by kernel_rfl) (Or.inl ⟨by rfl, ?hy4⟩) S0 ?rest4
  case hy4 => (intro W hSw; (try dsimp only at hSw); obtain ⟨s1, s2, s3, s4, s5, s6, s7, s8, s9, s10⟩ := hSw; go_simp; try (with_reducible rfl))
  try simp only [Act.put, List.setIfInBounds_toArray, List.set_cons_zero, List.set_cons_succ]
  refine' wpAnyD_take (i := 5) (oi := { dst := some 10, op := Go.Op.fieldAddr 41 (Go.Operand.tmp 2) 1, type := 0, pos := "batch.go:84", after := #[], guard := none }) (v := _) rfl (by kernel_rfl) (by kernel_rfl) (by kernel_rfl) (fun _ _ _ h => h) (by kernel_rfl) (Or.inl ⟨by rfl, ?hy5⟩) S0 ?rest5
  case hy5 => (intro W hSw; (try dsimp only at hSw); obtain ⟨s1, s2, s3, s4, s5, s6, s7, s8, s9, s10⟩ := hSw; go_simp; try (with_reducible rfl))
  try simp only [Act.put, List.setIfInBounds_toArray, List.set_cons_zero, List.set_cons_succ]
  refine' wpAnyD_take (i := 6) (oi := { dst := some 11, op := Go.Op.fieldAddr 39 (Go.Operand.tmp 10) 0, type := 0, pos := "batch.go:84", after := #[{ on := 5, ground := Go.Ground.data }], guard := none }) (v := _) rfl (by kernel_rfl) (by kernel_rfl) (by kernel_rfl) (fun _ _ _ h => h) (by kernel_rfl) (Or.inl ⟨by rfl, ?hy6⟩) S0 ?rest6
  case hy6 => (intro W hSw; (try dsimp only at hSw); obtain ⟨s1, s2, s3, s4, s5, s6, s7, s8, s9, s10⟩ := hSw; go_simp; try (with_reducible rfl))
  try simp only [Act.put, List.setIfInBounds_toArray, List.set_cons_zero, List.set_cons_succ]
  refine' wpAnyD_take (i := 7) (oi := { dst := some 12, op := Go.Op.load 37 (Go.Operand.tmp 11), type := 37, pos := "batch.go:84", after := #[{ on := 6, ground := Go.Ground.data }], guard := none }) (v := _) rfl (by kernel_rfl) (by kernel_rfl) (by kernel_rfl) (fun _ _ _ h => h) (by kernel_rfl) (Or.inl ⟨by rfl, ?hy7⟩) S0 ?rest7
  case hy7 => (intro W hSw; (try dsimp only at hSw); obtain ⟨s1, s2, s3, s4, s5, s6, s7, s8, s9, s10⟩ := hSw; go_simp; try (with_reducible rfl))
  try simp only [Act.put, List.setIfInBounds_toArray, List.set_cons_zero, List.set_cons_succ]
  refine' wpAnyD_take (i := 8) (oi := { dst := some 13, op := Go.Op.fieldAddr 41 (Go.Operand.tmp 3) 1, type := 0, pos := "batch.go:84", after := #[], guard := none }) (v := _) rfl (by kernel_rfl) (by kernel_rfl) (by kernel_rfl) (fun _ _ _ h => h) (by kernel_rfl) (Or.inl ⟨by rfl, ?hy8⟩) S0 ?rest8
  case hy8 => (intro W hSw; (try dsimp only at hSw); obtain ⟨s1, s2, s3, s4, s5, s6, s7, s8, s9, s10⟩ := hSw; go_simp; try (with_reducible rfl))
  try simp only [Act.put, List.setIfInBounds_toArray, List.set_cons_zero, List.set_cons_succ]
  refine' wpAnyD_take (i := 9) (oi := { dst := some 14, op := Go.Op.fieldAddr 39 (Go.Operand.tmp 13) 0, type := 0, pos := "batch.go:84", after := #[{ on := 8, ground := Go.Ground.data }], guard := none }) (v := _) rfl (by kernel_rfl) (by kernel_rfl) (by kernel_rfl) (fun _ _ _ h => h) (by kernel_rfl) (Or.inl ⟨by rfl, ?hy9⟩) S0 ?rest9
  case hy9 => (intro W hSw; (try dsimp only at hSw); obtain ⟨s1, s2, s3, s4, s5, s6, s7, s8, s9, s10⟩ := hSw; go_simp; try (with_reducible rfl))
  try simp only [Act.put, List.setIfInBounds_toArray, List.set_cons_zero, List.set_cons_succ]
  refine' wpAnyD_take (i := 10) (oi := { dst := some 15, op := Go.Op.load 37 (Go.Operand.tmp 14), type := 37, pos := "batch.go:84", after := #[{ on := 9, ground := Go.Ground.data }], guard := none }) (v := _) rfl (by kernel_rfl) (by kernel_rfl) (by kernel_rfl) (fun _ _ _ h => h) (by kernel_rfl) (Or.inl ⟨by rfl, ?hy10⟩) S0 ?rest10
  case hy10 => (intro W hSw; (try dsimp only at hSw); obtain ⟨s1, s2, s3, s4, s5, s6, s7, s8, s9, s10⟩ := hSw; go_simp; try (with_reducible rfl))
  try simp only [Act.put, List.setIfInBounds_toArray, List.set_cons_zero, List.set_cons_succ]
  refine' wpAnyD_take (i := 12) (oi := { dst := some 17, op := Go.Op.fieldAddr 41 (Go.Operand.tmp 2) 1, type := 0, pos := "batch.go:84", after := #[], guard := none }) (v := _) rfl (by kernel_rfl) (by kernel_rfl) (by kernel_rfl) (fun _ _ _ h => h) (by kernel_rfl) (Or.inl ⟨by rfl, ?hy11⟩) S0 ?rest11
  case hy11 => (intro W hSw; (try dsimp only at hSw); obtain ⟨s1, s2, s3, s4, s5, s6, s7, s8, s9, s10⟩ := hSw; go_simp; try (with_reducible rfl))
  try simp only [Act.put, List.setIfInBounds_toArray, List.set_cons_zero, List.set_cons_succ]
  refine' wpAnyD_take (i := 13) (oi := { dst := some 18, op := Go.Op.fieldAddr 39 (Go.Operand.tmp 17) 1, type := 0, pos := "batch.go:84", after := #[{ on := 12, ground := Go.Ground.data }], guard := none }) (v := _) rfl (by kernel_rfl) (by kernel_rfl) (by kernel_rfl) (fun _ _ _ h => h) (by kernel_rfl) (Or.inl ⟨by rfl, ?hy12⟩) S0 ?rest12
  case hy12 => (intro W hSw; (try dsimp only at hSw); obtain ⟨s1, s2, s3, s4, s5, s6, s7, s8, s9, s10⟩ := hSw; go_simp; try (with_reducible rfl))
  try simp only [Act.put, List.setIfInBounds_toArray, List.set_cons_zero, List.set_cons_succ]
  refine' wpAnyD_take (i := 14) (oi := { dst := some 19, op := Go.Op.load 37 (Go.Operand.tmp 18), type := 37, pos := "batch.go:84", after := #[{ on := 13, ground := Go.Ground.data }], guard := none }) (v := _) rfl (by kernel_rfl) (by kernel_rfl) (by kernel_rfl) (fun _ _ _ h => h) (by kernel_rfl) (Or.inl ⟨by rfl, ?hy13⟩) S0 ?rest13
  case hy13 => (intro W hSw; (try dsimp only at hSw); obtain ⟨s1, s2, s3, s4, s5, s6, s7, s8, s9, s10⟩ := hSw; go_simp; try (with_reducible rfl))
  try simp only [Act.put, List.setIfInBounds_toArray, List.set_cons_zero, List.set_cons_succ]
  refine' wpAnyD_take (i := 15) (oi := { dst := some 20, op := Go.Op.fieldAddr 41 (Go.Operand.tmp 3) 1, type := 0, pos := "batch.go:84", after := #[], guard := none }) (v := _) rfl (by kernel_rfl) (by kernel_rfl) (by kernel_rfl) (fun _ _ _ h => h) (by kernel_rfl) (Or.inl ⟨by rfl, ?hy14⟩) S0 ?rest14
  case hy14 => (intro W hSw; (try dsimp only at hSw); obtain ⟨s1, s2, s3, s4, s5, s6, s7, s8, s9, s10⟩ := hSw; go_simp; try (with_reducible rfl))
  try simp only [Act.put, List.setIfInBounds_toArray, List.set_cons_zero, List.set_cons_succ]
  refine' wpAnyD_take (i := 16) (oi := { dst := some 21, op := Go.Op.fieldAddr 39 (Go.Operand.tmp 20) 1, type := 0, pos := "batch.go:84", after := #[{ on := 15, ground := Go.Ground.data }], guard := none }) (v := _) rfl (by kernel_rfl) (by kernel_rfl) (by kernel_rfl) (fun _ _ _ h => h) (by kernel_rfl) (Or.inl ⟨by rfl, ?hy15⟩) S0 ?rest15
  case hy15 => (intro W hSw; (try dsimp only at hSw); obtain ⟨s1, s2, s3, s4, s5, s6, s7, s8, s9, s10⟩ := hSw; go_simp; try (with_reducible rfl))
  try simp only [Act.put, List.setIfInBounds_toArray, List.set_cons_zero, List.set_cons_succ]
  refine' wpAnyD_take (i := 17) (oi := { dst := some 22, op := Go.Op.load 37 (Go.Operand.tmp 21), type := 37, pos := "batch.go:84", after := #[{ on := 16, ground := Go.Ground.data }], guard := none }) (v := _) rfl (by kernel_rfl) (by kernel_rfl) (by kernel_rfl) (fun _ _ _ h => h) (by kernel_rfl) (Or.inl ⟨by rfl, ?hy16⟩) S0 ?rest16
  case hy16 => (intro W hSw; (try dsimp only at hSw); obtain ⟨s1, s2, s3, s4, s5, s6, s7, s8, s9, s10⟩ := hSw; go_simp; try (with_reducible rfl))
  try simp only [Act.put, List.setIfInBounds_toArray, List.set_cons_zero, List.set_cons_succ]
  refine' wpAnyD_take (i := 19) (oi := { dst := some 24, op := Go.Op.fieldAddr 41 (Go.Operand.tmp 2) 1, type := 0, pos := "batch.go:84", after := #[], guard := none }) (v := _) rfl (by kernel_rfl) (by kernel_rfl) (by kernel_rfl) (fun _ _ _ h => h) (by kernel_rfl) (Or.inl ⟨by rfl, ?hy17⟩) S0 ?rest17
  case hy17 => (intro W hSw; (try dsimp only at hSw); obtain ⟨s1, s2, s3, s4, s5, s6, s7, s8, s9, s10⟩ := hSw; go_simp; try (with_reducible rfl))
  try simp only [Act.put, List.setIfInBounds_toArray, List.set_cons_zero, List.set_cons_succ]
  refine' wpAnyD_take (i := 20) (oi := { dst := some 25, op := Go.Op.fieldAddr 39 (Go.Operand.tmp 24) 2, type := 0, pos := "batch.go:84", after := #[{ on := 19, ground := Go.Ground.data }], guard := none }) (v := _) rfl (by kernel_rfl) (by kernel_rfl) (by kernel_rfl) (fun _ _ _ h => h) (by kernel_rfl) (Or.inl ⟨by rfl, ?hy18⟩) S0 ?rest18
  case hy18 => (intro W hSw; (try dsimp only at hSw); obtain ⟨s1, s2, s3, s4, s5, s6, s7, s8, s9, s10⟩ := hSw; go_simp; try (with_reducible rfl))
  try simp only [Act.put, List.setIfInBounds_toArray, List.set_cons_zero, List.set_cons_succ]
  refine' wpAnyD_take (i := 21) (oi := { dst := some 26, op := Go.Op.load 37 (Go.Operand.tmp 25), type := 37, pos := "batch.go:84", after := #[{ on := 20, ground := Go.Ground.data }], guard := none }) (v := _) rfl (by kernel_rfl) (by kernel_rfl) (by kernel_rfl) (fun _ _ _ h => h) (by kernel_rfl) (Or.inl ⟨by rfl, ?hy19⟩) S0 ?rest19
  case hy19 => (intro W hSw; (try dsimp only at hSw); obtain ⟨s1, s2, s3, s4, s5, s6, s7, s8, s9, s10⟩ := hSw; go_simp; try (with_reducible rfl))
  try simp only [Act.put, List.setIfInBounds_toArray, List.set_cons_zero, List.set_cons_succ]
  refine' wpAnyD_take (i := 22) (oi := { dst := some 27, op := Go.Op.fieldAddr 41 (Go.Operand.tmp 3) 1, type := 0, pos := "batch.go:84", after := #[], guard := none }) (v := _) rfl (by kernel_rfl) (by kernel_rfl) (by kernel_rfl) (fun _ _ _ h => h) (by kernel_rfl) (Or.inl ⟨by rfl, ?hy20⟩) S0 ?rest20
  case hy20 => (intro W hSw; (try dsimp only at hSw); obtain ⟨s1, s2, s3, s4, s5, s6, s7, s8, s9, s10⟩ := hSw; go_simp; try (with_reducible rfl))
  try simp only [Act.put, List.setIfInBounds_toArray, List.set_cons_zero, List.set_cons_succ]
  refine' wpAnyD_take (i := 23) (oi := { dst := some 28, op := Go.Op.fieldAddr 39 (Go.Operand.tmp 27) 2, type := 0, pos := "batch.go:84", after := #[{ on := 22, ground := Go.Ground.data }], guard := none }) (v := _) rfl (by kernel_rfl) (by kernel_rfl) (by kernel_rfl) (fun _ _ _ h => h) (by kernel_rfl) (Or.inl ⟨by rfl, ?hy21⟩) S0 ?rest21
  case hy21 => (intro W hSw; (try dsimp only at hSw); obtain ⟨s1, s2, s3, s4, s5, s6, s7, s8, s9, s10⟩ := hSw; go_simp; try (with_reducible rfl))
  try simp only [Act.put, List.setIfInBounds_toArray, List.set_cons_zero, List.set_cons_succ]
  refine' wpAnyD_take (i := 24) (oi := { dst := some 29, op := Go.Op.load 37 (Go.Operand.tmp 28), type := 37, pos := "batch.go:84", after := #[{ on := 23, ground := Go.Ground.data }], guard := none }) (v := _) rfl (by kernel_rfl) (by kernel_rfl) (by kernel_rfl) (fun _ _ _ h => h) (by kernel_rfl) (Or.inl ⟨by rfl, ?hy22⟩) S0 ?rest22
  case hy22 => (intro W hSw; (try dsimp only at hSw); obtain ⟨s1, s2, s3, s4, s5, s6, s7, s8, s9, s10⟩ := hSw; go_simp; try (with_reducible rfl))
  try simp only [Act.put, List.setIfInBounds_toArray, List.set_cons_zero, List.set_cons_succ]
  refine wpAnyD_one (i := 4) (o := { dst := some 9, op := Go.Op.call { callee := Go.Callee.value (Go.Operand.func 70), args := #[Go.Operand.tmp 6, Go.Operand.tmp 8], argTypes := #[3, 3] }, type := 3, pos := "batch.go:84", after := #[{ on := 1, ground := Go.Ground.data }, { on := 3, ground := Go.Ground.data }], guard := none }) (by kernel_rfl) rfl (fun K hK => ?_)
  go_simp
  refine (H1 _).mono ?_
  rintro e w4 ⟨rfl, rfl⟩
  go_wp2_with fail
  refine hK.out _ _ (fun hD => S0) ?_
  clear hK K
  try simp only [Act.put, List.setIfInBounds_toArray, List.set_cons_zero, List.set_cons_succ]
  refine wpAnyD_one (i := 11) (o := { dst := some 16, op := Go.Op.call { callee := Go.Callee.value (Go.Operand.func 71), args := #[Go.Operand.tmp 12, Go.Operand.tmp 15], argTypes := #[37, 37] }, type := 3, pos := "batch.go:84", after := #[{ on := 7, ground := Go.Ground.data }, { on := 10, ground := Go.Ground.data }, { on := 4, ground := Go.Ground.chain }], guard := none }) (by kernel_rfl) rfl (fun K hK => ?_)
  go_simp
  refine (H2 _).mono ?_
  rintro e w11 ⟨rfl, rfl⟩
  go_wp2_with fail
  refine hK.out _ _ (fun hD => S0) ?_
  clear hK K
  try simp only [Act.put, List.setIfInBounds_toArray, List.set_cons_zero, List.set_cons_succ]
  refine wpAnyD_one (i := 18) (o := { dst := some 23, op := Go.Op.call { callee := Go.Callee.value (Go.Operand.func 71), args := #[Go.Operand.tmp 19, Go.Operand.tmp 22], argTypes := #[37, 37] }, type := 3, pos := "batch.go:84", after := #[{ on := 14, ground := Go.Ground.data }, { on := 17, ground := Go.Ground.data }, { on := 11, ground := Go.Ground.chain }], guard := none }) (by kernel_rfl) rfl (fun K hK => ?_)
  go_simp
  refine (H3 _).mono ?_
  rintro e w18 ⟨rfl, rfl⟩
  go_wp2_with fail
  refine hK.out _ _ (fun hD => S0) ?_
  clear hK K
  try simp only [Act.put, List.setIfInBounds_toArray, List.set_cons_zero, List.set_cons_succ]
  refine wpAnyD_one (i := 25) (o := { dst := some 30, op := Go.Op.call { callee := Go.Callee.value (Go.Operand.func 71), args := #[Go.Operand.tmp 26, Go.Operand.tmp 29], argTypes := #[37, 37] }, type := 3, pos := "batch.go:84", after := #[{ on := 21, ground := Go.Ground.data }, { on := 24, ground := Go.Ground.data }, { on := 18, ground := Go.Ground.chain }], guard := none }) (by kernel_rfl) rfl (fun K hK => ?_)
  go_simp
  refine (H4 _).mono ?_
  rintro e w25 ⟨rfl, rfl⟩
  go_wp2_with fail
  refine hK.out _ _ (fun hD => S0) ?_
  clear hK K
  try simp only [Act.put, List.setIfInBounds_toArray, List.set_cons_zero, List.set_cons_succ]
  refine wpAnyD_one (i := 26) (o := { dst := some 31, op := Go.Op.buildSlice 149 4 #[(0, Go.Operand.tmp 9), (1, Go.Operand.tmp 16), (2, Go.Operand.tmp 23), (3, Go.Operand.tmp 30)], type := 149, pos := "batch.go:84", after := #[{ on := 4, ground := Go.Ground.data }, { on := 11, ground := Go.Ground.data }, { on := 18, ground := Go.Ground.data }, { on := 25, ground := Go.Ground.data }], guard := none }) (by kernel_rfl) rfl (fun K hK => ?_)
  obtain ⟨W5, hW5⟩ : ∃ W, W = (W2.alloc (.cells #[.int .i64 p, .int .i64 q, .int .i64 r, .int .i64 s] 3)).drew := ⟨_, rfl⟩
  obtain ⟨B5, hB5⟩ : ∃ B5, B5 = W2.heap.size := ⟨_, rfl⟩
  have G5 : Gr W2 W5 := by rw [hW5]; exact ((Gr.refl _).alloc _).drew
  have hb5 : W5.heap[B5]? = some (.cells #[.int .i64 p, .int .i64 q, .int .i64 r, .int .i64 s] 3 (0, 0)) := by rw [hW5, hB5]; exact heap_new' _ _
  have S5 : W5.cell? ⟨B0, 0, none⟩ = some (.int .i64 a.pl) ∧ W5.cell? ⟨B0, 1, none⟩ = some (.int .u64 (a.A : Nat)) ∧ W5.cell? ⟨B0, 2, none⟩ = some (.int .u64 (a.B : Nat)) ∧ W5.cell? ⟨B0, 3, none⟩ = some (.int .u64 (a.C : Nat)) ∧ W5.cell? ⟨B1, 0, none⟩ = some (.int .i64 b.pl) ∧ W5.cell? ⟨B1, 1, none⟩ = some (.int .u64 (b.A : Nat)) ∧ W5.cell? ⟨B1, 2, none⟩ = some (.int .u64 (b.B : Nat)) ∧ W5.cell? ⟨B1, 3, none⟩ = some (.int .u64 (b.C : Nat)) ∧ B0 < W5.heap.size ∧ B1 < W5.heap.size := by
    obtain ⟨s1, s2, s3, s4, s5, s6, s7, s8, s9, s10⟩ := S0
    exact ⟨(G5.cell s9).trans s1, (G5.cell s9).trans s2, (G5.cell s9).trans s3, (G5.cell s9).trans s4, (G5.cell s10).trans s5, (G5.cell s10).trans s6, (G5.cell s10).trans s7, (G5.cell s10).trans s8, Nat.lt_of_lt_of_le s9 G5.size, Nat.lt_of_lt_of_le s10 G5.size⟩
  have H5 := HO B5 W5 (by simp [World.cell?, hb5]) (by simp [World.cell?, hb5]) (by simp [World.cell?, hb5]) (by simp [World.cell?, hb5])
  go_wp2_with fail
  rw [← hW5, ← hB5]
  have HS5 := hid S5
  have HG5 := hid (G2.trans G5)
  clear hW5 hB5 hb5 S5 S0 G5 G2 HO H1 H2 H3 H4
  refine hK.out _ _ (fun hD => HS5.out) ?_
  clear hK K
  try simp only [Act.put, List.setIfInBounds_toArray, List.set_cons_zero, List.set_cons_succ]
  refine wpAnyD_one (i := 27) (o := { dst := some 32, op := Go.Op.call { callee := Go.Callee.value (Go.Operand.func 69), args := #[Go.Operand.tmp 31], argTypes := #[149] }, type := 3, pos := "batch.go:84", after := #[{ on := 26, ground := Go.Ground.data }, { on := 25, ground := Go.Ground.chain }], guard := none }) (by kernel_rfl) rfl (fun K hK => ?_)
  go_simp
  refine H5.mono ?_
  rintro e w27 ⟨rfl, rfl⟩
  clear H5
  dsimp only
  refine hK.out _ _ (fun hD => HS5.out) ?_
  clear hK K
  try simp only [Act.put, List.setIfInBounds_toArray, List.set_cons_zero, List.set_cons_succ]
  refine wpAnyD_one (i := 28) (o := { dst := some 4, op := Go.Op.assign (Go.Operand.tmp 32), type := 3, pos := "batch.go:84", after := #[{ on := 27, ground := Go.Ground.data }, { on := 27, ground := Go.Ground.chain }, { on := 0, ground := Go.Ground.phase }, { on := 1, ground := Go.Ground.phase }, { on := 2, ground := Go.Ground.phase }, { on := 3, ground := Go.Ground.phase }, { on := 4, ground := Go.Ground.phase }, { on := 5, ground := Go.Ground.phase }, { on := 6, ground := Go.Ground.phase }, { on := 7, ground := Go.Ground.phase }, { on := 8, ground := Go.Ground.phase }, { on := 9, ground := Go.Ground.phase }, { on := 10, ground := Go.Ground.phase }, { on := 11, ground := Go.Ground.phase }, { on := 12, ground := Go.Ground.phase }, { on := 13, ground := Go.Ground.phase }, { on := 14, ground := Go.Ground.phase }, { on := 15, ground := Go.Ground.phase }, { on := 16, ground := Go.Ground.phase }, { on := 17, ground := Go.Ground.phase }, { on := 18, ground := Go.Ground.phase }, { on := 19, ground := Go.Ground.phase }, { on := 20, ground := Go.Ground.phase }, { on := 21, ground := Go.Ground.phase }, { on := 22, ground := Go.Ground.phase }, { on := 23, ground := Go.Ground.phase }, { on := 24, ground := Go.Ground.phase }, { on := 25, ground := Go.Ground.phase }, { on := 26, ground := Go.Ground.phase }, { on := 27, ground := Go.Ground.phase }], guard := none }) (by kernel_rfl) rfl (fun K hK => ?_)
  rw [if_pos (by kernel_rfl)]
  go_simp
  refine hK.out _ _ (fun hD => HS5.out) ?_
  clear hK K
  try simp only [Act.put, List.setIfInBounds_toArray, List.set_cons_zero, List.set_cons_succ]
  refine wpAnyD_done (by kernel_rfl) ?_ _
  go_wp2
  go_ret
  exact ⟨rfl, HG5.out⟩
end Go.Proofs.YtghofmhlmkpkcaaDoor.Wi
