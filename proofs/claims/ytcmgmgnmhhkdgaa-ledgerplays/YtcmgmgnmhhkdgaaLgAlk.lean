import Derived.Test.YtcmgmgnmhhkdgaaLgRch
namespace Go.Proofs.Ytcmgmgnmhhkdgaa
open Go.RowKit Go.Sort Go.Maps Go.Shelf
attribute [local go_sem ↓] Go.wp_at_zero Go.wp_at_succ
theorem small1 {n : Nat} (h : n ≤ 1000) : n * 40 ≤ 140737488355328 ∧ n * 32 ≤ 140737488355328 := by omega
set_option maxHeartbeats 8000000 in
set_option maxRecDepth 100000 in
theorem alike_any {lb tb b n rb : Nat} {v : Value} {C : List Cg} (s : Sm) (w : World) (hl : Lg w lb tb b n (smf C)) (hr : RL w rb v C) (ho : Ones C) (hcl : C.length ≤ 1000) (hn : n ≤ 1000) :
    Calls Try.prog 21 #[lp lb, rp rb, mv s] w fun e w' => e = .returned (.bool true) ∧ Below w.heap.size w w' := by
  have hmx : Try.prog.follows .mixedOrders = true := by kernel_rfl
  obtain ⟨W0, hW0⟩ : ∃ W, W = Tt.bx s w := ⟨_, rfl⟩
  have G0 : Gr w W0 := by rw [hW0]; exact (Gr.refl _).alloc _
  have z0 : w.heap.size < W0.heap.size := by rw [hW0]; simp
  obtain ⟨a0, a1, a2, a3⟩ : W0.cell? ⟨w.heap.size, 0, none⟩ = some (.int .i64 s.1.1) ∧ W0.cell? ⟨w.heap.size, 1, none⟩ = some (.int .u64 s.1.2.1) ∧ W0.cell? ⟨w.heap.size, 2, none⟩ = some (.int .u64 s.1.2.2.1) ∧ W0.cell? ⟨w.heap.size, 3, none⟩ = some (.int .u64 s.1.2.2.2) := by rw [hW0]; exact Tt.bx_cells s w
  have hch := rchanges_any W0 (hr.gr G0) ho hcl
  have LG := hid (hl.gr G0)
  have RG := hid (hr.gr G0)
  have HO := hid ho
  have B0 := hid G0.below
  have RL0 := rch_len C C.length
  obtain ⟨R, hR⟩ : ∃ R, R = rch C C.length := ⟨_, rfl⟩
  rw [← hR] at hch RL0
  have HR := hid (show ∀ ks, Sup (smf C) ks → chs (smf C) ks = R ∧ (stS ks).length = R.length ∧ ks.length = R.length from fun ks hs => by
    have e := (rch_chs hs).symm.trans hR.symm
    refine ⟨e, ?_, ?_⟩
    · rw [← e, chs_length, srtBy_length]
    · rw [← e, chs_length])
  clear hl hr ho G0 hR
  go_enter Try.func21, Try.ntmps21
  go_upto_region 1 with fail
  rw [show w.alloc (.cells #[.int .i64 s.1.1, .int .u64 s.1.2.1, .int .u64 s.1.2.2.1, .int .u64 s.1.2.2.2] 35) = W0 from hW0.symm]
  clear hW0
  go_wp2_with fail
  refine hch.mono ?_
  rintro e w1 ⟨v1, rfl, ho1, hb1⟩
  obtain ⟨p1, c1, rfl⟩ := owns_form ho1
  have L1 := hid (owns_ls (E := EC) ho1)
  have LG1 := hid (LG.out.below hb1)
  have RG1 := hid (RG.out.below hb1)
  have d0 := (hb1.cell (p := ⟨w.heap.size, 0, none⟩) z0).trans a0
  have d1 := (hb1.cell (p := ⟨w.heap.size, 1, none⟩) z0).trans a1
  have d2 := (hb1.cell (p := ⟨w.heap.size, 2, none⟩) z0).trans a2
  have d3 := (hb1.cell (p := ⟨w.heap.size, 3, none⟩) z0).trans a3
  have z1 := Nat.lt_of_lt_of_le z0 hb1.size
  have B1 := hid (B0.out.trans (hb1.mono B0.out.size))
  have hS0 : Below w1.heap.size w1 w1.drew := (Gr.refl w1).drew.below
  have hxx : (smf C s != smf C s) = false := by simp
  have hrr : ((R.length : Int) != (R.length : Int)) = false := by simp
  clear hch hb1 ho1 a0 a1 a2 a3 z0 B0 LG RG
  go_upto_region 2 with fail
  refine wp_regionD (S := fun W => Below w1.heap.size w1 W) (D := []) hmx ?_
  refine' wpAnyD_take (i := 0) (oi := { dst := some 12, op := Go.Op.move (Go.Operand.tmp 0), type := 24, pos := "law.go:45", after := #[], guard := none }) (v := _) rfl (by kernel_rfl) (by kernel_rfl) (by kernel_rfl) (fun _ _ _ h => h) (by kernel_rfl) (Or.inl ⟨by rfl, ?hy1⟩) hS0 ?rest1
  case hy1 => (intro W hSw; go_simp; try (with_reducible rfl))
  try simp only [Act.put, List.setIfInBounds_toArray, List.set_cons_zero, List.set_cons_succ]
  refine' wpAnyD_take (i := 1) (oi := { dst := some 13, op := Go.Op.binOp Go.BinOp.eql 24 (Go.Operand.tmp 12) (Go.Operand.const (Go.Value.pointer none)) 24, type := 4, pos := "law.go:45", after := #[{ on := 0, ground := Go.Ground.data }], guard := none }) (v := _) rfl (by kernel_rfl) (by kernel_rfl) (by kernel_rfl) (fun _ _ _ h => h) (by kernel_rfl) (Or.inl ⟨by rfl, ?hy2⟩) hS0 ?rest2
  case hy2 => (intro W hSw; go_simp; try (with_reducible rfl))
  try simp only [Act.put, List.setIfInBounds_toArray, List.set_cons_zero, List.set_cons_succ]
  refine' wpAnyD_take (i := 2) (oi := { dst := some 14, op := Go.Op.move (Go.Operand.tmp 13), type := 4, pos := "law.go:45", after := #[{ on := 1, ground := Go.Ground.data }], guard := none }) (v := _) rfl (by kernel_rfl) (by kernel_rfl) (by kernel_rfl) (fun _ _ _ h => h) (by kernel_rfl) (Or.inl ⟨by rfl, ?hy3⟩) hS0 ?rest3
  case hy3 => (intro W hSw; go_simp; try (with_reducible rfl))
  try simp only [Act.put, List.setIfInBounds_toArray, List.set_cons_zero, List.set_cons_succ]
  refine' wpAnyD_take (i := 3) (oi := { dst := some 15, op := Go.Op.move (Go.Operand.tmp 0), type := 24, pos := "law.go:45", after := #[{ on := 2, ground := Go.Ground.guard }], guard := some (2, false) }) (v := _) rfl (by kernel_rfl) (by kernel_rfl) (by kernel_rfl) (fun _ _ _ h => h) (by kernel_rfl) (Or.inl ⟨by rfl, ?hy4⟩) hS0 ?rest4
  case hy4 => (intro W hSw; go_simp; try (with_reducible rfl))
  try simp only [Act.put, List.setIfInBounds_toArray, List.set_cons_zero, List.set_cons_succ]
  refine' wpAnyD_take (i := 5) (oi := { dst := some 17, op := Go.Op.move (Go.Operand.tmp 7), type := 27, pos := "law.go:45", after := #[{ on := 2, ground := Go.Ground.guard }], guard := some (2, false) }) (v := _) rfl (by kernel_rfl) (by kernel_rfl) (by kernel_rfl) (fun _ _ _ h => h) (by kernel_rfl) (Or.inl ⟨by rfl, ?hy5⟩) hS0 ?rest5
  case hy5 => (intro W hSw; go_simp; try (with_reducible rfl))
  try simp only [Act.put, List.setIfInBounds_toArray, List.set_cons_zero, List.set_cons_succ]
  refine' wpAnyD_take (i := 6) (oi := { dst := some 18, op := Go.Op.call { callee := Go.Callee.builtin Go.Builtin.len, args := #[Go.Operand.tmp 17], argTypes := #[27] }, type := 3, pos := "law.go:45", after := #[{ on := 5, ground := Go.Ground.data }, { on := 2, ground := Go.Ground.guard }], guard := some (2, false) }) (v := _) rfl (by kernel_rfl) (by kernel_rfl) (by kernel_rfl) (fun _ _ _ h => h) (by kernel_rfl) (Or.inl ⟨by rfl, ?hy6⟩) hS0 ?rest6
  case hy6 => (intro W hSw; go_simp; try (with_reducible rfl))
  try simp only [Act.put, List.setIfInBounds_toArray, List.set_cons_zero, List.set_cons_succ]
  refine wpAnyD_one (i := 4) (o := { dst := some 16, op := Go.Op.call { callee := Go.Callee.value (Go.Operand.func 14), args := #[Go.Operand.tmp 15], argTypes := #[24] }, type := 3, pos := "law.go:45", after := #[{ on := 3, ground := Go.Ground.data }, { on := 2, ground := Go.Ground.chain }, { on := 2, ground := Go.Ground.guard }], guard := some (2, false) }) (by kernel_rfl) rfl (fun K hK => ?_)
  go_simp
  refine (len_any _ (LG1.out.below hS0)).mono ?_
  rintro e w4 ⟨ks4, hs4, rfl, g4⟩
  rw [(HR.out ks4 hs4).2.2]
  have hS4 : Below w1.heap.size w1 w4 := hS0.trans (g4.below.mono hS0.size)
  clear hs4 g4
  go_wp2_with fail
  refine hK.out _ _ (fun hD => hS4) ?_
  clear hK K
  try simp only [Act.put, List.setIfInBounds_toArray, List.set_cons_zero, List.set_cons_succ]
  refine' wpAnyD_take (i := 7) (oi := { dst := some 19, op := Go.Op.binOp Go.BinOp.neq 3 (Go.Operand.tmp 16) (Go.Operand.tmp 18) 3, type := 4, pos := "law.go:45", after := #[{ on := 4, ground := Go.Ground.data }, { on := 6, ground := Go.Ground.data }, { on := 2, ground := Go.Ground.guard }], guard := some (2, false) }) (v := _) rfl (by kernel_rfl) (by kernel_rfl) (by kernel_rfl) (fun _ _ _ h => h) (by kernel_rfl) (Or.inl ⟨by rfl, ?hy8⟩) hS4 ?rest8
  case hy8 => (intro W hSw; go_simp; try (with_reducible rfl))
  try simp only [Act.put, List.setIfInBounds_toArray, List.set_cons_zero, List.set_cons_succ]
  refine' wpAnyD_take (i := 8) (oi := { dst := some 20, op := Go.Op.pick (Go.Operand.tmp 14) (Go.Operand.const (Go.Value.bool true)) (Go.Operand.tmp 19), type := 4, pos := "law.go:45", after := #[{ on := 2, ground := Go.Ground.data }, { on := 7, ground := Go.Ground.data }], guard := none }) (v := _) rfl (by kernel_rfl) (by kernel_rfl) (by kernel_rfl) (fun _ _ _ h => h) (by kernel_rfl) (Or.inl ⟨by rfl, ?hy9⟩) hS4 ?rest9
  case hy9 => (intro W hSw; go_simp; try (with_reducible rfl))
  try simp only [Act.put, List.setIfInBounds_toArray, List.set_cons_zero, List.set_cons_succ]
  refine' wpAnyD_take (i := 9) (oi := { dst := some 21, op := Go.Op.move (Go.Operand.tmp 20), type := 4, pos := "law.go:45", after := #[{ on := 8, ground := Go.Ground.data }, { on := 4, ground := Go.Ground.chain }], guard := none }) (v := _) rfl (by kernel_rfl) (by kernel_rfl) (by kernel_rfl) (fun _ _ _ h => h) (by kernel_rfl) (Or.inl ⟨by rfl, ?hy10⟩) hS4 ?rest10
  case hy10 => (intro W hSw; go_simp; try (with_reducible rfl))
  try simp only [Act.put, List.setIfInBounds_toArray, List.set_cons_zero, List.set_cons_succ]
  refine' wpAnyD_take (i := 10) (oi := { dst := some 22, op := Go.Op.move (Go.Operand.tmp 0), type := 24, pos := "law.go:45", after := #[{ on := 9, ground := Go.Ground.guard }], guard := some (9, false) }) (v := _) rfl (by kernel_rfl) (by kernel_rfl) (by kernel_rfl) (fun _ _ _ h => h) (by kernel_rfl) (Or.inl ⟨by rfl, ?hy11⟩) hS4 ?rest11
  case hy11 => (intro W hSw; go_simp; try (with_reducible rfl))
  try simp only [Act.put, List.setIfInBounds_toArray, List.set_cons_zero, List.set_cons_succ]
  refine' wpAnyD_take (i := 11) (oi := { dst := some 23, op := Go.Op.load 35 (Go.Operand.tmp 5), type := 35, pos := "law.go:45", after := #[{ on := 9, ground := Go.Ground.guard }], guard := some (9, false) }) (v := _) rfl (by kernel_rfl) (by kernel_rfl) (by kernel_rfl) (fun _ _ _ h => h) (by kernel_rfl) (Or.inl ⟨by rfl, ?hy12⟩) hS4 ?rest12
  case hy12 => (intro W hSw; have h0 := (hSw.cell (p := ⟨w.heap.size, 0, none⟩) z1).trans d0; have h1 := (hSw.cell (p := ⟨w.heap.size, 1, none⟩) z1).trans d1; have h2 := (hSw.cell (p := ⟨w.heap.size, 2, none⟩) z1).trans d2; have h3 := (hSw.cell (p := ⟨w.heap.size, 3, none⟩) z1).trans d3; go_simp; try (with_reducible rfl))
  try simp only [Act.put, List.setIfInBounds_toArray, List.set_cons_zero, List.set_cons_succ]
  refine' wpAnyD_take (i := 13) (oi := { dst := some 25, op := Go.Op.move (Go.Operand.tmp 1), type := 51, pos := "law.go:45", after := #[{ on := 9, ground := Go.Ground.guard }], guard := some (9, false) }) (v := _) rfl (by kernel_rfl) (by kernel_rfl) (by kernel_rfl) (fun _ _ _ h => h) (by kernel_rfl) (Or.inl ⟨by rfl, ?hy13⟩) hS4 ?rest13
  case hy13 => (intro W hSw; go_simp; try (with_reducible rfl))
  try simp only [Act.put, List.setIfInBounds_toArray, List.set_cons_zero, List.set_cons_succ]
  refine' wpAnyD_take (i := 14) (oi := { dst := some 26, op := Go.Op.load 35 (Go.Operand.tmp 5), type := 35, pos := "law.go:45", after := #[{ on := 9, ground := Go.Ground.guard }], guard := some (9, false) }) (v := _) rfl (by kernel_rfl) (by kernel_rfl) (by kernel_rfl) (fun _ _ _ h => h) (by kernel_rfl) (Or.inl ⟨by rfl, ?hy14⟩) hS4 ?rest14
  case hy14 => (intro W hSw; have h0 := (hSw.cell (p := ⟨w.heap.size, 0, none⟩) z1).trans d0; have h1 := (hSw.cell (p := ⟨w.heap.size, 1, none⟩) z1).trans d1; have h2 := (hSw.cell (p := ⟨w.heap.size, 2, none⟩) z1).trans d2; have h3 := (hSw.cell (p := ⟨w.heap.size, 3, none⟩) z1).trans d3; go_simp; try (with_reducible rfl))
  try simp only [Act.put, List.setIfInBounds_toArray, List.set_cons_zero, List.set_cons_succ]
  refine wpAnyD_one (i := 12) (o := { dst := some 24, op := Go.Op.call { callee := Go.Callee.value (Go.Operand.func 11), args := #[Go.Operand.tmp 22, Go.Operand.tmp 23], argTypes := #[24, 35] }, type := 2, pos := "law.go:45", after := #[{ on := 10, ground := Go.Ground.data }, { on := 11, ground := Go.Ground.data }, { on := 9, ground := Go.Ground.chain }, { on := 9, ground := Go.Ground.guard }], guard := some (9, false) }) (by kernel_rfl) rfl (fun K hK => ?_)
  go_simp
  refine (get_any s _ (LG1.out.below hS4)).mono ?_
  rintro e w5 ⟨rfl, g5⟩
  have hS5 : Below w1.heap.size w1 w5 := hS4.trans (g5.below.mono hS4.size)
  clear g5
  go_wp2_with fail
  refine hK.out _ _ (fun hD => hS5) ?_
  clear hK K
  try simp only [Act.put, List.setIfInBounds_toArray, List.set_cons_zero, List.set_cons_succ]
  refine wpAnyD_one (i := 15) (o := { dst := some 27, op := Go.Op.call { callee := Go.Callee.value (Go.Operand.func 30), args := #[Go.Operand.tmp 25, Go.Operand.tmp 26], argTypes := #[51, 35] }, type := 2, pos := "law.go:45", after := #[{ on := 13, ground := Go.Ground.data }, { on := 14, ground := Go.Ground.data }, { on := 12, ground := Go.Ground.chain }, { on := 9, ground := Go.Ground.guard }], guard := some (9, false) }) (by kernel_rfl) rfl (fun K hK => ?_)
  go_simp
  refine (rget_any s _ (RG1.out.below hS5) HO.out (Nat.le_trans hcl (by decide))).mono ?_
  rintro e w6 ⟨rfl, g6⟩
  have hS6 : Below w1.heap.size w1 w6 := hS5.trans (g6.below.mono hS5.size)
  clear g6
  go_wp2_with fail
  refine hK.out _ _ (fun hD => hS6) ?_
  clear hK K
  try simp only [Act.put, List.setIfInBounds_toArray, List.set_cons_zero, List.set_cons_succ]
  refine' wpAnyD_take (i := 16) (oi := { dst := some 28, op := Go.Op.binOp Go.BinOp.neq 2 (Go.Operand.tmp 24) (Go.Operand.tmp 27) 2, type := 4, pos := "law.go:45", after := #[{ on := 12, ground := Go.Ground.data }, { on := 15, ground := Go.Ground.data }, { on := 9, ground := Go.Ground.guard }], guard := some (9, false) }) (v := _) rfl (by kernel_rfl) (by kernel_rfl) (by kernel_rfl) (fun _ _ _ h => h) (by kernel_rfl) (Or.inl ⟨by rfl, ?hy17⟩) hS6 ?rest17
  case hy17 => (intro W hSw; go_simp; try (with_reducible rfl))
  try simp only [Act.put, List.setIfInBounds_toArray, List.set_cons_zero, List.set_cons_succ]
  refine' wpAnyD_take (i := 17) (oi := { dst := some 29, op := Go.Op.pick (Go.Operand.tmp 21) (Go.Operand.const (Go.Value.bool true)) (Go.Operand.tmp 28), type := 4, pos := "law.go:45", after := #[{ on := 9, ground := Go.Ground.data }, { on := 16, ground := Go.Ground.data }], guard := none }) (v := _) rfl (by kernel_rfl) (by kernel_rfl) (by kernel_rfl) (fun _ _ _ h => h) (by kernel_rfl) (Or.inl ⟨by rfl, ?hy18⟩) hS6 ?rest18
  case hy18 => (intro W hSw; go_simp; try (with_reducible rfl))
  try simp only [Act.put, List.setIfInBounds_toArray, List.set_cons_zero, List.set_cons_succ]
  refine' wpAnyD_take (i := 18) (oi := { dst := some 30, op := Go.Op.move (Go.Operand.tmp 29), type := 4, pos := "law.go:45", after := #[{ on := 17, ground := Go.Ground.data }, { on := 15, ground := Go.Ground.chain }], guard := none }) (v := _) rfl (by kernel_rfl) (by kernel_rfl) (by kernel_rfl) (fun _ _ _ h => h) (by kernel_rfl) (Or.inl ⟨by rfl, ?hy19⟩) hS6 ?rest19
  case hy19 => (intro W hSw; go_simp; try (with_reducible rfl))
  try simp only [Act.put, List.setIfInBounds_toArray, List.set_cons_zero, List.set_cons_succ]
  refine' wpAnyD_take (i := 19) (oi := { dst := some 31, op := Go.Op.move (Go.Operand.tmp 0), type := 24, pos := "law.go:45", after := #[{ on := 18, ground := Go.Ground.guard }], guard := some (18, false) }) (v := _) rfl (by kernel_rfl) (by kernel_rfl) (by kernel_rfl) (fun _ _ _ h => h) (by kernel_rfl) (Or.inl ⟨by rfl, ?hy20⟩) hS6 ?rest20
  case hy20 => (intro W hSw; go_simp; try (with_reducible rfl))
  try simp only [Act.put, List.setIfInBounds_toArray, List.set_cons_zero, List.set_cons_succ]
  refine' wpAnyD_take (i := 21) (oi := { dst := some 33, op := Go.Op.move (Go.Operand.tmp 7), type := 27, pos := "law.go:45", after := #[{ on := 18, ground := Go.Ground.guard }], guard := some (18, false) }) (v := _) rfl (by kernel_rfl) (by kernel_rfl) (by kernel_rfl) (fun _ _ _ h => h) (by kernel_rfl) (Or.inl ⟨by rfl, ?hy21⟩) hS6 ?rest21
  case hy21 => (intro W hSw; go_simp; try (with_reducible rfl))
  try simp only [Act.put, List.setIfInBounds_toArray, List.set_cons_zero, List.set_cons_succ]
  refine wpAnyD_one (i := 20) (o := { dst := some 32, op := Go.Op.call { callee := Go.Callee.value (Go.Operand.func 9), args := #[Go.Operand.tmp 31], argTypes := #[24] }, type := 27, pos := "law.go:45", after := #[{ on := 19, ground := Go.Ground.data }, { on := 18, ground := Go.Ground.chain }, { on := 18, ground := Go.Ground.guard }], guard := some (18, false) }) (by kernel_rfl) rfl (fun K hK => ?_)
  go_simp
  refine (changes_any _ (LG1.out.below hS6) (small1 hn).1).mono ?_
  rintro e w7 ⟨v7, ks7, hs7, rfl, ho7, -, hb7⟩
  rw [(HR.out ks7 hs7).1] at ho7
  have hS7 : Below w1.heap.size w1 w7 := hS6.trans (hb7.mono hS6.size)
  obtain ⟨p7, c7, rfl⟩ := owns_form ho7
  have L7 := hid (owns_ls (E := EC) ho7)
  clear hs7 ho7 hb7
  go_wp2_with fail
  refine hK.out _ _ (fun hD => hS7) ?_
  clear hK K
  try simp only [Act.put, List.setIfInBounds_toArray, List.set_cons_zero, List.set_cons_succ]
  refine wpAnyD_one (i := 22) (o := { dst := some 34, op := Go.Op.call { callee := Go.Callee.value (Go.Operand.func 8), args := #[Go.Operand.tmp 32, Go.Operand.tmp 33], argTypes := #[27, 27] }, type := 4, pos := "law.go:45", after := #[{ on := 20, ground := Go.Ground.data }, { on := 21, ground := Go.Ground.data }, { on := 20, ground := Go.Ground.chain }, { on := 18, ground := Go.Ground.guard }], guard := some (18, false) }) (by kernel_rfl) rfl (fun K hK => ?_)
  go_simp
  refine (same_any w7 L7.out (L1.out.below hS7) (Nat.le_trans RL0 (Nat.le_trans hcl (by decide)))).mono ?_
  rintro e w8 ⟨rfl, g8⟩
  have hS8 : Below w1.heap.size w1 w8 := hS7.trans (g8.below.mono hS7.size)
  clear g8
  go_wp2_with fail
  refine hK.out _ _ (fun hD => hS8) ?_
  clear hK K
  try simp only [Act.put, List.setIfInBounds_toArray, List.set_cons_zero, List.set_cons_succ]
  refine' wpAnyD_take (i := 23) (oi := { dst := some 35, op := Go.Op.unOp Go.UnOp.not 4 (Go.Operand.tmp 34), type := 4, pos := "law.go:45", after := #[{ on := 22, ground := Go.Ground.data }, { on := 18, ground := Go.Ground.guard }], guard := some (18, false) }) (v := _) rfl (by kernel_rfl) (by kernel_rfl) (by kernel_rfl) (fun _ _ _ h => h) (by kernel_rfl) (Or.inl ⟨by rfl, ?hy24⟩) hS8 ?rest24
  case hy24 => (intro W hSw; go_simp; try (with_reducible rfl))
  try simp only [Act.put, List.setIfInBounds_toArray, List.set_cons_zero, List.set_cons_succ]
  refine' wpAnyD_take (i := 24) (oi := { dst := some 36, op := Go.Op.pick (Go.Operand.tmp 30) (Go.Operand.const (Go.Value.bool true)) (Go.Operand.tmp 35), type := 4, pos := "law.go:45", after := #[{ on := 18, ground := Go.Ground.data }, { on := 23, ground := Go.Ground.data }], guard := none }) (v := _) rfl (by kernel_rfl) (by kernel_rfl) (by kernel_rfl) (fun _ _ _ h => h) (by kernel_rfl) (Or.inl ⟨by rfl, ?hy25⟩) hS8 ?rest25
  case hy25 => (intro W hSw; go_simp; try (with_reducible rfl))
  try simp only [Act.put, List.setIfInBounds_toArray, List.set_cons_zero, List.set_cons_succ]
  refine wpAnyD_done (by kernel_rfl) ?_ _
  have LG8 := hid (LG1.out.below hS8)
  have L8 := hid (L1.out.below hS8)
  have B8 := hid (B1.out.trans (hS8.mono B1.out.size))
  clear hS0 hS4 hS5 hS6 hS7 hS8 LG1 RG1 L1 L7 B1 d0 d1 d2 d3 z1 hxx
  have hke := lkeys_any w8 LG8.out (small1 hn).2
  go_wp2_with fail
  refine hke.mono ?_
  rintro e w9 ⟨v9, ks9, hs9, rfl, ho9, -, hb9⟩
  obtain ⟨K, hK⟩ : ∃ K, K = stS ks9 := ⟨_, rfl⟩
  have HKR := hid (show R = K.map fun x => (x, smf C x) by rw [hK]; exact ((HR.out ks9 hs9).1).symm)
  rw [← hK] at ho9
  have LK9 := hid (owns_ls (E := ES) ho9)
  rw [hK, (HR.out ks9 hs9).2.1] at ho9
  obtain ⟨p9, c9, rfl⟩ := owns_form ho9
  have LG9 := hid (LG8.out.below hb9)
  have L9 := hid (L8.out.below hb9)
  have B9 := hid (B8.out.trans (hb9.mono B8.out.size))
  have hRl : R.length ≤ 1000 := by omega
  clear hke hK hs9 ho9 hb9 LG8 L8 B8
  go_wp2_with fail
  go_loopw [46] (fun s46 wr => ∃ k : Nat, k ≤ R.length ∧ s46 = .int .i64 (k : Nat) ∧ Gr w9 wr) (fun s46 _ => R.length - (RowKit.intOf s46).toNat)
  case atStart => exact ⟨0, Nat.zero_le _, rfl, Gr.refl _⟩
  case round =>
    obtain ⟨k, hk, rfl, hgr⟩ := hrel
    by_cases hlt : k < R.length
    · have hltz : (k : Int) < (R.length : Int) := by omega
      have hk0 : (0 : Int) ≤ (k : Int) := by omega
      obtain ⟨x, hx⟩ : ∃ x, K[k]? = some x := ⟨K[k]'(by have h := hlt; rw [HKR.out, List.length_map] at h; exact h), by simp⟩
      obtain ⟨b1, o1, c1', e1, q1, x0, x1, x2, x3⟩ := (LK9.out.below hgr.below).atS hx
      simp only [Value.slice.injEq] at e1
      obtain ⟨rfl, -, rfl⟩ := e1
      obtain ⟨b2, o2, c2, e2, q2, y0, y1, y2, y3, y4⟩ := (L9.out.below hgr.below).atC (j := k) (p := (x, smf C x)) (by rw [HKR.out, List.getElem?_map, hx]; rfl)
      simp only [Value.slice.injEq] at e2
      obtain ⟨rfl, -, rfl⟩ := e2
      simp only at y0 y1 y2 y3 y4
      have heq : ∀ W, Sem.run Try.prog (Op.equalIn 10000 35 (mv x) (mv x)) W = .ok true W := fun W => (run_eqS x x W).trans (by rw [decide_eq_true rfl])
      have hgx := fun W (h : Gr wr W) => get_any x W ((LG9.out.gr hgr).gr h)
      have hyy : (smf C x != smf C x) = false := by simp
      have HGR := hid hgr
      have hS0 : Gr wr wr.drew := (Gr.refl wr).drew
      clear hx hgr
      generalize smf C x = nx at *
      go_upto_region 10 with fail
      refine wp_regionD (S := fun W => Gr wr W) (D := []) hmx ?_
      refine' wpAnyD_take (i := 0) (oi := { dst := some 49, op := Go.Op.move (Go.Operand.tmp 8), type := 29, pos := "law.go:53", after := #[], guard := none }) (v := _) rfl (by kernel_rfl) (by kernel_rfl) (by kernel_rfl) (fun _ _ _ h => h) (by kernel_rfl) (Or.inl ⟨by rfl, ?hy26⟩) hS0 ?rest26
      case hy26 => (intro W hSw; go_simp; try (with_reducible rfl))
      try simp only [Act.put, List.setIfInBounds_toArray, List.set_cons_zero, List.set_cons_succ]
      refine' wpAnyD_take (i := 1) (oi := { dst := some 50, op := Go.Op.move (Go.Operand.tmp 9), type := 3, pos := "law.go:53", after := #[], guard := none }) (v := _) rfl (by kernel_rfl) (by kernel_rfl) (by kernel_rfl) (fun _ _ _ h => h) (by kernel_rfl) (Or.inl ⟨by rfl, ?hy27⟩) hS0 ?rest27
      case hy27 => (intro W hSw; go_simp; try (with_reducible rfl))
      try simp only [Act.put, List.setIfInBounds_toArray, List.set_cons_zero, List.set_cons_succ]
      refine' wpAnyD_take (i := 2) (oi := { dst := some 51, op := Go.Op.indexAddr 29 (Go.Operand.tmp 49) (Go.Operand.tmp 50), type := 0, pos := "law.go:53", after := #[{ on := 0, ground := Go.Ground.data }, { on := 1, ground := Go.Ground.data }], guard := none }) (v := _) rfl (by kernel_rfl) (by kernel_rfl) (by kernel_rfl) (fun _ _ _ h => h) (by kernel_rfl) (Or.inl ⟨by rfl, ?hy28⟩) hS0 ?rest28
      case hy28 => (intro W hSw; go_simp; try (with_reducible rfl))
      try simp only [Act.put, List.setIfInBounds_toArray, List.set_cons_zero, List.set_cons_succ]
      refine' wpAnyD_take (i := 3) (oi := { dst := some 52, op := Go.Op.load 35 (Go.Operand.tmp 51), type := 35, pos := "law.go:53", after := #[{ on := 2, ground := Go.Ground.data }], guard := none }) (v := _) rfl (by kernel_rfl) (by kernel_rfl) (by kernel_rfl) (fun _ _ _ h => h) (by kernel_rfl) (Or.inl ⟨by rfl, ?hy29⟩) hS0 ?rest29
      case hy29 => (intro W hSw; have h0 := (hSw.cell q1).trans x0; have h1 := (hSw.cell q1).trans x1; have h2 := (hSw.cell q1).trans x2; have h3 := (hSw.cell q1).trans x3; go_simp; try (with_reducible rfl))
      try simp only [Act.put, List.setIfInBounds_toArray, List.set_cons_zero, List.set_cons_succ]
      refine' wpAnyD_take (i := 4) (oi := { dst := some 53, op := Go.Op.move (Go.Operand.tmp 7), type := 27, pos := "law.go:53", after := #[], guard := none }) (v := _) rfl (by kernel_rfl) (by kernel_rfl) (by kernel_rfl) (fun _ _ _ h => h) (by kernel_rfl) (Or.inl ⟨by rfl, ?hy30⟩) hS0 ?rest30
      case hy30 => (intro W hSw; go_simp; try (with_reducible rfl))
      try simp only [Act.put, List.setIfInBounds_toArray, List.set_cons_zero, List.set_cons_succ]
      refine' wpAnyD_take (i := 5) (oi := { dst := some 54, op := Go.Op.move (Go.Operand.tmp 9), type := 3, pos := "law.go:53", after := #[], guard := none }) (v := _) rfl (by kernel_rfl) (by kernel_rfl) (by kernel_rfl) (fun _ _ _ h => h) (by kernel_rfl) (Or.inl ⟨by rfl, ?hy31⟩) hS0 ?rest31
      case hy31 => (intro W hSw; go_simp; try (with_reducible rfl))
      try simp only [Act.put, List.setIfInBounds_toArray, List.set_cons_zero, List.set_cons_succ]
      refine' wpAnyD_take (i := 6) (oi := { dst := some 55, op := Go.Op.indexAddr 27 (Go.Operand.tmp 53) (Go.Operand.tmp 54), type := 0, pos := "law.go:53", after := #[{ on := 4, ground := Go.Ground.data }, { on := 5, ground := Go.Ground.data }], guard := none }) (v := _) rfl (by kernel_rfl) (by kernel_rfl) (by kernel_rfl) (fun _ _ _ h => h) (by kernel_rfl) (Or.inl ⟨by rfl, ?hy32⟩) hS0 ?rest32
      case hy32 => (intro W hSw; go_simp; try (with_reducible rfl))
      try simp only [Act.put, List.setIfInBounds_toArray, List.set_cons_zero, List.set_cons_succ]
      refine' wpAnyD_take (i := 7) (oi := { dst := some 56, op := Go.Op.fieldAddr 47 (Go.Operand.tmp 55) 0, type := 0, pos := "law.go:53", after := #[{ on := 6, ground := Go.Ground.data }], guard := none }) (v := _) rfl (by kernel_rfl) (by kernel_rfl) (by kernel_rfl) (fun _ _ _ h => h) (by kernel_rfl) (Or.inl ⟨by rfl, ?hy33⟩) hS0 ?rest33
      case hy33 => (intro W hSw; go_simp; try (with_reducible rfl))
      try simp only [Act.put, List.setIfInBounds_toArray, List.set_cons_zero, List.set_cons_succ]
      refine' wpAnyD_take (i := 8) (oi := { dst := some 57, op := Go.Op.load 35 (Go.Operand.tmp 56), type := 35, pos := "law.go:53", after := #[{ on := 7, ground := Go.Ground.data }], guard := none }) (v := _) rfl (by kernel_rfl) (by kernel_rfl) (by kernel_rfl) (fun _ _ _ h => h) (by kernel_rfl) (Or.inl ⟨by rfl, ?hy34⟩) hS0 ?rest34
      case hy34 => (intro W hSw; have h0 := (hSw.cell q2).trans y0; have h1 := (hSw.cell q2).trans y1; have h2 := (hSw.cell q2).trans y2; have h3 := (hSw.cell q2).trans y3; have h4 := (hSw.cell q2).trans y4; go_simp; try (with_reducible rfl))
      try simp only [Act.put, List.setIfInBounds_toArray, List.set_cons_zero, List.set_cons_succ]
      refine' wpAnyD_take (i := 9) (oi := { dst := some 58, op := Go.Op.binOp Go.BinOp.neq 35 (Go.Operand.tmp 52) (Go.Operand.tmp 57) 35, type := 4, pos := "law.go:53", after := #[{ on := 3, ground := Go.Ground.data }, { on := 8, ground := Go.Ground.data }], guard := none }) (v := _) rfl (by kernel_rfl) (by kernel_rfl) (by kernel_rfl) (fun _ _ _ h => h) (by kernel_rfl) (Or.inl ⟨by rfl, ?hy35⟩) hS0 ?rest35
      case hy35 => (intro W hSw; go_simp; try (with_reducible rfl))
      try simp only [Act.put, List.setIfInBounds_toArray, List.set_cons_zero, List.set_cons_succ]
      refine' wpAnyD_take (i := 10) (oi := { dst := some 59, op := Go.Op.move (Go.Operand.tmp 58), type := 4, pos := "law.go:53", after := #[{ on := 9, ground := Go.Ground.data }], guard := none }) (v := _) rfl (by kernel_rfl) (by kernel_rfl) (by kernel_rfl) (fun _ _ _ h => h) (by kernel_rfl) (Or.inl ⟨by rfl, ?hy36⟩) hS0 ?rest36
      case hy36 => (intro W hSw; go_simp; try (with_reducible rfl))
      try simp only [Act.put, List.setIfInBounds_toArray, List.set_cons_zero, List.set_cons_succ]
      refine' wpAnyD_take (i := 11) (oi := { dst := some 60, op := Go.Op.move (Go.Operand.tmp 0), type := 24, pos := "law.go:53", after := #[{ on := 10, ground := Go.Ground.guard }], guard := some (10, false) }) (v := _) rfl (by kernel_rfl) (by kernel_rfl) (by kernel_rfl) (fun _ _ _ h => h) (by kernel_rfl) (Or.inl ⟨by rfl, ?hy37⟩) hS0 ?rest37
      case hy37 => (intro W hSw; go_simp; try (with_reducible rfl))
      try simp only [Act.put, List.setIfInBounds_toArray, List.set_cons_zero, List.set_cons_succ]
      refine' wpAnyD_take (i := 12) (oi := { dst := some 61, op := Go.Op.move (Go.Operand.tmp 8), type := 29, pos := "law.go:53", after := #[{ on := 10, ground := Go.Ground.guard }], guard := some (10, false) }) (v := _) rfl (by kernel_rfl) (by kernel_rfl) (by kernel_rfl) (fun _ _ _ h => h) (by kernel_rfl) (Or.inl ⟨by rfl, ?hy38⟩) hS0 ?rest38
      case hy38 => (intro W hSw; go_simp; try (with_reducible rfl))
      try simp only [Act.put, List.setIfInBounds_toArray, List.set_cons_zero, List.set_cons_succ]
      refine' wpAnyD_take (i := 13) (oi := { dst := some 62, op := Go.Op.move (Go.Operand.tmp 9), type := 3, pos := "law.go:53", after := #[{ on := 10, ground := Go.Ground.guard }], guard := some (10, false) }) (v := _) rfl (by kernel_rfl) (by kernel_rfl) (by kernel_rfl) (fun _ _ _ h => h) (by kernel_rfl) (Or.inl ⟨by rfl, ?hy39⟩) hS0 ?rest39
      case hy39 => (intro W hSw; go_simp; try (with_reducible rfl))
      try simp only [Act.put, List.setIfInBounds_toArray, List.set_cons_zero, List.set_cons_succ]
      refine' wpAnyD_take (i := 14) (oi := { dst := some 63, op := Go.Op.indexAddr 29 (Go.Operand.tmp 61) (Go.Operand.tmp 62), type := 0, pos := "law.go:53", after := #[{ on := 12, ground := Go.Ground.data }, { on := 13, ground := Go.Ground.data }, { on := 10, ground := Go.Ground.guard }], guard := some (10, false) }) (v := _) rfl (by kernel_rfl) (by kernel_rfl) (by kernel_rfl) (fun _ _ _ h => h) (by kernel_rfl) (Or.inl ⟨by rfl, ?hy40⟩) hS0 ?rest40
      case hy40 => (intro W hSw; go_simp; try (with_reducible rfl))
      try simp only [Act.put, List.setIfInBounds_toArray, List.set_cons_zero, List.set_cons_succ]
      refine' wpAnyD_take (i := 15) (oi := { dst := some 64, op := Go.Op.load 35 (Go.Operand.tmp 63), type := 35, pos := "law.go:53", after := #[{ on := 14, ground := Go.Ground.data }, { on := 10, ground := Go.Ground.guard }], guard := some (10, false) }) (v := _) rfl (by kernel_rfl) (by kernel_rfl) (by kernel_rfl) (fun _ _ _ h => h) (by kernel_rfl) (Or.inl ⟨by rfl, ?hy41⟩) hS0 ?rest41
      case hy41 => (intro W hSw; have h0 := (hSw.cell q1).trans x0; have h1 := (hSw.cell q1).trans x1; have h2 := (hSw.cell q1).trans x2; have h3 := (hSw.cell q1).trans x3; go_simp; try (with_reducible rfl))
      try simp only [Act.put, List.setIfInBounds_toArray, List.set_cons_zero, List.set_cons_succ]
      refine' wpAnyD_take (i := 17) (oi := { dst := some 66, op := Go.Op.move (Go.Operand.tmp 7), type := 27, pos := "law.go:53", after := #[{ on := 10, ground := Go.Ground.guard }], guard := some (10, false) }) (v := _) rfl (by kernel_rfl) (by kernel_rfl) (by kernel_rfl) (fun _ _ _ h => h) (by kernel_rfl) (Or.inl ⟨by rfl, ?hy42⟩) hS0 ?rest42
      case hy42 => (intro W hSw; go_simp; try (with_reducible rfl))
      try simp only [Act.put, List.setIfInBounds_toArray, List.set_cons_zero, List.set_cons_succ]
      refine' wpAnyD_take (i := 18) (oi := { dst := some 67, op := Go.Op.move (Go.Operand.tmp 9), type := 3, pos := "law.go:53", after := #[{ on := 10, ground := Go.Ground.guard }], guard := some (10, false) }) (v := _) rfl (by kernel_rfl) (by kernel_rfl) (by kernel_rfl) (fun _ _ _ h => h) (by kernel_rfl) (Or.inl ⟨by rfl, ?hy43⟩) hS0 ?rest43
      case hy43 => (intro W hSw; go_simp; try (with_reducible rfl))
      try simp only [Act.put, List.setIfInBounds_toArray, List.set_cons_zero, List.set_cons_succ]
      refine' wpAnyD_take (i := 19) (oi := { dst := some 68, op := Go.Op.indexAddr 27 (Go.Operand.tmp 66) (Go.Operand.tmp 67), type := 0, pos := "law.go:53", after := #[{ on := 17, ground := Go.Ground.data }, { on := 18, ground := Go.Ground.data }, { on := 10, ground := Go.Ground.guard }], guard := some (10, false) }) (v := _) rfl (by kernel_rfl) (by kernel_rfl) (by kernel_rfl) (fun _ _ _ h => h) (by kernel_rfl) (Or.inl ⟨by rfl, ?hy44⟩) hS0 ?rest44
      case hy44 => (intro W hSw; go_simp; try (with_reducible rfl))
      try simp only [Act.put, List.setIfInBounds_toArray, List.set_cons_zero, List.set_cons_succ]
      refine' wpAnyD_take (i := 20) (oi := { dst := some 69, op := Go.Op.fieldAddr 47 (Go.Operand.tmp 68) 1, type := 0, pos := "law.go:53", after := #[{ on := 19, ground := Go.Ground.data }, { on := 10, ground := Go.Ground.guard }], guard := some (10, false) }) (v := _) rfl (by kernel_rfl) (by kernel_rfl) (by kernel_rfl) (fun _ _ _ h => h) (by kernel_rfl) (Or.inl ⟨by rfl, ?hy45⟩) hS0 ?rest45
      case hy45 => (intro W hSw; go_simp; try (with_reducible rfl))
      try simp only [Act.put, List.setIfInBounds_toArray, List.set_cons_zero, List.set_cons_succ]
      refine' wpAnyD_take (i := 21) (oi := { dst := some 70, op := Go.Op.load 2 (Go.Operand.tmp 69), type := 2, pos := "law.go:53", after := #[{ on := 20, ground := Go.Ground.data }, { on := 10, ground := Go.Ground.guard }], guard := some (10, false) }) (v := _) rfl (by kernel_rfl) (by kernel_rfl) (by kernel_rfl) (fun _ _ _ h => h) (by kernel_rfl) (Or.inl ⟨by rfl, ?hy46⟩) hS0 ?rest46
      case hy46 => (intro W hSw; have h0 := (hSw.cell q2).trans y0; have h1 := (hSw.cell q2).trans y1; have h2 := (hSw.cell q2).trans y2; have h3 := (hSw.cell q2).trans y3; have h4 := (hSw.cell q2).trans y4; go_simp; try (with_reducible rfl))
      try simp only [Act.put, List.setIfInBounds_toArray, List.set_cons_zero, List.set_cons_succ]
      refine wpAnyD_one (i := 16) (o := { dst := some 65, op := Go.Op.call { callee := Go.Callee.value (Go.Operand.func 11), args := #[Go.Operand.tmp 60, Go.Operand.tmp 64], argTypes := #[24, 35] }, type := 2, pos := "law.go:53", after := #[{ on := 11, ground := Go.Ground.data }, { on := 15, ground := Go.Ground.data }, { on := 10, ground := Go.Ground.chain }, { on := 10, ground := Go.Ground.guard }], guard := some (10, false) }) (by kernel_rfl) rfl (fun K hK => ?_)
      go_simp
      refine (hgx _ hS0).mono ?_
      rintro e w11 ⟨rfl, g11⟩
      have hS11 : Gr wr w11 := hS0.trans g11
      clear g11
      go_wp2_with fail
      refine hK.out _ _ (fun hD => hS11) ?_
      clear hK K
      try simp only [Act.put, List.setIfInBounds_toArray, List.set_cons_zero, List.set_cons_succ]
      refine' wpAnyD_take (i := 22) (oi := { dst := some 71, op := Go.Op.binOp Go.BinOp.neq 2 (Go.Operand.tmp 65) (Go.Operand.tmp 70) 2, type := 4, pos := "law.go:53", after := #[{ on := 16, ground := Go.Ground.data }, { on := 21, ground := Go.Ground.data }, { on := 10, ground := Go.Ground.guard }], guard := some (10, false) }) (v := _) rfl (by kernel_rfl) (by kernel_rfl) (by kernel_rfl) (fun _ _ _ h => h) (by kernel_rfl) (Or.inl ⟨by rfl, ?hy48⟩) hS11 ?rest48
      case hy48 => (intro W hSw; go_simp; try (with_reducible rfl))
      try simp only [Act.put, List.setIfInBounds_toArray, List.set_cons_zero, List.set_cons_succ]
      refine' wpAnyD_take (i := 23) (oi := { dst := some 72, op := Go.Op.pick (Go.Operand.tmp 59) (Go.Operand.const (Go.Value.bool true)) (Go.Operand.tmp 71), type := 4, pos := "law.go:53", after := #[{ on := 10, ground := Go.Ground.data }, { on := 22, ground := Go.Ground.data }], guard := none }) (v := _) rfl (by kernel_rfl) (by kernel_rfl) (by kernel_rfl) (fun _ _ _ h => h) (by kernel_rfl) (Or.inl ⟨by rfl, ?hy49⟩) hS11 ?rest49
      case hy49 => (intro W hSw; go_simp; try (with_reducible rfl))
      try simp only [Act.put, List.setIfInBounds_toArray, List.set_cons_zero, List.set_cons_succ]
      refine wpAnyD_done (by kernel_rfl) ?_ _
      go_wp2_with fail
      go_roundw
      case rel => exact ⟨k + 1, by omega, by go_num, HGR.out.trans hS11⟩
      case measure => simp [RowKit.intOf]; omega
    · have hltz : ¬ (k : Int) < (R.length : Int) := by omega
      go_wp2
      go_ret
      exact ⟨rfl, B9.out.trans (hgr.below.mono B9.out.size)⟩
end Go.Proofs.Ytcmgmgnmhhkdgaa
