import Derived.Test.YtghofmhlmkpkcaaDoorBLay
namespace Go.Proofs.YtghofmhlmkpkcaaDoor.Wi
open Go.RowKit Go.Sort
attribute [local go_sem ↓] Go.wp_at_zero Go.wp_at_succ
set_option maxHeartbeats 4000000 in
set_option maxRecDepth 100000 in
theorem behind_any (c : Cx) {v : Value} {l : List Cx} (w : World) (hL : Ls EC w v l) (hl : l.length < 4611686018427387904) :
    Calls Tryd.prog 30 #[gv c, v] w fun e w' => e = .returned (.bool (bh l.getLast? c)) ∧ Gr w w' := by
  have hmx : Tryd.prog.follows .mixedOrders = true := by kernel_rfl
  rcases List.eq_nil_or_concat l with rfl | ⟨m, d, rfl⟩
  · obtain ⟨pv, cv, rfl⟩ := hL.form
    rw [show bh ([] : List Cx).getLast? c = true from rfl]
    clear hL
    go_enter Tryd.func30, Tryd.ntmps30
    go_wp2_with fail
    go_ret
    exact ⟨rfl, (Gr.refl _).alloc _⟩
  · obtain ⟨b, off, cv, rfl, hb, x0, x1, x2, x3, -⟩ := ls_atC (j := m.length) (p := d) hL (by simp)
    clear hL
    rw [List.concat_eq_append] at hl ⊢
    rw [show bh (m ++ [d]).getLast? c = decide (lt4 d c) by simp [bh]]
    rw [List.length_append, List.length_singleton] at hl ⊢
    obtain ⟨j, hj⟩ : ∃ j, m.length = j := ⟨_, rfl⟩
    rw [hj] at hl x0 x1 x2 x3 ⊢
    obtain ⟨o, ho⟩ : ∃ o, off + j * 5 = o := ⟨_, rfl⟩
    rw [ho] at x0 x1 x2 x3
    have hz0 : ¬ (((j + 1 : Nat) : Int) = 0) := by omega
    have hz1 : IntKind.i64.wrap (((j + 1 : Nat) : Int) - 1) = (j : Int) := by rw [IntKind.wrap_i64]; omega
    have hz2 : (0 : Int) ≤ (j : Int) := by omega
    have hz3 : (j : Int) < ((j + 1 : Nat) : Int) := by omega
    obtain ⟨n1, hn1⟩ : ∃ n1, n1 = j + 1 := ⟨_, rfl⟩
    rw [← hn1] at hz0 hz1 hz3 ⊢
    have hor := fun W => order_any d c W
    have hneg := scm_neg d c
    have HD : Hid (decide (scm d c < 0) = decide (lt4 d c)) := by
      show _ = _
      by_cases h : lt4 d c
      · rw [decide_eq_true h, decide_eq_true (hneg.2 h)]
      · rw [decide_eq_false h, decide_eq_false (fun x => h (hneg.1 x))]
    rw [← HD.out]
    generalize scm d c = sc at hor
    obtain ⟨W1, hW1⟩ : ∃ W, W = w.alloc (.cells #[.int .i64 c.pl, .int .u64 (c.A : Nat), .int .u64 (c.B : Nat), .int .u64 (c.C : Nat), .int .i64 c.N] 43) := ⟨_, rfl⟩
    obtain ⟨B0, hB0⟩ : ∃ B, B = w.heap.size := ⟨_, rfl⟩
    have G1 : Gr w W1 := by rw [hW1]; exact (Gr.refl _).alloc _
    have hb1 : W1.heap[B0]? = some (.cells #[.int .i64 c.pl, .int .u64 (c.A : Nat), .int .u64 (c.B : Nat), .int .u64 (c.C : Nat), .int .i64 c.N] 43 (0, 0)) := by rw [hW1, hB0]; exact heap_new' _ _
    obtain ⟨z0, z1, z2, z3, -, z5⟩ := box_at hb1
    have S0 : W1.drew.cell? ⟨B0, 0, none⟩ = some (.int .i64 c.pl) ∧ W1.drew.cell? ⟨B0, 1, none⟩ = some (.int .u64 (c.A : Nat)) ∧ W1.drew.cell? ⟨B0, 2, none⟩ = some (.int .u64 (c.B : Nat)) ∧ W1.drew.cell? ⟨B0, 3, none⟩ = some (.int .u64 (c.C : Nat)) ∧ W1.drew.cell? ⟨b, o, none⟩ = some (.int .i64 d.pl) ∧ W1.drew.cell? ⟨b, o + 1, none⟩ = some (.int .u64 (d.A : Nat)) ∧ W1.drew.cell? ⟨b, o + 2, none⟩ = some (.int .u64 (d.B : Nat)) ∧ W1.drew.cell? ⟨b, o + 3, none⟩ = some (.int .u64 (d.C : Nat)) ∧ B0 < W1.drew.heap.size ∧ b < W1.drew.heap.size := ⟨z0, z1, z2, z3, (G1.cell hb).trans x0, (G1.cell hb).trans x1, (G1.cell hb).trans x2, (G1.cell hb).trans x3, z5, Nat.lt_of_lt_of_le hb G1.size⟩
    have HG := hid G1
    clear z0 z1 z2 z3 z5 x0 x1 x2 x3 hb G1 hb1 hneg HD hl hj hn1
    go_enter Tryd.func30, Tryd.ntmps30
    go_upto_region 3 with fail
    (try rw [← hW1])
    (try rw [← hB0])
    clear hW1 hB0
    refine wp_regionD (S := fun W => (W.cell? ⟨B0, 0, none⟩ = some (.int .i64 c.pl) ∧ W.cell? ⟨B0, 1, none⟩ = some (.int .u64 (c.A : Nat)) ∧ W.cell? ⟨B0, 2, none⟩ = some (.int .u64 (c.B : Nat)) ∧ W.cell? ⟨B0, 3, none⟩ = some (.int .u64 (c.C : Nat)) ∧ W.cell? ⟨b, o, none⟩ = some (.int .i64 d.pl) ∧ W.cell? ⟨b, o + 1, none⟩ = some (.int .u64 (d.A : Nat)) ∧ W.cell? ⟨b, o + 2, none⟩ = some (.int .u64 (d.B : Nat)) ∧ W.cell? ⟨b, o + 3, none⟩ = some (.int .u64 (d.C : Nat)) ∧ B0 < W.heap.size ∧ b < W.heap.size)) (D := []) hmx ?_
    refine' wpAnyD_take (i := 0) (oi := { dst := some 8, op := Go.Op.move (Go.Operand.tmp 1), type := 24, pos := "batch.go:79", after := #[], guard := none }) (v := _) rfl (by kernel_rfl) (by kernel_rfl) (by kernel_rfl) (fun _ _ _ h => h) (by kernel_rfl) (Or.inl ⟨by rfl, ?hy1⟩) S0 ?rest1
    case hy1 => (intro W hSw; (try dsimp only at hSw); obtain ⟨s1, s2, s3, s4, s5, s6, s7, s8, s9, s10⟩ := hSw; go_simp; (try rw [ho]); try (with_reducible rfl))
    try simp only [Act.put, List.setIfInBounds_toArray, List.set_cons_zero, List.set_cons_succ]
    refine' wpAnyD_take (i := 1) (oi := { dst := some 9, op := Go.Op.move (Go.Operand.tmp 1), type := 24, pos := "batch.go:79", after := #[], guard := none }) (v := _) rfl (by kernel_rfl) (by kernel_rfl) (by kernel_rfl) (fun _ _ _ h => h) (by kernel_rfl) (Or.inl ⟨by rfl, ?hy2⟩) S0 ?rest2
    case hy2 => (intro W hSw; (try dsimp only at hSw); obtain ⟨s1, s2, s3, s4, s5, s6, s7, s8, s9, s10⟩ := hSw; go_simp; (try rw [ho]); try (with_reducible rfl))
    try simp only [Act.put, List.setIfInBounds_toArray, List.set_cons_zero, List.set_cons_succ]
    refine' wpAnyD_take (i := 2) (oi := { dst := some 10, op := Go.Op.call { callee := Go.Callee.builtin Go.Builtin.len, args := #[Go.Operand.tmp 9], argTypes := #[24] }, type := 3, pos := "batch.go:79", after := #[{ on := 1, ground := Go.Ground.data }], guard := none }) (v := _) rfl (by kernel_rfl) (by kernel_rfl) (by kernel_rfl) (fun _ _ _ h => h) (by kernel_rfl) (Or.inl ⟨by rfl, ?hy3⟩) S0 ?rest3
    case hy3 => (intro W hSw; (try dsimp only at hSw); obtain ⟨s1, s2, s3, s4, s5, s6, s7, s8, s9, s10⟩ := hSw; go_simp; (try rw [ho]); try (with_reducible rfl))
    try simp only [Act.put, List.setIfInBounds_toArray, List.set_cons_zero, List.set_cons_succ]
    refine' wpAnyD_take (i := 3) (oi := { dst := some 11, op := Go.Op.binOp Go.BinOp.sub 3 (Go.Operand.tmp 10) (Go.Operand.const (Go.Value.int Go.IntKind.i64 1)) 3, type := 3, pos := "batch.go:79", after := #[{ on := 2, ground := Go.Ground.data }], guard := none }) (v := _) rfl (by kernel_rfl) (by kernel_rfl) (by kernel_rfl) (fun _ _ _ h => h) (by kernel_rfl) (Or.inl ⟨by rfl, ?hy4⟩) S0 ?rest4
    case hy4 => (intro W hSw; (try dsimp only at hSw); obtain ⟨s1, s2, s3, s4, s5, s6, s7, s8, s9, s10⟩ := hSw; go_simp; (try rw [ho]); try (with_reducible rfl))
    try simp only [Act.put, List.setIfInBounds_toArray, List.set_cons_zero, List.set_cons_succ]
    refine' wpAnyD_take (i := 4) (oi := { dst := some 12, op := Go.Op.indexAddr 24 (Go.Operand.tmp 8) (Go.Operand.tmp 11), type := 0, pos := "batch.go:79", after := #[{ on := 0, ground := Go.Ground.data }, { on := 3, ground := Go.Ground.data }], guard := none }) (v := _) rfl (by kernel_rfl) (by kernel_rfl) (by kernel_rfl) (fun _ _ _ h => h) (by kernel_rfl) (Or.inl ⟨by rfl, ?hy5⟩) S0 ?rest5
    case hy5 => (intro W hSw; (try dsimp only at hSw); obtain ⟨s1, s2, s3, s4, s5, s6, s7, s8, s9, s10⟩ := hSw; go_simp; (try rw [ho]); try (with_reducible rfl))
    try simp only [Act.put, List.setIfInBounds_toArray, List.set_cons_zero, List.set_cons_succ]
    refine' wpAnyD_take (i := 5) (oi := { dst := some 13, op := Go.Op.fieldAddr 43 (Go.Operand.tmp 12) 0, type := 0, pos := "batch.go:79", after := #[{ on := 4, ground := Go.Ground.data }], guard := none }) (v := _) rfl (by kernel_rfl) (by kernel_rfl) (by kernel_rfl) (fun _ _ _ h => h) (by kernel_rfl) (Or.inl ⟨by rfl, ?hy6⟩) S0 ?rest6
    case hy6 => (intro W hSw; (try dsimp only at hSw); obtain ⟨s1, s2, s3, s4, s5, s6, s7, s8, s9, s10⟩ := hSw; go_simp; (try rw [ho]); try (with_reducible rfl))
    try simp only [Act.put, List.setIfInBounds_toArray, List.set_cons_zero, List.set_cons_succ]
    refine' wpAnyD_take (i := 6) (oi := { dst := some 14, op := Go.Op.load 41 (Go.Operand.tmp 13), type := 41, pos := "batch.go:79", after := #[{ on := 5, ground := Go.Ground.data }], guard := none }) (v := _) rfl (by kernel_rfl) (by kernel_rfl) (by kernel_rfl) (fun _ _ _ h => h) (by kernel_rfl) (Or.inl ⟨by rfl, ?hy7⟩) S0 ?rest7
    case hy7 => (intro W hSw; (try dsimp only at hSw); obtain ⟨s1, s2, s3, s4, s5, s6, s7, s8, s9, s10⟩ := hSw; go_simp; (try rw [ho]); try (with_reducible rfl))
    try simp only [Act.put, List.setIfInBounds_toArray, List.set_cons_zero, List.set_cons_succ]
    refine' wpAnyD_take (i := 7) (oi := { dst := some 15, op := Go.Op.fieldAddr 43 (Go.Operand.tmp 2) 0, type := 0, pos := "batch.go:79", after := #[], guard := none }) (v := _) rfl (by kernel_rfl) (by kernel_rfl) (by kernel_rfl) (fun _ _ _ h => h) (by kernel_rfl) (Or.inl ⟨by rfl, ?hy8⟩) S0 ?rest8
    case hy8 => (intro W hSw; (try dsimp only at hSw); obtain ⟨s1, s2, s3, s4, s5, s6, s7, s8, s9, s10⟩ := hSw; go_simp; (try rw [ho]); try (with_reducible rfl))
    try simp only [Act.put, List.setIfInBounds_toArray, List.set_cons_zero, List.set_cons_succ]
    refine' wpAnyD_take (i := 8) (oi := { dst := some 16, op := Go.Op.load 41 (Go.Operand.tmp 15), type := 41, pos := "batch.go:79", after := #[{ on := 7, ground := Go.Ground.data }], guard := none }) (v := _) rfl (by kernel_rfl) (by kernel_rfl) (by kernel_rfl) (fun _ _ _ h => h) (by kernel_rfl) (Or.inl ⟨by rfl, ?hy9⟩) S0 ?rest9
    case hy9 => (intro W hSw; (try dsimp only at hSw); obtain ⟨s1, s2, s3, s4, s5, s6, s7, s8, s9, s10⟩ := hSw; go_simp; (try rw [ho]); try (with_reducible rfl))
    try simp only [Act.put, List.setIfInBounds_toArray, List.set_cons_zero, List.set_cons_succ]
    refine wpAnyD_one (i := 9) (o := { dst := some 17, op := Go.Op.call { callee := Go.Callee.value (Go.Operand.func 50), args := #[Go.Operand.tmp 14, Go.Operand.tmp 16], argTypes := #[41, 41] }, type := 3, pos := "batch.go:79", after := #[{ on := 6, ground := Go.Ground.data }, { on := 8, ground := Go.Ground.data }], guard := none }) (by kernel_rfl) rfl (fun K hK => ?_)
    rw [if_pos (by kernel_rfl)]
    go_simp
    refine (hor _).mono ?_
    rintro e w9 ⟨rfl, g9⟩
    have HG9 := hid (HG.out.drew.trans g9)
    have S9 : w9.cell? ⟨B0, 0, none⟩ = some (.int .i64 c.pl) ∧ w9.cell? ⟨B0, 1, none⟩ = some (.int .u64 (c.A : Nat)) ∧ w9.cell? ⟨B0, 2, none⟩ = some (.int .u64 (c.B : Nat)) ∧ w9.cell? ⟨B0, 3, none⟩ = some (.int .u64 (c.C : Nat)) ∧ w9.cell? ⟨b, o, none⟩ = some (.int .i64 d.pl) ∧ w9.cell? ⟨b, o + 1, none⟩ = some (.int .u64 (d.A : Nat)) ∧ w9.cell? ⟨b, o + 2, none⟩ = some (.int .u64 (d.B : Nat)) ∧ w9.cell? ⟨b, o + 3, none⟩ = some (.int .u64 (d.C : Nat)) ∧ B0 < w9.heap.size ∧ b < w9.heap.size := by
      obtain ⟨s1, s2, s3, s4, s5, s6, s7, s8, s9, s10⟩ := S0
      exact ⟨(g9.cell s9).trans s1, (g9.cell s9).trans s2, (g9.cell s9).trans s3, (g9.cell s9).trans s4, (g9.cell s10).trans s5, (g9.cell s10).trans s6, (g9.cell s10).trans s7, (g9.cell s10).trans s8, Nat.lt_of_lt_of_le s9 g9.size, Nat.lt_of_lt_of_le s10 g9.size⟩
    dsimp only
    refine hK.out _ _ (fun hD => S9) ?_
    clear hK K
    try simp only [Act.put, List.setIfInBounds_toArray, List.set_cons_zero, List.set_cons_succ]
    refine wpAnyD_one (i := 10) (o := { dst := some 18, op := Go.Op.binOp Go.BinOp.lss 3 (Go.Operand.tmp 17) (Go.Operand.const (Go.Value.int Go.IntKind.i64 0)) 3, type := 4, pos := "batch.go:79", after := #[{ on := 9, ground := Go.Ground.data }], guard := none }) (by kernel_rfl) rfl (fun K hK => ?_)
    rw [if_pos (by kernel_rfl)]
    go_simp
    refine hK.out _ _ (fun hD => S9) ?_
    clear hK K
    try simp only [Act.put, List.setIfInBounds_toArray, List.set_cons_zero, List.set_cons_succ]
    refine wpAnyD_one (i := 11) (o := { dst := some 4, op := Go.Op.assign (Go.Operand.tmp 18), type := 4, pos := "batch.go:79", after := #[{ on := 10, ground := Go.Ground.data }, { on := 9, ground := Go.Ground.chain }, { on := 0, ground := Go.Ground.phase }, { on := 1, ground := Go.Ground.phase }, { on := 2, ground := Go.Ground.phase }, { on := 3, ground := Go.Ground.phase }, { on := 4, ground := Go.Ground.phase }, { on := 5, ground := Go.Ground.phase }, { on := 6, ground := Go.Ground.phase }, { on := 7, ground := Go.Ground.phase }, { on := 8, ground := Go.Ground.phase }, { on := 9, ground := Go.Ground.phase }, { on := 10, ground := Go.Ground.phase }], guard := none }) (by kernel_rfl) rfl (fun K hK => ?_)
    rw [if_pos (by kernel_rfl)]
    go_simp
    refine hK.out _ _ (fun hD => S9) ?_
    clear hK K
    try simp only [Act.put, List.setIfInBounds_toArray, List.set_cons_zero, List.set_cons_succ]
    refine wpAnyD_done (by kernel_rfl) ?_ _
    go_wp2
    go_ret
    exact ⟨rfl, HG9.out⟩
end Go.Proofs.YtghofmhlmkpkcaaDoor.Wi
