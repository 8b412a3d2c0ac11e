import Derived.Test.YtcdmgclkgojgaaaPoPr
import Derived.WalkMore
namespace Go.Proofs.Ytcdmgclkgojgaaa.Pi
open Go.RowKit Go.Sort
attribute [local go_sem ↓] Go.wp_at_zero Go.wp_at_succ
set_option maxHeartbeats 16000000 in
set_option maxRecDepth 100000 in
theorem answered_any {tag : Nat → Nat} {a b hb rb W N : Nat} {Q : Nat → List Int} {L : List Tg} (o : Po.Th) (w : World) (h : Pr w tag a b hb rb W N Q L) (hab : a ≠ b) (ha0 : a ≠ 0) (hb0 : b ≠ 0) (hN : (N + 1) * 24 ≤ 140737488355328) :
    Calls Try.prog 22 #[.pointer (some ⟨hb, 0, none⟩), .pointer (some ⟨rb, 0, none⟩), Po.tv o] w fun e w' => e = .returned (.bool true) ∧ Hid (Af w tag a b hb rb W (N + 1) w') := by
  have hmx : Try.prog.follows .mixedOrders = true := by kernel_rfl
  obtain ⟨xa, xo, F, T, xv⟩ := o
  obtain ⟨b5, hb5⟩ : ∃ b5, b5 = w.heap.size := ⟨_, rfl⟩
  obtain ⟨W1, hW1⟩ : ∃ W1, W1 = w.alloc (.cells #[.int .i64 xa, .int .i64 xo, .int .i64 F, .int .i64 T, .int .i64 xv] 28) := ⟨_, rfl⟩
  have G1 : Gr w W1 := by rw [hW1]; exact (Gr.refl _).alloc _
  have X1 : Hid (W1.heap[b5]? = some (.cells #[.int .i64 xa, .int .i64 xo, .int .i64 F, .int .i64 T, .int .i64 xv] 28 (0, 0))) := by rw [hW1, hb5]; exact heap_new' _ _
  have P1 := hid (h.below G1.below 0)
  have N1 := hid (Nx.below (fun k => k = a ∨ k = b) tag 0 G1.below)
  have H0 : Hid (tg tag w 0 b5 = 0) := tg_new (Nat.le_of_eq hb5.symm)
  have HN := hid hN
  have HW := hid h.w8
  obtain ⟨tag1, ht1⟩ : ∃ tag1, tag1 = tg tag w 0 := ⟨_, rfl⟩
  rw [← ht1] at P1 N1 H0
  have HBN : Hid (tag1 b5 ≠ a ∧ tag1 b5 ≠ b) := by rw [H0.out]; exact ⟨fun e => ha0 e.symm, fun e => hb0 e.symm⟩
  clear h G1 hN ht1 ha0 hb0
  have HEND : Hid (∀ w', Af W1 tag1 a b hb rb W (N + 1) w' → Af w tag a b hb rb W (N + 1) w') := fun w' h => Af.pre N1.out h
  go_enter Try.func22, Try.ntmps22
  go_upto_region 1 with fail
  rw [← hW1, ← hb5]
  clear hW1 hb5
  obtain ⟨⟨q0, q1, q2, q3, q4⟩, -, q5⟩ := Po.box_at (x := (xa, xo, F, T, xv)) X1.out
  dsimp only at q0 q1 q2 q3 q4
  by_cases hk0 : xa = 0
  · have kb0 : (xa == 0) = true := by simp [hk0]
    clear hk0
    have PD := hid (P1.out.same (Gr.refl W1).drew.below)
    have ND := hid (Nx.same (fun k => k = a ∨ k = b) tag1 (Gr.refl W1).drew.below)
    have S0 : W1.drew.cell? ⟨b5, 2, none⟩ = some (.int .i64 F) ∧ W1.drew.cell? ⟨b5, 3, none⟩ = some (.int .i64 T) ∧ W1.drew.cell? ⟨b5, 4, none⟩ = some (.int .i64 xv) ∧ b5 < W1.drew.heap.size := ⟨q2, q3, q4, q5⟩
    have hput := PD.out.putP F T xv HN.out
    have hputR := fun (wP : World) (tP : Nat → Nat) (h1 : Pt wP tP a hb W (N + 1) (ptn W Q F T xv)) (h2 : Nx (fun k => k = a) tag1 tP W1.drew wP) => PD.out.putR hab F T xv HN.out h1 h2
    generalize pe W F T = pv at hput hputR
    go_upto_region 3 with fail
    refine wp_regionD (S := fun W => W.cell? ⟨b5, 2, none⟩ = some (.int .i64 F) ∧ W.cell? ⟨b5, 3, none⟩ = some (.int .i64 T) ∧ W.cell? ⟨b5, 4, none⟩ = some (.int .i64 xv) ∧ b5 < W.heap.size) (D := []) hmx ?_
    refine' wpAnyD_take (i := 0) (oi := { dst := some 19, op := Go.Op.move (Go.Operand.tmp 0), type := 49, pos := "law.go:79", after := #[], guard := none }) (v := _) rfl (by kernel_rfl) (by kernel_rfl) (by kernel_rfl) (fun _ _ _ h => h) (by kernel_rfl) (Or.inl ⟨by rfl, ?hy1⟩) S0 ?rest1
    case hy1 => (intro W hSw; go_simp; try (with_reducible rfl))
    try simp only [Act.put, List.setIfInBounds_toArray, List.set_cons_zero, List.set_cons_succ]
    refine' wpAnyD_take (i := 1) (oi := { dst := some 20, op := Go.Op.fieldAddr 28 (Go.Operand.tmp 5) 2, type := 0, pos := "law.go:79", after := #[], guard := none }) (v := _) rfl (by kernel_rfl) (by kernel_rfl) (by kernel_rfl) (fun _ _ _ h => h) (by kernel_rfl) (Or.inl ⟨by rfl, ?hy2⟩) S0 ?rest2
    case hy2 => (intro W hSw; go_simp; try (with_reducible rfl))
    try simp only [Act.put, List.setIfInBounds_toArray, List.set_cons_zero, List.set_cons_succ]
    refine' wpAnyD_take (i := 2) (oi := { dst := some 21, op := Go.Op.load 3 (Go.Operand.tmp 20), type := 3, pos := "law.go:79", after := #[{ on := 1, ground := Go.Ground.data }], guard := none }) (v := _) rfl (by kernel_rfl) (by kernel_rfl) (by kernel_rfl) (fun _ _ _ h => h) (by kernel_rfl) (Or.inl ⟨by rfl, ?hy3⟩) S0 ?rest3
    case hy3 => (intro W hSw; obtain ⟨s2, s3, s4, s5⟩ := hSw; go_simp; try (with_reducible rfl))
    try simp only [Act.put, List.setIfInBounds_toArray, List.set_cons_zero, List.set_cons_succ]
    refine' wpAnyD_take (i := 3) (oi := { dst := some 22, op := Go.Op.fieldAddr 28 (Go.Operand.tmp 5) 3, type := 0, pos := "law.go:79", after := #[], guard := none }) (v := _) rfl (by kernel_rfl) (by kernel_rfl) (by kernel_rfl) (fun _ _ _ h => h) (by kernel_rfl) (Or.inl ⟨by rfl, ?hy4⟩) S0 ?rest4
    case hy4 => (intro W hSw; go_simp; try (with_reducible rfl))
    try simp only [Act.put, List.setIfInBounds_toArray, List.set_cons_zero, List.set_cons_succ]
    refine' wpAnyD_take (i := 4) (oi := { dst := some 23, op := Go.Op.load 3 (Go.Operand.tmp 22), type := 3, pos := "law.go:79", after := #[{ on := 3, ground := Go.Ground.data }], guard := none }) (v := _) rfl (by kernel_rfl) (by kernel_rfl) (by kernel_rfl) (fun _ _ _ h => h) (by kernel_rfl) (Or.inl ⟨by rfl, ?hy5⟩) S0 ?rest5
    case hy5 => (intro W hSw; obtain ⟨s2, s3, s4, s5⟩ := hSw; go_simp; try (with_reducible rfl))
    try simp only [Act.put, List.setIfInBounds_toArray, List.set_cons_zero, List.set_cons_succ]
    refine' wpAnyD_take (i := 5) (oi := { dst := some 24, op := Go.Op.fieldAddr 28 (Go.Operand.tmp 5) 4, type := 0, pos := "law.go:79", after := #[], guard := none }) (v := _) rfl (by kernel_rfl) (by kernel_rfl) (by kernel_rfl) (fun _ _ _ h => h) (by kernel_rfl) (Or.inl ⟨by rfl, ?hy6⟩) S0 ?rest6
    case hy6 => (intro W hSw; go_simp; try (with_reducible rfl))
    try simp only [Act.put, List.setIfInBounds_toArray, List.set_cons_zero, List.set_cons_succ]
    refine' wpAnyD_take (i := 6) (oi := { dst := some 25, op := Go.Op.load 3 (Go.Operand.tmp 24), type := 3, pos := "law.go:79", after := #[{ on := 5, ground := Go.Ground.data }], guard := none }) (v := _) rfl (by kernel_rfl) (by kernel_rfl) (by kernel_rfl) (fun _ _ _ h => h) (by kernel_rfl) (Or.inl ⟨by rfl, ?hy7⟩) S0 ?rest7
    case hy7 => (intro W hSw; obtain ⟨s2, s3, s4, s5⟩ := hSw; go_simp; try (with_reducible rfl))
    try simp only [Act.put, List.setIfInBounds_toArray, List.set_cons_zero, List.set_cons_succ]
    refine' wpAnyD_take (i := 8) (oi := { dst := some 27, op := Go.Op.move (Go.Operand.tmp 1), type := 52, pos := "law.go:79", after := #[], guard := none }) (v := _) rfl (by kernel_rfl) (by kernel_rfl) (by kernel_rfl) (fun _ _ _ h => h) (by kernel_rfl) (Or.inl ⟨by rfl, ?hy8⟩) S0 ?rest8
    case hy8 => (intro W hSw; go_simp; try (with_reducible rfl))
    try simp only [Act.put, List.setIfInBounds_toArray, List.set_cons_zero, List.set_cons_succ]
    refine' wpAnyD_take (i := 9) (oi := { dst := some 28, op := Go.Op.fieldAddr 28 (Go.Operand.tmp 5) 2, type := 0, pos := "law.go:79", after := #[], guard := none }) (v := _) rfl (by kernel_rfl) (by kernel_rfl) (by kernel_rfl) (fun _ _ _ h => h) (by kernel_rfl) (Or.inl ⟨by rfl, ?hy9⟩) S0 ?rest9
    case hy9 => (intro W hSw; go_simp; try (with_reducible rfl))
    try simp only [Act.put, List.setIfInBounds_toArray, List.set_cons_zero, List.set_cons_succ]
    refine' wpAnyD_take (i := 10) (oi := { dst := some 29, op := Go.Op.load 3 (Go.Operand.tmp 28), type := 3, pos := "law.go:79", after := #[{ on := 9, ground := Go.Ground.data }], guard := none }) (v := _) rfl (by kernel_rfl) (by kernel_rfl) (by kernel_rfl) (fun _ _ _ h => h) (by kernel_rfl) (Or.inl ⟨by rfl, ?hy10⟩) S0 ?rest10
    case hy10 => (intro W hSw; obtain ⟨s2, s3, s4, s5⟩ := hSw; go_simp; try (with_reducible rfl))
    try simp only [Act.put, List.setIfInBounds_toArray, List.set_cons_zero, List.set_cons_succ]
    refine' wpAnyD_take (i := 11) (oi := { dst := some 30, op := Go.Op.fieldAddr 28 (Go.Operand.tmp 5) 3, type := 0, pos := "law.go:79", after := #[], guard := none }) (v := _) rfl (by kernel_rfl) (by kernel_rfl) (by kernel_rfl) (fun _ _ _ h => h) (by kernel_rfl) (Or.inl ⟨by rfl, ?hy11⟩) S0 ?rest11
    case hy11 => (intro W hSw; go_simp; try (with_reducible rfl))
    try simp only [Act.put, List.setIfInBounds_toArray, List.set_cons_zero, List.set_cons_succ]
    refine' wpAnyD_take (i := 12) (oi := { dst := some 31, op := Go.Op.load 3 (Go.Operand.tmp 30), type := 3, pos := "law.go:79", after := #[{ on := 11, ground := Go.Ground.data }], guard := none }) (v := _) rfl (by kernel_rfl) (by kernel_rfl) (by kernel_rfl) (fun _ _ _ h => h) (by kernel_rfl) (Or.inl ⟨by rfl, ?hy12⟩) S0 ?rest12
    case hy12 => (intro W hSw; obtain ⟨s2, s3, s4, s5⟩ := hSw; go_simp; try (with_reducible rfl))
    try simp only [Act.put, List.setIfInBounds_toArray, List.set_cons_zero, List.set_cons_succ]
    refine' wpAnyD_take (i := 13) (oi := { dst := some 32, op := Go.Op.fieldAddr 28 (Go.Operand.tmp 5) 4, type := 0, pos := "law.go:79", after := #[], guard := none }) (v := _) rfl (by kernel_rfl) (by kernel_rfl) (by kernel_rfl) (fun _ _ _ h => h) (by kernel_rfl) (Or.inl ⟨by rfl, ?hy13⟩) S0 ?rest13
    case hy13 => (intro W hSw; go_simp; try (with_reducible rfl))
    try simp only [Act.put, List.setIfInBounds_toArray, List.set_cons_zero, List.set_cons_succ]
    refine' wpAnyD_take (i := 14) (oi := { dst := some 33, op := Go.Op.load 3 (Go.Operand.tmp 32), type := 3, pos := "law.go:79", after := #[{ on := 13, ground := Go.Ground.data }], guard := none }) (v := _) rfl (by kernel_rfl) (by kernel_rfl) (by kernel_rfl) (fun _ _ _ h => h) (by kernel_rfl) (Or.inl ⟨by rfl, ?hy14⟩) S0 ?rest14
    case hy14 => (intro W hSw; obtain ⟨s2, s3, s4, s5⟩ := hSw; go_simp; try (with_reducible rfl))
    try simp only [Act.put, List.setIfInBounds_toArray, List.set_cons_zero, List.set_cons_succ]
    refine wpAnyD_one (i := 7) (o := { dst := some 26, op := Go.Op.call { callee := Go.Callee.value (Go.Operand.func 44), args := #[Go.Operand.tmp 19, Go.Operand.tmp 21, Go.Operand.tmp 23, Go.Operand.tmp 25], argTypes := #[49, 3, 3, 3] }, type := 24, pos := "law.go:79", after := #[{ on := 0, ground := Go.Ground.data }, { on := 2, ground := Go.Ground.data }, { on := 4, ground := Go.Ground.data }, { on := 6, ground := Go.Ground.data }], guard := none }) (by kernel_rfl) rfl (fun K hK => ?_)
    rw [if_pos (by kernel_rfl)]
    go_simp
    refine hput.mono ?_
    rintro e w5 ⟨rfl, H5⟩
    have X5 : Hid (w5.heap[b5]? = some (.cells #[.int .i64 xa, .int .i64 xo, .int .i64 F, .int .i64 T, .int .i64 xv] 28 (0, 0))) := (H5.out.2.block b5 q5 HBN.out.1).trans X1.out
    have S5 : w5.cell? ⟨b5, 2, none⟩ = some (.int .i64 F) ∧ w5.cell? ⟨b5, 3, none⟩ = some (.int .i64 T) ∧ w5.cell? ⟨b5, 4, none⟩ = some (.int .i64 xv) ∧ b5 < w5.heap.size := by
      obtain ⟨⟨_, _, s2, s3, s4⟩, -, s5⟩ := Po.box_at (x := (xa, xo, F, T, xv)) X5.out
      exact ⟨s2, s3, s4, s5⟩
    have hputR := hputR w5 _ H5.out.1 (Nx.one H5.out.2 rfl)
    clear hput
    dsimp only
    refine hK.out _ _ (fun hD => S5) ?_
    clear hK K
    try simp only [Act.put, List.setIfInBounds_toArray, List.set_cons_zero, List.set_cons_succ]
    refine wpAnyD_one (i := 15) (o := { dst := some 34, op := Go.Op.call { callee := Go.Callee.value (Go.Operand.func 45), args := #[Go.Operand.tmp 27, Go.Operand.tmp 29, Go.Operand.tmp 31, Go.Operand.tmp 33], argTypes := #[52, 3, 3, 3] }, type := 3, pos := "law.go:79", after := #[{ on := 8, ground := Go.Ground.data }, { on := 10, ground := Go.Ground.data }, { on := 12, ground := Go.Ground.data }, { on := 14, ground := Go.Ground.data }, { on := 7, ground := Go.Ground.chain }], guard := none }) (by kernel_rfl) rfl (fun K hK => ?_)
    rw [if_pos (by kernel_rfl)]
    go_simp
    refine hputR.mono ?_
    rintro e w6 ⟨rfl, H6⟩
    have X6 : Hid (w6.heap[b5]? = some (.cells #[.int .i64 xa, .int .i64 xo, .int .i64 F, .int .i64 T, .int .i64 xv] 28 (0, 0))) := (H6.out.box q5 HBN.out.1 HBN.out.2).trans X1.out
    have S6 : w6.cell? ⟨b5, 2, none⟩ = some (.int .i64 F) ∧ w6.cell? ⟨b5, 3, none⟩ = some (.int .i64 T) ∧ w6.cell? ⟨b5, 4, none⟩ = some (.int .i64 xv) ∧ b5 < w6.heap.size := by
      obtain ⟨⟨_, _, s2, s3, s4⟩, -, s5⟩ := Po.box_at (x := (xa, xo, F, T, xv)) X6.out
      exact ⟨s2, s3, s4, s5⟩
    clear hputR
    dsimp only
    refine hK.out _ _ (fun hD => S6) ?_
    clear hK K
    try simp only [Act.put, List.setIfInBounds_toArray, List.set_cons_zero, List.set_cons_succ]
    refine wpAnyD_one (i := 16) (o := { dst := some 35, op := Go.Op.binOp Go.BinOp.eql 3 (Go.Operand.tmp 26) (Go.Operand.tmp 34) 3, type := 4, pos := "law.go:79", after := #[{ on := 7, ground := Go.Ground.data }, { on := 15, ground := Go.Ground.data }], guard := none }) (by kernel_rfl) rfl (fun K hK => ?_)
    rw [if_pos (by kernel_rfl)]
    go_simp
    refine hK.out _ _ (fun hD => S6) ?_
    clear hK K
    try simp only [Act.put, List.setIfInBounds_toArray, List.set_cons_zero, List.set_cons_succ]
    refine wpAnyD_one (i := 17) (o := { dst := some 6, op := Go.Op.assign (Go.Operand.tmp 35), type := 4, pos := "law.go:79", after := #[{ on := 16, ground := Go.Ground.data }, { on := 15, ground := Go.Ground.chain }, { on := 0, ground := Go.Ground.phase }, { on := 1, ground := Go.Ground.phase }, { on := 2, ground := Go.Ground.phase }, { on := 3, ground := Go.Ground.phase }, { on := 4, ground := Go.Ground.phase }, { on := 5, ground := Go.Ground.phase }, { on := 6, ground := Go.Ground.phase }, { on := 7, ground := Go.Ground.phase }, { on := 8, ground := Go.Ground.phase }, { on := 9, ground := Go.Ground.phase }, { on := 10, ground := Go.Ground.phase }, { on := 11, ground := Go.Ground.phase }, { on := 12, ground := Go.Ground.phase }, { on := 13, ground := Go.Ground.phase }, { on := 14, ground := Go.Ground.phase }, { on := 15, ground := Go.Ground.phase }, { on := 16, ground := Go.Ground.phase }], guard := none }) (by kernel_rfl) rfl (fun K hK => ?_)
    rw [if_pos (by kernel_rfl)]
    go_simp
    refine hK.out _ _ (fun hD => S6) ?_
    clear hK K
    try simp only [Act.put, List.setIfInBounds_toArray, List.set_cons_zero, List.set_cons_succ]
    refine wpAnyD_done (by kernel_rfl) ?_ _
    go_wp2
    go_ret
    exact ⟨rfl, HEND.out _ (Af.pre ND.out H6.out)⟩
  · skip
    by_cases hk1 : xa = 1
    · have kb0 : (xa == 0) = false := by simp [hk0]
      have kb1 : (xa == 1) = true := by simp [hk1]
      clear hk0
      clear hk1
      have htk := P1.out.p.take F T (by have := HN.out; omega)
      have htkR := fun (wP : World) (tP : Nat → Nat) (h1 : Pt wP tP a hb W N (tkn W Q F T)) (h2 : Nx (fun k => k = a) tag1 tP W1 wP) => P1.out.takeR hab F T HN.out h1 h2
      generalize lk W Q F T 0 = r at htk htkR
      obtain ⟨rx, rn⟩ := r
      unfold lv at htk
      dsimp only at htk htkR
      go_wp2_with fail
      refine htk.mono ?_
      rintro e w5 ⟨rfl, H5⟩
      have X5 : Hid (w5.heap[b5]? = some (.cells #[.int .i64 xa, .int .i64 xo, .int .i64 F, .int .i64 T, .int .i64 xv] 28 (0, 0))) := (H5.out.2.block b5 q5 HBN.out.1).trans X1.out
      have htkR := htkR w5 _ H5.out.1 (Nx.one H5.out.2 rfl)
      clear htk q0 q1 q2 q3 q4
      obtain ⟨⟨s0, s1, s2, s3, s4⟩, -, s5⟩ := Po.box_at (x := (xa, xo, F, T, xv)) X5.out
      dsimp only at s0 s1 s2 s3 s4
      go_wp2_with fail
      refine htkR.mono ?_
      rintro e w6 ⟨rfl, H6⟩
      clear htkR
      go_wp2
      go_ret
      exact ⟨rfl, HEND.out _ H6.out⟩
    · skip
      by_cases hk2 : xa = 2
      · have kb0 : (xa == 0) = false := by simp [hk0]
        have kb1 : (xa == 1) = false := by simp [hk1]
        have kb2 : (xa == 2) = true := by simp [hk2]
        clear hk0
        clear hk1
        clear hk2
        have hlo := look_any F T xv W1 P1.out.p
        have hloR := fun (wP : World) (hB : Below W1.heap.size W1 wP) => (by
          obtain ⟨v, h1, h2, h3⟩ := P1.out.r
          exact rlook_any F T xv wP (h1.below hB) P1.out.rel (Nat.le_trans (Nat.mul_le_mul_right _ (Nat.le_succ_of_le P1.out.le)) HN.out) : Calls Try.prog 49 #[.pointer (some ⟨rb, 0, none⟩), .int .i64 F, .int .i64 T, .int .i64 xv] wP fun e w' => e = .returned (.tuple #[.int .i64 (lk W Q F T xv).1, .int .i64 ((lk W Q F T xv).2 : Nat)]) ∧ Below wP.heap.size wP w')
        generalize lk W Q F T xv = r at hlo hloR
        obtain ⟨rx, rn⟩ := r
        unfold lv at hlo
        dsimp only at hlo hloR
        go_wp2_with fail
        refine hlo.mono ?_
        rintro e w5 ⟨rfl, H5⟩
        have X5 : Hid (w5.heap[b5]? = some (.cells #[.int .i64 xa, .int .i64 xo, .int .i64 F, .int .i64 T, .int .i64 xv] 28 (0, 0))) := (H5.block b5 q5).trans X1.out
        have hloR := hloR w5 H5
        have HB5 := hid H5
        clear hlo q0 q1 q2 q3 q4 H5
        obtain ⟨⟨s0, s1, s2, s3, s4⟩, -, s5⟩ := Po.box_at (x := (xa, xo, F, T, xv)) X5.out
        dsimp only at s0 s1 s2 s3 s4
        go_wp2_with fail
        refine hloR.mono ?_
        rintro e w6 ⟨rfl, H6⟩
        have HB6 := hid (HB5.out.trans (H6.mono HB5.out.size))
        clear hloR H6
        go_wp2
        go_ret
        exact ⟨rfl, HEND.out _ (Af.below (Nx.refl _ _ _) (P1.out.mono (Nat.le_succ _)) HB6.out)⟩
      · skip
        by_cases hk3 : xa = 3
        · have kb0 : (xa == 0) = false := by simp [hk0]
          have kb1 : (xa == 1) = false := by simp [hk1]
          have kb2 : (xa == 2) = false := by simp [hk2]
          have kb3 : (xa == 3) = true := by simp [hk3]
          clear hk0
          clear hk1
          clear hk2
          clear hk3
          have PD := hid (P1.out.same (Gr.refl W1).drew.below)
          have ND := hid (Nx.same (fun k => k = a ∨ k = b) tag1 (Gr.refl W1).drew.below)
          have S0 : W1.drew.cell? ⟨b5, 2, none⟩ = some (.int .i64 F) ∧ W1.drew.cell? ⟨b5, 3, none⟩ = some (.int .i64 T) ∧ W1.drew.cell? ⟨b5, 4, none⟩ = some (.int .i64 xv) ∧ b5 < W1.drew.heap.size := ⟨q2, q3, q4, q5⟩
          have hln := len_any F T W1.drew PD.out.p
          have HLN := hid (PD.out.rel.ln F T)
          have honR := fun (wP : World) (hB : Below W1.drew.heap.size W1.drew wP) => (by
            obtain ⟨v, h1, h2, h3⟩ := PD.out.r
            exact ron_any F T wP (h1.below hB) (Nat.le_trans (Nat.mul_le_mul_right _ (Nat.le_succ_of_le PD.out.le)) HN.out) : Calls Try.prog 27 #[.pointer (some ⟨rb, 0, none⟩), .int .i64 F, .int .i64 T] wP fun e w' => ∃ p c, e = .returned (.slice p (vals F T L).length c) ∧ Ls ET w' (.slice p (vals F T L).length c) (ni (ons F T L L.length)) ∧ Below wP.heap.size wP w')
          rw [HLN.out] at hln
          generalize (vals F T L).length = n at hln honR
          go_upto_region 13 with fail
          refine wp_regionD (S := fun W => W.cell? ⟨b5, 2, none⟩ = some (.int .i64 F) ∧ W.cell? ⟨b5, 3, none⟩ = some (.int .i64 T) ∧ W.cell? ⟨b5, 4, none⟩ = some (.int .i64 xv) ∧ b5 < W.heap.size) (D := []) hmx ?_
          refine' wpAnyD_take (i := 0) (oi := { dst := some 98, op := Go.Op.move (Go.Operand.tmp 0), type := 49, pos := "law.go:89", after := #[], guard := none }) (v := _) rfl (by kernel_rfl) (by kernel_rfl) (by kernel_rfl) (fun _ _ _ h => h) (by kernel_rfl) (Or.inl ⟨by rfl, ?hy19⟩) S0 ?rest19
          case hy19 => (intro W hSw; go_simp; try (with_reducible rfl))
          try simp only [Act.put, List.setIfInBounds_toArray, List.set_cons_zero, List.set_cons_succ]
          refine' wpAnyD_take (i := 1) (oi := { dst := some 99, op := Go.Op.fieldAddr 28 (Go.Operand.tmp 5) 2, type := 0, pos := "law.go:89", after := #[], guard := none }) (v := _) rfl (by kernel_rfl) (by kernel_rfl) (by kernel_rfl) (fun _ _ _ h => h) (by kernel_rfl) (Or.inl ⟨by rfl, ?hy20⟩) S0 ?rest20
          case hy20 => (intro W hSw; go_simp; try (with_reducible rfl))
          try simp only [Act.put, List.setIfInBounds_toArray, List.set_cons_zero, List.set_cons_succ]
          refine' wpAnyD_take (i := 2) (oi := { dst := some 100, op := Go.Op.load 3 (Go.Operand.tmp 99), type := 3, pos := "law.go:89", after := #[{ on := 1, ground := Go.Ground.data }], guard := none }) (v := _) rfl (by kernel_rfl) (by kernel_rfl) (by kernel_rfl) (fun _ _ _ h => h) (by kernel_rfl) (Or.inl ⟨by rfl, ?hy21⟩) S0 ?rest21
          case hy21 => (intro W hSw; obtain ⟨s2, s3, s4, s5⟩ := hSw; go_simp; try (with_reducible rfl))
          try simp only [Act.put, List.setIfInBounds_toArray, List.set_cons_zero, List.set_cons_succ]
          refine' wpAnyD_take (i := 3) (oi := { dst := some 101, op := Go.Op.fieldAddr 28 (Go.Operand.tmp 5) 3, type := 0, pos := "law.go:89", after := #[], guard := none }) (v := _) rfl (by kernel_rfl) (by kernel_rfl) (by kernel_rfl) (fun _ _ _ h => h) (by kernel_rfl) (Or.inl ⟨by rfl, ?hy22⟩) S0 ?rest22
          case hy22 => (intro W hSw; go_simp; try (with_reducible rfl))
          try simp only [Act.put, List.setIfInBounds_toArray, List.set_cons_zero, List.set_cons_succ]
          refine' wpAnyD_take (i := 4) (oi := { dst := some 102, op := Go.Op.load 3 (Go.Operand.tmp 101), type := 3, pos := "law.go:89", after := #[{ on := 3, ground := Go.Ground.data }], guard := none }) (v := _) rfl (by kernel_rfl) (by kernel_rfl) (by kernel_rfl) (fun _ _ _ h => h) (by kernel_rfl) (Or.inl ⟨by rfl, ?hy23⟩) S0 ?rest23
          case hy23 => (intro W hSw; obtain ⟨s2, s3, s4, s5⟩ := hSw; go_simp; try (with_reducible rfl))
          try simp only [Act.put, List.setIfInBounds_toArray, List.set_cons_zero, List.set_cons_succ]
          refine' wpAnyD_take (i := 6) (oi := { dst := some 104, op := Go.Op.move (Go.Operand.tmp 1), type := 52, pos := "law.go:89", after := #[], guard := none }) (v := _) rfl (by kernel_rfl) (by kernel_rfl) (by kernel_rfl) (fun _ _ _ h => h) (by kernel_rfl) (Or.inl ⟨by rfl, ?hy24⟩) S0 ?rest24
          case hy24 => (intro W hSw; go_simp; try (with_reducible rfl))
          try simp only [Act.put, List.setIfInBounds_toArray, List.set_cons_zero, List.set_cons_succ]
          refine' wpAnyD_take (i := 7) (oi := { dst := some 105, op := Go.Op.fieldAddr 28 (Go.Operand.tmp 5) 2, type := 0, pos := "law.go:89", after := #[], guard := none }) (v := _) rfl (by kernel_rfl) (by kernel_rfl) (by kernel_rfl) (fun _ _ _ h => h) (by kernel_rfl) (Or.inl ⟨by rfl, ?hy25⟩) S0 ?rest25
          case hy25 => (intro W hSw; go_simp; try (with_reducible rfl))
          try simp only [Act.put, List.setIfInBounds_toArray, List.set_cons_zero, List.set_cons_succ]
          refine' wpAnyD_take (i := 8) (oi := { dst := some 106, op := Go.Op.load 3 (Go.Operand.tmp 105), type := 3, pos := "law.go:89", after := #[{ on := 7, ground := Go.Ground.data }], guard := none }) (v := _) rfl (by kernel_rfl) (by kernel_rfl) (by kernel_rfl) (fun _ _ _ h => h) (by kernel_rfl) (Or.inl ⟨by rfl, ?hy26⟩) S0 ?rest26
          case hy26 => (intro W hSw; obtain ⟨s2, s3, s4, s5⟩ := hSw; go_simp; try (with_reducible rfl))
          try simp only [Act.put, List.setIfInBounds_toArray, List.set_cons_zero, List.set_cons_succ]
          refine' wpAnyD_take (i := 9) (oi := { dst := some 107, op := Go.Op.fieldAddr 28 (Go.Operand.tmp 5) 3, type := 0, pos := "law.go:89", after := #[], guard := none }) (v := _) rfl (by kernel_rfl) (by kernel_rfl) (by kernel_rfl) (fun _ _ _ h => h) (by kernel_rfl) (Or.inl ⟨by rfl, ?hy27⟩) S0 ?rest27
          case hy27 => (intro W hSw; go_simp; try (with_reducible rfl))
          try simp only [Act.put, List.setIfInBounds_toArray, List.set_cons_zero, List.set_cons_succ]
          refine' wpAnyD_take (i := 10) (oi := { dst := some 108, op := Go.Op.load 3 (Go.Operand.tmp 107), type := 3, pos := "law.go:89", after := #[{ on := 9, ground := Go.Ground.data }], guard := none }) (v := _) rfl (by kernel_rfl) (by kernel_rfl) (by kernel_rfl) (fun _ _ _ h => h) (by kernel_rfl) (Or.inl ⟨by rfl, ?hy28⟩) S0 ?rest28
          case hy28 => (intro W hSw; obtain ⟨s2, s3, s4, s5⟩ := hSw; go_simp; try (with_reducible rfl))
          try simp only [Act.put, List.setIfInBounds_toArray, List.set_cons_zero, List.set_cons_succ]
          refine wpAnyD_one (i := 5) (o := { dst := some 103, op := Go.Op.call { callee := Go.Callee.value (Go.Operand.func 28), args := #[Go.Operand.tmp 98, Go.Operand.tmp 100, Go.Operand.tmp 102], argTypes := #[49, 3, 3] }, type := 3, pos := "law.go:89", after := #[{ on := 0, ground := Go.Ground.data }, { on := 2, ground := Go.Ground.data }, { on := 4, ground := Go.Ground.data }], guard := none }) (by kernel_rfl) rfl (fun K hK => ?_)
          rw [if_pos (by kernel_rfl)]
          go_simp
          refine hln.mono ?_
          rintro e w5 ⟨rfl, m5, hm5⟩
          have H5 : Below W1.drew.heap.size W1.drew w5 := by rw [hm5]; exact ((Gr.refl _).drewN _).below
          have X5 : Hid (w5.heap[b5]? = some (.cells #[.int .i64 xa, .int .i64 xo, .int .i64 F, .int .i64 T, .int .i64 xv] 28 (0, 0))) := (H5.block b5 q5).trans X1.out
          have S5 : w5.cell? ⟨b5, 2, none⟩ = some (.int .i64 F) ∧ w5.cell? ⟨b5, 3, none⟩ = some (.int .i64 T) ∧ w5.cell? ⟨b5, 4, none⟩ = some (.int .i64 xv) ∧ b5 < w5.heap.size := by
            obtain ⟨⟨_, _, s2, s3, s4⟩, -, s5⟩ := Po.box_at (x := (xa, xo, F, T, xv)) X5.out
            exact ⟨s2, s3, s4, s5⟩
          have honR := honR w5 H5
          have HB5 := hid H5
          clear hln hm5 H5
          dsimp only
          refine hK.out _ _ (fun hD => S5) ?_
          clear hK K
          try simp only [Act.put, List.setIfInBounds_toArray, List.set_cons_zero, List.set_cons_succ]
          refine wpAnyD_one (i := 11) (o := { dst := some 109, op := Go.Op.call { callee := Go.Callee.value (Go.Operand.func 27), args := #[Go.Operand.tmp 104, Go.Operand.tmp 106, Go.Operand.tmp 108], argTypes := #[52, 3, 3] }, type := 63, pos := "law.go:89", after := #[{ on := 6, ground := Go.Ground.data }, { on := 8, ground := Go.Ground.data }, { on := 10, ground := Go.Ground.data }, { on := 5, ground := Go.Ground.chain }], guard := none }) (by kernel_rfl) rfl (fun K hK => ?_)
          rw [if_pos (by kernel_rfl)]
          go_simp
          refine honR.mono ?_
          rintro e w6 ⟨p6, c6, rfl, -, H6⟩
          have X6 : Hid (w6.heap[b5]? = some (.cells #[.int .i64 xa, .int .i64 xo, .int .i64 F, .int .i64 T, .int .i64 xv] 28 (0, 0))) := (H6.block b5 S5.2.2.2).trans X5.out
          have S6 : w6.cell? ⟨b5, 2, none⟩ = some (.int .i64 F) ∧ w6.cell? ⟨b5, 3, none⟩ = some (.int .i64 T) ∧ w6.cell? ⟨b5, 4, none⟩ = some (.int .i64 xv) ∧ b5 < w6.heap.size := by
            obtain ⟨⟨_, _, s2, s3, s4⟩, -, s5⟩ := Po.box_at (x := (xa, xo, F, T, xv)) X6.out
            exact ⟨s2, s3, s4, s5⟩
          have HB6 := hid (HB5.out.trans (H6.mono HB5.out.size))
          clear honR H6
          dsimp only
          refine hK.out _ _ (fun hD => S6) ?_
          clear hK K
          try simp only [Act.put, List.setIfInBounds_toArray, List.set_cons_zero, List.set_cons_succ]
          refine wpAnyD_one (i := 12) (o := { dst := some 110, op := Go.Op.call { callee := Go.Callee.builtin Go.Builtin.len, args := #[Go.Operand.tmp 109], argTypes := #[63] }, type := 3, pos := "law.go:89", after := #[{ on := 11, ground := Go.Ground.data }], guard := none }) (by kernel_rfl) rfl (fun K hK => ?_)
          rw [if_pos (by kernel_rfl)]
          go_simp
          refine hK.out _ _ (fun hD => S6) ?_
          clear hK K
          try simp only [Act.put, List.setIfInBounds_toArray, List.set_cons_zero, List.set_cons_succ]
          refine wpAnyD_one (i := 13) (o := { dst := some 111, op := Go.Op.binOp Go.BinOp.eql 3 (Go.Operand.tmp 103) (Go.Operand.tmp 110) 3, type := 4, pos := "law.go:89", after := #[{ on := 5, ground := Go.Ground.data }, { on := 12, ground := Go.Ground.data }], guard := none }) (by kernel_rfl) rfl (fun K hK => ?_)
          rw [if_pos (by kernel_rfl)]
          go_simp
          refine hK.out _ _ (fun hD => S6) ?_
          clear hK K
          try simp only [Act.put, List.setIfInBounds_toArray, List.set_cons_zero, List.set_cons_succ]
          refine wpAnyD_one (i := 14) (o := { dst := some 6, op := Go.Op.assign (Go.Operand.tmp 111), type := 4, pos := "law.go:89", after := #[{ on := 13, ground := Go.Ground.data }, { on := 11, ground := Go.Ground.chain }, { on := 0, ground := Go.Ground.phase }, { on := 1, ground := Go.Ground.phase }, { on := 2, ground := Go.Ground.phase }, { on := 3, ground := Go.Ground.phase }, { on := 4, ground := Go.Ground.phase }, { on := 5, ground := Go.Ground.phase }, { on := 6, ground := Go.Ground.phase }, { on := 7, ground := Go.Ground.phase }, { on := 8, ground := Go.Ground.phase }, { on := 9, ground := Go.Ground.phase }, { on := 10, ground := Go.Ground.phase }, { on := 11, ground := Go.Ground.phase }, { on := 12, ground := Go.Ground.phase }, { on := 13, ground := Go.Ground.phase }], guard := none }) (by kernel_rfl) rfl (fun K hK => ?_)
          rw [if_pos (by kernel_rfl)]
          go_simp
          refine hK.out _ _ (fun hD => S6) ?_
          clear hK K
          try simp only [Act.put, List.setIfInBounds_toArray, List.set_cons_zero, List.set_cons_succ]
          refine wpAnyD_done (by kernel_rfl) ?_ _
          go_wp2
          go_ret
          exact ⟨rfl, HEND.out _ (Af.pre ND.out (Af.below (Nx.refl _ _ _) (PD.out.mono (Nat.le_succ _)) HB6.out))⟩
        · skip
          by_cases hk4 : xa = 4
          · have kb0 : (xa == 0) = false := by simp [hk0]
            have kb1 : (xa == 1) = false := by simp [hk1]
            have kb2 : (xa == 2) = false := by simp [hk2]
            have kb3 : (xa == 3) = false := by simp [hk3]
            have kb4 : (xa == 4) = true := by simp [hk4]
            clear hk0
            clear hk1
            clear hk2
            clear hk3
            clear hk4
            have PD := hid (P1.out.same (Gr.refl W1).drew.below)
            have ND := hid (Nx.same (fun k => k = a ∨ k = b) tag1 (Gr.refl W1).drew.below)
            have S0 : W1.drew.cell? ⟨b5, 2, none⟩ = some (.int .i64 F) ∧ W1.drew.cell? ⟨b5, 3, none⟩ = some (.int .i64 T) ∧ W1.drew.cell? ⟨b5, 4, none⟩ = some (.int .i64 xv) ∧ b5 < W1.drew.heap.size := ⟨q2, q3, q4, q5⟩
            obtain ⟨rv, hrv1, hrv2, hrv3⟩ := PD.out.r
            obtain ⟨pr, cr, rfl⟩ := hrv1.form
            have hcl := total_any W1.drew PD.out.p (by have := HN.out; omega)
            rw [PD.out.rel.n] at hcl
            have S9 : W1.drew.cell? ⟨rb, 1, none⟩ = some (.slice pr L.length cr) ∧ rb < W1.drew.heap.size := ⟨hrv1.c1, hrv1.lt⟩
            clear hrv1 hrv2 hrv3
            go_upto_region 15 with fail
            refine wp_regionD (S := fun W' => W'.cell? ⟨rb, 1, none⟩ = some (.slice pr L.length cr) ∧ rb < W'.heap.size) (D := []) hmx ?_
            refine' wpAnyD_take (i := 0) (oi := { dst := some 114, op := Go.Op.move (Go.Operand.tmp 0), type := 49, pos := "law.go:91", after := #[], guard := none }) (v := _) rfl (by kernel_rfl) (by kernel_rfl) (by kernel_rfl) (fun _ _ _ h => h) (by kernel_rfl) (Or.inl ⟨by rfl, ?hy34⟩) S9 ?rest34
            case hy34 => (intro W hSw; go_simp; try (with_reducible rfl))
            try simp only [Act.put, List.setIfInBounds_toArray, List.set_cons_zero, List.set_cons_succ]
            refine' wpAnyD_take (i := 2) (oi := { dst := some 116, op := Go.Op.move (Go.Operand.tmp 1), type := 52, pos := "law.go:91", after := #[], guard := none }) (v := _) rfl (by kernel_rfl) (by kernel_rfl) (by kernel_rfl) (fun _ _ _ h => h) (by kernel_rfl) (Or.inl ⟨by rfl, ?hy35⟩) S9 ?rest35
            case hy35 => (intro W hSw; go_simp; try (with_reducible rfl))
            try simp only [Act.put, List.setIfInBounds_toArray, List.set_cons_zero, List.set_cons_succ]
            refine' wpAnyD_take (i := 3) (oi := { dst := some 117, op := Go.Op.nilCheck (Go.Operand.tmp 116), type := 0, pos := "law.go:91", after := #[{ on := 2, ground := Go.Ground.data }], guard := none }) (v := _) rfl (by kernel_rfl) (by kernel_rfl) (by kernel_rfl) (fun _ _ _ h => h) (by kernel_rfl) (Or.inl ⟨by rfl, ?hy36⟩) S9 ?rest36
            case hy36 => (intro W hSw; go_simp; try (with_reducible rfl))
            try simp only [Act.put, List.setIfInBounds_toArray, List.set_cons_zero, List.set_cons_succ]
            refine' wpAnyD_take (i := 4) (oi := { dst := some 118, op := Go.Op.fieldAddr 68 (Go.Operand.tmp 117) 1, type := 0, pos := "law.go:91", after := #[{ on := 3, ground := Go.Ground.data }], guard := none }) (v := _) rfl (by kernel_rfl) (by kernel_rfl) (by kernel_rfl) (fun _ _ _ h => h) (by kernel_rfl) (Or.inl ⟨by rfl, ?hy37⟩) S9 ?rest37
            case hy37 => (intro W hSw; go_simp; try (with_reducible rfl))
            try simp only [Act.put, List.setIfInBounds_toArray, List.set_cons_zero, List.set_cons_succ]
            refine' wpAnyD_take (i := 5) (oi := { dst := some 119, op := Go.Op.load 66 (Go.Operand.tmp 118), type := 66, pos := "law.go:91", after := #[{ on := 4, ground := Go.Ground.data }], guard := none }) (v := _) rfl (by kernel_rfl) (by kernel_rfl) (by kernel_rfl) (fun _ _ _ h => h) (by kernel_rfl) (Or.inl ⟨by rfl, ?hy38⟩) S9 ?rest38
            case hy38 => (intro W hSw; obtain ⟨s2, s3⟩ := hSw; go_simp; try (with_reducible rfl))
            try simp only [Act.put, List.setIfInBounds_toArray, List.set_cons_zero, List.set_cons_succ]
            refine' wpAnyD_take (i := 6) (oi := { dst := some 120, op := Go.Op.call { callee := Go.Callee.builtin Go.Builtin.len, args := #[Go.Operand.tmp 119], argTypes := #[66] }, type := 3, pos := "law.go:91", after := #[{ on := 5, ground := Go.Ground.data }], guard := none }) (v := _) rfl (by kernel_rfl) (by kernel_rfl) (by kernel_rfl) (fun _ _ _ h => h) (by kernel_rfl) (Or.inl ⟨by rfl, ?hy39⟩) S9 ?rest39
            case hy39 => (intro W hSw; go_simp; try (with_reducible rfl))
            try simp only [Act.put, List.setIfInBounds_toArray, List.set_cons_zero, List.set_cons_succ]
            refine wpAnyD_one (i := 1) (o := { dst := some 115, op := Go.Op.call { callee := Go.Callee.value (Go.Operand.func 29), args := #[Go.Operand.tmp 114], argTypes := #[49] }, type := 3, pos := "law.go:91", after := #[{ on := 0, ground := Go.Ground.data }], guard := none }) (by kernel_rfl) rfl (fun K hK => ?_)
            rw [if_pos (by kernel_rfl)]
            go_simp
            refine hcl.mono ?_
            rintro e w5 ⟨rfl, m5, hm5⟩
            have HB5 : Hid (Below W1.drew.heap.size W1.drew w5) := by rw [hm5]; exact ((Gr.refl _).drewN _).below
            have S5 : w5.cell? ⟨rb, 1, none⟩ = some (.slice pr L.length cr) ∧ rb < w5.heap.size := ⟨(HB5.out.cell (p := ⟨rb, 1, none⟩) S9.2).trans S9.1, Nat.lt_of_lt_of_le S9.2 HB5.out.size⟩
            clear hcl hm5
            dsimp only
            refine hK.out _ _ (fun hD => S5) ?_
            clear hK K
            try simp only [Act.put, List.setIfInBounds_toArray, List.set_cons_zero, List.set_cons_succ]
            refine wpAnyD_one (i := 7) (o := { dst := some 121, op := Go.Op.binOp Go.BinOp.eql 3 (Go.Operand.tmp 115) (Go.Operand.tmp 120) 3, type := 4, pos := "law.go:91", after := #[{ on := 1, ground := Go.Ground.data }, { on := 6, ground := Go.Ground.data }], guard := none }) (by kernel_rfl) rfl (fun K hK => ?_)
            rw [if_pos (by kernel_rfl)]
            go_simp
            refine hK.out _ _ (fun hD => S5) ?_
            clear hK K
            try simp only [Act.put, List.setIfInBounds_toArray, List.set_cons_zero, List.set_cons_succ]
            refine wpAnyD_one (i := 8) (o := { dst := some 6, op := Go.Op.assign (Go.Operand.tmp 121), type := 4, pos := "law.go:91", after := #[{ on := 7, ground := Go.Ground.data }, { on := 1, ground := Go.Ground.chain }, { on := 0, ground := Go.Ground.phase }, { on := 1, ground := Go.Ground.phase }, { on := 2, ground := Go.Ground.phase }, { on := 3, ground := Go.Ground.phase }, { on := 4, ground := Go.Ground.phase }, { on := 5, ground := Go.Ground.phase }, { on := 6, ground := Go.Ground.phase }, { on := 7, ground := Go.Ground.phase }], guard := none }) (by kernel_rfl) rfl (fun K hK => ?_)
            rw [if_pos (by kernel_rfl)]
            go_simp
            refine hK.out _ _ (fun hD => S5) ?_
            clear hK K
            try simp only [Act.put, List.setIfInBounds_toArray, List.set_cons_zero, List.set_cons_succ]
            refine wpAnyD_done (by kernel_rfl) ?_ _
            go_wp2
            go_ret
            exact ⟨rfl, HEND.out _ (Af.pre ND.out (Af.below (Nx.refl _ _ _) (PD.out.mono (Nat.le_succ _)) HB5.out))⟩
          · skip
            by_cases hk7 : xa = 7
            · have kb0 : (xa == 0) = false := by simp [hk0]
              have kb1 : (xa == 1) = false := by simp [hk1]
              have kb2 : (xa == 2) = false := by simp [hk2]
              have kb3 : (xa == 3) = false := by simp [hk3]
              have kb4 : (xa == 4) = false := by simp [hk4]
              have kb7 : (xa == 7) = true := by simp [hk7]
              clear hk0
              clear hk1
              clear hk2
              clear hk3
              clear hk4
              clear hk7
              have PD := hid (P1.out.same (Gr.refl W1).drew.below)
              have ND := hid (Nx.same (fun k => k = a ∨ k = b) tag1 (Gr.refl W1).drew.below)
              have S0 : W1.drew.cell? ⟨b5, 2, none⟩ = some (.int .i64 F) ∧ W1.drew.cell? ⟨b5, 3, none⟩ = some (.int .i64 T) ∧ W1.drew.cell? ⟨b5, 4, none⟩ = some (.int .i64 xv) ∧ b5 < W1.drew.heap.size := ⟨q2, q3, q4, q5⟩
              obtain ⟨rv, hrv1, hrv2, hrv3⟩ := PD.out.r
              obtain ⟨pr, cr, rfl⟩ := hrv1.form
              have hcl := workers_any W1.drew PD.out.p
              have S9 : W1.drew.cell? ⟨rb, 0, none⟩ = some (.int .i64 (W : Nat)) ∧ rb < W1.drew.heap.size := ⟨hrv1.c0, hrv1.lt⟩
              clear hrv1 hrv2 hrv3
              go_upto_region 17 with fail
              refine wp_regionD (S := fun W' => W'.cell? ⟨rb, 0, none⟩ = some (.int .i64 (W : Nat)) ∧ rb < W'.heap.size) (D := []) hmx ?_
              refine' wpAnyD_take (i := 0) (oi := { dst := some 124, op := Go.Op.move (Go.Operand.tmp 0), type := 49, pos := "law.go:93", after := #[], guard := none }) (v := _) rfl (by kernel_rfl) (by kernel_rfl) (by kernel_rfl) (fun _ _ _ h => h) (by kernel_rfl) (Or.inl ⟨by rfl, ?hy43⟩) S9 ?rest43
              case hy43 => (intro W hSw; go_simp; try (with_reducible rfl))
              try simp only [Act.put, List.setIfInBounds_toArray, List.set_cons_zero, List.set_cons_succ]
              refine' wpAnyD_take (i := 2) (oi := { dst := some 126, op := Go.Op.move (Go.Operand.tmp 1), type := 52, pos := "law.go:93", after := #[], guard := none }) (v := _) rfl (by kernel_rfl) (by kernel_rfl) (by kernel_rfl) (fun _ _ _ h => h) (by kernel_rfl) (Or.inl ⟨by rfl, ?hy44⟩) S9 ?rest44
              case hy44 => (intro W hSw; go_simp; try (with_reducible rfl))
              try simp only [Act.put, List.setIfInBounds_toArray, List.set_cons_zero, List.set_cons_succ]
              refine' wpAnyD_take (i := 3) (oi := { dst := some 127, op := Go.Op.nilCheck (Go.Operand.tmp 126), type := 0, pos := "law.go:93", after := #[{ on := 2, ground := Go.Ground.data }], guard := none }) (v := _) rfl (by kernel_rfl) (by kernel_rfl) (by kernel_rfl) (fun _ _ _ h => h) (by kernel_rfl) (Or.inl ⟨by rfl, ?hy45⟩) S9 ?rest45
              case hy45 => (intro W hSw; go_simp; try (with_reducible rfl))
              try simp only [Act.put, List.setIfInBounds_toArray, List.set_cons_zero, List.set_cons_succ]
              refine' wpAnyD_take (i := 4) (oi := { dst := some 128, op := Go.Op.fieldAddr 68 (Go.Operand.tmp 127) 0, type := 0, pos := "law.go:93", after := #[{ on := 3, ground := Go.Ground.data }], guard := none }) (v := _) rfl (by kernel_rfl) (by kernel_rfl) (by kernel_rfl) (fun _ _ _ h => h) (by kernel_rfl) (Or.inl ⟨by rfl, ?hy46⟩) S9 ?rest46
              case hy46 => (intro W hSw; go_simp; try (with_reducible rfl))
              try simp only [Act.put, List.setIfInBounds_toArray, List.set_cons_zero, List.set_cons_succ]
              refine' wpAnyD_take (i := 5) (oi := { dst := some 129, op := Go.Op.load 3 (Go.Operand.tmp 128), type := 3, pos := "law.go:93", after := #[{ on := 4, ground := Go.Ground.data }], guard := none }) (v := _) rfl (by kernel_rfl) (by kernel_rfl) (by kernel_rfl) (fun _ _ _ h => h) (by kernel_rfl) (Or.inl ⟨by rfl, ?hy47⟩) S9 ?rest47
              case hy47 => (intro W hSw; obtain ⟨s2, s3⟩ := hSw; go_simp; try (with_reducible rfl))
              try simp only [Act.put, List.setIfInBounds_toArray, List.set_cons_zero, List.set_cons_succ]
              refine wpAnyD_one (i := 1) (o := { dst := some 125, op := Go.Op.call { callee := Go.Callee.value (Go.Operand.func 50), args := #[Go.Operand.tmp 124], argTypes := #[49] }, type := 3, pos := "law.go:93", after := #[{ on := 0, ground := Go.Ground.data }], guard := none }) (by kernel_rfl) rfl (fun K hK => ?_)
              rw [if_pos (by kernel_rfl)]
              go_simp
              refine hcl.mono ?_
              rintro e w5 ⟨rfl, hm5⟩
              have HB5 : Hid (Below W1.drew.heap.size W1.drew w5) := by rw [hm5]; exact (Gr.refl _).below
              have S5 : w5.cell? ⟨rb, 0, none⟩ = some (.int .i64 (W : Nat)) ∧ rb < w5.heap.size := ⟨(HB5.out.cell (p := ⟨rb, 0, none⟩) S9.2).trans S9.1, Nat.lt_of_lt_of_le S9.2 HB5.out.size⟩
              clear hcl hm5
              dsimp only
              refine hK.out _ _ (fun hD => S5) ?_
              clear hK K
              try simp only [Act.put, List.setIfInBounds_toArray, List.set_cons_zero, List.set_cons_succ]
              refine wpAnyD_one (i := 6) (o := { dst := some 130, op := Go.Op.binOp Go.BinOp.eql 3 (Go.Operand.tmp 125) (Go.Operand.tmp 129) 3, type := 4, pos := "law.go:93", after := #[{ on := 1, ground := Go.Ground.data }, { on := 5, ground := Go.Ground.data }], guard := none }) (by kernel_rfl) rfl (fun K hK => ?_)
              rw [if_pos (by kernel_rfl)]
              go_simp
              refine hK.out _ _ (fun hD => S5) ?_
              clear hK K
              try simp only [Act.put, List.setIfInBounds_toArray, List.set_cons_zero, List.set_cons_succ]
              refine wpAnyD_one (i := 7) (o := { dst := some 6, op := Go.Op.assign (Go.Operand.tmp 130), type := 4, pos := "law.go:93", after := #[{ on := 6, ground := Go.Ground.data }, { on := 1, ground := Go.Ground.chain }, { on := 0, ground := Go.Ground.phase }, { on := 1, ground := Go.Ground.phase }, { on := 2, ground := Go.Ground.phase }, { on := 3, ground := Go.Ground.phase }, { on := 4, ground := Go.Ground.phase }, { on := 5, ground := Go.Ground.phase }, { on := 6, ground := Go.Ground.phase }], guard := none }) (by kernel_rfl) rfl (fun K hK => ?_)
              rw [if_pos (by kernel_rfl)]
              go_simp
              refine hK.out _ _ (fun hD => S5) ?_
              clear hK K
              try simp only [Act.put, List.setIfInBounds_toArray, List.set_cons_zero, List.set_cons_succ]
              refine wpAnyD_done (by kernel_rfl) ?_ _
              go_wp2
              go_ret
              exact ⟨rfl, HEND.out _ (Af.pre ND.out (Af.below (Nx.refl _ _ _) (PD.out.mono (Nat.le_succ _)) HB5.out))⟩
            · skip
              have kb0 : (xa == 0) = false := by simp [hk0]
              have kb1 : (xa == 1) = false := by simp [hk1]
              have kb2 : (xa == 2) = false := by simp [hk2]
              have kb3 : (xa == 3) = false := by simp [hk3]
              have kb4 : (xa == 4) = false := by simp [hk4]
              have kb7 : (xa == 7) = false := by simp [hk7]
              clear hk0
              clear hk1
              clear hk2
              clear hk3
              clear hk4
              clear hk7
              go_wp2
              go_ret
              exact ⟨rfl, HEND.out _ (Af.below (Nx.refl _ _ _) (P1.out.mono (Nat.le_succ _)) (Gr.refl _).below)⟩
end Go.Proofs.Ytcdmgclkgojgaaa.Pi
