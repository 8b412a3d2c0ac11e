import Derived.Test.YtijbmchgajhkeaaSuRdy
namespace Go.Proofs.Ytijbmchgajhkeaa
open Go.RowKit Go.Sort Go.Maps Go.Shelf
attribute [local go_sem ↓] Go.wp_at_zero Go.wp_at_succ
/-- What a step leaves. -/
def Stp (w : World) (S R : Nat → Prop) (N sb rb : Nat) (A : List Ct) (w' : World) : Prop := ∃ S' R' A', Su w' S' (N + 3) sb A' ∧ Rs w' R' rb A' ∧ (∀ k, S' k → ¬ R' k) ∧ (∀ k, S' k → S k ∨ w.heap.size ≤ k) ∧ (∀ k, R' k → R k ∨ w.heap.size ≤ k) ∧ Kp (fun k => S k ∨ R k) w w' ∧ A'.length ≤ A.length + 1
theorem op_cell {w : World} {b : Nat} {kd ix : Int} {t : Tm} {r : Rc} {pf : Option Addr} {nF cf : Nat} (h : w.heap[b]? = some (.cells #[.int .i64 kd, .int .i64 ix, .int .u64 t.1.1, .int .u64 t.1.2.1, .int .u64 t.1.2.2, .int .u64 r.1.1, .int .u64 r.2.1, .slice pf nF cf] 55 (0, 0))) :
    w.cell? ⟨b, 0, none⟩ = some (.int .i64 kd) ∧ w.cell? ⟨b, 2, none⟩ = some (.int .u64 t.1.1) ∧ w.cell? ⟨b, 3, none⟩ = some (.int .u64 t.1.2.1) ∧ w.cell? ⟨b, 4, none⟩ = some (.int .u64 t.1.2.2) ∧ w.cell? ⟨b, 5, none⟩ = some (.int .u64 r.1.1) ∧ w.cell? ⟨b, 6, none⟩ = some (.int .u64 r.2.1) ∧ w.cell? ⟨b, 7, none⟩ = some (.slice pf nF cf) ∧ b < w.heap.size := by
  refine ⟨?_, ?_, ?_, ?_, ?_, ?_, ?_, (Array.getElem?_eq_some_iff.1 h).1⟩ <;> simp [World.cell?, h]
set_option maxHeartbeats 16000000 in
set_option maxRecDepth 100000 in
theorem step_any {S R : Nat → Prop} {N sb rb nF cf : Nat} {A : List Ct} {pf : Option Addr} {F : List Tm} {kd ix : Int} {t : Tm} {r : Rc} (w : World) (hS : Su w S N sb A) (hR : Rs w R rb A) (hd : ∀ k, S k → ¬ R k) (hSl : ∀ k, S k → k < w.heap.size) (hRl : ∀ k, R k → k < w.heap.size) (hN : N ≤ 1000000) (hA : A.length ≤ 900)
    (hF : Lw ET w (.slice pf nF cf) F) (hnF : nF = F.length) (hFb : nF ≤ 5864062014804) :
    Calls Try.prog 20 #[.pointer (some ⟨sb, 0, none⟩), .pointer (some ⟨rb, 0, none⟩), .agg #[.int .i64 kd, .int .i64 ix, .int .u64 t.1.1, .int .u64 t.1.2.1, .int .u64 t.1.2.2, .int .u64 r.1.1, .int .u64 r.2.1, .slice pf nF cf]] w fun e w' => e = .returned (.bool true) ∧ Hid (Stp w S R N sb rb A w') := by
  have hmx : Try.prog.follows .mixedOrders = true := by kernel_rfl
  obtain ⟨W1, hW1⟩ : ∃ W1, W1 = w.alloc (.cells #[.int .i64 kd, .int .i64 ix, .int .u64 t.1.1, .int .u64 t.1.2.1, .int .u64 t.1.2.2, .int .u64 r.1.1, .int .u64 r.2.1, .slice pf nF cf] 55) := ⟨_, rfl⟩
  obtain ⟨b5, hb5⟩ : ∃ b5, b5 = w.heap.size := ⟨_, rfl⟩
  have G1 : Gr w W1 := by rw [hW1]; exact (Gr.refl _).alloc _
  have HX1 : Hid (W1.heap[b5]? = some (.cells #[.int .i64 kd, .int .i64 ix, .int .u64 t.1.1, .int .u64 t.1.2.1, .int .u64 t.1.2.2, .int .u64 r.1.1, .int .u64 r.2.1, .slice pf nF cf] 55 (0, 0))) := by rw [hW1, hb5]; exact heap_new' _ _
  have HS1 := hid (hS.below G1.below)
  have HR1 := hid (hR.below G1.below)
  have HF1 := hid (hF.below G1.below)
  have HG1 := hid G1
  have HD := hid hd
  have HSL := hid hSl
  have HRL := hid hRl
  have HNF := hid hnF
  have HB5 : Hid (¬ S b5 ∧ ¬ R b5) := ⟨fun h => by have := hSl b5 h; omega, fun h => by have := hRl b5 h; omega⟩
  obtain ⟨u0, u2, u3, u4, u5, u6, u7, uz⟩ := op_cell HX1.out
  clear hS hR hd hSl hRl hF hnF G1
  go_enter Try.func20, Try.ntmps20
  go_upto_region 1 with fail
  rw [← hW1, ← hb5]
  clear hW1 hb5
  by_cases h0 : kd = 0
  · have k0 : ((kd : Int) == 0) = true := by simp [h0]
    have hadd := sadd_any t r W1 HS1.out (by omega)
    have hS0 : (fun W : World => W.heap[b5]? = some (.cells #[.int .i64 kd, .int .i64 ix, .int .u64 t.1.1, .int .u64 t.1.2.1, .int .u64 t.1.2.2, .int .u64 r.1.1, .int .u64 r.2.1, .slice pf nF cf] 55 (0, 0))) W1.drew := HX1.out
    clear h0
    go_upto_region 3 with fail
    refine wp_regionD (S := fun W => W.heap[b5]? = some (.cells #[.int .i64 kd, .int .i64 ix, .int .u64 t.1.1, .int .u64 t.1.2.1, .int .u64 t.1.2.2, .int .u64 r.1.1, .int .u64 r.2.1, .slice pf nF cf] 55 (0, 0))) (D := []) hmx ?_
    refine' wpAnyD_take (i := 0) (oi := { dst := some 16, op := Go.Op.move (Go.Operand.tmp 0), type := 24, pos := "law.go:68", after := #[], guard := none }) (v := _) rfl (by kernel_rfl) (by kernel_rfl) (by kernel_rfl) (fun _ _ _ h => h) (by kernel_rfl) (Or.inl ⟨by rfl, ?hy1⟩) hS0 ?rest1
    case hy1 => (intro W hSw; go_simp; try (with_reducible rfl))
    try simp only [Act.put, List.setIfInBounds_toArray, List.set_cons_zero, List.set_cons_succ]
    refine' wpAnyD_take (i := 1) (oi := { dst := some 17, op := Go.Op.fieldAddr 55 (Go.Operand.tmp 5) 2, type := 0, pos := "law.go:68", after := #[], guard := none }) (v := _) rfl (by kernel_rfl) (by kernel_rfl) (by kernel_rfl) (fun _ _ _ h => h) (by kernel_rfl) (Or.inl ⟨by rfl, ?hy2⟩) hS0 ?rest2
    case hy2 => (intro W hSw; go_simp; try (with_reducible rfl))
    try simp only [Act.put, List.setIfInBounds_toArray, List.set_cons_zero, List.set_cons_succ]
    refine' wpAnyD_take (i := 2) (oi := { dst := some 18, op := Go.Op.load 32 (Go.Operand.tmp 17), type := 32, pos := "law.go:68", after := #[{ on := 1, ground := Go.Ground.data }], guard := none }) (v := _) rfl (by kernel_rfl) (by kernel_rfl) (by kernel_rfl) (fun _ _ _ h => h) (by kernel_rfl) (Or.inl ⟨by rfl, ?hy3⟩) hS0 ?rest3
    case hy3 => (intro W hSw; obtain ⟨s0, s2, s3, s4, s5, s6, s7, sz⟩ := op_cell hSw; go_simp; try (with_reducible rfl))
    try simp only [Act.put, List.setIfInBounds_toArray, List.set_cons_zero, List.set_cons_succ]
    refine' wpAnyD_take (i := 3) (oi := { dst := some 19, op := Go.Op.fieldAddr 55 (Go.Operand.tmp 5) 3, type := 0, pos := "law.go:68", after := #[], guard := none }) (v := _) rfl (by kernel_rfl) (by kernel_rfl) (by kernel_rfl) (fun _ _ _ h => h) (by kernel_rfl) (Or.inl ⟨by rfl, ?hy4⟩) hS0 ?rest4
    case hy4 => (intro W hSw; go_simp; try (with_reducible rfl))
    try simp only [Act.put, List.setIfInBounds_toArray, List.set_cons_zero, List.set_cons_succ]
    refine' wpAnyD_take (i := 4) (oi := { dst := some 20, op := Go.Op.load 37 (Go.Operand.tmp 19), type := 37, pos := "law.go:68", after := #[{ on := 3, ground := Go.Ground.data }], guard := none }) (v := _) rfl (by kernel_rfl) (by kernel_rfl) (by kernel_rfl) (fun _ _ _ h => h) (by kernel_rfl) (Or.inl ⟨by rfl, ?hy5⟩) hS0 ?rest5
    case hy5 => (intro W hSw; obtain ⟨s0, s2, s3, s4, s5, s6, s7, sz⟩ := op_cell hSw; go_simp; try (with_reducible rfl))
    try simp only [Act.put, List.setIfInBounds_toArray, List.set_cons_zero, List.set_cons_succ]
    refine' wpAnyD_take (i := 6) (oi := { dst := some 22, op := Go.Op.move (Go.Operand.tmp 1), type := 50, pos := "law.go:68", after := #[], guard := none }) (v := _) rfl (by kernel_rfl) (by kernel_rfl) (by kernel_rfl) (fun _ _ _ h => h) (by kernel_rfl) (Or.inl ⟨by rfl, ?hy6⟩) hS0 ?rest6
    case hy6 => (intro W hSw; go_simp; try (with_reducible rfl))
    try simp only [Act.put, List.setIfInBounds_toArray, List.set_cons_zero, List.set_cons_succ]
    refine' wpAnyD_take (i := 7) (oi := { dst := some 23, op := Go.Op.fieldAddr 55 (Go.Operand.tmp 5) 2, type := 0, pos := "law.go:68", after := #[], guard := none }) (v := _) rfl (by kernel_rfl) (by kernel_rfl) (by kernel_rfl) (fun _ _ _ h => h) (by kernel_rfl) (Or.inl ⟨by rfl, ?hy7⟩) hS0 ?rest7
    case hy7 => (intro W hSw; go_simp; try (with_reducible rfl))
    try simp only [Act.put, List.setIfInBounds_toArray, List.set_cons_zero, List.set_cons_succ]
    refine' wpAnyD_take (i := 8) (oi := { dst := some 24, op := Go.Op.load 32 (Go.Operand.tmp 23), type := 32, pos := "law.go:68", after := #[{ on := 7, ground := Go.Ground.data }], guard := none }) (v := _) rfl (by kernel_rfl) (by kernel_rfl) (by kernel_rfl) (fun _ _ _ h => h) (by kernel_rfl) (Or.inl ⟨by rfl, ?hy8⟩) hS0 ?rest8
    case hy8 => (intro W hSw; obtain ⟨s0, s2, s3, s4, s5, s6, s7, sz⟩ := op_cell hSw; go_simp; try (with_reducible rfl))
    try simp only [Act.put, List.setIfInBounds_toArray, List.set_cons_zero, List.set_cons_succ]
    refine' wpAnyD_take (i := 9) (oi := { dst := some 25, op := Go.Op.fieldAddr 55 (Go.Operand.tmp 5) 3, type := 0, pos := "law.go:68", after := #[], guard := none }) (v := _) rfl (by kernel_rfl) (by kernel_rfl) (by kernel_rfl) (fun _ _ _ h => h) (by kernel_rfl) (Or.inl ⟨by rfl, ?hy9⟩) hS0 ?rest9
    case hy9 => (intro W hSw; go_simp; try (with_reducible rfl))
    try simp only [Act.put, List.setIfInBounds_toArray, List.set_cons_zero, List.set_cons_succ]
    refine' wpAnyD_take (i := 10) (oi := { dst := some 26, op := Go.Op.load 37 (Go.Operand.tmp 25), type := 37, pos := "law.go:68", after := #[{ on := 9, ground := Go.Ground.data }], guard := none }) (v := _) rfl (by kernel_rfl) (by kernel_rfl) (by kernel_rfl) (fun _ _ _ h => h) (by kernel_rfl) (Or.inl ⟨by rfl, ?hy10⟩) hS0 ?rest10
    case hy10 => (intro W hSw; obtain ⟨s0, s2, s3, s4, s5, s6, s7, sz⟩ := op_cell hSw; go_simp; try (with_reducible rfl))
    try simp only [Act.put, List.setIfInBounds_toArray, List.set_cons_zero, List.set_cons_succ]
    refine wpAnyD_one (i := 5) (o := { dst := some 21, op := Go.Op.call { callee := Go.Callee.value (Go.Operand.func 15), args := #[Go.Operand.tmp 16, Go.Operand.tmp 18, Go.Operand.tmp 20], argTypes := #[24, 32, 37] }, type := 4, pos := "law.go:68", after := #[{ on := 0, ground := Go.Ground.data }, { on := 2, ground := Go.Ground.data }, { on := 4, ground := Go.Ground.data }], guard := none }) (by kernel_rfl) rfl (fun K hK => ?_)
    go_simp
    refine (sadd_any t r W1.drew (HS1.out.below (Gr.refl W1).drew.below) (by omega)).mono ?_
    rintro e w2 ⟨rfl, h2⟩
    have hS2 : (fun W : World => W.heap[b5]? = some (.cells #[.int .i64 kd, .int .i64 ix, .int .u64 t.1.1, .int .u64 t.1.2.1, .int .u64 t.1.2.2, .int .u64 r.1.1, .int .u64 r.2.1, .slice pf nF cf] 55 (0, 0))) w2 := (h2.out.2.block b5 uz HB5.out.1).trans HX1.out
    go_wp2_with fail
    refine hK.out _ _ (fun hD => hS2) ?_
    clear hK K
    try simp only [Act.put, List.setIfInBounds_toArray, List.set_cons_zero, List.set_cons_succ]
    refine wpAnyD_one (i := 11) (o := { dst := some 27, op := Go.Op.call { callee := Go.Callee.value (Go.Operand.func 34), args := #[Go.Operand.tmp 22, Go.Operand.tmp 24, Go.Operand.tmp 26], argTypes := #[50, 32, 37] }, type := 4, pos := "law.go:68", after := #[{ on := 6, ground := Go.Ground.data }, { on := 8, ground := Go.Ground.data }, { on := 10, ground := Go.Ground.data }, { on := 5, ground := Go.Ground.chain }], guard := none }) (by kernel_rfl) rfl (fun K hK => ?_)
    go_simp
    have HRw : Hid (Rs w2 R rb A) := (HR1.out.below (Gr.refl W1).drew.below).kp h2.out.2 (fun k h1 h3 => HD.out k h3 h1)
    refine (radd_any t r w2 HRw.out (by omega)).mono ?_
    rintro e w3 ⟨rfl, h3⟩
    have hS3 : (fun W : World => W.heap[b5]? = some (.cells #[.int .i64 kd, .int .i64 ix, .int .u64 t.1.1, .int .u64 t.1.2.1, .int .u64 t.1.2.2, .int .u64 r.1.1, .int .u64 r.2.1, .slice pf nF cf] 55 (0, 0))) w3 := (h3.out.2.block b5 (Nat.lt_of_lt_of_le uz h2.out.2.size) HB5.out.2).trans hS2
    go_wp2_with fail
    refine hK.out _ _ (fun hD => hS3) ?_
    clear hK K
    try simp only [Act.put, List.setIfInBounds_toArray, List.set_cons_zero, List.set_cons_succ]
    refine' wpAnyD_take (i := 12) (oi := { dst := some 28, op := Go.Op.binOp Go.BinOp.eql 4 (Go.Operand.tmp 21) (Go.Operand.tmp 27) 4, type := 4, pos := "law.go:68", after := #[{ on := 5, ground := Go.Ground.data }, { on := 11, ground := Go.Ground.data }], guard := none }) (v := _) rfl (by kernel_rfl) (by kernel_rfl) (by kernel_rfl) (fun _ _ _ h => h) (by kernel_rfl) (Or.inl ⟨by rfl, ?hy13⟩) hS3 ?rest13
    case hy13 => (intro W hSw; go_simp; try (with_reducible rfl))
    try simp only [Act.put, List.setIfInBounds_toArray, List.set_cons_zero, List.set_cons_succ]
    refine' wpAnyD_take (i := 13) (oi := { dst := some 6, op := Go.Op.assign (Go.Operand.tmp 28), type := 4, pos := "law.go:68", after := #[{ on := 12, ground := Go.Ground.data }, { on := 11, ground := Go.Ground.chain }, { on := 0, ground := Go.Ground.phase }, { on := 1, ground := Go.Ground.phase }, { on := 2, ground := Go.Ground.phase }, { on := 3, ground := Go.Ground.phase }, { on := 4, ground := Go.Ground.phase }, { on := 5, ground := Go.Ground.phase }, { on := 6, ground := Go.Ground.phase }, { on := 7, ground := Go.Ground.phase }, { on := 8, ground := Go.Ground.phase }, { on := 9, ground := Go.Ground.phase }, { on := 10, ground := Go.Ground.phase }, { on := 11, ground := Go.Ground.phase }, { on := 12, ground := Go.Ground.phase }], guard := none }) (v := _) rfl (by kernel_rfl) (by kernel_rfl) (by kernel_rfl) (fun _ _ _ h => h) (by kernel_rfl) (Or.inl ⟨by rfl, ?hy14⟩) hS3 ?rest14
    case hy14 => (intro W hSw; go_simp; try (with_reducible rfl))
    try simp only [Act.put, List.setIfInBounds_toArray, List.set_cons_zero, List.set_cons_succ]
    refine wpAnyD_done (by kernel_rfl) ?_ _
    have HFin : Hid (Stp w S R N sb rb A w3) := by
      have hz1 := HG1.out.size
      have hz2 := h2.out.2.size
      have hz3 : W1.heap.size ≤ w2.heap.size := hz2
      refine ⟨fun k => nw S W1 k ∧ k < w2.heap.size, nw R w2, A ++ [(t, r)], ?_, h3.out.1, fun k ⟨h4, h5⟩ h6 => ?_, fun k h4 => ?_, fun k h4 => ?_, ?_, by simp⟩
      · exact (h2.out.1.cut).kp h3.out.2 (fun k h4 h5 => by
          rcases h4.1 with h6 | h6
          · exact HD.out k h6.1 h5
          · have := HRL.out k h5
            have h7 : W1.heap.size ≤ k := h6
            omega)
      · rcases h6 with h6 | h6
        · rcases h4 with h7 | h7
          · exact HD.out k h7.1 h6.1
          · have := HRL.out k h6.1
            omega
        · omega
      · exact h4.1.elim (fun h => .inl h.1) (fun h => .inr (Nat.le_trans hz1 h))
      · exact h4.elim (fun h => .inl h.1) (fun h => .inr (by omega))
      · exact ((Kp.of_gr (S := fun k => S k ∨ R k) HG1.out.drew).trans h2.out.2 (fun k _ h => .inl h)).trans h3.out.2 (fun k _ h => .inr h)
    go_wp2_with fail
    go_ret
    exact ⟨by simp, HFin.out⟩
  · have k0 : ((kd : Int) == 0) = false := by simp [h0]
    by_cases h1 : kd = 1
    · have k1 : ((kd : Int) == 1) = true := by simp [h1]
      have hS0 : (fun W : World => W.heap[b5]? = some (.cells #[.int .i64 kd, .int .i64 ix, .int .u64 t.1.1, .int .u64 t.1.2.1, .int .u64 t.1.2.2, .int .u64 r.1.1, .int .u64 r.2.1, .slice pf nF cf] 55 (0, 0))) W1.drew := HX1.out
      clear h0 h1
      go_upto_region 5 with fail
      refine wp_regionD (S := fun W => W.heap[b5]? = some (.cells #[.int .i64 kd, .int .i64 ix, .int .u64 t.1.1, .int .u64 t.1.2.1, .int .u64 t.1.2.2, .int .u64 r.1.1, .int .u64 r.2.1, .slice pf nF cf] 55 (0, 0))) (D := []) hmx ?_
      refine' wpAnyD_take (i := 0) (oi := { dst := some 31, op := Go.Op.move (Go.Operand.tmp 0), type := 24, pos := "law.go:70", after := #[], guard := none }) (v := _) rfl (by kernel_rfl) (by kernel_rfl) (by kernel_rfl) (fun _ _ _ h => h) (by kernel_rfl) (Or.inl ⟨by rfl, ?hy15⟩) hS0 ?rest15
      case hy15 => (intro W hSw; go_simp; try (with_reducible rfl))
      try simp only [Act.put, List.setIfInBounds_toArray, List.set_cons_zero, List.set_cons_succ]
      refine' wpAnyD_take (i := 1) (oi := { dst := some 32, op := Go.Op.fieldAddr 55 (Go.Operand.tmp 5) 2, type := 0, pos := "law.go:70", after := #[], guard := none }) (v := _) rfl (by kernel_rfl) (by kernel_rfl) (by kernel_rfl) (fun _ _ _ h => h) (by kernel_rfl) (Or.inl ⟨by rfl, ?hy16⟩) hS0 ?rest16
      case hy16 => (intro W hSw; go_simp; try (with_reducible rfl))
      try simp only [Act.put, List.setIfInBounds_toArray, List.set_cons_zero, List.set_cons_succ]
      refine' wpAnyD_take (i := 2) (oi := { dst := some 33, op := Go.Op.load 32 (Go.Operand.tmp 32), type := 32, pos := "law.go:70", after := #[{ on := 1, ground := Go.Ground.data }], guard := none }) (v := _) rfl (by kernel_rfl) (by kernel_rfl) (by kernel_rfl) (fun _ _ _ h => h) (by kernel_rfl) (Or.inl ⟨by rfl, ?hy17⟩) hS0 ?rest17
      case hy17 => (intro W hSw; obtain ⟨s0, s2, s3, s4, s5, s6, s7, sz⟩ := op_cell hSw; go_simp; try (with_reducible rfl))
      try simp only [Act.put, List.setIfInBounds_toArray, List.set_cons_zero, List.set_cons_succ]
      refine' wpAnyD_take (i := 4) (oi := { dst := some 35, op := Go.Op.move (Go.Operand.tmp 1), type := 50, pos := "law.go:70", after := #[], guard := none }) (v := _) rfl (by kernel_rfl) (by kernel_rfl) (by kernel_rfl) (fun _ _ _ h => h) (by kernel_rfl) (Or.inl ⟨by rfl, ?hy18⟩) hS0 ?rest18
      case hy18 => (intro W hSw; go_simp; try (with_reducible rfl))
      try simp only [Act.put, List.setIfInBounds_toArray, List.set_cons_zero, List.set_cons_succ]
      refine' wpAnyD_take (i := 5) (oi := { dst := some 36, op := Go.Op.fieldAddr 55 (Go.Operand.tmp 5) 2, type := 0, pos := "law.go:70", after := #[], guard := none }) (v := _) rfl (by kernel_rfl) (by kernel_rfl) (by kernel_rfl) (fun _ _ _ h => h) (by kernel_rfl) (Or.inl ⟨by rfl, ?hy19⟩) hS0 ?rest19
      case hy19 => (intro W hSw; go_simp; try (with_reducible rfl))
      try simp only [Act.put, List.setIfInBounds_toArray, List.set_cons_zero, List.set_cons_succ]
      refine' wpAnyD_take (i := 6) (oi := { dst := some 37, op := Go.Op.load 32 (Go.Operand.tmp 36), type := 32, pos := "law.go:70", after := #[{ on := 5, ground := Go.Ground.data }], guard := none }) (v := _) rfl (by kernel_rfl) (by kernel_rfl) (by kernel_rfl) (fun _ _ _ h => h) (by kernel_rfl) (Or.inl ⟨by rfl, ?hy20⟩) hS0 ?rest20
      case hy20 => (intro W hSw; obtain ⟨s0, s2, s3, s4, s5, s6, s7, sz⟩ := op_cell hSw; go_simp; try (with_reducible rfl))
      try simp only [Act.put, List.setIfInBounds_toArray, List.set_cons_zero, List.set_cons_succ]
      refine wpAnyD_one (i := 3) (o := { dst := some 34, op := Go.Op.call { callee := Go.Callee.value (Go.Operand.func 12), args := #[Go.Operand.tmp 31, Go.Operand.tmp 33], argTypes := #[24, 32] }, type := 33, pos := "law.go:70", after := #[{ on := 0, ground := Go.Ground.data }, { on := 2, ground := Go.Ground.data }], guard := none }) (by kernel_rfl) rfl (fun K hK => ?_)
      go_simp
      refine (tell_any t W1.drew (HS1.out.below (Gr.refl W1).drew.below) (by omega)).mono ?_
      rintro e w2 ⟨v2, rfl, h2⟩
      obtain ⟨p2, c2, hv2⟩ := owns_form h2.out.1
      subst hv2
      have hk2 : Kp S W1.drew w2 := h2.out.2.2.mono (fun k h => h.1)
      have hS2 : (fun W : World => W.heap[b5]? = some (.cells #[.int .i64 kd, .int .i64 ix, .int .u64 t.1.1, .int .u64 t.1.2.1, .int .u64 t.1.2.2, .int .u64 r.1.1, .int .u64 r.2.1, .slice pf nF cf] 55 (0, 0))) w2 := (hk2.block b5 uz HB5.out.1).trans HX1.out
      go_wp2_with fail
      refine hK.out _ _ (fun hD => hS2) ?_
      clear hK K
      try simp only [Act.put, List.setIfInBounds_toArray, List.set_cons_zero, List.set_cons_succ]
      refine wpAnyD_one (i := 7) (o := { dst := some 38, op := Go.Op.call { callee := Go.Callee.value (Go.Operand.func 22), args := #[Go.Operand.tmp 35, Go.Operand.tmp 37], argTypes := #[50, 32] }, type := 33, pos := "law.go:70", after := #[{ on := 4, ground := Go.Ground.data }, { on := 6, ground := Go.Ground.data }, { on := 3, ground := Go.Ground.chain }], guard := none }) (by kernel_rfl) rfl (fun K hK => ?_)
      go_simp
      have HRw : Hid (Rs w2 R rb A) := (HR1.out.below (Gr.refl W1).drew.below).kp hk2 (fun k h1 h3 => HD.out k h3 h1)
      refine (rtell_any t w2 HRw.out (by omega)).mono ?_
      rintro e w3 ⟨v3, rfl, h3⟩
      obtain ⟨p3, c3, hv3⟩ := owns_form h3.out.1
      subst hv3
      have hS3 : (fun W : World => W.heap[b5]? = some (.cells #[.int .i64 kd, .int .i64 ix, .int .u64 t.1.1, .int .u64 t.1.2.1, .int .u64 t.1.2.2, .int .u64 r.1.1, .int .u64 r.2.1, .slice pf nF cf] 55 (0, 0))) w3 := (h3.out.2.2.block b5 (Nat.lt_of_lt_of_le uz hk2.size) HB5.out.2).trans hS2
      go_wp2_with fail
      refine hK.out _ _ (fun hD => hS3) ?_
      clear hK K
      try simp only [Act.put, List.setIfInBounds_toArray, List.set_cons_zero, List.set_cons_succ]
      refine wpAnyD_one (i := 8) (o := { dst := some 39, op := Go.Op.call { callee := Go.Callee.value (Go.Operand.func 13), args := #[Go.Operand.tmp 34, Go.Operand.tmp 38], argTypes := #[33, 33] }, type := 4, pos := "law.go:70", after := #[{ on := 3, ground := Go.Ground.data }, { on := 7, ground := Go.Ground.data }, { on := 7, ground := Go.Ground.chain }], guard := none }) (by kernel_rfl) rfl (fun K hK => ?_)
      go_simp
      have hls2 : Ls ER w3 (.slice p2 (rcs A t).length c2) (rcs A t) := owns_ls (E := ER) (owns_kp h3.out.2.2 h2.out.1 (fun k hk e => by
        have h5 := (h2.out.1.lt k hk).1
        have h6 := HRL.out k e
        have h7 : w.heap.size ≤ W1.drew.heap.size := HG1.out.size
        omega))
      refine (records_eq w3 hls2 (owns_ls (E := ER) h3.out.1) (by have := HS1.out.len t; omega)).mono ?_
      rintro e w4 ⟨rfl, g4⟩
      have hS4 : (fun W : World => W.heap[b5]? = some (.cells #[.int .i64 kd, .int .i64 ix, .int .u64 t.1.1, .int .u64 t.1.2.1, .int .u64 t.1.2.2, .int .u64 r.1.1, .int .u64 r.2.1, .slice pf nF cf] 55 (0, 0))) w4 := (g4.below.block b5 (Array.getElem?_eq_some_iff.1 hS3).1).trans hS3
      go_wp2_with fail
      refine hK.out _ _ (fun hD => hS4) ?_
      clear hK K
      try simp only [Act.put, List.setIfInBounds_toArray, List.set_cons_zero, List.set_cons_succ]
      refine' wpAnyD_take (i := 9) (oi := { dst := some 6, op := Go.Op.assign (Go.Operand.tmp 39), type := 4, pos := "law.go:70", after := #[{ on := 8, ground := Go.Ground.data }, { on := 8, ground := Go.Ground.chain }, { on := 0, ground := Go.Ground.phase }, { on := 1, ground := Go.Ground.phase }, { on := 2, ground := Go.Ground.phase }, { on := 3, ground := Go.Ground.phase }, { on := 4, ground := Go.Ground.phase }, { on := 5, ground := Go.Ground.phase }, { on := 6, ground := Go.Ground.phase }, { on := 7, ground := Go.Ground.phase }, { on := 8, ground := Go.Ground.phase }], guard := none }) (v := _) rfl (by kernel_rfl) (by kernel_rfl) (by kernel_rfl) (fun _ _ _ h => h) (by kernel_rfl) (Or.inl ⟨by rfl, ?hy24⟩) hS4 ?rest24
      case hy24 => (intro W hSw; go_simp; try (with_reducible rfl))
      try simp only [Act.put, List.setIfInBounds_toArray, List.set_cons_zero, List.set_cons_succ]
      refine wpAnyD_done (by kernel_rfl) ?_ _
      have HFin : Hid (Stp w S R N sb rb A w4) := by
        have hz1 : w.heap.size ≤ W1.drew.heap.size := HG1.out.size
        have hz2 := hk2.size
        refine ⟨fun k => S k ∧ k < W1.drew.heap.size, nw R w2, lft A t, ?_, h3.out.2.1.below g4.below, fun k h4 h6 => ?_, fun k h4 => .inl h4.1, fun k h4 => ?_, ?_, Nat.le_trans (lft_len A t) (Nat.le_succ _)⟩
        · exact ((h2.out.2.1.mono (Nat.le_add_right N 3)).kp h3.out.2.2 (fun k h4 h5 => HD.out k h4.1 h5)).below g4.below
        · rcases h6 with h6 | h6
          · exact HD.out k h4.1 h6.1
          · have := h4.2
            omega
        · exact h4.elim (fun h => .inl h.1) (fun h => .inr (by omega))
        · exact (((Kp.of_gr (S := fun k => S k ∨ R k) HG1.out.drew).trans hk2 (fun k _ h => .inl h)).trans h3.out.2.2 (fun k _ h => .inr h)).trans (Kp.of_gr (S := fun k => S k ∨ R k) g4) (fun _ _ h => h)
      go_wp2_with fail
      go_ret
      exact ⟨rfl, HFin.out⟩
    · have k1 : ((kd : Int) == 1) = false := by simp [h1]
      by_cases h2 : kd = 2
      · have k2 : ((kd : Int) == 2) = true := by simp [h2]
        have k4 : ((kd : Int) == 4) = false := by simp [h2]
        have hlr := lready_any W1 HS1.out (by omega) HF1.out (by have := HNF.out; omega)
        clear h0 h1 h2
        go_wp2_with fail
        refine hlr.mono ?_
        rintro e w2 ⟨v2, rfl, hr2, hb2⟩
        obtain ⟨p2, c2, hv2⟩ := owns_form hr2
        subst hv2
        have HR2 := hid hr2
        have HX2 : Hid (w2.heap[b5]? = some (.cells #[.int .i64 kd, .int .i64 ix, .int .u64 t.1.1, .int .u64 t.1.2.1, .int .u64 t.1.2.2, .int .u64 r.1.1, .int .u64 r.2.1, .slice pf nF cf] 55 (0, 0))) := (hb2.block b5 uz).trans HX1.out
        have hrr := rready_any w2 (HR1.out.below hb2) (by omega) (HF1.out.below hb2) (by have := HNF.out; omega)
        have HB2 := hid hb2
        obtain ⟨K, hK⟩ : ∃ K, K = rdy A F := ⟨_, rfl⟩
        obtain ⟨nk, hnk⟩ : ∃ nk, nk = K.length := ⟨_, rfl⟩
        have hnk9 : nk ≤ 900 := by
          rw [hnk, hK]
          exact Nat.le_trans (List.length_filter_le _ _) (Nat.le_trans (tms_len A) hA)
        rw [← hK, ← hnk] at HR2 hrr ⊢
        have HNK := hid hnk
        clear hlr hr2 hb2 u0 u2 u3 u4 u5 u6 u7 uz hK hnk
        obtain ⟨u0, u2, u3, u4, u5, u6, u7, uz⟩ := op_cell HX2.out
        go_wp2_with fail
        refine hrr.mono ?_
        rintro e w3 ⟨v3, rfl, hr3, hb3⟩
        obtain ⟨p3, c3, hv3⟩ := owns_form hr3
        subst hv3
        have hte := times_eq w3 (owns_lst (owns_re (owns_below HR2.out hb3) HNK.out rfl)) (owns_lst (owns_re hr3 HNK.out rfl)) (by have := HNK.out; omega)
        have HX3 : Hid (w3.heap[b5]? = some (.cells #[.int .i64 kd, .int .i64 ix, .int .u64 t.1.1, .int .u64 t.1.2.1, .int .u64 t.1.2.2, .int .u64 r.1.1, .int .u64 r.2.1, .slice pf nF cf] 55 (0, 0))) := (hb3.block b5 uz).trans HX2.out
        have HB3 : Hid (Below W1.heap.size W1 w3) := HB2.out.trans (hb3.mono HB2.out.size)
        have HR3 := hid hr3
        have HZ3 : Hid (W1.heap.size ≤ w2.heap.size) := HB2.out.size
        clear hrr hr3 hb3 u0 u2 u3 u4 u5 u6 u7 uz HR2 HB2
        go_wp2_with fail
        refine hte.mono ?_
        rintro e w4 ⟨rfl, g4⟩
        have HX4 : Hid (w4.heap[b5]? = some (.cells #[.int .i64 kd, .int .i64 ix, .int .u64 t.1.1, .int .u64 t.1.2.1, .int .u64 t.1.2.2, .int .u64 r.1.1, .int .u64 r.2.1, .slice pf nF cf] 55 (0, 0))) := (g4.below.block b5 (Array.getElem?_eq_some_iff.1 HX3.out).1).trans HX3.out
        have HB4 : Hid (Below W1.heap.size W1 w4) := HB3.out.trans (g4.below.mono HB3.out.size)
        have OM : Hid (Own w4 32 3 (.slice p3 nk c3) nk (fl ET K) w2.heap.size w4.heap.size) := ⟨owns_below HR3.out g4.below, fun k hk => Nat.lt_of_lt_of_le (HR3.out.lt k hk).2 g4.size⟩
        have HS4 := hid (HS1.out.below HB4.out)
        have HR4 := hid (HR1.out.below HB4.out)
        have HZ4 : Hid (w.heap.size ≤ W1.heap.size ∧ W1.heap.size ≤ w4.heap.size) := ⟨HG1.out.size, HB4.out.size⟩
        have HZW : Hid (b5 < w4.heap.size) := (Array.getElem?_eq_some_iff.1 HX4.out).1
        clear hte g4 HX3 HR3 HB3 HX2 HX1
        go_wp2_with fail
        go_loopw [11, 64] (fun _ s64 wr => ∃ j : Nat, j ≤ nk ∧ s64 = .int .i64 (j : Nat) ∧ Hid (Gr w4 wr)) (fun _ s64 _ => nk - (RowKit.intOf s64).toNat)
        case atStart => exact ⟨0, Nat.zero_le _, rfl, Gr.refl _⟩
        case round =>
          obtain ⟨j, hj, rfl, HG⟩ := hrel
          by_cases hlt : j < nk
          · have hz : (j : Int) < (nk : Int) := by omega
            have hj0 : (0 : Int) ≤ (j : Int) := by omega
            obtain ⟨u, hu⟩ : ∃ u, K[j]? = some u := ⟨K[j]'(by have := HNK.out; omega), by simp⟩
            obtain ⟨b1, o1, q1, e1, l1, x0, x1, x2⟩ := ((owns_lst (owns_re OM.out.row HNK.out rfl)).below HG.out.below).at3 hu
            simp only [Value.slice.injEq] at e1
            obtain ⟨rfl, e1n, rfl⟩ := e1
            obtain ⟨W2, hW2⟩ : ∃ W2, W2 = wr.alloc (.cells #[.int .u64 u.1.1, .int .u64 u.1.2.1, .int .u64 u.1.2.2] 32) := ⟨_, rfl⟩
            have G2 : Gr wr W2 := by rw [hW2]; exact (Gr.refl _).alloc _
            obtain ⟨u0, u2, u3, u4, u5, u6, u7, uz⟩ := op_cell (((HG.out.trans G2).below.block b5 HZW.out).trans HX4.out)
            have HG2 := hid (HG.out.trans G2)
            clear hu e1n G2 HG
            go_upto_region 15 with fail
            rw [← hW2]
            clear hW2 x0 x1 x2 l1
            go_quiet (fail)
            go_wp2_with fail
            go_roundw
            case rel => exact ⟨j + 1, by omega, by simp, HG2.out.drewN _⟩
            case measure => simp [RowKit.intOf]; omega
          · have hz : ¬ (j : Int) < (nk : Int) := by omega
            have HFin : Hid (Stp w S R N sb rb A wr) := ⟨S, R, A, (HS4.out.below HG.out.below).mono (Nat.le_add_right N 3), HR4.out.below HG.out.below, HD.out, fun k h => .inl h, fun k h => .inl h, Kp.of_below (HG1.out.below.trans ((HB4.out.trans (HG.out.below.mono HB4.out.size)).mono HG1.out.size)), Nat.le_succ _⟩
            go_wp2_with fail
            go_ret
            exact ⟨rfl, HFin.out⟩
      · have k2 : ((kd : Int) == 2) = false := by simp [h2]
        by_cases h4 : kd = 4
        · have k4 : ((kd : Int) == 4) = true := by simp [h4]
          have hlr := lready_any W1 HS1.out (by omega) HF1.out (by have := HNF.out; omega)
          clear h0 h1 h4
          go_wp2_with fail
          refine hlr.mono ?_
          rintro e w2 ⟨v2, rfl, hr2, hb2⟩
          obtain ⟨p2, c2, hv2⟩ := owns_form hr2
          subst hv2
          have HR2 := hid hr2
          have HX2 : Hid (w2.heap[b5]? = some (.cells #[.int .i64 kd, .int .i64 ix, .int .u64 t.1.1, .int .u64 t.1.2.1, .int .u64 t.1.2.2, .int .u64 r.1.1, .int .u64 r.2.1, .slice pf nF cf] 55 (0, 0))) := (hb2.block b5 uz).trans HX1.out
          have hrr := rready_any w2 (HR1.out.below hb2) (by omega) (HF1.out.below hb2) (by have := HNF.out; omega)
          have HB2 := hid hb2
          obtain ⟨K, hK⟩ : ∃ K, K = rdy A F := ⟨_, rfl⟩
          obtain ⟨nk, hnk⟩ : ∃ nk, nk = K.length := ⟨_, rfl⟩
          have hnk9 : nk ≤ 900 := by
            rw [hnk, hK]
            exact Nat.le_trans (List.length_filter_le _ _) (Nat.le_trans (tms_len A) hA)
          rw [← hK, ← hnk] at HR2 hrr ⊢
          have HNK := hid hnk
          clear hlr hr2 hb2 u0 u2 u3 u4 u5 u6 u7 uz hK hnk
          obtain ⟨u0, u2, u3, u4, u5, u6, u7, uz⟩ := op_cell HX2.out
          go_wp2_with fail
          refine hrr.mono ?_
          rintro e w3 ⟨v3, rfl, hr3, hb3⟩
          obtain ⟨p3, c3, hv3⟩ := owns_form hr3
          subst hv3
          have hte := times_eq w3 (owns_lst (owns_re (owns_below HR2.out hb3) HNK.out rfl)) (owns_lst (owns_re hr3 HNK.out rfl)) (by have := HNK.out; omega)
          have HX3 : Hid (w3.heap[b5]? = some (.cells #[.int .i64 kd, .int .i64 ix, .int .u64 t.1.1, .int .u64 t.1.2.1, .int .u64 t.1.2.2, .int .u64 r.1.1, .int .u64 r.2.1, .slice pf nF cf] 55 (0, 0))) := (hb3.block b5 uz).trans HX2.out
          have HB3 : Hid (Below W1.heap.size W1 w3) := HB2.out.trans (hb3.mono HB2.out.size)
          have HR3 := hid hr3
          have HZ3 : Hid (W1.heap.size ≤ w2.heap.size) := HB2.out.size
          clear hrr hr3 hb3 u0 u2 u3 u4 u5 u6 u7 uz HR2 HB2
          go_wp2_with fail
          refine hte.mono ?_
          rintro e w4 ⟨rfl, g4⟩
          have HX4 : Hid (w4.heap[b5]? = some (.cells #[.int .i64 kd, .int .i64 ix, .int .u64 t.1.1, .int .u64 t.1.2.1, .int .u64 t.1.2.2, .int .u64 r.1.1, .int .u64 r.2.1, .slice pf nF cf] 55 (0, 0))) := (g4.below.block b5 (Array.getElem?_eq_some_iff.1 HX3.out).1).trans HX3.out
          have HB4 : Hid (Below W1.heap.size W1 w4) := HB3.out.trans (g4.below.mono HB3.out.size)
          have OM : Hid (Own w4 32 3 (.slice p3 nk c3) nk (fl ET K) w2.heap.size w4.heap.size) := ⟨owns_below HR3.out g4.below, fun k hk => Nat.lt_of_lt_of_le (HR3.out.lt k hk).2 g4.size⟩
          have HS4 := hid (HS1.out.below HB4.out)
          have HR4 := hid (HR1.out.below HB4.out)
          have HZ4 : Hid (w.heap.size ≤ W1.heap.size ∧ W1.heap.size ≤ w4.heap.size) := ⟨HG1.out.size, HB4.out.size⟩
          have HZW : Hid (b5 < w4.heap.size) := (Array.getElem?_eq_some_iff.1 HX4.out).1
          clear hte g4 HX3 HR3 HB3 HX2 HX1
          obtain ⟨R2, hR2⟩ : ∃ R2 : Nat → Prop, R2 = fun k => R k ∨ w4.heap.size ≤ k := ⟨_, rfl⟩
          have HRR : Hid (∀ k, R2 k ↔ R k ∨ w4.heap.size ≤ k) := fun k => by rw [hR2]
          have HR4' : Hid (Rs w4 R2 rb A) := HR4.out.wide fun k h => (HRR.out k).2 (.inl h)
          clear hR2 HR4
          go_wp2_with fail
          go_loopw [11, 64] (fun _ s64 wr => ∃ j : Nat, j ≤ nk ∧ s64 = .int .i64 (j : Nat) ∧ Hid (Su wr S N sb (lfs A (K.take j)) ∧ Rs wr R2 rb (lfs A (K.take j)) ∧ Kp (fun k => S k ∨ R2 k) w4 wr)) (fun _ s64 _ => nk - (RowKit.intOf s64).toNat)
          case atStart => exact ⟨0, Nat.zero_le _, rfl, HS4.out, HR4'.out, Kp.refl _ _⟩
          case round =>
            obtain ⟨j, hj, rfl, HI⟩ := hrel
            by_cases hlt : j < nk
            · have hz : (j : Int) < (nk : Int) := by omega
              have hj0 : (0 : Int) ≤ (j : Int) := by omega
              obtain ⟨u, hu⟩ : ∃ u, K[j]? = some u := ⟨K[j]'(by have := HNK.out; omega), by simp⟩
              have hOM := OM.out.kp HI.out.2.2 (fun k hk => by
                rcases hk with hk | hk
                · have h1 := HSL.out k hk; have h2 := HZ4.out; have h3 := HZ3.out; omega
                · rcases (HRR.out k).1 hk with hk | hk
                  · have h1 := HRL.out k hk; have h2 := HZ4.out; have h3 := HZ3.out; omega
                  · exact .inr hk)
              obtain ⟨b1, o1, q1, e1, l1, x0, x1, x2⟩ := (owns_lst (owns_re hOM.row HNK.out rfl)).at3 hu
              simp only [Value.slice.injEq] at e1
              obtain ⟨rfl, e1n, rfl⟩ := e1
              have HTK : Hid (K.take (j + 1) = K.take j ++ [u]) := (take_snoc hu).symm
              obtain ⟨W2, hW2⟩ : ∃ W2, W2 = wr.alloc (.cells #[.int .u64 u.1.1, .int .u64 u.1.2.1, .int .u64 u.1.2.2] 32) := ⟨_, rfl⟩
              obtain ⟨b2, hb2⟩ : ∃ b2, b2 = wr.heap.size := ⟨_, rfl⟩
              have G2 : Gr wr W2 := by rw [hW2]; exact (Gr.refl _).alloc _
              have hxt : W2.heap[b2]? = some (.cells #[.int .u64 u.1.1, .int .u64 u.1.2.1, .int .u64 u.1.2.2] 32 (0, 0)) := by rw [hW2, hb2]; exact heap_new' _ _
              have hz4 : w4.heap.size ≤ wr.heap.size := HI.out.2.2.size
              have hnb : ¬ S b5 ∧ ¬ R2 b5 := ⟨HB5.out.1, fun h => (HRR.out b5).1 h |>.elim HB5.out.2 (fun h => by have := HZW.out; omega)⟩
              have hxo : W2.heap[b5]? = some (.cells #[.int .i64 kd, .int .i64 ix, .int .u64 t.1.1, .int .u64 t.1.2.1, .int .u64 t.1.2.2, .int .u64 r.1.1, .int .u64 r.2.1, .slice pf nF cf] 55 (0, 0)) := (G2.below.block b5 (Nat.lt_of_lt_of_le HZW.out hz4)).trans ((HI.out.2.2.block b5 HZW.out (fun h => h.elim hnb.1 hnb.2)).trans HX4.out)
              have HNB := hid hnb
              have HN2 : Hid (¬ S b2 ∧ ∀ k, (R2 k ∧ k < wr.heap.size) → k ≠ b2) := ⟨fun h => by have h1 := HSL.out b2 h; have h2 := HZ4.out; omega, fun k h e => by have := h.2; omega⟩
              have HS2 := hid (HI.out.1.below G2.below)
              have HR2 : Hid (Rs W2 (fun k => R2 k ∧ k < wr.heap.size) rb (lfs A (K.take j))) := HI.out.2.1.cut.below G2.below
              have HK2 : Hid (Kp (fun k => S k ∨ R2 k) w4 W2) := HI.out.2.2.trans (Kp.of_gr (S := fun k => S k ∨ R2 k) G2) (fun _ _ h => h)
              have HZZ : Hid (w4.heap.size ≤ wr.heap.size ∧ wr.heap.size ≤ W2.heap.size) := ⟨hz4, G2.size⟩
              have hzt := (Array.getElem?_eq_some_iff.1 hxt).1
              have hzo := (Array.getElem?_eq_some_iff.1 hxo).1
              have hlA := lfs_len A (K.take j)
              have hS0 : (fun W : World => W.heap[b5]? = some (.cells #[.int .i64 kd, .int .i64 ix, .int .u64 t.1.1, .int .u64 t.1.2.1, .int .u64 t.1.2.2, .int .u64 r.1.1, .int .u64 r.2.1, .slice pf nF cf] 55 (0, 0)) ∧ W.heap[b2]? = some (.cells #[.int .u64 u.1.1, .int .u64 u.1.2.1, .int .u64 u.1.2.2] 32 (0, 0))) W2.drew := ⟨hxo, hxt⟩
              obtain ⟨B, hB⟩ : ∃ B, B = lfs A (K.take j) := ⟨_, rfl⟩
              rw [← hB] at HS2 HR2 hlA
              have HBQ := hid hB
              clear hB
              clear hu e1n G2 HI hOM hnb hz4
              go_upto_region 15 with fail
              rw [← hW2, ← hb2]
              clear hW2 hb2 x0 x1 x2 l1
              refine wp_regionD (S := fun W => W.heap[b5]? = some (.cells #[.int .i64 kd, .int .i64 ix, .int .u64 t.1.1, .int .u64 t.1.2.1, .int .u64 t.1.2.2, .int .u64 r.1.1, .int .u64 r.2.1, .slice pf nF cf] 55 (0, 0)) ∧ W.heap[b2]? = some (.cells #[.int .u64 u.1.1, .int .u64 u.1.2.1, .int .u64 u.1.2.2] 32 (0, 0))) (D := []) hmx ?_
              refine' wpAnyD_take (i := 0) (oi := { dst := some 68, op := Go.Op.fieldAddr 55 (Go.Operand.tmp 5) 0, type := 0, pos := "law.go:78", after := #[], guard := none }) (v := _) rfl (by kernel_rfl) (by kernel_rfl) (by kernel_rfl) (fun _ _ _ h => h) (by kernel_rfl) (Or.inl ⟨by rfl, ?hy25⟩) hS0 ?rest25
              case hy25 => (intro W hSw; go_simp; try (with_reducible rfl))
              try simp only [Act.put, List.setIfInBounds_toArray, List.set_cons_zero, List.set_cons_succ]
              refine' wpAnyD_take (i := 1) (oi := { dst := some 69, op := Go.Op.load 3 (Go.Operand.tmp 68), type := 3, pos := "law.go:78", after := #[{ on := 0, ground := Go.Ground.data }], guard := none }) (v := _) rfl (by kernel_rfl) (by kernel_rfl) (by kernel_rfl) (fun _ _ _ h => h) (by kernel_rfl) (Or.inl ⟨by rfl, ?hy26⟩) hS0 ?rest26
              case hy26 => (intro W hSw; obtain ⟨s0, s2, s3, s4, s5, s6, s7, sz⟩ := op_cell hSw.1; go_simp; try (with_reducible rfl))
              try simp only [Act.put, List.setIfInBounds_toArray, List.set_cons_zero, List.set_cons_succ]
              refine' wpAnyD_take (i := 2) (oi := { dst := some 70, op := Go.Op.binOp Go.BinOp.eql 3 (Go.Operand.tmp 69) (Go.Operand.const (Go.Value.int Go.IntKind.i64 4)) 3, type := 4, pos := "law.go:78", after := #[{ on := 1, ground := Go.Ground.data }], guard := none }) (v := _) rfl (by kernel_rfl) (by kernel_rfl) (by kernel_rfl) (fun _ _ _ h => h) (by kernel_rfl) (Or.inl ⟨by rfl, ?hy27⟩) hS0 ?rest27
              case hy27 => (intro W hSw; go_simp; try (with_reducible rfl))
              try simp only [Act.put, List.setIfInBounds_toArray, List.set_cons_zero, List.set_cons_succ]
              refine' wpAnyD_take (i := 3) (oi := { dst := some 71, op := Go.Op.move (Go.Operand.tmp 70), type := 4, pos := "law.go:78", after := #[{ on := 2, ground := Go.Ground.data }], guard := none }) (v := _) rfl (by kernel_rfl) (by kernel_rfl) (by kernel_rfl) (fun _ _ _ h => h) (by kernel_rfl) (Or.inl ⟨by rfl, ?hy28⟩) hS0 ?rest28
              case hy28 => (intro W hSw; go_simp; try (with_reducible rfl))
              try simp only [Act.put, List.setIfInBounds_toArray, List.set_cons_zero, List.set_cons_succ]
              refine' wpAnyD_take (i := 4) (oi := { dst := some 72, op := Go.Op.move (Go.Operand.tmp 0), type := 24, pos := "law.go:78", after := #[{ on := 3, ground := Go.Ground.guard }], guard := some (3, true) }) (v := _) rfl (by kernel_rfl) (by kernel_rfl) (by kernel_rfl) (fun _ _ _ h => h) (by kernel_rfl) (Or.inl ⟨by rfl, ?hy29⟩) hS0 ?rest29
              case hy29 => (intro W hSw; go_simp; try (with_reducible rfl))
              try simp only [Act.put, List.setIfInBounds_toArray, List.set_cons_zero, List.set_cons_succ]
              refine' wpAnyD_take (i := 5) (oi := { dst := some 73, op := Go.Op.load 32 (Go.Operand.tmp 11), type := 32, pos := "law.go:78", after := #[{ on := 3, ground := Go.Ground.guard }], guard := some (3, true) }) (v := _) rfl (by kernel_rfl) (by kernel_rfl) (by kernel_rfl) (fun _ _ _ h => h) (by kernel_rfl) (Or.inl ⟨by rfl, ?hy30⟩) hS0 ?rest30
              case hy30 => (intro W hSw; obtain ⟨s0, s2, s3, s4⟩ := bx_cell hSw.2; go_simp; try (with_reducible rfl))
              try simp only [Act.put, List.setIfInBounds_toArray, List.set_cons_zero, List.set_cons_succ]
              refine' wpAnyD_take (i := 7) (oi := { dst := some 75, op := Go.Op.move (Go.Operand.tmp 1), type := 50, pos := "law.go:78", after := #[{ on := 3, ground := Go.Ground.guard }], guard := some (3, true) }) (v := _) rfl (by kernel_rfl) (by kernel_rfl) (by kernel_rfl) (fun _ _ _ h => h) (by kernel_rfl) (Or.inl ⟨by rfl, ?hy31⟩) hS0 ?rest31
              case hy31 => (intro W hSw; go_simp; try (with_reducible rfl))
              try simp only [Act.put, List.setIfInBounds_toArray, List.set_cons_zero, List.set_cons_succ]
              refine' wpAnyD_take (i := 8) (oi := { dst := some 76, op := Go.Op.load 32 (Go.Operand.tmp 11), type := 32, pos := "law.go:78", after := #[{ on := 3, ground := Go.Ground.guard }], guard := some (3, true) }) (v := _) rfl (by kernel_rfl) (by kernel_rfl) (by kernel_rfl) (fun _ _ _ h => h) (by kernel_rfl) (Or.inl ⟨by rfl, ?hy32⟩) hS0 ?rest32
              case hy32 => (intro W hSw; obtain ⟨s0, s2, s3, s4⟩ := bx_cell hSw.2; go_simp; try (with_reducible rfl))
              try simp only [Act.put, List.setIfInBounds_toArray, List.set_cons_zero, List.set_cons_succ]
              refine wpAnyD_one (i := 6) (o := { dst := some 74, op := Go.Op.call { callee := Go.Callee.value (Go.Operand.func 12), args := #[Go.Operand.tmp 72, Go.Operand.tmp 73], argTypes := #[24, 32] }, type := 33, pos := "law.go:78", after := #[{ on := 4, ground := Go.Ground.data }, { on := 5, ground := Go.Ground.data }, { on := 3, ground := Go.Ground.chain }, { on := 3, ground := Go.Ground.guard }], guard := some (3, true) }) (by kernel_rfl) rfl (fun K hK => ?_)
              go_simp
              refine (tell_any u W2.drew (HS2.out.below (Gr.refl W2).drew.below) (by omega)).mono ?_
              rintro e w5 ⟨v5, rfl, h5⟩
              obtain ⟨p5, c5, hv5⟩ := owns_form h5.out.1
              subst hv5
              have hk5 : Kp S W2.drew w5 := h5.out.2.2.mono (fun k h => h.1)
              have hS5 : (fun W : World => W.heap[b5]? = some (.cells #[.int .i64 kd, .int .i64 ix, .int .u64 t.1.1, .int .u64 t.1.2.1, .int .u64 t.1.2.2, .int .u64 r.1.1, .int .u64 r.2.1, .slice pf nF cf] 55 (0, 0)) ∧ W.heap[b2]? = some (.cells #[.int .u64 u.1.1, .int .u64 u.1.2.1, .int .u64 u.1.2.2] 32 (0, 0))) w5 := ⟨(hk5.block b5 hzo HNB.out.1).trans hS0.1, (hk5.block b2 hzt HN2.out.1).trans hS0.2⟩
              go_wp2_with fail
              refine hK.out _ _ (fun hD => hS5) ?_
              clear hK K
              try simp only [Act.put, List.setIfInBounds_toArray, List.set_cons_zero, List.set_cons_succ]
              refine wpAnyD_one (i := 9) (o := { dst := some 77, op := Go.Op.call { callee := Go.Callee.value (Go.Operand.func 22), args := #[Go.Operand.tmp 75, Go.Operand.tmp 76], argTypes := #[50, 32] }, type := 33, pos := "law.go:78", after := #[{ on := 7, ground := Go.Ground.data }, { on := 8, ground := Go.Ground.data }, { on := 6, ground := Go.Ground.chain }, { on := 3, ground := Go.Ground.guard }], guard := some (3, true) }) (by kernel_rfl) rfl (fun K hK => ?_)
              go_simp
              have HRw : Hid (Rs w5 (fun k => R2 k ∧ k < wr.heap.size) rb B) := (HR2.out.below (Gr.refl W2).drew.below).kp hk5 (fun k h1 h3 => by
                rcases (HRR.out k).1 h1.1 with h4 | h4
                · exact HD.out k h3 h4
                · have h6 := HSL.out k h3; have h7 := HZ4.out; omega)
              refine (rtell_any u w5 HRw.out (by omega)).mono ?_
              rintro e w6 ⟨v6, rfl, h6⟩
              obtain ⟨p6, c6, hv6⟩ := owns_form h6.out.1
              subst hv6
              have hS6 : (fun W : World => W.heap[b5]? = some (.cells #[.int .i64 kd, .int .i64 ix, .int .u64 t.1.1, .int .u64 t.1.2.1, .int .u64 t.1.2.2, .int .u64 r.1.1, .int .u64 r.2.1, .slice pf nF cf] 55 (0, 0)) ∧ W.heap[b2]? = some (.cells #[.int .u64 u.1.1, .int .u64 u.1.2.1, .int .u64 u.1.2.2] 32 (0, 0))) w6 := ⟨(h6.out.2.2.block b5 (Nat.lt_of_lt_of_le hzo hk5.size) (fun h => HNB.out.2 h.1)).trans hS5.1, (h6.out.2.2.block b2 (Nat.lt_of_lt_of_le hzt hk5.size) (fun h => HN2.out.2 b2 h rfl)).trans hS5.2⟩
              go_wp2_with fail
              refine hK.out _ _ (fun hD => hS6) ?_
              clear hK K
              try simp only [Act.put, List.setIfInBounds_toArray, List.set_cons_zero, List.set_cons_succ]
              refine wpAnyD_one (i := 10) (o := { dst := some 78, op := Go.Op.call { callee := Go.Callee.value (Go.Operand.func 13), args := #[Go.Operand.tmp 74, Go.Operand.tmp 77], argTypes := #[33, 33] }, type := 4, pos := "law.go:78", after := #[{ on := 6, ground := Go.Ground.data }, { on := 9, ground := Go.Ground.data }, { on := 9, ground := Go.Ground.chain }, { on := 3, ground := Go.Ground.guard }], guard := some (3, true) }) (by kernel_rfl) rfl (fun K hK => ?_)
              go_simp
              have hls5 : Ls ER w6 (.slice p5 (rcs B u).length c5) (rcs B u) := owns_ls (E := ER) (owns_kp h6.out.2.2 h5.out.1 (fun k hk e => by
                have h7 := (h5.out.1.lt k hk).1
                have h8 := e.2
                have h9 := HZZ.out.2
                have h10 : W2.drew.heap.size = W2.heap.size := rfl
                omega))
              refine (records_eq w6 hls5 (owns_ls (E := ER) h6.out.1) (by have := HS2.out.len u; omega)).mono ?_
              rintro e w7 ⟨rfl, g7⟩
              have hS7 : (fun W : World => W.heap[b5]? = some (.cells #[.int .i64 kd, .int .i64 ix, .int .u64 t.1.1, .int .u64 t.1.2.1, .int .u64 t.1.2.2, .int .u64 r.1.1, .int .u64 r.2.1, .slice pf nF cf] 55 (0, 0)) ∧ W.heap[b2]? = some (.cells #[.int .u64 u.1.1, .int .u64 u.1.2.1, .int .u64 u.1.2.2] 32 (0, 0))) w7 := ⟨(g7.below.block b5 (Array.getElem?_eq_some_iff.1 hS6.1).1).trans hS6.1, (g7.below.block b2 (Array.getElem?_eq_some_iff.1 hS6.2).1).trans hS6.2⟩
              go_wp2_with fail
              refine hK.out _ _ (fun hD => hS7) ?_
              clear hK K
              try simp only [Act.put, List.setIfInBounds_toArray, List.set_cons_zero, List.set_cons_succ]
              refine' wpAnyD_take (i := 11) (oi := { dst := some 79, op := Go.Op.unOp Go.UnOp.not 4 (Go.Operand.tmp 78), type := 4, pos := "law.go:78", after := #[{ on := 10, ground := Go.Ground.data }, { on := 3, ground := Go.Ground.guard }], guard := some (3, true) }) (v := _) rfl (by kernel_rfl) (by kernel_rfl) (by kernel_rfl) (fun _ _ _ h => h) (by kernel_rfl) (Or.inl ⟨by rfl, ?hy36⟩) hS7 ?rest36
              case hy36 => (intro W hSw; go_simp; try (with_reducible rfl))
              try simp only [Act.put, List.setIfInBounds_toArray, List.set_cons_zero, List.set_cons_succ]
              refine' wpAnyD_take (i := 12) (oi := { dst := some 80, op := Go.Op.pick (Go.Operand.tmp 71) (Go.Operand.tmp 79) (Go.Operand.const (Go.Value.bool false)), type := 4, pos := "law.go:78", after := #[{ on := 3, ground := Go.Ground.data }, { on := 11, ground := Go.Ground.data }], guard := none }) (v := _) rfl (by kernel_rfl) (by kernel_rfl) (by kernel_rfl) (fun _ _ _ h => h) (by kernel_rfl) (Or.inl ⟨by rfl, ?hy37⟩) hS7 ?rest37
              case hy37 => (intro W hSw; go_simp; try (with_reducible rfl))
              try simp only [Act.put, List.setIfInBounds_toArray, List.set_cons_zero, List.set_cons_succ]
              refine wpAnyD_done (by kernel_rfl) ?_ _
              have HE : Hid (Su w7 S N sb (lft B u) ∧ Rs w7 R2 rb (lft B u) ∧ Kp (fun k => S k ∨ R2 k) w4 w7) := by
                refine ⟨?_, ?_, ?_⟩
                · exact ((h5.out.2.1.kp h6.out.2.2 (fun k h7 h8 => by
                    rcases (HRR.out k).1 h8.1 with h9 | h9
                    · exact HD.out k h7.1 h9
                    · have h10 := HSL.out k h7.1; have h11 := HZ4.out; omega)).wide (fun k h => h.1)).below g7.below
                · exact (h6.out.2.1.wide (fun k h => h.elim (fun h => h.1.1) (fun h => (HRR.out k).2 (.inr (by have h8 := hk5.size; have h9 := HZZ.out; have h10 : W2.drew.heap.size = W2.heap.size := rfl; omega))))).below g7.below
                · exact (((HK2.out.trans (Kp.of_gr (S := fun k => S k ∨ R2 k) (Gr.refl W2).drew) (fun _ _ h => h)).trans hk5 (fun k _ h => .inl h)).trans h6.out.2.2 (fun k _ h => .inr h.1)).trans (Kp.of_gr (S := fun k => S k ∨ R2 k) g7) (fun _ _ h => h)
              clear hS0 hS5 hS6 hS7 h5 h6 hk5 g7 HRw
              go_wp2_with fail
              go_roundw
              case rel => exact ⟨j + 1, by omega, by simp, by rw [HTK.out, lfs_snoc, ← HBQ.out]; exact HE.out⟩
              case measure => simp [RowKit.intOf]; omega
            · have hz : ¬ (j : Int) < (nk : Int) := by omega
              have HFin : Hid (Stp w S R N sb rb A wr) := by
                refine ⟨S, R2, lfs A (K.take j), HI.out.1.mono (Nat.le_add_right N 3), HI.out.2.1, fun k h1 h2 => ?_, fun k h => .inl h, fun k h => ?_, ?_, Nat.le_trans (lfs_len _ _) (Nat.le_succ _)⟩
                · rcases (HRR.out k).1 h2 with h3 | h3
                  · exact HD.out k h1 h3
                  · have h4 := HSL.out k h1; have h5 := HZ4.out; omega
                · exact ((HRR.out k).1 h).imp id (fun h => by have h5 := HZ4.out; omega)
                · exact (Kp.of_below (S := fun k => S k ∨ R k) (HG1.out.below.trans (HB4.out.mono HG1.out.size))).trans HI.out.2.2 (fun k hk h => h.imp id (fun h => ((HRR.out k).1 h).elim id (fun h => by have h5 := HZ4.out; omega)))
              go_wp2_with fail
              go_ret
              exact ⟨rfl, HFin.out⟩
        · skip
          have k4 : ((kd : Int) == 4) = false := by simp [h4]
          have HFin : Hid (Stp w S R N sb rb A W1) := ⟨S, R, A, HS1.out.mono (Nat.le_add_right N 3), HR1.out, HD.out, fun k h => .inl h, fun k h => .inl h, Kp.of_gr HG1.out, Nat.le_succ _⟩
          clear h0 h1 h2 h4
          go_wp2_with fail
          go_ret
          exact ⟨rfl, HFin.out⟩
end Go.Proofs.Ytijbmchgajhkeaa
