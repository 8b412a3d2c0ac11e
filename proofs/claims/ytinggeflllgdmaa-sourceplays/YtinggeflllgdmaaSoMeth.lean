import Derived.Test.YtinggeflllgdmaaSoBase
namespace Go.Proofs.Ytinggeflllgdmaa
open Go.RowKit Go.Sort
attribute [local go_sem ↓] Go.wp_at_zero Go.wp_at_succ
abbrev tc (t : T3) : Array Value := #[.int .u64 t.1, .int .u64 t.2.1, .int .u64 t.2.2]
theorem box3 {w : World} {b : Nat} {t : T3} {T : TypeId} (h : w.heap[b]? = some (.cells (tc t) T (0, 0))) : w.cell? ⟨b, 0, none⟩ = some (.int .u64 t.1) ∧ w.cell? ⟨b, 1, none⟩ = some (.int .u64 t.2.1) ∧ w.cell? ⟨b, 2, none⟩ = some (.int .u64 t.2.2) ∧ b < w.heap.size :=
  ⟨((tk_store h).1 0).trans rfl, ((tk_store h).1 1).trans rfl, ((tk_store h).1 2).trans rfl, tk_lt h⟩
set_option maxHeartbeats 4000000 in
set_option maxRecDepth 100000 in
theorem send_any {b : Nat} {n : Int} {s : Option T3} (t : T3) (w : World) (h : So w b n s) : Calls Try.prog 8 #[.pointer (some ⟨b, 0, none⟩), tv t] w fun e w' => e = .returned (.int .i64 (snd n s t)) ∧ Gr w w' := by
  have hmx : Try.prog.follows .mixedOrders = true := by kernel_rfl
  obtain ⟨W1, hW1⟩ : ∃ W1, W1 = w.alloc (.cells (tc t) 30) := ⟨_, rfl⟩
  obtain ⟨b3, hb3⟩ : ∃ b3, b3 = w.heap.size := ⟨_, rfl⟩
  have G1 : Hid (Gr w W1) := by rw [hW1]; exact (Gr.refl _).alloc _
  have HX1 : Hid (W1.heap[b3]? = some (.cells (tc t) 30 (0, 0))) := by rw [hW1, hb3]; exact heap_new' _ _
  have HS1 : Hid (So W1 b n s) := h.below G1.out.below
  have hS0 : (fun W : World => W.heap[b3]? = some (.cells (tc t) 30 (0, 0)) ∧ So W b n s) W1.drew := ⟨HX1.out, HS1.out⟩
  have HF := hid (fun W => Fits_any t.1 t.2.1 t.2.2 n W)
  have HQ := hid (tfits_two t.1 t.2.1 t.2.2 n)
  have HD : Hid (snd n s t = if tfits t.1 t.2.1 t.2.2 n = 0 then snx t s else 10) := rfl
  generalize snd n s t = r at HD ⊢
  generalize tfits t.1 t.2.1 t.2.2 n = q at HF HQ HD
  clear h
  simp only [tv]
  simp only [tc] at hW1 HX1 hS0
  go_enter Try.func8, Try.ntmps8
  go_upto_region 3 with fail
  rw [← hW1, ← hb3]
  clear hW1 hb3
  refine wp_regionD (S := fun W : World => W.heap[b3]? = some (.cells (tc t) 30 (0, 0)) ∧ So W b n s) (D := []) hmx ?_
  refine' wpAnyD_take (i := 0) (oi := { dst := some 8, op := Go.Op.load 30 (Go.Operand.tmp 3), type := 30, pos := "source.go:37", after := #[], guard := none }) (v := _) rfl (by kernel_rfl) (by kernel_rfl) (by kernel_rfl) (fun _ _ _ h => h) (by kernel_rfl) (Or.inl ⟨by rfl, ?hy1⟩) hS0 ?rest1
  case hy1 => (intro W hSw; obtain ⟨y0, y1, y2, yz⟩ := box3 hSw.1; go_simp; try (with_reducible rfl))
  try simp only [Act.put, List.setIfInBounds_toArray, List.set_cons_zero, List.set_cons_succ]
  refine' wpAnyD_take (i := 1) (oi := { dst := some 9, op := Go.Op.move (Go.Operand.tmp 0), type := 23, pos := "source.go:37", after := #[], guard := none }) (v := _) rfl (by kernel_rfl) (by kernel_rfl) (by kernel_rfl) (fun _ _ _ h => h) (by kernel_rfl) (Or.inl ⟨by rfl, ?hy2⟩) hS0 ?rest2
  case hy2 => (intro W hSw; go_simp; try (with_reducible rfl))
  try simp only [Act.put, List.setIfInBounds_toArray, List.set_cons_zero, List.set_cons_succ]
  refine' wpAnyD_take (i := 2) (oi := { dst := some 10, op := Go.Op.nilCheck (Go.Operand.tmp 9), type := 0, pos := "source.go:37", after := #[{ on := 1, ground := Go.Ground.data }], guard := none }) (v := _) rfl (by kernel_rfl) (by kernel_rfl) (by kernel_rfl) (fun _ _ _ h => h) (by kernel_rfl) (Or.inl ⟨by rfl, ?hy3⟩) hS0 ?rest3
  case hy3 => (intro W hSw; go_simp; try (with_reducible rfl))
  try simp only [Act.put, List.setIfInBounds_toArray, List.set_cons_zero, List.set_cons_succ]
  refine' wpAnyD_take (i := 3) (oi := { dst := some 11, op := Go.Op.fieldAddr 55 (Go.Operand.tmp 10) 0, type := 0, pos := "source.go:37", after := #[{ on := 2, ground := Go.Ground.data }], guard := none }) (v := _) rfl (by kernel_rfl) (by kernel_rfl) (by kernel_rfl) (fun _ _ _ h => h) (by kernel_rfl) (Or.inl ⟨by rfl, ?hy4⟩) hS0 ?rest4
  case hy4 => (intro W hSw; go_simp; try (with_reducible rfl))
  try simp only [Act.put, List.setIfInBounds_toArray, List.set_cons_zero, List.set_cons_succ]
  refine' wpAnyD_take (i := 4) (oi := { dst := some 12, op := Go.Op.load 3 (Go.Operand.tmp 11), type := 3, pos := "source.go:37", after := #[{ on := 3, ground := Go.Ground.data }], guard := none }) (v := _) rfl (by kernel_rfl) (by kernel_rfl) (by kernel_rfl) (fun _ _ _ h => h) (by kernel_rfl) (Or.inl ⟨by rfl, ?hy5⟩) hS0 ?rest5
  case hy5 => (intro W hSw; obtain ⟨y0, y1, y2, yz⟩ := hSw.2.cells; go_simp; try (with_reducible rfl))
  try simp only [Act.put, List.setIfInBounds_toArray, List.set_cons_zero, List.set_cons_succ]
  refine wpAnyD_one (i := 5) (o := { dst := some 13, op := Go.Op.call { callee := Go.Callee.value (Go.Operand.func 15), args := #[Go.Operand.tmp 8, Go.Operand.tmp 12], argTypes := #[30, 3] }, type := 24, pos := "source.go:37", after := #[{ on := 0, ground := Go.Ground.data }, { on := 4, ground := Go.Ground.data }], guard := none }) (by kernel_rfl) rfl (fun K hK => ?_)
  go_simp
  refine (HF.out _).mono ?_
  rintro e w2 ⟨rfl, g2⟩
  have hS2 : (fun W : World => W.heap[b3]? = some (.cells (tc t) 30 (0, 0)) ∧ So W b n s) w2 := ⟨(g2.below.block b3 (tk_lt hS0.1)).trans hS0.1, hS0.2.below g2.below⟩
  go_wp2_with fail
  refine hK.out _ _ (fun hD => hS2) ?_
  clear hK K
  try simp only [Act.put, List.setIfInBounds_toArray, List.set_cons_zero, List.set_cons_succ]
  refine' wpAnyD_take (i := 6) (oi := { dst := some 5, op := Go.Op.assign (Go.Operand.tmp 13), type := 24, pos := "source.go:37", after := #[{ on := 5, ground := Go.Ground.data }, { on := 5, ground := Go.Ground.chain }, { on := 0, ground := Go.Ground.phase }, { on := 1, ground := Go.Ground.phase }, { on := 2, ground := Go.Ground.phase }, { on := 3, ground := Go.Ground.phase }, { on := 4, ground := Go.Ground.phase }, { on := 5, ground := Go.Ground.phase }], guard := none }) (v := _) rfl (by kernel_rfl) (by kernel_rfl) (by kernel_rfl) (fun _ _ _ h => h) (by kernel_rfl) (Or.inl ⟨by rfl, ?hy7⟩) hS2 ?rest7
  case hy7 => (intro W hSw; go_simp; try (with_reducible rfl))
  try simp only [Act.put, List.setIfInBounds_toArray, List.set_cons_zero, List.set_cons_succ]
  refine wpAnyD_done (by kernel_rfl) ?_ _
  have HG2 : Hid (Gr w w2) := G1.out.trans ((Gr.refl W1).drew.trans g2)
  clear g2 HF G1 HX1 HS1
  rcases HQ.out with rfl | rfl
  · have hS3 : (fun W : World => W.heap[b3]? = some (.cells (tc t) 30 (0, 0)) ∧ So W b n s) w2.drew := ⟨hS2.1, hS2.2⟩
    have HD2 := HD.out
    clear HD HQ hS0 hS2
    simp only [if_true] at HD2
    have hs1 := fun W (hW : So W b n s) => state_any W hW
    go_upto_region 6 with fail
    cases s with
    | none =>
      have hm := md_cs
      have he : ∀ (args : Array Value) (W : World), (callFunc 50 args).run Try.prog W = .ok (.enter 50 args) W := fun _ _ => by kernel_rfl
      have HC := hid (fun W => cSend_any t W)
      simp only [now] at hs1
      simp only [tv] at HC
      simp only [snx] at HD2
      rw [← HD2] at HC
      clear HD2
      refine wp_regionD (S := fun W : World => W.heap[b3]? = some (.cells (tc t) 30 (0, 0)) ∧ So W b n none) (D := []) hmx ?_
      refine' wpAnyD_take (i := 0) (oi := { dst := some 17, op := Go.Op.move (Go.Operand.tmp 0), type := 23, pos := "source.go:40", after := #[], guard := none }) (v := _) rfl (by kernel_rfl) (by kernel_rfl) (by kernel_rfl) (fun _ _ _ h => h) (by kernel_rfl) (Or.inl ⟨by rfl, ?hy8⟩) hS3 ?rest8
      case hy8 => (intro W hSw; go_simp; try (with_reducible rfl))
      try simp only [Act.put, List.setIfInBounds_toArray, List.set_cons_zero, List.set_cons_succ]
      refine' wpAnyD_take (i := 2) (oi := { dst := some 19, op := Go.Op.load 30 (Go.Operand.tmp 3), type := 30, pos := "source.go:40", after := #[], guard := none }) (v := _) rfl (by kernel_rfl) (by kernel_rfl) (by kernel_rfl) (fun _ _ _ h => h) (by kernel_rfl) (Or.inl ⟨by rfl, ?hy9⟩) hS3 ?rest9
      case hy9 => (intro W hSw; obtain ⟨y0, y1, y2, yz⟩ := box3 hSw.1; go_simp; try (with_reducible rfl))
      try simp only [Act.put, List.setIfInBounds_toArray, List.set_cons_zero, List.set_cons_succ]
      refine wpAnyD_one (i := 1) (o := { dst := some 18, op := Go.Op.call { callee := Go.Callee.value (Go.Operand.func 16), args := #[Go.Operand.tmp 17], argTypes := #[23] }, type := 53, pos := "source.go:40", after := #[{ on := 0, ground := Go.Ground.data }], guard := none }) (by kernel_rfl) rfl (fun K hK => ?_)
      go_simp
      refine (hs1 _ hS3.2).mono ?_
      rintro e w4 ⟨rfl, rfl⟩
      go_wp2_with fail
      refine hK.out _ _ (fun hD => hS3) ?_
      clear hK K
      try simp only [Act.put, List.setIfInBounds_toArray, List.set_cons_zero, List.set_cons_succ]
      refine wpAnyD_one (i := 3) (o := { dst := some 20, op := Go.Op.call { callee := Go.Callee.invoke (Go.Operand.tmp 18) "sluice/source.maySend", args := #[Go.Operand.tmp 19], argTypes := #[30] }, type := 24, pos := "source.go:40", after := #[{ on := 1, ground := Go.Ground.data }, { on := 2, ground := Go.Ground.data }, { on := 1, ground := Go.Ground.chain }], guard := none }) (by kernel_rfl) rfl (fun K hK => ?_)
      go_simp
      refine (HC.out _).mono ?_
      rintro e w5 ⟨rfl, g5⟩
      have hS5 : (fun W : World => W.heap[b3]? = some (.cells (tc t) 30 (0, 0)) ∧ So W b n none) w5 := ⟨(g5.below.block b3 (tk_lt hS3.1)).trans hS3.1, hS3.2.below g5.below⟩
      go_wp2_with fail
      refine hK.out _ _ (fun hD => hS5) ?_
      clear hK K
      try simp only [Act.put, List.setIfInBounds_toArray, List.set_cons_zero, List.set_cons_succ]
      refine' wpAnyD_take (i := 4) (oi := { dst := some 4, op := Go.Op.assign (Go.Operand.tmp 20), type := 24, pos := "source.go:40", after := #[{ on := 3, ground := Go.Ground.data }, { on := 3, ground := Go.Ground.chain }, { on := 0, ground := Go.Ground.phase }, { on := 1, ground := Go.Ground.phase }, { on := 2, ground := Go.Ground.phase }, { on := 3, ground := Go.Ground.phase }], guard := none }) (v := _) rfl (by kernel_rfl) (by kernel_rfl) (by kernel_rfl) (fun _ _ _ h => h) (by kernel_rfl) (Or.inl ⟨by rfl, ?hy12⟩) hS5 ?rest12
      case hy12 => (intro W hSw; go_simp; try (with_reducible rfl))
      try simp only [Act.put, List.setIfInBounds_toArray, List.set_cons_zero, List.set_cons_succ]
      refine wpAnyD_done (by kernel_rfl) ?_ _
      go_wp2_with fail
      go_ret
      exact ⟨rfl, HG2.out.trans ((Gr.refl w2).drew.trans g5)⟩
    | some u =>
      have hm := md_os u
      have he : ∀ (args : Array Value) (W : World), (callFunc 44 args).run Try.prog W = .ok (.enter 44 args) W := fun _ _ => by kernel_rfl
      have HC := hid (fun W => oSend_any u t W)
      simp only [now, tv] at hs1 hm
      simp only [tv] at HC
      simp only [snx] at HD2
      rw [← HD2] at HC
      clear HD2
      refine wp_regionD (S := fun W : World => W.heap[b3]? = some (.cells (tc t) 30 (0, 0)) ∧ So W b n (some u)) (D := []) hmx ?_
      refine' wpAnyD_take (i := 0) (oi := { dst := some 17, op := Go.Op.move (Go.Operand.tmp 0), type := 23, pos := "source.go:40", after := #[], guard := none }) (v := _) rfl (by kernel_rfl) (by kernel_rfl) (by kernel_rfl) (fun _ _ _ h => h) (by kernel_rfl) (Or.inl ⟨by rfl, ?hy13⟩) hS3 ?rest13
      case hy13 => (intro W hSw; go_simp; try (with_reducible rfl))
      try simp only [Act.put, List.setIfInBounds_toArray, List.set_cons_zero, List.set_cons_succ]
      refine' wpAnyD_take (i := 2) (oi := { dst := some 19, op := Go.Op.load 30 (Go.Operand.tmp 3), type := 30, pos := "source.go:40", after := #[], guard := none }) (v := _) rfl (by kernel_rfl) (by kernel_rfl) (by kernel_rfl) (fun _ _ _ h => h) (by kernel_rfl) (Or.inl ⟨by rfl, ?hy14⟩) hS3 ?rest14
      case hy14 => (intro W hSw; obtain ⟨y0, y1, y2, yz⟩ := box3 hSw.1; go_simp; try (with_reducible rfl))
      try simp only [Act.put, List.setIfInBounds_toArray, List.set_cons_zero, List.set_cons_succ]
      refine wpAnyD_one (i := 1) (o := { dst := some 18, op := Go.Op.call { callee := Go.Callee.value (Go.Operand.func 16), args := #[Go.Operand.tmp 17], argTypes := #[23] }, type := 53, pos := "source.go:40", after := #[{ on := 0, ground := Go.Ground.data }], guard := none }) (by kernel_rfl) rfl (fun K hK => ?_)
      go_simp
      refine (hs1 _ hS3.2).mono ?_
      rintro e w4 ⟨rfl, rfl⟩
      go_wp2_with fail
      refine hK.out _ _ (fun hD => hS3) ?_
      clear hK K
      try simp only [Act.put, List.setIfInBounds_toArray, List.set_cons_zero, List.set_cons_succ]
      refine wpAnyD_one (i := 3) (o := { dst := some 20, op := Go.Op.call { callee := Go.Callee.invoke (Go.Operand.tmp 18) "sluice/source.maySend", args := #[Go.Operand.tmp 19], argTypes := #[30] }, type := 24, pos := "source.go:40", after := #[{ on := 1, ground := Go.Ground.data }, { on := 2, ground := Go.Ground.data }, { on := 1, ground := Go.Ground.chain }], guard := none }) (by kernel_rfl) rfl (fun K hK => ?_)
      go_simp
      refine (HC.out _).mono ?_
      rintro e w5 ⟨rfl, g5⟩
      have hS5 : (fun W : World => W.heap[b3]? = some (.cells (tc t) 30 (0, 0)) ∧ So W b n (some u)) w5 := ⟨(g5.below.block b3 (tk_lt hS3.1)).trans hS3.1, hS3.2.below g5.below⟩
      go_wp2_with fail
      refine hK.out _ _ (fun hD => hS5) ?_
      clear hK K
      try simp only [Act.put, List.setIfInBounds_toArray, List.set_cons_zero, List.set_cons_succ]
      refine' wpAnyD_take (i := 4) (oi := { dst := some 4, op := Go.Op.assign (Go.Operand.tmp 20), type := 24, pos := "source.go:40", after := #[{ on := 3, ground := Go.Ground.data }, { on := 3, ground := Go.Ground.chain }, { on := 0, ground := Go.Ground.phase }, { on := 1, ground := Go.Ground.phase }, { on := 2, ground := Go.Ground.phase }, { on := 3, ground := Go.Ground.phase }], guard := none }) (v := _) rfl (by kernel_rfl) (by kernel_rfl) (by kernel_rfl) (fun _ _ _ h => h) (by kernel_rfl) (Or.inl ⟨by rfl, ?hy17⟩) hS5 ?rest17
      case hy17 => (intro W hSw; go_simp; try (with_reducible rfl))
      try simp only [Act.put, List.setIfInBounds_toArray, List.set_cons_zero, List.set_cons_succ]
      refine wpAnyD_done (by kernel_rfl) ?_ _
      go_wp2_with fail
      go_ret
      exact ⟨rfl, HG2.out.trans ((Gr.refl w2).drew.trans g5)⟩
  · have HD2 : Hid (r = 10) := by rw [HD.out]; rfl
    clear HD HQ hS0 hS2
    go_wp2_with fail
    go_ret
    exact ⟨by rw [HD2.out]; rfl, HG2.out⟩
end Go.Proofs.Ytinggeflllgdmaa
