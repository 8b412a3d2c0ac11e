import Derived.Test.YtnclnagpfjmlcaaDGets0
namespace Go.Proofs.Ytnclnagpfjmlcaa.Df
open Go.RowKit Go.Sort Wi
attribute [local go_sem ↓] Go.wp_at_zero Go.wp_at_succ

theorem copy_belowG {w w1 : World} {v1 : Value} (h2 : Tn (.slice (some ⟨w.heap.size, 0, none⟩) 0 0) v1 (w.alloc (.cells #[] 5)) w1) : Below w.heap.size w w1 := by
  have hg := ((Gr.refl w).alloc (.cells #[] 5)).below
  exact hg.trans (h2.1.below hg.size (fun k hk => by simp [Value.ownBlock] at hk; omega))
set_option maxRecDepth 100000 in
set_option maxHeartbeats 8000000 in
theorem gets_any {v0 v1 : Value} {L T : List UInt8} (w : World) (h0 : Ls EB w v0 L) (h1 : Ls EB w v1 T) (hl : L.length ≤ 140737488351232) : Calls Try.prog 6 #[v0, v1] w fun r w' => r = .returned (.bool true) ∧ Below w.heap.size w w' := by
  have hmx : Try.prog.follows .mixedOrders = true := by kernel_rfl
  have H0 := hid h0
  have H1 := hid h1
  obtain ⟨p0, c0, rfl⟩ := h0.form
  obtain ⟨p1, c1, rfl⟩ := h1.form
  clear h0 h1
  go_enter Try.func6, Try.ntmps6
  go_wp2_with (at_builtin; refine wpBL rfl _ _ rfl w.heap.size _ [] rfl (World.ownsRow_made w #[] 0 (Nat.le_refl _) (Nat.zero_le _) rfl) _ L rfl (Or.inl (H0.out.below ((Gr.refl _).alloc _).below)) (by simp; omega) (by simp) ?_)
  intro v2 w2 h2 k2
  have O2 : Hid (Ow w2 v2 L) := owns_base (owns_re (n' := L.length) (xs' := fl EB L) h2.out (by simp) (by simp)) (Nat.zero_le _)
  obtain ⟨p2, n2, cc2, rfl⟩ := ow_form O2.out
  clear h2
  go_wp2_with (at_builtin; refine wpB1 rfl _ _ rfl _ L rfl O2.out 199 rfl (by omega) _ rfl _ ?_)
  intro v3 w3 h3 k3
  have t3 := k2.out.trans k3.out
  have b3 := copy_belowG t3
  have hr3 := h3.out
  unfold Ow at hr3
  obtain ⟨gi, ci, hv3, hcap, hcm⟩ := owns_form0 hr3 (by simp)
  have hgi : Hid (w.heap.size ≤ gi ∧ gi < w3.heap.size) := by
    refine ⟨?_, (owns_rd hr3 gi (by rw [hv3]; rfl)).2⟩
    rcases t3.2 gi (by rw [hv3]; rfl) with h | h
    · simp [Value.ownBlock] at h; omega
    · simp at h; omega
  have L3 : Hid (Ls EB w3 (.slice (some ⟨gi, 0, none⟩) L.length ci) L) := by
    have h := ow_ls h3.out
    rw [hv3] at h
    have h5 := h.cut (k := L.length) (by simp) ci
    rw [List.take_left] at h5
    exact h5
  obtain ⟨R, hR⟩ : ∃ R, R = L ++ [(199 : UInt8)] := ⟨_, rfl⟩
  have hRl : R.length = L.length + 1 := by rw [hR]; simp
  have O3 : Hid (Ow w3 (.slice (some ⟨gi, 0, none⟩) R.length ci) R) := by
    have h := h3.out
    rw [hv3, ← hR] at h
    exact h
  have hR9 : Hid (R[L.length]? = some 199 ∧ R.length = L.length + 1 ∧ R.take L.length = L) := ⟨by rw [hR]; simp, hRl, by rw [hR, List.take_left]⟩
  rw [← hR, hRl] at hv3
  subst hv3
  have hz0 : (0 : Int) ≤ (L.length : Int) := by omega
  have hzc : (L.length : Int) ≤ (ci : Int) := by rw [← hR, hRl] at hcap; omega
  have hzn : (L.length : Int) < ((L.length + 1 : Nat) : Int) := by omega
  have HB3 := hid b3
  clear h3 k3 k2 O2 t3 b3 hr3 hR hRl hcap hcm
  go_wp2_with fail
  refine (get_any _ L3.out (by omega)).mono ?_
  rintro r w4 ⟨b4, u4, rfl, nv4, ev4, xs4, rfl, hx4, go4⟩
  obtain ⟨q4, m4, c4, rfl⟩ := owns_form go4.nodes.row
  obtain ⟨q4', m4', c4', rfl⟩ := owns_form go4.edges
  have g5 := (Gr.refl w4).alloc (.cells (gvc (get L).1.arity (.slice q4 m4 c4) (.slice q4' m4' c4')) 25)
  have n5 := heap_new' w4 (.cells (gvc (get L).1.arity (.slice q4 m4 c4) (.slice q4' m4' c4')) 25)
  have P5 := hid (And.intro b4 (And.intro g5 (And.intro n5 go4)))
  have HX4 := hid hx4
  clear b4 g5 n5 go4 hx4
  go_wp2_with fail
  refine (rget_any _ (((H0.out.below HB3.out).below P5.out.1).below P5.out.2.1.below) (by omega)).mono ?_
  rintro r w6 ⟨b6, u6, rfl, nv6, ev6, xs6, rfl, hx6, go6⟩
  obtain ⟨q6, m6, c6, rfl⟩ := owns_form go6.nodes.row
  obtain ⟨q6', m6', c6', rfl⟩ := owns_form go6.edges
  have HX6 := hid hx6
  obtain ⟨W7, hW7⟩ : ∃ W7, W7 = w6.alloc (.cells (gvc (get L).1.arity (.slice q6 m6 c6) (.slice q6' m6' c6')) 25) := ⟨_, rfl⟩
  obtain ⟨d6, hd6⟩ : ∃ d, d = w4.heap.size := ⟨_, rfl⟩
  obtain ⟨d9, hd9⟩ : ∃ d, d = w6.heap.size := ⟨_, rfl⟩
  obtain ⟨M, hM⟩ : ∃ d, d = w3.heap.size := ⟨_, rfl⟩
  have GS : Hid (Gs w W7 (.slice p0 L.length c0) (.slice p1 T.length c1) L T gi ci R M d6 d9 (get L).1.arity (.slice q4 m4 c4) (.slice q4' m4' c4') (.slice q6 m6 c6) (.slice q6' m6' c6') xs4 xs6 (get L).1.edges) := by
    have g7 : Gr w6 W7 := by rw [hW7]; exact (Gr.refl _).alloc _
    have hs5 := P5.out.2.1.size
    have hs4 := P5.out.1.size
    have hs6 := b6.size
    have hn5 := tk_lt P5.out.2.2.1
    have hb37 : Below w3.heap.size w3 W7 := (P5.out.1.trans (P5.out.2.1.below.mono hs4)).trans ((b6.mono (by omega)).trans (g7.below.mono (by omega)))
    have hb57 : Below d6 w4 W7 := by
      rw [hd6]
      exact P5.out.2.1.below.trans ((b6.mono (by omega)).trans (g7.below.mono (by omega)))
    have hbw : Below w.heap.size w W7 := HB3.out.trans (hb37.mono HB3.out.size)
    refine ⟨hbw, H0.out.below hbw, H1.out.below hbw, owns_below O3.out hb37, hgi.out.1, by rw [hM]; exact hgi.out.2, ?_, ?_, by omega, by omega, ?_, ?_, H0.out.blk, H1.out.blk⟩
    · rw [hd6]
      exact (g7.below.block _ (by omega)).trans ((b6.block _ hn5).trans P5.out.2.2.1)
    · rw [hW7, hd9]
      exact heap_new' _ _
    · rw [hM]
      exact P5.out.2.2.2.kp (S := fun _ => False) (Kp.of_below (by rw [hd6] at hb57; exact hb57)) (fun _ _ h => h)
    · have h8 := go6.kp (S := fun _ => False) (Kp.of_gr g7) (fun _ _ h => h)
      exact ⟨h8.nodes.base (by omega), owns_base h8.edges (by omega), h8.apart⟩
  have HE : Hid (w6.alloc (.cells #[.int .i64 (get L).1.arity, .slice q6 m6 c6, .slice q6' m6' c6'] 25) = W7 ∧ w4.heap.size = d6 ∧ w6.heap.size = d9) := ⟨hW7.symm, hd6.symm, hd9.symm⟩
  clear hW7 hd6 hd9 hM b6 go6 hx6 P5 L3 O3 HB3
  go_wp2_with fail
  rw [HE.out.1, HE.out.2.1, HE.out.2.2]
  clear HE
  have hS0 : Below W7.heap.size W7 W7.drew := (Gr.refl _).drew.below
  refine wp_regionD (S := fun W => Below W7.heap.size W7 W) (D := []) hmx ?_
  refine wpAnyD_one (i := 0) (o := { dst := some 36, op := Go.Op.call { callee := Go.Callee.value (Go.Operand.func 9), args := #[], argTypes := #[] }, type := 4, pos := "law.go:140", after := #[], guard := none }) (by kernel_rfl) rfl (fun K hK => ?_)
  go_simp
  refine (known_any _).mono ?_
  rintro r w8 ⟨rfl, b8⟩
  have hS8 : Below W7.heap.size W7 w8 := hS0.trans (b8.mono hS0.size)
  clear b8
  go_wp2_with fail
  refine hK.out _ _ (fun hD => hS8) ?_
  clear hK K
  try simp only [Act.put, List.setIfInBounds_toArray, List.set_cons_zero, List.set_cons_succ]
  refine' wpAnyD_take (i := 1) (oi := { dst := some 37, op := Go.Op.unOp Go.UnOp.not 4 (Go.Operand.tmp 36), type := 4, pos := "law.go:140", after := #[{ on := 0, ground := Go.Ground.data }], guard := none }) (v := _) rfl (by kernel_rfl) (by kernel_rfl) (by kernel_rfl) (fun _ _ _ h => h) (by kernel_rfl) (Or.inl ⟨by rfl, ?hy2⟩) hS8 ?rest2
  case hy2 => (intro W hSw; go_simp; try (with_reducible rfl))
  try simp only [Act.put, List.setIfInBounds_toArray, List.set_cons_zero, List.set_cons_succ]
  refine' wpAnyD_take (i := 2) (oi := { dst := some 38, op := Go.Op.move (Go.Operand.tmp 37), type := 4, pos := "law.go:140", after := #[{ on := 1, ground := Go.Ground.data }, { on := 0, ground := Go.Ground.chain }], guard := none }) (v := _) rfl (by kernel_rfl) (by kernel_rfl) (by kernel_rfl) (fun _ _ _ h => h) (by kernel_rfl) (Or.inl ⟨by rfl, ?hy3⟩) hS8 ?rest3
  case hy3 => (intro W hSw; go_simp; try (with_reducible rfl))
  try simp only [Act.put, List.setIfInBounds_toArray, List.set_cons_zero, List.set_cons_succ]
  refine' wpAnyD_take (i := 3) (oi := { dst := some 39, op := Go.Op.load 25 (Go.Operand.tmp 6), type := 25, pos := "law.go:140", after := #[{ on := 2, ground := Go.Ground.guard }], guard := some (2, false) }) (v := _) rfl (by kernel_rfl) (by kernel_rfl) (by kernel_rfl) (fun _ _ _ h => h) (by kernel_rfl) (Or.inl ⟨by rfl, ?hy4⟩) hS8 ?rest4
  case hy4 => (intro W hSw; have hc := (GS.out.go hSw).cells; obtain ⟨hc1, hc2, hc3, hc4⟩ := hc; go_simp; try (with_reducible rfl))
  try simp only [Act.put, List.setIfInBounds_toArray, List.set_cons_zero, List.set_cons_succ]
  refine' wpAnyD_take (i := 4) (oi := { dst := some 40, op := Go.Op.load 25 (Go.Operand.tmp 9), type := 25, pos := "law.go:140", after := #[{ on := 2, ground := Go.Ground.guard }], guard := some (2, false) }) (v := _) rfl (by kernel_rfl) (by kernel_rfl) (by kernel_rfl) (fun _ _ _ h => h) (by kernel_rfl) (Or.inl ⟨by rfl, ?hy5⟩) hS8 ?rest5
  case hy5 => (intro W hSw; have hc := (GS.out.go hSw).cells; obtain ⟨hc1, hc2, hc3, hc4⟩ := hc; go_simp; try (with_reducible rfl))
  try simp only [Act.put, List.setIfInBounds_toArray, List.set_cons_zero, List.set_cons_succ]
  refine wpAnyD_one (i := 5) (o := { dst := some 41, op := Go.Op.call { callee := Go.Callee.value (Go.Operand.func 11), args := #[Go.Operand.tmp 39, Go.Operand.tmp 40], argTypes := #[25, 25] }, type := 4, pos := "law.go:140", after := #[{ on := 3, ground := Go.Ground.data }, { on := 4, ground := Go.Ground.data }, { on := 2, ground := Go.Ground.chain }, { on := 2, ground := Go.Ground.guard }], guard := some (2, false) }) (by kernel_rfl) rfl (fun K hK => ?_)
  go_simp
  refine ((GS.out.go hS8).same HX4.out HX6.out).mono ?_
  rintro r w9 ⟨rfl, g9⟩
  have hS9 : Below W7.heap.size W7 w9 := hS8.trans (g9.below.mono hS8.size)
  clear g9
  go_wp2_with fail
  refine hK.out _ _ (fun hD => hS9) ?_
  clear hK K
  try simp only [Act.put, List.setIfInBounds_toArray, List.set_cons_zero, List.set_cons_succ]
  refine' wpAnyD_take (i := 6) (oi := { dst := some 42, op := Go.Op.unOp Go.UnOp.not 4 (Go.Operand.tmp 41), type := 4, pos := "law.go:140", after := #[{ on := 5, ground := Go.Ground.data }, { on := 2, ground := Go.Ground.guard }], guard := some (2, false) }) (v := _) rfl (by kernel_rfl) (by kernel_rfl) (by kernel_rfl) (fun _ _ _ h => h) (by kernel_rfl) (Or.inl ⟨by rfl, ?hy7⟩) hS9 ?rest7
  case hy7 => (intro W hSw; go_simp; try (with_reducible rfl))
  try simp only [Act.put, List.setIfInBounds_toArray, List.set_cons_zero, List.set_cons_succ]
  refine' wpAnyD_take (i := 7) (oi := { dst := some 43, op := Go.Op.pick (Go.Operand.tmp 38) (Go.Operand.const (Go.Value.bool true)) (Go.Operand.tmp 42), type := 4, pos := "law.go:140", after := #[{ on := 2, ground := Go.Ground.data }, { on := 6, ground := Go.Ground.data }], guard := none }) (v := _) rfl (by kernel_rfl) (by kernel_rfl) (by kernel_rfl) (fun _ _ _ h => h) (by kernel_rfl) (Or.inl ⟨by rfl, ?hy8⟩) hS9 ?rest8
  case hy8 => (intro W hSw; go_simp; try (with_reducible rfl))
  try simp only [Act.put, List.setIfInBounds_toArray, List.set_cons_zero, List.set_cons_succ]
  refine' wpAnyD_take (i := 8) (oi := { dst := some 44, op := Go.Op.move (Go.Operand.tmp 43), type := 4, pos := "law.go:140", after := #[{ on := 7, ground := Go.Ground.data }, { on := 5, ground := Go.Ground.chain }], guard := none }) (v := _) rfl (by kernel_rfl) (by kernel_rfl) (by kernel_rfl) (fun _ _ _ h => h) (by kernel_rfl) (Or.inl ⟨by rfl, ?hy9⟩) hS9 ?rest9
  case hy9 => (intro W hSw; go_simp; try (with_reducible rfl))
  try simp only [Act.put, List.setIfInBounds_toArray, List.set_cons_zero, List.set_cons_succ]
  refine' wpAnyD_take (i := 9) (oi := { dst := some 45, op := Go.Op.move (Go.Operand.tmp 7), type := 27, pos := "law.go:140", after := #[{ on := 8, ground := Go.Ground.guard }], guard := some (8, false) }) (v := _) rfl (by kernel_rfl) (by kernel_rfl) (by kernel_rfl) (fun _ _ _ h => h) (by kernel_rfl) (Or.inl ⟨by rfl, ?hy10⟩) hS9 ?rest10
  case hy10 => (intro W hSw; go_simp; try (with_reducible rfl))
  try simp only [Act.put, List.setIfInBounds_toArray, List.set_cons_zero, List.set_cons_succ]
  refine' wpAnyD_take (i := 10) (oi := { dst := some 46, op := Go.Op.move (Go.Operand.tmp 10), type := 3, pos := "law.go:140", after := #[{ on := 8, ground := Go.Ground.guard }], guard := some (8, false) }) (v := _) rfl (by kernel_rfl) (by kernel_rfl) (by kernel_rfl) (fun _ _ _ h => h) (by kernel_rfl) (Or.inl ⟨by rfl, ?hy11⟩) hS9 ?rest11
  case hy11 => (intro W hSw; go_simp; try (with_reducible rfl))
  try simp only [Act.put, List.setIfInBounds_toArray, List.set_cons_zero, List.set_cons_succ]
  refine' wpAnyD_take (i := 11) (oi := { dst := some 47, op := Go.Op.binOp Go.BinOp.neq 3 (Go.Operand.tmp 45) (Go.Operand.tmp 46) 3, type := 4, pos := "law.go:140", after := #[{ on := 9, ground := Go.Ground.data }, { on := 10, ground := Go.Ground.data }, { on := 8, ground := Go.Ground.guard }], guard := some (8, false) }) (v := _) rfl (by kernel_rfl) (by kernel_rfl) (by kernel_rfl) (fun _ _ _ h => h) (by kernel_rfl) (Or.inl ⟨by rfl, ?hy12⟩) hS9 ?rest12
  case hy12 => (intro W hSw; go_simp; try (with_reducible rfl))
  try simp only [Act.put, List.setIfInBounds_toArray, List.set_cons_zero, List.set_cons_succ]
  refine' wpAnyD_take (i := 12) (oi := { dst := some 48, op := Go.Op.pick (Go.Operand.tmp 44) (Go.Operand.const (Go.Value.bool true)) (Go.Operand.tmp 47), type := 4, pos := "law.go:140", after := #[{ on := 8, ground := Go.Ground.data }, { on := 11, ground := Go.Ground.data }], guard := none }) (v := _) rfl (by kernel_rfl) (by kernel_rfl) (by kernel_rfl) (fun _ _ _ h => h) (by kernel_rfl) (Or.inl ⟨by rfl, ?hy13⟩) hS9 ?rest13
  case hy13 => (intro W hSw; go_simp; try (with_reducible rfl))
  try simp only [Act.put, List.setIfInBounds_toArray, List.set_cons_zero, List.set_cons_succ]
  refine' wpAnyD_take (i := 13) (oi := { dst := some 49, op := Go.Op.move (Go.Operand.tmp 48), type := 4, pos := "law.go:140", after := #[{ on := 12, ground := Go.Ground.data }, { on := 8, ground := Go.Ground.chain }], guard := none }) (v := _) rfl (by kernel_rfl) (by kernel_rfl) (by kernel_rfl) (fun _ _ _ h => h) (by kernel_rfl) (Or.inl ⟨by rfl, ?hy14⟩) hS9 ?rest14
  case hy14 => (intro W hSw; go_simp; try (with_reducible rfl))
  try simp only [Act.put, List.setIfInBounds_toArray, List.set_cons_zero, List.set_cons_succ]
  refine' wpAnyD_take (i := 14) (oi := { dst := some 50, op := Go.Op.move (Go.Operand.tmp 8), type := 3, pos := "law.go:140", after := #[{ on := 13, ground := Go.Ground.guard }], guard := some (13, false) }) (v := _) rfl (by kernel_rfl) (by kernel_rfl) (by kernel_rfl) (fun _ _ _ h => h) (by kernel_rfl) (Or.inl ⟨by rfl, ?hy15⟩) hS9 ?rest15
  case hy15 => (intro W hSw; go_simp; try (with_reducible rfl))
  try simp only [Act.put, List.setIfInBounds_toArray, List.set_cons_zero, List.set_cons_succ]
  refine' wpAnyD_take (i := 15) (oi := { dst := some 51, op := Go.Op.move (Go.Operand.tmp 11), type := 3, pos := "law.go:140", after := #[{ on := 13, ground := Go.Ground.guard }], guard := some (13, false) }) (v := _) rfl (by kernel_rfl) (by kernel_rfl) (by kernel_rfl) (fun _ _ _ h => h) (by kernel_rfl) (Or.inl ⟨by rfl, ?hy16⟩) hS9 ?rest16
  case hy16 => (intro W hSw; go_simp; try (with_reducible rfl))
  try simp only [Act.put, List.setIfInBounds_toArray, List.set_cons_zero, List.set_cons_succ]
  refine' wpAnyD_take (i := 16) (oi := { dst := some 52, op := Go.Op.binOp Go.BinOp.neq 3 (Go.Operand.tmp 50) (Go.Operand.tmp 51) 3, type := 4, pos := "law.go:140", after := #[{ on := 14, ground := Go.Ground.data }, { on := 15, ground := Go.Ground.data }, { on := 13, ground := Go.Ground.guard }], guard := some (13, false) }) (v := _) rfl (by kernel_rfl) (by kernel_rfl) (by kernel_rfl) (fun _ _ _ h => h) (by kernel_rfl) (Or.inl ⟨by rfl, ?hy17⟩) hS9 ?rest17
  case hy17 => (intro W hSw; go_simp; try (with_reducible rfl))
  try simp only [Act.put, List.setIfInBounds_toArray, List.set_cons_zero, List.set_cons_succ]
  refine' wpAnyD_take (i := 17) (oi := { dst := some 53, op := Go.Op.pick (Go.Operand.tmp 49) (Go.Operand.const (Go.Value.bool true)) (Go.Operand.tmp 52), type := 4, pos := "law.go:140", after := #[{ on := 13, ground := Go.Ground.data }, { on := 16, ground := Go.Ground.data }], guard := none }) (v := _) rfl (by kernel_rfl) (by kernel_rfl) (by kernel_rfl) (fun _ _ _ h => h) (by kernel_rfl) (Or.inl ⟨by rfl, ?hy18⟩) hS9 ?rest18
  case hy18 => (intro W hSw; go_simp; try (with_reducible rfl))
  try simp only [Act.put, List.setIfInBounds_toArray, List.set_cons_zero, List.set_cons_succ]
  refine' wpAnyD_take (i := 18) (oi := { dst := some 54, op := Go.Op.move (Go.Operand.tmp 53), type := 4, pos := "law.go:140", after := #[{ on := 17, ground := Go.Ground.data }, { on := 13, ground := Go.Ground.chain }], guard := none }) (v := _) rfl (by kernel_rfl) (by kernel_rfl) (by kernel_rfl) (fun _ _ _ h => h) (by kernel_rfl) (Or.inl ⟨by rfl, ?hy19⟩) hS9 ?rest19
  case hy19 => (intro W hSw; go_simp; try (with_reducible rfl))
  try simp only [Act.put, List.setIfInBounds_toArray, List.set_cons_zero, List.set_cons_succ]
  refine' wpAnyD_take (i := 19) (oi := { dst := some 55, op := Go.Op.move (Go.Operand.tmp 5), type := 26, pos := "law.go:140", after := #[{ on := 18, ground := Go.Ground.guard }], guard := some (18, false) }) (v := _) rfl (by kernel_rfl) (by kernel_rfl) (by kernel_rfl) (fun _ _ _ h => h) (by kernel_rfl) (Or.inl ⟨by rfl, ?hy20⟩) hS9 ?rest20
  case hy20 => (intro W hSw; go_simp; try (with_reducible rfl))
  try simp only [Act.put, List.setIfInBounds_toArray, List.set_cons_zero, List.set_cons_succ]
  refine' wpAnyD_take (i := 20) (oi := { dst := some 56, op := Go.Op.move (Go.Operand.tmp 0), type := 26, pos := "law.go:140", after := #[{ on := 18, ground := Go.Ground.guard }], guard := some (18, false) }) (v := _) rfl (by kernel_rfl) (by kernel_rfl) (by kernel_rfl) (fun _ _ _ h => h) (by kernel_rfl) (Or.inl ⟨by rfl, ?hy21⟩) hS9 ?rest21
  case hy21 => (intro W hSw; go_simp; try (with_reducible rfl))
  try simp only [Act.put, List.setIfInBounds_toArray, List.set_cons_zero, List.set_cons_succ]
  refine' wpAnyD_take (i := 21) (oi := { dst := some 57, op := Go.Op.call { callee := Go.Callee.builtin Go.Builtin.len, args := #[Go.Operand.tmp 56], argTypes := #[26] }, type := 3, pos := "law.go:140", after := #[{ on := 20, ground := Go.Ground.data }, { on := 18, ground := Go.Ground.guard }], guard := some (18, false) }) (v := _) rfl (by kernel_rfl) (by kernel_rfl) (by kernel_rfl) (fun _ _ _ h => h) (by kernel_rfl) (Or.inl ⟨by rfl, ?hy22⟩) hS9 ?rest22
  case hy22 => (intro W hSw; go_simp; try (with_reducible rfl))
  try simp only [Act.put, List.setIfInBounds_toArray, List.set_cons_zero, List.set_cons_succ]
  refine' wpAnyD_take (i := 22) (oi := { dst := some 58, op := Go.Op.slice 26 (Go.Operand.tmp 55) none (some (Go.Operand.tmp 57)) none, type := 26, pos := "law.go:140", after := #[{ on := 19, ground := Go.Ground.data }, { on := 21, ground := Go.Ground.data }, { on := 18, ground := Go.Ground.guard }], guard := some (18, false) }) (v := _) rfl (by kernel_rfl) (by kernel_rfl) (by kernel_rfl) (fun _ _ _ h => h) (by kernel_rfl) (Or.inl ⟨by rfl, ?hy23⟩) hS9 ?rest23
  case hy23 => (intro W hSw; go_simp; try (with_reducible rfl))
  try simp only [Act.put, List.setIfInBounds_toArray, List.set_cons_zero, List.set_cons_succ]
  refine' wpAnyD_take (i := 23) (oi := { dst := some 59, op := Go.Op.convert 26 9 (Go.Operand.tmp 58), type := 9, pos := "law.go:140", after := #[{ on := 22, ground := Go.Ground.data }, { on := 18, ground := Go.Ground.guard }], guard := some (18, false) }) (v := _) rfl (by kernel_rfl) (by kernel_rfl) (by kernel_rfl) (fun _ _ _ h => h) (by kernel_rfl) (Or.inl ⟨by rfl, ?hy24⟩) hS9 ?rest24
  case hy24 => (intro W hSw; have h1 := (GS.out.go hSw).ins L.length (by have := hR9.out.2.1; omega); rw [hR9.out.2.2] at h1; have h2 := to_text h1; go_simp; try (with_reducible rfl))
  try simp only [Act.put, List.setIfInBounds_toArray, List.set_cons_zero, List.set_cons_succ]
  refine' wpAnyD_take (i := 24) (oi := { dst := some 60, op := Go.Op.move (Go.Operand.tmp 0), type := 26, pos := "law.go:140", after := #[{ on := 18, ground := Go.Ground.guard }], guard := some (18, false) }) (v := _) rfl (by kernel_rfl) (by kernel_rfl) (by kernel_rfl) (fun _ _ _ h => h) (by kernel_rfl) (Or.inl ⟨by rfl, ?hy25⟩) hS9 ?rest25
  case hy25 => (intro W hSw; go_simp; try (with_reducible rfl))
  try simp only [Act.put, List.setIfInBounds_toArray, List.set_cons_zero, List.set_cons_succ]
  refine' wpAnyD_take (i := 25) (oi := { dst := some 61, op := Go.Op.convert 26 9 (Go.Operand.tmp 60), type := 9, pos := "law.go:140", after := #[{ on := 24, ground := Go.Ground.data }, { on := 18, ground := Go.Ground.guard }], guard := some (18, false) }) (v := _) rfl (by kernel_rfl) (by kernel_rfl) (by kernel_rfl) (fun _ _ _ h => h) (by kernel_rfl) (Or.inl ⟨by rfl, ?hy26⟩) hS9 ?rest26
  case hy26 => (intro W hSw; have h2 := to_text (GS.out.go hSw).lb; go_simp; try (with_reducible rfl))
  try simp only [Act.put, List.setIfInBounds_toArray, List.set_cons_zero, List.set_cons_succ]
  refine' wpAnyD_take (i := 26) (oi := { dst := some 62, op := Go.Op.binOp Go.BinOp.neq 9 (Go.Operand.tmp 59) (Go.Operand.tmp 61) 9, type := 4, pos := "law.go:140", after := #[{ on := 23, ground := Go.Ground.data }, { on := 25, ground := Go.Ground.data }, { on := 18, ground := Go.Ground.guard }], guard := some (18, false) }) (v := _) rfl (by kernel_rfl) (by kernel_rfl) (by kernel_rfl) (fun _ _ _ h => h) (by kernel_rfl) (Or.inl ⟨by rfl, ?hy27⟩) hS9 ?rest27
  case hy27 => (intro W hSw; go_simp; try (with_reducible rfl))
  try simp only [Act.put, List.setIfInBounds_toArray, List.set_cons_zero, List.set_cons_succ]
  refine' wpAnyD_take (i := 27) (oi := { dst := some 63, op := Go.Op.pick (Go.Operand.tmp 54) (Go.Operand.const (Go.Value.bool true)) (Go.Operand.tmp 62), type := 4, pos := "law.go:140", after := #[{ on := 18, ground := Go.Ground.data }, { on := 26, ground := Go.Ground.data }], guard := none }) (v := _) rfl (by kernel_rfl) (by kernel_rfl) (by kernel_rfl) (fun _ _ _ h => h) (by kernel_rfl) (Or.inl ⟨by rfl, ?hy28⟩) hS9 ?rest28
  case hy28 => (intro W hSw; go_simp; try (with_reducible rfl))
  try simp only [Act.put, List.setIfInBounds_toArray, List.set_cons_zero, List.set_cons_succ]
  refine' wpAnyD_take (i := 28) (oi := { dst := some 64, op := Go.Op.move (Go.Operand.tmp 63), type := 4, pos := "law.go:140", after := #[{ on := 27, ground := Go.Ground.data }, { on := 18, ground := Go.Ground.chain }], guard := none }) (v := _) rfl (by kernel_rfl) (by kernel_rfl) (by kernel_rfl) (fun _ _ _ h => h) (by kernel_rfl) (Or.inl ⟨by rfl, ?hy29⟩) hS9 ?rest29
  case hy29 => (intro W hSw; go_simp; try (with_reducible rfl))
  try simp only [Act.put, List.setIfInBounds_toArray, List.set_cons_zero, List.set_cons_succ]
  refine' wpAnyD_take (i := 29) (oi := { dst := some 65, op := Go.Op.move (Go.Operand.tmp 5), type := 26, pos := "law.go:140", after := #[{ on := 28, ground := Go.Ground.guard }], guard := some (28, false) }) (v := _) rfl (by kernel_rfl) (by kernel_rfl) (by kernel_rfl) (fun _ _ _ h => h) (by kernel_rfl) (Or.inl ⟨by rfl, ?hy30⟩) hS9 ?rest30
  case hy30 => (intro W hSw; go_simp; try (with_reducible rfl))
  try simp only [Act.put, List.setIfInBounds_toArray, List.set_cons_zero, List.set_cons_succ]
  refine' wpAnyD_take (i := 30) (oi := { dst := some 66, op := Go.Op.move (Go.Operand.tmp 0), type := 26, pos := "law.go:140", after := #[{ on := 28, ground := Go.Ground.guard }], guard := some (28, false) }) (v := _) rfl (by kernel_rfl) (by kernel_rfl) (by kernel_rfl) (fun _ _ _ h => h) (by kernel_rfl) (Or.inl ⟨by rfl, ?hy31⟩) hS9 ?rest31
  case hy31 => (intro W hSw; go_simp; try (with_reducible rfl))
  try simp only [Act.put, List.setIfInBounds_toArray, List.set_cons_zero, List.set_cons_succ]
  refine' wpAnyD_take (i := 31) (oi := { dst := some 67, op := Go.Op.call { callee := Go.Callee.builtin Go.Builtin.len, args := #[Go.Operand.tmp 66], argTypes := #[26] }, type := 3, pos := "law.go:140", after := #[{ on := 30, ground := Go.Ground.data }, { on := 28, ground := Go.Ground.guard }], guard := some (28, false) }) (v := _) rfl (by kernel_rfl) (by kernel_rfl) (by kernel_rfl) (fun _ _ _ h => h) (by kernel_rfl) (Or.inl ⟨by rfl, ?hy32⟩) hS9 ?rest32
  case hy32 => (intro W hSw; go_simp; try (with_reducible rfl))
  try simp only [Act.put, List.setIfInBounds_toArray, List.set_cons_zero, List.set_cons_succ]
  refine' wpAnyD_take (i := 32) (oi := { dst := some 68, op := Go.Op.indexAddr 26 (Go.Operand.tmp 65) (Go.Operand.tmp 67), type := 0, pos := "law.go:140", after := #[{ on := 29, ground := Go.Ground.data }, { on := 31, ground := Go.Ground.data }, { on := 28, ground := Go.Ground.guard }], guard := some (28, false) }) (v := _) rfl (by kernel_rfl) (by kernel_rfl) (by kernel_rfl) (fun _ _ _ h => h) (by kernel_rfl) (Or.inl ⟨by rfl, ?hy33⟩) hS9 ?rest33
  case hy33 => (intro W hSw; obtain ⟨h1, h2, h3⟩ := (GS.out.go hSw).at hR9.out.1; have h4 : bv 199 = .int .u8 199 := rfl; rw [h4] at h1; have h5 : (L.length : Int) < (L.length : Int) + 1 := (by omega); go_simp; try (with_reducible rfl))
  try simp only [Act.put, List.setIfInBounds_toArray, List.set_cons_zero, List.set_cons_succ]
  refine' wpAnyD_take (i := 33) (oi := { dst := some 69, op := Go.Op.load 5 (Go.Operand.tmp 68), type := 5, pos := "law.go:140", after := #[{ on := 32, ground := Go.Ground.data }, { on := 28, ground := Go.Ground.guard }], guard := some (28, false) }) (v := _) rfl (by kernel_rfl) (by kernel_rfl) (by kernel_rfl) (fun _ _ _ h => h) (by kernel_rfl) (Or.inl ⟨by rfl, ?hy34⟩) hS9 ?rest34
  case hy34 => (intro W hSw; obtain ⟨h1, h2, h3⟩ := (GS.out.go hSw).at hR9.out.1; have h4 : bv 199 = .int .u8 199 := rfl; rw [h4] at h1; have h5 : (L.length : Int) < (L.length : Int) + 1 := (by omega); go_simp; try (with_reducible rfl))
  try simp only [Act.put, List.setIfInBounds_toArray, List.set_cons_zero, List.set_cons_succ]
  refine' wpAnyD_take (i := 34) (oi := { dst := some 70, op := Go.Op.binOp Go.BinOp.neq 5 (Go.Operand.tmp 69) (Go.Operand.const (Go.Value.int Go.IntKind.u8 199)) 5, type := 4, pos := "law.go:140", after := #[{ on := 33, ground := Go.Ground.data }, { on := 28, ground := Go.Ground.guard }], guard := some (28, false) }) (v := _) rfl (by kernel_rfl) (by kernel_rfl) (by kernel_rfl) (fun _ _ _ h => h) (by kernel_rfl) (Or.inl ⟨by rfl, ?hy35⟩) hS9 ?rest35
  case hy35 => (intro W hSw; go_simp; try (with_reducible rfl))
  try simp only [Act.put, List.setIfInBounds_toArray, List.set_cons_zero, List.set_cons_succ]
  refine' wpAnyD_take (i := 35) (oi := { dst := some 71, op := Go.Op.pick (Go.Operand.tmp 64) (Go.Operand.const (Go.Value.bool true)) (Go.Operand.tmp 70), type := 4, pos := "law.go:140", after := #[{ on := 28, ground := Go.Ground.data }, { on := 34, ground := Go.Ground.data }], guard := none }) (v := _) rfl (by kernel_rfl) (by kernel_rfl) (by kernel_rfl) (fun _ _ _ h => h) (by kernel_rfl) (Or.inl ⟨by rfl, ?hy36⟩) hS9 ?rest36
  case hy36 => (intro W hSw; go_simp; try (with_reducible rfl))
  try simp only [Act.put, List.setIfInBounds_toArray, List.set_cons_zero, List.set_cons_succ]
  refine wpAnyD_done (by kernel_rfl) ?_ _
  have GT : Hid (∃ R', Gs w w9 (.slice p0 L.length c0) (.slice p1 T.length c1) L T gi ci R' M d6 d9 (get L).1.arity (.slice q4 m4 c4) (.slice q4' m4' c4') (.slice q6 m6 c6) (.slice q6' m6' c6') xs4 xs6 (get L).1.edges ∧ R'.length = L.length + 1) := ⟨R, GS.out.go hS9, hR9.out.2.1⟩
  clear hS0 hS8 hS9 GS hR9 hgi hzn
  go_wp2_with fail
  go_loopw [12] (fun s12 wr => ∃ i : Nat, i ≤ L.length ∧ s12 = .int .i64 (i : Nat) ∧ Hid (∃ R', Gs w wr (.slice p0 L.length c0) (.slice p1 T.length c1) L T gi ci R' M d6 d9 (get L).1.arity (.slice q4 m4 c4) (.slice q4' m4' c4') (.slice q6 m6 c6) (.slice q6' m6' c6') xs4 xs6 (get L).1.edges ∧ R'.length = L.length + 1)) (fun s12 _ => L.length - (RowKit.intOf s12).toNat)
  case atStart => exact ⟨0, Nat.zero_le _, rfl, GT.out⟩
  case round =>
    clear GT
    obtain ⟨i, hi, rfl, HI⟩ := hrel
    go_upto_region 7 with fail
    go_cut [81] (fun s81 w' => ∃ b : Bool, s81 = .bool b ∧ (b = true ↔ i < L.length ∧ i < T.length) ∧ w' = wr)
    case first =>
      by_cases hlt2 : i < L.length
      · have hltz : (i : Int) < (L.length : Int) := by omega
        by_cases he3 : i < T.length
        · have hz : (i : Int) < (T.length : Int) := by omega
          go_wp2_with fail
          go_meet
          exact ⟨_, rfl, by simp [hlt2, he3], rfl⟩
        · have hz : ¬ (i : Int) < (T.length : Int) := by omega
          go_wp2_with fail
          go_meet
          exact ⟨_, rfl, by simp [he3], rfl⟩
      · have hltz : ¬ (i : Int) < (L.length : Int) := by omega
        go_wp2_with fail
        go_meet
        exact ⟨_, rfl, by simp [hlt2], rfl⟩
    case rest =>
      obtain ⟨b, rfl, hb, rfl⟩ := hcut
      obtain ⟨R', G0, hRl⟩ := HI.out
      have GH := hid G0
      have HRL := hid hRl
      clear G0 hRl HI
      cases b with
      | true =>
        obtain ⟨hlt2, hlt3⟩ := hb.1 rfl
        clear hb
        have hi0 : (0 : Int) ≤ (i : Int) := by omega
        have hi1 : (i : Int) < (L.length : Int) + 1 := by omega
        have hi2 : (i : Int) < (T.length : Int) := by omega
        obtain ⟨x, hx⟩ : ∃ x, T[i]? = some x := ⟨T[i], by simp [hlt3]⟩
        obtain ⟨y, hy⟩ : ∃ y, R'[i]? = some y := ⟨R'[i]'(by have := HRL.out; omega), by simp⟩
        obtain ⟨bt, ot, ct, hvt, hbt, hct⟩ := ls_at GH.out.lt hx
        obtain ⟨hc1, hc2, hc3⟩ := GH.out.at hy
        simp only [Value.slice.injEq] at hvt
        obtain ⟨rfl, -, rfl⟩ := hvt
        go_wp2_with fail
        go_roundw
        case rel => exact ⟨i + 1, by omega, by go_num, R'.set i x, GH.out.put i x, by rw [List.length_set]; exact HRL.out⟩
        case measure => simp [RowKit.intOf]; omega
      | false =>
        clear hb
        have N0 := GH.out.ins L.length (by have := HRL.out; omega)
        have hNl : Hid ((R'.take L.length).length = L.length) := by show _ = _; rw [List.length_take]; have := HRL.out; omega
        generalize R'.take L.length = N at N0 hNl
        have NH := hid N0
        clear N0
        go_wp2_with (at_builtin; refine wpBL rfl _ _ rfl wc.heap.size _ [] rfl (World.ownsRow_made wc #[] 0 (Nat.le_refl _) (Nat.zero_le _) rfl) _ N rfl (Or.inl (NH.out.below ((Gr.refl _).alloc _).below)) (by have := hNl.out; simp; omega) (by simp) ?_)
        intro v10 w10 h10 k10
        have b10 := copy_belowG k10.out
        have L10 := hid (owns_ls (E := EB) (owns_re (n' := N.length) (xs' := fl EB N) h10.out (by simp) (by simp)))
        obtain ⟨p10, c10, rfl⟩ := L10.out.form
        have G10 := hid (GH.out.go b10)
        have N10 := hid (NH.out.below b10)
        clear h10 k10 b10 GH NH
        go_wp2_with fail
        refine (get_any _ N10.out (by have := hNl.out; omega)).mono ?_
        rintro r w11 ⟨b11, u11, rfl, nv11, ev11, xs11, rfl, hx11, go11⟩
        obtain ⟨q11, m11, c11, rfl⟩ := owns_form go11.nodes.row
        obtain ⟨q11', m11', c11', rfl⟩ := owns_form go11.edges
        have g12 := (Gr.refl w11).alloc (.cells (gvc (get N).1.arity (.slice q11 m11 c11) (.slice q11' m11' c11')) 25)
        have n12 := heap_new' w11 (.cells (gvc (get N).1.arity (.slice q11 m11 c11) (.slice q11' m11' c11')) 25)
        have G12 := hid ((G10.out.go b11).go g12.below)
        have R12 := hid ((vg_gr hx11 go11).later (Nat.le_refl _) g12.below)
        have L12 := hid ((L10.out.below b11).below g12.below)
        have X11 := hid hx11
        have N12 := hid n12
        clear b11 g12 n12 go11 hx11 G10 L10 N10
        go_wp2_with fail
        refine (rget_any _ L12.out (by have := hNl.out; omega)).mono ?_
        rintro r w13 ⟨b13, u13, rfl, nv13, ev13, xs13, rfl, hx13, go13⟩
        obtain ⟨q13, m13, c13, rfl⟩ := owns_form go13.nodes.row
        obtain ⟨q13', m13', c13', rfl⟩ := owns_form go13.edges
        have g14 := (Gr.refl w13).alloc (.cells (gvc (get N).1.arity (.slice q13 m13 c13) (.slice q13' m13' c13')) 25)
        have G14 := hid ((G12.out.go b13).go g14.below)
        have R14 := (R12.out.later (Nat.le_refl _) b13).later (Nat.le_refl _) g14.below
        have S14 := (vg_gr hx13 go13).later (Nat.le_refl _) g14.below
        have hsa := same_eq (a := (get N).1.arity) (X11.out.trans hx13.symm) _ R14 S14
        have n14 := (g14.below.block _ (Nat.lt_of_lt_of_le (tk_lt N12.out) b13.size)).trans ((b13.block _ (tk_lt N12.out)).trans N12.out)
        have c14 := (tk_store n14).1
        have l14 := tk_lt n14
        clear b13 g14 go13 hx13 G12 R12 L12 X11 N12 R14 S14 n14
        go_wp2_with fail
        refine hsa.mono ?_
        rintro r w15 ⟨rfl, g15⟩
        have G15 := hid (G14.out.go g15.below)
        obtain ⟨hc1, hc2, hc3, hc4⟩ := G15.out.cells
        clear g15 G14 hsa c14 l14
        go_wp2_with fail
        refine (G15.out.same HX4.out HX6.out).mono ?_
        rintro r w16 ⟨rfl, g16⟩
        have B16 := hid (G15.out.go g16.below).bl
        clear g16 G15 hc1 hc2 hc3 hc4
        go_wp2_with fail
        go_ret
        exact ⟨rfl, B16.out⟩
end Go.Proofs.Ytnclnagpfjmlcaa.Df
