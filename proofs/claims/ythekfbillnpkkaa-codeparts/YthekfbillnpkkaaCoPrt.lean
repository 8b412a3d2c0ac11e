import Derived.Test.YthekfbillnpkkaaCoJn
namespace Go.Proofs.Ythekfbillnpkkaa.Cd
open Go.RowKit Go.Sort
attribute [local go_sem ↓] Go.wp_at_zero Go.wp_at_succ

theorem m9 (n : Int) (r : Rc) : mapL [⟨9, n⟩] r = mapL [⟨2, n⟩, ⟨5, n⟩] r := by simp [mapL, chk, may, mayM, mpd]
theorem m10 (n : Int) (r : Rc) : mapL [⟨10, n⟩] r = mapL [⟨1, n⟩, ⟨4, n⟩] r := by simp [mapL, chk, may, mayM, mpd]
theorem p27 (n : Int) (r : Rc) : passL [⟨27, n⟩] r = passL [⟨23, n⟩, ⟨26, n⟩] r := by simp [passL, chk, may, mayF, hld]
theorem p22 (n : Int) (r : Rc) : passL [⟨22, n⟩] r = !passL [⟨21, n⟩] r := by simp [passL, chk, may, mayF, hld]; rfl
theorem p25 (n : Int) (r : Rc) : passL [⟨25, n⟩] r = !passL [⟨24, n⟩] r := by simp [passL, chk, may, mayF, hld]; rfl
theorem m7 (r : Rc) : mapL [⟨7, 0⟩, ⟨7, 0⟩] r = r := by simp [mapL, chk, may, mayM, mpd]
theorem m8 (r : Rc) : mapL [⟨8, 0⟩] r = ⟨r.key, IntKind.u64.wrap (r.val + r.key)⟩ := by simp [mapL, chk, may, mayM, mpd]
theorem p28 (r : Rc) : passL [⟨28, 0⟩] r = (r.key == r.val) := by simp [passL, chk, may, mayF, hld]
theorem m3 {n : Int} (h : n ≠ 0) (r : Rc) : mapL [⟨3, n⟩] r = ⟨r.key % n, r.val⟩ := by simp [mapL, chk, may, mayM, mpd, h]
set_option maxHeartbeats 8000000 in
set_option maxRecDepth 100000 in
theorem codeParts_any {n : Int} {r : Rc} (hn : 0 ≤ n ∧ n < 18446744073709551616) (hr : Rok r) (w : World) : Calls Try.prog 4 #[.int .u64 n, rv r] w fun e w' => e = .returned (.bool true) ∧ Below w.heap.size w w' := by
  have hmx : Try.prog.follows .mixedOrders = true := by kernel_rfl
  have hR := fun x y W => run_eqR x y W
  have HN := hid hn
  have HR := hid hr
  have hmap : ∀ (W : World) (v : Value) (l : List Op2), (∀ o ∈ l, Ook o) → Ls EO W v l → Calls Try.prog 9 #[v, rv r] W fun e w' => e = .returned (rv (mapL l r)) ∧ Below W.heap.size W w' := fun W v l hl hv => map_any HR.out hl W hv
  have hpass : ∀ (W : World) (v : Value) (l : List Op2), Ls EO W v l → Calls Try.prog 10 #[v, rv r] W fun e w' => e = .returned (.bool (passL l r)) ∧ Below W.heap.size W w' := fun W v l hv => pass_any r W hv
  have HMAP := hid hmap
  have HPASS := hid hpass
  have HO1 : Hid (∀ k : Int, ∀ o ∈ [(⟨k, n⟩ : Op2)], Ook o) := fun k o ho => by simp at ho; rw [ho]; exact HN.out
  have HO2 : Hid (∀ k l : Int, ∀ o ∈ [(⟨k, n⟩ : Op2), ⟨l, n⟩], Ook o) := fun k l o ho => by simp at ho; rcases ho with rfl | rfl <;> exact HN.out
  have HO3 : Hid (∀ k : Int, ∀ o ∈ [(⟨k, 0⟩ : Op2)], Ook o) := fun k o ho => by simp at ho; rw [ho]; exact ⟨by simp, by simp⟩
  have HO4 : Hid (∀ k l : Int, ∀ o ∈ [(⟨k, 0⟩ : Op2), ⟨l, 0⟩], Ook o) := fun k l o ho => by simp at ho; rcases ho with rfl | rfl <;> exact ⟨by simp, by simp⟩
  clear hn hr hmap hpass
  go_enter Try.func4, Try.ntmps4
  go_upto_region 2 with fail
  obtain ⟨W0, hW0⟩ : ∃ W0, W0 = (w.alloc (.cells #[.int .u64 n] 23)).alloc (.cells #[.int .u64 r.key, .int .u64 r.val] 25) := ⟨_, rfl⟩
  have hG : Gr w W0 := by rw [hW0]; exact ((Gr.refl w).alloc _).alloc _
  have hb := two_new w (.cells #[.int .u64 n] 23) (.cells #[.int .u64 r.key, .int .u64 r.val] 25)
  rw [← hW0] at hb
  obtain ⟨nb, hnb⟩ : ∃ nb, nb = w.heap.size := ⟨_, rfl⟩
  obtain ⟨rb, hrb⟩ : ∃ rb, rb = nb + 1 := ⟨_, rfl⟩
  rw [← hW0, ← hnb, ← hrb]
  rw [← hnb, ← hrb] at hb
  have HBW := hid hG.below
  have HOP : Hid (∀ (k : Int) (W : World), Below W0.heap.size W0 W → Calls Try.prog 12 #[.int .i64 k, .pointer (some ⟨nb, 0, none⟩)] W fun e w' => ∃ v, e = .returned v ∧ Ls EO w' v [⟨k, n⟩] ∧ Gr W w') := fun k W hW => op_any k n nb W ((hW.block nb (blk_at hb.1).1).trans hb.1)
  have LR : Hid (∀ W : World, Below W0.heap.size W0 W → W.cell? ⟨rb, 0, none⟩ = some (.int .u64 r.key) ∧ W.cell? ⟨rb, 1, none⟩ = some (.int .u64 r.val) ∧ W.cell? ⟨nb, 0, none⟩ = some (.int .u64 n) ∧ rb < W.heap.size ∧ nb < W.heap.size) := fun W hW => by
    have h1 := (hW.block nb (blk_at hb.1).1).trans hb.1
    have h2 := (hW.block rb (blk_at hb.2).1).trans hb.2
    exact ⟨by simp [World.cell?, h2], by simp [World.cell?, h2], by simp [World.cell?, h1], (blk_at h2).1, (blk_at h1).1⟩
  clear hW0 hnb hrb hb hG
  have B0 : Below W0.heap.size W0 W0 := (Gr.refl W0).below
  obtain ⟨q9, hq9⟩ : ∃ q, q = mapL [⟨2, n⟩, ⟨5, n⟩] r := ⟨_, rfl⟩
  have HQ9 := hid hq9
  clear hq9
  have B02 : Below W0.heap.size W0 W0.drew := B0.trans ((Gr.refl W0).drew.below.mono B0.size)
  refine wp_regionD (S := (fun W : World => Below W0.heap.size W0 W)) (D := []) hmx ?_
  refine' wpAnyD_take (i := 0) (oi := { dst := some 16, op := Go.Op.move (Go.Operand.tmp 5), type := 36, pos := "outright.go:34", after := #[], guard := none }) (v := _) rfl (by kernel_rfl) (by kernel_rfl) (by kernel_rfl) (fun _ _ _ h => h) (by kernel_rfl) (Or.inl ⟨by rfl, ?hy1⟩) B02 ?rest1
  case hy1 => (intro W hSw; obtain ⟨z0, z1, z2, z3, z4⟩ := LR.out W hSw; go_simp; try (with_reducible rfl))
  try simp only [Act.put, List.setIfInBounds_toArray, List.set_cons_zero, List.set_cons_succ]
  refine' wpAnyD_take (i := 4) (oi := { dst := some 20, op := Go.Op.move (Go.Operand.tmp 5), type := 36, pos := "outright.go:34", after := #[], guard := none }) (v := _) rfl (by kernel_rfl) (by kernel_rfl) (by kernel_rfl) (fun _ _ _ h => h) (by kernel_rfl) (Or.inl ⟨by rfl, ?hy2⟩) B02 ?rest2
  case hy2 => (intro W hSw; obtain ⟨z0, z1, z2, z3, z4⟩ := LR.out W hSw; go_simp; try (with_reducible rfl))
  try simp only [Act.put, List.setIfInBounds_toArray, List.set_cons_zero, List.set_cons_succ]
  refine' wpAnyD_take (i := 6) (oi := { dst := some 22, op := Go.Op.move (Go.Operand.tmp 5), type := 36, pos := "outright.go:34", after := #[], guard := none }) (v := _) rfl (by kernel_rfl) (by kernel_rfl) (by kernel_rfl) (fun _ _ _ h => h) (by kernel_rfl) (Or.inl ⟨by rfl, ?hy3⟩) B02 ?rest3
  case hy3 => (intro W hSw; obtain ⟨z0, z1, z2, z3, z4⟩ := LR.out W hSw; go_simp; try (with_reducible rfl))
  try simp only [Act.put, List.setIfInBounds_toArray, List.set_cons_zero, List.set_cons_succ]
  refine' wpAnyD_take (i := 2) (oi := { dst := some 18, op := Go.Op.load 25 (Go.Operand.tmp 3), type := 25, pos := "outright.go:34", after := #[], guard := none }) (v := _) rfl (by kernel_rfl) (by kernel_rfl) (by kernel_rfl) (fun _ _ _ h => h) (by kernel_rfl) (Or.inl ⟨by rfl, ?hy4⟩) B02 ?rest4
  case hy4 => (intro W hSw; obtain ⟨z0, z1, z2, z3, z4⟩ := LR.out W hSw; go_simp; try (with_reducible rfl))
  try simp only [Act.put, List.setIfInBounds_toArray, List.set_cons_zero, List.set_cons_succ]
  refine' wpAnyD_take (i := 9) (oi := { dst := some 25, op := Go.Op.load 25 (Go.Operand.tmp 3), type := 25, pos := "outright.go:34", after := #[], guard := none }) (v := _) rfl (by kernel_rfl) (by kernel_rfl) (by kernel_rfl) (fun _ _ _ h => h) (by kernel_rfl) (Or.inl ⟨by rfl, ?hy5⟩) B02 ?rest5
  case hy5 => (intro W hSw; obtain ⟨z0, z1, z2, z3, z4⟩ := LR.out W hSw; go_simp; try (with_reducible rfl))
  try simp only [Act.put, List.setIfInBounds_toArray, List.set_cons_zero, List.set_cons_succ]
  refine wpAnyD_one (i := 1) (o := { dst := some 17, op := Go.Op.call { callee := Go.Callee.value (Go.Operand.tmp 16), args := #[Go.Operand.const (Go.Value.int Go.IntKind.i64 9)], argTypes := #[3] }, type := 22, pos := "outright.go:34", after := #[{ on := 0, ground := Go.Ground.data }], guard := none }) (by kernel_rfl) rfl (fun K hK => ?_)
  go_simp
  refine (HOP.out 9 _ B02).mono ?_
  rintro e u1 ⟨v1, rfl, L1, g1⟩
  have B101 : Below W0.heap.size W0 u1 := B02.trans (g1.below.mono B02.size)
  clear g1
  go_wp2_with fail
  refine hK.out _ _ (fun hD => B101) ?_
  clear hK K
  try simp only [Act.put, List.setIfInBounds_toArray, List.set_cons_zero, List.set_cons_succ]
  refine wpAnyD_one (i := 3) (o := { dst := some 19, op := Go.Op.call { callee := Go.Callee.value (Go.Operand.func 9), args := #[Go.Operand.tmp 17, Go.Operand.tmp 18], argTypes := #[22, 25] }, type := 25, pos := "outright.go:34", after := #[{ on := 1, ground := Go.Ground.data }, { on := 2, ground := Go.Ground.data }, { on := 1, ground := Go.Ground.chain }], guard := none }) (by kernel_rfl) rfl (fun K hK => ?_)
  go_simp
  have hc := HMAP.out _ _ _ (HO1.out 9) L1
  rw [m9, ← HQ9.out] at hc
  refine hc.mono ?_
  clear hc
  rintro e u2 ⟨rfl, g2⟩
  have B102 : Below W0.heap.size W0 u2 := B101.trans (g2.mono B101.size)
  clear g2
  go_wp2_with fail
  refine hK.out _ _ (fun hD => B102) ?_
  clear hK K
  try simp only [Act.put, List.setIfInBounds_toArray, List.set_cons_zero, List.set_cons_succ]
  refine wpAnyD_one (i := 5) (o := { dst := some 21, op := Go.Op.call { callee := Go.Callee.value (Go.Operand.tmp 20), args := #[Go.Operand.const (Go.Value.int Go.IntKind.i64 2)], argTypes := #[3] }, type := 22, pos := "outright.go:34", after := #[{ on := 4, ground := Go.Ground.data }, { on := 3, ground := Go.Ground.chain }], guard := none }) (by kernel_rfl) rfl (fun K hK => ?_)
  go_simp
  refine (HOP.out 2 _ B102).mono ?_
  rintro e u3 ⟨v3, rfl, L3, g3⟩
  have B103 : Below W0.heap.size W0 u3 := B102.trans (g3.below.mono B102.size)
  clear g3
  go_wp2_with fail
  refine hK.out _ _ (fun hD => B103) ?_
  clear hK K
  try simp only [Act.put, List.setIfInBounds_toArray, List.set_cons_zero, List.set_cons_succ]
  refine wpAnyD_one (i := 7) (o := { dst := some 23, op := Go.Op.call { callee := Go.Callee.value (Go.Operand.tmp 22), args := #[Go.Operand.const (Go.Value.int Go.IntKind.i64 5)], argTypes := #[3] }, type := 22, pos := "outright.go:34", after := #[{ on := 6, ground := Go.Ground.data }, { on := 5, ground := Go.Ground.chain }], guard := none }) (by kernel_rfl) rfl (fun K hK => ?_)
  go_simp
  refine (HOP.out 5 _ B103).mono ?_
  rintro e u4 ⟨v4, rfl, L4, g4⟩
  have B104 : Below W0.heap.size W0 u4 := B103.trans (g4.below.mono B103.size)
  have L3a4 := L3.below g4.below
  clear g4
  go_wp2_with fail
  refine hK.out _ _ (fun hD => B104) ?_
  clear hK K
  try simp only [Act.put, List.setIfInBounds_toArray, List.set_cons_zero, List.set_cons_succ]
  refine wpAnyD_one (i := 8) (o := { dst := some 24, op := Go.Op.call { callee := Go.Callee.value (Go.Operand.func 6), args := #[Go.Operand.tmp 21, Go.Operand.tmp 23], argTypes := #[22, 22] }, type := 22, pos := "outright.go:34", after := #[{ on := 5, ground := Go.Ground.data }, { on := 7, ground := Go.Ground.data }, { on := 7, ground := Go.Ground.chain }], guard := none }) (by kernel_rfl) rfl (fun K hK => ?_)
  go_simp
  refine (joined_any _ L3a4 L4 (by simp)).mono ?_
  rintro e u5 ⟨v5, rfl, L5, g5⟩
  have B105 : Below W0.heap.size W0 u5 := B104.trans (g5.mono B104.size)
  clear g5
  go_wp2_with fail
  refine hK.out _ _ (fun hD => B105) ?_
  clear hK K
  try simp only [Act.put, List.setIfInBounds_toArray, List.set_cons_zero, List.set_cons_succ]
  refine wpAnyD_one (i := 10) (o := { dst := some 26, op := Go.Op.call { callee := Go.Callee.value (Go.Operand.func 9), args := #[Go.Operand.tmp 24, Go.Operand.tmp 25], argTypes := #[22, 25] }, type := 25, pos := "outright.go:34", after := #[{ on := 8, ground := Go.Ground.data }, { on := 9, ground := Go.Ground.data }, { on := 8, ground := Go.Ground.chain }], guard := none }) (by kernel_rfl) rfl (fun K hK => ?_)
  go_simp
  have hc := HMAP.out _ _ _ (HO2.out 2 5) L5
  rw [← HQ9.out] at hc
  refine hc.mono ?_
  clear hc
  rintro e u6 ⟨rfl, g6⟩
  have B106 : Below W0.heap.size W0 u6 := B105.trans (g6.mono B105.size)
  clear g6
  go_wp2_with fail
  refine hK.out _ _ (fun hD => B106) ?_
  clear hK K
  try simp only [Act.put, List.setIfInBounds_toArray, List.set_cons_zero, List.set_cons_succ]
  refine wpAnyD_one (i := 11) (o := { dst := some 27, op := Go.Op.binOp Go.BinOp.eql 25 (Go.Operand.tmp 19) (Go.Operand.tmp 26) 25, type := 4, pos := "outright.go:34", after := #[{ on := 3, ground := Go.Ground.data }, { on := 10, ground := Go.Ground.data }], guard := none }) (by kernel_rfl) rfl (fun K hK => ?_)
  go_simp
  refine hK.out _ _ (fun hD => B106) ?_
  clear hK K
  try simp only [Act.put, List.setIfInBounds_toArray, List.set_cons_zero, List.set_cons_succ]
  refine wpAnyD_one (i := 12) (o := { dst := some 6, op := Go.Op.assign (Go.Operand.tmp 27), type := 4, pos := "outright.go:34", after := #[{ on := 11, ground := Go.Ground.data }, { on := 10, ground := Go.Ground.chain }, { on := 0, ground := Go.Ground.phase }, { on := 1, ground := Go.Ground.phase }, { on := 2, ground := Go.Ground.phase }, { on := 3, ground := Go.Ground.phase }, { on := 4, ground := Go.Ground.phase }, { on := 5, ground := Go.Ground.phase }, { on := 6, ground := Go.Ground.phase }, { on := 7, ground := Go.Ground.phase }, { on := 8, ground := Go.Ground.phase }, { on := 9, ground := Go.Ground.phase }, { on := 10, ground := Go.Ground.phase }, { on := 11, ground := Go.Ground.phase }], guard := none }) (by kernel_rfl) rfl (fun K hK => ?_)
  go_simp
  refine hK.out _ _ (fun hD => B106) ?_
  clear hK K
  try simp only [Act.put, List.setIfInBounds_toArray, List.set_cons_zero, List.set_cons_succ]
  refine wpAnyD_done (by kernel_rfl) ?_ _
  obtain ⟨q10, hq10⟩ : ∃ q, q = mapL [⟨1, n⟩, ⟨4, n⟩] r := ⟨_, rfl⟩
  have HQ10 := hid hq10
  clear hq10
  go_upto_region 3 with fail
  have B03 : Below W0.heap.size W0 u6.drew := B106.trans ((Gr.refl u6).drew.below.mono B106.size)
  refine wp_regionD (S := (fun W : World => Below W0.heap.size W0 W)) (D := []) hmx ?_
  refine' wpAnyD_take (i := 0) (oi := { dst := some 28, op := Go.Op.move (Go.Operand.tmp 5), type := 36, pos := "outright.go:35", after := #[], guard := none }) (v := _) rfl (by kernel_rfl) (by kernel_rfl) (by kernel_rfl) (fun _ _ _ h => h) (by kernel_rfl) (Or.inl ⟨by rfl, ?hy14⟩) B03 ?rest14
  case hy14 => (intro W hSw; obtain ⟨z0, z1, z2, z3, z4⟩ := LR.out W hSw; go_simp; try (with_reducible rfl))
  try simp only [Act.put, List.setIfInBounds_toArray, List.set_cons_zero, List.set_cons_succ]
  refine' wpAnyD_take (i := 4) (oi := { dst := some 32, op := Go.Op.move (Go.Operand.tmp 5), type := 36, pos := "outright.go:35", after := #[], guard := none }) (v := _) rfl (by kernel_rfl) (by kernel_rfl) (by kernel_rfl) (fun _ _ _ h => h) (by kernel_rfl) (Or.inl ⟨by rfl, ?hy15⟩) B03 ?rest15
  case hy15 => (intro W hSw; obtain ⟨z0, z1, z2, z3, z4⟩ := LR.out W hSw; go_simp; try (with_reducible rfl))
  try simp only [Act.put, List.setIfInBounds_toArray, List.set_cons_zero, List.set_cons_succ]
  refine' wpAnyD_take (i := 6) (oi := { dst := some 34, op := Go.Op.move (Go.Operand.tmp 5), type := 36, pos := "outright.go:35", after := #[], guard := none }) (v := _) rfl (by kernel_rfl) (by kernel_rfl) (by kernel_rfl) (fun _ _ _ h => h) (by kernel_rfl) (Or.inl ⟨by rfl, ?hy16⟩) B03 ?rest16
  case hy16 => (intro W hSw; obtain ⟨z0, z1, z2, z3, z4⟩ := LR.out W hSw; go_simp; try (with_reducible rfl))
  try simp only [Act.put, List.setIfInBounds_toArray, List.set_cons_zero, List.set_cons_succ]
  refine' wpAnyD_take (i := 2) (oi := { dst := some 30, op := Go.Op.load 25 (Go.Operand.tmp 3), type := 25, pos := "outright.go:35", after := #[], guard := none }) (v := _) rfl (by kernel_rfl) (by kernel_rfl) (by kernel_rfl) (fun _ _ _ h => h) (by kernel_rfl) (Or.inl ⟨by rfl, ?hy17⟩) B03 ?rest17
  case hy17 => (intro W hSw; obtain ⟨z0, z1, z2, z3, z4⟩ := LR.out W hSw; go_simp; try (with_reducible rfl))
  try simp only [Act.put, List.setIfInBounds_toArray, List.set_cons_zero, List.set_cons_succ]
  refine' wpAnyD_take (i := 9) (oi := { dst := some 37, op := Go.Op.load 25 (Go.Operand.tmp 3), type := 25, pos := "outright.go:35", after := #[], guard := none }) (v := _) rfl (by kernel_rfl) (by kernel_rfl) (by kernel_rfl) (fun _ _ _ h => h) (by kernel_rfl) (Or.inl ⟨by rfl, ?hy18⟩) B03 ?rest18
  case hy18 => (intro W hSw; obtain ⟨z0, z1, z2, z3, z4⟩ := LR.out W hSw; go_simp; try (with_reducible rfl))
  try simp only [Act.put, List.setIfInBounds_toArray, List.set_cons_zero, List.set_cons_succ]
  refine wpAnyD_one (i := 1) (o := { dst := some 29, op := Go.Op.call { callee := Go.Callee.value (Go.Operand.tmp 28), args := #[Go.Operand.const (Go.Value.int Go.IntKind.i64 10)], argTypes := #[3] }, type := 22, pos := "outright.go:35", after := #[{ on := 0, ground := Go.Ground.data }], guard := none }) (by kernel_rfl) rfl (fun K hK => ?_)
  go_simp
  refine (HOP.out 10 _ B03).mono ?_
  rintro e u7 ⟨v7, rfl, L7, g7⟩
  have B107 : Below W0.heap.size W0 u7 := B03.trans (g7.below.mono B03.size)
  clear g7
  go_wp2_with fail
  refine hK.out _ _ (fun hD => B107) ?_
  clear hK K
  try simp only [Act.put, List.setIfInBounds_toArray, List.set_cons_zero, List.set_cons_succ]
  refine wpAnyD_one (i := 3) (o := { dst := some 31, op := Go.Op.call { callee := Go.Callee.value (Go.Operand.func 9), args := #[Go.Operand.tmp 29, Go.Operand.tmp 30], argTypes := #[22, 25] }, type := 25, pos := "outright.go:35", after := #[{ on := 1, ground := Go.Ground.data }, { on := 2, ground := Go.Ground.data }, { on := 1, ground := Go.Ground.chain }], guard := none }) (by kernel_rfl) rfl (fun K hK => ?_)
  go_simp
  have hc := HMAP.out _ _ _ (HO1.out 10) L7
  rw [m10, ← HQ10.out] at hc
  refine hc.mono ?_
  clear hc
  rintro e u8 ⟨rfl, g8⟩
  have B108 : Below W0.heap.size W0 u8 := B107.trans (g8.mono B107.size)
  clear g8
  go_wp2_with fail
  refine hK.out _ _ (fun hD => B108) ?_
  clear hK K
  try simp only [Act.put, List.setIfInBounds_toArray, List.set_cons_zero, List.set_cons_succ]
  refine wpAnyD_one (i := 5) (o := { dst := some 33, op := Go.Op.call { callee := Go.Callee.value (Go.Operand.tmp 32), args := #[Go.Operand.const (Go.Value.int Go.IntKind.i64 1)], argTypes := #[3] }, type := 22, pos := "outright.go:35", after := #[{ on := 4, ground := Go.Ground.data }, { on := 3, ground := Go.Ground.chain }], guard := none }) (by kernel_rfl) rfl (fun K hK => ?_)
  go_simp
  refine (HOP.out 1 _ B108).mono ?_
  rintro e u9 ⟨v9, rfl, L9, g9⟩
  have B109 : Below W0.heap.size W0 u9 := B108.trans (g9.below.mono B108.size)
  clear g9
  go_wp2_with fail
  refine hK.out _ _ (fun hD => B109) ?_
  clear hK K
  try simp only [Act.put, List.setIfInBounds_toArray, List.set_cons_zero, List.set_cons_succ]
  refine wpAnyD_one (i := 7) (o := { dst := some 35, op := Go.Op.call { callee := Go.Callee.value (Go.Operand.tmp 34), args := #[Go.Operand.const (Go.Value.int Go.IntKind.i64 4)], argTypes := #[3] }, type := 22, pos := "outright.go:35", after := #[{ on := 6, ground := Go.Ground.data }, { on := 5, ground := Go.Ground.chain }], guard := none }) (by kernel_rfl) rfl (fun K hK => ?_)
  go_simp
  refine (HOP.out 4 _ B109).mono ?_
  rintro e u10 ⟨v10, rfl, L10, g10⟩
  have B110 : Below W0.heap.size W0 u10 := B109.trans (g10.below.mono B109.size)
  have L9a10 := L9.below g10.below
  clear g10
  go_wp2_with fail
  refine hK.out _ _ (fun hD => B110) ?_
  clear hK K
  try simp only [Act.put, List.setIfInBounds_toArray, List.set_cons_zero, List.set_cons_succ]
  refine wpAnyD_one (i := 8) (o := { dst := some 36, op := Go.Op.call { callee := Go.Callee.value (Go.Operand.func 6), args := #[Go.Operand.tmp 33, Go.Operand.tmp 35], argTypes := #[22, 22] }, type := 22, pos := "outright.go:35", after := #[{ on := 5, ground := Go.Ground.data }, { on := 7, ground := Go.Ground.data }, { on := 7, ground := Go.Ground.chain }], guard := none }) (by kernel_rfl) rfl (fun K hK => ?_)
  go_simp
  refine (joined_any _ L9a10 L10 (by simp)).mono ?_
  rintro e u11 ⟨v11, rfl, L11, g11⟩
  have B111 : Below W0.heap.size W0 u11 := B110.trans (g11.mono B110.size)
  clear g11
  go_wp2_with fail
  refine hK.out _ _ (fun hD => B111) ?_
  clear hK K
  try simp only [Act.put, List.setIfInBounds_toArray, List.set_cons_zero, List.set_cons_succ]
  refine wpAnyD_one (i := 10) (o := { dst := some 38, op := Go.Op.call { callee := Go.Callee.value (Go.Operand.func 9), args := #[Go.Operand.tmp 36, Go.Operand.tmp 37], argTypes := #[22, 25] }, type := 25, pos := "outright.go:35", after := #[{ on := 8, ground := Go.Ground.data }, { on := 9, ground := Go.Ground.data }, { on := 8, ground := Go.Ground.chain }], guard := none }) (by kernel_rfl) rfl (fun K hK => ?_)
  go_simp
  have hc := HMAP.out _ _ _ (HO2.out 1 4) L11
  rw [← HQ10.out] at hc
  refine hc.mono ?_
  clear hc
  rintro e u12 ⟨rfl, g12⟩
  have B112 : Below W0.heap.size W0 u12 := B111.trans (g12.mono B111.size)
  clear g12
  go_wp2_with fail
  refine hK.out _ _ (fun hD => B112) ?_
  clear hK K
  try simp only [Act.put, List.setIfInBounds_toArray, List.set_cons_zero, List.set_cons_succ]
  refine wpAnyD_one (i := 11) (o := { dst := some 39, op := Go.Op.binOp Go.BinOp.eql 25 (Go.Operand.tmp 31) (Go.Operand.tmp 38) 25, type := 4, pos := "outright.go:35", after := #[{ on := 3, ground := Go.Ground.data }, { on := 10, ground := Go.Ground.data }], guard := none }) (by kernel_rfl) rfl (fun K hK => ?_)
  go_simp
  refine hK.out _ _ (fun hD => B112) ?_
  clear hK K
  try simp only [Act.put, List.setIfInBounds_toArray, List.set_cons_zero, List.set_cons_succ]
  refine wpAnyD_one (i := 12) (o := { dst := some 7, op := Go.Op.assign (Go.Operand.tmp 39), type := 4, pos := "outright.go:35", after := #[{ on := 11, ground := Go.Ground.data }, { on := 10, ground := Go.Ground.chain }, { on := 0, ground := Go.Ground.phase }, { on := 1, ground := Go.Ground.phase }, { on := 2, ground := Go.Ground.phase }, { on := 3, ground := Go.Ground.phase }, { on := 4, ground := Go.Ground.phase }, { on := 5, ground := Go.Ground.phase }, { on := 6, ground := Go.Ground.phase }, { on := 7, ground := Go.Ground.phase }, { on := 8, ground := Go.Ground.phase }, { on := 9, ground := Go.Ground.phase }, { on := 10, ground := Go.Ground.phase }, { on := 11, ground := Go.Ground.phase }], guard := none }) (by kernel_rfl) rfl (fun K hK => ?_)
  go_simp
  refine hK.out _ _ (fun hD => B112) ?_
  clear hK K
  try simp only [Act.put, List.setIfInBounds_toArray, List.set_cons_zero, List.set_cons_succ]
  refine wpAnyD_done (by kernel_rfl) ?_ _
  obtain ⟨q27, hq27⟩ : ∃ q, q = passL [⟨23, n⟩, ⟨26, n⟩] r := ⟨_, rfl⟩
  have HQ27 := hid hq27
  clear hq27
  go_upto_region 4 with fail
  have B04 : Below W0.heap.size W0 u12.drew := B112.trans ((Gr.refl u12).drew.below.mono B112.size)
  refine wp_regionD (S := (fun W : World => Below W0.heap.size W0 W)) (D := []) hmx ?_
  refine' wpAnyD_take (i := 0) (oi := { dst := some 40, op := Go.Op.move (Go.Operand.tmp 5), type := 36, pos := "outright.go:36", after := #[], guard := none }) (v := _) rfl (by kernel_rfl) (by kernel_rfl) (by kernel_rfl) (fun _ _ _ h => h) (by kernel_rfl) (Or.inl ⟨by rfl, ?hy27⟩) B04 ?rest27
  case hy27 => (intro W hSw; obtain ⟨z0, z1, z2, z3, z4⟩ := LR.out W hSw; go_simp; try (with_reducible rfl))
  try simp only [Act.put, List.setIfInBounds_toArray, List.set_cons_zero, List.set_cons_succ]
  refine' wpAnyD_take (i := 4) (oi := { dst := some 44, op := Go.Op.move (Go.Operand.tmp 5), type := 36, pos := "outright.go:36", after := #[], guard := none }) (v := _) rfl (by kernel_rfl) (by kernel_rfl) (by kernel_rfl) (fun _ _ _ h => h) (by kernel_rfl) (Or.inl ⟨by rfl, ?hy28⟩) B04 ?rest28
  case hy28 => (intro W hSw; obtain ⟨z0, z1, z2, z3, z4⟩ := LR.out W hSw; go_simp; try (with_reducible rfl))
  try simp only [Act.put, List.setIfInBounds_toArray, List.set_cons_zero, List.set_cons_succ]
  refine' wpAnyD_take (i := 6) (oi := { dst := some 46, op := Go.Op.move (Go.Operand.tmp 5), type := 36, pos := "outright.go:36", after := #[], guard := none }) (v := _) rfl (by kernel_rfl) (by kernel_rfl) (by kernel_rfl) (fun _ _ _ h => h) (by kernel_rfl) (Or.inl ⟨by rfl, ?hy29⟩) B04 ?rest29
  case hy29 => (intro W hSw; obtain ⟨z0, z1, z2, z3, z4⟩ := LR.out W hSw; go_simp; try (with_reducible rfl))
  try simp only [Act.put, List.setIfInBounds_toArray, List.set_cons_zero, List.set_cons_succ]
  refine' wpAnyD_take (i := 2) (oi := { dst := some 42, op := Go.Op.load 25 (Go.Operand.tmp 3), type := 25, pos := "outright.go:36", after := #[], guard := none }) (v := _) rfl (by kernel_rfl) (by kernel_rfl) (by kernel_rfl) (fun _ _ _ h => h) (by kernel_rfl) (Or.inl ⟨by rfl, ?hy30⟩) B04 ?rest30
  case hy30 => (intro W hSw; obtain ⟨z0, z1, z2, z3, z4⟩ := LR.out W hSw; go_simp; try (with_reducible rfl))
  try simp only [Act.put, List.setIfInBounds_toArray, List.set_cons_zero, List.set_cons_succ]
  refine' wpAnyD_take (i := 9) (oi := { dst := some 49, op := Go.Op.load 25 (Go.Operand.tmp 3), type := 25, pos := "outright.go:36", after := #[], guard := none }) (v := _) rfl (by kernel_rfl) (by kernel_rfl) (by kernel_rfl) (fun _ _ _ h => h) (by kernel_rfl) (Or.inl ⟨by rfl, ?hy31⟩) B04 ?rest31
  case hy31 => (intro W hSw; obtain ⟨z0, z1, z2, z3, z4⟩ := LR.out W hSw; go_simp; try (with_reducible rfl))
  try simp only [Act.put, List.setIfInBounds_toArray, List.set_cons_zero, List.set_cons_succ]
  refine wpAnyD_one (i := 1) (o := { dst := some 41, op := Go.Op.call { callee := Go.Callee.value (Go.Operand.tmp 40), args := #[Go.Operand.const (Go.Value.int Go.IntKind.i64 27)], argTypes := #[3] }, type := 22, pos := "outright.go:36", after := #[{ on := 0, ground := Go.Ground.data }], guard := none }) (by kernel_rfl) rfl (fun K hK => ?_)
  go_simp
  refine (HOP.out 27 _ B04).mono ?_
  rintro e u13 ⟨v13, rfl, L13, g13⟩
  have B113 : Below W0.heap.size W0 u13 := B04.trans (g13.below.mono B04.size)
  clear g13
  go_wp2_with fail
  refine hK.out _ _ (fun hD => B113) ?_
  clear hK K
  try simp only [Act.put, List.setIfInBounds_toArray, List.set_cons_zero, List.set_cons_succ]
  refine wpAnyD_one (i := 3) (o := { dst := some 43, op := Go.Op.call { callee := Go.Callee.value (Go.Operand.func 10), args := #[Go.Operand.tmp 41, Go.Operand.tmp 42], argTypes := #[22, 25] }, type := 4, pos := "outright.go:36", after := #[{ on := 1, ground := Go.Ground.data }, { on := 2, ground := Go.Ground.data }, { on := 1, ground := Go.Ground.chain }], guard := none }) (by kernel_rfl) rfl (fun K hK => ?_)
  go_simp
  have hc := HPASS.out _ _ _ L13
  rw [p27, ← HQ27.out] at hc
  refine hc.mono ?_
  clear hc
  rintro e u14 ⟨rfl, g14⟩
  have B114 : Below W0.heap.size W0 u14 := B113.trans (g14.mono B113.size)
  clear g14
  go_wp2_with fail
  refine hK.out _ _ (fun hD => B114) ?_
  clear hK K
  try simp only [Act.put, List.setIfInBounds_toArray, List.set_cons_zero, List.set_cons_succ]
  refine wpAnyD_one (i := 5) (o := { dst := some 45, op := Go.Op.call { callee := Go.Callee.value (Go.Operand.tmp 44), args := #[Go.Operand.const (Go.Value.int Go.IntKind.i64 23)], argTypes := #[3] }, type := 22, pos := "outright.go:36", after := #[{ on := 4, ground := Go.Ground.data }, { on := 3, ground := Go.Ground.chain }], guard := none }) (by kernel_rfl) rfl (fun K hK => ?_)
  go_simp
  refine (HOP.out 23 _ B114).mono ?_
  rintro e u15 ⟨v15, rfl, L15, g15⟩
  have B115 : Below W0.heap.size W0 u15 := B114.trans (g15.below.mono B114.size)
  clear g15
  go_wp2_with fail
  refine hK.out _ _ (fun hD => B115) ?_
  clear hK K
  try simp only [Act.put, List.setIfInBounds_toArray, List.set_cons_zero, List.set_cons_succ]
  refine wpAnyD_one (i := 7) (o := { dst := some 47, op := Go.Op.call { callee := Go.Callee.value (Go.Operand.tmp 46), args := #[Go.Operand.const (Go.Value.int Go.IntKind.i64 26)], argTypes := #[3] }, type := 22, pos := "outright.go:36", after := #[{ on := 6, ground := Go.Ground.data }, { on := 5, ground := Go.Ground.chain }], guard := none }) (by kernel_rfl) rfl (fun K hK => ?_)
  go_simp
  refine (HOP.out 26 _ B115).mono ?_
  rintro e u16 ⟨v16, rfl, L16, g16⟩
  have B116 : Below W0.heap.size W0 u16 := B115.trans (g16.below.mono B115.size)
  have L15a16 := L15.below g16.below
  clear g16
  go_wp2_with fail
  refine hK.out _ _ (fun hD => B116) ?_
  clear hK K
  try simp only [Act.put, List.setIfInBounds_toArray, List.set_cons_zero, List.set_cons_succ]
  refine wpAnyD_one (i := 8) (o := { dst := some 48, op := Go.Op.call { callee := Go.Callee.value (Go.Operand.func 6), args := #[Go.Operand.tmp 45, Go.Operand.tmp 47], argTypes := #[22, 22] }, type := 22, pos := "outright.go:36", after := #[{ on := 5, ground := Go.Ground.data }, { on := 7, ground := Go.Ground.data }, { on := 7, ground := Go.Ground.chain }], guard := none }) (by kernel_rfl) rfl (fun K hK => ?_)
  go_simp
  refine (joined_any _ L15a16 L16 (by simp)).mono ?_
  rintro e u17 ⟨v17, rfl, L17, g17⟩
  have B117 : Below W0.heap.size W0 u17 := B116.trans (g17.mono B116.size)
  clear g17
  go_wp2_with fail
  refine hK.out _ _ (fun hD => B117) ?_
  clear hK K
  try simp only [Act.put, List.setIfInBounds_toArray, List.set_cons_zero, List.set_cons_succ]
  refine wpAnyD_one (i := 10) (o := { dst := some 50, op := Go.Op.call { callee := Go.Callee.value (Go.Operand.func 10), args := #[Go.Operand.tmp 48, Go.Operand.tmp 49], argTypes := #[22, 25] }, type := 4, pos := "outright.go:36", after := #[{ on := 8, ground := Go.Ground.data }, { on := 9, ground := Go.Ground.data }, { on := 8, ground := Go.Ground.chain }], guard := none }) (by kernel_rfl) rfl (fun K hK => ?_)
  go_simp
  have hc := HPASS.out _ _ _ L17
  rw [show passL ([⟨23, n⟩] ++ [⟨26, n⟩]) r = q27 from HQ27.out.symm] at hc
  refine hc.mono ?_
  clear hc
  rintro e u18 ⟨rfl, g18⟩
  have B118 : Below W0.heap.size W0 u18 := B117.trans (g18.mono B117.size)
  clear g18
  go_wp2_with fail
  refine hK.out _ _ (fun hD => B118) ?_
  clear hK K
  try simp only [Act.put, List.setIfInBounds_toArray, List.set_cons_zero, List.set_cons_succ]
  refine wpAnyD_one (i := 11) (o := { dst := some 51, op := Go.Op.binOp Go.BinOp.eql 4 (Go.Operand.tmp 43) (Go.Operand.tmp 50) 4, type := 4, pos := "outright.go:36", after := #[{ on := 3, ground := Go.Ground.data }, { on := 10, ground := Go.Ground.data }], guard := none }) (by kernel_rfl) rfl (fun K hK => ?_)
  go_simp
  refine hK.out _ _ (fun hD => B118) ?_
  clear hK K
  try simp only [Act.put, List.setIfInBounds_toArray, List.set_cons_zero, List.set_cons_succ]
  refine wpAnyD_one (i := 12) (o := { dst := some 8, op := Go.Op.assign (Go.Operand.tmp 51), type := 4, pos := "outright.go:36", after := #[{ on := 11, ground := Go.Ground.data }, { on := 10, ground := Go.Ground.chain }, { on := 0, ground := Go.Ground.phase }, { on := 1, ground := Go.Ground.phase }, { on := 2, ground := Go.Ground.phase }, { on := 3, ground := Go.Ground.phase }, { on := 4, ground := Go.Ground.phase }, { on := 5, ground := Go.Ground.phase }, { on := 6, ground := Go.Ground.phase }, { on := 7, ground := Go.Ground.phase }, { on := 8, ground := Go.Ground.phase }, { on := 9, ground := Go.Ground.phase }, { on := 10, ground := Go.Ground.phase }, { on := 11, ground := Go.Ground.phase }], guard := none }) (by kernel_rfl) rfl (fun K hK => ?_)
  go_simp
  refine hK.out _ _ (fun hD => B118) ?_
  clear hK K
  try simp only [Act.put, List.setIfInBounds_toArray, List.set_cons_zero, List.set_cons_succ]
  refine wpAnyD_done (by kernel_rfl) ?_ _
  obtain ⟨q21, hq21⟩ : ∃ q, q = passL [⟨21, n⟩] r := ⟨_, rfl⟩
  have HQ21 := hid hq21
  clear hq21
  have hqn : (q21 != !q21) = true := by cases q21 <;> rfl
  go_upto_region 5 with fail
  have B05 : Below W0.heap.size W0 u18.drew := B118.trans ((Gr.refl u18).drew.below.mono B118.size)
  refine wp_regionD (S := (fun W : World => Below W0.heap.size W0 W)) (D := []) hmx ?_
  refine' wpAnyD_take (i := 0) (oi := { dst := some 52, op := Go.Op.move (Go.Operand.tmp 5), type := 36, pos := "outright.go:37", after := #[], guard := none }) (v := _) rfl (by kernel_rfl) (by kernel_rfl) (by kernel_rfl) (fun _ _ _ h => h) (by kernel_rfl) (Or.inl ⟨by rfl, ?hy40⟩) B05 ?rest40
  case hy40 => (intro W hSw; obtain ⟨z0, z1, z2, z3, z4⟩ := LR.out W hSw; go_simp; try (with_reducible rfl))
  try simp only [Act.put, List.setIfInBounds_toArray, List.set_cons_zero, List.set_cons_succ]
  refine' wpAnyD_take (i := 4) (oi := { dst := some 56, op := Go.Op.move (Go.Operand.tmp 5), type := 36, pos := "outright.go:37", after := #[], guard := none }) (v := _) rfl (by kernel_rfl) (by kernel_rfl) (by kernel_rfl) (fun _ _ _ h => h) (by kernel_rfl) (Or.inl ⟨by rfl, ?hy41⟩) B05 ?rest41
  case hy41 => (intro W hSw; obtain ⟨z0, z1, z2, z3, z4⟩ := LR.out W hSw; go_simp; try (with_reducible rfl))
  try simp only [Act.put, List.setIfInBounds_toArray, List.set_cons_zero, List.set_cons_succ]
  refine' wpAnyD_take (i := 2) (oi := { dst := some 54, op := Go.Op.load 25 (Go.Operand.tmp 3), type := 25, pos := "outright.go:37", after := #[], guard := none }) (v := _) rfl (by kernel_rfl) (by kernel_rfl) (by kernel_rfl) (fun _ _ _ h => h) (by kernel_rfl) (Or.inl ⟨by rfl, ?hy42⟩) B05 ?rest42
  case hy42 => (intro W hSw; obtain ⟨z0, z1, z2, z3, z4⟩ := LR.out W hSw; go_simp; try (with_reducible rfl))
  try simp only [Act.put, List.setIfInBounds_toArray, List.set_cons_zero, List.set_cons_succ]
  refine' wpAnyD_take (i := 6) (oi := { dst := some 58, op := Go.Op.load 25 (Go.Operand.tmp 3), type := 25, pos := "outright.go:37", after := #[], guard := none }) (v := _) rfl (by kernel_rfl) (by kernel_rfl) (by kernel_rfl) (fun _ _ _ h => h) (by kernel_rfl) (Or.inl ⟨by rfl, ?hy43⟩) B05 ?rest43
  case hy43 => (intro W hSw; obtain ⟨z0, z1, z2, z3, z4⟩ := LR.out W hSw; go_simp; try (with_reducible rfl))
  try simp only [Act.put, List.setIfInBounds_toArray, List.set_cons_zero, List.set_cons_succ]
  refine wpAnyD_one (i := 1) (o := { dst := some 53, op := Go.Op.call { callee := Go.Callee.value (Go.Operand.tmp 52), args := #[Go.Operand.const (Go.Value.int Go.IntKind.i64 21)], argTypes := #[3] }, type := 22, pos := "outright.go:37", after := #[{ on := 0, ground := Go.Ground.data }], guard := none }) (by kernel_rfl) rfl (fun K hK => ?_)
  go_simp
  refine (HOP.out 21 _ B05).mono ?_
  rintro e u19 ⟨v19, rfl, L19, g19⟩
  have B119 : Below W0.heap.size W0 u19 := B05.trans (g19.below.mono B05.size)
  clear g19
  go_wp2_with fail
  refine hK.out _ _ (fun hD => B119) ?_
  clear hK K
  try simp only [Act.put, List.setIfInBounds_toArray, List.set_cons_zero, List.set_cons_succ]
  refine wpAnyD_one (i := 3) (o := { dst := some 55, op := Go.Op.call { callee := Go.Callee.value (Go.Operand.func 10), args := #[Go.Operand.tmp 53, Go.Operand.tmp 54], argTypes := #[22, 25] }, type := 4, pos := "outright.go:37", after := #[{ on := 1, ground := Go.Ground.data }, { on := 2, ground := Go.Ground.data }, { on := 1, ground := Go.Ground.chain }], guard := none }) (by kernel_rfl) rfl (fun K hK => ?_)
  go_simp
  have hc := HPASS.out _ _ _ L19
  rw [← HQ21.out] at hc
  refine hc.mono ?_
  clear hc
  rintro e u20 ⟨rfl, g20⟩
  have B120 : Below W0.heap.size W0 u20 := B119.trans (g20.mono B119.size)
  clear g20
  go_wp2_with fail
  refine hK.out _ _ (fun hD => B120) ?_
  clear hK K
  try simp only [Act.put, List.setIfInBounds_toArray, List.set_cons_zero, List.set_cons_succ]
  refine wpAnyD_one (i := 5) (o := { dst := some 57, op := Go.Op.call { callee := Go.Callee.value (Go.Operand.tmp 56), args := #[Go.Operand.const (Go.Value.int Go.IntKind.i64 22)], argTypes := #[3] }, type := 22, pos := "outright.go:37", after := #[{ on := 4, ground := Go.Ground.data }, { on := 3, ground := Go.Ground.chain }], guard := none }) (by kernel_rfl) rfl (fun K hK => ?_)
  go_simp
  refine (HOP.out 22 _ B120).mono ?_
  rintro e u21 ⟨v21, rfl, L21, g21⟩
  have B121 : Below W0.heap.size W0 u21 := B120.trans (g21.below.mono B120.size)
  clear g21
  go_wp2_with fail
  refine hK.out _ _ (fun hD => B121) ?_
  clear hK K
  try simp only [Act.put, List.setIfInBounds_toArray, List.set_cons_zero, List.set_cons_succ]
  refine wpAnyD_one (i := 7) (o := { dst := some 59, op := Go.Op.call { callee := Go.Callee.value (Go.Operand.func 10), args := #[Go.Operand.tmp 57, Go.Operand.tmp 58], argTypes := #[22, 25] }, type := 4, pos := "outright.go:37", after := #[{ on := 5, ground := Go.Ground.data }, { on := 6, ground := Go.Ground.data }, { on := 5, ground := Go.Ground.chain }], guard := none }) (by kernel_rfl) rfl (fun K hK => ?_)
  go_simp
  have hc := HPASS.out _ _ _ L21
  rw [p22, ← HQ21.out] at hc
  refine hc.mono ?_
  clear hc
  rintro e u22 ⟨rfl, g22⟩
  have B122 : Below W0.heap.size W0 u22 := B121.trans (g22.mono B121.size)
  clear g22
  go_wp2_with fail
  refine hK.out _ _ (fun hD => B122) ?_
  clear hK K
  try simp only [Act.put, List.setIfInBounds_toArray, List.set_cons_zero, List.set_cons_succ]
  refine wpAnyD_one (i := 8) (o := { dst := some 60, op := Go.Op.binOp Go.BinOp.neq 4 (Go.Operand.tmp 55) (Go.Operand.tmp 59) 4, type := 4, pos := "outright.go:37", after := #[{ on := 3, ground := Go.Ground.data }, { on := 7, ground := Go.Ground.data }], guard := none }) (by kernel_rfl) rfl (fun K hK => ?_)
  go_simp
  refine hK.out _ _ (fun hD => B122) ?_
  clear hK K
  try simp only [Act.put, List.setIfInBounds_toArray, List.set_cons_zero, List.set_cons_succ]
  refine wpAnyD_one (i := 9) (o := { dst := some 9, op := Go.Op.assign (Go.Operand.tmp 60), type := 4, pos := "outright.go:37", after := #[{ on := 8, ground := Go.Ground.data }, { on := 7, ground := Go.Ground.chain }, { on := 0, ground := Go.Ground.phase }, { on := 1, ground := Go.Ground.phase }, { on := 2, ground := Go.Ground.phase }, { on := 3, ground := Go.Ground.phase }, { on := 4, ground := Go.Ground.phase }, { on := 5, ground := Go.Ground.phase }, { on := 6, ground := Go.Ground.phase }, { on := 7, ground := Go.Ground.phase }, { on := 8, ground := Go.Ground.phase }], guard := none }) (by kernel_rfl) rfl (fun K hK => ?_)
  go_simp
  refine hK.out _ _ (fun hD => B122) ?_
  clear hK K
  try simp only [Act.put, List.setIfInBounds_toArray, List.set_cons_zero, List.set_cons_succ]
  refine wpAnyD_done (by kernel_rfl) ?_ _
  obtain ⟨q24, hq24⟩ : ∃ q, q = passL [⟨24, n⟩] r := ⟨_, rfl⟩
  have HQ24 := hid hq24
  clear hq24
  have hqm : (q24 != !q24) = true := by cases q24 <;> rfl
  go_upto_region 6 with fail
  have B06 : Below W0.heap.size W0 u22.drew := B122.trans ((Gr.refl u22).drew.below.mono B122.size)
  refine wp_regionD (S := (fun W : World => Below W0.heap.size W0 W)) (D := []) hmx ?_
  refine' wpAnyD_take (i := 0) (oi := { dst := some 61, op := Go.Op.move (Go.Operand.tmp 5), type := 36, pos := "outright.go:38", after := #[], guard := none }) (v := _) rfl (by kernel_rfl) (by kernel_rfl) (by kernel_rfl) (fun _ _ _ h => h) (by kernel_rfl) (Or.inl ⟨by rfl, ?hy50⟩) B06 ?rest50
  case hy50 => (intro W hSw; obtain ⟨z0, z1, z2, z3, z4⟩ := LR.out W hSw; go_simp; try (with_reducible rfl))
  try simp only [Act.put, List.setIfInBounds_toArray, List.set_cons_zero, List.set_cons_succ]
  refine' wpAnyD_take (i := 4) (oi := { dst := some 65, op := Go.Op.move (Go.Operand.tmp 5), type := 36, pos := "outright.go:38", after := #[], guard := none }) (v := _) rfl (by kernel_rfl) (by kernel_rfl) (by kernel_rfl) (fun _ _ _ h => h) (by kernel_rfl) (Or.inl ⟨by rfl, ?hy51⟩) B06 ?rest51
  case hy51 => (intro W hSw; obtain ⟨z0, z1, z2, z3, z4⟩ := LR.out W hSw; go_simp; try (with_reducible rfl))
  try simp only [Act.put, List.setIfInBounds_toArray, List.set_cons_zero, List.set_cons_succ]
  refine' wpAnyD_take (i := 2) (oi := { dst := some 63, op := Go.Op.load 25 (Go.Operand.tmp 3), type := 25, pos := "outright.go:38", after := #[], guard := none }) (v := _) rfl (by kernel_rfl) (by kernel_rfl) (by kernel_rfl) (fun _ _ _ h => h) (by kernel_rfl) (Or.inl ⟨by rfl, ?hy52⟩) B06 ?rest52
  case hy52 => (intro W hSw; obtain ⟨z0, z1, z2, z3, z4⟩ := LR.out W hSw; go_simp; try (with_reducible rfl))
  try simp only [Act.put, List.setIfInBounds_toArray, List.set_cons_zero, List.set_cons_succ]
  refine' wpAnyD_take (i := 6) (oi := { dst := some 67, op := Go.Op.load 25 (Go.Operand.tmp 3), type := 25, pos := "outright.go:38", after := #[], guard := none }) (v := _) rfl (by kernel_rfl) (by kernel_rfl) (by kernel_rfl) (fun _ _ _ h => h) (by kernel_rfl) (Or.inl ⟨by rfl, ?hy53⟩) B06 ?rest53
  case hy53 => (intro W hSw; obtain ⟨z0, z1, z2, z3, z4⟩ := LR.out W hSw; go_simp; try (with_reducible rfl))
  try simp only [Act.put, List.setIfInBounds_toArray, List.set_cons_zero, List.set_cons_succ]
  refine wpAnyD_one (i := 1) (o := { dst := some 62, op := Go.Op.call { callee := Go.Callee.value (Go.Operand.tmp 61), args := #[Go.Operand.const (Go.Value.int Go.IntKind.i64 24)], argTypes := #[3] }, type := 22, pos := "outright.go:38", after := #[{ on := 0, ground := Go.Ground.data }], guard := none }) (by kernel_rfl) rfl (fun K hK => ?_)
  go_simp
  refine (HOP.out 24 _ B06).mono ?_
  rintro e u23 ⟨v23, rfl, L23, g23⟩
  have B123 : Below W0.heap.size W0 u23 := B06.trans (g23.below.mono B06.size)
  clear g23
  go_wp2_with fail
  refine hK.out _ _ (fun hD => B123) ?_
  clear hK K
  try simp only [Act.put, List.setIfInBounds_toArray, List.set_cons_zero, List.set_cons_succ]
  refine wpAnyD_one (i := 3) (o := { dst := some 64, op := Go.Op.call { callee := Go.Callee.value (Go.Operand.func 10), args := #[Go.Operand.tmp 62, Go.Operand.tmp 63], argTypes := #[22, 25] }, type := 4, pos := "outright.go:38", after := #[{ on := 1, ground := Go.Ground.data }, { on := 2, ground := Go.Ground.data }, { on := 1, ground := Go.Ground.chain }], guard := none }) (by kernel_rfl) rfl (fun K hK => ?_)
  go_simp
  have hc := HPASS.out _ _ _ L23
  rw [← HQ24.out] at hc
  refine hc.mono ?_
  clear hc
  rintro e u24 ⟨rfl, g24⟩
  have B124 : Below W0.heap.size W0 u24 := B123.trans (g24.mono B123.size)
  clear g24
  go_wp2_with fail
  refine hK.out _ _ (fun hD => B124) ?_
  clear hK K
  try simp only [Act.put, List.setIfInBounds_toArray, List.set_cons_zero, List.set_cons_succ]
  refine wpAnyD_one (i := 5) (o := { dst := some 66, op := Go.Op.call { callee := Go.Callee.value (Go.Operand.tmp 65), args := #[Go.Operand.const (Go.Value.int Go.IntKind.i64 25)], argTypes := #[3] }, type := 22, pos := "outright.go:38", after := #[{ on := 4, ground := Go.Ground.data }, { on := 3, ground := Go.Ground.chain }], guard := none }) (by kernel_rfl) rfl (fun K hK => ?_)
  go_simp
  refine (HOP.out 25 _ B124).mono ?_
  rintro e u25 ⟨v25, rfl, L25, g25⟩
  have B125 : Below W0.heap.size W0 u25 := B124.trans (g25.below.mono B124.size)
  clear g25
  go_wp2_with fail
  refine hK.out _ _ (fun hD => B125) ?_
  clear hK K
  try simp only [Act.put, List.setIfInBounds_toArray, List.set_cons_zero, List.set_cons_succ]
  refine wpAnyD_one (i := 7) (o := { dst := some 68, op := Go.Op.call { callee := Go.Callee.value (Go.Operand.func 10), args := #[Go.Operand.tmp 66, Go.Operand.tmp 67], argTypes := #[22, 25] }, type := 4, pos := "outright.go:38", after := #[{ on := 5, ground := Go.Ground.data }, { on := 6, ground := Go.Ground.data }, { on := 5, ground := Go.Ground.chain }], guard := none }) (by kernel_rfl) rfl (fun K hK => ?_)
  go_simp
  have hc := HPASS.out _ _ _ L25
  rw [p25, ← HQ24.out] at hc
  refine hc.mono ?_
  clear hc
  rintro e u26 ⟨rfl, g26⟩
  have B126 : Below W0.heap.size W0 u26 := B125.trans (g26.mono B125.size)
  clear g26
  go_wp2_with fail
  refine hK.out _ _ (fun hD => B126) ?_
  clear hK K
  try simp only [Act.put, List.setIfInBounds_toArray, List.set_cons_zero, List.set_cons_succ]
  refine wpAnyD_one (i := 8) (o := { dst := some 69, op := Go.Op.binOp Go.BinOp.neq 4 (Go.Operand.tmp 64) (Go.Operand.tmp 68) 4, type := 4, pos := "outright.go:38", after := #[{ on := 3, ground := Go.Ground.data }, { on := 7, ground := Go.Ground.data }], guard := none }) (by kernel_rfl) rfl (fun K hK => ?_)
  go_simp
  refine hK.out _ _ (fun hD => B126) ?_
  clear hK K
  try simp only [Act.put, List.setIfInBounds_toArray, List.set_cons_zero, List.set_cons_succ]
  refine wpAnyD_one (i := 9) (o := { dst := some 10, op := Go.Op.assign (Go.Operand.tmp 69), type := 4, pos := "outright.go:38", after := #[{ on := 8, ground := Go.Ground.data }, { on := 7, ground := Go.Ground.chain }, { on := 0, ground := Go.Ground.phase }, { on := 1, ground := Go.Ground.phase }, { on := 2, ground := Go.Ground.phase }, { on := 3, ground := Go.Ground.phase }, { on := 4, ground := Go.Ground.phase }, { on := 5, ground := Go.Ground.phase }, { on := 6, ground := Go.Ground.phase }, { on := 7, ground := Go.Ground.phase }, { on := 8, ground := Go.Ground.phase }], guard := none }) (by kernel_rfl) rfl (fun K hK => ?_)
  go_simp
  refine hK.out _ _ (fun hD => B126) ?_
  clear hK K
  try simp only [Act.put, List.setIfInBounds_toArray, List.set_cons_zero, List.set_cons_succ]
  refine wpAnyD_done (by kernel_rfl) ?_ _
  go_upto_region 8 with fail
  obtain ⟨U1, hU1⟩ : ∃ U1, U1 = u26.alloc (.cells #[.int .i64 7, .int .u64 0, .int .i64 7, .int .u64 0] 35) := ⟨_, rfl⟩
  have g1 : Gr u26 U1 := by rw [hU1]; exact (Gr.refl _).alloc _
  have LT : Ls EO U1 (.slice (some ⟨u26.heap.size, 0, none⟩) 2 2) [⟨7, 0⟩, ⟨7, 0⟩] := by rw [hU1]; exact ls_new2 _ _ _ _ _
  obtain ⟨tb, htb⟩ : ∃ tb, tb = u26.heap.size := ⟨_, rfl⟩
  rw [← hU1, ← htb]
  rw [← htb] at LT
  have BU1 : Below W0.heap.size W0 U1 := B126.trans (g1.below.mono B126.size)
  clear hU1 htb g1
  obtain ⟨z0, z1, z2, z3, z4⟩ := LR.out U1 BU1
  go_wp2_with fail
  have L8 := ls_new1 U1 8 0
  have g2 := (Gr.refl U1).alloc (.cells #[.int .i64 8, .int .u64 0] 35)
  have hc := HMAP.out _ _ _ (HO3.out 8) L8
  rw [m8] at hc
  refine hc.mono ?_
  clear hc L8
  rintro e u50 ⟨rfl, g3⟩
  have g4 : Below U1.heap.size U1 u50 := g2.below.trans (g3.mono g2.size)
  have LT2 := LT.below g4
  have BU2 : Below W0.heap.size W0 u50 := BU1.trans (g4.mono BU1.size)
  clear g2 g3 g4 LT BU1 z0 z1 z2 z3 z4
  go_upto_region 9 with fail
  obtain ⟨U3, hU3⟩ : ∃ U3, U3 = u50.alloc (.cells #[.int .u64 r.key, .int .u64 (IntKind.u64.wrap (r.val + r.key))] 25) := ⟨_, rfl⟩
  have g5 : Gr u50 U3 := by rw [hU3]; exact (Gr.refl _).alloc _
  have KX : U3.heap[u50.heap.size]? = some (.cells #[.int .u64 r.key, .int .u64 (IntKind.u64.wrap (r.val + r.key))] 25 (0, 0)) := by rw [hU3]; exact heap_new' _ _
  obtain ⟨xb, hxb⟩ : ∃ xb, xb = u50.heap.size := ⟨_, rfl⟩
  rw [← hU3, ← hxb]
  rw [← hxb] at KX
  have LT3 := LT2.below g5.below
  have BU3 : Below W0.heap.size W0 U3 := BU2.trans (g5.below.mono BU2.size)
  have HX := hid (And.intro LT3 KX)
  clear hU3 hxb g5 LT2 BU2 LT3 KX
  have HC3 := hid BU3
  have B09 : Below W0.heap.size W0 U3.drew := BU3.trans ((Gr.refl U3).drew.below.mono BU3.size)
  refine wp_regionD (S := (fun W : World => Below W0.heap.size W0 W)) (D := []) hmx ?_
  refine' wpAnyD_take (i := 0) (oi := { dst := some 77, op := Go.Op.build 35 #[(0, Go.Operand.const (Go.Value.int Go.IntKind.i64 28))], type := 35, pos := "outright.go:41", after := #[], guard := none }) (v := _) rfl (by kernel_rfl) (by kernel_rfl) (by kernel_rfl) (fun _ _ _ h => h) (by kernel_rfl) (Or.inl ⟨by rfl, ?hy60⟩) B09 ?rest60
  case hy60 => (intro W hSw; obtain ⟨z0, z1, z2, z3, z4⟩ := LR.out W hSw; go_simp; try (with_reducible rfl))
  try simp only [Act.put, List.setIfInBounds_toArray, List.set_cons_zero, List.set_cons_succ]
  refine' wpAnyD_take (i := 2) (oi := { dst := some 79, op := Go.Op.load 25 (Go.Operand.tmp 3), type := 25, pos := "outright.go:41", after := #[], guard := none }) (v := _) rfl (by kernel_rfl) (by kernel_rfl) (by kernel_rfl) (fun _ _ _ h => h) (by kernel_rfl) (Or.inl ⟨by rfl, ?hy61⟩) B09 ?rest61
  case hy61 => (intro W hSw; obtain ⟨z0, z1, z2, z3, z4⟩ := LR.out W hSw; go_simp; try (with_reducible rfl))
  try simp only [Act.put, List.setIfInBounds_toArray, List.set_cons_zero, List.set_cons_succ]
  refine' wpAnyD_take (i := 4) (oi := { dst := some 81, op := Go.Op.fieldAddr 25 (Go.Operand.tmp 3) 0, type := 0, pos := "outright.go:41", after := #[], guard := none }) (v := _) rfl (by kernel_rfl) (by kernel_rfl) (by kernel_rfl) (fun _ _ _ h => h) (by kernel_rfl) (Or.inl ⟨by rfl, ?hy62⟩) B09 ?rest62
  case hy62 => (intro W hSw; obtain ⟨z0, z1, z2, z3, z4⟩ := LR.out W hSw; go_simp; try (with_reducible rfl))
  try simp only [Act.put, List.setIfInBounds_toArray, List.set_cons_zero, List.set_cons_succ]
  refine' wpAnyD_take (i := 5) (oi := { dst := some 82, op := Go.Op.load 23 (Go.Operand.tmp 81), type := 23, pos := "outright.go:41", after := #[{ on := 4, ground := Go.Ground.data }], guard := none }) (v := _) rfl (by kernel_rfl) (by kernel_rfl) (by kernel_rfl) (fun _ _ _ h => h) (by kernel_rfl) (Or.inl ⟨by rfl, ?hy63⟩) B09 ?rest63
  case hy63 => (intro W hSw; obtain ⟨z0, z1, z2, z3, z4⟩ := LR.out W hSw; go_simp; try (with_reducible rfl))
  try simp only [Act.put, List.setIfInBounds_toArray, List.set_cons_zero, List.set_cons_succ]
  refine' wpAnyD_take (i := 6) (oi := { dst := some 83, op := Go.Op.fieldAddr 25 (Go.Operand.tmp 3) 1, type := 0, pos := "outright.go:41", after := #[], guard := none }) (v := _) rfl (by kernel_rfl) (by kernel_rfl) (by kernel_rfl) (fun _ _ _ h => h) (by kernel_rfl) (Or.inl ⟨by rfl, ?hy64⟩) B09 ?rest64
  case hy64 => (intro W hSw; obtain ⟨z0, z1, z2, z3, z4⟩ := LR.out W hSw; go_simp; try (with_reducible rfl))
  try simp only [Act.put, List.setIfInBounds_toArray, List.set_cons_zero, List.set_cons_succ]
  refine' wpAnyD_take (i := 7) (oi := { dst := some 84, op := Go.Op.load 23 (Go.Operand.tmp 83), type := 23, pos := "outright.go:41", after := #[{ on := 6, ground := Go.Ground.data }], guard := none }) (v := _) rfl (by kernel_rfl) (by kernel_rfl) (by kernel_rfl) (fun _ _ _ h => h) (by kernel_rfl) (Or.inl ⟨by rfl, ?hy65⟩) B09 ?rest65
  case hy65 => (intro W hSw; obtain ⟨z0, z1, z2, z3, z4⟩ := LR.out W hSw; go_simp; try (with_reducible rfl))
  try simp only [Act.put, List.setIfInBounds_toArray, List.set_cons_zero, List.set_cons_succ]
  refine' wpAnyD_take (i := 8) (oi := { dst := some 85, op := Go.Op.binOp Go.BinOp.eql 23 (Go.Operand.tmp 82) (Go.Operand.tmp 84) 23, type := 4, pos := "outright.go:41", after := #[{ on := 5, ground := Go.Ground.data }, { on := 7, ground := Go.Ground.data }], guard := none }) (v := _) rfl (by kernel_rfl) (by kernel_rfl) (by kernel_rfl) (fun _ _ _ h => h) (by kernel_rfl) (Or.inl ⟨by rfl, ?hy66⟩) B09 ?rest66
  case hy66 => (intro W hSw; obtain ⟨z0, z1, z2, z3, z4⟩ := LR.out W hSw; go_simp; try (with_reducible rfl))
  try simp only [Act.put, List.setIfInBounds_toArray, List.set_cons_zero, List.set_cons_succ]
  refine wpAnyD_one (i := 1) (o := { dst := some 78, op := Go.Op.buildSlice 22 1 #[(0, Go.Operand.tmp 77)], type := 22, pos := "outright.go:41", after := #[{ on := 0, ground := Go.Ground.data }], guard := none }) (by kernel_rfl) rfl (fun K hK => ?_)
  go_simp
  have g27 : Gr U3 ((U3.alloc (.cells #[.int .i64 28, .int .u64 0] 35)).drew) := ((Gr.refl U3).alloc _).drew
  have L27 : Ls EO ((U3.alloc (.cells #[.int .i64 28, .int .u64 0] 35)).drew) (.slice (some ⟨U3.heap.size, 0, none⟩) 1 1) [⟨28, 0⟩] := (ls_new1 U3 28 0).below ((Gr.refl _).drew.below)
  have B127 : Below W0.heap.size W0 ((U3.alloc (.cells #[.int .i64 28, .int .u64 0] 35)).drew) := BU3.trans (g27.below.mono BU3.size)
  have Y27 := g27.below
  clear g27
  generalize (U3.alloc (.cells #[.int .i64 28, .int .u64 0] 35)).drew = u27 at *
  refine hK.out _ _ (fun hD => B127) ?_
  clear hK K
  try simp only [Act.put, List.setIfInBounds_toArray, List.set_cons_zero, List.set_cons_succ]
  refine wpAnyD_one (i := 3) (o := { dst := some 80, op := Go.Op.call { callee := Go.Callee.value (Go.Operand.func 10), args := #[Go.Operand.tmp 78, Go.Operand.tmp 79], argTypes := #[22, 25] }, type := 4, pos := "outright.go:41", after := #[{ on := 1, ground := Go.Ground.data }, { on := 2, ground := Go.Ground.data }], guard := none }) (by kernel_rfl) rfl (fun K hK => ?_)
  go_simp
  have hc := HPASS.out _ _ _ L27
  rw [p28] at hc
  refine hc.mono ?_
  clear hc
  rintro e u28 ⟨rfl, g28⟩
  have B128 : Below W0.heap.size W0 u28 := B127.trans (g28.mono B127.size)
  have Y28 : Below U3.heap.size U3 u28 := Y27.trans (g28.mono Y27.size)
  clear g28
  go_wp2_with fail
  refine hK.out _ _ (fun hD => B128) ?_
  clear hK K
  try simp only [Act.put, List.setIfInBounds_toArray, List.set_cons_zero, List.set_cons_succ]
  refine wpAnyD_one (i := 9) (o := { dst := some 86, op := Go.Op.binOp Go.BinOp.eql 4 (Go.Operand.tmp 80) (Go.Operand.tmp 85) 4, type := 4, pos := "outright.go:41", after := #[{ on := 3, ground := Go.Ground.data }, { on := 8, ground := Go.Ground.data }], guard := none }) (by kernel_rfl) rfl (fun K hK => ?_)
  go_simp
  refine hK.out _ _ (fun hD => B128) ?_
  clear hK K
  try simp only [Act.put, List.setIfInBounds_toArray, List.set_cons_zero, List.set_cons_succ]
  refine wpAnyD_one (i := 10) (o := { dst := some 13, op := Go.Op.assign (Go.Operand.tmp 86), type := 4, pos := "outright.go:41", after := #[{ on := 9, ground := Go.Ground.data }, { on := 3, ground := Go.Ground.chain }, { on := 0, ground := Go.Ground.phase }, { on := 1, ground := Go.Ground.phase }, { on := 2, ground := Go.Ground.phase }, { on := 3, ground := Go.Ground.phase }, { on := 4, ground := Go.Ground.phase }, { on := 5, ground := Go.Ground.phase }, { on := 6, ground := Go.Ground.phase }, { on := 7, ground := Go.Ground.phase }, { on := 8, ground := Go.Ground.phase }, { on := 9, ground := Go.Ground.phase }], guard := none }) (by kernel_rfl) rfl (fun K hK => ?_)
  go_simp
  refine hK.out _ _ (fun hD => B128) ?_
  clear hK K
  try simp only [Act.put, List.setIfInBounds_toArray, List.set_cons_zero, List.set_cons_succ]
  refine wpAnyD_done (by kernel_rfl) ?_ _
  have BY := hid Y28
  have HU : Hid (Ls EO u28 (.slice (some ⟨tb, 0, none⟩) 2 2) [⟨7, 0⟩, ⟨7, 0⟩] ∧ u28.heap[xb]? = some (.cells #[.int .u64 r.key, .int .u64 (IntKind.u64.wrap (r.val + r.key))] 25 (0, 0))) := ⟨HX.out.1.below BY.out, (BY.out.block xb (blk_at HX.out.2).1).trans HX.out.2⟩
  go_upto_region 10 with fail
  go_cut [14] from 87 to 97 (fun s14 w' => s14 = .bool true ∧ Hid (Below u28.heap.size u28 w'))
  case first =>
    by_cases hn0 : n = 0
    · have hnb : (n == 0) = true := by simpa using hn0
      clear hn0
      have BD : Below W0.heap.size W0 u28.drew := B128.trans ((Gr.refl u28).drew.below.mono B128.size)
      refine wp_regionD (S := (fun W : World => Below W0.heap.size W0 W)) (D := []) hmx ?_
      refine' wpAnyD_take (i := 0) (oi := { dst := some 87, op := Go.Op.load 23 (Go.Operand.tmp 2), type := 23, pos := "outright.go:42", after := #[], guard := none }) (v := _) rfl (by kernel_rfl) (by kernel_rfl) (by kernel_rfl) (fun _ _ _ h => h) (by kernel_rfl) (Or.inl ⟨by rfl, ?hy71⟩) BD ?rest71
      case hy71 => (intro W hSw; obtain ⟨z0, z1, z2, z3, z4⟩ := LR.out W hSw; go_simp; try (with_reducible rfl))
      try simp only [Act.put, List.setIfInBounds_toArray, List.set_cons_zero, List.set_cons_succ]
      refine' wpAnyD_take (i := 1) (oi := { dst := some 88, op := Go.Op.binOp Go.BinOp.eql 23 (Go.Operand.tmp 87) (Go.Operand.const (Go.Value.int Go.IntKind.u64 0)) 23, type := 4, pos := "outright.go:42", after := #[{ on := 0, ground := Go.Ground.data }], guard := none }) (v := .bool true) rfl (by kernel_rfl) (by kernel_rfl) (by kernel_rfl) (fun _ _ _ h => h) (by kernel_rfl) (Or.inl ⟨by rfl, ?hy72⟩) BD ?rest72
      case hy72 => (intro W hSw; obtain ⟨z0, z1, z2, z3, z4⟩ := LR.out W hSw; go_simp; try (with_reducible rfl))
      try simp only [Act.put, List.setIfInBounds_toArray, List.set_cons_zero, List.set_cons_succ]
      refine' wpAnyD_take (i := 2) (oi := { dst := some 89, op := Go.Op.move (Go.Operand.tmp 88), type := 4, pos := "outright.go:42", after := #[{ on := 1, ground := Go.Ground.data }], guard := none }) (v := _) rfl (by kernel_rfl) (by kernel_rfl) (by kernel_rfl) (fun _ _ _ h => h) (by kernel_rfl) (Or.inl ⟨by rfl, ?hy73⟩) BD ?rest73
      case hy73 => (intro W hSw; obtain ⟨z0, z1, z2, z3, z4⟩ := LR.out W hSw; go_simp; try (with_reducible rfl))
      try simp only [Act.put, List.setIfInBounds_toArray, List.set_cons_zero, List.set_cons_succ]
      refine' wpAnyD_take (i := 3) (oi := { dst := some 90, op := Go.Op.move (Go.Operand.tmp 5), type := 36, pos := "outright.go:42", after := #[{ on := 2, ground := Go.Ground.guard }], guard := some (2, false) }) (v := undef) rfl (by kernel_rfl) (by kernel_rfl) (by kernel_rfl) (fun _ _ _ h => h) (by kernel_rfl) (Or.inr ⟨by rfl, rfl⟩) BD ?rest74
      try simp only [Act.put, List.setIfInBounds_toArray, List.set_cons_zero, List.set_cons_succ]
      refine' wpAnyD_take (i := 5) (oi := { dst := some 92, op := Go.Op.load 25 (Go.Operand.tmp 3), type := 25, pos := "outright.go:42", after := #[{ on := 2, ground := Go.Ground.guard }], guard := some (2, false) }) (v := undef) rfl (by kernel_rfl) (by kernel_rfl) (by kernel_rfl) (fun _ _ _ h => h) (by kernel_rfl) (Or.inr ⟨by rfl, rfl⟩) BD ?rest75
      try simp only [Act.put, List.setIfInBounds_toArray, List.set_cons_zero, List.set_cons_succ]
      refine' wpAnyD_take (i := 8) (oi := { dst := some 95, op := Go.Op.load 23 (Go.Operand.tmp 2), type := 23, pos := "outright.go:42", after := #[{ on := 2, ground := Go.Ground.guard }], guard := some (2, false) }) (v := undef) rfl (by kernel_rfl) (by kernel_rfl) (by kernel_rfl) (fun _ _ _ h => h) (by kernel_rfl) (Or.inr ⟨by rfl, rfl⟩) BD ?rest76
      try simp only [Act.put, List.setIfInBounds_toArray, List.set_cons_zero, List.set_cons_succ]
      refine wpAnyD_one (i := 4) (o := { dst := some 91, op := Go.Op.call { callee := Go.Callee.value (Go.Operand.tmp 90), args := #[Go.Operand.const (Go.Value.int Go.IntKind.i64 3)], argTypes := #[3] }, type := 22, pos := "outright.go:42", after := #[{ on := 3, ground := Go.Ground.data }, { on := 2, ground := Go.Ground.chain }, { on := 2, ground := Go.Ground.guard }], guard := some (2, false) }) (by kernel_rfl) rfl (fun K hK => ?_)
      rw [if_neg (Bool.eq_false_iff.1 (by kernel_rfl))]
      refine hK.out _ _ (fun hD => BD) ?_
      clear hK K
      try simp only [Act.put, List.setIfInBounds_toArray, List.set_cons_zero, List.set_cons_succ]
      refine wpAnyD_one (i := 6) (o := { dst := some 93, op := Go.Op.call { callee := Go.Callee.value (Go.Operand.func 9), args := #[Go.Operand.tmp 91, Go.Operand.tmp 92], argTypes := #[22, 25] }, type := 25, pos := "outright.go:42", after := #[{ on := 4, ground := Go.Ground.data }, { on := 5, ground := Go.Ground.data }, { on := 4, ground := Go.Ground.chain }, { on := 2, ground := Go.Ground.guard }], guard := some (2, false) }) (by kernel_rfl) rfl (fun K hK => ?_)
      rw [if_neg (Bool.eq_false_iff.1 (by kernel_rfl))]
      refine hK.out _ _ (fun hD => BD) ?_
      clear hK K
      try simp only [Act.put, List.setIfInBounds_toArray, List.set_cons_zero, List.set_cons_succ]
      refine' wpAnyD_take (i := 7) (oi := { dst := some 94, op := Go.Op.field 25 (Go.Operand.tmp 93) 0, type := 23, pos := "outright.go:42", after := #[{ on := 6, ground := Go.Ground.data }, { on := 2, ground := Go.Ground.guard }], guard := some (2, false) }) (v := undef) rfl (by kernel_rfl) (by kernel_rfl) (by kernel_rfl) (fun _ _ _ h => h) (by kernel_rfl) (Or.inr ⟨by rfl, rfl⟩) BD ?rest79
      try simp only [Act.put, List.setIfInBounds_toArray, List.set_cons_zero, List.set_cons_succ]
      refine' wpAnyD_take (i := 9) (oi := { dst := some 96, op := Go.Op.binOp Go.BinOp.lss 23 (Go.Operand.tmp 94) (Go.Operand.tmp 95) 23, type := 4, pos := "outright.go:42", after := #[{ on := 7, ground := Go.Ground.data }, { on := 8, ground := Go.Ground.data }, { on := 2, ground := Go.Ground.guard }], guard := some (2, false) }) (v := undef) rfl (by kernel_rfl) (by kernel_rfl) (by kernel_rfl) (fun _ _ _ h => h) (by kernel_rfl) (Or.inr ⟨by rfl, rfl⟩) BD ?rest80
      try simp only [Act.put, List.setIfInBounds_toArray, List.set_cons_zero, List.set_cons_succ]
      refine' wpAnyD_take (i := 10) (oi := { dst := some 97, op := Go.Op.pick (Go.Operand.tmp 89) (Go.Operand.const (Go.Value.bool true)) (Go.Operand.tmp 96), type := 4, pos := "outright.go:42", after := #[{ on := 2, ground := Go.Ground.data }, { on := 9, ground := Go.Ground.data }], guard := none }) (v := _) rfl (by kernel_rfl) (by kernel_rfl) (by kernel_rfl) (fun _ _ _ h => h) (by kernel_rfl) (Or.inl ⟨by rfl, ?hy81⟩) BD ?rest81
      case hy81 => (intro W hSw; obtain ⟨z0, z1, z2, z3, z4⟩ := LR.out W hSw; go_simp; try (with_reducible rfl))
      try simp only [Act.put, List.setIfInBounds_toArray, List.set_cons_zero, List.set_cons_succ]
      refine wpAnyD_one (i := 11) (o := { dst := some 14, op := Go.Op.assign (Go.Operand.tmp 97), type := 4, pos := "outright.go:42", after := #[{ on := 10, ground := Go.Ground.data }, { on := 6, ground := Go.Ground.chain }, { on := 0, ground := Go.Ground.phase }, { on := 1, ground := Go.Ground.phase }, { on := 2, ground := Go.Ground.phase }, { on := 3, ground := Go.Ground.phase }, { on := 4, ground := Go.Ground.phase }, { on := 5, ground := Go.Ground.phase }, { on := 6, ground := Go.Ground.phase }, { on := 7, ground := Go.Ground.phase }, { on := 8, ground := Go.Ground.phase }, { on := 9, ground := Go.Ground.phase }, { on := 10, ground := Go.Ground.phase }], guard := none }) (by kernel_rfl) rfl (fun K hK => ?_)
      go_simp
      refine hK.out _ _ (fun hD => BD) ?_
      clear hK K
      try simp only [Act.put, List.setIfInBounds_toArray, List.set_cons_zero, List.set_cons_succ]
      refine wpAnyD_done (by kernel_rfl) ?_ _
      go_wp2_with fail
      go_meet
      exact ⟨rfl, (Gr.refl _).drew.below⟩
    · have hnb : (n == 0) = false := by simpa using hn0
      have hlt : r.key % n < n := Int.emod_lt_of_pos _ (by have := HN.out; omega)
      have HM3 := hid (m3 hn0 r)
      clear hn0
      have BD : Below W0.heap.size W0 u28.drew := B128.trans ((Gr.refl u28).drew.below.mono B128.size)
      refine wp_regionD (S := (fun W : World => Below W0.heap.size W0 W)) (D := []) hmx ?_
      refine' wpAnyD_take (i := 0) (oi := { dst := some 87, op := Go.Op.load 23 (Go.Operand.tmp 2), type := 23, pos := "outright.go:42", after := #[], guard := none }) (v := _) rfl (by kernel_rfl) (by kernel_rfl) (by kernel_rfl) (fun _ _ _ h => h) (by kernel_rfl) (Or.inl ⟨by rfl, ?hy83⟩) BD ?rest83
      case hy83 => (intro W hSw; obtain ⟨z0, z1, z2, z3, z4⟩ := LR.out W hSw; go_simp; try (with_reducible rfl))
      try simp only [Act.put, List.setIfInBounds_toArray, List.set_cons_zero, List.set_cons_succ]
      refine' wpAnyD_take (i := 1) (oi := { dst := some 88, op := Go.Op.binOp Go.BinOp.eql 23 (Go.Operand.tmp 87) (Go.Operand.const (Go.Value.int Go.IntKind.u64 0)) 23, type := 4, pos := "outright.go:42", after := #[{ on := 0, ground := Go.Ground.data }], guard := none }) (v := .bool false) rfl (by kernel_rfl) (by kernel_rfl) (by kernel_rfl) (fun _ _ _ h => h) (by kernel_rfl) (Or.inl ⟨by rfl, ?hy84⟩) BD ?rest84
      case hy84 => (intro W hSw; obtain ⟨z0, z1, z2, z3, z4⟩ := LR.out W hSw; go_simp; try (with_reducible rfl))
      try simp only [Act.put, List.setIfInBounds_toArray, List.set_cons_zero, List.set_cons_succ]
      refine' wpAnyD_take (i := 2) (oi := { dst := some 89, op := Go.Op.move (Go.Operand.tmp 88), type := 4, pos := "outright.go:42", after := #[{ on := 1, ground := Go.Ground.data }], guard := none }) (v := _) rfl (by kernel_rfl) (by kernel_rfl) (by kernel_rfl) (fun _ _ _ h => h) (by kernel_rfl) (Or.inl ⟨by rfl, ?hy85⟩) BD ?rest85
      case hy85 => (intro W hSw; obtain ⟨z0, z1, z2, z3, z4⟩ := LR.out W hSw; go_simp; try (with_reducible rfl))
      try simp only [Act.put, List.setIfInBounds_toArray, List.set_cons_zero, List.set_cons_succ]
      refine' wpAnyD_take (i := 3) (oi := { dst := some 90, op := Go.Op.move (Go.Operand.tmp 5), type := 36, pos := "outright.go:42", after := #[{ on := 2, ground := Go.Ground.guard }], guard := some (2, false) }) (v := _) rfl (by kernel_rfl) (by kernel_rfl) (by kernel_rfl) (fun _ _ _ h => h) (by kernel_rfl) (Or.inl ⟨by rfl, ?hy86⟩) BD ?rest86
      case hy86 => (intro W hSw; obtain ⟨z0, z1, z2, z3, z4⟩ := LR.out W hSw; go_simp; try (with_reducible rfl))
      try simp only [Act.put, List.setIfInBounds_toArray, List.set_cons_zero, List.set_cons_succ]
      refine' wpAnyD_take (i := 5) (oi := { dst := some 92, op := Go.Op.load 25 (Go.Operand.tmp 3), type := 25, pos := "outright.go:42", after := #[{ on := 2, ground := Go.Ground.guard }], guard := some (2, false) }) (v := _) rfl (by kernel_rfl) (by kernel_rfl) (by kernel_rfl) (fun _ _ _ h => h) (by kernel_rfl) (Or.inl ⟨by rfl, ?hy87⟩) BD ?rest87
      case hy87 => (intro W hSw; obtain ⟨z0, z1, z2, z3, z4⟩ := LR.out W hSw; go_simp; try (with_reducible rfl))
      try simp only [Act.put, List.setIfInBounds_toArray, List.set_cons_zero, List.set_cons_succ]
      refine' wpAnyD_take (i := 8) (oi := { dst := some 95, op := Go.Op.load 23 (Go.Operand.tmp 2), type := 23, pos := "outright.go:42", after := #[{ on := 2, ground := Go.Ground.guard }], guard := some (2, false) }) (v := _) rfl (by kernel_rfl) (by kernel_rfl) (by kernel_rfl) (fun _ _ _ h => h) (by kernel_rfl) (Or.inl ⟨by rfl, ?hy88⟩) BD ?rest88
      case hy88 => (intro W hSw; obtain ⟨z0, z1, z2, z3, z4⟩ := LR.out W hSw; go_simp; try (with_reducible rfl))
      try simp only [Act.put, List.setIfInBounds_toArray, List.set_cons_zero, List.set_cons_succ]
      refine wpAnyD_one (i := 4) (o := { dst := some 91, op := Go.Op.call { callee := Go.Callee.value (Go.Operand.tmp 90), args := #[Go.Operand.const (Go.Value.int Go.IntKind.i64 3)], argTypes := #[3] }, type := 22, pos := "outright.go:42", after := #[{ on := 3, ground := Go.Ground.data }, { on := 2, ground := Go.Ground.chain }, { on := 2, ground := Go.Ground.guard }], guard := some (2, false) }) (by kernel_rfl) rfl (fun K hK => ?_)
      rw [if_pos (by kernel_rfl)]
      go_simp
      refine (HOP.out 3 _ BD).mono ?_
      rintro e y1 ⟨x1, rfl, M1, k1⟩
      have BY1 : Below W0.heap.size W0 y1 := BD.trans (k1.below.mono BD.size)
      have BZ1 : Below u28.heap.size u28 y1 := (Gr.refl _).drew.below.trans k1.below
      clear k1
      go_wp2_with fail
      refine hK.out _ _ (fun hD => BY1) ?_
      clear hK K
      try simp only [Act.put, List.setIfInBounds_toArray, List.set_cons_zero, List.set_cons_succ]
      refine wpAnyD_one (i := 6) (o := { dst := some 93, op := Go.Op.call { callee := Go.Callee.value (Go.Operand.func 9), args := #[Go.Operand.tmp 91, Go.Operand.tmp 92], argTypes := #[22, 25] }, type := 25, pos := "outright.go:42", after := #[{ on := 4, ground := Go.Ground.data }, { on := 5, ground := Go.Ground.data }, { on := 4, ground := Go.Ground.chain }, { on := 2, ground := Go.Ground.guard }], guard := some (2, false) }) (by kernel_rfl) rfl (fun K hK => ?_)
      rw [if_pos (by kernel_rfl)]
      go_simp
      have hc := HMAP.out _ _ _ (HO1.out 3) M1
      rw [HM3.out] at hc
      refine hc.mono ?_
      clear hc
      rintro e y2 ⟨rfl, k2⟩
      have BY2 : Below W0.heap.size W0 y2 := BY1.trans (k2.mono BY1.size)
      have HZ2 : Hid (Below u28.heap.size u28 y2) := BZ1.trans (k2.mono BZ1.size)
      clear k2 BZ1
      go_wp2_with fail
      refine hK.out _ _ (fun hD => BY2) ?_
      clear hK K
      try simp only [Act.put, List.setIfInBounds_toArray, List.set_cons_zero, List.set_cons_succ]
      refine wpAnyD_one (i := 7) (o := { dst := some 94, op := Go.Op.field 25 (Go.Operand.tmp 93) 0, type := 23, pos := "outright.go:42", after := #[{ on := 6, ground := Go.Ground.data }, { on := 2, ground := Go.Ground.guard }], guard := some (2, false) }) (by kernel_rfl) rfl (fun K hK => ?_)
      rw [if_pos (by kernel_rfl)]
      go_simp
      refine hK.out _ _ (fun hD => BY2) ?_
      clear hK K
      try simp only [Act.put, List.setIfInBounds_toArray, List.set_cons_zero, List.set_cons_succ]
      refine wpAnyD_one (i := 9) (o := { dst := some 96, op := Go.Op.binOp Go.BinOp.lss 23 (Go.Operand.tmp 94) (Go.Operand.tmp 95) 23, type := 4, pos := "outright.go:42", after := #[{ on := 7, ground := Go.Ground.data }, { on := 8, ground := Go.Ground.data }, { on := 2, ground := Go.Ground.guard }], guard := some (2, false) }) (by kernel_rfl) rfl (fun K hK => ?_)
      rw [if_pos (by kernel_rfl)]
      go_simp
      refine hK.out _ _ (fun hD => BY2) ?_
      clear hK K
      try simp only [Act.put, List.setIfInBounds_toArray, List.set_cons_zero, List.set_cons_succ]
      refine wpAnyD_one (i := 10) (o := { dst := some 97, op := Go.Op.pick (Go.Operand.tmp 89) (Go.Operand.const (Go.Value.bool true)) (Go.Operand.tmp 96), type := 4, pos := "outright.go:42", after := #[{ on := 2, ground := Go.Ground.data }, { on := 9, ground := Go.Ground.data }], guard := none }) (by kernel_rfl) rfl (fun K hK => ?_)
      go_simp
      refine hK.out _ _ (fun hD => BY2) ?_
      clear hK K
      try simp only [Act.put, List.setIfInBounds_toArray, List.set_cons_zero, List.set_cons_succ]
      refine wpAnyD_one (i := 11) (o := { dst := some 14, op := Go.Op.assign (Go.Operand.tmp 97), type := 4, pos := "outright.go:42", after := #[{ on := 10, ground := Go.Ground.data }, { on := 6, ground := Go.Ground.chain }, { on := 0, ground := Go.Ground.phase }, { on := 1, ground := Go.Ground.phase }, { on := 2, ground := Go.Ground.phase }, { on := 3, ground := Go.Ground.phase }, { on := 4, ground := Go.Ground.phase }, { on := 5, ground := Go.Ground.phase }, { on := 6, ground := Go.Ground.phase }, { on := 7, ground := Go.Ground.phase }, { on := 8, ground := Go.Ground.phase }, { on := 9, ground := Go.Ground.phase }, { on := 10, ground := Go.Ground.phase }], guard := none }) (by kernel_rfl) rfl (fun K hK => ?_)
      go_simp
      refine hK.out _ _ (fun hD => BY2) ?_
      clear hK K
      try simp only [Act.put, List.setIfInBounds_toArray, List.set_cons_zero, List.set_cons_succ]
      refine wpAnyD_done (by kernel_rfl) ?_ _
      go_wp2_with fail
      go_meet
      exact ⟨rfl, HZ2.out⟩
  case rest =>
    obtain ⟨rfl, HZ⟩ := hcut
    have BC : Below W0.heap.size W0 wc := B128.trans (HZ.out.mono B128.size)
    have LT5 := HU.out.1.below HZ.out
    have KX5 := (HZ.out.block xb (blk_at HU.out.2).1).trans HU.out.2
    have HX5 := hid (And.intro LT5 KX5)
    clear LT5 KX5
    have BE : Below W0.heap.size W0 wc.drew := BC.trans ((Gr.refl wc).drew.below.mono BC.size)
    go_upto_region 11 with fail
    refine wp_regionD (S := (fun W : World => Below W0.heap.size W0 W ∧ Below wc.heap.size wc W)) (D := []) hmx ?_
    refine wpAnyD_one (i := 0) (o := { dst := some 98, op := Go.Op.call { callee := Go.Callee.value (Go.Operand.func 7), args := #[], argTypes := #[] }, type := 4, pos := "outright.go:43", after := #[], guard := none }) (by kernel_rfl) rfl (fun K hK => ?_)
    go_simp
    refine (known_any _).mono ?_
    rintro e y3 ⟨rfl, k3⟩
    have BY3 : Below W0.heap.size W0 y3 ∧ Below wc.heap.size wc y3 := ⟨BE.trans (k3.mono BE.size), (Gr.refl wc).drew.below.trans k3⟩
    clear k3
    go_wp2_with fail
    refine hK.out _ _ (fun hD => BY3) ?_
    clear hK K
    try simp only [Act.put, List.setIfInBounds_toArray, List.set_cons_zero, List.set_cons_succ]
    refine' wpAnyD_take (i := 1) (oi := { dst := some 99, op := Go.Op.move (Go.Operand.tmp 98), type := 4, pos := "outright.go:43", after := #[{ on := 0, ground := Go.Ground.data }, { on := 0, ground := Go.Ground.chain }], guard := none }) (v := _) rfl (by kernel_rfl) (by kernel_rfl) (by kernel_rfl) (fun _ _ _ h => h) (by kernel_rfl) (Or.inl ⟨by rfl, ?hy96⟩) BY3 ?rest96
    case hy96 => (intro W hSw; go_simp; try (with_reducible rfl))
    try simp only [Act.put, List.setIfInBounds_toArray, List.set_cons_zero, List.set_cons_succ]
    refine' wpAnyD_take (i := 2) (oi := { dst := some 100, op := Go.Op.move (Go.Operand.tmp 6), type := 4, pos := "outright.go:43", after := #[{ on := 1, ground := Go.Ground.guard }], guard := some (1, true) }) (v := _) rfl (by kernel_rfl) (by kernel_rfl) (by kernel_rfl) (fun _ _ _ h => h) (by kernel_rfl) (Or.inl ⟨by rfl, ?hy97⟩) BY3 ?rest97
    case hy97 => (intro W hSw; go_simp; try (with_reducible rfl))
    try simp only [Act.put, List.setIfInBounds_toArray, List.set_cons_zero, List.set_cons_succ]
    refine' wpAnyD_take (i := 3) (oi := { dst := some 101, op := Go.Op.pick (Go.Operand.tmp 99) (Go.Operand.tmp 100) (Go.Operand.const (Go.Value.bool false)), type := 4, pos := "outright.go:43", after := #[{ on := 1, ground := Go.Ground.data }, { on := 2, ground := Go.Ground.data }], guard := none }) (v := _) rfl (by kernel_rfl) (by kernel_rfl) (by kernel_rfl) (fun _ _ _ h => h) (by kernel_rfl) (Or.inl ⟨by rfl, ?hy98⟩) BY3 ?rest98
    case hy98 => (intro W hSw; go_simp; try (with_reducible rfl))
    try simp only [Act.put, List.setIfInBounds_toArray, List.set_cons_zero, List.set_cons_succ]
    refine' wpAnyD_take (i := 4) (oi := { dst := some 102, op := Go.Op.move (Go.Operand.tmp 101), type := 4, pos := "outright.go:43", after := #[{ on := 3, ground := Go.Ground.data }, { on := 1, ground := Go.Ground.chain }], guard := none }) (v := _) rfl (by kernel_rfl) (by kernel_rfl) (by kernel_rfl) (fun _ _ _ h => h) (by kernel_rfl) (Or.inl ⟨by rfl, ?hy99⟩) BY3 ?rest99
    case hy99 => (intro W hSw; go_simp; try (with_reducible rfl))
    try simp only [Act.put, List.setIfInBounds_toArray, List.set_cons_zero, List.set_cons_succ]
    refine' wpAnyD_take (i := 5) (oi := { dst := some 103, op := Go.Op.move (Go.Operand.tmp 7), type := 4, pos := "outright.go:43", after := #[{ on := 4, ground := Go.Ground.guard }], guard := some (4, true) }) (v := _) rfl (by kernel_rfl) (by kernel_rfl) (by kernel_rfl) (fun _ _ _ h => h) (by kernel_rfl) (Or.inl ⟨by rfl, ?hy100⟩) BY3 ?rest100
    case hy100 => (intro W hSw; go_simp; try (with_reducible rfl))
    try simp only [Act.put, List.setIfInBounds_toArray, List.set_cons_zero, List.set_cons_succ]
    refine' wpAnyD_take (i := 6) (oi := { dst := some 104, op := Go.Op.pick (Go.Operand.tmp 102) (Go.Operand.tmp 103) (Go.Operand.const (Go.Value.bool false)), type := 4, pos := "outright.go:43", after := #[{ on := 4, ground := Go.Ground.data }, { on := 5, ground := Go.Ground.data }], guard := none }) (v := _) rfl (by kernel_rfl) (by kernel_rfl) (by kernel_rfl) (fun _ _ _ h => h) (by kernel_rfl) (Or.inl ⟨by rfl, ?hy101⟩) BY3 ?rest101
    case hy101 => (intro W hSw; go_simp; try (with_reducible rfl))
    try simp only [Act.put, List.setIfInBounds_toArray, List.set_cons_zero, List.set_cons_succ]
    refine' wpAnyD_take (i := 7) (oi := { dst := some 105, op := Go.Op.move (Go.Operand.tmp 104), type := 4, pos := "outright.go:43", after := #[{ on := 6, ground := Go.Ground.data }, { on := 4, ground := Go.Ground.chain }], guard := none }) (v := _) rfl (by kernel_rfl) (by kernel_rfl) (by kernel_rfl) (fun _ _ _ h => h) (by kernel_rfl) (Or.inl ⟨by rfl, ?hy102⟩) BY3 ?rest102
    case hy102 => (intro W hSw; go_simp; try (with_reducible rfl))
    try simp only [Act.put, List.setIfInBounds_toArray, List.set_cons_zero, List.set_cons_succ]
    refine' wpAnyD_take (i := 8) (oi := { dst := some 106, op := Go.Op.move (Go.Operand.tmp 8), type := 4, pos := "outright.go:43", after := #[{ on := 7, ground := Go.Ground.guard }], guard := some (7, true) }) (v := _) rfl (by kernel_rfl) (by kernel_rfl) (by kernel_rfl) (fun _ _ _ h => h) (by kernel_rfl) (Or.inl ⟨by rfl, ?hy103⟩) BY3 ?rest103
    case hy103 => (intro W hSw; go_simp; try (with_reducible rfl))
    try simp only [Act.put, List.setIfInBounds_toArray, List.set_cons_zero, List.set_cons_succ]
    refine' wpAnyD_take (i := 9) (oi := { dst := some 107, op := Go.Op.pick (Go.Operand.tmp 105) (Go.Operand.tmp 106) (Go.Operand.const (Go.Value.bool false)), type := 4, pos := "outright.go:43", after := #[{ on := 7, ground := Go.Ground.data }, { on := 8, ground := Go.Ground.data }], guard := none }) (v := _) rfl (by kernel_rfl) (by kernel_rfl) (by kernel_rfl) (fun _ _ _ h => h) (by kernel_rfl) (Or.inl ⟨by rfl, ?hy104⟩) BY3 ?rest104
    case hy104 => (intro W hSw; go_simp; try (with_reducible rfl))
    try simp only [Act.put, List.setIfInBounds_toArray, List.set_cons_zero, List.set_cons_succ]
    refine' wpAnyD_take (i := 10) (oi := { dst := some 108, op := Go.Op.move (Go.Operand.tmp 107), type := 4, pos := "outright.go:43", after := #[{ on := 9, ground := Go.Ground.data }, { on := 7, ground := Go.Ground.chain }], guard := none }) (v := _) rfl (by kernel_rfl) (by kernel_rfl) (by kernel_rfl) (fun _ _ _ h => h) (by kernel_rfl) (Or.inl ⟨by rfl, ?hy105⟩) BY3 ?rest105
    case hy105 => (intro W hSw; go_simp; try (with_reducible rfl))
    try simp only [Act.put, List.setIfInBounds_toArray, List.set_cons_zero, List.set_cons_succ]
    refine' wpAnyD_take (i := 11) (oi := { dst := some 109, op := Go.Op.move (Go.Operand.tmp 9), type := 4, pos := "outright.go:43", after := #[{ on := 10, ground := Go.Ground.guard }], guard := some (10, true) }) (v := _) rfl (by kernel_rfl) (by kernel_rfl) (by kernel_rfl) (fun _ _ _ h => h) (by kernel_rfl) (Or.inl ⟨by rfl, ?hy106⟩) BY3 ?rest106
    case hy106 => (intro W hSw; go_simp; try (with_reducible rfl))
    try simp only [Act.put, List.setIfInBounds_toArray, List.set_cons_zero, List.set_cons_succ]
    refine' wpAnyD_take (i := 12) (oi := { dst := some 110, op := Go.Op.pick (Go.Operand.tmp 108) (Go.Operand.tmp 109) (Go.Operand.const (Go.Value.bool false)), type := 4, pos := "outright.go:43", after := #[{ on := 10, ground := Go.Ground.data }, { on := 11, ground := Go.Ground.data }], guard := none }) (v := _) rfl (by kernel_rfl) (by kernel_rfl) (by kernel_rfl) (fun _ _ _ h => h) (by kernel_rfl) (Or.inl ⟨by rfl, ?hy107⟩) BY3 ?rest107
    case hy107 => (intro W hSw; go_simp; try (with_reducible rfl))
    try simp only [Act.put, List.setIfInBounds_toArray, List.set_cons_zero, List.set_cons_succ]
    refine' wpAnyD_take (i := 13) (oi := { dst := some 111, op := Go.Op.move (Go.Operand.tmp 110), type := 4, pos := "outright.go:43", after := #[{ on := 12, ground := Go.Ground.data }, { on := 10, ground := Go.Ground.chain }], guard := none }) (v := _) rfl (by kernel_rfl) (by kernel_rfl) (by kernel_rfl) (fun _ _ _ h => h) (by kernel_rfl) (Or.inl ⟨by rfl, ?hy108⟩) BY3 ?rest108
    case hy108 => (intro W hSw; go_simp; try (with_reducible rfl))
    try simp only [Act.put, List.setIfInBounds_toArray, List.set_cons_zero, List.set_cons_succ]
    refine' wpAnyD_take (i := 14) (oi := { dst := some 112, op := Go.Op.move (Go.Operand.tmp 10), type := 4, pos := "outright.go:43", after := #[{ on := 13, ground := Go.Ground.guard }], guard := some (13, true) }) (v := _) rfl (by kernel_rfl) (by kernel_rfl) (by kernel_rfl) (fun _ _ _ h => h) (by kernel_rfl) (Or.inl ⟨by rfl, ?hy109⟩) BY3 ?rest109
    case hy109 => (intro W hSw; go_simp; try (with_reducible rfl))
    try simp only [Act.put, List.setIfInBounds_toArray, List.set_cons_zero, List.set_cons_succ]
    refine' wpAnyD_take (i := 15) (oi := { dst := some 113, op := Go.Op.pick (Go.Operand.tmp 111) (Go.Operand.tmp 112) (Go.Operand.const (Go.Value.bool false)), type := 4, pos := "outright.go:43", after := #[{ on := 13, ground := Go.Ground.data }, { on := 14, ground := Go.Ground.data }], guard := none }) (v := _) rfl (by kernel_rfl) (by kernel_rfl) (by kernel_rfl) (fun _ _ _ h => h) (by kernel_rfl) (Or.inl ⟨by rfl, ?hy110⟩) BY3 ?rest110
    case hy110 => (intro W hSw; go_simp; try (with_reducible rfl))
    try simp only [Act.put, List.setIfInBounds_toArray, List.set_cons_zero, List.set_cons_succ]
    refine' wpAnyD_take (i := 16) (oi := { dst := some 114, op := Go.Op.move (Go.Operand.tmp 113), type := 4, pos := "outright.go:43", after := #[{ on := 15, ground := Go.Ground.data }, { on := 13, ground := Go.Ground.chain }], guard := none }) (v := _) rfl (by kernel_rfl) (by kernel_rfl) (by kernel_rfl) (fun _ _ _ h => h) (by kernel_rfl) (Or.inl ⟨by rfl, ?hy111⟩) BY3 ?rest111
    case hy111 => (intro W hSw; go_simp; try (with_reducible rfl))
    try simp only [Act.put, List.setIfInBounds_toArray, List.set_cons_zero, List.set_cons_succ]
    refine' wpAnyD_take (i := 17) (oi := { dst := some 115, op := Go.Op.move (Go.Operand.tmp 13), type := 4, pos := "outright.go:43", after := #[{ on := 16, ground := Go.Ground.guard }], guard := some (16, true) }) (v := _) rfl (by kernel_rfl) (by kernel_rfl) (by kernel_rfl) (fun _ _ _ h => h) (by kernel_rfl) (Or.inl ⟨by rfl, ?hy112⟩) BY3 ?rest112
    case hy112 => (intro W hSw; go_simp; try (with_reducible rfl))
    try simp only [Act.put, List.setIfInBounds_toArray, List.set_cons_zero, List.set_cons_succ]
    refine' wpAnyD_take (i := 18) (oi := { dst := some 116, op := Go.Op.pick (Go.Operand.tmp 114) (Go.Operand.tmp 115) (Go.Operand.const (Go.Value.bool false)), type := 4, pos := "outright.go:43", after := #[{ on := 16, ground := Go.Ground.data }, { on := 17, ground := Go.Ground.data }], guard := none }) (v := _) rfl (by kernel_rfl) (by kernel_rfl) (by kernel_rfl) (fun _ _ _ h => h) (by kernel_rfl) (Or.inl ⟨by rfl, ?hy113⟩) BY3 ?rest113
    case hy113 => (intro W hSw; go_simp; try (with_reducible rfl))
    try simp only [Act.put, List.setIfInBounds_toArray, List.set_cons_zero, List.set_cons_succ]
    refine' wpAnyD_take (i := 19) (oi := { dst := some 117, op := Go.Op.move (Go.Operand.tmp 116), type := 4, pos := "outright.go:43", after := #[{ on := 18, ground := Go.Ground.data }, { on := 16, ground := Go.Ground.chain }], guard := none }) (v := _) rfl (by kernel_rfl) (by kernel_rfl) (by kernel_rfl) (fun _ _ _ h => h) (by kernel_rfl) (Or.inl ⟨by rfl, ?hy114⟩) BY3 ?rest114
    case hy114 => (intro W hSw; go_simp; try (with_reducible rfl))
    try simp only [Act.put, List.setIfInBounds_toArray, List.set_cons_zero, List.set_cons_succ]
    refine' wpAnyD_take (i := 20) (oi := { dst := some 118, op := Go.Op.move (Go.Operand.tmp 14), type := 4, pos := "outright.go:43", after := #[{ on := 19, ground := Go.Ground.guard }], guard := some (19, true) }) (v := _) rfl (by kernel_rfl) (by kernel_rfl) (by kernel_rfl) (fun _ _ _ h => h) (by kernel_rfl) (Or.inl ⟨by rfl, ?hy115⟩) BY3 ?rest115
    case hy115 => (intro W hSw; go_simp; try (with_reducible rfl))
    try simp only [Act.put, List.setIfInBounds_toArray, List.set_cons_zero, List.set_cons_succ]
    refine' wpAnyD_take (i := 21) (oi := { dst := some 119, op := Go.Op.pick (Go.Operand.tmp 117) (Go.Operand.tmp 118) (Go.Operand.const (Go.Value.bool false)), type := 4, pos := "outright.go:43", after := #[{ on := 19, ground := Go.Ground.data }, { on := 20, ground := Go.Ground.data }], guard := none }) (v := _) rfl (by kernel_rfl) (by kernel_rfl) (by kernel_rfl) (fun _ _ _ h => h) (by kernel_rfl) (Or.inl ⟨by rfl, ?hy116⟩) BY3 ?rest116
    case hy116 => (intro W hSw; go_simp; try (with_reducible rfl))
    try simp only [Act.put, List.setIfInBounds_toArray, List.set_cons_zero, List.set_cons_succ]
    refine' wpAnyD_take (i := 22) (oi := { dst := some 120, op := Go.Op.move (Go.Operand.tmp 119), type := 4, pos := "outright.go:43", after := #[{ on := 21, ground := Go.Ground.data }, { on := 19, ground := Go.Ground.chain }], guard := none }) (v := _) rfl (by kernel_rfl) (by kernel_rfl) (by kernel_rfl) (fun _ _ _ h => h) (by kernel_rfl) (Or.inl ⟨by rfl, ?hy117⟩) BY3 ?rest117
    case hy117 => (intro W hSw; go_simp; try (with_reducible rfl))
    try simp only [Act.put, List.setIfInBounds_toArray, List.set_cons_zero, List.set_cons_succ]
    refine' wpAnyD_take (i := 23) (oi := { dst := some 121, op := Go.Op.move (Go.Operand.tmp 11), type := 22, pos := "outright.go:43", after := #[{ on := 22, ground := Go.Ground.guard }], guard := some (22, true) }) (v := _) rfl (by kernel_rfl) (by kernel_rfl) (by kernel_rfl) (fun _ _ _ h => h) (by kernel_rfl) (Or.inl ⟨by rfl, ?hy118⟩) BY3 ?rest118
    case hy118 => (intro W hSw; go_simp; try (with_reducible rfl))
    try simp only [Act.put, List.setIfInBounds_toArray, List.set_cons_zero, List.set_cons_succ]
    refine' wpAnyD_take (i := 24) (oi := { dst := some 122, op := Go.Op.load 25 (Go.Operand.tmp 3), type := 25, pos := "outright.go:43", after := #[{ on := 22, ground := Go.Ground.guard }], guard := some (22, true) }) (v := _) rfl (by kernel_rfl) (by kernel_rfl) (by kernel_rfl) (fun _ _ _ h => h) (by kernel_rfl) (Or.inl ⟨by rfl, ?hy119⟩) BY3 ?rest119
    case hy119 => (intro W hSw; obtain ⟨z0, z1, z2, z3, z4⟩ := LR.out W hSw.1; obtain ⟨z5, z6, _⟩ := blk_at ((hSw.2.block xb (blk_at HX5.out.2).1).trans HX5.out.2); have z7 := z6 0; have z8 := z6 1; simp at z7 z8; clear z6; go_simp; try (with_reducible rfl))
    try simp only [Act.put, List.setIfInBounds_toArray, List.set_cons_zero, List.set_cons_succ]
    refine' wpAnyD_take (i := 26) (oi := { dst := some 124, op := Go.Op.load 25 (Go.Operand.tmp 3), type := 25, pos := "outright.go:43", after := #[{ on := 22, ground := Go.Ground.guard }], guard := some (22, true) }) (v := _) rfl (by kernel_rfl) (by kernel_rfl) (by kernel_rfl) (fun _ _ _ h => h) (by kernel_rfl) (Or.inl ⟨by rfl, ?hy120⟩) BY3 ?rest120
    case hy120 => (intro W hSw; obtain ⟨z0, z1, z2, z3, z4⟩ := LR.out W hSw.1; obtain ⟨z5, z6, _⟩ := blk_at ((hSw.2.block xb (blk_at HX5.out.2).1).trans HX5.out.2); have z7 := z6 0; have z8 := z6 1; simp at z7 z8; clear z6; go_simp; try (with_reducible rfl))
    try simp only [Act.put, List.setIfInBounds_toArray, List.set_cons_zero, List.set_cons_succ]
    refine wpAnyD_one (i := 25) (o := { dst := some 123, op := Go.Op.call { callee := Go.Callee.value (Go.Operand.func 9), args := #[Go.Operand.tmp 121, Go.Operand.tmp 122], argTypes := #[22, 25] }, type := 25, pos := "outright.go:43", after := #[{ on := 23, ground := Go.Ground.data }, { on := 24, ground := Go.Ground.data }, { on := 22, ground := Go.Ground.chain }, { on := 22, ground := Go.Ground.guard }], guard := some (22, true) }) (by kernel_rfl) rfl (fun K hK => ?_)
    rw [if_pos (by kernel_rfl)]
    go_simp
    have hc := HMAP.out _ _ _ (HO4.out 7 7) (HX5.out.1.below BY3.2)
    rw [m7] at hc
    refine hc.mono ?_
    clear hc
    rintro e y4 ⟨rfl, k4⟩
    have BY4 : Below W0.heap.size W0 y4 ∧ Below wc.heap.size wc y4 := ⟨BY3.1.trans (k4.mono BY3.1.size), BY3.2.trans (k4.mono BY3.2.size)⟩
    clear k4
    go_wp2_with fail
    refine hK.out _ _ (fun hD => BY4) ?_
    clear hK K
    try simp only [Act.put, List.setIfInBounds_toArray, List.set_cons_zero, List.set_cons_succ]
    refine wpAnyD_one (i := 27) (o := { dst := some 125, op := Go.Op.binOp Go.BinOp.eql 25 (Go.Operand.tmp 123) (Go.Operand.tmp 124) 25, type := 4, pos := "outright.go:43", after := #[{ on := 25, ground := Go.Ground.data }, { on := 26, ground := Go.Ground.data }, { on := 22, ground := Go.Ground.guard }], guard := some (22, true) }) (by kernel_rfl) rfl (fun K hK => ?_)
    rw [if_pos (by kernel_rfl)]
    go_simp
    refine hK.out _ _ (fun hD => BY4) ?_
    clear hK K
    try simp only [Act.put, List.setIfInBounds_toArray, List.set_cons_zero, List.set_cons_succ]
    refine' wpAnyD_take (i := 28) (oi := { dst := some 126, op := Go.Op.pick (Go.Operand.tmp 120) (Go.Operand.tmp 125) (Go.Operand.const (Go.Value.bool false)), type := 4, pos := "outright.go:43", after := #[{ on := 22, ground := Go.Ground.data }, { on := 27, ground := Go.Ground.data }], guard := none }) (v := _) rfl (by kernel_rfl) (by kernel_rfl) (by kernel_rfl) (fun _ _ _ h => h) (by kernel_rfl) (Or.inl ⟨by rfl, ?hy123⟩) BY4 ?rest123
    case hy123 => (intro W hSw; go_simp; try (with_reducible rfl))
    try simp only [Act.put, List.setIfInBounds_toArray, List.set_cons_zero, List.set_cons_succ]
    refine' wpAnyD_take (i := 29) (oi := { dst := some 127, op := Go.Op.move (Go.Operand.tmp 126), type := 4, pos := "outright.go:43", after := #[{ on := 28, ground := Go.Ground.data }, { on := 25, ground := Go.Ground.chain }], guard := none }) (v := _) rfl (by kernel_rfl) (by kernel_rfl) (by kernel_rfl) (fun _ _ _ h => h) (by kernel_rfl) (Or.inl ⟨by rfl, ?hy124⟩) BY4 ?rest124
    case hy124 => (intro W hSw; go_simp; try (with_reducible rfl))
    try simp only [Act.put, List.setIfInBounds_toArray, List.set_cons_zero, List.set_cons_succ]
    refine' wpAnyD_take (i := 30) (oi := { dst := some 128, op := Go.Op.load 25 (Go.Operand.tmp 12), type := 25, pos := "outright.go:43", after := #[{ on := 29, ground := Go.Ground.guard }], guard := some (29, true) }) (v := _) rfl (by kernel_rfl) (by kernel_rfl) (by kernel_rfl) (fun _ _ _ h => h) (by kernel_rfl) (Or.inl ⟨by rfl, ?hy125⟩) BY4 ?rest125
    case hy125 => (intro W hSw; obtain ⟨z0, z1, z2, z3, z4⟩ := LR.out W hSw.1; obtain ⟨z5, z6, _⟩ := blk_at ((hSw.2.block xb (blk_at HX5.out.2).1).trans HX5.out.2); have z7 := z6 0; have z8 := z6 1; simp at z7 z8; clear z6; go_simp; try (with_reducible rfl))
    try simp only [Act.put, List.setIfInBounds_toArray, List.set_cons_zero, List.set_cons_succ]
    refine' wpAnyD_take (i := 31) (oi := { dst := some 129, op := Go.Op.fieldAddr 25 (Go.Operand.tmp 3) 0, type := 0, pos := "outright.go:43", after := #[{ on := 29, ground := Go.Ground.guard }], guard := some (29, true) }) (v := _) rfl (by kernel_rfl) (by kernel_rfl) (by kernel_rfl) (fun _ _ _ h => h) (by kernel_rfl) (Or.inl ⟨by rfl, ?hy126⟩) BY4 ?rest126
    case hy126 => (intro W hSw; obtain ⟨z0, z1, z2, z3, z4⟩ := LR.out W hSw.1; obtain ⟨z5, z6, _⟩ := blk_at ((hSw.2.block xb (blk_at HX5.out.2).1).trans HX5.out.2); have z7 := z6 0; have z8 := z6 1; simp at z7 z8; clear z6; go_simp; try (with_reducible rfl))
    try simp only [Act.put, List.setIfInBounds_toArray, List.set_cons_zero, List.set_cons_succ]
    refine' wpAnyD_take (i := 32) (oi := { dst := some 130, op := Go.Op.load 23 (Go.Operand.tmp 129), type := 23, pos := "outright.go:43", after := #[{ on := 31, ground := Go.Ground.data }, { on := 29, ground := Go.Ground.guard }], guard := some (29, true) }) (v := _) rfl (by kernel_rfl) (by kernel_rfl) (by kernel_rfl) (fun _ _ _ h => h) (by kernel_rfl) (Or.inl ⟨by rfl, ?hy127⟩) BY4 ?rest127
    case hy127 => (intro W hSw; obtain ⟨z0, z1, z2, z3, z4⟩ := LR.out W hSw.1; obtain ⟨z5, z6, _⟩ := blk_at ((hSw.2.block xb (blk_at HX5.out.2).1).trans HX5.out.2); have z7 := z6 0; have z8 := z6 1; simp at z7 z8; clear z6; go_simp; try (with_reducible rfl))
    try simp only [Act.put, List.setIfInBounds_toArray, List.set_cons_zero, List.set_cons_succ]
    refine' wpAnyD_take (i := 33) (oi := { dst := some 131, op := Go.Op.fieldAddr 25 (Go.Operand.tmp 3) 1, type := 0, pos := "outright.go:43", after := #[{ on := 29, ground := Go.Ground.guard }], guard := some (29, true) }) (v := _) rfl (by kernel_rfl) (by kernel_rfl) (by kernel_rfl) (fun _ _ _ h => h) (by kernel_rfl) (Or.inl ⟨by rfl, ?hy128⟩) BY4 ?rest128
    case hy128 => (intro W hSw; obtain ⟨z0, z1, z2, z3, z4⟩ := LR.out W hSw.1; obtain ⟨z5, z6, _⟩ := blk_at ((hSw.2.block xb (blk_at HX5.out.2).1).trans HX5.out.2); have z7 := z6 0; have z8 := z6 1; simp at z7 z8; clear z6; go_simp; try (with_reducible rfl))
    try simp only [Act.put, List.setIfInBounds_toArray, List.set_cons_zero, List.set_cons_succ]
    refine' wpAnyD_take (i := 34) (oi := { dst := some 132, op := Go.Op.load 23 (Go.Operand.tmp 131), type := 23, pos := "outright.go:43", after := #[{ on := 33, ground := Go.Ground.data }, { on := 29, ground := Go.Ground.guard }], guard := some (29, true) }) (v := _) rfl (by kernel_rfl) (by kernel_rfl) (by kernel_rfl) (fun _ _ _ h => h) (by kernel_rfl) (Or.inl ⟨by rfl, ?hy129⟩) BY4 ?rest129
    case hy129 => (intro W hSw; obtain ⟨z0, z1, z2, z3, z4⟩ := LR.out W hSw.1; obtain ⟨z5, z6, _⟩ := blk_at ((hSw.2.block xb (blk_at HX5.out.2).1).trans HX5.out.2); have z7 := z6 0; have z8 := z6 1; simp at z7 z8; clear z6; go_simp; try (with_reducible rfl))
    try simp only [Act.put, List.setIfInBounds_toArray, List.set_cons_zero, List.set_cons_succ]
    refine' wpAnyD_take (i := 35) (oi := { dst := some 133, op := Go.Op.fieldAddr 25 (Go.Operand.tmp 3) 0, type := 0, pos := "outright.go:43", after := #[{ on := 29, ground := Go.Ground.guard }], guard := some (29, true) }) (v := _) rfl (by kernel_rfl) (by kernel_rfl) (by kernel_rfl) (fun _ _ _ h => h) (by kernel_rfl) (Or.inl ⟨by rfl, ?hy130⟩) BY4 ?rest130
    case hy130 => (intro W hSw; obtain ⟨z0, z1, z2, z3, z4⟩ := LR.out W hSw.1; obtain ⟨z5, z6, _⟩ := blk_at ((hSw.2.block xb (blk_at HX5.out.2).1).trans HX5.out.2); have z7 := z6 0; have z8 := z6 1; simp at z7 z8; clear z6; go_simp; try (with_reducible rfl))
    try simp only [Act.put, List.setIfInBounds_toArray, List.set_cons_zero, List.set_cons_succ]
    refine' wpAnyD_take (i := 36) (oi := { dst := some 134, op := Go.Op.load 23 (Go.Operand.tmp 133), type := 23, pos := "outright.go:43", after := #[{ on := 35, ground := Go.Ground.data }, { on := 29, ground := Go.Ground.guard }], guard := some (29, true) }) (v := _) rfl (by kernel_rfl) (by kernel_rfl) (by kernel_rfl) (fun _ _ _ h => h) (by kernel_rfl) (Or.inl ⟨by rfl, ?hy131⟩) BY4 ?rest131
    case hy131 => (intro W hSw; obtain ⟨z0, z1, z2, z3, z4⟩ := LR.out W hSw.1; obtain ⟨z5, z6, _⟩ := blk_at ((hSw.2.block xb (blk_at HX5.out.2).1).trans HX5.out.2); have z7 := z6 0; have z8 := z6 1; simp at z7 z8; clear z6; go_simp; try (with_reducible rfl))
    try simp only [Act.put, List.setIfInBounds_toArray, List.set_cons_zero, List.set_cons_succ]
    refine' wpAnyD_take (i := 37) (oi := { dst := some 135, op := Go.Op.binOp Go.BinOp.add 23 (Go.Operand.tmp 132) (Go.Operand.tmp 134) 23, type := 23, pos := "outright.go:43", after := #[{ on := 34, ground := Go.Ground.data }, { on := 36, ground := Go.Ground.data }, { on := 29, ground := Go.Ground.guard }], guard := some (29, true) }) (v := _) rfl (by kernel_rfl) (by kernel_rfl) (by kernel_rfl) (fun _ _ _ h => h) (by kernel_rfl) (Or.inl ⟨by rfl, ?hy132⟩) BY4 ?rest132
    case hy132 => (intro W hSw; obtain ⟨z0, z1, z2, z3, z4⟩ := LR.out W hSw.1; obtain ⟨z5, z6, _⟩ := blk_at ((hSw.2.block xb (blk_at HX5.out.2).1).trans HX5.out.2); have z7 := z6 0; have z8 := z6 1; simp at z7 z8; clear z6; go_simp; try (with_reducible rfl))
    try simp only [Act.put, List.setIfInBounds_toArray, List.set_cons_zero, List.set_cons_succ]
    refine' wpAnyD_take (i := 38) (oi := { dst := some 136, op := Go.Op.build 25 #[(0, Go.Operand.tmp 130), (1, Go.Operand.tmp 135)], type := 25, pos := "outright.go:43", after := #[{ on := 32, ground := Go.Ground.data }, { on := 37, ground := Go.Ground.data }, { on := 29, ground := Go.Ground.guard }], guard := some (29, true) }) (v := _) rfl (by kernel_rfl) (by kernel_rfl) (by kernel_rfl) (fun _ _ _ h => h) (by kernel_rfl) (Or.inl ⟨by rfl, ?hy133⟩) BY4 ?rest133
    case hy133 => (intro W hSw; obtain ⟨z0, z1, z2, z3, z4⟩ := LR.out W hSw.1; obtain ⟨z5, z6, _⟩ := blk_at ((hSw.2.block xb (blk_at HX5.out.2).1).trans HX5.out.2); have z7 := z6 0; have z8 := z6 1; simp at z7 z8; clear z6; go_simp; try (with_reducible rfl))
    try simp only [Act.put, List.setIfInBounds_toArray, List.set_cons_zero, List.set_cons_succ]
    refine wpAnyD_one (i := 39) (o := { dst := some 137, op := Go.Op.binOp Go.BinOp.eql 25 (Go.Operand.tmp 128) (Go.Operand.tmp 136) 25, type := 4, pos := "outright.go:43", after := #[{ on := 30, ground := Go.Ground.data }, { on := 38, ground := Go.Ground.data }, { on := 29, ground := Go.Ground.guard }], guard := some (29, true) }) (by kernel_rfl) rfl (fun K hK => ?_)
    rw [if_pos (by kernel_rfl)]
    go_simp
    refine hK.out _ _ (fun hD => BY4) ?_
    clear hK K
    try simp only [Act.put, List.setIfInBounds_toArray, List.set_cons_zero, List.set_cons_succ]
    refine wpAnyD_one (i := 40) (o := { dst := some 138, op := Go.Op.pick (Go.Operand.tmp 127) (Go.Operand.tmp 137) (Go.Operand.const (Go.Value.bool false)), type := 4, pos := "outright.go:43", after := #[{ on := 29, ground := Go.Ground.data }, { on := 39, ground := Go.Ground.data }], guard := none }) (by kernel_rfl) rfl (fun K hK => ?_)
    go_simp
    refine hK.out _ _ (fun hD => BY4) ?_
    clear hK K
    try simp only [Act.put, List.setIfInBounds_toArray, List.set_cons_zero, List.set_cons_succ]
    refine wpAnyD_one (i := 41) (o := { dst := some 4, op := Go.Op.assign (Go.Operand.tmp 138), type := 4, pos := "outright.go:43", after := #[{ on := 40, ground := Go.Ground.data }, { on := 29, ground := Go.Ground.chain }, { on := 0, ground := Go.Ground.phase }, { on := 1, ground := Go.Ground.phase }, { on := 2, ground := Go.Ground.phase }, { on := 3, ground := Go.Ground.phase }, { on := 4, ground := Go.Ground.phase }, { on := 5, ground := Go.Ground.phase }, { on := 6, ground := Go.Ground.phase }, { on := 7, ground := Go.Ground.phase }, { on := 8, ground := Go.Ground.phase }, { on := 9, ground := Go.Ground.phase }, { on := 10, ground := Go.Ground.phase }, { on := 11, ground := Go.Ground.phase }, { on := 12, ground := Go.Ground.phase }, { on := 13, ground := Go.Ground.phase }, { on := 14, ground := Go.Ground.phase }, { on := 15, ground := Go.Ground.phase }, { on := 16, ground := Go.Ground.phase }, { on := 17, ground := Go.Ground.phase }, { on := 18, ground := Go.Ground.phase }, { on := 19, ground := Go.Ground.phase }, { on := 20, ground := Go.Ground.phase }, { on := 21, ground := Go.Ground.phase }, { on := 22, ground := Go.Ground.phase }, { on := 23, ground := Go.Ground.phase }, { on := 24, ground := Go.Ground.phase }, { on := 25, ground := Go.Ground.phase }, { on := 26, ground := Go.Ground.phase }, { on := 27, ground := Go.Ground.phase }, { on := 28, ground := Go.Ground.phase }, { on := 29, ground := Go.Ground.phase }, { on := 30, ground := Go.Ground.phase }, { on := 31, ground := Go.Ground.phase }, { on := 32, ground := Go.Ground.phase }, { on := 33, ground := Go.Ground.phase }, { on := 34, ground := Go.Ground.phase }, { on := 35, ground := Go.Ground.phase }, { on := 36, ground := Go.Ground.phase }, { on := 37, ground := Go.Ground.phase }, { on := 38, ground := Go.Ground.phase }, { on := 39, ground := Go.Ground.phase }, { on := 40, ground := Go.Ground.phase }], guard := none }) (by kernel_rfl) rfl (fun K hK => ?_)
    go_simp
    refine hK.out _ _ (fun hD => BY4) ?_
    clear hK K
    try simp only [Act.put, List.setIfInBounds_toArray, List.set_cons_zero, List.set_cons_succ]
    refine wpAnyD_done (by kernel_rfl) ?_ _
    go_wp2_with fail
    go_ret
    exact ⟨rfl, HBW.out.trans (BY4.1.mono HBW.out.size)⟩
end Go.Proofs.Ythekfbillnpkkaa.Cd
