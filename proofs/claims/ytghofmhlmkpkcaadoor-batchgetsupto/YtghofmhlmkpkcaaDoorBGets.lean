import Derived.Test.YtghofmhlmkpkcaaDoorBGets0
import Derived.Test.YtghofmhlmkpkcaaDoorBOne
namespace Go.Proofs.YtghofmhlmkpkcaaDoor.Wi
open Go.RowKit Go.Sort
attribute [local go_sem ↓] Go.wp_at_zero Go.wp_at_succ
set_option maxHeartbeats 16000000 in
set_option maxRecDepth 100000 in
theorem batchGets_any {v0 v1 : Value} {L M : List UInt8} (at_ : Int) (w : World) (hg : Ety w) (h0 : Ls EB w v0 L) (h1 : Ls EB w v1 M) (hl0 : L.length ≤ 1048576) (hl1 : M.length ≤ 1048576) :
    Calls Tryd.prog 6 #[v0, v1, .int .i64 at_] w fun e w' => e = .returned (.bool true) ∧ Below w.heap.size w w' := by
  have hmx : Tryd.prog.follows .mixedOrders = true := by kernel_rfl
  have HST : Hid (∀ {w : World} {v : Value} {l : List UInt8}, Ls EB w v l → (convert 22 9 v).run Tryd.prog w = .ok (tx l) w) := @to_text
  have htk := taken_any w hg
  obtain ⟨p0, c0, rfl⟩ := h0.form
  obtain ⟨p1, c1, rfl⟩ := h1.form
  have HG := hid hg
  have H0 := hid h0
  have H1 := hid h1
  have HL0 := hid hl0
  have HL1 := hid hl1
  clear hg h0 h1 hl0 hl1
  go_enter Tryd.func6, Tryd.ntmps6
  go_wp2_with fail
  refine htk.mono ?_
  rintro r w1 ⟨rfl, b1⟩
  have B1 := hid b1
  have L01 := hid (H0.out.below b1)
  clear htk b1
  go_wp2_with (at_builtin; refine wpBL rfl _ _ rfl w1.heap.size _ [] rfl (World.ownsRow_made w1 #[] 0 (Nat.le_refl _) (Nat.zero_le _) rfl) _ L rfl (Or.inl (L01.out.below ((Gr.refl _).alloc _).below)) (by have := HL0.out; simp; omega) (by simp) ?_)
  intro v2 w2 h2 t2
  have hal := ((Gr.refl w1).alloc (.cells #[] 5)).below
  have B2 : Hid (Below w1.heap.size w1 w2) := hal.trans (t2.out.1.below hal.size (fun k hk => by simp [Value.ownBlock] at hk; omega))
  have O2 := hid (owns_re h2.out (by simp) (by simp) : w2.ownsRow w1.heap.size 5 1 v2 L.length (fl EB L))
  clear h2 t2 hal
  go_wp2_with (at_builtin; refine wpB1 rfl _ _ rfl v2 L rfl (owns_base O2.out (Nat.zero_le _)) 126 rfl (by have := HL0.out; omega) _ rfl _ ?_)
  intro v3 w3 h3 t3
  have B3 : Hid (Below w1.heap.size w1 w3) := B2.out.trans (t3.out.1.below B2.out.size (fun k hk => (O2.out.lt k hk).1))
  have hr3 : ∀ k, v3.ownBlock = some k → w1.heap.size ≤ k := fun k hk => (t3.out.2 k hk).elim (fun h => (O2.out.lt k h).1) (Nat.le_trans B2.out.size)
  have h3' : w3.ownsRow 0 5 1 v3 (L.length + 1) (fl EB (L ++ [126])) := owns_re h3.out (by simp) rfl
  obtain ⟨g, cap, rfl⟩ : ∃ g cap, v3 = .slice (some ⟨g, 0, none⟩) (L.length + 1) cap := by
    obtain ⟨_, ⟨_, h⟩ | ⟨g, cap, cur, hv, _⟩⟩ := h3'
    · simp at h
    · exact ⟨g, cap, hv⟩
  have FO3 := hid h3'
  have GG : Hid (w1.heap.size ≤ g ∧ g < w3.heap.size) := ⟨hr3 g rfl, (h3'.lt g rfl).2⟩
  have HCP : Hid (L.length + 1 ≤ cap) := (owns_cap h3').1
  have HCUT : Hid (∀ (W : World) (N : List UInt8), N.length = L.length + 1 → W.ownsRow 0 5 1 (.slice (some ⟨g, 0, none⟩) (L.length + 1) cap) (L.length + 1) (fl EB N) → Ls EB W (.slice (some ⟨g, 0, none⟩) L.length cap) (N.take L.length)) := fun W N hN h => by
    rw [← hN] at h
    exact (owns_ls (E := EB) h).cut (k := L.length) (by omega) cap
  have LO3 : Hid (Ls EB w3 (.slice (some ⟨g, 0, none⟩) L.length cap) L) := by
    have := HCUT.out w3 _ (by simp) FO3.out
    rw [List.take_left] at this
    exact this
  have hc : (L.length : Int) ≤ (cap : Int) := by have := HCP.out; omega
  have hz : (0 : Int) ≤ (L.length : Int) := by omega
  have hgt := get_any w3 LO3.out (by have := HL0.out; omega)
  have BW3 : Hid (Below w.heap.size w w3) := B1.out.trans (B3.out.mono B1.out.size)
  clear h3 h3' t3 hr3 O2
  go_wp2_with fail
  refine hgt.mono ?_
  rintro r w4 h4
  obtain ⟨vx, ex, rfl, hA4, b4⟩ := h4.ans
  have AX4 := hid (An.mk' hA4)
  have B34 := hid b4
  have BW4 := hid (BW3.out.trans (b4.mono BW3.out.size))
  have L14 := hid (H1.out.below BW4.out)
  clear hgt h4 hA4 b4
  go_wp2_with (at_builtin; refine wpBL rfl _ _ rfl w4.heap.size _ [] rfl (World.ownsRow_made w4 #[] 0 (Nat.le_refl _) (Nat.zero_le _) rfl) _ M rfl (Or.inl (L14.out.below ((Gr.refl _).alloc _).below)) (by have := HL1.out; simp; omega) (by simp) ?_)
  intro v5 w5 h5 t5
  have hal := ((Gr.refl w4).alloc (.cells #[] 5)).below
  have B45 : Hid (Below w4.heap.size w4 w5) := hal.trans (t5.out.1.below hal.size (fun k hk => by simp [Value.ownBlock] at hk; omega))
  have L5 : Hid (Ls EB w5 v5 M) := owns_ls (E := EB) h5.out
  have hgt := get_any w5 L5.out (by have := HL1.out; omega)
  clear h5 t5 hal
  go_wp2_with fail
  refine hgt.mono ?_
  rintro r w6 h6
  obtain ⟨vy, ey, rfl, hA6, b6⟩ := h6.ans
  have AY6 := hid (An.mk' hA6)
  have HZ6 : Hid (w3.heap.size ≤ w4.heap.size ∧ w4.heap.size ≤ w5.heap.size ∧ w5.heap.size ≤ w6.heap.size) := ⟨B34.out.size, B45.out.size, b6.size⟩
  have B46 := hid (B45.out.trans (b6.mono B45.out.size))
  have B36 := hid (B34.out.trans (B46.out.mono B34.out.size))
  have BW6 := hid (BW3.out.trans (B36.out.mono BW3.out.size))
  have hgt := get_any w6 (LO3.out.below B36.out) (by have := HL0.out; omega)
  clear hgt h6 hA6 b6
  have hgt := get_any w6 (LO3.out.below B36.out) (by have := HL0.out; omega)
  go_wp2_with fail
  refine hgt.mono ?_
  rintro r w7 h7
  obtain ⟨vz, ez, rfl, hA7, b7⟩ := h7.ans
  have AZ7 := hid (An.mk' hA7)
  have AY7 := hid (AY6.out.below b7)
  have AX7 := hid ((AX4.out.below B46.out).below b7)
  have B37 := hid (B36.out.trans (b7.mono B36.out.size))
  have BW7 := hid (BW3.out.trans (B37.out.mono BW3.out.size))
  have FO7 : Hid (w7.ownsRow 0 5 1 (.slice (some ⟨g, 0, none⟩) (L.length + 1) cap) (L.length + 1) (fl EB (L ++ [126]))) := owns_below FO3.out B37.out
  have LO7 := hid (LO3.out.below B37.out)
  clear hgt h7 hA7 b7 FO3 LO3 AX4 AY6
  have TX : Hid (∀ W, Below w7.heap.size w7 W → Calls Tryd.prog 17 #[vx, ex, .slice p0 L.length c0] W fun r W' => r = .returned (.bool true) ∧ Below W.heap.size W W') := fun W hW => told_any W (HG.out.below (BW7.out.trans (hW.mono BW7.out.size))) (AX7.out.below hW).an (H0.out.below (BW7.out.trans (hW.mono BW7.out.size))) (by have := HL0.out; omega)
  have TY : Hid (∀ W, Below w7.heap.size w7 W → Calls Tryd.prog 17 #[vy, ey, .slice p1 M.length c1] W fun r W' => r = .returned (.bool true) ∧ Below W.heap.size W W') := fun W hW => told_any W (HG.out.below (BW7.out.trans (hW.mono BW7.out.size))) (AY7.out.below hW).an (H1.out.below (BW7.out.trans (hW.mono BW7.out.size))) (by have := HL1.out; omega)
  have TZ : Hid (∀ W, Below w7.heap.size w7 W → Calls Tryd.prog 17 #[vz, ez, .slice p0 L.length c0] W fun r W' => r = .returned (.bool true) ∧ Below W.heap.size W W') := fun W hW => told_any W (HG.out.below (BW7.out.trans (hW.mono BW7.out.size))) (AZ7.out.below hW).an (H0.out.below (BW7.out.trans (hW.mono BW7.out.size))) (by have := HL0.out; omega)
  have CO : Hid (∀ W, Below w7.heap.size w7 W → (convert 22 9 (.slice (some ⟨g, 0, none⟩) L.length cap)).run Tryd.prog W = .ok (tx L) W ∧ (convert 22 9 (.slice p0 L.length c0)).run Tryd.prog W = .ok (tx L) W ∧ W.cell? ⟨g, L.length, none⟩ = some (.int .u8 126) ∧ g < W.heap.size) := fun W hW => by
    have hF := owns_below FO7.out hW
    have hq := hF.cells (g := g) rfl L.length _ (fl_eb (L ++ [126]) L.length 126 (by simp))
    rw [addA, Nat.zero_add] at hq
    exact ⟨HST.out (LO7.out.below hW), HST.out (H0.out.below (BW7.out.trans (hW.mono BW7.out.size))), hq, (hF.lt g rfl).2⟩
  have hi1 : (L.length : Int) < (L.length : Int) + 1 := by omega
  have S0 : Below w7.heap.size w7 w7.drew := (Gr.refl w7).drew.below
  go_upto_region 8 with fail
  refine wp_regionD (S := fun W => Below w7.heap.size w7 W) (D := []) hmx ?_
  refine' wpAnyD_take (i := 0) (oi := { dst := some 49, op := Go.Op.move (Go.Operand.tmp 9), type := 24, pos := "law.go:123", after := #[], guard := none }) (v := _) rfl (by kernel_rfl) (by kernel_rfl) (by kernel_rfl) (fun _ _ _ h => h) (by kernel_rfl) (Or.inl ⟨by rfl, ?hy1⟩) S0 ?rest1
  case hy1 => (intro W hSw; go_simp; try (with_reducible rfl))
  try simp only [Act.put, List.setIfInBounds_toArray, List.set_cons_zero, List.set_cons_succ]
  refine' wpAnyD_take (i := 1) (oi := { dst := some 50, op := Go.Op.move (Go.Operand.tmp 10), type := 26, pos := "law.go:123", after := #[], guard := none }) (v := _) rfl (by kernel_rfl) (by kernel_rfl) (by kernel_rfl) (fun _ _ _ h => h) (by kernel_rfl) (Or.inl ⟨by rfl, ?hy2⟩) S0 ?rest2
  case hy2 => (intro W hSw; go_simp; try (with_reducible rfl))
  try simp only [Act.put, List.setIfInBounds_toArray, List.set_cons_zero, List.set_cons_succ]
  refine' wpAnyD_take (i := 2) (oi := { dst := some 51, op := Go.Op.move (Go.Operand.tmp 0), type := 22, pos := "law.go:123", after := #[], guard := none }) (v := _) rfl (by kernel_rfl) (by kernel_rfl) (by kernel_rfl) (fun _ _ _ h => h) (by kernel_rfl) (Or.inl ⟨by rfl, ?hy3⟩) S0 ?rest3
  case hy3 => (intro W hSw; go_simp; try (with_reducible rfl))
  try simp only [Act.put, List.setIfInBounds_toArray, List.set_cons_zero, List.set_cons_succ]
  refine wpAnyD_one (i := 3) (o := { dst := some 52, op := Go.Op.call { callee := Go.Callee.value (Go.Operand.func 17), args := #[Go.Operand.tmp 49, Go.Operand.tmp 50, Go.Operand.tmp 51], argTypes := #[24, 26, 22] }, type := 4, pos := "law.go:123", after := #[{ on := 0, ground := Go.Ground.data }, { on := 1, ground := Go.Ground.data }, { on := 2, ground := Go.Ground.data }], guard := none }) (by kernel_rfl) rfl (fun K hK => ?_)
  rw [if_pos (by kernel_rfl)]
  go_simp
  refine (TX.out _ S0).mono ?_
  rintro e w8 ⟨rfl, b8⟩
  have S8 := S0.trans (b8.mono S0.size)
  clear b8
  dsimp only
  refine hK.out _ _ (fun hD => S8) ?_
  clear hK K
  try simp only [Act.put, List.setIfInBounds_toArray, List.set_cons_zero, List.set_cons_succ]
  refine' wpAnyD_take (i := 4) (oi := { dst := some 53, op := Go.Op.unOp Go.UnOp.not 4 (Go.Operand.tmp 52), type := 4, pos := "law.go:123", after := #[{ on := 3, ground := Go.Ground.data }], guard := none }) (v := _) rfl (by kernel_rfl) (by kernel_rfl) (by kernel_rfl) (fun _ _ _ h => h) (by kernel_rfl) (Or.inl ⟨by rfl, ?hy5⟩) S8 ?rest5
  case hy5 => (intro W hSw; go_simp; try (with_reducible rfl))
  try simp only [Act.put, List.setIfInBounds_toArray, List.set_cons_zero, List.set_cons_succ]
  refine' wpAnyD_take (i := 5) (oi := { dst := some 54, op := Go.Op.move (Go.Operand.tmp 53), type := 4, pos := "law.go:123", after := #[{ on := 4, ground := Go.Ground.data }, { on := 3, ground := Go.Ground.chain }], guard := none }) (v := _) rfl (by kernel_rfl) (by kernel_rfl) (by kernel_rfl) (fun _ _ _ h => h) (by kernel_rfl) (Or.inl ⟨by rfl, ?hy6⟩) S8 ?rest6
  case hy6 => (intro W hSw; go_simp; try (with_reducible rfl))
  try simp only [Act.put, List.setIfInBounds_toArray, List.set_cons_zero, List.set_cons_succ]
  refine' wpAnyD_take (i := 6) (oi := { dst := some 55, op := Go.Op.move (Go.Operand.tmp 11), type := 24, pos := "law.go:123", after := #[{ on := 5, ground := Go.Ground.guard }], guard := some (5, false) }) (v := _) rfl (by kernel_rfl) (by kernel_rfl) (by kernel_rfl) (fun _ _ _ h => h) (by kernel_rfl) (Or.inl ⟨by rfl, ?hy7⟩) S8 ?rest7
  case hy7 => (intro W hSw; go_simp; try (with_reducible rfl))
  try simp only [Act.put, List.setIfInBounds_toArray, List.set_cons_zero, List.set_cons_succ]
  refine' wpAnyD_take (i := 7) (oi := { dst := some 56, op := Go.Op.move (Go.Operand.tmp 12), type := 26, pos := "law.go:123", after := #[{ on := 5, ground := Go.Ground.guard }], guard := some (5, false) }) (v := _) rfl (by kernel_rfl) (by kernel_rfl) (by kernel_rfl) (fun _ _ _ h => h) (by kernel_rfl) (Or.inl ⟨by rfl, ?hy8⟩) S8 ?rest8
  case hy8 => (intro W hSw; go_simp; try (with_reducible rfl))
  try simp only [Act.put, List.setIfInBounds_toArray, List.set_cons_zero, List.set_cons_succ]
  refine' wpAnyD_take (i := 8) (oi := { dst := some 57, op := Go.Op.move (Go.Operand.tmp 1), type := 22, pos := "law.go:123", after := #[{ on := 5, ground := Go.Ground.guard }], guard := some (5, false) }) (v := _) rfl (by kernel_rfl) (by kernel_rfl) (by kernel_rfl) (fun _ _ _ h => h) (by kernel_rfl) (Or.inl ⟨by rfl, ?hy9⟩) S8 ?rest9
  case hy9 => (intro W hSw; go_simp; try (with_reducible rfl))
  try simp only [Act.put, List.setIfInBounds_toArray, List.set_cons_zero, List.set_cons_succ]
  refine wpAnyD_one (i := 9) (o := { dst := some 58, op := Go.Op.call { callee := Go.Callee.value (Go.Operand.func 17), args := #[Go.Operand.tmp 55, Go.Operand.tmp 56, Go.Operand.tmp 57], argTypes := #[24, 26, 22] }, type := 4, pos := "law.go:123", after := #[{ on := 6, ground := Go.Ground.data }, { on := 7, ground := Go.Ground.data }, { on := 8, ground := Go.Ground.data }, { on := 5, ground := Go.Ground.chain }, { on := 5, ground := Go.Ground.guard }], guard := some (5, false) }) (by kernel_rfl) rfl (fun K hK => ?_)
  rw [if_pos (by kernel_rfl)]
  go_simp
  refine (TY.out _ S8).mono ?_
  rintro e w9 ⟨rfl, b9⟩
  have S9 := S8.trans (b9.mono S8.size)
  clear b9
  dsimp only
  refine hK.out _ _ (fun hD => S9) ?_
  clear hK K
  try simp only [Act.put, List.setIfInBounds_toArray, List.set_cons_zero, List.set_cons_succ]
  refine' wpAnyD_take (i := 10) (oi := { dst := some 59, op := Go.Op.unOp Go.UnOp.not 4 (Go.Operand.tmp 58), type := 4, pos := "law.go:123", after := #[{ on := 9, ground := Go.Ground.data }, { on := 5, ground := Go.Ground.guard }], guard := some (5, false) }) (v := _) rfl (by kernel_rfl) (by kernel_rfl) (by kernel_rfl) (fun _ _ _ h => h) (by kernel_rfl) (Or.inl ⟨by rfl, ?hy11⟩) S9 ?rest11
  case hy11 => (intro W hSw; go_simp; try (with_reducible rfl))
  try simp only [Act.put, List.setIfInBounds_toArray, List.set_cons_zero, List.set_cons_succ]
  refine' wpAnyD_take (i := 11) (oi := { dst := some 60, op := Go.Op.pick (Go.Operand.tmp 54) (Go.Operand.const (Go.Value.bool true)) (Go.Operand.tmp 59), type := 4, pos := "law.go:123", after := #[{ on := 5, ground := Go.Ground.data }, { on := 10, ground := Go.Ground.data }], guard := none }) (v := _) rfl (by kernel_rfl) (by kernel_rfl) (by kernel_rfl) (fun _ _ _ h => h) (by kernel_rfl) (Or.inl ⟨by rfl, ?hy12⟩) S9 ?rest12
  case hy12 => (intro W hSw; go_simp; try (with_reducible rfl))
  try simp only [Act.put, List.setIfInBounds_toArray, List.set_cons_zero, List.set_cons_succ]
  refine' wpAnyD_take (i := 12) (oi := { dst := some 61, op := Go.Op.move (Go.Operand.tmp 60), type := 4, pos := "law.go:123", after := #[{ on := 11, ground := Go.Ground.data }, { on := 9, ground := Go.Ground.chain }], guard := none }) (v := _) rfl (by kernel_rfl) (by kernel_rfl) (by kernel_rfl) (fun _ _ _ h => h) (by kernel_rfl) (Or.inl ⟨by rfl, ?hy13⟩) S9 ?rest13
  case hy13 => (intro W hSw; go_simp; try (with_reducible rfl))
  try simp only [Act.put, List.setIfInBounds_toArray, List.set_cons_zero, List.set_cons_succ]
  refine' wpAnyD_take (i := 13) (oi := { dst := some 62, op := Go.Op.move (Go.Operand.tmp 13), type := 24, pos := "law.go:123", after := #[{ on := 12, ground := Go.Ground.guard }], guard := some (12, false) }) (v := _) rfl (by kernel_rfl) (by kernel_rfl) (by kernel_rfl) (fun _ _ _ h => h) (by kernel_rfl) (Or.inl ⟨by rfl, ?hy14⟩) S9 ?rest14
  case hy14 => (intro W hSw; go_simp; try (with_reducible rfl))
  try simp only [Act.put, List.setIfInBounds_toArray, List.set_cons_zero, List.set_cons_succ]
  refine' wpAnyD_take (i := 14) (oi := { dst := some 63, op := Go.Op.move (Go.Operand.tmp 14), type := 26, pos := "law.go:123", after := #[{ on := 12, ground := Go.Ground.guard }], guard := some (12, false) }) (v := _) rfl (by kernel_rfl) (by kernel_rfl) (by kernel_rfl) (fun _ _ _ h => h) (by kernel_rfl) (Or.inl ⟨by rfl, ?hy15⟩) S9 ?rest15
  case hy15 => (intro W hSw; go_simp; try (with_reducible rfl))
  try simp only [Act.put, List.setIfInBounds_toArray, List.set_cons_zero, List.set_cons_succ]
  refine' wpAnyD_take (i := 15) (oi := { dst := some 64, op := Go.Op.move (Go.Operand.tmp 0), type := 22, pos := "law.go:123", after := #[{ on := 12, ground := Go.Ground.guard }], guard := some (12, false) }) (v := _) rfl (by kernel_rfl) (by kernel_rfl) (by kernel_rfl) (fun _ _ _ h => h) (by kernel_rfl) (Or.inl ⟨by rfl, ?hy16⟩) S9 ?rest16
  case hy16 => (intro W hSw; go_simp; try (with_reducible rfl))
  try simp only [Act.put, List.setIfInBounds_toArray, List.set_cons_zero, List.set_cons_succ]
  refine wpAnyD_one (i := 16) (o := { dst := some 65, op := Go.Op.call { callee := Go.Callee.value (Go.Operand.func 17), args := #[Go.Operand.tmp 62, Go.Operand.tmp 63, Go.Operand.tmp 64], argTypes := #[24, 26, 22] }, type := 4, pos := "law.go:123", after := #[{ on := 13, ground := Go.Ground.data }, { on := 14, ground := Go.Ground.data }, { on := 15, ground := Go.Ground.data }, { on := 12, ground := Go.Ground.chain }, { on := 12, ground := Go.Ground.guard }], guard := some (12, false) }) (by kernel_rfl) rfl (fun K hK => ?_)
  rw [if_pos (by kernel_rfl)]
  go_simp
  refine (TZ.out _ S9).mono ?_
  rintro e w10 ⟨rfl, b10⟩
  have S10 := S9.trans (b10.mono S9.size)
  clear b10
  dsimp only
  refine hK.out _ _ (fun hD => S10) ?_
  clear hK K
  try simp only [Act.put, List.setIfInBounds_toArray, List.set_cons_zero, List.set_cons_succ]
  refine' wpAnyD_take (i := 17) (oi := { dst := some 66, op := Go.Op.unOp Go.UnOp.not 4 (Go.Operand.tmp 65), type := 4, pos := "law.go:123", after := #[{ on := 16, ground := Go.Ground.data }, { on := 12, ground := Go.Ground.guard }], guard := some (12, false) }) (v := _) rfl (by kernel_rfl) (by kernel_rfl) (by kernel_rfl) (fun _ _ _ h => h) (by kernel_rfl) (Or.inl ⟨by rfl, ?hy18⟩) S10 ?rest18
  case hy18 => (intro W hSw; go_simp; try (with_reducible rfl))
  try simp only [Act.put, List.setIfInBounds_toArray, List.set_cons_zero, List.set_cons_succ]
  refine' wpAnyD_take (i := 18) (oi := { dst := some 67, op := Go.Op.pick (Go.Operand.tmp 61) (Go.Operand.const (Go.Value.bool true)) (Go.Operand.tmp 66), type := 4, pos := "law.go:123", after := #[{ on := 12, ground := Go.Ground.data }, { on := 17, ground := Go.Ground.data }], guard := none }) (v := _) rfl (by kernel_rfl) (by kernel_rfl) (by kernel_rfl) (fun _ _ _ h => h) (by kernel_rfl) (Or.inl ⟨by rfl, ?hy19⟩) S10 ?rest19
  case hy19 => (intro W hSw; go_simp; try (with_reducible rfl))
  try simp only [Act.put, List.setIfInBounds_toArray, List.set_cons_zero, List.set_cons_succ]
  refine' wpAnyD_take (i := 19) (oi := { dst := some 68, op := Go.Op.move (Go.Operand.tmp 67), type := 4, pos := "law.go:123", after := #[{ on := 18, ground := Go.Ground.data }, { on := 16, ground := Go.Ground.chain }], guard := none }) (v := _) rfl (by kernel_rfl) (by kernel_rfl) (by kernel_rfl) (fun _ _ _ h => h) (by kernel_rfl) (Or.inl ⟨by rfl, ?hy20⟩) S10 ?rest20
  case hy20 => (intro W hSw; go_simp; try (with_reducible rfl))
  try simp only [Act.put, List.setIfInBounds_toArray, List.set_cons_zero, List.set_cons_succ]
  refine' wpAnyD_take (i := 20) (oi := { dst := some 69, op := Go.Op.move (Go.Operand.tmp 7), type := 22, pos := "law.go:123", after := #[{ on := 19, ground := Go.Ground.guard }], guard := some (19, false) }) (v := _) rfl (by kernel_rfl) (by kernel_rfl) (by kernel_rfl) (fun _ _ _ h => h) (by kernel_rfl) (Or.inl ⟨by rfl, ?hy21⟩) S10 ?rest21
  case hy21 => (intro W hSw; go_simp; try (with_reducible rfl))
  try simp only [Act.put, List.setIfInBounds_toArray, List.set_cons_zero, List.set_cons_succ]
  refine' wpAnyD_take (i := 21) (oi := { dst := some 70, op := Go.Op.move (Go.Operand.tmp 0), type := 22, pos := "law.go:123", after := #[{ on := 19, ground := Go.Ground.guard }], guard := some (19, false) }) (v := _) rfl (by kernel_rfl) (by kernel_rfl) (by kernel_rfl) (fun _ _ _ h => h) (by kernel_rfl) (Or.inl ⟨by rfl, ?hy22⟩) S10 ?rest22
  case hy22 => (intro W hSw; go_simp; try (with_reducible rfl))
  try simp only [Act.put, List.setIfInBounds_toArray, List.set_cons_zero, List.set_cons_succ]
  refine' wpAnyD_take (i := 22) (oi := { dst := some 71, op := Go.Op.call { callee := Go.Callee.builtin Go.Builtin.len, args := #[Go.Operand.tmp 70], argTypes := #[22] }, type := 3, pos := "law.go:123", after := #[{ on := 21, ground := Go.Ground.data }, { on := 19, ground := Go.Ground.guard }], guard := some (19, false) }) (v := _) rfl (by kernel_rfl) (by kernel_rfl) (by kernel_rfl) (fun _ _ _ h => h) (by kernel_rfl) (Or.inl ⟨by rfl, ?hy23⟩) S10 ?rest23
  case hy23 => (intro W hSw; go_simp; try (with_reducible rfl))
  try simp only [Act.put, List.setIfInBounds_toArray, List.set_cons_zero, List.set_cons_succ]
  refine' wpAnyD_take (i := 23) (oi := { dst := some 72, op := Go.Op.slice 22 (Go.Operand.tmp 69) none (some (Go.Operand.tmp 71)) none, type := 22, pos := "law.go:123", after := #[{ on := 20, ground := Go.Ground.data }, { on := 22, ground := Go.Ground.data }, { on := 19, ground := Go.Ground.guard }], guard := some (19, false) }) (v := _) rfl (by kernel_rfl) (by kernel_rfl) (by kernel_rfl) (fun _ _ _ h => h) (by kernel_rfl) (Or.inl ⟨by rfl, ?hy24⟩) S10 ?rest24
  case hy24 => (intro W hSw; go_simp; try (with_reducible rfl))
  try simp only [Act.put, List.setIfInBounds_toArray, List.set_cons_zero, List.set_cons_succ]
  refine' wpAnyD_take (i := 24) (oi := { dst := some 73, op := Go.Op.convert 22 9 (Go.Operand.tmp 72), type := 9, pos := "law.go:123", after := #[{ on := 23, ground := Go.Ground.data }, { on := 19, ground := Go.Ground.guard }], guard := some (19, false) }) (v := _) rfl (by kernel_rfl) (by kernel_rfl) (by kernel_rfl) (fun _ _ _ h => h) (by kernel_rfl) (Or.inl ⟨by rfl, ?hy25⟩) S10 ?rest25
  case hy25 => (intro W hSw; obtain ⟨q1, q2, q3, q4⟩ := CO.out W hSw; go_simp; try (with_reducible rfl))
  try simp only [Act.put, List.setIfInBounds_toArray, List.set_cons_zero, List.set_cons_succ]
  refine' wpAnyD_take (i := 25) (oi := { dst := some 74, op := Go.Op.move (Go.Operand.tmp 0), type := 22, pos := "law.go:123", after := #[{ on := 19, ground := Go.Ground.guard }], guard := some (19, false) }) (v := _) rfl (by kernel_rfl) (by kernel_rfl) (by kernel_rfl) (fun _ _ _ h => h) (by kernel_rfl) (Or.inl ⟨by rfl, ?hy26⟩) S10 ?rest26
  case hy26 => (intro W hSw; go_simp; try (with_reducible rfl))
  try simp only [Act.put, List.setIfInBounds_toArray, List.set_cons_zero, List.set_cons_succ]
  refine' wpAnyD_take (i := 26) (oi := { dst := some 75, op := Go.Op.convert 22 9 (Go.Operand.tmp 74), type := 9, pos := "law.go:123", after := #[{ on := 25, ground := Go.Ground.data }, { on := 19, ground := Go.Ground.guard }], guard := some (19, false) }) (v := _) rfl (by kernel_rfl) (by kernel_rfl) (by kernel_rfl) (fun _ _ _ h => h) (by kernel_rfl) (Or.inl ⟨by rfl, ?hy27⟩) S10 ?rest27
  case hy27 => (intro W hSw; obtain ⟨q1, q2, q3, q4⟩ := CO.out W hSw; go_simp; try (with_reducible rfl))
  try simp only [Act.put, List.setIfInBounds_toArray, List.set_cons_zero, List.set_cons_succ]
  refine' wpAnyD_take (i := 27) (oi := { dst := some 76, op := Go.Op.binOp Go.BinOp.neq 9 (Go.Operand.tmp 73) (Go.Operand.tmp 75) 9, type := 4, pos := "law.go:123", after := #[{ on := 24, ground := Go.Ground.data }, { on := 26, ground := Go.Ground.data }, { on := 19, ground := Go.Ground.guard }], guard := some (19, false) }) (v := _) rfl (by kernel_rfl) (by kernel_rfl) (by kernel_rfl) (fun _ _ _ h => h) (by kernel_rfl) (Or.inl ⟨by rfl, ?hy28⟩) S10 ?rest28
  case hy28 => (intro W hSw; go_simp; try (with_reducible rfl))
  try simp only [Act.put, List.setIfInBounds_toArray, List.set_cons_zero, List.set_cons_succ]
  refine' wpAnyD_take (i := 28) (oi := { dst := some 77, op := Go.Op.pick (Go.Operand.tmp 68) (Go.Operand.const (Go.Value.bool true)) (Go.Operand.tmp 76), type := 4, pos := "law.go:123", after := #[{ on := 19, ground := Go.Ground.data }, { on := 27, ground := Go.Ground.data }], guard := none }) (v := _) rfl (by kernel_rfl) (by kernel_rfl) (by kernel_rfl) (fun _ _ _ h => h) (by kernel_rfl) (Or.inl ⟨by rfl, ?hy29⟩) S10 ?rest29
  case hy29 => (intro W hSw; go_simp; try (with_reducible rfl))
  try simp only [Act.put, List.setIfInBounds_toArray, List.set_cons_zero, List.set_cons_succ]
  refine' wpAnyD_take (i := 29) (oi := { dst := some 78, op := Go.Op.move (Go.Operand.tmp 77), type := 4, pos := "law.go:123", after := #[{ on := 28, ground := Go.Ground.data }, { on := 19, ground := Go.Ground.chain }], guard := none }) (v := _) rfl (by kernel_rfl) (by kernel_rfl) (by kernel_rfl) (fun _ _ _ h => h) (by kernel_rfl) (Or.inl ⟨by rfl, ?hy30⟩) S10 ?rest30
  case hy30 => (intro W hSw; go_simp; try (with_reducible rfl))
  try simp only [Act.put, List.setIfInBounds_toArray, List.set_cons_zero, List.set_cons_succ]
  refine' wpAnyD_take (i := 30) (oi := { dst := some 79, op := Go.Op.move (Go.Operand.tmp 7), type := 22, pos := "law.go:123", after := #[{ on := 29, ground := Go.Ground.guard }], guard := some (29, false) }) (v := _) rfl (by kernel_rfl) (by kernel_rfl) (by kernel_rfl) (fun _ _ _ h => h) (by kernel_rfl) (Or.inl ⟨by rfl, ?hy31⟩) S10 ?rest31
  case hy31 => (intro W hSw; go_simp; try (with_reducible rfl))
  try simp only [Act.put, List.setIfInBounds_toArray, List.set_cons_zero, List.set_cons_succ]
  refine' wpAnyD_take (i := 31) (oi := { dst := some 80, op := Go.Op.move (Go.Operand.tmp 0), type := 22, pos := "law.go:123", after := #[{ on := 29, ground := Go.Ground.guard }], guard := some (29, false) }) (v := _) rfl (by kernel_rfl) (by kernel_rfl) (by kernel_rfl) (fun _ _ _ h => h) (by kernel_rfl) (Or.inl ⟨by rfl, ?hy32⟩) S10 ?rest32
  case hy32 => (intro W hSw; go_simp; try (with_reducible rfl))
  try simp only [Act.put, List.setIfInBounds_toArray, List.set_cons_zero, List.set_cons_succ]
  refine' wpAnyD_take (i := 32) (oi := { dst := some 81, op := Go.Op.call { callee := Go.Callee.builtin Go.Builtin.len, args := #[Go.Operand.tmp 80], argTypes := #[22] }, type := 3, pos := "law.go:123", after := #[{ on := 31, ground := Go.Ground.data }, { on := 29, ground := Go.Ground.guard }], guard := some (29, false) }) (v := _) rfl (by kernel_rfl) (by kernel_rfl) (by kernel_rfl) (fun _ _ _ h => h) (by kernel_rfl) (Or.inl ⟨by rfl, ?hy33⟩) S10 ?rest33
  case hy33 => (intro W hSw; go_simp; try (with_reducible rfl))
  try simp only [Act.put, List.setIfInBounds_toArray, List.set_cons_zero, List.set_cons_succ]
  refine' wpAnyD_take (i := 33) (oi := { dst := some 82, op := Go.Op.indexAddr 22 (Go.Operand.tmp 79) (Go.Operand.tmp 81), type := 0, pos := "law.go:123", after := #[{ on := 30, ground := Go.Ground.data }, { on := 32, ground := Go.Ground.data }, { on := 29, ground := Go.Ground.guard }], guard := some (29, false) }) (v := _) rfl (by kernel_rfl) (by kernel_rfl) (by kernel_rfl) (fun _ _ _ h => h) (by kernel_rfl) (Or.inl ⟨by rfl, ?hy34⟩) S10 ?rest34
  case hy34 => (intro W hSw; obtain ⟨q1, q2, q3, q4⟩ := CO.out W hSw; go_simp; try (with_reducible rfl))
  try simp only [Act.put, List.setIfInBounds_toArray, List.set_cons_zero, List.set_cons_succ]
  refine' wpAnyD_take (i := 34) (oi := { dst := some 83, op := Go.Op.load 5 (Go.Operand.tmp 82), type := 5, pos := "law.go:123", after := #[{ on := 33, ground := Go.Ground.data }, { on := 29, ground := Go.Ground.guard }], guard := some (29, false) }) (v := _) rfl (by kernel_rfl) (by kernel_rfl) (by kernel_rfl) (fun _ _ _ h => h) (by kernel_rfl) (Or.inl ⟨by rfl, ?hy35⟩) S10 ?rest35
  case hy35 => (intro W hSw; obtain ⟨q1, q2, q3, q4⟩ := CO.out W hSw; go_simp; try (with_reducible rfl))
  try simp only [Act.put, List.setIfInBounds_toArray, List.set_cons_zero, List.set_cons_succ]
  refine' wpAnyD_take (i := 35) (oi := { dst := some 84, op := Go.Op.binOp Go.BinOp.neq 5 (Go.Operand.tmp 83) (Go.Operand.const (Go.Value.int Go.IntKind.u8 126)) 5, type := 4, pos := "law.go:123", after := #[{ on := 34, ground := Go.Ground.data }, { on := 29, ground := Go.Ground.guard }], guard := some (29, false) }) (v := _) rfl (by kernel_rfl) (by kernel_rfl) (by kernel_rfl) (fun _ _ _ h => h) (by kernel_rfl) (Or.inl ⟨by rfl, ?hy36⟩) S10 ?rest36
  case hy36 => (intro W hSw; go_simp; try (with_reducible rfl))
  try simp only [Act.put, List.setIfInBounds_toArray, List.set_cons_zero, List.set_cons_succ]
  refine' wpAnyD_take (i := 36) (oi := { dst := some 85, op := Go.Op.pick (Go.Operand.tmp 78) (Go.Operand.const (Go.Value.bool true)) (Go.Operand.tmp 84), type := 4, pos := "law.go:123", after := #[{ on := 29, ground := Go.Ground.data }, { on := 35, ground := Go.Ground.data }], guard := none }) (v := _) rfl (by kernel_rfl) (by kernel_rfl) (by kernel_rfl) (fun _ _ _ h => h) (by kernel_rfl) (Or.inl ⟨by rfl, ?hy37⟩) S10 ?rest37
  case hy37 => (intro W hSw; go_simp; try (with_reducible rfl))
  try simp only [Act.put, List.setIfInBounds_toArray, List.set_cons_zero, List.set_cons_succ]
  refine wpAnyD_done (by kernel_rfl) ?_ _
  have B710 := hid S10
  clear S0 S8 S9 S10 TX TY TZ CO hi1
  have BW10 := hid (BW7.out.trans (B710.out.mono BW7.out.size))
  have AX10 := hid (AX7.out.below B710.out)
  have AY10 := hid (AY7.out.below B710.out)
  have AZ10 := hid (AZ7.out.below B710.out)
  have FO10 := hid (owns_below FO7.out B710.out)
  obtain ⟨X, hX⟩ : ∃ X, lst (bget L) = X := ⟨_, rfl⟩
  obtain ⟨n, hn⟩ : ∃ n, X.length = n := ⟨_, rfl⟩
  have hnl : n ≤ 1048576 := by have h1 := lst_le (L := L); rw [hX, hn] at h1; have := HL0.out; omega
  have RX10 : Hid (w10.ownsRow w3.heap.size 43 5 vx n (fl EC X)) := by have := AX10.out.an.row; rw [hX, hn] at this; exact this
  have RZ10 : Hid (w10.ownsRow w6.heap.size 43 5 vz n (fl EC X)) := by have := AZ10.out.an.row; rw [hX, hn] at this; exact this
  have XR : Hid (∀ k, vx.ownBlock = some k → w3.heap.size ≤ k ∧ k < w4.heap.size) := fun k hk => ⟨(RX10.out.lt k hk).1, AX10.out.rng k hk⟩
  have ZR : Hid (∀ k, vz.ownBlock = some k → w6.heap.size ≤ k) := fun k hk => (RZ10.out.lt k hk).1
  have HN := hid hn
  obtain ⟨px, cx, rfl⟩ : ∃ p c, vx = .slice p n c := by
    have h := RX10.out
    rw [← hn] at h ⊢
    exact (owns_ls (E := EC) h).form
  obtain ⟨pz, cz, rfl⟩ : ∃ p c, vz = .slice p n c := by
    have h := RZ10.out
    rw [← hn] at h ⊢
    exact (owns_ls (E := EC) h).form
  clear hX hn AX7 AY7 AZ7 FO7 LO7 AX10 AZ10
  have XZ : Hid (∀ k, (Value.slice px n cx).ownBlock = some k → (Value.slice pz n cz).ownBlock ≠ some k) := fun k h1 h2 => by have a := XR.out k h1; have b := ZR.out k h2; have z := HZ6.out; omega
  go_wp2_with fail
  go_loopw [15] (fun s15 wr => ∃ k : Nat, k ≤ n ∧ s15 = .int .i64 k ∧ Hid (wr.ownsRow 0 43 5 (.slice px n cx) n (fl EC (mkd mk5 X k)) ∧ Kp (fun q => (.slice px n cx : Value).ownBlock = some q) w10 wr)) (fun s15 _ => n - (RowKit.intOf s15).toNat)
  case atStart => exact ⟨0, Nat.zero_le _, rfl, by rw [mkd_zero]; exact owns_base RX10.out (Nat.zero_le _), Kp.of_gr (Gr.refl _)⟩
  case round =>
    obtain ⟨k, hk, rfl, HI⟩ := hrel
    by_cases hlt : k < n
    · have hltz : (k : Int) < (n : Int) := by omega
      have hk0 : (0 : Int) ≤ (k : Int) := by omega
      obtain ⟨gx, rfl⟩ : ∃ b, px = some ⟨b, 0, none⟩ := by
        obtain ⟨_, ⟨_, h⟩ | ⟨b, cap', cur, hv, _⟩⟩ := HI.out.1
        · omega
        · simp only [Value.slice.injEq] at hv
          exact ⟨b, hv.1⟩
      have hln : (mkd mk5 X k).length = n := by rw [mkd_len (by rw [HN.out]; omega), HN.out]
      obtain ⟨d, x0, x1, x2, x3, x4, fr, z1⟩ := owns_five hln (by rw [hln]; exact hlt) HI.out.1
      have f0 := fr (k * 5)
      have f1 := fr (k * 5 + 1)
      have f2 := fr (k * 5 + 2)
      have f3' := fr (k * 5 + 3)
      have f4 := fr (k * 5 + 4)
      obtain ⟨h1, h2⟩ := owns_set5 mk5 (k := k) (by rw [hln]; exact hlt) HI.out.1
      rw [mkd_set (by rw [HN.out]; exact hlt)] at h1
      obtain ⟨W6, hW6⟩ : ∃ W, W = (((((wr.setCell ⟨gx, k * 5, none⟩ (.int .i64 0)).setCell ⟨gx, k * 5 + 1, none⟩ (.int .u64 0)).setCell ⟨gx, k * 5 + 2, none⟩ (.int .u64 0)).setCell ⟨gx, k * 5 + 3, none⟩ (.int .u64 0)).setCell ⟨gx, k * 5 + 4, none⟩ (.int .i64 (-5))) := ⟨_, rfl⟩
      have HR : Hid (W6.ownsRow 0 43 5 (.slice (some ⟨gx, 0, none⟩) n cx) n (fl EC (mkd mk5 X (k + 1))) ∧ Kp (fun q => (Value.slice (some ⟨gx, 0, none⟩) n cx).ownBlock = some q) w10 W6) := by
        rw [hW6]
        exact ⟨h1, HI.out.2.trans h2 (fun _ _ h => h)⟩
      have hwk : wrap64 ((k : Int) + 1) = ((k + 1 : Nat) : Int) := by unfold wrap64; omega
      clear h1 h2 fr hln
      go_upto_region 12 with fail
      rw [← hW6]
      clear hW6 x0 x1 x2 x3 x4 f0 f1 f2 f3' f4 z1
      go_wp2_with fail
      go_roundw
      case rel => exact ⟨k + 1, by omega, by first | go_num | rw [hwk] | rfl, HR.out⟩
      case measure =>
        (try rw [hwk])
        simp [RowKit.intOf]
        omega
    · have hltz : ¬ (k : Int) < (n : Int) := by omega
      have RM : Hid (wr.ownsRow 0 43 5 (.slice px n cx) n (fl EC (List.replicate n mk5))) := by
        have e : k = n := by omega
        have h := HI.out.1
        rw [e, mkd_all HN.out] at h
        exact h
      go_wp2_with (at_builtin; refine wpC2 (w := wr) rfl _ _ rfl (.slice px n cx) n (List.replicate n mk5) rfl RM.out (by simp) mk5 rfl hnl _ rfl _ ?_)
      intro va14 w14 hl14 hk14
      have LM14 : Hid (Ls EC w14 (.slice px n cx) (List.replicate n mk5)) := hl14.out
      have KM14 : Hid (Kp (fun q => (.slice px n cx : Value).ownBlock = some q) w10 w14) := HI.out.2.trans hk14.out (fun _ _ h => h)
      clear hl14 hk14 RM HI hltz hlt hk
      have RZ14 : Hid (w14.ownsRow w6.heap.size 43 5 (.slice pz n cz) n (fl EC X)) := owns_kp KM14.out RZ10.out (fun k hk e => XZ.out k e hk)
      go_wp2_with fail
      go_loopw [16] (fun s16 wr => ∃ k : Nat, k ≤ n ∧ s16 = .int .i64 k ∧ Hid (wr.ownsRow 0 43 5 (.slice pz n cz) n (fl EC (mkd mk6 X k)) ∧ Kp (fun q => (.slice pz n cz : Value).ownBlock = some q) w14 wr)) (fun s16 _ => n - (RowKit.intOf s16).toNat)
      case atStart => exact ⟨0, Nat.zero_le _, rfl, by rw [mkd_zero]; exact owns_base RZ14.out (Nat.zero_le _), Kp.of_gr (Gr.refl _)⟩
      case round =>
        obtain ⟨k, hk, rfl, HI⟩ := hrel
        by_cases hlt : k < n
        · have hltz : (k : Int) < (n : Int) := by omega
          have hk0 : (0 : Int) ≤ (k : Int) := by omega
          obtain ⟨gx, rfl⟩ : ∃ b, pz = some ⟨b, 0, none⟩ := by
            obtain ⟨_, ⟨_, h⟩ | ⟨b, cap', cur, hv, _⟩⟩ := HI.out.1
            · omega
            · simp only [Value.slice.injEq] at hv
              exact ⟨b, hv.1⟩
          have hln : (mkd mk6 X k).length = n := by rw [mkd_len (by rw [HN.out]; omega), HN.out]
          obtain ⟨d, x0, x1, x2, x3, x4, fr, z1⟩ := owns_five hln (by rw [hln]; exact hlt) HI.out.1
          have f0 := fr (k * 5)
          have f1 := fr (k * 5 + 1)
          have f2 := fr (k * 5 + 2)
          have f3' := fr (k * 5 + 3)
          have f4 := fr (k * 5 + 4)
          obtain ⟨h1, h2⟩ := owns_set5 mk6 (k := k) (by rw [hln]; exact hlt) HI.out.1
          rw [mkd_set (by rw [HN.out]; exact hlt)] at h1
          obtain ⟨W6, hW6⟩ : ∃ W, W = (((((wr.setCell ⟨gx, k * 5, none⟩ (.int .i64 0)).setCell ⟨gx, k * 5 + 1, none⟩ (.int .u64 0)).setCell ⟨gx, k * 5 + 2, none⟩ (.int .u64 0)).setCell ⟨gx, k * 5 + 3, none⟩ (.int .u64 0)).setCell ⟨gx, k * 5 + 4, none⟩ (.int .i64 (-6))) := ⟨_, rfl⟩
          have HR : Hid (W6.ownsRow 0 43 5 (.slice (some ⟨gx, 0, none⟩) n cz) n (fl EC (mkd mk6 X (k + 1))) ∧ Kp (fun q => (Value.slice (some ⟨gx, 0, none⟩) n cz).ownBlock = some q) w14 W6) := by
            rw [hW6]
            exact ⟨h1, HI.out.2.trans h2 (fun _ _ h => h)⟩
          have hwk : wrap64 ((k : Int) + 1) = ((k + 1 : Nat) : Int) := by unfold wrap64; omega
          clear h1 h2 fr hln
          go_upto_region 17 with fail
          rw [← hW6]
          clear hW6 x0 x1 x2 x3 x4 f0 f1 f2 f3' f4 z1
          go_wp2_with fail
          go_roundw
          case rel => exact ⟨k + 1, by omega, by first | go_num | rw [hwk] | rfl, HR.out⟩
          case measure =>
            (try rw [hwk])
            simp [RowKit.intOf]
            omega
        · have hltz : ¬ (k : Int) < (n : Int) := by omega
          have RM : Hid (wr.ownsRow 0 43 5 (.slice pz n cz) n (fl EC (List.replicate n mk6))) := by
            have e : k = n := by omega
            have h := HI.out.1
            rw [e, mkd_all HN.out] at h
            exact h
          go_wp2_with (at_builtin; refine wpC2 (w := wr) rfl _ _ rfl (.slice pz n cz) n (List.replicate n mk6) rfl RM.out (by simp) mk6 rfl hnl _ rfl _ ?_)
          intro va18 w18 hl18 hk18
          have LM18 : Hid (Ls EC w18 (.slice pz n cz) (List.replicate n mk6)) := hl18.out
          have KM18 : Hid (Kp (fun q => (.slice pz n cz : Value).ownBlock = some q) w14 w18) := HI.out.2.trans hk18.out (fun _ _ h => h)
          clear hl18 hk18 RM HI hltz hlt hk
          have LX18 : Hid (Ls EC w18 (.slice px n cx) (List.replicate n mk5)) := KM18.out.ls LM14.out (fun k hk e => XZ.out k hk e)
          have AY18 := hid ((AY10.out.kp KM14.out (fun k h1 h2 e => by have a := XR.out k e; have z := HZ6.out; omega)).kp KM18.out (fun k h1 h2 e => by have a := ZR.out k e; omega))
          have FO18 : Hid (w18.ownsRow 0 5 1 (.slice (some ⟨g, 0, none⟩) (L.length + 1) cap) (L.length + 1) (fl EB (L ++ [126]))) := owns_kp KM18.out (owns_kp KM14.out FO10.out (fun k hk e => by simp [Value.ownBlock] at hk; have a := XR.out k e; have b := GG.out; omega)) (fun k hk e => by simp [Value.ownBlock] at hk; have a := ZR.out k e; have b := GG.out; have z := HZ6.out; omega)
          have BW14 : Hid (Below w.heap.size w w14) := BW10.out.trans (KM14.out.below (B := w.heap.size) BW10.out.size (fun k hk => Nat.le_trans BW3.out.size (XR.out k hk).1))
          have BW18 : Hid (Below w.heap.size w w18) := BW14.out.trans (KM18.out.below (B := w.heap.size) BW14.out.size (fun k hk => Nat.le_trans BW6.out.size (ZR.out k hk)))
          go_wp2_with fail
          go_loopw [17] (fun s17 wr => ∃ k : Nat, k ≤ n ∧ s17 = .int .i64 k ∧ wr = w18) (fun s17 _ => n - (RowKit.intOf s17).toNat)
          case atStart => exact ⟨0, Nat.zero_le _, rfl, rfl⟩
          case round =>
            obtain ⟨k, hk, rfl, rfl⟩ := hrel
            by_cases hlt : k < n
            · have hltz : (k : Int) < (n : Int) := by omega
              have hk0 : (0 : Int) ≤ (k : Int) := by omega
              obtain ⟨ba, oa, ca, ea, za, -, -, -, -, xa⟩ := ls_atC LX18.out (j := k) (p := mk5) (by rw [List.getElem?_replicate, if_pos hlt])
              obtain ⟨bz, oz, ce, ez', zz, -, -, -, -, xz⟩ := ls_atC LM18.out (j := k) (p := mk6) (by rw [List.getElem?_replicate, if_pos hlt])
              simp only [Value.slice.injEq] at ea ez'
              obtain ⟨rfl, -, rfl⟩ := ea
              obtain ⟨rfl, -, rfl⟩ := ez'
              rw [show mk5.N = -5 from rfl] at xa
              rw [show mk6.N = -6 from rfl] at xz
              have hwk : wrap64 ((k : Int) + 1) = ((k + 1 : Nat) : Int) := by unfold wrap64; omega
              go_wp2_with fail
              go_roundw
              case rel => exact ⟨k + 1, by omega, by first | go_num | rw [hwk] | rfl, by first | trivial | rfl⟩
              case measure =>
                (try rw [hwk])
                simp [RowKit.intOf]
                omega
            · have hltz : ¬ (k : Int) < (n : Int) := by omega
              go_wp2_with fail
              refine (told_any _ (HG.out.below BW18.out) AY18.out.an (H1.out.below BW18.out) (by have := HL1.out; omega)).mono ?_
              rintro r w19 ⟨rfl, b19⟩
              have BW19 := hid (BW18.out.trans (b19.mono BW18.out.size))
              have FO19 := hid (owns_below FO18.out b19)
              clear b19
              by_cases ha0 : at_ < 0
              · go_wp2_with fail
                go_ret
                exact ⟨rfl, BW19.out⟩
              by_cases ha1 : at_ < (L.length : Int)
              rotate_left 1
              · have ha2 : (L.length : Int) ≤ at_ := by omega
                go_wp2_with fail
                go_ret
                exact ⟨rfl, BW19.out⟩
              obtain ⟨i, rfl⟩ : ∃ i : Nat, at_ = (i : Int) := ⟨at_.toNat, by omega⟩
              have hil : i < L.length := by omega
              have hi0 : (0 : Int) ≤ (i : Int) := by omega
              have hi2 : ¬ (L.length : Int) ≤ (i : Int) := by omega
              obtain ⟨y, hy⟩ : ∃ y, (L ++ [126])[i]? = some y := ⟨(L ++ [126])[i]'(by simp; omega), by simp⟩
              have q1 : w19.cell? ⟨g, i, none⟩ = some (bv y) := by
                have := FO19.out.cells (g := g) rfl i _ (fl_eb _ i y hy)
                rw [addA, Nat.zero_add] at this
                exact this
              have gl2 : g < w19.heap.size := (FO19.out.lt g rfl).2
              have f1 := owns_frozen0 FO19.out i
              obtain ⟨x, hx⟩ := xor_byte1 (y.toNat : Int)
              obtain ⟨n1, n2⟩ := owns_cell0 (q := i) (bv x) FO19.out
              rw [flB_set] at n1
              obtain ⟨N, hN⟩ : ∃ N, ((L ++ [126]).set i x).take L.length = N := ⟨_, rfl⟩
              have HNL : Hid (N.length = L.length) := by show _ = _; rw [← hN]; simp
              have LO20 : Hid (Ls EB (w19.setCell ⟨g, i, none⟩ (bv x)) (.slice (some ⟨g, 0, none⟩) L.length cap) N) := by
                show Ls _ _ _ _
                rw [← hN]
                exact HCUT.out _ _ (by simp) n1
              have BW20 : Hid (Below w.heap.size w (w19.setCell ⟨g, i, none⟩ (bv x))) := BW19.out.trans (n2.below (B := w.heap.size) BW19.out.size (fun k hk => by rw [hk]; exact Nat.le_trans B1.out.size GG.out.1))
              obtain ⟨W20, hW20⟩ : ∃ W, W = w19.setCell ⟨g, i, none⟩ (bv x) := ⟨_, rfl⟩
              rw [← hW20] at LO20 BW20
              clear n1 n2 hN hy
              go_upto_region 30 with fail
              rw [← hW20]
              clear hW20 q1 gl2 f1 hx
              go_wp2_with (at_builtin; refine wpBL rfl _ _ rfl W20.heap.size _ [] rfl (World.ownsRow_made W20 #[] 0 (Nat.le_refl _) (Nat.zero_le _) rfl) _ N rfl (Or.inl (LO20.out.below ((Gr.refl _).alloc _).below)) (by have := HL0.out; have := HNL.out; simp; omega) (by simp) ?_)
              intro v21 w21 h21 t21
              have hal := ((Gr.refl W20).alloc (.cells #[] 5)).below
              have B21 : Hid (Below W20.heap.size W20 w21) := hal.trans (t21.out.1.below hal.size (fun k hk => by simp [Value.ownBlock] at hk; omega))
              have LT21 : Hid (Ls EB w21 v21 N) := owns_ls (E := EB) h21.out
              have hgt := get_any w21 (LO20.out.below B21.out) (by have := HL0.out; have := HNL.out; omega)
              have BW21 := hid (BW20.out.trans (B21.out.mono BW20.out.size))
              clear h21 t21 hal
              go_wp2_with fail
              refine hgt.mono ?_
              rintro r w22 h22
              obtain ⟨vu, eu, rfl, hA22, b22⟩ := h22.ans
              have BW22 := hid (BW21.out.trans (b22.mono BW21.out.size))
              have htd := told_any w22 (HG.out.below BW22.out) hA22 (LT21.out.below b22) (by have := HL0.out; have := HNL.out; omega)
              clear hgt h22 hA22 b22
              go_wp2_with fail
              refine htd.mono ?_
              rintro r w23 ⟨rfl, b23⟩
              have BW23 := hid (BW22.out.trans (b23.mono BW22.out.size))
              clear htd b23
              go_wp2_with fail
              go_ret
              exact ⟨rfl, BW23.out⟩
end Go.Proofs.YtghofmhlmkpkcaaDoor.Wi
