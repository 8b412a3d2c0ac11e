import Derived.Test.YtghofmhlmkpkcaaDoorBBack0
namespace Go.Proofs.YtghofmhlmkpkcaaDoor.Wi
open Go.RowKit Go.Sort
attribute [local go_sem ↓] Go.wp_at_zero Go.wp_at_succ
set_option maxHeartbeats 16000000 in
set_option maxRecDepth 100000 in
theorem batchBack_any {v0 v1 : Value} {l m : List Cx} (sh : Int) (w : World) (hg : Ety w) (h0 : Ls EC w v0 l) (h1 : Ls EC w v1 m) (hl0 : l.length ≤ 1048576) (hl1 : m.length ≤ 1048576) :
    Calls Tryd.prog 4 #[v0, v1, .int .i64 sh] w fun e w' => e = .returned (.bool true) ∧ Below w.heap.size w w' := by
  have hmx : Tryd.prog.follows .mixedOrders = true := by kernel_rfl
  have htk := taken_any w hg
  have HG := hid hg
  have H0 := hid h0
  have H1 := hid h1
  have HL0 := hid hl0
  have HL1 := hid hl1
  obtain ⟨A, hA⟩ : ∃ A, rowL frs l = A := ⟨_, rfl⟩
  obtain ⟨B, hB⟩ : ∃ B, rowL frs m = B := ⟨_, rfl⟩
  have hgA : bgo none A = 0 := by rw [← hA]; exact rowL_ok l
  have hgB : bgo none B = 0 := by rw [← hB]; exact rowL_ok m
  have hlA : A.length ≤ 1048576 := by rw [← hA]; exact Nat.le_trans (rowL_len _ _) hl0
  have hlB : B.length ≤ 1048576 := by rw [← hB]; exact Nat.le_trans (rowL_len _ _) hl1
  have hXl := bts_le hgA (by omega)
  have hYl := bts_le hgB (by omega)
  have hxy := bts_eqb hgA hgB (by omega) (by omega)
  have hgx := bget_bts A (by omega) hgA
  have HMO : Hid (A ≠ [] → bget (bts A ++ [0]) = .error ((bts A).length, 32)) := fun h => bget_more A 0 h (by omega) hgA
  have HSH : Hid (∀ n, A ≠ [] → 0 < n → n < (bts A).length → ∃ q, bget ((bts A).take n) = .error (q, 30) ∧ q ≤ n) := fun n h a b => bget_short A n h (by omega) hgA a b
  have HNI := hid (bts_nil_iff A)
  have hpA := bput_ok hgA
  have hpB := bput_ok hgB
  obtain ⟨X, hX⟩ : ∃ X, bts A = X := ⟨_, rfl⟩
  obtain ⟨Y, hY⟩ : ∃ Y, bts B = Y := ⟨_, rfl⟩
  rw [hX] at hXl hxy hgx HMO HSH HNI hpA
  rw [hY] at hYl hxy hpB
  obtain ⟨q, hq⟩ : ∃ q, decide (A = B) = q := ⟨_, rfl⟩
  rw [hq] at hxy
  have HGA := hid hgA
  have HAB : Hid (A.length ≤ 1048576 ∧ B.length ≤ 1048576 ∧ X.length ≤ 52428810 ∧ Y.length ≤ 52428810) := by refine ⟨hlA, hlB, ?_, ?_⟩ <;> omega
  have HPA := hid hpA
  have HPB := hid hpB
  have HGX := hid hgx
  have HQ := hid hq
  have HRA := hid hA
  have HRB := hid hB
  clear hg h0 h1 hl0 hl1 hgA hgB hlA hlB hXl hYl hX hY hpA hpB hgx hq hA hB
  go_enter Tryd.func4, Tryd.ntmps4
  go_wp2_with fail
  refine htk.mono ?_
  rintro r w1 ⟨rfl, b1⟩
  have B1 := hid b1
  have E1 : Hid (Ety w1) := HG.out.below b1
  have hr0 := row_any w1 (H0.out.below b1) HL0.out
  rw [HRA.out] at hr0
  clear htk b1
  go_wp2_with fail
  refine hr0.mono ?_
  rintro r w2 ⟨da, rfl, hda, b2⟩
  have OA2 := hid hda
  have B2 := hid b2
  have hr1 := row_any w2 ((H1.out.below B1.out).below b2) HL1.out
  rw [HRB.out] at hr1
  clear hr0 hda b2
  go_wp2_with fail
  refine hr1.mono ?_
  rintro r w3 ⟨db, rfl, hdb, b3⟩
  have OA3 := hid (owns_below OA2.out b3)
  have OB3 := hid hdb
  have B3 := hid b3
  have hp0 := put_any w3 (owns_ls (E := EC) OA3.out) (owned_cap OA3.out) (by have := HAB.out; omega)
  rw [HPA.out] at hp0
  clear hr1 hdb b3
  go_wp2_with fail
  refine hp0.mono ?_
  rintro r w4 ⟨dx, rfl, hdx, b4⟩
  have OA4 := hid (owns_below OA3.out b4)
  have OB4 := hid (owns_below OB3.out b4)
  have OX4 := hid hdx
  have B4 := hid b4
  have hp1 := put_any w4 (owns_ls (E := EC) OB4.out) (owned_cap OB4.out) (by have := HAB.out; omega)
  rw [HPB.out] at hp1
  clear hp0 hdx b4
  go_wp2_with fail
  refine hp1.mono ?_
  rintro r w5 ⟨dy, rfl, hdy, b5⟩
  have OA5 := hid (owns_below OA4.out b5)
  have OB5 := hid (owns_below OB4.out b5)
  have OX5 := hid (owns_below OX4.out b5)
  have B5 := hid (B4.out.trans (b5.mono B4.out.size))
  have BW5 : Hid (Below w.heap.size w w5) := B1.out.trans ((B2.out.trans ((B3.out.trans (B5.out.mono B3.out.size)).mono B2.out.size)).mono B1.out.size)
  have S0 : Ls EB w5.drew dx X ∧ Ls EB w5.drew dy Y := ⟨(owns_ls (E := EB) OX5.out).below (Gr.refl w5).drew.below, (owns_ls (E := EB) hdy).below (Gr.refl w5).drew.below⟩
  have hsm := same_any w5.drew ((owns_ls (E := EC) OA5.out).below (Gr.refl w5).drew.below) ((owns_ls (E := EC) OB5.out).below (Gr.refl w5).drew.below) (by have := HAB.out; omega)
  rw [HQ.out] at hsm
  obtain ⟨px, cx, hfx⟩ := (owns_ls (E := EB) OX5.out).form
  obtain ⟨py, cy, hfy⟩ := (owns_ls (E := EB) hdy).form
  obtain ⟨pa, ca, hfa⟩ := (owns_ls (E := EC) OA5.out).form
  obtain ⟨pb, cb, hfb⟩ := (owns_ls (E := EC) OB5.out).form
  subst hfx hfy hfa hfb
  clear hp1 hdy b5
  go_upto_region 7 with fail
  refine wp_regionD (S := fun W => Ls EB W (.slice px X.length cx) X ∧ Ls EB W (.slice py Y.length cy) Y) (D := []) hmx ?_
  refine' wpAnyD_take (i := 0) (oi := { dst := some 35, op := Go.Op.move (Go.Operand.tmp 10), type := 29, pos := "outright.go:47", after := #[], guard := none }) (v := _) rfl (by kernel_rfl) (by kernel_rfl) (by kernel_rfl) (fun _ _ _ h => h) (by kernel_rfl) (Or.inl ⟨by rfl, ?hy1⟩) S0 ?rest1
  case hy1 => (intro W hSw; (try dsimp only at hSw); have hc1 := to_text hSw.1; have hc2 := to_text hSw.2; go_simp; try (with_reducible rfl))
  try simp only [Act.put, List.setIfInBounds_toArray, List.set_cons_zero, List.set_cons_succ]
  refine' wpAnyD_take (i := 1) (oi := { dst := some 36, op := Go.Op.binOp Go.BinOp.neq 29 (Go.Operand.tmp 35) (Go.Operand.const (Go.Value.int Go.IntKind.i64 0)) 29, type := 4, pos := "outright.go:47", after := #[{ on := 0, ground := Go.Ground.data }], guard := none }) (v := _) rfl (by kernel_rfl) (by kernel_rfl) (by kernel_rfl) (fun _ _ _ h => h) (by kernel_rfl) (Or.inl ⟨by rfl, ?hy2⟩) S0 ?rest2
  case hy2 => (intro W hSw; (try dsimp only at hSw); have hc1 := to_text hSw.1; have hc2 := to_text hSw.2; go_simp; try (with_reducible rfl))
  try simp only [Act.put, List.setIfInBounds_toArray, List.set_cons_zero, List.set_cons_succ]
  refine' wpAnyD_take (i := 2) (oi := { dst := some 37, op := Go.Op.move (Go.Operand.tmp 36), type := 4, pos := "outright.go:47", after := #[{ on := 1, ground := Go.Ground.data }], guard := none }) (v := _) rfl (by kernel_rfl) (by kernel_rfl) (by kernel_rfl) (fun _ _ _ h => h) (by kernel_rfl) (Or.inl ⟨by rfl, ?hy3⟩) S0 ?rest3
  case hy3 => (intro W hSw; (try dsimp only at hSw); have hc1 := to_text hSw.1; have hc2 := to_text hSw.2; go_simp; try (with_reducible rfl))
  try simp only [Act.put, List.setIfInBounds_toArray, List.set_cons_zero, List.set_cons_succ]
  refine' wpAnyD_take (i := 3) (oi := { dst := some 38, op := Go.Op.move (Go.Operand.tmp 12), type := 29, pos := "outright.go:47", after := #[{ on := 2, ground := Go.Ground.guard }], guard := some (2, false) }) (v := _) rfl (by kernel_rfl) (by kernel_rfl) (by kernel_rfl) (fun _ _ _ h => h) (by kernel_rfl) (Or.inl ⟨by rfl, ?hy4⟩) S0 ?rest4
  case hy4 => (intro W hSw; (try dsimp only at hSw); have hc1 := to_text hSw.1; have hc2 := to_text hSw.2; go_simp; try (with_reducible rfl))
  try simp only [Act.put, List.setIfInBounds_toArray, List.set_cons_zero, List.set_cons_succ]
  refine' wpAnyD_take (i := 4) (oi := { dst := some 39, op := Go.Op.binOp Go.BinOp.neq 29 (Go.Operand.tmp 38) (Go.Operand.const (Go.Value.int Go.IntKind.i64 0)) 29, type := 4, pos := "outright.go:47", after := #[{ on := 3, ground := Go.Ground.data }, { on := 2, ground := Go.Ground.guard }], guard := some (2, false) }) (v := _) rfl (by kernel_rfl) (by kernel_rfl) (by kernel_rfl) (fun _ _ _ h => h) (by kernel_rfl) (Or.inl ⟨by rfl, ?hy5⟩) S0 ?rest5
  case hy5 => (intro W hSw; (try dsimp only at hSw); have hc1 := to_text hSw.1; have hc2 := to_text hSw.2; go_simp; try (with_reducible rfl))
  try simp only [Act.put, List.setIfInBounds_toArray, List.set_cons_zero, List.set_cons_succ]
  refine' wpAnyD_take (i := 5) (oi := { dst := some 40, op := Go.Op.pick (Go.Operand.tmp 37) (Go.Operand.const (Go.Value.bool true)) (Go.Operand.tmp 39), type := 4, pos := "outright.go:47", after := #[{ on := 2, ground := Go.Ground.data }, { on := 4, ground := Go.Ground.data }], guard := none }) (v := _) rfl (by kernel_rfl) (by kernel_rfl) (by kernel_rfl) (fun _ _ _ h => h) (by kernel_rfl) (Or.inl ⟨by rfl, ?hy6⟩) S0 ?rest6
  case hy6 => (intro W hSw; (try dsimp only at hSw); have hc1 := to_text hSw.1; have hc2 := to_text hSw.2; go_simp; try (with_reducible rfl))
  try simp only [Act.put, List.setIfInBounds_toArray, List.set_cons_zero, List.set_cons_succ]
  refine' wpAnyD_take (i := 6) (oi := { dst := some 41, op := Go.Op.move (Go.Operand.tmp 40), type := 4, pos := "outright.go:47", after := #[{ on := 5, ground := Go.Ground.data }, { on := 2, ground := Go.Ground.chain }], guard := none }) (v := _) rfl (by kernel_rfl) (by kernel_rfl) (by kernel_rfl) (fun _ _ _ h => h) (by kernel_rfl) (Or.inl ⟨by rfl, ?hy7⟩) S0 ?rest7
  case hy7 => (intro W hSw; (try dsimp only at hSw); have hc1 := to_text hSw.1; have hc2 := to_text hSw.2; go_simp; try (with_reducible rfl))
  try simp only [Act.put, List.setIfInBounds_toArray, List.set_cons_zero, List.set_cons_succ]
  refine' wpAnyD_take (i := 7) (oi := { dst := some 42, op := Go.Op.move (Go.Operand.tmp 9), type := 22, pos := "outright.go:47", after := #[{ on := 6, ground := Go.Ground.guard }], guard := some (6, false) }) (v := _) rfl (by kernel_rfl) (by kernel_rfl) (by kernel_rfl) (fun _ _ _ h => h) (by kernel_rfl) (Or.inl ⟨by rfl, ?hy8⟩) S0 ?rest8
  case hy8 => (intro W hSw; (try dsimp only at hSw); have hc1 := to_text hSw.1; have hc2 := to_text hSw.2; go_simp; try (with_reducible rfl))
  try simp only [Act.put, List.setIfInBounds_toArray, List.set_cons_zero, List.set_cons_succ]
  refine' wpAnyD_take (i := 8) (oi := { dst := some 43, op := Go.Op.convert 22 9 (Go.Operand.tmp 42), type := 9, pos := "outright.go:47", after := #[{ on := 7, ground := Go.Ground.data }, { on := 6, ground := Go.Ground.guard }], guard := some (6, false) }) (v := _) rfl (by kernel_rfl) (by kernel_rfl) (by kernel_rfl) (fun _ _ _ h => h) (by kernel_rfl) (Or.inl ⟨by rfl, ?hy9⟩) S0 ?rest9
  case hy9 => (intro W hSw; (try dsimp only at hSw); have hc1 := to_text hSw.1; have hc2 := to_text hSw.2; go_simp; try (with_reducible rfl))
  try simp only [Act.put, List.setIfInBounds_toArray, List.set_cons_zero, List.set_cons_succ]
  refine' wpAnyD_take (i := 9) (oi := { dst := some 44, op := Go.Op.move (Go.Operand.tmp 11), type := 22, pos := "outright.go:47", after := #[{ on := 6, ground := Go.Ground.guard }], guard := some (6, false) }) (v := _) rfl (by kernel_rfl) (by kernel_rfl) (by kernel_rfl) (fun _ _ _ h => h) (by kernel_rfl) (Or.inl ⟨by rfl, ?hy10⟩) S0 ?rest10
  case hy10 => (intro W hSw; (try dsimp only at hSw); have hc1 := to_text hSw.1; have hc2 := to_text hSw.2; go_simp; try (with_reducible rfl))
  try simp only [Act.put, List.setIfInBounds_toArray, List.set_cons_zero, List.set_cons_succ]
  refine' wpAnyD_take (i := 10) (oi := { dst := some 45, op := Go.Op.convert 22 9 (Go.Operand.tmp 44), type := 9, pos := "outright.go:47", after := #[{ on := 9, ground := Go.Ground.data }, { on := 6, ground := Go.Ground.guard }], guard := some (6, false) }) (v := _) rfl (by kernel_rfl) (by kernel_rfl) (by kernel_rfl) (fun _ _ _ h => h) (by kernel_rfl) (Or.inl ⟨by rfl, ?hy11⟩) S0 ?rest11
  case hy11 => (intro W hSw; (try dsimp only at hSw); have hc1 := to_text hSw.1; have hc2 := to_text hSw.2; go_simp; try (with_reducible rfl))
  try simp only [Act.put, List.setIfInBounds_toArray, List.set_cons_zero, List.set_cons_succ]
  refine' wpAnyD_take (i := 11) (oi := { dst := some 46, op := Go.Op.binOp Go.BinOp.eql 9 (Go.Operand.tmp 43) (Go.Operand.tmp 45) 9, type := 4, pos := "outright.go:47", after := #[{ on := 8, ground := Go.Ground.data }, { on := 10, ground := Go.Ground.data }, { on := 6, ground := Go.Ground.guard }], guard := some (6, false) }) (v := _) rfl (by kernel_rfl) (by kernel_rfl) (by kernel_rfl) (fun _ _ _ h => h) (by kernel_rfl) (Or.inl ⟨by rfl, ?hy12⟩) S0 ?rest12
  case hy12 => (intro W hSw; (try dsimp only at hSw); have hc1 := to_text hSw.1; have hc2 := to_text hSw.2; go_simp; try (with_reducible rfl))
  try simp only [Act.put, List.setIfInBounds_toArray, List.set_cons_zero, List.set_cons_succ]
  refine' wpAnyD_take (i := 12) (oi := { dst := some 47, op := Go.Op.move (Go.Operand.tmp 7), type := 24, pos := "outright.go:47", after := #[{ on := 6, ground := Go.Ground.guard }], guard := some (6, false) }) (v := _) rfl (by kernel_rfl) (by kernel_rfl) (by kernel_rfl) (fun _ _ _ h => h) (by kernel_rfl) (Or.inl ⟨by rfl, ?hy13⟩) S0 ?rest13
  case hy13 => (intro W hSw; (try dsimp only at hSw); have hc1 := to_text hSw.1; have hc2 := to_text hSw.2; go_simp; try (with_reducible rfl))
  try simp only [Act.put, List.setIfInBounds_toArray, List.set_cons_zero, List.set_cons_succ]
  refine' wpAnyD_take (i := 13) (oi := { dst := some 48, op := Go.Op.move (Go.Operand.tmp 8), type := 24, pos := "outright.go:47", after := #[{ on := 6, ground := Go.Ground.guard }], guard := some (6, false) }) (v := _) rfl (by kernel_rfl) (by kernel_rfl) (by kernel_rfl) (fun _ _ _ h => h) (by kernel_rfl) (Or.inl ⟨by rfl, ?hy14⟩) S0 ?rest14
  case hy14 => (intro W hSw; (try dsimp only at hSw); have hc1 := to_text hSw.1; have hc2 := to_text hSw.2; go_simp; try (with_reducible rfl))
  try simp only [Act.put, List.setIfInBounds_toArray, List.set_cons_zero, List.set_cons_succ]
  refine wpAnyD_one (i := 14) (o := { dst := some 49, op := Go.Op.call { callee := Go.Callee.value (Go.Operand.func 12), args := #[Go.Operand.tmp 47, Go.Operand.tmp 48], argTypes := #[24, 24] }, type := 4, pos := "outright.go:47", after := #[{ on := 12, ground := Go.Ground.data }, { on := 13, ground := Go.Ground.data }, { on := 6, ground := Go.Ground.chain }, { on := 6, ground := Go.Ground.guard }], guard := some (6, false) }) (by kernel_rfl) rfl (fun K hK => ?_)
  rw [if_pos (by kernel_rfl)]
  go_simp
  refine hsm.mono ?_
  rintro e w6 ⟨rfl, g6⟩
  have G6 := hid ((Gr.refl w5).drew.trans g6)
  have S6 : Ls EB w6 (.slice px X.length cx) X ∧ Ls EB w6 (.slice py Y.length cy) Y := ⟨S0.1.below g6.below, S0.2.below g6.below⟩
  dsimp only
  refine hK.out _ _ (fun hD => S6) ?_
  clear hK K
  try simp only [Act.put, List.setIfInBounds_toArray, List.set_cons_zero, List.set_cons_succ]
  refine wpAnyD_one (i := 15) (o := { dst := some 50, op := Go.Op.binOp Go.BinOp.neq 4 (Go.Operand.tmp 46) (Go.Operand.tmp 49) 4, type := 4, pos := "outright.go:47", after := #[{ on := 11, ground := Go.Ground.data }, { on := 14, ground := Go.Ground.data }, { on := 6, ground := Go.Ground.guard }], guard := some (6, false) }) (by kernel_rfl) rfl (fun K hK => ?_)
  rw [if_pos (by kernel_rfl)]
  go_simp
  refine hK.out _ _ (fun hD => S6) ?_
  clear hK K
  try simp only [Act.put, List.setIfInBounds_toArray, List.set_cons_zero, List.set_cons_succ]
  refine wpAnyD_one (i := 16) (o := { dst := some 51, op := Go.Op.pick (Go.Operand.tmp 41) (Go.Operand.const (Go.Value.bool true)) (Go.Operand.tmp 50), type := 4, pos := "outright.go:47", after := #[{ on := 6, ground := Go.Ground.data }, { on := 15, ground := Go.Ground.data }], guard := none }) (by kernel_rfl) rfl (fun K hK => ?_)
  rw [if_pos (by kernel_rfl)]
  go_simp
  refine hK.out _ _ (fun hD => S6) ?_
  clear hK K
  try simp only [Act.put, List.setIfInBounds_toArray, List.set_cons_zero, List.set_cons_succ]
  refine wpAnyD_done (by kernel_rfl) ?_ _
  have LX6 := hid S6.1
  have OA6 := hid (owns_below OA5.out G6.out.below)
  have OX6 := hid (owns_below OX5.out G6.out.below)
  have BW6 := hid (BW5.out.trans (G6.out.below.mono BW5.out.size))
  have hgt := get_any w6 LX6.out (by have := HAB.out; omega)
  rw [HGX.out] at hgt
  clear S0 S6 hsm
  go_wp2_with fail
  refine hgt.mono ?_
  rintro r w7 ⟨b7, dk, rfl, hdk⟩
  have BW7 := hid (BW6.out.trans (b7.mono BW6.out.size))
  have OA7 := hid (owns_below OA6.out b7)
  have OX7 := hid (owns_below OX6.out b7)
  have hsm := same_any w7 (owns_ls (E := EC) hdk) (owns_ls (E := EC) OA7.out) (by have := HAB.out; omega)
  rw [decide_eq_true rfl] at hsm
  obtain ⟨pk, ck, hfk⟩ := (owns_ls (E := EC) hdk).form
  subst hfk
  clear hgt hdk b7
  go_wp2_with fail
  refine hsm.mono ?_
  rintro r w8 ⟨rfl, g8⟩
  have BW8 := hid (BW7.out.trans (g8.below.mono BW7.out.size))
  have OA8 := hid (owns_below OA7.out g8.below)
  have OX8 := hid (owns_below OX7.out g8.below)
  clear hsm g8
  by_cases hA0 : A.length = 0
  · have hAn : A = [] := List.eq_nil_of_length_eq_zero hA0
    have hX0 : X.length = 0 := by rw [HNI.out.2 hAn]; rfl
    have zA : (A.length : Int) = 0 := by omega
    have zX : (X.length : Int) = 0 := by omega
    have nA : ((A.length : Int) == 0) = true := by simpa using zA
    have nX : ((X.length : Int) == 0) = true := by simpa using zX
    go_wp2_with fail
    go_ret
    exact ⟨rfl, BW8.out⟩
  have hAn : Hid (A ≠ []) := fun e => hA0 (by rw [e]; rfl)
  have hX0 : ¬ X.length = 0 := fun e => hAn.out (HNI.out.1 (List.eq_nil_of_length_eq_zero e))
  have zA : ¬ (A.length : Int) = 0 := by omega
  have zX : ¬ (X.length : Int) = 0 := by omega
  have nA : ((A.length : Int) == 0) = false := by simpa using zA
  have nX : ((X.length : Int) == 0) = false := by simpa using zX
  go_wp2_with (at_builtin; refine wpBL rfl _ _ rfl w8.heap.size _ [] rfl (World.ownsRow_made w8 #[] 0 (Nat.le_refl _) (Nat.zero_le _) rfl) _ X rfl (Or.inl ((owns_ls (E := EB) OX8.out).below ((Gr.refl _).alloc _).below)) (by have := HAB.out; simp; omega) (by simp) ?_)
  intro v9 w9 h9 t9
  have hal := ((Gr.refl w8).alloc (.cells #[] 5)).below
  have B9 : Hid (Below w8.heap.size w8 w9) := hal.trans (t9.out.1.below hal.size (fun k hk => by simp [Value.ownBlock] at hk; omega))
  have O9 := hid (owns_re h9.out (by simp) (by simp) : w9.ownsRow w8.heap.size 5 1 v9 X.length (fl EB X))
  clear h9 t9 hal
  go_wp2_with (at_builtin; refine wpB1 rfl _ _ rfl v9 X rfl (owns_base O9.out (Nat.zero_le _)) 0 rfl (by have := HAB.out; omega) _ rfl _ ?_)
  intro v10 w10 h10 t10
  have B10 : Hid (Below w8.heap.size w8 w10) := B9.out.trans (t10.out.1.below B9.out.size (fun k hk => (O9.out.lt k hk).1))
  have L10 := hid (ow_ls h10.out)
  have hgt := get_any w10 L10.out (by rw [List.length_append]; have := HAB.out; simp; omega)
  rw [HMO.out hAn.out] at hgt
  clear h10 t10
  go_wp2_with fail
  refine hgt.mono ?_
  rintro r w11 ⟨b11, fb, rfl, hfb, hf⟩
  have B11 := hid (B10.out.trans (b11.mono B10.out.size))
  have BW11 := hid (BW8.out.trans (B11.out.mono BW8.out.size))
  have hft := fault_any w11 (HG.out.below BW11.out) hf
  clear hgt b11 hf hfb
  go_wp2_with fail
  refine hft.mono ?_
  rintro r w12 ⟨rfl, b12⟩
  have B12 := hid (B11.out.trans (b12.mono B11.out.size))
  have BW12 := hid (BW8.out.trans (B12.out.mono BW8.out.size))
  have OA12 := hid (owns_below OA8.out B12.out)
  have OX12 := hid (owns_below OX8.out B12.out)
  clear hft b12
  have HTL : Hid (∀ (W : World) (f : Nat), True) := fun _ _ => trivial
  by_cases hs : 0 < sh ∧ sh < (X.length : Int)
  · obtain ⟨hs0, hs1⟩ := hs
    obtain ⟨sn, hsn⟩ : ∃ sn : Nat, sh = sn := ⟨sh.toNat, by omega⟩
    subst hsn
    obtain ⟨e1, hq1, hq2⟩ := HSH.out sn hAn.out (by omega) (by omega)
    have hcx := (owned_cap OX12.out _ _ _ rfl)
    have hLx : Ls EB w12 (.slice px sn cx) (X.take sn) := by
      rcases owns_ls (E := EB) OX12.out with ⟨h, _⟩ | ⟨b', off', c', hv, hb, ht⟩
      · rw [h] at hX0; exact absurd rfl hX0
      · cases hv
        exact Ls.cut (n := X.length) (c := cx) (Or.inr ⟨b', off', cx, rfl, hb, ht⟩) (by omega) cx
    have hgt := get_any w12 hLx (by rw [List.length_take]; have := HAB.out; omega)
    rw [hq1] at hgt
    have hz0 : (0 : Int) ≤ (sn : Int) := by omega
    have hz1 : (sn : Int) ≤ (cx : Int) := by omega
    clear hLx hq1 hcx
    go_wp2_with fail
    refine hgt.mono ?_
    rintro r w13 ⟨b13, fb2, rfl, hfb2, hf2⟩
    have BW13 := hid (BW12.out.trans (b13.mono BW12.out.size))
    have hft := fault_any w13 (HG.out.below BW13.out) hf2
    have B13 := hid b13
    clear hgt b13 hf2 hfb2
    go_wp2_with fail
    refine hft.mono ?_
    rintro r w14 ⟨rfl, b14⟩
    have BW14 := hid (BW13.out.trans (b14.mono BW13.out.size))
    have OA14 := hid (owns_below (owns_below OA12.out B13.out) b14)
    have hz2 : ¬ (e1 : Int) < 0 := by omega
    have hz3 : ¬ (sn : Int) < (e1 : Int) := by omega
    clear hft b14
    by_cases hA2 : A.length < 2
    · have zA2 : (A.length : Int) < 2 := by omega
      go_wp2_with fail
      go_ret
      exact ⟨rfl, BW14.out⟩
    · have zA2 : ¬ (A.length : Int) < 2 := by omega
      obtain ⟨a, b, r', hAe⟩ : ∃ a b r, A = a :: b :: r := by
        match A, hA2 with
        | a :: b :: r, _ => exact ⟨a, b, r, rfl⟩
        | [a], h => exact absurd (by simp) h
        | [], h => exact absurd (by simp) h
      have HAE := hid hAe
      have zA1 : (1 : Int) < (A.length : Int) := by omega
      have zA0 : (0 : Int) < (A.length : Int) := by omega
      obtain ⟨_, ⟨_, h⟩ | ⟨g, cap, cur, hv, hgs, hh, hn, _, _, _⟩⟩ := OA14.out
      · exact absurd h hA0
      cases hv
      have HT : Hid (∀ j u, (fl EC A)[j]? = some u → w14.cell? ⟨g, j, none⟩ = some u) := fun j u hj => by
        rcases owns_ls (E := EC) OA14.out with ⟨h, _⟩ | ⟨b', off', c', hv, hb, ht⟩
        · rw [h] at hA0; exact absurd rfl hA0
        · cases hv
          simpa using ht j u hj
      have x0 : w14.cell? ⟨g, 0, none⟩ = some (.int .i64 a.pl) := by simpa using HT.out 0 _ (by rw [HAE.out]; rfl)
      have f0 := (tk_store hh).2 0
      have x1 : w14.cell? ⟨g, 1, none⟩ = some (.int .u64 (a.A : Nat)) := by simpa using HT.out 1 _ (by rw [HAE.out]; rfl)
      have f1 := (tk_store hh).2 1
      have x2 : w14.cell? ⟨g, 2, none⟩ = some (.int .u64 (a.B : Nat)) := by simpa using HT.out 2 _ (by rw [HAE.out]; rfl)
      have f2 := (tk_store hh).2 2
      have x3 : w14.cell? ⟨g, 3, none⟩ = some (.int .u64 (a.C : Nat)) := by simpa using HT.out 3 _ (by rw [HAE.out]; rfl)
      have f3 := (tk_store hh).2 3
      have x4 : w14.cell? ⟨g, 4, none⟩ = some (.int .i64 a.N) := by simpa using HT.out 4 _ (by rw [HAE.out]; rfl)
      have f4 := (tk_store hh).2 4
      have x5 : w14.cell? ⟨g, 5, none⟩ = some (.int .i64 b.pl) := by simpa using HT.out 5 _ (by rw [HAE.out]; rfl)
      have f5 := (tk_store hh).2 5
      have x6 : w14.cell? ⟨g, 6, none⟩ = some (.int .u64 (b.A : Nat)) := by simpa using HT.out 6 _ (by rw [HAE.out]; rfl)
      have f6 := (tk_store hh).2 6
      have x7 : w14.cell? ⟨g, 7, none⟩ = some (.int .u64 (b.B : Nat)) := by simpa using HT.out 7 _ (by rw [HAE.out]; rfl)
      have f7 := (tk_store hh).2 7
      have x8 : w14.cell? ⟨g, 8, none⟩ = some (.int .u64 (b.C : Nat)) := by simpa using HT.out 8 _ (by rw [HAE.out]; rfl)
      have f8 := (tk_store hh).2 8
      have x9 : w14.cell? ⟨g, 9, none⟩ = some (.int .i64 b.N) := by simpa using HT.out 9 _ (by rw [HAE.out]; rfl)
      have f9 := (tk_store hh).2 9
      have HGL : Hid (g < w14.heap.size) := (Array.getElem?_eq_some_iff.1 hh).1
      have hgl := HGL.out
      obtain ⟨W1, hW1⟩ : ∃ W, W = w14.alloc (.cells #[.int .i64 a.pl, .int .u64 (a.A : Nat), .int .u64 (a.B : Nat), .int .u64 (a.C : Nat), .int .i64 a.N] 43) := ⟨_, rfl⟩
      obtain ⟨B1', hB1'⟩ : ∃ B, B = w14.heap.size := ⟨_, rfl⟩
      have G1 : Gr w14 W1 := by rw [hW1]; exact (Gr.refl _).alloc _
      have hbx : W1.heap[B1']? = some (.cells #[.int .i64 a.pl, .int .u64 (a.A : Nat), .int .u64 (a.B : Nat), .int .u64 (a.C : Nat), .int .i64 a.N] 43 (0, 0)) := by rw [hW1, hB1']; exact heap_new' _ _
      have hg1 := (G1.below.block g HGL.out).trans hh
      have LW1 := hid ((owns_ls (E := EC) OA14.out).below G1.below)
      have HNE : Hid (B1' ≠ g) := by show _ ≠ _; rw [hB1']; have := HGL.out; omega
      have HGS : Hid (w1.heap.size ≤ g ∧ A.length ≤ ca) := ⟨hgs, hn⟩
      have HG1 := hid G1
      have HHG := hid hg1
      have HBX := hid hbx
      have m0 := (HG1.out.cell (o := 0) HGL.out).trans x0
      have m1 := (HG1.out.cell (o := 1) HGL.out).trans x1
      have m2 := (HG1.out.cell (o := 2) HGL.out).trans x2
      have m3 := (HG1.out.cell (o := 3) HGL.out).trans x3
      have m4 := (HG1.out.cell (o := 4) HGL.out).trans x4
      have m5 := (HG1.out.cell (o := 5) HGL.out).trans x5
      have m6 := (HG1.out.cell (o := 6) HGL.out).trans x6
      have m7 := (HG1.out.cell (o := 7) HGL.out).trans x7
      have m8 := (HG1.out.cell (o := 8) HGL.out).trans x8
      have m9 := (HG1.out.cell (o := 9) HGL.out).trans x9
      clear G1 hbx hg1 hgs hn hAe HT
      have M0 := hid m0
      have M1 := hid m1
      have M2 := hid m2
      have M3 := hid m3
      have M4 := hid m4
      have M5 := hid m5
      have M6 := hid m6
      have M7 := hid m7
      have M8 := hid m8
      have M9 := hid m9
      clear m0 m1 m2 m3 m4 m5 m6 m7 m8 m9
      go_upto_region 26 with fail
      rw [← hW1, ← hB1']
      clear hW1 hB1' x0 f0 x1 f1 x2 f2 x3 f3 x4 f4 x5 f5 x6 f6 x7 f7 x8 f8 x9 f9 hgl
      obtain ⟨y, yf⟩ := tk_store HHG.out
      have g0 := yf 0
      have g1 := yf 1
      have g2 := yf 2
      have g3 := yf 3
      have g4 := yf 4
      have g5 := yf 5
      have g6 := yf 6
      have g7 := yf 7
      have g8 := yf 8
      have g9 := yf 9
      have m0 := M0.out
      have m1 := M1.out
      have m2 := M2.out
      have m3 := M3.out
      have m4 := M4.out
      have m5 := M5.out
      have m6 := M6.out
      have m7 := M7.out
      have m8 := M8.out
      have m9 := M9.out
      have gl1 := (Array.getElem?_eq_some_iff.1 HHG.out).1
      clear y yf
      obtain ⟨W2, hW2⟩ : ∃ W, W = (((((W1.setCell ⟨g, 0, none⟩ (.int .i64 b.pl)).setCell ⟨g, 1, none⟩ (.int .u64 (b.A : Nat))).setCell ⟨g, 2, none⟩ (.int .u64 (b.B : Nat))).setCell ⟨g, 3, none⟩ (.int .u64 (b.C : Nat))).setCell ⟨g, 4, none⟩ (.int .i64 b.N)) := ⟨_, rfl⟩
      have k2 : W2.heap[g]? = some (.cells (((((cur.setIfInBounds 0 (.int .i64 b.pl)).setIfInBounds 1 (.int .u64 (b.A : Nat))).setIfInBounds 2 (.int .u64 (b.B : Nat))).setIfInBounds 3 (.int .u64 (b.C : Nat))).setIfInBounds 4 (.int .i64 b.N)) 43 (0, 0)) ∧ Kp (fun k => k = g) W1 W2 := by
        obtain ⟨h0, k0⟩ := tk_set HHG.out 0 (.int .i64 b.pl)
        obtain ⟨h1, k1⟩ := tk_set h0 1 (.int .u64 (b.A : Nat))
        obtain ⟨h2, k2⟩ := tk_set h1 2 (.int .u64 (b.B : Nat))
        obtain ⟨h3, k3⟩ := tk_set h2 3 (.int .u64 (b.C : Nat))
        obtain ⟨h4, k4⟩ := tk_set h3 4 (.int .i64 b.N)
        rw [hW2]
        exact ⟨h4, (((k0.trans k1 (fun _ _ h => h)).trans k2 (fun _ _ h => h)).trans k3 (fun _ _ h => h)).trans k4 (fun _ _ h => h)⟩
      have K2 := hid k2
      go_upto_region 27 with fail
      rw [← hW2]
      have HW2 := hid hW2
      clear hW2 k2 gl1 g0 m0 g1 m1 g2 m2 g3 m3 g4 m4 g5 m5 g6 m6 g7 m7 g8 m8 g9 m9
      obtain ⟨y, yf⟩ := tk_store K2.out.1
      have g5 := yf 5
      have m5 : W2.cell? ⟨g, 5, none⟩ = some (.int .i64 b.pl) := by
        rw [HW2.out]
        have := M5.out
        rw [(tk_store HHG.out).1] at this
        rw [← HW2.out, y 5]
        simpa [Array.getElem?_setIfInBounds] using this
      have g6 := yf 6
      have m6 : W2.cell? ⟨g, 6, none⟩ = some (.int .u64 (b.A : Nat)) := by
        rw [HW2.out]
        have := M6.out
        rw [(tk_store HHG.out).1] at this
        rw [← HW2.out, y 6]
        simpa [Array.getElem?_setIfInBounds] using this
      have g7 := yf 7
      have m7 : W2.cell? ⟨g, 7, none⟩ = some (.int .u64 (b.B : Nat)) := by
        rw [HW2.out]
        have := M7.out
        rw [(tk_store HHG.out).1] at this
        rw [← HW2.out, y 7]
        simpa [Array.getElem?_setIfInBounds] using this
      have g8 := yf 8
      have m8 : W2.cell? ⟨g, 8, none⟩ = some (.int .u64 (b.C : Nat)) := by
        rw [HW2.out]
        have := M8.out
        rw [(tk_store HHG.out).1] at this
        rw [← HW2.out, y 8]
        simpa [Array.getElem?_setIfInBounds] using this
      have g9 := yf 9
      have m9 : W2.cell? ⟨g, 9, none⟩ = some (.int .i64 b.N) := by
        rw [HW2.out]
        have := M9.out
        rw [(tk_store HHG.out).1] at this
        rw [← HW2.out, y 9]
        simpa [Array.getElem?_setIfInBounds] using this
      have gl2 := (Array.getElem?_eq_some_iff.1 K2.out.1).1
      obtain ⟨z0, z1, z2, z3, z4, z5⟩ := box_at ((K2.out.2.block B1' (Array.getElem?_eq_some_iff.1 HBX.out).1 HNE.out).trans HBX.out)
      clear y yf
      go_upto_region 28 with fail
      have hsw := swap_ls (a := a) (b := b) (r := r') HHG.out (by rw [← HAE.out]; exact LW1.out)
      rw [← HW2.out] at hsw
      obtain ⟨W3, hW3⟩ : ∃ W, W = (((((W2.setCell ⟨g, 5, none⟩ (.int .i64 a.pl)).setCell ⟨g, 6, none⟩ (.int .u64 (a.A : Nat))).setCell ⟨g, 7, none⟩ (.int .u64 (a.B : Nat))).setCell ⟨g, 8, none⟩ (.int .u64 (a.C : Nat))).setCell ⟨g, 9, none⟩ (.int .i64 a.N)) := ⟨_, rfl⟩
      rw [← hW3] at hsw ⊢
      have hbs : bput (b :: a :: r') = ([], 31) := by
        have := bgo_swap (a := a) (b := b) (l := r') (by rw [← HAE.out]; exact HGA.out)
        unfold bput
        rw [this, if_neg (by decide)]
      have hpu := put_any W3 hsw.1 (fun p n c h => by cases h; exact HGS.out.2) (by have h1 := HAB.out.1; rw [HAE.out] at h1; simp only [List.length_cons] at h1 ⊢; omega)
      rw [hbs] at hpu
      have BW3 := hid ((BW14.out.trans (HG1.out.below.mono BW14.out.size)).trans (hsw.2.below (B := w.heap.size) (Nat.le_trans BW14.out.size HG1.out.size) (fun k hk => by rw [hk]; exact Nat.le_trans B1.out.size HGS.out.1)))
      clear hW3 hsw hbs gl2 g5 m5 g6 m6 g7 m7 g8 m8 g9 m9 z0 z1 z2 z3 z4 z5
      go_wp2_with fail
      refine hpu.mono ?_
      rintro r w20 ⟨dz, rfl, hdz, b20⟩
      obtain ⟨pz, cz, hfz⟩ := (owns_ls (E := EB) hdz).form
      subst hfz
      clear hpu hdz
      have B20 := hid b20
      clear b20
      go_wp2_with fail
      go_ret
      exact ⟨rfl, BW3.out.trans (B20.out.mono BW3.out.size)⟩
  · have hs2 : ¬ (0 < sh ∧ sh < (X.length : Int)) := hs
    by_cases hs0 : 0 < sh
    · have hs1 : ¬ sh < (X.length : Int) := fun h => hs2 ⟨hs0, h⟩
      clear hs hs2
      by_cases hA2 : A.length < 2
      · have zA2 : (A.length : Int) < 2 := by omega
        go_wp2_with fail
        go_ret
        exact ⟨rfl, BW12.out⟩
      · have zA2 : ¬ (A.length : Int) < 2 := by omega
        obtain ⟨a, b, r', hAe⟩ : ∃ a b r, A = a :: b :: r := by
          match A, hA2 with
          | a :: b :: r, _ => exact ⟨a, b, r, rfl⟩
          | [a], h => exact absurd (by simp) h
          | [], h => exact absurd (by simp) h
        have HAE := hid hAe
        have zA1 : (1 : Int) < (A.length : Int) := by omega
        have zA0 : (0 : Int) < (A.length : Int) := by omega
        obtain ⟨_, ⟨_, h⟩ | ⟨g, cap, cur, hv, hgs, hh, hn, _, _, _⟩⟩ := OA12.out
        · exact absurd h hA0
        cases hv
        have HT : Hid (∀ j u, (fl EC A)[j]? = some u → w12.cell? ⟨g, j, none⟩ = some u) := fun j u hj => by
          rcases owns_ls (E := EC) OA12.out with ⟨h, _⟩ | ⟨b', off', c', hv, hb, ht⟩
          · rw [h] at hA0; exact absurd rfl hA0
          · cases hv
            simpa using ht j u hj
        have x0 : w12.cell? ⟨g, 0, none⟩ = some (.int .i64 a.pl) := by simpa using HT.out 0 _ (by rw [HAE.out]; rfl)
        have f0 := (tk_store hh).2 0
        have x1 : w12.cell? ⟨g, 1, none⟩ = some (.int .u64 (a.A : Nat)) := by simpa using HT.out 1 _ (by rw [HAE.out]; rfl)
        have f1 := (tk_store hh).2 1
        have x2 : w12.cell? ⟨g, 2, none⟩ = some (.int .u64 (a.B : Nat)) := by simpa using HT.out 2 _ (by rw [HAE.out]; rfl)
        have f2 := (tk_store hh).2 2
        have x3 : w12.cell? ⟨g, 3, none⟩ = some (.int .u64 (a.C : Nat)) := by simpa using HT.out 3 _ (by rw [HAE.out]; rfl)
        have f3 := (tk_store hh).2 3
        have x4 : w12.cell? ⟨g, 4, none⟩ = some (.int .i64 a.N) := by simpa using HT.out 4 _ (by rw [HAE.out]; rfl)
        have f4 := (tk_store hh).2 4
        have x5 : w12.cell? ⟨g, 5, none⟩ = some (.int .i64 b.pl) := by simpa using HT.out 5 _ (by rw [HAE.out]; rfl)
        have f5 := (tk_store hh).2 5
        have x6 : w12.cell? ⟨g, 6, none⟩ = some (.int .u64 (b.A : Nat)) := by simpa using HT.out 6 _ (by rw [HAE.out]; rfl)
        have f6 := (tk_store hh).2 6
        have x7 : w12.cell? ⟨g, 7, none⟩ = some (.int .u64 (b.B : Nat)) := by simpa using HT.out 7 _ (by rw [HAE.out]; rfl)
        have f7 := (tk_store hh).2 7
        have x8 : w12.cell? ⟨g, 8, none⟩ = some (.int .u64 (b.C : Nat)) := by simpa using HT.out 8 _ (by rw [HAE.out]; rfl)
        have f8 := (tk_store hh).2 8
        have x9 : w12.cell? ⟨g, 9, none⟩ = some (.int .i64 b.N) := by simpa using HT.out 9 _ (by rw [HAE.out]; rfl)
        have f9 := (tk_store hh).2 9
        have HGL : Hid (g < w12.heap.size) := (Array.getElem?_eq_some_iff.1 hh).1
        have hgl := HGL.out
        obtain ⟨W1, hW1⟩ : ∃ W, W = w12.alloc (.cells #[.int .i64 a.pl, .int .u64 (a.A : Nat), .int .u64 (a.B : Nat), .int .u64 (a.C : Nat), .int .i64 a.N] 43) := ⟨_, rfl⟩
        obtain ⟨B1', hB1'⟩ : ∃ B, B = w12.heap.size := ⟨_, rfl⟩
        have G1 : Gr w12 W1 := by rw [hW1]; exact (Gr.refl _).alloc _
        have hbx : W1.heap[B1']? = some (.cells #[.int .i64 a.pl, .int .u64 (a.A : Nat), .int .u64 (a.B : Nat), .int .u64 (a.C : Nat), .int .i64 a.N] 43 (0, 0)) := by rw [hW1, hB1']; exact heap_new' _ _
        have hg1 := (G1.below.block g HGL.out).trans hh
        have LW1 := hid ((owns_ls (E := EC) OA12.out).below G1.below)
        have HNE : Hid (B1' ≠ g) := by show _ ≠ _; rw [hB1']; have := HGL.out; omega
        have HGS : Hid (w1.heap.size ≤ g ∧ A.length ≤ ca) := ⟨hgs, hn⟩
        have HG1 := hid G1
        have HHG := hid hg1
        have HBX := hid hbx
        have m0 := (HG1.out.cell (o := 0) HGL.out).trans x0
        have m1 := (HG1.out.cell (o := 1) HGL.out).trans x1
        have m2 := (HG1.out.cell (o := 2) HGL.out).trans x2
        have m3 := (HG1.out.cell (o := 3) HGL.out).trans x3
        have m4 := (HG1.out.cell (o := 4) HGL.out).trans x4
        have m5 := (HG1.out.cell (o := 5) HGL.out).trans x5
        have m6 := (HG1.out.cell (o := 6) HGL.out).trans x6
        have m7 := (HG1.out.cell (o := 7) HGL.out).trans x7
        have m8 := (HG1.out.cell (o := 8) HGL.out).trans x8
        have m9 := (HG1.out.cell (o := 9) HGL.out).trans x9
        clear G1 hbx hg1 hgs hn hAe HT
        have M0 := hid m0
        have M1 := hid m1
        have M2 := hid m2
        have M3 := hid m3
        have M4 := hid m4
        have M5 := hid m5
        have M6 := hid m6
        have M7 := hid m7
        have M8 := hid m8
        have M9 := hid m9
        clear m0 m1 m2 m3 m4 m5 m6 m7 m8 m9
        go_upto_region 26 with fail
        rw [← hW1, ← hB1']
        clear hW1 hB1' x0 f0 x1 f1 x2 f2 x3 f3 x4 f4 x5 f5 x6 f6 x7 f7 x8 f8 x9 f9 hgl
        obtain ⟨y, yf⟩ := tk_store HHG.out
        have g0 := yf 0
        have g1 := yf 1
        have g2 := yf 2
        have g3 := yf 3
        have g4 := yf 4
        have g5 := yf 5
        have g6 := yf 6
        have g7 := yf 7
        have g8 := yf 8
        have g9 := yf 9
        have m0 := M0.out
        have m1 := M1.out
        have m2 := M2.out
        have m3 := M3.out
        have m4 := M4.out
        have m5 := M5.out
        have m6 := M6.out
        have m7 := M7.out
        have m8 := M8.out
        have m9 := M9.out
        have gl1 := (Array.getElem?_eq_some_iff.1 HHG.out).1
        clear y yf
        obtain ⟨W2, hW2⟩ : ∃ W, W = (((((W1.setCell ⟨g, 0, none⟩ (.int .i64 b.pl)).setCell ⟨g, 1, none⟩ (.int .u64 (b.A : Nat))).setCell ⟨g, 2, none⟩ (.int .u64 (b.B : Nat))).setCell ⟨g, 3, none⟩ (.int .u64 (b.C : Nat))).setCell ⟨g, 4, none⟩ (.int .i64 b.N)) := ⟨_, rfl⟩
        have k2 : W2.heap[g]? = some (.cells (((((cur.setIfInBounds 0 (.int .i64 b.pl)).setIfInBounds 1 (.int .u64 (b.A : Nat))).setIfInBounds 2 (.int .u64 (b.B : Nat))).setIfInBounds 3 (.int .u64 (b.C : Nat))).setIfInBounds 4 (.int .i64 b.N)) 43 (0, 0)) ∧ Kp (fun k => k = g) W1 W2 := by
          obtain ⟨h0, k0⟩ := tk_set HHG.out 0 (.int .i64 b.pl)
          obtain ⟨h1, k1⟩ := tk_set h0 1 (.int .u64 (b.A : Nat))
          obtain ⟨h2, k2⟩ := tk_set h1 2 (.int .u64 (b.B : Nat))
          obtain ⟨h3, k3⟩ := tk_set h2 3 (.int .u64 (b.C : Nat))
          obtain ⟨h4, k4⟩ := tk_set h3 4 (.int .i64 b.N)
          rw [hW2]
          exact ⟨h4, (((k0.trans k1 (fun _ _ h => h)).trans k2 (fun _ _ h => h)).trans k3 (fun _ _ h => h)).trans k4 (fun _ _ h => h)⟩
        have K2 := hid k2
        go_upto_region 27 with fail
        rw [← hW2]
        have HW2 := hid hW2
        clear hW2 k2 gl1 g0 m0 g1 m1 g2 m2 g3 m3 g4 m4 g5 m5 g6 m6 g7 m7 g8 m8 g9 m9
        obtain ⟨y, yf⟩ := tk_store K2.out.1
        have g5 := yf 5
        have m5 : W2.cell? ⟨g, 5, none⟩ = some (.int .i64 b.pl) := by
          rw [HW2.out]
          have := M5.out
          rw [(tk_store HHG.out).1] at this
          rw [← HW2.out, y 5]
          simpa [Array.getElem?_setIfInBounds] using this
        have g6 := yf 6
        have m6 : W2.cell? ⟨g, 6, none⟩ = some (.int .u64 (b.A : Nat)) := by
          rw [HW2.out]
          have := M6.out
          rw [(tk_store HHG.out).1] at this
          rw [← HW2.out, y 6]
          simpa [Array.getElem?_setIfInBounds] using this
        have g7 := yf 7
        have m7 : W2.cell? ⟨g, 7, none⟩ = some (.int .u64 (b.B : Nat)) := by
          rw [HW2.out]
          have := M7.out
          rw [(tk_store HHG.out).1] at this
          rw [← HW2.out, y 7]
          simpa [Array.getElem?_setIfInBounds] using this
        have g8 := yf 8
        have m8 : W2.cell? ⟨g, 8, none⟩ = some (.int .u64 (b.C : Nat)) := by
          rw [HW2.out]
          have := M8.out
          rw [(tk_store HHG.out).1] at this
          rw [← HW2.out, y 8]
          simpa [Array.getElem?_setIfInBounds] using this
        have g9 := yf 9
        have m9 : W2.cell? ⟨g, 9, none⟩ = some (.int .i64 b.N) := by
          rw [HW2.out]
          have := M9.out
          rw [(tk_store HHG.out).1] at this
          rw [← HW2.out, y 9]
          simpa [Array.getElem?_setIfInBounds] using this
        have gl2 := (Array.getElem?_eq_some_iff.1 K2.out.1).1
        obtain ⟨z0, z1, z2, z3, z4, z5⟩ := box_at ((K2.out.2.block B1' (Array.getElem?_eq_some_iff.1 HBX.out).1 HNE.out).trans HBX.out)
        clear y yf
        go_upto_region 28 with fail
        have hsw := swap_ls (a := a) (b := b) (r := r') HHG.out (by rw [← HAE.out]; exact LW1.out)
        rw [← HW2.out] at hsw
        obtain ⟨W3, hW3⟩ : ∃ W, W = (((((W2.setCell ⟨g, 5, none⟩ (.int .i64 a.pl)).setCell ⟨g, 6, none⟩ (.int .u64 (a.A : Nat))).setCell ⟨g, 7, none⟩ (.int .u64 (a.B : Nat))).setCell ⟨g, 8, none⟩ (.int .u64 (a.C : Nat))).setCell ⟨g, 9, none⟩ (.int .i64 a.N)) := ⟨_, rfl⟩
        rw [← hW3] at hsw ⊢
        have hbs : bput (b :: a :: r') = ([], 31) := by
          have := bgo_swap (a := a) (b := b) (l := r') (by rw [← HAE.out]; exact HGA.out)
          unfold bput
          rw [this, if_neg (by decide)]
        have hpu := put_any W3 hsw.1 (fun p n c h => by cases h; exact HGS.out.2) (by have h1 := HAB.out.1; rw [HAE.out] at h1; simp only [List.length_cons] at h1 ⊢; omega)
        rw [hbs] at hpu
        have BW3 := hid ((BW12.out.trans (HG1.out.below.mono BW12.out.size)).trans (hsw.2.below (B := w.heap.size) (Nat.le_trans BW12.out.size HG1.out.size) (fun k hk => by rw [hk]; exact Nat.le_trans B1.out.size HGS.out.1)))
        clear hW3 hsw hbs gl2 g5 m5 g6 m6 g7 m7 g8 m8 g9 m9 z0 z1 z2 z3 z4 z5
        go_wp2_with fail
        refine hpu.mono ?_
        rintro r w20 ⟨dz, rfl, hdz, b20⟩
        obtain ⟨pz, cz, hfz⟩ := (owns_ls (E := EB) hdz).form
        subst hfz
        clear hpu hdz
        have B20 := hid b20
        clear b20
        go_wp2_with fail
        go_ret
        exact ⟨rfl, BW3.out.trans (B20.out.mono BW3.out.size)⟩
    · clear hs hs2
      by_cases hA2 : A.length < 2
      · have zA2 : (A.length : Int) < 2 := by omega
        go_wp2_with fail
        go_ret
        exact ⟨rfl, BW12.out⟩
      · have zA2 : ¬ (A.length : Int) < 2 := by omega
        obtain ⟨a, b, r', hAe⟩ : ∃ a b r, A = a :: b :: r := by
          match A, hA2 with
          | a :: b :: r, _ => exact ⟨a, b, r, rfl⟩
          | [a], h => exact absurd (by simp) h
          | [], h => exact absurd (by simp) h
        have HAE := hid hAe
        have zA1 : (1 : Int) < (A.length : Int) := by omega
        have zA0 : (0 : Int) < (A.length : Int) := by omega
        obtain ⟨_, ⟨_, h⟩ | ⟨g, cap, cur, hv, hgs, hh, hn, _, _, _⟩⟩ := OA12.out
        · exact absurd h hA0
        cases hv
        have HT : Hid (∀ j u, (fl EC A)[j]? = some u → w12.cell? ⟨g, j, none⟩ = some u) := fun j u hj => by
          rcases owns_ls (E := EC) OA12.out with ⟨h, _⟩ | ⟨b', off', c', hv, hb, ht⟩
          · rw [h] at hA0; exact absurd rfl hA0
          · cases hv
            simpa using ht j u hj
        have x0 : w12.cell? ⟨g, 0, none⟩ = some (.int .i64 a.pl) := by simpa using HT.out 0 _ (by rw [HAE.out]; rfl)
        have f0 := (tk_store hh).2 0
        have x1 : w12.cell? ⟨g, 1, none⟩ = some (.int .u64 (a.A : Nat)) := by simpa using HT.out 1 _ (by rw [HAE.out]; rfl)
        have f1 := (tk_store hh).2 1
        have x2 : w12.cell? ⟨g, 2, none⟩ = some (.int .u64 (a.B : Nat)) := by simpa using HT.out 2 _ (by rw [HAE.out]; rfl)
        have f2 := (tk_store hh).2 2
        have x3 : w12.cell? ⟨g, 3, none⟩ = some (.int .u64 (a.C : Nat)) := by simpa using HT.out 3 _ (by rw [HAE.out]; rfl)
        have f3 := (tk_store hh).2 3
        have x4 : w12.cell? ⟨g, 4, none⟩ = some (.int .i64 a.N) := by simpa using HT.out 4 _ (by rw [HAE.out]; rfl)
        have f4 := (tk_store hh).2 4
        have x5 : w12.cell? ⟨g, 5, none⟩ = some (.int .i64 b.pl) := by simpa using HT.out 5 _ (by rw [HAE.out]; rfl)
        have f5 := (tk_store hh).2 5
        have x6 : w12.cell? ⟨g, 6, none⟩ = some (.int .u64 (b.A : Nat)) := by simpa using HT.out 6 _ (by rw [HAE.out]; rfl)
        have f6 := (tk_store hh).2 6
        have x7 : w12.cell? ⟨g, 7, none⟩ = some (.int .u64 (b.B : Nat)) := by simpa using HT.out 7 _ (by rw [HAE.out]; rfl)
        have f7 := (tk_store hh).2 7
        have x8 : w12.cell? ⟨g, 8, none⟩ = some (.int .u64 (b.C : Nat)) := by simpa using HT.out 8 _ (by rw [HAE.out]; rfl)
        have f8 := (tk_store hh).2 8
        have x9 : w12.cell? ⟨g, 9, none⟩ = some (.int .i64 b.N) := by simpa using HT.out 9 _ (by rw [HAE.out]; rfl)
        have f9 := (tk_store hh).2 9
        have HGL : Hid (g < w12.heap.size) := (Array.getElem?_eq_some_iff.1 hh).1
        have hgl := HGL.out
        obtain ⟨W1, hW1⟩ : ∃ W, W = w12.alloc (.cells #[.int .i64 a.pl, .int .u64 (a.A : Nat), .int .u64 (a.B : Nat), .int .u64 (a.C : Nat), .int .i64 a.N] 43) := ⟨_, rfl⟩
        obtain ⟨B1', hB1'⟩ : ∃ B, B = w12.heap.size := ⟨_, rfl⟩
        have G1 : Gr w12 W1 := by rw [hW1]; exact (Gr.refl _).alloc _
        have hbx : W1.heap[B1']? = some (.cells #[.int .i64 a.pl, .int .u64 (a.A : Nat), .int .u64 (a.B : Nat), .int .u64 (a.C : Nat), .int .i64 a.N] 43 (0, 0)) := by rw [hW1, hB1']; exact heap_new' _ _
        have hg1 := (G1.below.block g HGL.out).trans hh
        have LW1 := hid ((owns_ls (E := EC) OA12.out).below G1.below)
        have HNE : Hid (B1' ≠ g) := by show _ ≠ _; rw [hB1']; have := HGL.out; omega
        have HGS : Hid (w1.heap.size ≤ g ∧ A.length ≤ ca) := ⟨hgs, hn⟩
        have HG1 := hid G1
        have HHG := hid hg1
        have HBX := hid hbx
        have m0 := (HG1.out.cell (o := 0) HGL.out).trans x0
        have m1 := (HG1.out.cell (o := 1) HGL.out).trans x1
        have m2 := (HG1.out.cell (o := 2) HGL.out).trans x2
        have m3 := (HG1.out.cell (o := 3) HGL.out).trans x3
        have m4 := (HG1.out.cell (o := 4) HGL.out).trans x4
        have m5 := (HG1.out.cell (o := 5) HGL.out).trans x5
        have m6 := (HG1.out.cell (o := 6) HGL.out).trans x6
        have m7 := (HG1.out.cell (o := 7) HGL.out).trans x7
        have m8 := (HG1.out.cell (o := 8) HGL.out).trans x8
        have m9 := (HG1.out.cell (o := 9) HGL.out).trans x9
        clear G1 hbx hg1 hgs hn hAe HT
        have M0 := hid m0
        have M1 := hid m1
        have M2 := hid m2
        have M3 := hid m3
        have M4 := hid m4
        have M5 := hid m5
        have M6 := hid m6
        have M7 := hid m7
        have M8 := hid m8
        have M9 := hid m9
        clear m0 m1 m2 m3 m4 m5 m6 m7 m8 m9
        go_upto_region 26 with fail
        rw [← hW1, ← hB1']
        clear hW1 hB1' x0 f0 x1 f1 x2 f2 x3 f3 x4 f4 x5 f5 x6 f6 x7 f7 x8 f8 x9 f9 hgl
        obtain ⟨y, yf⟩ := tk_store HHG.out
        have g0 := yf 0
        have g1 := yf 1
        have g2 := yf 2
        have g3 := yf 3
        have g4 := yf 4
        have g5 := yf 5
        have g6 := yf 6
        have g7 := yf 7
        have g8 := yf 8
        have g9 := yf 9
        have m0 := M0.out
        have m1 := M1.out
        have m2 := M2.out
        have m3 := M3.out
        have m4 := M4.out
        have m5 := M5.out
        have m6 := M6.out
        have m7 := M7.out
        have m8 := M8.out
        have m9 := M9.out
        have gl1 := (Array.getElem?_eq_some_iff.1 HHG.out).1
        clear y yf
        obtain ⟨W2, hW2⟩ : ∃ W, W = (((((W1.setCell ⟨g, 0, none⟩ (.int .i64 b.pl)).setCell ⟨g, 1, none⟩ (.int .u64 (b.A : Nat))).setCell ⟨g, 2, none⟩ (.int .u64 (b.B : Nat))).setCell ⟨g, 3, none⟩ (.int .u64 (b.C : Nat))).setCell ⟨g, 4, none⟩ (.int .i64 b.N)) := ⟨_, rfl⟩
        have k2 : W2.heap[g]? = some (.cells (((((cur.setIfInBounds 0 (.int .i64 b.pl)).setIfInBounds 1 (.int .u64 (b.A : Nat))).setIfInBounds 2 (.int .u64 (b.B : Nat))).setIfInBounds 3 (.int .u64 (b.C : Nat))).setIfInBounds 4 (.int .i64 b.N)) 43 (0, 0)) ∧ Kp (fun k => k = g) W1 W2 := by
          obtain ⟨h0, k0⟩ := tk_set HHG.out 0 (.int .i64 b.pl)
          obtain ⟨h1, k1⟩ := tk_set h0 1 (.int .u64 (b.A : Nat))
          obtain ⟨h2, k2⟩ := tk_set h1 2 (.int .u64 (b.B : Nat))
          obtain ⟨h3, k3⟩ := tk_set h2 3 (.int .u64 (b.C : Nat))
          obtain ⟨h4, k4⟩ := tk_set h3 4 (.int .i64 b.N)
          rw [hW2]
          exact ⟨h4, (((k0.trans k1 (fun _ _ h => h)).trans k2 (fun _ _ h => h)).trans k3 (fun _ _ h => h)).trans k4 (fun _ _ h => h)⟩
        have K2 := hid k2
        go_upto_region 27 with fail
        rw [← hW2]
        have HW2 := hid hW2
        clear hW2 k2 gl1 g0 m0 g1 m1 g2 m2 g3 m3 g4 m4 g5 m5 g6 m6 g7 m7 g8 m8 g9 m9
        obtain ⟨y, yf⟩ := tk_store K2.out.1
        have g5 := yf 5
        have m5 : W2.cell? ⟨g, 5, none⟩ = some (.int .i64 b.pl) := by
          rw [HW2.out]
          have := M5.out
          rw [(tk_store HHG.out).1] at this
          rw [← HW2.out, y 5]
          simpa [Array.getElem?_setIfInBounds] using this
        have g6 := yf 6
        have m6 : W2.cell? ⟨g, 6, none⟩ = some (.int .u64 (b.A : Nat)) := by
          rw [HW2.out]
          have := M6.out
          rw [(tk_store HHG.out).1] at this
          rw [← HW2.out, y 6]
          simpa [Array.getElem?_setIfInBounds] using this
        have g7 := yf 7
        have m7 : W2.cell? ⟨g, 7, none⟩ = some (.int .u64 (b.B : Nat)) := by
          rw [HW2.out]
          have := M7.out
          rw [(tk_store HHG.out).1] at this
          rw [← HW2.out, y 7]
          simpa [Array.getElem?_setIfInBounds] using this
        have g8 := yf 8
        have m8 : W2.cell? ⟨g, 8, none⟩ = some (.int .u64 (b.C : Nat)) := by
          rw [HW2.out]
          have := M8.out
          rw [(tk_store HHG.out).1] at this
          rw [← HW2.out, y 8]
          simpa [Array.getElem?_setIfInBounds] using this
        have g9 := yf 9
        have m9 : W2.cell? ⟨g, 9, none⟩ = some (.int .i64 b.N) := by
          rw [HW2.out]
          have := M9.out
          rw [(tk_store HHG.out).1] at this
          rw [← HW2.out, y 9]
          simpa [Array.getElem?_setIfInBounds] using this
        have gl2 := (Array.getElem?_eq_some_iff.1 K2.out.1).1
        obtain ⟨z0, z1, z2, z3, z4, z5⟩ := box_at ((K2.out.2.block B1' (Array.getElem?_eq_some_iff.1 HBX.out).1 HNE.out).trans HBX.out)
        clear y yf
        go_upto_region 28 with fail
        have hsw := swap_ls (a := a) (b := b) (r := r') HHG.out (by rw [← HAE.out]; exact LW1.out)
        rw [← HW2.out] at hsw
        obtain ⟨W3, hW3⟩ : ∃ W, W = (((((W2.setCell ⟨g, 5, none⟩ (.int .i64 a.pl)).setCell ⟨g, 6, none⟩ (.int .u64 (a.A : Nat))).setCell ⟨g, 7, none⟩ (.int .u64 (a.B : Nat))).setCell ⟨g, 8, none⟩ (.int .u64 (a.C : Nat))).setCell ⟨g, 9, none⟩ (.int .i64 a.N)) := ⟨_, rfl⟩
        rw [← hW3] at hsw ⊢
        have hbs : bput (b :: a :: r') = ([], 31) := by
          have := bgo_swap (a := a) (b := b) (l := r') (by rw [← HAE.out]; exact HGA.out)
          unfold bput
          rw [this, if_neg (by decide)]
        have hpu := put_any W3 hsw.1 (fun p n c h => by cases h; exact HGS.out.2) (by have h1 := HAB.out.1; rw [HAE.out] at h1; simp only [List.length_cons] at h1 ⊢; omega)
        rw [hbs] at hpu
        have BW3 := hid ((BW12.out.trans (HG1.out.below.mono BW12.out.size)).trans (hsw.2.below (B := w.heap.size) (Nat.le_trans BW12.out.size HG1.out.size) (fun k hk => by rw [hk]; exact Nat.le_trans B1.out.size HGS.out.1)))
        clear hW3 hsw hbs gl2 g5 m5 g6 m6 g7 m7 g8 m8 g9 m9 z0 z1 z2 z3 z4 z5
        go_wp2_with fail
        refine hpu.mono ?_
        rintro r w20 ⟨dz, rfl, hdz, b20⟩
        obtain ⟨pz, cz, hfz⟩ := (owns_ls (E := EB) hdz).form
        subst hfz
        clear hpu hdz
        have B20 := hid b20
        clear b20
        go_wp2_with fail
        go_ret
        exact ⟨rfl, BW3.out.trans (B20.out.mono BW3.out.size)⟩
end Go.Proofs.YtghofmhlmkpkcaaDoor.Wi
