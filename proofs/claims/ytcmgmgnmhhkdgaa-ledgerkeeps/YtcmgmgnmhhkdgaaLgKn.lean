import Derived.Test.YtcmgmgnmhhkdgaaLgSame
import Derived.Test.YtcmgmgnmhhkdgaaLHold
import Derived.Deep.DeepCutAuto
namespace Go.Proofs.Ytcmgmgnmhhkdgaa
open Go.RowKit Go.Sort Go.Maps Go.Shelf
open Tt (Tl addc addf byd byd_f)
attribute [local go_sem ↓] Go.wp_at_zero Go.wp_at_succ

/-- The example's stamps. -/
def sA : Sm := ⟨(3, 1, 0, 0), by decide⟩
def sB : Sm := ⟨(0, 5, 0, 0), by decide⟩
def exL : List Cg := [(sA, -1), (sB, 1), (sB, 1)]
theorem ex_sup : Sup (smf exL) [sB, sA] := by
  refine ⟨by decide, fun s => ?_⟩
  by_cases h1 : s = sA
  · subst h1; decide
  · by_cases h2 : s = sB
    · subst h2; decide
    · have g1 : ¬ sA = s := fun e => h1 e.symm
      have g2 : ¬ sB = s := fun e => h2 e.symm
      simp [exL, smf, g1, g2, h1, h2]
theorem ex_chs {ks : List Sm} (h : Sup (smf exL) ks) : chs (smf exL) ks = [(sB, 2), (sA, -1)] := by
  have h1 : stS ks = [sB, sA] := stS_eq (h.perm ex_sup) (List.pairwise_cons.2 ⟨fun x hx => by rw [List.mem_singleton] at hx; subst hx; rw [slt_iff]; decide, List.pairwise_singleton _ _⟩)
  unfold chs
  rw [h1]
  rfl
theorem ex_len {ks : List Sm} (h : Sup (smf exL) ks) : ks.length = 2 := (h.perm ex_sup).length_eq
set_option maxHeartbeats 4000000 in
set_option maxRecDepth 100000 in
theorem known_any (w : World) : Calls Try.prog 6 #[] w fun e w' => e = .returned (.bool true) ∧ Below w.heap.size w w' := by
  have hnw := new_any w
  have q1 : addc (smf []) sA (-1) = 0 ∧ addf (smf []) sA (-1) = smf [(sA, -1)] := add_smf Ones.nil (by decide) (Or.inr rfl)
  have q2 : addc (smf [(sA, -1)]) sB 1 = 0 ∧ addf (smf [(sA, -1)]) sB 1 = smf [(sA, -1), (sB, 1)] := add_smf (fun o ho => by simp at ho; subst ho; exact Or.inr rfl) (by decide) (Or.inl rfl)
  have q3 : addc (smf [(sA, -1), (sB, 1)]) sB 1 = 0 ∧ addf (smf [(sA, -1), (sB, 1)]) sB 1 = smf exL := add_smf (fun o ho => by simp at ho; rcases ho with rfl | rfl; exact Or.inr rfl; exact Or.inl rfl) (by decide) (Or.inl rfl)
  have hmx : Try.prog.follows .mixedOrders = true := by kernel_rfl
  have he1 : ∀ W, Sem.run Try.prog (Op.equalIn 10000 47 (.agg #[.int .i64 0, .int .u64 5, .int .u64 0, .int .u64 0, .int .i64 2]) (.agg #[.int .i64 0, .int .u64 5, .int .u64 0, .int .u64 0, .int .i64 2])) W = .ok true W := fun W => (run_eqC (sB, 2) (sB, 2) W).trans (by rw [decide_eq_true rfl])
  have he2 : ∀ W, Sem.run Try.prog (Op.equalIn 10000 47 (.agg #[.int .i64 3, .int .u64 1, .int .u64 0, .int .u64 0, .int .i64 (-1)]) (.agg #[.int .i64 3, .int .u64 1, .int .u64 0, .int .u64 0, .int .i64 (-1)])) W = .ok true W := fun W => (run_eqC (sA, -1) (sA, -1) W).trans (by rw [decide_eq_true rfl])
  have hga : smf exL sA = -1 := by decide
  go_enter Try.func6, Try.ntmps6
  go_wp2_with fail
  refine hnw.mono ?_
  rintro e w1 ⟨lb, tb, b, rfl, HLo, hlg, hb1⟩
  clear hnw
  have HLO := hid HLo
  have L1 : Hid (Lg w1 lb tb b 0 (smf [])) := hlg
  have B1 := hid hb1
  clear HLo hlg hb1
  obtain ⟨W2, hW2⟩ : ∃ W, W = (w1.alloc (.cells #[.int .i64 3, .int .u64 1, .int .u64 0, .int .u64 0] 35)).alloc (.cells #[.int .i64 0, .int .u64 5, .int .u64 0, .int .u64 0] 35) := ⟨_, rfl⟩
  obtain ⟨P1, hP1⟩ : ∃ P, P = w1.heap.size := ⟨_, rfl⟩
  have G2 : Gr w1 W2 := by rw [hW2]; exact ((Gr.refl _).alloc _).alloc _
  have bA : W2.heap[P1]? = some (.cells #[.int .i64 3, .int .u64 1, .int .u64 0, .int .u64 0] 35 (0, 0)) := by rw [hW2, hP1]; exact Tt.heap_alloc2_old _ _ _
  have bB : W2.heap[P1 + 1]? = some (.cells #[.int .i64 0, .int .u64 5, .int .u64 0, .int .u64 0] 35 (0, 0)) := by rw [hW2, hP1]; exact Tt.heap_alloc2_new _ _ _
  have zA := (Array.getElem?_eq_some_iff.1 bA).1
  have zB := (Array.getElem?_eq_some_iff.1 bB).1
  have hbP : b < P1 := by rw [hP1]; exact L1.out.tl.ta.lt
  have L2 := hid (L1.out.gr G2)
  have hbw := HLO.out b (Or.inr (Or.inr rfl))
  have B2 := hid (B1.out.trans (G2.below.mono B1.out.size))
  have KA : Hid (∀ W, Kp (fun k => k = b) W2 W → (W.cell? ⟨P1, 0, none⟩ = some (.int .i64 3) ∧ W.cell? ⟨P1, 1, none⟩ = some (.int .u64 1) ∧ W.cell? ⟨P1, 2, none⟩ = some (.int .u64 0) ∧ W.cell? ⟨P1, 3, none⟩ = some (.int .u64 0)) ∧ W.cell? ⟨P1 + 1, 0, none⟩ = some (.int .i64 0) ∧ W.cell? ⟨P1 + 1, 1, none⟩ = some (.int .u64 5) ∧ W.cell? ⟨P1 + 1, 2, none⟩ = some (.int .u64 0) ∧ W.cell? ⟨P1 + 1, 3, none⟩ = some (.int .u64 0)) := fun W hk => by
    have h1 := (hk.block P1 zA (by omega)).trans bA
    have h2 := (hk.block (P1 + 1) zB (by omega)).trans bB
    refine ⟨⟨?_, ?_, ?_, ?_⟩, ?_, ?_, ?_, ?_⟩ <;> (simp only [World.cell?, h1, h2]; rfl)
  go_wp2_with fail
  rw [← hP1, ← hW2]
  clear hP1 hW2 bA bB G2 L1 B1
  have hu := use_any sA W2 L2.out (by unfold maxLen; omega)
  rw [q1.1, q1.2] at hu
  refine hu.mono ?_
  rintro e w3 ⟨rfl, L3, K3⟩
  clear hu q1
  obtain ⟨⟨a0, a1, a2, a3⟩, d0, d1, d2, d3⟩ := KA.out w3 K3
  have hu := make_any sB w3 L3 (by unfold maxLen; omega)
  rw [q2.1, q2.2] at hu
  have L3' := hid L3
  have K3' := hid K3
  clear L3 K3 q2
  go_wp2_with fail
  refine hu.mono ?_
  rintro e w4 ⟨rfl, L4, K4⟩
  have K4' := K3'.out.trans K4 (fun _ _ h => h)
  clear hu a0 a1 a2 a3 d0 d1 d2 d3 K4
  obtain ⟨⟨a0, a1, a2, a3⟩, d0, d1, d2, d3⟩ := KA.out w4 K4'
  have hu := make_any sB w4 L4 (by unfold maxLen; omega)
  rw [q3.1, q3.2] at hu
  have L4' := hid L4
  have K4h := hid K4'
  clear L4 K4' q3
  go_wp2_with fail
  refine hu.mono ?_
  rintro e w5 ⟨rfl, L5, K5⟩
  have K5' := K4h.out.trans K5 (fun _ _ h => h)
  clear hu a0 a1 a2 a3 d0 d1 d2 d3 K5
  obtain ⟨⟨a0, a1, a2, a3⟩, d0, d1, d2, d3⟩ := KA.out w5 K5'
  have B5 := hid (B2.out.trans (K5'.below B2.out.size (fun k hk => by omega)))
  have zA5 := Nat.lt_of_lt_of_le zA K5'.size
  have zB5 := Nat.lt_of_lt_of_le zB K5'.size
  have hc := changes_any w5 L5 (by omega)
  have L5' := hid L5
  clear L5 K5'
  go_wp2_with fail
  refine hc.mono ?_
  rintro e w6 ⟨v6, ks6, hs6, rfl, ho6, -, hb6⟩
  clear hc
  rw [ex_chs hs6] at ho6
  have l6 := owns_ls (E := EC) ho6
  obtain ⟨b6, o6, c6, e6, z6, x0, x1, x2, x3, x4⟩ := l6.atC (j := 0) (p := (sB, 2)) rfl
  obtain ⟨b7, o7, c7, e7, z7, y0, y1, y2, y3, y4⟩ := l6.atC (j := 1) (p := (sA, -1)) rfl
  subst e6
  simp only [Value.slice.injEq, Option.some.injEq, Addr.mk.injEq, and_true] at e7
  obtain ⟨⟨rfl, rfl⟩, -, rfl⟩ := e7
  simp only [List.length_cons, List.length_nil]
  have B6 := hid (B5.out.trans (hb6.mono B5.out.size))
  have a0' := (hb6.cell (p := ⟨P1, 0, none⟩) zA5).trans a0
  have a1' := (hb6.cell (p := ⟨P1, 1, none⟩) zA5).trans a1
  have a2' := (hb6.cell (p := ⟨P1, 2, none⟩) zA5).trans a2
  have a3' := (hb6.cell (p := ⟨P1, 3, none⟩) zA5).trans a3
  have d0' := (hb6.cell (p := ⟨P1 + 1, 0, none⟩) zB5).trans d0
  have d1' := (hb6.cell (p := ⟨P1 + 1, 1, none⟩) zB5).trans d1
  have d2' := (hb6.cell (p := ⟨P1 + 1, 2, none⟩) zB5).trans d2
  have d3' := (hb6.cell (p := ⟨P1 + 1, 3, none⟩) zB5).trans d3
  have zA6 := Nat.lt_of_lt_of_le zA5 hb6.size
  have zB6 := Nat.lt_of_lt_of_le zB5 hb6.size
  have L6 := hid (L5'.out.below hb6)
  clear hb6 ho6 l6 hs6 a0 a1 a2 a3 d0 d1 d2 d3
  have hS0 : Gr w6 w6.drew := (Gr.refl w6).drew
  simp only [sA, sB, Nat.zero_mul, Nat.one_mul, Nat.add_zero] at x0 x1 x2 x3 x4 y0 y1 y2 y3 y4
  go_upto_region 8 with fail
  refine wp_regionD (S := fun W => Gr w6 W) (D := []) hmx ?_
  refine' wpAnyD_take (i := 0) (oi := { dst := some 31, op := Go.Op.move (Go.Operand.tmp 4), type := 4, pos := "law.go:20", after := #[], guard := none }) (v := _) rfl (by kernel_rfl) (by kernel_rfl) (by kernel_rfl) (fun _ _ _ h => h) (by kernel_rfl) (Or.inl ⟨by rfl, ?hy1⟩) hS0 ?rest1
  case hy1 => (intro W hSw; go_simp; try (with_reducible rfl))
  try simp only [Act.put, List.setIfInBounds_toArray, List.set_cons_zero, List.set_cons_succ]
  refine' wpAnyD_take (i := 1) (oi := { dst := some 32, op := Go.Op.move (Go.Operand.tmp 31), type := 4, pos := "law.go:20", after := #[{ on := 0, ground := Go.Ground.data }], guard := none }) (v := _) rfl (by kernel_rfl) (by kernel_rfl) (by kernel_rfl) (fun _ _ _ h => h) (by kernel_rfl) (Or.inl ⟨by rfl, ?hy2⟩) hS0 ?rest2
  case hy2 => (intro W hSw; go_simp; try (with_reducible rfl))
  try simp only [Act.put, List.setIfInBounds_toArray, List.set_cons_zero, List.set_cons_succ]
  refine' wpAnyD_take (i := 2) (oi := { dst := some 33, op := Go.Op.move (Go.Operand.tmp 1), type := 24, pos := "law.go:20", after := #[{ on := 1, ground := Go.Ground.guard }], guard := some (1, true) }) (v := _) rfl (by kernel_rfl) (by kernel_rfl) (by kernel_rfl) (fun _ _ _ h => h) (by kernel_rfl) (Or.inl ⟨by rfl, ?hy3⟩) hS0 ?rest3
  case hy3 => (intro W hSw; go_simp; try (with_reducible rfl))
  try simp only [Act.put, List.setIfInBounds_toArray, List.set_cons_zero, List.set_cons_succ]
  refine wpAnyD_one (i := 3) (o := { dst := some 34, op := Go.Op.call { callee := Go.Callee.value (Go.Operand.func 14), args := #[Go.Operand.tmp 33], argTypes := #[24] }, type := 3, pos := "law.go:20", after := #[{ on := 2, ground := Go.Ground.data }, { on := 1, ground := Go.Ground.chain }, { on := 1, ground := Go.Ground.guard }], guard := some (1, true) }) (by kernel_rfl) rfl (fun K hK => ?_)
  go_simp
  refine (len_any _ (L6.out.gr (Gr.refl _).drew)).mono ?_
  rintro e w7 ⟨ks7, hs7, rfl, g7⟩
  rw [ex_len hs7]
  have hS7 : Gr w6 w7 := (Gr.refl w6).drew.trans g7
  clear hs7 g7
  go_wp2_with fail
  refine hK.out _ _ (fun hD => hS7) ?_
  clear hK K
  try simp only [Act.put, List.setIfInBounds_toArray, List.set_cons_zero, List.set_cons_succ]
  refine' wpAnyD_take (i := 4) (oi := { dst := some 35, op := Go.Op.binOp Go.BinOp.eql 3 (Go.Operand.tmp 34) (Go.Operand.const (Go.Value.int Go.IntKind.i64 2)) 3, type := 4, pos := "law.go:20", after := #[{ on := 3, ground := Go.Ground.data }, { on := 1, ground := Go.Ground.guard }], guard := some (1, true) }) (v := _) rfl (by kernel_rfl) (by kernel_rfl) (by kernel_rfl) (fun _ _ _ h => h) (by kernel_rfl) (Or.inl ⟨by rfl, ?hy5⟩) hS7 ?rest5
  case hy5 => (intro W hSw; go_simp; try (with_reducible rfl))
  try simp only [Act.put, List.setIfInBounds_toArray, List.set_cons_zero, List.set_cons_succ]
  refine' wpAnyD_take (i := 5) (oi := { dst := some 36, op := Go.Op.pick (Go.Operand.tmp 32) (Go.Operand.tmp 35) (Go.Operand.const (Go.Value.bool false)), type := 4, pos := "law.go:20", after := #[{ on := 1, ground := Go.Ground.data }, { on := 4, ground := Go.Ground.data }], guard := none }) (v := _) rfl (by kernel_rfl) (by kernel_rfl) (by kernel_rfl) (fun _ _ _ h => h) (by kernel_rfl) (Or.inl ⟨by rfl, ?hy6⟩) hS7 ?rest6
  case hy6 => (intro W hSw; go_simp; try (with_reducible rfl))
  try simp only [Act.put, List.setIfInBounds_toArray, List.set_cons_zero, List.set_cons_succ]
  refine' wpAnyD_take (i := 6) (oi := { dst := some 37, op := Go.Op.move (Go.Operand.tmp 36), type := 4, pos := "law.go:20", after := #[{ on := 5, ground := Go.Ground.data }, { on := 3, ground := Go.Ground.chain }], guard := none }) (v := _) rfl (by kernel_rfl) (by kernel_rfl) (by kernel_rfl) (fun _ _ _ h => h) (by kernel_rfl) (Or.inl ⟨by rfl, ?hy7⟩) hS7 ?rest7
  case hy7 => (intro W hSw; go_simp; try (with_reducible rfl))
  try simp only [Act.put, List.setIfInBounds_toArray, List.set_cons_zero, List.set_cons_succ]
  refine' wpAnyD_take (i := 7) (oi := { dst := some 38, op := Go.Op.move (Go.Operand.tmp 1), type := 24, pos := "law.go:20", after := #[{ on := 6, ground := Go.Ground.guard }], guard := some (6, true) }) (v := _) rfl (by kernel_rfl) (by kernel_rfl) (by kernel_rfl) (fun _ _ _ h => h) (by kernel_rfl) (Or.inl ⟨by rfl, ?hy8⟩) hS7 ?rest8
  case hy8 => (intro W hSw; go_simp; try (with_reducible rfl))
  try simp only [Act.put, List.setIfInBounds_toArray, List.set_cons_zero, List.set_cons_succ]
  refine' wpAnyD_take (i := 8) (oi := { dst := some 39, op := Go.Op.load 35 (Go.Operand.tmp 2), type := 35, pos := "law.go:20", after := #[{ on := 6, ground := Go.Ground.guard }], guard := some (6, true) }) (v := _) rfl (by kernel_rfl) (by kernel_rfl) (by kernel_rfl) (fun _ _ _ h => h) (by kernel_rfl) (Or.inl ⟨by rfl, ?hy9⟩) hS7 ?rest9
  case hy9 => (intro W hSw; have h0 := (hSw.cell zA6).trans a0'; have h1 := (hSw.cell zA6).trans a1'; have h2 := (hSw.cell zA6).trans a2'; have h3 := (hSw.cell zA6).trans a3'; go_simp; try (with_reducible rfl))
  try simp only [Act.put, List.setIfInBounds_toArray, List.set_cons_zero, List.set_cons_succ]
  refine wpAnyD_one (i := 9) (o := { dst := some 40, op := Go.Op.call { callee := Go.Callee.value (Go.Operand.func 11), args := #[Go.Operand.tmp 38, Go.Operand.tmp 39], argTypes := #[24, 35] }, type := 2, pos := "law.go:20", after := #[{ on := 7, ground := Go.Ground.data }, { on := 8, ground := Go.Ground.data }, { on := 6, ground := Go.Ground.chain }, { on := 6, ground := Go.Ground.guard }], guard := some (6, true) }) (by kernel_rfl) rfl (fun K hK => ?_)
  go_simp
  have hg := get_any sA w7 (L6.out.gr hS7)
  rw [hga] at hg
  refine hg.mono ?_
  rintro e w8 ⟨rfl, g8⟩
  have hS8 := hS7.trans g8
  clear hg
  go_wp2_with fail
  refine hK.out _ _ (fun hD => hS8) ?_
  clear hK K
  try simp only [Act.put, List.setIfInBounds_toArray, List.set_cons_zero, List.set_cons_succ]
  refine' wpAnyD_take (i := 10) (oi := { dst := some 41, op := Go.Op.binOp Go.BinOp.eql 2 (Go.Operand.tmp 40) (Go.Operand.const (Go.Value.int Go.IntKind.i64 (-1))) 2, type := 4, pos := "law.go:20", after := #[{ on := 9, ground := Go.Ground.data }, { on := 6, ground := Go.Ground.guard }], guard := some (6, true) }) (v := _) rfl (by kernel_rfl) (by kernel_rfl) (by kernel_rfl) (fun _ _ _ h => h) (by kernel_rfl) (Or.inl ⟨by rfl, ?hy11⟩) hS8 ?rest11
  case hy11 => (intro W hSw; go_simp; try (with_reducible rfl))
  try simp only [Act.put, List.setIfInBounds_toArray, List.set_cons_zero, List.set_cons_succ]
  refine' wpAnyD_take (i := 11) (oi := { dst := some 42, op := Go.Op.pick (Go.Operand.tmp 37) (Go.Operand.tmp 41) (Go.Operand.const (Go.Value.bool false)), type := 4, pos := "law.go:20", after := #[{ on := 6, ground := Go.Ground.data }, { on := 10, ground := Go.Ground.data }], guard := none }) (v := _) rfl (by kernel_rfl) (by kernel_rfl) (by kernel_rfl) (fun _ _ _ h => h) (by kernel_rfl) (Or.inl ⟨by rfl, ?hy12⟩) hS8 ?rest12
  case hy12 => (intro W hSw; go_simp; try (with_reducible rfl))
  try simp only [Act.put, List.setIfInBounds_toArray, List.set_cons_zero, List.set_cons_succ]
  refine' wpAnyD_take (i := 12) (oi := { dst := some 43, op := Go.Op.move (Go.Operand.tmp 42), type := 4, pos := "law.go:20", after := #[{ on := 11, ground := Go.Ground.data }, { on := 9, ground := Go.Ground.chain }], guard := none }) (v := _) rfl (by kernel_rfl) (by kernel_rfl) (by kernel_rfl) (fun _ _ _ h => h) (by kernel_rfl) (Or.inl ⟨by rfl, ?hy13⟩) hS8 ?rest13
  case hy13 => (intro W hSw; go_simp; try (with_reducible rfl))
  try simp only [Act.put, List.setIfInBounds_toArray, List.set_cons_zero, List.set_cons_succ]
  refine' wpAnyD_take (i := 13) (oi := { dst := some 44, op := Go.Op.move (Go.Operand.tmp 5), type := 27, pos := "law.go:20", after := #[{ on := 12, ground := Go.Ground.guard }], guard := some (12, true) }) (v := _) rfl (by kernel_rfl) (by kernel_rfl) (by kernel_rfl) (fun _ _ _ h => h) (by kernel_rfl) (Or.inl ⟨by rfl, ?hy14⟩) hS8 ?rest14
  case hy14 => (intro W hSw; go_simp; try (with_reducible rfl))
  try simp only [Act.put, List.setIfInBounds_toArray, List.set_cons_zero, List.set_cons_succ]
  refine' wpAnyD_take (i := 14) (oi := { dst := some 45, op := Go.Op.call { callee := Go.Callee.builtin Go.Builtin.len, args := #[Go.Operand.tmp 44], argTypes := #[27] }, type := 3, pos := "law.go:20", after := #[{ on := 13, ground := Go.Ground.data }, { on := 12, ground := Go.Ground.guard }], guard := some (12, true) }) (v := _) rfl (by kernel_rfl) (by kernel_rfl) (by kernel_rfl) (fun _ _ _ h => h) (by kernel_rfl) (Or.inl ⟨by rfl, ?hy15⟩) hS8 ?rest15
  case hy15 => (intro W hSw; go_simp; try (with_reducible rfl))
  try simp only [Act.put, List.setIfInBounds_toArray, List.set_cons_zero, List.set_cons_succ]
  refine' wpAnyD_take (i := 15) (oi := { dst := some 46, op := Go.Op.binOp Go.BinOp.eql 3 (Go.Operand.tmp 45) (Go.Operand.const (Go.Value.int Go.IntKind.i64 2)) 3, type := 4, pos := "law.go:20", after := #[{ on := 14, ground := Go.Ground.data }, { on := 12, ground := Go.Ground.guard }], guard := some (12, true) }) (v := _) rfl (by kernel_rfl) (by kernel_rfl) (by kernel_rfl) (fun _ _ _ h => h) (by kernel_rfl) (Or.inl ⟨by rfl, ?hy16⟩) hS8 ?rest16
  case hy16 => (intro W hSw; go_simp; try (with_reducible rfl))
  try simp only [Act.put, List.setIfInBounds_toArray, List.set_cons_zero, List.set_cons_succ]
  refine' wpAnyD_take (i := 16) (oi := { dst := some 47, op := Go.Op.pick (Go.Operand.tmp 43) (Go.Operand.tmp 46) (Go.Operand.const (Go.Value.bool false)), type := 4, pos := "law.go:20", after := #[{ on := 12, ground := Go.Ground.data }, { on := 15, ground := Go.Ground.data }], guard := none }) (v := _) rfl (by kernel_rfl) (by kernel_rfl) (by kernel_rfl) (fun _ _ _ h => h) (by kernel_rfl) (Or.inl ⟨by rfl, ?hy17⟩) hS8 ?rest17
  case hy17 => (intro W hSw; go_simp; try (with_reducible rfl))
  try simp only [Act.put, List.setIfInBounds_toArray, List.set_cons_zero, List.set_cons_succ]
  refine' wpAnyD_take (i := 17) (oi := { dst := some 48, op := Go.Op.move (Go.Operand.tmp 47), type := 4, pos := "law.go:20", after := #[{ on := 16, ground := Go.Ground.data }, { on := 12, ground := Go.Ground.chain }], guard := none }) (v := _) rfl (by kernel_rfl) (by kernel_rfl) (by kernel_rfl) (fun _ _ _ h => h) (by kernel_rfl) (Or.inl ⟨by rfl, ?hy18⟩) hS8 ?rest18
  case hy18 => (intro W hSw; go_simp; try (with_reducible rfl))
  try simp only [Act.put, List.setIfInBounds_toArray, List.set_cons_zero, List.set_cons_succ]
  refine' wpAnyD_take (i := 18) (oi := { dst := some 49, op := Go.Op.move (Go.Operand.tmp 5), type := 27, pos := "law.go:20", after := #[{ on := 17, ground := Go.Ground.guard }], guard := some (17, true) }) (v := _) rfl (by kernel_rfl) (by kernel_rfl) (by kernel_rfl) (fun _ _ _ h => h) (by kernel_rfl) (Or.inl ⟨by rfl, ?hy19⟩) hS8 ?rest19
  case hy19 => (intro W hSw; go_simp; try (with_reducible rfl))
  try simp only [Act.put, List.setIfInBounds_toArray, List.set_cons_zero, List.set_cons_succ]
  refine' wpAnyD_take (i := 19) (oi := { dst := some 50, op := Go.Op.indexAddr 27 (Go.Operand.tmp 49) (Go.Operand.const (Go.Value.int Go.IntKind.i64 0)), type := 0, pos := "law.go:20", after := #[{ on := 18, ground := Go.Ground.data }, { on := 17, ground := Go.Ground.guard }], guard := some (17, true) }) (v := _) rfl (by kernel_rfl) (by kernel_rfl) (by kernel_rfl) (fun _ _ _ h => h) (by kernel_rfl) (Or.inl ⟨by rfl, ?hy20⟩) hS8 ?rest20
  case hy20 => (intro W hSw; go_simp; try (with_reducible rfl))
  try simp only [Act.put, List.setIfInBounds_toArray, List.set_cons_zero, List.set_cons_succ]
  refine' wpAnyD_take (i := 20) (oi := { dst := some 51, op := Go.Op.load 47 (Go.Operand.tmp 50), type := 47, pos := "law.go:20", after := #[{ on := 19, ground := Go.Ground.data }, { on := 17, ground := Go.Ground.guard }], guard := some (17, true) }) (v := _) rfl (by kernel_rfl) (by kernel_rfl) (by kernel_rfl) (fun _ _ _ h => h) (by kernel_rfl) (Or.inl ⟨by rfl, ?hy21⟩) hS8 ?rest21
  case hy21 => (intro W hSw; have h0 := (hSw.cell z6).trans x0; have h1 := (hSw.cell z6).trans x1; have h2 := (hSw.cell z6).trans x2; have h3 := (hSw.cell z6).trans x3; have h4 := (hSw.cell z6).trans x4; go_simp; try (with_reducible rfl))
  try simp only [Act.put, List.setIfInBounds_toArray, List.set_cons_zero, List.set_cons_succ]
  refine' wpAnyD_take (i := 21) (oi := { dst := some 52, op := Go.Op.load 35 (Go.Operand.tmp 3), type := 35, pos := "law.go:20", after := #[{ on := 17, ground := Go.Ground.guard }], guard := some (17, true) }) (v := _) rfl (by kernel_rfl) (by kernel_rfl) (by kernel_rfl) (fun _ _ _ h => h) (by kernel_rfl) (Or.inl ⟨by rfl, ?hy22⟩) hS8 ?rest22
  case hy22 => (intro W hSw; have h0 := (hSw.cell zB6).trans d0'; have h1 := (hSw.cell zB6).trans d1'; have h2 := (hSw.cell zB6).trans d2'; have h3 := (hSw.cell zB6).trans d3'; go_simp; try (with_reducible rfl))
  try simp only [Act.put, List.setIfInBounds_toArray, List.set_cons_zero, List.set_cons_succ]
  refine' wpAnyD_take (i := 22) (oi := { dst := some 53, op := Go.Op.build 47 #[(0, Go.Operand.tmp 52), (1, Go.Operand.const (Go.Value.int Go.IntKind.i64 2))], type := 47, pos := "law.go:20", after := #[{ on := 21, ground := Go.Ground.data }, { on := 17, ground := Go.Ground.guard }], guard := some (17, true) }) (v := _) rfl (by kernel_rfl) (by kernel_rfl) (by kernel_rfl) (fun _ _ _ h => h) (by kernel_rfl) (Or.inl ⟨by rfl, ?hy23⟩) hS8 ?rest23
  case hy23 => (intro W hSw; go_simp; try (with_reducible rfl))
  try simp only [Act.put, List.setIfInBounds_toArray, List.set_cons_zero, List.set_cons_succ]
  refine' wpAnyD_take (i := 23) (oi := { dst := some 54, op := Go.Op.binOp Go.BinOp.eql 47 (Go.Operand.tmp 51) (Go.Operand.tmp 53) 47, type := 4, pos := "law.go:20", after := #[{ on := 20, ground := Go.Ground.data }, { on := 22, ground := Go.Ground.data }, { on := 17, ground := Go.Ground.guard }], guard := some (17, true) }) (v := _) rfl (by kernel_rfl) (by kernel_rfl) (by kernel_rfl) (fun _ _ _ h => h) (by kernel_rfl) (Or.inl ⟨by rfl, ?hy24⟩) hS8 ?rest24
  case hy24 => (intro W hSw; go_simp; try (with_reducible rfl))
  try simp only [Act.put, List.setIfInBounds_toArray, List.set_cons_zero, List.set_cons_succ]
  refine' wpAnyD_take (i := 24) (oi := { dst := some 55, op := Go.Op.pick (Go.Operand.tmp 48) (Go.Operand.tmp 54) (Go.Operand.const (Go.Value.bool false)), type := 4, pos := "law.go:20", after := #[{ on := 17, ground := Go.Ground.data }, { on := 23, ground := Go.Ground.data }], guard := none }) (v := _) rfl (by kernel_rfl) (by kernel_rfl) (by kernel_rfl) (fun _ _ _ h => h) (by kernel_rfl) (Or.inl ⟨by rfl, ?hy25⟩) hS8 ?rest25
  case hy25 => (intro W hSw; go_simp; try (with_reducible rfl))
  try simp only [Act.put, List.setIfInBounds_toArray, List.set_cons_zero, List.set_cons_succ]
  refine' wpAnyD_take (i := 25) (oi := { dst := some 56, op := Go.Op.move (Go.Operand.tmp 55), type := 4, pos := "law.go:20", after := #[{ on := 24, ground := Go.Ground.data }, { on := 17, ground := Go.Ground.chain }], guard := none }) (v := _) rfl (by kernel_rfl) (by kernel_rfl) (by kernel_rfl) (fun _ _ _ h => h) (by kernel_rfl) (Or.inl ⟨by rfl, ?hy26⟩) hS8 ?rest26
  case hy26 => (intro W hSw; go_simp; try (with_reducible rfl))
  try simp only [Act.put, List.setIfInBounds_toArray, List.set_cons_zero, List.set_cons_succ]
  refine' wpAnyD_take (i := 26) (oi := { dst := some 57, op := Go.Op.move (Go.Operand.tmp 5), type := 27, pos := "law.go:20", after := #[{ on := 25, ground := Go.Ground.guard }], guard := some (25, true) }) (v := _) rfl (by kernel_rfl) (by kernel_rfl) (by kernel_rfl) (fun _ _ _ h => h) (by kernel_rfl) (Or.inl ⟨by rfl, ?hy27⟩) hS8 ?rest27
  case hy27 => (intro W hSw; go_simp; try (with_reducible rfl))
  try simp only [Act.put, List.setIfInBounds_toArray, List.set_cons_zero, List.set_cons_succ]
  refine' wpAnyD_take (i := 27) (oi := { dst := some 58, op := Go.Op.indexAddr 27 (Go.Operand.tmp 57) (Go.Operand.const (Go.Value.int Go.IntKind.i64 1)), type := 0, pos := "law.go:20", after := #[{ on := 26, ground := Go.Ground.data }, { on := 25, ground := Go.Ground.guard }], guard := some (25, true) }) (v := _) rfl (by kernel_rfl) (by kernel_rfl) (by kernel_rfl) (fun _ _ _ h => h) (by kernel_rfl) (Or.inl ⟨by rfl, ?hy28⟩) hS8 ?rest28
  case hy28 => (intro W hSw; go_simp; try (with_reducible rfl))
  try simp only [Act.put, List.setIfInBounds_toArray, List.set_cons_zero, List.set_cons_succ]
  refine' wpAnyD_take (i := 28) (oi := { dst := some 59, op := Go.Op.load 47 (Go.Operand.tmp 58), type := 47, pos := "law.go:20", after := #[{ on := 27, ground := Go.Ground.data }, { on := 25, ground := Go.Ground.guard }], guard := some (25, true) }) (v := _) rfl (by kernel_rfl) (by kernel_rfl) (by kernel_rfl) (fun _ _ _ h => h) (by kernel_rfl) (Or.inl ⟨by rfl, ?hy29⟩) hS8 ?rest29
  case hy29 => (intro W hSw; have h0 := (hSw.cell z6).trans y0; have h1 := (hSw.cell z6).trans y1; have h2 := (hSw.cell z6).trans y2; have h3 := (hSw.cell z6).trans y3; have h4 := (hSw.cell z6).trans y4; go_simp; try (with_reducible rfl))
  try simp only [Act.put, List.setIfInBounds_toArray, List.set_cons_zero, List.set_cons_succ]
  refine' wpAnyD_take (i := 29) (oi := { dst := some 60, op := Go.Op.load 35 (Go.Operand.tmp 2), type := 35, pos := "law.go:20", after := #[{ on := 25, ground := Go.Ground.guard }], guard := some (25, true) }) (v := _) rfl (by kernel_rfl) (by kernel_rfl) (by kernel_rfl) (fun _ _ _ h => h) (by kernel_rfl) (Or.inl ⟨by rfl, ?hy30⟩) hS8 ?rest30
  case hy30 => (intro W hSw; have h0 := (hSw.cell zA6).trans a0'; have h1 := (hSw.cell zA6).trans a1'; have h2 := (hSw.cell zA6).trans a2'; have h3 := (hSw.cell zA6).trans a3'; go_simp; try (with_reducible rfl))
  try simp only [Act.put, List.setIfInBounds_toArray, List.set_cons_zero, List.set_cons_succ]
  refine' wpAnyD_take (i := 30) (oi := { dst := some 61, op := Go.Op.build 47 #[(0, Go.Operand.tmp 60), (1, Go.Operand.const (Go.Value.int Go.IntKind.i64 (-1)))], type := 47, pos := "law.go:20", after := #[{ on := 29, ground := Go.Ground.data }, { on := 25, ground := Go.Ground.guard }], guard := some (25, true) }) (v := _) rfl (by kernel_rfl) (by kernel_rfl) (by kernel_rfl) (fun _ _ _ h => h) (by kernel_rfl) (Or.inl ⟨by rfl, ?hy31⟩) hS8 ?rest31
  case hy31 => (intro W hSw; go_simp; try (with_reducible rfl))
  try simp only [Act.put, List.setIfInBounds_toArray, List.set_cons_zero, List.set_cons_succ]
  refine' wpAnyD_take (i := 31) (oi := { dst := some 62, op := Go.Op.binOp Go.BinOp.eql 47 (Go.Operand.tmp 59) (Go.Operand.tmp 61) 47, type := 4, pos := "law.go:20", after := #[{ on := 28, ground := Go.Ground.data }, { on := 30, ground := Go.Ground.data }, { on := 25, ground := Go.Ground.guard }], guard := some (25, true) }) (v := _) rfl (by kernel_rfl) (by kernel_rfl) (by kernel_rfl) (fun _ _ _ h => h) (by kernel_rfl) (Or.inl ⟨by rfl, ?hy32⟩) hS8 ?rest32
  case hy32 => (intro W hSw; go_simp; try (with_reducible rfl))
  try simp only [Act.put, List.setIfInBounds_toArray, List.set_cons_zero, List.set_cons_succ]
  refine' wpAnyD_take (i := 32) (oi := { dst := some 63, op := Go.Op.pick (Go.Operand.tmp 56) (Go.Operand.tmp 62) (Go.Operand.const (Go.Value.bool false)), type := 4, pos := "law.go:20", after := #[{ on := 25, ground := Go.Ground.data }, { on := 31, ground := Go.Ground.data }], guard := none }) (v := _) rfl (by kernel_rfl) (by kernel_rfl) (by kernel_rfl) (fun _ _ _ h => h) (by kernel_rfl) (Or.inl ⟨by rfl, ?hy33⟩) hS8 ?rest33
  case hy33 => (intro W hSw; go_simp; try (with_reducible rfl))
  try simp only [Act.put, List.setIfInBounds_toArray, List.set_cons_zero, List.set_cons_succ]
  refine' wpAnyD_take (i := 33) (oi := { dst := some 0, op := Go.Op.assign (Go.Operand.tmp 63), type := 4, pos := "law.go:20", after := #[{ on := 32, ground := Go.Ground.data }, { on := 25, ground := Go.Ground.chain }, { on := 0, ground := Go.Ground.phase }, { on := 1, ground := Go.Ground.phase }, { on := 2, ground := Go.Ground.phase }, { on := 3, ground := Go.Ground.phase }, { on := 4, ground := Go.Ground.phase }, { on := 5, ground := Go.Ground.phase }, { on := 6, ground := Go.Ground.phase }, { on := 7, ground := Go.Ground.phase }, { on := 8, ground := Go.Ground.phase }, { on := 9, ground := Go.Ground.phase }, { on := 10, ground := Go.Ground.phase }, { on := 11, ground := Go.Ground.phase }, { on := 12, ground := Go.Ground.phase }, { on := 13, ground := Go.Ground.phase }, { on := 14, ground := Go.Ground.phase }, { on := 15, ground := Go.Ground.phase }, { on := 16, ground := Go.Ground.phase }, { on := 17, ground := Go.Ground.phase }, { on := 18, ground := Go.Ground.phase }, { on := 19, ground := Go.Ground.phase }, { on := 20, ground := Go.Ground.phase }, { on := 21, ground := Go.Ground.phase }, { on := 22, ground := Go.Ground.phase }, { on := 23, ground := Go.Ground.phase }, { on := 24, ground := Go.Ground.phase }, { on := 25, ground := Go.Ground.phase }, { on := 26, ground := Go.Ground.phase }, { on := 27, ground := Go.Ground.phase }, { on := 28, ground := Go.Ground.phase }, { on := 29, ground := Go.Ground.phase }, { on := 30, ground := Go.Ground.phase }, { on := 31, ground := Go.Ground.phase }, { on := 32, ground := Go.Ground.phase }], guard := none }) (v := _) rfl (by kernel_rfl) (by kernel_rfl) (by kernel_rfl) (fun _ _ _ h => h) (by kernel_rfl) (Or.inl ⟨by rfl, ?hy34⟩) hS8 ?rest34
  case hy34 => (intro W hSw; go_simp; try (with_reducible rfl))
  try simp only [Act.put, List.setIfInBounds_toArray, List.set_cons_zero]
  refine wpAnyD_done (by kernel_rfl) ?_ _
  have HB := hid (B6.out.trans (hS8.below.mono B6.out.size))
  go_wp2_with fail
  go_ret
  exact ⟨rfl, HB.out⟩
end Go.Proofs.Ytcmgmgnmhhkdgaa
