import Derived.Test.YtifjjnnpoleinaaJ4
import Derived.Test.YtifjjnnpoleinaaLHold
import Derived.BigQuiet
namespace Go.Proofs.Ytifjjnnpoleinaa.Df
open Go.RowKit Go.Sort
attribute [local go_sem ↓] Go.wp_at_zero Go.wp_at_succ

set_option maxHeartbeats 4000000 in
theorem rin_any {nv : Value} {qe : Option Addr} {me ce : Nat} {a : Int} {xs : List NV} (i p : Int) (w : World) (h : Nr w nv xs) : Calls Try.prog 32 #[.agg (gvc a nv (.slice qe me ce)), .int .i64 i, .int .i64 p] w fun r w' => r = .returned (.int .i64 (inN (xs.map NV.n) i p)) ∧ Gr w w' := by
  have hmx : Try.prog.follows .mixedOrders = true := by kernel_rfl
  have g0 := (Gr.refl w).alloc (.cells (gvc a nv (.slice qe me ce)) 25)
  have HB := hid (heap_new' w (.cells (gvc a nv (.slice qe me ce)) 25))
  have HN := hid (h.below g0.below)
  obtain ⟨W0, hW0⟩ : ∃ W, W = w.alloc (.cells (gvc a nv (.slice qe me ce)) 25) := ⟨_, rfl⟩
  have HW : Hid (w.alloc (.cells #[.int .i64 a, nv, .slice qe me ce] 25) = W0) := hW0.symm
  rw [← hW0] at g0 HB HN
  have G0 := hid g0
  have hfst := fun (j : Nat) (hj : j ≤ xs.length) W (hb : Below W0.heap.size W0 W) => rfirst_any (ev := .slice qe me ce) (a := a) j hj W (HN.out.below hb)
  obtain ⟨qn, cn, rfl⟩ := h.nodes.form
  have hnl := h.nl
  have HP := hid h.pok
  obtain ⟨ns, hns⟩ : ∃ ns, ns = xs.map NV.n := ⟨_, rfl⟩
  rw [← hns] at HP hfst ⊢
  have HNS : Hid (ns = xs.map NV.n ∧ ns.length = xs.length) := ⟨hns, by rw [hns, List.length_map]⟩
  generalize hxl : xs.length = nl at *
  have HXL := hid hxl
  clear h hW0 g0 hns hxl
  have c0 := (tk_store HB.out).1
  have l0 := tk_lt HB.out
  have HFALSE : Hid (hasIN ns i p = false → inN ns i p = -1) := fun e => by unfold inN; rw [if_neg (by rw [e]; decide)]
  by_cases hi0 : i < 0
  · have HR : Hid (inN ns i p = -1) := HFALSE.out (by unfold hasIN natN?; rw [if_neg (by omega)])
    go_enter Try.func32, Try.ntmps32
    go_upto_region 1 with fail
    rw [HW.out]
    go_wp2_with fail
    go_ret
    exact ⟨by rw [HR.out]; rfl, G0.out⟩
  · by_cases hil : (nl : Int) ≤ i
    · have HR : Hid (inN ns i p = -1) := HFALSE.out (by unfold hasIN natN?; rw [if_pos (by omega), List.getElem?_eq_none (by have := HNS.out.2; have := HXL.out; omega)])
      go_enter Try.func32, Try.ntmps32
      go_upto_region 1 with fail
      rw [HW.out]
      go_wp2_with fail
      go_ret
      exact ⟨by rw [HR.out]; rfl, G0.out⟩
    · obtain ⟨j, rfl⟩ : ∃ j : Nat, i = (j : Int) := ⟨i.toNat, by omega⟩
      obtain ⟨y, hy⟩ : ∃ y, xs[j]? = some y := ⟨xs[j]'(by have := HXL.out; omega), by simp⟩
      have HYN : Hid (ns[j]? = some y.n) := by show _ = _; rw [HNS.out.1]; simp [hy]
      have HHAS : Hid (hasIN ns (j : Int) p = decide (0 ≤ p ∧ p < y.n.ins)) := by
        show _ = _
        unfold hasIN natN?
        rw [if_pos (by omega), Int.toNat_natCast, HYN.out]
      have HQ := hid (HP.out y.n (List.mem_of_getElem? HYN.out))
      obtain ⟨b1, o1, q1, ev1, zz1, x0, x1, x2, -⟩ := ls_atV (HN.out.nodes.ls hy) hy
      simp only [Value.slice.injEq] at ev1
      obtain ⟨rfl, -, rfl⟩ := ev1
      have HY := hid hy
      clear hy
      have hjz : (j : Int) < (nl : Int) := by omega
      have hj0 : (0 : Int) ≤ (j : Int) := by omega
      by_cases hp0 : p < 0
      · have HR : Hid (inN ns (j : Int) p = -1) := HFALSE.out (by rw [HHAS.out]; simp; omega)
        go_enter Try.func32, Try.ntmps32
        go_upto_region 1 with fail
        rw [HW.out]
        go_wp2_with fail
        go_ret
        exact ⟨by rw [HR.out]; rfl, G0.out⟩
      · by_cases hpn : y.n.ins ≤ p
        · have HR : Hid (inN ns (j : Int) p = -1) := HFALSE.out (by rw [HHAS.out]; simp; omega)
          go_enter Try.func32, Try.ntmps32
          go_upto_region 1 with fail
          rw [HW.out]
          go_wp2_with fail
          go_ret
          exact ⟨by rw [HR.out]; rfl, G0.out⟩
        · have hf1 := firstN_le HP.out j
          have hcall := fun W hb => hfst j (by omega) W hb
          obtain ⟨m, hm⟩ : ∃ m, m = firstN ns j := ⟨_, rfl⟩
          rw [← hm] at hcall hf1
          have q1 : 0 ≤ y.n.ins := HQ.out.1
          have q2 : y.n.ins ≤ 4 := HQ.out.2.1
          have hp4 : p < 4 := by have := HQ.out; omega
          have hm9 : (m : Int) ≤ 192 := by omega
          have HR : Hid (inN ns (j : Int) p = (m : Int) + p) := by
            show _ = _
            unfold inN
            rw [if_pos (by rw [HHAS.out]; simp; omega), Int.toNat_natCast, hm]
          clear hfst hm hf1
          go_enter Try.func32, Try.ntmps32
          go_upto_region 1 with fail
          rw [HW.out]
          clear HW
          go_wp2_with fail
          refine (hcall _ (Below.refl _ _)).mono ?_
          rintro r w1 ⟨rfl, g1⟩
          have G1 := hid (G0.out.trans g1)
          clear g1
          go_wp2_with fail
          go_ret
          exact ⟨by rw [HR.out]; rfl, G1.out⟩
set_option maxHeartbeats 4000000 in
theorem rout_any {nv : Value} {qe : Option Addr} {me ce : Nat} {a : Int} {xs : List NV} (i p : Int) (w : World) (h : Nr w nv xs) : Calls Try.prog 31 #[.agg (gvc a nv (.slice qe me ce)), .int .i64 i, .int .i64 p] w fun r w' => r = .returned (.int .i64 (outN (xs.map NV.n) i p)) ∧ Gr w w' := by
  have hmx : Try.prog.follows .mixedOrders = true := by kernel_rfl
  have g0 := (Gr.refl w).alloc (.cells (gvc a nv (.slice qe me ce)) 25)
  have HB := hid (heap_new' w (.cells (gvc a nv (.slice qe me ce)) 25))
  have HN := hid (h.below g0.below)
  obtain ⟨W0, hW0⟩ : ∃ W, W = w.alloc (.cells (gvc a nv (.slice qe me ce)) 25) := ⟨_, rfl⟩
  have HW : Hid (w.alloc (.cells #[.int .i64 a, nv, .slice qe me ce] 25) = W0) := hW0.symm
  rw [← hW0] at g0 HB HN
  have G0 := hid g0
  have hfst := fun (j : Nat) (hj : j ≤ xs.length) W (hb : Below W0.heap.size W0 W) => rfirst_any (ev := .slice qe me ce) (a := a) j hj W (HN.out.below hb)
  obtain ⟨qn, cn, rfl⟩ := h.nodes.form
  have hnl := h.nl
  have HP := hid h.pok
  obtain ⟨ns, hns⟩ : ∃ ns, ns = xs.map NV.n := ⟨_, rfl⟩
  rw [← hns] at HP hfst ⊢
  have HNS : Hid (ns = xs.map NV.n ∧ ns.length = xs.length) := ⟨hns, by rw [hns, List.length_map]⟩
  generalize hxl : xs.length = nl at *
  have HXL := hid hxl
  clear h hW0 g0 hns hxl
  have c0 := (tk_store HB.out).1
  have l0 := tk_lt HB.out
  have HFALSE : Hid (hasON ns i p = false → outN ns i p = -1) := fun e => by unfold outN; rw [if_neg (by rw [e]; decide)]
  by_cases hi0 : i < 0
  · have HR : Hid (outN ns i p = -1) := HFALSE.out (by unfold hasON natN?; rw [if_neg (by omega)])
    go_enter Try.func31, Try.ntmps31
    go_upto_region 1 with fail
    rw [HW.out]
    go_wp2_with fail
    go_ret
    exact ⟨by rw [HR.out]; rfl, G0.out⟩
  · by_cases hil : (nl : Int) ≤ i
    · have HR : Hid (outN ns i p = -1) := HFALSE.out (by unfold hasON natN?; rw [if_pos (by omega), List.getElem?_eq_none (by have := HNS.out.2; have := HXL.out; omega)])
      go_enter Try.func31, Try.ntmps31
      go_upto_region 1 with fail
      rw [HW.out]
      go_wp2_with fail
      go_ret
      exact ⟨by rw [HR.out]; rfl, G0.out⟩
    · obtain ⟨j, rfl⟩ : ∃ j : Nat, i = (j : Int) := ⟨i.toNat, by omega⟩
      obtain ⟨y, hy⟩ : ∃ y, xs[j]? = some y := ⟨xs[j]'(by have := HXL.out; omega), by simp⟩
      have HYN : Hid (ns[j]? = some y.n) := by show _ = _; rw [HNS.out.1]; simp [hy]
      have HHAS : Hid (hasON ns (j : Int) p = decide (0 ≤ p ∧ p < y.n.outs)) := by
        show _ = _
        unfold hasON natN?
        rw [if_pos (by omega), Int.toNat_natCast, HYN.out]
      have HQ := hid (HP.out y.n (List.mem_of_getElem? HYN.out))
      obtain ⟨b1, o1, q1, ev1, zz1, x0, x1, x2, -⟩ := ls_atV (HN.out.nodes.ls hy) hy
      simp only [Value.slice.injEq] at ev1
      obtain ⟨rfl, -, rfl⟩ := ev1
      have HY := hid hy
      clear hy
      have hjz : (j : Int) < (nl : Int) := by omega
      have hj0 : (0 : Int) ≤ (j : Int) := by omega
      by_cases hp0 : p < 0
      · have HR : Hid (outN ns (j : Int) p = -1) := HFALSE.out (by rw [HHAS.out]; simp; omega)
        go_enter Try.func31, Try.ntmps31
        go_upto_region 1 with fail
        rw [HW.out]
        go_wp2_with fail
        go_ret
        exact ⟨by rw [HR.out]; rfl, G0.out⟩
      · by_cases hpn : y.n.outs ≤ p
        · have HR : Hid (outN ns (j : Int) p = -1) := HFALSE.out (by rw [HHAS.out]; simp; omega)
          go_enter Try.func31, Try.ntmps31
          go_upto_region 1 with fail
          rw [HW.out]
          go_wp2_with fail
          go_ret
          exact ⟨by rw [HR.out]; rfl, G0.out⟩
        · have hf1 := firstN_le HP.out j
          have hcall := fun W hb => hfst j (by omega) W hb
          obtain ⟨m, hm⟩ : ∃ m, m = firstN ns j := ⟨_, rfl⟩
          rw [← hm] at hcall hf1
          have q1 : 0 ≤ y.n.ins := HQ.out.1
          have q2 : y.n.ins ≤ 4 := HQ.out.2.1
          have hp4 : p < 4 := by have := HQ.out; omega
          have hm9 : (m : Int) ≤ 192 := by omega
          have HR : Hid (outN ns (j : Int) p = (m : Int) + y.n.ins + p) := by
            show _ = _
            unfold outN
            rw [if_pos (by rw [HHAS.out]; simp; omega), Int.toNat_natCast, hm, HYN.out]
          clear hfst hm hf1
          go_enter Try.func31, Try.ntmps31
          go_upto_region 1 with fail
          rw [HW.out]
          clear HW
          have hw1 : IntKind.i64.wrap ((m : Int) + y.n.ins) = (m : Int) + y.n.ins := by rw [IntKind.wrap_i64]; omega
          have hw2 : IntKind.i64.wrap ((m : Int) + y.n.ins + p) = (m : Int) + y.n.ins + p := by rw [IntKind.wrap_i64]; omega
          go_upto_region 3 with fail
          have hS0 : Gr W0 W0.drew := (Gr.refl W0).drew
          refine wp_regionD (S := fun W => Gr W0 W) (D := []) hmx ?_
          refine' wpAnyD_take (i := 0) (oi := { dst := some 30, op := Go.Op.load 25 (Go.Operand.tmp 3), type := 25, pos := "ref.go:180", after := #[], guard := none }) (v := _) rfl (by kernel_rfl) (by kernel_rfl) (by kernel_rfl) (fun _ _ _ h => h) (by kernel_rfl) (Or.inl ⟨by rfl, ?hy1⟩) hS0 ?rest1
          case hy1 => (intro W hSw; have hb := (hSw.below.block _ (tk_lt HB.out)).trans HB.out; have hc := (tk_store hb).1; have hl := tk_lt hb; go_simp; try (with_reducible rfl))
          try simp only [Act.put, List.setIfInBounds_toArray, List.set_cons_zero, List.set_cons_succ]
          refine' wpAnyD_take (i := 1) (oi := { dst := some 31, op := Go.Op.move (Go.Operand.tmp 1), type := 3, pos := "ref.go:180", after := #[], guard := none }) (v := _) rfl (by kernel_rfl) (by kernel_rfl) (by kernel_rfl) (fun _ _ _ h => h) (by kernel_rfl) (Or.inl ⟨by rfl, ?hy2⟩) hS0 ?rest2
          case hy2 => (intro W hSw; go_simp; try (with_reducible rfl))
          try simp only [Act.put, List.setIfInBounds_toArray, List.set_cons_zero, List.set_cons_succ]
          refine' wpAnyD_take (i := 3) (oi := { dst := some 33, op := Go.Op.fieldAddr 25 (Go.Operand.tmp 3) 1, type := 0, pos := "ref.go:180", after := #[], guard := none }) (v := _) rfl (by kernel_rfl) (by kernel_rfl) (by kernel_rfl) (fun _ _ _ h => h) (by kernel_rfl) (Or.inl ⟨by rfl, ?hy3⟩) hS0 ?rest3
          case hy3 => (intro W hSw; go_simp; try (with_reducible rfl))
          try simp only [Act.put, List.setIfInBounds_toArray, List.set_cons_zero, List.set_cons_succ]
          refine' wpAnyD_take (i := 4) (oi := { dst := some 34, op := Go.Op.load 22 (Go.Operand.tmp 33), type := 22, pos := "ref.go:180", after := #[{ on := 3, ground := Go.Ground.data }], guard := none }) (v := _) rfl (by kernel_rfl) (by kernel_rfl) (by kernel_rfl) (fun _ _ _ h => h) (by kernel_rfl) (Or.inl ⟨by rfl, ?hy4⟩) hS0 ?rest4
          case hy4 => (intro W hSw; have hb := (hSw.below.block _ (tk_lt HB.out)).trans HB.out; have hc := (tk_store hb).1; have hl := tk_lt hb; go_simp; try (with_reducible rfl))
          try simp only [Act.put, List.setIfInBounds_toArray, List.set_cons_zero, List.set_cons_succ]
          refine' wpAnyD_take (i := 5) (oi := { dst := some 35, op := Go.Op.move (Go.Operand.tmp 1), type := 3, pos := "ref.go:180", after := #[], guard := none }) (v := _) rfl (by kernel_rfl) (by kernel_rfl) (by kernel_rfl) (fun _ _ _ h => h) (by kernel_rfl) (Or.inl ⟨by rfl, ?hy5⟩) hS0 ?rest5
          case hy5 => (intro W hSw; go_simp; try (with_reducible rfl))
          try simp only [Act.put, List.setIfInBounds_toArray, List.set_cons_zero, List.set_cons_succ]
          refine' wpAnyD_take (i := 6) (oi := { dst := some 36, op := Go.Op.indexAddr 22 (Go.Operand.tmp 34) (Go.Operand.tmp 35), type := 0, pos := "ref.go:180", after := #[{ on := 4, ground := Go.Ground.data }, { on := 5, ground := Go.Ground.data }], guard := none }) (v := _) rfl (by kernel_rfl) (by kernel_rfl) (by kernel_rfl) (fun _ _ _ h => h) (by kernel_rfl) (Or.inl ⟨by rfl, ?hy6⟩) hS0 ?rest6
          case hy6 => (intro W hSw; go_simp; try (with_reducible rfl))
          try simp only [Act.put, List.setIfInBounds_toArray, List.set_cons_zero, List.set_cons_succ]
          refine' wpAnyD_take (i := 7) (oi := { dst := some 37, op := Go.Op.fieldAddr 68 (Go.Operand.tmp 36) 1, type := 0, pos := "ref.go:180", after := #[{ on := 6, ground := Go.Ground.data }], guard := none }) (v := _) rfl (by kernel_rfl) (by kernel_rfl) (by kernel_rfl) (fun _ _ _ h => h) (by kernel_rfl) (Or.inl ⟨by rfl, ?hy7⟩) hS0 ?rest7
          case hy7 => (intro W hSw; go_simp; try (with_reducible rfl))
          try simp only [Act.put, List.setIfInBounds_toArray, List.set_cons_zero, List.set_cons_succ]
          refine' wpAnyD_take (i := 8) (oi := { dst := some 38, op := Go.Op.load 3 (Go.Operand.tmp 37), type := 3, pos := "ref.go:180", after := #[{ on := 7, ground := Go.Ground.data }], guard := none }) (v := _) rfl (by kernel_rfl) (by kernel_rfl) (by kernel_rfl) (fun _ _ _ h => h) (by kernel_rfl) (Or.inl ⟨by rfl, ?hy8⟩) hS0 ?rest8
          case hy8 => (intro W hSw; obtain ⟨b9, o9, q9, e9, z9, y0, y1, -⟩ := ls_atV ((HN.out.nodes.below hSw.below).ls HY.out) HY.out; simp only [Value.slice.injEq, Option.some.injEq, Addr.mk.injEq] at e9; obtain ⟨⟨rfl, rfl, -⟩, -, rfl⟩ := e9; go_simp; try (with_reducible rfl))
          try simp only [Act.put, List.setIfInBounds_toArray, List.set_cons_zero, List.set_cons_succ]
          refine' wpAnyD_take (i := 10) (oi := { dst := some 40, op := Go.Op.move (Go.Operand.tmp 2), type := 3, pos := "ref.go:180", after := #[], guard := none }) (v := _) rfl (by kernel_rfl) (by kernel_rfl) (by kernel_rfl) (fun _ _ _ h => h) (by kernel_rfl) (Or.inl ⟨by rfl, ?hy9⟩) hS0 ?rest9
          case hy9 => (intro W hSw; go_simp; try (with_reducible rfl))
          try simp only [Act.put, List.setIfInBounds_toArray, List.set_cons_zero, List.set_cons_succ]
          refine wpAnyD_one (i := 2) (o := { dst := some 32, op := Go.Op.call { callee := Go.Callee.value (Go.Operand.func 40), args := #[Go.Operand.tmp 30, Go.Operand.tmp 31], argTypes := #[25, 3] }, type := 3, pos := "ref.go:180", after := #[{ on := 0, ground := Go.Ground.data }, { on := 1, ground := Go.Ground.data }], guard := none }) (by kernel_rfl) rfl (fun K hK => ?_)
          go_simp
          refine (hcall _ hS0.below).mono ?_
          rintro r w6 ⟨rfl, g6⟩
          have hS6 : Gr W0 w6 := hS0.trans g6
          clear g6
          go_wp2_with fail
          refine hK.out _ _ (fun hD => hS6) ?_
          clear hK K
          try simp only [Act.put, List.setIfInBounds_toArray, List.set_cons_zero, List.set_cons_succ]
          refine' wpAnyD_take (i := 9) (oi := { dst := some 39, op := Go.Op.binOp Go.BinOp.add 3 (Go.Operand.tmp 32) (Go.Operand.tmp 38) 3, type := 3, pos := "ref.go:180", after := #[{ on := 2, ground := Go.Ground.data }, { on := 8, ground := Go.Ground.data }], guard := none }) (v := _) rfl (by kernel_rfl) (by kernel_rfl) (by kernel_rfl) (fun _ _ _ h => h) (by kernel_rfl) (Or.inl ⟨by rfl, ?hy11⟩) hS6 ?rest11
          case hy11 => (intro W hSw; go_simp; try (with_reducible rfl))
          try simp only [Act.put, List.setIfInBounds_toArray, List.set_cons_zero, List.set_cons_succ]
          refine' wpAnyD_take (i := 11) (oi := { dst := some 41, op := Go.Op.binOp Go.BinOp.add 3 (Go.Operand.tmp 39) (Go.Operand.tmp 40) 3, type := 3, pos := "ref.go:180", after := #[{ on := 9, ground := Go.Ground.data }, { on := 10, ground := Go.Ground.data }], guard := none }) (v := _) rfl (by kernel_rfl) (by kernel_rfl) (by kernel_rfl) (fun _ _ _ h => h) (by kernel_rfl) (Or.inl ⟨by rfl, ?hy12⟩) hS6 ?rest12
          case hy12 => (intro W hSw; go_simp; try (with_reducible rfl))
          try simp only [Act.put, List.setIfInBounds_toArray, List.set_cons_zero, List.set_cons_succ]
          refine' wpAnyD_take (i := 12) (oi := { dst := some 6, op := Go.Op.assign (Go.Operand.tmp 41), type := 3, pos := "ref.go:180", after := #[{ on := 11, ground := Go.Ground.data }, { on := 2, ground := Go.Ground.chain }, { on := 0, ground := Go.Ground.phase }, { on := 1, ground := Go.Ground.phase }, { on := 2, ground := Go.Ground.phase }, { on := 3, ground := Go.Ground.phase }, { on := 4, ground := Go.Ground.phase }, { on := 5, ground := Go.Ground.phase }, { on := 6, ground := Go.Ground.phase }, { on := 7, ground := Go.Ground.phase }, { on := 8, ground := Go.Ground.phase }, { on := 9, ground := Go.Ground.phase }, { on := 10, ground := Go.Ground.phase }, { on := 11, ground := Go.Ground.phase }], guard := none }) (v := _) rfl (by kernel_rfl) (by kernel_rfl) (by kernel_rfl) (fun _ _ _ h => h) (by kernel_rfl) (Or.inl ⟨by rfl, ?hy13⟩) hS6 ?rest13
          case hy13 => (intro W hSw; go_simp; try (with_reducible rfl))
          try simp only [Act.put, List.setIfInBounds_toArray, List.set_cons_zero, List.set_cons_succ]
          refine wpAnyD_done (by kernel_rfl) ?_ _
          have G6 := hid (G0.out.trans hS6)
          clear hS0 hS6 hcall
          go_wp2_with fail
          go_ret
          exact ⟨by rw [HR.out]; rfl, G6.out⟩
end Go.Proofs.Ytifjjnnpoleinaa.Df
