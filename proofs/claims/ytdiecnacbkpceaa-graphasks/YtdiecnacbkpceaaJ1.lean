import Derived.Test.YtdiecnacbkpceaaGChk4
import Derived.Test.YtdiecnacbkpceaaLHold
import Derived.BigQuiet
import Derived.Test.YtdiecnacbkpceaaGOf
import Derived.RangeFuncNested
import Derived.RangeFuncBound
import Derived.RangeFuncCalls
import Derived.RangeFuncLeaves
import Derived.RangeFuncFrom
import Derived.RangeFuncBox
import Derived.Shelf.Abstract
import Derived.Shelf.RegionOpen
import Derived.WalkKit
import Derived.OwnWalkIn
import Derived.TacticsInMore
import Derived.LoopNIn
import Derived.LoopIn
import Derived.Maps.AppendAt
import Derived.Sort.QuietIn
namespace Go.Proofs.Ytdiecnacbkpceaa.Df
open Go.RowKit Go.Sort
attribute [local go_sem ↓] Go.wp_at_zero Go.wp_at_succ

set_option maxHeartbeats 4000000 in
theorem rin_any {nv : Value} {qe : Option Addr} {me ce : Nat} {a : Int} {xs : List NV} (i p : Int) (w : World) (h : Nr w nv xs) : Calls Try.prog 38 #[.agg (gvc a nv (.slice qe me ce)), .int .i64 i, .int .i64 p] w fun r w' => r = .returned (.int .i64 (inN (xs.map NV.n) i p)) ∧ Gr w w' := by
  have hmx : Try.prog.follows .mixedOrders = true := by kernel_rfl
  have g0 := (Gr.refl w).alloc (.cells (gvc a nv (.slice qe me ce)) 25)
  have HB := hid (heap_new' w (.cells (gvc a nv (.slice qe me ce)) 25))
  have HN := hid (h.below g0.below)
  obtain ⟨W0, hW0⟩ : ∃ W, W = w.alloc (.cells (gvc a nv (.slice qe me ce)) 25) := ⟨_, rfl⟩
  have HW : Hid (w.alloc (.cells #[.int .i64 a, nv, .slice qe me ce] 25) = W0) := hW0.symm
  rw [← hW0] at g0 HB HN
  have G0 := hid g0
  have hfst := fun (j : Nat) (hj : j ≤ xs.length) W (hb : Below W0.heap.size W0 W) => rfirst_any (ev := .slice qe me ce) (a := a) j hj W (HN.out.below hb)
  obtain ⟨qn, cn, rfl⟩ := h.nodes.form
  have hnl := h.nl
  have HP := hid h.pok
  obtain ⟨ns, hns⟩ : ∃ ns, ns = xs.map NV.n := ⟨_, rfl⟩
  rw [← hns] at HP hfst ⊢
  have HNS : Hid (ns = xs.map NV.n ∧ ns.length = xs.length) := ⟨hns, by rw [hns, List.length_map]⟩
  generalize hxl : xs.length = nl at *
  have HXL := hid hxl
  clear h hW0 g0 hns hxl
  have c0 := (tk_store HB.out).1
  have l0 := tk_lt HB.out
  have HFALSE : Hid (hasIN ns i p = false → inN ns i p = -1) := fun e => by unfold inN; rw [if_neg (by rw [e]; decide)]
  by_cases hi0 : i < 0
  · have HR : Hid (inN ns i p = -1) := HFALSE.out (by unfold hasIN natN?; rw [if_neg (by omega)])
    go_enter Try.func38, Try.ntmps38
    go_upto_region 1 with fail
    rw [HW.out]
    go_wp2_with fail
    go_ret
    exact ⟨by rw [HR.out]; rfl, G0.out⟩
  · by_cases hil : (nl : Int) ≤ i
    · have HR : Hid (inN ns i p = -1) := HFALSE.out (by unfold hasIN natN?; rw [if_pos (by omega), List.getElem?_eq_none (by have := HNS.out.2; have := HXL.out; omega)])
      go_enter Try.func38, Try.ntmps38
      go_upto_region 1 with fail
      rw [HW.out]
      go_wp2_with fail
      go_ret
      exact ⟨by rw [HR.out]; rfl, G0.out⟩
    · obtain ⟨j, rfl⟩ : ∃ j : Nat, i = (j : Int) := ⟨i.toNat, by omega⟩
      obtain ⟨y, hy⟩ : ∃ y, xs[j]? = some y := ⟨xs[j]'(by have := HXL.out; omega), by simp⟩
      have HYN : Hid (ns[j]? = some y.n) := by show _ = _; rw [HNS.out.1]; simp [hy]
      have HHAS : Hid (hasIN ns (j : Int) p = decide (0 ≤ p ∧ p < y.n.ins)) := by
        show _ = _
        unfold hasIN natN?
        rw [if_pos (by omega), Int.toNat_natCast, HYN.out]
      have HQ := hid (HP.out y.n (List.mem_of_getElem? HYN.out))
      obtain ⟨b1, o1, q1, ev1, zz1, x0, x1, x2, -⟩ := ls_atV (HN.out.nodes.ls hy) hy
      simp only [Value.slice.injEq] at ev1
      obtain ⟨rfl, -, rfl⟩ := ev1
      have HY := hid hy
      clear hy
      have hjz : (j : Int) < (nl : Int) := by omega
      have hj0 : (0 : Int) ≤ (j : Int) := by omega
      by_cases hp0 : p < 0
      · have HR : Hid (inN ns (j : Int) p = -1) := HFALSE.out (by rw [HHAS.out]; simp; omega)
        go_enter Try.func38, Try.ntmps38
        go_upto_region 1 with fail
        rw [HW.out]
        go_wp2_with fail
        go_ret
        exact ⟨by rw [HR.out]; rfl, G0.out⟩
      · by_cases hpn : y.n.ins ≤ p
        · have HR : Hid (inN ns (j : Int) p = -1) := HFALSE.out (by rw [HHAS.out]; simp; omega)
          go_enter Try.func38, Try.ntmps38
          go_upto_region 1 with fail
          rw [HW.out]
          go_wp2_with fail
          go_ret
          exact ⟨by rw [HR.out]; rfl, G0.out⟩
        · have hf1 := firstN_le HP.out j
          have hcall := fun W hb => hfst j (by omega) W hb
          obtain ⟨m, hm⟩ : ∃ m, m = firstN ns j := ⟨_, rfl⟩
          rw [← hm] at hcall hf1
          have q1 : 0 ≤ y.n.ins := HQ.out.1
          have q2 : y.n.ins ≤ 4 := HQ.out.2.1
          have hp4 : p < 4 := by have := HQ.out; omega
          have hm9 : (m : Int) ≤ 192 := by omega
          have HR : Hid (inN ns (j : Int) p = (m : Int) + p) := by
            show _ = _
            unfold inN
            rw [if_pos (by rw [HHAS.out]; simp; omega), Int.toNat_natCast, hm]
          clear hfst hm hf1
          go_enter Try.func38, Try.ntmps38
          go_upto_region 1 with fail
          rw [HW.out]
          clear HW
          go_wp2_with fail
          refine (hcall _ (Below.refl _ _)).mono ?_
          rintro r w1 ⟨rfl, g1⟩
          have G1 := hid (G0.out.trans g1)
          clear g1
          go_wp2_with fail
          go_ret
          exact ⟨by rw [HR.out]; rfl, G1.out⟩
set_option maxHeartbeats 4000000 in
theorem rout_any {nv : Value} {qe : Option Addr} {me ce : Nat} {a : Int} {xs : List NV} (i p : Int) (w : World) (h : Nr w nv xs) : Calls Try.prog 39 #[.agg (gvc a nv (.slice qe me ce)), .int .i64 i, .int .i64 p] w fun r w' => r = .returned (.int .i64 (outN (xs.map NV.n) i p)) ∧ Gr w w' := by
  have hmx : Try.prog.follows .mixedOrders = true := by kernel_rfl
  have g0 := (Gr.refl w).alloc (.cells (gvc a nv (.slice qe me ce)) 25)
  have HB := hid (heap_new' w (.cells (gvc a nv (.slice qe me ce)) 25))
  have HN := hid (h.below g0.below)
  obtain ⟨W0, hW0⟩ : ∃ W, W = w.alloc (.cells (gvc a nv (.slice qe me ce)) 25) := ⟨_, rfl⟩
  have HW : Hid (w.alloc (.cells #[.int .i64 a, nv, .slice qe me ce] 25) = W0) := hW0.symm
  rw [← hW0] at g0 HB HN
  have G0 := hid g0
  have hfst := fun (j : Nat) (hj : j ≤ xs.length) W (hb : Below W0.heap.size W0 W) => rfirst_any (ev := .slice qe me ce) (a := a) j hj W (HN.out.below hb)
  obtain ⟨qn, cn, rfl⟩ := h.nodes.form
  have hnl := h.nl
  have HP := hid h.pok
  obtain ⟨ns, hns⟩ : ∃ ns, ns = xs.map NV.n := ⟨_, rfl⟩
  rw [← hns] at HP hfst ⊢
  have HNS : Hid (ns = xs.map NV.n ∧ ns.length = xs.length) := ⟨hns, by rw [hns, List.length_map]⟩
  generalize hxl : xs.length = nl at *
  have HXL := hid hxl
  clear h hW0 g0 hns hxl
  have c0 := (tk_store HB.out).1
  have l0 := tk_lt HB.out
  have HFALSE : Hid (hasON ns i p = false → outN ns i p = -1) := fun e => by unfold outN; rw [if_neg (by rw [e]; decide)]
  by_cases hi0 : i < 0
  · have HR : Hid (outN ns i p = -1) := HFALSE.out (by unfold hasON natN?; rw [if_neg (by omega)])
    go_enter Try.func39, Try.ntmps39
    go_upto_region 1 with fail
    rw [HW.out]
    go_wp2_with fail
    go_ret
    exact ⟨by rw [HR.out]; rfl, G0.out⟩
  · by_cases hil : (nl : Int) ≤ i
    · have HR : Hid (outN ns i p = -1) := HFALSE.out (by unfold hasON natN?; rw [if_pos (by omega), List.getElem?_eq_none (by have := HNS.out.2; have := HXL.out; omega)])
      go_enter Try.func39, Try.ntmps39
      go_upto_region 1 with fail
      rw [HW.out]
      go_wp2_with fail
      go_ret
      exact ⟨by rw [HR.out]; rfl, G0.out⟩
    · obtain ⟨j, rfl⟩ : ∃ j : Nat, i = (j : Int) := ⟨i.toNat, by omega⟩
      obtain ⟨y, hy⟩ : ∃ y, xs[j]? = some y := ⟨xs[j]'(by have := HXL.out; omega), by simp⟩
      have HYN : Hid (ns[j]? = some y.n) := by show _ = _; rw [HNS.out.1]; simp [hy]
      have HHAS : Hid (hasON ns (j : Int) p = decide (0 ≤ p ∧ p < y.n.outs)) := by
        show _ = _
        unfold hasON natN?
        rw [if_pos (by omega), Int.toNat_natCast, HYN.out]
      have HQ := hid (HP.out y.n (List.mem_of_getElem? HYN.out))
      obtain ⟨b1, o1, q1, ev1, zz1, x0, x1, x2, -⟩ := ls_atV (HN.out.nodes.ls hy) hy
      simp only [Value.slice.injEq] at ev1
      obtain ⟨rfl, -, rfl⟩ := ev1
      have HY := hid hy
      clear hy
      have hjz : (j : Int) < (nl : Int) := by omega
      have hj0 : (0 : Int) ≤ (j : Int) := by omega
      by_cases hp0 : p < 0
      · have HR : Hid (outN ns (j : Int) p = -1) := HFALSE.out (by rw [HHAS.out]; simp; omega)
        go_enter Try.func39, Try.ntmps39
        go_upto_region 1 with fail
        rw [HW.out]
        go_wp2_with fail
        go_ret
        exact ⟨by rw [HR.out]; rfl, G0.out⟩
      · by_cases hpn : y.n.outs ≤ p
        · have HR : Hid (outN ns (j : Int) p = -1) := HFALSE.out (by rw [HHAS.out]; simp; omega)
          go_enter Try.func39, Try.ntmps39
          go_upto_region 1 with fail
          rw [HW.out]
          go_wp2_with fail
          go_ret
          exact ⟨by rw [HR.out]; rfl, G0.out⟩
        · have hf1 := firstN_le HP.out j
          have hcall := fun W hb => hfst j (by omega) W hb
          obtain ⟨m, hm⟩ : ∃ m, m = firstN ns j := ⟨_, rfl⟩
          rw [← hm] at hcall hf1
          have q1 : 0 ≤ y.n.ins := HQ.out.1
          have q2 : y.n.ins ≤ 4 := HQ.out.2.1
          have hp4 : p < 4 := by have := HQ.out; omega
          have hm9 : (m : Int) ≤ 192 := by omega
          have HR : Hid (outN ns (j : Int) p = (m : Int) + y.n.ins + p) := by
            show _ = _
            unfold outN
            rw [if_pos (by rw [HHAS.out]; simp; omega), Int.toNat_natCast, hm, HYN.out]
          clear hfst hm hf1
          go_enter Try.func39, Try.ntmps39
          go_upto_region 1 with fail
          rw [HW.out]
          clear HW
          have hw1 : IntKind.i64.wrap ((m : Int) + y.n.ins) = (m : Int) + y.n.ins := by rw [IntKind.wrap_i64]; omega
          have hw2 : IntKind.i64.wrap ((m : Int) + y.n.ins + p) = (m : Int) + y.n.ins + p := by rw [IntKind.wrap_i64]; omega
          go_upto_region 3 with fail
          have hS0 : Gr W0 W0.drew := (Gr.refl W0).drew
          refine wp_regionD (S := fun W => Gr W0 W) (D := []) hmx ?_
          refine' wpAnyD_take (i := 0) (oi := { dst := some 30, op := Go.Op.load 25 (Go.Operand.tmp 3), type := 25, pos := "ref.go:180", after := #[], guard := none }) (v := _) rfl (by kernel_rfl) (by kernel_rfl) (by kernel_rfl) (fun _ _ _ h => h) (by kernel_rfl) (Or.inl ⟨by rfl, ?hy1⟩) hS0 ?rest1
          case hy1 => (intro W hSw; have hb := (hSw.below.block _ (tk_lt HB.out)).trans HB.out; have hc := (tk_store hb).1; have hl := tk_lt hb; go_simp; try (with_reducible rfl))
          try simp only [Act.put, List.setIfInBounds_toArray, List.set_cons_zero, List.set_cons_succ]
          refine' wpAnyD_take (i := 1) (oi := { dst := some 31, op := Go.Op.move (Go.Operand.tmp 1), type := 3, pos := "ref.go:180", after := #[], guard := none }) (v := _) rfl (by kernel_rfl) (by kernel_rfl) (by kernel_rfl) (fun _ _ _ h => h) (by kernel_rfl) (Or.inl ⟨by rfl, ?hy2⟩) hS0 ?rest2
          case hy2 => (intro W hSw; go_simp; try (with_reducible rfl))
          try simp only [Act.put, List.setIfInBounds_toArray, List.set_cons_zero, List.set_cons_succ]
          refine' wpAnyD_take (i := 3) (oi := { dst := some 33, op := Go.Op.fieldAddr 25 (Go.Operand.tmp 3) 1, type := 0, pos := "ref.go:180", after := #[], guard := none }) (v := _) rfl (by kernel_rfl) (by kernel_rfl) (by kernel_rfl) (fun _ _ _ h => h) (by kernel_rfl) (Or.inl ⟨by rfl, ?hy3⟩) hS0 ?rest3
          case hy3 => (intro W hSw; go_simp; try (with_reducible rfl))
          try simp only [Act.put, List.setIfInBounds_toArray, List.set_cons_zero, List.set_cons_succ]
          refine' wpAnyD_take (i := 4) (oi := { dst := some 34, op := Go.Op.load 22 (Go.Operand.tmp 33), type := 22, pos := "ref.go:180", after := #[{ on := 3, ground := Go.Ground.data }], guard := none }) (v := _) rfl (by kernel_rfl) (by kernel_rfl) (by kernel_rfl) (fun _ _ _ h => h) (by kernel_rfl) (Or.inl ⟨by rfl, ?hy4⟩) hS0 ?rest4
          case hy4 => (intro W hSw; have hb := (hSw.below.block _ (tk_lt HB.out)).trans HB.out; have hc := (tk_store hb).1; have hl := tk_lt hb; go_simp; try (with_reducible rfl))
          try simp only [Act.put, List.setIfInBounds_toArray, List.set_cons_zero, List.set_cons_succ]
          refine' wpAnyD_take (i := 5) (oi := { dst := some 35, op := Go.Op.move (Go.Operand.tmp 1), type := 3, pos := "ref.go:180", after := #[], guard := none }) (v := _) rfl (by kernel_rfl) (by kernel_rfl) (by kernel_rfl) (fun _ _ _ h => h) (by kernel_rfl) (Or.inl ⟨by rfl, ?hy5⟩) hS0 ?rest5
          case hy5 => (intro W hSw; go_simp; try (with_reducible rfl))
          try simp only [Act.put, List.setIfInBounds_toArray, List.set_cons_zero, List.set_cons_succ]
          refine' wpAnyD_take (i := 6) (oi := { dst := some 36, op := Go.Op.indexAddr 22 (Go.Operand.tmp 34) (Go.Operand.tmp 35), type := 0, pos := "ref.go:180", after := #[{ on := 4, ground := Go.Ground.data }, { on := 5, ground := Go.Ground.data }], guard := none }) (v := _) rfl (by kernel_rfl) (by kernel_rfl) (by kernel_rfl) (fun _ _ _ h => h) (by kernel_rfl) (Or.inl ⟨by rfl, ?hy6⟩) hS0 ?rest6
          case hy6 => (intro W hSw; go_simp; try (with_reducible rfl))
          try simp only [Act.put, List.setIfInBounds_toArray, List.set_cons_zero, List.set_cons_succ]
          refine' wpAnyD_take (i := 7) (oi := { dst := some 37, op := Go.Op.fieldAddr 39 (Go.Operand.tmp 36) 1, type := 0, pos := "ref.go:180", after := #[{ on := 6, ground := Go.Ground.data }], guard := none }) (v := _) rfl (by kernel_rfl) (by kernel_rfl) (by kernel_rfl) (fun _ _ _ h => h) (by kernel_rfl) (Or.inl ⟨by rfl, ?hy7⟩) hS0 ?rest7
          case hy7 => (intro W hSw; go_simp; try (with_reducible rfl))
          try simp only [Act.put, List.setIfInBounds_toArray, List.set_cons_zero, List.set_cons_succ]
          refine' wpAnyD_take (i := 8) (oi := { dst := some 38, op := Go.Op.load 3 (Go.Operand.tmp 37), type := 3, pos := "ref.go:180", after := #[{ on := 7, ground := Go.Ground.data }], guard := none }) (v := _) rfl (by kernel_rfl) (by kernel_rfl) (by kernel_rfl) (fun _ _ _ h => h) (by kernel_rfl) (Or.inl ⟨by rfl, ?hy8⟩) hS0 ?rest8
          case hy8 => (intro W hSw; obtain ⟨b9, o9, q9, e9, z9, y0, y1, -⟩ := ls_atV ((HN.out.nodes.below hSw.below).ls HY.out) HY.out; simp only [Value.slice.injEq, Option.some.injEq, Addr.mk.injEq] at e9; obtain ⟨⟨rfl, rfl, -⟩, -, rfl⟩ := e9; go_simp; try (with_reducible rfl))
          try simp only [Act.put, List.setIfInBounds_toArray, List.set_cons_zero, List.set_cons_succ]
          refine' wpAnyD_take (i := 10) (oi := { dst := some 40, op := Go.Op.move (Go.Operand.tmp 2), type := 3, pos := "ref.go:180", after := #[], guard := none }) (v := _) rfl (by kernel_rfl) (by kernel_rfl) (by kernel_rfl) (fun _ _ _ h => h) (by kernel_rfl) (Or.inl ⟨by rfl, ?hy9⟩) hS0 ?rest9
          case hy9 => (intro W hSw; go_simp; try (with_reducible rfl))
          try simp only [Act.put, List.setIfInBounds_toArray, List.set_cons_zero, List.set_cons_succ]
          refine wpAnyD_one (i := 2) (o := { dst := some 32, op := Go.Op.call { callee := Go.Callee.value (Go.Operand.func 53), args := #[Go.Operand.tmp 30, Go.Operand.tmp 31], argTypes := #[25, 3] }, type := 3, pos := "ref.go:180", after := #[{ on := 0, ground := Go.Ground.data }, { on := 1, ground := Go.Ground.data }], guard := none }) (by kernel_rfl) rfl (fun K hK => ?_)
          go_simp
          refine (hcall _ hS0.below).mono ?_
          rintro r w6 ⟨rfl, g6⟩
          have hS6 : Gr W0 w6 := hS0.trans g6
          clear g6
          go_wp2_with fail
          refine hK.out _ _ (fun hD => hS6) ?_
          clear hK K
          try simp only [Act.put, List.setIfInBounds_toArray, List.set_cons_zero, List.set_cons_succ]
          refine' wpAnyD_take (i := 9) (oi := { dst := some 39, op := Go.Op.binOp Go.BinOp.add 3 (Go.Operand.tmp 32) (Go.Operand.tmp 38) 3, type := 3, pos := "ref.go:180", after := #[{ on := 2, ground := Go.Ground.data }, { on := 8, ground := Go.Ground.data }], guard := none }) (v := _) rfl (by kernel_rfl) (by kernel_rfl) (by kernel_rfl) (fun _ _ _ h => h) (by kernel_rfl) (Or.inl ⟨by rfl, ?hy11⟩) hS6 ?rest11
          case hy11 => (intro W hSw; go_simp; try (with_reducible rfl))
          try simp only [Act.put, List.setIfInBounds_toArray, List.set_cons_zero, List.set_cons_succ]
          refine' wpAnyD_take (i := 11) (oi := { dst := some 41, op := Go.Op.binOp Go.BinOp.add 3 (Go.Operand.tmp 39) (Go.Operand.tmp 40) 3, type := 3, pos := "ref.go:180", after := #[{ on := 9, ground := Go.Ground.data }, { on := 10, ground := Go.Ground.data }], guard := none }) (v := _) rfl (by kernel_rfl) (by kernel_rfl) (by kernel_rfl) (fun _ _ _ h => h) (by kernel_rfl) (Or.inl ⟨by rfl, ?hy12⟩) hS6 ?rest12
          case hy12 => (intro W hSw; go_simp; try (with_reducible rfl))
          try simp only [Act.put, List.setIfInBounds_toArray, List.set_cons_zero, List.set_cons_succ]
          refine' wpAnyD_take (i := 12) (oi := { dst := some 6, op := Go.Op.assign (Go.Operand.tmp 41), type := 3, pos := "ref.go:180", after := #[{ on := 11, ground := Go.Ground.data }, { on := 2, ground := Go.Ground.chain }, { on := 0, ground := Go.Ground.phase }, { on := 1, ground := Go.Ground.phase }, { on := 2, ground := Go.Ground.phase }, { on := 3, ground := Go.Ground.phase }, { on := 4, ground := Go.Ground.phase }, { on := 5, ground := Go.Ground.phase }, { on := 6, ground := Go.Ground.phase }, { on := 7, ground := Go.Ground.phase }, { on := 8, ground := Go.Ground.phase }, { on := 9, ground := Go.Ground.phase }, { on := 10, ground := Go.Ground.phase }, { on := 11, ground := Go.Ground.phase }], guard := none }) (v := _) rfl (by kernel_rfl) (by kernel_rfl) (by kernel_rfl) (fun _ _ _ h => h) (by kernel_rfl) (Or.inl ⟨by rfl, ?hy13⟩) hS6 ?rest13
          case hy13 => (intro W hSw; go_simp; try (with_reducible rfl))
          try simp only [Act.put, List.setIfInBounds_toArray, List.set_cons_zero, List.set_cons_succ]
          refine wpAnyD_done (by kernel_rfl) ?_ _
          have G6 := hid (G0.out.trans hS6)
          clear hS0 hS6 hcall
          go_wp2_with fail
          go_ret
          exact ⟨by rw [HR.out]; rfl, G6.out⟩
end Go.Proofs.Ytdiecnacbkpceaa.Df

namespace Go.Proofs.Ytdiecnacbkpceaa.Df
open Go.RowKit Go.Sort
attribute [local go_sem ↓] Go.wp_at_zero Go.wp_at_succ

theorem ofN_in {ns : List Nod} {i p k : Int} (hk : 0 ≤ k) (h : inN ns i p = k) : ofN ns k = (i, p, true) := by
  unfold inN at h
  by_cases e : hasIN ns i p = true
  · rw [if_pos e] at h
    obtain ⟨n, hn, hi, hl, hp0, hp⟩ := has_in e
    have hs := spots_in (m := ns.length) (p := p.toNat) hn hl (by omega)
    unfold ofN
    rw [if_neg (by omega), show k.toNat = firstN ns i.toNat + p.toNat by omega, hs]
    simp only [Int.toNat_of_nonneg hi, Int.toNat_of_nonneg hp0]
  · rw [if_neg e] at h
    omega
theorem ofN_out {ns : List Nod} {i p k : Int} (hP : Pok ns) (hk : 0 ≤ k) (h : outN ns i p = k) : ofN ns k = (i, p, false) := by
  unfold outN at h
  by_cases e : hasON ns i p = true
  · rw [if_pos e] at h
    obtain ⟨n, hn, hi, hl, hp0, hp⟩ := has_out e
    rw [hn] at h
    have hq := hP n (List.mem_of_getElem? hn)
    have hs := spots_out (m := ns.length) (p := p.toNat) hn hl (by omega)
    unfold ofN
    simp only at h
    rw [if_neg (by omega), show k.toNat = firstN ns i.toNat + n.ins.toNat + p.toNat by omega, hs]
    simp only [Int.toNat_of_nonneg hi, Int.toNat_of_nonneg hp0]
  · rw [if_neg e] at h
    omega
/-- There is no such place at a node's port. -/
def Nop (ns : List Nod) (k : Int) (i p : Nat) : Prop := ¬ (0 ≤ k ∧ (inN ns (i : Nat) (p : Nat) = k ∨ outN ns (i : Nat) (p : Nat) = k))
theorem ofN_none {ns : List Nod} {k : Int} (hP : Pok ns) (h : ∀ (i p : Nat), i < ns.length → p < 4 → Nop ns k i p) : ofN ns k = (-1, -1, false) := by
  unfold ofN
  by_cases hk : k < 0
  · rw [if_pos hk]
  · rw [if_neg hk]
    cases e : (spotsU ns ns.length)[k.toNat]? with
    | none => rfl
    | some s =>
      exfalso
      obtain ⟨i, p, b⟩ := s
      obtain ⟨n, hn, hi, h1, h2⟩ := spots_at e
      have hq := hP n (List.mem_of_getElem? hn)
      cases b with
      | true =>
        obtain ⟨h3, h4⟩ := h1 rfl
        refine h i p hi (by omega) ⟨by omega, Or.inl ?_⟩
        unfold inN hasIN natN?
        rw [if_pos (by omega : (0 : Int) ≤ (i : Nat)), Int.toNat_natCast, hn]
        simp only
        rw [if_pos (by simp; omega)]
        omega
      | false =>
        obtain ⟨h3, h4⟩ := h2 rfl
        refine h i p hi (by omega) ⟨by omega, Or.inr ?_⟩
        unfold outN hasON natN?
        rw [if_pos (by omega : (0 : Int) ≤ (i : Nat)), Int.toNat_natCast, hn]
        simp only
        rw [if_pos (by simp; omega)]
        omega
set_option maxRecDepth 100000 in
set_option maxHeartbeats 4000000 in
/-- The document's Of. -/
theorem rof_any {nv : Value} {qe : Option Addr} {me ce : Nat} {a : Int} {xs : List NV} (k : Int) (w : World) (h : Nr w nv xs) : Calls Try.prog 37 #[.agg (gvc a nv (.slice qe me ce)), .int .i64 k] w fun r w' => r = .returned (.tuple #[.int .i64 (ofN (xs.map NV.n) k).1, .int .i64 (ofN (xs.map NV.n) k).2.1, .bool (ofN (xs.map NV.n) k).2.2]) ∧ Gr w w' := by
  have hmx : Try.prog.follows .mixedOrders = true := by kernel_rfl
  have g0 := (Gr.refl w).alloc (.cells (gvc a nv (.slice qe me ce)) 25)
  have HB := hid (heap_new' w (.cells (gvc a nv (.slice qe me ce)) 25))
  have HN := hid (h.below g0.below)
  obtain ⟨W0, hW0⟩ : ∃ W, W = w.alloc (.cells (gvc a nv (.slice qe me ce)) 25) := ⟨_, rfl⟩
  have HW : Hid (w.alloc (.cells #[.int .i64 a, nv, .slice qe me ce] 25) = W0) := hW0.symm
  rw [← hW0] at g0 HB HN
  have G0 := hid g0
  obtain ⟨qn, cn, rfl⟩ := h.nodes.form
  have hnl := h.nl
  have HP := hid h.pok
  obtain ⟨ns, hns⟩ : ∃ ns, ns = xs.map NV.n := ⟨_, rfl⟩
  have HNS : Hid (ns = xs.map NV.n ∧ ns.length = xs.length) := ⟨hns, by rw [hns, List.length_map]⟩
  rw [← hns] at HP ⊢
  have hin := fun (i p : Nat) W (hg : Gr W0 W) => rin_any (a := a) (qe := qe) (me := me) (ce := ce) (i : Int) (p : Int) W (HN.out.below hg.below)
  have hout := fun (i p : Nat) W (hg : Gr W0 W) => rout_any (a := a) (qe := qe) (me := me) (ce := ce) (i : Int) (p : Int) W (HN.out.below hg.below)
  rw [← hns] at hin hout
  generalize hxl : xs.length = nl at *
  have HXL := hid hxl
  clear h hW0 g0 hns hxl
  obtain ⟨gb, hgb⟩ : ∃ b, b = w.heap.size := ⟨_, rfl⟩
  have HGB : Hid (w.heap.size = gb) := hgb.symm
  rw [← hgb] at HB
  clear hgb
  go_enter Try.func37, Try.ntmps37
  go_upto_region 1 with fail
  rw [HW.out, HGB.out]
  clear HW
  go_wp2_with fail
  go_loopw [7] (fun s7 wr => ∃ i : Nat, i ≤ nl ∧ s7 = .int .i64 (i : Nat) ∧ Hid (Gr W0 wr ∧ ∀ i' p : Nat, i' < i → p < 4 → Nop ns k i' p)) (fun s7 _ => nl - (RowKit.intOf s7).toNat)
  case atStart => exact ⟨0, Nat.zero_le _, rfl, Gr.refl _, fun _ _ h => absurd h (Nat.not_lt_zero _)⟩
  case round =>
    obtain ⟨i, hi, rfl, HI⟩ := hrel
    have hb := (HI.out.1.below.block _ (tk_lt HB.out)).trans HB.out
    have cx := (tk_store hb).1
    have lx := tk_lt hb
    clear hb
    by_cases hlt : i < nl
    · have hltz : (i : Int) < (nl : Int) := by omega
      go_wp2_with fail
      clear cx lx
      go_loopw [8] (fun s8 wr => ∃ p : Nat, p ≤ 4 ∧ s8 = .int .i64 (p : Nat) ∧ Hid (Gr W0 wr ∧ (∀ i' p : Nat, i' < i → p < 4 → Nop ns k i' p) ∧ ∀ p' : Nat, p' < p → Nop ns k i p')) (fun s8 _ => 4 - (RowKit.intOf s8).toNat)
      case atStart => exact ⟨0, Nat.zero_le _, rfl, HI.out.1, HI.out.2, fun _ h => absurd h (Nat.not_lt_zero _)⟩
      case round =>
        clear HI
        obtain ⟨p, hp, rfl, HI⟩ := hrel
        have hb := (HI.out.1.below.block _ (tk_lt HB.out)).trans HB.out
        have cx := (tk_store hb).1
        have lx := tk_lt hb
        by_cases hlp : p < 4
        · have hlpz : (p : Int) < 4 := by omega
          by_cases hk0 : 0 ≤ k
          · have ho := hin i p wr HI.out.1
            by_cases h1 : inN ns (i : Nat) (p : Nat) = k
            · have HR := hid (ofN_in hk0 h1)
              rw [h1] at ho
              go_wp2_with fail
              refine ho.mono ?_
              rintro r w6 ⟨rfl, g6⟩
              have FIN := hid (G0.out.trans (HI.out.1.trans g6))
              clear ho g6 cx lx hb
              go_wp2_with fail
              refine bodyPost_ret (v := .tuple #[.int .i64 (i : Nat), .int .i64 (p : Nat), .bool true]) (by simp [results, Try.results37, go_sem]) rfl ?_
              exact ⟨by rw [HR.out], FIN.out⟩
            · have h1z : (inN ns (i : Nat) (p : Nat) == k) = false := by simpa using h1
              go_wp2_with fail
              refine ho.mono ?_
              rintro r w6 ⟨rfl, g6⟩
              have G6 := hid (HI.out.1.trans g6)
              clear ho g6 cx lx hb
              have hb := (G6.out.below.block _ (tk_lt HB.out)).trans HB.out
              have cx := (tk_store hb).1
              have lx := tk_lt hb
              have ho := hout i p w6 G6.out
              by_cases h2 : outN ns (i : Nat) (p : Nat) = k
              · have HR := hid (ofN_out HP.out hk0 h2)
                rw [h2] at ho
                go_wp2_with fail
                refine ho.mono ?_
                rintro r w7 ⟨rfl, g7⟩
                have FIN := hid (G0.out.trans (G6.out.trans g7))
                clear ho g7 cx lx hb
                go_wp2_with fail
                refine bodyPost_ret (v := .tuple #[.int .i64 (i : Nat), .int .i64 (p : Nat), .bool false]) (by simp [results, Try.results37, go_sem]) rfl ?_
                exact ⟨by rw [HR.out], FIN.out⟩
              · have h2z : (outN ns (i : Nat) (p : Nat) == k) = false := by simpa using h2
                go_wp2_with fail
                refine ho.mono ?_
                rintro r w7 ⟨rfl, g7⟩
                have FIN : Hid (Gr W0 w7 ∧ (∀ i' p : Nat, i' < i → p < 4 → Nop ns k i' p) ∧ ∀ p' : Nat, p' < p + 1 → Nop ns k i p') := by
                  refine ⟨G6.out.trans g7, HI.out.2.1, fun p' h => ?_⟩
                  by_cases e : p' = p
                  · subst e
                    exact fun h => h.2.elim h1 h2
                  · exact HI.out.2.2 p' (by omega)
                clear ho g7 cx lx hb
                go_wp2_with fail
                go_roundw
                case rel => exact ⟨p + 1, by omega, by go_num, FIN.out⟩
                case measure => simp [RowKit.intOf]; omega
          · have FIN : Hid (Gr W0 wr ∧ (∀ i' p : Nat, i' < i → p < 4 → Nop ns k i' p) ∧ ∀ p' : Nat, p' < p + 1 → Nop ns k i p') := by
              exact ⟨HI.out.1, HI.out.2.1, fun p' _ h => hk0 h.1⟩
            clear cx lx hb
            go_wp2_with fail
            go_roundw
            case rel => exact ⟨p + 1, by omega, by go_num, FIN.out⟩
            case measure => simp [RowKit.intOf]; omega
        · have hlpz : ¬ (p : Int) < 4 := by omega
          have FIN : Hid (Gr W0 wr ∧ ∀ i' p : Nat, i' < i + 1 → p < 4 → Nop ns k i' p) := by
            refine ⟨HI.out.1, fun i' q h1 h2 => ?_⟩
            by_cases e : i' = i
            · subst e
              exact HI.out.2.2 q (by omega)
            · exact HI.out.2.1 i' q (by omega) h2
          clear cx lx hb
          go_wp2_with fail
          go_roundw
          case rel => exact ⟨i + 1, by omega, by go_num, FIN.out⟩
          case measure => simp [RowKit.intOf]; omega
    · have hltz : ¬ (i : Int) < (nl : Int) := by omega
      have HR : Hid (ofN ns k = (-1, -1, false)) := ofN_none HP.out (fun i' q h1 h2 => HI.out.2 i' q (by have := HNS.out.2; have := HXL.out; omega) h2)
      go_wp2_with fail
      refine bodyPost_ret (v := .tuple #[.int .i64 (-1), .int .i64 (-1), .bool false]) (by simp [results, Try.results37, go_sem]) rfl ?_
      exact ⟨by rw [HR.out], G0.out.trans HI.out.1⟩
end Go.Proofs.Ytdiecnacbkpceaa.Df

namespace Go.Proofs.Ytdiecnacbkpceaa.Df
open Go.RowKit Go.Sort Go.Shelf
attribute [local go_sem] Oper.semAt_some

theorem edges_in {n : Nat} {gb : Nat} (k : Int) (w : World) : CallsIn Fence.wide n Try.prog 11 #[.pointer (some ⟨gb, 0, none⟩), .int .i64 k] w fun e w' => e = .returned (.func (.func 34) #[] #[.pointer (some ⟨w.heap.size + 1, 0, none⟩), .pointer (some ⟨w.heap.size, 0, none⟩)]) ∧ w' = (w.alloc (.cells #[.pointer (some ⟨gb, 0, none⟩)] 26)).alloc (.cells #[.int .i64 k] 3) := by
  refine callsIn_wide.2 ?_
  go_enter Try.func11, Try.ntmps11
  go_wp2_with fail
  go_ret
  exact ⟨by simp, rfl⟩
/-- The edges at a place. -/
def edN (g : Gph) (k : Int) : List Int := if 0 ≤ k ∧ k < (plN g.nodes : Int) then edgesU g.nodes g.edges k.toNat g.edges.length else []
theorem abides_gr {J : List Int → World → Prop} {B : Nat} (h : AbidesFrom B J) {W W' : World} (hg : Gr W W') {pre : List Int} (h0 : J pre W) : J pre W' := h pre W W' none h0 ⟨hg.below.os, hg.below.tape, hg.below.output, hg.below.size, fun k hk _ => hg.below.block k hk⟩ (fun r e => by cases e)
theorem ls_low {α : Type} {E : El α} {n₀ : Nat} {W W' : World} {v : Value} {L : List α} (h : Ls E W v L) (hb : Below n₀ W W') (hq : ∀ b, v.ownBlock = some b → b < n₀) : Ls E W' v L :=
  Kp.ls (S := fun k => n₀ ≤ k) ⟨hb.os, hb.tape, hb.output, hb.size, fun k _ hS => hb.block k (by omega)⟩ h (fun k e => by have := hq k e; omega)
theorem take_snoc {α : Type} {L : List α} {k : Nat} {x : α} (hx : L[k]? = some x) : L.take k ++ [x] = L.take (k + 1) := by rw [List.take_add_one, hx]; rfl
set_option maxRecDepth 100000 in
set_option maxHeartbeats 2000000 in
theorem edges1_in (n : Nat) (hn : 1 ≤ n) (l Bp Bg n₀ : Nat) {B gb j : Nat} {g : Gph} {nv ev fv pv : Value} {ys : List NV} {ss : List SV} {s : SV} {L : List Int} (J Jx : List Int → World → Prop)
    (hY : ∀ pre x W, J pre W → pre.length < L.length → YieldAt Fence.wide (n - 1) Try.prog l #[.int .i64 x] W fun e W' => (e = .returned (.bool true) ∧ J (pre ++ [x]) W' ∧ Below n₀ W W') ∨ (e = .returned (.bool false) ∧ Jx (pre ++ [x]) W'))
    (W : World) (hJ : AbidesFrom W.heap.size J) (h : Gp B W gb g nv ev fv pv ys ss) (hs : ss[j]? = some s) (hL : W.ownsRow B 3 1 s.ev L.length (fl EI L)) (hq : ∀ b, s.ev.ownBlock = some b → b < n₀) (hBp : W.cell? ⟨Bp, 0, none⟩ = some (.int .i64 (j : Nat))) (hBg : W.cell? ⟨Bg, 0, none⟩ = some (.pointer (some ⟨gb, 0, none⟩))) (hLl : L.length ≤ 1000) (h0 : J [] W) :
    CallsIn Fence.wide n Try.prog 34 #[.func (.yield l) #[] #[], .pointer (some ⟨Bp, 0, none⟩), .pointer (some ⟨Bg, 0, none⟩)] W fun e W' => (∃ v, e = .returned v) ∧ ((∃ zs, zs = L ∧ J zs W') ∨ (∃ pre, pre <+: L ∧ Jx pre W')) := by
  have hjs : j < ss.length := (List.getElem?_eq_some_iff.1 hs).1
  have hlen := h.rows.len
  have hP := fun (n : Nat) (W' : World) (hb : Below W.heap.size W W') => callsIn_wide (n := n).2 (gplaces_any W' (Gm.below ⟨nv, ev, fv, pv, ys, ss, h⟩ hb))
  have hA := fun (n : Nat) (W' : World) => callsIn_wide (n := n).2 (among_any (j : Int) (plN g.nodes : Nat) W')
  rw [decide_eq_true (by unfold plN; omega)] at hA
  have cg := (tk_store h.rows.blk).1
  have lg := tk_lt h.rows.blk
  obtain ⟨b1, o1, c1, rfl, hb1, x1, x2, x3, x4⟩ := ls_atS (owns_ls (E := ES) h.rows.sp) hs
  obtain ⟨sn, sp, si, sq, sm, sc⟩ := s
  simp only [SV.ev] at x4 hL hq
  have hm := (owns_caps hL _ _ _ rfl).1
  subst hm
  have HLs := hid (owns_ls (E := EI) hL)
  have HQ := hid hq
  have HJ := hid hJ
  have H0 := hid h0
  have HY := hid hY
  have hjz : (j : Int) < (ss.length : Int) := by omega
  have hj0 : (0 : Int) ≤ (j : Int) := by omega
  refine callsIn_of_wp Try.func34 rfl trivial ?_ rfl
  simp only [Try.ntmps34, List.size_toArray, List.length_cons, List.length_nil, Nat.reduceAdd, Nat.reduceSub, Array.replicate_succ, Array.replicate_zero, List.push_toArray, List.append_toArray, List.nil_append, List.cons_append]
  have hmx : Try.prog.follows .mixedOrders = true := by kernel_rfl
  gi_wp2
  gi_region_with_o (first | (refine ⟨trivial, ?_⟩; gi_at_call 12; refine (hP _ W.drew (Gr.refl W).drew.below).mono ?_; rintro e w' ⟨rfl, rfl⟩) | (refine ⟨trivial, ?_⟩; gi_at_call 33; refine (hA _ W.drew).mono ?_; rintro e w' ⟨rfl, rfl⟩))
  all_goals (
    go_simp
    gi_wp2
    gi_quiet (fail)
    gi_wp2
    clear hP hA
    gi_loopw [20] (fun i wr => ∃ k : Nat, k ≤ L.length ∧ i = .int .i64 k ∧ Hid (J (L.take k) wr) ∧ Hid (Ls EI wr (.slice sq L.length sc) L)) (fun i _ => L.length - (intOf i).toNat)
    case atStart => exact ⟨0, Nat.zero_le _, rfl, by rw [List.take_zero]; exact abides_gr HJ.out ((Gr.refl W).drew.drewN _) H0.out, HLs.out.below ((Gr.refl W).drew.drewN _).below⟩
    case round =>
      obtain ⟨k, hk, rfl, hJs, hls⟩ := hrel
      by_cases hlt : k < L.length
      · obtain ⟨x, hx⟩ : ∃ x, L[k]? = some x := ⟨L[k], List.getElem?_eq_getElem hlt⟩
        obtain ⟨b2, o2, c2, e2, hb2, y2⟩ := ls_atI hls.out hx
        simp only [Value.slice.injEq] at e2
        obtain ⟨rfl, -, rfl⟩ := e2
        obtain ⟨fn, tmps, assign, body, hy, hR⟩ := HY.out (L.take k) x wr hJs.out (by simp; omega)
        have hkz : (k : Int) < (L.length : Int) := by omega
        gi_wp2
        refine hR.mono ?_
        rintro e W3 (⟨rfl, hJ3, hk3⟩ | ⟨rfl, hJx3⟩)
        · gi_wp2
          go_roundw
          case rel => exact ⟨k + 1, by omega, by simp, by rw [← take_snoc hx]; exact hJ3, ls_low hls.out hk3 HQ.out⟩
          case measure => simp [intOf]; omega
        · gi_wp2
          refine bodyPost_ret (results_none rfl _ _ _) rfl ?_
          exact ⟨⟨_, rfl⟩, .inr ⟨_, by rw [take_snoc hx]; exact List.take_prefix _ _, hJx3⟩⟩
      · have hkz : ¬ (k : Int) < (L.length : Int) := by omega
        gi_wp2
        go_end0
        exact ⟨⟨_, rfl⟩, .inl (by have h := hJs.out; rwa [List.take_of_length_le (by omega)] at h)⟩)
set_option maxRecDepth 100000 in
set_option maxHeartbeats 2000000 in
theorem edges1_none (n : Nat) (hn : 1 ≤ n) (l Bp Bg : Nat) {B gb : Nat} {k : Int} {g : Gph} (J : List Int → World → Prop) (W : World) (hJ : AbidesFrom W.heap.size J) (h : Gm B W gb g) (hk : ¬ (0 ≤ k ∧ k < (plN g.nodes : Int))) (hBp : W.cell? ⟨Bp, 0, none⟩ = some (.int .i64 k)) (hBg : W.cell? ⟨Bg, 0, none⟩ = some (.pointer (some ⟨gb, 0, none⟩))) (h0 : J [] W) :
    CallsIn Fence.wide n Try.prog 34 #[.func (.yield l) #[] #[], .pointer (some ⟨Bp, 0, none⟩), .pointer (some ⟨Bg, 0, none⟩)] W fun e W' => (∃ v, e = .returned v) ∧ Hid (J [] W') := by
  have hP := fun (n : Nat) (W' : World) (hb : Below W.heap.size W W') => callsIn_wide (n := n).2 (gplaces_any W' (h.below hb))
  have hA := fun (n : Nat) (W' : World) => callsIn_wide (n := n).2 (among_any k (plN g.nodes : Nat) W')
  rw [decide_eq_false hk] at hA
  have HJ := hid hJ
  have H0 := hid h0
  refine callsIn_of_wp Try.func34 rfl trivial ?_ rfl
  simp only [Try.ntmps34, List.size_toArray, List.length_cons, List.length_nil, Nat.reduceAdd, Nat.reduceSub, Array.replicate_succ, Array.replicate_zero, List.push_toArray, List.append_toArray, List.nil_append, List.cons_append]
  have hmx : Try.prog.follows .mixedOrders = true := by kernel_rfl
  gi_wp2
  gi_region_with_o (first | (refine ⟨trivial, ?_⟩; gi_at_call 12; refine (hP _ W.drew (Gr.refl W).drew.below).mono ?_; rintro e w' ⟨rfl, rfl⟩) | (refine ⟨trivial, ?_⟩; gi_at_call 33; refine (hA _ W.drew).mono ?_; rintro e w' ⟨rfl, rfl⟩))
  all_goals (
    go_simp
    gi_wp2
    refine bodyPost_ret (results_none rfl _ _ _) rfl ?_
    exact ⟨⟨_, rfl⟩, abides_gr HJ.out (Gr.refl W).drew H0.out⟩)
/-- What the closure that Edges hands back gives. -/
theorem edges_stops (n : Nat) (hn : 1 ≤ n) (Bp Bg : Nat) {B gb : Nat} (k : Int) {g : Gph} (w : World) (n₀ : Nat) (hm : Gm B w gb g) (hn₀ : w.heap.size ≤ n₀) (w1 : World) (h1 : Below w.heap.size w w1) (hBp : w1.cell? ⟨Bp, 0, none⟩ = some (.int .i64 k)) (hBg : w1.cell? ⟨Bg, 0, none⟩ = some (.pointer (some ⟨gb, 0, none⟩))) (hbp : Bp < w1.heap.size) (hbg : Bg < w1.heap.size) :
    SeqStopsK Fence.wide n Try.prog 34 #[.pointer (some ⟨Bp, 0, none⟩), .pointer (some ⟨Bg, 0, none⟩)] (fun x : Int => #[Value.int .i64 x]) (Below n₀) (fun zs => zs = edN g k) (fun pre => pre <+: edN g k) (edN g k).length w1 := fun l J Jx W hW hJ _ hY h0 => by
  have hb := h1.trans (hW.mono h1.size)
  have cp := (hW.cell (p := ⟨Bp, 0, none⟩) hbp).trans hBp
  have cg := (hW.cell (p := ⟨Bg, 0, none⟩) hbg).trans hBg
  by_cases hk : 0 ≤ k ∧ k < (plN g.nodes : Int)
  · obtain ⟨nv, ev, fv, pv, ys, ss, h⟩ := hm
    obtain ⟨j, rfl⟩ : ∃ j : Nat, k = (j : Int) := ⟨k.toNat, by omega⟩
    have hlen := h.rows.len
    have hj : j < ss.length := by unfold plN at hk; omega
    have e : edN g (j : Int) = edgesU g.nodes g.edges j g.edges.length := by
      unfold edN
      rw [if_pos hk, Int.toNat_natCast]
    have hr := h.rows.each j ss[j] (List.getElem?_eq_getElem hj)
    rw [e] at hY ⊢
    exact edges1_in n hn l Bp Bg n₀ J Jx hY W hJ (h.below hb) (List.getElem?_eq_getElem hj) (owns_below hr hb) (fun b hb => by have := (owns_rd hr b hb).2; omega) cp cg (by have h1 := edgesU_length g.nodes g.edges j g.edges.length; have h2 := h.ok.el; omega) h0
  · have e : edN g k = [] := by unfold edN; rw [if_neg hk]
    rw [e]
    exact (edges1_none n hn l Bp Bg J W hJ (hm.below hb) hk cp cg h0).mono fun r W' ⟨hr, hj⟩ => ⟨hr, .inl ⟨_, rfl, hj.out⟩⟩
end Go.Proofs.Ytdiecnacbkpceaa.Df

namespace Go.Proofs.Ytdiecnacbkpceaa.Df
open Go.RowKit Go.Sort Go.Shelf
attribute [local go_sem] Oper.semAt_some

/-- What is left of a list that is left behind so many. -/
def cutL (L : List Int) (m : Int) : List Int := if 0 ≤ m then L.take m.toNat else L
theorem edN_len {B gb : Nat} {g : Gph} {w : World} (h : Gm B w gb g) (k : Int) : (edN g k).length ≤ 48 := by
  obtain ⟨nv, ev, fv, pv, ys, ss, h⟩ := h
  have h2 := h.ok.el
  unfold edN
  split
  · have h1 := edgesU_length g.nodes g.edges k.toNat g.edges.length
    omega
  · simp
theorem cutL_all {L : List Int} {m : Int} (h : m < 0 ∨ (L.length : Int) ≤ m) : cutL L m = L := by
  unfold cutL
  split
  · exact List.take_of_length_le (by omega)
  · rfl
theorem cutL_part {L qs : List Int} {m : Int} (h : qs <+: L) (hm : m = (qs.dropLast.length : Nat)) : cutL L m = qs.dropLast := by
  obtain ⟨r, rfl⟩ := h
  unfold cutL
  rw [if_pos (by omega), hm, Int.toNat_natCast]
  simp only [List.length_dropLast]
  rw [List.take_append_of_le_length (by omega), List.dropLast_eq_take]
theorem infoInt : (Try.prog.info? 3).map (fun i => (i.zero, i.size, i.bytes)) = some (some (.int .i64 0), 1, 8) := by kernel_rfl
set_option maxRecDepth 100000 in
set_option maxHeartbeats 2000000 in
theorem edges_any {B gb : Nat} {g : Gph} (k m : Int) (w : World) (hm : Gm B w gb g) : Calls Try.prog 13 #[.pointer (some ⟨gb, 0, none⟩), .int .i64 k, .int .i64 m] w fun e W' => ∃ v, e = .returned v ∧ W'.ownsRow w.heap.size 3 1 v (cutL (edN g k) m).length ((cutL (edN g k) m).map (Value.int .i64)) ∧ Below w.heap.size w W' := by
  obtain ⟨i0, hi, hz0, hz1, hz2⟩ := info_parts infoInt
  have HM := hid hm
  clear hm
  refine (callsIn_wide (n := 4)).1 ?_
  refine callsIn_of_wp_marks Try.func13 rfl trivial ?_ rfl
  simp only [Try.ntmps13, List.size_toArray, List.length_cons, List.length_nil, Nat.reduceAdd, Nat.reduceSub, Array.replicate_succ, Array.replicate_zero, List.push_toArray, List.append_toArray, List.nil_append, List.cons_append]
  gi_wp2_with (refine ⟨trivial, ?_⟩; gi_at_call 11; refine (edges_in _ _).mono ?_; rintro e w' ⟨rfl, rfl⟩)
  obtain ⟨W0, hW0⟩ : ∃ W, W = (((w.alloc (.cells #[.int .i64 m] 3)).alloc (.cells #[.slice none 0 0] 32)).alloc (.cells #[.pointer (some ⟨gb, 0, none⟩)] 26)).alloc (.cells #[.int .i64 k] 3) := ⟨_, rfl⟩
  rw [← hW0]
  have F0 : Hid (Boxed W0 w.heap.size 3 (.int .i64 m) ∧ Boxed W0 (w.heap.size + 1) 32 (.slice none 0 0) ∧ Boxed W0 (w.heap.size + 1 + 1) 26 (.pointer (some ⟨gb, 0, none⟩)) ∧ Boxed W0 (w.heap.size + 1 + 1 + 1) 3 (.int .i64 k) ∧ Below w.heap.size w W0 ∧ W0.heap.size = w.heap.size + 4) := by
    have b1 := Boxed.new w 3 (.int .i64 m)
    have b2 := Boxed.new (w.alloc (.cells #[.int .i64 m] 3)) 32 (.slice none 0 0)
    have b3 := Boxed.new ((w.alloc (.cells #[.int .i64 m] 3)).alloc (.cells #[.slice none 0 0] 32)) 26 (.pointer (some ⟨gb, 0, none⟩))
    have b4 := Boxed.new (((w.alloc (.cells #[.int .i64 m] 3)).alloc (.cells #[.slice none 0 0] 32)).alloc (.cells #[.pointer (some ⟨gb, 0, none⟩)] 26)) 3 (.int .i64 k)
    rw [World.size_alloc] at b2
    rw [World.size_alloc, World.size_alloc] at b3
    rw [World.size_alloc, World.size_alloc, World.size_alloc] at b4
    rw [hW0]
    exact ⟨((b1.alloc _).alloc _).alloc _, (b2.alloc _).alloc _, b3.alloc _, b4, ((((Gr.refl w).alloc _).alloc _).alloc _).alloc _ |>.below, by simp⟩
  have HL48 := hid (edN_len HM.out k)
  clear hW0
  refine wpIn_rangeFunc_ownG rfl (by decide) (gf := 34) (lb := #[.pointer (some ⟨w.heap.size + 1 + 1 + 1, 0, none⟩), .pointer (some ⟨w.heap.size + 1 + 1, 0, none⟩)]) rfl trivial (enters_of Try.func34 (by kernel_rfl) rfl)
    (edges_stops 3 (by decide) (w.heap.size + 1 + 1 + 1) (w.heap.size + 1 + 1) k w (w.heap.size + 1) HM.out (by omega) W0 F0.out.2.2.2.2.1 F0.out.2.2.2.1.cell F0.out.2.2.1.cell F0.out.2.2.2.1.lt F0.out.2.2.1.lt) belowK_t (belowK_b (by have := F0.out.2.2.2.2.2; omega)) (Below.refl _ _) (fun _ => rfl)
    (fun (pre : List Int) (W : World) => (∃ v, Boxed W (w.heap.size + 1) 32 v ∧ W.ownsRow (w.heap.size + 1) 3 1 v pre.length (pre.map (Value.int .i64)) ∧ (m < 0 ∨ (pre.length : Int) ≤ m)) ∧ Below (w.heap.size + 1) W0 W)
    (fun (c : Code) (qs : List Int) (W : World) => (∃ v, Boxed W (w.heap.size + 1) 32 v ∧ W.ownsRow (w.heap.size + 1) 3 1 v qs.dropLast.length (qs.dropLast.map (Value.int .i64)) ∧ (c = .exit 0 ∧ m = (qs.dropLast.length : Nat))) ∧ Below (w.heap.size + 1) W0 W)
    (OwnFrom.and (Own.from (holdsRow_own (w.heap.size + 1) (w.heap.size + 1) 32 3 1 (fun pre : List Int => pre.length) (fun pre : List Int => pre.map (Value.int .i64)) (fun (pre : List Int) _ => m < 0 ∨ (pre.length : Int) ≤ m)) _) (ownFrom_below (by have := F0.out.2.2.2.2.2; omega) (by have := F0.out.2.2.2.2.2; omega)))
    (fun c => OwnFrom.and (Own.from (holdsRow_own (w.heap.size + 1) (w.heap.size + 1) 32 3 1 (fun qs : List Int => qs.dropLast.length) (fun qs : List Int => qs.dropLast.map (Value.int .i64)) (fun (qs : List Int) _ => c = .exit 0 ∧ m = (qs.dropLast.length : Nat))) _) (ownFrom_below (by have := F0.out.2.2.2.2.2; omega) (by have := F0.out.2.2.2.2.2; omega)))
    ⟨⟨_, F0.out.2.1, World.ownsRow_nil _ _ _ _, by simp; omega⟩, Below.refl _ _⟩
    (fun x : Int => { tmps := #[.pointer (some ⟨gb, 0, none⟩), .int .i64 k, .int .i64 m, undef, undef, .pointer (some ⟨w.heap.size, 0, none⟩), .slice none 0 0, .pointer (some ⟨w.heap.size + 1, 0, none⟩), .int .i64 x, .pointer (some ⟨gb, 0, none⟩), .int .i64 k, .func (.func 34) #[] #[.pointer (some ⟨w.heap.size + 1 + 1 + 1, 0, none⟩), .pointer (some ⟨w.heap.size + 1 + 1, 0, none⟩)], .int .i64 x, undef, undef, undef, undef, undef, undef, undef, undef, undef], defers := [] }) ?assign ?body ?done ?stop
  case assign =>
    intro l x W K hK
    gi_wp2
    exact hK
  case body =>
    rintro l pre x W ⟨⟨v, hv, hrow, hG⟩, hB⟩ hlt
    obtain ⟨q, n', c, rfl⟩ := owns_form hrow
    have hn' := (owns_caps hrow _ _ _ rfl).1
    subst hn'
    have hc := hv.cell
    have hcm : W.cell? ⟨w.heap.size, 0, none⟩ = some (.int .i64 m) := (hB.cell (p := ⟨w.heap.size, 0, none⟩) (by simp)).trans F0.out.1.cell
    have h48 := HL48.out
    have hsz := hB.size
    have hs0 := F0.out.2.2.2.2.2
    by_cases he : (pre.length : Int) = m
    · gi_wp2
      exact ⟨KeepsFrom.refl _ _, ⟨_, hv, by simpa using hrow, rfl, by simp [he]⟩, hB⟩
    · gi_wp2_with (gi_at_builtin; refine wpListIn_append_own _ rfl _ _ 32 rfl (w.heap.size + 1) 3 i0 (.int .i64 0) 1 8 Try.underlying32 hi hz0 hz1 hz2 rfl (by decide) _ _ _ rfl (hrow.alloc _) ⟨W.heap.size, 0, none⟩ 1 1 [.int .i64 x] rfl rfl (cell_one_new _ _ _) (by simp [Value.oneCell']) (by unfold maxLen; omega) (by omega) (by simp; omega) ?_; intro v' w1 hown' hgrow _; obtain ⟨g', cap', rfl⟩ := ownsRow_succ hown'; obtain ⟨hv1, hv2, hr2, hk2, hb2⟩ := hv.appended (by decide) hrow (by omega) (Nat.le_refl _) hown' hgrow; have hc1 := hv1.cell; have hf1 := hv1.frozen)
      exact ⟨hk2.from _, hb2, ⟨_, hv2, by simpa using hr2, by simp; omega⟩, hB.trans hb2⟩
  case done =>
    rintro D ys W hD rfl ⟨⟨v, hv, hrow, hG⟩, hB⟩ hK
    have hc := hv.cell
    have hs0 := F0.out.2.2.2.2.2
    gi_wp2
    refine ⟨by simp, .inl ⟨_, _, rfl, run_takeDeferred hK, ?_⟩⟩
    refine ⟨_, results_tmp rfl _ _ _, v, rfl, ?_, ?_⟩
    · rw [cutL_all hG]
      exact owns_base (ownsRow_putObj hrow _ hK rfl) (by omega)
    · exact (F0.out.2.2.2.2.1.trans (hB.mono (by omega))).trans (belowK_b (w := w) (Nat.le_refl _) W D _ _ (by omega) hK rfl rfl)
  case stop =>
    rintro D c qs W hD hS ⟨⟨v, hv, hrow, rfl, hm⟩, hB⟩ hK
    have hc := hv.cell
    have hs0 := F0.out.2.2.2.2.2
    gi_wp2
    refine ⟨by simp, .inl ⟨_, _, rfl, run_takeDeferred hK, ?_⟩⟩
    refine ⟨_, results_tmp rfl _ _ _, v, rfl, ?_, ?_⟩
    · rw [cutL_part hS hm]
      exact owns_base (ownsRow_putObj hrow _ hK rfl) (by omega)
    · exact (F0.out.2.2.2.2.1.trans (hB.mono (by omega))).trans (belowK_b (w := w) (Nat.le_refl _) W D _ _ (by omega) hK rfl rfl)
end Go.Proofs.Ytdiecnacbkpceaa.Df
