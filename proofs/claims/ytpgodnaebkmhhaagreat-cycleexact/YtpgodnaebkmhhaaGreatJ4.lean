import Derived.Test.YtpgodnaebkmhhaaGreatJ3
import Derived.BigQuiet
import Derived.Test.YtpgodnaebkmhhaaGreatLHold
import Derived.Test.YtpgodnaebkmhhaaGreatJ2
namespace Go.Proofs.YtpgodnaebkmhhaaGreat.Df
open Go.RowKit Go.Sort
attribute [local go_sem ↓] Go.wp_at_zero Go.wp_at_succ

/-- The nodes of a graph that is read, as the document's functions find them: their number, their ports. -/
structure Nr (w : World) (nv : Value) (xs : List NV) : Prop where
  nodes : Lz EV w.heap.size w nv xs
  nl : xs.length ≤ 24
  pok : Pok (xs.map NV.n)
theorem Nr.below {w w' : World} {nv : Value} {xs : List NV} (h : Nr w nv xs) (hb : Below w.heap.size w w') : Nr w' nv xs := ⟨(h.nodes.below hb).up hb.size, h.nl, h.pok⟩
theorem fn_pos {ns : List Nod} {i : Nat} {n : Nod} (hi : ns[i]? = some n) (hp : Pok ns) : (firstN ns i : Int) + n.ins + n.outs = (firstN ns (i + 1) : Nat) := by
  have := hp n (List.mem_of_getElem? hi)
  rw [firstN_succ hi]
  push_cast
  omega
set_option maxHeartbeats 4000000 in
theorem rfirst_any {nv ev : Value} {a : Int} {xs : List NV} (j : Nat) (hj : j ≤ xs.length) (w : World) (h : Nr w nv xs) : Calls Tryz.prog 63 #[.agg (gvc a nv ev), .int .i64 (j : Nat)] w fun r w' => r = .returned (.int .i64 (firstN (xs.map NV.n) j : Nat)) ∧ Gr w w' := by
  have g0 := (Gr.refl w).alloc (.cells (gvc a nv ev) 25)
  have HB := hid (heap_new' w (.cells (gvc a nv ev) 25))
  have HN := hid (h.below g0.below)
  obtain ⟨W0, hW0⟩ : ∃ W, W = w.alloc (.cells (gvc a nv ev) 25) := ⟨_, rfl⟩
  have HW : Hid (w.alloc (.cells #[.int .i64 a, nv, ev] 25) = W0) := hW0.symm
  rw [← hW0] at g0 HB HN
  have G0 := hid g0
  obtain ⟨qn, cn, rfl⟩ := h.nodes.form
  have hnl := h.nl
  have HP := hid h.pok
  obtain ⟨ns, hns⟩ : ∃ ns, ns = xs.map NV.n := ⟨_, rfl⟩
  rw [← hns] at HP ⊢
  have HNS := hid hns
  generalize hxl : xs.length = nl at *
  have HXL := hid hxl
  clear h hW0 g0 hns hxl
  have c0 := (tk_store HB.out).1
  have l0 := tk_lt HB.out
  go_enter Tryz.func63, Tryz.ntmps63
  go_upto_region 1 with fail
  rw [HW.out]
  clear HW
  go_wp2_with fail
  clear c0 l0
  go_loopw [5, 6] (fun sn si wr => ∃ i : Nat, i ≤ j ∧ si = .int .i64 (i : Nat) ∧ sn = .int .i64 (firstN ns i : Nat) ∧ Hid (Gr W0 wr)) (fun _ si _ => j - (RowKit.intOf si).toNat)
  case atStart => exact ⟨0, Nat.zero_le _, rfl, rfl, Gr.refl _⟩
  case round =>
    obtain ⟨i, hi, rfl, rfl, HI⟩ := hrel
    have hb0 := (HI.out.below.block _ (tk_lt HB.out)).trans HB.out
    have c1 := (tk_store hb0).1
    have l1 := tk_lt hb0
    clear hb0
    by_cases hlt : i < j
    · have hltz : (i : Int) < (j : Int) := by omega
      have hi0 : (0 : Int) ≤ (i : Int) := by omega
      have hil : (i : Int) < (nl : Int) := by omega
      obtain ⟨y, hy⟩ : ∃ y, xs[i]? = some y := ⟨xs[i]'(by have := HXL.out; omega), by simp⟩
      have HYN : Hid (ns[i]? = some y.n) := by show _ = _; rw [HNS.out]; simp [hy]
      obtain ⟨b1, o1, q1, ev1, zz1, x0, x1, x2, -⟩ := ls_atV ((HN.out.nodes.below HI.out.below).ls hy) hy
      simp only [Value.slice.injEq] at ev1
      obtain ⟨rfl, -, rfl⟩ := ev1
      have HFS := hid (fn_pos HYN.out HP.out)
      have hf1 := firstN_le HP.out i
      have hq := HP.out y.n (List.mem_of_getElem? HYN.out)
      obtain ⟨m, hm⟩ : ∃ m, m = firstN ns i := ⟨_, rfl⟩
      rw [← hm] at HFS hf1 ⊢
      have hm9 : (m : Int) ≤ 192 := by omega
      have q1 : 0 ≤ y.n.ins := hq.1
      have q2 : y.n.ins ≤ 4 := hq.2.1
      have q3 : 0 ≤ y.n.outs := hq.2.2.1
      have q4 : y.n.outs ≤ 4 := hq.2.2.2
      clear hy hm hq hf1
      go_upto_region 5 with fail
      go_quiet (fail)
      have G1 := hid (HI.out.drewN nq)
      clear x0 x1 x2 zz1 c1 l1
      go_wp2_with fail
      go_roundw
      case rel => exact ⟨i + 1, by omega, by go_num, by rw [← HFS.out], G1.out⟩
      case measure => simp [RowKit.intOf]; omega
    · have hltz : ¬ (i : Int) < (j : Int) := by omega
      obtain rfl : i = j := by omega
      go_wp2_with fail
      go_ret
      exact ⟨rfl, G0.out.trans HI.out⟩
set_option maxHeartbeats 4000000 in
theorem rplaces_any {nv ev : Value} {a : Int} {xs : List NV} (w : World) (h : Nr w nv xs) : Calls Tryz.prog 12 #[.agg (gvc a nv ev)] w fun r w' => r = .returned (.int .i64 (firstN (xs.map NV.n) xs.length : Nat)) ∧ Gr w w' := by
  have g0 := (Gr.refl w).alloc (.cells (gvc a nv ev) 25)
  have HB := hid (heap_new' w (.cells (gvc a nv ev) 25))
  have HN := hid (h.below g0.below)
  obtain ⟨W0, hW0⟩ : ∃ W, W = w.alloc (.cells (gvc a nv ev) 25) := ⟨_, rfl⟩
  have HW : Hid (w.alloc (.cells #[.int .i64 a, nv, ev] 25) = W0) := hW0.symm
  rw [← hW0] at g0 HB HN
  have G0 := hid g0
  obtain ⟨qn, cn, rfl⟩ := h.nodes.form
  have hnl := h.nl
  have HP := hid h.pok
  obtain ⟨ns, hns⟩ : ∃ ns, ns = xs.map NV.n := ⟨_, rfl⟩
  rw [← hns] at HP ⊢
  have HNS := hid hns
  generalize hxl : xs.length = nl at *
  have HXL := hid hxl
  clear h hW0 g0 hns hxl
  have c0 := (tk_store HB.out).1
  have l0 := tk_lt HB.out
  go_enter Tryz.func12, Tryz.ntmps12
  go_upto_region 1 with fail
  rw [HW.out]
  clear HW
  go_wp2_with fail
  clear c0 l0
  go_loopw [3, 4] (fun sn si wr => ∃ i : Nat, i ≤ nl ∧ si = .int .i64 (i : Nat) ∧ sn = .int .i64 (firstN ns i : Nat) ∧ Hid (Gr W0 wr)) (fun _ si _ => nl - (RowKit.intOf si).toNat)
  case atStart => exact ⟨0, Nat.zero_le _, rfl, rfl, Gr.refl _⟩
  case round =>
    obtain ⟨i, hi, rfl, rfl, HI⟩ := hrel
    have hb0 := (HI.out.below.block _ (tk_lt HB.out)).trans HB.out
    have c1 := (tk_store hb0).1
    have l1 := tk_lt hb0
    clear hb0
    by_cases hlt : i < nl
    · have hltz : (i : Int) < (nl : Int) := by omega
      have hi0 : (0 : Int) ≤ (i : Int) := by omega
      have hil : (i : Int) < (nl : Int) := by omega
      obtain ⟨y, hy⟩ : ∃ y, xs[i]? = some y := ⟨xs[i]'(by have := HXL.out; omega), by simp⟩
      have HYN : Hid (ns[i]? = some y.n) := by show _ = _; rw [HNS.out]; simp [hy]
      obtain ⟨b1, o1, q1, ev1, zz1, x0, x1, x2, -⟩ := ls_atV ((HN.out.nodes.below HI.out.below).ls hy) hy
      simp only [Value.slice.injEq] at ev1
      obtain ⟨rfl, -, rfl⟩ := ev1
      have HFS := hid (fn_pos HYN.out HP.out)
      have hf1 := firstN_le HP.out i
      have hq := HP.out y.n (List.mem_of_getElem? HYN.out)
      obtain ⟨m, hm⟩ : ∃ m, m = firstN ns i := ⟨_, rfl⟩
      rw [← hm] at HFS hf1 ⊢
      have hm9 : (m : Int) ≤ 192 := by omega
      have q1 : 0 ≤ y.n.ins := hq.1
      have q2 : y.n.ins ≤ 4 := hq.2.1
      have q3 : 0 ≤ y.n.outs := hq.2.2.1
      have q4 : y.n.outs ≤ 4 := hq.2.2.2
      clear hy hm hq hf1
      go_upto_region 5 with fail
      go_quiet (fail)
      have G1 := hid (HI.out.drewN nq)
      clear x0 x1 x2 zz1 c1 l1
      go_wp2_with fail
      go_roundw
      case rel => exact ⟨i + 1, by omega, by go_num, by rw [← HFS.out], G1.out⟩
      case measure => simp [RowKit.intOf]; omega
    · have hltz : ¬ (i : Int) < (nl : Int) := by omega
      obtain rfl : i = nl := by omega
      go_wp2_with fail
      go_ret
      exact ⟨rfl, G0.out.trans HI.out⟩
end Go.Proofs.YtpgodnaebkmhhaaGreat.Df

namespace Go.Proofs.YtpgodnaebkmhhaaGreat.Df
open Go.RowKit Go.Sort
attribute [local go_sem ↓] Go.wp_at_zero Go.wp_at_succ

set_option maxHeartbeats 4000000 in
theorem rin_any {nv : Value} {qe : Option Addr} {me ce : Nat} {a : Int} {xs : List NV} (i p : Int) (w : World) (h : Nr w nv xs) : Calls Tryz.prog 42 #[.agg (gvc a nv (.slice qe me ce)), .int .i64 i, .int .i64 p] w fun r w' => r = .returned (.int .i64 (inN (xs.map NV.n) i p)) ∧ Gr w w' := by
  have hmx : Tryz.prog.follows .mixedOrders = true := by kernel_rfl
  have g0 := (Gr.refl w).alloc (.cells (gvc a nv (.slice qe me ce)) 25)
  have HB := hid (heap_new' w (.cells (gvc a nv (.slice qe me ce)) 25))
  have HN := hid (h.below g0.below)
  obtain ⟨W0, hW0⟩ : ∃ W, W = w.alloc (.cells (gvc a nv (.slice qe me ce)) 25) := ⟨_, rfl⟩
  have HW : Hid (w.alloc (.cells #[.int .i64 a, nv, .slice qe me ce] 25) = W0) := hW0.symm
  rw [← hW0] at g0 HB HN
  have G0 := hid g0
  have hfst := fun (j : Nat) (hj : j ≤ xs.length) W (hb : Below W0.heap.size W0 W) => rfirst_any (ev := .slice qe me ce) (a := a) j hj W (HN.out.below hb)
  obtain ⟨qn, cn, rfl⟩ := h.nodes.form
  have hnl := h.nl
  have HP := hid h.pok
  obtain ⟨ns, hns⟩ : ∃ ns, ns = xs.map NV.n := ⟨_, rfl⟩
  rw [← hns] at HP hfst ⊢
  have HNS : Hid (ns = xs.map NV.n ∧ ns.length = xs.length) := ⟨hns, by rw [hns, List.length_map]⟩
  generalize hxl : xs.length = nl at *
  have HXL := hid hxl
  clear h hW0 g0 hns hxl
  have c0 := (tk_store HB.out).1
  have l0 := tk_lt HB.out
  have HFALSE : Hid (hasIN ns i p = false → inN ns i p = -1) := fun e => by unfold inN; rw [if_neg (by rw [e]; decide)]
  by_cases hi0 : i < 0
  · have HR : Hid (inN ns i p = -1) := HFALSE.out (by unfold hasIN natN?; rw [if_neg (by omega)])
    go_enter Tryz.func42, Tryz.ntmps42
    go_upto_region 1 with fail
    rw [HW.out]
    go_wp2_with fail
    go_ret
    exact ⟨by rw [HR.out]; rfl, G0.out⟩
  · by_cases hil : (nl : Int) ≤ i
    · have HR : Hid (inN ns i p = -1) := HFALSE.out (by unfold hasIN natN?; rw [if_pos (by omega), List.getElem?_eq_none (by have := HNS.out.2; have := HXL.out; omega)])
      go_enter Tryz.func42, Tryz.ntmps42
      go_upto_region 1 with fail
      rw [HW.out]
      go_wp2_with fail
      go_ret
      exact ⟨by rw [HR.out]; rfl, G0.out⟩
    · obtain ⟨j, rfl⟩ : ∃ j : Nat, i = (j : Int) := ⟨i.toNat, by omega⟩
      obtain ⟨y, hy⟩ : ∃ y, xs[j]? = some y := ⟨xs[j]'(by have := HXL.out; omega), by simp⟩
      have HYN : Hid (ns[j]? = some y.n) := by show _ = _; rw [HNS.out.1]; simp [hy]
      have HHAS : Hid (hasIN ns (j : Int) p = decide (0 ≤ p ∧ p < y.n.ins)) := by
        show _ = _
        unfold hasIN natN?
        rw [if_pos (by omega), Int.toNat_natCast, HYN.out]
      have HQ := hid (HP.out y.n (List.mem_of_getElem? HYN.out))
      obtain ⟨b1, o1, q1, ev1, zz1, x0, x1, x2, -⟩ := ls_atV (HN.out.nodes.ls hy) hy
      simp only [Value.slice.injEq] at ev1
      obtain ⟨rfl, -, rfl⟩ := ev1
      have HY := hid hy
      clear hy
      have hjz : (j : Int) < (nl : Int) := by omega
      have hj0 : (0 : Int) ≤ (j : Int) := by omega
      by_cases hp0 : p < 0
      · have HR : Hid (inN ns (j : Int) p = -1) := HFALSE.out (by rw [HHAS.out]; simp; omega)
        go_enter Tryz.func42, Tryz.ntmps42
        go_upto_region 1 with fail
        rw [HW.out]
        go_wp2_with fail
        go_ret
        exact ⟨by rw [HR.out]; rfl, G0.out⟩
      · by_cases hpn : y.n.ins ≤ p
        · have HR : Hid (inN ns (j : Int) p = -1) := HFALSE.out (by rw [HHAS.out]; simp; omega)
          go_enter Tryz.func42, Tryz.ntmps42
          go_upto_region 1 with fail
          rw [HW.out]
          go_wp2_with fail
          go_ret
          exact ⟨by rw [HR.out]; rfl, G0.out⟩
        · have hf1 := firstN_le HP.out j
          have hcall := fun W hb => hfst j (by omega) W hb
          obtain ⟨m, hm⟩ : ∃ m, m = firstN ns j := ⟨_, rfl⟩
          rw [← hm] at hcall hf1
          have q1 : 0 ≤ y.n.ins := HQ.out.1
          have q2 : y.n.ins ≤ 4 := HQ.out.2.1
          have hp4 : p < 4 := by have := HQ.out; omega
          have hm9 : (m : Int) ≤ 192 := by omega
          have HR : Hid (inN ns (j : Int) p = (m : Int) + p) := by
            show _ = _
            unfold inN
            rw [if_pos (by rw [HHAS.out]; simp; omega), Int.toNat_natCast, hm]
          clear hfst hm hf1
          go_enter Tryz.func42, Tryz.ntmps42
          go_upto_region 1 with fail
          rw [HW.out]
          clear HW
          go_wp2_with fail
          refine (hcall _ (Below.refl _ _)).mono ?_
          rintro r w1 ⟨rfl, g1⟩
          have G1 := hid (G0.out.trans g1)
          clear g1
          go_wp2_with fail
          go_ret
          exact ⟨by rw [HR.out]; rfl, G1.out⟩
set_option maxHeartbeats 4000000 in
theorem rout_any {nv : Value} {qe : Option Addr} {me ce : Nat} {a : Int} {xs : List NV} (i p : Int) (w : World) (h : Nr w nv xs) : Calls Tryz.prog 41 #[.agg (gvc a nv (.slice qe me ce)), .int .i64 i, .int .i64 p] w fun r w' => r = .returned (.int .i64 (outN (xs.map NV.n) i p)) ∧ Gr w w' := by
  have hmx : Tryz.prog.follows .mixedOrders = true := by kernel_rfl
  have g0 := (Gr.refl w).alloc (.cells (gvc a nv (.slice qe me ce)) 25)
  have HB := hid (heap_new' w (.cells (gvc a nv (.slice qe me ce)) 25))
  have HN := hid (h.below g0.below)
  obtain ⟨W0, hW0⟩ : ∃ W, W = w.alloc (.cells (gvc a nv (.slice qe me ce)) 25) := ⟨_, rfl⟩
  have HW : Hid (w.alloc (.cells #[.int .i64 a, nv, .slice qe me ce] 25) = W0) := hW0.symm
  rw [← hW0] at g0 HB HN
  have G0 := hid g0
  have hfst := fun (j : Nat) (hj : j ≤ xs.length) W (hb : Below W0.heap.size W0 W) => rfirst_any (ev := .slice qe me ce) (a := a) j hj W (HN.out.below hb)
  obtain ⟨qn, cn, rfl⟩ := h.nodes.form
  have hnl := h.nl
  have HP := hid h.pok
  obtain ⟨ns, hns⟩ : ∃ ns, ns = xs.map NV.n := ⟨_, rfl⟩
  rw [← hns] at HP hfst ⊢
  have HNS : Hid (ns = xs.map NV.n ∧ ns.length = xs.length) := ⟨hns, by rw [hns, List.length_map]⟩
  generalize hxl : xs.length = nl at *
  have HXL := hid hxl
  clear h hW0 g0 hns hxl
  have c0 := (tk_store HB.out).1
  have l0 := tk_lt HB.out
  have HFALSE : Hid (hasON ns i p = false → outN ns i p = -1) := fun e => by unfold outN; rw [if_neg (by rw [e]; decide)]
  by_cases hi0 : i < 0
  · have HR : Hid (outN ns i p = -1) := HFALSE.out (by unfold hasON natN?; rw [if_neg (by omega)])
    go_enter Tryz.func41, Tryz.ntmps41
    go_upto_region 1 with fail
    rw [HW.out]
    go_wp2_with fail
    go_ret
    exact ⟨by rw [HR.out]; rfl, G0.out⟩
  · by_cases hil : (nl : Int) ≤ i
    · have HR : Hid (outN ns i p = -1) := HFALSE.out (by unfold hasON natN?; rw [if_pos (by omega), List.getElem?_eq_none (by have := HNS.out.2; have := HXL.out; omega)])
      go_enter Tryz.func41, Tryz.ntmps41
      go_upto_region 1 with fail
      rw [HW.out]
      go_wp2_with fail
      go_ret
      exact ⟨by rw [HR.out]; rfl, G0.out⟩
    · obtain ⟨j, rfl⟩ : ∃ j : Nat, i = (j : Int) := ⟨i.toNat, by omega⟩
      obtain ⟨y, hy⟩ : ∃ y, xs[j]? = some y := ⟨xs[j]'(by have := HXL.out; omega), by simp⟩
      have HYN : Hid (ns[j]? = some y.n) := by show _ = _; rw [HNS.out.1]; simp [hy]
      have HHAS : Hid (hasON ns (j : Int) p = decide (0 ≤ p ∧ p < y.n.outs)) := by
        show _ = _
        unfold hasON natN?
        rw [if_pos (by omega), Int.toNat_natCast, HYN.out]
      have HQ := hid (HP.out y.n (List.mem_of_getElem? HYN.out))
      obtain ⟨b1, o1, q1, ev1, zz1, x0, x1, x2, -⟩ := ls_atV (HN.out.nodes.ls hy) hy
      simp only [Value.slice.injEq] at ev1
      obtain ⟨rfl, -, rfl⟩ := ev1
      have HY := hid hy
      clear hy
      have hjz : (j : Int) < (nl : Int) := by omega
      have hj0 : (0 : Int) ≤ (j : Int) := by omega
      by_cases hp0 : p < 0
      · have HR : Hid (outN ns (j : Int) p = -1) := HFALSE.out (by rw [HHAS.out]; simp; omega)
        go_enter Tryz.func41, Tryz.ntmps41
        go_upto_region 1 with fail
        rw [HW.out]
        go_wp2_with fail
        go_ret
        exact ⟨by rw [HR.out]; rfl, G0.out⟩
      · by_cases hpn : y.n.outs ≤ p
        · have HR : Hid (outN ns (j : Int) p = -1) := HFALSE.out (by rw [HHAS.out]; simp; omega)
          go_enter Tryz.func41, Tryz.ntmps41
          go_upto_region 1 with fail
          rw [HW.out]
          go_wp2_with fail
          go_ret
          exact ⟨by rw [HR.out]; rfl, G0.out⟩
        · have hf1 := firstN_le HP.out j
          have hcall := fun W hb => hfst j (by omega) W hb
          obtain ⟨m, hm⟩ : ∃ m, m = firstN ns j := ⟨_, rfl⟩
          rw [← hm] at hcall hf1
          have q1 : 0 ≤ y.n.ins := HQ.out.1
          have q2 : y.n.ins ≤ 4 := HQ.out.2.1
          have hp4 : p < 4 := by have := HQ.out; omega
          have hm9 : (m : Int) ≤ 192 := by omega
          have HR : Hid (outN ns (j : Int) p = (m : Int) + y.n.ins + p) := by
            show _ = _
            unfold outN
            rw [if_pos (by rw [HHAS.out]; simp; omega), Int.toNat_natCast, hm, HYN.out]
          clear hfst hm hf1
          go_enter Tryz.func41, Tryz.ntmps41
          go_upto_region 1 with fail
          rw [HW.out]
          clear HW
          have hw1 : IntKind.i64.wrap ((m : Int) + y.n.ins) = (m : Int) + y.n.ins := by rw [IntKind.wrap_i64]; omega
          have hw2 : IntKind.i64.wrap ((m : Int) + y.n.ins + p) = (m : Int) + y.n.ins + p := by rw [IntKind.wrap_i64]; omega
          go_upto_region 3 with fail
          have hS0 : Gr W0 W0.drew := (Gr.refl W0).drew
          refine wp_regionD (S := fun W => Gr W0 W) (D := []) hmx ?_
          refine' wpAnyD_take (i := 0) (oi := { dst := some 30, op := Go.Op.load 25 (Go.Operand.tmp 3), type := 25, pos := "ref.go:180", after := #[], guard := none }) (v := _) rfl (by kernel_rfl) (by kernel_rfl) (by kernel_rfl) (fun _ _ _ h => h) (by kernel_rfl) (Or.inl ⟨by rfl, ?hy1⟩) hS0 ?rest1
          case hy1 => (intro W hSw; have hb := (hSw.below.block _ (tk_lt HB.out)).trans HB.out; have hc := (tk_store hb).1; have hl := tk_lt hb; go_simp; try (with_reducible rfl))
          try simp only [Act.put, List.setIfInBounds_toArray, List.set_cons_zero, List.set_cons_succ]
          refine' wpAnyD_take (i := 1) (oi := { dst := some 31, op := Go.Op.move (Go.Operand.tmp 1), type := 3, pos := "ref.go:180", after := #[], guard := none }) (v := _) rfl (by kernel_rfl) (by kernel_rfl) (by kernel_rfl) (fun _ _ _ h => h) (by kernel_rfl) (Or.inl ⟨by rfl, ?hy2⟩) hS0 ?rest2
          case hy2 => (intro W hSw; go_simp; try (with_reducible rfl))
          try simp only [Act.put, List.setIfInBounds_toArray, List.set_cons_zero, List.set_cons_succ]
          refine' wpAnyD_take (i := 3) (oi := { dst := some 33, op := Go.Op.fieldAddr 25 (Go.Operand.tmp 3) 1, type := 0, pos := "ref.go:180", after := #[], guard := none }) (v := _) rfl (by kernel_rfl) (by kernel_rfl) (by kernel_rfl) (fun _ _ _ h => h) (by kernel_rfl) (Or.inl ⟨by rfl, ?hy3⟩) hS0 ?rest3
          case hy3 => (intro W hSw; go_simp; try (with_reducible rfl))
          try simp only [Act.put, List.setIfInBounds_toArray, List.set_cons_zero, List.set_cons_succ]
          refine' wpAnyD_take (i := 4) (oi := { dst := some 34, op := Go.Op.load 22 (Go.Operand.tmp 33), type := 22, pos := "ref.go:180", after := #[{ on := 3, ground := Go.Ground.data }], guard := none }) (v := _) rfl (by kernel_rfl) (by kernel_rfl) (by kernel_rfl) (fun _ _ _ h => h) (by kernel_rfl) (Or.inl ⟨by rfl, ?hy4⟩) hS0 ?rest4
          case hy4 => (intro W hSw; have hb := (hSw.below.block _ (tk_lt HB.out)).trans HB.out; have hc := (tk_store hb).1; have hl := tk_lt hb; go_simp; try (with_reducible rfl))
          try simp only [Act.put, List.setIfInBounds_toArray, List.set_cons_zero, List.set_cons_succ]
          refine' wpAnyD_take (i := 5) (oi := { dst := some 35, op := Go.Op.move (Go.Operand.tmp 1), type := 3, pos := "ref.go:180", after := #[], guard := none }) (v := _) rfl (by kernel_rfl) (by kernel_rfl) (by kernel_rfl) (fun _ _ _ h => h) (by kernel_rfl) (Or.inl ⟨by rfl, ?hy5⟩) hS0 ?rest5
          case hy5 => (intro W hSw; go_simp; try (with_reducible rfl))
          try simp only [Act.put, List.setIfInBounds_toArray, List.set_cons_zero, List.set_cons_succ]
          refine' wpAnyD_take (i := 6) (oi := { dst := some 36, op := Go.Op.indexAddr 22 (Go.Operand.tmp 34) (Go.Operand.tmp 35), type := 0, pos := "ref.go:180", after := #[{ on := 4, ground := Go.Ground.data }, { on := 5, ground := Go.Ground.data }], guard := none }) (v := _) rfl (by kernel_rfl) (by kernel_rfl) (by kernel_rfl) (fun _ _ _ h => h) (by kernel_rfl) (Or.inl ⟨by rfl, ?hy6⟩) hS0 ?rest6
          case hy6 => (intro W hSw; go_simp; try (with_reducible rfl))
          try simp only [Act.put, List.setIfInBounds_toArray, List.set_cons_zero, List.set_cons_succ]
          refine' wpAnyD_take (i := 7) (oi := { dst := some 37, op := Go.Op.fieldAddr 58 (Go.Operand.tmp 36) 1, type := 0, pos := "ref.go:180", after := #[{ on := 6, ground := Go.Ground.data }], guard := none }) (v := _) rfl (by kernel_rfl) (by kernel_rfl) (by kernel_rfl) (fun _ _ _ h => h) (by kernel_rfl) (Or.inl ⟨by rfl, ?hy7⟩) hS0 ?rest7
          case hy7 => (intro W hSw; go_simp; try (with_reducible rfl))
          try simp only [Act.put, List.setIfInBounds_toArray, List.set_cons_zero, List.set_cons_succ]
          refine' wpAnyD_take (i := 8) (oi := { dst := some 38, op := Go.Op.load 3 (Go.Operand.tmp 37), type := 3, pos := "ref.go:180", after := #[{ on := 7, ground := Go.Ground.data }], guard := none }) (v := _) rfl (by kernel_rfl) (by kernel_rfl) (by kernel_rfl) (fun _ _ _ h => h) (by kernel_rfl) (Or.inl ⟨by rfl, ?hy8⟩) hS0 ?rest8
          case hy8 => (intro W hSw; obtain ⟨b9, o9, q9, e9, z9, y0, y1, -⟩ := ls_atV ((HN.out.nodes.below hSw.below).ls HY.out) HY.out; simp only [Value.slice.injEq, Option.some.injEq, Addr.mk.injEq] at e9; obtain ⟨⟨rfl, rfl, -⟩, -, rfl⟩ := e9; go_simp; try (with_reducible rfl))
          try simp only [Act.put, List.setIfInBounds_toArray, List.set_cons_zero, List.set_cons_succ]
          refine' wpAnyD_take (i := 10) (oi := { dst := some 40, op := Go.Op.move (Go.Operand.tmp 2), type := 3, pos := "ref.go:180", after := #[], guard := none }) (v := _) rfl (by kernel_rfl) (by kernel_rfl) (by kernel_rfl) (fun _ _ _ h => h) (by kernel_rfl) (Or.inl ⟨by rfl, ?hy9⟩) hS0 ?rest9
          case hy9 => (intro W hSw; go_simp; try (with_reducible rfl))
          try simp only [Act.put, List.setIfInBounds_toArray, List.set_cons_zero, List.set_cons_succ]
          refine wpAnyD_one (i := 2) (o := { dst := some 32, op := Go.Op.call { callee := Go.Callee.value (Go.Operand.func 63), args := #[Go.Operand.tmp 30, Go.Operand.tmp 31], argTypes := #[25, 3] }, type := 3, pos := "ref.go:180", after := #[{ on := 0, ground := Go.Ground.data }, { on := 1, ground := Go.Ground.data }], guard := none }) (by kernel_rfl) rfl (fun K hK => ?_)
          go_simp
          refine (hcall _ hS0.below).mono ?_
          rintro r w6 ⟨rfl, g6⟩
          have hS6 : Gr W0 w6 := hS0.trans g6
          clear g6
          go_wp2_with fail
          refine hK.out _ _ (fun hD => hS6) ?_
          clear hK K
          try simp only [Act.put, List.setIfInBounds_toArray, List.set_cons_zero, List.set_cons_succ]
          refine' wpAnyD_take (i := 9) (oi := { dst := some 39, op := Go.Op.binOp Go.BinOp.add 3 (Go.Operand.tmp 32) (Go.Operand.tmp 38) 3, type := 3, pos := "ref.go:180", after := #[{ on := 2, ground := Go.Ground.data }, { on := 8, ground := Go.Ground.data }], guard := none }) (v := _) rfl (by kernel_rfl) (by kernel_rfl) (by kernel_rfl) (fun _ _ _ h => h) (by kernel_rfl) (Or.inl ⟨by rfl, ?hy11⟩) hS6 ?rest11
          case hy11 => (intro W hSw; go_simp; try (with_reducible rfl))
          try simp only [Act.put, List.setIfInBounds_toArray, List.set_cons_zero, List.set_cons_succ]
          refine' wpAnyD_take (i := 11) (oi := { dst := some 41, op := Go.Op.binOp Go.BinOp.add 3 (Go.Operand.tmp 39) (Go.Operand.tmp 40) 3, type := 3, pos := "ref.go:180", after := #[{ on := 9, ground := Go.Ground.data }, { on := 10, ground := Go.Ground.data }], guard := none }) (v := _) rfl (by kernel_rfl) (by kernel_rfl) (by kernel_rfl) (fun _ _ _ h => h) (by kernel_rfl) (Or.inl ⟨by rfl, ?hy12⟩) hS6 ?rest12
          case hy12 => (intro W hSw; go_simp; try (with_reducible rfl))
          try simp only [Act.put, List.setIfInBounds_toArray, List.set_cons_zero, List.set_cons_succ]
          refine' wpAnyD_take (i := 12) (oi := { dst := some 6, op := Go.Op.assign (Go.Operand.tmp 41), type := 3, pos := "ref.go:180", after := #[{ on := 11, ground := Go.Ground.data }, { on := 2, ground := Go.Ground.chain }, { on := 0, ground := Go.Ground.phase }, { on := 1, ground := Go.Ground.phase }, { on := 2, ground := Go.Ground.phase }, { on := 3, ground := Go.Ground.phase }, { on := 4, ground := Go.Ground.phase }, { on := 5, ground := Go.Ground.phase }, { on := 6, ground := Go.Ground.phase }, { on := 7, ground := Go.Ground.phase }, { on := 8, ground := Go.Ground.phase }, { on := 9, ground := Go.Ground.phase }, { on := 10, ground := Go.Ground.phase }, { on := 11, ground := Go.Ground.phase }], guard := none }) (v := _) rfl (by kernel_rfl) (by kernel_rfl) (by kernel_rfl) (fun _ _ _ h => h) (by kernel_rfl) (Or.inl ⟨by rfl, ?hy13⟩) hS6 ?rest13
          case hy13 => (intro W hSw; go_simp; try (with_reducible rfl))
          try simp only [Act.put, List.setIfInBounds_toArray, List.set_cons_zero, List.set_cons_succ]
          refine wpAnyD_done (by kernel_rfl) ?_ _
          have G6 := hid (G0.out.trans hS6)
          clear hS0 hS6 hcall
          go_wp2_with fail
          go_ret
          exact ⟨by rw [HR.out]; rfl, G6.out⟩
end Go.Proofs.YtpgodnaebkmhhaaGreat.Df

namespace Go.Proofs.YtpgodnaebkmhhaaGreat.Df
open Go.RowKit Go.Sort
attribute [local go_sem ↓] Go.wp_at_zero Go.wp_at_succ

theorem outN_neg {ns : List Nod} {i p : Int} (hp : Pok ns) : outN ns i p < 0 ↔ hasON ns i p = false := by
  unfold outN
  constructor
  · intro h
    cases e : hasON ns i p with
    | false => rfl
    | true =>
      obtain ⟨n, hn, _, _, h1, _⟩ := has_out e
      have := hp n (List.mem_of_getElem? hn)
      rw [if_pos e, hn] at h
      simp only at h
      omega
  · intro h
    rw [if_neg (by rw [h]; decide)]
    decide
theorem inN_neg {ns : List Nod} {i p : Int} : inN ns i p < 0 ↔ hasIN ns i p = false := by
  unfold inN
  constructor
  · intro h
    cases e : hasIN ns i p with
    | false => rfl
    | true =>
      obtain ⟨n, hn, _, _, h1, _⟩ := has_in e
      rw [if_pos e] at h
      omega
  · intro h
    rw [if_neg (by rw [h]; decide)]
    decide
theorem anyw_false {l : List Edg} {j : Nat} {y : Edg} (h : ∀ m c, m < j → l[m]? = some c → way c y = false) : anyw (l.take j) y = false := by
  unfold anyw
  rw [List.any_eq_false]
  intro c hc
  obtain ⟨m, hm, rfl⟩ := List.mem_iff_getElem.1 hc
  have hm2 : m < j ∧ m < l.length := by simp at hm; omega
  have := h m l[m] hm2.1 (by simp [hm2.2])
  simp only [List.getElem_take]
  rw [this]
  decide
theorem anyw_true {l : List Edg} {j m : Nat} {c y : Edg} (hm : m < j) (h : l[m]? = some c) (hw : way c y = true) : anyw (l.take j) y = true := by
  unfold anyw
  rw [List.any_eq_true]
  exact ⟨c, List.mem_of_getElem? (i := m) (by rw [List.getElem?_take, if_pos hm]; exact h), hw⟩
set_option maxRecDepth 100000 in
set_option maxHeartbeats 8000000 in
theorem redge_any {M : Nat} {nv ev : Value} {a : Int} {xs : List NV} {es : List Edg} (i : Nat) (y : Edg) (hi : es[i]? = some y) (hel : es.length ≤ 48) (w : World) (h : Nr w nv xs) (hE : Lz ED M w ev es) : Calls Tryz.prog 23 #[.agg (gvc a nv ev), .int .i64 (i : Nat)] w fun r w' => r = .returned (.int .i64 (eflawN (xs.map NV.n) (es.take i) y)) ∧ Below w.heap.size w w' := by
  have g0 := (Gr.refl w).alloc (.cells (gvc a nv ev) 25)
  have HB := hid (heap_new' w (.cells (gvc a nv ev) 25))
  have HN := hid (h.below g0.below)
  have HE := hid (hE.below g0.below)
  obtain ⟨W0, hW0⟩ : ∃ W, W = w.alloc (.cells (gvc a nv ev) 25) := ⟨_, rfl⟩
  have HW : Hid (w.alloc (.cells #[.int .i64 a, nv, ev] 25) = W0) := hW0.symm
  rw [← hW0] at g0 HB HN HE
  have B0 := hid g0.below
  obtain ⟨qn, cn, rfl⟩ := h.nodes.form
  obtain ⟨qe, ce, rfl⟩ := hE.form
  have HP := hid h.pok
  obtain ⟨ns, hns⟩ : ∃ ns, ns = xs.map NV.n := ⟨_, rfl⟩
  rw [← hns] at HP ⊢
  have HNS := hid hns
  have hil := (List.getElem?_eq_some_iff.1 hi).1
  have HY := hid hi
  generalize hxl : xs.length = nl at *
  generalize hes : es.length = el at *
  have HXL := hid hxl
  have HES := hid hes
  have hiz : (i : Int) < (el : Int) := by omega
  have hi0 : (0 : Int) ≤ (i : Int) := by omega
  obtain ⟨b1, o1, q1, ev1, zz1, x0, x1, x2, x3, x4⟩ := ls_atD (HE.out.ls hi) hi
  simp only [Value.slice.injEq] at ev1
  obtain ⟨rfl, -, rfl⟩ := ev1
  clear h hE hW0 g0 hns hxl hes hi
  have c0 := (tk_store HB.out).1
  have l0 := tk_lt HB.out
  obtain ⟨yb, hyb⟩ : ∃ b, b = W0.heap.size := ⟨_, rfl⟩
  obtain ⟨W5, hW5⟩ : ∃ W, W = W0.alloc (.cells (ecells y) 74) := ⟨_, rfl⟩
  have P5 : Hid (Below W0.heap.size W0 W5 ∧ W5.heap[yb]? = some (.cells (ecells y) 74 (0, 0)) ∧ W5.heap[w.heap.size]? = some (.cells (gvc a (.slice qn nl cn) (.slice (some ⟨b1, o1, none⟩) el ce)) 25 (0, 0))) := by
    have g5 := ((Gr.refl W0).alloc (.cells (ecells y) 74)).below
    rw [hW5, hyb]
    exact ⟨g5, heap_new' _ _, (g5.block _ (tk_lt HB.out)).trans HB.out⟩
  have HW5 : Hid (W0.alloc (.cells #[.int .i64 y.src, .int .i64 y.out, .int .i64 y.dst, .int .i64 y.inn, .bool y.keyed] 74) = W5 ∧ W0.heap.size = yb) := ⟨hW5.symm, hyb.symm⟩
  clear hW5 hyb
  go_enter Tryz.func23, Tryz.ntmps23
  go_upto_region 1 with fail
  rw [HW.out]
  clear HW
  go_upto_region 2 with fail
  rw [HW5.out.1, HW5.out.2]
  clear HW5 x0 x1 x2 x3 x4 zz1 c0 l0
  have cy := (tk_store P5.out.2.1).1
  have ly := tk_lt P5.out.2.1
  have cg := (tk_store P5.out.2.2).1
  have lg := tk_lt P5.out.2.2
  have ho := rout_any (a := a) (qe := some ⟨b1, o1, none⟩) (me := el) (ce := ce) y.src y.out W5 (HN.out.below P5.out.1)
  rw [← HNS.out] at ho
  by_cases h1 : outN ns y.src y.out < 0
  · have HR : Hid (eflawN ns (es.take i) y = 25) := if_pos (Or.inl ((outN_neg HP.out).1 h1))
    generalize outN ns y.src y.out = z1 at ho h1
    go_wp2_with fail
    refine ho.mono ?_
    rintro r w6 ⟨rfl, g6⟩
    have B6 := hid (B0.out.trans ((P5.out.1.trans (g6.below.mono P5.out.1.size)).mono B0.out.size))
    clear g6 ho
    go_wp2_with fail
    go_ret
    exact ⟨by rw [HR.out]; rfl, B6.out⟩
  · have HO : Hid (hasON ns y.src y.out = true) := by
      show _ = _
      cases e : hasON ns y.src y.out with
      | true => rfl
      | false => exact absurd ((outN_neg HP.out).2 e) h1
    generalize outN ns y.src y.out = z1 at ho h1
    go_wp2_with fail
    refine ho.mono ?_
    rintro r w6 ⟨rfl, g6⟩
    have P6 : Hid (Below W0.heap.size W0 w6 ∧ w6.heap[yb]? = some (.cells (ecells y) 74 (0, 0)) ∧ w6.heap[w.heap.size]? = some (.cells (gvc a (.slice qn nl cn) (.slice (some ⟨b1, o1, none⟩) el ce)) 25 (0, 0))) := ⟨P5.out.1.trans (g6.below.mono P5.out.1.size), (g6.below.block _ (tk_lt P5.out.2.1)).trans P5.out.2.1, (g6.below.block _ (tk_lt P5.out.2.2)).trans P5.out.2.2⟩
    clear g6 ho cy ly cg lg
    have cy := (tk_store P6.out.2.1).1
    have ly := tk_lt P6.out.2.1
    have cg := (tk_store P6.out.2.2).1
    have lg := tk_lt P6.out.2.2
    have hn := rin_any (a := a) (qe := some ⟨b1, o1, none⟩) (me := el) (ce := ce) y.dst y.inn w6 (HN.out.below P6.out.1)
    rw [← HNS.out] at hn
    by_cases h2 : inN ns y.dst y.inn < 0
    · have HR : Hid (eflawN ns (es.take i) y = 25) := if_pos (Or.inr (Or.inl (inN_neg.1 h2)))
      generalize inN ns y.dst y.inn = z2 at hn h2
      go_wp2_with fail
      refine hn.mono ?_
      rintro r w7 ⟨rfl, g7⟩
      have B7 := hid (B0.out.trans ((P6.out.1.trans (g7.below.mono P6.out.1.size)).mono B0.out.size))
      clear g7 hn
      go_wp2_with fail
      go_ret
      exact ⟨by rw [HR.out]; rfl, B7.out⟩
    · have HI2 : Hid (hasIN ns y.dst y.inn = true) := by
        show _ = _
        cases e : hasIN ns y.dst y.inn with
        | true => rfl
        | false => exact absurd (inN_neg.2 e) h2
      generalize inN ns y.dst y.inn = z2 at hn h2
      go_wp2_with fail
      refine hn.mono ?_
      rintro r w7 ⟨rfl, g7⟩
      have P7 : Hid (Below W0.heap.size W0 w7 ∧ w7.heap[yb]? = some (.cells (ecells y) 74 (0, 0)) ∧ w7.heap[w.heap.size]? = some (.cells (gvc a (.slice qn nl cn) (.slice (some ⟨b1, o1, none⟩) el ce)) 25 (0, 0))) := ⟨P6.out.1.trans (g7.below.mono P6.out.1.size), (g7.below.block _ (tk_lt P6.out.2.1)).trans P6.out.2.1, (g7.below.block _ (tk_lt P6.out.2.2)).trans P6.out.2.2⟩
      clear g7 hn cy ly cg lg
      go_wp2_with fail
      clear h1 h2
      go_loopw [6] (fun s6 wr => ∃ p : Nat, p ≤ i ∧ s6 = .int .i64 (p : Nat) ∧ Hid ((Below W0.heap.size W0 wr ∧ wr.heap[yb]? = some (.cells (ecells y) 74 (0, 0)) ∧ wr.heap[w.heap.size]? = some (.cells (gvc a (.slice qn nl cn) (.slice (some ⟨b1, o1, none⟩) el ce)) 25 (0, 0))) ∧ ∀ m c, m < p → es[m]? = some c → way c y = false)) (fun s6 _ => i - (RowKit.intOf s6).toNat)
      case atStart => exact ⟨0, Nat.zero_le _, rfl, P7.out, fun m c hm => by omega⟩
      case round =>
        clear P7
        obtain ⟨p, hp, rfl, HI⟩ := hrel
        have cy := (tk_store HI.out.1.2.1).1
        have ly := tk_lt HI.out.1.2.1
        have cg := (tk_store HI.out.1.2.2).1
        have lg := tk_lt HI.out.1.2.2
        by_cases hpl : p < i
        · have hplz : (p : Int) < (i : Int) := by omega
          have hp0 : (0 : Int) ≤ (p : Int) := by omega
          have hpe : (p : Int) < (el : Int) := by omega
          obtain ⟨z, hz⟩ : ∃ z, es[p]? = some z := ⟨es[p]'(by have := HES.out; omega), by simp⟩
          obtain ⟨b2, o2, q2, ev2, zz2, x0, x1, x2, x3, x4⟩ := ls_atD ((HE.out.below HI.out.1.1).ls hz) hz
          simp only [Value.slice.injEq, Option.some.injEq, Addr.mk.injEq] at ev2
          obtain ⟨⟨rfl, rfl, -⟩, -, rfl⟩ := ev2
          have HZ := hid hz
          clear hz
          obtain ⟨zb, hzb⟩ : ∃ b, b = wr.heap.size := ⟨_, rfl⟩
          obtain ⟨W8, hW8⟩ : ∃ W, W = wr.alloc (.cells (ecells z) 74) := ⟨_, rfl⟩
          have P8 : Hid ((Below W0.heap.size W0 W8 ∧ W8.heap[yb]? = some (.cells (ecells y) 74 (0, 0)) ∧ W8.heap[w.heap.size]? = some (.cells (gvc a (.slice qn nl cn) (.slice (some ⟨b1, o1, none⟩) el ce)) 25 (0, 0))) ∧ W8.heap[zb]? = some (.cells (ecells z) 74 (0, 0))) := by
            have g8 := ((Gr.refl wr).alloc (.cells (ecells z) 74)).below
            rw [hW8, hzb]
            exact ⟨⟨HI.out.1.1.trans (g8.mono HI.out.1.1.size), (g8.block _ (tk_lt HI.out.1.2.1)).trans HI.out.1.2.1, (g8.block _ (tk_lt HI.out.1.2.2)).trans HI.out.1.2.2⟩, heap_new' _ _⟩
          have HW8 : Hid (wr.alloc (.cells #[.int .i64 z.src, .int .i64 z.out, .int .i64 z.dst, .int .i64 z.inn, .bool z.keyed] 74) = W8 ∧ wr.heap.size = zb) := ⟨hW8.symm, hzb.symm⟩
          clear hW8 hzb
          go_upto_region 8 with fail
          rw [HW8.out.1, HW8.out.2]
          clear HW8 x0 x1 x2 x3 x4 zz2 cy ly cg lg
          have cz := (tk_store P8.out.2).1
          have lz := tk_lt P8.out.2
          have cy := (tk_store P8.out.1.2.1).1
          have ly := tk_lt P8.out.1.2.1
          by_cases h0 : z.src = y.src
          · have hb0 : (z.src == y.src) = true := by simp [h0]
            by_cases h1 : z.out = y.out
            · have hb1 : (z.out == y.out) = true := by simp [h1]
              by_cases h2 : z.dst = y.dst
              · have hb2 : (z.dst == y.dst) = true := by simp [h2]
                by_cases h3 : z.inn = y.inn
                · have hb3 : (z.inn == y.inn) = true := by simp [h3]
                  have HR : Hid (eflawN ns (es.take i) y = 25) := if_pos (Or.inr (Or.inr (anyw_true hpl HZ.out ((way_iff z y).2 ⟨h0, h1, h2, h3⟩))))
                  clear h0 h1 h2 h3
                  go_wp2_with fail
                  go_ret
                  exact ⟨by rw [HR.out]; rfl, B0.out.trans (P8.out.1.1.mono B0.out.size)⟩
                · have hb3 : (z.inn == y.inn) = false := by simp [h3]
                  have HWY : Hid (way z y = false) := by
                    show _ = _
                    rw [Bool.eq_false_iff]
                    intro e
                    exact h3 ((way_iff z y).1 e).2.2.2
                  clear h0 h1 h2 h3
                  go_wp2_with fail
                  go_roundw
                  case rel => exact ⟨p + 1, by omega, by go_num, P8.out.1, fun m c hm hc => by
                    by_cases e : m = p
                    · subst e
                      rw [HZ.out] at hc
                      cases hc
                      exact HWY.out
                    · exact HI.out.2 m c (by omega) hc⟩
                  case measure => simp [RowKit.intOf]; omega
              · have hb2 : (z.dst == y.dst) = false := by simp [h2]
                have HWY : Hid (way z y = false) := by
                  show _ = _
                  rw [Bool.eq_false_iff]
                  intro e
                  exact h2 ((way_iff z y).1 e).2.2.1
                clear h0 h1 h2
                go_wp2_with fail
                go_roundw
                case rel => exact ⟨p + 1, by omega, by go_num, P8.out.1, fun m c hm hc => by
                  by_cases e : m = p
                  · subst e
                    rw [HZ.out] at hc
                    cases hc
                    exact HWY.out
                  · exact HI.out.2 m c (by omega) hc⟩
                case measure => simp [RowKit.intOf]; omega
            · have hb1 : (z.out == y.out) = false := by simp [h1]
              have HWY : Hid (way z y = false) := by
                show _ = _
                rw [Bool.eq_false_iff]
                intro e
                exact h1 ((way_iff z y).1 e).2.1
              clear h0 h1
              go_wp2_with fail
              go_roundw
              case rel => exact ⟨p + 1, by omega, by go_num, P8.out.1, fun m c hm hc => by
                by_cases e : m = p
                · subst e
                  rw [HZ.out] at hc
                  cases hc
                  exact HWY.out
                · exact HI.out.2 m c (by omega) hc⟩
              case measure => simp [RowKit.intOf]; omega
          · have hb0 : (z.src == y.src) = false := by simp [h0]
            have HWY : Hid (way z y = false) := by
              show _ = _
              rw [Bool.eq_false_iff]
              intro e
              exact h0 ((way_iff z y).1 e).1
            clear h0
            go_wp2_with fail
            go_roundw
            case rel => exact ⟨p + 1, by omega, by go_num, P8.out.1, fun m c hm hc => by
              by_cases e : m = p
              · subst e
                rw [HZ.out] at hc
                cases hc
                exact HWY.out
              · exact HI.out.2 m c (by omega) hc⟩
            case measure => simp [RowKit.intOf]; omega
        · have hplz : ¬ (p : Int) < (i : Int) := by omega
          obtain rfl : p = i := by omega
          have HA := hid (anyw_false HI.out.2)
          obtain ⟨n, hn, hd0, hdl, -, -⟩ := has_in HI2.out
          obtain ⟨j, hj⟩ : ∃ j : Nat, y.dst = (j : Int) := ⟨y.dst.toNat, by omega⟩
          rw [hj, Int.toNat_natCast] at hn hdl
          rw [HNS.out] at hn
          obtain ⟨v, hv, hvn⟩ := nd_get hn
          have hjl : (j : Int) < (nl : Int) := by
            have := (List.getElem?_eq_some_iff.1 hv).1
            have := HXL.out
            omega
          have HR : Hid (eflawN ns (es.take p) y = if v.n.kind = 6 ∧ y.keyed = false then 26 else 0) := by
            show _ = _
            unfold eflawN
            rw [if_neg (by rw [HO.out, HI2.out, HA.out]; simp)]
            unfold natN?
            rw [if_pos hd0, hj, Int.toNat_natCast, HNS.out, hn, hvn]
          obtain ⟨b4, o4, c4, e4, z4, x0, -⟩ := ls_atV ((HN.out.nodes.below HI.out.1.1).ls hv) hv
          simp only [Value.slice.injEq] at e4
          obtain ⟨rfl, -, rfl⟩ := e4
          have hj0 : (0 : Int) ≤ (j : Int) := by omega
          obtain ⟨ds, dt, dd, di, dk⟩ := y
          simp only at hj
          subst hj
          clear hn hv hvn hdl hd0
          by_cases k6 : v.n.kind = 6
          · cases dk with
            | true =>
              go_wp2_with fail
              go_ret
              exact ⟨by rw [HR.out]; simp, B0.out.trans (HI.out.1.1.mono B0.out.size)⟩
            | false =>
              go_wp2_with fail
              go_ret
              exact ⟨by rw [HR.out]; simp [k6], B0.out.trans (HI.out.1.1.mono B0.out.size)⟩
          · have kb : (v.n.kind == 6) = false := by simp [k6]
            go_wp2_with fail
            go_ret
            exact ⟨by rw [HR.out]; simp [k6], B0.out.trans (HI.out.1.1.mono B0.out.size)⟩
set_option maxRecDepth 100000 in
set_option maxHeartbeats 8000000 in
/-- The document's Check says what flawOf says. -/
theorem rcheck_any {M : Nat} {nv ev : Value} {a : Int} {xs : List NV} {es : List Edg} (w : World) (hG : GR M w nv ev xs es) (hM : M ≤ w.heap.size) : Calls Tryz.prog 7 #[.agg (gvc a nv ev)] w fun r w' => ∃ e t : Int, r = .returned (.tuple #[.int .i64 e, .int .i64 t]) ∧ Fl (gof a xs es) e t ∧ Below w.heap.size w w' := by
  have hmx : Tryz.prog.follows .mixedOrders = true := by kernel_rfl
  obtain ⟨pn, cn, hnv⟩ := hG.nodes.form
  obtain ⟨pe, ce, hev⟩ := hG.edges.form
  obtain ⟨nl, hnl⟩ : ∃ n, n = xs.length := ⟨_, rfl⟩
  obtain ⟨el, hel⟩ : ∃ n, n = es.length := ⟨_, rfl⟩
  rw [← hnl] at hnv
  rw [← hel] at hev
  subst hnv
  subst hev
  have HNL : Hid (nl = (gof a xs es).nodes.length ∧ nl = xs.length) := ⟨by simp [hnl], hnl⟩
  have HEL : Hid (el = (gof a xs es).edges.length ∧ el = es.length) := ⟨by simp [hel], hel⟩
  have g0 := (Gr.refl w).alloc (.cells (gvc a (.slice pn nl cn) (.slice pe el ce)) 25)
  have HG := hid ((hG.up hM).later (Nat.le_refl _) g0.below)
  have HB := hid (heap_new' w (.cells (gvc a (.slice pn nl cn) (.slice pe el ce)) 25))
  have B0 := hid g0.below
  obtain ⟨W0, hW0⟩ : ∃ W, W = w.alloc (.cells (gvc a (.slice pn nl cn) (.slice pe el ce)) 25) := ⟨_, rfl⟩
  have HW : Hid (w.alloc (.cells #[.int .i64 a, .slice pn nl cn, .slice pe el ce] 25) = W0) := hW0.symm
  rw [← hW0] at HG HB B0
  have c0 := (tk_store HB.out).1
  have l0 := tk_lt HB.out
  clear hG g0 hW0 hnl hel hM
  by_cases ha : a < 1
  · have HF : Hid (Fl (gof a xs es) 10 0) := .arity (Or.inl ha)
    go_enter Tryz.func7, Tryz.ntmps7
    go_upto_region 1 with fail
    rw [HW.out]
    go_wp2_with fail
    go_ret2
    exact ⟨10, 0, rfl, HF.out, B0.out⟩
  · by_cases ha3 : 3 < a
    · have HF : Hid (Fl (gof a xs es) 10 0) := .arity (Or.inr ha3)
      go_enter Tryz.func7, Tryz.ntmps7
      go_upto_region 1 with fail
      rw [HW.out]
      go_wp2_with fail
      go_ret2
      exact ⟨10, 0, rfl, HF.out, B0.out⟩
    · by_cases hn : 24 < nl
      · have hnz : (24 : Int) < (nl : Int) := by omega
        have HF : Hid (Fl (gof a xs es) 2 0) := .long (show 1 ≤ a by omega) (show a ≤ 3 by omega) (Or.inl (by rw [← HNL.out.1]; exact hn))
        clear hn
        go_enter Tryz.func7, Tryz.ntmps7
        go_upto_region 1 with fail
        rw [HW.out]
        go_wp2_with fail
        go_ret2
        exact ⟨2, 0, rfl, HF.out, B0.out⟩
      · have hnz : ¬ (24 : Int) < (nl : Int) := by omega
        by_cases he : 48 < el
        · have hez : (48 : Int) < (el : Int) := by omega
          have HF : Hid (Fl (gof a xs es) 2 0) := .long (show 1 ≤ a by omega) (show a ≤ 3 by omega) (Or.inr (by rw [← HEL.out.1]; exact he))
          clear hn he
          go_enter Tryz.func7, Tryz.ntmps7
          go_upto_region 1 with fail
          rw [HW.out]
          go_wp2_with fail
          go_ret2
          exact ⟨2, 0, rfl, HF.out, B0.out⟩
        · have hez : ¬ (48 : Int) < (el : Int) := by omega
          have HA : Hid (1 ≤ (gof a xs es).arity ∧ (gof a xs es).arity ≤ 3 ∧ (gof a xs es).nodes.length ≤ 24 ∧ (gof a xs es).edges.length ≤ 48) := ⟨show 1 ≤ a by omega, show a ≤ 3 by omega, by rw [← HNL.out.1]; omega, by rw [← HEL.out.1]; omega⟩
          have h24 : nl ≤ 24 := by omega
          have h48 : el ≤ 48 := by omega
          have HAA : Hid (1 ≤ a ∧ a ≤ 3) := ⟨by omega, by omega⟩
          clear hn he
          go_enter Tryz.func7, Tryz.ntmps7
          go_upto_region 1 with fail
          rw [HW.out]
          clear HW
          go_wp2_with fail
          clear hnz hez ha ha3
          go_loopw [4] (fun s4 wr => ∃ j : Nat, j ≤ nl ∧ s4 = .int .i64 (j : Nat) ∧ Hid (Below W0.heap.size W0 wr ∧ NG (gof a xs es) j)) (fun s4 _ => nl - (RowKit.intOf s4).toNat)
          case atStart => exact ⟨0, Nat.zero_le _, rfl, Below.refl _ _, fun _ _ h => absurd h (Nat.not_lt_zero _)⟩
          case round =>
            clear c0 l0
            obtain ⟨j, hj, rfl, HI⟩ := hrel
            have hb0 := (HI.out.1.block _ (tk_lt HB.out)).trans HB.out
            have c1 := (tk_store hb0).1
            have l1 := tk_lt hb0
            have HB1 := hid hb0
            clear hb0
            by_cases hlt : j < nl
            · have hltz : (j : Int) < (nl : Int) := by omega
              have hj0 : (0 : Int) ≤ (j : Int) := by omega
              obtain ⟨y, hy⟩ : ∃ y, xs[j]? = some y := ⟨xs[j]'(by have := HNL.out.2; omega), by simp⟩
              have hym := List.mem_of_getElem? hy
              have HYN : Hid ((gof a xs es).nodes[j]? = some y.n) := by show _ = _; simp [hy]
              have HY := hid hy
              obtain ⟨b1, o1, q1, ev1, -⟩ := ls_atV ((HG.out.nodes.below HI.out.1).ls hy) hy
              simp only [Value.slice.injEq] at ev1
              obtain ⟨rfl, -, rfl⟩ := ev1
              have hcall : ∀ W, Below wr.heap.size wr W → Calls Tryz.prog 22 #[.agg y.cells, .int .i64 a] W fun r w' => r = .returned (.int .i64 (nflaw a y.n)) ∧ Below W.heap.size W w' := fun W hb => rnode_any y a HAA.out W ((HG.out.each y hym).below (HI.out.1.trans (hb.mono HI.out.1.size)))
              clear hy hym
              go_upto_region 8 with fail
              have hS0 : Below wr.heap.size wr wr.drew := (Gr.refl wr).drew.below
              refine wp_regionD (S := fun W => Below wr.heap.size wr W) (D := []) hmx ?_
              refine' wpAnyD_take (i := 0) (oi := { dst := some 33, op := Go.Op.fieldAddr 25 (Go.Operand.tmp 1) 1, type := 0, pos := "ref.go:135", after := #[], guard := none }) (v := _) rfl (by kernel_rfl) (by kernel_rfl) (by kernel_rfl) (fun _ _ _ h => h) (by kernel_rfl) (Or.inl ⟨by rfl, ?hy1⟩) hS0 ?rest1
              case hy1 => (intro W hSw; go_simp; try (with_reducible rfl))
              try simp only [Act.put, List.setIfInBounds_toArray, List.set_cons_zero, List.set_cons_succ]
              refine' wpAnyD_take (i := 1) (oi := { dst := some 34, op := Go.Op.load 22 (Go.Operand.tmp 33), type := 22, pos := "ref.go:135", after := #[{ on := 0, ground := Go.Ground.data }], guard := none }) (v := _) rfl (by kernel_rfl) (by kernel_rfl) (by kernel_rfl) (fun _ _ _ h => h) (by kernel_rfl) (Or.inl ⟨by rfl, ?hy2⟩) hS0 ?rest2
              case hy2 => (intro W hSw; have hb := (hSw.block _ (tk_lt HB1.out)).trans HB1.out; have hc := (tk_store hb).1; have hl := tk_lt hb; go_simp; try (with_reducible rfl))
              try simp only [Act.put, List.setIfInBounds_toArray, List.set_cons_zero, List.set_cons_succ]
              refine' wpAnyD_take (i := 2) (oi := { dst := some 35, op := Go.Op.move (Go.Operand.tmp 4), type := 3, pos := "ref.go:135", after := #[], guard := none }) (v := _) rfl (by kernel_rfl) (by kernel_rfl) (by kernel_rfl) (fun _ _ _ h => h) (by kernel_rfl) (Or.inl ⟨by rfl, ?hy3⟩) hS0 ?rest3
              case hy3 => (intro W hSw; go_simp; try (with_reducible rfl))
              try simp only [Act.put, List.setIfInBounds_toArray, List.set_cons_zero, List.set_cons_succ]
              refine' wpAnyD_take (i := 3) (oi := { dst := some 36, op := Go.Op.indexAddr 22 (Go.Operand.tmp 34) (Go.Operand.tmp 35), type := 0, pos := "ref.go:135", after := #[{ on := 1, ground := Go.Ground.data }, { on := 2, ground := Go.Ground.data }], guard := none }) (v := _) rfl (by kernel_rfl) (by kernel_rfl) (by kernel_rfl) (fun _ _ _ h => h) (by kernel_rfl) (Or.inl ⟨by rfl, ?hy4⟩) hS0 ?rest4
              case hy4 => (intro W hSw; go_simp; try (with_reducible rfl))
              try simp only [Act.put, List.setIfInBounds_toArray, List.set_cons_zero, List.set_cons_succ]
              refine' wpAnyD_take (i := 4) (oi := { dst := some 37, op := Go.Op.load 58 (Go.Operand.tmp 36), type := 58, pos := "ref.go:135", after := #[{ on := 3, ground := Go.Ground.data }], guard := none }) (v := _) rfl (by kernel_rfl) (by kernel_rfl) (by kernel_rfl) (fun _ _ _ h => h) (by kernel_rfl) (Or.inl ⟨by rfl, ?hy5⟩) hS0 ?rest5
              case hy5 => (intro W hSw; obtain ⟨b9, o9, q9, e9, z9, x0, x1, x2, x3, x4, x5, x6, x7, x8, x9⟩ := ls_atV ((HG.out.nodes.below (HI.out.1.trans (hSw.mono HI.out.1.size))).ls HY.out) HY.out; simp only [Value.slice.injEq, Option.some.injEq, Addr.mk.injEq] at e9; obtain ⟨⟨rfl, rfl, -⟩, -, rfl⟩ := e9; go_simp; try (with_reducible rfl))
              try simp only [Act.put, List.setIfInBounds_toArray, List.set_cons_zero, List.set_cons_succ]
              refine' wpAnyD_take (i := 5) (oi := { dst := some 38, op := Go.Op.fieldAddr 25 (Go.Operand.tmp 1) 0, type := 0, pos := "ref.go:135", after := #[], guard := none }) (v := _) rfl (by kernel_rfl) (by kernel_rfl) (by kernel_rfl) (fun _ _ _ h => h) (by kernel_rfl) (Or.inl ⟨by rfl, ?hy6⟩) hS0 ?rest6
              case hy6 => (intro W hSw; go_simp; try (with_reducible rfl))
              try simp only [Act.put, List.setIfInBounds_toArray, List.set_cons_zero, List.set_cons_succ]
              refine' wpAnyD_take (i := 6) (oi := { dst := some 39, op := Go.Op.load 3 (Go.Operand.tmp 38), type := 3, pos := "ref.go:135", after := #[{ on := 5, ground := Go.Ground.data }], guard := none }) (v := _) rfl (by kernel_rfl) (by kernel_rfl) (by kernel_rfl) (fun _ _ _ h => h) (by kernel_rfl) (Or.inl ⟨by rfl, ?hy7⟩) hS0 ?rest7
              case hy7 => (intro W hSw; have hb := (hSw.block _ (tk_lt HB1.out)).trans HB1.out; have hc := (tk_store hb).1; have hl := tk_lt hb; go_simp; try (with_reducible rfl))
              try simp only [Act.put, List.setIfInBounds_toArray, List.set_cons_zero, List.set_cons_succ]
              refine wpAnyD_one (i := 7) (o := { dst := some 40, op := Go.Op.call { callee := Go.Callee.value (Go.Operand.func 22), args := #[Go.Operand.tmp 37, Go.Operand.tmp 39], argTypes := #[58, 3] }, type := 3, pos := "ref.go:135", after := #[{ on := 4, ground := Go.Ground.data }, { on := 6, ground := Go.Ground.data }], guard := none }) (by kernel_rfl) rfl (fun K hK => ?_)
              go_simp
              refine (hcall _ hS0).mono ?_
              rintro r w6 ⟨rfl, b6⟩
              have hS6 : Below wr.heap.size wr w6 := hS0.trans (b6.mono hS0.size)
              clear b6
              go_wp2_with fail
              refine hK.out _ _ (fun hD => hS6) ?_
              clear hK K
              try simp only [Act.put, List.setIfInBounds_toArray, List.set_cons_zero, List.set_cons_succ]
              refine' wpAnyD_take (i := 8) (oi := { dst := some 5, op := Go.Op.assign (Go.Operand.tmp 40), type := 3, pos := "ref.go:135", after := #[{ on := 7, ground := Go.Ground.data }, { on := 7, ground := Go.Ground.chain }, { on := 0, ground := Go.Ground.phase }, { on := 1, ground := Go.Ground.phase }, { on := 2, ground := Go.Ground.phase }, { on := 3, ground := Go.Ground.phase }, { on := 4, ground := Go.Ground.phase }, { on := 5, ground := Go.Ground.phase }, { on := 6, ground := Go.Ground.phase }, { on := 7, ground := Go.Ground.phase }], guard := none }) (v := _) rfl (by kernel_rfl) (by kernel_rfl) (by kernel_rfl) (fun _ _ _ h => h) (by kernel_rfl) (Or.inl ⟨by rfl, ?hy9⟩) hS6 ?rest9
              case hy9 => (intro W hSw; go_simp; try (with_reducible rfl))
              try simp only [Act.put, List.setIfInBounds_toArray, List.set_cons_zero, List.set_cons_succ]
              refine wpAnyD_done (by kernel_rfl) ?_ _
              have B6 := hid (HI.out.1.trans (hS6.mono HI.out.1.size))
              clear hS0 hS6 hcall c1 l1
              by_cases hz : nflaw a y.n = 0
              · have HZ := hid hz
                rw [hz]
                clear hz
                go_wp2_with fail
                go_roundw
                case rel => exact ⟨j + 1, by omega, by go_num, B6.out, ng_step HI.out.2 HYN.out HZ.out⟩
                case measure => simp [RowKit.intOf]; omega
              · have HF : Hid (Fl (gof a xs es) (nflaw a y.n) j) := .node j y.n HA.out.1 HA.out.2.1 HA.out.2.2.1 HA.out.2.2.2 HYN.out HI.out.2 hz
                generalize nflaw a y.n = zz at HF hz ⊢
                have hb : (zz == 0) = false := by simp [hz]
                have hb' : (zz != 0) = true := by simp [hz]
                go_wp2_with fail
                go_ret2
                exact ⟨zz, j, rfl, HF.out, B0.out.trans (B6.out.mono B0.out.size)⟩
            · have hltz : ¬ (j : Int) < (nl : Int) := by omega
              have HNG : Hid (NG (gof a xs es) (gof a xs es).nodes.length) := by
                have h := HI.out.2
                rw [show j = nl by omega, HNL.out.1] at h
                exact h
              have HNR : Hid (Pok (xs.map NV.n)) := fun n hn => by
                obtain ⟨q, hq, rfl⟩ := List.mem_iff_getElem.1 hn
                exact nflaw_ports (HNG.out q _ hq (List.getElem?_eq_getElem hq))
              go_wp2_with fail
              have BI := hid HI.out.1
              clear c1 l1 HI hltz hlt HB1
              go_loopw [6] (fun s6 wr => ∃ j : Nat, j ≤ el ∧ s6 = .int .i64 (j : Nat) ∧ Hid (Below W0.heap.size W0 wr ∧ EG (gof a xs es) j)) (fun s6 _ => el - (RowKit.intOf s6).toNat)
              case atStart => exact ⟨0, Nat.zero_le _, rfl, BI.out, fun _ _ h => absurd h (Nat.not_lt_zero _)⟩
              case round =>
                obtain ⟨i, hi, rfl, HI⟩ := hrel
                clear BI
                have hb0 := (HI.out.1.block _ (tk_lt HB.out)).trans HB.out
                have c1 := (tk_store hb0).1
                have l1 := tk_lt hb0
                clear hb0
                by_cases hlt : i < el
                · have hltz : (i : Int) < (el : Int) := by omega
                  obtain ⟨y, hy⟩ : ∃ y, es[i]? = some y := ⟨es[i]'(by have := HEL.out.2; omega), by simp⟩
                  have HYN : Hid ((gof a xs es).edges[i]? = some y) := hy
                  have hcall := redge_any (a := a) (nv := .slice pn nl cn) (ev := .slice pe el ce) i y hy (by have := HEL.out.2; omega) wr ⟨(HG.out.nodes.below HI.out.1).up HI.out.1.size, by have := HNL.out.2; omega, HNR.out⟩ (HG.out.edges.below HI.out.1)
                  generalize hzz : eflawN (xs.map NV.n) (es.take i) y = zz at hcall
                  have HZZ : Hid (eflawN (gof a xs es).nodes ((gof a xs es).edges.take i) y = zz) := hzz
                  clear hzz hy
                  by_cases hz : zz = 0
                  · subst hz
                    go_wp2_with fail
                    refine hcall.mono ?_
                    rintro r w6 ⟨rfl, b6⟩
                    have B6 := hid (HI.out.1.trans (b6.mono HI.out.1.size))
                    clear b6 hcall c1 l1
                    go_wp2_with fail
                    go_roundw
                    case rel => exact ⟨i + 1, by omega, by go_num, B6.out, eg_step HI.out.2 HYN.out HZZ.out⟩
                    case measure => simp [RowKit.intOf]; omega
                  · have hb : (zz == 0) = false := by simp [hz]
                    have hb' : (zz != 0) = true := by simp [hz]
                    have HF : Hid (Fl (gof a xs es) zz (nl + i : Nat)) := by
                      have h := Fl.edge (g := gof a xs es) i y HA.out.1 HA.out.2.1 HA.out.2.2.1 HA.out.2.2.2 HNG.out HYN.out HI.out.2 (by rw [HZZ.out]; exact hz)
                      rw [HZZ.out, ← HNL.out.1] at h
                      exact h
                    go_wp2_with fail
                    refine hcall.mono ?_
                    rintro r w6 ⟨rfl, b6⟩
                    have B6 := hid (HI.out.1.trans (b6.mono HI.out.1.size))
                    clear b6 hcall c1 l1
                    have hb9 := (B6.out.block _ (tk_lt HB.out)).trans HB.out
                    have c9 := (tk_store hb9).1
                    have l9 := tk_lt hb9
                    have hnn : (nl : Int) ≤ 24 := by omega
                    have hii : (i : Int) ≤ 48 := by omega
                    clear hb9
                    go_upto_region 16 with fail
                    go_quiet (fail)
                    go_wp2_with fail
                    go_ret2
                    exact ⟨zz, (nl + i : Nat), by push_cast; rfl, HF.out, B0.out.trans ((B6.out.trans (((Gr.refl _).drewN _).below.mono B6.out.size)).mono B0.out.size)⟩
                · have hltz : ¬ (i : Int) < (el : Int) := by omega
                  have HF : Hid (Fl (gof a xs es) 0 0) := .none HA.out.1 HA.out.2.1 HA.out.2.2.1 HA.out.2.2.2 HNG.out (by
                    have h := HI.out.2
                    rw [show i = el by omega, HEL.out.1] at h
                    exact h)
                  go_wp2_with fail
                  go_ret2
                  exact ⟨0, 0, rfl, HF.out, B0.out.trans (HI.out.1.mono B0.out.size)⟩
end Go.Proofs.YtpgodnaebkmhhaaGreat.Df

namespace Go.Proofs.YtpgodnaebkmhhaaGreat.Df
open Go.RowKit Go.Sort
attribute [local go_sem ↓] Go.wp_at_zero Go.wp_at_succ
set_option maxHeartbeats 4000000 in
theorem kin_any {nv ev : Value} {a : Int} {xs : List NV} (j : Nat) (p : Int) (hp0 : 0 ≤ p) (hp9 : p ≤ 1000) (hj : j ≤ xs.length) (w : World) (h : Nr w nv xs) : Calls Tryz.prog 60 #[.agg (gvc a nv ev), .int .i64 (j : Nat), .int .i64 p] w fun r w' => r = .returned (.int .i64 ((firstN (xs.map NV.n) j : Nat) + p)) ∧ Gr w w' := by
  have g0 := (Gr.refl w).alloc (.cells (gvc a nv ev) 25)
  have HB := hid (heap_new' w (.cells (gvc a nv ev) 25))
  have HN := hid (h.below g0.below)
  obtain ⟨W0, hW0⟩ : ∃ W, W = w.alloc (.cells (gvc a nv ev) 25) := ⟨_, rfl⟩
  have HW : Hid (w.alloc (.cells #[.int .i64 a, nv, ev] 25) = W0) := hW0.symm
  rw [← hW0] at g0 HB HN
  have G0 := hid g0
  obtain ⟨qn, cn, rfl⟩ := h.nodes.form
  have hnl := h.nl
  have HP := hid h.pok
  obtain ⟨ns, hns⟩ : ∃ ns, ns = xs.map NV.n := ⟨_, rfl⟩
  rw [← hns] at HP ⊢
  have HNS := hid hns
  generalize hxl : xs.length = nl at *
  have HXL := hid hxl
  clear h hW0 g0 hns hxl
  have c0 := (tk_store HB.out).1
  have l0 := tk_lt HB.out
  go_enter Tryz.func60, Tryz.ntmps60
  go_upto_region 1 with fail
  rw [HW.out]
  clear HW
  go_wp2_with fail
  clear c0 l0
  go_loopw [7, 8] (fun sn si wr => ∃ i : Nat, i ≤ j ∧ si = .int .i64 (i : Nat) ∧ sn = .int .i64 (firstN ns i : Nat) ∧ Hid (Gr W0 wr)) (fun _ si _ => j - (RowKit.intOf si).toNat)
  case atStart => exact ⟨0, Nat.zero_le _, rfl, rfl, Gr.refl _⟩
  case round =>
    obtain ⟨i, hi, rfl, rfl, HI⟩ := hrel
    have hb0 := (HI.out.below.block _ (tk_lt HB.out)).trans HB.out
    have c1 := (tk_store hb0).1
    have l1 := tk_lt hb0
    clear hb0
    by_cases hlt : i < j
    · have hltz : (i : Int) < (j : Int) := by omega
      have hi0 : (0 : Int) ≤ (i : Int) := by omega
      have hil : (i : Int) < (nl : Int) := by omega
      obtain ⟨y, hy⟩ : ∃ y, xs[i]? = some y := ⟨xs[i]'(by have := HXL.out; omega), by simp⟩
      have HYN : Hid (ns[i]? = some y.n) := by show _ = _; rw [HNS.out]; simp [hy]
      obtain ⟨b1, o1, q1, ev1, zz1, x0, x1, x2, -⟩ := ls_atV ((HN.out.nodes.below HI.out.below).ls hy) hy
      simp only [Value.slice.injEq] at ev1
      obtain ⟨rfl, -, rfl⟩ := ev1
      have HFS := hid (fn_pos HYN.out HP.out)
      have hf1 := firstN_le HP.out i
      have hq := HP.out y.n (List.mem_of_getElem? HYN.out)
      obtain ⟨m, hm⟩ : ∃ m, m = firstN ns i := ⟨_, rfl⟩
      rw [← hm] at HFS hf1 ⊢
      have hm9 : (m : Int) ≤ 192 := by omega
      have q1 : 0 ≤ y.n.ins := hq.1
      have q2 : y.n.ins ≤ 4 := hq.2.1
      have q3 : 0 ≤ y.n.outs := hq.2.2.1
      have q4 : y.n.outs ≤ 4 := hq.2.2.2
      clear hy hm hq hf1
      go_upto_region 5 with fail
      go_quiet (fail)
      have G1 := hid (HI.out.drewN nq)
      clear x0 x1 x2 zz1 c1 l1
      go_wp2_with fail
      go_roundw
      case rel => exact ⟨i + 1, by omega, by go_num, by rw [← HFS.out], G1.out⟩
      case measure => simp [RowKit.intOf]; omega
    · have hltz : ¬ (i : Int) < (j : Int) := by omega
      obtain rfl : i = j := by omega
      have hf1 := firstN_le HP.out i
      obtain ⟨m, hm⟩ : ∃ m, m = firstN ns i := ⟨_, rfl⟩
      rw [← hm] at hf1 ⊢
      have hm9 : (m : Int) ≤ 192 := by omega
      have HM := hid hm
      clear hm hf1
      go_wp2_with fail
      go_ret
      exact ⟨by rw [show firstN ns i = m from HM.out.symm]; first | rfl | (congr 2; go_num), G0.out.trans HI.out⟩
set_option maxHeartbeats 4000000 in
theorem kout_any {nv ev : Value} {a : Int} {xs : List NV} (j : Nat) (p : Int) (y : NV) (hy : xs[j]? = some y) (hp0 : 0 ≤ p) (hp9 : p ≤ 900) (w : World) (h : Nr w nv xs) : Calls Tryz.prog 61 #[.agg (gvc a nv ev), .int .i64 (j : Nat), .int .i64 p] w fun r w' => r = .returned (.int .i64 ((firstN (xs.map NV.n) j : Nat) + (y.n.ins + p))) ∧ Gr w w' := by
  have hmx : Tryz.prog.follows .mixedOrders = true := by kernel_rfl
  have hq := h.pok y.n (List.mem_map_of_mem (List.mem_of_getElem? hy))
  have g0 := (Gr.refl w).alloc (.cells (gvc a nv ev) 25)
  have HB := hid (heap_new' w (.cells (gvc a nv ev) 25))
  have HN := hid (h.below g0.below)
  obtain ⟨W0, hW0⟩ : ∃ W, W = w.alloc (.cells (gvc a nv ev) 25) := ⟨_, rfl⟩
  obtain ⟨gb, hgb⟩ : ∃ b, b = w.heap.size := ⟨_, rfl⟩
  have HW : Hid (w.alloc (.cells #[.int .i64 a, nv, ev] 25) = W0 ∧ w.heap.size = gb) := ⟨hW0.symm, hgb.symm⟩
  rw [← hW0] at g0 HB HN
  rw [← hgb] at HB
  have G0 := hid g0
  have hjl := (List.getElem?_eq_some_iff.1 hy).1
  have hcall := fun (W : World) (hb : Below W0.heap.size W0 W) => kin_any (nv := nv) (ev := ev) (a := a) j (y.n.ins + p) (by omega) (by omega) (Nat.le_of_lt hjl) W (HN.out.below hb)
  obtain ⟨b1, o1, q1, ev1, zz1, x0, x1, x2, -⟩ := ls_atV (HN.out.nodes.ls hy) hy
  subst ev1
  have HX : Hid (W0.cell? ⟨b1, o1 + j * 10 + 1, none⟩ = some (.int .i64 y.n.ins) ∧ b1 < W0.heap.size) := ⟨x1, zz1⟩
  have hjz : (j : Int) < (xs.length : Int) := by omega
  have hj0 : (0 : Int) ≤ (j : Int) := by omega
  have hwr : IntKind.i64.wrap (y.n.ins + p) = y.n.ins + p := by rw [IntKind.wrap_i64]; omega
  generalize (firstN (xs.map NV.n) j) = m at hcall
  generalize xs.length = nl at hjz HB HW hcall
  clear h hW0 g0 hgb x0 x1 x2 zz1 hy hq hjl HN
  go_enter Tryz.func61, Tryz.ntmps61
  go_upto_region 1 with fail
  rw [HW.out.1, HW.out.2]
  clear HW
  have hS0 : Below W0.heap.size W0 W0.drew := (Gr.refl W0).drew.below
  refine wp_regionD (S := fun W => Below W0.heap.size W0 W) (D := []) hmx ?_
  refine' wpAnyD_take (i := 0) (oi := { dst := some 7, op := Go.Op.load 25 (Go.Operand.tmp 3), type := 25, pos := "ref.go:22", after := #[], guard := none }) (v := _) rfl (by kernel_rfl) (by kernel_rfl) (by kernel_rfl) (fun _ _ _ h => h) (by kernel_rfl) (Or.inl ⟨by rfl, ?hy1⟩) hS0 ?rest1
  case hy1 => (intro W hSw; have hb := (hSw.block _ (tk_lt HB.out)).trans HB.out; have hc := (tk_store hb).1; have hl := tk_lt hb; go_simp; try (with_reducible rfl))
  try simp only [Act.put, List.setIfInBounds_toArray, List.set_cons_zero, List.set_cons_succ]
  refine' wpAnyD_take (i := 1) (oi := { dst := some 8, op := Go.Op.move (Go.Operand.tmp 1), type := 3, pos := "ref.go:22", after := #[], guard := none }) (v := _) rfl (by kernel_rfl) (by kernel_rfl) (by kernel_rfl) (fun _ _ _ h => h) (by kernel_rfl) (Or.inl ⟨by rfl, ?hy2⟩) hS0 ?rest2
  case hy2 => (intro W hSw; go_simp; try (with_reducible rfl))
  try simp only [Act.put, List.setIfInBounds_toArray, List.set_cons_zero, List.set_cons_succ]
  refine' wpAnyD_take (i := 2) (oi := { dst := some 9, op := Go.Op.fieldAddr 25 (Go.Operand.tmp 3) 1, type := 0, pos := "ref.go:22", after := #[], guard := none }) (v := _) rfl (by kernel_rfl) (by kernel_rfl) (by kernel_rfl) (fun _ _ _ h => h) (by kernel_rfl) (Or.inl ⟨by rfl, ?hy3⟩) hS0 ?rest3
  case hy3 => (intro W hSw; have hb := (hSw.block _ (tk_lt HB.out)).trans HB.out; have hc := (tk_store hb).1; have hl := tk_lt hb; go_simp; try (with_reducible rfl))
  try simp only [Act.put, List.setIfInBounds_toArray, List.set_cons_zero, List.set_cons_succ]
  refine' wpAnyD_take (i := 3) (oi := { dst := some 10, op := Go.Op.load 22 (Go.Operand.tmp 9), type := 22, pos := "ref.go:22", after := #[{ on := 2, ground := Go.Ground.data }], guard := none }) (v := _) rfl (by kernel_rfl) (by kernel_rfl) (by kernel_rfl) (fun _ _ _ h => h) (by kernel_rfl) (Or.inl ⟨by rfl, ?hy4⟩) hS0 ?rest4
  case hy4 => (intro W hSw; have hb := (hSw.block _ (tk_lt HB.out)).trans HB.out; have hc := (tk_store hb).1; have hl := tk_lt hb; go_simp; try (with_reducible rfl))
  try simp only [Act.put, List.setIfInBounds_toArray, List.set_cons_zero, List.set_cons_succ]
  refine' wpAnyD_take (i := 4) (oi := { dst := some 11, op := Go.Op.move (Go.Operand.tmp 1), type := 3, pos := "ref.go:22", after := #[], guard := none }) (v := _) rfl (by kernel_rfl) (by kernel_rfl) (by kernel_rfl) (fun _ _ _ h => h) (by kernel_rfl) (Or.inl ⟨by rfl, ?hy5⟩) hS0 ?rest5
  case hy5 => (intro W hSw; go_simp; try (with_reducible rfl))
  try simp only [Act.put, List.setIfInBounds_toArray, List.set_cons_zero, List.set_cons_succ]
  refine' wpAnyD_take (i := 5) (oi := { dst := some 12, op := Go.Op.indexAddr 22 (Go.Operand.tmp 10) (Go.Operand.tmp 11), type := 0, pos := "ref.go:22", after := #[{ on := 3, ground := Go.Ground.data }, { on := 4, ground := Go.Ground.data }], guard := none }) (v := _) rfl (by kernel_rfl) (by kernel_rfl) (by kernel_rfl) (fun _ _ _ h => h) (by kernel_rfl) (Or.inl ⟨by rfl, ?hy6⟩) hS0 ?rest6
  case hy6 => (intro W hSw; go_simp; try (with_reducible rfl))
  try simp only [Act.put, List.setIfInBounds_toArray, List.set_cons_zero, List.set_cons_succ]
  refine' wpAnyD_take (i := 6) (oi := { dst := some 13, op := Go.Op.fieldAddr 58 (Go.Operand.tmp 12) 1, type := 0, pos := "ref.go:22", after := #[{ on := 5, ground := Go.Ground.data }], guard := none }) (v := _) rfl (by kernel_rfl) (by kernel_rfl) (by kernel_rfl) (fun _ _ _ h => h) (by kernel_rfl) (Or.inl ⟨by rfl, ?hy7⟩) hS0 ?rest7
  case hy7 => (intro W hSw; go_simp; try (with_reducible rfl))
  try simp only [Act.put, List.setIfInBounds_toArray, List.set_cons_zero, List.set_cons_succ]
  refine' wpAnyD_take (i := 7) (oi := { dst := some 14, op := Go.Op.load 3 (Go.Operand.tmp 13), type := 3, pos := "ref.go:22", after := #[{ on := 6, ground := Go.Ground.data }], guard := none }) (v := _) rfl (by kernel_rfl) (by kernel_rfl) (by kernel_rfl) (fun _ _ _ h => h) (by kernel_rfl) (Or.inl ⟨by rfl, ?hy8⟩) hS0 ?rest8
  case hy8 => (intro W hSw; have hc := (hSw.cell (p := ⟨b1, o1 + j * 10 + 1, none⟩) HX.out.2).trans HX.out.1; have hl := Nat.lt_of_lt_of_le HX.out.2 hSw.size; go_simp; try (with_reducible rfl))
  try simp only [Act.put, List.setIfInBounds_toArray, List.set_cons_zero, List.set_cons_succ]
  refine' wpAnyD_take (i := 8) (oi := { dst := some 15, op := Go.Op.move (Go.Operand.tmp 2), type := 3, pos := "ref.go:22", after := #[], guard := none }) (v := _) rfl (by kernel_rfl) (by kernel_rfl) (by kernel_rfl) (fun _ _ _ h => h) (by kernel_rfl) (Or.inl ⟨by rfl, ?hy9⟩) hS0 ?rest9
  case hy9 => (intro W hSw; go_simp; try (with_reducible rfl))
  try simp only [Act.put, List.setIfInBounds_toArray, List.set_cons_zero, List.set_cons_succ]
  refine' wpAnyD_take (i := 9) (oi := { dst := some 16, op := Go.Op.binOp Go.BinOp.add 3 (Go.Operand.tmp 14) (Go.Operand.tmp 15) 3, type := 3, pos := "ref.go:22", after := #[{ on := 7, ground := Go.Ground.data }, { on := 8, ground := Go.Ground.data }], guard := none }) (v := _) rfl (by kernel_rfl) (by kernel_rfl) (by kernel_rfl) (fun _ _ _ h => h) (by kernel_rfl) (Or.inl ⟨by rfl, ?hy10⟩) hS0 ?rest10
  case hy10 => (intro W hSw; go_simp; try (with_reducible rfl))
  try simp only [Act.put, List.setIfInBounds_toArray, List.set_cons_zero, List.set_cons_succ]
  refine wpAnyD_one (i := 10) (o := { dst := some 17, op := Go.Op.call { callee := Go.Callee.value (Go.Operand.func 60), args := #[Go.Operand.tmp 7, Go.Operand.tmp 8, Go.Operand.tmp 16], argTypes := #[25, 3, 3] }, type := 3, pos := "ref.go:22", after := #[{ on := 0, ground := Go.Ground.data }, { on := 1, ground := Go.Ground.data }, { on := 9, ground := Go.Ground.data }], guard := none }) (by kernel_rfl) rfl (fun K hK => ?_)
  go_simp
  refine (hcall _ hS0).mono ?_
  rintro r w7 ⟨rfl, g7⟩
  have G7 := hid g7
  have hS7 : Below W0.heap.size W0 w7 := hS0.trans (g7.below.mono hS0.size)
  clear g7
  go_wp2_with fail
  refine hK.out _ _ (fun hD => hS7) ?_
  clear hK K
  try simp only [Act.put, List.setIfInBounds_toArray, List.set_cons_zero, List.set_cons_succ]
  refine' wpAnyD_take (i := 11) (oi := { dst := some 6, op := Go.Op.assign (Go.Operand.tmp 17), type := 3, pos := "ref.go:22", after := #[{ on := 10, ground := Go.Ground.data }, { on := 10, ground := Go.Ground.chain }, { on := 0, ground := Go.Ground.phase }, { on := 1, ground := Go.Ground.phase }, { on := 2, ground := Go.Ground.phase }, { on := 3, ground := Go.Ground.phase }, { on := 4, ground := Go.Ground.phase }, { on := 5, ground := Go.Ground.phase }, { on := 6, ground := Go.Ground.phase }, { on := 7, ground := Go.Ground.phase }, { on := 8, ground := Go.Ground.phase }, { on := 9, ground := Go.Ground.phase }, { on := 10, ground := Go.Ground.phase }], guard := none }) (v := _) rfl (by kernel_rfl) (by kernel_rfl) (by kernel_rfl) (fun _ _ _ h => h) (by kernel_rfl) (Or.inl ⟨by rfl, ?hy12⟩) hS7 ?rest12
  case hy12 => (intro W hSw; go_simp; try (with_reducible rfl))
  try simp only [Act.put, List.setIfInBounds_toArray, List.set_cons_zero, List.set_cons_succ]
  refine wpAnyD_done (by kernel_rfl) ?_ _
  go_wp2_with fail
  go_ret
  exact ⟨rfl, (G0.out.trans (Gr.refl W0).drew).trans G7.out⟩
/-- A list that a function hands back: its own, or one that came in. -/
def Rs (w0 : Nat) (W : World) (v : Value) (l : List Con) : Prop := Lz EC W.heap.size W v l ∧ (l = [] ∨ ∀ k, v.ownBlock = some k → k < w0 ∨ ∃ cs z, W.heap[k]? = some (.cells cs 72 z))
theorem Rs.kp {w0 : Nat} {S : Nat → Prop} {W W' : World} {v : Value} {l : List Con} (h : Rs w0 W v l) (hk : Kp S W W') (hS : ∀ k, S k → w0 ≤ k ∧ ∀ cs z, W.heap[k]? ≠ some (.cells cs 72 z)) : Rs w0 W' v l := by
  rcases h.2 with rfl | h2
  · obtain ⟨p, c, rfl⟩ := h.1.form
    exact ⟨Or.inr ⟨rfl, p, c, rfl⟩, Or.inl rfl⟩
  have hn : ∀ k, v.ownBlock = some k → ¬ S k := fun k e e2 => by
    obtain ⟨h1, h4⟩ := hS k e2
    rcases h2 k e with h3 | ⟨cs, z, h3⟩
    · omega
    · exact h4 cs z h3
  refine ⟨?_, Or.inr fun k e => ?_⟩
  · rcases h.1 with ⟨h1, h2⟩ | h1
    · exact Or.inl ⟨hk.ls h1 hn, fun k e => Nat.lt_of_lt_of_le (h2 k e) hk.size⟩
    · exact Or.inr h1
  · rcases h2 k e with h3 | ⟨cs, z, h3⟩
    · exact Or.inl h3
    · exact Or.inr ⟨cs, z, (hk.block _ (tk_lt h3) (hn k e)).trans h3⟩
theorem Rs.below {w0 : Nat} {W W' : World} {v : Value} {l : List Con} (h : Rs w0 W v l) (hb : Below W.heap.size W W') : Rs w0 W' v l := h.kp (S := fun _ => False) (Kp.of_below hb) (fun _ h => h.elim)
theorem rs_own {w0 B : Nat} {W : World} {v : Value} {l : List Con} (h : W.ownsRow B 72 5 v l.length (fl EC l)) : Rs w0 W v l := ⟨owns_lz (E := EC) h, Or.inr fun k e => Or.inr (by obtain ⟨c, f, hc⟩ := Lib.ownsRow_kind h k e; exact ⟨c, f, hc⟩)⟩
theorem con1_own (w : World) (c : Con) : ((w.alloc (.cells (ccells c) 72))).ownsRow w.heap.size 72 5 (.slice (some ⟨w.heap.size, 0, none⟩) 1 1) 1 (fl EC [c]) :=
  ⟨by rw [fl_one]; rfl, Or.inr ⟨w.heap.size, 1, ccells c, rfl, Nat.le_refl _, heap_new' _ _, Nat.le_refl _, by unfold maxLen; omega, rfl, by rw [fl_one]; rfl⟩⟩
/-- What the document's conns answers. -/
def Kc (w0 : Nat) (w : World) (l : List Con) (r : Ending) (w' : World) : Prop := ∃ v, r = .returned v ∧ Below w.heap.size w w' ∧ Rs w0 w' v l
theorem acr1 (i : Nat) : acrL 1 i = (List.range i).map fun (k : Nat) => (⟨(k : Int), 0, (0, 0, 0)⟩ : Con) := by
  induction i with
  | zero => rfl
  | succ i ih =>
    rw [acrL, ih, List.range_succ, List.map_append]
    rfl
set_option maxRecDepth 100000 in
set_option maxHeartbeats 8000000 in
theorem kconns_any {y : NV} {a : Int} {w0 : Nat} (w : World) (hR : Lz EC w0 w y.dv y.n.conns) (hw0 : w0 ≤ w.heap.size) (hf : nflaw a y.n = 0) : Calls Tryz.prog 59 #[.agg y.cells] w (Kc w0 w (connsN y.n)) := by
  obtain ⟨g0, hW0⟩ : ∃ b, b = w.heap.size := ⟨_, rfl⟩
  obtain ⟨W0, hW⟩ : ∃ W, W = w.alloc (.cells y.cells 58) := ⟨_, rfl⟩
  have HB : Hid (W0.heap[g0]? = some (.cells y.cells 58 (0, 0)) ∧ Below w.heap.size w W0) := by rw [hW, hW0]; exact ⟨heap_new' _ _, ((Gr.refl w).alloc _).below⟩
  have HW : Hid (w.alloc (.cells #[.int .i64 y.n.kind, .int .i64 y.n.ins, .int .i64 y.n.outs, y.cv, .int .u64 (y.n.via.1 : Nat), .int .u64 (y.n.via.2.1 : Nat), .int .u64 (y.n.via.2.2 : Nat), .int .u64 (y.n.bound : Nat), y.dv, .bool y.n.start] 58) = W0 ∧ w.heap.size = g0) := ⟨hW.symm, hW0.symm⟩
  have hk := nflaw_kind hf
  obtain ⟨⟨p1, p2⟩, _⟩ := nflaw_rest hf
  have HR := hid hR
  have c0 := (tk_store HB.out.1).1
  have l0 := tk_lt HB.out.1
  have HONE : Hid (∀ c : Con, connsN y.n = [c] → Kc w0 w (connsN y.n) (.returned (.slice (some ⟨W0.heap.size, 0, none⟩) 1 1)) (W0.alloc (.cells (ccells c) 72))) := fun c hc => by
    rw [hc]
    exact ⟨_, rfl, HB.out.2.trans (((Gr.refl W0).alloc _).below.mono HB.out.2.size), rs_own (con1_own W0 c)⟩
  clear hR hW hW0 hf
  have hk8 : y.n.kind = 1 ∨ y.n.kind = 2 ∨ y.n.kind = 3 ∨ y.n.kind = 4 ∨ y.n.kind = 5 ∨ y.n.kind = 6 ∨ y.n.kind = 7 ∨ y.n.kind = 8 := by omega
  obtain ⟨⟨kind, ins, outs, code, via, bound, conns, start⟩, cq, cm, cc, dq, dm, dc⟩ := y
  dsimp only at hk8 hk p1 p2 HW HR HONE c0 HB ⊢
  rcases hk8 with rfl | rfl | rfl | rfl | rfl | rfl | rfl | rfl
  · have e1 : connsN ⟨1, ins, outs, code, via, bound, conns, start⟩ = [] := by
      simp [pIn] at p1
      simp [pOut] at p2
      subst p1
      unfold connsN
      simp [acrL]
    rw [e1]
    clear HONE p1 p2 e1
    go_enter Tryz.func59, Tryz.ntmps59
    go_upto_region 1 with fail
    rw [HW.out.1, HW.out.2]
    clear HW
    go_wp2_with fail
    go_ret
    exact ⟨_, rfl, HB.out.2, Lz.nil _ _ _, Or.inl rfl⟩
  · have e1 : connsN ⟨2, ins, outs, code, via, bound, conns, start⟩ = [⟨0, 0, (0, 0, 0)⟩] := by
      simp [pIn] at p1
      simp [pOut] at p2
      subst p1
      subst p2
      rfl
    have FIN := HONE.out _ e1
    rw [e1] at FIN ⊢
    have FIN := hid FIN
    clear HONE p1 p2 e1
    go_enter Tryz.func59, Tryz.ntmps59
    go_upto_region 1 with fail
    rw [HW.out.1, HW.out.2]
    clear HW
    go_wp2_with fail
    go_ret
    exact FIN.out
  · have e1 : connsN ⟨3, ins, outs, code, via, bound, conns, start⟩ = [⟨0, 0, (0, 0, 0)⟩] := by
      simp [pIn] at p1
      simp [pOut] at p2
      subst p1
      subst p2
      rfl
    have FIN := HONE.out _ e1
    rw [e1] at FIN ⊢
    have FIN := hid FIN
    clear HONE p1 p2 e1
    go_enter Tryz.func59, Tryz.ntmps59
    go_upto_region 1 with fail
    rw [HW.out.1, HW.out.2]
    clear HW
    go_wp2_with fail
    go_ret
    exact FIN.out
  · simp [pIn] at p1
    simp [pOut] at p2
    subst p2
    obtain ⟨m, rfl⟩ : ∃ m : Nat, ins = (m : Int) := ⟨ins.toNat, by omega⟩
    have e1 : connsN ⟨4, (m : Int), 1, code, via, bound, conns, start⟩ = (List.range m).map fun (k : Nat) => (⟨(k : Int), 0, (0, 0, 0)⟩ : Con) := by
      rw [← acr1]
      simp [connsN]
    rw [e1]
    have hm4 : m ≤ 4 := by omega
    have HBW := hid HB.out.2.size
    clear HONE e1 p1
    go_enter Tryz.func59, Tryz.ntmps59
    go_upto_region 1 with fail
    rw [HW.out.1, HW.out.2]
    clear HW
    go_wp2_with fail
    go_loopw [3, 4] (fun s3 s4 wr => ∃ (i : Nat) (lv : Value), i ≤ m ∧ s4 = .int .i64 (i : Nat) ∧ lv = s3 ∧ Hid (Below W0.heap.size W0 wr ∧ wr.ownsRow W0.heap.size 72 5 lv i (fl EC ((List.range i).map fun (k : Nat) => (⟨(k : Int), 0, (0, 0, 0)⟩ : Con))))) (fun _ s4 _ => m - (RowKit.intOf s4).toNat)
    case atStart => exact ⟨0, _, Nat.zero_le _, rfl, rfl, Below.refl _ _, World.ownsRow_nil _ _ _ _⟩
    case round =>
      obtain ⟨i, lv, hi, rfl, rfl, HI⟩ := hrel
      have c1 := (tk_store ((HI.out.1.block _ (tk_lt HB.out.1)).trans HB.out.1)).1
      have l1 := Nat.lt_of_lt_of_le (tk_lt HB.out.1) HI.out.1.size
      by_cases hlt : i < m
      · have hltz : (i : Int) < (m : Int) := by omega
        have HSZ := hid HI.out.1.size
        go_wp2_with (at_builtin; refine wpApp1 EC Tryz.underlying56 infoC rfl (by decide) rfl _ _ rfl W0.heap.size _ i _ rfl HI.out.2 ⟨(i : Int), 0, (0, 0, 0)⟩ rfl (by omega) (by unfold maxLen; omega) HSZ.out _ rfl _ ?_; intro g9 c9 w9 r1 r2 r3)
        have FIN : Hid (Below W0.heap.size W0 w9 ∧ w9.ownsRow W0.heap.size 72 5 (.slice (some ⟨g9, 0, none⟩) (i + 1) c9) (i + 1) (fl EC ((List.range (i + 1)).map fun (k : Nat) => (⟨(k : Int), 0, (0, 0, 0)⟩ : Con)))) := by
          have k2 := Kp.grownBy (S := fun j => lv.ownBlock = some j) r2 (fun _ h => h)
          refine ⟨HI.out.1.trans (k2.below HI.out.1.size (fun j e => (owns_rd HI.out.2 j e).1)), ?_⟩
          rw [List.range_succ, List.map_append, fl_append]
          exact owns_re r1 rfl (by rw [List.map_singleton, fl_one])
        clear r1 r2 r3 c1 l1
        go_roundw
        case rel => exact ⟨i + 1, _, by omega, by go_num, rfl, FIN.out⟩
        case measure => simp [RowKit.intOf]; omega
      · have hltz : ¬ (i : Int) < (m : Int) := by omega
        obtain rfl : i = m := by omega
        go_wp2_with fail
        go_ret
        exact ⟨_, rfl, HB.out.2.trans (HI.out.1.mono HB.out.2.size), rs_own (owns_re HI.out.2 (by simp) rfl)⟩
  · have e1 : connsN ⟨5, ins, outs, code, via, bound, conns, start⟩ = [⟨0, 0, via⟩] := by
      simp [connsN]
    have FIN := HONE.out _ e1
    rw [e1] at FIN ⊢
    have FIN := hid FIN
    clear HONE p1 p2 e1
    go_enter Tryz.func59, Tryz.ntmps59
    go_upto_region 1 with fail
    rw [HW.out.1, HW.out.2]
    clear HW
    go_wp2_with fail
    go_ret
    exact FIN.out
  · have e1 : connsN ⟨6, ins, outs, code, via, bound, conns, start⟩ = [⟨0, 0, (0, 0, 0)⟩] := by
      simp [pIn] at p1
      simp [pOut] at p2
      subst p1
      subst p2
      rfl
    have FIN := HONE.out _ e1
    rw [e1] at FIN ⊢
    have FIN := hid FIN
    clear HONE p1 p2 e1
    go_enter Tryz.func59, Tryz.ntmps59
    go_upto_region 1 with fail
    rw [HW.out.1, HW.out.2]
    clear HW
    go_wp2_with fail
    go_ret
    exact FIN.out
  · have e1 : connsN ⟨7, ins, outs, code, via, bound, conns, start⟩ = [] := by
      simp [pIn] at p1
      simp [pOut] at p2
      subst p2
      subst p1
      unfold connsN
      simp [acrL, rowL]
    rw [e1]
    clear HONE p1 p2 e1
    go_enter Tryz.func59, Tryz.ntmps59
    go_upto_region 1 with fail
    rw [HW.out.1, HW.out.2]
    clear HW
    go_wp2_with fail
    go_ret
    exact ⟨_, rfl, HB.out.2, Lz.nil _ _ _, Or.inl rfl⟩
  · have e1 : connsN ⟨8, ins, outs, code, via, bound, conns, start⟩ = conns := by simp [connsN]
    rw [e1]
    clear HONE p1 p2 e1
    go_enter Tryz.func59, Tryz.ntmps59
    go_upto_region 1 with fail
    rw [HW.out.1, HW.out.2]
    clear HW
    go_wp2_with fail
    go_ret
    refine ⟨_, rfl, HB.out.2, ((HR.out.up hw0).below HB.out.2).up HB.out.2.size, ?_⟩
    rcases HR.out with ⟨_, h2⟩ | ⟨h2, _⟩
    · exact Or.inr fun k e => Or.inl (h2 k e)
    · exact Or.inl h2
end Go.Proofs.YtpgodnaebkmhhaaGreat.Df
