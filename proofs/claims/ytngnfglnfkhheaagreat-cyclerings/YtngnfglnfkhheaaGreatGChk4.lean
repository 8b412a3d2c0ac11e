import Derived.Test.YtngnfglnfkhheaaGreatGChk3
import Derived.BigQuiet
namespace Go.Proofs.YtngnfglnfkhheaaGreat.Df
open Go.RowKit Go.Sort
attribute [local go_sem ↓] Go.wp_at_zero Go.wp_at_succ

/-- The nodes of a graph that is read, as the document's functions find them: their number, their ports. -/
structure Nr (w : World) (nv : Value) (xs : List NV) : Prop where
  nodes : Lz EV w.heap.size w nv xs
  nl : xs.length ≤ 24
  pok : Pok (xs.map NV.n)
theorem Nr.below {w w' : World} {nv : Value} {xs : List NV} (h : Nr w nv xs) (hb : Below w.heap.size w w') : Nr w' nv xs := ⟨(h.nodes.below hb).up hb.size, h.nl, h.pok⟩
theorem fn_pos {ns : List Nod} {i : Nat} {n : Nod} (hi : ns[i]? = some n) (hp : Pok ns) : (firstN ns i : Int) + n.ins + n.outs = (firstN ns (i + 1) : Nat) := by
  have := hp n (List.mem_of_getElem? hi)
  rw [firstN_succ hi]
  push_cast
  omega
set_option maxHeartbeats 4000000 in
theorem rfirst_any {nv ev : Value} {a : Int} {xs : List NV} (j : Nat) (hj : j ≤ xs.length) (w : World) (h : Nr w nv xs) : Calls Tryz.prog 63 #[.agg (gvc a nv ev), .int .i64 (j : Nat)] w fun r w' => r = .returned (.int .i64 (firstN (xs.map NV.n) j : Nat)) ∧ Gr w w' := by
  have g0 := (Gr.refl w).alloc (.cells (gvc a nv ev) 25)
  have HB := hid (heap_new' w (.cells (gvc a nv ev) 25))
  have HN := hid (h.below g0.below)
  obtain ⟨W0, hW0⟩ : ∃ W, W = w.alloc (.cells (gvc a nv ev) 25) := ⟨_, rfl⟩
  have HW : Hid (w.alloc (.cells #[.int .i64 a, nv, ev] 25) = W0) := hW0.symm
  rw [← hW0] at g0 HB HN
  have G0 := hid g0
  obtain ⟨qn, cn, rfl⟩ := h.nodes.form
  have hnl := h.nl
  have HP := hid h.pok
  obtain ⟨ns, hns⟩ : ∃ ns, ns = xs.map NV.n := ⟨_, rfl⟩
  rw [← hns] at HP ⊢
  have HNS := hid hns
  generalize hxl : xs.length = nl at *
  have HXL := hid hxl
  clear h hW0 g0 hns hxl
  have c0 := (tk_store HB.out).1
  have l0 := tk_lt HB.out
  go_enter Tryz.func63, Tryz.ntmps63
  go_upto_region 1 with fail
  rw [HW.out]
  clear HW
  go_wp2_with fail
  clear c0 l0
  go_loopw [5, 6] (fun sn si wr => ∃ i : Nat, i ≤ j ∧ si = .int .i64 (i : Nat) ∧ sn = .int .i64 (firstN ns i : Nat) ∧ Hid (Gr W0 wr)) (fun _ si _ => j - (RowKit.intOf si).toNat)
  case atStart => exact ⟨0, Nat.zero_le _, rfl, rfl, Gr.refl _⟩
  case round =>
    obtain ⟨i, hi, rfl, rfl, HI⟩ := hrel
    have hb0 := (HI.out.below.block _ (tk_lt HB.out)).trans HB.out
    have c1 := (tk_store hb0).1
    have l1 := tk_lt hb0
    clear hb0
    by_cases hlt : i < j
    · have hltz : (i : Int) < (j : Int) := by omega
      have hi0 : (0 : Int) ≤ (i : Int) := by omega
      have hil : (i : Int) < (nl : Int) := by omega
      obtain ⟨y, hy⟩ : ∃ y, xs[i]? = some y := ⟨xs[i]'(by have := HXL.out; omega), by simp⟩
      have HYN : Hid (ns[i]? = some y.n) := by show _ = _; rw [HNS.out]; simp [hy]
      obtain ⟨b1, o1, q1, ev1, zz1, x0, x1, x2, -⟩ := ls_atV ((HN.out.nodes.below HI.out.below).ls hy) hy
      simp only [Value.slice.injEq] at ev1
      obtain ⟨rfl, -, rfl⟩ := ev1
      have HFS := hid (fn_pos HYN.out HP.out)
      have hf1 := firstN_le HP.out i
      have hq := HP.out y.n (List.mem_of_getElem? HYN.out)
      obtain ⟨m, hm⟩ : ∃ m, m = firstN ns i := ⟨_, rfl⟩
      rw [← hm] at HFS hf1 ⊢
      have hm9 : (m : Int) ≤ 192 := by omega
      have q1 : 0 ≤ y.n.ins := hq.1
      have q2 : y.n.ins ≤ 4 := hq.2.1
      have q3 : 0 ≤ y.n.outs := hq.2.2.1
      have q4 : y.n.outs ≤ 4 := hq.2.2.2
      clear hy hm hq hf1
      go_upto_region 5 with fail
      go_quiet (fail)
      have G1 := hid (HI.out.drewN nq)
      clear x0 x1 x2 zz1 c1 l1
      go_wp2_with fail
      go_roundw
      case rel => exact ⟨i + 1, by omega, by go_num, by rw [← HFS.out], G1.out⟩
      case measure => simp [RowKit.intOf]; omega
    · have hltz : ¬ (i : Int) < (j : Int) := by omega
      obtain rfl : i = j := by omega
      go_wp2_with fail
      go_ret
      exact ⟨rfl, G0.out.trans HI.out⟩
set_option maxHeartbeats 4000000 in
theorem rplaces_any {nv ev : Value} {a : Int} {xs : List NV} (w : World) (h : Nr w nv xs) : Calls Tryz.prog 12 #[.agg (gvc a nv ev)] w fun r w' => r = .returned (.int .i64 (firstN (xs.map NV.n) xs.length : Nat)) ∧ Gr w w' := by
  have g0 := (Gr.refl w).alloc (.cells (gvc a nv ev) 25)
  have HB := hid (heap_new' w (.cells (gvc a nv ev) 25))
  have HN := hid (h.below g0.below)
  obtain ⟨W0, hW0⟩ : ∃ W, W = w.alloc (.cells (gvc a nv ev) 25) := ⟨_, rfl⟩
  have HW : Hid (w.alloc (.cells #[.int .i64 a, nv, ev] 25) = W0) := hW0.symm
  rw [← hW0] at g0 HB HN
  have G0 := hid g0
  obtain ⟨qn, cn, rfl⟩ := h.nodes.form
  have hnl := h.nl
  have HP := hid h.pok
  obtain ⟨ns, hns⟩ : ∃ ns, ns = xs.map NV.n := ⟨_, rfl⟩
  rw [← hns] at HP ⊢
  have HNS := hid hns
  generalize hxl : xs.length = nl at *
  have HXL := hid hxl
  clear h hW0 g0 hns hxl
  have c0 := (tk_store HB.out).1
  have l0 := tk_lt HB.out
  go_enter Tryz.func12, Tryz.ntmps12
  go_upto_region 1 with fail
  rw [HW.out]
  clear HW
  go_wp2_with fail
  clear c0 l0
  go_loopw [3, 4] (fun sn si wr => ∃ i : Nat, i ≤ nl ∧ si = .int .i64 (i : Nat) ∧ sn = .int .i64 (firstN ns i : Nat) ∧ Hid (Gr W0 wr)) (fun _ si _ => nl - (RowKit.intOf si).toNat)
  case atStart => exact ⟨0, Nat.zero_le _, rfl, rfl, Gr.refl _⟩
  case round =>
    obtain ⟨i, hi, rfl, rfl, HI⟩ := hrel
    have hb0 := (HI.out.below.block _ (tk_lt HB.out)).trans HB.out
    have c1 := (tk_store hb0).1
    have l1 := tk_lt hb0
    clear hb0
    by_cases hlt : i < nl
    · have hltz : (i : Int) < (nl : Int) := by omega
      have hi0 : (0 : Int) ≤ (i : Int) := by omega
      have hil : (i : Int) < (nl : Int) := by omega
      obtain ⟨y, hy⟩ : ∃ y, xs[i]? = some y := ⟨xs[i]'(by have := HXL.out; omega), by simp⟩
      have HYN : Hid (ns[i]? = some y.n) := by show _ = _; rw [HNS.out]; simp [hy]
      obtain ⟨b1, o1, q1, ev1, zz1, x0, x1, x2, -⟩ := ls_atV ((HN.out.nodes.below HI.out.below).ls hy) hy
      simp only [Value.slice.injEq] at ev1
      obtain ⟨rfl, -, rfl⟩ := ev1
      have HFS := hid (fn_pos HYN.out HP.out)
      have hf1 := firstN_le HP.out i
      have hq := HP.out y.n (List.mem_of_getElem? HYN.out)
      obtain ⟨m, hm⟩ : ∃ m, m = firstN ns i := ⟨_, rfl⟩
      rw [← hm] at HFS hf1 ⊢
      have hm9 : (m : Int) ≤ 192 := by omega
      have q1 : 0 ≤ y.n.ins := hq.1
      have q2 : y.n.ins ≤ 4 := hq.2.1
      have q3 : 0 ≤ y.n.outs := hq.2.2.1
      have q4 : y.n.outs ≤ 4 := hq.2.2.2
      clear hy hm hq hf1
      go_upto_region 5 with fail
      go_quiet (fail)
      have G1 := hid (HI.out.drewN nq)
      clear x0 x1 x2 zz1 c1 l1
      go_wp2_with fail
      go_roundw
      case rel => exact ⟨i + 1, by omega, by go_num, by rw [← HFS.out], G1.out⟩
      case measure => simp [RowKit.intOf]; omega
    · have hltz : ¬ (i : Int) < (nl : Int) := by omega
      obtain rfl : i = nl := by omega
      go_wp2_with fail
      go_ret
      exact ⟨rfl, G0.out.trans HI.out⟩
end Go.Proofs.YtngnfglnfkhheaaGreat.Df
