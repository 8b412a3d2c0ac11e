import Derived.Test.YtdnnfgabdkkdjaaGreatGNum
import Derived.Test.YtdnnfgabdkkdjaaGreatLHold
import Derived.BigQuiet
namespace Go.Proofs.YtdnnfgabdkkdjaaGreat.Df
open Go.RowKit Go.Sort
attribute [local go_sem ↓] Go.wp_at_zero Go.wp_at_succ
theorem ls_atI {w : World} {v : Value} {ts : List Int} (h : Ls EI w v ts) {j : Nat} {x : Int} (hj : ts[j]? = some x) :
    ∃ b off c, v = .slice (some ⟨b, off, none⟩) ts.length c ∧ b < w.heap.size ∧ w.cell? ⟨b, off + j, none⟩ = some (.int .i64 x) := by
 obtain ⟨b, off, c, hv, hb, hc⟩ := h.get hj
 refine ⟨b, off, c, hv, hb, ?_⟩
 have := hc 0 _ (by decide) rfl
 simpa [EI] using this
theorem ls_atS {w : World} {v : Value} {ts : List SV} (h : Ls ES w v ts) {j : Nat} {s : SV} (hj : ts[j]? = some s) :
    ∃ b off c, v = .slice (some ⟨b, off, none⟩) ts.length c ∧ b < w.heap.size ∧ w.cell? ⟨b, off + j * 4, none⟩ = some (.int .i64 s.nd) ∧ w.cell? ⟨b, off + j * 4 + 1, none⟩ = some (.int .i64 s.pt) ∧ w.cell? ⟨b, off + j * 4 + 2, none⟩ = some (.bool s.inn) ∧ w.cell? ⟨b, off + j * 4 + 3, none⟩ = some s.ev := by
 obtain ⟨b, off, c, hv, hb, hc⟩ := h.get hj
 exact ⟨b, off, c, hv, hb, hc 0 _ (by decide) rfl, hc 1 _ (by decide) rfl, hc 2 _ (by decide) rfl, hc 3 _ (by decide) rfl⟩
structure Gb (w : World) (gb : Nat) (a : Int) (nv ev fv pv : Value) (xs : List NV) : Prop where
 blk : w.heap[gb]? = some (.cells (gcells a nv ev fv pv) 110 (0, 0))
 nodes : Lz EV w.heap.size w nv xs
 fr : Ls EI w fv (firsts (xs.map NV.n) xs.length)
 nl : xs.length ≤ 24
 pok : Pok (xs.map NV.n)
theorem nd_get {xs : List NV} {j : Nat} {n : Nod} (h : (xs.map NV.n)[j]? = some n) : ∃ y, xs[j]? = some y ∧ y.n = n := by
 simpa using h
set_option maxHeartbeats 2000000 in
theorem in_any {gb : Nat} {a : Int} {nv ev fv pv : Value} {xs : List NV} (i p : Int) (w : World) (h : Gb w gb a nv ev fv pv xs) : Calls Tryz.prog 84 #[.pointer (some ⟨gb, 0, none⟩), .int .i64 i, .int .i64 p] w fun r w' => r = .returned (.int .i64 (inN (xs.map NV.n) i p)) ∧ w' = w := by
 have hc := hasin_any i p w h.nodes
 rw [hasI_map] at hc
 have cg := (tk_store h.blk).1
 have lg := tk_lt h.blk
 obtain ⟨qn, cn, rfl⟩ := h.nodes.form
 cases e : hasIN (xs.map NV.n) i p with
 | false =>
  generalize xs.length = nlen at hc cg
  have HR : Hid (inN (xs.map NV.n) i p = -1) := by show _ = _; unfold inN; rw [if_neg (by rw [e]; decide)]
  rw [e] at hc
  clear e h
  go_enter Tryz.func84, Tryz.ntmps84
  go_wp2_with fail
  refine hc.mono ?_
  rintro r w1 ⟨rfl, rfl⟩
  go_wp2_with fail
  go_ret
  exact ⟨by rw [HR.out]; rfl, rfl⟩
 | true =>
  obtain ⟨n, hn, hi0, hil, hp0, hpn⟩ := has_in e
  obtain ⟨j, rfl⟩ : ∃ j : Nat, i = (j : Int) := ⟨i.toNat, by omega⟩
  simp only [Int.toNat_natCast] at hn hil
  have HR : Hid (inN (xs.map NV.n) (j : Int) p = firstN (xs.map NV.n) j + p) := by show _ = _; unfold inN; rw [if_pos e, Int.toNat_natCast]
  rw [e] at hc
  have hjl : j < xs.length := by simpa using hil
  obtain ⟨b1, o1, c1, hv1, hb1, x1⟩ := ls_atI h.fr (firsts_get (xs.map NV.n) hjl)
  rw [firsts_length] at hv1
  have hf := firstN_le h.pok j
  have hq := h.pok n (List.mem_of_getElem? hn)
  have hnl := h.nl
  subst hv1
  obtain ⟨m, hm⟩ : ∃ m, m = firstN (xs.map NV.n) j := ⟨_, rfl⟩
  rw [← hm] at HR x1 hf
  generalize xs.length = ml at hc cg hjl hnl
  have hjz : (j : Int) < (ml : Int) := by omega
  have hm9 : m ≤ 192 := by omega
  have hp4 : p < 4 := by omega
  clear e h hn hil hpn hm hf hq
  go_enter Tryz.func84, Tryz.ntmps84
  go_wp2_with fail
  refine hc.mono ?_
  rintro r w1 ⟨rfl, rfl⟩
  go_wp2_with fail
  go_ret
  exact ⟨by rw [HR.out]; rfl, rfl⟩
set_option maxHeartbeats 2000000 in
theorem out_any {gb : Nat} {a : Int} {nv ev fv pv : Value} {xs : List NV} (i p : Int) (w : World) (h : Gb w gb a nv ev fv pv xs) : Calls Tryz.prog 83 #[.pointer (some ⟨gb, 0, none⟩), .int .i64 i, .int .i64 p] w fun r w' => r = .returned (.int .i64 (outN (xs.map NV.n) i p)) ∧ Gr w w' := by
 have hc := hasout_any i p w h.nodes
 rw [hasO_map] at hc
 have cg := (tk_store h.blk).1
 have lg := tk_lt h.blk
 obtain ⟨qn, cn, rfl⟩ := h.nodes.form
 cases e : hasON (xs.map NV.n) i p with
 | false =>
  generalize xs.length = nlen at hc cg
  have HR : Hid (outN (xs.map NV.n) i p = -1) := by show _ = _; unfold outN; rw [if_neg (by rw [e]; decide)]
  rw [e] at hc
  clear e h
  go_enter Tryz.func83, Tryz.ntmps83
  go_wp2_with fail
  refine hc.mono ?_
  rintro r w1 ⟨rfl, rfl⟩
  go_wp2_with fail
  go_ret
  exact ⟨by rw [HR.out]; rfl, Gr.refl _⟩
 | true =>
  obtain ⟨n, hn, hi0, hil, hp0, hpn⟩ := has_out e
  obtain ⟨j, rfl⟩ : ∃ j : Nat, i = (j : Int) := ⟨i.toNat, by omega⟩
  simp only [Int.toNat_natCast] at hn hil
  obtain ⟨y, hy, hyn⟩ := nd_get hn
  subst hyn
  have HR : Hid (outN (xs.map NV.n) (j : Int) p = firstN (xs.map NV.n) j + y.n.ins + p) := by show _ = _; unfold outN; rw [if_pos e, Int.toNat_natCast, hn]
  rw [e] at hc
  have hjl : j < xs.length := by simpa using hil
  obtain ⟨b1, o1, c1, hv1, hb1, x1⟩ := ls_atI h.fr (firsts_get (xs.map NV.n) hjl)
  obtain ⟨b2, o2, c2, ev2, hb2, z0, z1, -⟩ := ls_atV (h.nodes.ls hy) hy
  rw [firsts_length] at hv1
  have hf := firstN_le h.pok j
  have hq := h.pok y.n (List.mem_of_getElem? hn)
  have hnl := h.nl
  subst hv1
  simp only [Value.slice.injEq] at ev2
  obtain ⟨rfl, -, rfl⟩ := ev2
  obtain ⟨m, hm⟩ : ∃ m, m = firstN (xs.map NV.n) j := ⟨_, rfl⟩
  rw [← hm] at HR x1 hf
  generalize xs.length = ml at hc cg hjl hnl
  have hjz : (j : Int) < (ml : Int) := by omega
  have hm9 : m ≤ 192 := by omega
  have hp4 : p < 4 := by omega
  have hq1 : 0 ≤ y.n.ins := hq.1
  have hq2 : y.n.ins ≤ 4 := hq.2.1
  clear e h hn hil hpn hm hf hq hy
  go_enter Tryz.func83, Tryz.ntmps83
  go_wp2_with fail
  refine hc.mono ?_
  rintro r w1 ⟨rfl, rfl⟩
  go_upto_region 5 with fail
  go_quiet (fail)
  go_wp2_with fail
  go_ret
  exact ⟨by rw [HR.out]; rfl, (Gr.refl _).drewN _⟩
end Go.Proofs.YtdnnfgabdkkdjaaGreat.Df
