import Derived.Test.YtifjjnnpoleinaaGNew
namespace Go.Proofs.Ytifjjnnpoleinaa.Df
open Go.RowKit Go.Sort
attribute [local go_sem ↓] Go.wp_at_zero Go.wp_at_succ

theorem Gp.gb {B gb : Nat} {w : World} {g : Gph} {nv ev fv pv : Value} {ys : List NV} {ss : List SV} (h : Gp B w gb g nv ev fv pv ys ss) : Gb w gb g.arity nv ev fv pv ys := by
  have hl : ys.length = g.nodes.length := by rw [← h.nds, List.length_map]
  refine ⟨h.rows.blk, owns_lz (E := EV) h.raw.nodes, ?_, by rw [hl]; exact h.ok.nl, by rw [h.nds]; exact h.ok.pok⟩
  rw [h.nds, hl]
  exact owns_ls (E := EI) h.rows.fr
theorem gin_any {B gb : Nat} {g : Gph} (i p : Int) (w : World) (h : Gm B w gb g) : Calls Try.prog 12 #[.pointer (some ⟨gb, 0, none⟩), .int .i64 i, .int .i64 p] w fun r w' => r = .returned (.int .i64 (inN g.nodes i p)) ∧ w' = w := by
  obtain ⟨nv, ev, fv, pv, ys, ss, h⟩ := h
  have := in_any i p w h.gb
  rw [h.nds] at this
  exact this
theorem gout_any {B gb : Nat} {g : Gph} (i p : Int) (w : World) (h : Gm B w gb g) : Calls Try.prog 39 #[.pointer (some ⟨gb, 0, none⟩), .int .i64 i, .int .i64 p] w fun r w' => r = .returned (.int .i64 (outN g.nodes i p)) ∧ Gr w w' := by
  obtain ⟨nv, ev, fv, pv, ys, ss, h⟩ := h
  have := out_any i p w h.gb
  rw [h.nds] at this
  exact this
/-- How many places there are. -/
def plN (ns : List Nod) : Nat := (spotsU ns ns.length).length
theorem gplaces_any {B gb : Nat} {g : Gph} (w : World) (h : Gm B w gb g) : Calls Try.prog 11 #[.pointer (some ⟨gb, 0, none⟩)] w fun r w' => r = .returned (.int .i64 (plN g.nodes : Nat)) ∧ w' = w := by
  obtain ⟨nv, ev, fv, pv, ys, ss, h⟩ := h
  have HL : Hid (ss.length = plN g.nodes) := h.rows.len
  have cg := (tk_store h.rows.blk).1
  have lg := tk_lt h.rows.blk
  obtain ⟨p, n, c, rfl⟩ := owns_form h.rows.sp
  have HN := hid (owns_caps h.rows.sp _ _ _ rfl).1
  clear h
  go_enter Try.func11, Try.ntmps11
  go_wp2_with fail
  go_ret
  exact ⟨by rw [← HL.out, ← HN.out]; rfl, rfl⟩
set_option maxHeartbeats 1000000 in
/-- A copy of the graph as it was given. -/
theorem graw_any {B gb : Nat} {g : Gph} (w : World) (h : Gm B w gb g) : Calls Try.prog 26 #[.pointer (some ⟨gb, 0, none⟩)] w fun r w' => ∃ nv ev ys, Hid (r = .returned (.agg (gvc g.arity nv ev)) ∧ Below w.heap.size w w' ∧ ys.map NV.n = g.nodes ∧ Cg w.heap.size w' nv ev ys g.edges) := by
  obtain ⟨nv, ev, fv, pv, ys, ss, h⟩ := h
  have hyl : ys.length = g.nodes.length := by rw [← h.nds, List.length_map]
  have hnl := h.ok.nl
  have hel := h.ok.el
  have hli : ∀ y ∈ ys, y.n.code.length ≤ 16 ∧ y.n.conns.length ≤ 16 := fun y hy => h.ok.lists y.n (by rw [← h.nds]; exact List.mem_map_of_mem hy)
  have HNDS := hid h.nds
  obtain ⟨W0, hW0⟩ : ∃ W, W = w.alloc (.cells (gvc 0 (.slice none 0 0) (.slice none 0 0)) 25) := ⟨_, rfl⟩
  have b0 : Below w.heap.size w W0 := by rw [hW0]; exact ((Gr.refl w).alloc _).below
  have N0 : Hid (W0.heap[w.heap.size]? = some (.cells (gvc 0 (.slice none 0 0) (.slice none 0 0)) 25 (0, 0)) ∧ Below w.heap.size w W0) := by rw [hW0]; exact ⟨heap_new' _ _, ((Gr.refl w).alloc _).below⟩
  have HW : Hid (w.alloc (.cells #[.int .i64 0, .slice none 0 0, .slice none 0 0] 25) = W0) := hW0.symm
  have h0 := h.below b0
  have hgr : GR W0.heap.size W0 nv ev ys g.edges := h0.raw.gr ⟨by omega, by omega⟩ (fun y hy => by have := hli y hy; omega)
  have hcop := copied_any (a := g.arity) W0 hgr ⟨by omega, by omega, fun y hy => by have := hli y hy; omega⟩
  have cg := (tk_store h0.rows.blk).1
  have lg := tk_lt h0.rows.blk
  have HG : Hid (nv = nv) := rfl
  obtain ⟨p1, n1, c1, rfl⟩ := owns_form h.raw.nodes
  obtain ⟨p2, n2, c2, rfl⟩ := owns_form h.raw.edges
  clear h h0 hgr b0 hW0 hli hyl hnl hel HG
  go_enter Try.func26, Try.ntmps26
  go_upto_region 1 with fail
  rw [HW.out]
  clear HW
  go_wp2_with fail
  refine hcop.mono ?_
  rintro r w2 ⟨nv', ev', zs, rfl, b2, hys, hcg⟩
  have HC : Hid (Below W0.heap.size W0 w2 ∧ zs.map NV.n = g.nodes ∧ Cg W0.heap.size w2 nv' ev' zs g.edges) := ⟨b2, hys.trans HNDS.out, hcg⟩
  obtain ⟨q1, m1, k1, hq1⟩ := owns_form hcg.nodes
  obtain ⟨q2, m2, k2, hq2⟩ := owns_form hcg.edges
  subst hq1
  subst hq2
  have hn2 := (b2.block _ (tk_lt N0.out.1)).trans N0.out.1
  have c2 := (tk_store hn2).1
  have f2 := (tk_store hn2).2
  have l2 := tk_lt hn2
  have HN2 := hid hn2
  clear b2 hys hcg hn2 hcop cg lg
  go_wp2_with fail
  obtain ⟨wf, hwf⟩ : ∃ wf, wf = ((w2.setCell ⟨w.heap.size, 0, none⟩ (.int .i64 g.arity)).setCell ⟨w.heap.size, 1, none⟩ (.slice q1 m1 k1)).setCell ⟨w.heap.size, 2, none⟩ (.slice q2 m2 k2) := ⟨_, rfl⟩
  rw [← hwf]
  obtain ⟨hbf, hkf⟩ : wf.heap[w.heap.size]? = some (.cells #[.int .i64 g.arity, .slice q1 m1 k1, .slice q2 m2 k2] 25 (0, 0)) ∧ Kp (fun k => k = w.heap.size) w2 wf := by
    rw [hwf]
    exact fill3 HN2.out _ _ _
  clear hwf c2 f2 l2
  obtain ⟨qf, -⟩ := tk_store hbf
  have hlf := tk_lt hbf
  refine bodyPost_ret (v := .agg #[.int .i64 g.arity, .slice q1 m1 k1, .slice q2 m2 k2]) (by simp [results, Try.results26, go_sem, qf]) rfl ?_
  have hlo := tk_lt N0.out.1
  have hbw := N0.out.2.trans (HC.out.1.mono N0.out.2.size)
  exact ⟨_, _, zs, rfl, hbw.trans (hkf.below hbw.size (fun k e => by omega)), HC.out.2.1, (HC.out.2.2.kp hkf (fun k h1 h2 e => by omega)).base N0.out.2.size⟩
/-- From each in-port to each out-port. -/
def rowL (i p : Nat) : List Con := (List.range p).map fun (o : Nat) => ⟨(i : Int), (o : Int), (0, 0, 0)⟩
def acrL (o : Nat) : Nat → List Con
  | 0 => []
  | i + 1 => acrL o i ++ rowL i o
theorem rowL_succ (i p : Nat) : rowL i (p + 1) = rowL i p ++ [⟨(i : Int), (p : Int), (0, 0, 0)⟩] := by simp [rowL, List.range_succ]
theorem acrL_length (o i : Nat) : (acrL o i).length = i * o := by
  induction i with
  | zero => simp [acrL]
  | succ i ih => rw [acrL, List.length_append, ih, Nat.succ_mul]; simp [rowL]
set_option maxHeartbeats 2000000 in
theorem across_any (k : Int) (ci co : Nat) (cq : Option Addr) (cm cc : Nat) (via : Pth) (bd : Nat) (dq : Option Addr) (dm dc : Nat) (st : Bool) (hi : ci ≤ 4) (ho : co ≤ 4) (w : World) : Calls Try.prog 50 #[.agg (ncells k (ci : Int) (co : Int) (.slice cq cm cc) via bd (.slice dq dm dc) st)] w (Cp EC 97 w (acrL co ci)) := by
  have B0 := hid ((Gr.refl w).alloc (.cells (ncells k (ci : Int) (co : Int) (.slice cq cm cc) via bd (.slice dq dm dc) st) 68)).below
  have N0 := hid (heap_new' w (.cells (ncells k (ci : Int) (co : Int) (.slice cq cm cc) via bd (.slice dq dm dc) st) 68))
  obtain ⟨W0, hW0⟩ : ∃ W, W = w.alloc (.cells (ncells k (ci : Int) (co : Int) (.slice cq cm cc) via bd (.slice dq dm dc) st) 68) := ⟨_, rfl⟩
  have HW : Hid (w.alloc (.cells #[.int .i64 k, .int .i64 (ci : Int), .int .i64 (co : Int), .slice cq cm cc, .int .u64 (via.1 : Nat), .int .u64 (via.2.1 : Nat), .int .u64 (via.2.2 : Nat), .int .u64 (bd : Nat), .slice dq dm dc, .bool st] 68) = W0) := hW0.symm
  rw [← hW0] at B0 N0
  have c0 := (tk_store N0.out).1
  have l0 := tk_lt N0.out
  clear hW0
  go_enter Try.func50, Try.ntmps50
  go_upto_region 1 with fail
  rw [HW.out]
  clear HW
  go_wp2_with fail
  clear c0 l0
  go_loopw [8, 3] (fun s8 s3 wr => ∃ (i : Nat), i ≤ ci ∧ s8 = .int .i64 (i : Nat) ∧ Hid (Below W0.heap.size W0 wr ∧ wr.ownsRow W0.heap.size 97 5 s3 (acrL co i).length (fl EC (acrL co i)))) (fun s8 _ _ => ci - (RowKit.intOf s8).toNat)
  case atStart => exact ⟨0, Nat.zero_le _, rfl, Below.refl _ _, World.ownsRow_nil _ _ _ _⟩
  case round =>
    obtain ⟨i, hil, rfl, HI⟩ := hrel
    rename_i s8 s3
    obtain ⟨q3, m3, k3, hs3⟩ := owns_form HI.out.2
    subst hs3
    by_cases hlt : i < ci
    · have hltz : (i : Int) < (ci : Int) := by omega
      have hn := (HI.out.1.block _ (tk_lt N0.out)).trans N0.out
      have c1 := (tk_store hn).1
      have l1 := tk_lt hn
      clear hn
      go_upto_region 6 with fail
      clear c1 l1
      go_loopw [13, 3] (fun s13 s3 wr => ∃ (p : Nat), p ≤ co ∧ s13 = .int .i64 (p : Nat) ∧ Hid (Below W0.heap.size W0 wr ∧ wr.ownsRow W0.heap.size 97 5 s3 (acrL co i ++ rowL i p).length (fl EC (acrL co i ++ rowL i p)))) (fun s13 _ _ => co - (RowKit.intOf s13).toNat)
      case atStart => exact ⟨0, Nat.zero_le _, rfl, HI.out.1, owns_re HI.out.2 (by simp [rowL]) (by simp [rowL])⟩
      case round =>
        clear HI
        obtain ⟨p, hpl, rfl, HI⟩ := hrel
        rename_i s13 s3'
        obtain ⟨q4, m4, k4, hs4⟩ := owns_form HI.out.2
        subst hs4
        by_cases hlp : p < co
        · have hlpz : (p : Int) < (co : Int) := by omega
          obtain ⟨LL, hLL⟩ : ∃ l, l = acrL co i ++ rowL i p := ⟨_, rfl⟩
          rw [← hLL] at HI
          have HLL := hid hLL
          have HLN : Hid (LL.length ≤ 20) := by
            show _ ≤ _
            have h1 : i * co ≤ 4 * 4 := Nat.mul_le_mul (by omega) ho
            rw [hLL, List.length_append, acrL_length]
            simp [rowL]
            omega
          clear hLL
          go_wp2_with (at_builtin; refine wpApp1 EC Try.underlying66 infoC rfl (by decide) rfl _ _ rfl W0.heap.size _ LL.length _ rfl HI.out.2 ⟨(i : Int), (p : Int), (0, 0, 0)⟩ (by first | rfl | simp) (by have := HLN.out; omega) (by have := HLN.out; unfold maxLen; omega) HI.out.1.size _ rfl _ ?_)
          intro g8 cap8 w8 h8 k8 _
          have FIN : Hid (Below W0.heap.size W0 w8 ∧ w8.ownsRow W0.heap.size 97 5 (.slice (some ⟨g8, 0, none⟩) (LL.length + 1) cap8) (acrL co i ++ rowL i (p + 1)).length (fl EC (acrL co i ++ rowL i (p + 1)))) := by
            have k2 := Kp.grownBy (S := fun k => (Value.slice q4 m4 k4).ownBlock = some k) k8 (fun _ h => h)
            refine ⟨HI.out.1.trans (k2.below HI.out.1.size (fun k e => (owns_rd HI.out.2 k e).1)), owns_re h8 (by rw [HLL.out, rowL_succ]; simp; omega) (by rw [HLL.out, rowL_succ, ← List.append_assoc, fl_append EC (acrL co i ++ rowL i p), fl_one])⟩
          clear h8 k8
          generalize LL.length + 1 = ll at FIN ⊢
          go_wp2_with fail
          go_roundw
          case rel => exact ⟨p + 1, by omega, by go_num, FIN.out⟩
          case measure => simp [RowKit.intOf]; omega
        · have hlpz : ¬ (p : Int) < (co : Int) := by omega
          have FIN : Hid (Below W0.heap.size W0 wr ∧ wr.ownsRow W0.heap.size 97 5 (.slice q4 m4 k4) (acrL co (i + 1)).length (fl EC (acrL co (i + 1)))) := by
            have h := HI.out.2
            rw [show p = co by omega] at h
            exact ⟨HI.out.1, h⟩
          go_wp2_with fail
          go_roundw
          case rel => exact ⟨i + 1, by omega, by go_num, FIN.out⟩
          case measure => simp [RowKit.intOf]; omega
    · have hltz : ¬ (i : Int) < (ci : Int) := by omega
      obtain rfl : i = ci := by omega
      go_wp2_with fail
      go_ret
      exact ⟨_, rfl, B0.out.trans (HI.out.1.mono B0.out.size), owns_base HI.out.2 B0.out.size⟩
end Go.Proofs.Ytifjjnnpoleinaa.Df
