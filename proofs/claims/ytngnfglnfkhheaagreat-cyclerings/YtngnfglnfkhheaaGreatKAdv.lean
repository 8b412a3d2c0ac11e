import Derived.Test.YtngnfglnfkhheaaGreatKAdv0
import Derived.BigQuiet
namespace Go.Proofs.YtngnfglnfkhheaaGreat.Df
open Go.RowKit Go.Sort
attribute [local go_sem ↓] Go.wp_at_zero Go.wp_at_succ
theorem ba3 {w : World} {b : Nat} {t : TypeId} {z0 z1 z2 z3 z4 z5 z6 z7 z8 z9 : Value} (h : w.heap[b]? = some (.cells #[z0, z1, z2, z3, z4, z5, z6, z7, z8, z9] t (0, 0))) (x4 x5 x6 : Value) : (((w.setCell ⟨b, 4, none⟩ x4).setCell ⟨b, 5, none⟩ x5).setCell ⟨b, 6, none⟩ x6).heap[b]? = some (.cells #[z0, z1, z2, z3, x4, x5, x6, z7, z8, z9] t (0, 0)) ∧ Kp (fun k => k = b) w (((w.setCell ⟨b, 4, none⟩ x4).setCell ⟨b, 5, none⟩ x5).setCell ⟨b, 6, none⟩ x6) := by
  have s0 : (w.setCell ⟨b, 4, none⟩ x4).heap[b]? = some (.cells #[z0, z1, z2, z3, x4, z5, z6, z7, z8, z9] t (0, 0)) ∧ Kp (fun k => k = b) w (w.setCell ⟨b, 4, none⟩ x4) := tk_set h 4 x4
  have s1 : ((w.setCell ⟨b, 4, none⟩ x4).setCell ⟨b, 5, none⟩ x5).heap[b]? = some (.cells #[z0, z1, z2, z3, x4, x5, z6, z7, z8, z9] t (0, 0)) ∧ Kp (fun k => k = b) (w.setCell ⟨b, 4, none⟩ x4) ((w.setCell ⟨b, 4, none⟩ x4).setCell ⟨b, 5, none⟩ x5) := tk_set s0.1 5 x5
  have s2 : (((w.setCell ⟨b, 4, none⟩ x4).setCell ⟨b, 5, none⟩ x5).setCell ⟨b, 6, none⟩ x6).heap[b]? = some (.cells #[z0, z1, z2, z3, x4, x5, x6, z7, z8, z9] t (0, 0)) ∧ Kp (fun k => k = b) ((w.setCell ⟨b, 4, none⟩ x4).setCell ⟨b, 5, none⟩ x5) (((w.setCell ⟨b, 4, none⟩ x4).setCell ⟨b, 5, none⟩ x5).setCell ⟨b, 6, none⟩ x6) := tk_set s1.1 6 x6
  exact ⟨s2.1, (s0.2.trans s1.2 (fun _ _ h => h)).trans s2.2 (fun _ _ h => h)⟩
set_option maxRecDepth 100000 in
set_option maxHeartbeats 16000000 in
theorem advanced_any {M : Nat} {nv ev : Value} {a : Int} {xs : List NV} {es : List Edg} (w : World) (hG : GR M w nv ev xs es) (hM : M ≤ w.heap.size) (hC : Gcap ev xs) (hOK : Gok (gof a xs es)) : Calls Tryz.prog 15 #[.agg (gvc a nv ev)] w fun r w' => r = .returned (.bool true) ∧ Below w.heap.size w w' := by
  have hmx : Tryz.prog.follows .mixedOrders = true := by kernel_rfl
  obtain ⟨gx, hgx⟩ : ∃ b, b = w.heap.size := ⟨_, rfl⟩
  obtain ⟨ob, hob⟩ : ∃ b, b = w.heap.size + 1 := ⟨_, rfl⟩
  obtain ⟨W0, hW0⟩ : ∃ W, W = (w.alloc (.cells (gvc a nv ev) 25)).alloc (.cells (gvc a (.slice none 0 0) (.slice none 0 0)) 25) := ⟨_, rfl⟩
  have A0 : Hid (Av w M gx ob a nv ev (.slice none 0 0) (.slice none 0 0) [] [] W0) := by
    rw [hW0, hgx, hob]
    exact ⟨(((Gr.refl w).alloc _).alloc _).below, new1 w _ _, new2 w _ _, World.ownsRow_nil _ _ _ _, World.ownsRow_nil _ _ _ _, (fun y hy => by cases hy), by omega, by omega⟩
  have HG : Hid (∀ W, Below w.heap.size w W → GR M W nv ev xs es) := fun W hb => hG.below hb
  have HC := hid hC
  have HMM := hid hM
  have HOK := hid hOK
  obtain ⟨qn, cn, hnv⟩ := hG.nodes.form
  obtain ⟨qe, ce, hev⟩ := hG.edges.form
  subst hnv
  subst hev
  obtain ⟨nl, hnl⟩ : ∃ n, n = xs.length := ⟨_, rfl⟩
  obtain ⟨el, hel⟩ : ∃ n, n = es.length := ⟨_, rfl⟩
  have h24 : nl ≤ 24 := by have := hOK.nl; rw [hnl]; simpa using this
  have h48 : el ≤ 48 := by have := hOK.el; rw [hel]; exact this
  have HNL : Hid (nl = xs.length ∧ el = es.length) := ⟨hnl, hel⟩
  have HW : Hid ((w.alloc (.cells (gvc a (.slice qn nl cn) (.slice qe el ce)) 25)).alloc (.cells #[.int .i64 a, .slice none 0 0, .slice none 0 0] 25) = W0 ∧ w.heap.size = gx ∧ w.heap.size + 1 = ob) := by rw [hnl, hel]; exact ⟨hW0.symm, hgx.symm, hob.symm⟩
  rw [← hnl] at A0 HG ⊢
  rw [← hel] at A0 HG HC ⊢
  clear hG hM hC hOK hgx hob hW0 hnl hel
  go_enter Tryz.func15, Tryz.ntmps15
  go_upto_region 2 with fail
  rw [HW.out.1, HW.out.2.2, HW.out.2.1]
  clear HW
  go_wp2_with fail
  go_loopw [4] (fun s4 wr => ∃ i : Nat, i ≤ nl ∧ s4 = .int .i64 (i : Nat) ∧ Hid (∃ nv' ys, Av w M gx ob a (.slice qn nl cn) (.slice qe el ce) nv' (.slice none 0 0) ys [] wr ∧ ys.map NV.n = (xs.take i).map (fun x => advN x.n))) (fun s4 _ => nl - (RowKit.intOf s4).toNat)
  case atStart => exact ⟨0, Nat.zero_le _, rfl, _, _, A0.out, rfl⟩
  case round =>
    clear A0
    obtain ⟨i, hi, rfl, HI⟩ := hrel
    obtain ⟨nv', ys, hav, hmp⟩ := HI.out
    have cx := (tk_store hav.raw).1
    have lx := tk_lt hav.raw
    clear HI
    by_cases hlt : i < nl
    · have hltz : (i : Int) < (nl : Int) := by omega
      have hi0 : (0 : Int) ≤ (i : Int) := by omega
      have hyl : ys.length = i := by
        have h := congrArg List.length hmp
        rw [List.length_map, List.length_map, List.length_take] at h
        have := HNL.out.1
        omega
      obtain ⟨x, hx⟩ : ∃ x, xs[i]? = some x := ⟨xs[i]'(by have := HNL.out.1; omega), by simp⟩
      have hxm := List.mem_of_getElem? hx
      have hgr := HG.out wr hav.bl
      obtain ⟨b1, o1, q1, ev1, zz1, x0, x1, x2, x3, x4, x5, x6, x7, x8, x9⟩ := ls_atV (hgr.nodes.ls hx) hx
      simp only [Value.slice.injEq] at ev1
      obtain ⟨rfl, -, rfl⟩ := ev1
      have hfl : nflaw a x.n = 0 := HOK.out.ng i x.n (by have := HNL.out.1; simpa using (by omega : i < xs.length)) (by simp [hx])
      have HNR : Hid (NR M wr x ∧ x.n.conns.length ≤ x.dc) := ⟨hgr.each x hxm, (HC.out.conns x hxm).1⟩
      obtain ⟨q', m', c', hq'⟩ := owns_form hav.nodes
      subst hq'
      have HAV := hid hav
      have HAP : Hid (∀ (W : World) (y : NV), Below wr.heap.size wr W → Nl M W y → y.n = advN x.n → ∀ g9 c9 w9, w9.ownsRow w.heap.size 58 10 (.slice (some ⟨g9, 0, none⟩) (i + 1) c9) (i + 1) (fl EV ys ++ EV.enc y) → W.grownBy w9 (Value.slice q' m' c').ownBlock → Hid (∃ nv' ys, Av w M gx ob a (.slice (some ⟨b1, o1, none⟩) nl cn) (.slice qe el ce) nv' (.slice none 0 0) ys [] (w9.setCell ⟨ob, 1, none⟩ (.slice (some ⟨g9, 0, none⟩) (i + 1) c9)) ∧ ys.map NV.n = (xs.take (i + 1)).map (fun x => advN x.n)) ∧ (∀ i, w9.cell? ⟨ob, i, none⟩ = (gvc a (.slice q' m' c') (.slice none 0 0))[i]?) ∧ (∀ i, w9.frozen? ⟨ob, i, none⟩ = false) ∧ ob < w9.heap.size) := fun W y hb hn hadv g9 c9 w9 r1 r2 => by
        rw [← hyl] at r1 ⊢
        obtain ⟨h1, h2⟩ := (HAV.out.below hb).node HMM.out hn r1 r2
        refine ⟨⟨_, _, h1, ?_⟩, h2⟩
        rw [hyl, List.map_append, hmp, List.take_add_one, hx, List.map_append]
        simp [hadv]
      have HROW : Hid (∀ W, Below wr.heap.size wr W → W.ownsRow w.heap.size 58 10 (.slice q' m' c') i (fl EV ys) ∧ w.heap.size ≤ W.heap.size ∧ W.heap[ob]? = some (.cells (gvc a (.slice q' m' c') (.slice none 0 0)) 25 (0, 0))) := fun W hb => by
        have h := HAV.out.below hb
        exact ⟨owns_re h.nodes hyl rfl, h.bl.size, h.oth⟩
      have hk := nflaw_kind hfl
      obtain ⟨⟨p1, p2⟩, _⟩ := nflaw_rest hfl
      have HL16 : Hid (x.n.conns.length ≤ 16) := (nflaw_lists hfl).2
      obtain ⟨nb, hnb⟩ : ∃ b, b = wr.heap.size := ⟨_, rfl⟩
      obtain ⟨W5, hW5⟩ : ∃ W, W = wr.alloc (.cells x.cells 58) := ⟨_, rfl⟩
      have P5 : Hid (W5.heap[nb]? = some (.cells x.cells 58 (0, 0)) ∧ Below wr.heap.size wr W5) := ⟨by rw [hW5, hnb]; exact heap_new' _ _, by rw [hW5]; exact ((Gr.refl wr).alloc _).below⟩
      have HW5 : Hid (wr.alloc (.cells #[.int .i64 x.n.kind, .int .i64 x.n.ins, .int .i64 x.n.outs, x.cv, .int .u64 (x.n.via.1 : Nat), .int .u64 (x.n.via.2.1 : Nat), .int .u64 (x.n.via.2.2 : Nat), .int .u64 (x.n.bound : Nat), x.dv, .bool x.n.start] 58) = W5 ∧ wr.heap.size = nb) := ⟨hW5.symm, hnb.symm⟩
      have HNB : Hid (wr.heap.size = nb) := hnb.symm
      clear hav hmp hx hxm hgr hfl hnb hW5
      go_upto_region 6 with fail
      rw [HW5.out.1, HW5.out.2]
      clear HW5 x0 x1 x2 x3 x4 x5 x6 x7 x8 x9 zz1 cx lx
      have hk8 : x.n.kind = 1 ∨ x.n.kind = 2 ∨ x.n.kind = 3 ∨ x.n.kind = 4 ∨ x.n.kind = 5 ∨ x.n.kind = 6 ∨ x.n.kind = 7 ∨ x.n.kind = 8 := by omega
      obtain ⟨⟨kind, ins, outs, code, via, bound, conns, start⟩, cq, cm, cc, dq, dm, dc⟩ := x
      dsimp only at hk8 hk p1 p2 HNR HAP P5 HL16 ⊢
      have c5 := (tk_store P5.out.1).1
      have f5 := (tk_store P5.out.1).2
      have l5 := tk_lt P5.out.1
      rcases hk8 with rfl | rfl | rfl | rfl | rfl | rfl | rfl | rfl
      · skip
        have hro := (HROW.out W5 P5.out.2)
        have HRO := hid hro
        have co := (tk_store hro.2.2).1
        have lo := tk_lt hro.2.2
        have HNW : Hid (Nl M W5 ⟨⟨1, ins, outs, code, via, bound, conns, start⟩, cq, cm, cc, dq, dm, dc⟩) := ⟨HNR.out.1.code.below P5.out.2, ⟨((HNR.out.1.conns.below P5.out.2).up (Nat.le_trans HMM.out (HROW.out _ P5.out.2).2.1)), by rcases HNR.out.1.conns with ⟨_, h2⟩ | ⟨h2, _⟩; exact Or.inr fun k e => Or.inl (h2 k e); exact Or.inl h2⟩, HNR.out.2⟩
        have HAD : Hid (NV.n ⟨⟨1, ins, outs, code, via, bound, conns, start⟩, cq, cm, cc, dq, dm, dc⟩ = advN ⟨1, ins, outs, code, via, bound, conns, start⟩) := by show _ = _; simp [advN]
        clear hro
        go_wp2_with (at_builtin; refine wpApp1 EV Tryz.underlying22 infoV rfl (by decide) rfl _ _ rfl w.heap.size _ i _ rfl HRO.out.1 ⟨⟨1, ins, outs, code, via, bound, conns, start⟩, cq, cm, cc, dq, dm, dc⟩ (by first | rfl | simp) (by omega) (by unfold maxLen; omega) HRO.out.2.1 _ rfl _ ?_; intro g9 c9 w9 r1 r2 r3; obtain ⟨F9, oc9, of9, ol9⟩ := HAP.out W5 ⟨⟨1, ins, outs, code, via, bound, conns, start⟩, cq, cm, cc, dq, dm, dc⟩ P5.out.2 HNW.out HAD.out g9 c9 w9 r1 r2; clear r1 r2 r3)
        go_roundw
        case rel => exact ⟨i + 1, by omega, by go_num, F9.out⟩
        case measure => simp [RowKit.intOf]; omega
      · skip
        go_upto_region 8 with fail
        have hNW6 : ((((((((((W5.setCell ⟨nb, 0, none⟩ (.int .i64 5)).setCell ⟨nb, 1, none⟩ (.int .i64 1)).setCell ⟨nb, 2, none⟩ (.int .i64 1)).setCell ⟨nb, 3, none⟩ (.slice none 0 0)).setCell ⟨nb, 4, none⟩ (.int .u64 0)).setCell ⟨nb, 5, none⟩ (.int .u64 0)).setCell ⟨nb, 6, none⟩ (.int .u64 0)).setCell ⟨nb, 7, none⟩ (.int .u64 0)).setCell ⟨nb, 8, none⟩ (.slice none 0 0)).setCell ⟨nb, 9, none⟩ (.bool false)).heap[nb]? = some (.cells #[.int .i64 5, .int .i64 1, .int .i64 1, .slice none 0 0, .int .u64 0, .int .u64 0, .int .u64 0, .int .u64 0, .slice none 0 0, .bool false] 58 (0, 0)) ∧ Kp (fun k => k = nb) W5 ((((((((((W5.setCell ⟨nb, 0, none⟩ (.int .i64 5)).setCell ⟨nb, 1, none⟩ (.int .i64 1)).setCell ⟨nb, 2, none⟩ (.int .i64 1)).setCell ⟨nb, 3, none⟩ (.slice none 0 0)).setCell ⟨nb, 4, none⟩ (.int .u64 0)).setCell ⟨nb, 5, none⟩ (.int .u64 0)).setCell ⟨nb, 6, none⟩ (.int .u64 0)).setCell ⟨nb, 7, none⟩ (.int .u64 0)).setCell ⟨nb, 8, none⟩ (.slice none 0 0)).setCell ⟨nb, 9, none⟩ (.bool false)) := fill10 P5.out.1 (.int .i64 5) (.int .i64 1) (.int .i64 1) (.slice none 0 0) (.int .u64 0) (.int .u64 0) (.int .u64 0) (.int .u64 0) (.slice none 0 0) (.bool false)
        obtain ⟨W6, hW6⟩ : ∃ W, W = ((((((((((W5.setCell ⟨nb, 0, none⟩ (.int .i64 5)).setCell ⟨nb, 1, none⟩ (.int .i64 1)).setCell ⟨nb, 2, none⟩ (.int .i64 1)).setCell ⟨nb, 3, none⟩ (.slice none 0 0)).setCell ⟨nb, 4, none⟩ (.int .u64 0)).setCell ⟨nb, 5, none⟩ (.int .u64 0)).setCell ⟨nb, 6, none⟩ (.int .u64 0)).setCell ⟨nb, 7, none⟩ (.int .u64 0)).setCell ⟨nb, 8, none⟩ (.slice none 0 0)).setCell ⟨nb, 9, none⟩ (.bool false)) := ⟨_, rfl⟩
        rw [← hW6] at hNW6 ⊢
        have c6 := (tk_store hNW6.1).1
        have f6 := (tk_store hNW6.1).2
        have l6 := tk_lt hNW6.1
        have HB6 : Hid (Below wr.heap.size wr W6) := P5.out.2.trans (hNW6.2.below P5.out.2.size (fun j e => by have := HNB.out; omega))
        have HN6 := hid hNW6.1
        clear hNW6 hW6 c5 f5 l5
        go_upto_region 10 with fail
        have hNW7 : (((W6.setCell ⟨nb, 4, none⟩ (.int .u64 1)).setCell ⟨nb, 5, none⟩ (.int .u64 0)).setCell ⟨nb, 6, none⟩ (.int .u64 0)).heap[nb]? = some (.cells #[.int .i64 5, .int .i64 1, .int .i64 1, .slice none 0 0, .int .u64 1, .int .u64 0, .int .u64 0, .int .u64 0, .slice none 0 0, .bool false] 58 (0, 0)) ∧ Kp (fun k => k = nb) W6 (((W6.setCell ⟨nb, 4, none⟩ (.int .u64 1)).setCell ⟨nb, 5, none⟩ (.int .u64 0)).setCell ⟨nb, 6, none⟩ (.int .u64 0)) := ba3 HN6.out (.int .u64 1) (.int .u64 0) (.int .u64 0)
        obtain ⟨W7, hW7⟩ : ∃ W, W = (((W6.setCell ⟨nb, 4, none⟩ (.int .u64 1)).setCell ⟨nb, 5, none⟩ (.int .u64 0)).setCell ⟨nb, 6, none⟩ (.int .u64 0)) := ⟨_, rfl⟩
        rw [← hW7] at hNW7 ⊢
        have c7 := (tk_store hNW7.1).1
        have l7 := tk_lt hNW7.1
        have hb7 : Below wr.heap.size wr W7 := HB6.out.trans (hNW7.2.below HB6.out.size (fun j e => by have := HNB.out; omega))
        clear hNW7 hW7 c6 f6 l6 HN6
        have hro := (HROW.out W7 hb7)
        have HRO := hid hro
        have co := (tk_store hro.2.2).1
        have lo := tk_lt hro.2.2
        have HNW : Hid (Nl M W7 ⟨⟨5, 1, 1, [], (1, 0, 0), 0, [], false⟩, none, 0, 0, none, 0, 0⟩) := ⟨Lz.nil _ _ _, ⟨Lz.nil _ _ _, Or.inl rfl⟩, Nat.le_refl _⟩
        have HAD : Hid (NV.n ⟨⟨5, 1, 1, [], (1, 0, 0), 0, [], false⟩, none, 0, 0, none, 0, 0⟩ = advN ⟨2, ins, outs, code, via, bound, conns, start⟩) := by show _ = _; simp [advN]
        clear hro
        go_wp2_with (at_builtin; refine wpApp1 EV Tryz.underlying22 infoV rfl (by decide) rfl _ _ rfl w.heap.size _ i _ rfl HRO.out.1 ⟨⟨5, 1, 1, [], (1, 0, 0), 0, [], false⟩, none, 0, 0, none, 0, 0⟩ (by first | rfl | simp) (by omega) (by unfold maxLen; omega) HRO.out.2.1 _ rfl _ ?_; intro g9 c9 w9 r1 r2 r3; obtain ⟨F9, oc9, of9, ol9⟩ := HAP.out W7 ⟨⟨5, 1, 1, [], (1, 0, 0), 0, [], false⟩, none, 0, 0, none, 0, 0⟩ hb7 HNW.out HAD.out g9 c9 w9 r1 r2; clear r1 r2 r3)
        go_roundw
        case rel => exact ⟨i + 1, by omega, by go_num, F9.out⟩
        case measure => simp [RowKit.intOf]; omega
      · skip
        go_upto_region 8 with fail
        have hNW6 : ((((((((((W5.setCell ⟨nb, 0, none⟩ (.int .i64 5)).setCell ⟨nb, 1, none⟩ (.int .i64 1)).setCell ⟨nb, 2, none⟩ (.int .i64 1)).setCell ⟨nb, 3, none⟩ (.slice none 0 0)).setCell ⟨nb, 4, none⟩ (.int .u64 0)).setCell ⟨nb, 5, none⟩ (.int .u64 0)).setCell ⟨nb, 6, none⟩ (.int .u64 0)).setCell ⟨nb, 7, none⟩ (.int .u64 0)).setCell ⟨nb, 8, none⟩ (.slice none 0 0)).setCell ⟨nb, 9, none⟩ (.bool false)).heap[nb]? = some (.cells #[.int .i64 5, .int .i64 1, .int .i64 1, .slice none 0 0, .int .u64 0, .int .u64 0, .int .u64 0, .int .u64 0, .slice none 0 0, .bool false] 58 (0, 0)) ∧ Kp (fun k => k = nb) W5 ((((((((((W5.setCell ⟨nb, 0, none⟩ (.int .i64 5)).setCell ⟨nb, 1, none⟩ (.int .i64 1)).setCell ⟨nb, 2, none⟩ (.int .i64 1)).setCell ⟨nb, 3, none⟩ (.slice none 0 0)).setCell ⟨nb, 4, none⟩ (.int .u64 0)).setCell ⟨nb, 5, none⟩ (.int .u64 0)).setCell ⟨nb, 6, none⟩ (.int .u64 0)).setCell ⟨nb, 7, none⟩ (.int .u64 0)).setCell ⟨nb, 8, none⟩ (.slice none 0 0)).setCell ⟨nb, 9, none⟩ (.bool false)) := fill10 P5.out.1 (.int .i64 5) (.int .i64 1) (.int .i64 1) (.slice none 0 0) (.int .u64 0) (.int .u64 0) (.int .u64 0) (.int .u64 0) (.slice none 0 0) (.bool false)
        obtain ⟨W6, hW6⟩ : ∃ W, W = ((((((((((W5.setCell ⟨nb, 0, none⟩ (.int .i64 5)).setCell ⟨nb, 1, none⟩ (.int .i64 1)).setCell ⟨nb, 2, none⟩ (.int .i64 1)).setCell ⟨nb, 3, none⟩ (.slice none 0 0)).setCell ⟨nb, 4, none⟩ (.int .u64 0)).setCell ⟨nb, 5, none⟩ (.int .u64 0)).setCell ⟨nb, 6, none⟩ (.int .u64 0)).setCell ⟨nb, 7, none⟩ (.int .u64 0)).setCell ⟨nb, 8, none⟩ (.slice none 0 0)).setCell ⟨nb, 9, none⟩ (.bool false)) := ⟨_, rfl⟩
        rw [← hW6] at hNW6 ⊢
        have c6 := (tk_store hNW6.1).1
        have f6 := (tk_store hNW6.1).2
        have l6 := tk_lt hNW6.1
        have HB6 : Hid (Below wr.heap.size wr W6) := P5.out.2.trans (hNW6.2.below P5.out.2.size (fun j e => by have := HNB.out; omega))
        have HN6 := hid hNW6.1
        clear hNW6 hW6 c5 f5 l5
        go_upto_region 10 with fail
        have hNW7 : (((W6.setCell ⟨nb, 4, none⟩ (.int .u64 1)).setCell ⟨nb, 5, none⟩ (.int .u64 0)).setCell ⟨nb, 6, none⟩ (.int .u64 0)).heap[nb]? = some (.cells #[.int .i64 5, .int .i64 1, .int .i64 1, .slice none 0 0, .int .u64 1, .int .u64 0, .int .u64 0, .int .u64 0, .slice none 0 0, .bool false] 58 (0, 0)) ∧ Kp (fun k => k = nb) W6 (((W6.setCell ⟨nb, 4, none⟩ (.int .u64 1)).setCell ⟨nb, 5, none⟩ (.int .u64 0)).setCell ⟨nb, 6, none⟩ (.int .u64 0)) := ba3 HN6.out (.int .u64 1) (.int .u64 0) (.int .u64 0)
        obtain ⟨W7, hW7⟩ : ∃ W, W = (((W6.setCell ⟨nb, 4, none⟩ (.int .u64 1)).setCell ⟨nb, 5, none⟩ (.int .u64 0)).setCell ⟨nb, 6, none⟩ (.int .u64 0)) := ⟨_, rfl⟩
        rw [← hW7] at hNW7 ⊢
        have c7 := (tk_store hNW7.1).1
        have l7 := tk_lt hNW7.1
        have hb7 : Below wr.heap.size wr W7 := HB6.out.trans (hNW7.2.below HB6.out.size (fun j e => by have := HNB.out; omega))
        clear hNW7 hW7 c6 f6 l6 HN6
        have hro := (HROW.out W7 hb7)
        have HRO := hid hro
        have co := (tk_store hro.2.2).1
        have lo := tk_lt hro.2.2
        have HNW : Hid (Nl M W7 ⟨⟨5, 1, 1, [], (1, 0, 0), 0, [], false⟩, none, 0, 0, none, 0, 0⟩) := ⟨Lz.nil _ _ _, ⟨Lz.nil _ _ _, Or.inl rfl⟩, Nat.le_refl _⟩
        have HAD : Hid (NV.n ⟨⟨5, 1, 1, [], (1, 0, 0), 0, [], false⟩, none, 0, 0, none, 0, 0⟩ = advN ⟨3, ins, outs, code, via, bound, conns, start⟩) := by show _ = _; simp [advN]
        clear hro
        go_wp2_with (at_builtin; refine wpApp1 EV Tryz.underlying22 infoV rfl (by decide) rfl _ _ rfl w.heap.size _ i _ rfl HRO.out.1 ⟨⟨5, 1, 1, [], (1, 0, 0), 0, [], false⟩, none, 0, 0, none, 0, 0⟩ (by first | rfl | simp) (by omega) (by unfold maxLen; omega) HRO.out.2.1 _ rfl _ ?_; intro g9 c9 w9 r1 r2 r3; obtain ⟨F9, oc9, of9, ol9⟩ := HAP.out W7 ⟨⟨5, 1, 1, [], (1, 0, 0), 0, [], false⟩, none, 0, 0, none, 0, 0⟩ hb7 HNW.out HAD.out g9 c9 w9 r1 r2; clear r1 r2 r3)
        go_roundw
        case rel => exact ⟨i + 1, by omega, by go_num, F9.out⟩
        case measure => simp [RowKit.intOf]; omega
      · skip
        simp [pIn] at p1
        simp [pOut] at p2
        subst p2
        obtain ⟨m4, rfl⟩ : ∃ m : Nat, ins = (m : Int) := ⟨ins.toNat, by omega⟩
        have hm4 : m4 ≤ 4 := by omega
        go_upto_region 12 with fail
        obtain ⟨mb, hmb⟩ : ∃ b, b = W5.heap.size := ⟨_, rfl⟩
        obtain ⟨W6, hW6⟩ : ∃ W, W = W5.alloc (.cells #[.int .i64 8, .int .i64 (m4 : Nat), .int .i64 1, .slice none 0 0, .int .u64 0, .int .u64 0, .int .u64 0, .int .u64 0, .slice none 0 0, .bool false] 58) := ⟨_, rfl⟩
        rw [← hW6, ← hmb]
        have J6 : Hid (Below W5.heap.size W5 W6 ∧ W6.heap[mb]? = some (.cells #[.int .i64 8, .int .i64 (m4 : Nat), .int .i64 1, .slice none 0 0, .int .u64 0, .int .u64 0, .int .u64 0, .int .u64 0, .slice none 0 0, .bool false] 58 (0, 0))) := by
          rw [hW6, hmb]
          exact ⟨((Gr.refl W5).alloc _).below, heap_new' _ _⟩
        have HMB : Hid (mb = W5.heap.size) := hmb
        clear hW6 hmb c5 f5 l5
        go_wp2_with fail
        go_loopw [7] (fun s7 wr => ∃ k : Nat, k ≤ m4 ∧ s7 = .int .i64 (k : Nat) ∧ Hid (∃ lv, Below W5.heap.size W5 wr ∧ wr.heap[mb]? = some (.cells #[.int .i64 8, .int .i64 (m4 : Nat), .int .i64 1, .slice none 0 0, .int .u64 0, .int .u64 0, .int .u64 0, .int .u64 0, lv, .bool false] 58 (0, 0)) ∧ wr.ownsRow W5.heap.size 72 5 lv k (fl EC (joinC k)))) (fun s7 _ => m4 - (RowKit.intOf s7).toNat)
        case atStart => exact ⟨0, Nat.zero_le _, rfl, _, J6.out.1, J6.out.2, World.ownsRow_nil _ _ _ _⟩
        case round =>
          clear J6
          obtain ⟨k, hk, rfl, HI⟩ := hrel
          obtain ⟨lv, j1, j2, j3⟩ := HI.out
          clear HI
          have hn := (j1.block _ (tk_lt P5.out.1)).trans P5.out.1
          have c5 := (tk_store hn).1
          have f5 := (tk_store hn).2
          have l5 := tk_lt hn
          have cm := (tk_store j2).1
          have lm := tk_lt j2
          by_cases hlk : k < m4
          · have hlkz : (k : Int) < (m4 : Int) := by omega
            obtain ⟨lq, ll, lc, hlv⟩ := owns_form j3
            subst hlv
            have J3 := hid j3
            have HSZ := hid j1.size
            have HSET : Hid (∀ g9 c9 w9, w9.ownsRow W5.heap.size 72 5 (.slice (some ⟨g9, 0, none⟩) (k + 1) c9) (k + 1) (fl EC (joinC k) ++ EC.enc ⟨(k : Int), 0, (0, 0, 0)⟩) → wr.grownBy w9 (Value.slice lq ll lc).ownBlock → Hid (∃ lv, Below W5.heap.size W5 (w9.setCell ⟨mb, 8, none⟩ (.slice (some ⟨g9, 0, none⟩) (k + 1) c9)) ∧ (w9.setCell ⟨mb, 8, none⟩ (.slice (some ⟨g9, 0, none⟩) (k + 1) c9)).heap[mb]? = some (.cells #[.int .i64 8, .int .i64 (m4 : Nat), .int .i64 1, .slice none 0 0, .int .u64 0, .int .u64 0, .int .u64 0, .int .u64 0, lv, .bool false] 58 (0, 0)) ∧ (w9.setCell ⟨mb, 8, none⟩ (.slice (some ⟨g9, 0, none⟩) (k + 1) c9)).ownsRow W5.heap.size 72 5 lv (k + 1) (fl EC (joinC (k + 1)))) ∧ (∀ i, w9.cell? ⟨mb, i, none⟩ = (#[.int .i64 8, .int .i64 (m4 : Nat), .int .i64 1, .slice none 0 0, .int .u64 0, .int .u64 0, .int .u64 0, .int .u64 0, .slice lq ll lc, .bool false] : Array Value)[i]?) ∧ (∀ i, w9.frozen? ⟨mb, i, none⟩ = false) ∧ mb < w9.heap.size) := fun g9 c9 w9 r1 r2 => by
              have K2 := Kp.grownBy (S := fun j => (Value.slice lq ll lc).ownBlock = some j) r2 (fun _ h => h)
              have m1 := (K2.block _ (tk_lt j2) (fun e => owns_ne_blk J3.out j2 (by decide) mb e rfl)).trans j2
              obtain ⟨m2, k3⟩ := tk_set m1 8 (.slice (some ⟨g9, 0, none⟩) (k + 1) c9)
              refine ⟨⟨_, (j1.trans (K2.below j1.size (fun j e => (owns_rd J3.out j e).1))).trans (k3.below (Nat.le_trans j1.size K2.size) (fun j e => by have := HMB.out; omega)), m2, ?_⟩, (tk_store m1).1, (tk_store m1).2, tk_lt m1⟩
              have r3 := owns_kp k3 r1 (fun j e e2 => owns_ne_blk r1 m1 (by decide) j e e2)
              have ej : joinC (k + 1) = joinC k ++ [⟨(k : Int), 0, (0, 0, 0)⟩] := by unfold joinC; rw [List.range_succ, List.map_append]; rfl
              rw [ej, fl_append, fl_one]
              exact r3
            clear j1 j2 j3 hn
            go_wp2_with (at_builtin; refine wpApp1 EC Tryz.underlying56 infoC rfl (by decide) rfl _ _ rfl W5.heap.size _ k _ rfl J3.out ⟨(k : Int), 0, (0, 0, 0)⟩ rfl (by omega) (by unfold maxLen; omega) HSZ.out _ rfl _ ?_; intro g9 c9 w9 r1 r2 r3; obtain ⟨F9, oc9, of9, ol9⟩ := HSET.out g9 c9 w9 r1 r2; clear r1 r2 r3)
            go_roundw
            case rel => exact ⟨k + 1, by omega, by go_num, F9.out⟩
            case measure => simp [RowKit.intOf]; omega
          · have hlkz : ¬ (k : Int) < (m4 : Int) := by omega
            obtain rfl : k = m4 := by omega
            obtain ⟨dq, dl, dc, hlv⟩ := owns_form j3
            subst hlv
            obtain ⟨edl, _⟩ := owns_caps j3 _ _ _ rfl
            subst edl
            have hjl : (joinC dl).length = dl := by simp [joinC]
            have hN8 := fill10 hn (.int .i64 8) (.int .i64 (dl : Nat)) (.int .i64 1) (.slice none 0 0) (.int .u64 0) (.int .u64 0) (.int .u64 0) (.int .u64 0) (.slice dq dl dc) (.bool false)
            obtain ⟨W8, hW8⟩ : ∃ W, W = ((((((((((wr.setCell ⟨nb, 0, none⟩ (.int .i64 8)).setCell ⟨nb, 1, none⟩ (.int .i64 (dl : Nat))).setCell ⟨nb, 2, none⟩ (.int .i64 1)).setCell ⟨nb, 3, none⟩ (.slice none 0 0)).setCell ⟨nb, 4, none⟩ (.int .u64 0)).setCell ⟨nb, 5, none⟩ (.int .u64 0)).setCell ⟨nb, 6, none⟩ (.int .u64 0)).setCell ⟨nb, 7, none⟩ (.int .u64 0)).setCell ⟨nb, 8, none⟩ (.slice dq dl dc)).setCell ⟨nb, 9, none⟩ (.bool false)) := ⟨_, rfl⟩
            rw [← hW8] at hN8
            have HW8 : Hid (((((((((((wr.setCell ⟨nb, 0, none⟩ (.int .i64 8)).setCell ⟨nb, 1, none⟩ (.int .i64 (dl : Nat))).setCell ⟨nb, 2, none⟩ (.int .i64 1)).setCell ⟨nb, 3, none⟩ (.slice none 0 0)).setCell ⟨nb, 4, none⟩ (.int .u64 0)).setCell ⟨nb, 5, none⟩ (.int .u64 0)).setCell ⟨nb, 6, none⟩ (.int .u64 0)).setCell ⟨nb, 7, none⟩ (.int .u64 0)).setCell ⟨nb, 8, none⟩ (.slice dq dl dc)).setCell ⟨nb, 9, none⟩ (.bool false)) = W8) := hW8.symm
            have N8 := hid hN8.1
            have hb8 := P5.out.2.trans ((j1.mono P5.out.2.size).trans (hN8.2.below (Nat.le_trans P5.out.2.size j1.size) (fun j e => by have := HNB.out; omega)))
            have B8 := hid hb8
            have LS : Hid (Lz EC W8.heap.size W8 (.slice dq dl dc) (joinC dl)) := owns_lz (E := EC) (owns_re (owns_kp hN8.2 j3 (fun j e e2 => owns_ne_blk j3 hn (by decide) j e e2)) hjl.symm rfl)
            have HDL : Hid (dl = (joinC dl).length) := hjl.symm
            obtain ⟨LL, hLL⟩ : ∃ l, l = joinC dl := ⟨_, rfl⟩
            rw [← hLL] at LS HDL
            have HLL := hid hLL
            have hl16 : LL.length ≤ 16 := by have := HDL.out; omega
            have hd16 : dl ≤ 16 := by omega
            clear hN8 hW8 hb8 j1 j3 hjl hLL
            go_upto_region 17 with fail
            rw [HW8.out]
            clear HW8 c5 f5 l5 cm lm j2 hn
            have c8 := (tk_store N8.out).1
            have f8 := (tk_store N8.out).2
            have l8 := tk_lt N8.out
            go_wp2_with fail
            go_loopw [8, 9] (fun s8 s9 wr => ∃ (k : Nat) (lv : Value), k ≤ dl ∧ s9 = .int .i64 (k : Nat) ∧ lv = s8 ∧ Hid (Below W8.heap.size W8 wr ∧ wr.ownsRow W8.heap.size 72 5 lv (advC (LL.take k)).length (fl EC (advC (LL.take k))))) (fun _ s9 _ => dl - (RowKit.intOf s9).toNat)
            case atStart => exact ⟨0, _, Nat.zero_le _, rfl, rfl, Below.refl _ _, World.ownsRow_nil _ _ _ _⟩
            case round =>
              clear c8 l8 f8
              obtain ⟨k, lv, hk, rfl, rfl, HI⟩ := hrel
              have hn8 := (HI.out.1.block _ (tk_lt N8.out)).trans N8.out
              have c8 := (tk_store hn8).1
              have f8 := (tk_store hn8).2
              have l8 := tk_lt hn8
              by_cases hlk : k < dl
              · have hlkz : (k : Int) < (dl : Int) := by omega
                have hk0 : (0 : Int) ≤ (k : Int) := by omega
                obtain ⟨z, hz⟩ : ∃ z, LL[k]? = some z := ⟨LL[k]'(by have := HDL.out; omega), by simp⟩
                obtain ⟨b2, o2, q2, ev2, zz2, y0, y1, -, -, -⟩ := ls_atC (LS.out.ls hz) hz
                simp only [Value.slice.injEq] at ev2
                obtain ⟨rfl, -, rfl⟩ := ev2
                have HCC : Hid (W8.cell? ⟨b2, o2 + k * 5, none⟩ = some (.int .i64 z.inn) ∧ W8.cell? ⟨b2, o2 + k * 5 + 1, none⟩ = some (.int .i64 z.out) ∧ b2 < W8.heap.size) := ⟨y0, y1, zz2⟩
                obtain ⟨ln, hln⟩ : ∃ l, l = advC (LL.take k) := ⟨_, rfl⟩
                have HNX : Hid (ln ++ [⟨z.inn, z.out, (k + 1, 0, 0)⟩] = advC (LL.take (k + 1))) := by show _ = _; rw [hln, advC_snoc hz]
                have hI := HI.out
                rw [← hln] at hI
                have HRW := hid hI.2
                have HBL := hid hI.1
                have HBW := hid hI.1.size
                have HLE : Hid (ln.length ≤ 16) := by show _ ≤ _; rw [hln, advC_len, List.length_take]; omega
                have hw1 : IntKind.i64.wrap ((k : Int) + 1) = (k : Int) + 1 := by rw [IntKind.wrap_i64]; omega
                have hw2 : IntKind.u64.wrap ((k : Int) + 1) = (k : Int) + 1 := by rw [IntKind.wrap_u64]; omega
                clear HI hI hln hz y0 y1 zz2
                go_upto_region 22 with fail
                have hS0 : Below W8.heap.size W8 wr.drew := HBL.out.trans ((Gr.refl wr).drew.below.mono HBW.out)
                refine wp_regionD (S := fun W => Below W8.heap.size W8 W) (D := []) hmx ?_
                refine' wpAnyD_take (i := 0) (oi := { dst := some 80, op := Go.Op.move (Go.Operand.tmp 8), type := 56, pos := "law.go:206", after := #[], guard := none }) (v := _) rfl (by kernel_rfl) (by kernel_rfl) (by kernel_rfl) (fun _ _ _ h => h) (by kernel_rfl) (Or.inl ⟨by rfl, ?hy1⟩) hS0 ?rest1
                case hy1 => (intro W hSw; go_simp; try (with_reducible rfl))
                try simp only [Act.put, List.setIfInBounds_toArray, List.set_cons_zero, List.set_cons_succ]
                refine' wpAnyD_take (i := 1) (oi := { dst := some 81, op := Go.Op.fieldAddr 58 (Go.Operand.tmp 5) 6, type := 0, pos := "law.go:206", after := #[], guard := none }) (v := _) rfl (by kernel_rfl) (by kernel_rfl) (by kernel_rfl) (fun _ _ _ h => h) (by kernel_rfl) (Or.inl ⟨by rfl, ?hy2⟩) hS0 ?rest2
                case hy2 => (intro W hSw; have hb := (hSw.block _ (tk_lt N8.out)).trans N8.out; have hc := (tk_store hb).1; have hl := tk_lt hb; go_simp; try (with_reducible rfl))
                try simp only [Act.put, List.setIfInBounds_toArray, List.set_cons_zero, List.set_cons_succ]
                refine' wpAnyD_take (i := 2) (oi := { dst := some 82, op := Go.Op.load 56 (Go.Operand.tmp 81), type := 56, pos := "law.go:206", after := #[{ on := 1, ground := Go.Ground.data }], guard := none }) (v := _) rfl (by kernel_rfl) (by kernel_rfl) (by kernel_rfl) (fun _ _ _ h => h) (by kernel_rfl) (Or.inl ⟨by rfl, ?hy3⟩) hS0 ?rest3
                case hy3 => (intro W hSw; have hb := (hSw.block _ (tk_lt N8.out)).trans N8.out; have hc := (tk_store hb).1; have hl := tk_lt hb; go_simp; try (with_reducible rfl))
                try simp only [Act.put, List.setIfInBounds_toArray, List.set_cons_zero, List.set_cons_succ]
                refine' wpAnyD_take (i := 3) (oi := { dst := some 83, op := Go.Op.move (Go.Operand.tmp 9), type := 3, pos := "law.go:206", after := #[], guard := none }) (v := _) rfl (by kernel_rfl) (by kernel_rfl) (by kernel_rfl) (fun _ _ _ h => h) (by kernel_rfl) (Or.inl ⟨by rfl, ?hy4⟩) hS0 ?rest4
                case hy4 => (intro W hSw; go_simp; try (with_reducible rfl))
                try simp only [Act.put, List.setIfInBounds_toArray, List.set_cons_zero, List.set_cons_succ]
                refine' wpAnyD_take (i := 4) (oi := { dst := some 84, op := Go.Op.indexAddr 56 (Go.Operand.tmp 82) (Go.Operand.tmp 83), type := 0, pos := "law.go:206", after := #[{ on := 2, ground := Go.Ground.data }, { on := 3, ground := Go.Ground.data }], guard := none }) (v := _) rfl (by kernel_rfl) (by kernel_rfl) (by kernel_rfl) (fun _ _ _ h => h) (by kernel_rfl) (Or.inl ⟨by rfl, ?hy5⟩) hS0 ?rest5
                case hy5 => (intro W hSw; go_simp; try (with_reducible rfl))
                try simp only [Act.put, List.setIfInBounds_toArray, List.set_cons_zero, List.set_cons_succ]
                refine' wpAnyD_take (i := 5) (oi := { dst := some 85, op := Go.Op.fieldAddr 72 (Go.Operand.tmp 84) 0, type := 0, pos := "law.go:206", after := #[{ on := 4, ground := Go.Ground.data }], guard := none }) (v := _) rfl (by kernel_rfl) (by kernel_rfl) (by kernel_rfl) (fun _ _ _ h => h) (by kernel_rfl) (Or.inl ⟨by rfl, ?hy6⟩) hS0 ?rest6
                case hy6 => (intro W hSw; go_simp; try (with_reducible rfl))
                try simp only [Act.put, List.setIfInBounds_toArray, List.set_cons_zero, List.set_cons_succ]
                refine' wpAnyD_take (i := 6) (oi := { dst := some 86, op := Go.Op.load 3 (Go.Operand.tmp 85), type := 3, pos := "law.go:206", after := #[{ on := 5, ground := Go.Ground.data }], guard := none }) (v := _) rfl (by kernel_rfl) (by kernel_rfl) (by kernel_rfl) (fun _ _ _ h => h) (by kernel_rfl) (Or.inl ⟨by rfl, ?hy7⟩) hS0 ?rest7
                case hy7 => (intro W hSw; have hc := (hSw.cell (p := ⟨b2, o2 + k * 5, none⟩) HCC.out.2.2).trans HCC.out.1; have hl := Nat.lt_of_lt_of_le HCC.out.2.2 hSw.size; go_simp; try (with_reducible rfl))
                try simp only [Act.put, List.setIfInBounds_toArray, List.set_cons_zero, List.set_cons_succ]
                refine' wpAnyD_take (i := 7) (oi := { dst := some 87, op := Go.Op.fieldAddr 58 (Go.Operand.tmp 5) 6, type := 0, pos := "law.go:206", after := #[], guard := none }) (v := _) rfl (by kernel_rfl) (by kernel_rfl) (by kernel_rfl) (fun _ _ _ h => h) (by kernel_rfl) (Or.inl ⟨by rfl, ?hy8⟩) hS0 ?rest8
                case hy8 => (intro W hSw; have hb := (hSw.block _ (tk_lt N8.out)).trans N8.out; have hc := (tk_store hb).1; have hl := tk_lt hb; go_simp; try (with_reducible rfl))
                try simp only [Act.put, List.setIfInBounds_toArray, List.set_cons_zero, List.set_cons_succ]
                refine' wpAnyD_take (i := 8) (oi := { dst := some 88, op := Go.Op.load 56 (Go.Operand.tmp 87), type := 56, pos := "law.go:206", after := #[{ on := 7, ground := Go.Ground.data }], guard := none }) (v := _) rfl (by kernel_rfl) (by kernel_rfl) (by kernel_rfl) (fun _ _ _ h => h) (by kernel_rfl) (Or.inl ⟨by rfl, ?hy9⟩) hS0 ?rest9
                case hy9 => (intro W hSw; have hb := (hSw.block _ (tk_lt N8.out)).trans N8.out; have hc := (tk_store hb).1; have hl := tk_lt hb; go_simp; try (with_reducible rfl))
                try simp only [Act.put, List.setIfInBounds_toArray, List.set_cons_zero, List.set_cons_succ]
                refine' wpAnyD_take (i := 9) (oi := { dst := some 89, op := Go.Op.move (Go.Operand.tmp 9), type := 3, pos := "law.go:206", after := #[], guard := none }) (v := _) rfl (by kernel_rfl) (by kernel_rfl) (by kernel_rfl) (fun _ _ _ h => h) (by kernel_rfl) (Or.inl ⟨by rfl, ?hy10⟩) hS0 ?rest10
                case hy10 => (intro W hSw; go_simp; try (with_reducible rfl))
                try simp only [Act.put, List.setIfInBounds_toArray, List.set_cons_zero, List.set_cons_succ]
                refine' wpAnyD_take (i := 10) (oi := { dst := some 90, op := Go.Op.indexAddr 56 (Go.Operand.tmp 88) (Go.Operand.tmp 89), type := 0, pos := "law.go:206", after := #[{ on := 8, ground := Go.Ground.data }, { on := 9, ground := Go.Ground.data }], guard := none }) (v := _) rfl (by kernel_rfl) (by kernel_rfl) (by kernel_rfl) (fun _ _ _ h => h) (by kernel_rfl) (Or.inl ⟨by rfl, ?hy11⟩) hS0 ?rest11
                case hy11 => (intro W hSw; go_simp; try (with_reducible rfl))
                try simp only [Act.put, List.setIfInBounds_toArray, List.set_cons_zero, List.set_cons_succ]
                refine' wpAnyD_take (i := 11) (oi := { dst := some 91, op := Go.Op.fieldAddr 72 (Go.Operand.tmp 90) 1, type := 0, pos := "law.go:206", after := #[{ on := 10, ground := Go.Ground.data }], guard := none }) (v := _) rfl (by kernel_rfl) (by kernel_rfl) (by kernel_rfl) (fun _ _ _ h => h) (by kernel_rfl) (Or.inl ⟨by rfl, ?hy12⟩) hS0 ?rest12
                case hy12 => (intro W hSw; go_simp; try (with_reducible rfl))
                try simp only [Act.put, List.setIfInBounds_toArray, List.set_cons_zero, List.set_cons_succ]
                refine' wpAnyD_take (i := 12) (oi := { dst := some 92, op := Go.Op.load 3 (Go.Operand.tmp 91), type := 3, pos := "law.go:206", after := #[{ on := 11, ground := Go.Ground.data }], guard := none }) (v := _) rfl (by kernel_rfl) (by kernel_rfl) (by kernel_rfl) (fun _ _ _ h => h) (by kernel_rfl) (Or.inl ⟨by rfl, ?hy13⟩) hS0 ?rest13
                case hy13 => (intro W hSw; have hc := (hSw.cell (p := ⟨b2, o2 + k * 5 + 1, none⟩) HCC.out.2.2).trans HCC.out.2.1; have hl := Nat.lt_of_lt_of_le HCC.out.2.2 hSw.size; go_simp; try (with_reducible rfl))
                try simp only [Act.put, List.setIfInBounds_toArray, List.set_cons_zero, List.set_cons_succ]
                refine' wpAnyD_take (i := 13) (oi := { dst := some 93, op := Go.Op.move (Go.Operand.tmp 9), type := 3, pos := "law.go:206", after := #[], guard := none }) (v := _) rfl (by kernel_rfl) (by kernel_rfl) (by kernel_rfl) (fun _ _ _ h => h) (by kernel_rfl) (Or.inl ⟨by rfl, ?hy14⟩) hS0 ?rest14
                case hy14 => (intro W hSw; go_simp; try (with_reducible rfl))
                try simp only [Act.put, List.setIfInBounds_toArray, List.set_cons_zero, List.set_cons_succ]
                refine' wpAnyD_take (i := 14) (oi := { dst := some 94, op := Go.Op.binOp Go.BinOp.add 3 (Go.Operand.tmp 93) (Go.Operand.const (Go.Value.int Go.IntKind.i64 1)) 3, type := 3, pos := "law.go:206", after := #[{ on := 13, ground := Go.Ground.data }], guard := none }) (v := _) rfl (by kernel_rfl) (by kernel_rfl) (by kernel_rfl) (fun _ _ _ h => h) (by kernel_rfl) (Or.inl ⟨by rfl, ?hy15⟩) hS0 ?rest15
                case hy15 => (intro W hSw; go_simp; try (with_reducible rfl))
                try simp only [Act.put, List.setIfInBounds_toArray, List.set_cons_zero, List.set_cons_succ]
                refine' wpAnyD_take (i := 15) (oi := { dst := some 95, op := Go.Op.convert 3 41 (Go.Operand.tmp 94), type := 41, pos := "law.go:206", after := #[{ on := 14, ground := Go.Ground.data }], guard := none }) (v := _) rfl (by kernel_rfl) (by kernel_rfl) (by kernel_rfl) (fun _ _ _ h => h) (by kernel_rfl) (Or.inl ⟨by rfl, ?hy16⟩) hS0 ?rest16
                case hy16 => (intro W hSw; go_simp; try (with_reducible rfl))
                try simp only [Act.put, List.setIfInBounds_toArray, List.set_cons_zero, List.set_cons_succ]
                refine' wpAnyD_take (i := 16) (oi := { dst := some 96, op := Go.Op.build 43 #[(0, Go.Operand.tmp 95)], type := 43, pos := "law.go:206", after := #[{ on := 15, ground := Go.Ground.data }], guard := none }) (v := _) rfl (by kernel_rfl) (by kernel_rfl) (by kernel_rfl) (fun _ _ _ h => h) (by kernel_rfl) (Or.inl ⟨by rfl, ?hy17⟩) hS0 ?rest17
                case hy17 => (intro W hSw; go_simp; try (with_reducible rfl))
                try simp only [Act.put, List.setIfInBounds_toArray, List.set_cons_zero, List.set_cons_succ]
                refine' wpAnyD_take (i := 17) (oi := { dst := some 97, op := Go.Op.build 72 #[(0, Go.Operand.tmp 86), (1, Go.Operand.tmp 92), (2, Go.Operand.tmp 96)], type := 72, pos := "law.go:206", after := #[{ on := 6, ground := Go.Ground.data }, { on := 12, ground := Go.Ground.data }, { on := 16, ground := Go.Ground.data }], guard := none }) (v := _) rfl (by kernel_rfl) (by kernel_rfl) (by kernel_rfl) (fun _ _ _ h => h) (by kernel_rfl) (Or.inl ⟨by rfl, ?hy18⟩) hS0 ?rest18
                case hy18 => (intro W hSw; go_simp; try (with_reducible rfl))
                try simp only [Act.put, List.setIfInBounds_toArray, List.set_cons_zero, List.set_cons_succ]
                refine wpAnyD_one (i := 18) (o := { dst := some 98, op := Go.Op.buildSlice 56 1 #[(0, Go.Operand.tmp 97)], type := 56, pos := "law.go:206", after := #[{ on := 17, ground := Go.Ground.data }], guard := none }) (by kernel_rfl) rfl (fun K hK => ?_)
                go_simp
                have hS8 : Below W8.heap.size W8 (wr.drew.alloc (.cells #[.int .i64 z.inn, .int .i64 z.out, .int .u64 ((k : Int) + 1), .int .u64 0, .int .u64 0] 72)) := hS0.trans (((Gr.refl wr.drew).alloc _).below.mono hS0.size)
                refine hK.out _ _ (fun hD => hS8) ?_
                clear hK K
                try simp only [Act.put, List.setIfInBounds_toArray, List.set_cons_zero, List.set_cons_succ]
                refine wpAnyD_one (i := 19) (o := { dst := some 99, op := Go.Op.call { callee := Go.Callee.builtin Go.Builtin.append, args := #[Go.Operand.tmp 80, Go.Operand.tmp 98], argTypes := #[56, 56] }, type := 56, pos := "law.go:206", after := #[{ on := 0, ground := Go.Ground.data }, { on := 18, ground := Go.Ground.data }], guard := none }) (by kernel_rfl) rfl (fun K hK => ?_)
                refine step_app1 EC Tryz.underlying56 infoC rfl (by decide) rfl _ _ rfl W8.heap.size lv ln.length (fl EC ln) rfl (show (wr.drew).ownsRow W8.heap.size 72 5 lv ln.length (fl EC ln) from HRW.out) (⟨z.inn, z.out, (k + 1, 0, 0)⟩ : Con) (by first | rfl | simp) (by have := HLE.out; omega) (by have := HLE.out; unfold maxLen; omega) HBW.out _ rfl _ ?_
                intro g9 c9 w9 h9 k9 n9
                have FIN : Hid (Below W8.heap.size W8 w9 ∧ w9.ownsRow W8.heap.size 72 5 (.slice (some ⟨g9, 0, none⟩) (ln.length + 1) c9) (advC (LL.take (k + 1))).length (fl EC (advC (LL.take (k + 1))))) := by
                  have K9 := Kp.grownBy (S := fun j => lv.ownBlock = some j) k9.out (fun _ h => h)
                  refine ⟨hS0.trans (K9.below hS0.size (fun j e => (owns_rd HRW.out j e).1)), ?_⟩
                  rw [← HNX.out]
                  exact owns_re h9.out (by simp) (by rw [fl_append, fl_one])
                clear h9 k9 n9
                refine hK.out _ _ (fun hD => FIN.out.1) ?_
                clear hK K
                try simp only [Act.put, List.setIfInBounds_toArray, List.set_cons_zero, List.set_cons_succ]
                refine' wpAnyD_take (i := 20) (oi := { dst := some 8, op := Go.Op.assign (Go.Operand.tmp 99), type := 56, pos := "law.go:206", after := #[{ on := 19, ground := Go.Ground.data }, { on := 19, ground := Go.Ground.chain }, { on := 0, ground := Go.Ground.phase }, { on := 1, ground := Go.Ground.phase }, { on := 2, ground := Go.Ground.phase }, { on := 3, ground := Go.Ground.phase }, { on := 4, ground := Go.Ground.phase }, { on := 5, ground := Go.Ground.phase }, { on := 6, ground := Go.Ground.phase }, { on := 7, ground := Go.Ground.phase }, { on := 8, ground := Go.Ground.phase }, { on := 9, ground := Go.Ground.phase }, { on := 10, ground := Go.Ground.phase }, { on := 11, ground := Go.Ground.phase }, { on := 12, ground := Go.Ground.phase }, { on := 13, ground := Go.Ground.phase }, { on := 14, ground := Go.Ground.phase }, { on := 15, ground := Go.Ground.phase }, { on := 16, ground := Go.Ground.phase }, { on := 17, ground := Go.Ground.phase }, { on := 18, ground := Go.Ground.phase }, { on := 19, ground := Go.Ground.phase }], guard := none }) (v := _) rfl (by kernel_rfl) (by kernel_rfl) (by kernel_rfl) (fun _ _ _ h => h) (by kernel_rfl) (Or.inl ⟨by rfl, ?hy21⟩) FIN.out.1 ?rest21
                case hy21 => (intro W hSw; go_simp; try (with_reducible rfl))
                try simp only [Act.put, List.setIfInBounds_toArray, List.set_cons_zero, List.set_cons_succ]
                refine wpAnyD_done (by kernel_rfl) ?_ _
                clear hS0 hS8 HNX HRW HBL HBW HLE HCC c8 l8 f8 hn8 hw1 hw2
                go_wp2_with fail
                go_roundw
                case rel => exact ⟨k + 1, _, by omega, by go_num, rfl, FIN.out⟩
                case measure => simp [RowKit.intOf]; omega
              · have hlkz : ¬ (k : Int) < (dl : Int) := by omega
                obtain rfl : k = dl := by omega
                have hI := HI.out
                rw [List.take_of_length_le (by have := HDL.out; omega)] at hI
                obtain ⟨lq, lm, lc, rfl⟩ := owns_form hI.2
                obtain ⟨elm, hlc⟩ := owns_caps hI.2 _ _ _ rfl
                rw [advC_len, ← HDL.out] at elm
                subst elm
                have hS8 := tk_set hn8 8 (.slice lq lm lc)
                obtain ⟨W9, hW9⟩ : ∃ W, W = wr.setCell ⟨nb, 8, none⟩ (.slice lq lm lc) := ⟨_, rfl⟩
                rw [← hW9] at hS8
                have HW9 : Hid (wr.setCell ⟨nb, 8, none⟩ (.slice lq lm lc) = W9) := hW9.symm
                have HROW9 : Hid (W9.ownsRow W8.heap.size 72 5 (.slice lq lm lc) (advC LL).length (fl EC (advC LL)) ∧ (advC LL).length ≤ lc) := ⟨owns_kp hS8.2 hI.2 (fun j e e2 => owns_ne_blk hI.2 hn8 (by decide) j e e2), hlc⟩
                have HN9 := hid hS8.1
                have HB9 := hid (B8.out.trans ((hI.1.mono B8.out.size).trans (hS8.2.below (Nat.le_trans B8.out.size hI.1.size) (fun j e => by have := HNB.out; omega))))
                clear HI hI hlc hS8 hW9 hn8
                go_upto_region 24 with fail
                rw [HW9.out]
                clear HW9 c8 f8 l8
                have c9 := (tk_store HN9.out).1
                have l9 := tk_lt HN9.out
                have hro := (HROW.out W9 HB9.out)
                have HRO := hid hro
                have co := (tk_store hro.2.2).1
                have lo := tk_lt hro.2.2
                have HNW : Hid (Nl M W9 ⟨⟨8, ((lm : Nat) : Int), 1, [], (0, 0, 0), 0, advC LL, false⟩, none, 0, 0, lq, lm, lc⟩) := ⟨Lz.nil _ _ _, rs_own HROW9.out.1, HROW9.out.2⟩
                have HAD : Hid (NV.n ⟨⟨8, ((lm : Nat) : Int), 1, [], (0, 0, 0), 0, advC LL, false⟩, none, 0, 0, lq, lm, lc⟩ = advN ⟨4, ((lm : Nat) : Int), 1, code, via, bound, conns, start⟩) := by show _ = _; rw [HLL.out]; simp [advN]
                clear hro
                go_wp2_with (at_builtin; refine wpApp1 EV Tryz.underlying22 infoV rfl (by decide) rfl _ _ rfl w.heap.size _ i _ rfl HRO.out.1 ⟨⟨8, ((lm : Nat) : Int), 1, [], (0, 0, 0), 0, advC LL, false⟩, none, 0, 0, lq, lm, lc⟩ (by first | rfl | simp) (by omega) (by unfold maxLen; omega) HRO.out.2.1 _ rfl _ ?_; intro g9 c9 w9 r1 r2 r3; obtain ⟨F9, oc9, of9, ol9⟩ := HAP.out W9 ⟨⟨8, ((lm : Nat) : Int), 1, [], (0, 0, 0), 0, advC LL, false⟩, none, 0, 0, lq, lm, lc⟩ HB9.out HNW.out HAD.out g9 c9 w9 r1 r2; clear r1 r2 r3)
                go_roundw
                case rel => exact ⟨i + 1, by omega, by go_num, F9.out⟩
                case measure => simp [RowKit.intOf]; omega
      · skip
        go_upto_region 10 with fail
        have hNW7 : (((W5.setCell ⟨nb, 4, none⟩ (.int .u64 1)).setCell ⟨nb, 5, none⟩ (.int .u64 0)).setCell ⟨nb, 6, none⟩ (.int .u64 0)).heap[nb]? = some (.cells #[.int .i64 5, .int .i64 ins, .int .i64 outs, .slice cq cm cc, .int .u64 1, .int .u64 0, .int .u64 0, .int .u64 (bound : Nat), .slice dq dm dc, .bool start] 58 (0, 0)) ∧ Kp (fun k => k = nb) W5 (((W5.setCell ⟨nb, 4, none⟩ (.int .u64 1)).setCell ⟨nb, 5, none⟩ (.int .u64 0)).setCell ⟨nb, 6, none⟩ (.int .u64 0)) := ba3 P5.out.1 (.int .u64 1) (.int .u64 0) (.int .u64 0)
        obtain ⟨W7, hW7⟩ : ∃ W, W = (((W5.setCell ⟨nb, 4, none⟩ (.int .u64 1)).setCell ⟨nb, 5, none⟩ (.int .u64 0)).setCell ⟨nb, 6, none⟩ (.int .u64 0)) := ⟨_, rfl⟩
        rw [← hW7] at hNW7 ⊢
        have c7 := (tk_store hNW7.1).1
        have l7 := tk_lt hNW7.1
        have hb7 : Below wr.heap.size wr W7 := P5.out.2.trans (hNW7.2.below P5.out.2.size (fun j e => by have := HNB.out; omega))
        clear hNW7 hW7 c5 f5 l5
        have hro := (HROW.out W7 hb7)
        have HRO := hid hro
        have co := (tk_store hro.2.2).1
        have lo := tk_lt hro.2.2
        have HNW : Hid (Nl M W7 ⟨⟨5, ins, outs, code, (1, 0, 0), bound, conns, start⟩, cq, cm, cc, dq, dm, dc⟩) := ⟨HNR.out.1.code.below hb7, ⟨((HNR.out.1.conns.below hb7).up (Nat.le_trans HMM.out (HROW.out _ hb7).2.1)), by rcases HNR.out.1.conns with ⟨_, h2⟩ | ⟨h2, _⟩; exact Or.inr fun k e => Or.inl (h2 k e); exact Or.inl h2⟩, HNR.out.2⟩
        have HAD : Hid (NV.n ⟨⟨5, ins, outs, code, (1, 0, 0), bound, conns, start⟩, cq, cm, cc, dq, dm, dc⟩ = advN ⟨5, ins, outs, code, via, bound, conns, start⟩) := by show _ = _; simp [advN]
        clear hro
        go_wp2_with (at_builtin; refine wpApp1 EV Tryz.underlying22 infoV rfl (by decide) rfl _ _ rfl w.heap.size _ i _ rfl HRO.out.1 ⟨⟨5, ins, outs, code, (1, 0, 0), bound, conns, start⟩, cq, cm, cc, dq, dm, dc⟩ (by first | rfl | simp) (by omega) (by unfold maxLen; omega) HRO.out.2.1 _ rfl _ ?_; intro g9 c9 w9 r1 r2 r3; obtain ⟨F9, oc9, of9, ol9⟩ := HAP.out W7 ⟨⟨5, ins, outs, code, (1, 0, 0), bound, conns, start⟩, cq, cm, cc, dq, dm, dc⟩ hb7 HNW.out HAD.out g9 c9 w9 r1 r2; clear r1 r2 r3)
        go_roundw
        case rel => exact ⟨i + 1, by omega, by go_num, F9.out⟩
        case measure => simp [RowKit.intOf]; omega
      · skip
        go_upto_region 8 with fail
        have hNW6 : ((((((((((W5.setCell ⟨nb, 0, none⟩ (.int .i64 5)).setCell ⟨nb, 1, none⟩ (.int .i64 1)).setCell ⟨nb, 2, none⟩ (.int .i64 1)).setCell ⟨nb, 3, none⟩ (.slice none 0 0)).setCell ⟨nb, 4, none⟩ (.int .u64 0)).setCell ⟨nb, 5, none⟩ (.int .u64 0)).setCell ⟨nb, 6, none⟩ (.int .u64 0)).setCell ⟨nb, 7, none⟩ (.int .u64 0)).setCell ⟨nb, 8, none⟩ (.slice none 0 0)).setCell ⟨nb, 9, none⟩ (.bool false)).heap[nb]? = some (.cells #[.int .i64 5, .int .i64 1, .int .i64 1, .slice none 0 0, .int .u64 0, .int .u64 0, .int .u64 0, .int .u64 0, .slice none 0 0, .bool false] 58 (0, 0)) ∧ Kp (fun k => k = nb) W5 ((((((((((W5.setCell ⟨nb, 0, none⟩ (.int .i64 5)).setCell ⟨nb, 1, none⟩ (.int .i64 1)).setCell ⟨nb, 2, none⟩ (.int .i64 1)).setCell ⟨nb, 3, none⟩ (.slice none 0 0)).setCell ⟨nb, 4, none⟩ (.int .u64 0)).setCell ⟨nb, 5, none⟩ (.int .u64 0)).setCell ⟨nb, 6, none⟩ (.int .u64 0)).setCell ⟨nb, 7, none⟩ (.int .u64 0)).setCell ⟨nb, 8, none⟩ (.slice none 0 0)).setCell ⟨nb, 9, none⟩ (.bool false)) := fill10 P5.out.1 (.int .i64 5) (.int .i64 1) (.int .i64 1) (.slice none 0 0) (.int .u64 0) (.int .u64 0) (.int .u64 0) (.int .u64 0) (.slice none 0 0) (.bool false)
        obtain ⟨W6, hW6⟩ : ∃ W, W = ((((((((((W5.setCell ⟨nb, 0, none⟩ (.int .i64 5)).setCell ⟨nb, 1, none⟩ (.int .i64 1)).setCell ⟨nb, 2, none⟩ (.int .i64 1)).setCell ⟨nb, 3, none⟩ (.slice none 0 0)).setCell ⟨nb, 4, none⟩ (.int .u64 0)).setCell ⟨nb, 5, none⟩ (.int .u64 0)).setCell ⟨nb, 6, none⟩ (.int .u64 0)).setCell ⟨nb, 7, none⟩ (.int .u64 0)).setCell ⟨nb, 8, none⟩ (.slice none 0 0)).setCell ⟨nb, 9, none⟩ (.bool false)) := ⟨_, rfl⟩
        rw [← hW6] at hNW6 ⊢
        have c6 := (tk_store hNW6.1).1
        have f6 := (tk_store hNW6.1).2
        have l6 := tk_lt hNW6.1
        have HB6 : Hid (Below wr.heap.size wr W6) := P5.out.2.trans (hNW6.2.below P5.out.2.size (fun j e => by have := HNB.out; omega))
        have HN6 := hid hNW6.1
        clear hNW6 hW6 c5 f5 l5
        go_upto_region 10 with fail
        have hNW7 : (((W6.setCell ⟨nb, 4, none⟩ (.int .u64 1)).setCell ⟨nb, 5, none⟩ (.int .u64 0)).setCell ⟨nb, 6, none⟩ (.int .u64 0)).heap[nb]? = some (.cells #[.int .i64 5, .int .i64 1, .int .i64 1, .slice none 0 0, .int .u64 1, .int .u64 0, .int .u64 0, .int .u64 0, .slice none 0 0, .bool false] 58 (0, 0)) ∧ Kp (fun k => k = nb) W6 (((W6.setCell ⟨nb, 4, none⟩ (.int .u64 1)).setCell ⟨nb, 5, none⟩ (.int .u64 0)).setCell ⟨nb, 6, none⟩ (.int .u64 0)) := ba3 HN6.out (.int .u64 1) (.int .u64 0) (.int .u64 0)
        obtain ⟨W7, hW7⟩ : ∃ W, W = (((W6.setCell ⟨nb, 4, none⟩ (.int .u64 1)).setCell ⟨nb, 5, none⟩ (.int .u64 0)).setCell ⟨nb, 6, none⟩ (.int .u64 0)) := ⟨_, rfl⟩
        rw [← hW7] at hNW7 ⊢
        have c7 := (tk_store hNW7.1).1
        have l7 := tk_lt hNW7.1
        have hb7 : Below wr.heap.size wr W7 := HB6.out.trans (hNW7.2.below HB6.out.size (fun j e => by have := HNB.out; omega))
        clear hNW7 hW7 c6 f6 l6 HN6
        have hro := (HROW.out W7 hb7)
        have HRO := hid hro
        have co := (tk_store hro.2.2).1
        have lo := tk_lt hro.2.2
        have HNW : Hid (Nl M W7 ⟨⟨5, 1, 1, [], (1, 0, 0), 0, [], false⟩, none, 0, 0, none, 0, 0⟩) := ⟨Lz.nil _ _ _, ⟨Lz.nil _ _ _, Or.inl rfl⟩, Nat.le_refl _⟩
        have HAD : Hid (NV.n ⟨⟨5, 1, 1, [], (1, 0, 0), 0, [], false⟩, none, 0, 0, none, 0, 0⟩ = advN ⟨6, ins, outs, code, via, bound, conns, start⟩) := by show _ = _; simp [advN]
        clear hro
        go_wp2_with (at_builtin; refine wpApp1 EV Tryz.underlying22 infoV rfl (by decide) rfl _ _ rfl w.heap.size _ i _ rfl HRO.out.1 ⟨⟨5, 1, 1, [], (1, 0, 0), 0, [], false⟩, none, 0, 0, none, 0, 0⟩ (by first | rfl | simp) (by omega) (by unfold maxLen; omega) HRO.out.2.1 _ rfl _ ?_; intro g9 c9 w9 r1 r2 r3; obtain ⟨F9, oc9, of9, ol9⟩ := HAP.out W7 ⟨⟨5, 1, 1, [], (1, 0, 0), 0, [], false⟩, none, 0, 0, none, 0, 0⟩ hb7 HNW.out HAD.out g9 c9 w9 r1 r2; clear r1 r2 r3)
        go_roundw
        case rel => exact ⟨i + 1, by omega, by go_num, F9.out⟩
        case measure => simp [RowKit.intOf]; omega
      · skip
        have hro := (HROW.out W5 P5.out.2)
        have HRO := hid hro
        have co := (tk_store hro.2.2).1
        have lo := tk_lt hro.2.2
        have HNW : Hid (Nl M W5 ⟨⟨7, ins, outs, code, via, bound, conns, start⟩, cq, cm, cc, dq, dm, dc⟩) := ⟨HNR.out.1.code.below P5.out.2, ⟨((HNR.out.1.conns.below P5.out.2).up (Nat.le_trans HMM.out (HROW.out _ P5.out.2).2.1)), by rcases HNR.out.1.conns with ⟨_, h2⟩ | ⟨h2, _⟩; exact Or.inr fun k e => Or.inl (h2 k e); exact Or.inl h2⟩, HNR.out.2⟩
        have HAD : Hid (NV.n ⟨⟨7, ins, outs, code, via, bound, conns, start⟩, cq, cm, cc, dq, dm, dc⟩ = advN ⟨7, ins, outs, code, via, bound, conns, start⟩) := by show _ = _; simp [advN]
        clear hro
        go_wp2_with (at_builtin; refine wpApp1 EV Tryz.underlying22 infoV rfl (by decide) rfl _ _ rfl w.heap.size _ i _ rfl HRO.out.1 ⟨⟨7, ins, outs, code, via, bound, conns, start⟩, cq, cm, cc, dq, dm, dc⟩ (by first | rfl | simp) (by omega) (by unfold maxLen; omega) HRO.out.2.1 _ rfl _ ?_; intro g9 c9 w9 r1 r2 r3; obtain ⟨F9, oc9, of9, ol9⟩ := HAP.out W5 ⟨⟨7, ins, outs, code, via, bound, conns, start⟩, cq, cm, cc, dq, dm, dc⟩ P5.out.2 HNW.out HAD.out g9 c9 w9 r1 r2; clear r1 r2 r3)
        go_roundw
        case rel => exact ⟨i + 1, by omega, by go_num, F9.out⟩
        case measure => simp [RowKit.intOf]; omega
      · skip
        obtain ⟨pp, ccc, eform⟩ := HNR.out.1.conns.form
        simp only [Value.slice.injEq] at eform
        obtain ⟨rfl, hdm, rfl⟩ := eform
        have hl16 : conns.length ≤ 16 := HL16.out
        obtain ⟨LL, hLL⟩ : ∃ l, l = conns := ⟨_, rfl⟩
        obtain ⟨dl, hdl⟩ : ∃ n, n = dm := ⟨_, rfl⟩
        rw [← hdl] at P5 hdm c5 ⊢
        have HDL : Hid (dl = LL.length) := by show _ = _; rw [hLL]; exact hdm
        have hd16 : dl ≤ 16 := by omega
        obtain ⟨W8, hW8⟩ : ∃ W, W = W5 := ⟨_, rfl⟩
        rw [← hW8] at P5 c5 f5 l5 ⊢
        have N8 : Hid (W8.heap[nb]? = some (.cells #[.int .i64 8, .int .i64 ins, .int .i64 outs, .slice cq cm cc, .int .u64 (via.1 : Nat), .int .u64 (via.2.1 : Nat), .int .u64 (via.2.2 : Nat), .int .u64 (bound : Nat), .slice dq dl dc, .bool start] 58 (0, 0))) := P5.out.1
        have B8 := hid P5.out.2
        have LS : Hid (Lz EC W8.heap.size W8 (.slice dq dl dc) LL) := by rw [hLL, hdl]; exact ((HNR.out.1.conns.below B8.out).up (Nat.le_trans HMM.out (HROW.out _ B8.out).2.1))
        have c8 := (tk_store N8.out).1
        have f8 := (tk_store N8.out).2
        have l8 := tk_lt N8.out
        have HLL := hid hLL
        clear c5 f5 l5 hW8 hdm hdl hLL
        go_wp2_with fail
        go_loopw [8, 9] (fun s8 s9 wr => ∃ (k : Nat) (lv : Value), k ≤ dl ∧ s9 = .int .i64 (k : Nat) ∧ lv = s8 ∧ Hid (Below W8.heap.size W8 wr ∧ wr.ownsRow W8.heap.size 72 5 lv (advC (LL.take k)).length (fl EC (advC (LL.take k))))) (fun _ s9 _ => dl - (RowKit.intOf s9).toNat)
        case atStart => exact ⟨0, _, Nat.zero_le _, rfl, rfl, Below.refl _ _, World.ownsRow_nil _ _ _ _⟩
        case round =>
          clear c8 l8 f8
          obtain ⟨k, lv, hk, rfl, rfl, HI⟩ := hrel
          have hn8 := (HI.out.1.block _ (tk_lt N8.out)).trans N8.out
          have c8 := (tk_store hn8).1
          have f8 := (tk_store hn8).2
          have l8 := tk_lt hn8
          by_cases hlk : k < dl
          · have hlkz : (k : Int) < (dl : Int) := by omega
            have hk0 : (0 : Int) ≤ (k : Int) := by omega
            obtain ⟨z, hz⟩ : ∃ z, LL[k]? = some z := ⟨LL[k]'(by have := HDL.out; omega), by simp⟩
            obtain ⟨b2, o2, q2, ev2, zz2, y0, y1, -, -, -⟩ := ls_atC (LS.out.ls hz) hz
            simp only [Value.slice.injEq] at ev2
            obtain ⟨rfl, -, rfl⟩ := ev2
            have HCC : Hid (W8.cell? ⟨b2, o2 + k * 5, none⟩ = some (.int .i64 z.inn) ∧ W8.cell? ⟨b2, o2 + k * 5 + 1, none⟩ = some (.int .i64 z.out) ∧ b2 < W8.heap.size) := ⟨y0, y1, zz2⟩
            obtain ⟨ln, hln⟩ : ∃ l, l = advC (LL.take k) := ⟨_, rfl⟩
            have HNX : Hid (ln ++ [⟨z.inn, z.out, (k + 1, 0, 0)⟩] = advC (LL.take (k + 1))) := by show _ = _; rw [hln, advC_snoc hz]
            have hI := HI.out
            rw [← hln] at hI
            have HRW := hid hI.2
            have HBL := hid hI.1
            have HBW := hid hI.1.size
            have HLE : Hid (ln.length ≤ 16) := by show _ ≤ _; rw [hln, advC_len, List.length_take]; omega
            have hw1 : IntKind.i64.wrap ((k : Int) + 1) = (k : Int) + 1 := by rw [IntKind.wrap_i64]; omega
            have hw2 : IntKind.u64.wrap ((k : Int) + 1) = (k : Int) + 1 := by rw [IntKind.wrap_u64]; omega
            clear HI hI hln hz y0 y1 zz2
            go_upto_region 22 with fail
            have hS0 : Below W8.heap.size W8 wr.drew := HBL.out.trans ((Gr.refl wr).drew.below.mono HBW.out)
            refine wp_regionD (S := fun W => Below W8.heap.size W8 W) (D := []) hmx ?_
            refine' wpAnyD_take (i := 0) (oi := { dst := some 80, op := Go.Op.move (Go.Operand.tmp 8), type := 56, pos := "law.go:206", after := #[], guard := none }) (v := _) rfl (by kernel_rfl) (by kernel_rfl) (by kernel_rfl) (fun _ _ _ h => h) (by kernel_rfl) (Or.inl ⟨by rfl, ?hy22⟩) hS0 ?rest22
            case hy22 => (intro W hSw; go_simp; try (with_reducible rfl))
            try simp only [Act.put, List.setIfInBounds_toArray, List.set_cons_zero, List.set_cons_succ]
            refine' wpAnyD_take (i := 1) (oi := { dst := some 81, op := Go.Op.fieldAddr 58 (Go.Operand.tmp 5) 6, type := 0, pos := "law.go:206", after := #[], guard := none }) (v := _) rfl (by kernel_rfl) (by kernel_rfl) (by kernel_rfl) (fun _ _ _ h => h) (by kernel_rfl) (Or.inl ⟨by rfl, ?hy23⟩) hS0 ?rest23
            case hy23 => (intro W hSw; have hb := (hSw.block _ (tk_lt N8.out)).trans N8.out; have hc := (tk_store hb).1; have hl := tk_lt hb; go_simp; try (with_reducible rfl))
            try simp only [Act.put, List.setIfInBounds_toArray, List.set_cons_zero, List.set_cons_succ]
            refine' wpAnyD_take (i := 2) (oi := { dst := some 82, op := Go.Op.load 56 (Go.Operand.tmp 81), type := 56, pos := "law.go:206", after := #[{ on := 1, ground := Go.Ground.data }], guard := none }) (v := _) rfl (by kernel_rfl) (by kernel_rfl) (by kernel_rfl) (fun _ _ _ h => h) (by kernel_rfl) (Or.inl ⟨by rfl, ?hy24⟩) hS0 ?rest24
            case hy24 => (intro W hSw; have hb := (hSw.block _ (tk_lt N8.out)).trans N8.out; have hc := (tk_store hb).1; have hl := tk_lt hb; go_simp; try (with_reducible rfl))
            try simp only [Act.put, List.setIfInBounds_toArray, List.set_cons_zero, List.set_cons_succ]
            refine' wpAnyD_take (i := 3) (oi := { dst := some 83, op := Go.Op.move (Go.Operand.tmp 9), type := 3, pos := "law.go:206", after := #[], guard := none }) (v := _) rfl (by kernel_rfl) (by kernel_rfl) (by kernel_rfl) (fun _ _ _ h => h) (by kernel_rfl) (Or.inl ⟨by rfl, ?hy25⟩) hS0 ?rest25
            case hy25 => (intro W hSw; go_simp; try (with_reducible rfl))
            try simp only [Act.put, List.setIfInBounds_toArray, List.set_cons_zero, List.set_cons_succ]
            refine' wpAnyD_take (i := 4) (oi := { dst := some 84, op := Go.Op.indexAddr 56 (Go.Operand.tmp 82) (Go.Operand.tmp 83), type := 0, pos := "law.go:206", after := #[{ on := 2, ground := Go.Ground.data }, { on := 3, ground := Go.Ground.data }], guard := none }) (v := _) rfl (by kernel_rfl) (by kernel_rfl) (by kernel_rfl) (fun _ _ _ h => h) (by kernel_rfl) (Or.inl ⟨by rfl, ?hy26⟩) hS0 ?rest26
            case hy26 => (intro W hSw; go_simp; try (with_reducible rfl))
            try simp only [Act.put, List.setIfInBounds_toArray, List.set_cons_zero, List.set_cons_succ]
            refine' wpAnyD_take (i := 5) (oi := { dst := some 85, op := Go.Op.fieldAddr 72 (Go.Operand.tmp 84) 0, type := 0, pos := "law.go:206", after := #[{ on := 4, ground := Go.Ground.data }], guard := none }) (v := _) rfl (by kernel_rfl) (by kernel_rfl) (by kernel_rfl) (fun _ _ _ h => h) (by kernel_rfl) (Or.inl ⟨by rfl, ?hy27⟩) hS0 ?rest27
            case hy27 => (intro W hSw; go_simp; try (with_reducible rfl))
            try simp only [Act.put, List.setIfInBounds_toArray, List.set_cons_zero, List.set_cons_succ]
            refine' wpAnyD_take (i := 6) (oi := { dst := some 86, op := Go.Op.load 3 (Go.Operand.tmp 85), type := 3, pos := "law.go:206", after := #[{ on := 5, ground := Go.Ground.data }], guard := none }) (v := _) rfl (by kernel_rfl) (by kernel_rfl) (by kernel_rfl) (fun _ _ _ h => h) (by kernel_rfl) (Or.inl ⟨by rfl, ?hy28⟩) hS0 ?rest28
            case hy28 => (intro W hSw; have hc := (hSw.cell (p := ⟨b2, o2 + k * 5, none⟩) HCC.out.2.2).trans HCC.out.1; have hl := Nat.lt_of_lt_of_le HCC.out.2.2 hSw.size; go_simp; try (with_reducible rfl))
            try simp only [Act.put, List.setIfInBounds_toArray, List.set_cons_zero, List.set_cons_succ]
            refine' wpAnyD_take (i := 7) (oi := { dst := some 87, op := Go.Op.fieldAddr 58 (Go.Operand.tmp 5) 6, type := 0, pos := "law.go:206", after := #[], guard := none }) (v := _) rfl (by kernel_rfl) (by kernel_rfl) (by kernel_rfl) (fun _ _ _ h => h) (by kernel_rfl) (Or.inl ⟨by rfl, ?hy29⟩) hS0 ?rest29
            case hy29 => (intro W hSw; have hb := (hSw.block _ (tk_lt N8.out)).trans N8.out; have hc := (tk_store hb).1; have hl := tk_lt hb; go_simp; try (with_reducible rfl))
            try simp only [Act.put, List.setIfInBounds_toArray, List.set_cons_zero, List.set_cons_succ]
            refine' wpAnyD_take (i := 8) (oi := { dst := some 88, op := Go.Op.load 56 (Go.Operand.tmp 87), type := 56, pos := "law.go:206", after := #[{ on := 7, ground := Go.Ground.data }], guard := none }) (v := _) rfl (by kernel_rfl) (by kernel_rfl) (by kernel_rfl) (fun _ _ _ h => h) (by kernel_rfl) (Or.inl ⟨by rfl, ?hy30⟩) hS0 ?rest30
            case hy30 => (intro W hSw; have hb := (hSw.block _ (tk_lt N8.out)).trans N8.out; have hc := (tk_store hb).1; have hl := tk_lt hb; go_simp; try (with_reducible rfl))
            try simp only [Act.put, List.setIfInBounds_toArray, List.set_cons_zero, List.set_cons_succ]
            refine' wpAnyD_take (i := 9) (oi := { dst := some 89, op := Go.Op.move (Go.Operand.tmp 9), type := 3, pos := "law.go:206", after := #[], guard := none }) (v := _) rfl (by kernel_rfl) (by kernel_rfl) (by kernel_rfl) (fun _ _ _ h => h) (by kernel_rfl) (Or.inl ⟨by rfl, ?hy31⟩) hS0 ?rest31
            case hy31 => (intro W hSw; go_simp; try (with_reducible rfl))
            try simp only [Act.put, List.setIfInBounds_toArray, List.set_cons_zero, List.set_cons_succ]
            refine' wpAnyD_take (i := 10) (oi := { dst := some 90, op := Go.Op.indexAddr 56 (Go.Operand.tmp 88) (Go.Operand.tmp 89), type := 0, pos := "law.go:206", after := #[{ on := 8, ground := Go.Ground.data }, { on := 9, ground := Go.Ground.data }], guard := none }) (v := _) rfl (by kernel_rfl) (by kernel_rfl) (by kernel_rfl) (fun _ _ _ h => h) (by kernel_rfl) (Or.inl ⟨by rfl, ?hy32⟩) hS0 ?rest32
            case hy32 => (intro W hSw; go_simp; try (with_reducible rfl))
            try simp only [Act.put, List.setIfInBounds_toArray, List.set_cons_zero, List.set_cons_succ]
            refine' wpAnyD_take (i := 11) (oi := { dst := some 91, op := Go.Op.fieldAddr 72 (Go.Operand.tmp 90) 1, type := 0, pos := "law.go:206", after := #[{ on := 10, ground := Go.Ground.data }], guard := none }) (v := _) rfl (by kernel_rfl) (by kernel_rfl) (by kernel_rfl) (fun _ _ _ h => h) (by kernel_rfl) (Or.inl ⟨by rfl, ?hy33⟩) hS0 ?rest33
            case hy33 => (intro W hSw; go_simp; try (with_reducible rfl))
            try simp only [Act.put, List.setIfInBounds_toArray, List.set_cons_zero, List.set_cons_succ]
            refine' wpAnyD_take (i := 12) (oi := { dst := some 92, op := Go.Op.load 3 (Go.Operand.tmp 91), type := 3, pos := "law.go:206", after := #[{ on := 11, ground := Go.Ground.data }], guard := none }) (v := _) rfl (by kernel_rfl) (by kernel_rfl) (by kernel_rfl) (fun _ _ _ h => h) (by kernel_rfl) (Or.inl ⟨by rfl, ?hy34⟩) hS0 ?rest34
            case hy34 => (intro W hSw; have hc := (hSw.cell (p := ⟨b2, o2 + k * 5 + 1, none⟩) HCC.out.2.2).trans HCC.out.2.1; have hl := Nat.lt_of_lt_of_le HCC.out.2.2 hSw.size; go_simp; try (with_reducible rfl))
            try simp only [Act.put, List.setIfInBounds_toArray, List.set_cons_zero, List.set_cons_succ]
            refine' wpAnyD_take (i := 13) (oi := { dst := some 93, op := Go.Op.move (Go.Operand.tmp 9), type := 3, pos := "law.go:206", after := #[], guard := none }) (v := _) rfl (by kernel_rfl) (by kernel_rfl) (by kernel_rfl) (fun _ _ _ h => h) (by kernel_rfl) (Or.inl ⟨by rfl, ?hy35⟩) hS0 ?rest35
            case hy35 => (intro W hSw; go_simp; try (with_reducible rfl))
            try simp only [Act.put, List.setIfInBounds_toArray, List.set_cons_zero, List.set_cons_succ]
            refine' wpAnyD_take (i := 14) (oi := { dst := some 94, op := Go.Op.binOp Go.BinOp.add 3 (Go.Operand.tmp 93) (Go.Operand.const (Go.Value.int Go.IntKind.i64 1)) 3, type := 3, pos := "law.go:206", after := #[{ on := 13, ground := Go.Ground.data }], guard := none }) (v := _) rfl (by kernel_rfl) (by kernel_rfl) (by kernel_rfl) (fun _ _ _ h => h) (by kernel_rfl) (Or.inl ⟨by rfl, ?hy36⟩) hS0 ?rest36
            case hy36 => (intro W hSw; go_simp; try (with_reducible rfl))
            try simp only [Act.put, List.setIfInBounds_toArray, List.set_cons_zero, List.set_cons_succ]
            refine' wpAnyD_take (i := 15) (oi := { dst := some 95, op := Go.Op.convert 3 41 (Go.Operand.tmp 94), type := 41, pos := "law.go:206", after := #[{ on := 14, ground := Go.Ground.data }], guard := none }) (v := _) rfl (by kernel_rfl) (by kernel_rfl) (by kernel_rfl) (fun _ _ _ h => h) (by kernel_rfl) (Or.inl ⟨by rfl, ?hy37⟩) hS0 ?rest37
            case hy37 => (intro W hSw; go_simp; try (with_reducible rfl))
            try simp only [Act.put, List.setIfInBounds_toArray, List.set_cons_zero, List.set_cons_succ]
            refine' wpAnyD_take (i := 16) (oi := { dst := some 96, op := Go.Op.build 43 #[(0, Go.Operand.tmp 95)], type := 43, pos := "law.go:206", after := #[{ on := 15, ground := Go.Ground.data }], guard := none }) (v := _) rfl (by kernel_rfl) (by kernel_rfl) (by kernel_rfl) (fun _ _ _ h => h) (by kernel_rfl) (Or.inl ⟨by rfl, ?hy38⟩) hS0 ?rest38
            case hy38 => (intro W hSw; go_simp; try (with_reducible rfl))
            try simp only [Act.put, List.setIfInBounds_toArray, List.set_cons_zero, List.set_cons_succ]
            refine' wpAnyD_take (i := 17) (oi := { dst := some 97, op := Go.Op.build 72 #[(0, Go.Operand.tmp 86), (1, Go.Operand.tmp 92), (2, Go.Operand.tmp 96)], type := 72, pos := "law.go:206", after := #[{ on := 6, ground := Go.Ground.data }, { on := 12, ground := Go.Ground.data }, { on := 16, ground := Go.Ground.data }], guard := none }) (v := _) rfl (by kernel_rfl) (by kernel_rfl) (by kernel_rfl) (fun _ _ _ h => h) (by kernel_rfl) (Or.inl ⟨by rfl, ?hy39⟩) hS0 ?rest39
            case hy39 => (intro W hSw; go_simp; try (with_reducible rfl))
            try simp only [Act.put, List.setIfInBounds_toArray, List.set_cons_zero, List.set_cons_succ]
            refine wpAnyD_one (i := 18) (o := { dst := some 98, op := Go.Op.buildSlice 56 1 #[(0, Go.Operand.tmp 97)], type := 56, pos := "law.go:206", after := #[{ on := 17, ground := Go.Ground.data }], guard := none }) (by kernel_rfl) rfl (fun K hK => ?_)
            go_simp
            have hS8 : Below W8.heap.size W8 (wr.drew.alloc (.cells #[.int .i64 z.inn, .int .i64 z.out, .int .u64 ((k : Int) + 1), .int .u64 0, .int .u64 0] 72)) := hS0.trans (((Gr.refl wr.drew).alloc _).below.mono hS0.size)
            refine hK.out _ _ (fun hD => hS8) ?_
            clear hK K
            try simp only [Act.put, List.setIfInBounds_toArray, List.set_cons_zero, List.set_cons_succ]
            refine wpAnyD_one (i := 19) (o := { dst := some 99, op := Go.Op.call { callee := Go.Callee.builtin Go.Builtin.append, args := #[Go.Operand.tmp 80, Go.Operand.tmp 98], argTypes := #[56, 56] }, type := 56, pos := "law.go:206", after := #[{ on := 0, ground := Go.Ground.data }, { on := 18, ground := Go.Ground.data }], guard := none }) (by kernel_rfl) rfl (fun K hK => ?_)
            refine step_app1 EC Tryz.underlying56 infoC rfl (by decide) rfl _ _ rfl W8.heap.size lv ln.length (fl EC ln) rfl (show (wr.drew).ownsRow W8.heap.size 72 5 lv ln.length (fl EC ln) from HRW.out) (⟨z.inn, z.out, (k + 1, 0, 0)⟩ : Con) (by first | rfl | simp) (by have := HLE.out; omega) (by have := HLE.out; unfold maxLen; omega) HBW.out _ rfl _ ?_
            intro g9 c9 w9 h9 k9 n9
            have FIN : Hid (Below W8.heap.size W8 w9 ∧ w9.ownsRow W8.heap.size 72 5 (.slice (some ⟨g9, 0, none⟩) (ln.length + 1) c9) (advC (LL.take (k + 1))).length (fl EC (advC (LL.take (k + 1))))) := by
              have K9 := Kp.grownBy (S := fun j => lv.ownBlock = some j) k9.out (fun _ h => h)
              refine ⟨hS0.trans (K9.below hS0.size (fun j e => (owns_rd HRW.out j e).1)), ?_⟩
              rw [← HNX.out]
              exact owns_re h9.out (by simp) (by rw [fl_append, fl_one])
            clear h9 k9 n9
            refine hK.out _ _ (fun hD => FIN.out.1) ?_
            clear hK K
            try simp only [Act.put, List.setIfInBounds_toArray, List.set_cons_zero, List.set_cons_succ]
            refine' wpAnyD_take (i := 20) (oi := { dst := some 8, op := Go.Op.assign (Go.Operand.tmp 99), type := 56, pos := "law.go:206", after := #[{ on := 19, ground := Go.Ground.data }, { on := 19, ground := Go.Ground.chain }, { on := 0, ground := Go.Ground.phase }, { on := 1, ground := Go.Ground.phase }, { on := 2, ground := Go.Ground.phase }, { on := 3, ground := Go.Ground.phase }, { on := 4, ground := Go.Ground.phase }, { on := 5, ground := Go.Ground.phase }, { on := 6, ground := Go.Ground.phase }, { on := 7, ground := Go.Ground.phase }, { on := 8, ground := Go.Ground.phase }, { on := 9, ground := Go.Ground.phase }, { on := 10, ground := Go.Ground.phase }, { on := 11, ground := Go.Ground.phase }, { on := 12, ground := Go.Ground.phase }, { on := 13, ground := Go.Ground.phase }, { on := 14, ground := Go.Ground.phase }, { on := 15, ground := Go.Ground.phase }, { on := 16, ground := Go.Ground.phase }, { on := 17, ground := Go.Ground.phase }, { on := 18, ground := Go.Ground.phase }, { on := 19, ground := Go.Ground.phase }], guard := none }) (v := _) rfl (by kernel_rfl) (by kernel_rfl) (by kernel_rfl) (fun _ _ _ h => h) (by kernel_rfl) (Or.inl ⟨by rfl, ?hy42⟩) FIN.out.1 ?rest42
            case hy42 => (intro W hSw; go_simp; try (with_reducible rfl))
            try simp only [Act.put, List.setIfInBounds_toArray, List.set_cons_zero, List.set_cons_succ]
            refine wpAnyD_done (by kernel_rfl) ?_ _
            clear hS0 hS8 HNX HRW HBL HBW HLE HCC c8 l8 f8 hn8 hw1 hw2
            go_wp2_with fail
            go_roundw
            case rel => exact ⟨k + 1, _, by omega, by go_num, rfl, FIN.out⟩
            case measure => simp [RowKit.intOf]; omega
          · have hlkz : ¬ (k : Int) < (dl : Int) := by omega
            obtain rfl : k = dl := by omega
            have hI := HI.out
            rw [List.take_of_length_le (by have := HDL.out; omega)] at hI
            obtain ⟨lq, lm, lc, rfl⟩ := owns_form hI.2
            obtain ⟨elm, hlc⟩ := owns_caps hI.2 _ _ _ rfl
            rw [advC_len, ← HDL.out] at elm
            subst elm
            have hS8 := tk_set hn8 8 (.slice lq lm lc)
            obtain ⟨W9, hW9⟩ : ∃ W, W = wr.setCell ⟨nb, 8, none⟩ (.slice lq lm lc) := ⟨_, rfl⟩
            rw [← hW9] at hS8
            have HW9 : Hid (wr.setCell ⟨nb, 8, none⟩ (.slice lq lm lc) = W9) := hW9.symm
            have HROW9 : Hid (W9.ownsRow W8.heap.size 72 5 (.slice lq lm lc) (advC LL).length (fl EC (advC LL)) ∧ (advC LL).length ≤ lc) := ⟨owns_kp hS8.2 hI.2 (fun j e e2 => owns_ne_blk hI.2 hn8 (by decide) j e e2), hlc⟩
            have HN9 := hid hS8.1
            have HB9 := hid (B8.out.trans ((hI.1.mono B8.out.size).trans (hS8.2.below (Nat.le_trans B8.out.size hI.1.size) (fun j e => by have := HNB.out; omega))))
            clear HI hI hlc hS8 hW9 hn8
            go_upto_region 24 with fail
            rw [HW9.out]
            clear HW9 c8 f8 l8
            have c9 := (tk_store HN9.out).1
            have l9 := tk_lt HN9.out
            have hro := (HROW.out W9 HB9.out)
            have HRO := hid hro
            have co := (tk_store hro.2.2).1
            have lo := tk_lt hro.2.2
            have HNW : Hid (Nl M W9 ⟨⟨8, ins, outs, code, via, bound, advC LL, start⟩, cq, cm, cc, lq, lm, lc⟩) := ⟨HNR.out.1.code.below HB9.out, rs_own HROW9.out.1, HROW9.out.2⟩
            have HAD : Hid (NV.n ⟨⟨8, ins, outs, code, via, bound, advC LL, start⟩, cq, cm, cc, lq, lm, lc⟩ = advN ⟨8, ins, outs, code, via, bound, conns, start⟩) := by show _ = _; rw [HLL.out]; simp [advN]
            clear hro
            go_wp2_with (at_builtin; refine wpApp1 EV Tryz.underlying22 infoV rfl (by decide) rfl _ _ rfl w.heap.size _ i _ rfl HRO.out.1 ⟨⟨8, ins, outs, code, via, bound, advC LL, start⟩, cq, cm, cc, lq, lm, lc⟩ (by first | rfl | simp) (by omega) (by unfold maxLen; omega) HRO.out.2.1 _ rfl _ ?_; intro g9 c9 w9 r1 r2 r3; obtain ⟨F9, oc9, of9, ol9⟩ := HAP.out W9 ⟨⟨8, ins, outs, code, via, bound, advC LL, start⟩, cq, cm, cc, lq, lm, lc⟩ HB9.out HNW.out HAD.out g9 c9 w9 r1 r2; clear r1 r2 r3)
            go_roundw
            case rel => exact ⟨i + 1, by omega, by go_num, F9.out⟩
            case measure => simp [RowKit.intOf]; omega
    · have hltz : ¬ (i : Int) < (nl : Int) := by omega
      obtain rfl : i = nl := by omega
      have HMP : Hid (gof a ys es = advG (gof a xs es)) := by
        show _ = _
        rw [List.take_of_length_le (by have := HNL.out.1; omega)] at hmp
        unfold advG
        simp only [gof, Gph.mk.injEq, true_and, and_true]
        rw [hmp, List.map_map]
        rfl
      have A1 := hid hav
      have HYL : Hid (ys.length ≤ 24) := by
        have h := congrArg List.length hmp
        rw [List.length_map, List.length_map, List.length_take] at h
        show _ ≤ _
        omega
      clear hav hmp
      go_wp2_with fail
      clear cx lx
      go_loopw [10] (fun s10 wr => ∃ k : Nat, k ≤ el ∧ s10 = .int .i64 (k : Nat) ∧ Hid (∃ ev', Av w M gx ob a (.slice qn i cn) (.slice qe el ce) nv' ev' ys (es.take k) wr)) (fun s10 _ => el - (RowKit.intOf s10).toNat)
      case atStart => exact ⟨0, Nat.zero_le _, rfl, _, A1.out⟩
      case round =>
        clear A1
        obtain ⟨k, hk, rfl, HI⟩ := hrel
        obtain ⟨ev', hav⟩ := HI.out
        clear HI
        have cx := (tk_store hav.raw).1
        have lx := tk_lt hav.raw
        obtain ⟨q', m', c', hq'⟩ := owns_form hav.edges
        obtain ⟨q2', m2', c2', hq2'⟩ := owns_form hav.nodes
        subst hq'
        subst hq2'
        by_cases hlk : k < el
        · have hlkz : (k : Int) < (el : Int) := by omega
          have hk0 : (0 : Int) ≤ (k : Int) := by omega
          obtain ⟨z, hz⟩ : ∃ z, es[k]? = some z := ⟨es[k]'(by have := HNL.out.2; omega), by simp⟩
          have hle := (HG.out wr hav.bl).edges
          obtain ⟨b2, o2, q2, ev2, zz2, y0, y1, y2, y3, y4⟩ := ls_atD (hle.ls hz) hz
          simp only [Value.slice.injEq] at ev2
          obtain ⟨rfl, -, rfl⟩ := ev2
          have hbM : b2 < M := by
            rcases hle with ⟨_, h2⟩ | ⟨h2, _⟩
            · exact h2 b2 rfl
            · rw [h2] at hz
              simp at hz
          have hdl : (es.take k).length = k := by rw [List.length_take]; have := HNL.out.2; omega
          have HNX : Hid (es.take k ++ [z] = es.take (k + 1)) := by show _ = _; rw [List.take_add_one, hz]; rfl
          have HAV := hid hav
          have HROW : Hid (wr.ownsRow w.heap.size 74 5 (.slice q' m' c') k (fl ED (es.take k)) ∧ w.heap.size ≤ wr.heap.size) := ⟨owns_re hav.edges hdl rfl, hav.bl.size⟩
          have HS : Hid ((∀ i, wr.cell? ⟨ob, i, none⟩ = (gvc a (.slice q2' m2' c2') (.slice q' m' c'))[i]?) ∧ ob < wr.heap.size ∧ (∀ j, wr.cell? ⟨gx, j, none⟩ = (gvc a (.slice qn i cn) (.slice (some ⟨b2, o2, none⟩) el ce))[j]?) ∧ gx < wr.heap.size ∧ b2 < wr.heap.size ∧ wr.cell? ⟨b2, o2 + k * 5, none⟩ = some (.int .i64 z.src) ∧ wr.cell? ⟨b2, o2 + k * 5 + 1, none⟩ = some (.int .i64 z.out) ∧ wr.cell? ⟨b2, o2 + k * 5 + 2, none⟩ = some (.int .i64 z.dst) ∧ wr.cell? ⟨b2, o2 + k * 5 + 3, none⟩ = some (.int .i64 z.inn) ∧ wr.cell? ⟨b2, o2 + k * 5 + 4, none⟩ = some (.bool z.keyed)) := ⟨(tk_store hav.oth).1, tk_lt hav.oth, cx, lx, zz2, y0, y1, y2, y3, y4⟩
          have HBM : Hid (b2 < M) := hbM
          have hdl9 := hid hdl
          clear hav hle hz hdl hbM y0 y1 y2 y3 y4 zz2
          go_upto_region 28 with fail
          have hS0 : (∀ i, (wr.drew).cell? ⟨ob, i, none⟩ = (gvc a (.slice q2' m2' c2') (.slice q' m' c'))[i]?) ∧ ob < (wr.drew).heap.size ∧ (∀ j, (wr.drew).cell? ⟨gx, j, none⟩ = (gvc a (.slice qn i cn) (.slice (some ⟨b2, o2, none⟩) el ce))[j]?) ∧ gx < (wr.drew).heap.size ∧ b2 < (wr.drew).heap.size ∧ (wr.drew).cell? ⟨b2, o2 + k * 5, none⟩ = some (.int .i64 z.src) ∧ (wr.drew).cell? ⟨b2, o2 + k * 5 + 1, none⟩ = some (.int .i64 z.out) ∧ (wr.drew).cell? ⟨b2, o2 + k * 5 + 2, none⟩ = some (.int .i64 z.dst) ∧ (wr.drew).cell? ⟨b2, o2 + k * 5 + 3, none⟩ = some (.int .i64 z.inn) ∧ (wr.drew).cell? ⟨b2, o2 + k * 5 + 4, none⟩ = some (.bool z.keyed) := HS.out
          refine wp_regionD (S := fun W => (∀ i, W.cell? ⟨ob, i, none⟩ = (gvc a (.slice q2' m2' c2') (.slice q' m' c'))[i]?) ∧ ob < W.heap.size ∧ (∀ j, W.cell? ⟨gx, j, none⟩ = (gvc a (.slice qn i cn) (.slice (some ⟨b2, o2, none⟩) el ce))[j]?) ∧ gx < W.heap.size ∧ b2 < W.heap.size ∧ W.cell? ⟨b2, o2 + k * 5, none⟩ = some (.int .i64 z.src) ∧ W.cell? ⟨b2, o2 + k * 5 + 1, none⟩ = some (.int .i64 z.out) ∧ W.cell? ⟨b2, o2 + k * 5 + 2, none⟩ = some (.int .i64 z.dst) ∧ W.cell? ⟨b2, o2 + k * 5 + 3, none⟩ = some (.int .i64 z.inn) ∧ W.cell? ⟨b2, o2 + k * 5 + 4, none⟩ = some (.bool z.keyed)) (D := [10]) hmx ?_
          refine' wpAnyD_take (i := 0) (oi := { dst := some 115, op := Go.Op.fieldAddr 25 (Go.Operand.tmp 3) 2, type := 0, pos := "law.go:213", after := #[], guard := none }) (v := _) rfl (by kernel_rfl) (by kernel_rfl) (by kernel_rfl) (fun _ _ _ h => h) (by kernel_rfl) (Or.inl ⟨by rfl, ?hy43⟩) hS0 ?rest43
          case hy43 => (intro W hSw; have hc := hSw.1; have hl := hSw.2.1; go_simp; try (with_reducible rfl))
          try simp only [Act.put, List.setIfInBounds_toArray, List.set_cons_zero, List.set_cons_succ]
          refine' wpAnyD_take (i := 1) (oi := { dst := some 116, op := Go.Op.load 23 (Go.Operand.tmp 115), type := 23, pos := "law.go:213", after := #[{ on := 0, ground := Go.Ground.data }], guard := none }) (v := _) rfl (by kernel_rfl) (by kernel_rfl) (by kernel_rfl) (fun _ _ _ h => h) (by kernel_rfl) (Or.inl ⟨by rfl, ?hy44⟩) hS0 ?rest44
          case hy44 => (intro W hSw; have hc := hSw.1; have hl := hSw.2.1; go_simp; try (with_reducible rfl))
          try simp only [Act.put, List.setIfInBounds_toArray, List.set_cons_zero, List.set_cons_succ]
          refine' wpAnyD_take (i := 2) (oi := { dst := some 117, op := Go.Op.fieldAddr 25 (Go.Operand.tmp 1) 2, type := 0, pos := "law.go:213", after := #[], guard := none }) (v := _) rfl (by kernel_rfl) (by kernel_rfl) (by kernel_rfl) (fun _ _ _ h => h) (by kernel_rfl) (Or.inl ⟨by rfl, ?hy45⟩) hS0 ?rest45
          case hy45 => (intro W hSw; have hc := hSw.2.2.1; have hl := hSw.2.2.2.1; go_simp; try (with_reducible rfl))
          try simp only [Act.put, List.setIfInBounds_toArray, List.set_cons_zero, List.set_cons_succ]
          refine' wpAnyD_take (i := 3) (oi := { dst := some 118, op := Go.Op.load 23 (Go.Operand.tmp 117), type := 23, pos := "law.go:213", after := #[{ on := 2, ground := Go.Ground.data }], guard := none }) (v := _) rfl (by kernel_rfl) (by kernel_rfl) (by kernel_rfl) (fun _ _ _ h => h) (by kernel_rfl) (Or.inl ⟨by rfl, ?hy46⟩) hS0 ?rest46
          case hy46 => (intro W hSw; have hc := hSw.2.2.1; have hl := hSw.2.2.2.1; go_simp; try (with_reducible rfl))
          try simp only [Act.put, List.setIfInBounds_toArray, List.set_cons_zero, List.set_cons_succ]
          refine' wpAnyD_take (i := 4) (oi := { dst := some 119, op := Go.Op.move (Go.Operand.tmp 10), type := 3, pos := "law.go:213", after := #[], guard := none }) (v := _) rfl (by kernel_rfl) (by kernel_rfl) (by kernel_rfl) (fun _ _ _ h => h) (by kernel_rfl) (Or.inl ⟨by rfl, ?hy47⟩) hS0 ?rest47
          case hy47 => (intro W hSw; go_simp; try (with_reducible rfl))
          try simp only [Act.put, List.setIfInBounds_toArray, List.set_cons_zero, List.set_cons_succ]
          refine' wpAnyD_take (i := 5) (oi := { dst := some 120, op := Go.Op.indexAddr 23 (Go.Operand.tmp 118) (Go.Operand.tmp 119), type := 0, pos := "law.go:213", after := #[{ on := 3, ground := Go.Ground.data }, { on := 4, ground := Go.Ground.data }], guard := none }) (v := _) rfl (by kernel_rfl) (by kernel_rfl) (by kernel_rfl) (fun _ _ _ h => h) (by kernel_rfl) (Or.inl ⟨by rfl, ?hy48⟩) hS0 ?rest48
          case hy48 => (intro W hSw; go_simp; try (with_reducible rfl))
          try simp only [Act.put, List.setIfInBounds_toArray, List.set_cons_zero, List.set_cons_succ]
          refine' wpAnyD_take (i := 6) (oi := { dst := some 121, op := Go.Op.load 74 (Go.Operand.tmp 120), type := 74, pos := "law.go:213", after := #[{ on := 5, ground := Go.Ground.data }], guard := none }) (v := _) rfl (by kernel_rfl) (by kernel_rfl) (by kernel_rfl) (fun _ _ _ h => h) (by kernel_rfl) (Or.inl ⟨by rfl, ?hy49⟩) hS0 ?rest49
          case hy49 => (intro W hSw; obtain ⟨_, _, _, _, hl, h0, h1, h2, h3, h4⟩ := hSw; go_simp; try (with_reducible rfl))
          try simp only [Act.put, List.setIfInBounds_toArray, List.set_cons_zero, List.set_cons_succ]
          refine wpAnyD_one (i := 7) (o := { dst := some 122, op := Go.Op.buildSlice 23 1 #[(0, Go.Operand.tmp 121)], type := 23, pos := "law.go:213", after := #[{ on := 6, ground := Go.Ground.data }], guard := none }) (by kernel_rfl) rfl (fun K hK => ?_)
          go_simp
          have b6 := ((Gr.refl wr).drew.alloc (.cells (ecells z) 74)).below
          have hS7 := (show _ ∧ _ ∧ _ ∧ _ ∧ _ ∧ _ ∧ _ ∧ _ ∧ _ ∧ _ from ⟨fun i => (b6.cell (p := ⟨ob, i, none⟩) HS.out.2.1).trans (HS.out.1 i), Nat.lt_of_lt_of_le HS.out.2.1 b6.size, fun j => (b6.cell (p := ⟨gx, j, none⟩) HS.out.2.2.2.1).trans (HS.out.2.2.1 j), Nat.lt_of_lt_of_le HS.out.2.2.2.1 b6.size, Nat.lt_of_lt_of_le HS.out.2.2.2.2.1 b6.size, (b6.cell (p := ⟨b2, o2 + k * 5, none⟩) HS.out.2.2.2.2.1).trans HS.out.2.2.2.2.2.1, (b6.cell (p := ⟨b2, o2 + k * 5 + 1, none⟩) HS.out.2.2.2.2.1).trans HS.out.2.2.2.2.2.2.1, (b6.cell (p := ⟨b2, o2 + k * 5 + 2, none⟩) HS.out.2.2.2.2.1).trans HS.out.2.2.2.2.2.2.2.1, (b6.cell (p := ⟨b2, o2 + k * 5 + 3, none⟩) HS.out.2.2.2.2.1).trans HS.out.2.2.2.2.2.2.2.2.1, (b6.cell (p := ⟨b2, o2 + k * 5 + 4, none⟩) HS.out.2.2.2.2.1).trans HS.out.2.2.2.2.2.2.2.2.2⟩)
          clear b6
          refine hK.out _ _ (fun hD => hS7) ?_
          clear hK K
          try simp only [Act.put, List.setIfInBounds_toArray, List.set_cons_zero, List.set_cons_succ]
          refine wpAnyD_one (i := 8) (o := { dst := some 123, op := Go.Op.call { callee := Go.Callee.builtin Go.Builtin.append, args := #[Go.Operand.tmp 116, Go.Operand.tmp 122], argTypes := #[23, 23] }, type := 23, pos := "law.go:213", after := #[{ on := 1, ground := Go.Ground.data }, { on := 7, ground := Go.Ground.data }], guard := none }) (by kernel_rfl) rfl (fun K hK => ?_)
          refine step_app1 ED Tryz.underlying23 infoD rfl (by decide) rfl _ _ rfl w.heap.size (.slice q' m' c') k (fl ED (es.take k)) rfl (show (wr.drew).ownsRow w.heap.size 74 5 (.slice q' m' c') k (fl ED (es.take k)) from HROW.out.1) z (by first | rfl | simp) (by omega) (by unfold maxLen; omega) HROW.out.2 _ rfl _ ?_
          intro g9 c9 w9 h9 k9 n9
          have hnx : Av w M gx ob a (.slice qn i cn) (.slice (some ⟨b2, o2, none⟩) el ce) (.slice q2' m2' c2') (.slice (some ⟨g9, 0, none⟩) (k + 1) c9) ys (es.take (k + 1)) (w9.setCell ⟨ob, 2, none⟩ (.slice (some ⟨g9, 0, none⟩) (k + 1) c9)) ∧ (∀ i, w9.cell? ⟨ob, i, none⟩ = (gvc a (.slice q2' m2' c2') (.slice q' m' c'))[i]?) ∧ (∀ i, w9.frozen? ⟨ob, i, none⟩ = false) ∧ ob < w9.heap.size ∧ w9.heap[gx]? = some (.cells (gvc a (.slice qn i cn) (.slice (some ⟨b2, o2, none⟩) el ce)) 25 (0, 0)) := by
            have r1 := h9.out
            have h := (HAV.out.below (Gr.refl wr).drew.below).edge (g9 := g9) (c9 := c9) (w9 := w9) HMM.out (d := z) (by rw [hdl9.out]; exact r1) k9.out
            rw [hdl9.out, HNX.out] at h
            exact h
          have K9 := Kp.grownBy (S := fun j => (Value.slice q' m' c').ownBlock = some j) k9.out (fun _ h => h)
          have hc9 : ∀ (o : Nat) (u : Value), wr.cell? ⟨b2, o, none⟩ = some u → w9.cell? ⟨b2, o, none⟩ = some u := fun o u hu => (K9.cell (b := b2) (o := o) HS.out.2.2.2.2.1 (fun e => by have h1 := (owns_rd HROW.out.1 b2 e).1; have h2 := HBM.out; have h3 := HMM.out; omega)).trans hu
          have hS8 := (show _ ∧ _ ∧ _ ∧ _ ∧ _ ∧ _ ∧ _ ∧ _ ∧ _ ∧ _ from ⟨hnx.2.1, hnx.2.2.2.1, (tk_store hnx.2.2.2.2).1, tk_lt hnx.2.2.2.2, Nat.lt_of_lt_of_le HS.out.2.2.2.2.1 K9.size, hc9 _ _ HS.out.2.2.2.2.2.1, hc9 _ _ HS.out.2.2.2.2.2.2.1, hc9 _ _ HS.out.2.2.2.2.2.2.2.1, hc9 _ _ HS.out.2.2.2.2.2.2.2.2.1, hc9 _ _ HS.out.2.2.2.2.2.2.2.2.2⟩)
          have HX9 := hid hnx
          clear h9 k9 n9 K9 hc9 hnx
          refine hK.out _ _ (fun hD => hS8) ?_
          clear hK K
          try simp only [Act.put, List.setIfInBounds_toArray, List.set_cons_zero, List.set_cons_succ]
          refine' wpAnyD_take (i := 9) (oi := { dst := some 124, op := Go.Op.fieldAddr 25 (Go.Operand.tmp 3) 2, type := 0, pos := "law.go:213", after := #[{ on := 0, ground := Go.Ground.phase }, { on := 1, ground := Go.Ground.phase }, { on := 2, ground := Go.Ground.phase }, { on := 3, ground := Go.Ground.phase }, { on := 4, ground := Go.Ground.phase }, { on := 5, ground := Go.Ground.phase }, { on := 6, ground := Go.Ground.phase }, { on := 7, ground := Go.Ground.phase }, { on := 8, ground := Go.Ground.phase }], guard := none }) (v := _) rfl (by kernel_rfl) (by kernel_rfl) (by kernel_rfl) (fun _ _ _ h => h) (by kernel_rfl) (Or.inl ⟨by rfl, ?hy52⟩) hS8 ?rest52
          case hy52 => (intro W hSw; have hc := hSw.1; have hl := hSw.2.1; go_simp; try (with_reducible rfl))
          try simp only [Act.put, List.setIfInBounds_toArray, List.set_cons_zero, List.set_cons_succ]
          refine wpAnyD_one (i := 10) (o := { dst := none, op := Go.Op.store 23 (Go.Operand.tmp 124) (Go.Operand.tmp 123), type := 0, pos := "law.go:213", after := #[{ on := 9, ground := Go.Ground.data }, { on := 8, ground := Go.Ground.data }, { on := 8, ground := Go.Ground.chain }, { on := 0, ground := Go.Ground.phase }, { on := 1, ground := Go.Ground.phase }, { on := 2, ground := Go.Ground.phase }, { on := 3, ground := Go.Ground.phase }, { on := 4, ground := Go.Ground.phase }, { on := 5, ground := Go.Ground.phase }, { on := 6, ground := Go.Ground.phase }, { on := 7, ground := Go.Ground.phase }, { on := 8, ground := Go.Ground.phase }], guard := none }) (by kernel_rfl) rfl (fun K hK => ?_)
          have c9' := HX9.out.2.1
          have f9' := HX9.out.2.2.1
          have l9' := HX9.out.2.2.2.1
          go_simp
          have FIN : Hid (∃ ev', Av w M gx ob a (.slice qn i cn) (.slice (some ⟨b2, o2, none⟩) el ce) (.slice q2' m2' c2') ev' ys (es.take (k + 1)) (w9.setCell ⟨ob, 2, none⟩ (.slice (some ⟨g9, 0, none⟩) (k + 1) c9))) := ⟨_, HX9.out.1⟩
          generalize (w9.setCell ⟨ob, 2, none⟩ (.slice (some ⟨g9, 0, none⟩) (k + 1) c9)) = w12 at FIN ⊢
          clear c9' f9' l9' 
          refine hK.out _ _ (fun hD => absurd (by decide) hD) ?_
          clear hK K
          try simp only [Act.put, List.setIfInBounds_toArray, List.set_cons_zero, List.set_cons_succ]
          refine wpAnyD_done (by kernel_rfl) ?_ _
          clear hS0 hS7 hS8 HX9 HS HROW HAV HNX hdl9 HBM cx lx
          go_wp2_with fail
          go_roundw
          case rel => exact ⟨k + 1, by omega, by go_num, FIN.out⟩
          case measure => simp [RowKit.intOf]; omega
        · have hlkz : ¬ (k : Int) < (el : Int) := by omega
          have h := hav
          rw [List.take_of_length_le (by have := HNL.out.2; omega)] at h
          have hOKa := adv_ok HOK.out
          have hgr : GR wr.heap.size wr (.slice q2' m2' c2') (.slice q' m' c') ys es := by
            refine ⟨owns_lz (E := EV) h.nodes, owns_lz (E := ED) h.edges, fun y hy => ⟨(h.each y hy).1.up (Nat.le_trans HMM.out h.bl.size), (h.each y hy).2.1.1⟩, fun y hy => ?_, ?_⟩
            · have := hOKa.lists y.n (by rw [← HMP.out]; exact List.mem_map_of_mem hy)
              omega
            · have h1 := HYL.out
              have h2 := HNL.out.2
              omega
          have hcap : Gcap (.slice q' m' c') ys := ⟨fun p n c e => by
            have := owns_caps h.edges _ _ _ rfl
            simp only [Value.slice.injEq] at e
            omega, fun y hy => ⟨(h.each y hy).2.2, by have := hOKa.lists y.n (by rw [← HMP.out]; exact List.mem_map_of_mem hy); omega⟩⟩
          have hnew := new_any (a := a) wr hgr hcap
          rw [HMP.out] at hnew
          have co := (tk_store h.oth).1
          have lo := tk_lt h.oth
          have HBL := hid h.bl
          have HOA := hid hOKa
          clear h hav hgr hcap hOKa
          go_wp2_with fail
          refine hnew.mono ?_
          clear hnew co lo cx lx
          rintro r w3 ⟨hb3, e3, t3, hfl3, hr3⟩
          obtain rfl : e3 = 0 := hfl3.ok.2 HOA.out
          rcases hr3 with ⟨h0, _⟩ | ⟨_, gb, rfl, hm⟩
          · exact absurd rfl h0
          have B3 : Hid (Below w.heap.size w w3) := HBL.out.trans (hb3.mono HBL.out.size)
          have HM3 := hid hm
          have hord := order_any w3 hm HOA.out
          clear hb3 hfl3 hm
          go_wp2_with fail
          refine hord.mono ?_
          clear hord
          rintro r w4 ⟨hb4, hr4⟩
          obtain ⟨oo, ff, eo⟩ := adv_ord HOK.out
          rcases hr4 with ⟨e4, _⟩ | ⟨o4, f4, d4, _, rfl, hrow4⟩
          · rw [eo] at e4
            cases e4
          obtain ⟨q4, m4, c4, rfl⟩ := owns_form hrow4
          have hfind := find_any w4 (HM3.out.below hb4) HOA.out
          have B4 : Hid (Below w.heap.size w w4) := B3.out.trans (hb4.mono B3.out.size)
          clear eo hrow4 hb4
          go_wp2_with fail
          refine hfind.mono ?_
          clear hfind
          rintro r w5 ⟨fv, rfl, hb5, hrow5⟩
          obtain ⟨q5, m5, c5, rfl⟩ := owns_form hrow5
          obtain ⟨em, _⟩ := owns_caps hrow5 _ _ _ rfl
          rw [adv_find HOK.out] at em
          subst em
          have FIN : Hid (Below w.heap.size w w5) := B4.out.trans (hb5.mono B4.out.size)
          clear hrow5 hb5
          go_wp2_with fail
          go_ret
          exact ⟨by first | rfl | simp, FIN.out⟩
end Go.Proofs.YtngnfglnfkhheaaGreat.Df
