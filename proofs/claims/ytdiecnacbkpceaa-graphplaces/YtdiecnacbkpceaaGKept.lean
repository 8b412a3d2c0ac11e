import Derived.Test.YtdiecnacbkpceaaGSame2
import Derived.Test.YtdiecnacbkpceaaGTwin
import Derived.BigQuiet
namespace Go.Proofs.Ytdiecnacbkpceaa.Df
open Go.RowKit Go.Sort
attribute [local go_sem ↓] Go.wp_at_zero Go.wp_at_succ

theorem wrapi {n : Nat} (h : n ≤ 140737488355328) : IntKind.i64.wrap ((n : Int) + 1) = (n : Int) + 1 := by
  rw [IntKind.wrap_i64]
  omega
/-- The first cell of a mark. -/
theorem mk_atV {w : World} {v : Value} {l : List NV} {m : NV} {T : TypeId} (h : Mk EV T w v l m) : ∃ g cap, v = .slice (some ⟨g, 0, none⟩) l.length cap ∧ l.length + 1 ≤ cap ∧ g < w.heap.size ∧ w.cell? ⟨g, l.length * 10, none⟩ = some (.int .i64 m.n.kind) := by
  obtain ⟨g, cap, hv, hc, hl⟩ := h.more
  obtain ⟨b1, o1, c1, e1, z1, x0, -⟩ := ls_atV hl (show (l ++ [m])[l.length]? = some m by simp)
  simp only [Value.slice.injEq, Option.some.injEq, Addr.mk.injEq] at e1
  obtain ⟨⟨rfl, rfl, -⟩, -, rfl⟩ := e1
  rw [Nat.zero_add] at x0
  exact ⟨g, cap, hv, hc, z1, x0⟩
theorem mk_atD {w : World} {v : Value} {l : List Edg} {m : Edg} {T : TypeId} (h : Mk ED T w v l m) : ∃ g cap, v = .slice (some ⟨g, 0, none⟩) l.length cap ∧ l.length + 1 ≤ cap ∧ g < w.heap.size ∧ w.cell? ⟨g, l.length * 5, none⟩ = some (.int .i64 m.src) := by
  obtain ⟨g, cap, hv, hc, hl⟩ := h.more
  obtain ⟨b1, o1, c1, e1, z1, x0, -⟩ := ls_atD hl (show (l ++ [m])[l.length]? = some m by simp)
  simp only [Value.slice.injEq, Option.some.injEq, Addr.mk.injEq] at e1
  obtain ⟨⟨rfl, rfl, -⟩, -, rfl⟩ := e1
  rw [Nat.zero_add] at x0
  exact ⟨g, cap, hv, hc, z1, x0⟩
theorem mk_atO {w : World} {v : Value} {l : List Opd} {m : Opd} {T : TypeId} (h : Mk EO T w v l m) : ∃ g cap, v = .slice (some ⟨g, 0, none⟩) l.length cap ∧ l.length + 1 ≤ cap ∧ g < w.heap.size ∧ w.cell? ⟨g, l.length * 2, none⟩ = some (.int .i64 m.kind) := by
  obtain ⟨g, cap, hv, hc, hl⟩ := h.more
  obtain ⟨b1, o1, c1, e1, z1, hx⟩ := hl.get (show (l ++ [m])[l.length]? = some m by simp)
  simp only [Value.slice.injEq, Option.some.injEq, Addr.mk.injEq] at e1
  obtain ⟨⟨rfl, rfl, -⟩, -, rfl⟩ := e1
  have x0 := hx 0 _ (by decide) rfl
  rw [Nat.zero_add] at x0
  exact ⟨g, cap, hv, hc, z1, x0⟩
theorem mk_atC {w : World} {v : Value} {l : List Con} {m : Con} {T : TypeId} (h : Mk EC T w v l m) : ∃ g cap, v = .slice (some ⟨g, 0, none⟩) l.length cap ∧ l.length + 1 ≤ cap ∧ g < w.heap.size ∧ w.cell? ⟨g, l.length * 5, none⟩ = some (.int .i64 m.inn) := by
  obtain ⟨g, cap, hv, hc, hl⟩ := h.more
  obtain ⟨b1, o1, c1, e1, z1, hx⟩ := hl.get (show (l ++ [m])[l.length]? = some m by simp)
  simp only [Value.slice.injEq, Option.some.injEq, Addr.mk.injEq] at e1
  obtain ⟨⟨rfl, rfl, -⟩, -, rfl⟩ := e1
  have x0 := hx 0 _ (by decide) rfl
  rw [Nat.zero_add] at x0
  exact ⟨g, cap, hv, hc, z1, x0⟩
/-- A twin: each list with its mark. -/
structure Tw (w : World) (nv ev : Value) (ys : List NV) (es : List Edg) : Prop where
  nds : Mk EV 39 w nv ys mV
  eds : Mk ED 47 w ev es mD
  each : ∀ y ∈ ys, Mk EO 72 w y.cv y.n.code mO ∧ Mk EC 64 w y.dv y.n.conns mC
theorem Tw.below {w w' : World} {nv ev : Value} {ys : List NV} {es : List Edg} (h : Tw w nv ev ys es) (hb : Below w.heap.size w w') : Tw w' nv ev ys es :=
  ⟨h.nds.below hb, h.eds.below hb, fun y hy => ⟨(h.each y hy).1.below hb, (h.each y hy).2.below hb⟩⟩
theorem Tw.gr {w : World} {nv ev : Value} {ys : List NV} {es : List Edg} (h : Tw w nv ev ys es) (hb : (∀ x ∈ ys, x.n.code.length ≤ 140737488355328 ∧ x.n.conns.length ≤ 140737488355328) ∧ ys.length ≤ 140737488355328 ∧ es.length ≤ 140737488355328) : GR w.heap.size w nv ev ys es :=
  ⟨h.nds.lz, h.eds.lz, fun x hx => ⟨(h.each x hx).1.lz, (h.each x hx).2.lz⟩, hb.1, hb.2⟩
set_option maxRecDepth 100000 in
set_option maxHeartbeats 8000000 in
theorem kept_any {M : Nat} {nv ev nv' ev' : Value} {a : Int} {xs ys : List NV} {es : List Edg} (hxy : ys.map NV.n = xs.map NV.n) (w : World) (hT : Tw w nv ev ys es) (hx : GR M w nv' ev' xs es) : Calls Try.prog 15 #[.agg (gvc a nv ev), .agg (gvc a nv' ev')] w fun e w' => e = .returned (.bool true) ∧ Gr w w' := by
  have hmx : Try.prog.follows .mixedOrders = true := by kernel_rfl
  have hlen : ys.length = xs.length := by simpa using congrArg List.length hxy
  have hbig : (∀ x ∈ ys, x.n.code.length ≤ 140737488355328 ∧ x.n.conns.length ≤ 140737488355328) ∧ ys.length ≤ 140737488355328 ∧ es.length ≤ 140737488355328 := by
    refine ⟨fun y hy => ?_, by rw [hlen]; exact hx.wide.1, hx.wide.2⟩
    obtain ⟨i, hi⟩ := List.mem_iff_getElem?.1 hy
    obtain ⟨x, hxi⟩ : ∃ x, xs[i]? = some x := ⟨xs[i]'(by rw [← hlen]; exact (List.getElem?_eq_some_iff.1 hi).1), by simp⟩
    rw [n_at hxy hi hxi]
    exact hx.big x (List.mem_of_getElem? hxi)
  have hwide := hbig.2
  have HSM := hid (fun (W : World) (hg : Gr w W) => same_eq (M := max M w.heap.size) (a := a) hxy W (((hT.gr hbig).up (Nat.le_max_right _ _)).below hg.below) ((hx.up (Nat.le_max_left _ _)).below hg.below))
  have HTW := hid hT
  have HBG := hid hbig.1
  obtain ⟨gn, cn, hnv, hcn, z1, x1⟩ := mk_atV hT.nds
  obtain ⟨ge, ce, hev, hce, z2, x2⟩ := mk_atD hT.eds
  subst hnv
  subst hev
  obtain ⟨pn', cn', rfl⟩ := hx.nodes.form
  obtain ⟨pe', ce', rfl⟩ := hx.edges.form
  rw [← hlen] at HSM ⊢
  generalize hyl : ys.length = nl at *
  generalize hel : es.length = el at *
  have HYL := hid hyl
  clear hx hT hxy hlen hbig hyl hel
  obtain ⟨W1, hW1⟩ : ∃ W1, W1 = (w.alloc (.cells (gvc a (.slice (some ⟨gn, 0, none⟩) nl cn) (.slice (some ⟨ge, 0, none⟩) el ce)) 25)).alloc (.cells (gvc a (.slice pn' nl cn') (.slice pe' el ce')) 25) := ⟨_, rfl⟩
  obtain ⟨B0, B1, G1⟩ : Hid (W1.heap[w.heap.size]? = some (.cells (gvc a (.slice (some ⟨gn, 0, none⟩) nl cn) (.slice (some ⟨ge, 0, none⟩) el ce)) 25 (0, 0))) ∧ Hid (W1.heap[w.heap.size + 1]? = some (.cells (gvc a (.slice pn' nl cn') (.slice pe' el ce')) 25 (0, 0))) ∧ Hid (Gr w W1) := by
    rw [hW1]
    exact ⟨new1 w _ _, new2 w _ _, ((Gr.refl w).alloc _).alloc _⟩
  have HW1 : Hid ((w.alloc (.cells #[.int .i64 a, .slice (some ⟨gn, 0, none⟩) nl cn, .slice (some ⟨ge, 0, none⟩) el ce] 25)).alloc (.cells #[.int .i64 a, .slice pn' nl cn', .slice pe' el ce'] 25) = W1) := hW1.symm
  clear hW1
  have y1 := (G1.out.cell (o := nl * 10) z1).trans x1
  have y2 := (G1.out.cell (o := el * 5) z2).trans x2
  have u1 := Nat.lt_of_lt_of_le z1 G1.out.size
  have u2 := Nat.lt_of_lt_of_le z2 G1.out.size
  have q0 := (tk_store B0.out).1
  have q1 := (tk_store B1.out).1
  have l0 := tk_lt B0.out
  have l1 := tk_lt B1.out
  have hsm : ∀ (n : Nat) (os : Array Obj), Calls Try.prog 22 #[.agg (gvc a (.slice (some ⟨gn, 0, none⟩) nl cn) (.slice (some ⟨ge, 0, none⟩) el ce)), .agg (gvc a (.slice pn' nl cn') (.slice pe' el ce'))] (grow (W1.drewN n) os) fun e w' => e = .returned (.bool true) ∧ Gr (grow (W1.drewN n) os) w' := fun n os => HSM.out _ (G1.out.trans ⟨n, os, rfl⟩)
  have hgc : ∀ (n : Nat) (os : Array Obj) (b o : Nat), b < W1.heap.size → (grow (W1.drewN n) os).cell? ⟨b, o, none⟩ = W1.cell? ⟨b, o, none⟩ := fun n os b o hb => Gr.cell (w := W1) (v := grow (W1.drewN n) os) ⟨n, os, rfl⟩ hb
  have hn1 : (nl : Int) < (nl : Int) + 1 := by omega
  have he1 : (el : Int) < (el : Int) + 1 := by omega
  have hwn := wrapi hwide.1
  have hwe := wrapi hwide.2
  have htn : ((nl : Int) + 1).toNat = nl + 1 := by omega
  have hte : ((el : Int) + 1).toNat = el + 1 := by omega
  have hcn1 : (nl : Int) + 1 ≤ (cn : Int) := by omega
  have hce1 : (el : Int) + 1 ≤ (ce : Int) := by omega
  have hn0 : (0 : Int) ≤ (nl : Int) + 1 := by omega
  have he0 : (0 : Int) ≤ (el : Int) + 1 := by omega
  clear x1 x2 z1 z2 HSM
  go_enter Try.func15, Try.ntmps15
  go_upto_region 1 with fail
  rw [HW1.out]
  clear HW1
  go_quiet_grown (first | (go_at_call 22; refine Calls.grown_of (hsm _ _)))
  have G2 : Hid (Gr W1 (grow (W1.drewN nq) osq)) := ⟨nq, osq, rfl⟩
  generalize grow (W1.drewN nq) osq = W2 at G2 ⊢
  clear hsm hgc y1 y2 u1 u2 q0 q1 hwn hwe htn hte hcn1 hce1 hn0 he0 hn1 he1
  go_wp2_with fail
  go_loopw [5] (fun s5 wr => ∃ k : Nat, k ≤ nl ∧ s5 = .int .i64 (k : Nat) ∧ Hid (Gr W1 wr)) (fun s5 _ => nl - (RowKit.intOf s5).toNat)
  case atStart => exact ⟨0, Nat.zero_le _, rfl, G2.out⟩
  case round =>
    clear G2
    obtain ⟨k, hk, rfl, HR⟩ := hrel
    have hb0 := (HR.out.below.block _ (tk_lt B0.out)).trans B0.out
    have hb1 := (HR.out.below.block _ (tk_lt B1.out)).trans B1.out
    have c0 := (tk_store hb0).1
    have c1 := (tk_store hb1).1
    have m0 := tk_lt hb0
    have m1 := tk_lt hb1
    clear hb0 hb1
    have GW := hid (G1.out.trans HR.out)
    by_cases hlt : k < nl
    · have hltz : (k : Int) < (nl : Int) := by omega
      have hk0 : (0 : Int) ≤ (k : Int) := by omega
      obtain ⟨y, hy⟩ : ∃ y, ys[k]? = some y := ⟨ys[k]'(by have := HYL.out; omega), by simp⟩
      have HT := hid (HTW.out.below GW.out.below)
      obtain ⟨b1, o1, c1', e1, z1, x0, x1, x2, x3, x4, x5, x6, x7, x8, x9⟩ := ls_atV HT.out.nds.ls hy
      simp only [Value.slice.injEq, Option.some.injEq, Addr.mk.injEq] at e1
      obtain ⟨⟨rfl, rfl, -⟩, -, rfl⟩ := e1
      simp only [Nat.zero_add] at x0 x1 x2 x3 x4 x5 x6 x7 x8 x9
      have hym := List.mem_of_getElem? hy
      have hbg := HBG.out y hym
      obtain ⟨gc, cc1, hcv, hcc, zc, xc⟩ := mk_atO (HT.out.each y hym).1
      obtain ⟨gd, dc1, hdv, hdc, zd, xd⟩ := mk_atC (HT.out.each y hym).2
      rw [hcv] at x3
      rw [hdv] at x8
      generalize hcl : y.n.code.length = cl at *
      generalize hdl : y.n.conns.length = dl at *
      clear hcv hdv hy hym
      obtain ⟨nb, hnb⟩ : ∃ b, b = wr.heap.size := ⟨_, rfl⟩
      obtain ⟨W5, hW5⟩ : ∃ W, W = wr.alloc (.cells #[.int .i64 y.n.kind, .int .i64 y.n.ins, .int .i64 y.n.outs, .slice (some ⟨gc, 0, none⟩) cl cc1, .int .u64 (y.n.via.1 : Nat), .int .u64 (y.n.via.2.1 : Nat), .int .u64 (y.n.via.2.2 : Nat), .int .u64 (y.n.bound : Nat), .slice (some ⟨gd, 0, none⟩) dl dc1, .bool y.n.start] 39) := ⟨_, rfl⟩
      have P5 : Hid (Gr wr W5 ∧ W5.heap[nb]? = some (.cells #[.int .i64 y.n.kind, .int .i64 y.n.ins, .int .i64 y.n.outs, .slice (some ⟨gc, 0, none⟩) cl cc1, .int .u64 (y.n.via.1 : Nat), .int .u64 (y.n.via.2.1 : Nat), .int .u64 (y.n.via.2.2 : Nat), .int .u64 (y.n.bound : Nat), .slice (some ⟨gd, 0, none⟩) dl dc1, .bool y.n.start] 39 (0, 0))) := by
        rw [hW5, hnb]
        exact ⟨(Gr.refl wr).alloc _, heap_new' _ _⟩
      have HW5 : Hid (wr.alloc (.cells #[.int .i64 y.n.kind, .int .i64 y.n.ins, .int .i64 y.n.outs, .slice (some ⟨gc, 0, none⟩) cl cc1, .int .u64 (y.n.via.1 : Nat), .int .u64 (y.n.via.2.1 : Nat), .int .u64 (y.n.via.2.2 : Nat), .int .u64 (y.n.bound : Nat), .slice (some ⟨gd, 0, none⟩) dl dc1, .bool y.n.start] 39) = W5 ∧ wr.heap.size = nb) := ⟨hW5.symm, hnb.symm⟩
      clear hW5 hnb
      go_upto_region 7 with fail
      rw [HW5.out.1, HW5.out.2]
      have yc := (P5.out.1.cell (o := cl * 2) zc).trans xc
      have yd := (P5.out.1.cell (o := dl * 5) zd).trans xd
      have uc := Nat.lt_of_lt_of_le zc P5.out.1.size
      have ud := Nat.lt_of_lt_of_le zd P5.out.1.size
      have c5 := (tk_store P5.out.2).1
      have l5 := tk_lt P5.out.2
      clear HW5 x0 x1 x2 x3 x4 x5 x6 x7 x8 x9 z1 xc xd zc zd c0 c1 m0 m1 HT
      have hwc := wrapi hbg.1
      have hwd := wrapi hbg.2
      have htc : ((cl : Int) + 1).toNat = cl + 1 := by omega
      have htd : ((dl : Int) + 1).toNat = dl + 1 := by omega
      have hc1 : (cl : Int) + 1 ≤ (cc1 : Int) := by omega
      have hd1 : (dl : Int) + 1 ≤ (dc1 : Int) := by omega
      have hc0 : (0 : Int) ≤ (cl : Int) + 1 := by omega
      have hd0 : (0 : Int) ≤ (dl : Int) + 1 := by omega
      have hc2 : (cl : Int) < (cl : Int) + 1 := by omega
      have hd2 : (dl : Int) < (dl : Int) + 1 := by omega
      have FIN := hid (HR.out.trans P5.out.1)
      have hnl := hwide.1
      go_quiet (fail)
      go_wp2_with fail
      go_roundw
      case rel => exact ⟨k + 1, by omega, by go_num, FIN.out.drewN _⟩
      case measure => simp [RowKit.intOf]; omega
    · have hltz : ¬ (k : Int) < (nl : Int) := by omega
      go_wp2_with fail
      go_ret
      exact ⟨rfl, GW.out⟩
end Go.Proofs.Ytdiecnacbkpceaa.Df
