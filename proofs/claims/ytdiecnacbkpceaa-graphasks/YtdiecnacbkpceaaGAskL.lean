import Derived.Test.YtdiecnacbkpceaaGLaw0
namespace Go.Proofs.Ytdiecnacbkpceaa.Df
open Go.RowKit Go.Sort
attribute [local go_sem ↓] Go.wp_at_zero Go.wp_at_succ

set_option maxRecDepth 100000 in
set_option maxHeartbeats 16000000 in
theorem graphAsks_any {M : Nat} {nv ev : Value} {a : Int} {xs : List NV} {es : List Edg} (pl nd pt : Int) (w : World) (hG : GR M w nv ev xs es) (hM : M ≤ w.heap.size) (hbg : xs.length * 112 ≤ 140737488351232 ∧ es.length * 40 ≤ 140737488351232 ∧ ∀ x ∈ xs, x.n.code.length * 16 ≤ 140737488351232 ∧ x.n.conns.length * 40 ≤ 140737488351232) : Calls Try.prog 4 #[.agg (gvc a nv ev), .agg #[.int .i64 pl, .int .i64 nd, .int .i64 pt]] w fun r w' => r = .returned (.bool true) ∧ Below w.heap.size w w' := by
  have hmx : Try.prog.follows .mixedOrders = true := by kernel_rfl
  have HG := hid (hG.up hM)
  obtain ⟨pn, cn, rfl⟩ := hG.nodes.form
  obtain ⟨pe, ce, rfl⟩ := hG.edges.form
  have HBG := hid hbg
  clear hG hM hbg
  obtain ⟨nl, hnl⟩ : ∃ n, n = xs.length := ⟨_, rfl⟩
  obtain ⟨el, hel⟩ : ∃ n, n = es.length := ⟨_, rfl⟩
  rw [← hnl, ← hel] at HG ⊢
  have HNL := hid hnl
  have HEL := hid hel
  clear hnl hel
  obtain ⟨rb, hrb⟩ : ∃ b, b = w.heap.size := ⟨_, rfl⟩
  obtain ⟨ob, hob⟩ : ∃ b, b = w.heap.size + 1 := ⟨_, rfl⟩
  obtain ⟨w0, hW0⟩ : ∃ W, W = (w.alloc (.cells (gvc a (.slice pn nl cn) (.slice pe el ce)) 25)).alloc (.cells #[.int .i64 pl, .int .i64 nd, .int .i64 pt] 52) := ⟨_, rfl⟩
  have T0 : Hid (Below w.heap.size w w0 ∧ w0.heap[rb]? = some (.cells (gvc a (.slice pn nl cn) (.slice pe el ce)) 25 (0, 0)) ∧ w0.heap[ob]? = some (.cells #[.int .i64 pl, .int .i64 nd, .int .i64 pt] 52 (0, 0))) := by
    rw [hW0, hrb, hob]
    exact ⟨(((Gr.refl w).alloc _).alloc _).below, new1 w _ _, new2 w _ _⟩
  have HW0 : Hid ((w.alloc (.cells #[.int .i64 a, .slice pn nl cn, .slice pe el ce] 25)).alloc (.cells #[.int .i64 pl, .int .i64 nd, .int .i64 pt] 52) = w0 ∧ w.heap.size = rb ∧ w.heap.size + 1 = ob) := ⟨hW0.symm, hrb.symm, hob.symm⟩
  have HRB : Hid (w.heap.size = rb ∧ rb + 1 = ob) := ⟨hrb.symm, by omega⟩
  clear hW0 hrb hob
  go_enter Try.func4, Try.ntmps4
  go_upto_region 1 with fail
  rw [HW0.out.1, HW0.out.2.2, HW0.out.2.1]
  clear HW0
  go_wp2_with fail
  refine (taken_any w0).mono ?_
  rintro r w1 ⟨rfl, b1⟩
  have T1 : Hid (Below w.heap.size w w1 ∧ w1.heap[rb]? = some (.cells (gvc a (.slice pn nl cn) (.slice pe el ce)) 25 (0, 0)) ∧ w1.heap[ob]? = some (.cells #[.int .i64 pl, .int .i64 nd, .int .i64 pt] 52 (0, 0))) := ⟨T0.out.1.trans (b1.mono T0.out.1.size), (b1.block _ (tk_lt T0.out.2.1)).trans T0.out.2.1, (b1.block _ (tk_lt T0.out.2.2)).trans T0.out.2.2⟩
  clear b1 T0
  have HLO : Hid (ob < w1.heap.size ∧ w.heap.size ≤ w1.heap.size) := ⟨tk_lt T1.out.2.2, T1.out.1.size⟩
  have cx := (tk_store T1.out.2.1).1
  have lx := tk_lt T1.out.2.1
  have htw := twin2_any (a := a) w1 ((HG.out.below T1.out.1).up T1.out.1.size) (Nat.le_refl _) HNL.out HEL.out HBG.out
  go_upto_region 4 with (go_at_call 6; refine htw.mono ?_; rintro r w2 ⟨gn, kn, ge, ke, ys, rfl, HTW⟩)
  obtain ⟨xb, hxb⟩ : ∃ b, b = w2.heap.size := ⟨_, rfl⟩
  obtain ⟨w3, hw3⟩ : ∃ W, W = w2.alloc (.cells (gvc a (.slice (some ⟨gn, 0, none⟩) nl kn) (.slice (some ⟨ge, 0, none⟩) el ke)) 25) := ⟨_, rfl⟩
  have b3 : Below w1.heap.size w1 w3 := by
    rw [hw3]
    exact HTW.out.1.trans (((Gr.refl w2).alloc _).below.mono HTW.out.1.size)
  have T3 : Hid (Below w.heap.size w w3 ∧ w3.heap[rb]? = some (.cells (gvc a (.slice pn nl cn) (.slice pe el ce)) 25 (0, 0)) ∧ w3.heap[ob]? = some (.cells #[.int .i64 pl, .int .i64 nd, .int .i64 pt] 52 (0, 0))) := ⟨T1.out.1.trans (b3.mono T1.out.1.size), (b3.block _ (tk_lt T1.out.2.1)).trans T1.out.2.1, (b3.block _ (tk_lt T1.out.2.2)).trans T1.out.2.2⟩
  have X3 : Hid (w3.heap[xb]? = some (.cells (gvc a (.slice (some ⟨gn, 0, none⟩) nl kn) (.slice (some ⟨ge, 0, none⟩) el ke)) 25 (0, 0)) ∧ Tw w3 (.slice (some ⟨gn, 0, none⟩) nl kn) (.slice (some ⟨ge, 0, none⟩) el ke) ys es ∧ Below w2.heap.size w2 w3) := by
    rw [hw3, hxb]
    exact ⟨heap_new' _ _, HTW.out.2.2.1.below ((Gr.refl w2).alloc _).below, ((Gr.refl w2).alloc _).below⟩
  have HW3 : Hid (w2.alloc (.cells #[.int .i64 a, (.slice (some ⟨gn, 0, none⟩) nl kn), (.slice (some ⟨ge, 0, none⟩) el ke)] 25) = w3 ∧ w2.heap.size = xb) := ⟨hw3.symm, hxb.symm⟩
  rw [HW3.out.1, HW3.out.2]
  clear HW3 hw3 hxb b3 htw cx lx T1
  have cx := (tk_store X3.out.1).1
  have lx := tk_lt X3.out.1
  have hbig : Hid ((∀ x ∈ ys, x.n.code.length * 16 ≤ 140737488351232 ∧ x.n.conns.length * 40 ≤ 140737488351232) ∧ ys.length = nl) := by
    have hl : ys.length = nl := by rw [HNL.out]; simpa using congrArg List.length HTW.out.2.1
    refine ⟨fun y hy => ?_, hl⟩
    obtain ⟨i, hi⟩ := List.mem_iff_getElem?.1 hy
    obtain ⟨x, hxi⟩ : ∃ x, xs[i]? = some x := ⟨xs[i]'(by rw [← HNL.out, ← hl]; exact (List.getElem?_eq_some_iff.1 hi).1), by simp⟩
    rw [n_at HTW.out.2.1 hi hxi]
    exact HBG.out.2.2 x (List.mem_of_getElem? hxi)
  have hnew := new_any (a := a) w3 (X3.out.2.1.gr ⟨fun x hx => by have := hbig.out.1 x hx; omega, by have := hbig.out.2; have := HBG.out.1; have := HNL.out; omega, by have := HBG.out.2.1; omega⟩) (X3.out.2.1.cap (fun y hy => by have := hbig.out.1 y hy; omega))
  have hgg : gof a ys es = gof a xs es := by unfold gof; rw [HTW.out.2.1]
  rw [hgg] at hnew
  clear hgg
  go_wp2_with fail
  refine hnew.mono ?_
  rintro r w4 ⟨b4, e, t, hF, hr⟩
  have T4 : Hid (Below w.heap.size w w4 ∧ w4.heap[rb]? = some (.cells (gvc a (.slice pn nl cn) (.slice pe el ce)) 25 (0, 0)) ∧ w4.heap[ob]? = some (.cells #[.int .i64 pl, .int .i64 nd, .int .i64 pt] 52 (0, 0))) := ⟨T3.out.1.trans (b4.mono T3.out.1.size), (b4.block _ (tk_lt T3.out.2.1)).trans T3.out.2.1, (b4.block _ (tk_lt T3.out.2.2)).trans T3.out.2.2⟩
  have X4 : Hid (w4.heap[xb]? = some (.cells (gvc a (.slice (some ⟨gn, 0, none⟩) nl kn) (.slice (some ⟨ge, 0, none⟩) el ke)) 25 (0, 0)) ∧ Tw w4 (.slice (some ⟨gn, 0, none⟩) nl kn) (.slice (some ⟨ge, 0, none⟩) el ke) ys es) := ⟨(b4.block _ (tk_lt X3.out.1)).trans X3.out.1, X3.out.2.1.below b4⟩
  have B4 := hid b4
  have HF := hid hF
  clear hnew b4 hF T3 cx lx
  have hchk := rcheck_any (a := a) w4 ((HG.out.below T4.out.1).up T4.out.1.size) (Nat.le_refl _)
  have cx := (tk_store T4.out.2.1).1
  have lx := tk_lt T4.out.2.1
  rcases hr with ⟨he, rfl⟩ | ⟨rfl, gb, rfl, hgm⟩
  · go_wp2_with fail
    refine hchk.mono ?_
    rintro r w5 ⟨f, u, rfl, hF2, b5⟩
    obtain ⟨rfl, rfl⟩ := HF.out.same hF2
    have T5 : Hid (Below w.heap.size w w5 ∧ w5.heap[rb]? = some (.cells (gvc a (.slice pn nl cn) (.slice pe el ce)) 25 (0, 0)) ∧ w5.heap[ob]? = some (.cells #[.int .i64 pl, .int .i64 nd, .int .i64 pt] 52 (0, 0))) := ⟨T4.out.1.trans (b5.mono T4.out.1.size), (b5.block _ (tk_lt T4.out.2.1)).trans T4.out.2.1, (b5.block _ (tk_lt T4.out.2.2)).trans T4.out.2.2⟩
    have X5 : Hid (w5.heap[xb]? = some (.cells (gvc a (.slice (some ⟨gn, 0, none⟩) nl kn) (.slice (some ⟨ge, 0, none⟩) el ke)) 25 (0, 0)) ∧ Tw w5 (.slice (some ⟨gn, 0, none⟩) nl kn) (.slice (some ⟨ge, 0, none⟩) el ke) ys es) := ⟨(b5.block _ (tk_lt X4.out.1)).trans X4.out.1, X4.out.2.below b5⟩
    clear hchk b5 hF2 cx lx
    have cx := (tk_store T5.out.2.1).1
    have lx := tk_lt T5.out.2.1
    have cy := (tk_store X5.out.1).1
    have ly := tk_lt X5.out.1
    have hkp := kept_any (a := a) HTW.out.2.1 w5 X5.out.2 (HG.out.below T5.out.1)
    have he1 : (e == 0) = false := by simp [he]
    have he2 : (e != 0) = true := by simp [he]
    go_wp2_with fail
    refine hkp.mono ?_
    rintro r w6 ⟨rfl, g6⟩
    have F6 := hid (T5.out.1.trans (g6.below.mono T5.out.1.size))
    clear hkp g6 cx lx cy ly
    go_wp2_with fail
    go_ret
    exact ⟨rfl, F6.out⟩
  · have HGM := hid hgm
    have HOK := hid (HF.out.ok.1 rfl)
    clear hgm
    go_wp2_with fail
    refine hchk.mono ?_
    rintro r w5 ⟨f, u, rfl, hF2, b5⟩
    obtain ⟨rfl, rfl⟩ := HF.out.same hF2
    have ht0 : t = 0 := by
      exact (HF.out.same (Fl.none HOK.out.a1 HOK.out.a2 HOK.out.nl HOK.out.el HOK.out.ng HOK.out.eg)).2
    subst ht0
    have T5 : Hid (Below w.heap.size w w5 ∧ w5.heap[rb]? = some (.cells (gvc a (.slice pn nl cn) (.slice pe el ce)) 25 (0, 0)) ∧ w5.heap[ob]? = some (.cells #[.int .i64 pl, .int .i64 nd, .int .i64 pt] 52 (0, 0))) := ⟨T4.out.1.trans (b5.mono T4.out.1.size), (b5.block _ (tk_lt T4.out.2.1)).trans T4.out.2.1, (b5.block _ (tk_lt T4.out.2.2)).trans T4.out.2.2⟩
    have B5 := hid b5
    have X5 : Hid (w5.heap[xb]? = some (.cells (gvc a (.slice (some ⟨gn, 0, none⟩) nl kn) (.slice (some ⟨ge, 0, none⟩) el ke)) 25 (0, 0)) ∧ Tw w5 (.slice (some ⟨gn, 0, none⟩) nl kn) (.slice (some ⟨ge, 0, none⟩) el ke) ys es ∧ Gm w3.heap.size w5 gb (gof a xs es)) := ⟨(b5.block _ (tk_lt X4.out.1)).trans X4.out.1, X4.out.2.below b5, HGM.out.below b5⟩
    clear hchk b5 hF2 cx lx
    have cx := (tk_store T5.out.2.1).1
    have lx := tk_lt T5.out.2.1
    have cy := (tk_store X5.out.1).1
    have ly := tk_lt X5.out.1
    have hkp := kept_any (a := a) HTW.out.2.1 w5 X5.out.2.1 (HG.out.below T5.out.1)
    go_wp2_with fail
    refine hkp.mono ?_
    rintro r w6 ⟨rfl, g6⟩
    have b6 := g6.below
    have T6 : Hid (Below w.heap.size w w6 ∧ w6.heap[rb]? = some (.cells (gvc a (.slice pn nl cn) (.slice pe el ce)) 25 (0, 0)) ∧ w6.heap[ob]? = some (.cells #[.int .i64 pl, .int .i64 nd, .int .i64 pt] 52 (0, 0))) := ⟨T5.out.1.trans (b6.mono T5.out.1.size), (b6.block _ (tk_lt T5.out.2.1)).trans T5.out.2.1, (b6.block _ (tk_lt T5.out.2.2)).trans T5.out.2.2⟩
    have B6 : Hid (Below w2.heap.size w2 w6 ∧ Below w5.heap.size w5 w6) := by
      have h1 := X3.out.2.2.trans (B4.out.mono X3.out.2.2.size)
      have h2 := h1.trans (B5.out.mono h1.size)
      exact ⟨h2.trans (b6.mono h2.size), b6⟩
    have X6 : Hid (w6.heap[xb]? = some (.cells (gvc a (.slice (some ⟨gn, 0, none⟩) nl kn) (.slice (some ⟨ge, 0, none⟩) el ke)) 25 (0, 0)) ∧ Sg w1.heap.size w2.heap.size w6 (.slice (some ⟨gn, 0, none⟩) nl kn) (.slice (some ⟨ge, 0, none⟩) el ke) ys ∧ Gm w3.heap.size w6 gb (gof a xs es)) :=
      ⟨(b6.block _ (tk_lt X5.out.1)).trans X5.out.1, (HTW.out.2.2.1.sg HTW.out.2.2.2 (nl_few HOK.out HTW.out.2.1)).below B6.out.1, X5.out.2.2.below b6⟩
    clear hkp g6 b6 cx lx cy ly T5 X5
    have cy := (tk_store X6.out.1).1
    have ly := tk_lt X6.out.1
    have hsm := smudge_any (a := a) w6 X6.out.2.1 B6.out.1.size
    go_wp2_with fail
    refine hsm.mono ?_
    rintro r w7 ⟨rfl, k7⟩
    have V7 : Hid ((Below w.heap.size w w7 ∧ w7.heap[rb]? = some (.cells (gvc a (.slice pn nl cn) (.slice pe el ce)) 25 (0, 0)) ∧ w7.heap[ob]? = some (.cells #[.int .i64 pl, .int .i64 nd, .int .i64 pt] 52 (0, 0))) ∧ Gm w3.heap.size w7 gb (gof a xs es)) := by
      have h1 := HLO.out
      have h2 := HRB.out
      have h3 := X3.out.2.2.size
      exact ⟨⟨T6.out.1.trans (k7.below T6.out.1.size (fun k e => by omega)), (k7.block _ (tk_lt T6.out.2.1) (fun e => by omega)).trans T6.out.2.1, (k7.block _ (tk_lt T6.out.2.2) (fun e => by omega)).trans T6.out.2.2⟩, X6.out.2.2.kp k7 (fun k e _ e2 => by omega)⟩
    clear hsm k7 cy ly X6 B6 T6 X4 T4 X3 B4 B5 HTW HGM HLO hbig
    have HGV := hid (fun (W : World) (hb : Below w7.heap.size w7 W) => (((HG.out.below V7.out.1.1).up V7.out.1.1.size).below hb))
    have HMV := hid (fun (W : World) (hb : Below w7.heap.size w7 W) => V7.out.2.below hb)
    have har : Hid (∀ W, Below w7.heap.size w7 W → Calls Try.prog 17 #[.pointer (some ⟨gb, 0, none⟩)] W fun r w' => r = .returned (.int .i64 a) ∧ w' = W) := fun W hb => garity_any W (HMV.out W hb)
    have hnd : Hid (∀ W, Below w7.heap.size w7 W → Calls Try.prog 18 #[.pointer (some ⟨gb, 0, none⟩)] W fun r w' => r = .returned (.int .i64 (nl : Nat)) ∧ w' = W) := fun W hb => by
      have h := gnodes_any W (HMV.out W hb)
      rw [show (gof a xs es).nodes.length = nl by rw [HNL.out]; simp] at h
      exact h
    obtain ⟨P, hP⟩ : ∃ P, P = firstN (xs.map NV.n) xs.length := ⟨_, rfl⟩
    have hpc : Hid (∀ W, Below w7.heap.size w7 W → Calls Try.prog 12 #[.pointer (some ⟨gb, 0, none⟩)] W fun r w' => r = .returned (.int .i64 (P : Nat)) ∧ w' = W) := fun W hb => by
      have h := gplaces_any W (HMV.out W hb)
      rw [show plN (gof a xs es).nodes = P by rw [hP]; unfold plN firstN; simp] at h
      exact h
    have hrp : Hid (∀ W, Below w7.heap.size w7 W → Calls Try.prog 19 #[.agg (gvc a (.slice pn nl cn) (.slice pe el ce))] W fun r w' => r = .returned (.int .i64 (P : Nat)) ∧ Gr W w') := fun W hb => by
      have h := rplaces_any (a := a) (ev := .slice pe el ce) W ((HGV.out W hb).nr (Nat.le_trans hb.size (Nat.le_refl _)) HOK.out)
      rw [← hP] at h
      exact h
    have hpl : Hid (∀ (k i p : Int) W, Below w7.heap.size w7 W → Calls Try.prog 20 #[.pointer (some ⟨gb, 0, none⟩), .agg (gvc a (.slice pn nl cn) (.slice pe el ce)), .int .i64 k, .int .i64 i, .int .i64 p] W fun r w' => r = .returned (.bool true) ∧ Below W.heap.size W w') := fun k i p W hb => places_any k i p W (HMV.out W hb) (HGV.out W hb) hb.size HOK.out
    clear hP
    go_upto_region 11 with fail
    go_cut [90] (fun s90 w' => s90 = .bool false ∧ Hid (Below w7.heap.size w7 w'))
    case first =>
      have BD : Hid (Below w7.heap.size w7 w7.drew) := (Gr.refl _).drew.below
      refine wp_regionD (S := fun W => Below w7.heap.size w7 W) (D := []) hmx ?_
      generalize w7.drew = Wd at BD ⊢
      refine' wpAnyD_take (i := 0) (oi := { dst := some 59, op := Go.Op.move (Go.Operand.tmp 6), type := 26, pos := "law.go:192", after := #[], guard := none }) (v := _) rfl (by kernel_rfl) (by kernel_rfl) (by kernel_rfl) (fun _ _ _ h => h) (by kernel_rfl) (Or.inl ⟨by rfl, ?hy1⟩) BD.out ?rest1
      case hy1 => (intro W hSw; go_simp; try (with_reducible rfl))
      try simp only [Act.put, List.setIfInBounds_toArray, List.set_cons_zero, List.set_cons_succ]
      refine' wpAnyD_take (i := 2) (oi := { dst := some 61, op := Go.Op.fieldAddr 25 (Go.Operand.tmp 2) 0, type := 0, pos := "law.go:192", after := #[], guard := none }) (v := _) rfl (by kernel_rfl) (by kernel_rfl) (by kernel_rfl) (fun _ _ _ h => h) (by kernel_rfl) (Or.inl ⟨by rfl, ?hy2⟩) BD.out ?rest2
      case hy2 => (intro W hSw; go_simp; try (with_reducible rfl))
      try simp only [Act.put, List.setIfInBounds_toArray, List.set_cons_zero, List.set_cons_succ]
      refine' wpAnyD_take (i := 3) (oi := { dst := some 62, op := Go.Op.load 3 (Go.Operand.tmp 61), type := 3, pos := "law.go:192", after := #[{ on := 2, ground := Go.Ground.data }], guard := none }) (v := _) rfl (by kernel_rfl) (by kernel_rfl) (by kernel_rfl) (fun _ _ _ h => h) (by kernel_rfl) (Or.inl ⟨by rfl, ?hy3⟩) BD.out ?rest3
      case hy3 => (intro W hSw; have hb := (hSw.block _ (tk_lt V7.out.1.2.1)).trans V7.out.1.2.1; have hc := (tk_store hb).1; have hl := tk_lt hb; go_simp; try (with_reducible rfl))
      try simp only [Act.put, List.setIfInBounds_toArray, List.set_cons_zero, List.set_cons_succ]
      refine wpAnyD_one (i := 1) (o := { dst := some 60, op := Go.Op.call { callee := Go.Callee.value (Go.Operand.func 17), args := #[Go.Operand.tmp 59], argTypes := #[26] }, type := 3, pos := "law.go:192", after := #[{ on := 0, ground := Go.Ground.data }], guard := none }) (by kernel_rfl) rfl (fun K hK => ?_)
      go_simp
      refine (har.out _ BD.out).mono ?_
      rintro r v ⟨rfl, hv⟩
      subst hv
      go_wp2_with fail
      refine hK.out _ _ (fun hD => BD.out) ?_
      clear hK K
      try simp only [Act.put, List.setIfInBounds_toArray, List.set_cons_zero, List.set_cons_succ]
      refine' wpAnyD_take (i := 4) (oi := { dst := some 63, op := Go.Op.binOp Go.BinOp.neq 3 (Go.Operand.tmp 60) (Go.Operand.tmp 62) 3, type := 4, pos := "law.go:192", after := #[{ on := 1, ground := Go.Ground.data }, { on := 3, ground := Go.Ground.data }], guard := none }) (v := _) rfl (by kernel_rfl) (by kernel_rfl) (by kernel_rfl) (fun _ _ _ h => h) (by kernel_rfl) (Or.inl ⟨by rfl, ?hy4⟩) BD.out ?rest4
      case hy4 => (intro W hSw; go_simp; try (with_reducible rfl))
      try simp only [Act.put, List.setIfInBounds_toArray, List.set_cons_zero, List.set_cons_succ]
      refine' wpAnyD_take (i := 5) (oi := { dst := some 64, op := Go.Op.move (Go.Operand.tmp 63), type := 4, pos := "law.go:192", after := #[{ on := 4, ground := Go.Ground.data }, { on := 1, ground := Go.Ground.chain }], guard := none }) (v := _) rfl (by kernel_rfl) (by kernel_rfl) (by kernel_rfl) (fun _ _ _ h => h) (by kernel_rfl) (Or.inl ⟨by rfl, ?hy5⟩) BD.out ?rest5
      case hy5 => (intro W hSw; go_simp; try (with_reducible rfl))
      try simp only [Act.put, List.setIfInBounds_toArray, List.set_cons_zero, List.set_cons_succ]
      refine' wpAnyD_take (i := 6) (oi := { dst := some 65, op := Go.Op.move (Go.Operand.tmp 6), type := 26, pos := "law.go:192", after := #[{ on := 5, ground := Go.Ground.guard }], guard := some (5, false) }) (v := _) rfl (by kernel_rfl) (by kernel_rfl) (by kernel_rfl) (fun _ _ _ h => h) (by kernel_rfl) (Or.inl ⟨by rfl, ?hy6⟩) BD.out ?rest6
      case hy6 => (intro W hSw; go_simp; try (with_reducible rfl))
      try simp only [Act.put, List.setIfInBounds_toArray, List.set_cons_zero, List.set_cons_succ]
      refine' wpAnyD_take (i := 8) (oi := { dst := some 67, op := Go.Op.fieldAddr 25 (Go.Operand.tmp 2) 1, type := 0, pos := "law.go:192", after := #[{ on := 5, ground := Go.Ground.guard }], guard := some (5, false) }) (v := _) rfl (by kernel_rfl) (by kernel_rfl) (by kernel_rfl) (fun _ _ _ h => h) (by kernel_rfl) (Or.inl ⟨by rfl, ?hy7⟩) BD.out ?rest7
      case hy7 => (intro W hSw; go_simp; try (with_reducible rfl))
      try simp only [Act.put, List.setIfInBounds_toArray, List.set_cons_zero, List.set_cons_succ]
      refine' wpAnyD_take (i := 9) (oi := { dst := some 68, op := Go.Op.load 22 (Go.Operand.tmp 67), type := 22, pos := "law.go:192", after := #[{ on := 8, ground := Go.Ground.data }, { on := 5, ground := Go.Ground.guard }], guard := some (5, false) }) (v := _) rfl (by kernel_rfl) (by kernel_rfl) (by kernel_rfl) (fun _ _ _ h => h) (by kernel_rfl) (Or.inl ⟨by rfl, ?hy8⟩) BD.out ?rest8
      case hy8 => (intro W hSw; have hb := (hSw.block _ (tk_lt V7.out.1.2.1)).trans V7.out.1.2.1; have hc := (tk_store hb).1; have hl := tk_lt hb; go_simp; try (with_reducible rfl))
      try simp only [Act.put, List.setIfInBounds_toArray, List.set_cons_zero, List.set_cons_succ]
      refine' wpAnyD_take (i := 10) (oi := { dst := some 69, op := Go.Op.call { callee := Go.Callee.builtin Go.Builtin.len, args := #[Go.Operand.tmp 68], argTypes := #[22] }, type := 3, pos := "law.go:192", after := #[{ on := 9, ground := Go.Ground.data }, { on := 5, ground := Go.Ground.guard }], guard := some (5, false) }) (v := _) rfl (by kernel_rfl) (by kernel_rfl) (by kernel_rfl) (fun _ _ _ h => h) (by kernel_rfl) (Or.inl ⟨by rfl, ?hy9⟩) BD.out ?rest9
      case hy9 => (intro W hSw; go_simp; try (with_reducible rfl))
      try simp only [Act.put, List.setIfInBounds_toArray, List.set_cons_zero, List.set_cons_succ]
      refine wpAnyD_one (i := 7) (o := { dst := some 66, op := Go.Op.call { callee := Go.Callee.value (Go.Operand.func 18), args := #[Go.Operand.tmp 65], argTypes := #[26] }, type := 3, pos := "law.go:192", after := #[{ on := 6, ground := Go.Ground.data }, { on := 5, ground := Go.Ground.chain }, { on := 5, ground := Go.Ground.guard }], guard := some (5, false) }) (by kernel_rfl) rfl (fun K hK => ?_)
      go_simp
      refine (hnd.out _ BD.out).mono ?_
      rintro r v ⟨rfl, hv⟩
      subst hv
      go_wp2_with fail
      refine hK.out _ _ (fun hD => BD.out) ?_
      clear hK K
      try simp only [Act.put, List.setIfInBounds_toArray, List.set_cons_zero, List.set_cons_succ]
      refine' wpAnyD_take (i := 11) (oi := { dst := some 70, op := Go.Op.binOp Go.BinOp.neq 3 (Go.Operand.tmp 66) (Go.Operand.tmp 69) 3, type := 4, pos := "law.go:192", after := #[{ on := 7, ground := Go.Ground.data }, { on := 10, ground := Go.Ground.data }, { on := 5, ground := Go.Ground.guard }], guard := some (5, false) }) (v := _) rfl (by kernel_rfl) (by kernel_rfl) (by kernel_rfl) (fun _ _ _ h => h) (by kernel_rfl) (Or.inl ⟨by rfl, ?hy10⟩) BD.out ?rest10
      case hy10 => (intro W hSw; go_simp; try (with_reducible rfl))
      try simp only [Act.put, List.setIfInBounds_toArray, List.set_cons_zero, List.set_cons_succ]
      refine' wpAnyD_take (i := 12) (oi := { dst := some 71, op := Go.Op.pick (Go.Operand.tmp 64) (Go.Operand.const (Go.Value.bool true)) (Go.Operand.tmp 70), type := 4, pos := "law.go:192", after := #[{ on := 5, ground := Go.Ground.data }, { on := 11, ground := Go.Ground.data }], guard := none }) (v := _) rfl (by kernel_rfl) (by kernel_rfl) (by kernel_rfl) (fun _ _ _ h => h) (by kernel_rfl) (Or.inl ⟨by rfl, ?hy11⟩) BD.out ?rest11
      case hy11 => (intro W hSw; go_simp; try (with_reducible rfl))
      try simp only [Act.put, List.setIfInBounds_toArray, List.set_cons_zero, List.set_cons_succ]
      refine' wpAnyD_take (i := 13) (oi := { dst := some 72, op := Go.Op.move (Go.Operand.tmp 71), type := 4, pos := "law.go:192", after := #[{ on := 12, ground := Go.Ground.data }, { on := 7, ground := Go.Ground.chain }], guard := none }) (v := _) rfl (by kernel_rfl) (by kernel_rfl) (by kernel_rfl) (fun _ _ _ h => h) (by kernel_rfl) (Or.inl ⟨by rfl, ?hy12⟩) BD.out ?rest12
      case hy12 => (intro W hSw; go_simp; try (with_reducible rfl))
      try simp only [Act.put, List.setIfInBounds_toArray, List.set_cons_zero, List.set_cons_succ]
      refine' wpAnyD_take (i := 14) (oi := { dst := some 73, op := Go.Op.move (Go.Operand.tmp 6), type := 26, pos := "law.go:192", after := #[{ on := 13, ground := Go.Ground.guard }], guard := some (13, false) }) (v := _) rfl (by kernel_rfl) (by kernel_rfl) (by kernel_rfl) (fun _ _ _ h => h) (by kernel_rfl) (Or.inl ⟨by rfl, ?hy13⟩) BD.out ?rest13
      case hy13 => (intro W hSw; go_simp; try (with_reducible rfl))
      try simp only [Act.put, List.setIfInBounds_toArray, List.set_cons_zero, List.set_cons_succ]
      refine' wpAnyD_take (i := 16) (oi := { dst := some 75, op := Go.Op.load 25 (Go.Operand.tmp 2), type := 25, pos := "law.go:192", after := #[{ on := 13, ground := Go.Ground.guard }], guard := some (13, false) }) (v := _) rfl (by kernel_rfl) (by kernel_rfl) (by kernel_rfl) (fun _ _ _ h => h) (by kernel_rfl) (Or.inl ⟨by rfl, ?hy14⟩) BD.out ?rest14
      case hy14 => (intro W hSw; have hb := (hSw.block _ (tk_lt V7.out.1.2.1)).trans V7.out.1.2.1; have hc := (tk_store hb).1; have hl := tk_lt hb; go_simp; try (with_reducible rfl))
      try simp only [Act.put, List.setIfInBounds_toArray, List.set_cons_zero, List.set_cons_succ]
      refine wpAnyD_one (i := 15) (o := { dst := some 74, op := Go.Op.call { callee := Go.Callee.value (Go.Operand.func 12), args := #[Go.Operand.tmp 73], argTypes := #[26] }, type := 3, pos := "law.go:192", after := #[{ on := 14, ground := Go.Ground.data }, { on := 13, ground := Go.Ground.chain }, { on := 13, ground := Go.Ground.guard }], guard := some (13, false) }) (by kernel_rfl) rfl (fun K hK => ?_)
      go_simp
      refine (hpc.out _ BD.out).mono ?_
      rintro r v ⟨rfl, hv⟩
      subst hv
      go_wp2_with fail
      refine hK.out _ _ (fun hD => BD.out) ?_
      clear hK K
      try simp only [Act.put, List.setIfInBounds_toArray, List.set_cons_zero, List.set_cons_succ]
      refine wpAnyD_one (i := 17) (o := { dst := some 76, op := Go.Op.call { callee := Go.Callee.value (Go.Operand.func 19), args := #[Go.Operand.tmp 75], argTypes := #[25] }, type := 3, pos := "law.go:192", after := #[{ on := 16, ground := Go.Ground.data }, { on := 15, ground := Go.Ground.chain }, { on := 13, ground := Go.Ground.guard }], guard := some (13, false) }) (by kernel_rfl) rfl (fun K hK => ?_)
      go_simp
      refine (hrp.out _ BD.out).mono ?_
      rintro r v5 ⟨rfl, g5⟩
      have B5 : Hid (Below w7.heap.size w7 v5) := (show Below w7.heap.size w7 _ from BD.out).trans (g5.below.mono (show Below w7.heap.size w7 _ from BD.out).size)
      clear g5
      go_wp2_with fail
      refine hK.out _ _ (fun hD => B5.out) ?_
      clear hK K
      try simp only [Act.put, List.setIfInBounds_toArray, List.set_cons_zero, List.set_cons_succ]
      refine' wpAnyD_take (i := 18) (oi := { dst := some 77, op := Go.Op.binOp Go.BinOp.neq 3 (Go.Operand.tmp 74) (Go.Operand.tmp 76) 3, type := 4, pos := "law.go:192", after := #[{ on := 15, ground := Go.Ground.data }, { on := 17, ground := Go.Ground.data }, { on := 13, ground := Go.Ground.guard }], guard := some (13, false) }) (v := _) rfl (by kernel_rfl) (by kernel_rfl) (by kernel_rfl) (fun _ _ _ h => h) (by kernel_rfl) (Or.inl ⟨by rfl, ?hy15⟩) B5.out ?rest15
      case hy15 => (intro W hSw; go_simp; try (with_reducible rfl))
      try simp only [Act.put, List.setIfInBounds_toArray, List.set_cons_zero, List.set_cons_succ]
      refine' wpAnyD_take (i := 19) (oi := { dst := some 78, op := Go.Op.pick (Go.Operand.tmp 72) (Go.Operand.const (Go.Value.bool true)) (Go.Operand.tmp 77), type := 4, pos := "law.go:192", after := #[{ on := 13, ground := Go.Ground.data }, { on := 18, ground := Go.Ground.data }], guard := none }) (v := _) rfl (by kernel_rfl) (by kernel_rfl) (by kernel_rfl) (fun _ _ _ h => h) (by kernel_rfl) (Or.inl ⟨by rfl, ?hy16⟩) B5.out ?rest16
      case hy16 => (intro W hSw; go_simp; try (with_reducible rfl))
      try simp only [Act.put, List.setIfInBounds_toArray, List.set_cons_zero, List.set_cons_succ]
      refine' wpAnyD_take (i := 20) (oi := { dst := some 79, op := Go.Op.move (Go.Operand.tmp 78), type := 4, pos := "law.go:192", after := #[{ on := 19, ground := Go.Ground.data }, { on := 17, ground := Go.Ground.chain }], guard := none }) (v := _) rfl (by kernel_rfl) (by kernel_rfl) (by kernel_rfl) (fun _ _ _ h => h) (by kernel_rfl) (Or.inl ⟨by rfl, ?hy17⟩) B5.out ?rest17
      case hy17 => (intro W hSw; go_simp; try (with_reducible rfl))
      try simp only [Act.put, List.setIfInBounds_toArray, List.set_cons_zero, List.set_cons_succ]
      refine' wpAnyD_take (i := 21) (oi := { dst := some 80, op := Go.Op.move (Go.Operand.tmp 6), type := 26, pos := "law.go:192", after := #[{ on := 20, ground := Go.Ground.guard }], guard := some (20, false) }) (v := _) rfl (by kernel_rfl) (by kernel_rfl) (by kernel_rfl) (fun _ _ _ h => h) (by kernel_rfl) (Or.inl ⟨by rfl, ?hy18⟩) B5.out ?rest18
      case hy18 => (intro W hSw; go_simp; try (with_reducible rfl))
      try simp only [Act.put, List.setIfInBounds_toArray, List.set_cons_zero, List.set_cons_succ]
      refine' wpAnyD_take (i := 22) (oi := { dst := some 81, op := Go.Op.load 25 (Go.Operand.tmp 2), type := 25, pos := "law.go:192", after := #[{ on := 20, ground := Go.Ground.guard }], guard := some (20, false) }) (v := _) rfl (by kernel_rfl) (by kernel_rfl) (by kernel_rfl) (fun _ _ _ h => h) (by kernel_rfl) (Or.inl ⟨by rfl, ?hy19⟩) B5.out ?rest19
      case hy19 => (intro W hSw; have hb := (hSw.block _ (tk_lt V7.out.1.2.1)).trans V7.out.1.2.1; have hc := (tk_store hb).1; have hl := tk_lt hb; go_simp; try (with_reducible rfl))
      try simp only [Act.put, List.setIfInBounds_toArray, List.set_cons_zero, List.set_cons_succ]
      refine' wpAnyD_take (i := 23) (oi := { dst := some 82, op := Go.Op.fieldAddr 52 (Go.Operand.tmp 3) 0, type := 0, pos := "law.go:192", after := #[{ on := 20, ground := Go.Ground.guard }], guard := some (20, false) }) (v := _) rfl (by kernel_rfl) (by kernel_rfl) (by kernel_rfl) (fun _ _ _ h => h) (by kernel_rfl) (Or.inl ⟨by rfl, ?hy20⟩) B5.out ?rest20
      case hy20 => (intro W hSw; go_simp; try (with_reducible rfl))
      try simp only [Act.put, List.setIfInBounds_toArray, List.set_cons_zero, List.set_cons_succ]
      refine' wpAnyD_take (i := 25) (oi := { dst := some 84, op := Go.Op.fieldAddr 52 (Go.Operand.tmp 3) 1, type := 0, pos := "law.go:192", after := #[{ on := 20, ground := Go.Ground.guard }], guard := some (20, false) }) (v := _) rfl (by kernel_rfl) (by kernel_rfl) (by kernel_rfl) (fun _ _ _ h => h) (by kernel_rfl) (Or.inl ⟨by rfl, ?hy21⟩) B5.out ?rest21
      case hy21 => (intro W hSw; go_simp; try (with_reducible rfl))
      try simp only [Act.put, List.setIfInBounds_toArray, List.set_cons_zero, List.set_cons_succ]
      refine' wpAnyD_take (i := 27) (oi := { dst := some 86, op := Go.Op.fieldAddr 52 (Go.Operand.tmp 3) 2, type := 0, pos := "law.go:192", after := #[{ on := 20, ground := Go.Ground.guard }], guard := some (20, false) }) (v := _) rfl (by kernel_rfl) (by kernel_rfl) (by kernel_rfl) (fun _ _ _ h => h) (by kernel_rfl) (Or.inl ⟨by rfl, ?hy22⟩) B5.out ?rest22
      case hy22 => (intro W hSw; go_simp; try (with_reducible rfl))
      try simp only [Act.put, List.setIfInBounds_toArray, List.set_cons_zero, List.set_cons_succ]
      refine' wpAnyD_take (i := 24) (oi := { dst := some 83, op := Go.Op.load 3 (Go.Operand.tmp 82), type := 3, pos := "law.go:192", after := #[{ on := 23, ground := Go.Ground.data }, { on := 20, ground := Go.Ground.guard }], guard := some (20, false) }) (v := _) rfl (by kernel_rfl) (by kernel_rfl) (by kernel_rfl) (fun _ _ _ h => h) (by kernel_rfl) (Or.inl ⟨by rfl, ?hy23⟩) B5.out ?rest23
      case hy23 => (intro W hSw; have hb := (hSw.block _ (tk_lt V7.out.1.2.2)).trans V7.out.1.2.2; have hc := (tk_store hb).1; have hl := tk_lt hb; go_simp; try (with_reducible rfl))
      try simp only [Act.put, List.setIfInBounds_toArray, List.set_cons_zero, List.set_cons_succ]
      refine' wpAnyD_take (i := 26) (oi := { dst := some 85, op := Go.Op.load 3 (Go.Operand.tmp 84), type := 3, pos := "law.go:192", after := #[{ on := 25, ground := Go.Ground.data }, { on := 20, ground := Go.Ground.guard }], guard := some (20, false) }) (v := _) rfl (by kernel_rfl) (by kernel_rfl) (by kernel_rfl) (fun _ _ _ h => h) (by kernel_rfl) (Or.inl ⟨by rfl, ?hy24⟩) B5.out ?rest24
      case hy24 => (intro W hSw; have hb := (hSw.block _ (tk_lt V7.out.1.2.2)).trans V7.out.1.2.2; have hc := (tk_store hb).1; have hl := tk_lt hb; go_simp; try (with_reducible rfl))
      try simp only [Act.put, List.setIfInBounds_toArray, List.set_cons_zero, List.set_cons_succ]
      refine' wpAnyD_take (i := 28) (oi := { dst := some 87, op := Go.Op.load 3 (Go.Operand.tmp 86), type := 3, pos := "law.go:192", after := #[{ on := 27, ground := Go.Ground.data }, { on := 20, ground := Go.Ground.guard }], guard := some (20, false) }) (v := _) rfl (by kernel_rfl) (by kernel_rfl) (by kernel_rfl) (fun _ _ _ h => h) (by kernel_rfl) (Or.inl ⟨by rfl, ?hy25⟩) B5.out ?rest25
      case hy25 => (intro W hSw; have hb := (hSw.block _ (tk_lt V7.out.1.2.2)).trans V7.out.1.2.2; have hc := (tk_store hb).1; have hl := tk_lt hb; go_simp; try (with_reducible rfl))
      try simp only [Act.put, List.setIfInBounds_toArray, List.set_cons_zero, List.set_cons_succ]
      refine wpAnyD_one (i := 29) (o := { dst := some 88, op := Go.Op.call { callee := Go.Callee.value (Go.Operand.func 20), args := #[Go.Operand.tmp 80, Go.Operand.tmp 81, Go.Operand.tmp 83, Go.Operand.tmp 85, Go.Operand.tmp 87], argTypes := #[26, 25, 3, 3, 3] }, type := 4, pos := "law.go:192", after := #[{ on := 21, ground := Go.Ground.data }, { on := 22, ground := Go.Ground.data }, { on := 24, ground := Go.Ground.data }, { on := 26, ground := Go.Ground.data }, { on := 28, ground := Go.Ground.data }, { on := 20, ground := Go.Ground.chain }, { on := 20, ground := Go.Ground.guard }], guard := some (20, false) }) (by kernel_rfl) rfl (fun K hK => ?_)
      go_simp
      refine (hpl.out pl nd pt _ B5.out).mono ?_
      rintro r v9 ⟨rfl, b9⟩
      have B9 : Hid (Below w7.heap.size w7 v9) := (show Below w7.heap.size w7 _ from B5.out).trans (b9.mono (show Below w7.heap.size w7 _ from B5.out).size)
      clear b9
      go_wp2_with fail
      refine hK.out _ _ (fun hD => B9.out) ?_
      clear hK K
      try simp only [Act.put, List.setIfInBounds_toArray, List.set_cons_zero, List.set_cons_succ]
      refine' wpAnyD_take (i := 30) (oi := { dst := some 89, op := Go.Op.unOp Go.UnOp.not 4 (Go.Operand.tmp 88), type := 4, pos := "law.go:192", after := #[{ on := 29, ground := Go.Ground.data }, { on := 20, ground := Go.Ground.guard }], guard := some (20, false) }) (v := _) rfl (by kernel_rfl) (by kernel_rfl) (by kernel_rfl) (fun _ _ _ h => h) (by kernel_rfl) (Or.inl ⟨by rfl, ?hy26⟩) B9.out ?rest26
      case hy26 => (intro W hSw; go_simp; try (with_reducible rfl))
      try simp only [Act.put, List.setIfInBounds_toArray, List.set_cons_zero, List.set_cons_succ]
      refine' wpAnyD_take (i := 31) (oi := { dst := some 90, op := Go.Op.pick (Go.Operand.tmp 79) (Go.Operand.const (Go.Value.bool true)) (Go.Operand.tmp 89), type := 4, pos := "law.go:192", after := #[{ on := 20, ground := Go.Ground.data }, { on := 30, ground := Go.Ground.data }], guard := none }) (v := _) rfl (by kernel_rfl) (by kernel_rfl) (by kernel_rfl) (fun _ _ _ h => h) (by kernel_rfl) (Or.inl ⟨by rfl, ?hy27⟩) B9.out ?rest27
      case hy27 => (intro W hSw; go_simp; try (with_reducible rfl))
      try simp only [Act.put, List.setIfInBounds_toArray, List.set_cons_zero, List.set_cons_succ]
      refine wpAnyD_done (by kernel_rfl) ?_ _
      go_wp2_with fail
      go_meet
      exact ⟨rfl, B9.out⟩
    case rest =>
      obtain ⟨rfl, HC⟩ := hcut
      have hraw : Hid (∀ W, Below w7.heap.size w7 W → Calls Try.prog 21 #[.pointer (some ⟨gb, 0, none⟩)] W fun r w' => ∃ qn kn qe ke ys, r = .returned (.agg (gvc a (.slice qn nl kn) (.slice qe el ke))) ∧ Hid (Below W.heap.size W w' ∧ ys.map NV.n = xs.map NV.n ∧ Cg W.heap.size w' (.slice qn nl kn) (.slice qe el ke) ys es)) := fun W hb => raw2_any W (HMV.out W hb) HNL.out HEL.out
      clear har hnd hpc hrp
      have hr1 := hraw.out wc HC.out
      go_upto_region 14 with (go_at_call 21; refine hr1.mono ?_; rintro r w9 ⟨q1, k1, p1, l1, ys1, rfl, H9⟩)
      obtain ⟨o1, ho1⟩ : ∃ b, b = w9.heap.size := ⟨_, rfl⟩
      obtain ⟨w10, hw10⟩ : ∃ W, W = w9.alloc (.cells (gvc a (.slice q1 nl k1) (.slice p1 el l1)) 25) := ⟨_, rfl⟩
      have U10 : Hid (Below w7.heap.size w7 w10 ∧ w10.heap[o1]? = some (.cells (gvc a (.slice q1 nl k1) (.slice p1 el l1)) 25 (0, 0)) ∧ Cg wc.heap.size w10 (.slice q1 nl k1) (.slice p1 el l1) ys1 es ∧ Sg wc.heap.size w9.heap.size w10 (.slice q1 nl k1) (.slice p1 el l1) ys1 ∧ w9.heap.size = o1 ∧ o1 < w10.heap.size) := by
        have g := ((Gr.refl w9).alloc (.cells (gvc a (.slice q1 nl k1) (.slice p1 el l1)) 25)).below
        have h1 := HC.out.trans (H9.out.1.mono HC.out.size)
        rw [hw10, ho1]
        exact ⟨h1.trans (g.mono h1.size), heap_new' _ _, H9.out.2.2.below g, (H9.out.2.2.sg (nl_few HOK.out H9.out.2.1)).below g, rfl, tk_lt (heap_new' _ _)⟩
      have HW10 : Hid (w9.alloc (.cells #[.int .i64 a, (.slice q1 nl k1), (.slice p1 el l1)] 25) = w10 ∧ w9.heap.size = o1) := ⟨hw10.symm, ho1.symm⟩
      rw [HW10.out.1, HW10.out.2]
      have HY1 := hid H9.out.2.1
      have HZ9 : Hid (w7.heap.size ≤ wc.heap.size ∧ wc.heap.size ≤ w9.heap.size) := ⟨HC.out.size, H9.out.1.size⟩
      clear HW10 hw10 ho1 hr1 H9
      have hr2 := hraw.out w10 U10.out.1
      go_upto_region 15 with (go_at_call 21; refine hr2.mono ?_; rintro r w11 ⟨q2, k2, p2, l2, ys2, rfl, H11⟩)
      obtain ⟨o2, ho2⟩ : ∃ b, b = w11.heap.size := ⟨_, rfl⟩
      obtain ⟨w12, hw12⟩ : ∃ W, W = w11.alloc (.cells (gvc a (.slice q2 nl k2) (.slice p2 el l2)) 25) := ⟨_, rfl⟩
      have U12 : Hid (Below w7.heap.size w7 w12 ∧ w12.heap[o1]? = some (.cells (gvc a (.slice q1 nl k1) (.slice p1 el l1)) 25 (0, 0)) ∧ w12.heap[o2]? = some (.cells (gvc a (.slice q2 nl k2) (.slice p2 el l2)) 25 (0, 0)) ∧ (Cg wc.heap.size w12 (.slice q1 nl k1) (.slice p1 el l1) ys1 es ∧ Sg wc.heap.size w9.heap.size w12 (.slice q1 nl k1) (.slice p1 el l1) ys1) ∧ Cg w10.heap.size w12 (.slice q2 nl k2) (.slice p2 el l2) ys2 es ∧ Sg w10.heap.size w11.heap.size w12 (.slice q2 nl k2) (.slice p2 el l2) ys2) := by
        have g := ((Gr.refl w11).alloc (.cells (gvc a (.slice q2 nl k2) (.slice p2 el l2)) 25)).below
        have h1 := H11.out.1.trans (g.mono H11.out.1.size)
        rw [hw12, ho2]
        exact ⟨U10.out.1.trans (h1.mono U10.out.1.size), (h1.block _ (tk_lt U10.out.2.1)).trans U10.out.2.1, heap_new' _ _, ⟨U10.out.2.2.1.below h1, U10.out.2.2.2.1.below h1⟩, H11.out.2.2.below g, (H11.out.2.2.sg (nl_few HOK.out H11.out.2.1)).below g⟩
      have HW12 : Hid (w11.alloc (.cells #[.int .i64 a, (.slice q2 nl k2), (.slice p2 el l2)] 25) = w12 ∧ w11.heap.size = o2) := ⟨hw12.symm, ho2.symm⟩
      rw [HW12.out.1, HW12.out.2]
      have HY2 := hid H11.out.2.1
      have HZ : Hid (w7.heap.size ≤ wc.heap.size ∧ wc.heap.size ≤ w9.heap.size ∧ w9.heap.size = o1 ∧ o1 < w10.heap.size ∧ w10.heap.size ≤ w11.heap.size ∧ w11.heap.size = o2 ∧ w11.heap.size ≤ w12.heap.size) := ⟨HZ9.out.1, HZ9.out.2, U10.out.2.2.2.2.1, U10.out.2.2.2.2.2, H11.out.1.size, HW12.out.2, by rw [hw12]; exact ((Gr.refl w11).alloc _).size⟩
      clear HW12 hw12 ho2 hr2 H11 U10 HZ9
      have UB : Hid (∀ (W W' : World), Below w7.heap.size w7 W ∧ W.heap[o1]? = some (.cells (gvc a (.slice q1 nl k1) (.slice p1 el l1)) 25 (0, 0)) ∧ W.heap[o2]? = some (.cells (gvc a (.slice q2 nl k2) (.slice p2 el l2)) 25 (0, 0)) ∧ (Cg wc.heap.size W (.slice q1 nl k1) (.slice p1 el l1) ys1 es ∧ Sg wc.heap.size w9.heap.size W (.slice q1 nl k1) (.slice p1 el l1) ys1) ∧ Cg w10.heap.size W (.slice q2 nl k2) (.slice p2 el l2) ys2 es ∧ Sg w10.heap.size w11.heap.size W (.slice q2 nl k2) (.slice p2 el l2) ys2 → Below W.heap.size W W' → Below w7.heap.size w7 W' ∧ W'.heap[o1]? = some (.cells (gvc a (.slice q1 nl k1) (.slice p1 el l1)) 25 (0, 0)) ∧ W'.heap[o2]? = some (.cells (gvc a (.slice q2 nl k2) (.slice p2 el l2)) 25 (0, 0)) ∧ (Cg wc.heap.size W' (.slice q1 nl k1) (.slice p1 el l1) ys1 es ∧ Sg wc.heap.size w9.heap.size W' (.slice q1 nl k1) (.slice p1 el l1) ys1) ∧ Cg w10.heap.size W' (.slice q2 nl k2) (.slice p2 el l2) ys2 es ∧ Sg w10.heap.size w11.heap.size W' (.slice q2 nl k2) (.slice p2 el l2) ys2) := fun W W' h b => ⟨h.1.trans (b.mono h.1.size), (b.block _ (tk_lt h.2.1)).trans h.2.1, (b.block _ (tk_lt h.2.2.1)).trans h.2.2.1, ⟨h.2.2.2.1.1.below b, h.2.2.2.1.2.below b⟩, h.2.2.2.2.1.below b, h.2.2.2.2.2.below b⟩
      have RB : Hid (∀ (W : World), Below w7.heap.size w7 W → ∀ i, W.cell? ⟨rb, i, none⟩ = ((gvc a (.slice pn nl cn) (.slice pe el ce)) : Array Value)[i]?) := fun W hb => (tk_store ((hb.block _ (tk_lt V7.out.1.2.1)).trans V7.out.1.2.1)).1
      have RL : Hid (∀ (W : World), Below w7.heap.size w7 W → rb < W.heap.size) := fun W hb => tk_lt ((hb.block _ (tk_lt V7.out.1.2.1)).trans V7.out.1.2.1)
      have cx := RB.out w12 U12.out.1
      have lx := RL.out w12 U12.out.1
      have c1 := (tk_store U12.out.2.1).1
      have l1' := tk_lt U12.out.2.1
      have hs1 := same2_any (a := a) w12 U12.out.2.2.2.1.1 HOK.out HY1.out (HGV.out w12 U12.out.1) U12.out.1.size
      go_wp2_with fail
      refine hs1.mono ?_
      rintro r w13 ⟨rfl, g13⟩
      have U13 := hid (UB.out _ _ U12.out g13.below)
      clear hs1 cx lx c1 l1' g13
      have cx := RB.out w13 U13.out.1
      have lx := RL.out w13 U13.out.1
      have c1 := (tk_store U13.out.2.2.1).1
      have l1' := tk_lt U13.out.2.2.1
      have hs1 := same2_any (a := a) w13 U13.out.2.2.2.2.1 HOK.out HY2.out (HGV.out w13 U13.out.1) U13.out.1.size
      go_wp2_with fail
      refine hs1.mono ?_
      rintro r w14 ⟨rfl, g14⟩
      have U14 := hid (UB.out _ _ U13.out g14.below)
      clear hs1 cx lx c1 l1' g14 U13
      have c1 := (tk_store U14.out.2.1).1
      have l1' := tk_lt U14.out.2.1
      have hs1 := smudge_any (a := a) w14 U14.out.2.2.2.1.2 (by have := HZ.out.2.2.1; omega)
      go_wp2_with fail
      refine hs1.mono ?_
      rintro r w15 ⟨rfl, k15⟩
      have U15 : Hid (Below w7.heap.size w7 w15 ∧ w15.heap[o2]? = some (.cells (gvc a (.slice q2 nl k2) (.slice p2 el l2)) 25 (0, 0)) ∧ Cg w10.heap.size w15 (.slice q2 nl k2) (.slice p2 el l2) ys2 es) := by
        have hz := HZ.out
        exact ⟨U14.out.1.trans (k15.below U14.out.1.size (fun k e => by omega)), (k15.block _ (tk_lt U14.out.2.2.1) (fun e => by omega)).trans U14.out.2.2.1, U14.out.2.2.2.2.1.kp k15 (fun k e _ e2 => by omega)⟩
      clear hs1 c1 l1' k15 U14
      have cx := RB.out w15 U15.out.1
      have lx := RL.out w15 U15.out.1
      have c1 := (tk_store U15.out.2.1).1
      have l1' := tk_lt U15.out.2.1
      have hs1 := same2_any (a := a) w15 U15.out.2.2 HOK.out HY2.out (HGV.out w15 U15.out.1) U15.out.1.size
      go_wp2_with fail
      refine hs1.mono ?_
      rintro r w16 ⟨rfl, g16⟩
      have U16 : Hid (Below w7.heap.size w7 w16 ∧ w16.heap[o2]? = some (.cells (gvc a (.slice q2 nl k2) (.slice p2 el l2)) 25 (0, 0)) ∧ Cg w10.heap.size w16 (.slice q2 nl k2) (.slice p2 el l2) ys2 es) := ⟨U15.out.1.trans (g16.below.mono U15.out.1.size), (g16.below.block _ (tk_lt U15.out.2.1)).trans U15.out.2.1, U15.out.2.2.below g16.below⟩
      clear hs1 cx lx c1 l1' g16 U15
      have c1 := (tk_store U16.out.2.1).1
      have l1' := tk_lt U16.out.2.1
      have hs1 := smudge_any (a := a) w16 (U16.out.2.2.sg (nl_few HOK.out HY2.out)) (Nat.le_refl _)
      go_wp2_with fail
      refine hs1.mono ?_
      rintro r w17 ⟨rfl, k17⟩
      have U17 : Hid (Below w7.heap.size w7 w17) := by
        have hz := HZ.out
        exact U16.out.1.trans (k17.below U16.out.1.size (fun k e => by omega))
      have HN24 : Hid (nl ≤ 24) := by show _ ≤ _; have h := HOK.out.nl; simp at h; have := HNL.out; omega
      clear hs1 c1 l1' k17 U16 U12 UB HZ HY1 HY2
      have hcn : Hid (∀ (i : Int) W, Below w7.heap.size w7 W → Calls Try.prog 23 #[.pointer (some ⟨gb, 0, none⟩), .int .i64 i] W (Cp EC 64 W (connsAt (xs.map NV.n) i))) := fun i W hb => gconns_any i W (HMV.out W hb)
      have hrc : Hid (∀ (i : Int) W, Below w7.heap.size w7 W → Calls Try.prog 24 #[.agg (gvc a (.slice pn nl cn) (.slice pe el ce)), .int .i64 i] W (Cp EC 64 W (connsAt (xs.map NV.n) i))) := fun i W hb => rConns_any i W (HGV.out W hb) HOK.out
      have hcl : Hid (∀ i : Int, (connsAt (xs.map NV.n) i).length ≤ 16) := fun i => connsAt_len HOK.out i
      go_wp2_with fail
      go_loopw [13] (fun s13 wr => ∃ j : Nat, j ≤ nl + 2 ∧ s13 = .int .i64 ((j : Int) - 1) ∧ Hid (Below w7.heap.size w7 wr)) (fun s13 _ => nl + 2 - (RowKit.intOf s13 + 1).toNat)
      case atStart => exact ⟨0, Nat.zero_le _, rfl, U17.out⟩
      case round =>
        clear U17
        obtain ⟨j, hj, rfl, HV⟩ := hrel
        obtain ⟨V, hV⟩ : ∃ V, V = wr := ⟨_, rfl⟩
        subst hV
        obtain ⟨i, hi⟩ : ∃ i : Int, i = (j : Int) - 1 := ⟨_, rfl⟩
        rw [← hi]
        have HI := hid hi
        have hn24 := HN24.out
        have cx := RB.out V HV.out
        have lx := RL.out V HV.out
        by_cases hlt : i ≤ (nl : Int)
        · obtain ⟨CL, hCL⟩ : ∃ l, l = connsAt (xs.map NV.n) i := ⟨_, rfl⟩
          obtain ⟨cl, hcl2⟩ : ∃ n, n = CL.length := ⟨_, rfl⟩
          have HCL := hid hcl2
          have hc16 : cl ≤ 16 := by rw [hcl2, hCL]; exact hcl.out i
          have hx := (hcn.out i V HV.out).mono fun r w' (h : Cp _ _ _ _ _ _) => Cp.form h (n := cl) (by rw [hcl2, hCL])
          rw [← hCL] at hx
          clear hi hcl2
          go_wp2_with fail
          refine hx.mono ?_
          rintro r w20 ⟨qx, kx, rfl, H20⟩
          have B20 := hid (HV.out.trans (H20.out.1.mono HV.out.size))
          have hy := (hcn.out i w20 B20.out).mono fun r w' (h : Cp _ _ _ _ _ _) => Cp.form h (n := cl) (by rw [HCL.out, hCL])
          rw [← hCL] at hy
          clear hx cx lx
          go_wp2_with fail
          refine hy.mono ?_
          rintro r w21 ⟨qy, ky, rfl, H21⟩
          have B21 := hid (B20.out.trans (H21.out.1.mono B20.out.size))
          have hz := (hrc.out i w21 B21.out).mono fun r w' (h : Cp _ _ _ _ _ _) => Cp.form h (n := cl) (by rw [HCL.out, hCL])
          rw [← hCL] at hz
          clear hy
          have cx := RB.out w21 B21.out
          have lx := RL.out w21 B21.out
          go_wp2_with fail
          refine hz.mono ?_
          rintro r w22 ⟨qz, kz, rfl, H22⟩
          have X22 : Hid (Cx V w22 (.slice qx cl kx) (.slice qy cl ky) (.slice qz cl kz) CL CL CL) := by
            have b1 := H20.out.1
            have b2 := H21.out.1
            have b3 := H22.out.1
            have h1 := H20.out.2
            have h2 := H21.out.2
            have h3 := H22.out.2
            have h1' := owns_below (owns_below h1 b2) b3
            refine ⟨(b1.trans (b2.mono b1.size)).trans (b3.mono (Nat.le_trans b1.size b2.size)), h1', owns_base (owns_below h2 b3) b1.size, owns_base h3 (Nat.le_trans b1.size b2.size), fun k e e2 => ?_, fun k e e2 => ?_, fun k e e2 => ?_⟩
            · have := (owns_rd h1 k e).2
              have := (owns_rd h2 k e2).1
              omega
            · have := (owns_rd h1 k e).2
              have := (owns_rd h3 k e2).1
              have := b2.size
              omega
            · have := (owns_rd h2 k e).2
              have := (owns_rd h3 k e2).1
              omega
          clear hz cx lx H20 H21 H22 B20 B21
          have hc1 := scons_eq w22 (owns_lz (E := EC) X22.out.rx) (owns_lz (E := EC) X22.out.rz) (by have := HCL.out; omega)
          go_wp2_with fail
          refine hc1.mono ?_
          rintro r w23 ⟨rfl, g23⟩
          have X23 := hid (X22.out.below g23.below)
          clear hc1 g23 X22
          have hc1 := scons_eq w23 (owns_lz (E := EC) X23.out.ry) (owns_lz (E := EC) X23.out.rz) (by have := HCL.out; omega)
          go_wp2_with fail
          refine hc1.mono ?_
          rintro r w24 ⟨rfl, g24⟩
          have X24 := hid (X23.out.below g24.below)
          clear hc1 g24 X23
          go_wp2_with fail
          go_loopw [17] (fun s17 wr => ∃ (k : Nat), k ≤ cl ∧ s17 = .int .i64 (k : Nat) ∧ Hid (∃ X Y, Cx V wr (.slice qx cl kx) (.slice qy cl ky) (.slice qz cl kz) X Y CL ∧ Mks cl k m3 X ∧ Mks cl k m4 Y)) (fun s17 _ => cl - (RowKit.intOf s17).toNat)
          case atStart => exact ⟨0, Nat.zero_le _, rfl, CL, CL, X24.out, Mks.zero HCL.out.symm, Mks.zero HCL.out.symm⟩
          case round =>
            clear X24
            obtain ⟨k, hk, rfl, HX⟩ := hrel
            by_cases hlk : k < cl
            · have hlkz : (k : Int) < (cl : Int) := by omega
              have hk0 : (0 : Int) ≤ (k : Int) := by omega
              obtain ⟨X, Y, hXY, hmX, hmY⟩ := HX.out
              obtain ⟨gx, hgx⟩ : ∃ g, qx = some ⟨g, 0, none⟩ := own0 hXY.rx hlk
              subst hgx
              obtain ⟨gx', curx, hqx, hbx, hsx⟩ := own_at hXY.rx hlk
              simp only [Option.some.injEq, Addr.mk.injEq] at hqx
              obtain ⟨rfl, -, -⟩ := hqx
              have d0 : wr.cell? ⟨gx, k * 5, none⟩ = some (curx[k * 5]'(by omega)) := ((tk_store hbx).1 _).trans (by simp)
              have d1 : wr.cell? ⟨gx, k * 5 + 1, none⟩ = some (curx[k * 5 + 1]'(by omega)) := ((tk_store hbx).1 _).trans (by simp)
              have d2 : wr.cell? ⟨gx, k * 5 + 2, none⟩ = some (curx[k * 5 + 2]'(by omega)) := ((tk_store hbx).1 _).trans (by simp)
              have d3 : wr.cell? ⟨gx, k * 5 + 3, none⟩ = some (curx[k * 5 + 3]'(by omega)) := ((tk_store hbx).1 _).trans (by simp)
              have d4 : wr.cell? ⟨gx, k * 5 + 4, none⟩ = some (curx[k * 5 + 4]'(by omega)) := ((tk_store hbx).1 _).trans (by simp)
              have f0 := (tk_store hbx).2
              have l0 := tk_lt hbx
              have hput := owns_put5 hXY.rx (i := k) (by rw [hmX.1]; exact hlk) m3
              obtain ⟨W5, hW5⟩ : ∃ W, W = ((((wr.setCell ⟨gx, k * 5, none⟩ (.int .i64 (-3))).setCell ⟨gx, k * 5 + 1, none⟩ (.int .i64 0)).setCell ⟨gx, k * 5 + 2, none⟩ (.int .u64 0)).setCell ⟨gx, k * 5 + 3, none⟩ (.int .u64 0)).setCell ⟨gx, k * 5 + 4, none⟩ (.int .u64 0) := ⟨_, rfl⟩
              have X5 : Hid (Cx V W5 (.slice (some ⟨gx, 0, none⟩) cl kx) (.slice qy cl ky) (.slice qz cl kz) (X.set k m3) Y CL ∧ Mks cl (k + 1) m3 (X.set k m3) ∧ Mks cl k m4 Y) := by
                rw [hW5]
                exact ⟨hXY.putx (hput.2.mono fun j e => by rw [e]; rfl) hput.1, hmX.step hlk, hmY⟩
              have HW5 := hid hW5.symm
              clear hput hbx hXY hmX hmY hW5 HX
              go_upto_region 33 with fail
              rw [HW5.out]
              clear HW5 d0 d1 d2 d3 d4 f0 l0 hsx
              obtain ⟨hXY, hmX, hmY⟩ := X5.out
              obtain ⟨gy, hgy⟩ : ∃ g, qy = some ⟨g, 0, none⟩ := own0 hXY.ry hlk
              subst hgy
              obtain ⟨gy', cury, hqy, hby, hsy⟩ := own_at hXY.ry hlk
              simp only [Option.some.injEq, Addr.mk.injEq] at hqy
              obtain ⟨rfl, -, -⟩ := hqy
              have d0 : W5.cell? ⟨gy, k * 5, none⟩ = some (cury[k * 5]'(by omega)) := ((tk_store hby).1 _).trans (by simp)
              have d1 : W5.cell? ⟨gy, k * 5 + 1, none⟩ = some (cury[k * 5 + 1]'(by omega)) := ((tk_store hby).1 _).trans (by simp)
              have d2 : W5.cell? ⟨gy, k * 5 + 2, none⟩ = some (cury[k * 5 + 2]'(by omega)) := ((tk_store hby).1 _).trans (by simp)
              have d3 : W5.cell? ⟨gy, k * 5 + 3, none⟩ = some (cury[k * 5 + 3]'(by omega)) := ((tk_store hby).1 _).trans (by simp)
              have d4 : W5.cell? ⟨gy, k * 5 + 4, none⟩ = some (cury[k * 5 + 4]'(by omega)) := ((tk_store hby).1 _).trans (by simp)
              have f0 := (tk_store hby).2
              have l0 := tk_lt hby
              have hput := owns_put5 hXY.ry (i := k) (by rw [hmY.1]; exact hlk) m4
              have FIN : Hid (∃ X Y, Cx V (((((W5.setCell ⟨gy, k * 5, none⟩ (.int .i64 (-4))).setCell ⟨gy, k * 5 + 1, none⟩ (.int .i64 0)).setCell ⟨gy, k * 5 + 2, none⟩ (.int .u64 0)).setCell ⟨gy, k * 5 + 3, none⟩ (.int .u64 0)).setCell ⟨gy, k * 5 + 4, none⟩ (.int .u64 0)) (.slice (some ⟨gx, 0, none⟩) cl kx) (.slice (some ⟨gy, 0, none⟩) cl ky) (.slice qz cl kz) X Y CL ∧ Mks cl (k + 1) m3 X ∧ Mks cl (k + 1) m4 Y) := ⟨_, _, hXY.puty (hput.2.mono fun j e => by rw [e]; rfl) hput.1, hmX, hmY.step hlk⟩
              clear hput hby hXY hmX hmY X5
              go_wp2_with fail
              go_roundw
              case rel => exact ⟨k + 1, by omega, by go_num, FIN.out⟩
              case measure => simp [RowKit.intOf]; omega
            · have hlkz : ¬ (k : Int) < (cl : Int) := by omega
              obtain rfl : k = cl := by omega
              obtain ⟨X, Y, hXY, hmX, hmY⟩ := HX.out
              have X1 := hid hXY
              have HM : Hid (Mks k k m3 X ∧ Mks k k m4 Y) := ⟨hmX, hmY⟩
              clear hXY hmX hmY HX
              go_wp2_with (at_builtin; refine wpAppS Try.underlying37 infoC rfl _ _ rfl V.heap.size _ X.length _ rfl X1.out.rx 2 rfl (by decide) (by have := HM.out.1.1; omega) (by have := HM.out.1.1; unfold maxLen; omega) _ rfl rfl _ ?_)
              intro v25 w25 s25 o25
              have X2 := hid (X1.out.putx s25.kp o25)
              clear s25 o25 X1
              go_wp2_with (at_builtin; refine wpAppS Try.underlying37 infoC rfl _ _ rfl V.heap.size _ Y.length _ rfl X2.out.ry 2 rfl (by decide) (by have := HM.out.2.1; omega) (by have := HM.out.2.1; unfold maxLen; omega) _ rfl rfl _ ?_)
              intro v26 w26 s26 o26
              have X3 := hid (X2.out.puty s26.kp o26)
              clear s26 o26 X2
              go_wp2_with fail
              go_loopw [18] (fun s18 wr => ∃ (q : Nat), q ≤ k ∧ s18 = .int .i64 (q : Nat) ∧ Hid (Cx V wr (.slice qx k kx) (.slice qy k ky) (.slice qz k kz) X Y CL)) (fun s18 _ => k - (RowKit.intOf s18).toNat)
              case atStart => exact ⟨0, Nat.zero_le _, rfl, X3.out⟩
              case round =>
                clear X3
                obtain ⟨q, hq, rfl, HX⟩ := hrel
                by_cases hlq : q < k
                · have hlqz : (q : Int) < (k : Int) := by omega
                  have hq0 : (0 : Int) ≤ (q : Int) := by omega
                  obtain ⟨bx, ox, kx', ex, zx, hx0⟩ := (owns_ls (E := EC) HX.out.rx).get (HM.out.1.2 q hlq)
                  have x0 := hx0 0 _ (by decide) rfl
                  obtain ⟨by', oy, ky', ey, zy, hy0⟩ := (owns_ls (E := EC) HX.out.ry).get (HM.out.2.2 q hlq)
                  have y0 := hy0 0 _ (by decide) rfl
                  simp only [Value.slice.injEq] at ex ey
                  have ex1 := ex.1
                  have ey1 := ey.1
                  clear hx0 hy0 ex ey
                  rw [ex1, ey1]
                  have x1 : wr.cell? ⟨bx, ox + q * 5, none⟩ = some (.int .i64 (-3)) := x0
                  have y1 : wr.cell? ⟨by', oy + q * 5, none⟩ = some (.int .i64 (-4)) := y0
                  clear x0 y0
                  go_wp2_with fail
                  go_roundw
                  case rel =>
                    rw [← ex1, ← ey1]
                    exact ⟨q + 1, by omega, by go_num, HX.out⟩
                  case measure => simp [RowKit.intOf]; omega
                · have hlqz : ¬ (q : Int) < (k : Int) := by omega
                  have BX := hid (HV.out.trans (HX.out.bl.mono HV.out.size))
                  have hcc := (hcn.out i wr BX.out).mono fun r w' (h : Cp _ _ _ _ _ _) => Cp.form h (n := k) (by rw [HCL.out, hCL])
                  rw [← hCL] at hcc
                  go_wp2_with fail
                  refine hcc.mono ?_
                  rintro r w30 ⟨qv, kv, rfl, H30⟩
                  have B30 := hid (BX.out.trans (H30.out.1.mono BX.out.size))
                  have hc1 := scons_eq w30 (owns_lz (E := EC) H30.out.2) (owns_lz (E := EC) (owns_below HX.out.rz H30.out.1)) (by have := HCL.out; omega)
                  clear hcc H30
                  go_wp2_with fail
                  refine hc1.mono ?_
                  rintro r w31 ⟨rfl, g31⟩
                  have B31 := hid (B30.out.trans (g31.below.mono B30.out.size))
                  have hpp := hpl.out i i 0 w31 B31.out
                  clear hc1 g31 B30 BX
                  have cx := RB.out w31 B31.out
                  have lx := RL.out w31 B31.out
                  go_wp2_with fail
                  refine hpp.mono ?_
                  rintro r w32 ⟨rfl, b32⟩
                  have B32 := hid (B31.out.trans (b32.mono B31.out.size))
                  clear hpp b32 B31 cx lx
                  have hi1 := HI.out
                  go_wp2_with fail
                  go_roundw
                  case rel => exact ⟨j + 1, by omega, congrArg (Value.int .i64) (by omega), B32.out⟩
                  case measure => simp [RowKit.intOf]; omega
        · go_upto_region 43 with fail
          have BD : Hid (Below w7.heap.size w7 V.drew) := HV.out.trans ((Gr.refl V).drew.below.mono HV.out.size)
          refine wp_regionD (S := fun W => Below w7.heap.size w7 W) (D := []) hmx ?_
          generalize V.drew = Wd at BD ⊢
          refine' wpAnyD_take (i := 0) (oi := { dst := some 197, op := Go.Op.move (Go.Operand.tmp 6), type := 26, pos := "law.go:227", after := #[], guard := none }) (v := _) rfl (by kernel_rfl) (by kernel_rfl) (by kernel_rfl) (fun _ _ _ h => h) (by kernel_rfl) (Or.inl ⟨by rfl, ?hy28⟩) BD.out ?rest28
          case hy28 => (intro W hSw; go_simp; try (with_reducible rfl))
          try simp only [Act.put, List.setIfInBounds_toArray, List.set_cons_zero, List.set_cons_succ]
          refine' wpAnyD_take (i := 2) (oi := { dst := some 199, op := Go.Op.load 25 (Go.Operand.tmp 2), type := 25, pos := "law.go:227", after := #[], guard := none }) (v := _) rfl (by kernel_rfl) (by kernel_rfl) (by kernel_rfl) (fun _ _ _ h => h) (by kernel_rfl) (Or.inl ⟨by rfl, ?hy29⟩) BD.out ?rest29
          case hy29 => (intro W hSw; have hb := (hSw.block _ (tk_lt V7.out.1.2.1)).trans V7.out.1.2.1; have hc := (tk_store hb).1; have hl := tk_lt hb; go_simp; try (with_reducible rfl))
          try simp only [Act.put, List.setIfInBounds_toArray, List.set_cons_zero, List.set_cons_succ]
          refine wpAnyD_one (i := 1) (o := { dst := some 198, op := Go.Op.call { callee := Go.Callee.value (Go.Operand.func 21), args := #[Go.Operand.tmp 197], argTypes := #[26] }, type := 25, pos := "law.go:227", after := #[{ on := 0, ground := Go.Ground.data }], guard := none }) (by kernel_rfl) rfl (fun K hK => ?_)
          go_simp
          refine (hraw.out _ BD.out).mono ?_
          rintro r w40 ⟨q4, k4, p4, l4, ys4, rfl, H40⟩
          have B40 := hid (BD.out.trans (H40.out.1.mono BD.out.size))
          go_wp2_with fail
          refine hK.out _ _ (fun hD => B40.out) ?_
          clear hK K
          try simp only [Act.put, List.setIfInBounds_toArray, List.set_cons_zero, List.set_cons_succ]
          refine wpAnyD_one (i := 3) (o := { dst := some 200, op := Go.Op.call { callee := Go.Callee.value (Go.Operand.func 22), args := #[Go.Operand.tmp 198, Go.Operand.tmp 199], argTypes := #[25, 25] }, type := 4, pos := "law.go:227", after := #[{ on := 1, ground := Go.Ground.data }, { on := 2, ground := Go.Ground.data }, { on := 1, ground := Go.Ground.chain }], guard := none }) (by kernel_rfl) rfl (fun K hK => ?_)
          go_simp
          refine (same2_any (a := a) w40 H40.out.2.2 HOK.out H40.out.2.1 (HGV.out w40 B40.out) B40.out.size).mono ?_
          rintro r w41 ⟨rfl, g41⟩
          have B41 := hid (B40.out.trans (g41.below.mono B40.out.size))
          clear g41
          go_wp2_with fail
          refine hK.out _ _ (fun hD => B41.out) ?_
          clear hK K
          try simp only [Act.put, List.setIfInBounds_toArray, List.set_cons_zero, List.set_cons_succ]
          refine wpAnyD_one (i := 4) (o := { dst := some 4, op := Go.Op.assign (Go.Operand.tmp 200), type := 4, pos := "law.go:227", after := #[{ on := 3, ground := Go.Ground.data }, { on := 3, ground := Go.Ground.chain }, { on := 0, ground := Go.Ground.phase }, { on := 1, ground := Go.Ground.phase }, { on := 2, ground := Go.Ground.phase }, { on := 3, ground := Go.Ground.phase }], guard := none }) (by kernel_rfl) rfl (fun K hK => ?_)
          go_simp
          refine hK.out _ _ (fun hD => B41.out) ?_
          clear hK K
          try simp only [Act.put, List.setIfInBounds_toArray, List.set_cons_zero, List.set_cons_succ]
          refine wpAnyD_done (by kernel_rfl) ?_ _
          go_wp2_with fail
          go_ret
          exact ⟨rfl, V7.out.1.1.trans (B41.out.mono V7.out.1.1.size)⟩
end Go.Proofs.Ytdiecnacbkpceaa.Df
