import Derived.Test.YtnclnagpfjmlcaaDRm
namespace Go.Proofs.Ytnclnagpfjmlcaa.Df
open Go.RowKit Go.Sort Wi
attribute [local go_sem ↓] Go.wp_at_zero Go.wp_at_succ

theorem wrapi {n : Nat} (h : n ≤ 140737488351232) : IntKind.i64.wrap ((n : Int) + 1) = (n : Int) + 1 := by
  rw [IntKind.wrap_i64]
  omega
/-- The mark behind a list. -/
theorem Mk.at {α : Type} {E : El α} {W : World} {v : Value} {l : List α} {m : α} (h : Mk E W v l m) : ∃ g cap, v = .slice (some ⟨g, 0, none⟩) l.length cap ∧ l.length + 1 ≤ cap ∧ g < W.heap.size ∧ ∀ i u, i < E.k → (E.enc m)[i]? = some u → W.cell? ⟨g, l.length * E.k + i, none⟩ = some u := by
  obtain ⟨g, cap, rfl, h2, h3⟩ := h
  obtain ⟨b, off, c, hv, hb, hc⟩ := h3.get (j := l.length) (t := m) (by simp)
  simp only [Value.slice.injEq, Option.some.injEq, Addr.mk.injEq] at hv
  obtain ⟨⟨rfl, rfl, -⟩, -, rfl⟩ := hv
  refine ⟨g, cap, rfl, h2, hb, fun i u hi hu => ?_⟩
  have := hc i u hi hu
  rw [Nat.zero_add] at this
  exact this
/-- The graph that roomy made. -/
structure Rq (W : World) (nv ev : Value) (ys : List NV) (es : List Edg) : Prop where
  nodes : Mk EV W nv ys mV
  edges : Mk ED W ev es mD
  each : ∀ y ∈ ys, Mk EO W y.cv y.n.code mO ∧ Mk EC W y.dv y.n.conns mC
theorem Rq.below {W W' : World} {nv ev : Value} {ys : List NV} {es : List Edg} (h : Rq W nv ev ys es) (hb : Below W.heap.size W W') : Rq W' nv ev ys es := ⟨h.nodes.below hb, h.edges.below hb, fun y hy => ⟨(h.each y hy).1.below hb, (h.each y hy).2.below hb⟩⟩
theorem Rq.gr {W : World} {nv ev : Value} {ys : List NV} {es : List Edg} (h : Rq W nv ev ys es) (hb : ∀ x ∈ ys, x.n.code.length ≤ 140737488355328 ∧ x.n.conns.length ≤ 140737488355328) (hw : ys.length ≤ 140737488355328 ∧ es.length ≤ 140737488355328) : GR W.heap.size W nv ev ys es :=
  ⟨h.nodes.lz, h.edges.lz, fun y hy => ⟨(h.each y hy).1.lz, (h.each y hy).2.lz⟩, hb, hw⟩
theorem map_big {xs ys : List NV} (h : ys.map NV.n = xs.map NV.n) {p : Nod → Prop} (hx : ∀ x ∈ xs, p x.n) : ∀ y ∈ ys, p y.n := fun y hy => by
  have h1 : y.n ∈ xs.map NV.n := by rw [← h]; exact List.mem_map.2 ⟨y, hy, rfl⟩
  obtain ⟨x, hx2, e⟩ := List.mem_map.1 h1
  rw [← e]
  exact hx x hx2
set_option maxRecDepth 100000 in
set_option maxHeartbeats 8000000 in
theorem untouched_any {nv ev nv' ev' : Value} {a : Int} {xs ys : List NV} {es : List Edg} (hxy : ys.map NV.n = xs.map NV.n) (w : World) (hG : GR w.heap.size w nv ev xs es) (hR : Rq w nv' ev' ys es) (hbg : xs.length * 112 ≤ 140737488351232 ∧ es.length * 40 ≤ 140737488351232 ∧ ∀ x ∈ xs, x.n.code.length * 16 ≤ 140737488351232 ∧ x.n.conns.length * 40 ≤ 140737488351232) : Calls Try.prog 18 #[.agg (gvc a nv' ev'), .agg (gvc a nv ev)] w fun e w' => e = .returned (.bool true) ∧ Below w.heap.size w w' := by
  have hmx : Try.prog.follows .mixedOrders = true := by kernel_rfl
  have hyl : ys.length = xs.length := by have := congrArg List.length hxy; simpa using this
  have hys := map_big (p := fun n => n.code.length * 16 ≤ 140737488351232 ∧ n.conns.length * 40 ≤ 140737488351232) hxy hbg.2.2
  obtain ⟨pn, cn, hnv⟩ := hG.nodes.form
  obtain ⟨pe, ce, hev⟩ := hG.edges.form
  obtain ⟨gn, kn, hgn, hkn, -, -⟩ := hR.nodes.at
  obtain ⟨ge, ke, hge, hke, -, -⟩ := hR.edges.at
  obtain ⟨nl, hnl⟩ : ∃ n, n = xs.length := ⟨_, rfl⟩
  obtain ⟨el, hel⟩ : ∃ n, n = es.length := ⟨_, rfl⟩
  rw [← hnl] at hnv
  rw [← hel] at hev hge
  rw [hyl, ← hnl] at hgn
  subst hnv hev hgn hge
  have n9 : nl ≤ 140737488351232 := by omega
  have e9 : el ≤ 140737488351232 := by omega
  have q1 : (nl : Int) + 1 ≤ (kn : Int) := by omega
  have q2 : (el : Int) + 1 ≤ (ke : Int) := by omega
  have q3 : (0 : Int) ≤ (nl : Int) + 1 := by omega
  have q4 : (0 : Int) ≤ (el : Int) + 1 := by omega
  have q5 : (nl : Int) < (nl : Int) + 1 := by omega
  have q6 : (el : Int) < (el : Int) + 1 := by omega
  have HYS := hid hys
  have HXY := hid hxy
  have HYL : Hid (ys.length = nl ∧ es.length = el) := ⟨by omega, hel.symm⟩
  obtain ⟨W0, hW0⟩ : ∃ W, W = (w.alloc (.cells (gvc a (.slice (some ⟨gn, 0, none⟩) nl kn) (.slice (some ⟨ge, 0, none⟩) el ke)) 25)).alloc (.cells (gvc a (.slice pn nl cn) (.slice pe el ce)) 25) := ⟨_, rfl⟩
  have G0 : Hid (Below w.heap.size w W0 ∧ W0.heap[w.heap.size]? = some (.cells (gvc a (.slice (some ⟨gn, 0, none⟩) nl kn) (.slice (some ⟨ge, 0, none⟩) el ke)) 25 (0, 0)) ∧ W0.heap[w.heap.size + 1]? = some (.cells (gvc a (.slice pn nl cn) (.slice pe el ce)) 25 (0, 0))) := by
    rw [hW0]
    exact ⟨(((Gr.refl w).alloc _).alloc _).below, new1 w _ _, new2 w _ _⟩
  have HG := hid (hG.later (Nat.le_refl _) G0.out.1)
  have HR := hid (hR.below G0.out.1)
  have HC : Hid (GR W0.heap.size W0 (.slice (some ⟨gn, 0, none⟩) nl kn) (.slice (some ⟨ge, 0, none⟩) el ke) ys es) := HR.out.gr (fun x hx => by have := hys x hx; omega) ⟨by omega, by omega⟩
  have HW : Hid ((w.alloc (.cells #[.int .i64 a, .slice (some ⟨gn, 0, none⟩) nl kn, .slice (some ⟨ge, 0, none⟩) el ke] 25)).alloc (.cells #[.int .i64 a, .slice pn nl cn, .slice pe el ce] 25) = W0) := hW0.symm
  clear hG hR hbg hyl hys hxy hkn hke hnl hel hW0
  go_enter Try.func18, Try.ntmps18
  go_upto_region 1 with fail
  rw [HW.out]
  clear HW
  have hS0 : Below W0.heap.size W0 W0.drew := (Gr.refl _).drew.below
  refine wp_regionD (S := fun W => Below W0.heap.size W0 W) (D := []) hmx ?_
  refine' wpAnyD_take (i := 0) (oi := { dst := some 7, op := Go.Op.load 25 (Go.Operand.tmp 2), type := 25, pos := "law.go:82", after := #[], guard := none }) (v := _) rfl (by kernel_rfl) (by kernel_rfl) (by kernel_rfl) (fun _ _ _ h => h) (by kernel_rfl) (Or.inl ⟨by rfl, ?hy1⟩) hS0 ?rest1
  case hy1 => (intro W hSw; have hb := (hSw.block _ (tk_lt G0.out.2.1)).trans G0.out.2.1; have hc := (tk_store hb).1; have hl := tk_lt hb; go_simp; try (with_reducible rfl))
  try simp only [Act.put, List.setIfInBounds_toArray, List.set_cons_zero, List.set_cons_succ]
  refine' wpAnyD_take (i := 1) (oi := { dst := some 8, op := Go.Op.load 25 (Go.Operand.tmp 3), type := 25, pos := "law.go:82", after := #[], guard := none }) (v := _) rfl (by kernel_rfl) (by kernel_rfl) (by kernel_rfl) (fun _ _ _ h => h) (by kernel_rfl) (Or.inl ⟨by rfl, ?hy2⟩) hS0 ?rest2
  case hy2 => (intro W hSw; have hb := (hSw.block _ (tk_lt G0.out.2.2)).trans G0.out.2.2; have hc := (tk_store hb).1; have hl := tk_lt hb; go_simp; try (with_reducible rfl))
  try simp only [Act.put, List.setIfInBounds_toArray, List.set_cons_zero, List.set_cons_succ]
  refine wpAnyD_one (i := 2) (o := { dst := some 9, op := Go.Op.call { callee := Go.Callee.value (Go.Operand.func 11), args := #[Go.Operand.tmp 7, Go.Operand.tmp 8], argTypes := #[25, 25] }, type := 4, pos := "law.go:82", after := #[{ on := 0, ground := Go.Ground.data }, { on := 1, ground := Go.Ground.data }], guard := none }) (by kernel_rfl) rfl (fun K hK => ?_)
  go_simp
  refine (same_eq HXY.out _ (HC.out.later (Nat.le_refl _) hS0) (HG.out.later (Nat.le_refl _) hS0)).mono ?_
  rintro r w9 ⟨rfl, g9⟩
  have hS9 : Below W0.heap.size W0 w9 := hS0.trans (g9.below.mono hS0.size)
  clear g9
  go_wp2_with fail
  refine hK.out _ _ (fun hD => hS9) ?_
  clear hK K
  try simp only [Act.put, List.setIfInBounds_toArray, List.set_cons_zero, List.set_cons_succ]
  refine' wpAnyD_take (i := 3) (oi := { dst := some 10, op := Go.Op.unOp Go.UnOp.not 4 (Go.Operand.tmp 9), type := 4, pos := "law.go:82", after := #[{ on := 2, ground := Go.Ground.data }], guard := none }) (v := _) rfl (by kernel_rfl) (by kernel_rfl) (by kernel_rfl) (fun _ _ _ h => h) (by kernel_rfl) (Or.inl ⟨by rfl, ?hy4⟩) hS9 ?rest4
  case hy4 => (intro W hSw; go_simp; try (with_reducible rfl))
  try simp only [Act.put, List.setIfInBounds_toArray, List.set_cons_zero, List.set_cons_succ]
  refine' wpAnyD_take (i := 4) (oi := { dst := some 11, op := Go.Op.move (Go.Operand.tmp 10), type := 4, pos := "law.go:82", after := #[{ on := 3, ground := Go.Ground.data }, { on := 2, ground := Go.Ground.chain }], guard := none }) (v := _) rfl (by kernel_rfl) (by kernel_rfl) (by kernel_rfl) (fun _ _ _ h => h) (by kernel_rfl) (Or.inl ⟨by rfl, ?hy5⟩) hS9 ?rest5
  case hy5 => (intro W hSw; go_simp; try (with_reducible rfl))
  try simp only [Act.put, List.setIfInBounds_toArray, List.set_cons_zero, List.set_cons_succ]
  refine' wpAnyD_take (i := 5) (oi := { dst := some 12, op := Go.Op.fieldAddr 25 (Go.Operand.tmp 2) 1, type := 0, pos := "law.go:82", after := #[{ on := 4, ground := Go.Ground.guard }], guard := some (4, false) }) (v := _) rfl (by kernel_rfl) (by kernel_rfl) (by kernel_rfl) (fun _ _ _ h => h) (by kernel_rfl) (Or.inl ⟨by rfl, ?hy6⟩) hS9 ?rest6
  case hy6 => (intro W hSw; go_simp; try (with_reducible rfl))
  try simp only [Act.put, List.setIfInBounds_toArray, List.set_cons_zero, List.set_cons_succ]
  refine' wpAnyD_take (i := 6) (oi := { dst := some 13, op := Go.Op.load 22 (Go.Operand.tmp 12), type := 22, pos := "law.go:82", after := #[{ on := 5, ground := Go.Ground.data }, { on := 4, ground := Go.Ground.guard }], guard := some (4, false) }) (v := _) rfl (by kernel_rfl) (by kernel_rfl) (by kernel_rfl) (fun _ _ _ h => h) (by kernel_rfl) (Or.inl ⟨by rfl, ?hy7⟩) hS9 ?rest7
  case hy7 => (intro W hSw; have hb := (hSw.block _ (tk_lt G0.out.2.1)).trans G0.out.2.1; have hc := (tk_store hb).1; have hl := tk_lt hb; go_simp; try (with_reducible rfl))
  try simp only [Act.put, List.setIfInBounds_toArray, List.set_cons_zero, List.set_cons_succ]
  refine' wpAnyD_take (i := 7) (oi := { dst := some 14, op := Go.Op.fieldAddr 25 (Go.Operand.tmp 3) 1, type := 0, pos := "law.go:82", after := #[{ on := 4, ground := Go.Ground.guard }], guard := some (4, false) }) (v := _) rfl (by kernel_rfl) (by kernel_rfl) (by kernel_rfl) (fun _ _ _ h => h) (by kernel_rfl) (Or.inl ⟨by rfl, ?hy8⟩) hS9 ?rest8
  case hy8 => (intro W hSw; go_simp; try (with_reducible rfl))
  try simp only [Act.put, List.setIfInBounds_toArray, List.set_cons_zero, List.set_cons_succ]
  refine' wpAnyD_take (i := 8) (oi := { dst := some 15, op := Go.Op.load 22 (Go.Operand.tmp 14), type := 22, pos := "law.go:82", after := #[{ on := 7, ground := Go.Ground.data }, { on := 4, ground := Go.Ground.guard }], guard := some (4, false) }) (v := _) rfl (by kernel_rfl) (by kernel_rfl) (by kernel_rfl) (fun _ _ _ h => h) (by kernel_rfl) (Or.inl ⟨by rfl, ?hy9⟩) hS9 ?rest9
  case hy9 => (intro W hSw; have hb := (hSw.block _ (tk_lt G0.out.2.2)).trans G0.out.2.2; have hc := (tk_store hb).1; have hl := tk_lt hb; go_simp; try (with_reducible rfl))
  try simp only [Act.put, List.setIfInBounds_toArray, List.set_cons_zero, List.set_cons_succ]
  refine' wpAnyD_take (i := 9) (oi := { dst := some 16, op := Go.Op.call { callee := Go.Callee.builtin Go.Builtin.len, args := #[Go.Operand.tmp 15], argTypes := #[22] }, type := 3, pos := "law.go:82", after := #[{ on := 8, ground := Go.Ground.data }, { on := 4, ground := Go.Ground.guard }], guard := some (4, false) }) (v := _) rfl (by kernel_rfl) (by kernel_rfl) (by kernel_rfl) (fun _ _ _ h => h) (by kernel_rfl) (Or.inl ⟨by rfl, ?hy10⟩) hS9 ?rest10
  case hy10 => (intro W hSw; go_simp; try (with_reducible rfl))
  try simp only [Act.put, List.setIfInBounds_toArray, List.set_cons_zero, List.set_cons_succ]
  refine' wpAnyD_take (i := 10) (oi := { dst := some 17, op := Go.Op.binOp Go.BinOp.add 3 (Go.Operand.tmp 16) (Go.Operand.const (Go.Value.int Go.IntKind.i64 1)) 3, type := 3, pos := "law.go:82", after := #[{ on := 9, ground := Go.Ground.data }, { on := 4, ground := Go.Ground.guard }], guard := some (4, false) }) (v := _) rfl (by kernel_rfl) (by kernel_rfl) (by kernel_rfl) (fun _ _ _ h => h) (by kernel_rfl) (Or.inl ⟨by rfl, ?hy11⟩) hS9 ?rest11
  case hy11 => (intro W hSw; have hw : IntKind.i64.wrap ((nl : Int) + 1) = (nl : Int) + 1 := (wrapi n9); go_simp; try (with_reducible rfl))
  try simp only [Act.put, List.setIfInBounds_toArray, List.set_cons_zero, List.set_cons_succ]
  refine' wpAnyD_take (i := 11) (oi := { dst := some 18, op := Go.Op.slice 22 (Go.Operand.tmp 13) none (some (Go.Operand.tmp 17)) none, type := 22, pos := "law.go:82", after := #[{ on := 6, ground := Go.Ground.data }, { on := 10, ground := Go.Ground.data }, { on := 4, ground := Go.Ground.guard }], guard := some (4, false) }) (v := _) rfl (by kernel_rfl) (by kernel_rfl) (by kernel_rfl) (fun _ _ _ h => h) (by kernel_rfl) (Or.inl ⟨by rfl, ?hy12⟩) hS9 ?rest12
  case hy12 => (intro W hSw; have ht : ((nl : Int) + 1).toNat = nl + 1 := (by omega); go_simp; try (with_reducible rfl))
  try simp only [Act.put, List.setIfInBounds_toArray, List.set_cons_zero, List.set_cons_succ]
  refine' wpAnyD_take (i := 12) (oi := { dst := some 19, op := Go.Op.fieldAddr 25 (Go.Operand.tmp 3) 1, type := 0, pos := "law.go:82", after := #[{ on := 4, ground := Go.Ground.guard }], guard := some (4, false) }) (v := _) rfl (by kernel_rfl) (by kernel_rfl) (by kernel_rfl) (fun _ _ _ h => h) (by kernel_rfl) (Or.inl ⟨by rfl, ?hy13⟩) hS9 ?rest13
  case hy13 => (intro W hSw; go_simp; try (with_reducible rfl))
  try simp only [Act.put, List.setIfInBounds_toArray, List.set_cons_zero, List.set_cons_succ]
  refine' wpAnyD_take (i := 13) (oi := { dst := some 20, op := Go.Op.load 22 (Go.Operand.tmp 19), type := 22, pos := "law.go:82", after := #[{ on := 12, ground := Go.Ground.data }, { on := 4, ground := Go.Ground.guard }], guard := some (4, false) }) (v := _) rfl (by kernel_rfl) (by kernel_rfl) (by kernel_rfl) (fun _ _ _ h => h) (by kernel_rfl) (Or.inl ⟨by rfl, ?hy14⟩) hS9 ?rest14
  case hy14 => (intro W hSw; have hb := (hSw.block _ (tk_lt G0.out.2.2)).trans G0.out.2.2; have hc := (tk_store hb).1; have hl := tk_lt hb; go_simp; try (with_reducible rfl))
  try simp only [Act.put, List.setIfInBounds_toArray, List.set_cons_zero, List.set_cons_succ]
  refine' wpAnyD_take (i := 14) (oi := { dst := some 21, op := Go.Op.call { callee := Go.Callee.builtin Go.Builtin.len, args := #[Go.Operand.tmp 20], argTypes := #[22] }, type := 3, pos := "law.go:82", after := #[{ on := 13, ground := Go.Ground.data }, { on := 4, ground := Go.Ground.guard }], guard := some (4, false) }) (v := _) rfl (by kernel_rfl) (by kernel_rfl) (by kernel_rfl) (fun _ _ _ h => h) (by kernel_rfl) (Or.inl ⟨by rfl, ?hy15⟩) hS9 ?rest15
  case hy15 => (intro W hSw; go_simp; try (with_reducible rfl))
  try simp only [Act.put, List.setIfInBounds_toArray, List.set_cons_zero, List.set_cons_succ]
  refine' wpAnyD_take (i := 15) (oi := { dst := some 22, op := Go.Op.indexAddr 22 (Go.Operand.tmp 18) (Go.Operand.tmp 21), type := 0, pos := "law.go:82", after := #[{ on := 11, ground := Go.Ground.data }, { on := 14, ground := Go.Ground.data }, { on := 4, ground := Go.Ground.guard }], guard := some (4, false) }) (v := _) rfl (by kernel_rfl) (by kernel_rfl) (by kernel_rfl) (fun _ _ _ h => h) (by kernel_rfl) (Or.inl ⟨by rfl, ?hy16⟩) hS9 ?rest16
  case hy16 => (intro W hSw; go_simp; try (with_reducible rfl))
  try simp only [Act.put, List.setIfInBounds_toArray, List.set_cons_zero, List.set_cons_succ]
  refine' wpAnyD_take (i := 16) (oi := { dst := some 23, op := Go.Op.fieldAddr 67 (Go.Operand.tmp 22) 0, type := 0, pos := "law.go:82", after := #[{ on := 15, ground := Go.Ground.data }, { on := 4, ground := Go.Ground.guard }], guard := some (4, false) }) (v := _) rfl (by kernel_rfl) (by kernel_rfl) (by kernel_rfl) (fun _ _ _ h => h) (by kernel_rfl) (Or.inl ⟨by rfl, ?hy17⟩) hS9 ?rest17
  case hy17 => (intro W hSw; go_simp; try (with_reducible rfl))
  try simp only [Act.put, List.setIfInBounds_toArray, List.set_cons_zero, List.set_cons_succ]
  refine' wpAnyD_take (i := 17) (oi := { dst := some 24, op := Go.Op.load 3 (Go.Operand.tmp 23), type := 3, pos := "law.go:82", after := #[{ on := 16, ground := Go.Ground.data }, { on := 4, ground := Go.Ground.guard }], guard := some (4, false) }) (v := _) rfl (by kernel_rfl) (by kernel_rfl) (by kernel_rfl) (fun _ _ _ h => h) (by kernel_rfl) (Or.inl ⟨by rfl, ?hy18⟩) hS9 ?rest18
  case hy18 => (intro W hSw; obtain ⟨g, cap, hv, -, hgl, hcl⟩ := (HR.out.nodes.below hSw).at; simp only [Value.slice.injEq, Option.some.injEq, Addr.mk.injEq] at hv; obtain ⟨⟨rfl, -, -⟩, -, -⟩ := hv; have hc := hcl 0 (.int .i64 (-77)) (by decide) rfl; rw [HYL.out.1] at hc; have hc2 : W.cell? ⟨gn, nl * 10, none⟩ = some (.int .i64 (-77)) := hc; clear hcl hc; go_simp; try (with_reducible rfl))
  try simp only [Act.put, List.setIfInBounds_toArray, List.set_cons_zero, List.set_cons_succ]
  refine' wpAnyD_take (i := 18) (oi := { dst := some 25, op := Go.Op.binOp Go.BinOp.neq 3 (Go.Operand.tmp 24) (Go.Operand.const (Go.Value.int Go.IntKind.i64 (-77))) 3, type := 4, pos := "law.go:82", after := #[{ on := 17, ground := Go.Ground.data }, { on := 4, ground := Go.Ground.guard }], guard := some (4, false) }) (v := _) rfl (by kernel_rfl) (by kernel_rfl) (by kernel_rfl) (fun _ _ _ h => h) (by kernel_rfl) (Or.inl ⟨by rfl, ?hy19⟩) hS9 ?rest19
  case hy19 => (intro W hSw; go_simp; try (with_reducible rfl))
  try simp only [Act.put, List.setIfInBounds_toArray, List.set_cons_zero, List.set_cons_succ]
  refine' wpAnyD_take (i := 19) (oi := { dst := some 26, op := Go.Op.pick (Go.Operand.tmp 11) (Go.Operand.const (Go.Value.bool true)) (Go.Operand.tmp 25), type := 4, pos := "law.go:82", after := #[{ on := 4, ground := Go.Ground.data }, { on := 18, ground := Go.Ground.data }], guard := none }) (v := _) rfl (by kernel_rfl) (by kernel_rfl) (by kernel_rfl) (fun _ _ _ h => h) (by kernel_rfl) (Or.inl ⟨by rfl, ?hy20⟩) hS9 ?rest20
  case hy20 => (intro W hSw; go_simp; try (with_reducible rfl))
  try simp only [Act.put, List.setIfInBounds_toArray, List.set_cons_zero, List.set_cons_succ]
  refine' wpAnyD_take (i := 20) (oi := { dst := some 27, op := Go.Op.move (Go.Operand.tmp 26), type := 4, pos := "law.go:82", after := #[{ on := 19, ground := Go.Ground.data }, { on := 4, ground := Go.Ground.chain }], guard := none }) (v := _) rfl (by kernel_rfl) (by kernel_rfl) (by kernel_rfl) (fun _ _ _ h => h) (by kernel_rfl) (Or.inl ⟨by rfl, ?hy21⟩) hS9 ?rest21
  case hy21 => (intro W hSw; go_simp; try (with_reducible rfl))
  try simp only [Act.put, List.setIfInBounds_toArray, List.set_cons_zero, List.set_cons_succ]
  refine' wpAnyD_take (i := 21) (oi := { dst := some 28, op := Go.Op.fieldAddr 25 (Go.Operand.tmp 2) 2, type := 0, pos := "law.go:82", after := #[{ on := 20, ground := Go.Ground.guard }], guard := some (20, false) }) (v := _) rfl (by kernel_rfl) (by kernel_rfl) (by kernel_rfl) (fun _ _ _ h => h) (by kernel_rfl) (Or.inl ⟨by rfl, ?hy22⟩) hS9 ?rest22
  case hy22 => (intro W hSw; go_simp; try (with_reducible rfl))
  try simp only [Act.put, List.setIfInBounds_toArray, List.set_cons_zero, List.set_cons_succ]
  refine' wpAnyD_take (i := 22) (oi := { dst := some 29, op := Go.Op.load 23 (Go.Operand.tmp 28), type := 23, pos := "law.go:82", after := #[{ on := 21, ground := Go.Ground.data }, { on := 20, ground := Go.Ground.guard }], guard := some (20, false) }) (v := _) rfl (by kernel_rfl) (by kernel_rfl) (by kernel_rfl) (fun _ _ _ h => h) (by kernel_rfl) (Or.inl ⟨by rfl, ?hy23⟩) hS9 ?rest23
  case hy23 => (intro W hSw; have hb := (hSw.block _ (tk_lt G0.out.2.1)).trans G0.out.2.1; have hc := (tk_store hb).1; have hl := tk_lt hb; go_simp; try (with_reducible rfl))
  try simp only [Act.put, List.setIfInBounds_toArray, List.set_cons_zero, List.set_cons_succ]
  refine' wpAnyD_take (i := 23) (oi := { dst := some 30, op := Go.Op.fieldAddr 25 (Go.Operand.tmp 3) 2, type := 0, pos := "law.go:82", after := #[{ on := 20, ground := Go.Ground.guard }], guard := some (20, false) }) (v := _) rfl (by kernel_rfl) (by kernel_rfl) (by kernel_rfl) (fun _ _ _ h => h) (by kernel_rfl) (Or.inl ⟨by rfl, ?hy24⟩) hS9 ?rest24
  case hy24 => (intro W hSw; go_simp; try (with_reducible rfl))
  try simp only [Act.put, List.setIfInBounds_toArray, List.set_cons_zero, List.set_cons_succ]
  refine' wpAnyD_take (i := 24) (oi := { dst := some 31, op := Go.Op.load 23 (Go.Operand.tmp 30), type := 23, pos := "law.go:82", after := #[{ on := 23, ground := Go.Ground.data }, { on := 20, ground := Go.Ground.guard }], guard := some (20, false) }) (v := _) rfl (by kernel_rfl) (by kernel_rfl) (by kernel_rfl) (fun _ _ _ h => h) (by kernel_rfl) (Or.inl ⟨by rfl, ?hy25⟩) hS9 ?rest25
  case hy25 => (intro W hSw; have hb := (hSw.block _ (tk_lt G0.out.2.2)).trans G0.out.2.2; have hc := (tk_store hb).1; have hl := tk_lt hb; go_simp; try (with_reducible rfl))
  try simp only [Act.put, List.setIfInBounds_toArray, List.set_cons_zero, List.set_cons_succ]
  refine' wpAnyD_take (i := 25) (oi := { dst := some 32, op := Go.Op.call { callee := Go.Callee.builtin Go.Builtin.len, args := #[Go.Operand.tmp 31], argTypes := #[23] }, type := 3, pos := "law.go:82", after := #[{ on := 24, ground := Go.Ground.data }, { on := 20, ground := Go.Ground.guard }], guard := some (20, false) }) (v := _) rfl (by kernel_rfl) (by kernel_rfl) (by kernel_rfl) (fun _ _ _ h => h) (by kernel_rfl) (Or.inl ⟨by rfl, ?hy26⟩) hS9 ?rest26
  case hy26 => (intro W hSw; go_simp; try (with_reducible rfl))
  try simp only [Act.put, List.setIfInBounds_toArray, List.set_cons_zero, List.set_cons_succ]
  refine' wpAnyD_take (i := 26) (oi := { dst := some 33, op := Go.Op.binOp Go.BinOp.add 3 (Go.Operand.tmp 32) (Go.Operand.const (Go.Value.int Go.IntKind.i64 1)) 3, type := 3, pos := "law.go:82", after := #[{ on := 25, ground := Go.Ground.data }, { on := 20, ground := Go.Ground.guard }], guard := some (20, false) }) (v := _) rfl (by kernel_rfl) (by kernel_rfl) (by kernel_rfl) (fun _ _ _ h => h) (by kernel_rfl) (Or.inl ⟨by rfl, ?hy27⟩) hS9 ?rest27
  case hy27 => (intro W hSw; have hw : IntKind.i64.wrap ((el : Int) + 1) = (el : Int) + 1 := (wrapi e9); go_simp; try (with_reducible rfl))
  try simp only [Act.put, List.setIfInBounds_toArray, List.set_cons_zero, List.set_cons_succ]
  refine' wpAnyD_take (i := 27) (oi := { dst := some 34, op := Go.Op.slice 23 (Go.Operand.tmp 29) none (some (Go.Operand.tmp 33)) none, type := 23, pos := "law.go:82", after := #[{ on := 22, ground := Go.Ground.data }, { on := 26, ground := Go.Ground.data }, { on := 20, ground := Go.Ground.guard }], guard := some (20, false) }) (v := _) rfl (by kernel_rfl) (by kernel_rfl) (by kernel_rfl) (fun _ _ _ h => h) (by kernel_rfl) (Or.inl ⟨by rfl, ?hy28⟩) hS9 ?rest28
  case hy28 => (intro W hSw; have ht : ((el : Int) + 1).toNat = el + 1 := (by omega); go_simp; try (with_reducible rfl))
  try simp only [Act.put, List.setIfInBounds_toArray, List.set_cons_zero, List.set_cons_succ]
  refine' wpAnyD_take (i := 28) (oi := { dst := some 35, op := Go.Op.fieldAddr 25 (Go.Operand.tmp 3) 2, type := 0, pos := "law.go:82", after := #[{ on := 20, ground := Go.Ground.guard }], guard := some (20, false) }) (v := _) rfl (by kernel_rfl) (by kernel_rfl) (by kernel_rfl) (fun _ _ _ h => h) (by kernel_rfl) (Or.inl ⟨by rfl, ?hy29⟩) hS9 ?rest29
  case hy29 => (intro W hSw; go_simp; try (with_reducible rfl))
  try simp only [Act.put, List.setIfInBounds_toArray, List.set_cons_zero, List.set_cons_succ]
  refine' wpAnyD_take (i := 29) (oi := { dst := some 36, op := Go.Op.load 23 (Go.Operand.tmp 35), type := 23, pos := "law.go:82", after := #[{ on := 28, ground := Go.Ground.data }, { on := 20, ground := Go.Ground.guard }], guard := some (20, false) }) (v := _) rfl (by kernel_rfl) (by kernel_rfl) (by kernel_rfl) (fun _ _ _ h => h) (by kernel_rfl) (Or.inl ⟨by rfl, ?hy30⟩) hS9 ?rest30
  case hy30 => (intro W hSw; have hb := (hSw.block _ (tk_lt G0.out.2.2)).trans G0.out.2.2; have hc := (tk_store hb).1; have hl := tk_lt hb; go_simp; try (with_reducible rfl))
  try simp only [Act.put, List.setIfInBounds_toArray, List.set_cons_zero, List.set_cons_succ]
  refine' wpAnyD_take (i := 30) (oi := { dst := some 37, op := Go.Op.call { callee := Go.Callee.builtin Go.Builtin.len, args := #[Go.Operand.tmp 36], argTypes := #[23] }, type := 3, pos := "law.go:82", after := #[{ on := 29, ground := Go.Ground.data }, { on := 20, ground := Go.Ground.guard }], guard := some (20, false) }) (v := _) rfl (by kernel_rfl) (by kernel_rfl) (by kernel_rfl) (fun _ _ _ h => h) (by kernel_rfl) (Or.inl ⟨by rfl, ?hy31⟩) hS9 ?rest31
  case hy31 => (intro W hSw; go_simp; try (with_reducible rfl))
  try simp only [Act.put, List.setIfInBounds_toArray, List.set_cons_zero, List.set_cons_succ]
  refine' wpAnyD_take (i := 31) (oi := { dst := some 38, op := Go.Op.indexAddr 23 (Go.Operand.tmp 34) (Go.Operand.tmp 37), type := 0, pos := "law.go:82", after := #[{ on := 27, ground := Go.Ground.data }, { on := 30, ground := Go.Ground.data }, { on := 20, ground := Go.Ground.guard }], guard := some (20, false) }) (v := _) rfl (by kernel_rfl) (by kernel_rfl) (by kernel_rfl) (fun _ _ _ h => h) (by kernel_rfl) (Or.inl ⟨by rfl, ?hy32⟩) hS9 ?rest32
  case hy32 => (intro W hSw; go_simp; try (with_reducible rfl))
  try simp only [Act.put, List.setIfInBounds_toArray, List.set_cons_zero, List.set_cons_succ]
  refine' wpAnyD_take (i := 32) (oi := { dst := some 39, op := Go.Op.fieldAddr 69 (Go.Operand.tmp 38) 0, type := 0, pos := "law.go:82", after := #[{ on := 31, ground := Go.Ground.data }, { on := 20, ground := Go.Ground.guard }], guard := some (20, false) }) (v := _) rfl (by kernel_rfl) (by kernel_rfl) (by kernel_rfl) (fun _ _ _ h => h) (by kernel_rfl) (Or.inl ⟨by rfl, ?hy33⟩) hS9 ?rest33
  case hy33 => (intro W hSw; go_simp; try (with_reducible rfl))
  try simp only [Act.put, List.setIfInBounds_toArray, List.set_cons_zero, List.set_cons_succ]
  refine' wpAnyD_take (i := 33) (oi := { dst := some 40, op := Go.Op.load 3 (Go.Operand.tmp 39), type := 3, pos := "law.go:82", after := #[{ on := 32, ground := Go.Ground.data }, { on := 20, ground := Go.Ground.guard }], guard := some (20, false) }) (v := _) rfl (by kernel_rfl) (by kernel_rfl) (by kernel_rfl) (fun _ _ _ h => h) (by kernel_rfl) (Or.inl ⟨by rfl, ?hy34⟩) hS9 ?rest34
  case hy34 => (intro W hSw; obtain ⟨g, cap, hv, -, hgl, hcl⟩ := (HR.out.edges.below hSw).at; simp only [Value.slice.injEq, Option.some.injEq, Addr.mk.injEq] at hv; obtain ⟨⟨rfl, -, -⟩, -, -⟩ := hv; have hc := hcl 0 (.int .i64 (-77)) (by decide) rfl; rw [HYL.out.2] at hc; have hc2 : W.cell? ⟨ge, el * 5, none⟩ = some (.int .i64 (-77)) := hc; clear hcl hc; go_simp; try (with_reducible rfl))
  try simp only [Act.put, List.setIfInBounds_toArray, List.set_cons_zero, List.set_cons_succ]
  refine' wpAnyD_take (i := 34) (oi := { dst := some 41, op := Go.Op.binOp Go.BinOp.neq 3 (Go.Operand.tmp 40) (Go.Operand.const (Go.Value.int Go.IntKind.i64 (-77))) 3, type := 4, pos := "law.go:82", after := #[{ on := 33, ground := Go.Ground.data }, { on := 20, ground := Go.Ground.guard }], guard := some (20, false) }) (v := _) rfl (by kernel_rfl) (by kernel_rfl) (by kernel_rfl) (fun _ _ _ h => h) (by kernel_rfl) (Or.inl ⟨by rfl, ?hy35⟩) hS9 ?rest35
  case hy35 => (intro W hSw; go_simp; try (with_reducible rfl))
  try simp only [Act.put, List.setIfInBounds_toArray, List.set_cons_zero, List.set_cons_succ]
  refine' wpAnyD_take (i := 35) (oi := { dst := some 42, op := Go.Op.pick (Go.Operand.tmp 27) (Go.Operand.const (Go.Value.bool true)) (Go.Operand.tmp 41), type := 4, pos := "law.go:82", after := #[{ on := 20, ground := Go.Ground.data }, { on := 34, ground := Go.Ground.data }], guard := none }) (v := _) rfl (by kernel_rfl) (by kernel_rfl) (by kernel_rfl) (fun _ _ _ h => h) (by kernel_rfl) (Or.inl ⟨by rfl, ?hy36⟩) hS9 ?rest36
  case hy36 => (intro W hSw; go_simp; try (with_reducible rfl))
  try simp only [Act.put, List.setIfInBounds_toArray, List.set_cons_zero, List.set_cons_succ]
  refine wpAnyD_done (by kernel_rfl) ?_ _
  have K9 := hid hS9
  have cb := (hS9.block _ (tk_lt G0.out.2.1)).trans G0.out.2.1
  have c0 := (tk_store cb).1
  have l0 := tk_lt cb
  clear hS0 hS9 cb
  go_wp2_with fail
  clear c0 l0
  go_loopw [46] (fun s46 wr => ∃ j : Nat, j ≤ nl ∧ s46 = .int .i64 (j : Nat) ∧ Hid (Below W0.heap.size W0 wr)) (fun s46 _ => nl - (RowKit.intOf s46).toNat)
  case atStart => exact ⟨0, Nat.zero_le _, rfl, K9.out⟩
  case round =>
    clear K9
    obtain ⟨j, hj, rfl, HI⟩ := hrel
    by_cases hlt : j < nl
    · have hltz : (j : Int) < (nl : Int) := by omega
      obtain ⟨y, hy⟩ : ∃ y, ys[j]? = some y := ⟨ys[j]'(by have := HYL.out; omega), by simp⟩
      have hym := List.mem_of_getElem? hy
      obtain ⟨b1, o1, q9, ev1, zz1, x0, x1, x2, x3, x4, x5, x6, x7, x8, x9⟩ := ls_atV (HR.out.nodes.below HI.out).ls hy
      simp only [Value.slice.injEq, Option.some.injEq, Addr.mk.injEq] at ev1
      obtain ⟨⟨rfl, rfl, -⟩, -, rfl⟩ := ev1
      have HE := hid (HR.out.each y hym)
      have HSZ := HYS.out y hym
      clear hy hym
      obtain ⟨⟨yk, yi, yo, cd, via, bd, cnn, st⟩, cq, cm, cc, dq, dm, dc⟩ := y
      obtain ⟨g1, k1, e1, hk1, -, -⟩ := HE.out.1.at
      obtain ⟨g2, k2, e2, hk2, -, -⟩ := HE.out.2.at
      simp only [Value.slice.injEq] at e1 e2
      obtain ⟨rfl, rfl, rfl⟩ := e1
      obtain ⟨rfl, rfl, rfl⟩ := e2
      simp only at HSZ
      obtain ⟨cl, hcl⟩ : ∃ n, n = cd.length := ⟨_, rfl⟩
      obtain ⟨dl, hdl⟩ : ∃ n, n = cnn.length := ⟨_, rfl⟩
      simp only [NV.cv, NV.dv] at x3 x8
      simp only [Nat.zero_add] at x0 x1 x2 x3 x4 x5 x6 x7 x8 x9
      rw [← hcl] at x3 hk1
      rw [← hdl] at x8 hk2
      have HCL := hid hcl
      have HDL := hid hdl
      have r9 : cl ≤ 140737488351232 := by omega
      have r8 : dl ≤ 140737488351232 := by omega
      have p1 : (cl : Int) + 1 ≤ (cc : Int) := by omega
      have p2 : (dl : Int) + 1 ≤ (dc : Int) := by omega
      have p3 : (0 : Int) ≤ (cl : Int) + 1 := by omega
      have p4 : (0 : Int) ≤ (dl : Int) + 1 := by omega
      have p5 : (cl : Int) < (cl : Int) + 1 := by omega
      have p6 : (dl : Int) < (dl : Int) + 1 := by omega
      clear HSZ hk1 hk2 hcl hdl
      obtain ⟨nb, hnb⟩ : ∃ b, b = wr.heap.size := ⟨_, rfl⟩
      obtain ⟨W5, hW5⟩ : ∃ W, W = wr.alloc (.cells (ncells yk yi yo (.slice (some ⟨g1, 0, none⟩) cl cc) via bd (.slice (some ⟨g2, 0, none⟩) dl dc) st) 67) := ⟨_, rfl⟩
      have P0 : Hid (Below W0.heap.size W0 W5 ∧ W5.heap[nb]? = some (.cells (ncells yk yi yo (.slice (some ⟨g1, 0, none⟩) cl cc) via bd (.slice (some ⟨g2, 0, none⟩) dl dc) st) 67 (0, 0))) := by
        rw [hW5, hnb]
        exact ⟨HI.out.trans (((Gr.refl wr).alloc _).below.mono HI.out.size), heap_new' _ _⟩
      have HW5 : Hid (wr.alloc (.cells #[.int .i64 yk, .int .i64 yi, .int .i64 yo, .slice (some ⟨g1, 0, none⟩) cl cc, .int .u64 (via.1 : Nat), .int .u64 (via.2.1 : Nat), .int .u64 (via.2.2 : Nat), .int .u64 (bd : Nat), .slice (some ⟨g2, 0, none⟩) dl dc, .bool st] 67) = W5) := hW5.symm
      have HNB := hid hnb
      clear hW5 hnb
      go_upto_region 6 with fail
      rw [HW5.out, ← HNB.out]
      clear HW5 HNB x0 x1 x2 x3 x4 x5 x6 x7 x8 x9 zz1
      have hS5 : Below W5.heap.size W5 W5.drew := (Gr.refl _).drew.below
      refine wp_regionD (S := fun W => Below W5.heap.size W5 W) (D := []) hmx ?_
      refine' wpAnyD_take (i := 0) (oi := { dst := some 50, op := Go.Op.fieldAddr 67 (Go.Operand.tmp 6) 3, type := 0, pos := "law.go:86", after := #[], guard := none }) (v := _) rfl (by kernel_rfl) (by kernel_rfl) (by kernel_rfl) (fun _ _ _ h => h) (by kernel_rfl) (Or.inl ⟨by rfl, ?hy37⟩) hS5 ?rest37
      case hy37 => (intro W hSw; go_simp; try (with_reducible rfl))
      try simp only [Act.put, List.setIfInBounds_toArray, List.set_cons_zero, List.set_cons_succ]
      refine' wpAnyD_take (i := 1) (oi := { dst := some 51, op := Go.Op.load 61 (Go.Operand.tmp 50), type := 61, pos := "law.go:86", after := #[{ on := 0, ground := Go.Ground.data }], guard := none }) (v := _) rfl (by kernel_rfl) (by kernel_rfl) (by kernel_rfl) (fun _ _ _ h => h) (by kernel_rfl) (Or.inl ⟨by rfl, ?hy38⟩) hS5 ?rest38
      case hy38 => (intro W hSw; have hb := (hSw.block _ (tk_lt P0.out.2)).trans P0.out.2; have hc := (tk_store hb).1; have hl := tk_lt hb; go_simp; try (with_reducible rfl))
      try simp only [Act.put, List.setIfInBounds_toArray, List.set_cons_zero, List.set_cons_succ]
      refine' wpAnyD_take (i := 2) (oi := { dst := some 52, op := Go.Op.fieldAddr 67 (Go.Operand.tmp 6) 3, type := 0, pos := "law.go:86", after := #[], guard := none }) (v := _) rfl (by kernel_rfl) (by kernel_rfl) (by kernel_rfl) (fun _ _ _ h => h) (by kernel_rfl) (Or.inl ⟨by rfl, ?hy39⟩) hS5 ?rest39
      case hy39 => (intro W hSw; go_simp; try (with_reducible rfl))
      try simp only [Act.put, List.setIfInBounds_toArray, List.set_cons_zero, List.set_cons_succ]
      refine' wpAnyD_take (i := 3) (oi := { dst := some 53, op := Go.Op.load 61 (Go.Operand.tmp 52), type := 61, pos := "law.go:86", after := #[{ on := 2, ground := Go.Ground.data }], guard := none }) (v := _) rfl (by kernel_rfl) (by kernel_rfl) (by kernel_rfl) (fun _ _ _ h => h) (by kernel_rfl) (Or.inl ⟨by rfl, ?hy40⟩) hS5 ?rest40
      case hy40 => (intro W hSw; have hb := (hSw.block _ (tk_lt P0.out.2)).trans P0.out.2; have hc := (tk_store hb).1; have hl := tk_lt hb; go_simp; try (with_reducible rfl))
      try simp only [Act.put, List.setIfInBounds_toArray, List.set_cons_zero, List.set_cons_succ]
      refine' wpAnyD_take (i := 4) (oi := { dst := some 54, op := Go.Op.call { callee := Go.Callee.builtin Go.Builtin.len, args := #[Go.Operand.tmp 53], argTypes := #[61] }, type := 3, pos := "law.go:86", after := #[{ on := 3, ground := Go.Ground.data }], guard := none }) (v := _) rfl (by kernel_rfl) (by kernel_rfl) (by kernel_rfl) (fun _ _ _ h => h) (by kernel_rfl) (Or.inl ⟨by rfl, ?hy41⟩) hS5 ?rest41
      case hy41 => (intro W hSw; go_simp; try (with_reducible rfl))
      try simp only [Act.put, List.setIfInBounds_toArray, List.set_cons_zero, List.set_cons_succ]
      refine' wpAnyD_take (i := 5) (oi := { dst := some 55, op := Go.Op.binOp Go.BinOp.add 3 (Go.Operand.tmp 54) (Go.Operand.const (Go.Value.int Go.IntKind.i64 1)) 3, type := 3, pos := "law.go:86", after := #[{ on := 4, ground := Go.Ground.data }], guard := none }) (v := _) rfl (by kernel_rfl) (by kernel_rfl) (by kernel_rfl) (fun _ _ _ h => h) (by kernel_rfl) (Or.inl ⟨by rfl, ?hy42⟩) hS5 ?rest42
      case hy42 => (intro W hSw; have hw : IntKind.i64.wrap ((cl : Int) + 1) = (cl : Int) + 1 := (wrapi r9); go_simp; try (with_reducible rfl))
      try simp only [Act.put, List.setIfInBounds_toArray, List.set_cons_zero, List.set_cons_succ]
      refine' wpAnyD_take (i := 6) (oi := { dst := some 56, op := Go.Op.slice 61 (Go.Operand.tmp 51) none (some (Go.Operand.tmp 55)) none, type := 61, pos := "law.go:86", after := #[{ on := 1, ground := Go.Ground.data }, { on := 5, ground := Go.Ground.data }], guard := none }) (v := _) rfl (by kernel_rfl) (by kernel_rfl) (by kernel_rfl) (fun _ _ _ h => h) (by kernel_rfl) (Or.inl ⟨by rfl, ?hy43⟩) hS5 ?rest43
      case hy43 => (intro W hSw; have ht : ((cl : Int) + 1).toNat = cl + 1 := (by omega); go_simp; try (with_reducible rfl))
      try simp only [Act.put, List.setIfInBounds_toArray, List.set_cons_zero, List.set_cons_succ]
      refine' wpAnyD_take (i := 7) (oi := { dst := some 57, op := Go.Op.fieldAddr 67 (Go.Operand.tmp 6) 3, type := 0, pos := "law.go:86", after := #[], guard := none }) (v := _) rfl (by kernel_rfl) (by kernel_rfl) (by kernel_rfl) (fun _ _ _ h => h) (by kernel_rfl) (Or.inl ⟨by rfl, ?hy44⟩) hS5 ?rest44
      case hy44 => (intro W hSw; go_simp; try (with_reducible rfl))
      try simp only [Act.put, List.setIfInBounds_toArray, List.set_cons_zero, List.set_cons_succ]
      refine' wpAnyD_take (i := 8) (oi := { dst := some 58, op := Go.Op.load 61 (Go.Operand.tmp 57), type := 61, pos := "law.go:86", after := #[{ on := 7, ground := Go.Ground.data }], guard := none }) (v := _) rfl (by kernel_rfl) (by kernel_rfl) (by kernel_rfl) (fun _ _ _ h => h) (by kernel_rfl) (Or.inl ⟨by rfl, ?hy45⟩) hS5 ?rest45
      case hy45 => (intro W hSw; have hb := (hSw.block _ (tk_lt P0.out.2)).trans P0.out.2; have hc := (tk_store hb).1; have hl := tk_lt hb; go_simp; try (with_reducible rfl))
      try simp only [Act.put, List.setIfInBounds_toArray, List.set_cons_zero, List.set_cons_succ]
      refine' wpAnyD_take (i := 9) (oi := { dst := some 59, op := Go.Op.call { callee := Go.Callee.builtin Go.Builtin.len, args := #[Go.Operand.tmp 58], argTypes := #[61] }, type := 3, pos := "law.go:86", after := #[{ on := 8, ground := Go.Ground.data }], guard := none }) (v := _) rfl (by kernel_rfl) (by kernel_rfl) (by kernel_rfl) (fun _ _ _ h => h) (by kernel_rfl) (Or.inl ⟨by rfl, ?hy46⟩) hS5 ?rest46
      case hy46 => (intro W hSw; go_simp; try (with_reducible rfl))
      try simp only [Act.put, List.setIfInBounds_toArray, List.set_cons_zero, List.set_cons_succ]
      refine' wpAnyD_take (i := 10) (oi := { dst := some 60, op := Go.Op.indexAddr 61 (Go.Operand.tmp 56) (Go.Operand.tmp 59), type := 0, pos := "law.go:86", after := #[{ on := 6, ground := Go.Ground.data }, { on := 9, ground := Go.Ground.data }], guard := none }) (v := _) rfl (by kernel_rfl) (by kernel_rfl) (by kernel_rfl) (fun _ _ _ h => h) (by kernel_rfl) (Or.inl ⟨by rfl, ?hy47⟩) hS5 ?rest47
      case hy47 => (intro W hSw; go_simp; try (with_reducible rfl))
      try simp only [Act.put, List.setIfInBounds_toArray, List.set_cons_zero, List.set_cons_succ]
      refine' wpAnyD_take (i := 11) (oi := { dst := some 61, op := Go.Op.fieldAddr 78 (Go.Operand.tmp 60) 0, type := 0, pos := "law.go:86", after := #[{ on := 10, ground := Go.Ground.data }], guard := none }) (v := _) rfl (by kernel_rfl) (by kernel_rfl) (by kernel_rfl) (fun _ _ _ h => h) (by kernel_rfl) (Or.inl ⟨by rfl, ?hy48⟩) hS5 ?rest48
      case hy48 => (intro W hSw; go_simp; try (with_reducible rfl))
      try simp only [Act.put, List.setIfInBounds_toArray, List.set_cons_zero, List.set_cons_succ]
      refine' wpAnyD_take (i := 12) (oi := { dst := some 62, op := Go.Op.load 3 (Go.Operand.tmp 61), type := 3, pos := "law.go:86", after := #[{ on := 11, ground := Go.Ground.data }], guard := none }) (v := _) rfl (by kernel_rfl) (by kernel_rfl) (by kernel_rfl) (fun _ _ _ h => h) (by kernel_rfl) (Or.inl ⟨by rfl, ?hy49⟩) hS5 ?rest49
      case hy49 => (intro W hSw; obtain ⟨g, cap, hv, -, hgl, hcl⟩ := (HE.out.1.below (P0.out.1.trans (hSw.mono P0.out.1.size))).at; simp only [Value.slice.injEq, Option.some.injEq, Addr.mk.injEq] at hv; obtain ⟨⟨rfl, -, -⟩, -, -⟩ := hv; have hc := hcl 0 (.int .i64 (-77)) (by decide) rfl; simp only at hc; rw [← HCL.out] at hc; have hc2 : W.cell? ⟨g1, cl * 2, none⟩ = some (.int .i64 (-77)) := hc; clear hcl hc; go_simp; try (with_reducible rfl))
      try simp only [Act.put, List.setIfInBounds_toArray, List.set_cons_zero, List.set_cons_succ]
      refine' wpAnyD_take (i := 13) (oi := { dst := some 63, op := Go.Op.binOp Go.BinOp.neq 3 (Go.Operand.tmp 62) (Go.Operand.const (Go.Value.int Go.IntKind.i64 (-77))) 3, type := 4, pos := "law.go:86", after := #[{ on := 12, ground := Go.Ground.data }], guard := none }) (v := _) rfl (by kernel_rfl) (by kernel_rfl) (by kernel_rfl) (fun _ _ _ h => h) (by kernel_rfl) (Or.inl ⟨by rfl, ?hy50⟩) hS5 ?rest50
      case hy50 => (intro W hSw; go_simp; try (with_reducible rfl))
      try simp only [Act.put, List.setIfInBounds_toArray, List.set_cons_zero, List.set_cons_succ]
      refine' wpAnyD_take (i := 14) (oi := { dst := some 64, op := Go.Op.move (Go.Operand.tmp 63), type := 4, pos := "law.go:86", after := #[{ on := 13, ground := Go.Ground.data }], guard := none }) (v := _) rfl (by kernel_rfl) (by kernel_rfl) (by kernel_rfl) (fun _ _ _ h => h) (by kernel_rfl) (Or.inl ⟨by rfl, ?hy51⟩) hS5 ?rest51
      case hy51 => (intro W hSw; go_simp; try (with_reducible rfl))
      try simp only [Act.put, List.setIfInBounds_toArray, List.set_cons_zero, List.set_cons_succ]
      refine' wpAnyD_take (i := 15) (oi := { dst := some 65, op := Go.Op.fieldAddr 67 (Go.Operand.tmp 6) 6, type := 0, pos := "law.go:86", after := #[{ on := 14, ground := Go.Ground.guard }], guard := some (14, false) }) (v := _) rfl (by kernel_rfl) (by kernel_rfl) (by kernel_rfl) (fun _ _ _ h => h) (by kernel_rfl) (Or.inl ⟨by rfl, ?hy52⟩) hS5 ?rest52
      case hy52 => (intro W hSw; go_simp; try (with_reducible rfl))
      try simp only [Act.put, List.setIfInBounds_toArray, List.set_cons_zero, List.set_cons_succ]
      refine' wpAnyD_take (i := 16) (oi := { dst := some 66, op := Go.Op.load 65 (Go.Operand.tmp 65), type := 65, pos := "law.go:86", after := #[{ on := 15, ground := Go.Ground.data }, { on := 14, ground := Go.Ground.guard }], guard := some (14, false) }) (v := _) rfl (by kernel_rfl) (by kernel_rfl) (by kernel_rfl) (fun _ _ _ h => h) (by kernel_rfl) (Or.inl ⟨by rfl, ?hy53⟩) hS5 ?rest53
      case hy53 => (intro W hSw; have hb := (hSw.block _ (tk_lt P0.out.2)).trans P0.out.2; have hc := (tk_store hb).1; have hl := tk_lt hb; go_simp; try (with_reducible rfl))
      try simp only [Act.put, List.setIfInBounds_toArray, List.set_cons_zero, List.set_cons_succ]
      refine' wpAnyD_take (i := 17) (oi := { dst := some 67, op := Go.Op.fieldAddr 67 (Go.Operand.tmp 6) 6, type := 0, pos := "law.go:86", after := #[{ on := 14, ground := Go.Ground.guard }], guard := some (14, false) }) (v := _) rfl (by kernel_rfl) (by kernel_rfl) (by kernel_rfl) (fun _ _ _ h => h) (by kernel_rfl) (Or.inl ⟨by rfl, ?hy54⟩) hS5 ?rest54
      case hy54 => (intro W hSw; go_simp; try (with_reducible rfl))
      try simp only [Act.put, List.setIfInBounds_toArray, List.set_cons_zero, List.set_cons_succ]
      refine' wpAnyD_take (i := 18) (oi := { dst := some 68, op := Go.Op.load 65 (Go.Operand.tmp 67), type := 65, pos := "law.go:86", after := #[{ on := 17, ground := Go.Ground.data }, { on := 14, ground := Go.Ground.guard }], guard := some (14, false) }) (v := _) rfl (by kernel_rfl) (by kernel_rfl) (by kernel_rfl) (fun _ _ _ h => h) (by kernel_rfl) (Or.inl ⟨by rfl, ?hy55⟩) hS5 ?rest55
      case hy55 => (intro W hSw; have hb := (hSw.block _ (tk_lt P0.out.2)).trans P0.out.2; have hc := (tk_store hb).1; have hl := tk_lt hb; go_simp; try (with_reducible rfl))
      try simp only [Act.put, List.setIfInBounds_toArray, List.set_cons_zero, List.set_cons_succ]
      refine' wpAnyD_take (i := 19) (oi := { dst := some 69, op := Go.Op.call { callee := Go.Callee.builtin Go.Builtin.len, args := #[Go.Operand.tmp 68], argTypes := #[65] }, type := 3, pos := "law.go:86", after := #[{ on := 18, ground := Go.Ground.data }, { on := 14, ground := Go.Ground.guard }], guard := some (14, false) }) (v := _) rfl (by kernel_rfl) (by kernel_rfl) (by kernel_rfl) (fun _ _ _ h => h) (by kernel_rfl) (Or.inl ⟨by rfl, ?hy56⟩) hS5 ?rest56
      case hy56 => (intro W hSw; go_simp; try (with_reducible rfl))
      try simp only [Act.put, List.setIfInBounds_toArray, List.set_cons_zero, List.set_cons_succ]
      refine' wpAnyD_take (i := 20) (oi := { dst := some 70, op := Go.Op.binOp Go.BinOp.add 3 (Go.Operand.tmp 69) (Go.Operand.const (Go.Value.int Go.IntKind.i64 1)) 3, type := 3, pos := "law.go:86", after := #[{ on := 19, ground := Go.Ground.data }, { on := 14, ground := Go.Ground.guard }], guard := some (14, false) }) (v := _) rfl (by kernel_rfl) (by kernel_rfl) (by kernel_rfl) (fun _ _ _ h => h) (by kernel_rfl) (Or.inl ⟨by rfl, ?hy57⟩) hS5 ?rest57
      case hy57 => (intro W hSw; have hw : IntKind.i64.wrap ((dl : Int) + 1) = (dl : Int) + 1 := (wrapi r8); go_simp; try (with_reducible rfl))
      try simp only [Act.put, List.setIfInBounds_toArray, List.set_cons_zero, List.set_cons_succ]
      refine' wpAnyD_take (i := 21) (oi := { dst := some 71, op := Go.Op.slice 65 (Go.Operand.tmp 66) none (some (Go.Operand.tmp 70)) none, type := 65, pos := "law.go:86", after := #[{ on := 16, ground := Go.Ground.data }, { on := 20, ground := Go.Ground.data }, { on := 14, ground := Go.Ground.guard }], guard := some (14, false) }) (v := _) rfl (by kernel_rfl) (by kernel_rfl) (by kernel_rfl) (fun _ _ _ h => h) (by kernel_rfl) (Or.inl ⟨by rfl, ?hy58⟩) hS5 ?rest58
      case hy58 => (intro W hSw; have ht : ((dl : Int) + 1).toNat = dl + 1 := (by omega); go_simp; try (with_reducible rfl))
      try simp only [Act.put, List.setIfInBounds_toArray, List.set_cons_zero, List.set_cons_succ]
      refine' wpAnyD_take (i := 22) (oi := { dst := some 72, op := Go.Op.fieldAddr 67 (Go.Operand.tmp 6) 6, type := 0, pos := "law.go:86", after := #[{ on := 14, ground := Go.Ground.guard }], guard := some (14, false) }) (v := _) rfl (by kernel_rfl) (by kernel_rfl) (by kernel_rfl) (fun _ _ _ h => h) (by kernel_rfl) (Or.inl ⟨by rfl, ?hy59⟩) hS5 ?rest59
      case hy59 => (intro W hSw; go_simp; try (with_reducible rfl))
      try simp only [Act.put, List.setIfInBounds_toArray, List.set_cons_zero, List.set_cons_succ]
      refine' wpAnyD_take (i := 23) (oi := { dst := some 73, op := Go.Op.load 65 (Go.Operand.tmp 72), type := 65, pos := "law.go:86", after := #[{ on := 22, ground := Go.Ground.data }, { on := 14, ground := Go.Ground.guard }], guard := some (14, false) }) (v := _) rfl (by kernel_rfl) (by kernel_rfl) (by kernel_rfl) (fun _ _ _ h => h) (by kernel_rfl) (Or.inl ⟨by rfl, ?hy60⟩) hS5 ?rest60
      case hy60 => (intro W hSw; have hb := (hSw.block _ (tk_lt P0.out.2)).trans P0.out.2; have hc := (tk_store hb).1; have hl := tk_lt hb; go_simp; try (with_reducible rfl))
      try simp only [Act.put, List.setIfInBounds_toArray, List.set_cons_zero, List.set_cons_succ]
      refine' wpAnyD_take (i := 24) (oi := { dst := some 74, op := Go.Op.call { callee := Go.Callee.builtin Go.Builtin.len, args := #[Go.Operand.tmp 73], argTypes := #[65] }, type := 3, pos := "law.go:86", after := #[{ on := 23, ground := Go.Ground.data }, { on := 14, ground := Go.Ground.guard }], guard := some (14, false) }) (v := _) rfl (by kernel_rfl) (by kernel_rfl) (by kernel_rfl) (fun _ _ _ h => h) (by kernel_rfl) (Or.inl ⟨by rfl, ?hy61⟩) hS5 ?rest61
      case hy61 => (intro W hSw; go_simp; try (with_reducible rfl))
      try simp only [Act.put, List.setIfInBounds_toArray, List.set_cons_zero, List.set_cons_succ]
      refine' wpAnyD_take (i := 25) (oi := { dst := some 75, op := Go.Op.indexAddr 65 (Go.Operand.tmp 71) (Go.Operand.tmp 74), type := 0, pos := "law.go:86", after := #[{ on := 21, ground := Go.Ground.data }, { on := 24, ground := Go.Ground.data }, { on := 14, ground := Go.Ground.guard }], guard := some (14, false) }) (v := _) rfl (by kernel_rfl) (by kernel_rfl) (by kernel_rfl) (fun _ _ _ h => h) (by kernel_rfl) (Or.inl ⟨by rfl, ?hy62⟩) hS5 ?rest62
      case hy62 => (intro W hSw; go_simp; try (with_reducible rfl))
      try simp only [Act.put, List.setIfInBounds_toArray, List.set_cons_zero, List.set_cons_succ]
      refine' wpAnyD_take (i := 26) (oi := { dst := some 76, op := Go.Op.fieldAddr 80 (Go.Operand.tmp 75) 0, type := 0, pos := "law.go:86", after := #[{ on := 25, ground := Go.Ground.data }, { on := 14, ground := Go.Ground.guard }], guard := some (14, false) }) (v := _) rfl (by kernel_rfl) (by kernel_rfl) (by kernel_rfl) (fun _ _ _ h => h) (by kernel_rfl) (Or.inl ⟨by rfl, ?hy63⟩) hS5 ?rest63
      case hy63 => (intro W hSw; go_simp; try (with_reducible rfl))
      try simp only [Act.put, List.setIfInBounds_toArray, List.set_cons_zero, List.set_cons_succ]
      refine' wpAnyD_take (i := 27) (oi := { dst := some 77, op := Go.Op.load 3 (Go.Operand.tmp 76), type := 3, pos := "law.go:86", after := #[{ on := 26, ground := Go.Ground.data }, { on := 14, ground := Go.Ground.guard }], guard := some (14, false) }) (v := _) rfl (by kernel_rfl) (by kernel_rfl) (by kernel_rfl) (fun _ _ _ h => h) (by kernel_rfl) (Or.inl ⟨by rfl, ?hy64⟩) hS5 ?rest64
      case hy64 => (intro W hSw; obtain ⟨g, cap, hv, -, hgl, hcl⟩ := (HE.out.2.below (P0.out.1.trans (hSw.mono P0.out.1.size))).at; simp only [Value.slice.injEq, Option.some.injEq, Addr.mk.injEq] at hv; obtain ⟨⟨rfl, -, -⟩, -, -⟩ := hv; have hc := hcl 0 (.int .i64 (-77)) (by decide) rfl; simp only at hc; rw [← HDL.out] at hc; have hc2 : W.cell? ⟨g2, dl * 5, none⟩ = some (.int .i64 (-77)) := hc; clear hcl hc; go_simp; try (with_reducible rfl))
      try simp only [Act.put, List.setIfInBounds_toArray, List.set_cons_zero, List.set_cons_succ]
      refine' wpAnyD_take (i := 28) (oi := { dst := some 78, op := Go.Op.binOp Go.BinOp.neq 3 (Go.Operand.tmp 77) (Go.Operand.const (Go.Value.int Go.IntKind.i64 (-77))) 3, type := 4, pos := "law.go:86", after := #[{ on := 27, ground := Go.Ground.data }, { on := 14, ground := Go.Ground.guard }], guard := some (14, false) }) (v := _) rfl (by kernel_rfl) (by kernel_rfl) (by kernel_rfl) (fun _ _ _ h => h) (by kernel_rfl) (Or.inl ⟨by rfl, ?hy65⟩) hS5 ?rest65
      case hy65 => (intro W hSw; go_simp; try (with_reducible rfl))
      try simp only [Act.put, List.setIfInBounds_toArray, List.set_cons_zero, List.set_cons_succ]
      refine' wpAnyD_take (i := 29) (oi := { dst := some 79, op := Go.Op.pick (Go.Operand.tmp 64) (Go.Operand.const (Go.Value.bool true)) (Go.Operand.tmp 78), type := 4, pos := "law.go:86", after := #[{ on := 14, ground := Go.Ground.data }, { on := 28, ground := Go.Ground.data }], guard := none }) (v := _) rfl (by kernel_rfl) (by kernel_rfl) (by kernel_rfl) (fun _ _ _ h => h) (by kernel_rfl) (Or.inl ⟨by rfl, ?hy66⟩) hS5 ?rest66
      case hy66 => (intro W hSw; go_simp; try (with_reducible rfl))
      try simp only [Act.put, List.setIfInBounds_toArray, List.set_cons_zero, List.set_cons_succ]
      refine wpAnyD_done (by kernel_rfl) ?_ _
      have K6 : Hid (Below W0.heap.size W0 W5.drew) := P0.out.1.trans (hS5.mono P0.out.1.size)
      clear hS5 P0
      go_wp2_with fail
      go_roundw
      case rel => exact ⟨j + 1, by omega, by go_num, K6.out⟩
      case measure => simp [RowKit.intOf]; omega
    · have hltz : ¬ (j : Int) < (nl : Int) := by omega
      have B9 : Hid (Below w.heap.size w wr) := G0.out.1.trans (HI.out.mono G0.out.1.size)
      go_wp2_with fail
      go_ret
      exact ⟨rfl, B9.out⟩
end Go.Proofs.Ytnclnagpfjmlcaa.Df
