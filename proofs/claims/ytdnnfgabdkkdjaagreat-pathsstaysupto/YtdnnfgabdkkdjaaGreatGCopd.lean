import Derived.Test.YtdnnfgabdkkdjaaGreatGFlaw
import Derived.Lib.OwnKind
import Derived.Laws.OwnMore
namespace Go.Proofs.YtdnnfgabdkkdjaaGreat.Df
open Go.RowKit Go.Sort
attribute [local go_sem ↓] Go.wp_at_zero Go.wp_at_succ
structure Cg (B : Nat) (w : World) (nv ev : Value) (ys : List NV) (es : List Edg) : Prop where
 nodes : w.ownsRow B 89 10 nv ys.length (fl EV ys)
 edges : w.ownsRow B 94 5 ev es.length (fl ED es)
 each : ∀ y ∈ ys, w.ownsRow B 138 2 y.cv y.n.code.length (fl EO y.n.code) ∧ w.ownsRow B 92 5 y.dv y.n.conns.length (fl EC y.n.conns)
theorem owns_ne_blk {w : World} {B : Nat} {e T : TypeId} {size n : Nat} {v : Value} {xs : List Value} {b : Nat} {cs : Array Value} {z : Nat × Nat} (h : w.ownsRow B e size v n xs) (hb : w.heap[b]? = some (.cells cs T z)) (hT : e ≠ T) : ∀ k, v.ownBlock = some k → k ≠ b := fun k hk e2 => by
 obtain ⟨c, f, hc⟩ := Lib.ownsRow_kind h k hk
 rw [e2, hb] at hc
 simp only [Option.some.injEq, Obj.cells.injEq] at hc
 exact hT hc.2.1.symm
theorem owns_ne_own {w : World} {B B' : Nat} {e e' : TypeId} {size n size' n' : Nat} {v v' : Value} {xs xs' : List Value} (h : w.ownsRow B e size v n xs) (h' : w.ownsRow B' e' size' v' n' xs') (hT : e ≠ e') : ∀ k, v.ownBlock = some k → v'.ownBlock ≠ some k := fun k hk hk' => by
 obtain ⟨c, f, hc⟩ := Lib.ownsRow_kind h' k hk'
 exact owns_ne_blk h hc hT k hk rfl
theorem Cg.base {B B' : Nat} {w : World} {nv ev : Value} {ys : List NV} {es : List Edg} (h : Cg B w nv ev ys es) (hb : B' ≤ B) : Cg B' w nv ev ys es :=
 ⟨owns_base h.nodes hb, owns_base h.edges hb, fun y hy => ⟨owns_base (h.each y hy).1 hb, owns_base (h.each y hy).2 hb⟩⟩
theorem Cg.kp {B : Nat} {S : Nat → Prop} {w w' : World} {nv ev : Value} {ys : List NV} {es : List Edg} (h : Cg B w nv ev ys es) (hk : Kp S w w') (hS : ∀ k, B ≤ k → k < w.heap.size → ¬ S k) : Cg B w' nv ev ys es :=
 ⟨owns_kp hk h.nodes (fun k e => hS k (owns_rd h.nodes k e).1 (owns_rd h.nodes k e).2), owns_kp hk h.edges (fun k e => hS k (owns_rd h.edges k e).1 (owns_rd h.edges k e).2), fun y hy => ⟨owns_kp hk (h.each y hy).1 (fun k e => hS k (owns_rd (h.each y hy).1 k e).1 (owns_rd (h.each y hy).1 k e).2), owns_kp hk (h.each y hy).2 (fun k e => hS k (owns_rd (h.each y hy).2 k e).1 (owns_rd (h.each y hy).2 k e).2)⟩⟩
theorem owns_lz {α : Type} {E : El α} {B : Nat} {T : TypeId} {w : World} {v : Value} {l : List α} (h : w.ownsRow B T E.k v l.length (fl E l)) : Lz E w.heap.size w v l := Or.inl ⟨owns_ls h, fun k hk => (owns_rd h k hk).2⟩
theorem Cg.gr {B : Nat} {w : World} {nv ev : Value} {ys : List NV} {es : List Edg} (h : Cg B w nv ev ys es) (hw : ys.length ≤ 140737488355328 ∧ es.length ≤ 140737488355328) (hg : ∀ y ∈ ys, y.n.code.length ≤ 140737488355328 ∧ y.n.conns.length ≤ 140737488355328) : GR w.heap.size w nv ev ys es :=
 ⟨owns_lz (E := EV) h.nodes, owns_lz (E := ED) h.edges, fun y hy => ⟨owns_lz (E := EO) (h.each y hy).1, owns_lz (E := EC) (h.each y hy).2⟩, hg, hw⟩
theorem owns_caps {w : World} {base : Nat} {e : TypeId} {size : Nat} {v : Value} {n : Nat} {xs : List Value} (h : w.ownsRow base e size v n xs) : ∀ p m c, v = .slice p m c → m = n ∧ n ≤ c := by
 intro p m c hv
 rcases h.2 with ⟨h0, h1⟩ | ⟨g, cap, cur, h0, _, _, hn, _⟩
 ·rw [h0] at hv
  simp only [Value.slice.injEq] at hv
  omega
 ·rw [h0] at hv
  simp only [Value.slice.injEq] at hv
  omega
structure Cq (B : Nat) (w : World) (cb : Nat) (a : Int) (nv ev : Value) (zs : List NV) (es : List Edg) (j : Nat) : Prop where
 blk : w.heap[cb]? = some (.cells (gvc a nv ev) 25 (0, 0))
 low : B ≤ cb
 nodes : w.ownsRow B 89 10 nv zs.length (fl EV zs)
 edges : w.ownsRow B 94 5 ev es.length (fl ED es)
 each : ∀ y ∈ zs.take j, w.ownsRow B 138 2 y.cv y.n.code.length (fl EO y.n.code) ∧ w.ownsRow B 92 5 y.dv y.n.conns.length (fl EC y.n.conns)
theorem Cq.below {B cb j : Nat} {a : Int} {w w' : World} {nv ev : Value} {ys : List NV} {es : List Edg} (h : Cq B w cb a nv ev ys es j) (hb : Below w.heap.size w w') : Cq B w' cb a nv ev ys es j :=
 ⟨(hb.block _ (tk_lt h.blk)).trans h.blk, h.low, owns_below h.nodes hb, owns_below h.edges hb, fun y hy => ⟨owns_below (h.each y hy).1 hb, owns_below (h.each y hy).2 hb⟩⟩
def NV.withCode (y : NV) (q : Option Addr) (m c : Nat) : NV := { y with cq := q, cm := m, cc := c }
def NV.withConns (y : NV) (q : Option Addr) (m c : Nat) : NV := { y with dq := q, dm := m, dc := c }
theorem fl_setV (zs : List NV) (i k : Nat) (y y' : NV) (u : Value) (hi : zs[i]? = some y) (hk : k < 10) (he : (EV.enc y).set k u = EV.enc y') : (fl EV zs).set (i * 10 + k) u = fl EV (zs.set i y') := by
 induction zs generalizing i with
 | nil => simp at hi
 | cons z zs ih =>
  rw [fl_cons]
  cases i with
  | zero =>
   simp at hi
   subst hi
   rw [List.set_cons_zero, fl_cons, ← he, Nat.zero_mul, Nat.zero_add, List.set_append_left _ _ (by rw [EV.len]; exact hk)]
  | succ i =>
   rw [List.set_cons_succ, fl_cons, ← ih i (by simpa using hi), show (i + 1) * 10 + k = 10 + (i * 10 + k) by omega, List.set_append_right _ _ (by rw [EV.len]; show 10 ≤ _; omega)]
   rw [EV.len, show EV.k = 10 from rfl, Nat.add_sub_cancel_left]
theorem set_same {α : Type} {l : List α} {j : Nat} {x : α} (h : l[j]? = some x) : l.set j x = l := by
 refine List.ext_getElem? fun k => ?_
 rw [List.getElem?_set]
 split
 ·rename_i e
  subst e
  rw [if_pos (List.getElem?_eq_some_iff.1 h).1, h]
 ·rfl
theorem owns_one {w : World} {base : Nat} {e : TypeId} {size g n cap : Nat} {xs : List Value} (h : w.ownsRow base e size (.slice (some ⟨g, 0, none⟩) n cap) n xs) (j : Nat) (u : Value) : (w.setCell ⟨g, j, none⟩ u).ownsRow base e size (.slice (some ⟨g, 0, none⟩) n cap) n (xs.set j u) ∧ Kp (fun k => k = g) w (w.setCell ⟨g, j, none⟩ u) := by
 obtain ⟨hx, hr⟩ := h
 rcases hr with ⟨h0, _⟩ | ⟨g', cap', cur, hv, hg, hh, hn, hm, hs, ht⟩
 ·cases h0
 ·simp only [Value.slice.injEq, Option.some.injEq, Addr.mk.injEq] at hv
  obtain ⟨⟨rfl, -, -⟩, -, rfl⟩ := hv
  have h2 := setCell_eq_setRow w g j _ _ _ u hh
  have hk : Kp (fun k => k = g) w (w.setCell ⟨g, j, none⟩ u) := by
   rw [h2]
   exact ⟨rfl, rfl, rfl, by simp [World.setRow], fun k _ hne => setRow_other w g k _ (by omega)⟩
  refine ⟨⟨by simp [hx], Or.inr ⟨g, cap, cur.setIfInBounds j u, rfl, hg, by rw [h2, setRow_heap w g _ _ _ _ hh], hn, hm, by simp [hs], ?_⟩⟩, hk⟩
  rw [Array.toList_setIfInBounds, List.take_set, ht]
def Cpd (w : World) (a : Int) (xs : List NV) (es : List Edg) (r : Ending) (w' : World) : Prop := ∃ nv' ev' ys, r = .returned (.agg (gvc a nv' ev')) ∧ Below w.heap.size w w' ∧ ys.map NV.n = xs.map NV.n ∧ Cg w.heap.size w' nv' ev' ys es
set_option maxRecDepth 100000 in
set_option maxHeartbeats 8000000 in
theorem copied_any {M : Nat} {nv ev : Value} {a : Int} {xs : List NV} {es : List Edg} (w : World) (hG : GR M w nv ev xs es) (hbg : xs.length * 112 ≤ 140737488351232 ∧ es.length * 40 ≤ 140737488351232 ∧ ∀ x ∈ xs, x.n.code.length * 16 ≤ 140737488351232 ∧ x.n.conns.length * 40 ≤ 140737488351232) : Calls Tryz.prog 54 #[.agg (gvc a nv ev)] w (Cpd w a xs es) := by
 have hmx : Tryz.prog.follows .mixedOrders = true := by kernel_rfl
 obtain ⟨pn, cn, hnv⟩ := hG.nodes.form
 obtain ⟨pe, ce, hev⟩ := hG.edges.form
 obtain ⟨nl, hnl⟩ : ∃ n, n = xs.length := ⟨_, rfl⟩
 obtain ⟨el, hel⟩ : ∃ n, n = es.length := ⟨_, rfl⟩
 rw [← hnl] at hnv
 rw [← hel] at hev
 subst hnv
 subst hev
 have HBG := hid hbg
 have HNL := hid hnl
 obtain ⟨W0, hW0⟩ : ∃ W, W = (w.alloc (.cells (gvc a (.slice pn nl cn) (.slice pe el ce)) 25)).alloc (.cells (gvc 0 (.slice none 0 0) (.slice none 0 0)) 25) := ⟨_, rfl⟩
 have g0 := ((Gr.refl w).alloc (.cells (gvc a (.slice pn nl cn) (.slice pe el ce)) 25)).alloc (.cells (gvc 0 (.slice none 0 0) (.slice none 0 0)) 25)
 have N1 : Hid (W0.heap[w.heap.size]? = some (.cells (gvc a (.slice pn nl cn) (.slice pe el ce)) 25 (0, 0))) := by rw [hW0]; exact new1 w _ _
 have N2 : Hid (W0.heap[w.heap.size + 1]? = some (.cells (gvc 0 (.slice none 0 0) (.slice none 0 0)) 25 (0, 0))) := by rw [hW0]; exact new2 w _ _
 have HW : Hid ((w.alloc (.cells #[.int .i64 a, .slice pn nl cn, .slice pe el ce] 25)).alloc (.cells #[.int .i64 0, .slice none 0 0, .slice none 0 0] 25) = W0) := hW0.symm
 rw [← hW0] at g0
 have HG := hid (hG.below g0.below)
 have B0 := hid g0.below
 clear hG g0 hW0 hnl hel hbg
 go_enter Tryz.func54, Tryz.ntmps54
 go_upto_region 1 with fail
 rw [HW.out]
 clear HW
 go_cut [3] (fun s3 w' => ∃ cb nv' ev', s3 = .pointer (some ⟨cb, 0, none⟩) ∧ Hid (Below W0.heap.size W0 w' ∧ Cq W0.heap.size w' cb a nv' ev' xs es 0))
 case first =>
  have BD : Hid (Below W0.heap.size W0 W0.drew) := (Gr.refl _).drew.below
  refine wp_regionD (S := fun W => Below W0.heap.size W0 W) (D := []) hmx ?_
  generalize W0.drew = Wd at BD ⊢
  refine' wpAnyD_take (i := 0) (oi := ⟨some 6, .fieldAddr 25 (.tmp 1) 0, 0, "graph.go:153", #[], none⟩) (v := _) rfl (by kernel_rfl) (by kernel_rfl) (by kernel_rfl) (fun _ _ _ h => h) (by kernel_rfl) (Or.inl ⟨by rfl, ?hy1⟩) BD.out ?rest1
  case hy1 => (intro W hSw; go_simp; try (with_reducible rfl))
  try simp only [Act.put, List.setIfInBounds_toArray, List.set_cons_zero, List.set_cons_succ]
  refine' wpAnyD_take (i := 1) (oi := ⟨some 7, .load 3 (.tmp 6), 3, "graph.go:153", #[⟨0, .data⟩], none⟩) (v := _) rfl (by kernel_rfl) (by kernel_rfl) (by kernel_rfl) (fun _ _ _ h => h) (by kernel_rfl) (Or.inl ⟨by rfl, ?hy2⟩) BD.out ?rest2
  case hy2 => (intro W hSw; have hb := (hSw.block _ (tk_lt N1.out)).trans N1.out; have hc := (tk_store hb).1; have hl := tk_lt hb; go_simp; try (with_reducible rfl))
  try simp only [Act.put, List.setIfInBounds_toArray, List.set_cons_zero, List.set_cons_succ]
  refine' wpAnyD_take (i := 2) (oi := ⟨some 8, .fieldAddr 25 (.tmp 1) 1, 0, "graph.go:153", #[], none⟩) (v := _) rfl (by kernel_rfl) (by kernel_rfl) (by kernel_rfl) (fun _ _ _ h => h) (by kernel_rfl) (Or.inl ⟨by rfl, ?hy3⟩) BD.out ?rest3
  case hy3 => (intro W hSw; go_simp; try (with_reducible rfl))
  try simp only [Act.put, List.setIfInBounds_toArray, List.set_cons_zero, List.set_cons_succ]
  refine' wpAnyD_take (i := 3) (oi := ⟨some 9, .load 22 (.tmp 8), 22, "graph.go:153", #[⟨2, .data⟩], none⟩) (v := _) rfl (by kernel_rfl) (by kernel_rfl) (by kernel_rfl) (fun _ _ _ h => h) (by kernel_rfl) (Or.inl ⟨by rfl, ?hy4⟩) BD.out ?rest4
  case hy4 => (intro W hSw; have hb := (hSw.block _ (tk_lt N1.out)).trans N1.out; have hc := (tk_store hb).1; have hl := tk_lt hb; go_simp; try (with_reducible rfl))
  try simp only [Act.put, List.setIfInBounds_toArray, List.set_cons_zero, List.set_cons_succ]
  refine' wpAnyD_take (i := 5) (oi := ⟨some 11, .fieldAddr 25 (.tmp 1) 2, 0, "graph.go:153", #[], none⟩) (v := _) rfl (by kernel_rfl) (by kernel_rfl) (by kernel_rfl) (fun _ _ _ h => h) (by kernel_rfl) (Or.inl ⟨by rfl, ?hy5⟩) BD.out ?rest5
  case hy5 => (intro W hSw; go_simp; try (with_reducible rfl))
  try simp only [Act.put, List.setIfInBounds_toArray, List.set_cons_zero, List.set_cons_succ]
  refine' wpAnyD_take (i := 6) (oi := ⟨some 12, .load 23 (.tmp 11), 23, "graph.go:153", #[⟨5, .data⟩], none⟩) (v := _) rfl (by kernel_rfl) (by kernel_rfl) (by kernel_rfl) (fun _ _ _ h => h) (by kernel_rfl) (Or.inl ⟨by rfl, ?hy6⟩) BD.out ?rest6
  case hy6 => (intro W hSw; have hb := (hSw.block _ (tk_lt N1.out)).trans N1.out; have hc := (tk_store hb).1; have hl := tk_lt hb; go_simp; try (with_reducible rfl))
  try simp only [Act.put, List.setIfInBounds_toArray, List.set_cons_zero, List.set_cons_succ]
  refine wpAnyD_two (i := 4) (j := 9) (oi := ⟨some 10, .call ⟨.value (.func 79), #[.tmp 9], #[22]⟩, 22, "graph.go:153", #[⟨3, .data⟩], none⟩) (oj := ⟨some 3, .alloc 25, 0, "graph.go:153", #[], none⟩) (by kernel_rfl) rfl rfl (fun K hK => ?_) (fun K hK => ?_)
  ·go_simp
   refine (copyV_any _ (HG.out.nodes.below BD.out) HBG.out.1).mono ?_
   rintro r v7 ⟨d7, rfl, b7, o7⟩
   have B7 := hid (BD.out.trans (b7.mono BD.out.size))
   have OV7 := hid (owns_base o7 BD.out.size)
   obtain ⟨dp7, dm7, dc7, hd7⟩ := owns_form o7
   subst hd7
   clear b7 o7
   go_wp2_with fail
   refine hK.out _ _ (fun hD => B7.out) ?_
   clear hK K
   try simp only [Act.put, List.setIfInBounds_toArray, List.set_cons_zero, List.set_cons_succ]
   refine wpAnyD_two (i := 7) (j := 9) (oi := ⟨some 13, .call ⟨.value (.func 80), #[.tmp 12], #[23]⟩, 23, "graph.go:153", #[⟨6, .data⟩, ⟨4, .chain⟩], none⟩) (oj := ⟨some 3, .alloc 25, 0, "graph.go:153", #[], none⟩) (by kernel_rfl) rfl rfl (fun K hK => ?_) (fun K hK => ?_)
   ·go_simp
    refine (copyD_any _ (HG.out.edges.below B7.out) HBG.out.2.1).mono ?_
    rintro r v8 ⟨d8, rfl, b8, o8⟩
    have B8 := hid (B7.out.trans (b8.mono B7.out.size))
    have OD8 := hid (owns_base o8 B7.out.size)
    have OV8 := hid (owns_below OV7.out b8)
    obtain ⟨dp8, dm8, dc8, hd8⟩ := owns_form o8
    subst hd8
    clear b8 o8
    go_wp2_with fail
    refine hK.out _ _ (fun hD => B8.out) ?_
    clear hK K
    try simp only [Act.put, List.setIfInBounds_toArray, List.set_cons_zero, List.set_cons_succ]
    refine' wpAnyD_take (i := 8) (oi := ⟨some 14, .build 25 #[(0, .tmp 7), (1, .tmp 10), (2, .tmp 13)], 25, "graph.go:153", #[⟨1, .data⟩, ⟨4, .data⟩, ⟨7, .data⟩], none⟩) (v := _) rfl (by kernel_rfl) (by kernel_rfl) (by kernel_rfl) (fun _ _ _ h => h) (by kernel_rfl) (Or.inl ⟨by rfl, ?hy9⟩) B8.out ?rest9
    case hy9 => (intro W hSw; go_simp; try (with_reducible rfl))
    try simp only [Act.put, List.setIfInBounds_toArray, List.set_cons_zero, List.set_cons_succ]
    refine wpAnyD_one (i := 9) (o := ⟨some 3, .alloc 25, 0, "graph.go:153", #[], none⟩) (by kernel_rfl) rfl (fun K hK => ?_)
    go_simp
    have g10 := (Gr.refl v8).alloc (.cells (gvc 0 (.slice none 0 0) (.slice none 0 0)) 25)
    have C10 := hid (heap_new' v8 (.cells (gvc 0 (.slice none 0 0) (.slice none 0 0)) 25))
    have LO10 := hid B8.out.size
    obtain ⟨cb, hcb⟩ : ∃ b, b = v8.heap.size := ⟨_, rfl⟩
    obtain ⟨V10, hV10⟩ : ∃ V, V = v8.alloc (.cells (gvc 0 (.slice none 0 0) (.slice none 0 0)) 25) := ⟨_, rfl⟩
    have HV : Hid (v8.alloc (.cells #[.int .i64 0, .slice none 0 0, .slice none 0 0] 25) = V10 ∧ v8.heap.size = cb) := ⟨hV10.symm, hcb.symm⟩
    rw [← hV10, ← hcb] at C10
    rw [← hV10] at g10
    rw [← hcb] at LO10
    rw [HV.out.1, HV.out.2]
    have B10 := hid (B8.out.trans (g10.below.mono B8.out.size))
    have OV10 := hid (owns_below OV8.out g10.below)
    have OD10 := hid (owns_below OD8.out g10.below)
    clear g10 hV10 hcb HV
    refine hK.out _ _ (fun hD => B10.out) ?_
    clear hK K
    try simp only [Act.put, List.setIfInBounds_toArray, List.set_cons_zero, List.set_cons_succ]
    refine wpAnyD_one (i := 10) (o := ⟨none, .store 25 (.tmp 3) (.tmp 14), 0, "graph.go:153", #[⟨9, .data⟩, ⟨8, .data⟩, ⟨7, .chain⟩, ⟨0, .phase⟩, ⟨1, .phase⟩, ⟨2, .phase⟩, ⟨3, .phase⟩, ⟨4, .phase⟩, ⟨5, .phase⟩, ⟨6, .phase⟩, ⟨7, .phase⟩, ⟨8, .phase⟩, ⟨9, .phase⟩], none⟩) (by kernel_rfl) rfl (fun K hK => ?_)
    have e1 := (tk_store C10.out).1
    have e2 := (tk_store C10.out).2
    have e3 := tk_lt C10.out
    go_simp
    obtain ⟨wf, hwf⟩ : ∃ wf, wf = ((V10.setCell ⟨cb, 0, none⟩ (.int .i64 a)).setCell ⟨cb, 1, none⟩ (.slice dp7 dm7 dc7)).setCell ⟨cb, 2, none⟩ (.slice dp8 dm8 dc8) := ⟨_, rfl⟩
    rw [← hwf]
    have F := fill3 C10.out (.int .i64 a) (.slice dp7 dm7 dc7) (.slice dp8 dm8 dc8)
    rw [← hwf] at F
    clear hwf e1 e2 e3
    have hlow := LO10.out
    have FB : Below W0.heap.size W0 wf := B10.out.trans (F.2.below B10.out.size (fun k e => by omega))
    have FQ : Hid (Cq W0.heap.size wf cb a (.slice dp7 dm7 dc7) (.slice dp8 dm8 dc8) xs es 0) := ⟨F.1, hlow, owns_kp F.2 OV10.out (fun k e e2 => owns_ne_blk OV10.out C10.out (by decide) k e e2), owns_kp F.2 OD10.out (fun k e e2 => owns_ne_blk OD10.out C10.out (by decide) k e e2), fun y hy => (by simp at hy)⟩
    refine hK.out _ _ (fun hD => FB) ?_
    clear hK K
    try simp only [Act.put, List.setIfInBounds_toArray, List.set_cons_zero, List.set_cons_succ]
    refine wpAnyD_done (by kernel_rfl) ?_ _
    go_wp2_with fail
    go_meet
    exact ⟨cb, _, _, rfl, FB, FQ.out⟩
   ·go_simp
    have g12 := (Gr.refl v7).alloc (.cells (gvc 0 (.slice none 0 0) (.slice none 0 0)) 25)
    have C12 := hid (heap_new' v7 (.cells (gvc 0 (.slice none 0 0) (.slice none 0 0)) 25))
    have LO12 := hid B7.out.size
    obtain ⟨cb, hcb⟩ : ∃ b, b = v7.heap.size := ⟨_, rfl⟩
    obtain ⟨V12, hV12⟩ : ∃ V, V = v7.alloc (.cells (gvc 0 (.slice none 0 0) (.slice none 0 0)) 25) := ⟨_, rfl⟩
    have HV : Hid (v7.alloc (.cells #[.int .i64 0, .slice none 0 0, .slice none 0 0] 25) = V12 ∧ v7.heap.size = cb) := ⟨hV12.symm, hcb.symm⟩
    rw [← hV12, ← hcb] at C12
    rw [← hV12] at g12
    rw [← hcb] at LO12
    rw [HV.out.1, HV.out.2]
    have B12 := hid (B7.out.trans (g12.below.mono B7.out.size))
    have OV12 := hid (owns_below OV7.out g12.below)
    clear g12 hV12 hcb HV
    refine hK.out _ _ (fun hD => B12.out) ?_
    clear hK K
    try simp only [Act.put, List.setIfInBounds_toArray, List.set_cons_zero, List.set_cons_succ]
    refine wpAnyD_one (i := 7) (o := ⟨some 13, .call ⟨.value (.func 80), #[.tmp 12], #[23]⟩, 23, "graph.go:153", #[⟨6, .data⟩, ⟨4, .chain⟩], none⟩) (by kernel_rfl) rfl (fun K hK => ?_)
    go_simp
    refine (copyD_any _ (HG.out.edges.below B12.out) HBG.out.2.1).mono ?_
    rintro r v13 ⟨d13, rfl, b13, o13⟩
    have B13 := hid (B12.out.trans (b13.mono B12.out.size))
    have OD13 := hid (owns_base o13 B12.out.size)
    have OV13 := hid (owns_below OV12.out b13)
    have C13 := hid ((b13.block _ (tk_lt C12.out)).trans C12.out)
    obtain ⟨dp13, dm13, dc13, hd13⟩ := owns_form o13
    subst hd13
    clear b13 o13
    go_wp2_with fail
    refine hK.out _ _ (fun hD => B13.out) ?_
    clear hK K
    try simp only [Act.put, List.setIfInBounds_toArray, List.set_cons_zero, List.set_cons_succ]
    refine' wpAnyD_take (i := 8) (oi := ⟨some 14, .build 25 #[(0, .tmp 7), (1, .tmp 10), (2, .tmp 13)], 25, "graph.go:153", #[⟨1, .data⟩, ⟨4, .data⟩, ⟨7, .data⟩], none⟩) (v := _) rfl (by kernel_rfl) (by kernel_rfl) (by kernel_rfl) (fun _ _ _ h => h) (by kernel_rfl) (Or.inl ⟨by rfl, ?hy14⟩) B13.out ?rest14
    case hy14 => (intro W hSw; go_simp; try (with_reducible rfl))
    try simp only [Act.put, List.setIfInBounds_toArray, List.set_cons_zero, List.set_cons_succ]
    refine wpAnyD_one (i := 10) (o := ⟨none, .store 25 (.tmp 3) (.tmp 14), 0, "graph.go:153", #[⟨9, .data⟩, ⟨8, .data⟩, ⟨7, .chain⟩, ⟨0, .phase⟩, ⟨1, .phase⟩, ⟨2, .phase⟩, ⟨3, .phase⟩, ⟨4, .phase⟩, ⟨5, .phase⟩, ⟨6, .phase⟩, ⟨7, .phase⟩, ⟨8, .phase⟩, ⟨9, .phase⟩], none⟩) (by kernel_rfl) rfl (fun K hK => ?_)
    have e1 := (tk_store C13.out).1
    have e2 := (tk_store C13.out).2
    have e3 := tk_lt C13.out
    go_simp
    obtain ⟨wf, hwf⟩ : ∃ wf, wf = ((v13.setCell ⟨cb, 0, none⟩ (.int .i64 a)).setCell ⟨cb, 1, none⟩ (.slice dp7 dm7 dc7)).setCell ⟨cb, 2, none⟩ (.slice dp13 dm13 dc13) := ⟨_, rfl⟩
    rw [← hwf]
    have F := fill3 C13.out (.int .i64 a) (.slice dp7 dm7 dc7) (.slice dp13 dm13 dc13)
    rw [← hwf] at F
    clear hwf e1 e2 e3
    have hlow := LO12.out
    have FB : Below W0.heap.size W0 wf := B13.out.trans (F.2.below B13.out.size (fun k e => by omega))
    have FQ : Hid (Cq W0.heap.size wf cb a (.slice dp7 dm7 dc7) (.slice dp13 dm13 dc13) xs es 0) := ⟨F.1, hlow, owns_kp F.2 OV13.out (fun k e e2 => owns_ne_blk OV13.out C13.out (by decide) k e e2), owns_kp F.2 OD13.out (fun k e e2 => owns_ne_blk OD13.out C13.out (by decide) k e e2), fun y hy => (by simp at hy)⟩
    refine hK.out _ _ (fun hD => FB) ?_
    clear hK K
    try simp only [Act.put, List.setIfInBounds_toArray, List.set_cons_zero, List.set_cons_succ]
    refine wpAnyD_done (by kernel_rfl) ?_ _
    go_wp2_with fail
    go_meet
    exact ⟨cb, _, _, rfl, FB, FQ.out⟩
  ·go_simp
   have g16 := (Gr.refl Wd).alloc (.cells (gvc 0 (.slice none 0 0) (.slice none 0 0)) 25)
   have C16 := hid (heap_new' Wd (.cells (gvc 0 (.slice none 0 0) (.slice none 0 0)) 25))
   have LO16 := hid BD.out.size
   obtain ⟨cb, hcb⟩ : ∃ b, b = Wd.heap.size := ⟨_, rfl⟩
   obtain ⟨V16, hV16⟩ : ∃ V, V = Wd.alloc (.cells (gvc 0 (.slice none 0 0) (.slice none 0 0)) 25) := ⟨_, rfl⟩
   have HV : Hid (Wd.alloc (.cells #[.int .i64 0, .slice none 0 0, .slice none 0 0] 25) = V16 ∧ Wd.heap.size = cb) := ⟨hV16.symm, hcb.symm⟩
   rw [← hV16, ← hcb] at C16
   rw [← hV16] at g16
   rw [← hcb] at LO16
   rw [HV.out.1, HV.out.2]
   have B16 := hid (BD.out.trans (g16.below.mono BD.out.size))
   clear g16 hV16 hcb HV
   refine hK.out _ _ (fun hD => B16.out) ?_
   clear hK K
   try simp only [Act.put, List.setIfInBounds_toArray, List.set_cons_zero, List.set_cons_succ]
   refine wpAnyD_one (i := 4) (o := ⟨some 10, .call ⟨.value (.func 79), #[.tmp 9], #[22]⟩, 22, "graph.go:153", #[⟨3, .data⟩], none⟩) (by kernel_rfl) rfl (fun K hK => ?_)
   go_simp
   refine (copyV_any _ (HG.out.nodes.below B16.out) HBG.out.1).mono ?_
   rintro r v17 ⟨d17, rfl, b17, o17⟩
   have B17 := hid (B16.out.trans (b17.mono B16.out.size))
   have OV17 := hid (owns_base o17 B16.out.size)
   have C17 := hid ((b17.block _ (tk_lt C16.out)).trans C16.out)
   obtain ⟨dp17, dm17, dc17, hd17⟩ := owns_form o17
   subst hd17
   clear b17 o17
   go_wp2_with fail
   refine hK.out _ _ (fun hD => B17.out) ?_
   clear hK K
   try simp only [Act.put, List.setIfInBounds_toArray, List.set_cons_zero, List.set_cons_succ]
   refine wpAnyD_one (i := 7) (o := ⟨some 13, .call ⟨.value (.func 80), #[.tmp 12], #[23]⟩, 23, "graph.go:153", #[⟨6, .data⟩, ⟨4, .chain⟩], none⟩) (by kernel_rfl) rfl (fun K hK => ?_)
   go_simp
   refine (copyD_any _ (HG.out.edges.below B17.out) HBG.out.2.1).mono ?_
   rintro r v18 ⟨d18, rfl, b18, o18⟩
   have B18 := hid (B17.out.trans (b18.mono B17.out.size))
   have OD18 := hid (owns_base o18 B17.out.size)
   have OV18 := hid (owns_below OV17.out b18)
   have C18 := hid ((b18.block _ (tk_lt C17.out)).trans C17.out)
   obtain ⟨dp18, dm18, dc18, hd18⟩ := owns_form o18
   subst hd18
   clear b18 o18
   go_wp2_with fail
   refine hK.out _ _ (fun hD => B18.out) ?_
   clear hK K
   try simp only [Act.put, List.setIfInBounds_toArray, List.set_cons_zero, List.set_cons_succ]
   refine' wpAnyD_take (i := 8) (oi := ⟨some 14, .build 25 #[(0, .tmp 7), (1, .tmp 10), (2, .tmp 13)], 25, "graph.go:153", #[⟨1, .data⟩, ⟨4, .data⟩, ⟨7, .data⟩], none⟩) (v := _) rfl (by kernel_rfl) (by kernel_rfl) (by kernel_rfl) (fun _ _ _ h => h) (by kernel_rfl) (Or.inl ⟨by rfl, ?hy19⟩) B18.out ?rest19
   case hy19 => (intro W hSw; go_simp; try (with_reducible rfl))
   try simp only [Act.put, List.setIfInBounds_toArray, List.set_cons_zero, List.set_cons_succ]
   refine wpAnyD_one (i := 10) (o := ⟨none, .store 25 (.tmp 3) (.tmp 14), 0, "graph.go:153", #[⟨9, .data⟩, ⟨8, .data⟩, ⟨7, .chain⟩, ⟨0, .phase⟩, ⟨1, .phase⟩, ⟨2, .phase⟩, ⟨3, .phase⟩, ⟨4, .phase⟩, ⟨5, .phase⟩, ⟨6, .phase⟩, ⟨7, .phase⟩, ⟨8, .phase⟩, ⟨9, .phase⟩], none⟩) (by kernel_rfl) rfl (fun K hK => ?_)
   have e1 := (tk_store C18.out).1
   have e2 := (tk_store C18.out).2
   have e3 := tk_lt C18.out
   go_simp
   obtain ⟨wf, hwf⟩ : ∃ wf, wf = ((v18.setCell ⟨cb, 0, none⟩ (.int .i64 a)).setCell ⟨cb, 1, none⟩ (.slice dp17 dm17 dc17)).setCell ⟨cb, 2, none⟩ (.slice dp18 dm18 dc18) := ⟨_, rfl⟩
   rw [← hwf]
   have F := fill3 C18.out (.int .i64 a) (.slice dp17 dm17 dc17) (.slice dp18 dm18 dc18)
   rw [← hwf] at F
   clear hwf e1 e2 e3
   have hlow := LO16.out
   have FB : Below W0.heap.size W0 wf := B18.out.trans (F.2.below B18.out.size (fun k e => by omega))
   have FQ : Hid (Cq W0.heap.size wf cb a (.slice dp17 dm17 dc17) (.slice dp18 dm18 dc18) xs es 0) := ⟨F.1, hlow, owns_kp F.2 OV18.out (fun k e e2 => owns_ne_blk OV18.out C18.out (by decide) k e e2), owns_kp F.2 OD18.out (fun k e e2 => owns_ne_blk OD18.out C18.out (by decide) k e e2), fun y hy => (by simp at hy)⟩
   refine hK.out _ _ (fun hD => FB) ?_
   clear hK K
   try simp only [Act.put, List.setIfInBounds_toArray, List.set_cons_zero, List.set_cons_succ]
   refine wpAnyD_done (by kernel_rfl) ?_ _
   go_wp2_with fail
   go_meet
   exact ⟨cb, _, _, rfl, FB, FQ.out⟩
 case rest =>
  obtain ⟨cb, nv', ev', rfl, HQ⟩ := hcut
  have HS0 := hid B0.out.size
  have hq := HQ.out.2
  obtain ⟨qn, mn, cnn, hv9⟩ := owns_form hq.nodes
  obtain rfl : mn = nl := by
   have h := (owns_caps hq.nodes _ _ _ hv9).1
   have := HNL.out
   omega
  subst hv9
  have c1 := (tk_store hq.blk).1
  have l1 := tk_lt hq.blk
  clear hq
  go_upto_region 3 with fail
  clear c1 l1
  go_loopw [18] (fun s18 wr => ∃ (j : Nat) (zs : List NV), j ≤ mn ∧ s18 = .int .i64 (j : Nat) ∧ Hid (Below W0.heap.size W0 wr ∧ Cq W0.heap.size wr cb a (.slice qn mn cnn) ev' zs es j ∧ zs.map NV.n = xs.map NV.n ∧ zs.drop j = xs.drop j)) (fun s18 _ => mn - (RowKit.intOf s18).toNat)
  case atStart => exact ⟨0, xs, Nat.zero_le _, rfl, HQ.out.1, HQ.out.2, rfl, rfl⟩
  case round =>
   clear HQ
   obtain ⟨j, zs, hj, rfl, HI⟩ := hrel
   have HZL : Hid (zs.length = mn) := by
    have h := congrArg List.length HI.out.2.2.1
    simp only [List.length_map] at h
    show _ = _
    rw [h, HNL.out]
   by_cases hlt : j < mn
   ·have hltz : (j : Int) < (mn : Int) := by omega
    have hj0 : (0 : Int) ≤ (j : Int) := by omega
    have hn9 : mn ≤ 140737488351232 := by have := HBG.out.1; have := HNL.out; omega
    obtain ⟨y, hy⟩ : ∃ y, zs[j]? = some y := ⟨zs[j]'(by have := HZL.out; omega), by simp⟩
    have hyx : xs[j]? = some y := by
     have h := congrArg List.head? HI.out.2.2.2
     rw [List.head?_drop, List.head?_drop, hy] at h
     exact h.symm
    have hym := List.mem_of_getElem? hyx
    obtain ⟨b1, o1, q1, ev1, zz1, x0, x1, x2, x3, x4, x5, x6, x7, x8, x9⟩ := ls_atV (owns_ls (E := EV) HI.out.2.1.nodes) hy
    have hq0 : q1 = cnn ∧ o1 = 0 := by
     rcases HI.out.2.1.nodes.2 with ⟨h0, _⟩ | ⟨g, cap, cur, h0, _⟩
     ·rw [ev1] at h0; cases h0
     ·rw [ev1] at h0
      simp only [Value.slice.injEq, Option.some.injEq, Addr.mk.injEq] at h0 ev1
      exact ⟨ev1.2.2.symm, h0.1.2.1⟩
    obtain ⟨rfl, rfl⟩ := hq0
    simp only [Value.slice.injEq] at ev1
    obtain ⟨rfl, -, -⟩ := ev1
    simp only [Nat.zero_add] at x0 x1 x2 x3 x4 x5 x6 x7 x8 x9
    have HY : Hid (zs[j]? = some y ∧ xs[j]? = some y) := ⟨hy, hyx⟩
    have NRY := hid ((HG.out.each y hym).below (HI.out.1))
    have HSZ := hid (HBG.out.2.2 y hym)
    clear hy hyx hym
    obtain ⟨yb, hyb⟩ : ∃ b, b = wr.heap.size := ⟨_, rfl⟩
    obtain ⟨W5, hW5⟩ : ∃ W, W = wr.alloc (.cells y.cells 89) := ⟨_, rfl⟩
    have P5 : Hid (Below wr.heap.size wr W5 ∧ W5.heap[yb]? = some (.cells y.cells 89 (0, 0)) ∧ wr.heap.size ≤ yb) := by
     rw [hW5, hyb]
     exact ⟨((Gr.refl wr).alloc _).below, heap_new' _ _, Nat.le_refl _⟩
    have HW5 : Hid (wr.alloc (.cells #[.int .i64 y.n.kind, .int .i64 y.n.ins, .int .i64 y.n.outs, .slice y.cq y.cm y.cc, .int .u64 (y.n.via.1 : Nat), .int .u64 (y.n.via.2.1 : Nat), .int .u64 (y.n.via.2.2 : Nat), .int .u64 (y.n.bound : Nat), .slice y.dq y.dm y.dc, .bool y.n.start] 89) = W5 ∧ wr.heap.size = yb) := ⟨hW5.symm, hyb.symm⟩
    clear hW5 hyb
    go_upto_region 5 with fail
    rw [HW5.out.1, HW5.out.2]
    clear HW5 x0 x1 x2 x3 x4 x5 x6 x7 x8 x9 zz1
    have Q5 := hid (HI.out.2.1.below P5.out.1)
    have HX5 := hid (HI.out.1.trans (P5.out.1.mono HI.out.1.size))
    have NR5 := hid (NRY.out.below P5.out.1)
    have hS0 : W5.drew.heap[cb]? = some (.cells (gvc a (.slice (some ⟨b1, 0, none⟩) mn q1) ev') 25 (0, 0)) ∧ W5.drew.heap[yb]? = some (.cells y.cells 89 (0, 0)) := ⟨Q5.out.blk, P5.out.2.1⟩
    refine wp_regionD (S := fun W => W.heap[cb]? = some (.cells (gvc a (.slice (some ⟨b1, 0, none⟩) mn q1) ev') 25 (0, 0)) ∧ W.heap[yb]? = some (.cells y.cells 89 (0, 0))) (D := []) hmx ?_
    refine' wpAnyD_take (i := 0) (oi := ⟨some 23, .fieldAddr 25 (.tmp 3) 1, 0, "graph.go:155", #[], none⟩) (v := _) rfl (by kernel_rfl) (by kernel_rfl) (by kernel_rfl) (fun _ _ _ h => h) (by kernel_rfl) (Or.inl ⟨by rfl, ?hy21⟩) hS0 ?rest21
    case hy21 => (intro W hSw; go_simp; try (with_reducible rfl))
    try simp only [Act.put, List.setIfInBounds_toArray, List.set_cons_zero, List.set_cons_succ]
    refine' wpAnyD_take (i := 1) (oi := ⟨some 24, .load 22 (.tmp 23), 22, "graph.go:155", #[⟨0, .data⟩], none⟩) (v := _) rfl (by kernel_rfl) (by kernel_rfl) (by kernel_rfl) (fun _ _ _ h => h) (by kernel_rfl) (Or.inl ⟨by rfl, ?hy22⟩) hS0 ?rest22
    case hy22 => (intro W hSw; have hc := (tk_store hSw.1).1; have hl := tk_lt hSw.1; go_simp; try (with_reducible rfl))
    try simp only [Act.put, List.setIfInBounds_toArray, List.set_cons_zero, List.set_cons_succ]
    refine' wpAnyD_take (i := 2) (oi := ⟨some 25, .move (.tmp 4), 3, "graph.go:155", #[], none⟩) (v := _) rfl (by kernel_rfl) (by kernel_rfl) (by kernel_rfl) (fun _ _ _ h => h) (by kernel_rfl) (Or.inl ⟨by rfl, ?hy23⟩) hS0 ?rest23
    case hy23 => (intro W hSw; go_simp; try (with_reducible rfl))
    try simp only [Act.put, List.setIfInBounds_toArray, List.set_cons_zero, List.set_cons_succ]
    refine' wpAnyD_take (i := 3) (oi := ⟨some 26, .fieldAddr 25 (.tmp 3) 1, 0, "graph.go:155", #[⟨14, .gcOnly .lateStores⟩], none⟩) (v := _) rfl (by kernel_rfl) (by kernel_rfl) (by kernel_rfl) (fun _ _ _ h => h) (by kernel_rfl) (Or.inl ⟨by rfl, ?hy24⟩) hS0 ?rest24
    case hy24 => (intro W hSw; go_simp; try (with_reducible rfl))
    try simp only [Act.put, List.setIfInBounds_toArray, List.set_cons_zero, List.set_cons_succ]
    refine' wpAnyD_take (i := 4) (oi := ⟨some 27, .load 22 (.tmp 26), 22, "graph.go:155", #[⟨3, .data⟩, ⟨14, .gcOnly .lateStores⟩], none⟩) (v := _) rfl (by kernel_rfl) (by kernel_rfl) (by kernel_rfl) (fun _ _ _ h => h) (by kernel_rfl) (Or.inl ⟨by rfl, ?hy25⟩) hS0 ?rest25
    case hy25 => (intro W hSw; have hc := (tk_store hSw.1).1; have hl := tk_lt hSw.1; go_simp; try (with_reducible rfl))
    try simp only [Act.put, List.setIfInBounds_toArray, List.set_cons_zero, List.set_cons_succ]
    refine' wpAnyD_take (i := 5) (oi := ⟨some 28, .move (.tmp 4), 3, "graph.go:155", #[⟨14, .gcOnly .lateStores⟩], none⟩) (v := _) rfl (by kernel_rfl) (by kernel_rfl) (by kernel_rfl) (fun _ _ _ h => h) (by kernel_rfl) (Or.inl ⟨by rfl, ?hy26⟩) hS0 ?rest26
    case hy26 => (intro W hSw; go_simp; try (with_reducible rfl))
    try simp only [Act.put, List.setIfInBounds_toArray, List.set_cons_zero, List.set_cons_succ]
    refine' wpAnyD_take (i := 6) (oi := ⟨some 29, .fieldAddr 89 (.tmp 5) 3, 0, "graph.go:155", #[], none⟩) (v := _) rfl (by kernel_rfl) (by kernel_rfl) (by kernel_rfl) (fun _ _ _ h => h) (by kernel_rfl) (Or.inl ⟨by rfl, ?hy27⟩) hS0 ?rest27
    case hy27 => (intro W hSw; go_simp; try (with_reducible rfl))
    try simp only [Act.put, List.setIfInBounds_toArray, List.set_cons_zero, List.set_cons_succ]
    refine' wpAnyD_take (i := 7) (oi := ⟨some 30, .load 87 (.tmp 29), 87, "graph.go:155", #[⟨6, .data⟩], none⟩) (v := _) rfl (by kernel_rfl) (by kernel_rfl) (by kernel_rfl) (fun _ _ _ h => h) (by kernel_rfl) (Or.inl ⟨by rfl, ?hy28⟩) hS0 ?rest28
    case hy28 => (intro W hSw; have hc := (tk_store hSw.2).1; have hl := tk_lt hSw.2; go_simp; try (with_reducible rfl))
    try simp only [Act.put, List.setIfInBounds_toArray, List.set_cons_zero, List.set_cons_succ]
    refine' wpAnyD_take (i := 9) (oi := ⟨some 32, .fieldAddr 89 (.tmp 5) 6, 0, "graph.go:155", #[], none⟩) (v := _) rfl (by kernel_rfl) (by kernel_rfl) (by kernel_rfl) (fun _ _ _ h => h) (by kernel_rfl) (Or.inl ⟨by rfl, ?hy29⟩) hS0 ?rest29
    case hy29 => (intro W hSw; go_simp; try (with_reducible rfl))
    try simp only [Act.put, List.setIfInBounds_toArray, List.set_cons_zero, List.set_cons_succ]
    refine' wpAnyD_take (i := 10) (oi := ⟨some 33, .load 85 (.tmp 32), 85, "graph.go:155", #[⟨9, .data⟩], none⟩) (v := _) rfl (by kernel_rfl) (by kernel_rfl) (by kernel_rfl) (fun _ _ _ h => h) (by kernel_rfl) (Or.inl ⟨by rfl, ?hy30⟩) hS0 ?rest30
    case hy30 => (intro W hSw; have hc := (tk_store hSw.2).1; have hl := tk_lt hSw.2; go_simp; try (with_reducible rfl))
    try simp only [Act.put, List.setIfInBounds_toArray, List.set_cons_zero, List.set_cons_succ]
    refine wpAnyD_one (i := 8) (o := ⟨some 31, .call ⟨.value (.func 81), #[.tmp 30], #[87]⟩, 87, "graph.go:155", #[⟨7, .data⟩], none⟩) (by kernel_rfl) rfl (fun K hK => ?_)
    go_simp
    refine (copyO_any _ (NR5.out.code.below (Gr.refl W5).drew.below) HSZ.out.1).mono ?_
    rintro r w6 ⟨v31, rfl, b6, o6⟩
    have B6 := hid ((Gr.refl W5).drew.below.trans (b6.mono (Gr.refl W5).drew.size))
    have O6 := hid (owns_base o6 (Nat.le_trans HX5.out.size (Gr.refl W5).drew.size))
    have L6 : Hid (∀ k, v31.ownBlock = some k → W5.heap.size ≤ k) := fun k e => (owns_rd o6 k e).1
    have hS6 := (show _ ∧ _ from ⟨(b6.block _ (tk_lt hS0.1)).trans hS0.1, (b6.block _ (tk_lt hS0.2)).trans hS0.2⟩)
    obtain ⟨q31, m31, c31, hv31⟩ := owns_form o6
    subst hv31
    clear b6 o6
    go_wp2_with fail
    refine hK.out _ _ (fun hD => hS6) ?_
    clear hK K
    try simp only [Act.put, List.setIfInBounds_toArray, List.set_cons_zero, List.set_cons_succ]
    refine wpAnyD_one (i := 11) (o := ⟨some 34, .call ⟨.value (.func 82), #[.tmp 33], #[85]⟩, 85, "graph.go:155", #[⟨10, .data⟩, ⟨8, .chain⟩], none⟩) (by kernel_rfl) rfl (fun K hK => ?_)
    go_simp
    refine (copyC_any _ (NR5.out.conns.below B6.out) HSZ.out.2).mono ?_
    rintro r w7 ⟨v34, rfl, b7, o7⟩
    have B7 := hid (B6.out.trans (b7.mono B6.out.size))
    have O7 := hid (owns_base o7 (Nat.le_trans HX5.out.size B6.out.size))
    have O67 := hid (owns_below O6.out b7)
    have hS7 := (show _ ∧ _ from ⟨(b7.block _ (tk_lt hS6.1)).trans hS6.1, (b7.block _ (tk_lt hS6.2)).trans hS6.2⟩)
    obtain ⟨q34, m34, c34, hv34⟩ := owns_form o7
    subst hv34
    clear b7 o7
    go_wp2_with fail
    refine hK.out _ _ (fun hD => hS7) ?_
    clear hK K
    try simp only [Act.put, List.setIfInBounds_toArray, List.set_cons_zero, List.set_cons_succ]
    refine' wpAnyD_take (i := 12) (oi := ⟨some 35, .indexAddr 22 (.tmp 24) (.tmp 25), 0, "graph.go:155", #[⟨1, .data⟩, ⟨2, .data⟩, ⟨0, .phase⟩, ⟨1, .phase⟩, ⟨2, .phase⟩, ⟨3, .textOnly .lateStores⟩, ⟨4, .textOnly .lateStores⟩, ⟨5, .textOnly .lateStores⟩, ⟨6, .phase⟩, ⟨7, .phase⟩, ⟨8, .phase⟩, ⟨9, .textOnly .lateStores⟩, ⟨10, .textOnly .lateStores⟩, ⟨11, .phase⟩], none⟩) (v := _) rfl (by kernel_rfl) (by kernel_rfl) (by kernel_rfl) (fun _ _ _ h => h) (by kernel_rfl) (Or.inl ⟨by rfl, ?hy31⟩) hS7 ?rest31
    case hy31 => (intro W hSw; go_simp; try (with_reducible rfl))
    try simp only [Act.put, List.setIfInBounds_toArray, List.set_cons_zero, List.set_cons_succ]
    refine' wpAnyD_take (i := 13) (oi := ⟨some 36, .fieldAddr 89 (.tmp 35) 3, 0, "graph.go:155", #[⟨12, .data⟩, ⟨0, .phase⟩, ⟨1, .phase⟩, ⟨2, .phase⟩, ⟨3, .textOnly .lateStores⟩, ⟨4, .textOnly .lateStores⟩, ⟨5, .textOnly .lateStores⟩, ⟨6, .phase⟩, ⟨7, .phase⟩, ⟨8, .phase⟩, ⟨9, .textOnly .lateStores⟩, ⟨10, .textOnly .lateStores⟩, ⟨11, .phase⟩], none⟩) (v := _) rfl (by kernel_rfl) (by kernel_rfl) (by kernel_rfl) (fun _ _ _ h => h) (by kernel_rfl) (Or.inl ⟨by rfl, ?hy32⟩) hS7 ?rest32
    case hy32 => (intro W hSw; go_simp; try (with_reducible rfl))
    try simp only [Act.put, List.setIfInBounds_toArray, List.set_cons_zero, List.set_cons_succ]
    refine wpAnyD_one (i := 14) (o := ⟨none, .store 87 (.tmp 36) (.tmp 31), 0, "graph.go:155", #[⟨13, .data⟩, ⟨8, .data⟩, ⟨11, .chain⟩, ⟨0, .phase⟩, ⟨1, .phase⟩, ⟨2, .phase⟩, ⟨3, .textOnly .lateStores⟩, ⟨4, .textOnly .lateStores⟩, ⟨5, .textOnly .lateStores⟩, ⟨6, .phase⟩, ⟨7, .phase⟩, ⟨8, .phase⟩, ⟨9, .textOnly .lateStores⟩, ⟨10, .textOnly .lateStores⟩, ⟨11, .phase⟩], none⟩) (by kernel_rfl) rfl (fun K hK => ?_)
    have QN := hid (Q5.out.below B7.out)
    have hnl7 := HZL.out
    have QM : w7.ownsRow W0.heap.size 89 10 (.slice (some ⟨b1, 0, none⟩) zs.length q1) zs.length (fl EV zs) := by
     have h := QN.out.nodes
     rw [← hnl7] at h
     exact h
    have fr := QM.frozenAt
    have hlb := (owns_rd QN.out.nodes b1 rfl).2
    have hce3 : w7.cell? ⟨b1, j * 10 + 3, none⟩ = some (.slice y.cq y.cm y.cc) := by
     obtain ⟨b9, o9, q9, e9, -, -, -, -, h3, -⟩ := ls_atV (owns_ls (E := EV) QN.out.nodes) HY.out.1
     simp only [Value.slice.injEq, Option.some.injEq, Addr.mk.injEq] at e9
     obtain ⟨⟨rfl, rfl, -⟩, -, rfl⟩ := e9
     rw [Nat.zero_add] at h3
     exact h3
    go_simp
    have O14 := owns_one (u := .slice q31 m31 c31) QM (j * 10 + 3)
    obtain ⟨w8, hw8⟩ : ∃ w8, w8 = w7.setCell ⟨b1, j * 10 + 3, none⟩ (.slice q31 m31 c31) := ⟨_, rfl⟩
    rw [← hw8] at O14
    rw [← hw8]
    have N14 : Hid (w8.ownsRow W0.heap.size 89 10 (.slice (some ⟨b1, 0, none⟩) zs.length q1) zs.length (fl EV (zs.set j (y.withCode q31 m31 c31)))) := owns_re O14.1 rfl (fl_setV zs j 3 y _ _ HY.out.1 (by decide) rfl)
    have K14 := hid O14.2
    have hS8 : w8.heap[cb]? = some (.cells (gvc a (.slice (some ⟨b1, 0, none⟩) mn q1) ev') 25 (0, 0)) ∧ w8.heap[yb]? = some (.cells y.cells 89 (0, 0)) := ⟨(K14.out.block _ (tk_lt hS7.1) (fun e => owns_ne_blk QN.out.nodes hS7.1 (by decide) b1 rfl e.symm)).trans hS7.1, (K14.out.block _ (tk_lt hS7.2) (fun e => by have h1 := P5.out.2.2; have h2 := (owns_rd HI.out.2.1.nodes b1 rfl).2; omega)).trans hS7.2⟩
    clear O14 hw8 fr hlb hce3 hnl7 QM
    refine hK.out _ _ (fun hD => hS8) ?_
    clear hK K
    try simp only [Act.put, List.setIfInBounds_toArray, List.set_cons_zero, List.set_cons_succ]
    refine' wpAnyD_take (i := 15) (oi := ⟨some 37, .indexAddr 22 (.tmp 27) (.tmp 28), 0, "graph.go:155", #[⟨4, .data⟩, ⟨5, .data⟩, ⟨0, .phase⟩, ⟨1, .phase⟩, ⟨2, .phase⟩, ⟨3, .phase⟩, ⟨4, .phase⟩, ⟨5, .phase⟩, ⟨6, .phase⟩, ⟨7, .phase⟩, ⟨8, .phase⟩, ⟨9, .phase⟩, ⟨10, .phase⟩, ⟨11, .phase⟩, ⟨12, .phase⟩, ⟨13, .phase⟩, ⟨14, .phase⟩], none⟩) (v := _) rfl (by kernel_rfl) (by kernel_rfl) (by kernel_rfl) (fun _ _ _ h => h) (by kernel_rfl) (Or.inl ⟨by rfl, ?hy33⟩) hS8 ?rest33
    case hy33 => (intro W hSw; go_simp; try (with_reducible rfl))
    try simp only [Act.put, List.setIfInBounds_toArray, List.set_cons_zero, List.set_cons_succ]
    refine' wpAnyD_take (i := 16) (oi := ⟨some 38, .fieldAddr 89 (.tmp 37) 6, 0, "graph.go:155", #[⟨15, .data⟩, ⟨0, .phase⟩, ⟨1, .phase⟩, ⟨2, .phase⟩, ⟨3, .phase⟩, ⟨4, .phase⟩, ⟨5, .phase⟩, ⟨6, .phase⟩, ⟨7, .phase⟩, ⟨8, .phase⟩, ⟨9, .phase⟩, ⟨10, .phase⟩, ⟨11, .phase⟩, ⟨12, .phase⟩, ⟨13, .phase⟩, ⟨14, .phase⟩], none⟩) (v := _) rfl (by kernel_rfl) (by kernel_rfl) (by kernel_rfl) (fun _ _ _ h => h) (by kernel_rfl) (Or.inl ⟨by rfl, ?hy34⟩) hS8 ?rest34
    case hy34 => (intro W hSw; go_simp; try (with_reducible rfl))
    try simp only [Act.put, List.setIfInBounds_toArray, List.set_cons_zero, List.set_cons_succ]
    refine wpAnyD_one (i := 17) (o := ⟨none, .store 85 (.tmp 38) (.tmp 34), 0, "graph.go:155", #[⟨16, .data⟩, ⟨11, .data⟩, ⟨14, .chain⟩, ⟨0, .phase⟩, ⟨1, .phase⟩, ⟨2, .phase⟩, ⟨3, .phase⟩, ⟨4, .phase⟩, ⟨5, .phase⟩, ⟨6, .phase⟩, ⟨7, .phase⟩, ⟨8, .phase⟩, ⟨9, .phase⟩, ⟨10, .phase⟩, ⟨11, .phase⟩, ⟨12, .phase⟩, ⟨13, .phase⟩, ⟨14, .phase⟩], none⟩) (by kernel_rfl) rfl (fun K hK => ?_)
    have fr := N14.out.frozenAt
    have hlb := (owns_rd N14.out b1 rfl).2
    have hzl : (zs.set j (y.withCode q31 m31 c31)).length = zs.length := by simp
    have hce3 : w8.cell? ⟨b1, j * 10 + 8, none⟩ = some (.slice y.dq y.dm y.dc) := by
     obtain ⟨b9, o9, q9, e9, -, -, -, -, -, -, -, -, -, h3, -⟩ := ls_atV (ts := zs.set j (y.withCode q31 m31 c31)) (x := y.withCode q31 m31 c31) (owns_ls (E := EV) (owns_re N14.out hzl.symm rfl)) (by rw [List.getElem?_set_self (List.getElem?_eq_some_iff.1 HY.out.1).1])
     simp only [Value.slice.injEq, Option.some.injEq, Addr.mk.injEq] at e9
     obtain ⟨⟨rfl, rfl, -⟩, -, rfl⟩ := e9
     rw [Nat.zero_add] at h3
     exact h3
    go_simp
    have O17 := owns_one (u := .slice q34 m34 c34) N14.out (j * 10 + 8)
    obtain ⟨w9, hw9⟩ : ∃ w9, w9 = w8.setCell ⟨b1, j * 10 + 8, none⟩ (.slice q34 m34 c34) := ⟨_, rfl⟩
    rw [← hw9] at O17
    rw [← hw9]
    have N17 : Hid (w9.ownsRow W0.heap.size 89 10 (.slice (some ⟨b1, 0, none⟩) zs.length q1) zs.length (fl EV (zs.set j ((y.withCode q31 m31 c31).withConns q34 m34 c34)))) := owns_re O17.1 rfl (by rw [fl_setV (zs.set j (y.withCode q31 m31 c31)) j 8 (y.withCode q31 m31 c31) ((y.withCode q31 m31 c31).withConns q34 m34 c34) (.slice q34 m34 c34) (by rw [List.getElem?_set_self (List.getElem?_eq_some_iff.1 HY.out.1).1]) (by decide) rfl, List.set_set])
    have K17 := hid (K14.out.trans O17.2 (fun _ _ h => h))
    have hS9 : w9.heap[cb]? = some (.cells (gvc a (.slice (some ⟨b1, 0, none⟩) mn q1) ev') 25 (0, 0)) ∧ w9.heap[yb]? = some (.cells y.cells 89 (0, 0)) := ⟨(O17.2.block _ (tk_lt hS8.1) (fun e => owns_ne_blk N14.out hS8.1 (by decide) b1 rfl e.symm)).trans hS8.1, (O17.2.block _ (tk_lt hS8.2) (fun e => by have h1 := P5.out.2.2; have h2 := (owns_rd HI.out.2.1.nodes b1 rfl).2; omega)).trans hS8.2⟩
    clear O17 hw9 fr hlb hce3 hzl
    have FIN : Hid (Below W0.heap.size W0 w9 ∧ Cq W0.heap.size w9 cb a (.slice (some ⟨b1, 0, none⟩) mn q1) ev' (zs.set j ((y.withCode q31 m31 c31).withConns q34 m34 c34)) es (j + 1) ∧ (zs.set j ((y.withCode q31 m31 c31).withConns q34 m34 c34)).map NV.n = xs.map NV.n ∧ (zs.set j ((y.withCode q31 m31 c31).withConns q34 m34 c34)).drop (j + 1) = xs.drop (j + 1)) := by
     have hjl := (List.getElem?_eq_some_iff.1 HY.out.1).1
     have hb7 := HX5.out.trans (B7.out.mono HX5.out.size)
     have neq : ∀ {e : TypeId} {size n : Nat} {v : Value} {vs : List Value}, w7.ownsRow W0.heap.size e size v n vs → e ≠ 89 → w9.ownsRow W0.heap.size e size v n vs := fun h hT => owns_kp K17.out h (fun k e e2 => owns_ne_own h QN.out.nodes hT k e (by rw [e2]; rfl))
     refine ⟨hb7.trans (K17.out.below hb7.size (fun k e => by rw [e]; exact (owns_rd QN.out.nodes b1 rfl).1)), ⟨hS9.1, QN.out.low, owns_re (n := zs.length) (by have h := N17.out; rw [show (Value.slice (some ⟨b1, 0, none⟩) zs.length q1) = .slice (some ⟨b1, 0, none⟩) mn q1 by rw [HZL.out]] at h; exact h) (by simp) rfl, neq QN.out.edges (by decide), fun x hx => ?_⟩, ?_, ?_⟩
     ·rw [List.take_add_one, List.take_set_of_le (Nat.le_refl _), List.getElem?_set_self hjl] at hx
      rcases List.mem_append.1 hx with hx | hx
      ·exact ⟨neq (QN.out.each x hx).1 (by decide), neq (QN.out.each x hx).2 (by decide)⟩
      ·simp at hx
       subst hx
       exact ⟨neq O67.out (by decide), neq O7.out (by decide)⟩
     ·rw [List.map_set]
      have : (zs.map NV.n)[j]? = some y.n := by simp [HY.out.1]
      show (zs.map NV.n).set j y.n = _
      rw [set_same this]
      exact HI.out.2.2.1
     ·rw [List.drop_set_of_lt (by omega)]
      have h := congrArg List.tail HI.out.2.2.2
      rwa [List.tail_drop, List.tail_drop] at h
    refine hK.out _ _ (fun hD => hS9) ?_
    clear hK K
    try simp only [Act.put, List.setIfInBounds_toArray, List.set_cons_zero, List.set_cons_succ]
    refine wpAnyD_done (by kernel_rfl) ?_ _
    clear hS0 hS6 hS7 hS8 hS9
    go_wp2_with fail
    go_roundw
    case rel => exact ⟨j + 1, zs.set j ((y.withCode q31 m31 c31).withConns q34 m34 c34), by omega, by go_num, FIN.out⟩
    case measure => simp [RowKit.intOf]; omega
   ·have hltz : ¬ (j : Int) < (mn : Int) := by omega
    have HE : Hid (∀ y ∈ zs, wr.ownsRow W0.heap.size 138 2 y.cv y.n.code.length (fl EO y.n.code) ∧ wr.ownsRow W0.heap.size 92 5 y.dv y.n.conns.length (fl EC y.n.conns)) := fun y hy => HI.out.2.1.each y (by rw [List.take_of_length_le (by have := HZL.out; omega)]; exact hy)
    have hn2 := (HI.out.1.block _ (tk_lt N2.out)).trans N2.out
    have c2 := (tk_store hn2).1
    have f2 := (tk_store hn2).2
    have l2 := tk_lt hn2
    have c1 := (tk_store HI.out.2.1.blk).1
    have l1 := tk_lt HI.out.2.1.blk
    obtain ⟨qe, me, cee, hev9⟩ := owns_form HI.out.2.1.edges
    subst hev9
    have HN2 := hid hn2
    clear hn2
    go_wp2_with fail
    obtain ⟨wf, hwf⟩ : ∃ wf, wf = ((wr.setCell ⟨w.heap.size + 1, 0, none⟩ (.int .i64 a)).setCell ⟨w.heap.size + 1, 1, none⟩ (.slice qn mn cnn)).setCell ⟨w.heap.size + 1, 2, none⟩ (.slice qe me cee) := ⟨_, rfl⟩
    rw [← hwf]
    obtain ⟨hbf, hkf⟩ : wf.heap[w.heap.size + 1]? = some (.cells #[.int .i64 a, .slice qn mn cnn, .slice qe me cee] 25 (0, 0)) ∧ Kp (fun k => k = w.heap.size + 1) wr wf := by
     rw [hwf]
     exact fill3 HN2.out _ _ _
    clear hwf c1 c2 l1 l2 f2
    obtain ⟨qf, -⟩ := tk_store hbf
    have hlf := tk_lt hbf
    refine bodyPost_ret (v := .agg #[.int .i64 a, .slice qn mn cnn, .slice qe me cee]) (by simp [results, Tryz.results54, go_sem, qf]) rfl ?_
    have hlo := tk_lt N2.out
    have hbw := B0.out.trans (HI.out.1.mono B0.out.size)
    have hC : Cg W0.heap.size wr (.slice qn mn cnn) (.slice qe me cee) zs es := ⟨HI.out.2.1.nodes, HI.out.2.1.edges, HE.out⟩
    exact ⟨_, _, zs, rfl, hbw.trans (hkf.below hbw.size (fun k e => by omega)), HI.out.2.2.1, (hC.kp hkf (fun k h1 h2 e => by omega)).base B0.out.size⟩
end Go.Proofs.YtdnnfgabdkkdjaaGreat.Df
