import Derived.Test.YtdiecnacbkpceaaGCopd
import Derived.Laws.AppendOwn
import Derived.Tactics
namespace Go.Proofs.Ytdiecnacbkpceaa.Df
open Go.RowKit Go.Sort

/-- Only such blocks have changed, and each is of its kind and size still. -/
structure Sb (S : Nat → Prop) (w w' : World) : Prop where
  kp : Kp S w w'
  kin : ∀ (k : Nat) (cur : Array Value) (T : TypeId), w.heap[k]? = some (.cells cur T (0, 0)) → ∃ cur', w'.heap[k]? = some (.cells cur' T (0, 0)) ∧ cur'.size = cur.size
theorem Sb.refl (S : Nat → Prop) (w : World) : Sb S w w := ⟨Kp.refl _ _, fun _ cur _ h => ⟨cur, h, rfl⟩⟩
theorem Sb.mono {S T : Nat → Prop} {w w' : World} (h : Sb S w w') (hT : ∀ k, S k → T k) : Sb T w w' := ⟨h.kp.mono hT, h.kin⟩
theorem Sb.trans {S : Nat → Prop} {a b c : World} (h : Sb S a b) (k : Sb S b c) : Sb S a c := by
  refine ⟨h.kp.trans k.kp (fun _ _ h => h), fun i cur T hi => ?_⟩
  obtain ⟨c1, h1, e1⟩ := h.kin i cur T hi
  obtain ⟨c2, h2, e2⟩ := k.kin i c1 T h1
  exact ⟨c2, h2, e2.trans e1⟩
theorem Sb.of_below {S : Nat → Prop} {w w' : World} (h : Below w.heap.size w w') : Sb S w w' := ⟨Kp.of_below h, fun k cur _ hk => ⟨cur, (h.block k (tk_lt hk)).trans hk, rfl⟩⟩
theorem Sb.set {w : World} {b : Nat} {cs : Array Value} {t : TypeId} (h : w.heap[b]? = some (.cells cs t (0, 0))) (i : Nat) (x : Value) : Sb (fun k => k = b) w (w.setCell ⟨b, i, none⟩ x) := by
  obtain ⟨h1, h2⟩ := tk_set h i x
  refine ⟨h2, fun k cur T hk => ?_⟩
  by_cases e : k = b
  · subst e
    rw [h] at hk
    simp only [Option.some.injEq, Obj.cells.injEq, and_true] at hk
    obtain ⟨rfl, rfl⟩ := hk
    exact ⟨_, h1, by simp⟩
  · exact ⟨cur, (h2.block k (tk_lt hk) e).trans hk, rfl⟩
/-- Two, five cells of one block. -/
theorem Sb.set2 {w : World} {b : Nat} {cs : Array Value} {t : TypeId} (h : w.heap[b]? = some (.cells cs t (0, 0))) (i j : Nat) (x y : Value) : Sb (fun k => k = b) w ((w.setCell ⟨b, i, none⟩ x).setCell ⟨b, j, none⟩ y) :=
  (Sb.set h i x).trans (Sb.set (tk_set h i x).1 j y)
theorem Sb.set5 {w : World} {b : Nat} {cs : Array Value} {t : TypeId} (h : w.heap[b]? = some (.cells cs t (0, 0))) (i1 i2 i3 i4 i5 : Nat) (x1 x2 x3 x4 x5 : Value) : Sb (fun k => k = b) w (((((w.setCell ⟨b, i1, none⟩ x1).setCell ⟨b, i2, none⟩ x2).setCell ⟨b, i3, none⟩ x3).setCell ⟨b, i4, none⟩ x4).setCell ⟨b, i5, none⟩ x5) :=
  (Sb.set2 h i1 i2 x1 x2).trans ((Sb.set2 (tk_set (tk_set h i1 x1).1 i2 x2).1 i3 i4 x3 x4).trans (Sb.set (tk_set (tk_set (tk_set (tk_set h i1 x1).1 i2 x2).1 i3 x3).1 i4 x4).1 i5 x5))
theorem Sb.row {S : Nat → Prop} {w w' : World} (h : Sb S w w') {B : Nat} {T : TypeId} {sz n : Nat} {v : Value} {xs : List Value} (ho : w.ownsRow B T sz v n xs) : ∃ xs', w'.ownsRow B T sz v n xs' := by
  rcases ho.2 with ⟨h0, h1⟩ | ⟨g, cap, cur, hv, hg, hh, hn, hm, hs, ht⟩
  · exact ⟨xs, ho.1, Or.inl ⟨h0, h1⟩⟩
  · obtain ⟨c, hc, he⟩ := h.kin g cur T hh
    refine ⟨c.toList.take (n * sz), ?_, Or.inr ⟨g, cap, c, hv, hg, hc, hn, hm, by rw [he, hs], rfl⟩⟩
    rw [List.length_take, Array.length_toList, he, hs]
    exact Nat.min_eq_left (Nat.mul_le_mul_right _ hn)
/-- A list of the caller's own that may be written into. -/
def Ro (B M : Nat) (T : TypeId) (sz : Nat) (w : World) (v : Value) : Prop := ∃ n xs, n ≤ 1000 ∧ w.ownsRow B T sz v n xs ∧ ∀ k, v.ownBlock = some k → k < M
theorem Ro.sb {S : Nat → Prop} {B M : Nat} {T : TypeId} {sz : Nat} {w w' : World} {v : Value} (h : Ro B M T sz w v) (k : Sb S w w') : Ro B M T sz w' v := by
  obtain ⟨n, xs, h1, h2, h3⟩ := h
  obtain ⟨xs', h4⟩ := k.row h2
  exact ⟨n, xs', h1, h4, h3⟩
/-- One element of such a list. -/
theorem Ro.at {B M : Nat} {T : TypeId} {sz : Nat} {w : World} {q : Option Addr} {m c : Nat} (h : Ro B M T sz w (.slice q m c)) {k : Nat} (hk : k < m) : ∃ g cur, q = some ⟨g, 0, none⟩ ∧ B ≤ g ∧ g < M ∧ w.heap[g]? = some (.cells cur T (0, 0)) ∧ (k + 1) * sz ≤ cur.size ∧ m ≤ 1000 := by
  obtain ⟨n, xs, h1, ⟨_, h2⟩, h3⟩ := h
  rcases h2 with ⟨h0, _⟩ | ⟨g, cap, cur, hv, hg, hh, hn, hm, hs, ht⟩
  · simp only [Value.slice.injEq] at h0
    omega
  · simp only [Value.slice.injEq] at hv
    obtain ⟨rfl, rfl, rfl⟩ := hv
    refine ⟨g, cur, rfl, hg, h3 g rfl, hh, ?_, h1⟩
    rw [hs]
    exact Nat.mul_le_mul_right _ (by omega)
/-- A graph whose lists may be written into: blocks from B on, below M. -/
structure Sg (B M : Nat) (w : World) (nv ev : Value) (ys : List NV) : Prop where
  nodes : w.ownsRow B 39 10 nv ys.length (fl EV ys)
  nlow : ∀ k, nv.ownBlock = some k → k < M
  few : ys.length ≤ 1000
  edges : Ro B M 47 5 w ev
  each : ∀ y ∈ ys, Ro B M 72 2 w y.cv ∧ Ro B M 64 5 w y.dv
theorem Sg.below {B M : Nat} {w w' : World} {nv ev : Value} {ys : List NV} (h : Sg B M w nv ev ys) (hb : Below w.heap.size w w') : Sg B M w' nv ev ys :=
  ⟨owns_below h.nodes hb, h.nlow, h.few, h.edges.sb (Sb.of_below (S := fun _ => False) hb), fun y hy => ⟨(h.each y hy).1.sb (Sb.of_below (S := fun _ => False) hb), (h.each y hy).2.sb (Sb.of_below (S := fun _ => False) hb)⟩⟩
/-- A block of another kind has been written into. -/
theorem Sg.sb {B M b : Nat} {w w' : World} {nv ev : Value} {ys : List NV} {cur : Array Value} {T : TypeId} (h : Sg B M w nv ev ys) (hb : w.heap[b]? = some (.cells cur T (0, 0))) (hT : T ≠ 39) (k : Sb (fun k => k = b) w w') : Sg B M w' nv ev ys :=
  ⟨owns_kp k.kp h.nodes (fun j e e2 => by subst e2; exact owns_ne_blk h.nodes hb (fun e3 => hT e3.symm) _ e rfl), h.nlow, h.few, h.edges.sb k, fun y hy => ⟨(h.each y hy).1.sb k, (h.each y hy).2.sb k⟩⟩
theorem Sg.ap {B M B' n sz : Nat} {w w' : World} {nv ev v : Value} {ys : List NV} {xs : List Value} {T : TypeId} (h : Sg B M w nv ev ys) (hb : w.ownsRow B' T sz v n xs) (hT : T ≠ 39) (k : Sb (fun k => v.ownBlock = some k) w w') : Sg B M w' nv ev ys :=
  ⟨owns_kp k.kp h.nodes (fun j e e2 => owns_ne_own h.nodes hb (fun e3 => hT e3.symm) j e e2), h.nlow, h.few, h.edges.sb k, fun y hy => ⟨(h.each y hy).1.sb k, (h.each y hy).2.sb k⟩⟩
def NV.withKind (y : NV) (k : Int) : NV := { y with n := { y.n with kind := k } }
theorem Sg.kind {B M i g m c : Nat} {w : World} {ev : Value} {ys : List NV} {y : NV} (h : Sg B M w (.slice (some ⟨g, 0, none⟩) m c) ev ys) (hy : ys[i]? = some y) (k : Int) : Sg B M (w.setCell ⟨g, i * 10, none⟩ (.int .i64 k)) (.slice (some ⟨g, 0, none⟩) m c) ev (ys.set i (y.withKind k)) ∧ Sb (fun k => k = g) w (w.setCell ⟨g, i * 10, none⟩ (.int .i64 k)) := by
  have hm := (owns_caps h.nodes _ _ _ rfl).1
  subst hm
  obtain ⟨h1, h2⟩ := owns_one h.nodes (i * 10) (.int .i64 k)
  have hs : Sb (fun k => k = g) w (w.setCell ⟨g, i * 10, none⟩ (.int .i64 k)) := by
    rcases h.nodes.2 with ⟨h0, _⟩ | ⟨g', cap, cur, hv, hg, hh, _⟩
    · cases h0
    · simp only [Value.slice.injEq, Option.some.injEq, Addr.mk.injEq] at hv
      obtain ⟨⟨rfl, -, -⟩, -, rfl⟩ := hv
      exact Sb.set hh _ _
  refine ⟨⟨owns_re h1 (by simp) (fl_setV ys i 0 y _ _ hy (by decide) rfl), h.nlow, by simpa using h.few, h.edges.sb hs, fun z hz => ?_⟩, hs⟩
  rcases List.mem_or_eq_of_mem_set hz with hz | rfl
  · exact ⟨(h.each z hz).1.sb hs, (h.each z hz).2.sb hs⟩
  · exact ⟨(h.each y (List.mem_of_getElem? hy)).1.sb hs, (h.each y (List.mem_of_getElem? hy)).2.sb hs⟩
/-- 'append' onto an owned row: what it changes. -/
theorem run_append_sb {P : Program} (w : World) (base : Nat) (t ty e : TypeId) (i : TypeInfo) (z : Value) (ht : P.underlying t = some (.slice e)) (hi : P.info? e = some i) (hz : i.zero = some z) (v : Value) (n : Nat) (xs : List Value) (hown : w.ownsRow base e i.size v n xs)
    (a : Addr) (m c : Nat) (news : List Value) (hl : news.length = m * i.size) (hnews : ∀ j u, news[j]? = some u → w.cell? (a.add j) = some u) (h1 : ∀ u ∈ news, u.oneCell' = true) (hm : 0 < m)
    (h63 : n + m ≤ maxLen) (hbytes : (n + m) * i.bytes ≤ 140737488355328) :
    ∃ v' w', (Builtin.append_ #[t, t] ty #[v, .slice (some a) m c]).run P w = .ok v' w' ∧ Sb (fun k => v.ownBlock = some k) w w' ∧ w'.ownsRow base e i.size v n xs := by
  have hsmall : n + m ≤ 9223372036854775807 := by simp only [maxLen] at h63; omega
  have new : ∀ (S : Nat → Prop) (o : Obj), Sb S w (w.drew.alloc o) := fun S o => Sb.of_below ((Gr.refl w).drew.alloc o).below
  rcases hown.2 with ⟨rfl, rfl⟩ | ⟨g, cap, cur, rfl, hbg, hg, hnc, hcm, hcs, htake⟩
  · have hr := run_append_nil (P := P) w t ty e i z ht hi hz a m c news hl hnews (by omega) (by omega) (by have hb := hbytes; simp only [Nat.zero_add] at hb; omega)
    exact ⟨_, _, hr, new _ _, owns_below hown ((Gr.refl w).drew.alloc _).below⟩
  · by_cases hroom : n + m ≤ cap
    · have hfit : n * i.size + news.length ≤ cur.size := by rw [hl, hcs, ← Nat.add_mul]; exact Nat.mul_le_mul_right _ hroom
      have hr := run_append_room (P := P) w t ty e i ht hi g n cap cur hg a m c news hl hnews h1 hroom hfit
      refine ⟨_, _, hr, ⟨⟨rfl, rfl, rfl, by simp, fun k _ hk => setRow_other w g k _ (fun e => hk (by simp [Value.ownBlock, e]))⟩, fun k cu T hk => ?_⟩, hown.1, Or.inr ⟨g, cap, _, rfl, hbg, setRow_heap w g cur _ e _ hg, hnc, hcm, ?_, ?_⟩⟩
      rotate_left
      · simp only [List.size_toArray, List.length_append, List.length_take, List.length_drop, Array.length_toList]
        omega
      · rw [List.append_assoc, List.take_append_of_le_length (by rw [List.length_take, Array.length_toList]; omega), List.take_take, Nat.min_self]
        exact htake
      by_cases e2 : k = g
      · subst e2
        rw [hg] at hk
        simp only [Option.some.injEq, Obj.cells.injEq, and_true] at hk
        obtain ⟨rfl, rfl⟩ := hk
        refine ⟨_, setRow_heap w k cur _ e _ hg, ?_⟩
        simp only [List.size_toArray, List.length_append, List.length_take, List.length_drop, Array.length_toList]
        omega
      · exact ⟨cu, (setRow_other w g k _ (fun e => e2 (by simp [e]))).trans hk, rfl⟩
    · have holds : ∀ j u, xs[j]? = some u → w.cell? ((⟨g, 0, none⟩ : Addr).add j) = some u := hown.cells (g := g) rfl
      have hr := run_append_grow (P := P) w t ty e i z ht hi hz ⟨g, 0, none⟩ n cap xs hown.1 holds a m c news hl hnews (by omega) (by omega) (growslice_fits (by omega) hbytes)
      exact ⟨_, _, hr, new _ _, owns_below hown ((Gr.refl w).drew.alloc _).below⟩
/-- At the walk: '_ = append(own, x, ..)'. -/
theorem wpAppS {P : Program} {ops : Array Oper} {rest : List Oper} {o : Oper} {a : Act} {Q : Exit → Act → World → Prop} {w : World} {e sT : TypeId} {z : Value} {sz bt : Nat} (hu : P.underlying sT = some (.slice e)) (hI : (P.info? e).map (fun i => (i.zero, i.size, i.bytes)) = some (some z, sz, bt))
    (hgd : o.guard = none) (s x : Operand) (ho : o.op = .call { callee := .builtin .append, args := #[s, x], argTypes := #[sT, sT] })
    (base : Nat) (v : Value) (n : Nat) (xs : List Value) (hs : a.eval s = v) (hown : w.ownsRow base e sz v n xs) (m : Nat) (hx : a.eval x = .slice (some ⟨w.heap.size, 0, none⟩) m m) (hm : 0 < m) (hbig : (n + m) * bt ≤ 140737488355328) (hmx : n + m ≤ maxLen)
    (cs : Array Value) (hl : cs.size = m * sz) (h1 : (cs.toList.all fun u => u.oneCell') = true) (te : TypeId)
    (h : ∀ v' w', Sb (fun k => v.ownBlock = some k) w w' → w'.ownsRow base e sz v n xs → wpList P ops Q rest (a.put o.dst v') w') :
    wpList P ops Q (o :: rest) a (w.alloc (.cells cs te)) := by
  obtain ⟨i0, hi, hz0, hz1, hz2⟩ := info_parts hI
  subst hz1
  subst hz2
  obtain ⟨v', w', hr, h2, h3⟩ := run_append_sb (P := P) (w.alloc (.cells cs te)) base sT o.type e i0 z hu hi hz0 v n xs (hown.alloc _) ⟨w.heap.size, 0, none⟩ m m cs.toList (by rw [Array.length_toList]; exact hl) (World.news_of_block (heap_new' w (.cells cs te))) (List.all_eq_true.1 h1) hm hmx hbig
  refine wpList_plain hgd fun K hK => ?_
  unfold Oper.wp execOp
  simp only [ho, resolve, invoke, builtin, Sem.run_bind, Sem.run_pure, Result.andThen_ok, List.map_toArray, List.map_cons, List.map_nil, hs, hx, hr]
  exact hK _ _ (h v' w' ((Sb.of_below ((Gr.refl w).alloc _).below).trans h2) h3)
end Go.Proofs.Ytdiecnacbkpceaa.Df
