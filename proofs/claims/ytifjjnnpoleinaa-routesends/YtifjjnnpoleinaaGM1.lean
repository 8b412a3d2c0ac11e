import Derived.Test.YtifjjnnpoleinaaGM0
namespace Go.Proofs.Ytifjjnnpoleinaa.Df
open Go.RowKit Go.Sort

theorem append_none_cap {P : Program} (w : World) (t ty : TypeId) (v : Value) (c : Nat) : (Builtin.append_ #[t, t] ty #[v, .slice none 0 c]).run P w = (Builtin.append_ #[t, t] ty #[v, .slice none 0 0]).run P w := rfl
/-- 'append(own, l...)' as a step of a region that draws; l may be an empty list that lies anywhere. -/
theorem step_appZ {P : Program} {α : Type} (E : El α) {e sT : TypeId} {z : Value} {bt : Nat} (hu : P.underlying sT = some (.slice e)) (hI : (P.info? e).map (fun i => (i.zero, i.size, i.bytes)) = some (some z, E.k, bt)) (hz : z.cells.size = E.k) (hk : 0 < E.k)
    {w : World} {ops : Array Oper} {o : Oper} {a : Act} {K : Act → World → Prop} {Q : Exit → Act → World → Prop} {X : Prop} (hgd : o.guard = none) (s x : Operand)
    (ho : o.op = .call { callee := .builtin .append, args := #[s, x], argTypes := #[sT, sT] })
    (base : Nat) (v0 : Value) (n : Nat) (xs : List Value) (hs : a.eval s = v0) (hown : w.ownsRow base e E.k v0 n xs) (hbase : base ≤ w.heap.size) (M : Nat) (v1 : Value) (ts : List α) (hx : a.eval x = v1) (hv : Lz E M w v1 ts) (hbig : (n + ts.length) * bt ≤ 140737488355328) (hmx : n + ts.length ≤ maxLen)
    (h : ∀ v' w', Hid (w'.ownsRow base e E.k v' (n + ts.length) (xs ++ fl E ts)) → Hid (w.grownBy w' v0.ownBlock) → K (a.put o.dst v') w') :
    if Region.wanted o (yielded ops a.tmps) = true then Oper.wp P o a w K Q else X := by
  rcases hv with ⟨hv, _⟩ | ⟨rfl, p, c, rfl⟩
  · exact step_appL E hu hI hz hk hgd s x ho base v0 n xs hs hown hbase v1 ts hx hv hbig hmx h
  · have hw : Region.wanted o (yielded ops a.tmps) = true := by simp [Region.wanted, hgd]
    rw [if_pos hw]
    obtain ⟨i0, hi, hz0, hz1, hz2⟩ := info_parts hI
    cases p with
    | none =>
      have hrun := run_append_owned_none (P := P) (w := w) base sT o.type e i0 E.k hu hi v0 n xs hown
      rw [← append_none_cap (P := P) w sT o.type v0 c] at hrun
      unfold Oper.wp
      simp [execOp, ho, resolve, invoke, builtin, hs, hx, hrun, Result.andThen]
      exact h _ _ (show _ from by have h5 : w.ownsRow base e E.k v0 (n + ([] : List α).length) (xs ++ fl E []) := (by simpa [fl] using hown); exact h5) ⟨rfl, rfl, rfl, Nat.le_refl _, fun _ _ _ => rfl⟩
    | some b =>
      obtain ⟨v', w', hr, h2, h3, _, _⟩ := run_append_own_at (P := P) w base sT o.type e i0 _ E.k bt hu hi hz0 hz1 hz2 hz hk v0 n xs hown b 0 c [] (by simp) (fun j u hj => by simp at hj) (fun u hu => by cases hu) hmx hbig hbase
      unfold Oper.wp execOp
      simp only [ho, resolve, invoke, builtin, Sem.run_bind, Sem.run_pure, Result.andThen_ok, List.map_toArray, List.map_cons, List.map_nil, hs, hx, hr]
      exact h v' w' h2 h3
/-- One element that lies in a block of its own. -/
theorem one_ls {α : Type} {E : El α} {w : World} {b : Nat} {cs : Array Value} {t : TypeId} {x : α} (h : w.heap[b]? = some (.cells cs t (0, 0))) (hx : cs.toList = E.enc x) : Ls E w (.slice (some ⟨b, 0, none⟩) 1 1) [x] := by
  refine Or.inr ⟨b, 0, 1, rfl, (Array.getElem?_eq_some_iff.1 h).1, fun j u hj => ?_⟩
  have h1 := (tk_store h).1 j
  rw [Nat.zero_add, h1, ← hj]
  simp [fl, ← hx]
/-- The new graph, its nodes' list with its mark. -/
structure Rz (w W : World) (gv cv : Array Value) (nv : Value) (ys : List NV) : Prop where
  bl : Below w.heap.size w W
  h1 : W.heap[w.heap.size]? = some (.cells gv 25 (0, 0))
  h2 : W.heap[w.heap.size + 1]? = some (.cells (gvc 0 (.slice none 0 0) (.slice none 0 0)) 25 (0, 0))
  h3 : W.heap[w.heap.size + 2]? = some (.cells cv 25 (0, 0))
  nds : Mk EV 68 W nv ys mV
  each : ∀ x ∈ ys, Mk EO 94 W x.cv x.n.code mO ∧ Mk EC 97 W x.dv x.n.conns mC
  lo : (∀ k, nv.ownBlock = some k → w.heap.size + 3 ≤ k) ∧ ∀ x ∈ ys, (∀ k, x.cv.ownBlock = some k → w.heap.size + 3 ≤ k) ∧ ∀ k, x.dv.ownBlock = some k → w.heap.size + 3 ≤ k
section
variable {w W W' : World} {gv cv : Array Value} {nv : Value} {ys : List NV}
theorem Rz.below (h : Rz w W gv cv nv ys) (hf : Below W.heap.size W W') : Rz w W' gv cv nv ys := by
  exact ⟨h.bl.trans (hf.mono h.bl.size), (hf.block _ (tk_lt h.h1)).trans h.h1, (hf.block _ (tk_lt h.h2)).trans h.h2, (hf.block _ (tk_lt h.h3)).trans h.h3, h.nds.below hf, fun x hx => ⟨(h.each x hx).1.below hf, (h.each x hx).2.below hf⟩, h.lo⟩
theorem Rz.set (h : Rz w W gv cv nv ys) (i : Nat) (x : Value) : Rz w (W.setCell ⟨w.heap.size + 2, i, none⟩ x) gv (cv.setIfInBounds i x) nv ys := by
  obtain ⟨s1, s2⟩ := tk_set h.h3 i x
  have hz := h.bl.size
  exact ⟨h.bl.trans (s2.below hz (fun k e => by omega)), (s2.block _ (tk_lt h.h1) (by omega)).trans h.h1, (s2.block _ (tk_lt h.h2) (by omega)).trans h.h2, s1, h.nds.kp s2 (fun k e e2 => by have := h.lo.1 k e; omega), fun y hy => ⟨(h.each y hy).1.kp s2 (fun k e e2 => by have := (h.lo.2 y hy).1 k e; omega), (h.each y hy).2.kp s2 (fun k e e2 => by have := (h.lo.2 y hy).2 k e; omega)⟩, h.lo⟩
/-- The row of nodes has grown by its mark. -/
theorem Rm.mark {u : Value} {W1 W2 : World} {v : Value} (h : Rm w W gv cv u ys) (hb : Below W.heap.size W W1) (h1 : W2.ownsRow (w.heap.size + 3) 68 10 v (ys.length + 1) (fl EV (ys ++ [mV]))) (h2 : W1.grownBy W2 u.ownBlock):
    ∃ g cap, v = .slice (some ⟨g, 0, none⟩) (ys.length + 1) cap ∧ ys.length + 1 ≤ cap ∧ Rz w W2 gv cv (.slice (some ⟨g, 0, none⟩) ys.length cap) ys := by
  obtain ⟨g, cap, hv, hc, hm⟩ := mk_of h1
  have hk2 : Kp (fun k => u.ownBlock = some k) W1 W2 := Kp.grownBy h2 (fun _ h => h)
  have hu := fun k hk => owns_rd h.row k hk
  have hA := h.below hb
  refine ⟨g, cap, hv, hc, hA.bl.trans (hk2.below hA.bl.size (fun k hk => by have := (hu k hk).1; omega)), (hk2.block _ (tk_lt hA.h1) (fun e => by have := (hu _ e).1; omega)).trans hA.h1, (hk2.block _ (tk_lt hA.h2) (fun e => by have := (hu _ e).1; omega)).trans hA.h2, (hk2.block _ (tk_lt hA.h3) (fun e => by have := (hu _ e).1; omega)).trans hA.h3, hm, fun y hy => ⟨(hA.each y hy).1.kp hk2 (fun k e e2 => (h.ne y hy k e2).1 e), (hA.each y hy).2.kp hk2 (fun k e e2 => (h.ne y hy k e2).2 e)⟩, fun k hk => ?_, h.lo⟩
  have h4 : v.ownBlock = some k := by rw [hv]; exact hk
  exact (owns_rd h1 k h4).1
end
end Go.Proofs.Ytifjjnnpoleinaa.Df
