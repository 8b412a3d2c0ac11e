import Derived.Test.YtifjjnnpoleinaaGTy
import Derived.WalkKit
import Derived.WalkSpells
import Derived.Deep.DrawnRows
import Derived.Deep.DeepCutAuto
import Derived.Deep.LoopGhost
import Derived.Deep.QuietTactic
import Derived.BigQuiet
import Derived.Shelf.SlSortCmp.QuietGrown
import Derived.Deep.RegionLaw
import Derived.Deep.RegionWith
import Derived.Test.YtifjjnnpoleinaaLHold2
import Derived.Test.YtifjjnnpoleinaaLStep2
namespace Go.Proofs.Ytifjjnnpoleinaa.Df
open Go.RowKit Go.Sort

/-- A list with one more element in its spare room. -/
def Mk {α : Type} (E : El α) (T : TypeId) (W : World) (v : Value) (l : List α) (m : α) : Prop := ∃ g cap B, v = .slice (some ⟨g, 0, none⟩) l.length cap ∧ l.length + 1 ≤ cap ∧ W.ownsRow B T E.k (.slice (some ⟨g, 0, none⟩) (l.length + 1) cap) (l.length + 1) (fl E (l ++ [m]))
section
variable {α : Type} {E : El α} {T : TypeId} {W W' : World} {v : Value} {l : List α} {m : α}
theorem Mk.kp {S : Nat → Prop} (h : Mk E T W v l m) (hk : Kp S W W') (hS : ∀ k, v.ownBlock = some k → ¬ S k) : Mk E T W' v l m := by
  obtain ⟨g, cap, B, rfl, h2, h3⟩ := h
  exact ⟨g, cap, B, rfl, h2, owns_kp hk h3 (fun k e => hS k e)⟩
theorem Mk.below (h : Mk E T W v l m) (hb : Below W.heap.size W W') : Mk E T W' v l m := h.kp (S := fun _ => False) (Kp.of_below hb) (fun _ _ h => h)
theorem Mk.more (h : Mk E T W v l m) : ∃ g cap, v = .slice (some ⟨g, 0, none⟩) l.length cap ∧ l.length + 1 ≤ cap ∧ Ls E W (.slice (some ⟨g, 0, none⟩) (l.length + 1) cap) (l ++ [m]) := by
  obtain ⟨g, cap, B, rfl, h2, h3⟩ := h
  have h4 := owns_ls (E := E) (ts := l ++ [m]) (owns_re h3 (by simp) rfl)
  exact ⟨g, cap, rfl, h2, h4⟩
theorem Mk.ls (h : Mk E T W v l m) : Ls E W v l := by
  obtain ⟨g, cap, rfl, h2, h3⟩ := h.more
  have h4 := h3.cut (k := l.length) (by simp) cap
  rw [List.take_left] at h4
  exact h4
theorem Mk.lz (h : Mk E T W v l m) : Lz E W.heap.size W v l := Or.inl ⟨h.ls, h.ls.blk⟩
/-- Out of an owned row, one longer. -/
theorem mk_of {base : Nat} {u : Value} (h : W.ownsRow base T E.k u (l.length + 1) (fl E (l ++ [m]))) : ∃ g cap, u = .slice (some ⟨g, 0, none⟩) (l.length + 1) cap ∧ l.length + 1 ≤ cap ∧ Mk E T W (.slice (some ⟨g, 0, none⟩) l.length cap) l m := by
  rcases h.2 with ⟨_, h0⟩ | ⟨g, cap, cur, hv, _, _, hc, _, _⟩
  · omega
  · rw [hv] at h
    exact ⟨g, cap, hv, hc, g, cap, base, rfl, hc, h⟩
end
abbrev mO : Opd := ⟨777, 0⟩
abbrev mC : Con := ⟨777, 0, (0, 0, 0)⟩
abbrev mV : NV := ⟨⟨777, 0, 0, [], (0, 0, 0), 0, [], false⟩, none, 0, 0, none, 0, 0⟩
abbrev mD : Edg := ⟨777, 0, 0, 0, false⟩
/-- What stands while a graph is laid anew with room: the graph, the result's place, the new one, its nodes so far. -/
structure Rm (w W : World) (gv cv : Array Value) (u : Value) (xs : List NV) : Prop where
  bl : Below w.heap.size w W
  h1 : W.heap[w.heap.size]? = some (.cells gv 25 (0, 0))
  h2 : W.heap[w.heap.size + 1]? = some (.cells (gvc 0 (.slice none 0 0) (.slice none 0 0)) 25 (0, 0))
  h3 : W.heap[w.heap.size + 2]? = some (.cells cv 25 (0, 0))
  row : W.ownsRow (w.heap.size + 3) 68 10 u xs.length (fl EV xs)
  each : ∀ x ∈ xs, Mk EO 94 W x.cv x.n.code mO ∧ Mk EC 97 W x.dv x.n.conns mC
  ne : ∀ x ∈ xs, ∀ k, u.ownBlock = some k → x.cv.ownBlock ≠ some k ∧ x.dv.ownBlock ≠ some k
  lo : ∀ x ∈ xs, (∀ k, x.cv.ownBlock = some k → w.heap.size + 3 ≤ k) ∧ ∀ k, x.dv.ownBlock = some k → w.heap.size + 3 ≤ k
section
variable {w W W' : World} {gv cv : Array Value} {u : Value} {xs : List NV}
theorem Rm.kp {S : Nat → Prop} (h : Rm w W gv cv u xs) (hk : Kp S W W') (hS : ∀ k, S k → W.heap.size ≤ k) : Rm w W' gv cv u xs := by
  have hf : Below W.heap.size W W' := hk.below (Nat.le_refl _) hS
  exact ⟨h.bl.trans (hf.mono h.bl.size), (hf.block _ (tk_lt h.h1)).trans h.h1, (hf.block _ (tk_lt h.h2)).trans h.h2, (hf.block _ (tk_lt h.h3)).trans h.h3, owns_below h.row hf, fun x hx => ⟨(h.each x hx).1.below hf, (h.each x hx).2.below hf⟩, h.ne, h.lo⟩
theorem Rm.below (h : Rm w W gv cv u xs) (hf : Below W.heap.size W W') : Rm w W' gv cv u xs := h.kp (S := fun _ => False) (Kp.of_below hf) (fun _ h => h.elim)
theorem Rm.facts (h : Rm w W gv cv u xs) : (∀ i, W.cell? ⟨w.heap.size, i, none⟩ = gv[i]?) ∧ ((∀ i, W.cell? ⟨w.heap.size + 2, i, none⟩ = cv[i]?) ∧ (∀ i, W.frozen? ⟨w.heap.size + 2, i, none⟩ = false)) ∧ w.heap.size < W.heap.size ∧ w.heap.size + 1 < W.heap.size ∧ w.heap.size + 2 < W.heap.size :=
  ⟨(tk_store h.h1).1, ⟨(tk_store h.h3).1, (tk_store h.h3).2⟩, tk_lt h.h1, tk_lt h.h2, tk_lt h.h3⟩
/-- One more node: its lists lie behind W, the row has grown behind W1. -/
theorem Rm.more {W1 W2 : World} {x : NV} {g c : Nat} (h : Rm w W gv cv u xs) (hb : Below W.heap.size W W1) (hx : Mk EO 94 W1 x.cv x.n.code mO ∧ Mk EC 97 W1 x.dv x.n.conns mC) (hn : (∀ k, x.cv.ownBlock = some k → W.heap.size ≤ k) ∧ ∀ k, x.dv.ownBlock = some k → W.heap.size ≤ k)
    (h1 : W2.ownsRow (w.heap.size + 3) 68 10 (.slice (some ⟨g, 0, none⟩) (xs.length + 1) c) (xs.length + 1) (fl EV xs ++ EV.enc x)) (h2 : W1.grownBy W2 u.ownBlock) (h3 : u.ownBlock = some g ∨ W1.heap.size ≤ g) :
    Rm w W2 gv cv (.slice (some ⟨g, 0, none⟩) (xs.length + 1) c) (xs ++ [x]) := by
  have hk2 : Kp (fun k => u.ownBlock = some k) W1 W2 := Kp.grownBy h2 (fun _ h => h)
  have hu := fun k hk => owns_rd h.row k hk
  have hA := h.below hb
  have hlt := hb.size
  refine ⟨hA.bl.trans (hk2.below hA.bl.size (fun k hk => by have := (hu k hk).1; omega)), (hk2.block _ (tk_lt hA.h1) (fun e => by have := (hu _ e).1; omega)).trans hA.h1, (hk2.block _ (tk_lt hA.h2) (fun e => by have := (hu _ e).1; omega)).trans hA.h2, (hk2.block _ (tk_lt hA.h3) (fun e => by have := (hu _ e).1; omega)).trans hA.h3, owns_re h1 (by simp) (by rw [fl_append, fl_one]), fun y hy => ?_, fun y hy k hk => ?_, fun y hy => ?_⟩
  · rcases List.mem_append.1 hy with hy | hy
    · exact ⟨(hA.each y hy).1.kp hk2 (fun k e e2 => (h.ne y hy k e2).1 e), (hA.each y hy).2.kp hk2 (fun k e e2 => (h.ne y hy k e2).2 e)⟩
    · rw [List.mem_singleton] at hy
      subst hy
      exact ⟨hx.1.kp hk2 (fun k e e2 => by have := hn.1 k e; have := (hu k e2).2; omega), hx.2.kp hk2 (fun k e e2 => by have := hn.2 k e; have := (hu k e2).2; omega)⟩
  · have hgk : g = k := by simpa [Value.ownBlock] using hk
    subst hgk
    rcases List.mem_append.1 hy with hy | hy
    · rcases h3 with h3 | h3
      · exact h.ne y hy g h3
      · have l1 := fun e => (hA.each y hy).1.ls.blk g e
        have l2 := fun e => (hA.each y hy).2.ls.blk g e
        exact ⟨fun e => by have := l1 e; omega, fun e => by have := l2 e; omega⟩
    · rw [List.mem_singleton] at hy
      subst hy
      rcases h3 with h3 | h3
      · have := (hu g h3).2
        exact ⟨fun e => by have := hn.1 g e; omega, fun e => by have := hn.2 g e; omega⟩
      · have l1 := fun e => hx.1.ls.blk g e
        have l2 := fun e => hx.2.ls.blk g e
        exact ⟨fun e => by have := l1 e; omega, fun e => by have := l2 e; omega⟩
  · rcases List.mem_append.1 hy with hy | hy
    · exact h.lo y hy
    · rw [List.mem_singleton] at hy
      subst hy
      have := tk_lt h.h3
      exact ⟨fun k e => by have := hn.1 k e; omega, fun k e => by have := hn.2 k e; omega⟩
/-- The new graph's block is written. -/
theorem Rm.set (h : Rm w W gv cv u xs) (i : Nat) (x : Value) : Rm w (W.setCell ⟨w.heap.size + 2, i, none⟩ x) gv (cv.setIfInBounds i x) u xs := by
  obtain ⟨s1, s2⟩ := tk_set h.h3 i x
  have hu := fun k hk => owns_rd h.row k hk
  have hz := h.bl.size
  refine ⟨h.bl.trans (s2.below hz (fun k e => by omega)), (s2.block _ (tk_lt h.h1) (by omega)).trans h.h1, (s2.block _ (tk_lt h.h2) (by omega)).trans h.h2, s1, owns_kp s2 h.row (fun k hk e => by have := (hu k hk).1; omega), fun y hy => ⟨(h.each y hy).1.kp s2 (fun k e e2 => by have := (h.lo y hy).1 k e; omega), (h.each y hy).2.kp s2 (fun k e e2 => by have := (h.lo y hy).2 k e; omega)⟩, h.ne, h.lo⟩
end
end Go.Proofs.Ytifjjnnpoleinaa.Df
