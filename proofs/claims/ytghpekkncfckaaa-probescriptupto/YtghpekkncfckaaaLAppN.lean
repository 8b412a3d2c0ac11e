import Derived.Test.YtghpekkncfckaaaLRow
import Derived.Maps.AppendAt
namespace Go.Proofs.Ytghpekkncfckaaa
open Go.RowKit Go.Sort

section
variable {P : Program} {α : Type} (E : El α) {w : World} {ops : Array Oper} {rest : List Oper} {o : Oper} {a : Act} {Q : Exit → Act → World → Prop}
/-- 'append(own, l...)', with where the new row lies. -/
theorem wpAppLN {e sT : TypeId} {z : Value} {bt : Nat} (hu : P.underlying sT = some (.slice e)) (hI : (P.info? e).map (fun i => (i.zero, i.size, i.bytes)) = some (some z, E.k, bt)) (hz : z.cells.size = E.k) (hk : 0 < E.k)
    (hgd : o.guard = none) (s x : Operand) (ho : o.op = .call { callee := .builtin .append, args := #[s, x], argTypes := #[sT, sT] })
    (base : Nat) (v : Value) (n : Nat) (xs : List Value) (hs : a.eval s = v) (hown : w.ownsRow base e E.k v n xs)
    (v1 : Value) (ts : List α) (hx : a.eval x = v1) (hv : Ls E w v1 ts) (hbig : (n + ts.length) * bt ≤ 140737488355328) (hmx : n + ts.length ≤ maxLen) (hbase : base ≤ w.heap.size)
    (h : ∀ v' w', w'.ownsRow base e E.k v' (n + ts.length) (xs ++ fl E ts) → w.grownBy w' v.ownBlock → Hid (∀ g, v'.ownBlock = some g → v.ownBlock = some g ∨ w.heap.size ≤ g) → wpList P ops Q rest (a.put o.dst v') w') : wpList P ops Q (o :: rest) a w := by
  obtain ⟨i0, hi, hz0, hz1, hz2⟩ := info_parts hI
  rcases hv with ⟨rfl, rfl⟩ | ⟨b, off, c, rfl, hb, ht⟩
  · refine wpList_append_own_none hgd s x _ ho base e i0 E.k hu hi v n xs hs hown hx ?_
    exact h v w (by rw [fl_nil, List.append_nil]; exact hown) ⟨rfl, rfl, rfl, Nat.le_refl _, fun _ _ _ => rfl⟩ (fun g hg => Or.inl hg)
  · refine wpList_append_own_at _ hgd s x _ ho base e i0 _ E.k bt hu hi hz0 hz1 hz2 hz hk v n xs hs hown ⟨b, off, none⟩ ts.length c (fl E ts) hx (fl_length E ts) (fun j u hj => by rw [addA]; exact ht j u hj) (fl_oneCell E ts) hmx hbig hbase ?_
    intro v' w' h1 h2 _ h5
    refine h v' w' h1 h2 (fun g hg => ?_)
    rcases h5 with h5 | h5
    · exact Or.inl (by rw [← h5]; exact hg)
    · rw [h5] at hg
      cases hg
      exact Or.inr (Nat.le_refl _)
end
end Go.Proofs.Ytghpekkncfckaaa
