import Derived.Test.YtghpekkncfckaaaLRow
import Derived.Laws.AppendOwnNone
namespace Go.Proofs.Ytghpekkncfckaaa
open Go.RowKit Go.Sort

/-- 'append(own, x)' as a step of a region that draws: x lies in the newest block; any element. -/
theorem step_app1 {P : Program} {α : Type} (E : El α) {e sT : TypeId} {z : Value} {bt : Nat} (hu : P.underlying sT = some (.slice e)) (hI : (P.info? e).map (fun i => (i.zero, i.size, i.bytes)) = some (some z, E.k, bt)) (hz : z.cells.size = E.k) (hk : 0 < E.k)
    {w : World} {ops : Array Oper} {o : Oper} {a : Act} {K : Act → World → Prop} {Q : Exit → Act → World → Prop} {X : Prop} (hgd : o.guard = none) (s x : Operand)
    (ho : o.op = .call { callee := .builtin .append, args := #[s, x], argTypes := #[sT, sT] })
    (base : Nat) (v : Value) (n : Nat) (xs : List Value) (hs : a.eval s = v) (hown : w.ownsRow base e E.k v n xs)
    (t : α) (hx : a.eval x = .slice (some ⟨w.heap.size, 0, none⟩) 1 1) (hbig : (n + 1) * bt ≤ 140737488355328) (hmx : n + 1 ≤ maxLen) (hbase : base ≤ w.heap.size)
    (cs : Array Value) (hcs : cs.toList = E.enc t) (te : TypeId)
    (h : ∀ g cap w', Hid (w'.ownsRow base e E.k (.slice (some ⟨g, 0, none⟩) (n + 1) cap) (n + 1) (xs ++ E.enc t)) → Hid (w.grownBy w' v.ownBlock) → Hid (v.ownBlock = some g ∨ w.heap.size ≤ g) → K (a.put o.dst (.slice (some ⟨g, 0, none⟩) (n + 1) cap)) w') :
    if Region.wanted o (yielded ops a.tmps) = true then Oper.wp P o a (w.alloc (.cells cs te)) K Q else X := by
  obtain ⟨i0, hi, hz0, hz1, hz2⟩ := info_parts hI
  refine step_append_lies _ hgd s x _ ho base e i0 _ E.k bt hu hi hz0 hz1 hz2 hz hk v n xs hs (hown.alloc _) ⟨w.heap.size, 0, none⟩ 1 1 (E.enc t) hx (by rw [E.len, Nat.one_mul]) (by have := World.news_of_block (heap_new' w (.cells cs te)); rw [hcs] at this; exact this) (E.one t) (by decide) hmx hbig (by simp; omega) _ rfl ?_
  intro g cap w' h1 h2 h3 _
  refine h g cap w' h1 ⟨h2.os, h2.tape, h2.output, Nat.le_trans (by simp) h2.size, fun k hk hne => (h2.block k (by simp; omega) hne).trans ((World.grownBy_alloc w _ none).block k hk (by simp))⟩ ?_
  rcases h3 with h3 | h3
  · exact Or.inl h3
  · exact Or.inr (by rw [h3]; simp)
end Go.Proofs.Ytghpekkncfckaaa
