import Derived.Test.YtaaobchodbnkpaaQuBk
namespace Go.Proofs.Ytaaobchodbnkpaa.Qe
open Go.RowKit Go.Sort
attribute [local go_sem ↓] Go.wp_at_zero Go.wp_at_succ

/-- 'append(own, x)' of one element of several cells, any type. -/
theorem wpAppV {w : World} {ops : Array Oper} {rest : List Oper} {o : Oper} {a : Act} {Q : Exit → Act → World → Prop} (hgd : o.guard = none) (s x : Operand) (t e : TypeId)
    (ho : o.op = .call { callee := .builtin .append, args := #[s, x], argTypes := #[t, t] }) (hu : Try.prog.underlying t = some (.slice e)) {z : Value} {sz bt : Nat} (hI : (Try.prog.info? e).map (fun i => (i.zero, i.size, i.bytes)) = some (some z, sz, bt)) (hzs : z.cells.size = sz) (hsz : 0 < sz)
    (v : Value) (n : Nat) (xs : List Value) (hs : a.eval s = v) (hown : w.ownsRow 0 e sz v n xs) (cs : Array Value) (k : Nat) (hk0 : 0 < k) (hcs : cs.toList.length = k * sz) (h1 : ∀ u ∈ cs.toList, u.oneCell' = true)
    (hx : a.eval x = .slice (some ⟨w.heap.size, 0, none⟩) k k) (hbig : (n + k) * bt ≤ 140737488355328) (hmx : n + k ≤ maxLen) (te : TypeId)
    (h : ∀ g cap w', w'.ownsRow 0 e sz (.slice (some ⟨g, 0, none⟩) (n + k) cap) (n + k) (xs ++ cs.toList) → Kp (fun q => v.ownBlock = some q) w w' → (v.ownBlock = some g ∨ w.heap.size ≤ g) → wpList Try.prog ops Q rest (a.put o.dst (.slice (some ⟨g, 0, none⟩) (n + k) cap)) w') :
    wpList Try.prog ops Q (o :: rest) a (w.alloc (.cells cs te)) := by
  obtain ⟨i0, hi, hz0, hz1, hz2⟩ := info_parts hI
  refine wpList_append_lies _ hgd s x _ ho 0 e i0 _ sz bt hu hi hz0 hz1 hz2 hzs hsz v n xs hs (hown.alloc _) ⟨w.heap.size, 0, none⟩ k k cs.toList hx hcs (World.news_of_block (heap_new' w (.cells cs te))) h1 hk0 hmx hbig (Nat.zero_le _) _ rfl ?_
  intro g cap w' h1 h2 h3 _
  refine h g cap w' h1 ⟨h2.os, h2.tape, h2.output, Nat.le_trans (by simp) h2.size, fun k hk hne => (h2.block k (by simp; omega) (fun e => hne e.symm)).trans ((World.grownBy_alloc w _ none).block k hk (by simp))⟩ ?_
  rcases h3 with h3 | h3
  · exact Or.inl h3
  · right; rw [h3]; simp
theorem own_one {g g7 n c : Nat} (h : (Value.slice (some ⟨g7, 0, none⟩) n c).ownBlock = some g) : g = g7 := by simpa [Value.ownBlock] using h.symm
/-- What a step leaves: both queues, and the book with at most mT and mD lists, none longer than K. -/
def Ab (w : World) (tag : Nat → Nat) (a b qb rb N K kb mT mD : Nat) (w' : World) : Prop :=
  ∃ tag' Q' L' nT nD sT sU sD sX VT VU VD VX CT CD, Pr w' tag' a b qb rb N K Q' L' ∧ Bo w' tag' kb nT nT nD nD sT sU sD sX VT VU VD VX CT CT CD CD ∧ nT ≤ mT ∧ nD ≤ mD ∧ (∀ i, i < nT → (CT i).length ≤ K) ∧ (∀ i, i < nD → (CD i).length ≤ K) ∧ Nx (fun k => k = a ∨ k = b ∨ k = 3 ∨ (15 ≤ k ∧ k < 19)) tag tag' w w'
end Go.Proofs.Ytaaobchodbnkpaa.Qe
