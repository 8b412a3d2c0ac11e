import Derived.Test.YtmhbpelbkeclpaaGreatDoorTimes
import Derived.Laws.AppendOwnNone
import Derived.Deep.AppendLies
namespace Go.Proofs.YtmhbpelbkeclpaaGreatDoor
open Go.RowKit Go.Shelf Go.Lib
open Go.Sort hiding Below

theorem below_dN {B : Nat} {a w : World} (h : Below B a w) (n : Nat) : Below B a (w.drewN n) := ⟨h.os, h.tape, h.output, h.size, h.block⟩
theorem heap_new (w : World) (o : Obj) : (w.alloc o).heap[w.heap.size]? = some o := by
  rw [show (w.alloc o).heap = w.heap.push o from rfl]
  simp

/-- 'append(own, l...)' where own is the call's own and l is a list of times, nil or not. -/
theorem wpList_append_lst {w : World} {ops : Array Oper} {rest : List Oper} {o : Oper} {a : Act} {Q : Exit → Act → World → Prop} (hgd : o.guard = none) (s x : Operand)
    (ho : o.op = .call { callee := .builtin .append, args := #[s, x], argTypes := #[22, 22] })
    (base : Nat) (v : Value) (n : Nat) (xs : List Value) (hs : a.eval s = v) (hown : w.ownsRow base 25 3 v n xs)
    (v1 : Value) (ts : List T3) (hx : a.eval x = v1) (hv : Lst w v1 ts) (hbig : (n + ts.length) * 24 ≤ 140737488355328) (hbase : base ≤ w.heap.size)
    (h : ∀ v' w', w'.ownsRow base 25 3 v' (n + ts.length) (xs ++ flat ts) → Below base w w' → wpList Tryz.prog ops Q rest (a.put o.dst v') w') : wpList Tryz.prog ops Q (o :: rest) a w := by
  obtain ⟨i0, hi, hz0, hz1, hz2⟩ := info_parts infoT
  rcases hv with ⟨rfl, rfl⟩ | ⟨b, off, c, rfl, hb, ht⟩
  · refine wpList_append_own_none hgd s x _ ho base 25 i0 3 Tryz.underlying22 hi v n xs hs hown hx ?_
    exact h v w (by rw [flat_nil, List.append_nil]; exact hown) (Below.refl _ _)
  · refine wpList_append_own _ hgd s x _ ho base 25 i0 _ 3 24 Tryz.underlying22 hi hz0 hz1 hz2 rfl (by decide) v n xs hs hown ⟨b, off, none⟩ ts.length c (flat ts) hx (flat_length ts) (fun j u hj => by rw [Lib.add_plain]; exact ht j u hj) (flat_oneCell ts) (by unfold maxLen; omega) hbig hbase ?_
    intro v' w' h1 h2 _
    exact h v' w' h1 ((Below.refl base w).grown h2 hbase (fun k hk => (hown.lt k hk).1))

/-- 'append(own, t)' where own is the call's own. -/
theorem wpList_append_one {w : World} {ops : Array Oper} {rest : List Oper} {o : Oper} {a : Act} {Q : Exit → Act → World → Prop} (hgd : o.guard = none) (s x : Operand)
    (ho : o.op = .call { callee := .builtin .append, args := #[s, x], argTypes := #[22, 22] })
    (base : Nat) (v : Value) (n : Nat) (xs : List Value) (hs : a.eval s = v) (hown : w.ownsRow base 25 3 v n xs)
    (t : T3) (hx : a.eval x = .slice (some ⟨w.heap.size, 0, none⟩) 1 1) (hbig : (n + 1) * 24 ≤ 140737488355328) (hbase : base ≤ w.heap.size)
    (h : ∀ v' w', w'.ownsRow base 25 3 v' (n + 1) (xs ++ encT t) → Below base w w' → wpList Tryz.prog ops Q rest (a.put o.dst v') w') :
    wpList Tryz.prog ops Q (o :: rest) a (w.alloc (.cells #[.int .u64 t.1, .int .u64 t.2.1, .int .u64 t.2.2] 25)) := by
  obtain ⟨i0, hi, hz0, hz1, hz2⟩ := info_parts infoT
  refine wpList_append_own _ hgd s x _ ho base 25 i0 _ 3 24 Tryz.underlying22 hi hz0 hz1 hz2 rfl (by decide) v n xs hs (hown.alloc _) ⟨w.heap.size, 0, none⟩ 1 1 (encT t) hx rfl (World.news_of_block (heap_new _ _)) ?_ (by unfold maxLen; omega) hbig (by simp; omega) ?_
  · intro u hu
    simp [encT] at hu
    rcases hu with rfl | rfl | rfl <;> rfl
  · intro v' w' h1 h2 _
    exact h v' w' h1 (((Below.refl base w).alloc hbase _).grown h2 (by simp; omega) (fun k hk => (hown.lt k hk).1))
theorem owns_base {w : World} {b b' : Nat} {e : TypeId} {size : Nat} {v : Value} {n : Nat} {xs : List Value} (h : w.ownsRow b e size v n xs) (hb : b' ≤ b) : w.ownsRow b' e size v n xs := by
  obtain ⟨h1, h2⟩ := h
  refine ⟨h1, ?_⟩
  rcases h2 with h2 | ⟨g, cap, cur, hv, hg, r⟩
  · exact Or.inl h2
  · exact Or.inr ⟨g, cap, cur, hv, Nat.le_trans hb hg, r⟩
end Go.Proofs.YtmhbpelbkeclpaaGreatDoor
