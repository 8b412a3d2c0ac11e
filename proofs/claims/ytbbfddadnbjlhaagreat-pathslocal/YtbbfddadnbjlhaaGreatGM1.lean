import Derived.Test.YtbbfddadnbjlhaaGreatGM0
namespace Go.Proofs.YtbbfddadnbjlhaaGreat.Df
open Go.RowKit Go.Sort
theorem append_none_cap {P : Program} (w : World) (t ty : TypeId) (v : Value) (c : Nat) : (Builtin.append_ #[t, t] ty #[v, .slice none 0 c]).run P w = (Builtin.append_ #[t, t] ty #[v, .slice none 0 0]).run P w := rfl
theorem one_ls {α : Type} {E : El α} {w : World} {b : Nat} {cs : Array Value} {t : TypeId} {x : α} (h : w.heap[b]? = some (.cells cs t (0, 0))) (hx : cs.toList = E.enc x) : Ls E w (.slice (some ⟨b, 0, none⟩) 1 1) [x] := by
 refine Or.inr ⟨b, 0, 1, rfl, (Array.getElem?_eq_some_iff.1 h).1, fun j u hj => ?_⟩
 have h1 := (tk_store h).1 j
 rw [Nat.zero_add, h1, ← hj]
 simp [fl, ← hx]
section
variable {w W W' : World} {gv cv : Array Value} {nv : Value} {ys : List NV}
end
end Go.Proofs.YtbbfddadnbjlhaaGreat.Df
