import Derived.Test.YtjppkehnjnmbnaaGreatGM0
namespace Go.Proofs.YtjppkehnjnmbnaaGreat.Df
open Go.RowKit Go.Sort
theorem append_none_cap {P : Program} (w : World) (t ty : TypeId) (v : Value) (c : Nat) : (Builtin.append_ #[t, t] ty #[v, .slice none 0 c]).run P w = (Builtin.append_ #[t, t] ty #[v, .slice none 0 0]).run P w := rfl
theorem step_appZ {P : Program} {α : Type} (E : El α) {e sT : TypeId} {z : Value} {bt : Nat} (hu : P.underlying sT = some (.slice e)) (hI : (P.info? e).map (fun i => (i.zero, i.size, i.bytes)) = some (some z, E.k, bt)) (hz : z.cells.size = E.k) (hk : 0 < E.k)
    {w : World} {ops : Array Oper} {o : Oper} {a : Act} {K : Act → World → Prop} {Q : Exit → Act → World → Prop} {X : Prop} (hgd : o.guard = none) (s x : Operand)
    (ho : o.op = .call { callee := .builtin .append, args := #[s, x], argTypes := #[sT, sT] })
    (base : Nat) (v0 : Value) (n : Nat) (xs : List Value) (hs : a.eval s = v0) (hown : w.ownsRow base e E.k v0 n xs) (hbase : base ≤ w.heap.size) (M : Nat) (v1 : Value) (ts : List α) (hx : a.eval x = v1) (hv : Lz E M w v1 ts) (hbig : (n + ts.length) * bt ≤ 140737488355328) (hmx : n + ts.length ≤ maxLen)
    (h : ∀ v' w', Hid (w'.ownsRow base e E.k v' (n + ts.length) (xs ++ fl E ts)) → Hid (w.grownBy w' v0.ownBlock) → K (a.put o.dst v') w') :
    if Region.wanted o (yielded ops a.tmps) = true then Oper.wp P o a w K Q else X := by
 rcases hv with ⟨hv, _⟩ | ⟨rfl, p, c, rfl⟩
 ·exact step_appL E hu hI hz hk hgd s x ho base v0 n xs hs hown hbase v1 ts hx hv hbig hmx h
 ·have hw : Region.wanted o (yielded ops a.tmps) = true := by simp [Region.wanted, hgd]
  rw [if_pos hw]
  obtain ⟨i0, hi, hz0, hz1, hz2⟩ := info_parts hI
  cases p with
  | none =>
   have hrun := run_append_owned_none (P := P) (w := w) base sT o.type e i0 E.k hu hi v0 n xs hown
   rw [← append_none_cap (P := P) w sT o.type v0 c] at hrun
   unfold Oper.wp
   simp [execOp, ho, resolve, invoke, builtin, hs, hx, hrun, Result.andThen]
   exact h _ _ (show _ from by have h5 : w.ownsRow base e E.k v0 (n + ([] : List α).length) (xs ++ fl E []) := (by simpa [fl] using hown); exact h5) ⟨rfl, rfl, rfl, Nat.le_refl _, fun _ _ _ => rfl⟩
  | some b =>
   obtain ⟨v', w', hr, h2, h3, _, _⟩ := run_append_own_at (P := P) w base sT o.type e i0 _ E.k bt hu hi hz0 hz1 hz2 hz hk v0 n xs hown b 0 c [] (by simp) (fun j u hj => by simp at hj) (fun u hu => by cases hu) hmx hbig hbase
   unfold Oper.wp execOp
   simp only [ho, resolve, invoke, builtin, Sem.run_bind, Sem.run_pure, Result.andThen_ok, List.map_toArray, List.map_cons, List.map_nil, hs, hx, hr]
   exact h v' w' h2 h3
theorem one_ls {α : Type} {E : El α} {w : World} {b : Nat} {cs : Array Value} {t : TypeId} {x : α} (h : w.heap[b]? = some (.cells cs t (0, 0))) (hx : cs.toList = E.enc x) : Ls E w (.slice (some ⟨b, 0, none⟩) 1 1) [x] := by
 refine Or.inr ⟨b, 0, 1, rfl, (Array.getElem?_eq_some_iff.1 h).1, fun j u hj => ?_⟩
 have h1 := (tk_store h).1 j
 rw [Nat.zero_add, h1, ← hj]
 simp [fl, ← hx]
section
variable {w W W' : World} {gv cv : Array Value} {nv : Value} {ys : List NV}
end
end Go.Proofs.YtjppkehnjnmbnaaGreat.Df
