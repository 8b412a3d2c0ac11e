import Derived.Test.YtghpekkncfckaaaLRow
import Derived.Laws.AppendOwnNone
import Derived.Maps.AppendAt
namespace Go.Proofs.Ytghpekkncfckaaa
open Go.RowKit Go.Sort

/-- 'append(own, l...)' as a step of a region that draws; any element. -/
theorem step_appL {P : Program} {α : Type} (E : El α) {e sT : TypeId} {z : Value} {bt : Nat} (hu : P.underlying sT = some (.slice e)) (hI : (P.info? e).map (fun i => (i.zero, i.size, i.bytes)) = some (some z, E.k, bt)) (hz : z.cells.size = E.k) (hk : 0 < E.k)
    {w : World} {ops : Array Oper} {o : Oper} {a : Act} {K : Act → World → Prop} {Q : Exit → Act → World → Prop} {X : Prop} (hgd : o.guard = none) (s x : Operand)
    (ho : o.op = .call { callee := .builtin .append, args := #[s, x], argTypes := #[sT, sT] })
    (base : Nat) (v0 : Value) (n : Nat) (xs : List Value) (hs : a.eval s = v0) (hown : w.ownsRow base e E.k v0 n xs) (hbase : base ≤ w.heap.size) (v1 : Value) (ts : List α) (hx : a.eval x = v1) (hv : Ls E w v1 ts) (hbig : (n + ts.length) * bt ≤ 140737488355328) (hmx : n + ts.length ≤ maxLen)
    (h : ∀ v' w', Hid (w'.ownsRow base e E.k v' (n + ts.length) (xs ++ fl E ts)) → Hid (w.grownBy w' v0.ownBlock) → K (a.put o.dst v') w') :
    if Region.wanted o (yielded ops a.tmps) = true then Oper.wp P o a w K Q else X := by
  have hw : Region.wanted o (yielded ops a.tmps) = true := by simp [Region.wanted, hgd]
  rw [if_pos hw]
  obtain ⟨i0, hi, hz0, hz1, hz2⟩ := info_parts hI
  rcases hv with ⟨rfl, rfl⟩ | ⟨b, off, c, rfl, hb, ht⟩
  · have hrun := run_append_owned_none (P := P) (w := w) base sT o.type e i0 E.k hu hi v0 n xs hown
    unfold Oper.wp
    simp [execOp, ho, resolve, invoke, builtin, hs, hx, hrun, Result.andThen]
    exact h _ _ (show _ from by have h5 : w.ownsRow base e E.k v0 (n + ([] : List α).length) (xs ++ fl E []) := (by simpa [fl] using hown); exact h5) ⟨rfl, rfl, rfl, Nat.le_refl _, fun _ _ _ => rfl⟩
  · obtain ⟨v', w', hr, h2, h3, _, _⟩ := run_append_own_at (P := P) w base sT o.type e i0 _ E.k bt hu hi hz0 hz1 hz2 hz hk v0 n xs hown ⟨b, off, none⟩ ts.length c (fl E ts) (fl_length E ts) (fun j u hj => by rw [addA]; exact ht j u hj) (fl_oneCell E ts) hmx hbig hbase
    unfold Oper.wp execOp
    simp only [ho, resolve, invoke, builtin, Sem.run_bind, Sem.run_pure, Result.andThen_ok, List.map_toArray, List.map_cons, List.map_nil, hs, hx, hr]
    exact h v' w' h2 h3
end Go.Proofs.Ytghpekkncfckaaa
