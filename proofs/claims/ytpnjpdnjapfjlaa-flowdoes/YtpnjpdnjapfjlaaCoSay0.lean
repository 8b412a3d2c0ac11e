import Derived.Test.YtpnjpdnjapfjlaaCoKn
import Derived.Test.YtpnjpdnjapfjlaaLSet
namespace Go.Proofs.Ytpnjpdnjapfjlaa.Cd
open Go.RowKit Go.Sort
attribute [local go_sem ↓] Go.wp_at_zero Go.wp_at_succ

/-- A list that is read: its row lies below M; an empty one may lie anywhere. -/
def Lz {α : Type} (E : El α) (M : Nat) (w : World) (v : Value) (l : List α) : Prop := (Ls E w v l ∧ ∀ k, v.ownBlock = some k → k < M) ∨ (l = [] ∧ ∃ p c, v = .slice p 0 c)
section
variable {α : Type} {E : El α} {M : Nat} {w w' : World} {v : Value} {l : List α}
theorem Lz.form (h : Lz E M w v l) : ∃ p c, v = .slice p l.length c := by
  rcases h with ⟨h, _⟩ | ⟨rfl, p, c, rfl⟩
  · exact h.form
  · exact ⟨p, c, rfl⟩
end
section
variable {α : Type} {E : El α} {M : Nat} {w w' : World} {v : Value} {l : List α}
theorem Lz.below (h : Lz E M w v l) (hb : Below w.heap.size w w') : Lz E M w' v l := by
  rcases h with ⟨h, hs⟩ | h
  · exact Or.inl ⟨h.below hb, hs⟩
  · exact Or.inr h
end
section
variable {α : Type} {E : El α} {M : Nat} {w w' : World} {v : Value} {l : List α}
theorem Lz.up {M' : Nat} (h : Lz E M w v l) (hM : M ≤ M') : Lz E M' w v l := by
  rcases h with ⟨h, hs⟩ | h
  · exact Or.inl ⟨h, fun k hk => Nat.lt_of_lt_of_le (hs k hk) hM⟩
  · exact Or.inr h
end
section
variable {α : Type} {E : El α} {M : Nat} {w w' : World} {v : Value} {l : List α}
theorem Lz.ls (h : Lz E M w v l) {i : Nat} {x : α} (hi : l[i]? = some x) : Ls E w v l := by
  rcases h with ⟨h, _⟩ | ⟨rfl, _⟩
  · exact h
  · simp at hi
end
section
variable {α : Type} {E : El α} {M : Nat} {w w' : World} {v : Value} {l : List α}
theorem Lz.nil (E : El α) (M : Nat) (w : World) : Lz E M w (.slice none 0 0) [] := Or.inr ⟨rfl, none, 0, rfl⟩
end
theorem append_none_cap {P : Program} (w : World) (t ty : TypeId) (v : Value) (c : Nat) : (Builtin.append_ #[t, t] ty #[v, .slice none 0 c]).run P w = (Builtin.append_ #[t, t] ty #[v, .slice none 0 0]).run P w := rfl
/-- 'append(own, l...)'; l may be an empty list that lies anywhere. -/
theorem wpAppZ {P : Program} {α : Type} (E : El α) {e sT : TypeId} {z : Value} {bt : Nat} (hu : P.underlying sT = some (.slice e)) (hI : (P.info? e).map (fun i => (i.zero, i.size, i.bytes)) = some (some z, E.k, bt)) (hz : z.cells.size = E.k) (hk : 0 < E.k)
    {w : World} {ops : Array Oper} {rest : List Oper} {o : Oper} {a : Act} {Q : Exit → Act → World → Prop} (hgd : o.guard = none) (s x : Operand) (ho : o.op = .call { callee := .builtin .append, args := #[s, x], argTypes := #[sT, sT] })
    (base : Nat) (v : Value) (n : Nat) (xs : List Value) (hs : a.eval s = v) (hown : w.ownsRow base e E.k v n xs) (M : Nat)
    (v1 : Value) (ts : List α) (hx : a.eval x = v1) (hv : Lz E M w v1 ts) (hbig : (n + ts.length) * bt ≤ 140737488355328) (hmx : n + ts.length ≤ maxLen) (hbase : base ≤ w.heap.size)
    (h : ∀ v' w', Hid (w'.ownsRow base e E.k v' (n + ts.length) (xs ++ fl E ts)) → Hid (w.grownBy w' v.ownBlock) → wpList P ops Q rest (a.put o.dst v') w') : wpList P ops Q (o :: rest) a w := by
  rcases hv with ⟨hv, _⟩ | ⟨rfl, p, c, rfl⟩
  · exact wpAppL E hu hI hz hk hgd s x ho base v n xs hs hown v1 ts hx hv hbig hmx hbase h
  · obtain ⟨i0, hi, hz0, hz1, hz2⟩ := info_parts hI
    cases p with
    | none =>
      refine wpList_plain hgd fun K hK => ?_
      have hrun := run_append_owned_none (P := P) (w := w) base sT o.type e i0 E.k hu hi v n xs hown
      rw [← append_none_cap (P := P) w sT o.type v c] at hrun
      unfold Oper.wp
      simp [execOp, ho, resolve, invoke, builtin, hs, hx, hrun, Result.andThen]
      refine hK _ _ (h _ _ (show _ from by have h5 : w.ownsRow base e E.k v (n + ([] : List α).length) (xs ++ fl E []) := (by simpa [fl] using hown); exact h5) ⟨rfl, rfl, rfl, Nat.le_refl _, fun _ _ _ => rfl⟩)
    | some b =>
      refine wpList_append_own _ hgd s x _ ho base e i0 _ E.k bt hu hi hz0 hz1 hz2 hz hk v n xs hs hown b 0 c [] hx (by simp) (fun j u hj => by simp at hj) (fun u hu => by cases hu) hmx hbig hbase ?_
      intro v' w' h1 h2 _
      exact h v' w' h1 h2

/-- One instruction of an own list is another. -/
theorem own_put {w : World} {base : Nat} {e : TypeId} {g n cap : Nat} {zs : List Op2} (h : w.ownsRow base e 2 (.slice (some ⟨g, 0, none⟩) n cap) n (fl EO zs)) {j : Nat} (hj : j < zs.length) (x : Op2) :
    ((w.setCell ⟨g, j * 2, none⟩ (.int .i64 x.kind)).setCell ⟨g, j * 2 + 1, none⟩ (.int .u64 x.arg)).ownsRow base e 2 (.slice (some ⟨g, 0, none⟩) n cap) n (fl EO (zs.set j x)) ∧ Kp (fun k => k = g) w ((w.setCell ⟨g, j * 2, none⟩ (.int .i64 x.kind)).setCell ⟨g, j * 2 + 1, none⟩ (.int .u64 x.arg)) := by
  obtain ⟨h0, k0⟩ := owns_setC h (j * 2) (.int .i64 x.kind)
  obtain ⟨h1, k1⟩ := owns_setC h0 (j * 2 + 1) (.int .u64 x.arg)
  refine ⟨owns_re h1 rfl ?_, k0.trans k1 (fun _ _ h => h)⟩
  have e0 := fl_setC EO zs j 0 zs[j] ⟨x.kind, zs[j].arg⟩ (.int .i64 x.kind) (by simp) (by decide) rfl
  have e1 := fl_setC EO (zs.set j ⟨x.kind, zs[j].arg⟩) j 1 ⟨x.kind, zs[j].arg⟩ x (.int .u64 x.arg) (by simp [hj]) (by decide) rfl
  rw [List.set_set] at e1
  rw [← e1, ← e0]
  rfl
end Go.Proofs.Ytpnjpdnjapfjlaa.Cd
