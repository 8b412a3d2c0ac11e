import Derived.Test.YtaaobchodbnkpaaLRow
namespace Go.Proofs.Ytaaobchodbnkpaa
open Go.RowKit Go.Sort

/-- One cell of an element is another. -/
theorem fl_setC {α : Type} (E : El α) (zs : List α) (i k : Nat) (y y' : α) (u : Value) (hi : zs[i]? = some y) (hk : k < E.k) (he : (E.enc y).set k u = E.enc y') : (fl E zs).set (i * E.k + k) u = fl E (zs.set i y') := by
  induction zs generalizing i with
  | nil => simp at hi
  | cons z zs ih =>
    rw [fl_cons]
    cases i with
    | zero =>
      simp at hi
      subst hi
      rw [List.set_cons_zero, fl_cons, ← he, Nat.zero_mul, Nat.zero_add, List.set_append_left _ _ (by rw [E.len]; exact hk)]
    | succ i =>
      have e1 : (i + 1) * E.k + k = E.k + (i * E.k + k) := by rw [Nat.succ_mul]; omega
      rw [List.set_cons_succ, fl_cons, ← ih i (by simpa using hi), e1, List.set_append_right _ _ (by rw [E.len]; omega), E.len, Nat.add_sub_cancel_left]
/-- One cell of an own row is another. -/
theorem owns_setC {w : World} {base : Nat} {e : TypeId} {size g n cap : Nat} {xs : List Value} (h : w.ownsRow base e size (.slice (some ⟨g, 0, none⟩) n cap) n xs) (j : Nat) (u : Value) : (w.setCell ⟨g, j, none⟩ u).ownsRow base e size (.slice (some ⟨g, 0, none⟩) n cap) n (xs.set j u) ∧ Kp (fun k => k = g) w (w.setCell ⟨g, j, none⟩ u) := by
  obtain ⟨hx, hr⟩ := h
  rcases hr with ⟨h0, _⟩ | ⟨g', cap', cur, hv, hg, hh, hn, hm, hs, ht⟩
  · cases h0
  · simp only [Value.slice.injEq, Option.some.injEq, Addr.mk.injEq] at hv
    obtain ⟨⟨rfl, -, -⟩, -, rfl⟩ := hv
    have h2 := setCell_eq_setRow w g j _ _ _ u hh
    have hk : Kp (fun k => k = g) w (w.setCell ⟨g, j, none⟩ u) := by
      rw [h2]
      exact ⟨rfl, rfl, rfl, by simp [World.setRow], fun k _ hne => setRow_other w g k _ (by omega)⟩
    refine ⟨⟨by simp [hx], Or.inr ⟨g, cap, cur.setIfInBounds j u, rfl, hg, by rw [h2, setRow_heap w g _ _ _ _ hh], hn, hm, by simp [hs], ?_⟩⟩, hk⟩
    rw [Array.toList_setIfInBounds, List.take_set, ht]
end Go.Proofs.Ytaaobchodbnkpaa
