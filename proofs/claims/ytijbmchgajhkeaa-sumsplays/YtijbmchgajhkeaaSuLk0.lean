import Derived.Test.YtijbmchgajhkeaaSuKn
namespace Go.Proofs.Ytijbmchgajhkeaa
open Go.RowKit Go.Sort Go.Maps Go.Shelf

/-- What is left when these times are told. -/
def lfs (A : List Ct) (K : List Tm) : List Ct := K.foldl lft A
theorem lfs_snoc (A : List Ct) (K : List Tm) (t : Tm) : lfs A (K ++ [t]) = lft (lfs A K) t := by unfold lfs; rw [List.foldl_append]; rfl
theorem lfs_nil (A : List Ct) : lfs A [] = A := rfl
theorem lfs_perm {A B : List Ct} (h : A.Perm B) (K : List Tm) : (lfs A K).Perm (lfs B K) := by
  induction K generalizing A B with
  | nil => exact h
  | cons t K ih => exact ih (lft_perm h t)
theorem lfs_len (A : List Ct) (K : List Tm) : (lfs A K).length ≤ A.length := by
  induction K generalizing A with
  | nil => exact Nat.le_refl _
  | cons t K ih => exact Nat.le_trans (ih _) (lft_len A t)
theorem hld_lfs (A : List Ct) (K : List Tm) (u : Tm) : Hld (lfs A K) u ↔ Hld A u ∧ u ∉ K := by
  induction K generalizing A with
  | nil => simp [lfs]
  | cons t K ih =>
    show Hld (lfs (lft A t) K) u ↔ _
    rw [ih, hld_lft]
    simp only [List.mem_cons, not_or]
    exact ⟨fun h => ⟨h.1.1, h.1.2, h.2⟩, fun h => ⟨⟨h.1, h.2.1⟩, h.2.2⟩⟩
theorem has_lfs (A : List Ct) (K : List Tm) (s : Sx) : Has (lfs A K) s ↔ Has A s ∧ s.1 ∉ K := by
  induction K generalizing A with
  | nil => simp [lfs]
  | cons t K ih =>
    show Has (lfs (lft A t) K) s ↔ _
    rw [ih, has_lft]
    simp only [List.mem_cons, not_or]
    exact ⟨fun h => ⟨h.1.1, h.1.2, h.2⟩, fun h => ⟨⟨h.1, h.2.1⟩, h.2.2⟩⟩
theorem sm_lfs (A : List Ct) (K : List Tm) (s : Sx) (h : s.1 ∉ K) : sm (lfs A K) s = sm A s := by
  induction K generalizing A with
  | nil => rfl
  | cons t K ih =>
    show sm (lfs (lft A t) K) s = _
    rw [ih _ fun h2 => h (List.mem_cons_of_mem _ h2), sm_lft A t s fun e => h (by rw [e]; exact List.mem_cons_self)]
theorem lfs_all (A : List Ct) : lfs A (tms A) = [] := by
  cases h : lfs A (tms A) with
  | nil => rfl
  | cons c l =>
    have h1 : Hld (lfs A (tms A)) c.1 := ⟨c, by rw [h]; exact List.mem_cons_self, rfl⟩
    rw [hld_lfs, mem_tms] at h1
    exact absurd h1.1 h1.2
theorem tms_nodup (A : List Ct) : (tms A).Nodup := (tms_rise A).imp fun {a b} (h : ltT a b) (e : a = b) => ltT_irr a (by rw [← e] at h; exact h)
theorem kys_lfs {A : List Ct} {K : List Tm} {t : Tm} (h : t ∉ K) : kys (lfs A K) t = kys A t := kys_eq (kys_rise _ t) fun k => (mem_kys _ t k).trans ((has_lfs A K (t, k)).trans ⟨fun h => h.1, fun h2 => ⟨h2, h⟩⟩)
theorem rcs_lfs {A : List Ct} {K : List Tm} {t : Tm} (h : t ∉ K) : rcs (lfs A K) t = rcs A t := by
  unfold rcs
  rw [kys_lfs h]
  exact List.map_congr_left fun k _ => by rw [sm_lfs A K (t, k) h]
theorem ccov_nil (t : Tm) : ccov bel [] t = false := rfl
theorem ccov_snoc (F : List Tm) (x t : Tm) : ccov bel (F ++ [x]) t = (ccov bel F t || bel x t) := by
  unfold ccov
  rw [List.any_append]
  simp
theorem rdy_nil (A : List Ct) : rdy A [] = tms A := by
  unfold rdy
  rw [List.filter_eq_self]
  intro t _
  rw [ccov_nil]; rfl
theorem rdy_sub (A : List Ct) (F : List Tm) (x : Tm) : List.Sublist (rdy A (F ++ [x])) (rdy A F) := by
  have : rdy A (F ++ [x]) = (rdy A F).filter fun t => !bel x t := by
    unfold rdy
    rw [List.filter_filter]
    congr 1
    funext t
    rw [ccov_snoc]
    cases ccov bel F t <;> cases bel x t <;> rfl
  rw [this]
  exact List.filter_sublist
/-- What the law adds up. -/
theorem sm_take {L : List Ct} {q : Nat} {c : Ct} (h : L[q]? = some c) (s : Sx) : sm (L.take (q + 1)) s = if c.1 = s.1 ∧ c.2.1 = s.2 then addU (sm (L.take q) s) c.2.2 else sm (L.take q) s := by
  rw [← take_snoc h, sm_snoc]
theorem rcs_at {A : List Ct} {t : Tm} {i : Nat} {r : Rc} (h : (rcs A t)[i]? = some r) : r.2 = sm A (t, r.1) := by
  unfold rcs at h
  rw [List.getElem?_map] at h
  cases hk : (kys A t)[i]? with
  | none => rw [hk] at h; cases h
  | some k => rw [hk] at h; cases h; rfl
theorem rcs_up {A : List Ct} {t : Tm} {i : Nat} {r q : Rc} (h : (rcs A t)[i]? = some r) (h2 : (rcs A t)[i + 1]? = some q) : r.1.1 < q.1.1 := by
  unfold rcs at h h2
  rw [List.getElem?_map] at h h2
  cases hk : (kys A t)[i]? with
  | none => rw [hk] at h; cases h
  | some k =>
    cases hk2 : (kys A t)[i + 1]? with
    | none => rw [hk2] at h2; cases h2
    | some k2 =>
      rw [hk] at h; rw [hk2] at h2
      cases h; cases h2
      obtain ⟨a1, a2⟩ := List.getElem?_eq_some_iff.1 hk
      obtain ⟨b1, b2⟩ := List.getElem?_eq_some_iff.1 hk2
      have := List.pairwise_iff_getElem.1 (kys_rise A t) i (i + 1) a1 b1 (Nat.lt_succ_self _)
      rw [a2, b2] at this
      exact this
/-- Two Sums beside one another; what lies from Z on is none of theirs. -/
structure Two (w : World) (Sa Sb : Nat → Prop) (Z N sa sb : Nat) (A B : List Ct) (W : World) : Prop where
  a : Su W Sa N sa A
  b : Su W Sb N sb B
  bl : Below w.heap.size w W
  da : ∀ k, Sa k → ¬ Sb k
  lo : ∀ k, Sa k ∨ Sb k → w.heap.size ≤ k
  up : ∀ k, Sa k ∨ Sb k → k < Z
  hz : Z ≤ W.heap.size
/-- A list that is no owner's. -/
def Free (Sa Sb : Nat → Prop) (v : Value) : Prop := ∀ k, v.ownBlock = some k → ¬ Sa k ∧ ¬ Sb k
section
variable {w W W' : World} {Sa Sb : Nat → Prop} {Z N sa sb : Nat} {A B : List Ct}
theorem Free.a {α : Type} {E : El α} {v : Value} {l : List α} (h : Ls E W v l) (hf : Free Sa Sb v) (hk : Kp Sa W W') : Ls E W' v l := hk.ls h fun k e => (hf k e).1
theorem Free.b {α : Type} {E : El α} {v : Value} {l : List α} (h : Ls E W v l) (hf : Free Sa Sb v) (hk : Kp Sb W W') : Ls E W' v l := hk.ls h fun k e => (hf k e).2
theorem Two.below (h : Two w Sa Sb Z N sa sb A B W) (hb : Below W.heap.size W W') : Two w Sa Sb Z N sa sb A B W' := ⟨h.a.below hb, h.b.below hb, h.bl.trans (hb.mono h.bl.size), h.da, h.lo, h.up, Nat.le_trans h.hz hb.size⟩
theorem Two.tellA (h : Two w Sa Sb Z N sa sb A B W) {t : Tm} {v : Value} (ht : Td W Sa N sa A t v W') : Two w Sa Sb Z N sa sb (lft A t) B W' ∧ Kp Sa W W' := by
  have hk : Kp Sa W W' := ht.2.2.mono fun k h => h.1
  exact ⟨⟨ht.2.1.wide fun k h => h.1, h.b.kp hk fun k hb ha => h.da k ha hb, h.bl.trans (hk.below h.bl.size fun k hk => h.lo k (.inl hk)), h.da, h.lo, h.up, Nat.le_trans h.hz hk.size⟩, hk⟩
theorem Two.tellB (h : Two w Sa Sb Z N sa sb A B W) {t : Tm} {v : Value} (ht : Td W Sb N sb B t v W') : Two w Sa Sb Z N sa sb A (lft B t) W' ∧ Kp Sb W W' := by
  have hk : Kp Sb W W' := ht.2.2.mono fun k h => h.1
  exact ⟨⟨h.a.kp hk h.da, ht.2.1.wide fun k h => h.1, h.bl.trans (hk.below h.bl.size fun k hk => h.lo k (.inr hk)), h.da, h.lo, h.up, Nat.le_trans h.hz hk.size⟩, hk⟩
theorem Two.new (h : Two w Sa Sb Z N sa sb A B W) {k : Nat} (hk : W.heap.size ≤ k) : ¬ Sa k ∧ ¬ Sb k := by
  have hz := h.hz
  exact ⟨fun h1 => by have := h.up k (.inl h1); omega, fun h1 => by have := h.up k (.inr h1); omega⟩
theorem Two.free (h : Two w Sa Sb Z N sa sb A B W) {e : TypeId} {s n : Nat} {v : Value} {xs : List Value} (hr : W'.ownsRow W.heap.size e s v n xs) : Free Sa Sb v := fun k hk => h.new (hr.lt k hk).1
theorem Two.low (h : Two w Sa Sb Z N sa sb A B W) {v : Value} (hv : ∀ k, v.ownBlock = some k → k < w.heap.size) : Free Sa Sb v := fun k hk => by
  have := hv k hk
  exact ⟨fun h1 => by have := h.lo k (.inl h1); omega, fun h1 => by have := h.lo k (.inr h1); omega⟩
end
end Go.Proofs.Ytijbmchgajhkeaa
