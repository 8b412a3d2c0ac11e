import Derived.WalkKit
namespace Go.Proofs.Ytpcamjmfddnglaa.Hp
variable {ι : Type} {A : ι → ι → Bool}

/-- The place above. -/
def par (i : Nat) : Nat := (i - 1) / 2
theorem par_lt {i : Nat} (h : 0 < i) : par i < i := by unfold par; omega
theorem par_eq {i j : Nat} (h : 0 < j) : par j = i ↔ j = 2 * i + 1 ∨ j = 2 * i + 2 := by unfold par; omega
/-- 'Not behind' is an order in which any two stand. -/
def Tot (A : ι → ι → Bool) : Prop := (∀ a b c, A b a = false → A c b = false → A c a = false) ∧ ∀ a b, A a b = true → A b a = false
theorem Tot.self (h : Tot A) (a : ι) : A a a = false := by
  cases e : A a a with
  | false => rfl
  | true => exact e.symm.trans (h.2 a a e)
/-- None comes ahead of the one above it. -/
def Heapy (A : ι → ι → Bool) (L : List ι) : Prop := ∀ i x y, 0 < i → L[i]? = some x → L[par i]? = some y → A x y = false
/-- The first one of a heap. -/
theorem Heapy.top (hA : Tot A) {L : List ι} (h : Heapy A L) {t : ι} (ht : L[0]? = some t) : ∀ (i : Nat) (x : ι), L[i]? = some x → A x t = false := by
  intro i
  induction i using Nat.strongRecOn with
  | ind i ih =>
    intro x hx
    by_cases h0 : i = 0
    · subst h0; rw [ht] at hx; cases hx; exact hA.self t
    · have hp := par_lt (Nat.pos_of_ne_zero h0)
      have hl := (List.getElem?_eq_some_iff.1 hx).1
      obtain ⟨y, hy⟩ : ∃ y, L[par i]? = some y := ⟨L[par i]'(by omega), by rw [List.getElem?_eq_getElem]⟩
      exact hA.1 _ _ _ (ih _ hp y hy) (h i x y (Nat.pos_of_ne_zero h0) hx hy)

/-- From a place upwards. -/
inductive Wy (Q : Nat → Prop) : Nat → Nat → Prop
  | refl (i : Nat) : Wy Q i i
  | step {i a : Nat} : 0 < i → Q i → Wy Q (par i) a → Wy Q i a
variable {Q : Nat → Prop}
theorem Wy.snoc {n i : Nat} (h : Wy Q n i) (h0 : 0 < i) (hq : Q i) : Wy Q n (par i) := by
  induction h with
  | refl i => exact .step h0 hq (.refl _)
  | step a b _ ih => exact .step a b (ih h0 hq)
theorem Wy.le {i a : Nat} (h : Wy Q i a) : a ≤ i := by
  induction h with
  | refl i => exact Nat.le_refl _
  | step h0 _ _ ih => have := par_lt h0; omega
theorem Wy.next {i a : Nat} (h : Wy Q i a) (hl : a < i) : 0 < i ∧ Q i ∧ Wy Q (par i) a := by
  cases h with
  | refl => omega
  | step a b c => exact ⟨a, b, c⟩

theorem set_perm {L : List ι} {i : Nat} {y : ι} (x : ι) (h : L[i]? = some y) : (y :: L.set i x).Perm (x :: L) := by
  induction L generalizing i with
  | nil => simp at h
  | cons a L ih =>
    cases i with
    | zero => simp at h; subst h; simp only [List.set_cons_zero]; exact List.Perm.swap _ _ _
    | succ i =>
      simp only [List.set_cons_succ]
      exact (List.Perm.swap _ _ _).trans (((ih (by simpa using h)).cons a).trans (List.Perm.swap _ _ _))
theorem swap_perm {M : List ι} {i p : Nat} {y : ι} (x : ι) (hi : i < M.length) (hp : M[p]? = some y) (hne : i ≠ p) : ((M.set i y).set p x).Perm (M.set i x) := by
  have h1 : (y :: (M.set i y).set p x).Perm (x :: M.set i y) := set_perm x (by rw [List.getElem?_set_ne hne]; exact hp)
  have hz : M[i]? = some M[i] := by rw [List.getElem?_eq_getElem]
  have h2 : (M[i] :: M.set i y).Perm (y :: M) := set_perm y hz
  have h3 : (M[i] :: M.set i x).Perm (x :: M) := set_perm x hz
  refine List.Perm.cons_inv (a := y) (List.Perm.cons_inv (a := M[i]) ?_)
  refine (h1.cons _).trans ((List.Perm.swap _ _ _).trans ((h2.cons x).trans ((List.Perm.swap _ _ _).trans ((h3.symm.cons y).trans (List.Perm.swap _ _ _)))))

/-- Push: the one at i is asked. -/
def QU (A : ι → ι → Bool) (L : List ι) (x : ι) (i : Nat) : Prop := ∃ y, L[par i]? = some y ∧ A x y = true
/-- All but at i. -/
def HH (A : ι → ι → Bool) (N : List ι) (i : Nat) : Prop :=
  (∀ j a b, 0 < j → j ≠ i → N[j]? = some a → N[par j]? = some b → A a b = false) ∧ ∀ j a b, 0 < j → par j = i → 0 < i → N[j]? = some a → N[par i]? = some b → A a b = false
structure PushInv (A : ι → ι → Bool) (L : List ι) (x : ι) (at_ : Nat) (M : List ι) (i : Nat) : Prop where
  way : Wy (QU A L x) i at_
  len : M.length = L.length + 1
  ile : i ≤ L.length
  old : ∀ j, j ≤ i → M[j]? = (L ++ [x])[j]?
  perm : (M.set i x).Perm (L ++ [x])
  hp : Tot A → Heapy A L → HH A (M.set i x) i
theorem PushInv.init {L : List ι} {x : ι} {at_ : Nat} (h : Wy (QU A L x) L.length at_) : PushInv A L x at_ (L ++ [x]) L.length := by
  have e : (L ++ [x]).set L.length x = L ++ [x] := by rw [List.set_append_right _ _ (Nat.le_refl _)]; simp
  refine ⟨h, by simp, Nat.le_refl _, fun _ _ => rfl, by rw [e], fun hA hH => ?_⟩
  rw [e]
  refine ⟨fun j a b h0 hne ha hb => ?_, fun j a b h0 hp _ ha _ => ?_⟩
  · have hl := (List.getElem?_eq_some_iff.1 ha).1
    simp at hl
    have := par_lt h0
    rw [List.getElem?_append_left (by omega)] at ha hb
    exact hH j a b h0 ha hb
  · have hl := (List.getElem?_eq_some_iff.1 ha).1
    simp at hl
    have := par_lt h0
    omega
theorem PushInv.step {L : List ι} {x : ι} {at_ i : Nat} {M : List ι} (h : PushInv A L x at_ M i) (hlt : at_ < i) : ∃ y, M[par i]? = some y ∧ PushInv A L x at_ (M.set i y) (par i) := by
  obtain ⟨h0, ⟨y, hy, hxy⟩, hw⟩ := h.way.next hlt
  have hp := par_lt h0
  have hM : M[par i]? = some y := by
    rw [h.old _ (by omega), List.getElem?_append_left (by have := h.ile; omega)]; exact hy
  have hil : i < M.length := by rw [h.len]; have := h.ile; omega
  refine ⟨y, hM, hw, by rw [List.length_set]; exact h.len, by have := h.ile; omega, fun j hj => ?_, (swap_perm x hil hM (by omega)).trans h.perm, fun hA hH => ?_⟩
  · rw [List.getElem?_set_ne (by omega)]; exact h.old j (by omega)
  · obtain ⟨H1, H2⟩ := h.hp hA hH
    have hpl : par i < (M.set i y).length := by rw [List.length_set]; omega
    -- the cells of both lists
    have eo : ∀ j, j ≠ i → j ≠ par i → ((M.set i y).set (par i) x)[j]? = (M.set i x)[j]? := fun j h1 h2 => by
      rw [List.getElem?_set_ne (Ne.symm h2), List.getElem?_set_ne (Ne.symm h1), List.getElem?_set_ne (Ne.symm h1)]
    have ep : ((M.set i y).set (par i) x)[par i]? = some x := by rw [List.getElem?_set_self hpl]
    have ei : ((M.set i y).set (par i) x)[i]? = some y := by rw [List.getElem?_set_ne (by omega), List.getElem?_set_self hil]
    have np : (M.set i x)[par i]? = some y := by rw [List.getElem?_set_ne (by omega)]; exact hM
    have le1 : A y x = false := hA.2 _ _ hxy
    refine ⟨fun j a b hj hne ha hb => ?_, fun j a b hj hpj hp0 ha hb => ?_⟩
    · by_cases hji : j = i
      · subst hji
        rw [ei] at ha; rw [ep] at hb; cases ha; cases hb
        exact le1
      · rw [eo j hji hne] at ha
        by_cases h1 : par j = par i
        · rw [h1, ep] at hb; cases hb
          exact hA.1 _ _ _ le1 (H1 j a y hj hji ha (by rw [h1]; exact np))
        · by_cases h2 : par j = i
          · rw [h2, ei] at hb; cases hb
            exact H2 j a y hj h2 h0 ha np
          · rw [eo _ h2 h1] at hb
            exact H1 j a b hj hji ha hb
    · have hpp := par_lt hp0
      rw [eo _ (by omega) (by omega)] at hb
      have hyb : A y b = false := H1 (par i) y b hp0 (by omega) np hb
      by_cases hji : j = i
      · subst hji
        rw [ei] at ha; cases ha
        exact hyb
      · have hjp : j ≠ par i := by intro e; have := par_lt hj; omega
        rw [eo j hji hjp] at ha
        exact hA.1 _ _ _ hyb (H1 j a y hj hji ha (by rw [hpj]; exact np))
theorem PushInv.done {L : List ι} {x : ι} {at_ : Nat} {M : List ι} (h : PushInv A L x at_ M at_) (he : at_ = 0 ∨ ∃ y, L[par at_]? = some y ∧ A x y = false) : (M.set at_ x).Perm (L ++ [x]) ∧ (Tot A → Heapy A L → Heapy A (M.set at_ x)) := by
  refine ⟨h.perm, fun hA hH j a b hj ha hb => ?_⟩
  obtain ⟨H1, _⟩ := h.hp hA hH
  by_cases e : j = at_
  · subst e
    rcases he with he | ⟨y, hy, hxy⟩
    · omega
    · have hp := par_lt hj
      have hl := h.ile
      rw [List.getElem?_set_self (by rw [h.len]; omega)] at ha
      rw [List.getElem?_set_ne (by omega), h.old _ (by omega), List.getElem?_append_left (by omega), hy] at hb
      cases ha; cases hb
      exact hxy
  · exact H1 j a b hj e ha hb

/-- Pop: what is known of a place on the way down. -/
def QD (A : ι → ι → Bool) (M0 : List ι) (s : ι) (i : Nat) : Prop :=
  i < M0.length ∧ (Tot A → ∀ x, M0[i]? = some x → A s x = false ∧ ∀ j y, 0 < j → par j = par i → M0[j]? = some y → A y x = false)
/-- The lesser of the two below. -/
def Pick (A : ι → ι → Bool) (M0 : List ι) (at_ c : Nat) (x : ι) : Prop :=
  M0[c]? = some x ∧ ((c = 2 * at_ + 1 ∧ ∀ y, M0[2 * at_ + 2]? = some y → A y x = false) ∨ (c = 2 * at_ + 2 ∧ ∃ y, M0[2 * at_ + 1]? = some y ∧ A x y = true))
theorem Pick.par {M0 : List ι} {at_ c : Nat} {x : ι} (h : Pick A M0 at_ c x) : 0 < c ∧ Hp.par c = at_ := by
  have h0 : 0 < c := by rcases h.2 with ⟨h, _⟩ | ⟨h, _⟩ <;> omega
  exact ⟨h0, (par_eq h0).2 (by rcases h.2 with ⟨h, _⟩ | ⟨h, _⟩; exact Or.inl h; exact Or.inr h)⟩
theorem Pick.least {M0 : List ι} {at_ c : Nat} {x : ι} (hA : Tot A) (h : Pick A M0 at_ c x) {j : Nat} {y : ι} (h0 : 0 < j) (hj : Hp.par j = at_) (hy : M0[j]? = some y) : A y x = false := by
  obtain ⟨hx, h⟩ := h
  rcases (par_eq h0).1 hj with e | e
  · rcases h with ⟨rfl, _⟩ | ⟨_, z, hz, hxz⟩
    · rw [← e, hy] at hx; cases hx; exact hA.self _
    · rw [← e, hy] at hz; cases hz; exact hA.2 _ _ hxz
  · rcases h with ⟨_, h⟩ | ⟨rfl, _⟩
    · exact h y (by rw [← e]; exact hy)
    · rw [← e, hy] at hx; cases hx; exact hA.self _
/-- What is known of a place at which the search stands. -/
structure Dn (A : ι → ι → Bool) (M0 : List ι) (s : ι) (at_ : Nat) : Prop where
  lt : at_ = 0 ∨ at_ < M0.length
  way : Wy (QD A M0 s) at_ 0
/-- .. and ends. -/
def DnEnd (A : ι → ι → Bool) (M0 : List ι) (s : ι) (at_ : Nat) : Prop := Tot A → ∀ j y, 0 < j → par j = at_ → M0[j]? = some y → A y s = false
theorem Dn.step {M0 : List ι} {s x : ι} {at_ c : Nat} (h : Dn A M0 s at_) (hp : Pick A M0 at_ c x) (hx : A x s = true) : Dn A M0 s c := by
  obtain ⟨h0, hc⟩ := hp.par
  have hl := (List.getElem?_eq_some_iff.1 hp.1).1
  refine ⟨Or.inr hl, .step h0 ⟨hl, fun hA z hz => ?_⟩ (by rw [hc]; exact h.way)⟩
  rw [hp.1] at hz; cases hz
  exact ⟨hA.2 _ _ hx, fun j y hj he hy => hp.least hA hj (he.trans hc) hy⟩
theorem Dn.stop {M0 : List ι} {s x : ι} {at_ c : Nat} (hp : Pick A M0 at_ c x) (hx : A x s = false) : DnEnd A M0 s at_ := by
  intro hA j y hj he hy
  exact hA.1 _ _ _ hx (hp.least hA hj he hy)
theorem Dn.none {M0 : List ι} {s : ι} {at_ : Nat} (h : M0.length ≤ 2 * at_ + 1) : DnEnd A M0 s at_ := by
  intro _ j y hj he hy
  have hl := (List.getElem?_eq_some_iff.1 hy).1
  rcases (par_eq hj).1 he with e | e <;> omega

structure PopInv (A : ι → ι → Bool) (M0 : List ι) (s : ι) (M : List ι) (i : Nat) (mv : ι) : Prop where
  way : Wy (QD A M0 s) i 0
  len : M.length = M0.length
  ilt : i < M0.length
  old : ∀ j, j ≤ 2 * i → M[j]? = M0[j]?
  perm : (mv :: M).Perm (s :: M0)
  hp : Tot A → Heapy A M0 → (∀ j a b, 0 < j → j ≠ i → (M.set i mv)[j]? = some a → (M.set i mv)[par j]? = some b → A a b = false) ∧ (0 < i → ∀ y, M[i]? = some y → A mv y = false)
theorem PopInv.init {M0 : List ι} {s : ι} {at_ : Nat} (h : Dn A M0 s at_) (he : DnEnd A M0 s at_) (hm : 0 < M0.length) : PopInv A M0 s M0 at_ s := by
  have hlt : at_ < M0.length := by rcases h.lt with h | h <;> omega
  refine ⟨h.way, rfl, hlt, fun _ _ => rfl, List.Perm.refl _, fun hA hH => ⟨fun j a b hj hne ha hb => ?_, fun h0 y hy => ?_⟩⟩
  · rw [List.getElem?_set_ne (Ne.symm hne)] at ha
    by_cases e : par j = at_
    · rw [e, List.getElem?_set_self hlt] at hb; cases hb
      exact he hA j a hj e ha
    · rw [List.getElem?_set_ne (Ne.symm e)] at hb
      exact hH j a b hj ha hb
  · exact ((h.way.next h0).2.1.2 hA y hy).1
theorem PopInv.step {M0 : List ι} {s mv : ι} {i : Nat} {M : List ι} (h : PopInv A M0 s M i mv) (h0 : 0 < i) : ∃ y, M[i]? = some y ∧ PopInv A M0 s (M.set i mv) (par i) y := by
  obtain ⟨_, hq, hw⟩ := h.way.next h0
  have hp := par_lt h0
  have hil : i < M.length := by rw [h.len]; exact h.ilt
  obtain ⟨y, hy⟩ : ∃ y, M[i]? = some y := ⟨M[i], by rw [List.getElem?_eq_getElem]⟩
  have hy0 : M0[i]? = some y := by rw [← h.old i (by omega)]; exact hy
  have hpp : 2 * par i + 1 ≤ i := by unfold par; omega
  refine ⟨y, hy, hw, by rw [List.length_set]; exact h.len, by have := h.ilt; omega, fun j hj => ?_, (set_perm mv hy).trans h.perm, fun hA hH => ?_⟩
  · rw [List.getElem?_set_ne (by omega)]; exact h.old j (by omega)
  · obtain ⟨H1, H2⟩ := h.hp hA hH
    have hpl : par i < (M.set i mv).length := by rw [List.length_set]; omega
    have ep : ((M.set i mv).set (par i) y)[par i]? = some y := by rw [List.getElem?_set_self hpl]
    have eo : ∀ j, j ≠ par i → ((M.set i mv).set (par i) y)[j]? = (M.set i mv)[j]? := fun j h1 => List.getElem?_set_ne (Ne.symm h1)
    refine ⟨fun j a b hj hne ha hb => ?_, fun hp0 z hz => ?_⟩
    · rw [eo j hne] at ha
      by_cases h1 : par j = par i
      · rw [h1, ep] at hb; cases hb
        by_cases hji : j = i
        · subst hji
          rw [List.getElem?_set_self hil] at ha; cases ha
          exact H2 h0 y hy
        · have hj2 : j ≤ 2 * i := by
            rcases (par_eq hj).1 h1 with e | e <;> omega
          rw [List.getElem?_set_ne (Ne.symm hji), h.old j hj2] at ha
          exact (hq.2 hA y hy0).2 j a hj h1 ha
      · rw [eo _ h1] at hb
        by_cases hji : j = i
        · subst hji; exact absurd rfl h1
        · exact H1 j a b hj hji ha hb
    · rw [List.getElem?_set_ne (by omega), h.old _ (by omega)] at hz
      exact hH i y z h0 hy0 hz
theorem PopInv.done {M0 : List ι} {s mv : ι} {M : List ι} (h : PopInv A M0 s M 0 mv) : (∃ t, M0[0]? = some t ∧ (t :: M.set 0 mv).Perm (s :: M0)) ∧ (Tot A → Heapy A M0 → Heapy A (M.set 0 mv)) := by
  refine ⟨?_, fun hA hH j a b hj ha hb => (h.hp hA hH).1 j a b hj (by omega) ha hb⟩
  have hl := h.ilt
  obtain ⟨t, ht⟩ : ∃ t, M0[0]? = some t := ⟨M0[0], by rw [List.getElem?_eq_getElem]⟩
  exact ⟨t, ht, (set_perm mv ((h.old 0 (by omega)).trans ht)).trans h.perm⟩
theorem Heapy.take {L : List ι} (h : Heapy A L) (n : Nat) : Heapy A (L.take n) := by
  intro i x y h0 hx hy
  rw [List.getElem?_take] at hx hy
  split at hx
  · split at hy
    · exact h i x y h0 hx hy
    · cases hy
  · cases hx
end Go.Proofs.Ytpcamjmfddnglaa.Hp
