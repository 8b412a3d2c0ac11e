import Derived.Test.YtdnnfgabdkkdjaaGreatJ1
import Derived.Test.YtdnnfgabdkkdjaaGreatGHang
import Derived.WalkKit
namespace Go.Proofs.YtdnnfgabdkkdjaaGreat.Df
open Go.RowKit Go.Sort
structure LV where
 q : Option Addr
 m : Nat
 c : Nat
abbrev LV.v (x : LV) : Value := .slice x.q x.m x.c
def EL : El LV where
 k := 1
 enc x := [x.v]
 len _ := rfl
 one x u hu := by
  simp at hu
  subst hu
  rfl
theorem ls_atL {w : World} {v : Value} {ts : List LV} (h : Ls EL w v ts) {j : Nat} {x : LV} (hj : ts[j]? = some x) : ∃ b off c, v = .slice (some ⟨b, off, none⟩) ts.length c ∧ b < w.heap.size ∧ w.cell? ⟨b, off + j, none⟩ = some x.v := by
 obtain ⟨b, off, c, hv, hb, hc⟩ := h.get hj
 have h0 := hc 0 _ (by decide) rfl
 simp only [show EL.k = 1 from rfl, Nat.mul_one, Nat.add_zero] at h0
 exact ⟨b, off, c, hv, hb, h0⟩
def Ff (M : Nat) (w : World) (v : Value) (ls : List (List Int)) : Prop := ∃ vs : List LV, Lz EL M w v vs ∧ vs.length = ls.length ∧ ∀ (i : Nat) (x : LV) (l : List Int), vs[i]? = some x → ls[i]? = some l → Lz EI M w x.v l
section
variable {M : Nat} {w w' : World} {v : Value} {ls : List (List Int)}
theorem Ff.form (h : Ff M w v ls) : ∃ p c, v = .slice p ls.length c := by
 obtain ⟨vs, h1, h2, _⟩ := h
 rw [← h2]
 exact h1.form
theorem Ff.at (h : Ff M w v ls) {i : Nat} {l : List Int} (hl : ls[i]? = some l) : ∃ b off c q c2, v = .slice (some ⟨b, off, none⟩) ls.length c ∧ b < w.heap.size ∧ w.cell? ⟨b, off + i, none⟩ = some (.slice q l.length c2) ∧ Lz EI M w (.slice q l.length c2) l := by
 obtain ⟨vs, h1, h2, h3⟩ := h
 have hi := (List.getElem?_eq_some_iff.1 hl).1
 obtain ⟨x, hx⟩ : ∃ x, vs[i]? = some x := ⟨vs[i]'(by omega), by simp⟩
 have hz := h3 i x l hx hl
 obtain ⟨b, off, c, hv, hb, hc⟩ := ls_atL (h1.ls hx) hx
 obtain ⟨q, c2, hq⟩ := hz.form
 rw [hq] at hc hz
 exact ⟨b, off, c, q, c2, by rw [hv, h2], hb, hc, hz⟩
end
def cntL (ls : List (List Int)) (x : Int) : Nat := (ls.map fun l => l.count x).sum
theorem cntL_append (a b : List (List Int)) (x : Int) : cntL (a ++ b) x = cntL a x + cntL b x := by simp [cntL]
end Go.Proofs.YtdnnfgabdkkdjaaGreat.Df

namespace Go.Proofs.YtdnnfgabdkkdjaaGreat.Hp
variable {ι : Type} {A : ι → ι → Bool}
def par (i : Nat) : Nat := (i - 1) / 2
theorem par_lt {i : Nat} (h : 0 < i) : par i < i := by unfold par; omega
theorem par_eq {i j : Nat} (h : 0 < j) : par j = i ↔ j = 2 * i + 1 ∨ j = 2 * i + 2 := by unfold par; omega
def Tot (A : ι → ι → Bool) : Prop := (∀ a b c, A b a = false → A c b = false → A c a = false) ∧ ∀ a b, A a b = true → A b a = false
theorem Tot.self (h : Tot A) (a : ι) : A a a = false := by
 cases e : A a a with
 | false => rfl
 | true => exact e.symm.trans (h.2 a a e)
def Heapy (A : ι → ι → Bool) (L : List ι) : Prop := ∀ i x y, 0 < i → L[i]? = some x → L[par i]? = some y → A x y = false
theorem Heapy.top (hA : Tot A) {L : List ι} (h : Heapy A L) {t : ι} (ht : L[0]? = some t) : ∀ (i : Nat) (x : ι), L[i]? = some x → A x t = false := by
 intro i
 induction i using Nat.strongRecOn with
 | ind i ih =>
  intro x hx
  by_cases h0 : i = 0
  ·subst h0; rw [ht] at hx; cases hx; exact hA.self t
  ·have hp := par_lt (Nat.pos_of_ne_zero h0)
   have hl := (List.getElem?_eq_some_iff.1 hx).1
   obtain ⟨y, hy⟩ : ∃ y, L[par i]? = some y := ⟨L[par i]'(by omega), by rw [List.getElem?_eq_getElem]⟩
   exact hA.1 _ _ _ (ih _ hp y hy) (h i x y (Nat.pos_of_ne_zero h0) hx hy)
inductive Wy (Q : Nat → Prop) : Nat → Nat → Prop
 | refl (i : Nat) : Wy Q i i
 | step {i a : Nat} : 0 < i → Q i → Wy Q (par i) a → Wy Q i a
variable {Q : Nat → Prop}
theorem Wy.snoc {n i : Nat} (h : Wy Q n i) (h0 : 0 < i) (hq : Q i) : Wy Q n (par i) := by
 induction h with
 | refl i => exact .step h0 hq (.refl _)
 | step a b _ ih => exact .step a b (ih h0 hq)
theorem Wy.le {i a : Nat} (h : Wy Q i a) : a ≤ i := by
 induction h with
 | refl i => exact Nat.le_refl _
 | step h0 _ _ ih => have := par_lt h0; omega
theorem Wy.next {i a : Nat} (h : Wy Q i a) (hl : a < i) : 0 < i ∧ Q i ∧ Wy Q (par i) a := by
 cases h with
 | refl => omega
 | step a b c => exact ⟨a, b, c⟩
theorem set_perm {L : List ι} {i : Nat} {y : ι} (x : ι) (h : L[i]? = some y) : (y :: L.set i x).Perm (x :: L) := by
 induction L generalizing i with
 | nil => simp at h
 | cons a L ih =>
  cases i with
  | zero => simp at h; subst h; simp only [List.set_cons_zero]; exact List.Perm.swap _ _ _
  | succ i =>
   simp only [List.set_cons_succ]
   exact (List.Perm.swap _ _ _).trans (((ih (by simpa using h)).cons a).trans (List.Perm.swap _ _ _))
theorem swap_perm {M : List ι} {i p : Nat} {y : ι} (x : ι) (hi : i < M.length) (hp : M[p]? = some y) (hne : i ≠ p) : ((M.set i y).set p x).Perm (M.set i x) := by
 have h1 : (y :: (M.set i y).set p x).Perm (x :: M.set i y) := set_perm x (by rw [List.getElem?_set_ne hne]; exact hp)
 have hz : M[i]? = some M[i] := by rw [List.getElem?_eq_getElem]
 have h2 : (M[i] :: M.set i y).Perm (y :: M) := set_perm y hz
 have h3 : (M[i] :: M.set i x).Perm (x :: M) := set_perm x hz
 refine List.Perm.cons_inv (a := y) (List.Perm.cons_inv (a := M[i]) ?_)
 refine (h1.cons _).trans ((List.Perm.swap _ _ _).trans ((h2.cons x).trans ((List.Perm.swap _ _ _).trans ((h3.symm.cons y).trans (List.Perm.swap _ _ _)))))
def QU (A : ι → ι → Bool) (L : List ι) (x : ι) (i : Nat) : Prop := ∃ y, L[par i]? = some y ∧ A x y = true
def HH (A : ι → ι → Bool) (N : List ι) (i : Nat) : Prop :=
 (∀ j a b, 0 < j → j ≠ i → N[j]? = some a → N[par j]? = some b → A a b = false) ∧ ∀ j a b, 0 < j → par j = i → 0 < i → N[j]? = some a → N[par i]? = some b → A a b = false
structure PushInv (A : ι → ι → Bool) (L : List ι) (x : ι) (at_ : Nat) (M : List ι) (i : Nat) : Prop where
 way : Wy (QU A L x) i at_
 len : M.length = L.length + 1
 ile : i ≤ L.length
 old : ∀ j, j ≤ i → M[j]? = (L ++ [x])[j]?
 perm : (M.set i x).Perm (L ++ [x])
 hp : Tot A → Heapy A L → HH A (M.set i x) i
theorem PushInv.init {L : List ι} {x : ι} {at_ : Nat} (h : Wy (QU A L x) L.length at_) : PushInv A L x at_ (L ++ [x]) L.length := by
 have e : (L ++ [x]).set L.length x = L ++ [x] := by rw [List.set_append_right _ _ (Nat.le_refl _)]; simp
 refine ⟨h, by simp, Nat.le_refl _, fun _ _ => rfl, by rw [e], fun hA hH => ?_⟩
 rw [e]
 refine ⟨fun j a b h0 hne ha hb => ?_, fun j a b h0 hp _ ha _ => ?_⟩
 ·have hl := (List.getElem?_eq_some_iff.1 ha).1
  simp at hl
  have := par_lt h0
  rw [List.getElem?_append_left (by omega)] at ha hb
  exact hH j a b h0 ha hb
 ·have hl := (List.getElem?_eq_some_iff.1 ha).1
  simp at hl
  have := par_lt h0
  omega
theorem PushInv.step {L : List ι} {x : ι} {at_ i : Nat} {M : List ι} (h : PushInv A L x at_ M i) (hlt : at_ < i) : ∃ y, M[par i]? = some y ∧ PushInv A L x at_ (M.set i y) (par i) := by
 obtain ⟨h0, ⟨y, hy, hxy⟩, hw⟩ := h.way.next hlt
 have hp := par_lt h0
 have hM : M[par i]? = some y := by
  rw [h.old _ (by omega), List.getElem?_append_left (by have := h.ile; omega)]; exact hy
 have hil : i < M.length := by rw [h.len]; have := h.ile; omega
 refine ⟨y, hM, hw, by rw [List.length_set]; exact h.len, by have := h.ile; omega, fun j hj => ?_, (swap_perm x hil hM (by omega)).trans h.perm, fun hA hH => ?_⟩
 ·rw [List.getElem?_set_ne (by omega)]; exact h.old j (by omega)
 ·obtain ⟨H1, H2⟩ := h.hp hA hH
  have hpl : par i < (M.set i y).length := by rw [List.length_set]; omega
  have eo : ∀ j, j ≠ i → j ≠ par i → ((M.set i y).set (par i) x)[j]? = (M.set i x)[j]? := fun j h1 h2 => by
   rw [List.getElem?_set_ne (Ne.symm h2), List.getElem?_set_ne (Ne.symm h1), List.getElem?_set_ne (Ne.symm h1)]
  have ep : ((M.set i y).set (par i) x)[par i]? = some x := by rw [List.getElem?_set_self hpl]
  have ei : ((M.set i y).set (par i) x)[i]? = some y := by rw [List.getElem?_set_ne (by omega), List.getElem?_set_self hil]
  have np : (M.set i x)[par i]? = some y := by rw [List.getElem?_set_ne (by omega)]; exact hM
  have le1 : A y x = false := hA.2 _ _ hxy
  refine ⟨fun j a b hj hne ha hb => ?_, fun j a b hj hpj hp0 ha hb => ?_⟩
  ·by_cases hji : j = i
   ·subst hji
    rw [ei] at ha; rw [ep] at hb; cases ha; cases hb
    exact le1
   ·rw [eo j hji hne] at ha
    by_cases h1 : par j = par i
    ·rw [h1, ep] at hb; cases hb
     exact hA.1 _ _ _ le1 (H1 j a y hj hji ha (by rw [h1]; exact np))
    ·by_cases h2 : par j = i
     ·rw [h2, ei] at hb; cases hb
      exact H2 j a y hj h2 h0 ha np
     ·rw [eo _ h2 h1] at hb
      exact H1 j a b hj hji ha hb
  ·have hpp := par_lt hp0
   rw [eo _ (by omega) (by omega)] at hb
   have hyb : A y b = false := H1 (par i) y b hp0 (by omega) np hb
   by_cases hji : j = i
   ·subst hji
    rw [ei] at ha; cases ha
    exact hyb
   ·have hjp : j ≠ par i := by intro e; have := par_lt hj; omega
    rw [eo j hji hjp] at ha
    exact hA.1 _ _ _ hyb (H1 j a y hj hji ha (by rw [hpj]; exact np))
theorem PushInv.done {L : List ι} {x : ι} {at_ : Nat} {M : List ι} (h : PushInv A L x at_ M at_) (he : at_ = 0 ∨ ∃ y, L[par at_]? = some y ∧ A x y = false) : (M.set at_ x).Perm (L ++ [x]) ∧ (Tot A → Heapy A L → Heapy A (M.set at_ x)) := by
 refine ⟨h.perm, fun hA hH j a b hj ha hb => ?_⟩
 obtain ⟨H1, _⟩ := h.hp hA hH
 by_cases e : j = at_
 ·subst e
  rcases he with he | ⟨y, hy, hxy⟩
  ·omega
  ·have hp := par_lt hj
   have hl := h.ile
   rw [List.getElem?_set_self (by rw [h.len]; omega)] at ha
   rw [List.getElem?_set_ne (by omega), h.old _ (by omega), List.getElem?_append_left (by omega), hy] at hb
   cases ha; cases hb
   exact hxy
 ·exact H1 j a b hj e ha hb
def QD (A : ι → ι → Bool) (M0 : List ι) (s : ι) (i : Nat) : Prop :=
 i < M0.length ∧ (Tot A → ∀ x, M0[i]? = some x → A s x = false ∧ ∀ j y, 0 < j → par j = par i → M0[j]? = some y → A y x = false)
def Pick (A : ι → ι → Bool) (M0 : List ι) (at_ c : Nat) (x : ι) : Prop :=
 M0[c]? = some x ∧ ((c = 2 * at_ + 1 ∧ ∀ y, M0[2 * at_ + 2]? = some y → A y x = false) ∨ (c = 2 * at_ + 2 ∧ ∃ y, M0[2 * at_ + 1]? = some y ∧ A x y = true))
theorem Pick.par {M0 : List ι} {at_ c : Nat} {x : ι} (h : Pick A M0 at_ c x) : 0 < c ∧ Hp.par c = at_ := by
 have h0 : 0 < c := by rcases h.2 with ⟨h, _⟩ | ⟨h, _⟩ <;> omega
 exact ⟨h0, (par_eq h0).2 (by rcases h.2 with ⟨h, _⟩ | ⟨h, _⟩; exact Or.inl h; exact Or.inr h)⟩
theorem Pick.least {M0 : List ι} {at_ c : Nat} {x : ι} (hA : Tot A) (h : Pick A M0 at_ c x) {j : Nat} {y : ι} (h0 : 0 < j) (hj : Hp.par j = at_) (hy : M0[j]? = some y) : A y x = false := by
 obtain ⟨hx, h⟩ := h
 rcases (par_eq h0).1 hj with e | e
 ·rcases h with ⟨rfl, _⟩ | ⟨_, z, hz, hxz⟩
  ·rw [← e, hy] at hx; cases hx; exact hA.self _
  ·rw [← e, hy] at hz; cases hz; exact hA.2 _ _ hxz
 ·rcases h with ⟨_, h⟩ | ⟨rfl, _⟩
  ·exact h y (by rw [← e]; exact hy)
  ·rw [← e, hy] at hx; cases hx; exact hA.self _
structure Dn (A : ι → ι → Bool) (M0 : List ι) (s : ι) (at_ : Nat) : Prop where
 lt : at_ = 0 ∨ at_ < M0.length
 way : Wy (QD A M0 s) at_ 0
def DnEnd (A : ι → ι → Bool) (M0 : List ι) (s : ι) (at_ : Nat) : Prop := Tot A → ∀ j y, 0 < j → par j = at_ → M0[j]? = some y → A y s = false
theorem Dn.step {M0 : List ι} {s x : ι} {at_ c : Nat} (h : Dn A M0 s at_) (hp : Pick A M0 at_ c x) (hx : A x s = true) : Dn A M0 s c := by
 obtain ⟨h0, hc⟩ := hp.par
 have hl := (List.getElem?_eq_some_iff.1 hp.1).1
 refine ⟨Or.inr hl, .step h0 ⟨hl, fun hA z hz => ?_⟩ (by rw [hc]; exact h.way)⟩
 rw [hp.1] at hz; cases hz
 exact ⟨hA.2 _ _ hx, fun j y hj he hy => hp.least hA hj (he.trans hc) hy⟩
theorem Dn.stop {M0 : List ι} {s x : ι} {at_ c : Nat} (hp : Pick A M0 at_ c x) (hx : A x s = false) : DnEnd A M0 s at_ := by
 intro hA j y hj he hy
 exact hA.1 _ _ _ hx (hp.least hA hj he hy)
theorem Dn.none {M0 : List ι} {s : ι} {at_ : Nat} (h : M0.length ≤ 2 * at_ + 1) : DnEnd A M0 s at_ := by
 intro _ j y hj he hy
 have hl := (List.getElem?_eq_some_iff.1 hy).1
 rcases (par_eq hj).1 he with e | e <;> omega
structure PopInv (A : ι → ι → Bool) (M0 : List ι) (s : ι) (M : List ι) (i : Nat) (mv : ι) : Prop where
 way : Wy (QD A M0 s) i 0
 len : M.length = M0.length
 ilt : i < M0.length
 old : ∀ j, j ≤ 2 * i → M[j]? = M0[j]?
 perm : (mv :: M).Perm (s :: M0)
 hp : Tot A → Heapy A M0 → (∀ j a b, 0 < j → j ≠ i → (M.set i mv)[j]? = some a → (M.set i mv)[par j]? = some b → A a b = false) ∧ (0 < i → ∀ y, M[i]? = some y → A mv y = false)
theorem PopInv.init {M0 : List ι} {s : ι} {at_ : Nat} (h : Dn A M0 s at_) (he : DnEnd A M0 s at_) (hm : 0 < M0.length) : PopInv A M0 s M0 at_ s := by
 have hlt : at_ < M0.length := by rcases h.lt with h | h <;> omega
 refine ⟨h.way, rfl, hlt, fun _ _ => rfl, List.Perm.refl _, fun hA hH => ⟨fun j a b hj hne ha hb => ?_, fun h0 y hy => ?_⟩⟩
 ·rw [List.getElem?_set_ne (Ne.symm hne)] at ha
  by_cases e : par j = at_
  ·rw [e, List.getElem?_set_self hlt] at hb; cases hb
   exact he hA j a hj e ha
  ·rw [List.getElem?_set_ne (Ne.symm e)] at hb
   exact hH j a b hj ha hb
 ·exact ((h.way.next h0).2.1.2 hA y hy).1
theorem PopInv.step {M0 : List ι} {s mv : ι} {i : Nat} {M : List ι} (h : PopInv A M0 s M i mv) (h0 : 0 < i) : ∃ y, M[i]? = some y ∧ PopInv A M0 s (M.set i mv) (par i) y := by
 obtain ⟨_, hq, hw⟩ := h.way.next h0
 have hp := par_lt h0
 have hil : i < M.length := by rw [h.len]; exact h.ilt
 obtain ⟨y, hy⟩ : ∃ y, M[i]? = some y := ⟨M[i], by rw [List.getElem?_eq_getElem]⟩
 have hy0 : M0[i]? = some y := by rw [← h.old i (by omega)]; exact hy
 have hpp : 2 * par i + 1 ≤ i := by unfold par; omega
 refine ⟨y, hy, hw, by rw [List.length_set]; exact h.len, by have := h.ilt; omega, fun j hj => ?_, (set_perm mv hy).trans h.perm, fun hA hH => ?_⟩
 ·rw [List.getElem?_set_ne (by omega)]; exact h.old j (by omega)
 ·obtain ⟨H1, H2⟩ := h.hp hA hH
  have hpl : par i < (M.set i mv).length := by rw [List.length_set]; omega
  have ep : ((M.set i mv).set (par i) y)[par i]? = some y := by rw [List.getElem?_set_self hpl]
  have eo : ∀ j, j ≠ par i → ((M.set i mv).set (par i) y)[j]? = (M.set i mv)[j]? := fun j h1 => List.getElem?_set_ne (Ne.symm h1)
  refine ⟨fun j a b hj hne ha hb => ?_, fun hp0 z hz => ?_⟩
  ·rw [eo j hne] at ha
   by_cases h1 : par j = par i
   ·rw [h1, ep] at hb; cases hb
    by_cases hji : j = i
    ·subst hji
     rw [List.getElem?_set_self hil] at ha; cases ha
     exact H2 h0 y hy
    ·have hj2 : j ≤ 2 * i := by
       rcases (par_eq hj).1 h1 with e | e <;> omega
     rw [List.getElem?_set_ne (Ne.symm hji), h.old j hj2] at ha
     exact (hq.2 hA y hy0).2 j a hj h1 ha
   ·rw [eo _ h1] at hb
    by_cases hji : j = i
    ·subst hji; exact absurd rfl h1
    ·exact H1 j a b hj hji ha hb
  ·rw [List.getElem?_set_ne (by omega), h.old _ (by omega)] at hz
   exact hH i y z h0 hy0 hz
theorem PopInv.done {M0 : List ι} {s mv : ι} {M : List ι} (h : PopInv A M0 s M 0 mv) : (∃ t, M0[0]? = some t ∧ (t :: M.set 0 mv).Perm (s :: M0)) ∧ (Tot A → Heapy A M0 → Heapy A (M.set 0 mv)) := by
 refine ⟨?_, fun hA hH j a b hj ha hb => (h.hp hA hH).1 j a b hj (by omega) ha hb⟩
 have hl := h.ilt
 obtain ⟨t, ht⟩ : ∃ t, M0[0]? = some t := ⟨M0[0], by rw [List.getElem?_eq_getElem]⟩
 exact ⟨t, ht, (set_perm mv ((h.old 0 (by omega)).trans ht)).trans h.perm⟩
theorem Heapy.take {L : List ι} (h : Heapy A L) (n : Nat) : Heapy A (L.take n) := by
 intro i x y h0 hx hy
 rw [List.getElem?_take] at hx hy
 split at hx
 ·split at hy
  ·exact h i x y h0 hx hy
  ·cases hy
 ·cases hx
end Go.Proofs.YtdnnfgabdkkdjaaGreat.Hp

namespace Go.Proofs.YtdnnfgabdkkdjaaGreat.Pt
structure Px (α : Type) where
 ahd : α → α → Prop
 tld : α → α → Prop
 thn : α → α → Option α
 z : α
structure Px.Ok {α : Type} (X : Px α) : Prop where
 refl : ∀ a, X.ahd a a
 trans : ∀ {a b c}, X.ahd a b → X.ahd b c → X.ahd a c
 told : ∀ {a b}, X.ahd a b → a = b ∨ X.tld a b
 tt : ∀ {a b c}, X.tld a b → X.tld b c → X.tld a c
 irr : ∀ a, ¬ X.tld a a
 tot : ∀ a b, X.tld a b ∨ a = b ∨ X.tld b a
 mono : ∀ {a b c d}, X.ahd a b → X.thn b c = some d → ∃ e, X.thn a c = some e ∧ X.ahd e d
 up : ∀ {a b c}, X.thn a b = some c → X.ahd a c
section
variable {α : Type} {X : Px α} {St : Nat → Nat → α → Prop} {p : Nat}
inductive Wy (X : Px α) (St : Nat → Nat → α → Prop) (p : Nat) : Nat → α → Prop
 | nil : Wy X St p p X.z
 | step {q q' : Nat} {a b c : α} : Wy X St p q a → St q q' b → X.thn a b = some c → Wy X St p q' c
def Lea (X : Px α) (St : Nat → Nat → α → Prop) (p q : Nat) (a : α) : Prop := Wy X St p q a ∧ ∀ b, Wy X St p q b → X.ahd b a → b = a
def Cov (X : Px α) (l : List α) (a : α) : Prop := ∃ x ∈ l, X.ahd x a
structure Iv (X : Px α) (St : Nat → Nat → α → Prop) (p : Nat) (rows : Nat → List α) (opn : List (Nat × α)) : Prop where
 rw : ∀ q a, a ∈ rows q → Wy X St p q a
 ow : ∀ q a, (q, a) ∈ opn → Wy X St p q a
 st : Cov X (rows p) X.z ∨ (p, X.z) ∈ opn
 sp : ∀ q a, a ∈ rows q → ∀ q' b c, St q q' b → X.thn a b = some c → Cov X (rows q') c ∨ (q', c) ∈ opn
 ls : ∀ q a, a ∈ rows q → ∀ b, Wy X St p q b → X.ahd b a → b = a
 so : ∀ q, (rows q).Pairwise X.tld
 lo : ∀ q a, a ∈ rows q → ∀ q' b, (q', b) ∈ opn → ¬ X.tld b a
theorem Cov.trans (hX : X.Ok) {l : List α} {a b : α} (h : Cov X l a) (hab : X.ahd a b) : Cov X l b := by
 obtain ⟨x, hx, hxa⟩ := h
 exact ⟨x, hx, hX.trans hxa hab⟩
theorem Cov.sub {l m : List α} {a : α} (h : Cov X l a) (hs : ∀ x ∈ l, x ∈ m) : Cov X m a := by
 obtain ⟨x, hx, hxa⟩ := h
 exact ⟨x, hs x hx, hxa⟩
theorem Iv.init : Iv X St p (fun _ => []) [(p, X.z)] :=
 ⟨fun _ _ h => by simp at h, fun q a h => by simp at h; obtain ⟨rfl, rfl⟩ := h; exact .nil, Or.inr (by simp), fun _ _ h => by simp at h, fun _ _ h => by simp at h, fun _ => List.Pairwise.nil, fun _ _ h => by simp at h⟩
theorem Iv.done (hX : X.Ok) {rows : Nat → List α} {opn : List (Nat × α)} (h : Iv X St p rows opn) {w : α} (hw : ∀ q b, (q, b) ∈ opn → ¬ X.tld b w) {q : Nat} {u : α} (hu : Wy X St p q u) : X.tld u w → Cov X (rows q) u := by
 induction hu with
 | nil =>
  intro ht
  rcases h.st with h1 | h1
  ·exact h1
  ·exact absurd ht (hw _ _ h1)
 | @step q q' a b c ha hs hc ih =>
  intro ht
  have h1 : X.tld a w := (hX.told (hX.up hc)).elim (fun e => e ▸ ht) (fun e => hX.tt e ht)
  obtain ⟨x, hx, hxa⟩ := ih h1
  obtain ⟨e, he, hec⟩ := hX.mono hxa hc
  rcases h.sp q x hx q' b e hs he with h2 | h2
  ·exact h2.trans hX hec
  ·exact absurd ((hX.told hec).elim (fun k => k ▸ ht) (fun k => hX.tt k ht)) (hw _ _ h2)
theorem Iv.all (hX : X.Ok) {rows : Nat → List α} (h : Iv X St p rows []) {q : Nat} {u : α} (hu : Wy X St p q u) : Cov X (rows q) u := by
 induction hu with
 | nil =>
  rcases h.st with h1 | h1
  ·exact h1
  ·simp at h1
 | @step q q' a b c ha hs hc ih =>
  obtain ⟨x, hx, hxa⟩ := ih
  obtain ⟨e, he, hec⟩ := hX.mono hxa hc
  rcases h.sp q x hx q' b e hs he with h2 | h2
  ·exact h2.trans hX hec
  ·simp at h2
theorem Iv.skip {rows : Nat → List α} {opn rest : List (Nat × α)} {q0 : Nat} {w : α} (h : Iv X St p rows opn) (h1 : ∀ x ∈ opn, x = (q0, w) ∨ x ∈ rest) (h2 : ∀ x ∈ rest, x ∈ opn) (hc : Cov X (rows q0) w) : Iv X St p rows rest := by
 refine ⟨h.rw, fun q a ha => h.ow q a (h2 _ ha), ?_, fun q a ha q' b c hs hb => ?_, h.ls, h.so, fun q a ha q' b hb => h.lo q a ha q' b (h2 _ hb)⟩
 ·rcases h.st with k | k
  ·exact Or.inl k
  ·rcases h1 _ k with e | e
   ·simp only [Prod.mk.injEq] at e
    exact Or.inl (by rw [e.1, e.2]; exact hc)
   ·exact Or.inr e
 ·rcases h.sp q a ha q' b c hs hb with k | k
  ·exact Or.inl k
  ·rcases h1 _ k with e | e
   ·simp only [Prod.mk.injEq] at e
    exact Or.inl (by rw [e.1, e.2]; exact hc)
   ·exact Or.inr e
def put1 (rows : Nat → List α) (q0 : Nat) (w : α) : Nat → List α := fun q => if q = q0 then rows q ++ [w] else rows q
theorem mem_put1 {rows : Nat → List α} {q0 q : Nat} {w a : α} : a ∈ put1 rows q0 w q ↔ a ∈ rows q ∨ q = q0 ∧ a = w := by
 unfold put1
 split
 ·rename_i e; simp [e]
 ·rename_i e; simp [e]
theorem Iv.take (hX : X.Ok) {rows : Nat → List α} {opn rest opn' : List (Nat × α)} {q0 : Nat} {w : α} (h : Iv X St p rows opn) (hm : (q0, w) ∈ opn) (hf : ∀ q b, (q, b) ∈ opn → ¬ X.tld b w) (h1 : ∀ x ∈ opn, x = (q0, w) ∨ x ∈ rest) (h2 : ∀ x ∈ rest, x ∈ opn) (hc : ¬ Cov X (rows q0) w)
    (h3 : ∀ x ∈ rest, x ∈ opn') (h4 : ∀ q c, (q, c) ∈ opn' → (q, c) ∈ rest ∨ ∃ b, St q0 q b ∧ X.thn w b = some c) (h5 : ∀ q b c, St q0 q b → X.thn w b = some c → Cov X (put1 rows q0 w q) c ∨ (q, c) ∈ opn') : Iv X St p (put1 rows q0 w) opn' := by
 have hsub : ∀ q, ∀ x ∈ rows q, x ∈ put1 rows q0 w q := fun q x hx => mem_put1.2 (Or.inl hx)
 have hself : Cov X (put1 rows q0 w q0) w := ⟨w, mem_put1.2 (Or.inr ⟨rfl, rfl⟩), hX.refl w⟩
 have hww := h.ow q0 w hm
 have hlow : ∀ q a, a ∈ rows q → ∀ q' c b, St q0 q' b → X.thn w b = some c → ¬ X.tld c a := fun q a ha q' c b hs hb ht => by
  rcases hX.told (hX.up hb) with e | e
  ·exact h.lo q a ha q0 w hm (e ▸ ht)
  ·exact h.lo q a ha q0 w hm (hX.tt e ht)
 refine ⟨fun q a ha => ?_, fun q c hqc => ?_, ?_, fun q a ha q' b c hs hb => ?_, fun q a ha b hb hba => ?_, fun q => ?_, fun q a ha q' c hqc => ?_⟩
 ·rcases mem_put1.1 ha with k | ⟨rfl, rfl⟩
  ·exact h.rw q a k
  ·exact hww
 ·rcases h4 q c hqc with k | ⟨b, hs, hb⟩
  ·exact h.ow q c (h2 _ k)
  ·exact .step hww hs hb
 ·rcases h.st with k | k
  ·exact Or.inl (k.sub (hsub p))
  ·rcases h1 _ k with e | e
   ·simp only [Prod.mk.injEq] at e
    exact Or.inl (by rw [e.1, e.2]; exact hself)
   ·exact Or.inr (h3 _ e)
 ·rcases mem_put1.1 ha with k | ⟨rfl, rfl⟩
  ·rcases h.sp q a k q' b c hs hb with k2 | k2
   ·exact Or.inl (k2.sub (hsub q'))
   ·rcases h1 _ k2 with e | e
    ·simp only [Prod.mk.injEq] at e
     exact Or.inl (by rw [e.1, e.2]; exact hself)
    ·exact Or.inr (h3 _ e)
  ·exact h5 q' b c hs hb
 ·rcases mem_put1.1 ha with k | ⟨rfl, rfl⟩
  ·exact h.ls q a k b hb hba
  ·rcases hX.told hba with e | e
   ·exact e
   ·exact absurd ((h.done hX hf hb e).trans hX hba) hc
 ·unfold put1
  split
  ·rename_i e
   subst e
   refine List.pairwise_append.2 ⟨h.so q, List.pairwise_singleton _ _, fun a ha b hb => ?_⟩
   simp only [List.mem_singleton] at hb
   subst hb
   rcases hX.tot a b with k | k | k
   ·exact k
   ·exact absurd ⟨a, ha, k ▸ hX.refl a⟩ hc
   ·exact absurd k (h.lo q a ha q b hm)
  ·exact h.so q
 ·rcases mem_put1.1 ha with k | ⟨rfl, rfl⟩
  ·rcases h4 q' c hqc with k2 | ⟨b, hs, hb⟩
   ·exact h.lo q a k q' c (h2 _ k2)
   ·exact hlow q a k q' c b hs hb
  ·rcases h4 q' c hqc with k2 | ⟨b, hs, hb⟩
   ·exact hf q' c (h2 _ k2)
   ·intro ht
    rcases hX.told (hX.up hb) with e | e
    ·exact hX.irr a (by rw [e] at ht ⊢; exact ht)
    ·exact hX.irr a (hX.tt e ht)
theorem sub_len {l m : List α} (hl : l.Nodup) (h : ∀ a ∈ l, a ∈ m) : l.length ≤ m.length := by
 induction l generalizing m with
 | nil => simp
 | cons a l ih =>
  obtain ⟨s, t, rfl⟩ := List.append_of_mem (h a (by simp))
  have hn := List.nodup_cons.1 hl
  have := ih (m := s ++ t) hn.2 (fun b hb => by
   have h1 := h b (by simp [hb])
   simp only [List.mem_append, List.mem_cons] at h1 ⊢
   rcases h1 with h1 | rfl | h1
   ·exact Or.inl h1
   ·exact absurd hb hn.1
   ·exact Or.inr h1)
  simp at this ⊢
  omega
theorem tld_ext (hX : X.Ok) {l m : List α} (hl : l.Pairwise X.tld) (hm : m.Pairwise X.tld) (h : ∀ a, a ∈ l ↔ a ∈ m) : l = m := by
 induction l generalizing m with
 | nil =>
  cases m with
  | nil => rfl
  | cons b m => exact absurd ((h b).2 (by simp)) (by simp)
 | cons a l ih =>
  cases m with
  | nil => exact absurd ((h a).1 (by simp)) (by simp)
  | cons b m =>
   have ha := List.pairwise_cons.1 hl
   have hb := List.pairwise_cons.1 hm
   have e : a = b := by
    rcases List.mem_cons.1 ((h a).1 (by simp)) with e | e
    ·exact e
    ·rcases List.mem_cons.1 ((h b).2 (by simp)) with k | k
     ·exact k.symm
     ·exact absurd (hX.tt (hb.1 a e) (ha.1 b k)) (hX.irr b)
   subst e
   rw [ih ha.2 hb.2 (fun x => ⟨fun hx => ?_, fun hx => ?_⟩)]
   ·rcases List.mem_cons.1 ((h x).1 (List.mem_cons_of_mem _ hx)) with k | k
    ·subst k; exact absurd (ha.1 _ hx) (hX.irr _)
    ·exact k
   ·rcases List.mem_cons.1 ((h x).2 (List.mem_cons_of_mem _ hx)) with k | k
    ·subst k; exact absurd (hb.1 _ hx) (hX.irr _)
    ·exact k
def Res (X : Px α) (St : Nat → Nat → α → Prop) (p : Nat) : Option (Nat → List α) → Prop
 | none => ∃ (q : Nat) (l : List α), l.Nodup ∧ 64 < l.length ∧ ∀ a ∈ l, Lea X St p q a
 | some rows => ∀ q, (rows q).Pairwise X.tld ∧ (∀ a, a ∈ rows q ↔ Lea X St p q a) ∧ (rows q).length ≤ 64
theorem Iv.lea {rows : Nat → List α} {opn : List (Nat × α)} (h : Iv X St p rows opn) {q : Nat} {a : α} (ha : a ∈ rows q) : Lea X St p q a := ⟨h.rw q a ha, h.ls q a ha⟩
theorem Iv.nodup (hX : X.Ok) {rows : Nat → List α} {opn : List (Nat × α)} (h : Iv X St p rows opn) (q : Nat) : (rows q).Nodup :=
 List.Pairwise.imp (S := fun a b => a ≠ b) (fun {a b} k (e : a = b) => hX.irr b (by rw [e] at k; exact k)) (h.so q)
theorem Iv.wide (hX : X.Ok) {rows : Nat → List α} {opn : List (Nat × α)} (h : Iv X St p rows opn) {q : Nat} (hq : 64 < (rows q).length) : Res X St p none := ⟨q, rows q, h.nodup hX q, hq, fun _ ha => h.lea ha⟩
theorem Iv.fin (hX : X.Ok) {rows : Nat → List α} (h : Iv X St p rows []) (hl : ∀ q, (rows q).length ≤ 64) : Res X St p (some rows) := fun q => by
 refine ⟨h.so q, fun a => ⟨fun ha => h.lea ha, fun ha => ?_⟩, hl q⟩
 obtain ⟨x, hx, hxa⟩ := h.all hX ha.1
 have := ha.2 x (h.rw q x hx) hxa
 exact this ▸ hx
theorem Res.same (hX : X.Ok) {r s : Option (Nat → List α)} (hr : Res X St p r) (hs : Res X St p s) : r = s := by
 have key : ∀ rows, Res X St p none → Res X St p (some rows) → False := fun rows h1 h2 => by
  obtain ⟨q, l, hn, hl, ha⟩ := h1
  have h3 := sub_len hn (fun a k => ((h2 q).2.1 a).2 (ha a k))
  have h4 := (h2 q).2.2
  omega
 cases r with
 | none =>
  cases s with
  | none => rfl
  | some rows => exact (key rows hr hs).elim
 | some rows =>
  cases s with
  | none => exact (key rows hs hr).elim
  | some rows' =>
   refine congrArg some (funext fun q => tld_ext hX (hr q).1 (hs q).1 (fun a => ?_))
   rw [(hr q).2.1, (hs q).2.1]
end
end Go.Proofs.YtdnnfgabdkkdjaaGreat.Pt

namespace Go.Proofs.YtdnnfgabdkkdjaaGreat.Pt
abbrev Tri := { p : Int × Int × Int // (Lit.int .u64 p.1).wf = true ∧ (Lit.int .u64 p.2.1).wf = true ∧ (Lit.int .u64 p.2.2).wf = true }
theorem wf_iff (x : Int) : (Lit.int .u64 x).wf = true ↔ 0 ≤ x ∧ x < 18446744073709551616 := by
 have e1 : IntKind.u64.min = 0 := rfl
 have e2 : IntKind.u64.max = 18446744073709551615 := rfl
 simp only [Lit.wf, e1, e2, Bool.and_eq_true, decide_eq_true_eq]
 omega
theorem tri_ext {s t : Tri} (h1 : s.1.1 = t.1.1) (h2 : s.1.2.1 = t.1.2.1) (h3 : s.1.2.2 = t.1.2.2) : s = t := Subtype.ext (Prod.ext h1 (Prod.ext h2 h3))
theorem tri_bd (s : Tri) : (0 ≤ s.1.1 ∧ s.1.1 < 18446744073709551616) ∧ (0 ≤ s.1.2.1 ∧ s.1.2.1 < 18446744073709551616) ∧ (0 ≤ s.1.2.2 ∧ s.1.2.2 < 18446744073709551616) :=
 ⟨(wf_iff _).1 s.2.1, (wf_iff _).1 s.2.2.1, (wf_iff _).1 s.2.2.2⟩
def thn3 (a b : Tri) : Option Tri :=
 if h : a.1.1 + b.1.1 < 18446744073709551616 ∧ a.1.2.1 + b.1.2.1 < 18446744073709551616 ∧ a.1.2.2 + b.1.2.2 < 18446744073709551616 then
  some ⟨(a.1.1 + b.1.1, a.1.2.1 + b.1.2.1, a.1.2.2 + b.1.2.2), by
   have h1 := tri_bd a
   have h2 := tri_bd b
   exact ⟨(wf_iff _).2 ⟨by simp only; omega, h.1⟩, (wf_iff _).2 ⟨by simp only; omega, h.2.1⟩, (wf_iff _).2 ⟨by simp only; omega, h.2.2⟩⟩⟩
 else none
theorem thn3_some {a b c : Tri} (h : thn3 a b = some c) : c.1.1 = a.1.1 + b.1.1 ∧ c.1.2.1 = a.1.2.1 + b.1.2.1 ∧ c.1.2.2 = a.1.2.2 + b.1.2.2 := by
 unfold thn3 at h
 split at h
 ·cases h; exact ⟨rfl, rfl, rfl⟩
 ·cases h
theorem thn3_of {a b : Tri} (h : a.1.1 + b.1.1 < 18446744073709551616 ∧ a.1.2.1 + b.1.2.1 < 18446744073709551616 ∧ a.1.2.2 + b.1.2.2 < 18446744073709551616) : ∃ c, thn3 a b = some c := by
 unfold thn3
 rw [dif_pos h]
 exact ⟨_, rfl⟩
def PX : Px Tri where
 ahd a b := a.1.1 ≤ b.1.1 ∧ a.1.2.1 ≤ b.1.2.1 ∧ a.1.2.2 ≤ b.1.2.2
 tld a b := a.1.1 < b.1.1 ∨ (a.1.1 = b.1.1 ∧ (a.1.2.1 < b.1.2.1 ∨ (a.1.2.1 = b.1.2.1 ∧ a.1.2.2 < b.1.2.2)))
 thn := thn3
 z := ⟨(0, 0, 0), by decide⟩
theorem PX_ok : PX.Ok where
 refl a := ⟨Int.le_refl _, Int.le_refl _, Int.le_refl _⟩
 trans {a b c} h k := by
  obtain ⟨h1, h2, h3⟩ := h
  obtain ⟨k1, k2, k3⟩ := k
  exact ⟨Int.le_trans h1 k1, Int.le_trans h2 k2, Int.le_trans h3 k3⟩
 told {a b} h := by
  obtain ⟨h1, h2, h3⟩ := h
  by_cases e : a = b
  ·exact Or.inl e
  ·refine Or.inr ?_
   have : ¬ (a.1.1 = b.1.1 ∧ a.1.2.1 = b.1.2.1 ∧ a.1.2.2 = b.1.2.2) := fun k => e (tri_ext k.1 k.2.1 k.2.2)
   show _ ∨ _
   omega
 tt {a b c} h k := by
  show _ ∨ _
  have h' : a.1.1 < b.1.1 ∨ (a.1.1 = b.1.1 ∧ (a.1.2.1 < b.1.2.1 ∨ (a.1.2.1 = b.1.2.1 ∧ a.1.2.2 < b.1.2.2))) := h
  have k' : b.1.1 < c.1.1 ∨ (b.1.1 = c.1.1 ∧ (b.1.2.1 < c.1.2.1 ∨ (b.1.2.1 = c.1.2.1 ∧ b.1.2.2 < c.1.2.2))) := k
  omega
 irr a h := by
  have h' : a.1.1 < a.1.1 ∨ (a.1.1 = a.1.1 ∧ (a.1.2.1 < a.1.2.1 ∨ (a.1.2.1 = a.1.2.1 ∧ a.1.2.2 < a.1.2.2))) := h
  omega
 tot a b := by
  by_cases e : a = b
  ·exact Or.inr (Or.inl e)
  ·have : ¬ (a.1.1 = b.1.1 ∧ a.1.2.1 = b.1.2.1 ∧ a.1.2.2 = b.1.2.2) := fun k => e (tri_ext k.1 k.2.1 k.2.2)
   show (_ ∨ _) ∨ _ ∨ (_ ∨ _)
   omega
 mono {a b c d} h k := by
  obtain ⟨h1, h2, h3⟩ := h
  obtain ⟨k1, k2, k3⟩ := thn3_some k
  have hd := tri_bd d
  obtain ⟨e, he⟩ := thn3_of (a := a) (b := c) ⟨by omega, by omega, by omega⟩
  obtain ⟨e1, e2, e3⟩ := thn3_some he
  exact ⟨e, he, by show _ ≤ _ ∧ _ ≤ _ ∧ _ ≤ _; omega⟩
 up {a b c} k := by
  obtain ⟨k1, k2, k3⟩ := thn3_some k
  have hb := tri_bd b
  show _ ≤ _ ∧ _ ≤ _ ∧ _ ≤ _
  omega
end Go.Proofs.YtdnnfgabdkkdjaaGreat.Pt
