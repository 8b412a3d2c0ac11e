import Derived.WalkKit
import Derived.Sort.Grow
namespace Go.Proofs.Ytaaobchodbnkpaa.Qe
open Go.RowKit Go.Sort

/-- A time. -/
abbrev Tq := Int × Int × Int
/-- Told ahead of. -/
def tl (s t : Tq) : Bool := decide (s.1 < t.1 ∨ (s.1 = t.1 ∧ (s.2.1 < t.2.1 ∨ (s.2.1 = t.2.1 ∧ s.2.2 < t.2.2))))
theorem tl_iff (s t : Tq) : tl s t = true ↔ (s.1 < t.1 ∨ (s.1 = t.1 ∧ (s.2.1 < t.2.1 ∨ (s.2.1 = t.2.1 ∧ s.2.2 < t.2.2)))) := by simp only [tl, decide_eq_true_eq]
theorem tl_not (s t : Tq) : tl s t = false ↔ ¬ (s.1 < t.1 ∨ (s.1 = t.1 ∧ (s.2.1 < t.2.1 ∨ (s.2.1 = t.2.1 ∧ s.2.2 < t.2.2)))) := by rw [← tl_iff, Bool.not_eq_true]
theorem tl_irr (s : Tq) : tl s s = false := by rw [tl_not]; omega
theorem tl_tr {a b c : Tq} (h1 : tl a b = true) (h2 : tl b c = true) : tl a c = true := by rw [tl_iff] at *; omega
theorem tl_as {a b : Tq} (h1 : tl a b = true) : tl b a = false := by rw [tl_iff] at h1; rw [tl_not]; omega
theorem tl_tot {a b : Tq} (h : tl a b = false) (hne : a ≠ b) : tl b a = true := by
  rw [tl_not] at h
  rw [tl_iff]
  have : ¬ (a.1 = b.1 ∧ a.2.1 = b.2.1 ∧ a.2.2 = b.2.2) := fun e => hne (Prod.ext e.1 (Prod.ext e.2.1 e.2.2))
  omega
theorem tl_nt {a b c : Tq} (h1 : tl a b = false) (h2 : tl b c = false) : tl a c = false := by rw [tl_not] at *; omega

/-- One time more. -/
def addT (L : List (Tq × Nat)) (t : Tq) : List (Tq × Nat) := match L.getLast? with
  | some x => if x.1 = t then L.dropLast ++ [(x.1, x.2 + 1)] else L ++ [(t, 1)]
  | none => [(t, 1)]
/-- How often each time stands in a row. -/
def grp (d : List Tq) : List (Tq × Nat) := d.foldl addT []
theorem grp_snoc (d : List Tq) (t : Tq) : grp (d ++ [t]) = addT (grp d) t := by simp [grp]
theorem addT_snoc (L : List (Tq × Nat)) (x : Tq × Nat) (t : Tq) : addT (L ++ [x]) t = if x.1 = t then L ++ [(x.1, x.2 + 1)] else L ++ [x] ++ [(t, 1)] := by simp [addT]
/-- What it says of a row. -/
structure Gc (d : List Tq) (L : List (Tq × Nat)) : Prop where
  srt : L.Pairwise fun a b => tl a.1 b.1 = true
  cnt : ∀ t n, (t, n) ∈ L ↔ d.count t = n ∧ 0 < n
  sum : (L.map Prod.snd).sum = d.length
theorem Gc.nil : Gc [] [] := ⟨List.Pairwise.nil, fun t n => by simp; omega, rfl⟩
theorem Gc.key {d : List Tq} {L : List (Tq × Nat)} (h : Gc d L) {x : Tq × Nat} (hx : x ∈ L) : x.1 ∈ d := by
  have := (h.cnt x.1 x.2).1 hx
  exact List.count_pos_iff.1 (by omega)
theorem Gc.none {d : List Tq} (h : Gc d []) : d = [] := by
  have := h.sum
  exact List.eq_nil_of_length_eq_zero this.symm
theorem Gc.step {d : List Tq} {L : List (Tq × Nat)} (h : Gc d L) {t : Tq} (ht : ∀ x ∈ d, tl t x = false) : Gc (d ++ [t]) (addT L t) := by
  rcases List.eq_nil_or_concat L with rfl | ⟨L0, x, rfl⟩
  · have := h.none
    subst this
    refine ⟨by simp [addT], fun u n => ?_, by simp [addT]⟩
    simp only [addT, List.getLast?_nil, List.mem_singleton, Prod.mk.injEq, List.nil_append, List.count_singleton]
    by_cases e : u = t
    · subst e
      simp
      omega
    · have e2 : ¬ t = u := fun q => e q.symm
      simp [e, e2]
      omega
  · rw [List.concat_eq_append] at h ⊢
    rw [addT_snoc]
    obtain ⟨hs1, hs2, hs3⟩ := List.pairwise_append.1 h.srt
    have hx : x.1 ∈ d := h.key (by simp)
    have h0 : ∀ y ∈ L0, tl y.1 x.1 = true := fun y hy => hs3 y hy x (by simp)
    have hc : ∀ u, (d ++ [t]).count u = d.count u + if t = u then 1 else 0 := fun u => by
      rw [List.count_append, List.count_singleton]
      simp
    by_cases e : x.1 = t
    · rw [if_pos e]
      have hxn := (h.cnt x.1 x.2).1 (by simp)
      refine ⟨List.pairwise_append.2 ⟨hs1, by simp, fun a ha b hb => ?_⟩, fun u n => ?_, ?_⟩
      · simp at hb
        subst hb
        exact h0 a ha
      · rw [hc]
        have hL := h.cnt u n
        simp only [List.mem_append, List.mem_singleton] at hL ⊢
        by_cases eu : t = u
        · subst eu
          rw [if_pos rfl]
          have hn0 : (t, n) ∉ L0 := fun hm => by
            have := h0 _ hm
            rw [e] at this
            rw [tl_irr] at this
            cases this
          rw [e] at hxn ⊢
          constructor
          · rintro (hm | hm)
            · exact absurd hm hn0
            · simp at hm
              omega
          · intro hm
            right
            simp
            omega
        · rw [if_neg eu, show d.count u + 0 = d.count u from rfl, ← hL]
          constructor
          · rintro (hm | hm)
            · exact Or.inl hm
            · simp at hm
              exact absurd (e.symm.trans hm.1.symm) eu
          · rintro (hm | hm)
            · exact Or.inl hm
            · rw [← hm] at e
              exact absurd e.symm eu
      · have := h.sum
        simp at this ⊢
        omega
    · rw [if_neg e]
      have hxt : tl x.1 t = true := tl_tot (ht _ hx) (fun q => e q.symm)
      have hall : ∀ y ∈ L0 ++ [x], tl y.1 t = true := fun y hy => by
        rcases List.mem_append.1 hy with hy | hy
        · exact tl_tr (h0 y hy) hxt
        · simp at hy
          subst hy
          exact hxt
      have hnt : d.count t = 0 := by
        apply Nat.eq_zero_of_not_pos
        intro hp
        have := hall _ ((h.cnt t (d.count t)).2 ⟨rfl, hp⟩)
        rw [tl_irr] at this
        cases this
      refine ⟨List.pairwise_append.2 ⟨h.srt, by simp, fun a ha b hb => ?_⟩, fun u n => ?_, ?_⟩
      · simp at hb
        subst hb
        exact hall a ha
      · rw [hc, List.mem_append, h.cnt u n]
        by_cases eu : t = u
        · subst eu
          rw [if_pos rfl, hnt]
          simp
          omega
        · rw [if_neg eu, Nat.add_zero]
          have e2 : ¬ u = t := fun q => eu q.symm
          simp [e2]
      · have := h.sum
        simp at this ⊢
        omega
theorem grp_ok {d : List Tq} (hd : d.Pairwise fun a b => tl b a = false) : ∀ n, Gc (d.take n) (grp (d.take n)) := by
  intro n
  induction n with
  | zero => exact Gc.nil
  | succ n ih =>
    by_cases hn : n < d.length
    · rw [List.take_succ_eq_append_getElem hn, grp_snoc]
      refine ih.step fun x hx => ?_
      obtain ⟨j, hj⟩ := List.mem_iff_getElem?.1 hx
      rw [List.getElem?_take] at hj
      split at hj
      · next hjn =>
        obtain ⟨h1, rfl⟩ := List.getElem?_eq_some_iff.1 hj
        exact List.pairwise_iff_getElem.1 hd j n h1 hn hjn
      · cases hj
    · rw [List.take_of_length_le (by omega)]
      rw [List.take_of_length_le (by omega)] at ih
      exact ih
theorem grp_all {d : List Tq} (hd : d.Pairwise fun a b => tl b a = false) : Gc d (grp d) := by
  have := grp_ok hd d.length
  rwa [List.take_length] at this
/-- The last one of the list is the row's last time. -/
theorem grp_last (d : List Tq) (t : Tq) : ∃ L n, grp (d ++ [t]) = L ++ [(t, n + 1)] := by
  rw [grp_snoc]
  rcases List.eq_nil_or_concat (grp d) with e | ⟨L0, x, e⟩
  · exact ⟨[], 0, by simp [e, addT]⟩
  · rw [e, List.concat_eq_append, addT_snoc]
    split
    · next h => exact ⟨L0, x.2, by rw [h]⟩
    · exact ⟨L0 ++ [x], 0, rfl⟩
theorem srt_same {l m : List (Tq × Nat)} (hl : l.Pairwise fun a b => tl a.1 b.1 = true) (hm : m.Pairwise fun a b => tl a.1 b.1 = true) (h : ∀ x, x ∈ l ↔ x ∈ m) : l = m := by
  induction l generalizing m with
  | nil =>
    cases m with
    | nil => rfl
    | cons y m => exact absurd ((h y).2 (by simp)) (by simp)
  | cons x l ih =>
    cases m with
    | nil => exact absurd ((h x).1 (by simp)) (by simp)
    | cons y m =>
      obtain ⟨l1, l2⟩ := List.pairwise_cons.1 hl
      obtain ⟨m1, m2⟩ := List.pairwise_cons.1 hm
      have exy : x = y := by
        rcases List.mem_cons.1 ((h x).1 (by simp)) with e | hx
        · exact e
        · rcases List.mem_cons.1 ((h y).2 (by simp)) with e | hy
          · exact e.symm
          · have a1 := m1 x hx
            have a2 := l1 y hy
            rw [tl_as a1] at a2
            cases a2
      subst exy
      congr 1
      refine ih l2 m2 fun z => ?_
      constructor
      · intro hz
        rcases List.mem_cons.1 ((h z).1 (by simp [hz])) with e | h2
        · subst e
          have := l1 z hz
          rw [tl_irr] at this
          cases this
        · exact h2
      · intro hz
        rcases List.mem_cons.1 ((h z).2 (by simp [hz])) with e | h2
        · subst e
          have := m1 z hz
          rw [tl_irr] at this
          cases this
        · exact h2
theorem Gc.same {d e : List Tq} {L M : List (Tq × Nat)} (h : Gc d L) (k : Gc e M) (hp : ∀ t, d.count t = e.count t) : L = M :=
  srt_same h.srt k.srt fun x => by
    have h1 := h.cnt x.1 x.2
    have h2 := k.cnt x.1 x.2
    rw [hp] at h1
    exact h1.trans h2.symm
/-- The counts of a list of times. -/
def gct (l : List Tq) : List (Tq × Nat) := grp (l.mergeSort fun x y => !tl y x)
theorem gct_ok (l : List Tq) : Gc l (gct l) := by
  have hs : (l.mergeSort fun x y => !tl y x).Pairwise fun a b => tl b a = false := by
    have := List.pairwise_mergeSort (le := fun x y => !tl y x) (fun x y z h1 h2 => by simp at *; exact tl_nt h2 h1) (fun x y => by
      cases h : tl y x with
      | false => simp
      | true => simp [tl_as h]) l
    exact this.imp (fun h => by simpa using h)
  have h := grp_all hs
  have hp := List.mergeSort_perm l fun x y => !tl y x
  exact ⟨h.srt, fun t n => by rw [← hp.count_eq]; exact h.cnt t n, by rw [← hp.length_eq]; exact h.sum⟩
theorem grp_sorted {l d : List Tq} (hp : d.Perm l) (hs : d.Pairwise fun a b => tl b a = false) : grp d = gct l := (grp_all hs).same (gct_ok l) fun t => hp.count_eq t
theorem gct_len (l : List Tq) : (gct l).length ≤ l.length := by
  have h := gct_ok l
  rw [← h.sum]
  have : ∀ L : List (Tq × Nat), (∀ x ∈ L, 0 < x.2) → L.length ≤ (L.map Prod.snd).sum := by
    intro L
    induction L with
    | nil => simp
    | cons x L ih =>
      intro hx
      have h1 := ih fun y hy => hx y (by simp [hy])
      have h2 := hx x (by simp)
      simp
      omega
  exact this _ fun x hx => ((h.cnt x.1 x.2).1 hx).2
end Go.Proofs.Ytaaobchodbnkpaa.Qe
