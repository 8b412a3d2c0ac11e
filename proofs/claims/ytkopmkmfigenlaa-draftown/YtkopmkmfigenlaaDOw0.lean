import Derived.Test.YtkopmkmfigenlaaDKnown
import Derived.Test.YtkopmkmfigenlaaLStep
import Derived.Test.YtkopmkmfigenlaaLHold
import Derived.Lib.OwnKind
import Derived.Laws.OwnMore
namespace Go.Proofs.Ytkopmkmfigenlaa.Df
open Go.RowKit Go.Sort

/-- A slice as an element. -/
structure LV where
  q : Option Addr
  m : Nat
  c : Nat
abbrev LV.v (x : LV) : Value := .slice x.q x.m x.c
def EL : El LV where
  k := 1
  enc x := [x.v]
  len _ := rfl
  one x u hu := by
    simp at hu
    subst hu
    rfl
theorem owns_ne_blk {w : World} {B : Nat} {e T : TypeId} {size n : Nat} {v : Value} {xs : List Value} {b : Nat} {cs : Array Value} {z : Nat × Nat} (h : w.ownsRow B e size v n xs) (hb : w.heap[b]? = some (.cells cs T z)) (hT : e ≠ T) : ∀ k, v.ownBlock = some k → k ≠ b := fun k hk e2 => by
  obtain ⟨c, f, hc⟩ := Lib.ownsRow_kind h k hk
  rw [e2, hb] at hc
  simp only [Option.some.injEq, Obj.cells.injEq] at hc
  exact hT hc.2.1.symm
theorem owns_ne_own {w : World} {B B' : Nat} {e e' : TypeId} {size n size' n' : Nat} {v v' : Value} {xs xs' : List Value} (h : w.ownsRow B e size v n xs) (h' : w.ownsRow B' e' size' v' n' xs') (hT : e ≠ e') : ∀ k, v.ownBlock = some k → v'.ownBlock ≠ some k := fun k hk hk' => by
  obtain ⟨c, f, hc⟩ := Lib.ownsRow_kind h' k hk'
  exact owns_ne_blk h hc hT k hk rfl
theorem owns_caps {w : World} {base : Nat} {e : TypeId} {size : Nat} {v : Value} {n : Nat} {xs : List Value} (h : w.ownsRow base e size v n xs) : ∀ p m c, v = .slice p m c → m = n ∧ n ≤ c := by
  intro p m c hv
  rcases h.2 with ⟨h0, h1⟩ | ⟨g, cap, cur, h0, _, _, hn, _⟩
  · rw [h0] at hv
    simp only [Value.slice.injEq] at hv
    omega
  · rw [h0] at hv
    simp only [Value.slice.injEq] at hv
    omega
theorem owns_one {w : World} {base : Nat} {e : TypeId} {size g n cap : Nat} {xs : List Value} (h : w.ownsRow base e size (.slice (some ⟨g, 0, none⟩) n cap) n xs) (j : Nat) (u : Value) : (w.setCell ⟨g, j, none⟩ u).ownsRow base e size (.slice (some ⟨g, 0, none⟩) n cap) n (xs.set j u) ∧ Kp (fun k => k = g) w (w.setCell ⟨g, j, none⟩ u) := by
  obtain ⟨hx, hr⟩ := h
  rcases hr with ⟨h0, _⟩ | ⟨g', cap', cur, hv, hg, hh, hn, hm, hs, ht⟩
  · cases h0
  · simp only [Value.slice.injEq, Option.some.injEq, Addr.mk.injEq] at hv
    obtain ⟨⟨rfl, -, -⟩, -, rfl⟩ := hv
    have h2 := setCell_eq_setRow w g j _ _ _ u hh
    have hk : Kp (fun k => k = g) w (w.setCell ⟨g, j, none⟩ u) := by
      rw [h2]
      exact ⟨rfl, rfl, rfl, by simp [World.setRow], fun k _ hne => setRow_other w g k _ (by omega)⟩
    refine ⟨⟨by simp [hx], Or.inr ⟨g, cap, cur.setIfInBounds j u, rfl, hg, by rw [h2, setRow_heap w g _ _ _ _ hh], hn, hm, by simp [hs], ?_⟩⟩, hk⟩
    rw [Array.toList_setIfInBounds, List.take_set, ht]
/-- Lists of one kind, each with a row of its own. -/
structure Fm {α : Type} (E : El α) (T : TypeId) (B : Nat) (w : World) (vs : List LV) (ls : List (List α)) : Prop where
  len : vs.length = ls.length
  each : ∀ (i : Nat) (v : LV) (l : List α), vs[i]? = some v → ls[i]? = some l → w.ownsRow B T E.k v.v l.length (fl E l)
  apart : ∀ (i j : Nat) (v u : LV) (b : Nat), vs[i]? = some v → vs[j]? = some u → v.v.ownBlock = some b → u.v.ownBlock = some b → i = j
section
variable {α : Type} {E : El α} {T : TypeId} {B : Nat} {w w' : World} {vs : List LV} {ls : List (List α)}
theorem Fm.nil : Fm E T B w [] [] := ⟨rfl, fun _ _ _ h => by simp at h, fun _ _ _ _ _ h => by simp at h⟩
theorem Fm.row (h : Fm E T B w vs ls) {i : Nat} {v : LV} (hv : vs[i]? = some v) : ∃ l, ls[i]? = some l ∧ w.ownsRow B T E.k v.v l.length (fl E l) := by
  have hi := (List.getElem?_eq_some_iff.1 hv).1
  rw [h.len] at hi
  exact ⟨ls[i], List.getElem?_eq_getElem hi, h.each i v _ hv (List.getElem?_eq_getElem hi)⟩
theorem Fm.snoc (h : Fm E T B w vs ls) {v : LV} {l : List α} (ho : w.ownsRow B T E.k v.v l.length (fl E l)) (hn : ∀ u ∈ vs, ∀ b, v.v.ownBlock = some b → u.v.ownBlock ≠ some b) : Fm E T B w (vs ++ [v]) (ls ++ [l]) := by
  have get : ∀ {β : Type} {xs : List β} {x y : β} {i : Nat}, (xs ++ [x])[i]? = some y → (xs[i]? = some y) ∨ (i = xs.length ∧ y = x) := fun {β xs x y i} hi => by
    by_cases e : i < xs.length
    · rw [List.getElem?_append_left e] at hi
      exact Or.inl hi
    · rw [List.getElem?_append_right (by omega)] at hi
      by_cases e2 : i = xs.length
      · subst e2
        simp at hi
        exact Or.inr ⟨rfl, hi.symm⟩
      · rw [List.getElem?_eq_none (by simp; omega)] at hi
        cases hi
  refine ⟨by simp [h.len], fun i u m hu hm => ?_, fun i j u z b hu hz hb hc => ?_⟩
  · rcases get hu with hu | ⟨rfl, rfl⟩
    · rcases get hm with hm | ⟨rfl, rfl⟩
      · exact h.each i u m hu hm
      · have := (List.getElem?_eq_some_iff.1 hu).1
        have := h.len
        omega
    · rcases get hm with hm | ⟨_, rfl⟩
      · have := (List.getElem?_eq_some_iff.1 hm).1
        have := h.len
        omega
      · exact ho
  · rcases get hu with hu2 | ⟨rfl, rfl⟩
    · rcases get hz with hz2 | ⟨rfl, rfl⟩
      · exact h.apart i j u z b hu2 hz2 hb hc
      · exact absurd hb (hn u (List.mem_of_getElem? hu2) b hc)
    · rcases get hz with hz2 | ⟨rfl, rfl⟩
      · exact absurd hc (hn z (List.mem_of_getElem? hz2) b hb)
      · rfl
theorem Fm.kp (h : Fm E T B w vs ls) {S : Nat → Prop} (hk : Kp S w w') (hS : ∀ v ∈ vs, ∀ b, v.v.ownBlock = some b → ¬ S b) : Fm E T B w' vs ls :=
  ⟨h.len, fun i v l hv hl => owns_kp hk (h.each i v l hv hl) (hS v (List.mem_of_getElem? hv)), h.apart⟩
theorem Fm.below (h : Fm E T B w vs ls) (hb : Below w.heap.size w w') : Fm E T B w' vs ls := h.kp (S := fun _ => False) (Kp.of_below hb) (fun _ _ _ _ h => h)
theorem Fm.far (h : Fm E T B w vs ls) {e : TypeId} {size n : Nat} {u : Value} {xs : List Value} {B' : Nat} (ho : w.ownsRow B' e size u n xs) (hT : T ≠ e) : ∀ v ∈ vs, ∀ b, v.v.ownBlock = some b → ¬ u.ownBlock = some b := fun v hv b hb => by
  obtain ⟨i, hi⟩ := List.mem_iff_getElem?.1 hv
  obtain ⟨l, _, hr⟩ := h.row hi
  exact owns_ne_own hr ho hT b hb
theorem Fm.away (h : Fm E T B w vs ls) {b : Nat} {cs : Array Value} {e : TypeId} {z : Nat × Nat} (hb : w.heap[b]? = some (.cells cs e z)) (hT : T ≠ e) : ∀ v ∈ vs, ∀ k, v.v.ownBlock = some k → ¬ k = b := fun v hv k hk => by
  obtain ⟨i, hi⟩ := List.mem_iff_getElem?.1 hv
  obtain ⟨l, _, hr⟩ := h.row hi
  exact owns_ne_blk hr hb hT k hk
/-- One list is turned: where it stood, or anew. -/
theorem Fm.put (h : Fm E T B w vs ls) {i : Nat} {v v' : LV} {l' : List α} (hv : vs[i]? = some v) (ho : w'.ownsRow B T E.k v'.v l'.length (fl E l')) (hk : Kp (fun k => v.v.ownBlock = some k) w w') (hb : ∀ b, v'.v.ownBlock = some b → v.v.ownBlock = some b ∨ w.heap.size ≤ b) : Fm E T B w' (vs.set i v') (ls.set i l') := by
  have hi := (List.getElem?_eq_some_iff.1 hv).1
  have hil : i < ls.length := by have := h.len; omega
  have lt : ∀ (j : Nat) (u : LV) (b : Nat), vs[j]? = some u → u.v.ownBlock = some b → b < w.heap.size := fun j u b hu e => by
    obtain ⟨l, _, hr⟩ := h.row hu
    exact (owns_rd hr b e).2
  have get : ∀ (j : Nat) (u : LV), (vs.set i v')[j]? = some u → (j = i ∧ u = v') ∨ (j ≠ i ∧ vs[j]? = some u) := fun j u hj => by
    rw [List.getElem?_set] at hj
    by_cases e : i = j
    · subst e
      rw [if_pos rfl, if_pos hi] at hj
      exact Or.inl ⟨rfl, (Option.some.inj hj).symm⟩
    · rw [if_neg e] at hj
      exact Or.inr ⟨fun e2 => e e2.symm, hj⟩
  refine ⟨by simp [h.len], fun j u m hu hm => ?_, fun j k u z b hu hz e1 e2 => ?_⟩
  · rw [List.getElem?_set] at hm
    rcases get j u hu with ⟨rfl, rfl⟩ | ⟨hne, hu⟩
    · rw [if_pos rfl, if_pos hil] at hm
      cases hm
      exact ho
    · rw [if_neg (fun e => hne e.symm)] at hm
      exact owns_kp hk (h.each j u m hu hm) (fun b e e2 => hne (h.apart j i u v b hu hv e e2))
  · rcases get j u hu with ⟨rfl, rfl⟩ | ⟨hj, hu2⟩
    · rcases get k z hz with ⟨rfl, rfl⟩ | ⟨hk2, hz2⟩
      · rfl
      · rcases hb b e1 with h1 | h1
        · exact h.apart j k v z b hv hz2 h1 e2
        · have := lt k z b hz2 e2
          omega
    · rcases get k z hz with ⟨rfl, rfl⟩ | ⟨hk2, hz2⟩
      · rcases hb b e2 with h1 | h1
        · exact h.apart j k u v b hu2 hv e1 h1
        · have := lt j u b hu2 e1
          omega
      · exact h.apart j k u z b hu2 hz2 e1 e2
end
theorem sets_mid (o : Nat) (us : List Value) : ∀ (n : Nat) (vs pre rest : List Value), us.length = vs.length → pre.length = o + n → (us.zipIdx n).foldl (fun xs p => xs.set (o + p.2) p.1) (pre ++ vs ++ rest) = pre ++ us ++ rest := by
  induction us with
  | nil => intro n vs pre rest h _; cases vs with
    | nil => simp
    | cons v vs => simp at h
  | cons u us ih =>
    intro n vs pre rest h hp
    cases vs with
    | nil => simp at h
    | cons v vs =>
      rw [List.zipIdx_cons, List.foldl_cons]
      have e : (pre ++ v :: vs ++ rest).set (o + n) u = pre ++ [u] ++ vs ++ rest := by
        rw [← hp, List.append_assoc, List.set_append_right _ _ (Nat.le_refl _), Nat.sub_self]
        simp
      rw [e, ih (n + 1) vs (pre ++ [u]) rest (by simpa using h) (by simp; omega)]
      simp
theorem fl_sets {α : Type} (E : El α) (l : List α) (j : Nat) (x : α) (hj : j < l.length) : (E.enc x).zipIdx.foldl (fun xs p => xs.set (j * E.k + p.2) p.1) (fl E l) = fl E (l.set j x) := by
  have h1 : fl E l = fl E (l.take j) ++ E.enc l[j] ++ fl E (l.drop (j + 1)) := by
    rw [← fl_one, ← fl_append, ← fl_append]
    congr 1
    rw [List.append_assoc, List.singleton_append, ← List.drop_eq_getElem_cons hj, List.take_append_drop]
  rw [h1, sets_mid (j * E.k) _ 0 _ _ _ (by rw [E.len, E.len]) (by rw [fl_length, List.length_take, Nat.min_eq_left (by omega)]; omega), ← fl_set E l j x hj, fl_take, fl_drop]
theorem owns_sets {e : TypeId} {size g n cap base : Nat} (o : Nat) (us : List Value) : ∀ (m : Nat) (w : World) (xs : List Value), w.ownsRow base e size (.slice (some ⟨g, 0, none⟩) n cap) n xs → ((us.zipIdx m).foldl (fun w p => w.setCell ⟨g, o + p.2, none⟩ p.1) w).ownsRow base e size (.slice (some ⟨g, 0, none⟩) n cap) n ((us.zipIdx m).foldl (fun xs p => xs.set (o + p.2) p.1) xs) ∧ Kp (fun k => k = g) w ((us.zipIdx m).foldl (fun w p => w.setCell ⟨g, o + p.2, none⟩ p.1) w) := by
  induction us with
  | nil => intro m w xs h; exact ⟨h, Kp.refl _ _⟩
  | cons u us ih =>
    intro m w xs h
    rw [List.zipIdx_cons, List.foldl_cons, List.foldl_cons]
    obtain ⟨h1, h2⟩ := owns_one h (o + m) u
    obtain ⟨h3, h4⟩ := ih (m + 1) _ _ h1
    exact ⟨h3, h2.trans h4 (fun _ _ h => h)⟩
/-- One element of an owned row is set. -/
theorem owns_elem {α : Type} (E : El α) {e : TypeId} {g cap base : Nat} {w : World} {l : List α} (h : w.ownsRow base e E.k (.slice (some ⟨g, 0, none⟩) l.length cap) l.length (fl E l)) (j : Nat) (x : α) (hj : j < l.length) : ((E.enc x).zipIdx.foldl (fun w p => w.setCell ⟨g, j * E.k + p.2, none⟩ p.1) w).ownsRow base e E.k (.slice (some ⟨g, 0, none⟩) l.length cap) (l.set j x).length (fl E (l.set j x)) ∧ Kp (fun k => k = g) w ((E.enc x).zipIdx.foldl (fun w p => w.setCell ⟨g, j * E.k + p.2, none⟩ p.1) w) := by
  obtain ⟨h1, h2⟩ := owns_sets (j * E.k) (E.enc x) 0 w _ h
  rw [fl_sets E l j x hj] at h1
  exact ⟨owns_re h1 (by simp) rfl, h2⟩
/-- The marks of a list. -/
def mkI (i j : Nat) : Int := -1 - 1000 * (i : Int) - (j : Int)
def mksF {α : Type} (f : Int → α) (i n : Nat) : List α := (List.range n).map fun j => f (mkI i j)
theorem mksF_len {α : Type} (f : Int → α) (i n : Nat) : (mksF f i n).length = n := by simp [mksF]
theorem mksF_succ {α : Type} (f : Int → α) (i n : Nat) : mksF f i (n + 1) = mksF f i n ++ [f (mkI i n)] := by simp [mksF, List.range_succ]
theorem mksF_get {α : Type} (f : Int → α) {i n j : Nat} (h : j < n) : (mksF f i n)[j]? = some (f (mkI i j)) := by simp [mksF, h]
/-- A list while it is marked. -/
theorem mark_step {α : Type} (f : Int → α) {i j : Nat} {l : List α} (hj : j < l.length) : (mksF f i j ++ l.drop j).set j (f (mkI i j)) = mksF f i (j + 1) ++ l.drop (j + 1) := by
  rw [List.set_append_right _ _ (by rw [mksF_len]; exact Nat.le_refl _), mksF_len, Nat.sub_self, List.drop_eq_getElem_cons hj, List.set_cons_zero, mksF_succ, List.append_assoc]
  rfl
end Go.Proofs.Ytkopmkmfigenlaa.Df
