import Derived.Test.YtghpekkncfckaaaLRow
namespace Go.Proofs.Ytghpekkncfckaaa
open Go.RowKit Go.Sort

section
variable {α : Type} {E : El α} {e : TypeId}
theorem owns_re0 {w : World} {s : Nat} {v : Value} {n n' : Nat} {xs xs' : List Value} (h : w.ownsRow 0 e s v n xs) (hn : n = n') (hx : xs = xs') : w.ownsRow 0 e s v n' xs' := by subst hn; subst hx; exact h
/-- An owned row's form. -/
theorem owns_form0 {w : World} {s : Nat} {v : Value} {n : Nat} {xs : List Value} (h : w.ownsRow 0 e s v n xs) (hn : 0 < n) : ∃ g cap, v = .slice (some ⟨g, 0, none⟩) n cap ∧ n ≤ cap ∧ cap ≤ maxLen := by
  obtain ⟨_, ⟨_, h1⟩ | ⟨g', cap', cur, hv, _, _, hn, hm, _⟩⟩ := h
  · omega
  · exact ⟨g', cap', hv, hn, hm⟩
theorem owns_frozen0 {w : World} {s g n n' cap : Nat} {xs : List Value} (h : w.ownsRow 0 e s (.slice (some ⟨g, 0, none⟩) n' cap) n xs) (q : Nat) : w.frozen? ⟨g, q, none⟩ = false := by
  obtain ⟨_, ⟨h0, _⟩ | ⟨g', cap', cur, hv, _, hgg, _⟩⟩ := h
  · cases h0
  · cases hv
    simp [World.frozen?, hgg]
/-- One cell of an owned row is set. -/
theorem owns_cell0 {w : World} {s g n cap q : Nat} {xs : List Value} (u : Value) (h : w.ownsRow 0 e s (.slice (some ⟨g, 0, none⟩) n cap) n xs) :
    (w.setCell ⟨g, q, none⟩ u).ownsRow 0 e s (.slice (some ⟨g, 0, none⟩) n cap) n (xs.set q u) ∧ Kp (fun k => k = g) w (w.setCell ⟨g, q, none⟩ u) := by
  obtain ⟨h1, ⟨h0, _⟩ | ⟨g', cap', cur, hv, hg, hh, h2, h3, h4, h5⟩⟩ := h
  · cases h0
  · cases hv
    have e1 := setCell_eq_setRow w g q _ _ _ u hh
    have hk1 : Kp (fun k => k = g) w (w.setCell ⟨g, q, none⟩ u) := by
      rw [e1]
      exact ⟨rfl, rfl, rfl, by simp [World.setRow], fun q _ hne => setRow_other _ g q _ (by omega)⟩
    refine ⟨⟨by simpa using h1, Or.inr ⟨g, cap, _, rfl, hg, by rw [e1]; exact setRow_heap _ g _ _ _ _ hh, h2, h3, ?_, ?_⟩⟩, hk1⟩
    · simp [h4]
    · rw [Array.toList_setIfInBounds, List.take_set, h5]

variable (E e) in
/-- Lists of the call's own, no two in one block. -/
structure Fam (W : World) (n : Nat) (V : Nat → Value) (C : Nat → List α) : Prop where
  own : ∀ i, i < n → W.ownsRow 0 e E.k (V i) (C i).length (fl E (C i))
  far : ∀ i j, i < n → j < n → i ≠ j → ∀ g, (V i).ownBlock = some g → (V j).ownBlock ≠ some g
theorem Fam.kp {S : Nat → Prop} {W W' : World} {n : Nat} {V : Nat → Value} {C : Nat → List α} (h : Fam E e W n V C) (hk : Kp S W W') (hS : ∀ i, i < n → ∀ g, (V i).ownBlock = some g → ¬ S g) : Fam E e W' n V C :=
  ⟨fun i hi => owns_kp hk (h.own i hi) (hS i hi), h.far⟩
theorem Fam.below {W W' : World} {n : Nat} {V : Nat → Value} {C : Nat → List α} (h : Fam E e W n V C) (hb : Below W.heap.size W W') : Fam E e W' n V C := h.kp (S := fun _ => False) (Kp.of_below hb) (fun _ _ _ _ h => h)
theorem Fam.lt {W : World} {n : Nat} {V : Nat → Value} {C : Nat → List α} (h : Fam E e W n V C) {i : Nat} (hi : i < n) : ∀ g, (V i).ownBlock = some g → g < W.heap.size := fun g hg => ((h.own i hi).lt g hg).2
variable (mk : Nat → α)
/-- Behind k lists and i of the next one. -/
def stage (C : Nat → List α) (k i j : Nat) : List α := if j < k then List.replicate (C j).length (mk j) else if j = k then List.replicate i (mk k) ++ (C k).drop i else C j
theorem stage_len (C : Nat → List α) (k i j : Nat) (hi : i ≤ (C k).length) : (stage mk C k i j).length = (C j).length := by
  unfold stage
  split
  · simp
  · split
    · rename_i h; subst h; simp; omega
    · rfl
theorem stage_zero (C : Nat → List α) : stage mk C 0 0 = C := by
  funext j
  unfold stage
  rw [if_neg (Nat.not_lt_zero _)]
  split
  · rename_i h; subst h; simp
  · rfl
theorem stage_next (C : Nat → List α) (k : Nat) : stage mk C k (C k).length = stage mk C (k + 1) 0 := by
  funext j
  unfold stage
  by_cases h1 : j < k
  · rw [if_pos h1, if_pos (by omega)]
  · rw [if_neg h1]
    by_cases h2 : j = k
    · subst h2; rw [if_pos rfl, if_pos (by omega)]; simp
    · rw [if_neg h2, if_neg (by omega)]
      split
      · rename_i h; subst h; simp
      · rfl
theorem stage_step (C : Nat → List α) (k i : Nat) (hi : i < (C k).length) (j : Nat) : stage mk C k (i + 1) j = if j = k then (stage mk C k i k).set i (mk k) else stage mk C k i j := by
  unfold stage
  by_cases h1 : j < k
  · rw [if_pos h1, if_neg (by omega), if_pos h1]
  · rw [if_neg h1]
    by_cases h2 : j = k
    · rw [if_pos h2, if_pos h2, if_neg (Nat.lt_irrefl _), if_pos rfl]
      have hd : (C k).drop i = (C k)[i] :: (C k).drop (i + 1) := List.drop_eq_getElem_cons hi
      rw [hd, List.set_append_right _ _ (by simp), List.length_replicate, Nat.sub_self, List.set_cons_zero, List.replicate_succ', List.append_assoc]
      rfl
    · rw [if_neg h2, if_neg h2, if_neg h1, if_neg h2]
theorem stage_full (C : Nat → List α) (n : Nat) (j : Nat) (h : j < n) : stage mk C n 0 j = List.replicate (C j).length (mk j) := by
  unfold stage
  rw [if_pos h]
/-- A store into list k. -/
theorem Fam.set {W W' : World} {n k g len cap i : Nat} {V : Nat → Value} {D D' : Nat → List α} (h : Fam E e W n V D) (hk : k < n) (hV : V k = .slice (some ⟨g, 0, none⟩) len cap) (x : α) (hD : ∀ j, D' j = if j = k then (D k).set i x else D j)
    (h1 : W'.ownsRow 0 e E.k (.slice (some ⟨g, 0, none⟩) len cap) (D k).length (fl E ((D k).set i x))) (h2 : Kp (fun q => q = g) W W') : Fam E e W' n V D' ∧ Kp (fun q => (V k).ownBlock = some q) W W' := by
  have hkk : Kp (fun q => (V k).ownBlock = some q) W W' := ⟨h2.os, h2.tape, h2.output, h2.size, fun q hq hn => h2.block q hq (fun e => hn (by rw [hV, e]; rfl))⟩
  refine ⟨⟨fun j hj => ?_, h.far⟩, hkk⟩
  rw [hD j]
  by_cases hjk : j = k
  · subst hjk
    rw [if_pos rfl, hV, List.length_set]
    exact h1
  · rw [if_neg hjk]
    exact owns_kp hkk (h.own j hj) (fun q hq e => h.far j k hj hk hjk q hq e)

variable (E e) in
/-- While list k is grown: x is what it has come to. -/
structure Inn (W0 : World) (v : Value) (n : Nat) (a : α) (W : World) (x : Value) (m : Nat) : Prop where
  ox : W.ownsRow 0 e E.k x (n + m) (fl E (List.replicate (n + m) a))
  vk : ∀ q, v.ownBlock = some q → ∀ j u, (fl E (List.replicate n a))[j]? = some u → W.cell? ⟨q, j, none⟩ = some u
  lie : ∀ g, x.ownBlock = some g → v.ownBlock = some g ∨ W0.heap.size ≤ g
  kp : Kp (fun q => v.ownBlock = some q) W0 W
theorem Inn.init {W0 : World} {v : Value} {n : Nat} {a : α} (h : W0.ownsRow 0 e E.k v n (fl E (List.replicate n a))) : Inn E e W0 v n a W0 v 0 := by
  refine ⟨h, fun q hq j u hu => ?_, fun g hg => Or.inl hg, Kp.refl _ _⟩
  have := h.cells (g := q) hq j u hu
  rw [addA, Nat.zero_add] at this
  exact this
theorem Inn.gr {W0 W W' : World} {v x : Value} {n m : Nat} {a : α} (h : Inn E e W0 v n a W x m) (hv : ∀ q, v.ownBlock = some q → q < W0.heap.size) (hg : Gr W W') : Inn E e W0 v n a W' x m :=
  ⟨owns_below h.ox hg.below, fun q hq j u hu => (hg.cell (Nat.lt_of_lt_of_le (hv q hq) h.kp.size)).trans (h.vk q hq j u hu), h.lie, h.kp.trans (Kp.of_gr hg) (fun _ _ h => h)⟩
/-- One more is put behind it. -/
theorem Inn.app {W0 W W' : World} {v x : Value} {n m g cap : Nat} {a : α} (h : Inn E e W0 v n a W x m) (hv : ∀ q, v.ownBlock = some q → q < W0.heap.size)
    (ho : W'.ownsRow 0 e E.k (.slice (some ⟨g, 0, none⟩) (n + m + 1) cap) (n + m + 1) (fl E (List.replicate (n + m) a) ++ E.enc a)) (hk : Kp (fun q => x.ownBlock = some q) W W') (hl : x.ownBlock = some g ∨ W.heap.size ≤ g)
    (hold : ∀ q, x.ownBlock = some q → ∀ j u, (fl E (List.replicate (n + m) a))[j]? = some u → W'.cell? ⟨q, j, none⟩ = some u) : Inn E e W0 v n a W' (.slice (some ⟨g, 0, none⟩) (n + m + 1) cap) (m + 1) := by
  have hz := h.kp.size
  refine ⟨?_, fun q hq j u hu => ?_, fun g' hg' => ?_, h.kp.trans hk (fun q hq hs => ?_)⟩
  · rw [← Nat.add_assoc, List.replicate_succ', fl_append, fl_one]
    exact ho
  · by_cases hx : x.ownBlock = some q
    · refine hold q hx j u ?_
      have hj := (List.getElem?_eq_some_iff.1 hu).1
      rw [fl_length, List.length_replicate] at hj
      have hEk : 0 < E.k := by
        rcases Nat.eq_zero_or_pos E.k with h0 | h0
        · rw [h0] at hj; simp at hj
        · exact h0
      have hjj : j < (n + m) * E.k := Nat.lt_of_lt_of_le hj (Nat.mul_le_mul_right _ (Nat.le_add_right _ _))
      have e1 := fl_get E (List.replicate n a) (j / E.k) (j % E.k) a (by rw [List.getElem?_replicate, if_pos ((Nat.div_lt_iff_lt_mul hEk).2 hj)]) (Nat.mod_lt _ hEk)
      have e2 := fl_get E (List.replicate (n + m) a) (j / E.k) (j % E.k) a (by rw [List.getElem?_replicate, if_pos ((Nat.div_lt_iff_lt_mul hEk).2 hjj)]) (Nat.mod_lt _ hEk)
      rw [Nat.div_add_mod'] at e1 e2
      rw [e2, ← e1]
      exact hu
    · rw [World.cell?_of_block (a := ⟨q, j, none⟩) (hk.block q (Nat.lt_of_lt_of_le (hv q hq) hz) hx)]
      exact h.vk q hq j u hu
  · have : g = g' := by simpa [Value.ownBlock] using hg'
    subst this
    rcases hl with hl | hl
    · exact h.lie g hl
    · exact Or.inr (Nat.le_trans hz hl)
  · rcases h.lie q hs with h1 | h1
    · exact h1
    · omega
end
end Go.Proofs.Ytghpekkncfckaaa
