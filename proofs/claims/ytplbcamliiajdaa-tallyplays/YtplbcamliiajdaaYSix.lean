import Derived.Test.YtplbcamliiajdaaYPlay1
namespace Go.Proofs.Ytplbcamliiajdaa
open Go.RowKit Go.Sort Go.Maps

/-- One of three set anew. -/
def st {α : Type} (g : Nat → α) (i : Nat) (x : α) (j : Nat) : α := if j = i then x else g j
theorem st_same {α : Type} (g : Nat → α) (i : Nat) (x : α) : st g i x i = x := by simp [st]
theorem st_other {α : Type} (g : Nat → α) {i j : Nat} (x : α) (h : j ≠ i) : st g i x j = g j := by simp [st, h]
/-- Whose a block is: 0 to 2 the tallies, 3 to 5 the document's, 6 and 7 the two lists. -/
def Own (X : Nat → Tb) (R : Nat → Rf) (bA bR a k : Nat) : Prop :=
  (a < 3 ∧ (k = (X a).t ∨ k = (X a).b)) ∨ (3 ≤ a ∧ a < 6 ∧ (R (a - 3)).own k) ∨ (a = 6 ∧ k = bA) ∨ (a = 7 ∧ k = bR)
/-- Three tallies and the document's, in two lists. -/
structure Six (w : World) (bA bR : Nat) (X : Nat → Tb) (R : Nat → Rf) (kT kR : Nat → Int) (nn : Nat → Nat) (F : Nat → BS → Int) (N : Nat → List Rk) (C : Nat → List Int) (base : Nat) : Prop where
  ca : ∃ cur, w.heap[bA]? = some (.cells cur 23 (0, 0)) ∧ 3 ≤ cur.size ∧ ∀ i, i < 3 → cur[i]? = some (tp (X i))
  cr : ∃ cur, w.heap[bR]? = some (.cells cur 44 (0, 0)) ∧ 3 ≤ cur.size ∧ ∀ i, i < 3 → cur[i]? = some (rp (R i))
  tl : ∀ i, i < 3 → Tl w (X i).t (X i).b (X i).g (nn i) (F i)
  od : ∀ i, i < 3 → OrdOk (X i).g (cf (kT i)) ∧ (kT i = 0 ∨ kT i = 1 ∨ kT i = 2)
  rt : ∀ i, i < 3 → RT w (R i) (kR i) (N i) (C i)
  sep : ∀ a b k, Own X R bA bR a k → Own X R bA bR b k → a = b
  lo : ∀ a k, Own X R bA bR a k → base ≤ k
section
variable {w w' : World} {bA bR base : Nat} {X : Nat → Tb} {R : Nat → Rf} {kT kR : Nat → Int} {nn : Nat → Nat} {F : Nat → BS → Int} {N : Nat → List Rk} {C : Nat → List Int}
theorem Six.own_lt (h : Six w bA bR X R kT kR nn F N C base) {a k : Nat} (ho : Own X R bA bR a k) : k < w.heap.size := by
  rcases ho with ⟨ha, rfl | rfl⟩ | ⟨h1, h2, h3⟩ | ⟨_, rfl⟩ | ⟨_, rfl⟩
  · exact (h.tl a ha).lt
  · exact (h.tl a ha).ta.lt
  · exact (h.rt (a - 3) (by omega)).own_lt k h3
  · obtain ⟨cur, hc, _⟩ := h.ca; exact (Array.getElem?_eq_some_iff.1 hc).1
  · obtain ⟨cur, hc, _⟩ := h.cr; exact (Array.getElem?_eq_some_iff.1 hc).1
theorem Six.bel (h : Six w bA bR X R kT kR nn F N C base) (hb : Below w.heap.size w w') : Six w' bA bR X R kT kR nn F N C base := by
  obtain ⟨ca, hca, ca2⟩ := h.ca
  obtain ⟨cr, hcr, cr2⟩ := h.cr
  exact ⟨⟨ca, (hb.block bA (Array.getElem?_eq_some_iff.1 hca).1).trans hca, ca2⟩, ⟨cr, (hb.block bR (Array.getElem?_eq_some_iff.1 hcr).1).trans hcr, cr2⟩, fun i hi => (h.tl i hi).below hb, h.od, fun i hi => (h.rt i hi).bel hb, h.sep, h.lo⟩
theorem Six.gr (h : Six w bA bR X R kT kR nn F N C base) (hb : Gr w w') : Six w' bA bR X R kT kR nn F N C base := h.bel hb.below
theorem Six.cellA (h : Six w bA bR X R kT kR nn F N C base) {i : Nat} (hi : i < 3) : w.cell? ⟨bA, i, none⟩ = some (tp (X i)) ∧ w.frozen? ⟨bA, i, none⟩ = false ∧ bA < w.heap.size := by
  obtain ⟨cur, hc, h3, h4⟩ := h.ca
  exact ⟨by simp [World.cell?, hc, h4 i hi], by simp [World.frozen?, hc], (Array.getElem?_eq_some_iff.1 hc).1⟩
theorem Six.cellR (h : Six w bA bR X R kT kR nn F N C base) {i : Nat} (hi : i < 3) : w.cell? ⟨bR, i, none⟩ = some (rp (R i)) ∧ w.frozen? ⟨bR, i, none⟩ = false ∧ bR < w.heap.size := by
  obtain ⟨cur, hc, h3, h4⟩ := h.cr
  exact ⟨by simp [World.cell?, hc, h4 i hi], by simp [World.frozen?, hc], (Array.getElem?_eq_some_iff.1 hc).1⟩
/-- What may be told of the owners behind a change at the owner a0. -/
theorem sep_of {X' : Nat → Tb} {R' : Nat → Rf} {a0 : Nat} (h : Six w bA bR X R kT kR nn F N C base) (hother : ∀ a k, a ≠ a0 → Own X' R' bA bR a k → Own X R bA bR a k) (hself : ∀ k, Own X' R' bA bR a0 k → Own X R bA bR a0 k ∨ w.heap.size ≤ k) : (∀ a b k, Own X' R' bA bR a k → Own X' R' bA bR b k → a = b) ∧ (base ≤ w.heap.size → ∀ a k, Own X' R' bA bR a k → base ≤ k) := by
  have cl : ∀ a k, Own X' R' bA bR a k → Own X R bA bR a k ∨ (a = a0 ∧ w.heap.size ≤ k) := fun a k ho => by
    by_cases ha : a = a0
    · subst ha
      exact (hself k ho).imp id (fun h => ⟨rfl, h⟩)
    · exact Or.inl (hother a k ha ho)
  refine ⟨fun a b k h1 h2 => ?_, fun hb a k ho => ?_⟩
  · rcases cl a k h1 with h1 | ⟨h1, h1'⟩ <;> rcases cl b k h2 with h2 | ⟨h2, h2'⟩
    · exact h.sep a b k h1 h2
    · have := h.own_lt h1; omega
    · have := h.own_lt h2; omega
    · omega
  · rcases cl a k ho with h1 | ⟨_, h1⟩
    · exact h.lo a k h1
    · omega
theorem own_st_T {i : Nat} {x : Tb} {a k : Nat} (ha : a ≠ i) (ho : Own (st X i x) R bA bR a k) : Own X R bA bR a k := by
  rcases ho with ⟨h1, h2⟩ | h | h | h
  · rw [st_other X x ha] at h2; exact Or.inl ⟨h1, h2⟩
  · exact Or.inr (Or.inl h)
  · exact Or.inr (Or.inr (Or.inl h))
  · exact Or.inr (Or.inr (Or.inr h))
theorem own_st_R {i : Nat} {r : Rf} {a k : Nat} (ha : a ≠ i + 3) (ho : Own X (st R i r) bA bR a k) : Own X R bA bR a k := by
  rcases ho with h | ⟨h1, h2, h3⟩ | h | h
  · exact Or.inl h
  · rw [st_other R r (by omega)] at h3; exact Or.inr (Or.inl ⟨h1, h2, h3⟩)
  · exact Or.inr (Or.inr (Or.inl h))
  · exact Or.inr (Or.inr (Or.inr h))

/-- The tally i is turned, in its place. -/
theorem Six.turnT (h : Six w bA bR X R kT kR nn F N C base) {i : Nat} (hi : i < 3) {x' : Tb} {n' : Nat} {f' : BS → Int} (ht : x'.t = (X i).t) (hg : x'.g = (X i).g) (hb : x'.b = (X i).b ∨ w.heap.size ≤ x'.b) (hT : Tl w' x'.t x'.b x'.g n' f') (hk : Kp (fun k => k = (X i).t ∨ k = (X i).b) w w') (hbs : base ≤ w.heap.size) :
    Six w' bA bR (st X i x') R kT kR (st nn i n') (st F i f') N C base := by
  have hS : ∀ a k, a ≠ i → Own X R bA bR a k → ¬ (k = (X i).t ∨ k = (X i).b) := fun a k ha ho hk => ha (h.sep a i k ho (Or.inl ⟨hi, hk⟩))
  obtain ⟨hs1, hs2⟩ := sep_of (X' := st X i x') (R' := R) (a0 := i) h (fun a k ha ho => own_st_T ha ho) (fun k ho => by
    rcases ho with ⟨_, h2⟩ | ⟨h1, _, _⟩ | ⟨h1, _⟩ | ⟨h1, _⟩
    · rw [st_same] at h2
      rcases h2 with rfl | rfl
      · exact Or.inl (Or.inl ⟨hi, Or.inl ht⟩)
      · rcases hb with hb | hb
        · exact Or.inl (Or.inl ⟨hi, Or.inr hb⟩)
        · exact Or.inr hb
    · omega
    · omega
    · omega)
  obtain ⟨ca, hca, ca1, ca2⟩ := h.ca
  obtain ⟨cr, hcr, cr2⟩ := h.cr
  refine ⟨⟨ca, (hk.block bA (Array.getElem?_eq_some_iff.1 hca).1 (hS 6 bA (by omega) (Or.inr (Or.inr (Or.inl ⟨rfl, rfl⟩))))).trans hca, ca1, fun j hj => ?_⟩, ⟨cr, (hk.block bR (Array.getElem?_eq_some_iff.1 hcr).1 (hS 7 bR (by omega) (Or.inr (Or.inr (Or.inr ⟨rfl, rfl⟩))))).trans hcr, cr2⟩, fun j hj => ?_, fun j hj => ?_, fun j hj => (h.rt j hj).kp hk (fun k ho => hS (j + 3) k (by omega) (Or.inr (Or.inl ⟨by omega, by omega, by simpa using ho⟩))), hs1, hs2 hbs⟩
  · rw [ca2 j hj]
    by_cases e : j = i
    · subst e; rw [st_same]; unfold tp; rw [ht]
    · rw [st_other X x' e]
  · by_cases e : j = i
    · subst e; rw [st_same, st_same, st_same]; exact hT
    · rw [st_other X x' e, st_other nn n' e, st_other F f' e]
      exact (h.tl j hj).kp hk (hS j _ e (Or.inl ⟨hj, Or.inl rfl⟩)) (hS j _ e (Or.inl ⟨hj, Or.inr rfl⟩))
  · by_cases e : j = i
    · subst e; rw [st_same, hg]; exact h.od j hj
    · rw [st_other X x' e]; exact h.od j hj
/-- The document's tally i is turned, in its place. -/
theorem Six.turnR (h : Six w bA bR X R kT kR nn F N C base) {i : Nat} (hi : i < 3) {r' : Rf} {N' : List Rk} {C' : List Int} (hrb : r'.b = (R i).b) (hT : RT w' r' (kR i) N' C') (hk : Kp (R i).own w w') (ho' : ∀ k, r'.own k → (R i).own k ∨ w.heap.size ≤ k) (hbs : base ≤ w.heap.size) :
    Six w' bA bR X (st R i r') kT kR nn F (st N i N') (st C i C') base := by
  have hS : ∀ a k, a ≠ i + 3 → Own X R bA bR a k → ¬ (R i).own k := fun a k ha ho hk => ha (h.sep a (i + 3) k ho (Or.inr (Or.inl ⟨by omega, by omega, by simpa using hk⟩)))
  obtain ⟨hs1, hs2⟩ := sep_of (X' := X) (R' := st R i r') (a0 := i + 3) h (fun a k ha ho => own_st_R ha ho) (fun k ho => by
    rcases ho with ⟨h1, _⟩ | ⟨h1, h2, h3⟩ | ⟨h1, _⟩ | ⟨h1, _⟩
    · omega
    · rw [show i + 3 - 3 = i by omega, st_same] at h3
      exact (ho' k h3).imp (fun h => Or.inr (Or.inl ⟨h1, h2, by simpa using h⟩)) id
    · omega
    · omega)
  obtain ⟨ca, hca, ca2⟩ := h.ca
  obtain ⟨cr, hcr, cr1, cr2⟩ := h.cr
  refine ⟨⟨ca, (hk.block bA (Array.getElem?_eq_some_iff.1 hca).1 (hS 6 bA (by omega) (Or.inr (Or.inr (Or.inl ⟨rfl, rfl⟩))))).trans hca, ca2⟩, ⟨cr, (hk.block bR (Array.getElem?_eq_some_iff.1 hcr).1 (hS 7 bR (by omega) (Or.inr (Or.inr (Or.inr ⟨rfl, rfl⟩))))).trans hcr, cr1, fun j hj => ?_⟩, fun j hj => (h.tl j hj).kp hk (hS j _ (by omega) (Or.inl ⟨hj, Or.inl rfl⟩)) (hS j _ (by omega) (Or.inl ⟨hj, Or.inr rfl⟩)), h.od, fun j hj => ?_, hs1, hs2 hbs⟩
  · rw [cr2 j hj]
    by_cases e : j = i
    · subst e; rw [st_same]; unfold rp; rw [hrb]
    · rw [st_other R r' e]
  · by_cases e : j = i
    · subst e; rw [st_same, st_same, st_same]; exact hT
    · rw [st_other R r' e, st_other N N' e, st_other C C' e]
      exact (h.rt j hj).kp hk (fun k ho => hS (j + 3) k (by omega) (Or.inr (Or.inl ⟨by omega, by omega, by simpa using ho⟩)))
/-- The place i of the first list is given another tally. -/
theorem Six.putT (h : Six w bA bR X R kT kR nn F N C base) {i : Nat} (hi : i < 3) {y : Tb} {n' : Nat} {f' : BS → Int} {k' : Int} (w1 : World) (hg : Gr w w1) (hT : Tl w1 y.t y.b y.g n' f') (h1 : w.heap.size ≤ y.t) (h2 : w.heap.size ≤ y.b) (ho : OrdOk y.g (cf k') ∧ (k' = 0 ∨ k' = 1 ∨ k' = 2)) (hbs : base ≤ w.heap.size) :
    Six (w1.setCell ⟨bA, i, none⟩ (tp y)) bA bR (st X i y) R (st kT i k') kR (st nn i n') (st F i f') N C base := by
  have hG := h.gr hg
  obtain ⟨hs1, hs2⟩ := sep_of (X' := st X i y) (R' := R) (a0 := i) h (fun a k ha ho => own_st_T ha ho) (fun k ho => by
    rcases ho with ⟨_, h2'⟩ | ⟨h1', _, _⟩ | ⟨h1', _⟩ | ⟨h1', _⟩
    · rw [st_same] at h2'
      rcases h2' with rfl | rfl
      · exact Or.inr h1
      · exact Or.inr h2
    · omega
    · omega
    · omega)
  obtain ⟨ca, hca, ca1, ca2⟩ := hG.ca
  obtain ⟨cr, hcr, cr2⟩ := hG.cr
  have e1 := setCell_eq_setRow w1 bA i _ _ _ (tp y) hca
  have hk : Kp (fun k => k = bA) w1 (w1.setCell ⟨bA, i, none⟩ (tp y)) := by
    rw [e1]
    exact ⟨rfl, rfl, rfl, by simp [World.setRow], fun k _ hne => setRow_other w1 bA k _ (by omega)⟩
  have hA : ∀ a k, a ≠ 6 → Own X R bA bR a k → ¬ k = bA := fun a k ha ho e => ha (h.sep a 6 k ho (Or.inr (Or.inr (Or.inl ⟨rfl, e⟩))))
  have hbA : bA < w.heap.size := h.own_lt (a := 6) (Or.inr (Or.inr (Or.inl ⟨rfl, rfl⟩)))
  refine ⟨⟨_, by rw [e1]; exact setRow_heap w1 bA _ _ _ _ hca, by simpa using ca1, fun j hj => ?_⟩, ⟨cr, (hk.block bR (Array.getElem?_eq_some_iff.1 hcr).1 (hA 7 bR (by omega) (Or.inr (Or.inr (Or.inr ⟨rfl, rfl⟩))))).trans hcr, cr2⟩, fun j hj => ?_, fun j hj => ?_, fun j hj => (hG.rt j hj).kp hk (fun k ho => hA (j + 3) k (by omega) (Or.inr (Or.inl ⟨by omega, by omega, by simpa using ho⟩))), hs1, hs2 hbs⟩
  · by_cases e : j = i
    · subst e; rw [st_same, Array.getElem?_setIfInBounds_self_of_lt (by omega)]
    · rw [st_other X y e, Array.getElem?_setIfInBounds_ne (fun h => e h.symm)]; exact ca2 j hj
  · by_cases e : j = i
    · subst e; rw [st_same, st_same, st_same]
      exact hT.kp hk (by omega) (by omega)
    · rw [st_other X y e, st_other nn n' e, st_other F f' e]
      exact (hG.tl j hj).kp hk (hA j _ (by omega) (Or.inl ⟨hj, Or.inl rfl⟩)) (hA j _ (by omega) (Or.inl ⟨hj, Or.inr rfl⟩))
  · by_cases e : j = i
    · subst e; rw [st_same, st_same]; exact ho
    · rw [st_other X y e, st_other kT k' e]; exact h.od j hj
/-- The place i of the second list. -/
theorem Six.putR (h : Six w bA bR X R kT kR nn F N C base) {i : Nat} (hi : i < 3) {r' : Rf} {N' : List Rk} {C' : List Int} {k' : Int} (w1 : World) (hg : Below w.heap.size w w1) (hT : RT w1 r' k' N' C') (h1 : ∀ k, r'.own k → w.heap.size ≤ k) (hbs : base ≤ w.heap.size) :
    Six (w1.setCell ⟨bR, i, none⟩ (rp r')) bA bR X (st R i r') kT (st kR i k') nn F (st N i N') (st C i C') base := by
  have hG := h.bel hg
  obtain ⟨hs1, hs2⟩ := sep_of (X' := X) (R' := st R i r') (a0 := i + 3) h (fun a k ha ho => own_st_R ha ho) (fun k ho => by
    rcases ho with ⟨h1', _⟩ | ⟨h1', h2, h3⟩ | ⟨h1', _⟩ | ⟨h1', _⟩
    · omega
    · rw [show i + 3 - 3 = i by omega, st_same] at h3
      exact Or.inr (h1 k h3)
    · omega
    · omega)
  obtain ⟨ca, hca, ca2⟩ := hG.ca
  obtain ⟨cr, hcr, cr1, cr2⟩ := hG.cr
  have e1 := setCell_eq_setRow w1 bR i _ _ _ (rp r') hcr
  have hk : Kp (fun k => k = bR) w1 (w1.setCell ⟨bR, i, none⟩ (rp r')) := by
    rw [e1]
    exact ⟨rfl, rfl, rfl, by simp [World.setRow], fun k _ hne => setRow_other w1 bR k _ (by omega)⟩
  have hA : ∀ a k, a ≠ 7 → Own X R bA bR a k → ¬ k = bR := fun a k ha ho e => ha (h.sep a 7 k ho (Or.inr (Or.inr (Or.inr ⟨rfl, e⟩))))
  have hbR : bR < w.heap.size := h.own_lt (a := 7) (Or.inr (Or.inr (Or.inr ⟨rfl, rfl⟩)))
  refine ⟨⟨ca, (hk.block bA (Array.getElem?_eq_some_iff.1 hca).1 (hA 6 bA (by omega) (Or.inr (Or.inr (Or.inl ⟨rfl, rfl⟩))))).trans hca, ca2⟩, ⟨_, by rw [e1]; exact setRow_heap w1 bR _ _ _ _ hcr, by simpa using cr1, fun j hj => ?_⟩, fun j hj => (hG.tl j hj).kp hk (hA j _ (by omega) (Or.inl ⟨hj, Or.inl rfl⟩)) (hA j _ (by omega) (Or.inl ⟨hj, Or.inr rfl⟩)), h.od, fun j hj => ?_, hs1, hs2 hbs⟩
  · by_cases e : j = i
    · subst e; rw [st_same, Array.getElem?_setIfInBounds_self_of_lt (by omega)]
    · rw [st_other R r' e, Array.getElem?_setIfInBounds_ne (fun h => e h.symm)]; exact cr2 j hj
  · by_cases e : j = i
    · subst e; rw [st_same, st_same, st_same, st_same]
      exact hT.kp hk (fun k ho e => by have := h1 k ho; omega)
    · rw [st_other R r' e, st_other N N' e, st_other C C' e, st_other kR k' e]
      exact (hG.rt j hj).kp hk (fun k ho => hA (j + 3) k (by omega) (Or.inr (Or.inl ⟨by omega, by omega, by simpa using ho⟩)))
end

/-- What the two sides have to do with each other. -/
structure Fit3 (U : List Rk) (kT kR : Nat → Int) (F : Nat → BS → Int) (N : Nat → List Rk) (C : Nat → List Int) : Prop where
  kd : ∀ i, i < 3 → kT i = kR i
  rl : ∀ i, i < 3 → Rel (F i) (N i) (C i)
  un : ∀ i, i < 3 → ∀ y ∈ N i, y ∈ U
end Go.Proofs.Ytplbcamliiajdaa
