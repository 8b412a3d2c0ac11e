import Derived.Test.YtmhbpelbkeclpaaGreatDoorOpen
namespace Go.Proofs.YtmhbpelbkeclpaaGreatDoor
open Go.RowKit Go.Sort Go.Shelf Go.Lib

theorem c64_neg (x y : Int) : c64 x y < 0 ↔ x < y := by unfold c64; (repeat split) <;> omega
theorem c64_zero (x y : Int) : c64 x y = 0 ↔ x = y := by unfold c64; (repeat split) <;> omega
theorem c64_pos (x y : Int) : 0 < c64 x y ↔ y < x := by unfold c64; (repeat split) <;> omega

/-- x is told ahead of y. -/
def lt3 (x y : T3) : Prop := x.1 < y.1 ∨ (x.1 = y.1 ∧ (x.2.1 < y.2.1 ∨ (x.2.1 = y.2.1 ∧ x.2.2 < y.2.2)))
theorem tcmp_neg (a b c x y z : Int) : tcmp a b c x y z < 0 ↔ a < x ∨ (a = x ∧ (b < y ∨ (b = y ∧ c < z))) := by
  have h1 := c64_neg a x; have h2 := c64_zero a x; have h3 := c64_neg b y; have h4 := c64_zero b y; have h5 := c64_neg c z
  unfold tcmp or3
  generalize c64 a x = p at *; generalize c64 b y = q at *; generalize c64 c z = r at *
  (repeat split) <;> omega
theorem tcmp_zero (a b c x y z : Int) : tcmp a b c x y z = 0 ↔ a = x ∧ b = y ∧ c = z := by
  have h2 := c64_zero a x; have h4 := c64_zero b y; have h5 := c64_zero c z
  unfold tcmp or3
  generalize c64 a x = p at *; generalize c64 b y = q at *; generalize c64 c z = r at *
  (repeat split) <;> omega
theorem c64_bd (x y : Int) : -1 ≤ c64 x y ∧ c64 x y ≤ 1 ∧ c64 x y = - c64 y x := by unfold c64; (repeat split) <;> omega
theorem tcmp_bd (a b c x y z : Int) : -1 ≤ tcmp a b c x y z ∧ tcmp a b c x y z ≤ 1 ∧ tcmp a b c x y z = - tcmp x y z a b c := by
  have h1 := c64_bd a x; have h2 := c64_bd b y; have h3 := c64_bd c z
  unfold tcmp or3
  generalize c64 a x = p at *; generalize c64 b y = q at *; generalize c64 c z = r at *
  generalize c64 x a = p' at *; generalize c64 y b = q' at *; generalize c64 z c = r' at *
  (repeat split) <;> omega
theorem cmp3_neg (x y : T3) : cmp3 x y < 0 ↔ lt3 x y := tcmp_neg _ _ _ _ _ _
theorem ltOf3 (x y : T3) : ltOf cmp3 x y = true ↔ lt3 x y := by
  unfold ltOf
  rw [decide_eq_true_iff]
  exact cmp3_neg x y
theorem ltOf3_not (x y : T3) : ltOf cmp3 x y = false ↔ ¬ lt3 x y := by
  rw [← ltOf3, Bool.not_eq_true]
theorem swo3 : SWO (ltOf cmp3) where
  irrefl x := by rw [ltOf3_not]; unfold lt3; omega
  trans x y z h1 h2 := by
    rw [ltOf3] at *
    unfold lt3 at *; omega
  ntrans x y z h1 h2 := by
    rw [ltOf3_not] at *
    unfold lt3 at *; omega
theorem tot3 (x y : T3) (h1 : ltOf cmp3 x y = false) (h2 : ltOf cmp3 y x = false) : x = y := by
  rw [ltOf3_not] at *
  obtain ⟨a, b, c⟩ := x
  obtain ⟨p, q, r⟩ := y
  unfold lt3 at *
  simp only at h1 h2
  have e1 : a = p := by omega
  have e2 : b = q := by omega
  have e3 : c = r := by omega
  rw [e1, e2, e3]

/-- The times in the order of telling. -/
def tsort (ts : List T3) : List T3 := ts.mergeSort fun x y => !(ltOf cmp3) y x
theorem tsort_length (ts : List T3) : (tsort ts).length = ts.length := List.length_mergeSort ..
theorem tsort_perm (ts : List T3) : (tsort ts).Perm ts := List.mergeSort_perm ..

theorem flatK_eq (ts : List T3) : flatK encT 3 ts.toArray = (flat ts).toArray := by
  refine ext_get! (by rw [size_flatK]; simp [flat_length]) fun t ht => ?_
  rw [size_flatK] at ht
  have ht' : t < ts.length * 3 := by simpa using ht
  have hq : t / 3 < ts.length := by omega
  rw [get_flatK _ _ _ t ht]
  have h1 := flat_get ts (t / 3) (t % 3) ts[t / 3] (by simp) (by omega)
  rw [show t / 3 * 3 + t % 3 = t by omega] at h1
  have h3 : (ts.toArray)[t / 3]! = ts[t / 3] := by simp [hq]
  rw [h3]
  have h4 : ((flat ts).toArray)[t]! = ((flat ts)[t]?).getD default := by simp
  rw [h4, h1]
  simp

theorem cmpLays3 (blk off size : Nat) (w : World) : CmpLays Tryz.prog 29 #[] encT 3 cmp3 blk off size w :=
  fun _ _ _ _ x y => Compare_any x.1 x.2.1 x.2.2 y.1 y.2.1 y.2.2 _

/-- What the call owns, told as a list that lies there. -/
theorem owns_at {w : World} {base : Nat} {e : TypeId} {v : Value} {ts : List T3} (h : w.ownsRow base e 3 v ts.length (flat ts)) :
    (v = .slice none 0 0 ∧ ts = []) ∨ ∃ g cap, v = .slice (some ⟨g, 0, none⟩) ts.length cap ∧ base ≤ g ∧ g < w.heap.size ∧ TimesAt w g 0 ts ∧ HoldsK encT 3 w g 0 ts.toArray := by
  obtain ⟨_, h⟩ := h
  rcases h with ⟨hv, hn⟩ | ⟨g, cap, cur, hv, hg, hh, hc1, hc2, hsz, htk⟩
  · exact Or.inl ⟨hv, List.eq_nil_of_length_eq_zero hn⟩
  · have hlt : g < w.heap.size := (Array.getElem?_eq_some_iff.1 hh).1
    have hat : ∀ j u, (flat ts)[j]? = some u → w.cell? ⟨g, 0 + j, none⟩ = some u := by
      intro j u hj
      rw [← htk] at hj
      have hjl : j < ts.length * 3 := by
        have := (List.getElem?_eq_some_iff.1 hj).1
        rw [List.length_take] at this; omega
      rw [List.getElem?_take_of_lt hjl] at hj
      simp only [World.cell?, hh, Nat.zero_add]
      simpa using hj
    refine Or.inr ⟨g, cap, hv, hg, hlt, hat, ?_⟩
    unfold HoldsK
    rw [flatK_eq]
    intro j hj
    have hj' : j < (flat ts).length := by simpa using hj
    refine ⟨?_, ?_⟩
    · rw [hat j _ (List.getElem?_eq_getElem hj')]
      simp [hj']
    · simp only [World.frozen?, hh]
      simp
end Go.Proofs.YtmhbpelbkeclpaaGreatDoor
