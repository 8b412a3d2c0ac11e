import Derived.Test.YtmhbpelbkeclpaaGreatDoorCompare
import Derived.Test.YtmhbpelbkeclpaaGreatDoorSl
namespace Go.Proofs.YtmhbpelbkeclpaaGreatDoor
open Go.RowKit Go.Sort Go.Shelf Go.Lib

abbrev T3 := Int × Int × Int
/-- A time's three cells. -/
def encT (t : T3) : List Value := [.int .u64 t.1, .int .u64 t.2.1, .int .u64 t.2.2]
def flat (ts : List T3) : List Value := ts.flatMap encT
def le3 (s t : T3) : Bool := tle s.1 s.2.1 s.2.2 t.1 t.2.1 t.2.2
def cmp3 (s t : T3) : Int := tcmp s.1 s.2.1 s.2.2 t.1 t.2.1 t.2.2

theorem flat_nil : flat [] = [] := rfl
theorem flat_cons (t : T3) (ts : List T3) : flat (t :: ts) = encT t ++ flat ts := rfl
theorem flat_append (a b : List T3) : flat (a ++ b) = flat a ++ flat b := by simp [flat]
theorem flat_length (ts : List T3) : (flat ts).length = ts.length * 3 := by
  induction ts with
  | nil => rfl
  | cons t ts ih => rw [flat_cons, List.length_append, ih]; simp [encT]; omega
theorem flat_get (ts : List T3) (j i : Nat) (t : T3) (h : ts[j]? = some t) (hi : i < 3) : (flat ts)[j * 3 + i]? = (encT t)[i]? := by
  induction ts generalizing j with
  | nil => simp at h
  | cons s ts ih =>
    rw [flat_cons]
    cases j with
    | zero =>
      simp at h; subst h
      rw [Nat.zero_mul, Nat.zero_add, List.getElem?_append_left (by simp [encT]; omega)]
    | succ j =>
      rw [List.getElem?_append_right (by simp [encT]; omega), show (j + 1) * 3 + i - (encT s).length = j * 3 + i by simp [encT]; omega]
      exact ih j (by simpa using h)
theorem flat_oneCell (ts : List T3) : ∀ u ∈ flat ts, u.oneCell' = true := by
  intro u hu
  simp only [flat, List.mem_flatMap] at hu
  obtain ⟨t, _, hu⟩ := hu
  simp [encT] at hu
  rcases hu with rfl | rfl | rfl <;> rfl

/-- The times lie there, three cells each. -/
def TimesAt (w : World) (b off : Nat) (ts : List T3) : Prop := ∀ j u, (flat ts)[j]? = some u → w.cell? ⟨b, off + j, none⟩ = some u
theorem TimesAt.three {w : World} {b off : Nat} {ts : List T3} (h : TimesAt w b off ts) {j : Nat} {t : T3} (hj : ts[j]? = some t) :
    w.cell? ⟨b, off + j * 3, none⟩ = some (.int .u64 t.1) ∧ w.cell? ⟨b, off + j * 3 + 1, none⟩ = some (.int .u64 t.2.1) ∧ w.cell? ⟨b, off + j * 3 + 2, none⟩ = some (.int .u64 t.2.2) := by
  refine ⟨?_, ?_, ?_⟩
  · exact h (j * 3) _ (by have := flat_get ts j 0 t hj (by omega); simpa [encT] using this)
  · exact h (j * 3 + 1) _ (by have := flat_get ts j 1 t hj (by omega); simpa [encT] using this)
  · exact h (j * 3 + 2) _ (by have := flat_get ts j 2 t hj (by omega); simpa [encT] using this)
theorem TimesAt.below {w w' : World} {b off : Nat} {ts : List T3} (h : TimesAt w b off ts) {B : Nat} (hb : Below B w w') (hB : b < B) : TimesAt w' b off ts := by
  intro j u hj
  rw [hb.cell (p := ⟨b, off + j, none⟩) hB]
  exact h j u hj

/-- A slice value that reads as these times. -/
def Lst (w : World) (v : Value) (ts : List T3) : Prop :=
  (ts = [] ∧ v = .slice none 0 0) ∨ ∃ b off c, v = .slice (some ⟨b, off, none⟩) ts.length c ∧ b < w.heap.size ∧ TimesAt w b off ts
theorem Lst.below {w w' : World} {v : Value} {ts : List T3} (h : Lst w v ts) (hb : Below w.heap.size w w') : Lst w' v ts := by
  rcases h with h | ⟨b, off, c, hv, hbs, ht⟩
  · exact Or.inl h
  · exact Or.inr ⟨b, off, c, hv, Nat.lt_of_lt_of_le hbs hb.size, ht.below hb hbs⟩
theorem Lst.nil (w : World) : Lst w (.slice none 0 0) [] := Or.inl ⟨rfl, rfl⟩
theorem Lst.form {w : World} {v : Value} {ts : List T3} (h : Lst w v ts) : ∃ p c, v = .slice p ts.length c := by
  rcases h with ⟨rfl, rfl⟩ | ⟨b, off, c, hv, _, _⟩
  · exact ⟨_, _, rfl⟩
  · exact ⟨_, _, hv⟩

set_option maxHeartbeats 1000000 in
/-- Open's closure: 'Ahead(u, t)', t in the caller's box. -/
theorem openFn_any (t : T3) (B : Nat) (w : World) (hB : B < w.heap.size) (h0 : w.cell? ⟨B, 0, none⟩ = some (.int .u64 t.1)) (h1 : w.cell? ⟨B, 1, none⟩ = some (.int .u64 t.2.1)) (h2 : w.cell? ⟨B, 2, none⟩ = some (.int .u64 t.2.2)) :
    PredBelow Tryz.prog 31 #[.pointer (some ⟨B, 0, none⟩)] (fun x => .agg (encT x).toArray) (fun x => le3 x t) w := fun W x hb => by
  have g0 := (hb.cell (p := ⟨B, 0, none⟩) hB).trans h0
  have g1 := (hb.cell (p := ⟨B, 1, none⟩) hB).trans h1
  have g2 := (hb.cell (p := ⟨B, 2, none⟩) hB).trans h2
  have hBW : B < W.heap.size := Nat.lt_of_lt_of_le hB hb.size
  have hne : B ≠ W.heap.size := by omega
  show Calls Tryz.prog 31 #[.agg #[.int .u64 x.1, .int .u64 x.2.1, .int .u64 x.2.2], .pointer (some ⟨B, 0, none⟩)] W _
  unfold le3
  clear h0 h1 h2
  go_enter Tryz.func31, Tryz.ntmps31
  go_wp2_with (go_at_call 22; refine (Ahead_any _ _ _ _ _ _ _).mono ?_; rintro e w1 ⟨rfl, hg⟩)
  go_ret
  exact ⟨rfl, (hb.alloc hb.size _).trans (hg.below.mono (by have := hb.size; simp; omega))⟩
end Go.Proofs.YtmhbpelbkeclpaaGreatDoor
