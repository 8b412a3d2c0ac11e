import Derived.Test.YtijbmchgajhkeaaSuPy2
namespace Go.Proofs.Ytijbmchgajhkeaa
open Go.RowKit Go.Sort Go.Maps Go.Shelf

/-- Which of the two. -/
def ix (x : Int) : Nat := if x.tmod 2 = 0 then 0 else 1
theorem ix_lt (x : Int) : ix x < 2 := by unfold ix; split <;> omega
theorem rem_cases (x : Int) : x.tmod 2 = 0 ∨ x.tmod 2 = 1 ∨ x.tmod 2 = -1 := by
  have := Int.tmod_lt_of_pos x (show (0 : Int) < 2 by decide)
  have := Int.lt_tmod_of_pos x (show (0 : Int) < 2 by decide)
  omega
theorem ix_ok {x : Int} : (x.tmod 2 = 0 → ix x = 0) ∧ (x.tmod 2 = 1 → ix x = 1) ∧ (x.tmod 2 = -1 → ix x = 1) := by
  unfold ix
  refine ⟨fun h => by rw [if_pos h], fun h => by rw [if_neg (by omega)], fun h => by rw [if_neg (by omega)]⟩
/-- The document's Sums as it is made. -/
theorem Rs.made {W : World} {rb : Nat} (h : W.heap[rb]? = some (.cells #[.slice none 0 0] 52 (0, 0))) : Rs W (fun k => k = rb) rb [] :=
  ⟨_, h, rfl, World.ownsRow_nil _ _ _ _, fun g hg => by simp [Value.ownBlock] at hg⟩
/-- The four of them as they are made. -/
theorem Py.init {w w1 w2 W : World} (g1 : Gr w w1) (h1 : Su w1 (fun k => w.heap.size ≤ k) 0 w.heap.size []) (g2 : Gr w1 w2) (h2 : Su w2 (fun k => w1.heap.size ≤ k) 0 w1.heap.size [])
    (hW : W = (((w2.alloc (.cells #[.pointer (some ⟨w.heap.size, 0, none⟩), .pointer (some ⟨w1.heap.size, 0, none⟩)] 24)).alloc (.cells #[.slice none 0 0] 52)).alloc (.cells #[.slice none 0 0] 52)).alloc (.cells #[.pointer (some ⟨w2.heap.size + 1, 0, none⟩), .pointer (some ⟨w2.heap.size + 2, 0, none⟩)] 50)) :
    Py w w2.heap.size (w2.heap.size + 3) 0 0 (fun i => if i = 0 then w.heap.size else w1.heap.size) (fun i => if i = 0 then w2.heap.size + 1 else w2.heap.size + 2) (fun i => if i = 0 then (fun k => w.heap.size ≤ k ∧ k < w1.heap.size) else (fun k => w1.heap.size ≤ k ∧ k < w2.heap.size)) (fun i => if i = 0 then (fun k => k = w2.heap.size + 1) else (fun k => k = w2.heap.size + 2)) (fun _ => []) W := by
  obtain ⟨v1, e1⟩ : ∃ v, v = w2.alloc (.cells #[.pointer (some ⟨w.heap.size, 0, none⟩), .pointer (some ⟨w1.heap.size, 0, none⟩)] 24) := ⟨_, rfl⟩
  obtain ⟨v2, e2⟩ : ∃ v, v = v1.alloc (.cells #[.slice none 0 0] 52) := ⟨_, rfl⟩
  obtain ⟨v3, e3⟩ : ∃ v, v = v2.alloc (.cells #[.slice none 0 0] 52) := ⟨_, rfl⟩
  rw [← e1, ← e2, ← e3] at hW
  have q1 : v1.heap.size = w2.heap.size + 1 := by rw [e1]; simp
  have q2 : v2.heap.size = w2.heap.size + 2 := by rw [e2]; simp [q1]
  have q3 : v3.heap.size = w2.heap.size + 3 := by rw [e3]; simp [q2]
  have q4 : W.heap.size = w2.heap.size + 4 := by rw [hW]; simp [q3]
  have a1 : Gr w2 v1 := by rw [e1]; exact (Gr.refl _).alloc _
  have a2 : Gr v1 v2 := by rw [e2]; exact (Gr.refl _).alloc _
  have a3 : Gr v2 v3 := by rw [e3]; exact (Gr.refl _).alloc _
  have a4 : Gr v3 W := by rw [hW]; exact (Gr.refl _).alloc _
  have n1 : v1.heap[w2.heap.size]? = some (.cells #[.pointer (some ⟨w.heap.size, 0, none⟩), .pointer (some ⟨w1.heap.size, 0, none⟩)] 24 (0, 0)) := by rw [e1]; exact heap_new' _ _
  have n2 : v2.heap[w2.heap.size + 1]? = some (.cells #[.slice none 0 0] 52 (0, 0)) := by rw [e2, ← q1]; exact heap_new' _ _
  have n3 : v3.heap[w2.heap.size + 2]? = some (.cells #[.slice none 0 0] 52 (0, 0)) := by rw [e3, ← q2]; exact heap_new' _ _
  have n4 : W.heap[w2.heap.size + 3]? = some (.cells #[.pointer (some ⟨w2.heap.size + 1, 0, none⟩), .pointer (some ⟨w2.heap.size + 2, 0, none⟩)] 50 (0, 0)) := by rw [hW, ← q3]; exact heap_new' _ _
  have b24 : Gr v1 W := (a2.trans a3).trans a4
  have bW : Gr w2 W := a1.trans b24
  have z1 := g1.size
  have z2 := g2.size
  refine ⟨(b24.below.block _ (by omega)).trans n1, n4, fun i hi => ?_, fun i hi => ?_, fun i j hi hj k h7 h8 => ?_, fun i j hi hj hne k h7 h8 => ?_, fun i j hi hj hne k h7 h8 => ?_, fun i hi k h7 => ?_, ⟨by omega, by omega, by omega⟩, (g1.trans g2).below.trans (bW.below.mono (by omega)), fun i hi => Nat.zero_le _⟩
  · rcases two_cases hi with rfl | rfl
    · exact (h1.cut.below (g2.trans bW).below)
    · exact (h2.cut.below bW.below)
  · rcases two_cases hi with rfl | rfl
    · exact Rs.made (((a3.trans a4).below.block _ (by omega)).trans n2)
    · exact Rs.made ((a4.below.block _ (by omega)).trans n3)
  · rcases two_cases hi with rfl | rfl <;> rcases two_cases hj with rfl | rfl <;> (have h9 := h7.2; have h10 : k = _ := h8; omega)
  · rcases two_cases hi with rfl | rfl <;> rcases two_cases hj with rfl | rfl <;> first | omega | (have h9 := h7.1; have h10 := h7.2; have h11 := h8.1; have h12 := h8.2; omega)
  · rcases two_cases hi with rfl | rfl <;> rcases two_cases hj with rfl | rfl <;> first | omega | (have h9 : k = _ := h7; have h10 : k = _ := h8; omega)
  · rcases two_cases hi with rfl | rfl
    · rcases h7 with h7 | h7
      · have h9 := h7.1; have h10 := h7.2; exact ⟨by omega, by omega, by omega, by omega⟩
      · have h9 : k = _ := h7; exact ⟨by omega, by omega, by omega, by omega⟩
    · rcases h7 with h7 | h7
      · have h9 := h7.1; have h10 := h7.2; exact ⟨by omega, by omega, by omega, by omega⟩
      · have h9 : k = _ := h7; exact ⟨by omega, by omega, by omega, by omega⟩
end Go.Proofs.Ytijbmchgajhkeaa
