import Derived.Test.YtconceigfommeaaGreatDoorRefParse
import Derived.Test.YtconceigfommeaaGreatDoorParseAll
import Derived.Test.YtconceigfommeaaGreatDoorTaken
namespace Go.Proofs.YtconceigfommeaaGreatDoor
open Go.RowKit Go.Shelf Go.Lib
open Go.Sort hiding Below

theorem text_both (u v x : Nat) (n : Int) (hu : u < 18446744073709551616) (hv : v < 18446744073709551616) (hx : x < 18446744073709551616) :
    ∃ (s : ByteArray) (k : Int), (∀ w, Env w → Calls Tryz.prog 12 #[.agg #[.int .u64 u, .int .u64 v, .int .u64 x], .int .i64 n] w fun e w' => e = .returned (.tuple #[.string s, .int .i64 k]) ∧ Below w.heap.size w w') ∧
      (∀ w, Calls Tryz.prog 13 #[.agg #[.int .u64 u, .int .u64 v, .int .u64 x], .int .i64 n] w fun e w' => e = .returned (.tuple #[.string s, .int .i64 k]) ∧ Below w.heap.size w w') := by
  by_cases hb : n < 1 ∨ 3 < n
  · have hf : tfits u v x n = 10 := by simp only [tfits]; rw [if_pos hb]
    exact ⟨_, _, fun w _ => Text_bad u v x n w hf, fun w => refText_bad u v x n w hf⟩
  · obtain ⟨m, rfl⟩ : ∃ m : Nat, n = m := ⟨n.toNat, by omega⟩
    by_cases h2 : ((m : Int) < 2 → (v : Int) = 0) ∧ ((m : Int) < 3 → (x : Int) = 0)
    · have hf : tfits u v x m = 0 := by simp only [tfits]; rw [if_neg hb, if_pos h2]
      exact ⟨_, _, fun w he => Text_ok u v x m w he hu hv hx (by omega) (by omega) hf, fun w => refText_ok u v x m w hu hv hx (by omega) (by omega) hf⟩
    · have hf : tfits u v x m = 10 := by simp only [tfits]; rw [if_neg hb, if_neg h2]
      exact ⟨_, _, fun w _ => Text_bad u v x m w hf, fun w => refText_bad u v x m w hf⟩
theorem parse_both (s : ByteArray) (n : Int) (hs : s.size ≤ 281474976710656) :
    ∃ (u v x : Nat) (k : Int), (∀ w, Env w → Calls Tryz.prog 14 #[.string s, .int .i64 n] w fun e w' => (e = .returned (.tuple #[.agg #[.int .u64 u, .int .u64 v, .int .u64 x], .int .i64 k])) ∧ Below w.heap.size w w') ∧
      (∀ w, Calls Tryz.prog 15 #[.string s, .int .i64 n] w fun e w' => (e = .returned (.tuple #[.agg #[.int .u64 u, .int .u64 v, .int .u64 x], .int .i64 k])) ∧ Below w.heap.size w w') := by
  have ⟨f, hf⟩ : ∃ f, ParseEnd s n f := by
    by_cases hb : n < 1 ∨ 3 < n
    · exact ⟨_, Or.inl ⟨hb, rfl⟩⟩
    · by_cases ht : ∃ u v x : Nat, IsText s.data.toList n u v x
      · obtain ⟨u, v, x, ht⟩ := ht
        exact ⟨_, Or.inr ⟨by omega, Or.inl ⟨u, v, x, ht, rfl⟩⟩⟩
      · exact ⟨_, Or.inr ⟨by omega, Or.inr ⟨fun u v x h => ht ⟨u, v, x, h⟩, rfl⟩⟩⟩
  obtain ⟨u, v, x, k, rfl⟩ := hf.shape
  exact ⟨u, v, x, k, fun w he => (Parse_any s n w he hs).mono fun e w' ⟨h, hb⟩ => ⟨h.one hf, hb⟩, fun w => (refParse_any s n w hs).mono fun e w' ⟨h, hb⟩ => ⟨h.one hf, hb⟩⟩

set_option maxHeartbeats 4000000 in
set_option maxRecDepth 100000 in
theorem txt_any (u v x : Nat) (s : ByteArray) (n : Int) (w : World) (he : Env w) (hu : u < 18446744073709551616) (hv : v < 18446744073709551616) (hx : x < 18446744073709551616) (hs : s.size ≤ 281474976710656) :
    Calls Tryz.prog 4 #[.agg #[.int .u64 u, .int .u64 v, .int .u64 x], .string s, .int .i64 n] w fun e w' => e = .returned (.bool true) ∧ Below w.heap.size w w' := by
  have heq := fun a b c x y z W => run_eqT a b c x y z W
  have hself : ∀ p q r, teq p q r p q r = true := fun p q r => by simp [teq]
  obtain ⟨T, kT, hT, hT'⟩ := text_both u v x n hu hv hx
  obtain ⟨p, q, r, kP, hP, hP'⟩ := parse_both s n hs
  go_enter Tryz.func4, Tryz.ntmps4
  go_wp2_with fail
  refine (hT _ (he.alloc _)).mono ?_
  rintro e w1 ⟨rfl, hb1⟩
  obtain ⟨hc1, -⟩ := below_cells hb1
  have hz1 : w.heap.size < w1.heap.size := by have := hb1.size; simp at this; omega
  have B1 : Below w.heap.size w w1 := ((Gr.refl _).alloc _).below.trans (hb1.mono (by simp))
  clear hb1
  go_wp2_with fail
  refine (hT' _).mono ?_
  rintro e w2 ⟨rfl, hb2⟩
  replace B1 := B1.trans (hb2.mono B1.size)
  clear hb2 hc1 hz1
  go_wp2_with fail
  refine (hP _ (he.below B1)).mono ?_
  rintro e w3 ⟨rfl, hb3⟩
  replace B1 := B1.trans (hb3.mono B1.size)
  clear hb3
  go_wp2_with fail
  refine (hP' _).mono ?_
  rintro e w4 ⟨rfl, hb4⟩
  have q0 : w4.cell? ⟨w3.heap.size, 0, none⟩ = some (.int .u64 p) := (hb4.cell (p := ⟨w3.heap.size, 0, none⟩) (by simp)).trans (by go_simp)
  have q1 : w4.cell? ⟨w3.heap.size, 1, none⟩ = some (.int .u64 q) := (hb4.cell (p := ⟨w3.heap.size, 1, none⟩) (by simp)).trans (by go_simp)
  have q2 : w4.cell? ⟨w3.heap.size, 2, none⟩ = some (.int .u64 r) := (hb4.cell (p := ⟨w3.heap.size, 2, none⟩) (by simp)).trans (by go_simp)
  have hz4 : w3.heap.size < w4.heap.size := by have := hb4.size; simp at this; omega
  have hne4 : w3.heap.size ≠ w4.heap.size := by omega
  have B4 : Below w.heap.size w w4 := (B1.alloc B1.size _).trans (hb4.mono (by have := B1.size; simp; omega))
  have B5 : Below w.heap.size w (w4.alloc (.cells #[.int .u64 p, .int .u64 q, .int .u64 r] 24)) := B4.alloc B4.size _
  clear hb4 hT hT' hP hP' B1
  go_wp2_with fail
  refine (taken_any _ (he.below B5)).mono ?_
  rintro e w6 ⟨rfl, hb6⟩
  go_wp2
  go_ret
  exact ⟨rfl, B5.trans (hb6.mono B5.size)⟩
end Go.Proofs.YtconceigfommeaaGreatDoor
