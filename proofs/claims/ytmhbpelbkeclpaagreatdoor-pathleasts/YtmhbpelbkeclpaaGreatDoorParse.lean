import Derived.Test.YtmhbpelbkeclpaaGreatDoorTexts
import Derived.Test.YtmhbpelbkeclpaaGreatDoorNumber
namespace Go.Proofs.YtmhbpelbkeclpaaGreatDoor
open Go.RowKit Go.Shelf Go.Lib
open Go.Sort hiding Below

theorem spl_size {s : ByteArray} {k B : Nat} (hs : s.size ≤ B) {p : ByteArray} (h : p ∈ spl k s) : p.size ≤ B := by
  induction k generalizing s with
  | zero => simp [spl] at h; subst h; exact hs
  | succ k ih =>
    rcases pt_cases s with h1 | ⟨i, h1, hi⟩
    · rw [spl_miss _ _ (by omega)] at h; simp at h; subst h; exact hs
    · rw [spl_hit k s i h1] at h
      rcases List.mem_cons.1 h with rfl | h
      · rw [ByteArray.size_extract]; omega
      · exact ih (s := s.extract (i + 1) s.size) (by rw [ByteArray.size_extract]; omega) h

/-- What Parse answers. -/
def ParseEnd (s : ByteArray) (n : Int) (e : Ending) : Prop :=
  ((n < 1 ∨ 3 < n) ∧ e = .returned (.tuple #[.agg #[.int .u64 0, .int .u64 0, .int .u64 0], .int .i64 10])) ∨
  ((1 ≤ n ∧ n ≤ 3) ∧ ((∃ u v x : Nat, IsText s.data.toList n u v x ∧ e = .returned (.tuple #[.agg #[.int .u64 u, .int .u64 v, .int .u64 x], .int .i64 0])) ∨
    ((∀ u v x : Nat, ¬ IsText s.data.toList n u v x) ∧ e = .returned (.tuple #[.agg #[.int .u64 0, .int .u64 0, .int .u64 0], .int .i64 11]))))

set_option maxHeartbeats 2000000 in
set_option maxRecDepth 100000 in
theorem Parse_bad (s : ByteArray) (n : Int) (w : World) (hn : n < 1 ∨ 3 < n) :
    Calls Tryz.prog 21 #[.string s, .int .i64 n] w fun e w' => e = .returned (.tuple #[.agg #[.int .u64 0, .int .u64 0, .int .u64 0], .int .i64 10]) ∧ Below w.heap.size w w' := by
  have hF := fun W => Fits_any 0 0 0 n W
  have ht : tfits 0 0 0 n = 10 := by simp [tfits]; omega
  rw [ht] at hF
  clear ht hn
  go_enter Tryz.func21, Tryz.ntmps21
  go_wp2_with (go_at_call 23; refine (hF _).mono ?_; rintro e w1 ⟨rfl, hg⟩; obtain ⟨hc, hf⟩ := hg.cells; have hz : w.heap.size < w1.heap.size := by { have := hg.size; simp at this; omega })
  have hb : Below w.heap.size w w1 := ((Below.refl _ w).alloc (Nat.le_refl _) _).trans (hg.below.mono (by simp))
  refine bodyPost_ret (v := .tuple #[.agg #[.int .u64 0, .int .u64 0, .int .u64 0], .int .i64 10]) (by simp [results, Tryz.results21, go_sem, hc]) rfl ⟨rfl, ?_⟩
  exact ((hb.setCell (Nat.le_refl _) _).setCell (Nat.le_refl _) _).setCell (Nat.le_refl _) _

set_option maxHeartbeats 2000000 in
set_option maxRecDepth 100000 in
theorem Parse_len (s : ByteArray) (n : Nat) (w : World) (h1 : 1 ≤ n) (h3 : n ≤ 3) (hs : s.size ≤ 281474976710656) (hl : (spl (min (n + 1) (s.size + 1) - 1) s).length ≠ n) :
    Calls Tryz.prog 21 #[.string s, .int .i64 n] w fun e w' => e = .returned (.tuple #[.agg #[.int .u64 0, .int .u64 0, .int .u64 0], .int .i64 11]) ∧ Below w.heap.size w w' := by
  have hF := fun W => Fits_any 0 0 0 n W
  have ht : tfits 0 0 0 n = 0 := by simp [tfits]; omega
  have hS : ∀ W, Calls Tryz.prog 47 #[.string s, .string ⟨#[46]⟩, .int .i64 ((n : Int) + 1)] W _ := fun W => SplitN_any s (n + 1) _ W hs (by omega) (by omega) rfl
  rw [ht] at hF
  clear ht
  generalize hps : spl (min (n + 1) (s.size + 1) - 1) s = ps at *
  generalize min (n + 1) (s.size + 1) = N at *
  clear hps
  have hne : ((ps.length : Int) != (n : Int)) = true := by rw [bne_iff_ne]; omega
  go_enter Tryz.func21, Tryz.ntmps21
  go_wp2_with fail
  refine (hF _).mono ?_
  rintro e w1 ⟨rfl, hg⟩
  obtain ⟨hc, hf⟩ := hg.cells
  have hz : w.heap.size < w1.heap.size := by have := hg.size; simp at this; omega
  go_wp2_with fail
  refine (hS _).mono ?_
  rintro e w2 ⟨rfl, rfl⟩
  have hz' : w.heap.size ≠ w1.heap.size := Nat.ne_of_lt hz
  go_wp2
  have hb : Below w.heap.size w w1 := ((Below.refl _ w).alloc (Nat.le_refl _) _).trans (hg.below.mono (by simp))
  refine bodyPost_ret (v := .tuple #[.agg #[.int .u64 0, .int .u64 0, .int .u64 0], .int .i64 11]) (by simp [results, Tryz.results21, go_sem, *]) rfl ⟨rfl, ?_⟩
  have hb2 := ((hb.setCell (p := ⟨w.heap.size, 0, none⟩) (Nat.le_refl _) (.int .u64 0)).setCell (p := ⟨w.heap.size, 1, none⟩) (Nat.le_refl _) (.int .u64 0)).setCell (p := ⟨w.heap.size, 2, none⟩) (Nat.le_refl _) (.int .u64 0)
  exact hb2.alloc (by simp; omega) _

set_option maxHeartbeats 8000000 in
set_option maxRecDepth 100000 in
theorem Parse_one (s : ByteArray) (w : World) (he : Env w) (hs : s.size ≤ 281474976710656) (p0 : ByteArray) (hl : spl (min (1 + 1) (s.size + 1) - 1) s = [p0]) :
    Calls Tryz.prog 21 #[.string s, .int .i64 1] w fun e w' =>
      ((∃ u0, (IsNum p0.data.toList u0) ∧ e = .returned (.tuple #[.agg #[.int .u64 (u0 : Nat), .int .u64 0, .int .u64 0], .int .i64 0])) ∨ ((∃ p, p ∈ [p0] ∧ ∀ u, ¬ IsNum p.data.toList u) ∧ e = .returned (.tuple #[.agg #[.int .u64 0, .int .u64 0, .int .u64 0], .int .i64 11]))) ∧ Below w.heap.size w w' := by
  have hF := fun W => Fits_any 0 0 0 1 W
  have ht : tfits 0 0 0 1 = 0 := by simp [tfits]
  have hp0 : p0.size ≤ 281474976710656 := spl_size hs (by rw [hl]; simp)
  have hS : ∀ W, Calls Tryz.prog 47 #[.string s, .string ⟨#[46]⟩, .int .i64 2] W _ := fun W => SplitN_any s (1 + 1) _ W hs (by omega) (by omega) rfl
  rw [hl] at hS
  rw [ht] at hF
  clear ht hl
  generalize min (1 + 1) (s.size + 1) = N at *
  have c0 : (Lib.cellsOf [p0] N)[0]? = some (.string p0) := by simp [Lib.cellsOf]
  have hnum0 := fun W hW => number_any p0 W hW hp0
  go_enter Tryz.func21, Tryz.ntmps21
  go_wp2_with fail
  refine (hF _).mono ?_
  rintro e w1 ⟨rfl, hg⟩
  obtain ⟨hc, hf⟩ := hg.cells
  have hz : w.heap.size < w1.heap.size := by have := hg.size; simp at this; omega
  have hB : Below w.heap.size w w1 := ((Below.refl _ w).alloc (Nat.le_refl _) _).trans (hg.below.mono (by simp))
  have he1 := he.below hB
  go_wp2_with fail
  refine (hS _).mono ?_
  rintro e w2 ⟨rfl, rfl⟩
  simp only [List.length_cons, List.length_nil]
  go_wp2
  refine wp_loop_rounds 2 ?_
  have hB0 := ((Below.refl _ w1).alloc (Nat.le_refl _) (.cells (Lib.cellsOf [p0] N) 9)).alloc (by simp) (.cells #[.int .u64 0, .int .u64 0, .int .u64 0] 64)
  have hE0 := he1.below hB0
  have q0 : w1.cell? ⟨w.heap.size, 0, none⟩ = some (.int .u64 0) := by simp [hc]
  have q1 : w1.cell? ⟨w.heap.size, 1, none⟩ = some (.int .u64 0) := by simp [hc]
  have q2 : w1.cell? ⟨w.heap.size, 2, none⟩ = some (.int .u64 0) := by simp [hc]
  have f0 : w1.frozen? ⟨w.heap.size, 0, none⟩ = false := by simp [hf]
  have f1 : w1.frozen? ⟨w.heap.size, 1, none⟩ = false := by simp [hf]
  have f2 : w1.frozen? ⟨w.heap.size, 2, none⟩ = false := by simp [hf]
  clear hF hS hc hf
  rw [rounds_succ]
  go_wp2_with fail
  refine (hnum0 _ hE0).mono ?_
  rintro e v0 ⟨⟨u0, hu0, rfl⟩ | ⟨hu0, rfl⟩, hb0⟩
  all_goals obtain ⟨hc0, hf0⟩ := below_cells hb0
  all_goals have hz0 : w1.heap.size + 1 < v0.heap.size := by { have := hb0.size; simp at this; omega }
  all_goals have hy0 : w1.heap.size < v0.heap.size := by omega
  all_goals have hx0 : w.heap.size < v0.heap.size := by omega
  all_goals have hV0 := hB0.trans (hb0.mono hB0.size)
  all_goals have r00 := (hV0.cell (p := ⟨w.heap.size, 0, none⟩) hz).trans q0
  all_goals have s00 := (hV0.frozen (p := ⟨w.heap.size, 0, none⟩) hz).trans f0
  all_goals have r01 := (hV0.cell (p := ⟨w.heap.size, 1, none⟩) hz).trans q1
  all_goals have s01 := (hV0.frozen (p := ⟨w.heap.size, 1, none⟩) hz).trans f1
  all_goals have r02 := (hV0.cell (p := ⟨w.heap.size, 2, none⟩) hz).trans q2
  all_goals have s02 := (hV0.frozen (p := ⟨w.heap.size, 2, none⟩) hz).trans f2
  case' inr =>
    go_wp2
    refine bodyPost_ret (v := .tuple #[.agg #[.int .u64 0, .int .u64 0, .int .u64 0], .int .i64 11]) (by simp [results, Tryz.results21, go_sem, *]) rfl ⟨Or.inr ⟨⟨p0, by simp, hu0⟩, rfl⟩, ?_⟩
    exact (((hB.trans (hV0.mono hB.size)).setCell (Nat.le_refl _) _).setCell (Nat.le_refl _) _).setCell (Nat.le_refl _) _
  go_wp2
  rw [rounds_succ]
  go_wp2_with fail
  refine (timeOf_any _ _ _ _).mono ?_
  rintro e w9 ⟨rfl, hg9⟩
  obtain ⟨hc9, hf9⟩ := hg9.cells
  have hW := hV0.setCell (p := ⟨w1.heap.size + 1, 0, none⟩) (by show w1.heap.size ≤ w1.heap.size + 1; omega) (.int .u64 u0)
  have t0 := ((hW.trans (hg9.below.mono hW.size)).cell (p := ⟨w.heap.size, 0, none⟩) hz).trans q0
  have y0 := ((hW.trans (hg9.below.mono hW.size)).frozen (p := ⟨w.heap.size, 0, none⟩) hz).trans f0
  have t1 := ((hW.trans (hg9.below.mono hW.size)).cell (p := ⟨w.heap.size, 1, none⟩) hz).trans q1
  have y1 := ((hW.trans (hg9.below.mono hW.size)).frozen (p := ⟨w.heap.size, 1, none⟩) hz).trans f1
  have t2 := ((hW.trans (hg9.below.mono hW.size)).cell (p := ⟨w.heap.size, 2, none⟩) hz).trans q2
  have y2 := ((hW.trans (hg9.below.mono hW.size)).frozen (p := ⟨w.heap.size, 2, none⟩) hz).trans f2
  have hU := hB.trans ((hW.trans (hg9.below.mono hW.size)).mono hB.size)
  go_wp2
  refine bodyPost_ret (v := .tuple #[.agg #[.int .u64 (u0 : Nat), .int .u64 0, .int .u64 0], .int .i64 0]) (by simp [results, Tryz.results21, go_sem, *]) rfl ⟨Or.inl ⟨u0, hu0, rfl⟩, ?_⟩
  exact ((hU.setCell (Nat.le_refl _) _).setCell (Nat.le_refl _) _).setCell (Nat.le_refl _) _

set_option maxHeartbeats 8000000 in
set_option maxRecDepth 100000 in
theorem Parse_two (s : ByteArray) (w : World) (he : Env w) (hs : s.size ≤ 281474976710656) (p0 p1 : ByteArray) (hl : spl (min (2 + 1) (s.size + 1) - 1) s = [p0, p1]) :
    Calls Tryz.prog 21 #[.string s, .int .i64 2] w fun e w' =>
      ((∃ u0 u1, (IsNum p0.data.toList u0 ∧ IsNum p1.data.toList u1) ∧ e = .returned (.tuple #[.agg #[.int .u64 (u0 : Nat), .int .u64 (u1 : Nat), .int .u64 0], .int .i64 0])) ∨ ((∃ p, p ∈ [p0, p1] ∧ ∀ u, ¬ IsNum p.data.toList u) ∧ e = .returned (.tuple #[.agg #[.int .u64 0, .int .u64 0, .int .u64 0], .int .i64 11]))) ∧ Below w.heap.size w w' := by
  have hF := fun W => Fits_any 0 0 0 2 W
  have ht : tfits 0 0 0 2 = 0 := by simp [tfits]
  have hp0 : p0.size ≤ 281474976710656 := spl_size hs (by rw [hl]; simp)
  have hp1 : p1.size ≤ 281474976710656 := spl_size hs (by rw [hl]; simp)
  have hS : ∀ W, Calls Tryz.prog 47 #[.string s, .string ⟨#[46]⟩, .int .i64 3] W _ := fun W => SplitN_any s (2 + 1) _ W hs (by omega) (by omega) rfl
  rw [hl] at hS
  rw [ht] at hF
  clear ht hl
  generalize min (2 + 1) (s.size + 1) = N at *
  have c0 : (Lib.cellsOf [p0, p1] N)[0]? = some (.string p0) := by simp [Lib.cellsOf]
  have c1 : (Lib.cellsOf [p0, p1] N)[1]? = some (.string p1) := by simp [Lib.cellsOf]
  have hnum0 := fun W hW => number_any p0 W hW hp0
  have hnum1 := fun W hW => number_any p1 W hW hp1
  go_enter Tryz.func21, Tryz.ntmps21
  go_wp2_with fail
  refine (hF _).mono ?_
  rintro e w1 ⟨rfl, hg⟩
  obtain ⟨hc, hf⟩ := hg.cells
  have hz : w.heap.size < w1.heap.size := by have := hg.size; simp at this; omega
  have hB : Below w.heap.size w w1 := ((Below.refl _ w).alloc (Nat.le_refl _) _).trans (hg.below.mono (by simp))
  have he1 := he.below hB
  go_wp2_with fail
  refine (hS _).mono ?_
  rintro e w2 ⟨rfl, rfl⟩
  simp only [List.length_cons, List.length_nil]
  go_wp2
  refine wp_loop_rounds 3 ?_
  have hB0 := ((Below.refl _ w1).alloc (Nat.le_refl _) (.cells (Lib.cellsOf [p0, p1] N) 9)).alloc (by simp) (.cells #[.int .u64 0, .int .u64 0, .int .u64 0] 64)
  have hE0 := he1.below hB0
  have q0 : w1.cell? ⟨w.heap.size, 0, none⟩ = some (.int .u64 0) := by simp [hc]
  have q1 : w1.cell? ⟨w.heap.size, 1, none⟩ = some (.int .u64 0) := by simp [hc]
  have q2 : w1.cell? ⟨w.heap.size, 2, none⟩ = some (.int .u64 0) := by simp [hc]
  have f0 : w1.frozen? ⟨w.heap.size, 0, none⟩ = false := by simp [hf]
  have f1 : w1.frozen? ⟨w.heap.size, 1, none⟩ = false := by simp [hf]
  have f2 : w1.frozen? ⟨w.heap.size, 2, none⟩ = false := by simp [hf]
  clear hF hS hc hf
  rw [rounds_succ]
  go_wp2_with fail
  refine (hnum0 _ hE0).mono ?_
  rintro e v0 ⟨⟨u0, hu0, rfl⟩ | ⟨hu0, rfl⟩, hb0⟩
  all_goals obtain ⟨hc0, hf0⟩ := below_cells hb0
  all_goals have hz0 : w1.heap.size + 1 < v0.heap.size := by { have := hb0.size; simp at this; omega }
  all_goals have hy0 : w1.heap.size < v0.heap.size := by omega
  all_goals have hx0 : w.heap.size < v0.heap.size := by omega
  all_goals have hV0 := hB0.trans (hb0.mono hB0.size)
  all_goals have r00 := (hV0.cell (p := ⟨w.heap.size, 0, none⟩) hz).trans q0
  all_goals have s00 := (hV0.frozen (p := ⟨w.heap.size, 0, none⟩) hz).trans f0
  all_goals have r01 := (hV0.cell (p := ⟨w.heap.size, 1, none⟩) hz).trans q1
  all_goals have s01 := (hV0.frozen (p := ⟨w.heap.size, 1, none⟩) hz).trans f1
  all_goals have r02 := (hV0.cell (p := ⟨w.heap.size, 2, none⟩) hz).trans q2
  all_goals have s02 := (hV0.frozen (p := ⟨w.heap.size, 2, none⟩) hz).trans f2
  case' inr =>
    go_wp2
    refine bodyPost_ret (v := .tuple #[.agg #[.int .u64 0, .int .u64 0, .int .u64 0], .int .i64 11]) (by simp [results, Tryz.results21, go_sem, *]) rfl ⟨Or.inr ⟨⟨p0, by simp, hu0⟩, rfl⟩, ?_⟩
    exact (((hB.trans (hV0.mono hB.size)).setCell (Nat.le_refl _) _).setCell (Nat.le_refl _) _).setCell (Nat.le_refl _) _
  go_wp2
  have hB1 := hV0.setCell (p := ⟨w1.heap.size + 1, 0, none⟩) (by show w1.heap.size ≤ w1.heap.size + 1; omega) (.int .u64 u0)
  have hE1 := he1.below hB1
  rw [rounds_succ]
  go_wp2_with fail
  refine (hnum1 _ hE1).mono ?_
  rintro e v1 ⟨⟨u1, hu1, rfl⟩ | ⟨hu1, rfl⟩, hb1⟩
  all_goals obtain ⟨hc1, hf1⟩ := below_cells hb1
  all_goals have hz1 : w1.heap.size + 1 < v1.heap.size := by { have := hb1.size; simp at this; omega }
  all_goals have hy1 : w1.heap.size < v1.heap.size := by omega
  all_goals have hx1 : w.heap.size < v1.heap.size := by omega
  all_goals have hV1 := hB1.trans (hb1.mono hB1.size)
  all_goals have r10 := (hV1.cell (p := ⟨w.heap.size, 0, none⟩) hz).trans q0
  all_goals have s10 := (hV1.frozen (p := ⟨w.heap.size, 0, none⟩) hz).trans f0
  all_goals have r11 := (hV1.cell (p := ⟨w.heap.size, 1, none⟩) hz).trans q1
  all_goals have s11 := (hV1.frozen (p := ⟨w.heap.size, 1, none⟩) hz).trans f1
  all_goals have r12 := (hV1.cell (p := ⟨w.heap.size, 2, none⟩) hz).trans q2
  all_goals have s12 := (hV1.frozen (p := ⟨w.heap.size, 2, none⟩) hz).trans f2
  case' inr =>
    go_wp2
    refine bodyPost_ret (v := .tuple #[.agg #[.int .u64 0, .int .u64 0, .int .u64 0], .int .i64 11]) (by simp [results, Tryz.results21, go_sem, *]) rfl ⟨Or.inr ⟨⟨p1, by simp, hu1⟩, rfl⟩, ?_⟩
    exact (((hB.trans (hV1.mono hB.size)).setCell (Nat.le_refl _) _).setCell (Nat.le_refl _) _).setCell (Nat.le_refl _) _
  go_wp2
  rw [rounds_succ]
  go_wp2_with fail
  refine (timeOf_any _ _ _ _).mono ?_
  rintro e w9 ⟨rfl, hg9⟩
  obtain ⟨hc9, hf9⟩ := hg9.cells
  have hW := hV1.setCell (p := ⟨w1.heap.size + 1, 1, none⟩) (by show w1.heap.size ≤ w1.heap.size + 1; omega) (.int .u64 u1)
  have t0 := ((hW.trans (hg9.below.mono hW.size)).cell (p := ⟨w.heap.size, 0, none⟩) hz).trans q0
  have y0 := ((hW.trans (hg9.below.mono hW.size)).frozen (p := ⟨w.heap.size, 0, none⟩) hz).trans f0
  have t1 := ((hW.trans (hg9.below.mono hW.size)).cell (p := ⟨w.heap.size, 1, none⟩) hz).trans q1
  have y1 := ((hW.trans (hg9.below.mono hW.size)).frozen (p := ⟨w.heap.size, 1, none⟩) hz).trans f1
  have t2 := ((hW.trans (hg9.below.mono hW.size)).cell (p := ⟨w.heap.size, 2, none⟩) hz).trans q2
  have y2 := ((hW.trans (hg9.below.mono hW.size)).frozen (p := ⟨w.heap.size, 2, none⟩) hz).trans f2
  have hU := hB.trans ((hW.trans (hg9.below.mono hW.size)).mono hB.size)
  go_wp2
  refine bodyPost_ret (v := .tuple #[.agg #[.int .u64 (u0 : Nat), .int .u64 (u1 : Nat), .int .u64 0], .int .i64 0]) (by simp [results, Tryz.results21, go_sem, *]) rfl ⟨Or.inl ⟨u0, u1, ⟨hu0, hu1⟩, rfl⟩, ?_⟩
  exact ((hU.setCell (Nat.le_refl _) _).setCell (Nat.le_refl _) _).setCell (Nat.le_refl _) _

set_option maxHeartbeats 8000000 in
set_option maxRecDepth 100000 in
theorem Parse_three (s : ByteArray) (w : World) (he : Env w) (hs : s.size ≤ 281474976710656) (p0 p1 p2 : ByteArray) (hl : spl (min (3 + 1) (s.size + 1) - 1) s = [p0, p1, p2]) :
    Calls Tryz.prog 21 #[.string s, .int .i64 3] w fun e w' =>
      ((∃ u0 u1 u2, (IsNum p0.data.toList u0 ∧ IsNum p1.data.toList u1 ∧ IsNum p2.data.toList u2) ∧ e = .returned (.tuple #[.agg #[.int .u64 (u0 : Nat), .int .u64 (u1 : Nat), .int .u64 (u2 : Nat)], .int .i64 0])) ∨ ((∃ p, p ∈ [p0, p1, p2] ∧ ∀ u, ¬ IsNum p.data.toList u) ∧ e = .returned (.tuple #[.agg #[.int .u64 0, .int .u64 0, .int .u64 0], .int .i64 11]))) ∧ Below w.heap.size w w' := by
  have hF := fun W => Fits_any 0 0 0 3 W
  have ht : tfits 0 0 0 3 = 0 := by simp [tfits]
  have hp0 : p0.size ≤ 281474976710656 := spl_size hs (by rw [hl]; simp)
  have hp1 : p1.size ≤ 281474976710656 := spl_size hs (by rw [hl]; simp)
  have hp2 : p2.size ≤ 281474976710656 := spl_size hs (by rw [hl]; simp)
  have hS : ∀ W, Calls Tryz.prog 47 #[.string s, .string ⟨#[46]⟩, .int .i64 4] W _ := fun W => SplitN_any s (3 + 1) _ W hs (by omega) (by omega) rfl
  rw [hl] at hS
  rw [ht] at hF
  clear ht hl
  generalize min (3 + 1) (s.size + 1) = N at *
  have c0 : (Lib.cellsOf [p0, p1, p2] N)[0]? = some (.string p0) := by simp [Lib.cellsOf]
  have c1 : (Lib.cellsOf [p0, p1, p2] N)[1]? = some (.string p1) := by simp [Lib.cellsOf]
  have c2 : (Lib.cellsOf [p0, p1, p2] N)[2]? = some (.string p2) := by simp [Lib.cellsOf]
  have hnum0 := fun W hW => number_any p0 W hW hp0
  have hnum1 := fun W hW => number_any p1 W hW hp1
  have hnum2 := fun W hW => number_any p2 W hW hp2
  go_enter Tryz.func21, Tryz.ntmps21
  go_wp2_with fail
  refine (hF _).mono ?_
  rintro e w1 ⟨rfl, hg⟩
  obtain ⟨hc, hf⟩ := hg.cells
  have hz : w.heap.size < w1.heap.size := by have := hg.size; simp at this; omega
  have hB : Below w.heap.size w w1 := ((Below.refl _ w).alloc (Nat.le_refl _) _).trans (hg.below.mono (by simp))
  have he1 := he.below hB
  go_wp2_with fail
  refine (hS _).mono ?_
  rintro e w2 ⟨rfl, rfl⟩
  simp only [List.length_cons, List.length_nil]
  go_wp2
  refine wp_loop_rounds 4 ?_
  have hB0 := ((Below.refl _ w1).alloc (Nat.le_refl _) (.cells (Lib.cellsOf [p0, p1, p2] N) 9)).alloc (by simp) (.cells #[.int .u64 0, .int .u64 0, .int .u64 0] 64)
  have hE0 := he1.below hB0
  have q0 : w1.cell? ⟨w.heap.size, 0, none⟩ = some (.int .u64 0) := by simp [hc]
  have q1 : w1.cell? ⟨w.heap.size, 1, none⟩ = some (.int .u64 0) := by simp [hc]
  have q2 : w1.cell? ⟨w.heap.size, 2, none⟩ = some (.int .u64 0) := by simp [hc]
  have f0 : w1.frozen? ⟨w.heap.size, 0, none⟩ = false := by simp [hf]
  have f1 : w1.frozen? ⟨w.heap.size, 1, none⟩ = false := by simp [hf]
  have f2 : w1.frozen? ⟨w.heap.size, 2, none⟩ = false := by simp [hf]
  clear hF hS hc hf
  rw [rounds_succ]
  go_wp2_with fail
  refine (hnum0 _ hE0).mono ?_
  rintro e v0 ⟨⟨u0, hu0, rfl⟩ | ⟨hu0, rfl⟩, hb0⟩
  all_goals obtain ⟨hc0, hf0⟩ := below_cells hb0
  all_goals have hz0 : w1.heap.size + 1 < v0.heap.size := by { have := hb0.size; simp at this; omega }
  all_goals have hy0 : w1.heap.size < v0.heap.size := by omega
  all_goals have hx0 : w.heap.size < v0.heap.size := by omega
  all_goals have hV0 := hB0.trans (hb0.mono hB0.size)
  all_goals have r00 := (hV0.cell (p := ⟨w.heap.size, 0, none⟩) hz).trans q0
  all_goals have s00 := (hV0.frozen (p := ⟨w.heap.size, 0, none⟩) hz).trans f0
  all_goals have r01 := (hV0.cell (p := ⟨w.heap.size, 1, none⟩) hz).trans q1
  all_goals have s01 := (hV0.frozen (p := ⟨w.heap.size, 1, none⟩) hz).trans f1
  all_goals have r02 := (hV0.cell (p := ⟨w.heap.size, 2, none⟩) hz).trans q2
  all_goals have s02 := (hV0.frozen (p := ⟨w.heap.size, 2, none⟩) hz).trans f2
  case' inr =>
    go_wp2
    refine bodyPost_ret (v := .tuple #[.agg #[.int .u64 0, .int .u64 0, .int .u64 0], .int .i64 11]) (by simp [results, Tryz.results21, go_sem, *]) rfl ⟨Or.inr ⟨⟨p0, by simp, hu0⟩, rfl⟩, ?_⟩
    exact (((hB.trans (hV0.mono hB.size)).setCell (Nat.le_refl _) _).setCell (Nat.le_refl _) _).setCell (Nat.le_refl _) _
  go_wp2
  have hB1 := hV0.setCell (p := ⟨w1.heap.size + 1, 0, none⟩) (by show w1.heap.size ≤ w1.heap.size + 1; omega) (.int .u64 u0)
  have hE1 := he1.below hB1
  rw [rounds_succ]
  go_wp2_with fail
  refine (hnum1 _ hE1).mono ?_
  rintro e v1 ⟨⟨u1, hu1, rfl⟩ | ⟨hu1, rfl⟩, hb1⟩
  all_goals obtain ⟨hc1, hf1⟩ := below_cells hb1
  all_goals have hz1 : w1.heap.size + 1 < v1.heap.size := by { have := hb1.size; simp at this; omega }
  all_goals have hy1 : w1.heap.size < v1.heap.size := by omega
  all_goals have hx1 : w.heap.size < v1.heap.size := by omega
  all_goals have hV1 := hB1.trans (hb1.mono hB1.size)
  all_goals have r10 := (hV1.cell (p := ⟨w.heap.size, 0, none⟩) hz).trans q0
  all_goals have s10 := (hV1.frozen (p := ⟨w.heap.size, 0, none⟩) hz).trans f0
  all_goals have r11 := (hV1.cell (p := ⟨w.heap.size, 1, none⟩) hz).trans q1
  all_goals have s11 := (hV1.frozen (p := ⟨w.heap.size, 1, none⟩) hz).trans f1
  all_goals have r12 := (hV1.cell (p := ⟨w.heap.size, 2, none⟩) hz).trans q2
  all_goals have s12 := (hV1.frozen (p := ⟨w.heap.size, 2, none⟩) hz).trans f2
  case' inr =>
    go_wp2
    refine bodyPost_ret (v := .tuple #[.agg #[.int .u64 0, .int .u64 0, .int .u64 0], .int .i64 11]) (by simp [results, Tryz.results21, go_sem, *]) rfl ⟨Or.inr ⟨⟨p1, by simp, hu1⟩, rfl⟩, ?_⟩
    exact (((hB.trans (hV1.mono hB.size)).setCell (Nat.le_refl _) _).setCell (Nat.le_refl _) _).setCell (Nat.le_refl _) _
  go_wp2
  have hB2 := hV1.setCell (p := ⟨w1.heap.size + 1, 1, none⟩) (by show w1.heap.size ≤ w1.heap.size + 1; omega) (.int .u64 u1)
  have hE2 := he1.below hB2
  rw [rounds_succ]
  go_wp2_with fail
  refine (hnum2 _ hE2).mono ?_
  rintro e v2 ⟨⟨u2, hu2, rfl⟩ | ⟨hu2, rfl⟩, hb2⟩
  all_goals obtain ⟨hc2, hf2⟩ := below_cells hb2
  all_goals have hz2 : w1.heap.size + 1 < v2.heap.size := by { have := hb2.size; simp at this; omega }
  all_goals have hy2 : w1.heap.size < v2.heap.size := by omega
  all_goals have hx2 : w.heap.size < v2.heap.size := by omega
  all_goals have hV2 := hB2.trans (hb2.mono hB2.size)
  all_goals have r20 := (hV2.cell (p := ⟨w.heap.size, 0, none⟩) hz).trans q0
  all_goals have s20 := (hV2.frozen (p := ⟨w.heap.size, 0, none⟩) hz).trans f0
  all_goals have r21 := (hV2.cell (p := ⟨w.heap.size, 1, none⟩) hz).trans q1
  all_goals have s21 := (hV2.frozen (p := ⟨w.heap.size, 1, none⟩) hz).trans f1
  all_goals have r22 := (hV2.cell (p := ⟨w.heap.size, 2, none⟩) hz).trans q2
  all_goals have s22 := (hV2.frozen (p := ⟨w.heap.size, 2, none⟩) hz).trans f2
  case' inr =>
    go_wp2
    refine bodyPost_ret (v := .tuple #[.agg #[.int .u64 0, .int .u64 0, .int .u64 0], .int .i64 11]) (by simp [results, Tryz.results21, go_sem, *]) rfl ⟨Or.inr ⟨⟨p2, by simp, hu2⟩, rfl⟩, ?_⟩
    exact (((hB.trans (hV2.mono hB.size)).setCell (Nat.le_refl _) _).setCell (Nat.le_refl _) _).setCell (Nat.le_refl _) _
  go_wp2
  rw [rounds_succ]
  go_wp2_with fail
  refine (timeOf_any _ _ _ _).mono ?_
  rintro e w9 ⟨rfl, hg9⟩
  obtain ⟨hc9, hf9⟩ := hg9.cells
  have hW := hV2.setCell (p := ⟨w1.heap.size + 1, 2, none⟩) (by show w1.heap.size ≤ w1.heap.size + 1; omega) (.int .u64 u2)
  have t0 := ((hW.trans (hg9.below.mono hW.size)).cell (p := ⟨w.heap.size, 0, none⟩) hz).trans q0
  have y0 := ((hW.trans (hg9.below.mono hW.size)).frozen (p := ⟨w.heap.size, 0, none⟩) hz).trans f0
  have t1 := ((hW.trans (hg9.below.mono hW.size)).cell (p := ⟨w.heap.size, 1, none⟩) hz).trans q1
  have y1 := ((hW.trans (hg9.below.mono hW.size)).frozen (p := ⟨w.heap.size, 1, none⟩) hz).trans f1
  have t2 := ((hW.trans (hg9.below.mono hW.size)).cell (p := ⟨w.heap.size, 2, none⟩) hz).trans q2
  have y2 := ((hW.trans (hg9.below.mono hW.size)).frozen (p := ⟨w.heap.size, 2, none⟩) hz).trans f2
  have hU := hB.trans ((hW.trans (hg9.below.mono hW.size)).mono hB.size)
  go_wp2
  refine bodyPost_ret (v := .tuple #[.agg #[.int .u64 (u0 : Nat), .int .u64 (u1 : Nat), .int .u64 (u2 : Nat)], .int .i64 0]) (by simp [results, Tryz.results21, go_sem, *]) rfl ⟨Or.inl ⟨u0, u1, u2, ⟨hu0, hu1, hu2⟩, rfl⟩, ?_⟩
  exact ((hU.setCell (Nat.le_refl _) _).setCell (Nat.le_refl _) _).setCell (Nat.le_refl _) _
end Go.Proofs.YtmhbpelbkeclpaaGreatDoor
