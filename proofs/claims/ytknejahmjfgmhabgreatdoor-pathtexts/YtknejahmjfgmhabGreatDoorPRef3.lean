import Derived.Test.YtknejahmjfgmhabGreatDoorPSums
import Derived.Deep.DeepCutAuto
namespace Go.Proofs.YtknejahmjfgmhabGreatDoor
open Go.RowKit Go.Shelf Go.Lib
open Go.Sort hiding Below

theorem Nums.at3 {W : World} {b p q r : Nat} (h : Nums W b [p, q, r]) : At3 W b (.int .u64 p) (.int .u64 q) (.int .u64 r) := ⟨h.1, h.2 0 p rfl, h.2 1 q rfl, h.2 2 r rfl⟩
theorem At3.nums {W : World} {b p q r : Nat} (h : At3 W b (.int .u64 p) (.int .u64 q) (.int .u64 r)) : Nums W b [p, q, r] := ⟨h.lt, fun j n hj => by
  match j, hj with
  | 0, hj => simp at hj; subst hj; exact h.c0
  | 1, hj => simp at hj; subst hj; exact h.c1
  | 2, hj => simp at hj; subst hj; exact h.c2
  | j + 3, hj => simp at hj⟩

set_option maxHeartbeats 2000000 in
set_option maxRecDepth 100000 in
/-- path(l): of three numbers. -/
theorem ppath_any (g cap p q r : Nat) (w : World) (h : At3 w g (.int .u64 p) (.int .u64 q) (.int .u64 r)) :
    Calls Tryz.prog 27 #[.slice (some ⟨g, 0, none⟩) 3 cap] w fun e w' => e = .returned (.agg #[.int .u64 p, .int .u64 q, .int .u64 r]) ∧ Below w.heap.size w w' := by
  obtain ⟨lt, c0, c1, c2⟩ := h
  have n0 := World.new_ne w ⟨g, 0, none⟩ c0
  have n1 := World.new_ne w ⟨g, 1, none⟩ c1
  have n2 := World.new_ne w ⟨g, 2, none⟩ c2
  go_enter Tryz.func27, Tryz.ntmps27
  go_wp2_with fail
  go_region_held3 (fun w' => w'.cell? ⟨g, 0, none⟩ = some (.int .u64 (p : Int)) ∧ w'.cell? ⟨g, 1, none⟩ = some (.int .u64 (q : Int)) ∧ w'.cell? ⟨g, 2, none⟩ = some (.int .u64 (r : Int))) (go_keep) (fail)
  all_goals go_wp2
  all_goals refine bodyPost_ret (v := .agg #[.int .u64 p, .int .u64 q, .int .u64 r]) (by simp [results, Tryz.results27, go_sem]) rfl ⟨rfl, ?_⟩
  all_goals exact (((Gr.refl w).alloc _).drew).below
/-- What sums says of two paths. -/
theorem sums_pok {a b c x y z : Nat} {w w' : World} {e : Ending} (h : SumsEnd [a, b, c] [x, y, z] w e w') :
    ∃ g cap, w.heap.size ≤ g ∧ e = .returned (.tuple #[.slice (some ⟨g, 0, none⟩) 3 cap, .bool (pok a b c x y z)]) ∧ At3 w' g (.int .u64 (pon (pok a b c x y z) (a + x) : Nat)) (.int .u64 (pon (pok a b c x y z) (b + y) : Nat)) (.int .u64 (pon (pok a b c x y z) (c + z) : Nat)) ∧ Below w.heap.size w w' := by
  obtain ⟨g, cap, hg, ⟨hall, rfl, hn⟩ | ⟨⟨k, p, q, h1, h2, h3⟩, rfl, hn⟩, hb⟩ := h
  · have hp : pok a b c x y z = true := (pok_iff ..).2 ⟨hall 0 a x rfl rfl, hall 1 b y rfl rfl, hall 2 c z rfl rfl⟩
    rw [hp]
    exact ⟨g, cap, hg, rfl, Nums.at3 hn, hb⟩
  · have hp : pok a b c x y z = false := by
      rw [← Bool.not_eq_true, pok_iff]
      rintro ⟨e1, e2, e3⟩
      match k, h1, h2 with
      | 0, h1, h2 => simp at h1 h2; subst h1 h2; exact h3 e1
      | 1, h1, h2 => simp at h1 h2; subst h1 h2; exact h3 e2
      | 2, h1, h2 => simp at h1 h2; subst h1 h2; exact h3 e3
      | k + 3, h1, h2 => simp at h1
    rw [hp]
    exact ⟨g, cap, hg, rfl, Nums.at3 hn, hb⟩

theorem pnumbers_at (a b c : Int) (w : World) : Calls Tryz.prog 23 #[.agg #[.int .u64 a, .int .u64 b, .int .u64 c]] w fun e w' =>
    ∃ g, e = .returned (.slice (some ⟨g, 0, none⟩) 3 3) ∧ At3 w' g (.int .u64 a) (.int .u64 b) (.int .u64 c) ∧ Below w.heap.size w w' :=
  (pnumbers_any a b c w).mono fun e w' ⟨h1, h2⟩ => ⟨_, h1, by rw [h2]; exact At3.new1 _ _ _ _ _ _, by rw [h2]; exact (((Gr.refl w).alloc _).alloc _).below⟩
theorem two_keep' {B : Nat} {a b c x y z : Int} {W w1 : World} (h : B + 1 < W.heap.size ∧ W.cell? ⟨B, 0, none⟩ = some (.int .u64 a) ∧ W.cell? ⟨B, 1, none⟩ = some (.int .u64 b) ∧ W.cell? ⟨B, 2, none⟩ = some (.int .u64 c) ∧ W.cell? ⟨B + 1, 0, none⟩ = some (.int .u64 x) ∧ W.cell? ⟨B + 1, 1, none⟩ = some (.int .u64 y) ∧ W.cell? ⟨B + 1, 2, none⟩ = some (.int .u64 z)) (hb : Below W.heap.size W w1) :
    B + 1 < w1.heap.size ∧ w1.cell? ⟨B, 0, none⟩ = some (.int .u64 a) ∧ w1.cell? ⟨B, 1, none⟩ = some (.int .u64 b) ∧ w1.cell? ⟨B, 2, none⟩ = some (.int .u64 c) ∧ w1.cell? ⟨B + 1, 0, none⟩ = some (.int .u64 x) ∧ w1.cell? ⟨B + 1, 1, none⟩ = some (.int .u64 y) ∧ w1.cell? ⟨B + 1, 2, none⟩ = some (.int .u64 z) := by
  obtain ⟨h0, h1, h2, h3, h4, h5, h6⟩ := h
  have z := hb.size
  refine ⟨by omega, ?_, ?_, ?_, ?_, ?_, ?_⟩
  · rw [hb.cell (p := ⟨B, 0, none⟩) (by show B < _; omega)]; exact h1
  · rw [hb.cell (p := ⟨B, 1, none⟩) (by show B < _; omega)]; exact h2
  · rw [hb.cell (p := ⟨B, 2, none⟩) (by show B < _; omega)]; exact h3
  · rw [hb.cell (p := ⟨B + 1, 0, none⟩) h0]; exact h4
  · rw [hb.cell (p := ⟨B + 1, 1, none⟩) h0]; exact h5
  · rw [hb.cell (p := ⟨B + 1, 2, none⟩) h0]; exact h6

theorem hb_one {w0 w1 w5 : World} {o : Obj} {g5 : Nat} (hb1 : Below w0.drew.heap.size w0.drew w1) (hb5 : Below (w1.alloc o).heap.size (w1.alloc o) w5) (hg : (w1.alloc o).heap.size ≤ g5) : Below w0.heap.size w0 w5 ∧ w0.heap.size ≤ g5 := by
  have h2 : Below w0.heap.size w0 w1 := ((Gr.refl w0).drew).below.trans hb1
  have h3 := h2.alloc h2.size o
  exact ⟨h3.trans (hb5.mono h3.size), Nat.le_trans h3.size hg⟩
theorem hb_two {w0 w1 w5 : World} {o : Obj} {g5 : Nat} (hb1 : Below (w0.alloc o).drew.heap.size (w0.alloc o).drew w1) (hb5 : Below w1.heap.size w1 w5) (hg : w1.heap.size ≤ g5) : Below w0.heap.size w0 w5 ∧ w0.heap.size ≤ g5 := by
  have h1 := ((Gr.refl w0).alloc o).drew.below
  have h2 := h1.trans (hb1.mono h1.size)
  exact ⟨h2.trans (hb5.mono h2.size), Nat.le_trans h2.size hg⟩

set_option maxHeartbeats 4000000 in
set_option maxRecDepth 100000 in
theorem prefThen_any (a b c x y z : Nat) (w : World) (ha : a < 18446744073709551616) (hb : b < 18446744073709551616) (hc : c < 18446744073709551616) (hx : x < 18446744073709551616) (hy : y < 18446744073709551616) (hz : z < 18446744073709551616) :
    Calls Tryz.prog 11 #[.agg #[.int .u64 a, .int .u64 b, .int .u64 c], .agg #[.int .u64 x, .int .u64 y, .int .u64 z]] w fun e w' =>
      e = .returned (.tuple #[.agg #[.int .u64 (pon (pok a b c x y z) (a + x) : Nat), .int .u64 (pon (pok a b c x y z) (b + y) : Nat), .int .u64 (pon (pok a b c x y z) (c + z) : Nat)], .bool (pok a b c x y z)]) ∧ Below w.heap.size w w' := by
  have hN := fun a b c W => pnumbers_at a b c W
  have hl : ∀ n ∈ [a, b, c], n < 18446744073709551616 := by intro n hn; simp at hn; omega
  have hm : ∀ n ∈ [x, y, z], n < 18446744073709551616 := by intro n hn; simp at hn; omega
  have hS := fun ba bx W h1 h2 => (psums_any ba bx [a, b, c] [x, y, z] W rfl rfl h1 h2 hl hm).mono fun e w' h => sums_pok h
  generalize pon (pok a b c x y z) (a + x) = s1 at *
  generalize pon (pok a b c x y z) (b + y) = s2 at *
  generalize pon (pok a b c x y z) (c + z) = s3 at *
  generalize pok a b c x y z = ok at *
  clear ha hb hc hx hy hz hl hm
  have B0 := ((((Gr.refl w).alloc (.cells #[.int .u64 a, .int .u64 b, .int .u64 c] 24)).alloc (.cells #[.int .u64 x, .int .u64 y, .int .u64 z] 24)).alloc (.cells #[.int .u64 0, .int .u64 0, .int .u64 0] 24)).below
  go_enter Tryz.func11, Tryz.ntmps11
  go_wp2_with fail
  have S0 : w.heap.size + 1 < (((w.alloc (.cells #[.int .u64 a, .int .u64 b, .int .u64 c] 24)).alloc (.cells #[.int .u64 x, .int .u64 y, .int .u64 z] 24)).alloc (.cells #[.int .u64 0, .int .u64 0, .int .u64 0] 24)).heap.size ∧ (((w.alloc (.cells #[.int .u64 a, .int .u64 b, .int .u64 c] 24)).alloc (.cells #[.int .u64 x, .int .u64 y, .int .u64 z] 24)).alloc (.cells #[.int .u64 0, .int .u64 0, .int .u64 0] 24)).cell? ⟨w.heap.size, 0, none⟩ = some (.int .u64 a) ∧ (((w.alloc (.cells #[.int .u64 a, .int .u64 b, .int .u64 c] 24)).alloc (.cells #[.int .u64 x, .int .u64 y, .int .u64 z] 24)).alloc (.cells #[.int .u64 0, .int .u64 0, .int .u64 0] 24)).cell? ⟨w.heap.size, 1, none⟩ = some (.int .u64 b) ∧ (((w.alloc (.cells #[.int .u64 a, .int .u64 b, .int .u64 c] 24)).alloc (.cells #[.int .u64 x, .int .u64 y, .int .u64 z] 24)).alloc (.cells #[.int .u64 0, .int .u64 0, .int .u64 0] 24)).cell? ⟨w.heap.size, 2, none⟩ = some (.int .u64 c) ∧
      (((w.alloc (.cells #[.int .u64 a, .int .u64 b, .int .u64 c] 24)).alloc (.cells #[.int .u64 x, .int .u64 y, .int .u64 z] 24)).alloc (.cells #[.int .u64 0, .int .u64 0, .int .u64 0] 24)).cell? ⟨w.heap.size + 1, 0, none⟩ = some (.int .u64 x) ∧ (((w.alloc (.cells #[.int .u64 a, .int .u64 b, .int .u64 c] 24)).alloc (.cells #[.int .u64 x, .int .u64 y, .int .u64 z] 24)).alloc (.cells #[.int .u64 0, .int .u64 0, .int .u64 0] 24)).cell? ⟨w.heap.size + 1, 1, none⟩ = some (.int .u64 y) ∧ (((w.alloc (.cells #[.int .u64 a, .int .u64 b, .int .u64 c] 24)).alloc (.cells #[.int .u64 x, .int .u64 y, .int .u64 z] 24)).alloc (.cells #[.int .u64 0, .int .u64 0, .int .u64 0] 24)).cell? ⟨w.heap.size + 1, 2, none⟩ = some (.int .u64 z) := by
    refine ⟨by simp, ?_, ?_, ?_, ?_, ?_, ?_⟩ <;> go_simp
  have LR : At3 (((w.alloc (.cells #[.int .u64 a, .int .u64 b, .int .u64 c] 24)).alloc (.cells #[.int .u64 x, .int .u64 y, .int .u64 z] 24)).alloc (.cells #[.int .u64 0, .int .u64 0, .int .u64 0] 24)) (w.heap.size + 1 + 1) (.int .u64 0) (.int .u64 0) (.int .u64 0) := by
    constructor <;> first | (simp; done) | go_simp
  have FR : ∀ i, (((w.alloc (.cells #[.int .u64 a, .int .u64 b, .int .u64 c] 24)).alloc (.cells #[.int .u64 x, .int .u64 y, .int .u64 z] 24)).alloc (.cells #[.int .u64 0, .int .u64 0, .int .u64 0] 24)).frozen? ⟨w.heap.size + 1 + 1, i, none⟩ = false := fun i => by go_simp
  generalize (((w.alloc (.cells #[.int .u64 a, .int .u64 b, .int .u64 c] 24)).alloc (.cells #[.int .u64 x, .int .u64 y, .int .u64 z] 24)).alloc (.cells #[.int .u64 0, .int .u64 0, .int .u64 0] 24)) = w0 at *
  have drw : ∀ W : World, Below W.heap.size W W.drew := fun W => ((Gr.refl W).drew).below
  go_region_held3 (fun w' => w.heap.size + 1 < w'.heap.size ∧ w'.cell? ⟨w.heap.size, 0, none⟩ = some (.int .u64 (a : Int)) ∧ w'.cell? ⟨w.heap.size, 1, none⟩ = some (.int .u64 (b : Int)) ∧ w'.cell? ⟨w.heap.size, 2, none⟩ = some (.int .u64 (c : Int)) ∧ w'.cell? ⟨w.heap.size + 1, 0, none⟩ = some (.int .u64 (x : Int)) ∧ w'.cell? ⟨w.heap.size + 1, 1, none⟩ = some (.int .u64 (y : Int)) ∧ w'.cell? ⟨w.heap.size + 1, 2, none⟩ = some (.int .u64 (z : Int)))
    (first | exact S0 | exact two_keep' S0 (drw _) | exact two_keep' (by assumption) (by assumption))
    (first | (go_at_call 23; refine (hN _ _ _ _).mono ?_; rintro e w1 ⟨g1, rfl, L1, hb1⟩) | (go_at_call 30; refine (hS _ _ _ (At3.nums (At3.below hb1 (by assumption))) (At3.nums L1)).mono ?_; rintro e w5 ⟨g5, cap5, hg5, rfl, L5, hb5⟩))
  have hbx : Below w0.heap.size w0 w5 := by
    have h1 := ‹Below w0.drew.heap.size w0.drew _›
    have h2 : Below w0.heap.size w0 _ := (drw w0).trans h1
    have h3 := h2.trans (hb1.mono h2.size)
    exact h3.trans (hb5.mono h3.size)
  have L5R := At3.below hbx LR
  have f0 : w5.frozen? ⟨w.heap.size + 1 + 1, 0, none⟩ = false := (hbx.frozen (p := ⟨w.heap.size + 1 + 1, 0, none⟩) LR.lt).trans (FR 0)
  have f1 : w5.frozen? ⟨w.heap.size + 1 + 1, 1, none⟩ = false := (hbx.frozen (p := ⟨w.heap.size + 1 + 1, 1, none⟩) LR.lt).trans (FR 1)
  have f2 : w5.frozen? ⟨w.heap.size + 1 + 1, 2, none⟩ = false := (hbx.frozen (p := ⟨w.heap.size + 1 + 1, 2, none⟩) LR.lt).trans (FR 2)
  have hBw : Below w.heap.size w w5 := B0.trans (hbx.mono B0.size)
  clear hb1 hb5 hN hS L1 FR LR S0
  go_wp2_with fail
  refine (ppath_any g5 cap5 s1 s2 s3 _ L5).mono ?_
  rintro e w6 ⟨rfl, hb6⟩
  obtain ⟨lr, r0, r1, r2⟩ := At3.below hb6 L5R
  replace f0 := (hb6.frozen (p := ⟨w.heap.size + 1 + 1, 0, none⟩) L5R.lt).trans f0
  replace f1 := (hb6.frozen (p := ⟨w.heap.size + 1 + 1, 1, none⟩) L5R.lt).trans f1
  replace f2 := (hb6.frozen (p := ⟨w.heap.size + 1 + 1, 2, none⟩) L5R.lt).trans f2
  replace hBw := hBw.trans (hb6.mono hBw.size)
  clear hb6 L5R L5
  go_wp2
  refine bodyPost_ret (v := .tuple #[.agg #[.int .u64 s1, .int .u64 s2, .int .u64 s3], .bool ok]) (by simp [results, Tryz.results11, go_sem, *]) rfl ⟨rfl, ?_⟩
  have k : w.heap.size ≤ w.heap.size + 1 + 1 := by omega
  exact ((hBw.setCell (p := ⟨w.heap.size + 1 + 1, 0, none⟩) k _).setCell (p := ⟨w.heap.size + 1 + 1, 1, none⟩) k _).setCell (p := ⟨w.heap.size + 1 + 1, 2, none⟩) k _

set_option maxHeartbeats 4000000 in
set_option maxRecDepth 100000 in
theorem prefOn_any (a b c x y z : Nat) (w : World) (ha : a < 18446744073709551616) (hb : b < 18446744073709551616) (hc : c < 18446744073709551616) (hx : x < 18446744073709551616) (hy : y < 18446744073709551616) (hz : z < 18446744073709551616) :
    Calls Tryz.prog 13 #[.agg #[.int .u64 a, .int .u64 b, .int .u64 c], .agg #[.int .u64 x, .int .u64 y, .int .u64 z]] w fun e w' =>
      e = .returned (.tuple #[.agg #[.int .u64 (pon (pok a b c x y z) (a + x) : Nat), .int .u64 (pon (pok a b c x y z) (b + y) : Nat), .int .u64 (pon (pok a b c x y z) (c + z) : Nat)], .bool (pok a b c x y z)]) ∧ Below w.heap.size w w' := by
  have hN := fun a b c W => pnumbers_at a b c W
  have hl : ∀ n ∈ [a, b, c], n < 18446744073709551616 := by intro n hn; simp at hn; omega
  have hm : ∀ n ∈ [x, y, z], n < 18446744073709551616 := by intro n hn; simp at hn; omega
  have hS := fun ba bx W h1 h2 => (psums_any ba bx [a, b, c] [x, y, z] W rfl rfl h1 h2 hl hm).mono fun e w' h => sums_pok h
  generalize pon (pok a b c x y z) (a + x) = s1 at *
  generalize pon (pok a b c x y z) (b + y) = s2 at *
  generalize pon (pok a b c x y z) (c + z) = s3 at *
  generalize pok a b c x y z = ok at *
  clear ha hb hc hx hy hz hl hm
  have B0 := ((((Gr.refl w).alloc (.cells #[.int .u64 a, .int .u64 b, .int .u64 c] 24)).alloc (.cells #[.int .u64 x, .int .u64 y, .int .u64 z] 36)).alloc (.cells #[.int .u64 0, .int .u64 0, .int .u64 0] 36)).below
  go_enter Tryz.func13, Tryz.ntmps13
  go_wp2_with fail
  have S0 : w.heap.size + 1 < (((w.alloc (.cells #[.int .u64 a, .int .u64 b, .int .u64 c] 24)).alloc (.cells #[.int .u64 x, .int .u64 y, .int .u64 z] 36)).alloc (.cells #[.int .u64 0, .int .u64 0, .int .u64 0] 36)).heap.size ∧ (((w.alloc (.cells #[.int .u64 a, .int .u64 b, .int .u64 c] 24)).alloc (.cells #[.int .u64 x, .int .u64 y, .int .u64 z] 36)).alloc (.cells #[.int .u64 0, .int .u64 0, .int .u64 0] 36)).cell? ⟨w.heap.size, 0, none⟩ = some (.int .u64 a) ∧ (((w.alloc (.cells #[.int .u64 a, .int .u64 b, .int .u64 c] 24)).alloc (.cells #[.int .u64 x, .int .u64 y, .int .u64 z] 36)).alloc (.cells #[.int .u64 0, .int .u64 0, .int .u64 0] 36)).cell? ⟨w.heap.size, 1, none⟩ = some (.int .u64 b) ∧ (((w.alloc (.cells #[.int .u64 a, .int .u64 b, .int .u64 c] 24)).alloc (.cells #[.int .u64 x, .int .u64 y, .int .u64 z] 36)).alloc (.cells #[.int .u64 0, .int .u64 0, .int .u64 0] 36)).cell? ⟨w.heap.size, 2, none⟩ = some (.int .u64 c) ∧
      (((w.alloc (.cells #[.int .u64 a, .int .u64 b, .int .u64 c] 24)).alloc (.cells #[.int .u64 x, .int .u64 y, .int .u64 z] 36)).alloc (.cells #[.int .u64 0, .int .u64 0, .int .u64 0] 36)).cell? ⟨w.heap.size + 1, 0, none⟩ = some (.int .u64 x) ∧ (((w.alloc (.cells #[.int .u64 a, .int .u64 b, .int .u64 c] 24)).alloc (.cells #[.int .u64 x, .int .u64 y, .int .u64 z] 36)).alloc (.cells #[.int .u64 0, .int .u64 0, .int .u64 0] 36)).cell? ⟨w.heap.size + 1, 1, none⟩ = some (.int .u64 y) ∧ (((w.alloc (.cells #[.int .u64 a, .int .u64 b, .int .u64 c] 24)).alloc (.cells #[.int .u64 x, .int .u64 y, .int .u64 z] 36)).alloc (.cells #[.int .u64 0, .int .u64 0, .int .u64 0] 36)).cell? ⟨w.heap.size + 1, 2, none⟩ = some (.int .u64 z) := by
    refine ⟨by simp, ?_, ?_, ?_, ?_, ?_, ?_⟩ <;> go_simp
  have LR : At3 (((w.alloc (.cells #[.int .u64 a, .int .u64 b, .int .u64 c] 24)).alloc (.cells #[.int .u64 x, .int .u64 y, .int .u64 z] 36)).alloc (.cells #[.int .u64 0, .int .u64 0, .int .u64 0] 36)) (w.heap.size + 1 + 1) (.int .u64 0) (.int .u64 0) (.int .u64 0) := by
    constructor <;> first | (simp; done) | go_simp
  have FR : ∀ i, (((w.alloc (.cells #[.int .u64 a, .int .u64 b, .int .u64 c] 24)).alloc (.cells #[.int .u64 x, .int .u64 y, .int .u64 z] 36)).alloc (.cells #[.int .u64 0, .int .u64 0, .int .u64 0] 36)).frozen? ⟨w.heap.size + 1 + 1, i, none⟩ = false := fun i => by go_simp
  generalize (((w.alloc (.cells #[.int .u64 a, .int .u64 b, .int .u64 c] 24)).alloc (.cells #[.int .u64 x, .int .u64 y, .int .u64 z] 36)).alloc (.cells #[.int .u64 0, .int .u64 0, .int .u64 0] 36)) = w0 at *
  have drw : ∀ W : World, Below W.heap.size W W.drew := fun W => ((Gr.refl W).drew).below
  go_region_held3 (fun w' => w.heap.size + 1 < w'.heap.size ∧ w'.cell? ⟨w.heap.size, 0, none⟩ = some (.int .u64 (a : Int)) ∧ w'.cell? ⟨w.heap.size, 1, none⟩ = some (.int .u64 (b : Int)) ∧ w'.cell? ⟨w.heap.size, 2, none⟩ = some (.int .u64 (c : Int)) ∧ w'.cell? ⟨w.heap.size + 1, 0, none⟩ = some (.int .u64 (x : Int)) ∧ w'.cell? ⟨w.heap.size + 1, 1, none⟩ = some (.int .u64 (y : Int)) ∧ w'.cell? ⟨w.heap.size + 1, 2, none⟩ = some (.int .u64 (z : Int)))
    (first | exact S0 | exact two_keep' S0 (drw _) | exact two_keep' (by assumption) (by assumption) | exact two_keep' (by assumption) (((Gr.refl _).alloc _).below))
    (first | (go_at_call 23; refine (hN _ _ _ _).mono ?_; rintro e w1 ⟨g1, rfl, L1, hb1⟩) | (go_at_call 30; refine (hS _ _ _ (by first | exact At3.nums (L1.alloc _) | exact At3.nums L1) (by first | exact At3.nums (At3.new _ _ _ _ _) | exact At3.nums (At3.below hb1 (At3.below ((Gr.refl _).drew).below (At3.new _ _ _ _ _))))).mono ?_; rintro e w5 ⟨g5, cap5, hg5, rfl, L5, hb5⟩))
  all_goals have hbx : Below w0.heap.size w0 w5 ∧ w0.heap.size ≤ g5 := by first | exact hb_one hb1 hb5 hg5 | exact hb_two hb1 hb5 hg5
  all_goals obtain ⟨hbx, hgx⟩ := hbx
  all_goals have L5R := At3.below hbx LR
  all_goals have f0 : w5.frozen? ⟨w.heap.size + 1 + 1, 0, none⟩ = false := (hbx.frozen (p := ⟨w.heap.size + 1 + 1, 0, none⟩) LR.lt).trans (FR 0)
  all_goals have f1 : w5.frozen? ⟨w.heap.size + 1 + 1, 1, none⟩ = false := (hbx.frozen (p := ⟨w.heap.size + 1 + 1, 1, none⟩) LR.lt).trans (FR 1)
  all_goals have f2 : w5.frozen? ⟨w.heap.size + 1 + 1, 2, none⟩ = false := (hbx.frozen (p := ⟨w.heap.size + 1 + 1, 2, none⟩) LR.lt).trans (FR 2)
  all_goals have hBw : Below w.heap.size w w5 := B0.trans (hbx.mono B0.size)
  all_goals have hne : w.heap.size + 1 + 1 ≠ g5 := by have := LR.lt; omega
  all_goals clear hb1 hb5 hN hS L1 FR LR S0 hbx hgx hg5
  all_goals go_wp2_with fail
  all_goals obtain ⟨l5, d0, d1, d2⟩ := L5
  all_goals obtain ⟨lr, r0, r1, r2⟩ := L5R
  all_goals go_region_held3 (fun w' => w'.cell? ⟨g5, 0, none⟩ = some (.int .u64 (s1 : Int)) ∧ w'.cell? ⟨g5, 1, none⟩ = some (.int .u64 (s2 : Int)) ∧ w'.cell? ⟨g5, 2, none⟩ = some (.int .u64 (s3 : Int))) (go_keep) (fail)
  all_goals go_wp2
  all_goals refine bodyPost_ret (v := .tuple #[.agg #[.int .u64 s1, .int .u64 s2, .int .u64 s3], .bool ok]) (by simp [results, Tryz.results13, go_sem, *]) rfl ⟨rfl, ?_⟩
  all_goals have k : w.heap.size ≤ w.heap.size + 1 + 1 := by omega
  all_goals have hq := ((hBw.setCell (p := ⟨w.heap.size + 1 + 1, 0, none⟩) k (.int .u64 s1)).setCell (p := ⟨w.heap.size + 1 + 1, 1, none⟩) k (.int .u64 s2)).setCell (p := ⟨w.heap.size + 1 + 1, 2, none⟩) k (.int .u64 s3)
  all_goals exact ⟨hq.os, hq.tape, hq.output, hq.size, hq.block⟩
end Go.Proofs.YtknejahmjfgmhabGreatDoor
