import Derived.Test.YtmhbpelbkeclpaaGreatDoorPOps
import Derived.Test.YtmhbpelbkeclpaaGreatDoorSorted
import Derived.Shelf.SlSortCmp.QuietGrown
namespace Go.Proofs.YtmhbpelbkeclpaaGreatDoor
open Go.RowKit Go.Sort
attribute [local go_sem ↓] Go.wp_at_zero Go.wp_at_succ

set_option maxHeartbeats 1000000 in
theorem pnumbers_any (a b c : Int) (w : World) :
    Calls Tryz.prog 61 #[.agg #[.int .u64 a, .int .u64 b, .int .u64 c]] w fun e w' =>
      e = .returned (.slice (some ⟨w.heap.size + 1, 0, none⟩) 3 3) ∧ w' = (w.alloc (.cells #[.int .u64 a, .int .u64 b, .int .u64 c] 34)).alloc (.cells #[.int .u64 a, .int .u64 b, .int .u64 c] 23) := by
  go_enter Tryz.func61, Tryz.ntmps61
  go_wp2
  go_ret
  exact ⟨rfl, rfl⟩

set_option maxHeartbeats 2000000 in
set_option maxRecDepth 100000 in
theorem prefAhead_any (a b c x y z : Int) (w : World) :
    Calls Tryz.prog 42 #[.agg #[.int .u64 a, .int .u64 b, .int .u64 c], .agg #[.int .u64 x, .int .u64 y, .int .u64 z]] w fun e w' => e = .returned (.bool (tle a b c x y z)) ∧ Gr w w' := by
  have hN := fun a b c W => pnumbers_any a b c W
  unfold tle
  cases h1 : decide (a ≤ x) <;> cases h2 : decide (b ≤ y) <;> cases h3 : decide (c ≤ z)
  all_goals go_enter Tryz.func42, Tryz.ntmps42
  all_goals go_wp2_with (go_at_call 61; refine (hN _ _ _ _).mono ?_; rintro e w1 ⟨rfl, rfl⟩)
  all_goals go_quiet (fail)
  all_goals go_wp2
  all_goals go_ret
  all_goals exact ⟨rfl, (by repeat (first | exact Gr.refl _ | refine Gr.drewN ?_ _ | refine Gr.drew ?_ | refine Gr.alloc ?_ _))⟩

set_option maxHeartbeats 1000000 in
set_option maxRecDepth 100000 in
theorem prefCompare_l0 (a b c x y z : Int) (w : World) (h0 : a < x) :
    Calls Tryz.prog 43 #[.agg #[.int .u64 a, .int .u64 b, .int .u64 c], .agg #[.int .u64 x, .int .u64 y, .int .u64 z]] w fun e w' => e = .returned (.int .i64 (-1)) ∧ Gr w w' := by
  have hN := fun a b c W => pnumbers_any a b c W
  go_enter Tryz.func43, Tryz.ntmps43
  go_wp2_with (go_at_call 61; refine (hN _ _ _ _).mono ?_; rintro e w1 ⟨rfl, rfl⟩)
  refine wp_loop_rounds 4 ?_
  rw [rounds_succ]; go_wp2
  go_quiet (fail)
  go_wp2
  go_ret
  exact ⟨rfl, (by repeat (first | exact Gr.refl _ | refine Gr.drewN ?_ _ | refine Gr.drew ?_ | refine Gr.alloc ?_ _))⟩

set_option maxHeartbeats 1000000 in
set_option maxRecDepth 100000 in
theorem prefCompare_g0 (a b c x y z : Int) (w : World) (h0 : x < a) :
    Calls Tryz.prog 43 #[.agg #[.int .u64 a, .int .u64 b, .int .u64 c], .agg #[.int .u64 x, .int .u64 y, .int .u64 z]] w fun e w' => e = .returned (.int .i64 (1)) ∧ Gr w w' := by
  have g0 : ¬ a < x := by omega
  have hN := fun a b c W => pnumbers_any a b c W
  go_enter Tryz.func43, Tryz.ntmps43
  go_wp2_with (go_at_call 61; refine (hN _ _ _ _).mono ?_; rintro e w1 ⟨rfl, rfl⟩)
  refine wp_loop_rounds 4 ?_
  rw [rounds_succ]; go_wp2
  go_quiet (fail)
  go_wp2
  go_quiet (fail)
  go_wp2
  go_ret
  exact ⟨rfl, (by repeat (first | exact Gr.refl _ | refine Gr.drewN ?_ _ | refine Gr.drew ?_ | refine Gr.alloc ?_ _))⟩

set_option maxHeartbeats 1000000 in
set_option maxRecDepth 100000 in
theorem prefCompare_l1 (a b c x y z : Int) (w : World) (h0 : a = x) (h1 : b < y) :
    Calls Tryz.prog 43 #[.agg #[.int .u64 a, .int .u64 b, .int .u64 c], .agg #[.int .u64 x, .int .u64 y, .int .u64 z]] w fun e w' => e = .returned (.int .i64 (-1)) ∧ Gr w w' := by
  have g0 : ¬ a < x := by omega
  have k0 : ¬ x < a := by omega
  clear h0
  have hN := fun a b c W => pnumbers_any a b c W
  go_enter Tryz.func43, Tryz.ntmps43
  go_wp2_with (go_at_call 61; refine (hN _ _ _ _).mono ?_; rintro e w1 ⟨rfl, rfl⟩)
  refine wp_loop_rounds 4 ?_
  rw [rounds_succ]; go_wp2
  go_quiet (fail)
  go_wp2
  go_quiet (fail)
  go_wp2
  rw [rounds_succ]; go_wp2
  go_quiet (fail)
  go_wp2
  go_ret
  exact ⟨rfl, (by repeat (first | exact Gr.refl _ | refine Gr.drewN ?_ _ | refine Gr.drew ?_ | refine Gr.alloc ?_ _))⟩

set_option maxHeartbeats 1000000 in
set_option maxRecDepth 100000 in
theorem prefCompare_g1 (a b c x y z : Int) (w : World) (h0 : a = x) (h1 : y < b) :
    Calls Tryz.prog 43 #[.agg #[.int .u64 a, .int .u64 b, .int .u64 c], .agg #[.int .u64 x, .int .u64 y, .int .u64 z]] w fun e w' => e = .returned (.int .i64 (1)) ∧ Gr w w' := by
  have g0 : ¬ a < x := by omega
  have k0 : ¬ x < a := by omega
  clear h0
  have g1 : ¬ b < y := by omega
  have hN := fun a b c W => pnumbers_any a b c W
  go_enter Tryz.func43, Tryz.ntmps43
  go_wp2_with (go_at_call 61; refine (hN _ _ _ _).mono ?_; rintro e w1 ⟨rfl, rfl⟩)
  refine wp_loop_rounds 4 ?_
  rw [rounds_succ]; go_wp2
  go_quiet (fail)
  go_wp2
  go_quiet (fail)
  go_wp2
  rw [rounds_succ]; go_wp2
  go_quiet (fail)
  go_wp2
  go_quiet (fail)
  go_wp2
  go_ret
  exact ⟨rfl, (by repeat (first | exact Gr.refl _ | refine Gr.drewN ?_ _ | refine Gr.drew ?_ | refine Gr.alloc ?_ _))⟩

set_option maxHeartbeats 1000000 in
set_option maxRecDepth 100000 in
theorem prefCompare_l2 (a b c x y z : Int) (w : World) (h0 : a = x) (h1 : b = y) (h2 : c < z) :
    Calls Tryz.prog 43 #[.agg #[.int .u64 a, .int .u64 b, .int .u64 c], .agg #[.int .u64 x, .int .u64 y, .int .u64 z]] w fun e w' => e = .returned (.int .i64 (-1)) ∧ Gr w w' := by
  have g0 : ¬ a < x := by omega
  have k0 : ¬ x < a := by omega
  clear h0
  have g1 : ¬ b < y := by omega
  have k1 : ¬ y < b := by omega
  clear h1
  have hN := fun a b c W => pnumbers_any a b c W
  go_enter Tryz.func43, Tryz.ntmps43
  go_wp2_with (go_at_call 61; refine (hN _ _ _ _).mono ?_; rintro e w1 ⟨rfl, rfl⟩)
  refine wp_loop_rounds 4 ?_
  rw [rounds_succ]; go_wp2
  go_quiet (fail)
  go_wp2
  go_quiet (fail)
  go_wp2
  rw [rounds_succ]; go_wp2
  go_quiet (fail)
  go_wp2
  go_quiet (fail)
  go_wp2
  rw [rounds_succ]; go_wp2
  go_quiet (fail)
  go_wp2
  go_ret
  exact ⟨rfl, (by repeat (first | exact Gr.refl _ | refine Gr.drewN ?_ _ | refine Gr.drew ?_ | refine Gr.alloc ?_ _))⟩

set_option maxHeartbeats 1000000 in
set_option maxRecDepth 100000 in
theorem prefCompare_g2 (a b c x y z : Int) (w : World) (h0 : a = x) (h1 : b = y) (h2 : z < c) :
    Calls Tryz.prog 43 #[.agg #[.int .u64 a, .int .u64 b, .int .u64 c], .agg #[.int .u64 x, .int .u64 y, .int .u64 z]] w fun e w' => e = .returned (.int .i64 (1)) ∧ Gr w w' := by
  have g0 : ¬ a < x := by omega
  have k0 : ¬ x < a := by omega
  clear h0
  have g1 : ¬ b < y := by omega
  have k1 : ¬ y < b := by omega
  clear h1
  have g2 : ¬ c < z := by omega
  have hN := fun a b c W => pnumbers_any a b c W
  go_enter Tryz.func43, Tryz.ntmps43
  go_wp2_with (go_at_call 61; refine (hN _ _ _ _).mono ?_; rintro e w1 ⟨rfl, rfl⟩)
  refine wp_loop_rounds 4 ?_
  rw [rounds_succ]; go_wp2
  go_quiet (fail)
  go_wp2
  go_quiet (fail)
  go_wp2
  rw [rounds_succ]; go_wp2
  go_quiet (fail)
  go_wp2
  go_quiet (fail)
  go_wp2
  rw [rounds_succ]; go_wp2
  go_quiet (fail)
  go_wp2
  go_quiet (fail)
  go_wp2
  go_ret
  exact ⟨rfl, (by repeat (first | exact Gr.refl _ | refine Gr.drewN ?_ _ | refine Gr.drew ?_ | refine Gr.alloc ?_ _))⟩

set_option maxHeartbeats 1000000 in
set_option maxRecDepth 100000 in
theorem prefCompare_e (a b c x y z : Int) (w : World) (h0 : a = x) (h1 : b = y) (h2 : c = z) :
    Calls Tryz.prog 43 #[.agg #[.int .u64 a, .int .u64 b, .int .u64 c], .agg #[.int .u64 x, .int .u64 y, .int .u64 z]] w fun e w' => e = .returned (.int .i64 (0)) ∧ Gr w w' := by
  have g0 : ¬ a < x := by omega
  have k0 : ¬ x < a := by omega
  clear h0
  have g1 : ¬ b < y := by omega
  have k1 : ¬ y < b := by omega
  clear h1
  have g2 : ¬ c < z := by omega
  have k2 : ¬ z < c := by omega
  clear h2
  have hN := fun a b c W => pnumbers_any a b c W
  go_enter Tryz.func43, Tryz.ntmps43
  go_wp2_with (go_at_call 61; refine (hN _ _ _ _).mono ?_; rintro e w1 ⟨rfl, rfl⟩)
  refine wp_loop_rounds 4 ?_
  rw [rounds_succ]; go_wp2
  go_quiet (fail)
  go_wp2
  go_quiet (fail)
  go_wp2
  rw [rounds_succ]; go_wp2
  go_quiet (fail)
  go_wp2
  go_quiet (fail)
  go_wp2
  rw [rounds_succ]; go_wp2
  go_quiet (fail)
  go_wp2
  go_quiet (fail)
  go_wp2
  rw [rounds_succ]; go_wp2
  go_ret
  exact ⟨rfl, (by repeat (first | exact Gr.refl _ | refine Gr.drewN ?_ _ | refine Gr.drew ?_ | refine Gr.alloc ?_ _))⟩

theorem prefCompare_any (a b c x y z : Int) (w : World) :
    Calls Tryz.prog 43 #[.agg #[.int .u64 a, .int .u64 b, .int .u64 c], .agg #[.int .u64 x, .int .u64 y, .int .u64 z]] w fun e w' => e = .returned (.int .i64 (tcmp a b c x y z)) ∧ Gr w w' := by
  have hb := tcmp_bd a b c x y z
  have hn := tcmp_neg a b c x y z
  have hz := tcmp_zero a b c x y z
  by_cases a1 : a < x
  · rw [show tcmp a b c x y z = -1 by omega]; exact prefCompare_l0 a b c x y z w a1
  · by_cases a2 : x < a
    · rw [show tcmp a b c x y z = 1 by omega]; exact prefCompare_g0 a b c x y z w a2
    · by_cases b1 : b < y
      · rw [show tcmp a b c x y z = -1 by omega]; exact prefCompare_l1 a b c x y z w (by omega) b1
      · by_cases b2 : y < b
        · rw [show tcmp a b c x y z = 1 by omega]; exact prefCompare_g1 a b c x y z w (by omega) b2
        · by_cases c1 : c < z
          · rw [show tcmp a b c x y z = -1 by omega]; exact prefCompare_l2 a b c x y z w (by omega) (by omega) c1
          · by_cases c2 : z < c
            · rw [show tcmp a b c x y z = 1 by omega]; exact prefCompare_g2 a b c x y z w (by omega) (by omega) c2
            · rw [show tcmp a b c x y z = 0 by omega]; exact prefCompare_e a b c x y z w (by omega) (by omega) (by omega)
end Go.Proofs.YtmhbpelbkeclpaaGreatDoor
