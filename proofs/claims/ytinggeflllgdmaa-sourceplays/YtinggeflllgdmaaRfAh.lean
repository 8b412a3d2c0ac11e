import Derived.Test.YtinggeflllgdmaaGRef1
import Derived.BigQuiet
namespace Go.Proofs.Ytinggeflllgdmaa
open Go.RowKit Go.Sort
attribute [local go_sem ↓] Go.wp_at_zero Go.wp_at_succ
set_option maxHeartbeats 1000000 in
set_option maxRecDepth 100000 in
theorem refAhead_0 (a b c x y z : Int) (w : World) (h0 : ¬ a ≤ x) :
    Calls Try.prog 24 #[.agg #[.int .u64 a, .int .u64 b, .int .u64 c], .agg #[.int .u64 x, .int .u64 y, .int .u64 z]] w fun e w' => e = .returned (.bool false) ∧ Gr w w' := by
  have g0 : x < a := by omega
  have hN := fun a b c W => numbers_any a b c W
  go_enter Try.func24, Try.ntmps24
  go_wp2_with (go_at_call 25; refine (hN _ _ _ _).mono ?_; rintro e w1 ⟨rfl, rfl⟩)
  refine wp_loop_rounds 4 ?_
  rw [rounds_succ]; go_wp2
  go_quiet (fail)
  go_wp2
  go_ret
  exact ⟨rfl, (by repeat (first | exact Gr.refl _ | refine Gr.drewN ?_ _ | refine Gr.drew ?_ | refine Gr.alloc ?_ _))⟩

set_option maxHeartbeats 1000000 in
set_option maxRecDepth 100000 in
theorem refAhead_1 (a b c x y z : Int) (w : World) (h0 : a ≤ x) (h1 : ¬ b ≤ y) :
    Calls Try.prog 24 #[.agg #[.int .u64 a, .int .u64 b, .int .u64 c], .agg #[.int .u64 x, .int .u64 y, .int .u64 z]] w fun e w' => e = .returned (.bool false) ∧ Gr w w' := by
  have g0 : ¬ x < a := by omega
  have g1 : y < b := by omega
  have hN := fun a b c W => numbers_any a b c W
  go_enter Try.func24, Try.ntmps24
  go_wp2_with (go_at_call 25; refine (hN _ _ _ _).mono ?_; rintro e w1 ⟨rfl, rfl⟩)
  refine wp_loop_rounds 4 ?_
  rw [rounds_succ]; go_wp2
  go_quiet (fail)
  go_wp2
  rw [rounds_succ]; go_wp2
  go_quiet (fail)
  go_wp2
  go_ret
  exact ⟨rfl, (by repeat (first | exact Gr.refl _ | refine Gr.drewN ?_ _ | refine Gr.drew ?_ | refine Gr.alloc ?_ _))⟩

set_option maxHeartbeats 1000000 in
set_option maxRecDepth 100000 in
theorem refAhead_2 (a b c x y z : Int) (w : World) (h0 : a ≤ x) (h1 : b ≤ y) (h2 : ¬ c ≤ z) :
    Calls Try.prog 24 #[.agg #[.int .u64 a, .int .u64 b, .int .u64 c], .agg #[.int .u64 x, .int .u64 y, .int .u64 z]] w fun e w' => e = .returned (.bool false) ∧ Gr w w' := by
  have g0 : ¬ x < a := by omega
  have g1 : ¬ y < b := by omega
  have g2 : z < c := by omega
  have hN := fun a b c W => numbers_any a b c W
  go_enter Try.func24, Try.ntmps24
  go_wp2_with (go_at_call 25; refine (hN _ _ _ _).mono ?_; rintro e w1 ⟨rfl, rfl⟩)
  refine wp_loop_rounds 4 ?_
  rw [rounds_succ]; go_wp2
  go_quiet (fail)
  go_wp2
  rw [rounds_succ]; go_wp2
  go_quiet (fail)
  go_wp2
  rw [rounds_succ]; go_wp2
  go_quiet (fail)
  go_wp2
  go_ret
  exact ⟨rfl, (by repeat (first | exact Gr.refl _ | refine Gr.drewN ?_ _ | refine Gr.drew ?_ | refine Gr.alloc ?_ _))⟩

set_option maxHeartbeats 1000000 in
set_option maxRecDepth 100000 in
theorem refAhead_3 (a b c x y z : Int) (w : World) (h0 : a ≤ x) (h1 : b ≤ y) (h2 : c ≤ z) :
    Calls Try.prog 24 #[.agg #[.int .u64 a, .int .u64 b, .int .u64 c], .agg #[.int .u64 x, .int .u64 y, .int .u64 z]] w fun e w' => e = .returned (.bool true) ∧ Gr w w' := by
  have g0 : ¬ x < a := by omega
  have g1 : ¬ y < b := by omega
  have g2 : ¬ z < c := by omega
  have hN := fun a b c W => numbers_any a b c W
  go_enter Try.func24, Try.ntmps24
  go_wp2_with (go_at_call 25; refine (hN _ _ _ _).mono ?_; rintro e w1 ⟨rfl, rfl⟩)
  refine wp_loop_rounds 4 ?_
  rw [rounds_succ]; go_wp2
  go_quiet (fail)
  go_wp2
  rw [rounds_succ]; go_wp2
  go_quiet (fail)
  go_wp2
  rw [rounds_succ]; go_wp2
  go_quiet (fail)
  go_wp2
  rw [rounds_succ]; go_wp2
  go_ret
  exact ⟨rfl, (by repeat (first | exact Gr.refl _ | refine Gr.drewN ?_ _ | refine Gr.drew ?_ | refine Gr.alloc ?_ _))⟩

theorem refAhead_any (a b c x y z : Int) (w : World) :
    Calls Try.prog 24 #[.agg #[.int .u64 a, .int .u64 b, .int .u64 c], .agg #[.int .u64 x, .int .u64 y, .int .u64 z]] w fun e w' => e = .returned (.bool (tle a b c x y z)) ∧ Gr w w' := by
  by_cases h0 : a ≤ x
  · by_cases h1 : b ≤ y
    · by_cases h2 : c ≤ z
      · rw [show tle a b c x y z = true by simp [tle, h0, h1, h2]]; exact refAhead_3 a b c x y z w h0 h1 h2
      · rw [show tle a b c x y z = false by simp [tle, h2]]; exact refAhead_2 a b c x y z w h0 h1 h2
    · rw [show tle a b c x y z = false by simp [tle, h1]]; exact refAhead_1 a b c x y z w h0 h1
  · rw [show tle a b c x y z = false by simp [tle, h0]]; exact refAhead_0 a b c x y z w h0

end Go.Proofs.Ytinggeflllgdmaa
