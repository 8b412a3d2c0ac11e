import Derived.Test.YtmhbpelbkeclpaaGreatDoorRef1
namespace Go.Proofs.YtmhbpelbkeclpaaGreatDoor
open Go.RowKit Go.Sort
attribute [local go_sem ↓] Go.wp_at_zero Go.wp_at_succ

set_option maxHeartbeats 1000000 in
set_option maxRecDepth 100000 in
theorem refCompare_l0 (a b c x y z : Int) (w : World) (h0 : a < x) :
    Calls Tryz.prog 26 #[.agg #[.int .u64 a, .int .u64 b, .int .u64 c], .agg #[.int .u64 x, .int .u64 y, .int .u64 z]] w fun e w' => e = .returned (.int .i64 (-1)) ∧ Gr w w' := by
  have hN := fun a b c W => numbers_any a b c W
  go_enter Tryz.func26, Tryz.ntmps26
  go_wp2_with (go_at_call 52; refine (hN _ _ _ _).mono ?_; rintro e w1 ⟨rfl, rfl⟩)
  refine wp_loop_rounds 4 ?_
  rw [rounds_succ]; go_wp2
  go_quiet (fail)
  go_wp2
  go_ret
  exact ⟨rfl, (by repeat (first | exact Gr.refl _ | refine Gr.drewN ?_ _ | refine Gr.drew ?_ | refine Gr.alloc ?_ _))⟩

set_option maxHeartbeats 1000000 in
set_option maxRecDepth 100000 in
theorem refCompare_g0 (a b c x y z : Int) (w : World) (h0 : x < a) :
    Calls Tryz.prog 26 #[.agg #[.int .u64 a, .int .u64 b, .int .u64 c], .agg #[.int .u64 x, .int .u64 y, .int .u64 z]] w fun e w' => e = .returned (.int .i64 (1)) ∧ Gr w w' := by
  have g0 : ¬ a < x := by omega
  have hN := fun a b c W => numbers_any a b c W
  go_enter Tryz.func26, Tryz.ntmps26
  go_wp2_with (go_at_call 52; refine (hN _ _ _ _).mono ?_; rintro e w1 ⟨rfl, rfl⟩)
  refine wp_loop_rounds 4 ?_
  rw [rounds_succ]; go_wp2
  go_quiet (fail)
  go_wp2
  go_quiet (fail)
  go_wp2
  go_ret
  exact ⟨rfl, (by repeat (first | exact Gr.refl _ | refine Gr.drewN ?_ _ | refine Gr.drew ?_ | refine Gr.alloc ?_ _))⟩

set_option maxHeartbeats 1000000 in
set_option maxRecDepth 100000 in
theorem refCompare_l1 (a b c x y z : Int) (w : World) (h0 : a = x) (h1 : b < y) :
    Calls Tryz.prog 26 #[.agg #[.int .u64 a, .int .u64 b, .int .u64 c], .agg #[.int .u64 x, .int .u64 y, .int .u64 z]] w fun e w' => e = .returned (.int .i64 (-1)) ∧ Gr w w' := by
  have g0 : ¬ a < x := by omega
  have k0 : ¬ x < a := by omega
  clear h0
  have hN := fun a b c W => numbers_any a b c W
  go_enter Tryz.func26, Tryz.ntmps26
  go_wp2_with (go_at_call 52; refine (hN _ _ _ _).mono ?_; rintro e w1 ⟨rfl, rfl⟩)
  refine wp_loop_rounds 4 ?_
  rw [rounds_succ]; go_wp2
  go_quiet (fail)
  go_wp2
  go_quiet (fail)
  go_wp2
  rw [rounds_succ]; go_wp2
  go_quiet (fail)
  go_wp2
  go_ret
  exact ⟨rfl, (by repeat (first | exact Gr.refl _ | refine Gr.drewN ?_ _ | refine Gr.drew ?_ | refine Gr.alloc ?_ _))⟩

set_option maxHeartbeats 1000000 in
set_option maxRecDepth 100000 in
theorem refCompare_g1 (a b c x y z : Int) (w : World) (h0 : a = x) (h1 : y < b) :
    Calls Tryz.prog 26 #[.agg #[.int .u64 a, .int .u64 b, .int .u64 c], .agg #[.int .u64 x, .int .u64 y, .int .u64 z]] w fun e w' => e = .returned (.int .i64 (1)) ∧ Gr w w' := by
  have g0 : ¬ a < x := by omega
  have k0 : ¬ x < a := by omega
  clear h0
  have g1 : ¬ b < y := by omega
  have hN := fun a b c W => numbers_any a b c W
  go_enter Tryz.func26, Tryz.ntmps26
  go_wp2_with (go_at_call 52; refine (hN _ _ _ _).mono ?_; rintro e w1 ⟨rfl, rfl⟩)
  refine wp_loop_rounds 4 ?_
  rw [rounds_succ]; go_wp2
  go_quiet (fail)
  go_wp2
  go_quiet (fail)
  go_wp2
  rw [rounds_succ]; go_wp2
  go_quiet (fail)
  go_wp2
  go_quiet (fail)
  go_wp2
  go_ret
  exact ⟨rfl, (by repeat (first | exact Gr.refl _ | refine Gr.drewN ?_ _ | refine Gr.drew ?_ | refine Gr.alloc ?_ _))⟩

set_option maxHeartbeats 1000000 in
set_option maxRecDepth 100000 in
theorem refCompare_l2 (a b c x y z : Int) (w : World) (h0 : a = x) (h1 : b = y) (h2 : c < z) :
    Calls Tryz.prog 26 #[.agg #[.int .u64 a, .int .u64 b, .int .u64 c], .agg #[.int .u64 x, .int .u64 y, .int .u64 z]] w fun e w' => e = .returned (.int .i64 (-1)) ∧ Gr w w' := by
  have g0 : ¬ a < x := by omega
  have k0 : ¬ x < a := by omega
  clear h0
  have g1 : ¬ b < y := by omega
  have k1 : ¬ y < b := by omega
  clear h1
  have hN := fun a b c W => numbers_any a b c W
  go_enter Tryz.func26, Tryz.ntmps26
  go_wp2_with (go_at_call 52; refine (hN _ _ _ _).mono ?_; rintro e w1 ⟨rfl, rfl⟩)
  refine wp_loop_rounds 4 ?_
  rw [rounds_succ]; go_wp2
  go_quiet (fail)
  go_wp2
  go_quiet (fail)
  go_wp2
  rw [rounds_succ]; go_wp2
  go_quiet (fail)
  go_wp2
  go_quiet (fail)
  go_wp2
  rw [rounds_succ]; go_wp2
  go_quiet (fail)
  go_wp2
  go_ret
  exact ⟨rfl, (by repeat (first | exact Gr.refl _ | refine Gr.drewN ?_ _ | refine Gr.drew ?_ | refine Gr.alloc ?_ _))⟩

set_option maxHeartbeats 1000000 in
set_option maxRecDepth 100000 in
theorem refCompare_g2 (a b c x y z : Int) (w : World) (h0 : a = x) (h1 : b = y) (h2 : z < c) :
    Calls Tryz.prog 26 #[.agg #[.int .u64 a, .int .u64 b, .int .u64 c], .agg #[.int .u64 x, .int .u64 y, .int .u64 z]] w fun e w' => e = .returned (.int .i64 (1)) ∧ Gr w w' := by
  have g0 : ¬ a < x := by omega
  have k0 : ¬ x < a := by omega
  clear h0
  have g1 : ¬ b < y := by omega
  have k1 : ¬ y < b := by omega
  clear h1
  have g2 : ¬ c < z := by omega
  have hN := fun a b c W => numbers_any a b c W
  go_enter Tryz.func26, Tryz.ntmps26
  go_wp2_with (go_at_call 52; refine (hN _ _ _ _).mono ?_; rintro e w1 ⟨rfl, rfl⟩)
  refine wp_loop_rounds 4 ?_
  rw [rounds_succ]; go_wp2
  go_quiet (fail)
  go_wp2
  go_quiet (fail)
  go_wp2
  rw [rounds_succ]; go_wp2
  go_quiet (fail)
  go_wp2
  go_quiet (fail)
  go_wp2
  rw [rounds_succ]; go_wp2
  go_quiet (fail)
  go_wp2
  go_quiet (fail)
  go_wp2
  go_ret
  exact ⟨rfl, (by repeat (first | exact Gr.refl _ | refine Gr.drewN ?_ _ | refine Gr.drew ?_ | refine Gr.alloc ?_ _))⟩

set_option maxHeartbeats 1000000 in
set_option maxRecDepth 100000 in
theorem refCompare_e (a b c x y z : Int) (w : World) (h0 : a = x) (h1 : b = y) (h2 : c = z) :
    Calls Tryz.prog 26 #[.agg #[.int .u64 a, .int .u64 b, .int .u64 c], .agg #[.int .u64 x, .int .u64 y, .int .u64 z]] w fun e w' => e = .returned (.int .i64 (0)) ∧ Gr w w' := by
  have g0 : ¬ a < x := by omega
  have k0 : ¬ x < a := by omega
  clear h0
  have g1 : ¬ b < y := by omega
  have k1 : ¬ y < b := by omega
  clear h1
  have g2 : ¬ c < z := by omega
  have k2 : ¬ z < c := by omega
  clear h2
  have hN := fun a b c W => numbers_any a b c W
  go_enter Tryz.func26, Tryz.ntmps26
  go_wp2_with (go_at_call 52; refine (hN _ _ _ _).mono ?_; rintro e w1 ⟨rfl, rfl⟩)
  refine wp_loop_rounds 4 ?_
  rw [rounds_succ]; go_wp2
  go_quiet (fail)
  go_wp2
  go_quiet (fail)
  go_wp2
  rw [rounds_succ]; go_wp2
  go_quiet (fail)
  go_wp2
  go_quiet (fail)
  go_wp2
  rw [rounds_succ]; go_wp2
  go_quiet (fail)
  go_wp2
  go_quiet (fail)
  go_wp2
  rw [rounds_succ]; go_wp2
  go_ret
  exact ⟨rfl, (by repeat (first | exact Gr.refl _ | refine Gr.drewN ?_ _ | refine Gr.drew ?_ | refine Gr.alloc ?_ _))⟩

theorem refCompare_any (a b c x y z : Int) (w : World) :
    Calls Tryz.prog 26 #[.agg #[.int .u64 a, .int .u64 b, .int .u64 c], .agg #[.int .u64 x, .int .u64 y, .int .u64 z]] w fun e w' => e = .returned (.int .i64 (tcmp a b c x y z)) ∧ Gr w w' := by
  have hb := tcmp_bd a b c x y z
  have hn := tcmp_neg a b c x y z
  have hz := tcmp_zero a b c x y z
  by_cases a1 : a < x
  · rw [show tcmp a b c x y z = -1 by omega]; exact refCompare_l0 a b c x y z w a1
  · by_cases a2 : x < a
    · rw [show tcmp a b c x y z = 1 by omega]; exact refCompare_g0 a b c x y z w a2
    · by_cases b1 : b < y
      · rw [show tcmp a b c x y z = -1 by omega]; exact refCompare_l1 a b c x y z w (by omega) b1
      · by_cases b2 : y < b
        · rw [show tcmp a b c x y z = 1 by omega]; exact refCompare_g1 a b c x y z w (by omega) b2
        · by_cases c1 : c < z
          · rw [show tcmp a b c x y z = -1 by omega]; exact refCompare_l2 a b c x y z w (by omega) (by omega) c1
          · by_cases c2 : z < c
            · rw [show tcmp a b c x y z = 1 by omega]; exact refCompare_g2 a b c x y z w (by omega) (by omega) c2
            · rw [show tcmp a b c x y z = 0 by omega]; exact refCompare_e a b c x y z w (by omega) (by omega) (by omega)
end Go.Proofs.YtmhbpelbkeclpaaGreatDoor
