import Derived.Test.YtinggeflllgdmaaFits
namespace Go.Proofs.Ytinggeflllgdmaa
open Go.RowKit Go.Sort
attribute [local go_sem ↓] Go.wp_at_zero Go.wp_at_succ

set_option maxHeartbeats 1000000 in
theorem numbers_any (a b c : Int) (w : World) :
    Calls Try.prog 25 #[.agg #[.int .u64 a, .int .u64 b, .int .u64 c]] w fun e w' =>
      e = .returned (.slice (some ⟨w.heap.size + 1, 0, none⟩) 3 3) ∧ w' = (w.alloc (.cells #[.int .u64 a, .int .u64 b, .int .u64 c] 30)).alloc (.cells #[.int .u64 a, .int .u64 b, .int .u64 c] 28) := by
  go_enter Try.func25, Try.ntmps25
  go_wp2
  go_ret
  exact ⟨rfl, rfl⟩
set_option maxHeartbeats 1000000 in
set_option maxRecDepth 100000 in
theorem refFits_bad (a b c n : Int) (w : World) (h : n < 1 ∨ 3 < n) :
    Calls Try.prog 23 #[.agg #[.int .u64 a, .int .u64 b, .int .u64 c], .int .i64 n] w fun e w' => e = .returned (.int .i64 10) ∧ Gr w w' := by
  rcases h with h | h
  · go_enter Try.func23, Try.ntmps23
    go_wp2
    go_ret
    exact ⟨rfl, (Gr.refl _).alloc _⟩
  · have h' : ¬ n < 1 := by omega
    go_enter Try.func23, Try.ntmps23
    go_wp2
    go_ret
    exact ⟨rfl, (Gr.refl _).alloc _⟩

set_option maxHeartbeats 1000000 in
set_option maxRecDepth 100000 in
theorem refFits_1b (a b c : Int) (w : World) (hb : b ≠ 0) :
    Calls Try.prog 23 #[.agg #[.int .u64 a, .int .u64 b, .int .u64 c], .int .i64 1] w fun e w' => e = .returned (.int .i64 10) ∧ Gr w w' := by
  have hb' : (b != 0) = true := by rw [bne_iff_ne]; exact hb
  have hN := fun a b c W => numbers_any a b c W
  go_enter Try.func23, Try.ntmps23
  go_wp2_with (go_at_call 25; refine (hN _ _ _ _).mono ?_; rintro e w1 ⟨rfl, rfl⟩)
  refine wp_loop_rounds 4 ?_
  rw [rounds_succ]; go_wp2
  go_ret
  exact ⟨rfl, (by repeat (first | exact Gr.refl _ | refine Gr.drewN ?_ _ | refine Gr.drew ?_ | refine Gr.alloc ?_ _))⟩

set_option maxHeartbeats 1000000 in
set_option maxRecDepth 100000 in
theorem refFits_1c (a b c : Int) (w : World) (hb : b = 0) (hc : c ≠ 0) :
    Calls Try.prog 23 #[.agg #[.int .u64 a, .int .u64 b, .int .u64 c], .int .i64 1] w fun e w' => e = .returned (.int .i64 10) ∧ Gr w w' := by
  subst hb
  have hc' : (c != 0) = true := by rw [bne_iff_ne]; exact hc
  have hN := fun a b c W => numbers_any a b c W
  go_enter Try.func23, Try.ntmps23
  go_wp2_with (go_at_call 25; refine (hN _ _ _ _).mono ?_; rintro e w1 ⟨rfl, rfl⟩)
  refine wp_loop_rounds 4 ?_
  rw [rounds_succ]; go_wp2
  rw [rounds_succ]; go_wp2
  go_ret
  exact ⟨rfl, (by repeat (first | exact Gr.refl _ | refine Gr.drewN ?_ _ | refine Gr.drew ?_ | refine Gr.alloc ?_ _))⟩

set_option maxHeartbeats 1000000 in
set_option maxRecDepth 100000 in
theorem refFits_1 (a b c : Int) (w : World) (hb : b = 0) (hc : c = 0) :
    Calls Try.prog 23 #[.agg #[.int .u64 a, .int .u64 b, .int .u64 c], .int .i64 1] w fun e w' => e = .returned (.int .i64 0) ∧ Gr w w' := by
  subst hb
  subst hc
  have hN := fun a b c W => numbers_any a b c W
  go_enter Try.func23, Try.ntmps23
  go_wp2_with (go_at_call 25; refine (hN _ _ _ _).mono ?_; rintro e w1 ⟨rfl, rfl⟩)
  refine wp_loop_rounds 4 ?_
  rw [rounds_succ]; go_wp2
  rw [rounds_succ]; go_wp2
  rw [rounds_succ]; go_wp2
  go_ret
  exact ⟨rfl, (by repeat (first | exact Gr.refl _ | refine Gr.drewN ?_ _ | refine Gr.drew ?_ | refine Gr.alloc ?_ _))⟩

set_option maxHeartbeats 1000000 in
set_option maxRecDepth 100000 in
theorem refFits_2c (a b c : Int) (w : World) (hc : c ≠ 0) :
    Calls Try.prog 23 #[.agg #[.int .u64 a, .int .u64 b, .int .u64 c], .int .i64 2] w fun e w' => e = .returned (.int .i64 10) ∧ Gr w w' := by
  have hc' : (c != 0) = true := by rw [bne_iff_ne]; exact hc
  have hN := fun a b c W => numbers_any a b c W
  go_enter Try.func23, Try.ntmps23
  go_wp2_with (go_at_call 25; refine (hN _ _ _ _).mono ?_; rintro e w1 ⟨rfl, rfl⟩)
  refine wp_loop_rounds 4 ?_
  rw [rounds_succ]; go_wp2
  go_ret
  exact ⟨rfl, (by repeat (first | exact Gr.refl _ | refine Gr.drewN ?_ _ | refine Gr.drew ?_ | refine Gr.alloc ?_ _))⟩

set_option maxHeartbeats 1000000 in
set_option maxRecDepth 100000 in
theorem refFits_2 (a b c : Int) (w : World) (hc : c = 0) :
    Calls Try.prog 23 #[.agg #[.int .u64 a, .int .u64 b, .int .u64 c], .int .i64 2] w fun e w' => e = .returned (.int .i64 0) ∧ Gr w w' := by
  subst hc
  have hN := fun a b c W => numbers_any a b c W
  go_enter Try.func23, Try.ntmps23
  go_wp2_with (go_at_call 25; refine (hN _ _ _ _).mono ?_; rintro e w1 ⟨rfl, rfl⟩)
  refine wp_loop_rounds 4 ?_
  rw [rounds_succ]; go_wp2
  rw [rounds_succ]; go_wp2
  go_ret
  exact ⟨rfl, (by repeat (first | exact Gr.refl _ | refine Gr.drewN ?_ _ | refine Gr.drew ?_ | refine Gr.alloc ?_ _))⟩

set_option maxHeartbeats 1000000 in
set_option maxRecDepth 100000 in
theorem refFits_3 (a b c : Int) (w : World)  :
    Calls Try.prog 23 #[.agg #[.int .u64 a, .int .u64 b, .int .u64 c], .int .i64 3] w fun e w' => e = .returned (.int .i64 0) ∧ Gr w w' := by
  have hN := fun a b c W => numbers_any a b c W
  go_enter Try.func23, Try.ntmps23
  go_wp2_with (go_at_call 25; refine (hN _ _ _ _).mono ?_; rintro e w1 ⟨rfl, rfl⟩)
  refine wp_loop_rounds 4 ?_
  rw [rounds_succ]; go_wp2
  go_ret
  exact ⟨rfl, (by repeat (first | exact Gr.refl _ | refine Gr.drewN ?_ _ | refine Gr.drew ?_ | refine Gr.alloc ?_ _))⟩

theorem refFits_any (a b c n : Int) (w : World) :
    Calls Try.prog 23 #[.agg #[.int .u64 a, .int .u64 b, .int .u64 c], .int .i64 n] w fun e w' => e = .returned (.int .i64 (tfits a b c n)) ∧ Gr w w' := by
  by_cases h : n < 1 ∨ 3 < n
  · rw [show tfits a b c n = 10 by simp [tfits, h]]; exact refFits_bad a b c n w h
  · have hn : n = 1 ∨ n = 2 ∨ n = 3 := by omega
    rcases hn with rfl | rfl | rfl
    · by_cases hb : b = 0
      · by_cases hc : c = 0
        · rw [show tfits a b c 1 = 0 by simp [tfits, hb, hc]]; exact refFits_1 a b c w hb hc
        · rw [show tfits a b c 1 = 10 by simp [tfits, hc]]; exact refFits_1c a b c w hb hc
      · rw [show tfits a b c 1 = 10 by simp [tfits, hb]]; exact refFits_1b a b c w hb
    · by_cases hc : c = 0
      · rw [show tfits a b c 2 = 0 by simp [tfits, hc]]; exact refFits_2 a b c w hc
      · rw [show tfits a b c 2 = 10 by simp [tfits, hc]]; exact refFits_2c a b c w hc
    · rw [show tfits a b c 3 = 0 by simp [tfits]]; exact refFits_3 a b c w
end Go.Proofs.Ytinggeflllgdmaa
