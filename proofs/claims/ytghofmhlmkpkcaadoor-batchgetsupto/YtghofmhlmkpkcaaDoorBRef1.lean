import Derived.Test.YtghofmhlmkpkcaaDoorBBase
namespace Go.Proofs.YtghofmhlmkpkcaaDoor.Wi
open Go.RowKit Go.Sort
attribute [local go_sem ↓] Go.wp_at_zero Go.wp_at_succ

def tsg (a b c x y z : Int) : Int := if a < x then -1 else if x < a then 1 else if b < y then -1 else if y < b then 1 else if c < z then -1 else if z < c then 1 else 0
set_option maxHeartbeats 1000000 in
theorem numbers_any (a b c : Int) (w : World) :
    Calls Tryd.prog 75 #[.agg #[.int .u64 a, .int .u64 b, .int .u64 c]] w fun e w' =>
      e = .returned (.slice (some ⟨w.heap.size + 1, 0, none⟩) 3 3) ∧ w' = (w.alloc (.cells #[.int .u64 a, .int .u64 b, .int .u64 c] 39)).alloc (.cells #[.int .u64 a, .int .u64 b, .int .u64 c] 37) := by
  go_enter Tryd.func75, Tryd.ntmps75
  go_wp2
  go_ret
  exact ⟨rfl, rfl⟩


set_option maxHeartbeats 1000000 in
set_option maxRecDepth 100000 in
theorem refCompare_l0 (a b c x y z : Int) (w : World) (h0 : a < x) :
    Calls Tryd.prog 58 #[.agg #[.int .u64 a, .int .u64 b, .int .u64 c], .agg #[.int .u64 x, .int .u64 y, .int .u64 z]] w fun e w' => e = .returned (.int .i64 (-1)) ∧ Gr w w' := by
  have hN := fun a b c W => numbers_any a b c W
  go_enter Tryd.func58, Tryd.ntmps58
  go_wp2_with (go_at_call 75; refine (hN _ _ _ _).mono ?_; rintro e w1 ⟨rfl, rfl⟩)
  refine wp_loop_rounds 4 ?_
  rw [rounds_succ]; go_wp2
  go_quiet (fail)
  go_wp2
  go_ret
  exact ⟨rfl, (by repeat (first | exact Gr.refl _ | refine Gr.drewN ?_ _ | refine Gr.drew ?_ | refine Gr.alloc ?_ _))⟩

set_option maxHeartbeats 1000000 in
set_option maxRecDepth 100000 in
theorem refCompare_g0 (a b c x y z : Int) (w : World) (h0 : x < a) :
    Calls Tryd.prog 58 #[.agg #[.int .u64 a, .int .u64 b, .int .u64 c], .agg #[.int .u64 x, .int .u64 y, .int .u64 z]] w fun e w' => e = .returned (.int .i64 (1)) ∧ Gr w w' := by
  have g0 : ¬ a < x := by omega
  have hN := fun a b c W => numbers_any a b c W
  go_enter Tryd.func58, Tryd.ntmps58
  go_wp2_with (go_at_call 75; refine (hN _ _ _ _).mono ?_; rintro e w1 ⟨rfl, rfl⟩)
  refine wp_loop_rounds 4 ?_
  rw [rounds_succ]; go_wp2
  go_quiet (fail)
  go_wp2
  go_quiet (fail)
  go_wp2
  go_ret
  exact ⟨rfl, (by repeat (first | exact Gr.refl _ | refine Gr.drewN ?_ _ | refine Gr.drew ?_ | refine Gr.alloc ?_ _))⟩

set_option maxHeartbeats 1000000 in
set_option maxRecDepth 100000 in
theorem refCompare_l1 (a b c x y z : Int) (w : World) (h0 : a = x) (h1 : b < y) :
    Calls Tryd.prog 58 #[.agg #[.int .u64 a, .int .u64 b, .int .u64 c], .agg #[.int .u64 x, .int .u64 y, .int .u64 z]] w fun e w' => e = .returned (.int .i64 (-1)) ∧ Gr w w' := by
  have g0 : ¬ a < x := by omega
  have k0 : ¬ x < a := by omega
  clear h0
  have hN := fun a b c W => numbers_any a b c W
  go_enter Tryd.func58, Tryd.ntmps58
  go_wp2_with (go_at_call 75; refine (hN _ _ _ _).mono ?_; rintro e w1 ⟨rfl, rfl⟩)
  refine wp_loop_rounds 4 ?_
  rw [rounds_succ]; go_wp2
  go_quiet (fail)
  go_wp2
  go_quiet (fail)
  go_wp2
  rw [rounds_succ]; go_wp2
  go_quiet (fail)
  go_wp2
  go_ret
  exact ⟨rfl, (by repeat (first | exact Gr.refl _ | refine Gr.drewN ?_ _ | refine Gr.drew ?_ | refine Gr.alloc ?_ _))⟩

set_option maxHeartbeats 1000000 in
set_option maxRecDepth 100000 in
theorem refCompare_g1 (a b c x y z : Int) (w : World) (h0 : a = x) (h1 : y < b) :
    Calls Tryd.prog 58 #[.agg #[.int .u64 a, .int .u64 b, .int .u64 c], .agg #[.int .u64 x, .int .u64 y, .int .u64 z]] w fun e w' => e = .returned (.int .i64 (1)) ∧ Gr w w' := by
  have g0 : ¬ a < x := by omega
  have k0 : ¬ x < a := by omega
  clear h0
  have g1 : ¬ b < y := by omega
  have hN := fun a b c W => numbers_any a b c W
  go_enter Tryd.func58, Tryd.ntmps58
  go_wp2_with (go_at_call 75; refine (hN _ _ _ _).mono ?_; rintro e w1 ⟨rfl, rfl⟩)
  refine wp_loop_rounds 4 ?_
  rw [rounds_succ]; go_wp2
  go_quiet (fail)
  go_wp2
  go_quiet (fail)
  go_wp2
  rw [rounds_succ]; go_wp2
  go_quiet (fail)
  go_wp2
  go_quiet (fail)
  go_wp2
  go_ret
  exact ⟨rfl, (by repeat (first | exact Gr.refl _ | refine Gr.drewN ?_ _ | refine Gr.drew ?_ | refine Gr.alloc ?_ _))⟩

set_option maxHeartbeats 1000000 in
set_option maxRecDepth 100000 in
theorem refCompare_l2 (a b c x y z : Int) (w : World) (h0 : a = x) (h1 : b = y) (h2 : c < z) :
    Calls Tryd.prog 58 #[.agg #[.int .u64 a, .int .u64 b, .int .u64 c], .agg #[.int .u64 x, .int .u64 y, .int .u64 z]] w fun e w' => e = .returned (.int .i64 (-1)) ∧ Gr w w' := by
  have g0 : ¬ a < x := by omega
  have k0 : ¬ x < a := by omega
  clear h0
  have g1 : ¬ b < y := by omega
  have k1 : ¬ y < b := by omega
  clear h1
  have hN := fun a b c W => numbers_any a b c W
  go_enter Tryd.func58, Tryd.ntmps58
  go_wp2_with (go_at_call 75; refine (hN _ _ _ _).mono ?_; rintro e w1 ⟨rfl, rfl⟩)
  refine wp_loop_rounds 4 ?_
  rw [rounds_succ]; go_wp2
  go_quiet (fail)
  go_wp2
  go_quiet (fail)
  go_wp2
  rw [rounds_succ]; go_wp2
  go_quiet (fail)
  go_wp2
  go_quiet (fail)
  go_wp2
  rw [rounds_succ]; go_wp2
  go_quiet (fail)
  go_wp2
  go_ret
  exact ⟨rfl, (by repeat (first | exact Gr.refl _ | refine Gr.drewN ?_ _ | refine Gr.drew ?_ | refine Gr.alloc ?_ _))⟩

set_option maxHeartbeats 1000000 in
set_option maxRecDepth 100000 in
theorem refCompare_g2 (a b c x y z : Int) (w : World) (h0 : a = x) (h1 : b = y) (h2 : z < c) :
    Calls Tryd.prog 58 #[.agg #[.int .u64 a, .int .u64 b, .int .u64 c], .agg #[.int .u64 x, .int .u64 y, .int .u64 z]] w fun e w' => e = .returned (.int .i64 (1)) ∧ Gr w w' := by
  have g0 : ¬ a < x := by omega
  have k0 : ¬ x < a := by omega
  clear h0
  have g1 : ¬ b < y := by omega
  have k1 : ¬ y < b := by omega
  clear h1
  have g2 : ¬ c < z := by omega
  have hN := fun a b c W => numbers_any a b c W
  go_enter Tryd.func58, Tryd.ntmps58
  go_wp2_with (go_at_call 75; refine (hN _ _ _ _).mono ?_; rintro e w1 ⟨rfl, rfl⟩)
  refine wp_loop_rounds 4 ?_
  rw [rounds_succ]; go_wp2
  go_quiet (fail)
  go_wp2
  go_quiet (fail)
  go_wp2
  rw [rounds_succ]; go_wp2
  go_quiet (fail)
  go_wp2
  go_quiet (fail)
  go_wp2
  rw [rounds_succ]; go_wp2
  go_quiet (fail)
  go_wp2
  go_quiet (fail)
  go_wp2
  go_ret
  exact ⟨rfl, (by repeat (first | exact Gr.refl _ | refine Gr.drewN ?_ _ | refine Gr.drew ?_ | refine Gr.alloc ?_ _))⟩

set_option maxHeartbeats 1000000 in
set_option maxRecDepth 100000 in
theorem refCompare_e (a b c x y z : Int) (w : World) (h0 : a = x) (h1 : b = y) (h2 : c = z) :
    Calls Tryd.prog 58 #[.agg #[.int .u64 a, .int .u64 b, .int .u64 c], .agg #[.int .u64 x, .int .u64 y, .int .u64 z]] w fun e w' => e = .returned (.int .i64 (0)) ∧ Gr w w' := by
  have g0 : ¬ a < x := by omega
  have k0 : ¬ x < a := by omega
  clear h0
  have g1 : ¬ b < y := by omega
  have k1 : ¬ y < b := by omega
  clear h1
  have g2 : ¬ c < z := by omega
  have k2 : ¬ z < c := by omega
  clear h2
  have hN := fun a b c W => numbers_any a b c W
  go_enter Tryd.func58, Tryd.ntmps58
  go_wp2_with (go_at_call 75; refine (hN _ _ _ _).mono ?_; rintro e w1 ⟨rfl, rfl⟩)
  refine wp_loop_rounds 4 ?_
  rw [rounds_succ]; go_wp2
  go_quiet (fail)
  go_wp2
  go_quiet (fail)
  go_wp2
  rw [rounds_succ]; go_wp2
  go_quiet (fail)
  go_wp2
  go_quiet (fail)
  go_wp2
  rw [rounds_succ]; go_wp2
  go_quiet (fail)
  go_wp2
  go_quiet (fail)
  go_wp2
  rw [rounds_succ]; go_wp2
  go_ret
  exact ⟨rfl, (by repeat (first | exact Gr.refl _ | refine Gr.drewN ?_ _ | refine Gr.drew ?_ | refine Gr.alloc ?_ _))⟩

theorem refCompare_any (a b c x y z : Int) (w : World) :
    Calls Tryd.prog 58 #[.agg #[.int .u64 a, .int .u64 b, .int .u64 c], .agg #[.int .u64 x, .int .u64 y, .int .u64 z]] w fun e w' => e = .returned (.int .i64 (tsg a b c x y z)) ∧ Gr w w' := by
  unfold tsg
  by_cases a1 : a < x
  · rw [if_pos a1]; exact refCompare_l0 a b c x y z w a1
  · by_cases a2 : x < a
    · rw [if_neg a1, if_pos a2]; exact refCompare_g0 a b c x y z w a2
    · rw [if_neg a1, if_neg a2]
      by_cases b1 : b < y
      · rw [if_pos b1]; exact refCompare_l1 a b c x y z w (by omega) b1
      · by_cases b2 : y < b
        · rw [if_neg b1, if_pos b2]; exact refCompare_g1 a b c x y z w (by omega) b2
        · rw [if_neg b1, if_neg b2]
          by_cases c1 : c < z
          · rw [if_pos c1]; exact refCompare_l2 a b c x y z w (by omega) (by omega) c1
          · by_cases c2 : z < c
            · rw [if_neg c1, if_pos c2]; exact refCompare_g2 a b c x y z w (by omega) (by omega) c2
            · rw [if_neg c1, if_neg c2]; exact refCompare_e a b c x y z w (by omega) (by omega) (by omega)
set_option maxHeartbeats 2000000 in
/-- The document's 'behind'. -/
theorem rbehind_any (c d : Cx) (w : World) : Calls Tryd.prog 36 #[gv c, gv d] w fun e w' => e = .returned (.bool (decide (lt4 d c))) ∧ Gr w w' := by
  by_cases hp : c.pl = d.pl
  · have hr := fun W => refCompare_any (c.A : Nat) (c.B : Nat) (c.C : Nat) (d.A : Nat) (d.B : Nat) (d.C : Nat) W
    have hd : decide (lt4 d c) = decide (0 < tsg (c.A : Nat) (c.B : Nat) (c.C : Nat) (d.A : Nat) (d.B : Nat) (d.C : Nat)) := decide_eq_decide.2 (by
      unfold lt4 tsg
      (repeat split) <;> omega)
    rw [hd]
    generalize tsg (c.A : Nat) (c.B : Nat) (c.C : Nat) (d.A : Nat) (d.B : Nat) (d.C : Nat) = z at hr ⊢
    clear hd
    go_enter Tryd.func36, Tryd.ntmps36
    go_wp2_with (go_at_call 58; refine (hr _).mono ?_; rintro r w4 ⟨rfl, g4⟩)
    go_ret
    exact ⟨rfl, ((((Gr.refl _).alloc _).alloc _)).trans g4⟩
  · have hd : decide (lt4 d c) = decide (d.pl < c.pl) := decide_eq_decide.2 (by unfold lt4; omega)
    rw [hd]
    clear hd
    go_enter Tryd.func36, Tryd.ntmps36
    go_wp2_with fail
    go_ret
    exact ⟨rfl, ((Gr.refl _).alloc _).alloc _⟩
end Go.Proofs.YtghofmhlmkpkcaaDoor.Wi
