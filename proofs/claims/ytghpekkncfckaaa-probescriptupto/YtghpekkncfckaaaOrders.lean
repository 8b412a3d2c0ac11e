import Derived.Test.YtghpekkncfckaaaRows
import Derived.Test.YtghpekkncfckaaaGr
import Derived.Test.YtghpekkncfckaaaEqs
import Derived.WalkKit
import Derived.WalkSpells
import Derived.Deep.RegionHeld3
import Derived.Deep.DrawnRows
import Derived.Deep.QuietTactic
import Derived.BigQuiet
import Derived.Sort.Grow
namespace Go.Proofs.Ytghpekkncfckaaa
open Go.RowKit Go.Sort
attribute [local go_sem ↓] Go.wp_at_zero Go.wp_at_succ

/-- At or ahead, number by number. -/
def tle (a b c x y z : Int) : Bool := decide (a ≤ x) && (decide (b ≤ y) && decide (c ≤ z))
/-- cmp.Compare on two numbers. -/
def c64 (x y : Int) : Int := if x < y then -1 else if y < x then 1 else 0
/-- The first that is not 0. -/
def or3 (p q r : Int) : Int := if p = 0 then (if q = 0 then r else q) else p
/-- The order of telling. -/
def tcmp (a b c x y z : Int) : Int := or3 (c64 a x) (c64 b y) (c64 c z)

theorem ret_int {k : IntKind} {a b : Int} (h : a = b) : Ending.returned (.int k a) = .returned (.int k b) := by rw [h]
theorem ret_bool {a b : Bool} (h : a = b) : Ending.returned (.bool a) = .returned (.bool b) := by rw [h]

set_option maxHeartbeats 400000 in
theorem leq_any (x y : Int) (w : World) :
    Calls Try.prog 44 #[.int .u64 x, .int .u64 y] w fun e w' => e = .returned (.bool (decide (x ≤ y))) ∧ w' = w := by
  go_enter Try.func44, Try.ntmps44
  go_wp2
  go_ret
  exact ⟨rfl, rfl⟩

set_option maxHeartbeats 1000000 in
theorem overB_any (a b c x y z : Int) (w : World) :
    Calls Try.prog 43 #[.agg #[.int .u64 a, .int .u64 b, .int .u64 c], .agg #[.int .u64 x, .int .u64 y, .int .u64 z], .func (.func 44) #[] #[]] w fun e w' =>
      e = .returned (.agg #[.bool (decide (a ≤ x)), .bool (decide (b ≤ y)), .bool (decide (c ≤ z))]) ∧ Gr w w' := by
  go_enter Try.func43, Try.ntmps43
  go_wp2
  go_region_held3 (fun w' => w'.cell? ⟨w.heap.size, 0, none⟩ = some (.int .u64 a) ∧ w'.cell? ⟨w.heap.size, 1, none⟩ = some (.int .u64 b) ∧ w'.cell? ⟨w.heap.size, 2, none⟩ = some (.int .u64 c) ∧ w'.cell? ⟨w.heap.size + 1, 0, none⟩ = some (.int .u64 x) ∧ w'.cell? ⟨w.heap.size + 1, 1, none⟩ = some (.int .u64 y) ∧ w'.cell? ⟨w.heap.size + 1, 2, none⟩ = some (.int .u64 z)) (go_keep)
    (first | (go_at_call 44; refine (leq_any _ _ _).mono ?_; rintro e w' ⟨rfl, rfl⟩))
  go_wp2
  exact bodyPost_ret (v := .agg #[.bool (decide (a ≤ x)), .bool (decide (b ≤ y)), .bool (decide (c ≤ z))]) (by simp [results, Try.results43, go_sem]) rfl ⟨rfl, ((((Gr.refl _).alloc _).alloc _).alloc _).drew⟩

set_option maxHeartbeats 1000000 in
set_option maxRecDepth 100000 in
theorem Ahead_any (a b c x y z : Int) (w : World) :
    Calls Try.prog 34 #[.agg #[.int .u64 a, .int .u64 b, .int .u64 c], .agg #[.int .u64 x, .int .u64 y, .int .u64 z]] w fun e w' =>
      e = .returned (.bool (tle a b c x y z)) ∧ Gr w w' := by
  unfold tle
  have H := fun W => overB_any a b c x y z W
  have heq := fun p q r p' q' r' W => run_eqB3 p q r p' q' r' W
  generalize decide (a ≤ x) = p1 at *
  generalize decide (b ≤ y) = p2 at *
  generalize decide (c ≤ z) = p3 at *
  go_enter Try.func34, Try.ntmps34
  go_wp2_with (go_at_call 43; refine (H _).mono ?_; rintro e w1 ⟨rfl, hg⟩)
  go_ret
  exact ⟨rfl, (((Gr.refl _).alloc _).alloc _ |>.trans hg).alloc _⟩

set_option maxHeartbeats 400000 in
theorem isNaN_any (x : Int) (w : World) :
    Calls Try.prog 65 #[.int .u64 x] w fun e w' => e = .returned (.bool false) ∧ w' = w := by
  go_enter Try.func65, Try.ntmps65
  go_wp2
  go_ret
  exact ⟨by simp, rfl⟩

set_option maxHeartbeats 1000000 in
theorem cmp64_any (x y : Int) (w : World) :
    Calls Try.prog 52 #[.int .u64 x, .int .u64 y] w fun e w' => e = .returned (.int .i64 (c64 x y)) ∧ w' = w := by
  have H := fun v W => isNaN_any v W
  go_enter Try.func52, Try.ntmps52
  go_wp2_with (go_at_call 65; refine (H _ _).mono ?_; rintro e w1 ⟨rfl, rfl⟩)
  all_goals go_ret
  all_goals refine ⟨?_, rfl⟩
  all_goals refine ret_int ?_
  all_goals unfold c64
  all_goals (repeat split) <;> omega

end Go.Proofs.Ytghpekkncfckaaa
