import Derived.Test.YtinggeflllgdmaaRows
import Derived.Test.YtinggeflllgdmaaGr
import Derived.Test.YtinggeflllgdmaaEqs
import Derived.WalkKit
import Derived.WalkSpells
import Derived.Deep.RegionHeld3
import Derived.Deep.DrawnRows
import Derived.Deep.QuietTactic
import Derived.BigQuiet
import Derived.Sort.Grow
namespace Go.Proofs.Ytinggeflllgdmaa
open Go.RowKit Go.Sort
attribute [local go_sem ↓] Go.wp_at_zero Go.wp_at_succ

/-- At or ahead, number by number. -/
def tle (a b c x y z : Int) : Bool := decide (a ≤ x) && (decide (b ≤ y) && decide (c ≤ z))
/-- cmp.Compare on two numbers. -/
def c64 (x y : Int) : Int := if x < y then -1 else if y < x then 1 else 0
/-- The first that is not 0. -/
def or3 (p q r : Int) : Int := if p = 0 then (if q = 0 then r else q) else p
/-- The order of telling. -/
def tcmp (a b c x y z : Int) : Int := or3 (c64 a x) (c64 b y) (c64 c z)

theorem ret_int {k : IntKind} {a b : Int} (h : a = b) : Ending.returned (.int k a) = .returned (.int k b) := by rw [h]
theorem ret_bool {a b : Bool} (h : a = b) : Ending.returned (.bool a) = .returned (.bool b) := by rw [h]

set_option maxHeartbeats 400000 in
theorem leq_any (x y : Int) (w : World) :
    Calls Try.prog 47 #[.int .u64 x, .int .u64 y] w fun e w' => e = .returned (.bool (decide (x ≤ y))) ∧ w' = w := by
  go_enter Try.func47, Try.ntmps47
  go_wp2
  go_ret
  exact ⟨rfl, rfl⟩

set_option maxHeartbeats 1000000 in
theorem overB_any (a b c x y z : Int) (w : World) :
    Calls Try.prog 46 #[.agg #[.int .u64 a, .int .u64 b, .int .u64 c], .agg #[.int .u64 x, .int .u64 y, .int .u64 z], .func (.func 47) #[] #[]] w fun e w' =>
      e = .returned (.agg #[.bool (decide (a ≤ x)), .bool (decide (b ≤ y)), .bool (decide (c ≤ z))]) ∧ Gr w w' := by
  go_enter Try.func46, Try.ntmps46
  go_wp2
  go_region_held3 (fun w' => w'.cell? ⟨w.heap.size, 0, none⟩ = some (.int .u64 a) ∧ w'.cell? ⟨w.heap.size, 1, none⟩ = some (.int .u64 b) ∧ w'.cell? ⟨w.heap.size, 2, none⟩ = some (.int .u64 c) ∧ w'.cell? ⟨w.heap.size + 1, 0, none⟩ = some (.int .u64 x) ∧ w'.cell? ⟨w.heap.size + 1, 1, none⟩ = some (.int .u64 y) ∧ w'.cell? ⟨w.heap.size + 1, 2, none⟩ = some (.int .u64 z)) (go_keep)
    (first | (go_at_call 47; refine (leq_any _ _ _).mono ?_; rintro e w' ⟨rfl, rfl⟩))
  go_wp2
  exact bodyPost_ret (v := .agg #[.bool (decide (a ≤ x)), .bool (decide (b ≤ y)), .bool (decide (c ≤ z))]) (by simp [results, Try.results46, go_sem]) rfl ⟨rfl, ((((Gr.refl _).alloc _).alloc _).alloc _).drew⟩

set_option maxHeartbeats 1000000 in
set_option maxRecDepth 100000 in
theorem Ahead_any (a b c x y z : Int) (w : World) :
    Calls Try.prog 45 #[.agg #[.int .u64 a, .int .u64 b, .int .u64 c], .agg #[.int .u64 x, .int .u64 y, .int .u64 z]] w fun e w' =>
      e = .returned (.bool (tle a b c x y z)) ∧ Gr w w' := by
  unfold tle
  have H := fun W => overB_any a b c x y z W
  have heq := fun p q r p' q' r' W => run_eqB3 p q r p' q' r' W
  generalize decide (a ≤ x) = p1 at *
  generalize decide (b ≤ y) = p2 at *
  generalize decide (c ≤ z) = p3 at *
  go_enter Try.func45, Try.ntmps45
  go_wp2_with (go_at_call 46; refine (H _).mono ?_; rintro e w1 ⟨rfl, hg⟩)
  go_ret
  exact ⟨rfl, (((Gr.refl _).alloc _).alloc _ |>.trans hg).alloc _⟩

end Go.Proofs.Ytinggeflllgdmaa
