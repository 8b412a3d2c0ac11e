import Derived.Test.YtkopmkmfigenlaaVRd3
import Derived.Test.YtkopmkmfigenlaaDGraph
import Derived.Defers
import Derived.Recover
namespace Go.Proofs.Ytkopmkmfigenlaa.Df
open Go.RowKit Go.Sort Wi
attribute [local go_sem ↓] Go.wp_at_zero Go.wp_at_succ

/-- What is given up for. -/
abbrev fv (e t : Nat) : Value := .iface 54 (.agg #[.int .i64 (e : Nat), .int .i64 (t : Nat)])
abbrev flaw (e t : Nat) : List PanicEntry := [{ v := fv e t, recovered := false }]
theorem giveup_any (e t : Nat) (w : World) : Calls Try.prog 59 #[.int .i64 (e : Nat), .int .i64 (t : Nat)] w fun r w' => r = .panicked (flaw e t) ∧ w' = w := by
  go_enter Try.func59, Try.ntmps59
  go_wp2
  exact ⟨rfl, rfl, rfl⟩
theorem atmost_ok (a b : Nat) (h : a ≤ b) (w : World) : Calls Try.prog 38 #[.int .i64 (a : Nat), .int .i64 (b : Nat)] w fun r w' => r = .returned (.tuple #[]) ∧ w' = w := by
  have hz : ¬ (b : Int) < (a : Int) := by omega
  go_enter Try.func38, Try.ntmps38
  go_wp2
  go_end0
  exact ⟨rfl, rfl⟩
theorem atmost_bad (a b : Nat) (h : b < a) (w : World) : Calls Try.prog 38 #[.int .i64 (a : Nat), .int .i64 (b : Nat)] w fun r w' => r = .panicked (flaw 2 0) ∧ w' = w := by
  have hz : (b : Int) < (a : Int) := by omega
  have hg := giveup_any 2 0 w
  go_enter Try.func38, Try.ntmps38
  go_wp2_with (go_at_call 59; refine hg.mono ?_; rintro r w4 ⟨rfl, rfl⟩)
  exact ⟨rfl, rfl, rfl⟩
end Go.Proofs.Ytkopmkmfigenlaa.Df
