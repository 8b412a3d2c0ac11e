import Derived.Test.YtpnjpdnjapfjlaaCoPass
import Derived.Deep.RegionWith
import Derived.Deep.QuietTactic
import Derived.BigQuiet
namespace Go.Proofs.Ytpnjpdnjapfjlaa.Cd
open Go.RowKit Go.Sort
attribute [local go_sem ↓] Go.wp_at_zero Go.wp_at_succ

theorem run_eqR (x y : Int) (w : World) : Sem.run Try.prog (Op.equalIn 10000 31 (.agg #[.int .u64 x, .int .u64 y]) (.agg #[.int .u64 x, .int .u64 y])) w = .ok true w := by
  have u3 := Try.underlying23
  have a3 := Try.isAgg23
  have z3 := Try.sizeOf23
  have hS : Try.prog.underlying 31 = some (.struct (Try.prog.fieldsOf 31)) := by kernel_rfl
  have hp : Try.prog.stoodInHeld 31 = false := by kernel_rfl
  rw [show (10000 : Nat) = 9999 + 1 from rfl, run_equalIn_agg w 9999 31 _ _ hS hp]
  simp only [Program.fieldsOf, Try.underlying31]
  go_simp
theorem run_eqO (x y : Int) (w : World) : Sem.run Try.prog (Op.equalIn 10000 46 (.agg #[.int .i64 x, .int .u64 y]) (.agg #[.int .i64 x, .int .u64 y])) w = .ok true w := by
  have u3 := Try.underlying23
  have a3 := Try.isAgg23
  have z3 := Try.sizeOf23
  have u4 := Try.underlying3
  have a4 := Try.isAgg3
  have z4 := Try.sizeOf3
  have hS : Try.prog.underlying 46 = some (.struct (Try.prog.fieldsOf 46)) := by kernel_rfl
  have hp : Try.prog.stoodInHeld 46 = false := by kernel_rfl
  rw [show (10000 : Nat) = 9999 + 1 from rfl, run_equalIn_agg w 9999 46 _ _ hS hp]
  simp only [Program.fieldsOf, Try.underlying46]
  go_simp
theorem ls_new1 (w : World) (k a : Int) : Ls EO (w.alloc (.cells #[.int .i64 k, .int .u64 a] 46)) (.slice (some ⟨w.heap.size, 0, none⟩) 1 1) [⟨k, a⟩] := by
  have h := heap_new' w (.cells #[.int .i64 k, .int .u64 a] 46)
  refine Or.inr ⟨_, 0, 1, rfl, (Array.getElem?_eq_some_iff.1 h).1, fun j u hj => ?_⟩
  simp only [World.cell?, h]
  have hj : ([.int .i64 k, .int .u64 a] : List Value)[j]? = some u := hj
  simpa using hj
theorem ls_new2 (w : World) (k a l b : Int) : Ls EO (w.alloc (.cells #[.int .i64 k, .int .u64 a, .int .i64 l, .int .u64 b] 46)) (.slice (some ⟨w.heap.size, 0, none⟩) 2 2) [⟨k, a⟩, ⟨l, b⟩] := by
  have h := heap_new' w (.cells #[.int .i64 k, .int .u64 a, .int .i64 l, .int .u64 b] 46)
  refine Or.inr ⟨_, 0, 2, rfl, (Array.getElem?_eq_some_iff.1 h).1, fun j u hj => ?_⟩
  simp only [World.cell?, h]
  have hj : ([.int .i64 k, .int .u64 a, .int .i64 l, .int .u64 b] : List Value)[j]? = some u := hj
  simpa using hj
end Go.Proofs.Ytpnjpdnjapfjlaa.Cd
