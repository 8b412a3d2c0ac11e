import Derived.Test.YtpnjpdnjapfjlaaCompare
import Derived.Test.YtpnjpdnjapfjlaaFits
namespace Go.Proofs.Ytpnjpdnjapfjlaa
open Go.RowKit Go.Sort

theorem run_eqP (a b c x y z : Int) (w : World) : Sem.run Try.prog (Op.equalIn 10000 25 (.agg #[.int .u64 a, .int .u64 b, .int .u64 c]) (.agg #[.int .u64 x, .int .u64 y, .int .u64 z])) w = .ok (teq a b c x y z) w := by
  have u3 := Try.underlying23
  have a3 := Try.isAgg23
  have z3 := Try.sizeOf23
  have hS : Try.prog.underlying 25 = some (.struct (Try.prog.fieldsOf 25)) := by kernel_rfl
  have hp : Try.prog.stoodInHeld 25 = false := by kernel_rfl
  rw [show (10000 : Nat) = 9999 + 1 from rfl, run_equalIn_agg w 9999 25 _ _ hS hp]
  simp only [Program.fieldsOf, Try.underlying25]
  go_simp
  by_cases h1 : a = x <;> by_cases h2 : b = y <;> by_cases h3 : c = z <;> simp [teq, h1, h2, h3]

/-- No sum is too great. -/
def pok (a b c x y z : Nat) : Bool := decide (a + x < 18446744073709551616) && (decide (b + y < 18446744073709551616) && decide (c + z < 18446744073709551616))
/-- A sum, or 0. -/
def pon (ok : Bool) (s : Nat) : Nat := if ok then s else 0
theorem pok_comm (a b c x y z : Nat) : pok a b c x y z = pok x y z a b c := by
  unfold pok; rw [Nat.add_comm a, Nat.add_comm b, Nat.add_comm c]
theorem wrap_sum (a x : Nat) (h : a + x < 18446744073709551616) : IntKind.u64.wrap ((x : Int) + a) = ((a + x : Nat) : Int) := by
  simp [IntKind.wrap, IntKind.signed, IntKind.bits]; omega
theorem wrap_less (a x : Nat) (ha : a < 18446744073709551616) (hx : x < 18446744073709551616) (h : ¬ a + x < 18446744073709551616) : IntKind.u64.wrap ((x : Int) + a) < x := by
  simp [IntKind.wrap, IntKind.signed, IntKind.bits]; omega

set_option maxHeartbeats 1000000 in
theorem On_any (a b c x y z : Nat) (w : World) (ha : a < 18446744073709551616) (hb : b < 18446744073709551616) (hc : c < 18446744073709551616) (hx : x < 18446744073709551616) (hy : y < 18446744073709551616) (hz : z < 18446744073709551616) :
    Calls Try.prog 48 #[.agg #[.int .u64 a, .int .u64 b, .int .u64 c], .agg #[.int .u64 x, .int .u64 y, .int .u64 z]] w fun e w' =>
      e = .returned (.tuple #[.agg #[.int .u64 (pon (pok a b c x y z) (a + x) : Nat), .int .u64 (pon (pok a b c x y z) (b + y) : Nat), .int .u64 (pon (pok a b c x y z) (c + z) : Nat)], .bool (pok a b c x y z)]) ∧ Below w.heap.size w w' := by
  have hA := fun p q r W => Ahead_any x y z p q r W
  cases hp : pok a b c x y z
  · have ht : tle x y z (IntKind.u64.wrap ((x : Int) + a)) (IntKind.u64.wrap ((y : Int) + b)) (IntKind.u64.wrap ((z : Int) + c)) = false := by
      rw [← Bool.not_eq_true, tle]
      simp only [Bool.and_eq_true, decide_eq_true_iff]
      intro ⟨h1, h2, h3⟩
      have e1 : a + x < 18446744073709551616 := Classical.byContradiction fun h => by have := wrap_less a x ha hx h; omega
      have e2 : b + y < 18446744073709551616 := Classical.byContradiction fun h => by have := wrap_less b y hb hy h; omega
      have e3 : c + z < 18446744073709551616 := Classical.byContradiction fun h => by have := wrap_less c z hc hz h; omega
      simp [pok, e1, e2, e3] at hp
    simp only [pon, Bool.false_eq_true, if_false]
    clear ha hb hc hx hy hz hp
    go_enter Try.func48, Try.ntmps48
    go_wp2_with (go_at_call 49; refine (hA _ _ _ _).mono ?_; rintro e w1 ⟨rfl, hg1⟩; rw [ht]; obtain ⟨hc1, hf1⟩ := hg1.cells; have hz1 : w.heap.size + 2 < w1.heap.size := by { have := hg1.size; simp at this; omega })
    refine bodyPost_ret (v := .tuple #[.agg #[.int .u64 0, .int .u64 0, .int .u64 0], .bool false]) (by simp [results, Try.results48, go_sem, *]) rfl ⟨rfl, ?_⟩
    have hB : Below w.heap.size w w1 := ((((((Gr.refl _).alloc _).alloc _).alloc _).alloc _).trans hg1).below
    have k : w.heap.size ≤ w.heap.size + 1 + 1 := by omega
    exact ((hB.setCell (p := ⟨w.heap.size + 1 + 1, 0, none⟩) k _).setCell (p := ⟨w.heap.size + 1 + 1, 1, none⟩) k _).setCell (p := ⟨w.heap.size + 1 + 1, 2, none⟩) k _
  · have e1 : a + x < 18446744073709551616 := by simp [pok] at hp; omega
    have e2 : b + y < 18446744073709551616 := by simp [pok] at hp; omega
    have e3 : c + z < 18446744073709551616 := by simp [pok] at hp; omega
    have ht : tle x y z (IntKind.u64.wrap ((x : Int) + a)) (IntKind.u64.wrap ((y : Int) + b)) (IntKind.u64.wrap ((z : Int) + c)) = true := by
      rw [wrap_sum a x e1, wrap_sum b y e2, wrap_sum c z e3]
      simp [tle]; omega
    have ht1 : tle x y z ((a + x : Nat) : Int) ((b + y : Nat) : Int) ((c + z : Nat) : Int) = true := by simp [tle]; omega
    have ht2 : tle x y z ((a : Int) + x) ((b : Int) + y) ((c : Int) + z) = true := by simp [tle]; omega
    have s1 := wrap_sum a x e1
    have s2 := wrap_sum b y e2
    have s3 := wrap_sum c z e3
    simp only [pon, if_true]
    clear ha hb hc hx hy hz hp e1 e2 e3
    go_enter Try.func48, Try.ntmps48
    go_wp2_with (go_at_call 49; refine (hA _ _ _ _).mono ?_; rintro e w1 ⟨rfl, hg1⟩; first | rw [ht] | rw [ht1] | rw [ht2]; obtain ⟨hc1, hf1⟩ := hg1.cells; have hz1 : w.heap.size + 2 < w1.heap.size := by { have := hg1.size; simp at this; omega })
    refine bodyPost_ret (v := .tuple #[.agg #[.int .u64 (a + x : Nat), .int .u64 (b + y : Nat), .int .u64 (c + z : Nat)], .bool true]) (by simp [results, Try.results48, go_sem, *]) rfl ⟨rfl, ?_⟩
    have hB : Below w.heap.size w w1 := ((((((Gr.refl _).alloc _).alloc _).alloc _).alloc _).trans hg1).below
    have k : w.heap.size ≤ w.heap.size + 1 + 1 := by omega
    exact ((hB.setCell (p := ⟨w.heap.size + 1 + 1, 0, none⟩) k _).setCell (p := ⟨w.heap.size + 1 + 1, 1, none⟩) k _).setCell (p := ⟨w.heap.size + 1 + 1, 2, none⟩) k _

end Go.Proofs.Ytpnjpdnjapfjlaa
