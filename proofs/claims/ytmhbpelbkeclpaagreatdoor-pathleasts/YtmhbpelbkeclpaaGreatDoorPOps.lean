import Derived.Test.YtmhbpelbkeclpaaGreatDoorCompare
import Derived.Test.YtmhbpelbkeclpaaGreatDoorFits
namespace Go.Proofs.YtmhbpelbkeclpaaGreatDoor
open Go.RowKit Go.Sort

theorem run_eqP (a b c x y z : Int) (w : World) : Sem.run Tryz.prog (Op.equalIn 10000 34 (.agg #[.int .u64 a, .int .u64 b, .int .u64 c]) (.agg #[.int .u64 x, .int .u64 y, .int .u64 z])) w = .ok (teq a b c x y z) w := by
  have u3 := Tryz.underlying23
  have a3 := Tryz.isAgg23
  have z3 := Tryz.sizeOf23
  have hS : Tryz.prog.underlying 34 = some (.struct (Tryz.prog.fieldsOf 34)) := by kernel_rfl
  have hp : Tryz.prog.stoodInHeld 34 = false := by kernel_rfl
  rw [show (10000 : Nat) = 9999 + 1 from rfl, run_equalIn_agg w 9999 34 _ _ hS hp]
  simp only [Program.fieldsOf, Tryz.underlying34]
  go_simp
  by_cases h1 : a = x <;> by_cases h2 : b = y <;> by_cases h3 : c = z <;> simp [teq, h1, h2, h3]

/-- No sum is too great. -/
def pok (a b c x y z : Nat) : Bool := decide (a + x < 18446744073709551616) && (decide (b + y < 18446744073709551616) && decide (c + z < 18446744073709551616))
/-- A sum, or 0. -/
def pon (ok : Bool) (s : Nat) : Nat := if ok then s else 0
theorem pok_comm (a b c x y z : Nat) : pok a b c x y z = pok x y z a b c := by
  unfold pok; rw [Nat.add_comm a, Nat.add_comm b, Nat.add_comm c]
theorem wrap_sum (a x : Nat) (h : a + x < 18446744073709551616) : IntKind.u64.wrap ((x : Int) + a) = ((a + x : Nat) : Int) := by
  simp [IntKind.wrap, IntKind.signed, IntKind.bits]; omega
theorem wrap_less (a x : Nat) (ha : a < 18446744073709551616) (hx : x < 18446744073709551616) (h : ¬ a + x < 18446744073709551616) : IntKind.u64.wrap ((x : Int) + a) < x := by
  simp [IntKind.wrap, IntKind.signed, IntKind.bits]; omega

set_option maxHeartbeats 1000000 in
theorem On_any (a b c x y z : Nat) (w : World) (ha : a < 18446744073709551616) (hb : b < 18446744073709551616) (hc : c < 18446744073709551616) (hx : x < 18446744073709551616) (hy : y < 18446744073709551616) (hz : z < 18446744073709551616) :
    Calls Tryz.prog 35 #[.agg #[.int .u64 a, .int .u64 b, .int .u64 c], .agg #[.int .u64 x, .int .u64 y, .int .u64 z]] w fun e w' =>
      e = .returned (.tuple #[.agg #[.int .u64 (pon (pok a b c x y z) (a + x) : Nat), .int .u64 (pon (pok a b c x y z) (b + y) : Nat), .int .u64 (pon (pok a b c x y z) (c + z) : Nat)], .bool (pok a b c x y z)]) ∧ Below w.heap.size w w' := by
  have hA := fun p q r W => Ahead_any x y z p q r W
  cases hp : pok a b c x y z
  · have ht : tle x y z (IntKind.u64.wrap ((x : Int) + a)) (IntKind.u64.wrap ((y : Int) + b)) (IntKind.u64.wrap ((z : Int) + c)) = false := by
      rw [← Bool.not_eq_true, tle]
      simp only [Bool.and_eq_true, decide_eq_true_iff]
      intro ⟨h1, h2, h3⟩
      have e1 : a + x < 18446744073709551616 := Classical.byContradiction fun h => by have := wrap_less a x ha hx h; omega
      have e2 : b + y < 18446744073709551616 := Classical.byContradiction fun h => by have := wrap_less b y hb hy h; omega
      have e3 : c + z < 18446744073709551616 := Classical.byContradiction fun h => by have := wrap_less c z hc hz h; omega
      simp [pok, e1, e2, e3] at hp
    simp only [pon, Bool.false_eq_true, if_false]
    clear ha hb hc hx hy hz hp
    go_enter Tryz.func35, Tryz.ntmps35
    go_wp2_with (go_at_call 22; refine (hA _ _ _ _).mono ?_; rintro e w1 ⟨rfl, hg1⟩; rw [ht]; obtain ⟨hc1, hf1⟩ := hg1.cells; have hz1 : w.heap.size + 2 < w1.heap.size := by { have := hg1.size; simp at this; omega })
    refine bodyPost_ret (v := .tuple #[.agg #[.int .u64 0, .int .u64 0, .int .u64 0], .bool false]) (by simp [results, Tryz.results35, go_sem, *]) rfl ⟨rfl, ?_⟩
    have hB : Below w.heap.size w w1 := ((((((Gr.refl _).alloc _).alloc _).alloc _).alloc _).trans hg1).below
    have k : w.heap.size ≤ w.heap.size + 1 + 1 := by omega
    exact ((hB.setCell (p := ⟨w.heap.size + 1 + 1, 0, none⟩) k _).setCell (p := ⟨w.heap.size + 1 + 1, 1, none⟩) k _).setCell (p := ⟨w.heap.size + 1 + 1, 2, none⟩) k _
  · have e1 : a + x < 18446744073709551616 := by simp [pok] at hp; omega
    have e2 : b + y < 18446744073709551616 := by simp [pok] at hp; omega
    have e3 : c + z < 18446744073709551616 := by simp [pok] at hp; omega
    have ht : tle x y z (IntKind.u64.wrap ((x : Int) + a)) (IntKind.u64.wrap ((y : Int) + b)) (IntKind.u64.wrap ((z : Int) + c)) = true := by
      rw [wrap_sum a x e1, wrap_sum b y e2, wrap_sum c z e3]
      simp [tle]; omega
    have ht1 : tle x y z ((a + x : Nat) : Int) ((b + y : Nat) : Int) ((c + z : Nat) : Int) = true := by simp [tle]; omega
    have ht2 : tle x y z ((a : Int) + x) ((b : Int) + y) ((c : Int) + z) = true := by simp [tle]; omega
    have s1 := wrap_sum a x e1
    have s2 := wrap_sum b y e2
    have s3 := wrap_sum c z e3
    simp only [pon, if_true]
    clear ha hb hc hx hy hz hp e1 e2 e3
    go_enter Tryz.func35, Tryz.ntmps35
    go_wp2_with (go_at_call 22; refine (hA _ _ _ _).mono ?_; rintro e w1 ⟨rfl, hg1⟩; first | rw [ht] | rw [ht1] | rw [ht2]; obtain ⟨hc1, hf1⟩ := hg1.cells; have hz1 : w.heap.size + 2 < w1.heap.size := by { have := hg1.size; simp at this; omega })
    refine bodyPost_ret (v := .tuple #[.agg #[.int .u64 (a + x : Nat), .int .u64 (b + y : Nat), .int .u64 (c + z : Nat)], .bool true]) (by simp [results, Tryz.results35, go_sem, *]) rfl ⟨rfl, ?_⟩
    have hB : Below w.heap.size w w1 := ((((((Gr.refl _).alloc _).alloc _).alloc _).alloc _).trans hg1).below
    have k : w.heap.size ≤ w.heap.size + 1 + 1 := by omega
    exact ((hB.setCell (p := ⟨w.heap.size + 1 + 1, 0, none⟩) k _).setCell (p := ⟨w.heap.size + 1 + 1, 1, none⟩) k _).setCell (p := ⟨w.heap.size + 1 + 1, 2, none⟩) k _

set_option maxHeartbeats 1000000 in
theorem Then_any (a b c x y z : Nat) (w : World) (ha : a < 18446744073709551616) (hb : b < 18446744073709551616) (hc : c < 18446744073709551616) (hx : x < 18446744073709551616) (hy : y < 18446744073709551616) (hz : z < 18446744073709551616) :
    Calls Tryz.prog 34 #[.agg #[.int .u64 a, .int .u64 b, .int .u64 c], .agg #[.int .u64 x, .int .u64 y, .int .u64 z]] w fun e w' =>
      e = .returned (.tuple #[.agg #[.int .u64 (pon (pok a b c x y z) (a + x) : Nat), .int .u64 (pon (pok a b c x y z) (b + y) : Nat), .int .u64 (pon (pok a b c x y z) (c + z) : Nat)], .bool (pok a b c x y z)]) ∧ Below w.heap.size w w' := by
  have hO := fun W => On_any a b c x y z W ha hb hc hx hy hz
  generalize pon (pok a b c x y z) (a + x) = s1 at *
  generalize pon (pok a b c x y z) (b + y) = s2 at *
  generalize pon (pok a b c x y z) (c + z) = s3 at *
  generalize pok a b c x y z = ok at *
  clear ha hb hc hx hy hz
  go_enter Tryz.func34, Tryz.ntmps34
  go_wp2_with (go_at_call 35; refine (hO _).mono ?_; rintro e w1 ⟨rfl, hb1⟩; obtain ⟨hc1, hf1⟩ := below_cells hb1; have hz1 : w.heap.size + 2 < w1.heap.size := by { have := hb1.size; simp at this; omega }; have hz2 : w.heap.size + 1 + 1 < w1.heap.size := by omega)
  refine bodyPost_ret (v := .tuple #[.agg #[.int .u64 s1, .int .u64 s2, .int .u64 s3], .bool ok]) (by simp [results, Tryz.results34, go_sem, *]) rfl ⟨rfl, ?_⟩
  have hB : Below w.heap.size w w1 := ((((Gr.refl _).alloc _).alloc _).alloc _).below.trans (hb1.mono (by simp; omega))
  have k : w.heap.size ≤ w.heap.size + 1 + 1 := by omega
  have hq := ((hB.setCell (p := ⟨w.heap.size + 1 + 1, 0, none⟩) k (.int .u64 s1)).setCell (p := ⟨w.heap.size + 1 + 1, 1, none⟩) k (.int .u64 s2)).setCell (p := ⟨w.heap.size + 1 + 1, 2, none⟩) k (.int .u64 s3)
  exact hq.alloc hq.size _

set_option maxHeartbeats 1000000 in
theorem pAhead_any (a b c x y z : Int) (w : World) :
    Calls Tryz.prog 39 #[.agg #[.int .u64 a, .int .u64 b, .int .u64 c], .agg #[.int .u64 x, .int .u64 y, .int .u64 z]] w fun e w' => e = .returned (.bool (tle a b c x y z)) ∧ Gr w w' := by
  have hA := fun W => Ahead_any a b c x y z W
  generalize tle a b c x y z = p at *
  go_enter Tryz.func39, Tryz.ntmps39
  go_wp2_with (go_at_call 22; refine (hA _).mono ?_; rintro e w1 ⟨rfl, hg1⟩)
  go_ret
  exact ⟨rfl, (((Gr.refl _).alloc _).alloc _).trans hg1⟩

set_option maxHeartbeats 1000000 in
theorem pCompare_any (a b c x y z : Int) (w : World) :
    Calls Tryz.prog 40 #[.agg #[.int .u64 a, .int .u64 b, .int .u64 c], .agg #[.int .u64 x, .int .u64 y, .int .u64 z]] w fun e w' => e = .returned (.int .i64 (tcmp a b c x y z)) ∧ Gr w w' := by
  have hA := fun W => Compare_any a b c x y z W
  generalize tcmp a b c x y z = p at *
  go_enter Tryz.func40, Tryz.ntmps40
  go_wp2_with (go_at_call 29; refine (hA _).mono ?_; rintro e w1 ⟨rfl, hg1⟩)
  go_ret
  exact ⟨rfl, (((Gr.refl _).alloc _).alloc _).trans hg1⟩

set_option maxHeartbeats 1000000 in
theorem pFits_any (a b c n : Int) (w : World) :
    Calls Tryz.prog 41 #[.agg #[.int .u64 a, .int .u64 b, .int .u64 c], .int .i64 n] w fun e w' => e = .returned (.int .i64 (tfits a b c n)) ∧ Gr w w' := by
  have hA := fun W => Fits_any a b c n W
  generalize tfits a b c n = p at *
  go_enter Tryz.func41, Tryz.ntmps41
  go_wp2_with (go_at_call 23; refine (hA _).mono ?_; rintro e w1 ⟨rfl, hg1⟩)
  go_ret
  exact ⟨rfl, ((Gr.refl _).alloc _).trans hg1⟩

set_option maxHeartbeats 1000000 in
theorem Advances_any (a b c : Int) (w : World) :
    Calls Tryz.prog 38 #[.agg #[.int .u64 a, .int .u64 b, .int .u64 c]] w fun e w' => e = .returned (.bool (!teq a b c 0 0 0)) ∧ Gr w w' := by
  have heq := fun a b c x y z W => run_eqP a b c x y z W
  go_enter Tryz.func38, Tryz.ntmps38
  go_wp2
  go_ret
  exact ⟨rfl, (Gr.refl _).alloc _⟩
end Go.Proofs.YtmhbpelbkeclpaaGreatDoor
