import Derived.Test.YtdnnfgabdkkdjaaGreatGFld
namespace Go.Proofs.YtdnnfgabdkkdjaaGreat.Df
open Go.RowKit Go.Sort
attribute [local go_sem ↓] Go.wp_at_zero Go.wp_at_succ
def teq (a b c x y z : Int) : Bool := (a == x) && ((b == y) && (c == z))
theorem teq_pth (p q : Pth) : teq (p.1 : Nat) (p.2.1 : Nat) (p.2.2 : Nat) (q.1 : Nat) (q.2.1 : Nat) (q.2.2 : Nat) = decide (p = q) := by
 rw [Bool.eq_iff_iff]
 obtain ⟨a, b, c⟩ := p
 obtain ⟨x, y, z⟩ := q
 simp only [teq, Bool.and_eq_true, beq_iff_eq, decide_eq_true_eq, Prod.mk.injEq]
 omega
theorem run_eqP (d : Nat) (a b c x y z : Int) (w : World) : Sem.run Tryz.prog (Op.equalIn (d + 2) 39 (.agg #[.int .u64 a, .int .u64 b, .int .u64 c]) (.agg #[.int .u64 x, .int .u64 y, .int .u64 z])) w = .ok (teq a b c x y z) w := by
 have u3 := Tryz.underlying37
 have a3 := Tryz.isAgg37
 have z3 := Tryz.sizeOf37
 have hS : Tryz.prog.underlying 39 = some (.struct (Tryz.prog.fieldsOf 39)) := by kernel_rfl
 have hp : Tryz.prog.stoodInHeld 39 = false := by kernel_rfl
 rw [show (d + 2 : Nat) = (d + 1) + 1 from rfl, run_equalIn_agg w (d + 1) 39 _ _ hS hp]
 simp only [Program.fieldsOf, Tryz.underlying39]
 go_simp
 by_cases h1 : a = x <;> by_cases h2 : b = y <;> by_cases h3 : c = z <;> simp [teq, h1, h2, h3]
theorem run_eqC (s t : Con) (w : World) : Sem.run Tryz.prog (Op.equalIn 10000 92 (.agg #[.int .i64 s.inn, .int .i64 s.out, .int .u64 (s.via.1 : Nat), .int .u64 (s.via.2.1 : Nat), .int .u64 (s.via.2.2 : Nat)]) (.agg #[.int .i64 t.inn, .int .i64 t.out, .int .u64 (t.via.1 : Nat), .int .u64 (t.via.2.1 : Nat), .int .u64 (t.via.2.2 : Nat)])) w = .ok (decide (s = t)) w := by
 have u4 := Tryz.underlying3
 have a4 := Tryz.isAgg3
 have z4 := Tryz.sizeOf3
 have a5 := Tryz.isAgg39
 have z5 := Tryz.sizeOf39
 have hP := run_eqP 9997
 have hS : Tryz.prog.underlying 92 = some (.struct (Tryz.prog.fieldsOf 92)) := by kernel_rfl
 have hp : Tryz.prog.stoodInHeld 92 = false := by kernel_rfl
 have hd : decide (s = t) = (s.inn == t.inn && (s.out == t.out && decide (s.via = t.via))) := by
  obtain ⟨a, b, c⟩ := s
  obtain ⟨x, y, z⟩ := t
  rw [Bool.eq_iff_iff]
  simp only [Con.mk.injEq, decide_eq_true_eq, Bool.and_eq_true, beq_iff_eq]
 rw [hd, ← teq_pth]
 rw [show (10000 : Nat) = 9999 + 1 from rfl, run_equalIn_agg w 9999 92 _ _ hS hp]
 simp only [Program.fieldsOf, Tryz.underlying92]
 clear hd
 go_simp
 by_cases h1 : s.inn = t.inn <;> by_cases h2 : s.out = t.out <;> cases teq (s.via.1 : Nat) (s.via.2.1 : Nat) (s.via.2.2 : Nat) (t.via.1 : Nat) (t.via.2.1 : Nat) (t.via.2.2 : Nat) <;> simp [h1, h2]
theorem run_eqD (s t : Edg) (w : World) : Sem.run Tryz.prog (Op.equalIn 10000 94 (.agg #[.int .i64 s.src, .int .i64 s.out, .int .i64 s.dst, .int .i64 s.inn, .bool s.keyed]) (.agg #[.int .i64 t.src, .int .i64 t.out, .int .i64 t.dst, .int .i64 t.inn, .bool t.keyed])) w = .ok (decide (s = t)) w := by
 have u4 := Tryz.underlying3
 have a4 := Tryz.isAgg3
 have z4 := Tryz.sizeOf3
 have u5 := Tryz.underlying4
 have a5 := Tryz.isAgg4
 have z5 := Tryz.sizeOf4
 have hS : Tryz.prog.underlying 94 = some (.struct (Tryz.prog.fieldsOf 94)) := by kernel_rfl
 have hp : Tryz.prog.stoodInHeld 94 = false := by kernel_rfl
 have hd : decide (s = t) = (s.src == t.src && (s.out == t.out && (s.dst == t.dst && (s.inn == t.inn && (s.keyed == t.keyed))))) := by
  obtain ⟨a, b, c, d, e⟩ := s
  obtain ⟨x, y, z, u, v⟩ := t
  rw [Bool.eq_iff_iff]
  simp only [Edg.mk.injEq, decide_eq_true_eq, Bool.and_eq_true, beq_iff_eq]
 rw [hd]
 rw [show (10000 : Nat) = 9999 + 1 from rfl, run_equalIn_agg w 9999 94 _ _ hS hp]
 simp only [Program.fieldsOf, Tryz.underlying94]
 clear hd
 go_simp
 by_cases h1 : s.src = t.src <;> by_cases h2 : s.out = t.out <;> by_cases h3 : s.dst = t.dst <;> by_cases h4 : s.inn = t.inn <;> cases s.keyed <;> cases t.keyed <;> simp [h1, h2, h3, h4]
end Go.Proofs.YtdnnfgabdkkdjaaGreat.Df
