import Derived.Test.YtbbfddadnbjlhaaGreatJ20
import Derived.BigQuiet
import Derived.Test.YtbbfddadnbjlhaaGreatJ18
import Derived.Test.YtbbfddadnbjlhaaGreatGM1
import Derived.Test.YtbbfddadnbjlhaaGreatEqs
namespace Go.Proofs.YtbbfddadnbjlhaaGreat.Lf
open Go.RowKit Go.Sort Pt
open Df (hid Gph plN Gok GR NV Edg gof gvc Gcap EI tk_store tk_lt owns_form owns_caps)
attribute [local go_sem ↓] Go.wp_at_zero Go.wp_at_succ
theorem bt_len {g : Gph} {R : Nat → Nat → List Tri} (h : ∀ p, p < plN g.nodes → Res PX (StG g) p (some (R p))) (p q : Int) : (bt (plN g.nodes) R p q).length ≤ 64 := by
 unfold bt
 split
 ·rename_i hc
  exact (h p.toNat (by omega) q.toNat).2.2
 ·exact Nat.zero_le _
section
variable {M M2 tb rb n : Nat} {R : Nat → Nat → List Tri} {sv : Value} {l : List Hf.Th} {W : World}
end
end Go.Proofs.YtbbfddadnbjlhaaGreat.Lf

namespace Go.Proofs.YtbbfddadnbjlhaaGreat.Lf
open Go.RowKit Go.Sort Pt
open Df (Gph plN)
theorem wy_least {St : Nat → Nat → Tri → Prop} {p q : Nat} : ∀ (n : Nat) (a : Tri), (a.1.1 + a.1.2.1 + a.1.2.2).toNat ≤ n → Wy PX St p q a → ∃ m, Lea PX St p q m ∧ PX.ahd m a := by
 classical
 intro n
 induction n with
 | zero =>
  intro a ha hw
  refine ⟨a, ⟨hw, fun b _ hb => ?_⟩, PX_ok.refl a⟩
  have h1 := tri_bd a
  have h2 := tri_bd b
  obtain ⟨k1, k2, k3⟩ := hb
  exact tri_ext (by omega) (by omega) (by omega)
 | succ n ih =>
  intro a ha hw
  by_cases h : ∃ b, Wy PX St p q b ∧ PX.ahd b a ∧ b ≠ a
  ·obtain ⟨b, hb, hba, hne⟩ := h
   have h1 := tri_bd a
   have h2 := tri_bd b
   have hlt : (b.1.1 + b.1.2.1 + b.1.2.2).toNat ≤ n := by
    obtain ⟨k1, k2, k3⟩ := hba
    have : ¬ (b.1.1 = a.1.1 ∧ b.1.2.1 = a.1.2.1 ∧ b.1.2.2 = a.1.2.2) := fun e => hne (tri_ext e.1 e.2.1 e.2.2)
    omega
   obtain ⟨m, hm, hmb⟩ := ih b hlt hb
   exact ⟨m, hm, PX_ok.trans hmb hba⟩
  ·refine ⟨a, ⟨hw, fun b hb hba => ?_⟩, PX_ok.refl a⟩
   by_cases e : b = a
   ·exact e
   ·exact absurd ⟨b, hb, hba, e⟩ h
theorem res_cov {St : Nat → Nat → Tri → Prop} {p : Nat} {rows : Nat → List Tri} (h : Res PX St p (some rows)) (q : Nat) (a : Tri) (ha : Wy PX St p q a) : Cov PX (rows q) a := by
 obtain ⟨m, hm, hma⟩ := wy_least _ a (Nat.le_refl _) ha
 exact ⟨m, ((h q).2.1 m).2 hm, hma⟩
def cldB (n : Nat) (R : Nat → Nat → List Tri) (s u : Hf.Th) : Bool := (bt n R s.1 u.1).any (cldP s.2 u.2)
theorem cldP_iff {s u b : Tri} : cldP s u b = true ↔ ∃ c, thn3 b s = some c ∧ PX.ahd c u := by
 unfold cldP
 rw [Bool.and_eq_true]
 cases h : thn3 b s with
 | none => simp
 | some c =>
  rw [thv_some h, Pc.bel_iff]
  constructor
  ·rintro ⟨_, k⟩
   exact ⟨c, rfl, k⟩
  ·rintro ⟨d, e, k⟩
   cases e
   exact ⟨rfl, k⟩
section
variable {St : Nat → Nat → Tri → Prop} {n : Nat} {R : Nat → Nat → List Tri}
theorem cldB_iff (h : ∀ p, p < n → Res PX St p (some (R p))) {i j : Nat} (hi : i < n) (hj : j < n) {t u : Tri} : cldB n R ((i : Int), t) ((j : Int), u) = true ↔ Cld St i t j u := by
 rw [Cld.least (h i hi) (res_cov (h i hi))]
 unfold cldB
 rw [bt_in hi hj, List.any_eq_true]
 constructor
 ·rintro ⟨b, hb, k⟩
  exact ⟨b, hb, cldP_iff.1 k⟩
 ·rintro ⟨b, hb, k⟩
  exact ⟨b, hb, cldP_iff.2 k⟩
end
end Go.Proofs.YtbbfddadnbjlhaaGreat.Lf

namespace Go.Proofs.YtbbfddadnbjlhaaGreat.Lf
open Go.RowKit Go.Sort Pt
open Df (Gph plN Con Gok stR PthT)
section
variable {St : Nat → Nat → Tri → Prop} {n : Nat} {R : Nat → Nat → List Tri}
end
end Go.Proofs.YtbbfddadnbjlhaaGreat.Lf

namespace Go.Proofs.YtbbfddadnbjlhaaGreat.Lf
open Go.RowKit Go.Sort Pt
open Df (tk_store tk_lt)
theorem run_eqT2 (d : Nat) (a b c x y z : Int) (w : World) : Sem.run Tryz.prog (Op.equalIn (d + 2) 50 (.agg #[.int .u64 a, .int .u64 b, .int .u64 c]) (.agg #[.int .u64 x, .int .u64 y, .int .u64 z])) w = .ok (teq a b c x y z) w := by
 have u3 := Tryz.underlying37
 have a3 := Tryz.isAgg37
 have z3 := Tryz.sizeOf37
 have hS : Tryz.prog.underlying 50 = some (.struct (Tryz.prog.fieldsOf 50)) := by kernel_rfl
 have hp : Tryz.prog.stoodInHeld 50 = false := by kernel_rfl
 rw [show (d + 2 : Nat) = (d + 1) + 1 from rfl, run_equalIn_agg w (d + 1) 50 _ _ hS hp]
 simp only [Program.fieldsOf, Tryz.underlying50]
 go_simp
 by_cases h1 : a = x <;> by_cases h2 : b = y <;> by_cases h3 : c = z <;> simp [teq, h1, h2, h3]
theorem run_eqS (d : Nat) (p a b c q x y z : Int) (w : World) : Sem.run Tryz.prog (Op.equalIn (d + 3) 52 (.agg #[.int .i64 p, .int .u64 a, .int .u64 b, .int .u64 c]) (.agg #[.int .i64 q, .int .u64 x, .int .u64 y, .int .u64 z])) w = .ok (p == q && teq a b c x y z) w := by
 have u4 := Tryz.underlying3
 have a4 := Tryz.isAgg3
 have z4 := Tryz.sizeOf3
 have a5 := Tryz.isAgg50
 have z5 := Tryz.sizeOf50
 have hP := run_eqT2 d
 have hS : Tryz.prog.underlying 52 = some (.struct (Tryz.prog.fieldsOf 52)) := by kernel_rfl
 have hp : Tryz.prog.stoodInHeld 52 = false := by kernel_rfl
 rw [show (d + 3 : Nat) = (d + 2) + 1 from rfl, run_equalIn_agg w (d + 2) 52 _ _ hS hp]
 simp only [Program.fieldsOf, Tryz.underlying52]
 go_simp
 by_cases h1 : p = q <;> cases teq a b c x y z <;> simp [h1]
theorem run_eqTh (s u : Hf.Th) (w : World) : Sem.run Tryz.prog (Op.equalIn 10000 52 (.agg #[.int .i64 s.1, .int .u64 s.2.1.1, .int .u64 s.2.1.2.1, .int .u64 s.2.1.2.2]) (.agg #[.int .i64 u.1, .int .u64 u.2.1.1, .int .u64 u.2.1.2.1, .int .u64 u.2.1.2.2])) w = .ok (decide (s = u)) w := by
 rw [show (10000 : Nat) = 9997 + 3 from rfl, run_eqS]
 have : (s.1 == u.1 && teq s.2.1.1 s.2.1.2.1 s.2.1.2.2 u.2.1.1 u.2.1.2.1 u.2.1.2.2) = decide (s = u) := by
  rw [Bool.eq_iff_iff]
  simp only [teq, Bool.and_eq_true, beq_iff_eq, decide_eq_true_iff]
  constructor
  ·rintro ⟨h1, h2, h3, h4⟩
   obtain ⟨s1, s2⟩ := s
   obtain ⟨u1, u2⟩ := u
   simp only at h1 h2 h3 h4
   rw [h1, tri_ext h2 h3 h4]
  ·rintro rfl
   exact ⟨rfl, rfl, rfl, rfl⟩
 rw [this]
theorem run_neqTh {s u : Hf.Th} {b : Bool} (h : decide (s = u) = b) (w : World) : Sem.run Tryz.prog (Op.equalIn 10000 52 (.agg #[.int .i64 s.1, .int .u64 s.2.1.1, .int .u64 s.2.1.2.1, .int .u64 s.2.1.2.2]) (.agg #[.int .i64 u.1, .int .u64 u.2.1.1, .int .u64 u.2.1.2.1, .int .u64 u.2.1.2.2])) w = .ok b w := by rw [run_eqTh, h]
theorem infoSt : (Tryz.prog.info? 52).map (fun i => (i.zero, i.size, i.bytes)) = some (some (.agg #[.int .i64 0, .int .u64 0, .int .u64 0, .int .u64 0]), 4, 32) := by kernel_rfl
section
variable {n : Nat} {R : Nat → Nat → List Tri} {s : Hf.Th} {l : List Hf.Th}
end
end Go.Proofs.YtbbfddadnbjlhaaGreat.Lf
