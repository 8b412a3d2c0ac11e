import Derived.Test.YtcmgmgnmhhkdgaaLRow
import Derived.Test.YtcmgmgnmhhkdgaaYMap
import Derived.Test.YtcmgmgnmhhkdgaaCompare
import Derived.DeepKeys4
import Derived.Shelf.SlSortCmp.QuietGrown
namespace Go.Proofs.Ytcmgmgnmhhkdgaa
open Go.RowKit Go.Sort Go.Maps
attribute [local go_sem ↓] Go.wp_at_zero Go.wp_at_succ

theorem laidOut : laidOutB Try.prog = true := by kernel_rfl
/-- A stamp: a place and a time. -/
abbrev Sm := { p : Int × Int × Int × Int // (Lit.int .i64 p.1).wf = true ∧ (Lit.int .u64 p.2.1).wf = true ∧ (Lit.int .u64 p.2.2.1).wf = true ∧ (Lit.int .u64 p.2.2.2).wf = true }
instance : Inhabited Sm := ⟨⟨(0, 0, 0, 0), by decide⟩⟩
abbrev mv (p : Sm) : Value := .agg #[.int .i64 p.1.1, .int .u64 p.1.2.1, .int .u64 p.1.2.2.1, .int .u64 p.1.2.2.2]
theorem sm_ext {s t : Sm} (h0 : s.1.1 = t.1.1) (h1 : s.1.2.1 = t.1.2.1) (h2 : s.1.2.2.1 = t.1.2.2.1) (h3 : s.1.2.2.2 = t.1.2.2.2) : s = t := Subtype.ext (Prod.ext h0 (Prod.ext h1 (Prod.ext h2 h3)))
theorem wideSm : (match Try.prog.underlying 35 with | some (.array _ _) | some (.struct _) => true | _ => false) = true := by kernel_rfl
theorem rowSm : (35 : TypeId) < Try.prog.types.size := of_decide_eq_true (by kernel_rfl)
theorem rowTmm : (33 : TypeId) < Try.prog.types.size := of_decide_eq_true (by kernel_rfl)
theorem sizeSm : ∃ d, Try.prog.types.size + 1 = d + 3 := by
  have h : decide (2 ≤ Try.prog.types.size) = true := by kernel_rfl
  have h' := of_decide_eq_true h
  exact ⟨Try.prog.types.size - 2, by omega⟩
set_option maxRecDepth 100000 in
theorem lawSm : WideMaps.KeyLaw Try.prog 35 := deep_law_laid laidOut (m := 3) (by omega) rowSm (by kernel_rfl) wideSm
theorem cellsSm : Try.prog.cellsOf 35 = 4 := by kernel_rfl
theorem cellsTm : Try.prog.cellsOf 33 = 3 := by kernel_rfl
theorem cellsU64 : Try.prog.cellsOf 31 = 1 := by kernel_rfl
theorem cellsI : Try.prog.cellsOf 3 = 1 := by kernel_rfl
theorem keyTSm : Try.prog.keyType 35 = true := by kernel_rfl
theorem litsInt {t : TypeId} {q : IntKind} (hu : Try.prog.underlying t = some (.int q)) (d : Nat) (n : Int) (h : (Lit.int q n).wf = true) : Try.prog.keyLits (d + 1) t [.int q n] = some [.int q n] := by
  unfold Program.keyLits
  simp only [hu]
  simp [h]
theorem litsInt' {t : TypeId} {q : IntKind} (hu : Try.prog.underlying t = some (.int q)) (d : Nat) {x : Value} {ls : List Lit} (h : Try.prog.keyLits (d + 1) t [x] = some ls) : ∃ n, x = .int q n ∧ (Lit.int q n).wf = true ∧ ls = [.int q n] := by
  unfold Program.keyLits at h
  simp only [hu] at h
  split at h <;> simp_all
theorem litsTm (d : Nat) (x y z : Value) : Try.prog.keyLits (d + 2) 33 [x, y, z] = (do let a ← Try.prog.keyLits (d + 1) 31 [x]; let b ← Try.prog.keyLits (d + 1) 31 [y]; let c ← Try.prog.keyLits (d + 1) 31 [z]; pure (a ++ (b ++ c))) := by
  conv => lhs; unfold Program.keyLits
  simp only [Try.underlying33, cellsTm]
  simp [cellsU64]
  cases Try.prog.keyLits (d + 1) 31 [x] <;> cases Try.prog.keyLits (d + 1) 31 [y] <;> cases Try.prog.keyLits (d + 1) 31 [z] <;> simp
theorem litsSm (d : Nat) (x y z u : Value) : Try.prog.keyLits (d + 3) 35 [x, y, z, u] = (do let a ← Try.prog.keyLits (d + 2) 3 [x]; let b ← Try.prog.keyLits (d + 2) 33 [y, z, u]; pure (a ++ b)) := by
  conv => lhs; unfold Program.keyLits
  simp only [Try.underlying35, cellsSm]
  simp [cellsTm, cellsI]
  cases Try.prog.keyLits (d + 2) 3 [x] <;> cases Try.prog.keyLits (d + 2) 33 [y, z, u] <;> simp
/-- Stamps as keys. -/
theorem keySm (p : Sm) : keyOf Try.prog 35 (mv p) = some (.string (keyBytes [.int .i64 p.1.1, .int .u64 p.1.2.1, .int .u64 p.1.2.2.1, .int .u64 p.1.2.2.2])) := by
  obtain ⟨d, hd⟩ := sizeSm
  have h1 := litsInt Try.underlying3 (d + 1) p.1.1 p.2.1
  have h2 := litsInt Try.underlying31 d p.1.2.1 p.2.2.1
  have h3 := litsInt Try.underlying31 d p.1.2.2.1 p.2.2.2.1
  have h4 := litsInt Try.underlying31 d p.1.2.2.2 p.2.2.2.2
  have hf : (mv p).formed Try.prog 35 = true := by simp [Value.formed, Try.underlying35, cellsSm]
  unfold keyOf
  rw [Try.underlying35]
  simp only [keyTSm, hf, Bool.and_self, if_true, hd]
  simp only [Value.cells, litsSm, litsTm, h1, h2, h3, h4]
  simp
set_option maxRecDepth 100000 in
theorem invSm (v : Value) (l : Lit) (h : keyOf Try.prog 35 v = some l) : ∃ p : Sm, v = mv p := by
  obtain ⟨d, hd⟩ := sizeSm
  unfold keyOf at h
  rw [Try.underlying35] at h
  simp only [keyTSm, Bool.true_and] at h
  split at h
  · next hf =>
    cases v <;> simp [Value.formed, Try.underlying35, cellsSm] at hf
    next cs =>
    obtain ⟨cs⟩ := cs
    match cs, hf with
    | [x, y, z, u], _ =>
      simp only [Value.cells, hd, litsSm, litsTm] at h
      cases h1 : Try.prog.keyLits (d + 2) 3 [x] with
      | none => simp [h1] at h
      | some a =>
        cases h2 : Try.prog.keyLits (d + 1) 31 [y] with
        | none => simp [h1, h2] at h
        | some b =>
          cases h3 : Try.prog.keyLits (d + 1) 31 [z] with
          | none => simp [h1, h2, h3] at h
          | some c =>
            cases h4 : Try.prog.keyLits (d + 1) 31 [u] with
            | none => simp [h1, h2, h3, h4] at h
            | some e =>
              obtain ⟨n1, rfl, w1, _⟩ := litsInt' Try.underlying3 (d + 1) h1
              obtain ⟨n2, rfl, w2, _⟩ := litsInt' Try.underlying31 d h2
              obtain ⟨n3, rfl, w3, _⟩ := litsInt' Try.underlying31 d h3
              obtain ⟨n4, rfl, w4, _⟩ := litsInt' Try.underlying31 d h4
              exact ⟨⟨(n1, n2, n3, n4), w1, w2, w3, w4⟩, rfl⟩
  · cases h
def ZM : KK Try.prog 35 Sm where
  enc := mv
  lit p := .string (keyBytes [.int .i64 p.1.1, .int .u64 p.1.2.1, .int .u64 p.1.2.2.1, .int .u64 p.1.2.2.2])
  law := Keyed.of_law lawSm
  key := keySm
  inv v l h := by
    obtain ⟨p, rfl⟩ := invSm v l h
    rw [keySm p] at h
    exact ⟨p, rfl, (Option.some.inj h).symm⟩
  inj p q h := by
    have e := lawSm.inj (keySm p) ((keySm q).trans (congrArg some h.symm))
    obtain ⟨⟨a, b, c, d⟩, _⟩ := p
    obtain ⟨⟨a', b', c', d'⟩, _⟩ := q
    simp at e
    obtain ⟨rfl, rfl, rfl, rfl⟩ := e
    rfl

/-- A function as a value. -/
abbrev fv (f : Nat) : Value := .func (.func f) #[] #[]
/-- Stamps as elements of lists; changes. -/
def ES : El Sm where
  k := 4
  enc p := [.int .i64 p.1.1, .int .u64 p.1.2.1, .int .u64 p.1.2.2.1, .int .u64 p.1.2.2.2]
  len _ := rfl
  one x u hu := by
    simp at hu
    rcases hu with rfl | rfl | rfl | rfl <;> rfl
abbrev Cg := Sm × Int
abbrev gv (c : Cg) : Value := .agg #[.int .i64 c.1.1.1, .int .u64 c.1.1.2.1, .int .u64 c.1.1.2.2.1, .int .u64 c.1.1.2.2.2, .int .i64 c.2]
def EC : El Cg where
  k := 5
  enc c := [.int .i64 c.1.1.1, .int .u64 c.1.1.2.1, .int .u64 c.1.1.2.2.1, .int .u64 c.1.1.2.2.2, .int .i64 c.2]
  len _ := rfl
  one x u hu := by
    simp at hu
    rcases hu with rfl | rfl | rfl | rfl | rfl <;> rfl
theorem infoS : (Try.prog.info? 35).map (fun i => (i.zero, i.size, i.bytes)) = some (some (.agg #[.int .i64 0, .int .u64 0, .int .u64 0, .int .u64 0]), 4, 32) := by kernel_rfl
theorem infoC : (Try.prog.info? 47).map (fun i => (i.zero, i.size, i.bytes)) = some (some (.agg #[.int .i64 0, .int .u64 0, .int .u64 0, .int .u64 0, .int .i64 0]), 5, 40) := by kernel_rfl
theorem Ls.atS {w : World} {v : Value} {l : List Sm} (h : Ls ES w v l) {j : Nat} {p : Sm} (hj : l[j]? = some p) :
    ∃ b off c, v = .slice (some ⟨b, off, none⟩) l.length c ∧ b < w.heap.size ∧ w.cell? ⟨b, off + j * 4, none⟩ = some (.int .i64 p.1.1) ∧ w.cell? ⟨b, off + j * 4 + 1, none⟩ = some (.int .u64 p.1.2.1) ∧ w.cell? ⟨b, off + j * 4 + 2, none⟩ = some (.int .u64 p.1.2.2.1) ∧ w.cell? ⟨b, off + j * 4 + 3, none⟩ = some (.int .u64 p.1.2.2.2) := by
  obtain ⟨b, off, c, hv, hb, hc⟩ := h.get hj
  exact ⟨b, off, c, hv, hb, hc 0 _ (by decide) rfl, hc 1 _ (by decide) rfl, hc 2 _ (by decide) rfl, hc 3 _ (by decide) rfl⟩
theorem Ls.atC {w : World} {v : Value} {l : List Cg} (h : Ls EC w v l) {j : Nat} {p : Cg} (hj : l[j]? = some p) :
    ∃ b off c, v = .slice (some ⟨b, off, none⟩) l.length c ∧ b < w.heap.size ∧ w.cell? ⟨b, off + j * 5, none⟩ = some (.int .i64 p.1.1.1) ∧ w.cell? ⟨b, off + j * 5 + 1, none⟩ = some (.int .u64 p.1.1.2.1) ∧ w.cell? ⟨b, off + j * 5 + 2, none⟩ = some (.int .u64 p.1.1.2.2.1) ∧ w.cell? ⟨b, off + j * 5 + 3, none⟩ = some (.int .u64 p.1.1.2.2.2) ∧ w.cell? ⟨b, off + j * 5 + 4, none⟩ = some (.int .i64 p.2) := by
  obtain ⟨b, off, c, hv, hb, hc⟩ := h.get hj
  exact ⟨b, off, c, hv, hb, hc 0 _ (by decide) rfl, hc 1 _ (by decide) rfl, hc 2 _ (by decide) rfl, hc 3 _ (by decide) rfl, hc 4 _ (by decide) rfl⟩

/-- The order of stamps. -/
theorem c64_neg (x y : Int) : c64 x y < 0 ↔ x < y := by unfold c64; (repeat split) <;> omega
theorem c64_zero (x y : Int) : c64 x y = 0 ↔ x = y := by unfold c64; (repeat split) <;> omega
theorem tcmp_neg (a b c x y z : Int) : tcmp a b c x y z < 0 ↔ a < x ∨ (a = x ∧ (b < y ∨ (b = y ∧ c < z))) := by
  have h1 := c64_neg a x; have h2 := c64_zero a x; have h3 := c64_neg b y; have h4 := c64_zero b y; have h5 := c64_neg c z
  unfold tcmp or3
  generalize c64 a x = p at *; generalize c64 b y = q at *; generalize c64 c z = r at *
  (repeat split) <;> omega
def or2 (p q : Int) : Int := if p = 0 then q else p
def scm (s t : Sm) : Int := or2 (c64 s.1.1 t.1.1) (tcmp s.1.2.1 s.1.2.2.1 s.1.2.2.2 t.1.2.1 t.1.2.2.1 t.1.2.2.2)
/-- '==' of stamps and of changes. -/
theorem run_eqT' (d : Nat) (a b c x y z : Int) (w : World) : Sem.run Try.prog (Op.equalIn (d + 2) 33 (.agg #[.int .u64 a, .int .u64 b, .int .u64 c]) (.agg #[.int .u64 x, .int .u64 y, .int .u64 z])) w = .ok (teq a b c x y z) w := by
  have u3 := Try.underlying31
  have a3 := Try.isAgg31
  have z3 := Try.sizeOf31
  have hS : Try.prog.underlying 33 = some (.struct (Try.prog.fieldsOf 33)) := by kernel_rfl
  have hp : Try.prog.stoodInHeld 33 = false := by kernel_rfl
  rw [show (d + 2 : Nat) = (d + 1) + 1 from rfl, run_equalIn_agg w (d + 1) 33 _ _ hS hp]
  simp only [Program.fieldsOf, Try.underlying33]
  go_simp
  by_cases h1 : a = x <;> by_cases h2 : b = y <;> by_cases h3 : c = z <;> simp [teq, h1, h2, h3]
theorem run_eqS' (d : Nat) (p a b c q x y z : Int) (w : World) : Sem.run Try.prog (Op.equalIn (d + 3) 35 (.agg #[.int .i64 p, .int .u64 a, .int .u64 b, .int .u64 c]) (.agg #[.int .i64 q, .int .u64 x, .int .u64 y, .int .u64 z])) w = .ok (p == q && teq a b c x y z) w := by
  have u4 := Try.underlying3
  have a4 := Try.isAgg3
  have z4 := Try.sizeOf3
  have a5 := Try.isAgg33
  have z5 := Try.sizeOf33
  have hP := run_eqT' d
  have hS : Try.prog.underlying 35 = some (.struct (Try.prog.fieldsOf 35)) := by kernel_rfl
  have hp : Try.prog.stoodInHeld 35 = false := by kernel_rfl
  rw [show (d + 3 : Nat) = (d + 2) + 1 from rfl, run_equalIn_agg w (d + 2) 35 _ _ hS hp]
  simp only [Program.fieldsOf, Try.underlying35]
  go_simp
  by_cases h1 : p = q <;> cases teq a b c x y z <;> simp [h1]
theorem sm_eqb (s t : Sm) : (s.1.1 == t.1.1 && teq s.1.2.1 s.1.2.2.1 s.1.2.2.2 t.1.2.1 t.1.2.2.1 t.1.2.2.2) = decide (s = t) := by
  rw [Bool.eq_iff_iff]
  simp only [Bool.and_eq_true, beq_iff_eq, teq_iff, decide_eq_true_iff]
  exact ⟨fun h => sm_ext h.1 h.2.1 h.2.2.1 h.2.2.2, fun h => by subst h; exact ⟨rfl, rfl, rfl, rfl⟩⟩
theorem run_eqS (s t : Sm) (w : World) : Sem.run Try.prog (Op.equalIn 10000 35 (mv s) (mv t)) w = .ok (decide (s = t)) w := by
  rw [← sm_eqb]
  exact run_eqS' 9997 _ _ _ _ _ _ _ _ w
theorem run_eqC (h k : Cg) (w : World) : Sem.run Try.prog (Op.equalIn 10000 47 (gv h) (gv k)) w = .ok (decide (h = k)) w := by
  obtain ⟨s, m⟩ := h
  obtain ⟨t, n⟩ := k
  have hd : decide (((s, m) : Cg) = (t, n)) = ((s.1.1 == t.1.1 && teq s.1.2.1 s.1.2.2.1 s.1.2.2.2 t.1.2.1 t.1.2.2.1 t.1.2.2.2) && m == n) := by
    rw [sm_eqb, Bool.eq_iff_iff]
    simp
  rw [hd]
  clear hd
  obtain ⟨⟨p, a, b, c⟩, _⟩ := s
  obtain ⟨⟨q, x, y, z⟩, _⟩ := t
  have u4 := Try.underlying2
  have a4 := Try.isAgg2
  have z4 := Try.sizeOf2
  have a5 := Try.isAgg35
  have z5 := Try.sizeOf35
  have hP := run_eqS' 9996
  have hS : Try.prog.underlying 47 = some (.struct (Try.prog.fieldsOf 47)) := by kernel_rfl
  have hp : Try.prog.stoodInHeld 47 = false := by kernel_rfl
  rw [show (10000 : Nat) = 9999 + 1 from rfl, run_equalIn_agg w 9999 47 _ _ hS hp]
  simp only [Program.fieldsOf, Try.underlying47]
  go_simp
  by_cases h1 : p = q <;> by_cases h2 : m = n <;> cases teq a b c x y z <;> simp [h1, h2]
end Go.Proofs.Ytcmgmgnmhhkdgaa
