import Derived.Test.YthbdbmbdfhbeiaaGreatYMeth
import Derived.DeepKeys4
namespace Go.Proofs.YthbdbmbdfhbeiaaGreat
open Go.RowKit Go.Sort Go.Maps

theorem laidOut : laidOutB Tryz.prog = true := by kernel_rfl
/-- A pair: a number and two bytes. -/
abbrev Pr := { p : Int × Int × Int // (Lit.int .i64 p.1).wf = true ∧ (Lit.int .u8 p.2.1).wf = true ∧ (Lit.int .u8 p.2.2).wf = true }
abbrev pv (p : Pr) : Value := .agg #[.int .i64 p.1.1, .int .u8 p.1.2.1, .int .u8 p.1.2.2]
theorem widePr : (match Tryz.prog.underlying 27 with | some (.array _ _) | some (.struct _) => true | _ => false) = true := by kernel_rfl
theorem rowPr : (27 : TypeId) < Tryz.prog.types.size := of_decide_eq_true (by kernel_rfl)
set_option maxRecDepth 100000 in
theorem lawPr : WideMaps.KeyLaw Tryz.prog 27 := deep_law_laid laidOut (m := 3) (by omega) rowPr (by kernel_rfl) widePr
theorem cellsPr : Tryz.prog.cellsOf 27 = 3 := by kernel_rfl
theorem cellsB2 : Tryz.prog.cellsOf 25 = 2 := by kernel_rfl
theorem cellsU8 : Tryz.prog.cellsOf 5 = 1 := by kernel_rfl
theorem cellsI : Tryz.prog.cellsOf 3 = 1 := by kernel_rfl
theorem keyTPr : Tryz.prog.keyType 27 = true := by kernel_rfl
theorem litsInt {t : TypeId} {q : IntKind} (hu : Tryz.prog.underlying t = some (.int q)) (d : Nat) (n : Int) (h : (Lit.int q n).wf = true) : Tryz.prog.keyLits (d + 1) t [.int q n] = some [.int q n] := by
  unfold Program.keyLits
  simp only [hu]
  simp [h]
theorem litsInt' {t : TypeId} {q : IntKind} (hu : Tryz.prog.underlying t = some (.int q)) (d : Nat) {x : Value} {ls : List Lit} (h : Tryz.prog.keyLits (d + 1) t [x] = some ls) : ∃ n, x = .int q n ∧ (Lit.int q n).wf = true ∧ ls = [.int q n] := by
  unfold Program.keyLits at h
  simp only [hu] at h
  split at h <;> simp_all
theorem litsB2 (d : Nat) (x y : Value) : Tryz.prog.keyLits (d + 2) 25 [x, y] = (do let a ← Tryz.prog.keyLits (d + 1) 5 [x]; let b ← Tryz.prog.keyLits (d + 1) 5 [y]; pure (a ++ b)) := by
  conv => lhs; unfold Program.keyLits
  simp only [Tryz.underlying25, cellsB2, cellsU8]
  simp [List.range, List.range.loop]
  cases Tryz.prog.keyLits (d + 1) 5 [x] <;> cases Tryz.prog.keyLits (d + 1) 5 [y] <;> simp
theorem litsPr (d : Nat) (x y z : Value) : Tryz.prog.keyLits (d + 3) 27 [x, y, z] = (do let a ← Tryz.prog.keyLits (d + 2) 3 [x]; let b ← Tryz.prog.keyLits (d + 2) 25 [y, z]; pure (a ++ b)) := by
  conv => lhs; unfold Program.keyLits
  simp only [Tryz.underlying27, cellsPr]
  simp [cellsB2, cellsI]
  cases Tryz.prog.keyLits (d + 2) 3 [x] <;> cases Tryz.prog.keyLits (d + 2) 25 [y, z] <;> simp
theorem sizePr : ∃ d, Tryz.prog.types.size + 1 = d + 3 := ⟨Tryz.prog.types.size - 2, by have h : (27 : Nat) < Tryz.prog.types.size := rowPr; omega⟩
/-- Pairs as keys. -/
theorem keyPr (p : Pr) : keyOf Tryz.prog 27 (pv p) = some (.string (keyBytes [.int .i64 p.1.1, .int .u8 p.1.2.1, .int .u8 p.1.2.2])) := by
  obtain ⟨d, hd⟩ := sizePr
  have h1 := litsInt Tryz.underlying3 (d + 1) p.1.1 p.2.1
  have h2 := litsInt Tryz.underlying5 d p.1.2.1 p.2.2.1
  have h3 := litsInt Tryz.underlying5 d p.1.2.2 p.2.2.2
  have hf : (pv p).formed Tryz.prog 27 = true := by simp [Value.formed, Tryz.underlying27, cellsPr]
  unfold keyOf
  rw [Tryz.underlying27]
  simp only [keyTPr, hf, Bool.and_self, if_true, hd]
  simp only [Value.cells, litsPr, litsB2, h1, h2, h3]
  simp
set_option maxRecDepth 100000 in
theorem invPr (v : Value) (l : Lit) (h : keyOf Tryz.prog 27 v = some l) : ∃ p : Pr, v = pv p := by
  obtain ⟨d, hd⟩ := sizePr
  unfold keyOf at h
  rw [Tryz.underlying27] at h
  simp only [keyTPr, Bool.true_and] at h
  split at h
  · next hf =>
    cases v <;> simp [Value.formed, Tryz.underlying27, cellsPr] at hf
    next cs =>
    obtain ⟨cs⟩ := cs
    match cs, hf with
    | [x, y, z], _ =>
      simp only [Value.cells, hd, litsPr, litsB2] at h
      cases h1 : Tryz.prog.keyLits (d + 2) 3 [x] with
      | none => simp [h1] at h
      | some a =>
        cases h2 : Tryz.prog.keyLits (d + 1) 5 [y] with
        | none => simp [h1, h2] at h
        | some b =>
          cases h3 : Tryz.prog.keyLits (d + 1) 5 [z] with
          | none => simp [h1, h2, h3] at h
          | some c =>
            obtain ⟨n1, rfl, w1, _⟩ := litsInt' Tryz.underlying3 (d + 1) h1
            obtain ⟨n2, rfl, w2, _⟩ := litsInt' Tryz.underlying5 d h2
            obtain ⟨n3, rfl, w3, _⟩ := litsInt' Tryz.underlying5 d h3
            exact ⟨⟨(n1, n2, n3), w1, w2, w3⟩, rfl⟩
  · cases h
def ZP : KK Tryz.prog 27 Pr where
  enc := pv
  lit p := .string (keyBytes [.int .i64 p.1.1, .int .u8 p.1.2.1, .int .u8 p.1.2.2])
  law := Keyed.of_law lawPr
  key := keyPr
  inv v l h := by
    obtain ⟨p, rfl⟩ := invPr v l h
    rw [keyPr p] at h
    exact ⟨p, rfl, (Option.some.inj h).symm⟩
  inj p q h := by
    have e := lawPr.inj (keyPr p) ((keyPr q).trans (congrArg some h.symm))
    obtain ⟨⟨a, b, c⟩, _⟩ := p
    obtain ⟨⟨a', b', c'⟩, _⟩ := q
    simp at e
    obtain ⟨rfl, rfl, rfl⟩ := e
    rfl
end Go.Proofs.YthbdbmbdfhbeiaaGreat
