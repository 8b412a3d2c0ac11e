import Derived.Test.YthbdbmbdfhbeiaaGreatYPair
namespace Go.Proofs.YthbdbmbdfhbeiaaGreat
open Go.RowKit Go.Sort Go.Maps

/-- A stamp: a place and a time. -/
abbrev Sm := { p : Int × Int × Int × Int // (Lit.int .i64 p.1).wf = true ∧ (Lit.int .u64 p.2.1).wf = true ∧ (Lit.int .u64 p.2.2.1).wf = true ∧ (Lit.int .u64 p.2.2.2).wf = true }
abbrev mv (p : Sm) : Value := .agg #[.int .i64 p.1.1, .int .u64 p.1.2.1, .int .u64 p.1.2.2.1, .int .u64 p.1.2.2.2]
theorem wideSm : (match Tryz.prog.underlying 40 with | some (.array _ _) | some (.struct _) => true | _ => false) = true := by kernel_rfl
theorem rowSm : (40 : TypeId) < Tryz.prog.types.size := of_decide_eq_true (by kernel_rfl)
set_option maxRecDepth 100000 in
theorem lawSm : WideMaps.KeyLaw Tryz.prog 40 := deep_law_laid laidOut (m := 3) (by omega) rowSm (by kernel_rfl) wideSm
theorem cellsSm : Tryz.prog.cellsOf 40 = 4 := by kernel_rfl
theorem cellsTm : Tryz.prog.cellsOf 38 = 3 := by kernel_rfl
theorem cellsU64 : Tryz.prog.cellsOf 36 = 1 := by kernel_rfl
theorem keyTSm : Tryz.prog.keyType 40 = true := by kernel_rfl
theorem litsTm (d : Nat) (x y z : Value) : Tryz.prog.keyLits (d + 2) 38 [x, y, z] = (do let a ← Tryz.prog.keyLits (d + 1) 36 [x]; let b ← Tryz.prog.keyLits (d + 1) 36 [y]; let c ← Tryz.prog.keyLits (d + 1) 36 [z]; pure (a ++ (b ++ c))) := by
  conv => lhs; unfold Program.keyLits
  simp only [Tryz.underlying38, cellsTm]
  simp [cellsU64]
  cases Tryz.prog.keyLits (d + 1) 36 [x] <;> cases Tryz.prog.keyLits (d + 1) 36 [y] <;> cases Tryz.prog.keyLits (d + 1) 36 [z] <;> simp
theorem litsSm (d : Nat) (x y z u : Value) : Tryz.prog.keyLits (d + 3) 40 [x, y, z, u] = (do let a ← Tryz.prog.keyLits (d + 2) 3 [x]; let b ← Tryz.prog.keyLits (d + 2) 38 [y, z, u]; pure (a ++ b)) := by
  conv => lhs; unfold Program.keyLits
  simp only [Tryz.underlying40, cellsSm]
  simp [cellsTm, cellsI]
  cases Tryz.prog.keyLits (d + 2) 3 [x] <;> cases Tryz.prog.keyLits (d + 2) 38 [y, z, u] <;> simp
/-- Stamps as keys. -/
theorem keySm (p : Sm) : keyOf Tryz.prog 40 (mv p) = some (.string (keyBytes [.int .i64 p.1.1, .int .u64 p.1.2.1, .int .u64 p.1.2.2.1, .int .u64 p.1.2.2.2])) := by
  obtain ⟨d, hd⟩ := sizePr
  have h1 := litsInt Tryz.underlying3 (d + 1) p.1.1 p.2.1
  have h2 := litsInt Tryz.underlying36 d p.1.2.1 p.2.2.1
  have h3 := litsInt Tryz.underlying36 d p.1.2.2.1 p.2.2.2.1
  have h4 := litsInt Tryz.underlying36 d p.1.2.2.2 p.2.2.2.2
  have hf : (mv p).formed Tryz.prog 40 = true := by simp [Value.formed, Tryz.underlying40, cellsSm]
  unfold keyOf
  rw [Tryz.underlying40]
  simp only [keyTSm, hf, Bool.and_self, if_true, hd]
  simp only [Value.cells, litsSm, litsTm, h1, h2, h3, h4]
  simp
set_option maxRecDepth 100000 in
theorem invSm (v : Value) (l : Lit) (h : keyOf Tryz.prog 40 v = some l) : ∃ p : Sm, v = mv p := by
  obtain ⟨d, hd⟩ := sizePr
  unfold keyOf at h
  rw [Tryz.underlying40] at h
  simp only [keyTSm, Bool.true_and] at h
  split at h
  · next hf =>
    cases v <;> simp [Value.formed, Tryz.underlying40, cellsSm] at hf
    next cs =>
    obtain ⟨cs⟩ := cs
    match cs, hf with
    | [x, y, z, u], _ =>
      simp only [Value.cells, hd, litsSm, litsTm] at h
      cases h1 : Tryz.prog.keyLits (d + 2) 3 [x] with
      | none => simp [h1] at h
      | some a =>
        cases h2 : Tryz.prog.keyLits (d + 1) 36 [y] with
        | none => simp [h1, h2] at h
        | some b =>
          cases h3 : Tryz.prog.keyLits (d + 1) 36 [z] with
          | none => simp [h1, h2, h3] at h
          | some c =>
            cases h4 : Tryz.prog.keyLits (d + 1) 36 [u] with
            | none => simp [h1, h2, h3, h4] at h
            | some e =>
              obtain ⟨n1, rfl, w1, _⟩ := litsInt' Tryz.underlying3 (d + 1) h1
              obtain ⟨n2, rfl, w2, _⟩ := litsInt' Tryz.underlying36 d h2
              obtain ⟨n3, rfl, w3, _⟩ := litsInt' Tryz.underlying36 d h3
              obtain ⟨n4, rfl, w4, _⟩ := litsInt' Tryz.underlying36 d h4
              exact ⟨⟨(n1, n2, n3, n4), w1, w2, w3, w4⟩, rfl⟩
  · cases h
def ZM : KK Tryz.prog 40 Sm where
  enc := mv
  lit p := .string (keyBytes [.int .i64 p.1.1, .int .u64 p.1.2.1, .int .u64 p.1.2.2.1, .int .u64 p.1.2.2.2])
  law := Keyed.of_law lawSm
  key := keySm
  inv v l h := by
    obtain ⟨p, rfl⟩ := invSm v l h
    rw [keySm p] at h
    exact ⟨p, rfl, (Option.some.inj h).symm⟩
  inj p q h := by
    have e := lawSm.inj (keySm p) ((keySm q).trans (congrArg some h.symm))
    obtain ⟨⟨a, b, c, d⟩, _⟩ := p
    obtain ⟨⟨a', b', c', d'⟩, _⟩ := q
    simp at e
    obtain ⟨rfl, rfl, rfl, rfl⟩ := e
    rfl
end Go.Proofs.YthbdbmbdfhbeiaaGreat
