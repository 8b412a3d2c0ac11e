import Derived.Test.YtijbmchgajhkeaaSuTm
import Derived.WideKeyEntry
namespace Go.Proofs.Ytijbmchgajhkeaa
open Go.RowKit Go.Sort Go.Maps Go.WideMaps Go.WideElems
open Go.ChangeMaps (setBlock heap_setBlock_same modify_eq_set)

/-- Numbers of 64 bits without a sign, as keys and as elements. -/
abbrev Ku := { n : Int // (Lit.int .u64 n).wf = true }
instance : Inhabited Ku := ⟨⟨0, by decide⟩⟩
abbrev uv (n : Ku) : Value := .int .u64 n.1
theorem u64_bd {x : Int} (h : (Lit.int .u64 x).wf = true) : 0 ≤ x ∧ x < 18446744073709551616 := by
  have h1 : 0 ≤ x ∧ x ≤ 18446744073709551615 := by simpa [Lit.wf, IntKind.min, IntKind.max, IntKind.signed, IntKind.bits] using h
  omega
theorem ku_bd (n : Ku) : 0 ≤ n.1 ∧ n.1 < 18446744073709551616 := by
  exact u64_bd n.2
def ZU : KK Try.prog 30 Ku where
  enc := uv
  lit n := .int .u64 n.1
  law := int_keyed Try.underlying30
  key n := keyOf_int_mk Try.underlying30 n.2
  inv v l h := by
    obtain ⟨x, hx, hl, hw⟩ := Maps.keyOf_int_inv Try.underlying30 h
    exact ⟨⟨x, hw⟩, hx, hl⟩
  inj p q h := by
    injection h with _ h
    exact Subtype.ext h
def EU : El Ku where
  k := 1
  enc n := [.int .u64 n.1]
  len _ := rfl
  one x u hu := by simp at hu; subst hu; rfl
/-- Records; what was caught. -/
abbrev Rc := Ku × Ku
abbrev rv (r : Rc) : Value := .agg #[.int .u64 r.1.1, .int .u64 r.2.1]
def ER : El Rc where
  k := 2
  enc r := [.int .u64 r.1.1, .int .u64 r.2.1]
  len _ := rfl
  one x u hu := by simp at hu; rcases hu with rfl | rfl <;> rfl
abbrev Ct := Tm × Rc
abbrev cv (c : Ct) : Value := .agg #[.int .u64 c.1.1.1, .int .u64 c.1.1.2.1, .int .u64 c.1.1.2.2, .int .u64 c.2.1.1, .int .u64 c.2.2.1]
def EC : El Ct where
  k := 5
  enc c := [.int .u64 c.1.1.1, .int .u64 c.1.1.2.1, .int .u64 c.1.1.2.2, .int .u64 c.2.1.1, .int .u64 c.2.2.1]
  len _ := rfl
  one x u hu := by simp at hu; rcases hu with rfl | rfl | rfl | rfl | rfl <;> rfl
theorem infoU : (Try.prog.info? 30).map (fun i => (i.zero, i.size, i.bytes)) = some (some (.int .u64 0), 1, 8) := by kernel_rfl
theorem infoR : (Try.prog.info? 37).map (fun i => (i.zero, i.size, i.bytes)) = some (some (.agg #[.int .u64 0, .int .u64 0]), 2, 16) := by kernel_rfl
theorem infoC : (Try.prog.info? 39).map (fun i => (i.zero, i.size, i.bytes)) = some (some (.agg #[.int .u64 0, .int .u64 0, .int .u64 0, .int .u64 0, .int .u64 0]), 5, 40) := by kernel_rfl
theorem Ls.atU {w : World} {v : Value} {l : List Ku} (h : Ls EU w v l) {j : Nat} {p : Ku} (hj : l[j]? = some p) :
    ∃ b off c, v = .slice (some ⟨b, off, none⟩) l.length c ∧ b < w.heap.size ∧ w.cell? ⟨b, off + j, none⟩ = some (.int .u64 p.1) := by
  obtain ⟨b, off, c, hv, hb, hc⟩ := h.get hj
  have := hc 0 _ (by decide) rfl
  refine ⟨b, off, c, hv, hb, ?_⟩
  have e : off + j * EU.k + 0 = off + j := by show off + j * 1 + 0 = off + j; omega
  rw [e] at this
  exact this
theorem Ls.atR {w : World} {v : Value} {l : List Rc} (h : Ls ER w v l) {j : Nat} {p : Rc} (hj : l[j]? = some p) :
    ∃ b off c, v = .slice (some ⟨b, off, none⟩) l.length c ∧ b < w.heap.size ∧ w.cell? ⟨b, off + j * 2, none⟩ = some (.int .u64 p.1.1) ∧ w.cell? ⟨b, off + j * 2 + 1, none⟩ = some (.int .u64 p.2.1) := by
  obtain ⟨b, off, c, hv, hb, hc⟩ := h.get hj
  exact ⟨b, off, c, hv, hb, hc 0 _ (by decide) rfl, hc 1 _ (by decide) rfl⟩
theorem Ls.atC {w : World} {v : Value} {l : List Ct} (h : Ls EC w v l) {j : Nat} {p : Ct} (hj : l[j]? = some p) :
    ∃ b off c, v = .slice (some ⟨b, off, none⟩) l.length c ∧ b < w.heap.size ∧ w.cell? ⟨b, off + j * 5, none⟩ = some (.int .u64 p.1.1.1) ∧ w.cell? ⟨b, off + j * 5 + 1, none⟩ = some (.int .u64 p.1.1.2.1) ∧ w.cell? ⟨b, off + j * 5 + 2, none⟩ = some (.int .u64 p.1.1.2.2) ∧ w.cell? ⟨b, off + j * 5 + 3, none⟩ = some (.int .u64 p.2.1.1) ∧ w.cell? ⟨b, off + j * 5 + 4, none⟩ = some (.int .u64 p.2.2.1) := by
  obtain ⟨b, off, c, hv, hb, hc⟩ := h.get hj
  exact ⟨b, off, c, hv, hb, hc 0 _ (by decide) rfl, hc 1 _ (by decide) rfl, hc 2 _ (by decide) rfl, hc 3 _ (by decide) rfl, hc 4 _ (by decide) rfl⟩

/-- A time and a key: what has a sum of its own. -/
abbrev Sx := Tm × Ku
abbrev xv (s : Sx) : Value := .agg #[.int .u64 s.1.1.1, .int .u64 s.1.1.2.1, .int .u64 s.1.1.2.2, .int .u64 s.2.1]
theorem wideSx : (match Try.prog.underlying 75 with | some (.array _ _) | some (.struct _) => true | _ => false) = true := by kernel_rfl
theorem rowSx : (75 : TypeId) < Try.prog.types.size := of_decide_eq_true (by kernel_rfl)
theorem sizeSx : ∃ d, Try.prog.types.size + 1 = d + 3 := by
  have h : decide (2 ≤ Try.prog.types.size) = true := by kernel_rfl
  have h' := of_decide_eq_true h
  exact ⟨Try.prog.types.size - 2, by omega⟩
set_option maxRecDepth 100000 in
theorem lawSx : WideMaps.KeyLaw Try.prog 75 := deep_law_laid laidOut (m := 3) (by omega) rowSx (by kernel_rfl) wideSx
theorem cellsSx : Try.prog.cellsOf 75 = 4 := by kernel_rfl
theorem keyTSx : Try.prog.keyType 75 = true := by kernel_rfl
theorem litsSx (d : Nat) (x y z u : Value) : Try.prog.keyLits (d + 3) 75 [x, y, z, u] = (do let a ← Try.prog.keyLits (d + 2) 32 [x, y, z]; let b ← Try.prog.keyLits (d + 2) 30 [u]; pure (a ++ b)) := by
  conv => lhs; unfold Program.keyLits
  simp only [Try.underlying75, cellsSx]
  simp [cellsTm, cellsU64]
  cases Try.prog.keyLits (d + 2) 32 [x, y, z] <;> cases Try.prog.keyLits (d + 2) 30 [u] <;> simp
theorem keySx (p : Sx) : keyOf Try.prog 75 (xv p) = some (.string (keyBytes [.int .u64 p.1.1.1, .int .u64 p.1.1.2.1, .int .u64 p.1.1.2.2, .int .u64 p.2.1])) := by
  obtain ⟨d, hd⟩ := sizeSx
  have h1 := litsInt Try.underlying30 (d + 1) p.2.1 p.2.2
  have h2 := litsInt Try.underlying30 d p.1.1.1 p.1.2.1
  have h3 := litsInt Try.underlying30 d p.1.1.2.1 p.1.2.2.1
  have h4 := litsInt Try.underlying30 d p.1.1.2.2 p.1.2.2.2
  have hf : (xv p).formed Try.prog 75 = true := by simp [Value.formed, Try.underlying75, cellsSx]
  unfold keyOf
  rw [Try.underlying75]
  simp only [keyTSx, hf, Bool.and_self, if_true, hd]
  simp only [Value.cells, litsSx, litsTm, h1, h2, h3, h4]
  simp
set_option maxRecDepth 100000 in
theorem invSx (v : Value) (l : Lit) (h : keyOf Try.prog 75 v = some l) : ∃ p : Sx, v = xv p := by
  obtain ⟨d, hd⟩ := sizeSx
  unfold keyOf at h
  rw [Try.underlying75] at h
  simp only [keyTSx, Bool.true_and] at h
  split at h
  · next hf =>
    cases v <;> simp [Value.formed, Try.underlying75, cellsSx] at hf
    next cs =>
    obtain ⟨cs⟩ := cs
    match cs, hf with
    | [x, y, z, u], _ =>
      simp only [Value.cells, hd, litsSx, litsTm] at h
      cases h2 : Try.prog.keyLits (d + 1) 30 [x] with
      | none => simp [h2] at h
      | some b =>
        cases h3 : Try.prog.keyLits (d + 1) 30 [y] with
        | none => simp [h2, h3] at h
        | some c =>
          cases h4 : Try.prog.keyLits (d + 1) 30 [z] with
          | none => simp [h2, h3, h4] at h
          | some e =>
            cases h1 : Try.prog.keyLits (d + 2) 30 [u] with
            | none => simp [h1, h2, h3, h4] at h
            | some a =>
              obtain ⟨n1, rfl, w1, _⟩ := litsInt' Try.underlying30 (d + 1) h1
              obtain ⟨n2, rfl, w2, _⟩ := litsInt' Try.underlying30 d h2
              obtain ⟨n3, rfl, w3, _⟩ := litsInt' Try.underlying30 d h3
              obtain ⟨n4, rfl, w4, _⟩ := litsInt' Try.underlying30 d h4
              exact ⟨(⟨(n2, n3, n4), w2, w3, w4⟩, ⟨n1, w1⟩), rfl⟩
  · cases h
def ZX : KK Try.prog 75 Sx where
  enc := xv
  lit p := .string (keyBytes [.int .u64 p.1.1.1, .int .u64 p.1.1.2.1, .int .u64 p.1.1.2.2, .int .u64 p.2.1])
  law := Keyed.of_law lawSx
  key := keySx
  inv v l h := by
    obtain ⟨p, rfl⟩ := invSx v l h
    rw [keySx p] at h
    exact ⟨p, rfl, (Option.some.inj h).symm⟩
  inj p q h := by
    have e := lawSx.inj (keySx p) ((keySx q).trans (congrArg some h.symm))
    obtain ⟨⟨⟨a, b, c⟩, _⟩, ⟨d, _⟩⟩ := p
    obtain ⟨⟨⟨a', b', c'⟩, _⟩, ⟨d', _⟩⟩ := q
    simp at e
    obtain ⟨rfl, rfl, rfl, rfl⟩ := e
    rfl
end Go.Proofs.Ytijbmchgajhkeaa
