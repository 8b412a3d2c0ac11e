import Derived.Test.YtijbmchgajhkeaaLRow
import Derived.Test.YtijbmchgajhkeaaYMap
import Derived.Test.YtijbmchgajhkeaaCompare
import Derived.Test.YtijbmchgajhkeaaCPure
import Derived.DeepKeys4
import Derived.Shelf.SlSortCmp.QuietGrown
namespace Go.Proofs.Ytijbmchgajhkeaa
open Go.RowKit Go.Sort Go.Maps

theorem laidOut : laidOutB Try.prog = true := by kernel_rfl
/-- A time. -/
abbrev Tm := { p : Int × Int × Int // (Lit.int .u64 p.1).wf = true ∧ (Lit.int .u64 p.2.1).wf = true ∧ (Lit.int .u64 p.2.2).wf = true }
instance : Inhabited Tm := ⟨⟨(0, 0, 0), by decide⟩⟩
abbrev tv (t : Tm) : Value := .agg #[.int .u64 t.1.1, .int .u64 t.1.2.1, .int .u64 t.1.2.2]
/-- Times as elements of lists. -/
def ET : El Tm where
  k := 3
  enc t := [.int .u64 t.1.1, .int .u64 t.1.2.1, .int .u64 t.1.2.2]
  len _ := rfl
  one x u hu := by
    simp at hu
    rcases hu with rfl | rfl | rfl <;> rfl
theorem tm_ext {s t : Tm} (h1 : s.1.1 = t.1.1) (h2 : s.1.2.1 = t.1.2.1) (h3 : s.1.2.2 = t.1.2.2) : s = t := Subtype.ext (Prod.ext h1 (Prod.ext h2 h3))
theorem teq_dec (s t : Tm) : teq s.1.1 s.1.2.1 s.1.2.2 t.1.1 t.1.2.1 t.1.2.2 = decide (s = t) := by
  rw [Bool.eq_iff_iff, teq_iff, decide_eq_true_iff]
  exact ⟨fun h => tm_ext h.1 h.2.1 h.2.2, fun h => by subst h; exact ⟨rfl, rfl, rfl⟩⟩
abbrev flT (l : List Tm) : List Value := fl ET l
theorem flT_nil : flT [] = [] := rfl
theorem flT_append (a b : List Tm) : flT (a ++ b) = flT a ++ flT b := fl_append ET a b
theorem flT_one (t : Tm) : flT [t] = ET.enc t := fl_one ET t
theorem flT_length (ts : List Tm) : (flT ts).length = ts.length * 3 := fl_length ET ts
theorem flT_take (l : List Tm) (k : Nat) : (flT l).take (k * 3) = flT (l.take k) := fl_take ET l k
theorem flT_drop (l : List Tm) (k : Nat) : (flT l).drop (k * 3) = flT (l.drop k) := fl_drop ET l k
theorem flT_oneCell (ts : List Tm) : ∀ u ∈ flT ts, u.oneCell' = true := fl_oneCell ET ts
abbrev Lst (w : World) (v : Value) (ts : List Tm) : Prop := Ls ET w v ts
theorem Ls.at3 {w : World} {v : Value} {ts : List Tm} (h : Ls ET w v ts) {j : Nat} {t : Tm} (hj : ts[j]? = some t) :
    ∃ b off c, v = .slice (some ⟨b, off, none⟩) ts.length c ∧ b < w.heap.size ∧ w.cell? ⟨b, off + j * 3, none⟩ = some (.int .u64 t.1.1) ∧ w.cell? ⟨b, off + j * 3 + 1, none⟩ = some (.int .u64 t.1.2.1) ∧ w.cell? ⟨b, off + j * 3 + 2, none⟩ = some (.int .u64 t.1.2.2) := by
  obtain ⟨b, off, c, hv, hb, hc⟩ := h.get hj
  exact ⟨b, off, c, hv, hb, hc 0 _ (by decide) rfl, hc 1 _ (by decide) rfl, hc 2 _ (by decide) rfl⟩
theorem owns_lst {w : World} {base : Nat} {e : TypeId} {v : Value} {ts : List Tm} (h : w.ownsRow base e 3 v ts.length (flT ts)) : Lst w v ts := owns_ls (E := ET) h
theorem infoTm : (Try.prog.info? 32).map (fun i => (i.zero, i.size, i.bytes)) = some (some (.agg #[.int .u64 0, .int .u64 0, .int .u64 0]), 3, 24) := by kernel_rfl

/-- At or ahead; told ahead; the order of telling. -/
def bel (s t : Tm) : Bool := tle s.1.1 s.1.2.1 s.1.2.2 t.1.1 t.1.2.1 t.1.2.2
def tcm (s t : Tm) : Int := tcmp s.1.1 s.1.2.1 s.1.2.2 t.1.1 t.1.2.1 t.1.2.2
def tol (s t : Tm) : Bool := decide (tcm s t < 0)
theorem bel_iff (s t : Tm) : bel s t = true ↔ s.1.1 ≤ t.1.1 ∧ s.1.2.1 ≤ t.1.2.1 ∧ s.1.2.2 ≤ t.1.2.2 := by simp [bel, tle]
theorem c64_neg (x y : Int) : c64 x y < 0 ↔ x < y := by unfold c64; (repeat split) <;> omega
theorem c64_zero (x y : Int) : c64 x y = 0 ↔ x = y := by unfold c64; (repeat split) <;> omega
theorem c64_bd (x y : Int) : -1 ≤ c64 x y ∧ c64 x y ≤ 1 ∧ c64 x y = - c64 y x := by unfold c64; (repeat split) <;> omega
theorem tcmp_neg (a b c x y z : Int) : tcmp a b c x y z < 0 ↔ a < x ∨ (a = x ∧ (b < y ∨ (b = y ∧ c < z))) := by
  have h1 := c64_neg a x; have h2 := c64_zero a x; have h3 := c64_neg b y; have h4 := c64_zero b y; have h5 := c64_neg c z
  unfold tcmp or3
  generalize c64 a x = p at *; generalize c64 b y = q at *; generalize c64 c z = r at *
  (repeat split) <;> omega
theorem tcmp_zero (a b c x y z : Int) : tcmp a b c x y z = 0 ↔ a = x ∧ b = y ∧ c = z := by
  have h2 := c64_zero a x; have h4 := c64_zero b y; have h5 := c64_zero c z
  unfold tcmp or3
  generalize c64 a x = p at *; generalize c64 b y = q at *; generalize c64 c z = r at *
  (repeat split) <;> omega
theorem tcmp_bd (a b c x y z : Int) : -1 ≤ tcmp a b c x y z ∧ tcmp a b c x y z ≤ 1 ∧ tcmp a b c x y z = - tcmp x y z a b c := by
  have h1 := c64_bd a x; have h2 := c64_bd b y; have h3 := c64_bd c z
  unfold tcmp or3
  generalize c64 a x = p at *; generalize c64 b y = q at *; generalize c64 c z = r at *
  generalize c64 x a = p' at *; generalize c64 y b = q' at *; generalize c64 z c = r' at *
  (repeat split) <;> omega
theorem tcm_zero (s t : Tm) : tcm s t = 0 ↔ s = t := by
  unfold tcm
  rw [tcmp_zero]
  exact ⟨fun h => tm_ext h.1 h.2.1 h.2.2, fun h => by subst h; exact ⟨rfl, rfl, rfl⟩⟩
theorem tcm_bd (s t : Tm) : -1 ≤ tcm s t ∧ tcm s t ≤ 1 ∧ tcm s t = - tcm t s := tcmp_bd _ _ _ _ _ _
theorem tol_iff (s t : Tm) : tol s t = true ↔ s.1.1 < t.1.1 ∨ (s.1.1 = t.1.1 ∧ (s.1.2.1 < t.1.2.1 ∨ (s.1.2.1 = t.1.2.1 ∧ s.1.2.2 < t.1.2.2))) := by
  unfold tol tcm
  rw [decide_eq_true_iff]
  exact tcmp_neg _ _ _ _ _ _
theorem tol_not (s t : Tm) : tol s t = false ↔ ¬ (s.1.1 < t.1.1 ∨ (s.1.1 = t.1.1 ∧ (s.1.2.1 < t.1.2.1 ∨ (s.1.2.1 = t.1.2.1 ∧ s.1.2.2 < t.1.2.2)))) := by
  rw [← tol_iff, Bool.not_eq_true]
theorem ords : Ords bel tol where
  refl a := by rw [bel_iff]; omega
  trans a b c h1 h2 := by rw [bel_iff] at *; omega
  anti a b h1 h2 := by
    rw [bel_iff] at *
    exact tm_ext (by omega) (by omega) (by omega)
  irr a := by rw [tol_not]; omega
  tr a b c h1 h2 := by rw [tol_iff] at *; omega
  tot a b hne h := by
    rw [tol_not] at h
    rw [tol_iff]
    have : ¬ (a.1.1 = b.1.1 ∧ a.1.2.1 = b.1.2.1 ∧ a.1.2.2 = b.1.2.2) := fun e => hne (tm_ext e.1 e.2.1 e.2.2)
    omega
theorem bel_tol {a b : Tm} (h : bel a b = true) (hne : a ≠ b) : tol a b = true := by
  rw [bel_iff] at h
  rw [tol_iff]
  have : ¬ (a.1.1 = b.1.1 ∧ a.1.2.1 = b.1.2.1 ∧ a.1.2.2 = b.1.2.2) := fun e => hne (tm_ext e.1 e.2.1 e.2.2)
  omega

/-- Times as keys. -/
theorem wideTm : (match Try.prog.underlying 32 with | some (.array _ _) | some (.struct _) => true | _ => false) = true := by kernel_rfl
theorem rowTm : (32 : TypeId) < Try.prog.types.size := of_decide_eq_true (by kernel_rfl)
set_option maxRecDepth 100000 in
theorem lawTm : WideMaps.KeyLaw Try.prog 32 := deep_law_laid laidOut (m := 3) (by omega) rowTm (by kernel_rfl) wideTm
theorem cellsTm : Try.prog.cellsOf 32 = 3 := by kernel_rfl
theorem cellsU64 : Try.prog.cellsOf 30 = 1 := by kernel_rfl
theorem keyTTm : Try.prog.keyType 32 = true := by kernel_rfl
theorem litsInt {t : TypeId} {q : IntKind} (hu : Try.prog.underlying t = some (.int q)) (d : Nat) (n : Int) (h : (Lit.int q n).wf = true) : Try.prog.keyLits (d + 1) t [.int q n] = some [.int q n] := by
  unfold Program.keyLits
  simp only [hu]
  simp [h]
theorem litsInt' {t : TypeId} {q : IntKind} (hu : Try.prog.underlying t = some (.int q)) (d : Nat) {x : Value} {ls : List Lit} (h : Try.prog.keyLits (d + 1) t [x] = some ls) : ∃ n, x = .int q n ∧ (Lit.int q n).wf = true ∧ ls = [.int q n] := by
  unfold Program.keyLits at h
  simp only [hu] at h
  split at h <;> simp_all
theorem litsTm (d : Nat) (x y z : Value) : Try.prog.keyLits (d + 2) 32 [x, y, z] = (do let a ← Try.prog.keyLits (d + 1) 30 [x]; let b ← Try.prog.keyLits (d + 1) 30 [y]; let c ← Try.prog.keyLits (d + 1) 30 [z]; pure (a ++ (b ++ c))) := by
  conv => lhs; unfold Program.keyLits
  simp only [Try.underlying32, cellsTm]
  simp [cellsU64]
  cases Try.prog.keyLits (d + 1) 30 [x] <;> cases Try.prog.keyLits (d + 1) 30 [y] <;> cases Try.prog.keyLits (d + 1) 30 [z] <;> simp
theorem sizeTm : ∃ d, Try.prog.types.size + 1 = d + 2 := ⟨Try.prog.types.size - 1, by have h : (32 : Nat) < Try.prog.types.size := rowTm; omega⟩
theorem keyTm (p : Tm) : keyOf Try.prog 32 (tv p) = some (.string (keyBytes [.int .u64 p.1.1, .int .u64 p.1.2.1, .int .u64 p.1.2.2])) := by
  obtain ⟨d, hd⟩ := sizeTm
  have h1 := litsInt Try.underlying30 d p.1.1 p.2.1
  have h2 := litsInt Try.underlying30 d p.1.2.1 p.2.2.1
  have h3 := litsInt Try.underlying30 d p.1.2.2 p.2.2.2
  have hf : (tv p).formed Try.prog 32 = true := by simp [Value.formed, Try.underlying32, cellsTm]
  unfold keyOf
  rw [Try.underlying32]
  simp only [keyTTm, hf, Bool.and_self, if_true, hd]
  simp only [Value.cells, litsTm, h1, h2, h3]
  simp
set_option maxRecDepth 100000 in
theorem invTm (v : Value) (l : Lit) (h : keyOf Try.prog 32 v = some l) : ∃ p : Tm, v = tv p := by
  obtain ⟨d, hd⟩ := sizeTm
  unfold keyOf at h
  rw [Try.underlying32] at h
  simp only [keyTTm, Bool.true_and] at h
  split at h
  · next hf =>
    cases v <;> simp [Value.formed, Try.underlying32, cellsTm] at hf
    next cs =>
    obtain ⟨cs⟩ := cs
    match cs, hf with
    | [x, y, z], _ =>
      simp only [Value.cells, hd, litsTm] at h
      cases h1 : Try.prog.keyLits (d + 1) 30 [x] with
      | none => simp [h1] at h
      | some a =>
        cases h2 : Try.prog.keyLits (d + 1) 30 [y] with
        | none => simp [h1, h2] at h
        | some b =>
          cases h3 : Try.prog.keyLits (d + 1) 30 [z] with
          | none => simp [h1, h2, h3] at h
          | some c =>
            obtain ⟨n1, rfl, w1, _⟩ := litsInt' Try.underlying30 d h1
            obtain ⟨n2, rfl, w2, _⟩ := litsInt' Try.underlying30 d h2
            obtain ⟨n3, rfl, w3, _⟩ := litsInt' Try.underlying30 d h3
            exact ⟨⟨(n1, n2, n3), w1, w2, w3⟩, rfl⟩
  · cases h
def ZT : KK Try.prog 32 Tm where
  enc := tv
  lit p := .string (keyBytes [.int .u64 p.1.1, .int .u64 p.1.2.1, .int .u64 p.1.2.2])
  law := Keyed.of_law lawTm
  key := keyTm
  inv v l h := by
    obtain ⟨p, rfl⟩ := invTm v l h
    rw [keyTm p] at h
    exact ⟨p, rfl, (Option.some.inj h).symm⟩
  inj p q h := by
    have e := lawTm.inj (keyTm p) ((keyTm q).trans (congrArg some h.symm))
    obtain ⟨⟨a, b, c⟩, _⟩ := p
    obtain ⟨⟨a', b', c'⟩, _⟩ := q
    simp at e
    obtain ⟨rfl, rfl, rfl⟩ := e
    rfl

/-- A function as a value. -/
abbrev fv (f : Nat) : Value := .func (.func f) #[] #[]
/-- A function that answers r. -/
structure FnOk (f : Nat) (r : Tm → Tm → Bool) : Prop where
  enter : ∀ args w, (callFunc f args).run Try.prog w = .ok (.enter f args) w
  calls : ∀ (a b : Tm) (W : World), Calls Try.prog f #[tv a, tv b] W fun e w' => e = .returned (.bool (r a b)) ∧ Gr W w'
theorem ahead_ok : FnOk 47 bel :=
  ⟨enters_of Try.func47 (by kernel_rfl) rfl, fun a b W => Ahead_any _ _ _ _ _ _ W⟩
end Go.Proofs.Ytijbmchgajhkeaa
