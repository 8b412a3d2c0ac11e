import Derived.Test.YtknejahmjfgmhabGreatDoorArgs
namespace Go.Proofs.YtknejahmjfgmhabGreatDoor
open Go.ChangeShapes Go.WideShapes Go.ChangeAt Go.RowKit Go.Joins

theorem cellsP : Tryz.prog.cellsOf 24 = 3 := by kernel_rfl
theorem cellsCase : Tryz.prog.cellsOf 38 = 16 := by kernel_rfl
theorem cellsI : Tryz.prog.cellsOf 3 = 1 := by kernel_rfl
theorem cellsU : Tryz.prog.cellsOf 22 = 1 := by kernel_rfl

set_option maxRecDepth 100000 in
/-- A path that came in. -/
theorem open_path {H : Type} {enc : TypeId × Value → H} {W : World} {r : Reach} {b0 base : Nat} {sp : Nat → Bool} {held : Bool} {v : Value} {d : DataW H} {p : List MemPlace} (hv : Value.okWide Tryz.prog W r b0 24 v) (h : DataW.Trod enc Tryz.prog W base sp held 24 v d p) :
    ∃ a b c : Nat, v = .agg #[.int .u64 a, .int .u64 b, .int .u64 c] ∧ p = [] ∧ a < 18446744073709551616 ∧ b < 18446744073709551616 ∧ c < 18446744073709551616 := by
  obtain ⟨c0, c1, c2, y0, y1, y2, m, rfl, rfl, rfl, h0, h1, h2⟩ := open_agg3 Tryz.underlying24 (by kernel_rfl) cellsP hv h
  obtain ⟨a, e0, rfl, wa⟩ := DataW.trod_int Tryz.underlying22 h0
  obtain ⟨b, e1, rfl, wb⟩ := DataW.trod_int Tryz.underlying22 h1
  obtain ⟨c, e2, rfl, wc⟩ := DataW.trod_int Tryz.underlying22 h2
  simp at e0 e1 e2
  subst e0 e1 e2
  obtain ⟨a', rfl, ha⟩ := u64_nat wa
  obtain ⟨b', rfl, hb⟩ := u64_nat wb
  obtain ⟨c', rfl, hc⟩ := u64_nat wc
  exact ⟨a', b', c', rfl, rfl, ha, hb, hc⟩

section
variable {H : Type} {enc : TypeId × Value → H} {W : World} {base : Nat} {sp : Nat → Bool} {held : Bool}
theorem trod_three {t : TypeId} {n : Nat} {c0 c1 c2 : Value} {y : DataW H × List MemPlace} (ht : t = 24 ∨ t = 36) (h : DataW.trod enc Tryz.prog W base sp held n t [c0, c1, c2] = some y) :
    y.2 = [] ∧ ∃ a b c : Nat, c0 = .int .u64 a ∧ c1 = .int .u64 b ∧ c2 = .int .u64 c ∧ a < 18446744073709551616 ∧ b < 18446744073709551616 ∧ c < 18446744073709551616 := by
  have hu : ∃ f0 f1 f2 : Field, Tryz.prog.underlying t = some (.struct #[f0, f1, f2]) ∧ f0.type = 22 ∧ f1.type = 22 ∧ f2.type = 22 ∧ f0.offset = 0 ∧ f1.offset = 1 ∧ f2.offset = 2 := by
    rcases ht with rfl | rfl
    · exact ⟨_, _, _, Tryz.underlying24, rfl, rfl, rfl, rfl, rfl, rfl⟩
    · exact ⟨_, _, _, Tryz.underlying36, rfl, rfl, rfl, rfl, rfl, rfl⟩
  obtain ⟨f0, f1, f2, hu, t0, t1, t2, o0, o1, o2⟩ := hu
  obtain ⟨xs, k, hk, hxy, _, hxl, hff⟩ := DataW.trod_struct hu h
  match xs, hxl with
  | [y0, y1, y2], _ =>
    have k0 := hff 0 f0 rfl
    have k1 := hff 1 f1 rfl
    have k2 := hff 2 f2 rfl
    rw [t0, o0, cellsU] at k0
    rw [t1, o1, cellsU] at k1
    rw [t2, o2, cellsU] at k2
    obtain ⟨u0, e0, z0, w0⟩ := DataW.trod_int Tryz.underlying22 k0
    obtain ⟨u1, e1, z1, w1⟩ := DataW.trod_int Tryz.underlying22 k1
    obtain ⟨u2, e2, z2, w2⟩ := DataW.trod_int Tryz.underlying22 k2
    simp at e0 e1 e2
    obtain ⟨a', rfl, ha⟩ := u64_nat w0
    obtain ⟨b', rfl, hb⟩ := u64_nat w1
    obtain ⟨c', rfl, hc⟩ := u64_nat w2
    refine ⟨?_, a', b', c', e0, e1, e2, ha, hb, hc⟩
    rw [hxy]
    simp [z0, z1, z2]
theorem array16 {α : Type} {cs : Array α} (h : cs.size = 16) : ∃ c0 c1 c2 c3 c4 c5 c6 c7 c8 c9 ca cb cc cd ce cf, cs = #[c0, c1, c2, c3, c4, c5, c6, c7, c8, c9, ca, cb, cc, cd, ce, cf] := by
  obtain ⟨l⟩ := cs
  match l, h with
  | [c0, c1, c2, c3, c4, c5, c6, c7, c8, c9, ca, cb, cc, cd, ce, cf], _ => exact ⟨c0, c1, c2, c3, c4, c5, c6, c7, c8, c9, ca, cb, cc, cd, ce, cf, rfl⟩

set_option maxRecDepth 100000 in
/-- A case that came in. -/
theorem open_case {r : Reach} {b0 : Nat} {v : Value} {d : DataW H} {p : List MemPlace} (hv : Value.okWide Tryz.prog W r b0 38 v) (h : DataW.Trod enc Tryz.prog W base sp held 38 v d p) :
    p = [] ∧ ∃ (a b c x y z p q r s t u s' t' u' : Nat) (n : Int), v = .agg #[.int .u64 a, .int .u64 b, .int .u64 c, .int .u64 x, .int .u64 y, .int .u64 z, .int .u64 p, .int .u64 q, .int .u64 r, .int .u64 s, .int .u64 t, .int .u64 u, .int .u64 s', .int .u64 t', .int .u64 u', .int .i64 n] ∧
      (a < 18446744073709551616 ∧ b < 18446744073709551616 ∧ c < 18446744073709551616) ∧ (x < 18446744073709551616 ∧ y < 18446744073709551616 ∧ z < 18446744073709551616) ∧ (p < 18446744073709551616 ∧ q < 18446744073709551616 ∧ r < 18446744073709551616) ∧
      (s < 18446744073709551616 ∧ t < 18446744073709551616 ∧ u < 18446744073709551616) ∧ (s' < 18446744073709551616 ∧ t' < 18446744073709551616 ∧ u' < 18446744073709551616) := by
  obtain ⟨cs, rfl, hsz⟩ := okWide_struct Tryz.underlying38 hv
  obtain ⟨c0, c1, c2, c3, c4, c5, c6, c7, c8, c9, ca, cb, cc, cd, ce, cf, rfl⟩ := array16 (hsz.trans cellsCase)
  obtain ⟨fuel, hf⟩ := h
  obtain ⟨xs, k, hk, hxy, _, hxl, hff⟩ := DataW.trod_struct Tryz.underlying38 hf
  match xs, hxl with
  | [y0, y1, y2, y3, y4, y5], _ =>
    have k0 : DataW.trod enc Tryz.prog W base sp held k 24 (([c0, c1, c2, c3, c4, c5, c6, c7, c8, c9, ca, cb, cc, cd, ce, cf].drop 0).take (Tryz.prog.cellsOf 24)) = some y0 := hff 0 _ rfl
    have k1 : DataW.trod enc Tryz.prog W base sp held k 24 (([c0, c1, c2, c3, c4, c5, c6, c7, c8, c9, ca, cb, cc, cd, ce, cf].drop 3).take (Tryz.prog.cellsOf 24)) = some y1 := hff 1 _ rfl
    have k2 : DataW.trod enc Tryz.prog W base sp held k 24 (([c0, c1, c2, c3, c4, c5, c6, c7, c8, c9, ca, cb, cc, cd, ce, cf].drop 6).take (Tryz.prog.cellsOf 24)) = some y2 := hff 2 _ rfl
    have k3 : DataW.trod enc Tryz.prog W base sp held k 36 (([c0, c1, c2, c3, c4, c5, c6, c7, c8, c9, ca, cb, cc, cd, ce, cf].drop 9).take (Tryz.prog.cellsOf 36)) = some y3 := hff 3 _ rfl
    have k4 : DataW.trod enc Tryz.prog W base sp held k 36 (([c0, c1, c2, c3, c4, c5, c6, c7, c8, c9, ca, cb, cc, cd, ce, cf].drop 12).take (Tryz.prog.cellsOf 36)) = some y4 := hff 4 _ rfl
    have k5 : DataW.trod enc Tryz.prog W base sp held k 3 (([c0, c1, c2, c3, c4, c5, c6, c7, c8, c9, ca, cb, cc, cd, ce, cf].drop 15).take (Tryz.prog.cellsOf 3)) = some y5 := hff 5 _ rfl
    rw [cellsP] at k0 k1 k2
    rw [cellsT] at k3 k4
    rw [cellsI] at k5
    obtain ⟨z0, a, b, c, rfl, rfl, rfl, ha⟩ := trod_three (Or.inl rfl) k0
    obtain ⟨z1, x, y, z, rfl, rfl, rfl, hx⟩ := trod_three (Or.inl rfl) k1
    obtain ⟨z2, p, q, r, rfl, rfl, rfl, hp⟩ := trod_three (Or.inl rfl) k2
    obtain ⟨z3, s, t, u, rfl, rfl, rfl, hs⟩ := trod_three (Or.inr rfl) k3
    obtain ⟨z4, s', t', u', rfl, rfl, rfl, hs'⟩ := trod_three (Or.inr rfl) k4
    obtain ⟨n, e5, z5, _⟩ := DataW.trod_int Tryz.underlying3 k5
    simp at e5
    subst e5
    refine ⟨?_, a, b, c, x, y, z, p, q, r, s, t, u, s', t', u', n, rfl, ha, hx, hp, hs, hs'⟩
    have := congrArg Prod.snd hxy
    simp only at this
    rw [this]
    simp [z0, z1, z2, z3, z4, z5]
end
end Go.Proofs.YtknejahmjfgmhabGreatDoor
