import Derived.Test.YtifjjnnpoleinaaKArgs
import Derived.Test.YtifjjnnpoleinaaJ2
namespace Go.Proofs.Ytifjjnnpoleinaa.Df
open Go.ChangeShapes Go.WideShapes Go.ChangeAt Go.RowKit

/-- What Send is asked. -/
structure Ak where
  k : Int
  x : Rx
  o : Int
  m : Int
abbrev Aw : Type := { a : Ak // a.x.key < 18446744073709551616 }
instance : Inhabited Aw := ⟨⟨⟨0, ⟨0, 0, 0, 0, 0⟩, 0, 0⟩, by decide⟩⟩
def akc (a : Aw) : Array Value := #[.int .i64 a.1.k, .int .u64 a.1.x.a, .int .u64 a.1.x.b, .int .u64 a.1.x.c, .int .u64 (a.1.x.key : Nat), .int .u64 a.1.x.val, .int .i64 a.1.o, .int .i64 a.1.m]
def EAk : El Aw where
  k := 8
  enc a := (akc a).toList
  len _ := rfl
  one a := by
    intro u hu
    simp only [akc, List.mem_cons, List.not_mem_nil, or_false] at hu
    rcases hu with rfl | rfl | rfl | rfl | rfl | rfl | rfl | rfl <;> rfl
section
variable {H : Type} {enc : TypeId × Value → H} {W : World} {base : Nat} {sp : Nat → Bool} {held : Bool}
set_option maxRecDepth 100000 in
theorem trod_ask (fuel : Nat) (cs : List Value) (y : DataW H × List MemPlace) (hl : cs.length = 8) (h : DataW.trod enc Try.prog W base sp held fuel 32 cs = some y) : ∃ x : Aw, cs = EAk.enc x ∧ True := by
  have hthree : Try.prog.cellsOf 28 = 3 := by kernel_rfl
  have htwo : Try.prog.cellsOf 30 = 2 := by kernel_rfl
  match cs, hl with
  | [c0, c1, c2, c3, c4, c5, c6, c7], _ =>
    obtain ⟨zs, k', _, _, _, hzl, hgg⟩ := DataW.trod_struct Try.underlying32 h
    match zs, hzl with
    | [z0, z1, z2, z3, z4], _ =>
      have j0 : DataW.trod enc Try.prog W base sp held k' 3 (([c0, c1, c2, c3, c4, c5, c6, c7].drop 0).take (Try.prog.cellsOf 3)) = some z0 := hgg 0 _ rfl
      have j1 : DataW.trod enc Try.prog W base sp held k' 28 (([c0, c1, c2, c3, c4, c5, c6, c7].drop 1).take (Try.prog.cellsOf 28)) = some z1 := hgg 1 _ rfl
      have j2 : DataW.trod enc Try.prog W base sp held k' 30 (([c0, c1, c2, c3, c4, c5, c6, c7].drop 4).take (Try.prog.cellsOf 30)) = some z2 := hgg 2 _ rfl
      have j3 : DataW.trod enc Try.prog W base sp held k' 3 (([c0, c1, c2, c3, c4, c5, c6, c7].drop 6).take (Try.prog.cellsOf 3)) = some z3 := hgg 3 _ rfl
      have j4 : DataW.trod enc Try.prog W base sp held k' 3 (([c0, c1, c2, c3, c4, c5, c6, c7].drop 7).take (Try.prog.cellsOf 3)) = some z4 := hgg 4 _ rfl
      rw [c1i] at j0 j3 j4
      rw [hthree] at j1
      rw [htwo] at j2
      obtain ⟨u0, rfl, _⟩ := trod_i j0
      obtain ⟨u6, rfl, _⟩ := trod_i j3
      obtain ⟨u7, rfl, _⟩ := trod_i j4
      simp only [List.drop_succ_cons, List.drop_zero, List.take_succ_cons, List.take_zero] at j1 j2
      obtain ⟨ts, k2', _, _, _, htl, hhh⟩ := DataW.trod_struct Try.underlying28 j1
      obtain ⟨rs, k3', _, _, _, hrl, hrr⟩ := DataW.trod_struct Try.underlying30 j2
      match ts, htl, rs, hrl with
      | [t0, t1, t2], _, [r0, r1], _ =>
        have i0 : DataW.trod enc Try.prog W base sp held k2' 26 (([c1, c2, c3].drop 0).take (Try.prog.cellsOf 26)) = some t0 := hhh 0 _ rfl
        have i1 : DataW.trod enc Try.prog W base sp held k2' 26 (([c1, c2, c3].drop 1).take (Try.prog.cellsOf 26)) = some t1 := hhh 1 _ rfl
        have i2 : DataW.trod enc Try.prog W base sp held k2' 26 (([c1, c2, c3].drop 2).take (Try.prog.cellsOf 26)) = some t2 := hhh 2 _ rfl
        have i3 : DataW.trod enc Try.prog W base sp held k3' 26 (([c4, c5].drop 0).take (Try.prog.cellsOf 26)) = some r0 := hrr 0 _ rfl
        have i4 : DataW.trod enc Try.prog W base sp held k3' 26 (([c4, c5].drop 1).take (Try.prog.cellsOf 26)) = some r1 := hrr 1 _ rfl
        rw [c1u] at i0 i1 i2 i3 i4
        obtain ⟨u1, rfl, w1⟩ := trod_u i0
        obtain ⟨u2, rfl, w2⟩ := trod_u i1
        obtain ⟨u3, rfl, w3⟩ := trod_u i2
        obtain ⟨u4, rfl, w4⟩ := trod_u i3
        obtain ⟨u5, rfl, w5⟩ := trod_u i4
        exact ⟨⟨⟨u0, ⟨u1, u2, u3, u4, u5⟩, u6, u7⟩, by unfold U64 at w4; simp only; omega⟩, rfl, trivial⟩
end
set_option maxRecDepth 100000 in
theorem open_ask1 {H : Type} {enc : TypeId × Value → H} {W : World} {r : Reach} {b0 base : Nat} {sp : Nat → Bool} {held : Bool} {v : Value} {d : DataW H} {p : List MemPlace} (hv : Value.okWide Try.prog W r b0 32 v) (h : DataW.Trod enc Try.prog W base sp held 32 v d p) : ∃ x : Aw, v = .agg (akc x) := by
  obtain ⟨cs, rfl, hsz⟩ := okWide_struct Try.underlying32 hv
  obtain ⟨fuel, hf⟩ := h
  have hl : cs.toList.length = 8 := by
    have : cs.size = 8 := hsz.trans (by kernel_rfl)
    simpa using this
  obtain ⟨x, hx, _⟩ := trod_ask fuel cs.toList _ hl (by simpa [Value.cells] using hf)
  refine ⟨x, ?_⟩
  obtain ⟨l⟩ := cs
  have hx : l = EAk.enc x := hx
  rw [hx]
  rfl
end Go.Proofs.Ytifjjnnpoleinaa.Df
