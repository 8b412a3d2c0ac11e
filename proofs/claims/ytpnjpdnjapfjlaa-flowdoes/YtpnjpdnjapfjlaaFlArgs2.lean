import Derived.Test.YtpnjpdnjapfjlaaFlArgs
import Derived.Test.YtpnjpdnjapfjlaaFlDoes
namespace Go.Proofs.Ytpnjpdnjapfjlaa.Cd
open Go.ChangeShapes Go.WideShapes Go.ChangeAt Go.RowKit Go.Joins

theorem cellsAk : Try.prog.cellsOf 50 = 5 := by kernel_rfl
set_option maxRecDepth 100000 in
theorem trod_ask {H : Type} {enc : TypeId × Value → H} {W : World} {base : Nat} {sp : Nat → Bool} {held : Bool} (fuel : Nat) (cs : List Value) (y : DataW H × List MemPlace) (hl : cs.length = 5) (h : DataW.trod enc Try.prog W base sp held fuel 50 cs = some y) : ∃ a : Ak, cs = EAk.enc a := by
  obtain ⟨xs, k, hk, hxy, _, hxl, hff⟩ := DataW.trod_struct Try.underlying50 h
  have c3 : Try.prog.cellsOf 29 = 3 := by kernel_rfl
  have c2 : Try.prog.cellsOf 31 = 2 := by kernel_rfl
  match cs, hl, xs, hxl with
  | [c0, c1, c4, c5, c6], _, [y0, y1], _ =>
    have k0 : DataW.trod enc Try.prog W base sp held k 29 (([c0, c1, c4, c5, c6].drop 0).take (Try.prog.cellsOf 29)) = some y0 := hff 0 _ rfl
    have k1 : DataW.trod enc Try.prog W base sp held k 31 (([c0, c1, c4, c5, c6].drop 3).take (Try.prog.cellsOf 31)) = some y1 := hff 1 _ rfl
    rw [c3] at k0
    rw [c2] at k1
    obtain ⟨t, e0, ht⟩ := trod_tm3 _ _ _ rfl k0
    obtain ⟨r, e1, hr⟩ := trod_rec _ _ _ rfl k1
    simp at e0 e1
    obtain ⟨f0, f1, f2⟩ := e0
    obtain ⟨f3, f4⟩ := e1
    subst f0 f1 f2 f3 f4
    exact ⟨⟨(t, r), ht, hr⟩, rfl⟩
end Go.Proofs.Ytpnjpdnjapfjlaa.Cd
