import Derived.Test.YtinggeflllgdmaaSoOn
namespace Go.Proofs.Ytinggeflllgdmaa
open Go.RowKit Go.Sort
/-- A step of a script. -/
structure Opx where
  kd : Int
  on : Int
  t : T3
instance : Inhabited Opx := ⟨⟨0, 0, 0, 0, 0⟩⟩
/-- Steps as elements of lists. -/
def EO : El Opx where
  k := 5
  enc x := [.int .i64 x.kd, .int .i64 x.on, .int .u64 x.t.1, .int .u64 x.t.2.1, .int .u64 x.t.2.2]
  len _ := rfl
  one x u hu := by
    simp at hu
    rcases hu with rfl | rfl | rfl | rfl | rfl <;> rfl
theorem Ls.atO {w : World} {v : Value} {ts : List Opx} (h : Ls EO w v ts) {j : Nat} {x : Opx} (hj : ts[j]? = some x) :
    ∃ b off c, v = .slice (some ⟨b, off, none⟩) ts.length c ∧ b < w.heap.size ∧ w.cell? ⟨b, off + j * 5, none⟩ = some (.int .i64 x.kd) ∧ w.cell? ⟨b, off + j * 5 + 1, none⟩ = some (.int .i64 x.on) ∧ w.cell? ⟨b, off + j * 5 + 2, none⟩ = some (.int .u64 x.t.1) ∧ w.cell? ⟨b, off + j * 5 + 3, none⟩ = some (.int .u64 x.t.2.1) ∧ w.cell? ⟨b, off + j * 5 + 4, none⟩ = some (.int .u64 x.t.2.2) := by
  obtain ⟨b, off, c, hv, hb, hc⟩ := h.get hj
  exact ⟨b, off, c, hv, hb, hc 0 _ (by decide) rfl, hc 1 _ (by decide) rfl, hc 2 _ (by decide) rfl, hc 3 _ (by decide) rfl, hc 4 _ (by decide) rfl⟩
end Go.Proofs.Ytinggeflllgdmaa
