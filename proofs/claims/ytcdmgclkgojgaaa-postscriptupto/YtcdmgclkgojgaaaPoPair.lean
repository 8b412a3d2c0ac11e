import Derived.Test.YtcdmgclkgojgaaaRows
import Derived.Test.YtcdmgclkgojgaaaLRow
namespace Go.Proofs.Ytcdmgclkgojgaaa
open Go.RowKit Go.Sort
/-- Pairs in a row. -/
def EP : El (Int × Int) where
  k := 2
  enc x := [.int .i64 x.1, .int .i64 x.2]
  len _ := rfl
  one x u hu := by
    simp at hu
    rcases hu with rfl | rfl <;> rfl
theorem p_at {w : World} {v : Value} {ts : List (Int × Int)} (h : Ls EP w v ts) {j : Nat} {x : Int × Int} (hj : ts[j]? = some x) :
    ∃ b off c, v = .slice (some ⟨b, off, none⟩) ts.length c ∧ b < w.heap.size ∧ w.cell? ⟨b, off + j * 2, none⟩ = some (.int .i64 x.1) ∧ w.cell? ⟨b, off + j * 2 + 1, none⟩ = some (.int .i64 x.2) := by
  obtain ⟨b, off, c, hv, hb, hc⟩ := h.get hj
  exact ⟨b, off, c, hv, hb, hc 0 _ (by decide) rfl, hc 1 _ (by decide) rfl⟩
theorem infoP : (Try.prog.info? 81).map (fun i => (i.zero, i.size, i.bytes)) = some (some (.agg #[.int .i64 0, .int .i64 0]), 2, 16) := by kernel_rfl
/-- The pairs of a row of links on which something is. -/
def bsR (g : Nat → Nat → Nat) (F : Nat) : Nat → List (Int × Int)
  | 0 => []
  | n + 1 => bsR g F n ++ (if 0 < g F n then [((F : Int), (n : Int))] else [])
def bsA (g : Nat → Nat → Nat) (W : Nat) : Nat → List (Int × Int)
  | 0 => []
  | n + 1 => bsA g W n ++ bsR g n W
theorem bsR_le (g : Nat → Nat → Nat) (F n : Nat) : (bsR g F n).length ≤ n := by
  induction n with
  | zero => simp [bsR]
  | succ n ih =>
    rw [bsR, List.length_append]
    split <;> simp <;> omega
theorem bsA_le (g : Nat → Nat → Nat) (W n : Nat) : (bsA g W n).length ≤ n * W := by
  induction n with
  | zero => simp [bsA]
  | succ n ih =>
    rw [bsA, List.length_append, Nat.succ_mul]
    have := bsR_le g n W
    omega
end Go.Proofs.Ytcdmgclkgojgaaa
