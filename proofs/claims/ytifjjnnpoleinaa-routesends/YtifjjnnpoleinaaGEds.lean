import Derived.Test.YtifjjnnpoleinaaJ1
namespace Go.Proofs.Ytifjjnnpoleinaa.Df
open Go.RowKit Go.Sort Go.Shelf
attribute [local go_sem] Oper.semAt_some

/-- What is left of a list that is left behind so many. -/
def cutL (L : List Int) (m : Int) : List Int := if 0 ≤ m then L.take m.toNat else L
theorem edN_len {B gb : Nat} {g : Gph} {w : World} (h : Gm B w gb g) (k : Int) : (edN g k).length ≤ 48 := by
  obtain ⟨nv, ev, fv, pv, ys, ss, h⟩ := h
  have h2 := h.ok.el
  unfold edN
  split
  · have h1 := edgesU_length g.nodes g.edges k.toNat g.edges.length
    omega
  · simp
theorem cutL_all {L : List Int} {m : Int} (h : m < 0 ∨ (L.length : Int) ≤ m) : cutL L m = L := by
  unfold cutL
  split
  · exact List.take_of_length_le (by omega)
  · rfl
theorem cutL_part {L qs : List Int} {m : Int} (h : qs <+: L) (hm : m = (qs.dropLast.length : Nat)) : cutL L m = qs.dropLast := by
  obtain ⟨r, rfl⟩ := h
  unfold cutL
  rw [if_pos (by omega), hm, Int.toNat_natCast]
  simp only [List.length_dropLast]
  rw [List.take_append_of_le_length (by omega), List.dropLast_eq_take]
theorem infoInt : (Try.prog.info? 3).map (fun i => (i.zero, i.size, i.bytes)) = some (some (.int .i64 0), 1, 8) := by kernel_rfl
end Go.Proofs.Ytifjjnnpoleinaa.Df
