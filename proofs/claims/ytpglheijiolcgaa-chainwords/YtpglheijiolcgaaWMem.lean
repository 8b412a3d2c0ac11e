import Derived.Test.YtpglheijiolcgaaWLst
import Derived.Test.YtpglheijiolcgaaCMem
namespace Go.Proofs.Ytpglheijiolcgaa.Wd
open Go.RowKit Go.Sort

/-- A chain's block and its list. -/
structure Ch (w : World) (cb fb ff : Nat) (v : Value) (l : List ByteArray) : Prop where
  blk : w.heap[cb]? = some (.cells #[fv fb, fv ff, v] 72 (0, 0))
  own : w.ownsRow 0 9 1 v l.length (flatP l)
  off : v.ownBlock ≠ some cb
section
variable {w w' : World} {cb fb ff : Nat} {v : Value} {l : List ByteArray}
theorem Ch.lt (h : Ch w cb fb ff v l) : cb < w.heap.size := (Array.getElem?_eq_some_iff.1 h.blk).1
theorem Ch.c0 (h : Ch w cb fb ff v l) : w.cell? ⟨cb, 0, none⟩ = some (fv fb) := by simp [World.cell?, h.blk]
theorem Ch.c1 (h : Ch w cb fb ff v l) : w.cell? ⟨cb, 1, none⟩ = some (fv ff) := by simp [World.cell?, h.blk]
theorem Ch.c2 (h : Ch w cb fb ff v l) : w.cell? ⟨cb, 2, none⟩ = some v := by simp [World.cell?, h.blk]
theorem Ch.fz (h : Ch w cb fb ff v l) : w.frozen? ⟨cb, 2, none⟩ = false := by simp [World.frozen?, h.blk]
theorem Ch.lst (h : Ch w cb fb ff v l) : Lst w v l := owns_lst h.own
theorem Ch.row (h : Ch w cb fb ff v l) : ∀ k, v.ownBlock = some k → k < w.heap.size := fun k hk => (h.own.lt k hk).2
theorem Ch.kp {S : Nat → Prop} (h : Ch w cb fb ff v l) (hk : Kp S w w') (h1 : ¬ S cb) (h2 : ∀ k, v.ownBlock = some k → ¬ S k) : Ch w' cb fb ff v l :=
  ⟨(hk.block cb h.lt h1).trans h.blk, owns_kp hk h.own h2, h.off⟩
theorem Ch.below (h : Ch w cb fb ff v l) (hb : Below w.heap.size w w') : Ch w' cb fb ff v l := h.kp (S := fun _ => False) (Kp.of_below hb) (fun h => h) (fun _ _ h => h)
/-- The list is set anew. -/
theorem Ch.set {v2 : Value} {l2 : List ByteArray} (h : Ch w cb fb ff v l) (ho : w.ownsRow 0 9 1 v2 l2.length (flatP l2)) (hoff : v2.ownBlock ≠ some cb) : Ch (w.setCell ⟨cb, 2, none⟩ v2) cb fb ff v2 l2 ∧ Kp (fun k => k = cb) w (w.setCell ⟨cb, 2, none⟩ v2) := by
  have e := setCell_eq_setRow w cb 2 _ _ _ v2 h.blk
  have hk : Kp (fun k => k = cb) w (w.setCell ⟨cb, 2, none⟩ v2) := by
    rw [e]
    exact ⟨rfl, rfl, rfl, by simp [World.setRow], fun k _ hne => setRow_other w cb k _ (by omega)⟩
  refine ⟨⟨?_, owns_kp hk ho (fun k hk he => hoff (he ▸ hk)), hoff⟩, hk⟩
  rw [e, setRow_heap w cb _ _ _ _ h.blk]
  simp
end
end Go.Proofs.Ytpglheijiolcgaa.Wd
