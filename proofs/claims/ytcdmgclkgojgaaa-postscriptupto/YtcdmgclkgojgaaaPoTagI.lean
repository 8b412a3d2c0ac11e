import Derived.Test.YtcdmgclkgojgaaaPoTotI
import Derived.Test.YtcdmgclkgojgaaaPoCopyI
namespace Go.Proofs.Ytcdmgclkgojgaaa.Pi
open Go.RowKit Go.Sort

/-- A post whose blocks bear the mark j. -/
def Pt (w : World) (tag : Nat → Nat) (j hb W N : Nat) (Q : Nat → List Th) : Prop := Pq w (fun k => tag k = j) hb W N Q
/-- What is new bears the mark j. -/
def tg (tag : Nat → Nat) (w : World) (j : Nat) : Nat → Nat := fun k => if k < w.heap.size then tag k else j
theorem tg_old {tag : Nat → Nat} {w : World} {j k : Nat} (h : k < w.heap.size) : tg tag w j k = tag k := by unfold tg; rw [if_pos h]
theorem tg_new {tag : Nat → Nat} {w : World} {j k : Nat} (h : w.heap.size ≤ k) : tg tag w j k = j := by unfold tg; rw [if_neg (by omega)]
section
variable {w w' : World} {tag : Nat → Nat} {i j hb W N : Nat} {Q : Nat → List Th}
theorem Pt.keep (h : Pt w tag i hb W N Q) (hij : i ≠ j) (hk : Kp (fun k => tag k = j) w w') : Pt w' (tg tag w j) i hb W N Q := by
  refine Pq.kp (h.mono (S' := fun k => k < w.heap.size ∧ tag k = i) (fun k hk h => ⟨hk, h⟩) (Nat.le_refl _)) hk (fun k _ h1 h2 => hij (h1.2.symm.trans h2)) |>.mono (fun k _ h => ?_) (Nat.le_refl _)
  rw [tg_old h.1]; exact h.2
theorem Pt.below (h : Pt w tag i hb W N Q) (hB : Below w.heap.size w w') (j : Nat) : Pt w' (tg tag w j) i hb W N Q := by
  refine Pq.below (h.mono (S' := fun k => k < w.heap.size ∧ tag k = i) (fun k hk h => ⟨hk, h⟩) (Nat.le_refl _)) hB |>.mono (fun k _ h => ?_) (Nat.le_refl _)
  rw [tg_old h.1]; exact h.2
theorem Pt.of_nx {N' : Nat} {Q' : Nat → List Th} (h : Pq w' (nx (fun k => tag k = j) w w') hb W N' Q') : Pt w' (tg tag w j) j hb W N' Q' := by
  refine h.mono (fun k _ hs => ?_) (Nat.le_refl _)
  unfold tg
  by_cases hk : k < w.heap.size
  · rw [if_pos hk]
    rcases hs with hs | hs
    · exact hs
    · omega
  · rw [if_neg hk]
theorem Pt.put (h : Pt w tag j hb W N Q) (f t : Int) (x : Th) (hN : (N + 1) * 8 ≤ 140737488355328) : Calls Try.prog 44 #[.pointer (some ⟨hb, 0, none⟩), .int .i64 f, .int .i64 t, tv x] w fun e w' => e = .returned (.int .i64 (pe W f t : Nat)) ∧ Hid (Pt w' (tg tag w j) j hb W (N + 1) (ptn W Q f t x) ∧ Kp (fun k => tag k = j) w w') := by
  refine (put_any f t x w h hN).mono ?_
  rintro e w' ⟨he, hP, hK⟩
  exact ⟨he, Pt.of_nx hP, hK⟩
theorem Pt.take (h : Pt w tag j hb W N Q) (f t : Int) (hN : N * 8 ≤ 140737488355328) : Calls Try.prog 46 #[.pointer (some ⟨hb, 0, none⟩), .int .i64 f, .int .i64 t] w fun e w' => e = .returned (lv (lk W Q f t 0)) ∧ Hid (Pt w' (tg tag w j) j hb W N (tkn W Q f t) ∧ Kp (fun k => tag k = j) w w') := by
  refine (take_any f t w h hN).mono ?_
  rintro e w' ⟨he, hP, hK⟩
  exact ⟨he, Pt.of_nx hP, hK⟩
theorem Pt.copy (h : Pt w tag i hb W N Q) (j : Nat) (hN : N * 8 ≤ 140737488355328) : Calls Try.prog 25 #[.pointer (some ⟨hb, 0, none⟩)] w fun e w' => e = .returned (.pointer (some ⟨w.heap.size, 0, none⟩)) ∧ Hid (Pt w' (tg tag w j) j w.heap.size W N Q ∧ Below w.heap.size w w') := by
  refine (copy_any w h hN).mono ?_
  rintro e w' ⟨he, hP, hB⟩
  exact ⟨he, hP.mono (fun k _ hk => tg_new hk.1) (Nat.le_refl _), hB⟩
end
end Go.Proofs.Ytcdmgclkgojgaaa.Pi
