import Derived.Test.YtnclnagpfjmlcaaDFget
import Derived.Test.YtnclnagpfjmlcaaDSole
import Derived.Test.YtnclnagpfjmlcaaLFam
namespace Go.Proofs.Ytnclnagpfjmlcaa.Df
open Go.RowKit Go.Sort Wi

theorem flB_set (L : List UInt8) (k : Nat) (x : UInt8) : (fl EB L).set k (bv x) = fl EB (L.set k x) := by
  induction L generalizing k with
  | nil => simp [fl]
  | cons y L ih =>
    rw [fl_cons]
    cases k with
    | zero => simp [EB, fl]
    | succ k =>
      rw [List.set_cons_succ, fl_cons, ← ih k]
      simp [EB]
/-- What stands while DraftGets asks: the two lists that came in, the bytes that are read (its own), the two graphs. -/
structure Gs (w W : World) (v0 v1 : Value) (L T : List UInt8) (gi ci : Nat) (R : List UInt8) (M b6 b9 : Nat) (a : Int) (n1 e1 n2 e2 : Value) (xs ys : List NV) (es : List Edg) : Prop where
  bl : Below w.heap.size w W
  lb : Ls EB W v0 L
  lt : Ls EB W v1 T
  row : Ow W (.slice (some ⟨gi, 0, none⟩) R.length ci) R
  lo : w.heap.size ≤ gi
  hi : gi < M
  h6 : W.heap[b6]? = some (.cells (gvc a n1 e1) 25 (0, 0))
  h9 : W.heap[b9]? = some (.cells (gvc a n2 e2) 25 (0, 0))
  m6 : M ≤ b6
  m9 : M ≤ b9
  g1 : GO M W n1 e1 xs es
  g2 : GO M W n2 e2 ys es
  old : (∀ k, v0.ownBlock = some k → k < w.heap.size) ∧ (∀ k, v1.ownBlock = some k → k < w.heap.size)
section
variable {w W W' : World} {v0 v1 : Value} {L T : List UInt8} {gi ci : Nat} {R : List UInt8} {M b6 b9 : Nat} {a : Int} {n1 e1 n2 e2 : Value} {xs ys : List NV} {es : List Edg}
theorem Gs.go (h : Gs w W v0 v1 L T gi ci R M b6 b9 a n1 e1 n2 e2 xs ys es) (hb : Below W.heap.size W W') : Gs w W' v0 v1 L T gi ci R M b6 b9 a n1 e1 n2 e2 xs ys es :=
  ⟨h.bl.trans (hb.mono h.bl.size), h.lb.below hb, h.lt.below hb, owns_below h.row hb, h.lo, h.hi, (hb.block _ (tk_lt h.h6)).trans h.h6, (hb.block _ (tk_lt h.h9)).trans h.h9, h.m6, h.m9, h.g1.kp (S := fun _ => False) (Kp.of_below hb) (fun _ _ h => h), h.g2.kp (S := fun _ => False) (Kp.of_below hb) (fun _ _ h => h), h.old⟩
theorem Gs.put (h : Gs w W v0 v1 L T gi ci R M b6 b9 a n1 e1 n2 e2 xs ys es) (j : Nat) (x : UInt8) : Gs w (W.setCell ⟨gi, j, none⟩ (bv x)) v0 v1 L T gi ci (R.set j x) M b6 b9 a n1 e1 n2 e2 xs ys es := by
  have hrow := h.row
  unfold Ow at hrow
  obtain ⟨h1, h2⟩ := owns_cell0 (q := j) (bv x) hrow
  rw [flB_set] at h1
  have hlo := h.lo
  have hhi := h.hi
  have := h.m6
  have := h.m9
  refine ⟨h.bl.trans (h2.below h.bl.size (fun k e => by omega)), h2.ls h.lb (fun k hk e => by have := h.old.1 k hk; omega), h2.ls h.lt (fun k hk e => by have := h.old.2 k hk; omega), ?_, hlo, hhi, (h2.block _ (tk_lt h.h6) (by omega)).trans h.h6, (h2.block _ (tk_lt h.h9) (by omega)).trans h.h9, h.m6, h.m9, h.g1.kp h2 (fun k hk e => by omega), h.g2.kp h2 (fun k hk e => by omega), h.old⟩
  unfold Ow
  rw [List.length_set]
  exact h1
/-- The bytes that are read: all but the last. -/
theorem Gs.ins (h : Gs w W v0 v1 L T gi ci R M b6 b9 a n1 e1 n2 e2 xs ys es) (n : Nat) (hn : n ≤ R.length) : Ls EB W (.slice (some ⟨gi, 0, none⟩) n ci) (R.take n) := (ow_ls h.row).cut hn ci
theorem Gs.at (h : Gs w W v0 v1 L T gi ci R M b6 b9 a n1 e1 n2 e2 xs ys es) {j : Nat} {x : UInt8} (hj : R[j]? = some x) : W.cell? ⟨gi, j, none⟩ = some (bv x) ∧ W.frozen? ⟨gi, j, none⟩ = false ∧ gi < W.heap.size := by
  have hrow := h.row
  unfold Ow at hrow
  have h1 := hrow.cells (g := gi) rfl j _ (fl_eb _ j x hj)
  rw [addA, Nat.zero_add] at h1
  exact ⟨h1, owns_frozen0 hrow j, (owns_rd hrow gi rfl).2⟩
theorem Gs.cells (h : Gs w W v0 v1 L T gi ci R M b6 b9 a n1 e1 n2 e2 xs ys es) : (∀ i, W.cell? ⟨b6, i, none⟩ = (gvc a n1 e1)[i]?) ∧ (∀ i, W.cell? ⟨b9, i, none⟩ = (gvc a n2 e2)[i]?) ∧ b6 < W.heap.size ∧ b9 < W.heap.size := ⟨(tk_store h.h6).1, (tk_store h.h9).1, tk_lt h.h6, tk_lt h.h9⟩
end
/-- The two graphs are alike. -/
theorem Gs.same {w W : World} {v0 v1 : Value} {L T : List UInt8} {gi ci : Nat} {R : List UInt8} {M b6 b9 : Nat} {n1 e1 n2 e2 : Value} {xs ys : List NV} (h : Gs w W v0 v1 L T gi ci R M b6 b9 (get L).1.arity n1 e1 n2 e2 xs ys (get L).1.edges) (hx : xs.map NV.n = (get L).1.nodes) (hy : ys.map NV.n = (get L).1.nodes) :
    Calls Try.prog 11 #[.agg (gvc (get L).1.arity n1 e1), .agg (gvc (get L).1.arity n2 e2)] W fun e w' => e = .returned (.bool true) ∧ Gr W w' :=
  same_eq (hx.trans hy.symm) W (vg_gr hx h.g1) (vg_gr hy h.g2)
end Go.Proofs.Ytnclnagpfjmlcaa.Df
