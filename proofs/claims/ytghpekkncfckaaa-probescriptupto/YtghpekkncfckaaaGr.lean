import Derived.WalkKit
import Derived.WalkSpells
import Derived.Sort.Grow
import Derived.Deep.Draws
namespace Go.Proofs.Ytghpekkncfckaaa
open Go.RowKit Go.Sort

/-- Draws, and new blocks behind the heap: nothing else. -/
def Gr (w v : World) : Prop := ∃ q os, v = grow (w.drewN q) os
theorem Gr.refl (w : World) : Gr w w := ⟨0, #[], by rw [grow_empty]; rfl⟩
theorem Gr.alloc {w v : World} (h : Gr w v) (o : Obj) : Gr w (v.alloc o) := by
  obtain ⟨q, os, rfl⟩ := h
  exact ⟨q, os ++ #[o], by rw [alloc_eq_grow, grow_grow]⟩
theorem Gr.drew {w v : World} (h : Gr w v) : Gr w v.drew := by
  obtain ⟨q, os, rfl⟩ := h
  exact ⟨q + 1, os, rfl⟩
theorem Gr.drewN {w v : World} (h : Gr w v) (n : Nat) : Gr w (v.drewN n) := by
  obtain ⟨q, os, rfl⟩ := h
  exact ⟨q + n, os, by simp only [World.drewN, grow, Nat.add_assoc]⟩
theorem Gr.grown {w v : World} (h : Gr w v) (os : Array Obj) : Gr w (grow v os) := by
  obtain ⟨q, os', rfl⟩ := h
  exact ⟨q, os' ++ os, by rw [grow_grow]⟩
theorem Gr.trans {u v w : World} (h : Gr u v) (k : Gr v w) : Gr u w := by
  obtain ⟨q, os, rfl⟩ := k
  exact (h.drewN q).grown os
theorem Gr.below {w v : World} (h : Gr w v) : Below w.heap.size w v := by
  obtain ⟨q, os, rfl⟩ := h
  exact ⟨rfl, rfl, rfl, by simp [World.drewN], fun k hk => heap_grow_old (w.drewN q) os hk⟩
theorem Gr.size {w v : World} (h : Gr w v) : w.heap.size ≤ v.heap.size := h.below.size
theorem Gr.cell {w v : World} (h : Gr w v) {b o : Nat} (hb : b < w.heap.size) : v.cell? ⟨b, o, none⟩ = w.cell? ⟨b, o, none⟩ := h.below.cell (p := ⟨b, o, none⟩) hb
theorem Gr.frozen {w v : World} (h : Gr w v) {b o : Nat} (hb : b < w.heap.size) : v.frozen? ⟨b, o, none⟩ = w.frozen? ⟨b, o, none⟩ := h.below.frozen (p := ⟨b, o, none⟩) hb
/-- All old cells and marks, as two rules for the walk. -/
theorem Gr.cells {w v : World} (h : Gr w v) : (∀ b o, b < w.heap.size → v.cell? ⟨b, o, none⟩ = w.cell? ⟨b, o, none⟩) ∧ (∀ b o, b < w.heap.size → v.frozen? ⟨b, o, none⟩ = w.frozen? ⟨b, o, none⟩) :=
  ⟨fun _ _ hb => h.cell hb, fun _ _ hb => h.frozen hb⟩
theorem below_cells {W w1 : World} (hb : Below W.heap.size W w1) : (∀ b o, b < W.heap.size → w1.cell? ⟨b, o, none⟩ = W.cell? ⟨b, o, none⟩) ∧ (∀ b o, b < W.heap.size → w1.frozen? ⟨b, o, none⟩ = W.frozen? ⟨b, o, none⟩) :=
  ⟨fun b o h => hb.cell (p := ⟨b, o, none⟩) h, fun b o h => hb.frozen (p := ⟨b, o, none⟩) h⟩
/-- A time's three numbers as a value. -/
abbrev tm (a b c : Int) : Value := .agg #[.int .u64 a, .int .u64 b, .int .u64 c]
end Go.Proofs.Ytghpekkncfckaaa
