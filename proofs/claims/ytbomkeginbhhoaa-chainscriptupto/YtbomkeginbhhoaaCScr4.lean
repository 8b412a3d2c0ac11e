import Derived.Test.YtbomkeginbhhoaaCScr3
namespace Go.Proofs.Ytbomkeginbhhoaa
open Go.RowKit Go.Sort

theorem heap_at (w : World) (o : Obj) {n : Nat} (hn : n = w.heap.size) : (w.alloc o).heap[n]? = some o := by rw [hn]; exact heap_new' w o
theorem heap_on (w : World) (o : Obj) {k : Nat} {x : Obj} (h : w.heap[k]? = some x) : (w.alloc o).heap[k]? = some x :=
  ((World.grownBy_alloc w o none).block k (Array.getElem?_eq_some_iff.1 h).1 (by simp)).trans h

/-- The first chain of both. -/
theorem Scr.init {w0 w2 : World} {cb0 fb ff : Nat} (r : Int) (hb : Below w0.heap.size w0 w2) (hc : Ch w2 cb0 fb ff (.slice none 0 0) []) (h0 : w0.heap.size ≤ cb0) :
    ∃ ow, Scr w0 (((w2.alloc (.cells #[.pointer (some ⟨cb0, 0, none⟩)] 23)).alloc (.cells #[.int .i64 r, .slice none 0 0] 51)).alloc (.cells #[.pointer (some ⟨w2.heap.size + 1, 0, none⟩)] 49)) r fb ff 1 0
      (fun _ => cb0) (fun _ => w2.heap.size + 1) (fun _ => .slice none 0 0) (fun _ => .slice none 0 0) (fun _ => []) (fun _ => .slice none 0 0) (fun _ => .slice none 0 0) (fun _ => []) ow (.slice (some ⟨w2.heap.size, 0, none⟩) 1 1) (.slice (some ⟨w2.heap.size + 2, 0, none⟩) 1 1) (.slice none 0 0) := by
  have hz := hb.size
  have hcl := hc.lt
  have G : Gr w2 (((w2.alloc (.cells #[.pointer (some ⟨cb0, 0, none⟩)] 23)).alloc (.cells #[.int .i64 r, .slice none 0 0] 51)).alloc (.cells #[.pointer (some ⟨w2.heap.size + 1, 0, none⟩)] 49)) := (((Gr.refl w2).alloc _).alloc _).alloc _
  have nilTg : ∀ (ow : Nat → Nat) (t : Nat), Tg ow t (.slice none 0 0) := fun ow t g hg => by simp [Value.ownBlock] at hg
  refine ⟨fun k => if k < w0.heap.size then 14 else if k = cb0 then 3 else if k = w2.heap.size then 0 else if k = w2.heap.size + 1 then 4 else 1, ⟨fun i hi => ?_, fun i hi => ?_, ⟨?_, fun g hg => ?_⟩, ⟨?_, fun g hg => ?_⟩, ⟨World.ownsRow_nil _ _ _ _, nilTg _ _⟩, fun p hp => absurd hp (Nat.not_lt_zero _), fun k hk => if_pos hk, Nat.le_trans hz G.size, hb.trans (G.below.mono hz), by decide⟩⟩
  · have hi0 : i = 0 := by omega
    subst hi0
    refine ⟨hc.below G.below, ?_, nilTg _ _⟩
    simp only [if_neg (Nat.not_lt.2 h0), if_true]
  · have hi0 : i = 0 := by omega
    subst hi0
    refine ⟨⟨heap_on _ _ (heap_at _ _ (by simp)), World.ownsRow_nil _ _ _ _, by simp [Value.ownBlock]⟩, ?_, nilTg _ _⟩
    simp only [if_neg (show ¬ w2.heap.size + 1 < w0.heap.size by omega), if_neg (show ¬ w2.heap.size + 1 = cb0 by omega), if_neg (show ¬ w2.heap.size + 1 = w2.heap.size by omega), if_true]
  · exact ⟨rfl, Or.inr ⟨w2.heap.size, 1, _, rfl, Nat.zero_le _, heap_on _ _ (heap_on _ _ (heap_at _ _ rfl)), Nat.le_refl _, by unfold maxLen; omega, rfl, rfl⟩⟩
  · have : g = w2.heap.size := by simpa [Value.ownBlock] using hg.symm
    subst this
    simp only [if_neg (show ¬ w2.heap.size < w0.heap.size by omega), if_neg (show ¬ w2.heap.size = cb0 by omega), if_true]
  · exact ⟨rfl, Or.inr ⟨w2.heap.size + 2, 1, _, rfl, Nat.zero_le _, heap_at _ _ (by simp), Nat.le_refl _, by unfold maxLen; omega, rfl, rfl⟩⟩
  · have : g = w2.heap.size + 2 := by simpa [Value.ownBlock] using hg.symm
    subst this
    simp only [if_neg (show ¬ w2.heap.size + 2 < w0.heap.size by omega), if_neg (show ¬ w2.heap.size + 2 = cb0 by omega), if_neg (show ¬ w2.heap.size + 2 = w2.heap.size by omega), if_neg (show ¬ w2.heap.size + 2 = w2.heap.size + 1 by omega)]
end Go.Proofs.Ytbomkeginbhhoaa
