import Derived.Test.YtnclnagpfjmlcaaVRd2
import Derived.Test.YtnclnagpfjmlcaaDGraph
namespace Go.Proofs.Ytnclnagpfjmlcaa.Wi
open Go.RowKit Go.Sort Df
attribute [local go_sem ↓] Go.wp_at_zero Go.wp_at_succ

/-- The document's front: its block and its bytes. -/
structure Ft (w : World) (fb : Nat) (v : Value) (L : List UInt8) (a e bd : Nat) : Prop where
  blk : w.heap[fb]? = some (.cells #[v, .int .i64 (a : Nat), .int .i64 (e : Nat), .int .i64 (bd : Nat)] 83 (0, 0))
  ls : Ls EB w v L
  le : a ≤ L.length
  off : v.ownBlock ≠ some fb
  big : L.length ≤ 140737488355328
section
variable {w w' : World} {fb a e bd : Nat} {v : Value} {L : List UInt8}
theorem Ft.lt (h : Ft w fb v L a e bd) : fb < w.heap.size := (Array.getElem?_eq_some_iff.1 h.blk).1
theorem Ft.c0 (h : Ft w fb v L a e bd) : w.cell? ⟨fb, 0, none⟩ = some v := by simp [World.cell?, h.blk]
theorem Ft.c1 (h : Ft w fb v L a e bd) : w.cell? ⟨fb, 1, none⟩ = some (.int .i64 (a : Nat)) := by simp [World.cell?, h.blk]
theorem Ft.c2 (h : Ft w fb v L a e bd) : w.cell? ⟨fb, 2, none⟩ = some (.int .i64 (e : Nat)) := by simp [World.cell?, h.blk]
theorem Ft.c3 (h : Ft w fb v L a e bd) : w.cell? ⟨fb, 3, none⟩ = some (.int .i64 (bd : Nat)) := by simp [World.cell?, h.blk]
theorem Ft.fz (h : Ft w fb v L a e bd) (o : Nat) : w.frozen? ⟨fb, o, none⟩ = false := by simp [World.frozen?, h.blk]
theorem Ft.kp {S : Nat → Prop} (h : Ft w fb v L a e bd) (hk : Kp S w w') (h1 : ¬ S fb) (h2 : ∀ k, v.ownBlock = some k → ¬ S k) : Ft w' fb v L a e bd :=
  ⟨(hk.block fb h.lt h1).trans h.blk, hk.ls h.ls h2, h.le, h.off, h.big⟩
theorem Ft.below (h : Ft w fb v L a e bd) (hb' : Below w.heap.size w w') : Ft w' fb v L a e bd := h.kp (S := fun _ => False) (Kp.of_below hb') (fun h => h) (fun _ _ h => h)
theorem ft_set {c0 c1 c2 c3 : Value} (h : w.heap[fb]? = some (.cells #[c0, c1, c2, c3] 83 (0, 0))) :
    (∀ u, (w.setCell ⟨fb, 1, none⟩ u).heap[fb]? = some (.cells #[c0, u, c2, c3] 83 (0, 0)) ∧ Kp (fun k => k = fb) w (w.setCell ⟨fb, 1, none⟩ u)) ∧ (∀ u, (w.setCell ⟨fb, 2, none⟩ u).heap[fb]? = some (.cells #[c0, c1, u, c3] 83 (0, 0)) ∧ Kp (fun k => k = fb) w (w.setCell ⟨fb, 2, none⟩ u)) ∧ (∀ u, (w.setCell ⟨fb, 3, none⟩ u).heap[fb]? = some (.cells #[c0, c1, c2, u] 83 (0, 0)) ∧ Kp (fun k => k = fb) w (w.setCell ⟨fb, 3, none⟩ u)) := by
  refine ⟨fun u => ?_, fun u => ?_, fun u => ?_⟩
  · rw [setCell_eq_setRow w fb 1 _ _ _ u h]
    exact ⟨by rw [setRow_heap w fb _ _ _ _ h]; simp, rfl, rfl, rfl, by simp [World.setRow], fun k _ hne => setRow_other w fb k _ (by omega)⟩
  · rw [setCell_eq_setRow w fb 2 _ _ _ u h]
    exact ⟨by rw [setRow_heap w fb _ _ _ _ h]; simp, rfl, rfl, rfl, by simp [World.setRow], fun k _ hne => setRow_other w fb k _ (by omega)⟩
  · rw [setCell_eq_setRow w fb 3 _ _ _ u h]
    exact ⟨by rw [setRow_heap w fb _ _ _ _ h]; simp, rfl, rfl, rfl, by simp [World.setRow], fun k _ hne => setRow_other w fb k _ (by omega)⟩
theorem Ft.setAt (h : Ft w fb v L a e bd) (a2 : Nat) (ha : a2 ≤ L.length) : Ft (w.setCell ⟨fb, 1, none⟩ (.int .i64 (a2 : Nat))) fb v L a2 e bd ∧ Kp (fun k => k = fb) w (w.setCell ⟨fb, 1, none⟩ (.int .i64 (a2 : Nat))) := by
  obtain ⟨h1, h2⟩ := (ft_set h.blk).1 (.int .i64 (a2 : Nat))
  exact ⟨⟨h1, h2.ls h.ls (fun k hk e => h.off (e ▸ hk)), ha, h.off, h.big⟩, h2⟩
theorem Ft.setE (h : Ft w fb v L a e bd) (e2 b2 : Nat) : Ft ((w.setCell ⟨fb, 2, none⟩ (.int .i64 (e2 : Nat))).setCell ⟨fb, 3, none⟩ (.int .i64 (b2 : Nat))) fb v L a e2 b2 ∧ Kp (fun k => k = fb) w ((w.setCell ⟨fb, 2, none⟩ (.int .i64 (e2 : Nat))).setCell ⟨fb, 3, none⟩ (.int .i64 (b2 : Nat))) := by
  obtain ⟨h1, h2⟩ := (ft_set h.blk).2.1 (.int .i64 (e2 : Nat))
  obtain ⟨h3, h4⟩ := (ft_set h1).2.2 (.int .i64 (b2 : Nat))
  have h5 := h2.trans h4 (fun _ _ h => h)
  exact ⟨⟨h3, h5.ls h.ls (fun k hk e => h.off (e ▸ hk)), h.le, h.off, h.big⟩, h5⟩
end
/-- A front that has no error takes a fault down; else nothing. -/
theorem fault_any {fb a bd : Nat} {v : Value} {L : List UInt8} (at_ er : Nat) (w : World) (h : Ft w fb v L a 0 bd) : Calls Try.prog 34 #[.pointer (some ⟨fb, 0, none⟩), .int .i64 (at_ : Nat), .int .i64 (er : Nat)] w fun r w' => r = .returned (.tuple #[]) ∧ Ft w' fb v L a er at_ ∧ Kp (fun k => k = fb) w w' := by
  have x2 := h.c2
  have f2 := h.fz 2
  have x3 := h.c3
  have f3 := h.fz 3
  have HE := hid (h.setE er at_)
  have hlt := h.lt
  clear h
  go_enter Try.func34, Try.ntmps34
  go_wp2
  go_end0
  exact ⟨rfl, HE.out⟩
end Go.Proofs.Ytnclnagpfjmlcaa.Wi
