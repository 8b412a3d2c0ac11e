import Derived.Test.YtghpekkncfckaaaCaBase
namespace Go.Proofs.Ytghpekkncfckaaa.Ca
open Go.RowKit Go.Sort
attribute [local go_sem ↓] Go.wp_at_zero Go.wp_at_succ

set_option maxHeartbeats 2000000 in
set_option maxRecDepth 100000 in
theorem compare_any (x y : Ct) (w : World) : Calls Try.prog 42 #[cv x, cv y] w fun e w' => e = .returned (.int .i64 (ccm x y)) ∧ Gr w w' := by
  have hmx : Try.prog.follows .mixedOrders = true := by kernel_rfl
  have H1 := fun W => Compare_any x.a x.b x.c y.a y.b y.c W
  unfold ccm
  generalize tcmp x.a x.b x.c y.a y.b y.c = p at *
  obtain ⟨W0, hW0⟩ : ∃ W, W = ((w.alloc (.cells #[.int .u64 x.a, .int .u64 x.b, .int .u64 x.c, .int .u64 x.k, .int .u64 x.v] 36)).alloc (.cells #[.int .u64 y.a, .int .u64 y.b, .int .u64 y.c, .int .u64 y.k, .int .u64 y.v] 36)).drew := ⟨_, rfl⟩
  have hz0 : w.heap.size + 1 < W0.heap.size := by rw [hW0]; show _ < ((w.alloc _).alloc _).heap.size; simp
  have S0 : (W0.cell? ⟨w.heap.size, 0, none⟩ = some (.int .u64 x.a) ∧ W0.cell? ⟨w.heap.size, 1, none⟩ = some (.int .u64 x.b) ∧ W0.cell? ⟨w.heap.size, 2, none⟩ = some (.int .u64 x.c) ∧ W0.cell? ⟨w.heap.size, 3, none⟩ = some (.int .u64 x.k) ∧ W0.cell? ⟨w.heap.size, 4, none⟩ = some (.int .u64 x.v) ∧ W0.cell? ⟨w.heap.size + 1, 0, none⟩ = some (.int .u64 y.a) ∧ W0.cell? ⟨w.heap.size + 1, 1, none⟩ = some (.int .u64 y.b) ∧ W0.cell? ⟨w.heap.size + 1, 2, none⟩ = some (.int .u64 y.c) ∧ W0.cell? ⟨w.heap.size + 1, 3, none⟩ = some (.int .u64 y.k) ∧ W0.cell? ⟨w.heap.size + 1, 4, none⟩ = some (.int .u64 y.v)) ∧ Gr W0 W0 := by
    refine ⟨?_, Gr.refl _⟩
    rw [hW0]
    have b0 : ((w.alloc (.cells #[.int .u64 x.a, .int .u64 x.b, .int .u64 x.c, .int .u64 x.k, .int .u64 x.v] 36)).alloc (.cells #[.int .u64 y.a, .int .u64 y.b, .int .u64 y.c, .int .u64 y.k, .int .u64 y.v] 36)).drew.heap[w.heap.size]? = some (.cells #[.int .u64 x.a, .int .u64 x.b, .int .u64 x.c, .int .u64 x.k, .int .u64 x.v] 36 (0, 0)) := (Below.heap_alloc _ _ _ (by simp)).trans (heap_new' _ _)
    have b1 : ((w.alloc (.cells #[.int .u64 x.a, .int .u64 x.b, .int .u64 x.c, .int .u64 x.k, .int .u64 x.v] 36)).alloc (.cells #[.int .u64 y.a, .int .u64 y.b, .int .u64 y.c, .int .u64 y.k, .int .u64 y.v] 36)).drew.heap[w.heap.size + 1]? = some (.cells #[.int .u64 y.a, .int .u64 y.b, .int .u64 y.c, .int .u64 y.k, .int .u64 y.v] 36 (0, 0)) := by
      have := heap_new' (w.alloc (.cells #[.int .u64 x.a, .int .u64 x.b, .int .u64 x.c, .int .u64 x.k, .int .u64 x.v] 36)) (.cells #[.int .u64 y.a, .int .u64 y.b, .int .u64 y.c, .int .u64 y.k, .int .u64 y.v] 36)
      rw [show (w.alloc (.cells #[.int .u64 x.a, .int .u64 x.b, .int .u64 x.c, .int .u64 x.k, .int .u64 x.v] 36)).heap.size = w.heap.size + 1 by simp] at this
      exact this
    refine ⟨?_, ?_, ?_, ?_, ?_, ?_, ?_, ?_, ?_, ?_⟩ <;> (simp only [World.cell?, b0, b1]; rfl)
  have keepB : ∀ W W' : World, ((W.cell? ⟨w.heap.size, 0, none⟩ = some (.int .u64 x.a) ∧ W.cell? ⟨w.heap.size, 1, none⟩ = some (.int .u64 x.b) ∧ W.cell? ⟨w.heap.size, 2, none⟩ = some (.int .u64 x.c) ∧ W.cell? ⟨w.heap.size, 3, none⟩ = some (.int .u64 x.k) ∧ W.cell? ⟨w.heap.size, 4, none⟩ = some (.int .u64 x.v) ∧ W.cell? ⟨w.heap.size + 1, 0, none⟩ = some (.int .u64 y.a) ∧ W.cell? ⟨w.heap.size + 1, 1, none⟩ = some (.int .u64 y.b) ∧ W.cell? ⟨w.heap.size + 1, 2, none⟩ = some (.int .u64 y.c) ∧ W.cell? ⟨w.heap.size + 1, 3, none⟩ = some (.int .u64 y.k) ∧ W.cell? ⟨w.heap.size + 1, 4, none⟩ = some (.int .u64 y.v)) ∧ Gr W0 W) → Gr W W' → ((W'.cell? ⟨w.heap.size, 0, none⟩ = some (.int .u64 x.a) ∧ W'.cell? ⟨w.heap.size, 1, none⟩ = some (.int .u64 x.b) ∧ W'.cell? ⟨w.heap.size, 2, none⟩ = some (.int .u64 x.c) ∧ W'.cell? ⟨w.heap.size, 3, none⟩ = some (.int .u64 x.k) ∧ W'.cell? ⟨w.heap.size, 4, none⟩ = some (.int .u64 x.v) ∧ W'.cell? ⟨w.heap.size + 1, 0, none⟩ = some (.int .u64 y.a) ∧ W'.cell? ⟨w.heap.size + 1, 1, none⟩ = some (.int .u64 y.b) ∧ W'.cell? ⟨w.heap.size + 1, 2, none⟩ = some (.int .u64 y.c) ∧ W'.cell? ⟨w.heap.size + 1, 3, none⟩ = some (.int .u64 y.k) ∧ W'.cell? ⟨w.heap.size + 1, 4, none⟩ = some (.int .u64 y.v)) ∧ Gr W0 W') := fun W W' h hb => by
    have q0 : w.heap.size < W.heap.size := by have := h.2.size; omega
    have q1 : w.heap.size + 1 < W.heap.size := by have := h.2.size; omega
    exact ⟨⟨(hb.cell q0).trans h.1.1, (hb.cell q0).trans h.1.2.1, (hb.cell q0).trans h.1.2.2.1, (hb.cell q0).trans h.1.2.2.2.1, (hb.cell q0).trans h.1.2.2.2.2.1, (hb.cell q1).trans h.1.2.2.2.2.2.1, (hb.cell q1).trans h.1.2.2.2.2.2.2.1, (hb.cell q1).trans h.1.2.2.2.2.2.2.2.1, (hb.cell q1).trans h.1.2.2.2.2.2.2.2.2.1, (hb.cell q1).trans h.1.2.2.2.2.2.2.2.2.2⟩, h.2.trans hb⟩
  have HG : Gr w W0 := by rw [hW0]; exact (((Gr.refl _).alloc _).alloc _).drew
  go_enter Try.func42, Try.ntmps42
  go_wp2_with fail
  go_region_held3 (fun W => (W.cell? ⟨w.heap.size, 0, none⟩ = some (.int .u64 x.a) ∧ W.cell? ⟨w.heap.size, 1, none⟩ = some (.int .u64 x.b) ∧ W.cell? ⟨w.heap.size, 2, none⟩ = some (.int .u64 x.c) ∧ W.cell? ⟨w.heap.size, 3, none⟩ = some (.int .u64 x.k) ∧ W.cell? ⟨w.heap.size, 4, none⟩ = some (.int .u64 x.v) ∧ W.cell? ⟨w.heap.size + 1, 0, none⟩ = some (.int .u64 y.a) ∧ W.cell? ⟨w.heap.size + 1, 1, none⟩ = some (.int .u64 y.b) ∧ W.cell? ⟨w.heap.size + 1, 2, none⟩ = some (.int .u64 y.c) ∧ W.cell? ⟨w.heap.size + 1, 3, none⟩ = some (.int .u64 y.k) ∧ W.cell? ⟨w.heap.size + 1, 4, none⟩ = some (.int .u64 y.v)) ∧ Gr W0 W)
    (first | (rw [← hW0]; exact S0) | exact keepB _ _ (by assumption) (by assumption) | exact keepB _ _ (by assumption) ((Gr.refl _).alloc _) | assumption)
    (first | (go_at_call 51; refine (H1 _).mono ?_; rintro e w2 ⟨rfl, g2⟩) | (go_at_call 52; refine (cmp64_any _ _ _).mono ?_; rintro e w1 ⟨rfl, rfl⟩) | (go_at_call 50; refine (orInt_any p (c64 x.k y.k) (c64 x.v y.v) _ _ (by simp) (by simp) (by simp)).mono ?_; rintro e w3 ⟨rfl, rfl⟩))
  go_wp2
  go_ret
  rw [← hW0] at g2
  exact ⟨rfl, HG.trans (g2.alloc _)⟩
end Go.Proofs.Ytghpekkncfckaaa.Ca
