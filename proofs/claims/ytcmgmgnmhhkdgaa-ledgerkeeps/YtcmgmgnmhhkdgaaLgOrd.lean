import Derived.Test.YtcmgmgnmhhkdgaaLgBase
namespace Go.Proofs.Ytcmgmgnmhhkdgaa
open Go.RowKit Go.Sort Go.Maps
attribute [local go_sem ↓] Go.wp_at_zero Go.wp_at_succ

set_option maxHeartbeats 1000000 in
theorem or2_any (p q : Int) (b : Nat) (w : World) (h0 : w.cell? ⟨b, 0, none⟩ = some (.int .i64 p)) (h1 : w.cell? ⟨b, 1, none⟩ = some (.int .i64 q)) :
    Calls Try.prog 46 #[.slice (some ⟨b, 0, none⟩) 2 2] w fun e w' => e = .returned (.int .i64 (or2 p q)) ∧ w' = w := by
  by_cases e0 : p = 0
  · subst e0
    by_cases e1 : q = 0
    · subst e1
      go_enter Try.func46, Try.ntmps46
      go_wp2
      refine wp_loop_rounds 3 ?_
      rw [rounds_succ]; go_wp2
      rw [rounds_succ]; go_wp2
      rw [rounds_succ]; go_wp2
      go_ret
      exact ⟨rfl, rfl⟩
    · have b1 : (q != 0) = true := by rw [bne_iff_ne]; exact e1
      have hr : or2 0 q = q := by simp [or2]
      rw [hr]
      clear hr
      go_enter Try.func46, Try.ntmps46
      go_wp2
      refine wp_loop_rounds 2 ?_
      rw [rounds_succ]; go_wp2
      rw [rounds_succ]; go_wp2
      go_ret
      exact ⟨rfl, rfl⟩
  · have b0 : (p != 0) = true := by rw [bne_iff_ne]; exact e0
    have hr : or2 p q = p := by simp [or2, e0]
    rw [hr]
    clear hr
    go_enter Try.func46, Try.ntmps46
    go_wp2
    refine wp_loop_rounds 1 ?_
    rw [rounds_succ]; go_wp2
    go_ret
    exact ⟨rfl, rfl⟩
set_option maxHeartbeats 1000000 in
theorem isNaNI_any (x : Int) (w : World) : Calls Try.prog 53 #[.int .i64 x] w fun e w' => e = .returned (.bool false) ∧ w' = w := by
  go_enter Try.func53, Try.ntmps53
  go_wp2
  go_ret
  exact ⟨rfl, rfl⟩
set_option maxHeartbeats 1000000 in
theorem cmpI_any (x y : Int) (w : World) : Calls Try.prog 47 #[.int .i64 x, .int .i64 y] w fun e w' => e = .returned (.int .i64 (c64 x y)) ∧ w' = w := by
  have H := fun v W => isNaNI_any v W
  go_enter Try.func47, Try.ntmps47
  go_wp2_with (go_at_call 53; refine (H _ _).mono ?_; rintro e w1 ⟨rfl, rfl⟩)
  all_goals go_ret
  all_goals refine ⟨?_, rfl⟩
  all_goals refine ret_int ?_
  all_goals unfold c64
  all_goals (repeat split) <;> omega
set_option maxHeartbeats 2000000 in
set_option maxRecDepth 100000 in
theorem order_any (s t : Sm) (w : World) : Calls Try.prog 39 #[mv s, mv t] w fun e w' => e = .returned (.int .i64 (scm s t)) ∧ Gr w w' := by
  have hmx : Try.prog.follows .mixedOrders = true := by kernel_rfl
  have H1 := fun W => cmpI_any s.1.1 t.1.1 W
  have H2 := fun W => Compare_any s.1.2.1 s.1.2.2.1 s.1.2.2.2 t.1.2.1 t.1.2.2.1 t.1.2.2.2 W
  unfold scm
  generalize c64 s.1.1 t.1.1 = p at *
  generalize tcmp s.1.2.1 s.1.2.2.1 s.1.2.2.2 t.1.2.1 t.1.2.2.1 t.1.2.2.2 = q at *
  obtain ⟨W0, hW0⟩ : ∃ W, W = ((w.alloc (.cells #[.int .i64 s.1.1, .int .u64 s.1.2.1, .int .u64 s.1.2.2.1, .int .u64 s.1.2.2.2] 35)).alloc (.cells #[.int .i64 t.1.1, .int .u64 t.1.2.1, .int .u64 t.1.2.2.1, .int .u64 t.1.2.2.2] 35)).drew := ⟨_, rfl⟩
  have hz0 : w.heap.size + 1 < W0.heap.size := by rw [hW0]; show _ < ((w.alloc _).alloc _).heap.size; simp
  have S0 : (W0.cell? ⟨w.heap.size, 0, none⟩ = some (.int .i64 s.1.1) ∧ W0.cell? ⟨w.heap.size, 1, none⟩ = some (.int .u64 s.1.2.1) ∧ W0.cell? ⟨w.heap.size, 2, none⟩ = some (.int .u64 s.1.2.2.1) ∧ W0.cell? ⟨w.heap.size, 3, none⟩ = some (.int .u64 s.1.2.2.2) ∧ W0.cell? ⟨w.heap.size + 1, 0, none⟩ = some (.int .i64 t.1.1) ∧ W0.cell? ⟨w.heap.size + 1, 1, none⟩ = some (.int .u64 t.1.2.1) ∧ W0.cell? ⟨w.heap.size + 1, 2, none⟩ = some (.int .u64 t.1.2.2.1) ∧ W0.cell? ⟨w.heap.size + 1, 3, none⟩ = some (.int .u64 t.1.2.2.2)) ∧ Gr W0 W0 := by
    refine ⟨?_, Gr.refl _⟩
    rw [hW0]
    have b0 : ((w.alloc (.cells #[.int .i64 s.1.1, .int .u64 s.1.2.1, .int .u64 s.1.2.2.1, .int .u64 s.1.2.2.2] 35)).alloc (.cells #[.int .i64 t.1.1, .int .u64 t.1.2.1, .int .u64 t.1.2.2.1, .int .u64 t.1.2.2.2] 35)).drew.heap[w.heap.size]? = some (.cells #[.int .i64 s.1.1, .int .u64 s.1.2.1, .int .u64 s.1.2.2.1, .int .u64 s.1.2.2.2] 35 (0, 0)) := (Below.heap_alloc _ _ _ (by simp)).trans (heap_new' _ _)
    have b1 : ((w.alloc (.cells #[.int .i64 s.1.1, .int .u64 s.1.2.1, .int .u64 s.1.2.2.1, .int .u64 s.1.2.2.2] 35)).alloc (.cells #[.int .i64 t.1.1, .int .u64 t.1.2.1, .int .u64 t.1.2.2.1, .int .u64 t.1.2.2.2] 35)).drew.heap[w.heap.size + 1]? = some (.cells #[.int .i64 t.1.1, .int .u64 t.1.2.1, .int .u64 t.1.2.2.1, .int .u64 t.1.2.2.2] 35 (0, 0)) := by
      have := heap_new' (w.alloc (.cells #[.int .i64 s.1.1, .int .u64 s.1.2.1, .int .u64 s.1.2.2.1, .int .u64 s.1.2.2.2] 35)) (.cells #[.int .i64 t.1.1, .int .u64 t.1.2.1, .int .u64 t.1.2.2.1, .int .u64 t.1.2.2.2] 35)
      rw [show (w.alloc (.cells #[.int .i64 s.1.1, .int .u64 s.1.2.1, .int .u64 s.1.2.2.1, .int .u64 s.1.2.2.2] 35)).heap.size = w.heap.size + 1 by simp] at this
      exact this
    refine ⟨?_, ?_, ?_, ?_, ?_, ?_, ?_, ?_⟩ <;> (simp only [World.cell?, b0, b1]; rfl)
  have keepB : ∀ W W' : World, ((W.cell? ⟨w.heap.size, 0, none⟩ = some (.int .i64 s.1.1) ∧ W.cell? ⟨w.heap.size, 1, none⟩ = some (.int .u64 s.1.2.1) ∧ W.cell? ⟨w.heap.size, 2, none⟩ = some (.int .u64 s.1.2.2.1) ∧ W.cell? ⟨w.heap.size, 3, none⟩ = some (.int .u64 s.1.2.2.2) ∧ W.cell? ⟨w.heap.size + 1, 0, none⟩ = some (.int .i64 t.1.1) ∧ W.cell? ⟨w.heap.size + 1, 1, none⟩ = some (.int .u64 t.1.2.1) ∧ W.cell? ⟨w.heap.size + 1, 2, none⟩ = some (.int .u64 t.1.2.2.1) ∧ W.cell? ⟨w.heap.size + 1, 3, none⟩ = some (.int .u64 t.1.2.2.2)) ∧ Gr W0 W) → Gr W W' → ((W'.cell? ⟨w.heap.size, 0, none⟩ = some (.int .i64 s.1.1) ∧ W'.cell? ⟨w.heap.size, 1, none⟩ = some (.int .u64 s.1.2.1) ∧ W'.cell? ⟨w.heap.size, 2, none⟩ = some (.int .u64 s.1.2.2.1) ∧ W'.cell? ⟨w.heap.size, 3, none⟩ = some (.int .u64 s.1.2.2.2) ∧ W'.cell? ⟨w.heap.size + 1, 0, none⟩ = some (.int .i64 t.1.1) ∧ W'.cell? ⟨w.heap.size + 1, 1, none⟩ = some (.int .u64 t.1.2.1) ∧ W'.cell? ⟨w.heap.size + 1, 2, none⟩ = some (.int .u64 t.1.2.2.1) ∧ W'.cell? ⟨w.heap.size + 1, 3, none⟩ = some (.int .u64 t.1.2.2.2)) ∧ Gr W0 W') := fun W W' h hb => by
    have q0 : w.heap.size < W.heap.size := by have := h.2.size; omega
    have q1 : w.heap.size + 1 < W.heap.size := by have := h.2.size; omega
    exact ⟨⟨(hb.cell q0).trans h.1.1, (hb.cell q0).trans h.1.2.1, (hb.cell q0).trans h.1.2.2.1, (hb.cell q0).trans h.1.2.2.2.1, (hb.cell q1).trans h.1.2.2.2.2.1, (hb.cell q1).trans h.1.2.2.2.2.2.1, (hb.cell q1).trans h.1.2.2.2.2.2.2.1, (hb.cell q1).trans h.1.2.2.2.2.2.2.2⟩, h.2.trans hb⟩
  have HG : Gr w W0 := by rw [hW0]; exact (((Gr.refl _).alloc _).alloc _).drew
  go_enter Try.func39, Try.ntmps39
  go_wp2_with fail
  go_region_held3 (fun W => (W.cell? ⟨w.heap.size, 0, none⟩ = some (.int .i64 s.1.1) ∧ W.cell? ⟨w.heap.size, 1, none⟩ = some (.int .u64 s.1.2.1) ∧ W.cell? ⟨w.heap.size, 2, none⟩ = some (.int .u64 s.1.2.2.1) ∧ W.cell? ⟨w.heap.size, 3, none⟩ = some (.int .u64 s.1.2.2.2) ∧ W.cell? ⟨w.heap.size + 1, 0, none⟩ = some (.int .i64 t.1.1) ∧ W.cell? ⟨w.heap.size + 1, 1, none⟩ = some (.int .u64 t.1.2.1) ∧ W.cell? ⟨w.heap.size + 1, 2, none⟩ = some (.int .u64 t.1.2.2.1) ∧ W.cell? ⟨w.heap.size + 1, 3, none⟩ = some (.int .u64 t.1.2.2.2)) ∧ Gr W0 W)
    (first | (rw [← hW0]; exact S0) | exact keepB _ _ (by assumption) (by assumption) | exact keepB _ _ (by assumption) ((Gr.refl _).alloc _) | assumption)
    (first | (go_at_call 47; refine (H1 _).mono ?_; rintro e w1 ⟨rfl, rfl⟩) | (go_at_call 48; refine (H2 _).mono ?_; rintro e w2 ⟨rfl, g2⟩) | (go_at_call 46; refine (or2_any p q _ _ (by simp) (by simp)).mono ?_; rintro e w3 ⟨rfl, rfl⟩))
  go_wp2
  go_ret
  rw [← hW0] at g2
  exact ⟨rfl, HG.trans (g2.alloc _)⟩
end Go.Proofs.Ytcmgmgnmhhkdgaa
