import Derived.Test.YtpnjpdnjapfjlaaCoOne0
namespace Go.Proofs.Ytpnjpdnjapfjlaa.Cd
open Go.RowKit Go.Sort
attribute [local go_sem ↓] Go.wp_at_zero Go.wp_at_succ

set_option maxHeartbeats 2000000 in
set_option maxRecDepth 100000 in
theorem mapped_any {o : Op2} (h : mayM o = true) {r : Rc} (hr : 0 ≤ r.key) (ha : 0 ≤ o.arg) (w : World) : Calls Try.prog 54 #[ov o, rv r] w fun e w' => e = .returned (rv (mpd o r)) ∧ Below w.heap.size w w' := by
  obtain ⟨hk, h0⟩ := mayM_kinds h
  clear h
  obtain ⟨k, a⟩ := o
  obtain ⟨x, y⟩ := r
  simp only at hk h0 hr ha
  unfold mpd
  rcases hk with rfl | rfl | rfl | rfl | rfl | rfl | rfl | rfl | rfl | rfl
  · simp only [Int.reduceEq, if_true, if_false]
    clear h0
    go_enter Try.func54, Try.ntmps54
    go_wp2_with fail
    refine bodyPost_ret (v := rv ⟨_, _⟩) (by simp [results, Try.results54, go_sem]; exact ⟨rfl, rfl⟩) rfl ?_
    exact ⟨rfl, ((((Gr.refl w).alloc _).alloc _).alloc _).below⟩
  · simp only [Int.reduceEq, if_true, if_false]
    clear h0
    go_enter Try.func54, Try.ntmps54
    go_wp2_with fail
    refine bodyPost_ret (v := rv ⟨_, _⟩) (by simp [results, Try.results54, go_sem]; exact ⟨rfl, rfl⟩) rfl ?_
    exact ⟨rfl, ((((Gr.refl w).alloc _).alloc _).alloc _).below⟩
  · simp only [Int.reduceEq, if_true, if_false]
    have h1 := h0 rfl
    have e1 : (a == 0) = false := by simpa using h1
    clear h0
    go_enter Try.func54, Try.ntmps54
    go_wp2_with fail
    refine bodyPost_ret (v := rv ⟨_, _⟩) (by simp [results, Try.results54, go_sem]; exact ⟨rfl, rfl⟩) rfl ?_
    exact ⟨rfl, ((((Gr.refl w).alloc _).alloc _).alloc _).below⟩
  · simp only [Int.reduceEq, if_true, if_false]
    clear h0
    go_enter Try.func54, Try.ntmps54
    go_wp2_with fail
    refine bodyPost_ret (v := rv ⟨_, _⟩) (by simp [results, Try.results54, go_sem]; exact ⟨rfl, rfl⟩) rfl ?_
    exact ⟨rfl, ((((Gr.refl w).alloc _).alloc _).alloc _).below⟩
  · simp only [Int.reduceEq, if_true, if_false]
    clear h0
    go_enter Try.func54, Try.ntmps54
    go_wp2_with fail
    refine bodyPost_ret (v := rv ⟨_, _⟩) (by simp [results, Try.results54, go_sem]; exact ⟨rfl, rfl⟩) rfl ?_
    exact ⟨rfl, ((((Gr.refl w).alloc _).alloc _).alloc _).below⟩
  · simp only [Int.reduceEq, if_true, if_false]
    clear h0
    go_enter Try.func54, Try.ntmps54
    go_wp2_with fail
    refine bodyPost_ret (v := rv ⟨_, _⟩) (by simp [results, Try.results54, go_sem]; exact ⟨rfl, rfl⟩) rfl ?_
    exact ⟨rfl, ((((Gr.refl w).alloc _).alloc _).alloc _).below⟩
  · simp only [Int.reduceEq, if_true, if_false]
    clear h0
    go_enter Try.func54, Try.ntmps54
    go_wp2_with fail
    refine bodyPost_ret (v := rv ⟨_, _⟩) (by simp [results, Try.results54, go_sem]; exact ⟨rfl, rfl⟩) rfl ?_
    exact ⟨rfl, ((((Gr.refl w).alloc _).alloc _).alloc _).below⟩
  · simp only [Int.reduceEq, if_true, if_false]
    clear h0
    go_enter Try.func54, Try.ntmps54
    go_wp2_with fail
    refine bodyPost_ret (v := rv ⟨_, _⟩) (by simp [results, Try.results54, go_sem]; exact ⟨rfl, rfl⟩) rfl ?_
    exact ⟨rfl, ((((Gr.refl w).alloc _).alloc _).alloc _).below⟩
  · simp only [Int.reduceEq, if_true, if_false]
    clear h0
    go_enter Try.func54, Try.ntmps54
    go_wp2_with fail
    refine bodyPost_ret (v := rv ⟨_, _⟩) (by simp [results, Try.results54, go_sem]; exact ⟨rfl, rfl⟩) rfl ?_
    exact ⟨rfl, ((((Gr.refl w).alloc _).alloc _).alloc _).below⟩
  · simp only [Int.reduceEq, if_false]
    clear h0
    go_enter Try.func54, Try.ntmps54
    go_wp2_with fail
    refine bodyPost_ret (v := rv ⟨_, _⟩) (by simp [results, Try.results54, go_sem]; exact ⟨rfl, rfl⟩) rfl ?_
    exact ⟨rfl, ((((Gr.refl w).alloc _).alloc _).alloc _).below⟩
end Go.Proofs.Ytpnjpdnjapfjlaa.Cd
