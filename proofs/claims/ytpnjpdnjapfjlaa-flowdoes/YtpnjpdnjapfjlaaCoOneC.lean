import Derived.Test.YtpnjpdnjapfjlaaCoOne0
namespace Go.Proofs.Ytpnjpdnjapfjlaa.Cd
open Go.RowKit Go.Sort
attribute [local go_sem ↓] Go.wp_at_zero Go.wp_at_succ

set_option maxHeartbeats 2000000 in
set_option maxRecDepth 100000 in
theorem holds_any {o : Op2} (h : mayF o = true) (r : Rc) (w : World) : Calls Try.prog 58 #[ov o, rv r] w fun e w' => e = .returned (.bool (hld o r)) ∧ Gr w w' := by
  have hk := mayF_kinds h
  clear h
  obtain ⟨k, a⟩ := o
  obtain ⟨x, y⟩ := r
  simp only at hk
  unfold hld
  rcases hk with rfl | rfl | rfl | rfl | rfl | rfl | rfl | rfl
  · simp only [Int.reduceEq, if_true, if_false]
    go_enter Try.func58, Try.ntmps58
    go_wp2_with fail
    go_ret
    exact ⟨by simp, ((Gr.refl w).alloc _).alloc _⟩
  · simp only [Int.reduceEq, if_true, if_false]
    go_enter Try.func58, Try.ntmps58
    go_wp2_with fail
    go_ret
    exact ⟨by simp, ((Gr.refl w).alloc _).alloc _⟩
  · simp only [Int.reduceEq, if_true, if_false]
    go_enter Try.func58, Try.ntmps58
    go_wp2_with fail
    go_ret
    exact ⟨by simp, ((Gr.refl w).alloc _).alloc _⟩
  · simp only [Int.reduceEq, if_true, if_false]
    go_enter Try.func58, Try.ntmps58
    go_wp2_with fail
    go_ret
    exact ⟨by simp, ((Gr.refl w).alloc _).alloc _⟩
  · simp only [Int.reduceEq, if_true, if_false]
    go_enter Try.func58, Try.ntmps58
    go_wp2_with fail
    go_ret
    exact ⟨by simp, ((Gr.refl w).alloc _).alloc _⟩
  · simp only [Int.reduceEq, if_true, if_false]
    go_enter Try.func58, Try.ntmps58
    go_wp2_with fail
    go_ret
    exact ⟨by simp, ((Gr.refl w).alloc _).alloc _⟩
  · simp only [Int.reduceEq, if_true, if_false]
    by_cases hx : x < a
    · have hd : (decide (x < a) && decide (y < a)) = decide (y < a) := by simp [hx]
      rw [hd]
      clear hd
      have hx2 : ¬ a ≤ x := by omega
      go_enter Try.func58, Try.ntmps58
      go_wp2_with fail
      go_ret
      exact ⟨by simp, ((Gr.refl w).alloc _).alloc _⟩
    · have hd : (decide (x < a) && decide (y < a)) = false := by simp [hx]
      rw [hd]
      clear hd
      have hx2 : a ≤ x := by omega
      go_enter Try.func58, Try.ntmps58
      go_wp2_with fail
      go_ret
      exact ⟨by simp, ((Gr.refl w).alloc _).alloc _⟩
  · simp only [Int.reduceEq, if_false]
    go_enter Try.func58, Try.ntmps58
    go_wp2_with fail
    go_ret
    exact ⟨by simp, ((Gr.refl w).alloc _).alloc _⟩
set_option maxHeartbeats 2000000 in
set_option maxRecDepth 100000 in
theorem rholds_any {o : Op2} (h : mayF o = true) (r : Rc) (w : World) : Calls Try.prog 26 #[ov o, rv r] w fun e w' => e = .returned (.bool (hld o r)) ∧ Gr w w' := by
  have hk := mayF_kinds h
  clear h
  obtain ⟨k, a⟩ := o
  obtain ⟨x, y⟩ := r
  simp only at hk
  unfold hld
  rcases hk with rfl | rfl | rfl | rfl | rfl | rfl | rfl | rfl
  · simp only [Int.reduceEq, if_true, if_false]
    go_enter Try.func26, Try.ntmps26
    go_wp2_with fail
    go_ret
    exact ⟨by simp, ((Gr.refl w).alloc _).alloc _⟩
  · simp only [Int.reduceEq, if_true, if_false]
    go_enter Try.func26, Try.ntmps26
    go_wp2_with fail
    go_ret
    exact ⟨by simp, ((Gr.refl w).alloc _).alloc _⟩
  · simp only [Int.reduceEq, if_true, if_false]
    go_enter Try.func26, Try.ntmps26
    go_wp2_with fail
    go_ret
    exact ⟨by simp, ((Gr.refl w).alloc _).alloc _⟩
  · simp only [Int.reduceEq, if_true, if_false]
    go_enter Try.func26, Try.ntmps26
    go_wp2_with fail
    go_ret
    exact ⟨by simp, ((Gr.refl w).alloc _).alloc _⟩
  · simp only [Int.reduceEq, if_true, if_false]
    go_enter Try.func26, Try.ntmps26
    go_wp2_with fail
    go_ret
    exact ⟨by simp, ((Gr.refl w).alloc _).alloc _⟩
  · simp only [Int.reduceEq, if_true, if_false]
    go_enter Try.func26, Try.ntmps26
    go_wp2_with fail
    go_ret
    exact ⟨by simp, ((Gr.refl w).alloc _).alloc _⟩
  · simp only [Int.reduceEq, if_true, if_false]
    by_cases hx : x < a
    · have hd : (decide (x < a) && decide (y < a)) = decide (y < a) := by simp [hx]
      rw [hd]
      clear hd
      have hx2 : ¬ a ≤ x := by omega
      go_enter Try.func26, Try.ntmps26
      go_wp2_with fail
      go_ret
      exact ⟨by simp, ((Gr.refl w).alloc _).alloc _⟩
    · have hd : (decide (x < a) && decide (y < a)) = false := by simp [hx]
      rw [hd]
      clear hd
      have hx2 : a ≤ x := by omega
      go_enter Try.func26, Try.ntmps26
      go_wp2_with fail
      go_ret
      exact ⟨by simp, ((Gr.refl w).alloc _).alloc _⟩
  · simp only [Int.reduceEq, if_false]
    go_enter Try.func26, Try.ntmps26
    go_wp2_with fail
    go_ret
    exact ⟨by simp, ((Gr.refl w).alloc _).alloc _⟩
end Go.Proofs.Ytpnjpdnjapfjlaa.Cd
