import Derived.Test.YtnpmmodcmfgbjaaGreatMRef
namespace Go.Proofs.YtnpmmodcmfgbjaaGreat
open Go.RowKit Go.Sort Go.Maps
attribute [local go_sem ↓] Go.wp_at_zero Go.wp_at_succ

set_option maxHeartbeats 1000000 in
theorem told_any (a b : Tm) (w : World) : Calls Tryz.prog 57 #[tv a, tv b] w fun e w' => e = .returned (.bool (tol a b)) ∧ Gr w w' := by
  by_cases h1 : a.1.1 = b.1.1
  · have g1 : (a.1.1 != b.1.1) = false := by simp [h1]
    by_cases h2 : a.1.2.1 = b.1.2.1
    · have g2 : (a.1.2.1 != b.1.2.1) = false := by simp [h2]
      by_cases h3 : a.1.2.2 < b.1.2.2
      · rw [show tol a b = true by first | (rw [tol_iff]; omega) | (rw [tol_not]; omega)]
        go_enter Tryz.func57, Tryz.ntmps57
        go_wp2
        go_ret
        exact ⟨rfl, ((Gr.refl _).alloc _).alloc _⟩
      · rw [show tol a b = false by first | (rw [tol_iff]; omega) | (rw [tol_not]; omega)]
        go_enter Tryz.func57, Tryz.ntmps57
        go_wp2
        go_ret
        exact ⟨rfl, ((Gr.refl _).alloc _).alloc _⟩
    · have g2 : (a.1.2.1 != b.1.2.1) = true := by simp [h2]
      by_cases h3 : a.1.2.1 < b.1.2.1
      · rw [show tol a b = true by first | (rw [tol_iff]; omega) | (rw [tol_not]; omega)]
        go_enter Tryz.func57, Tryz.ntmps57
        go_wp2
        go_ret
        exact ⟨rfl, ((Gr.refl _).alloc _).alloc _⟩
      · rw [show tol a b = false by first | (rw [tol_iff]; omega) | (rw [tol_not]; omega)]
        go_enter Tryz.func57, Tryz.ntmps57
        go_wp2
        go_ret
        exact ⟨rfl, ((Gr.refl _).alloc _).alloc _⟩
  · have g1 : (a.1.1 != b.1.1) = true := by simp [h1]
    by_cases h3 : a.1.1 < b.1.1
    · rw [show tol a b = true by first | (rw [tol_iff]; omega) | (rw [tol_not]; omega)]
      go_enter Tryz.func57, Tryz.ntmps57
      go_wp2
      go_ret
      exact ⟨rfl, ((Gr.refl _).alloc _).alloc _⟩
    · rw [show tol a b = false by first | (rw [tol_iff]; omega) | (rw [tol_not]; omega)]
      go_enter Tryz.func57, Tryz.ntmps57
      go_wp2
      go_ret
      exact ⟨rfl, ((Gr.refl _).alloc _).alloc _⟩
set_option maxHeartbeats 1000000 in
set_option maxRecDepth 100000 in
theorem has_any (v : Value) (l : List Tm) (x : Tm) (w : World) (hv : Lst w v l) (hl : l.length ≤ 9223372036854775807) :
    Calls Tryz.prog 51 #[v, tv x] w fun e w' => e = .returned (.bool (decide (x ∈ l))) ∧ Gr w w' := by
  have hmx : Tryz.prog.follows .mixedOrders = true := by kernel_rfl
  have heq := fun a b c x y z W => run_eqT a b c x y z W
  obtain ⟨pl, cl, rfl⟩ := hv.form
  obtain ⟨W1, hW1⟩ : ∃ W1, W1 = w.alloc (.cells #[.int .u64 x.1.1, .int .u64 x.1.2.1, .int .u64 x.1.2.2] 37) := ⟨_, rfl⟩
  obtain ⟨B0, hB0⟩ : ∃ B0, B0 = w.heap.size := ⟨_, rfl⟩
  have G1 : Gr w W1 := by rw [hW1]; exact (Gr.refl _).alloc _
  have HG : Hid (Gr w W1) := G1
  have HL : Hid (Lst W1 (.slice pl l.length cl) l) := hv.below G1.below
  have hblk : W1.heap[B0]? = some (.cells #[.int .u64 x.1.1, .int .u64 x.1.2.1, .int .u64 x.1.2.2] 37 (0, 0)) := by rw [hW1, hB0]; exact heap_new' _ _
  have hB : B0 < W1.heap.size := (Array.getElem?_eq_some_iff.1 hblk).1
  have q0 : W1.cell? ⟨B0, 0, none⟩ = some (.int .u64 x.1.1) := by simp only [World.cell?]; rw [hblk]; rfl
  have q1 : W1.cell? ⟨B0, 1, none⟩ = some (.int .u64 x.1.2.1) := by simp only [World.cell?]; rw [hblk]; rfl
  have q2 : W1.cell? ⟨B0, 2, none⟩ = some (.int .u64 x.1.2.2) := by simp only [World.cell?]; rw [hblk]; rfl
  clear hblk hv G1
  go_enter Tryz.func51, Tryz.ntmps51
  go_wp2_with fail
  rw [← hW1, ← hB0]
  clear hW1 hB0
  go_loopw [5] (fun s5 wr => ∃ k : Nat, k ≤ l.length ∧ s5 = .int .i64 k ∧ Gr W1 wr ∧ Hid (x ∉ l.take k)) (fun s5 _ => l.length - (RowKit.intOf s5).toNat)
  case atStart => exact ⟨0, Nat.zero_le _, rfl, Gr.refl _, by simp [Hid]⟩
  case round =>
    obtain ⟨k, hk, rfl, hgr, A⟩ := hrel
    by_cases hlt : k < l.length
    · have hltz : (k : Int) < (l.length : Int) := by omega
      obtain ⟨y, hy⟩ : ∃ y, l[k]? = some y := ⟨l[k], by simp⟩
      obtain ⟨b1, o1, c1, e1, z1, x1, x2, x3⟩ := (HL.out.below hgr.below).at3 hy
      simp only [Value.slice.injEq] at e1
      obtain ⟨rfl, -, rfl⟩ := e1
      have HY : Hid (l[k]? = some y) := hy
      have r0 := (hgr.cell hB).trans q0
      have r1 := (hgr.cell hB).trans q1
      have r2 := (hgr.cell hB).trans q2
      clear hy
      by_cases hxy : y = x
      · have hq := teq_t hxy
        have HXY : Hid (y = x) := hxy
        clear hxy
        go_wp2_with fail
        go_region
        all_goals go_wp2
        all_goals go_ret
        all_goals refine ⟨?_, HG.out.trans hgr.drew⟩
        all_goals rw [decide_eq_true (HXY.out ▸ List.mem_of_getElem? HY.out)]
        all_goals rfl
      · have hq := teq_f hxy
        have HXY : Hid (y ≠ x) := hxy
        clear hxy
        go_wp2_with fail
        go_region
        all_goals go_wp2
        all_goals refine ⟨⟨k + 1, by omega, by go_num, hgr.drew, fun hx => ?_⟩, by simp [RowKit.intOf]; omega⟩
        all_goals rw [List.take_add_one, HY.out] at hx
        all_goals rcases List.mem_append.1 hx with h | h
        all_goals first | exact A.out h | (simp at h; exact HXY.out h.symm)
    · have hltz : ¬ (k : Int) < (l.length : Int) := by omega
      have hkl : k = l.length := by omega
      subst hkl
      rw [List.take_length] at A
      go_wp2
      go_ret
      refine ⟨?_, HG.out.trans hgr⟩
      rw [decide_eq_false A.out]
      rfl
end Go.Proofs.YtnpmmodcmfgbjaaGreat
