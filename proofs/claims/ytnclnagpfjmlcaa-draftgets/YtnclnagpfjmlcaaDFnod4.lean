import Derived.Test.YtnclnagpfjmlcaaDFnod3
namespace Go.Proofs.Ytnclnagpfjmlcaa.Df
open Go.RowKit Go.Sort Wi
attribute [local go_sem ↓] Go.wp_at_zero Go.wp_at_succ

theorem pnod_none {L : List UInt8} {a k b : Nat} (h : any L a = .inr (k, b)) (h1 : ¬ (1 ≤ k ∧ k ≤ 8)) : pnod L a = .inl (20, a) := by
  simp only [pnod, Pa.bind, pkind, Pa.guard, h, h1, decide_false, Bool.false_eq_true, if_false]
theorem pnod_bad {L : List UInt8} {a : Nat} {z : Nat × Nat} (h : any L a = .inl z) : pnod L a = .inl z := by
  simp only [pnod, Pa.bind, pkind, Pa.guard, h]
set_option maxHeartbeats 4000000 in
theorem fnode_bad {fb a bd : Nat} {v : Value} {L : List UInt8} {z : Nat × Nat} (hk : any L a = .inl z) (w : World) (h : Ft w fb v L a 0 bd) : Calls Try.prog 32 #[.pointer (some ⟨fb, 0, none⟩)] w (Fn fb v L a bd w) := by
  have g0 := (Gr.refl w).alloc (.cells (ncells 0 0 0 (.slice none 0 0) (0, 0, 0) 0 (.slice none 0 0) false) 67)
  have n0 := heap_new' w (.cells (ncells 0 0 0 (.slice none 0 0) (0, 0, 0) 0 (.slice none 0 0) false) 67)
  have HB : Hid (fb < w.heap.size ∧ ∀ k, v.ownBlock = some k → k < w.heap.size) := ⟨h.lt, h.ls.blk⟩
  have h0 := h.below g0.below
  have x1 := h.c1
  have hlt := h.lt
  have hal := h.le
  clear h
  go_enter Try.func32, Try.ntmps32
  go_wp2_with fail
  refine (fany_any _ h0).mono ?_
  rintro r w1 ⟨x, a1, e1, bd1, rfl, f1, k1, t1⟩
  have PN := hid (pnod_bad hk)
  obtain ⟨_, _, hz3⟩ := fits_any.fault L a z.1 z.2 hal hk
  unfold Took at t1
  rw [if_pos rfl, hk] at t1
  obtain ⟨rfl, rfl, rfl⟩ := t1
  have y2 := f1.c2
  have ylt := f1.lt
  have N1 : Hid (w1.heap[w.heap.size]? = some (.cells (ncells 0 0 0 (.slice none 0 0) (0, 0, 0) 0 (.slice none 0 0) false) 67 (0, 0)) ∧ Ft w1 fb v L a1 z.1 z.2 ∧ Kp (fun k => k = fb) w w1) := ⟨(k1.block _ (tk_lt n0) (by have := HB.out.1; omega)).trans n0, f1, kp_then g0 k1⟩
  have hz : ¬ (z.1 : Int) = 0 := by omega
  have cr := (tk_store N1.out.1).1
  have fr := (tk_store N1.out.1).2
  have lr := tk_lt N1.out.1
  have hfb := HB.out.1
  clear g0 n0 h0 f1 k1 hk x1
  go_wp2_with fail
  obtain ⟨wf, hwf⟩ : ∃ wf, wf = ((((((((((w1.setCell ⟨w.heap.size, 0, none⟩ (.int .i64 0)).setCell ⟨w.heap.size, 1, none⟩ (.int .i64 1)).setCell ⟨w.heap.size, 2, none⟩ (.int .i64 1)).setCell ⟨w.heap.size, 3, none⟩ (.slice none 0 0)).setCell ⟨w.heap.size, 4, none⟩ (.int .u64 0)).setCell ⟨w.heap.size, 5, none⟩ (.int .u64 0)).setCell ⟨w.heap.size, 6, none⟩ (.int .u64 0)).setCell ⟨w.heap.size, 7, none⟩ (.int .u64 0)).setCell ⟨w.heap.size, 8, none⟩ (.slice none 0 0)).setCell ⟨w.heap.size, 9, none⟩ (.bool false)) := ⟨_, rfl⟩
  rw [← hwf]
  obtain ⟨hbf, hkf⟩ : wf.heap[w.heap.size]? = some (.cells #[.int .i64 0, .int .i64 1, .int .i64 1, .slice none 0 0, .int .u64 0, .int .u64 0, .int .u64 0, .int .u64 0, .slice none 0 0, .bool false] 67 (0, 0)) ∧ Kp (fun k => k = w.heap.size) w1 wf := by
    rw [hwf]
    exact fill10 N1.out.1 _ _ _ _ _ _ _ _ _ _
  clear hwf cr fr lr
  obtain ⟨qf, -⟩ := tk_store hbf
  have hlf := tk_lt hbf
  have g9 := (Gr.refl wf).alloc (.cells #[.int .i64 0, .int .i64 1, .int .i64 1, .slice none 0 0, .int .u64 0, .int .u64 0, .int .u64 0, .int .u64 0, .slice none 0 0, .bool false] 67)
  refine bodyPost_ret (v := .agg #[.int .i64 0, .int .i64 1, .int .i64 1, .slice none 0 0, .int .u64 0, .int .u64 0, .int .u64 0, .int .u64 0, .slice none 0 0, .bool false]) (by simp [results, Try.results32, go_sem, qf, hlf]) rfl ?_
  refine ⟨⟨⟨0, 1, 1, [], (0, 0, 0), 0, [], false⟩, none, 0, 0, none, 0, 0⟩, _, _, _, rfl, no_none rfl rfl rfl rfl, (N1.out.2.1.kp hkf (by omega) (fun k hk e => by have := HB.out.2 k hk; omega)).below g9.below, kp_gr (N1.out.2.2.trans hkf (fun j hj e => by omega)) g9, ?_⟩
  unfold Tf
  rw [if_pos rfl, PN.out]
  exact ⟨rfl, rfl, hz3⟩
set_option maxHeartbeats 4000000 in
theorem fnode_none {fb a bd : Nat} {v : Value} {L : List UInt8} {k b : Nat} (hk : any L a = .inr (k, b)) (hno : ¬ (1 ≤ k ∧ k ≤ 8)) (w : World) (h : Ft w fb v L a 0 bd) : Calls Try.prog 32 #[.pointer (some ⟨fb, 0, none⟩)] w (Fn fb v L a bd w) := by
  have g0 := (Gr.refl w).alloc (.cells (ncells 0 0 0 (.slice none 0 0) (0, 0, 0) 0 (.slice none 0 0) false) 67)
  have n0 := heap_new' w (.cells (ncells 0 0 0 (.slice none 0 0) (0, 0, 0) 0 (.slice none 0 0) false) 67)
  have HB : Hid (fb < w.heap.size ∧ ∀ k, v.ownBlock = some k → k < w.heap.size) := ⟨h.lt, h.ls.blk⟩
  have h0 := h.below g0.below
  have x1 := h.c1
  have hlt := h.lt
  have hal := h.le
  clear h
  go_enter Try.func32, Try.ntmps32
  go_wp2_with fail
  refine (fany_any _ h0).mono ?_
  rintro r w1 ⟨x, a1, e1, bd1, rfl, f1, k1, t1⟩
  have hk64 := Took.ok fits_any (Nat.zero_le _) hal t1
  have PN := hid (pnod_none hk hno)
  unfold Took at t1
  rw [if_pos rfl, hk] at t1
  obtain ⟨rfl, rfl, rfl, rfl⟩ := t1
  have y2 := f1.c2
  have ylt := f1.lt
  have N1 : Hid (w1.heap[w.heap.size]? = some (.cells (ncells 0 0 0 (.slice none 0 0) (0, 0, 0) 0 (.slice none 0 0) false) 67 (0, 0)) ∧ Ft w1 fb v L a1 0 bd1 ∧ Kp (fun k => k = fb) w w1) := ⟨(k1.block _ (tk_lt n0) (by have := HB.out.1; omega)).trans n0, f1, kp_then g0 k1⟩
  obtain ⟨kk, hkk, kn1, kn2, kn3, kn4, kn5, kn7, kn8⟩ : ∃ kk, wrap64 (x : Int) = kk ∧ ¬ kk = 1 ∧ ¬ kk = 2 ∧ ¬ kk = 3 ∧ ¬ kk = 4 ∧ ¬ kk = 5 ∧ ¬ kk = 7 ∧ ¬ kk = 8 := ⟨_, rfl, by unfold wrap64; omega⟩
  clear g0 n0 h0 f1 k1 hk x1
  rcases (by omega : (x : Int) < 1 ∨ (¬ (x : Int) < 1 ∧ 8 < (x : Int))) with hc1 | ⟨hc1, hc2⟩
  · obtain rfl : x = 0 := by omega
    go_wp2_with fail
    refine (fault_any a 20 _ N1.out.2.1).mono ?_
    rintro r w2 ⟨rfl, f2, k2⟩
    have N2 : Hid (w2.heap[w.heap.size]? = some (.cells (ncells 0 0 0 (.slice none 0 0) (0, 0, 0) 0 (.slice none 0 0) false) 67 (0, 0)) ∧ Ft w2 fb v L a1 20 a ∧ Kp (fun k => k = fb) w w2) := ⟨(k2.block _ (tk_lt N1.out.1) (by have := HB.out.1; omega)).trans N1.out.1, f2, N1.out.2.2.trans k2 (fun _ _ h => h)⟩
    have cr := (tk_store N2.out.1).1
    have fr := (tk_store N2.out.1).2
    have lr := tk_lt N2.out.1
    have hfb := HB.out.1
    clear f2 k2 N1 y2 ylt
    go_wp2_with fail
    obtain ⟨wf, hwf⟩ : ∃ wf, wf = ((((((((((w2.setCell ⟨w.heap.size, 0, none⟩ (.int .i64 0)).setCell ⟨w.heap.size, 1, none⟩ (.int .i64 1)).setCell ⟨w.heap.size, 2, none⟩ (.int .i64 1)).setCell ⟨w.heap.size, 3, none⟩ (.slice none 0 0)).setCell ⟨w.heap.size, 4, none⟩ (.int .u64 0)).setCell ⟨w.heap.size, 5, none⟩ (.int .u64 0)).setCell ⟨w.heap.size, 6, none⟩ (.int .u64 0)).setCell ⟨w.heap.size, 7, none⟩ (.int .u64 0)).setCell ⟨w.heap.size, 8, none⟩ (.slice none 0 0)).setCell ⟨w.heap.size, 9, none⟩ (.bool false)) := ⟨_, rfl⟩
    rw [← hwf]
    obtain ⟨hbf, hkf⟩ : wf.heap[w.heap.size]? = some (.cells #[.int .i64 0, .int .i64 1, .int .i64 1, .slice none 0 0, .int .u64 0, .int .u64 0, .int .u64 0, .int .u64 0, .slice none 0 0, .bool false] 67 (0, 0)) ∧ Kp (fun k => k = w.heap.size) w2 wf := by
      rw [hwf]
      exact fill10 N2.out.1 _ _ _ _ _ _ _ _ _ _
    clear hwf cr fr lr
    obtain ⟨qf, -⟩ := tk_store hbf
    have hlf := tk_lt hbf
    have g9 := (Gr.refl wf).alloc (.cells #[.int .i64 0, .int .i64 1, .int .i64 1, .slice none 0 0, .int .u64 0, .int .u64 0, .int .u64 0, .int .u64 0, .slice none 0 0, .bool false] 67)
    refine bodyPost_ret (v := .agg #[.int .i64 0, .int .i64 1, .int .i64 1, .slice none 0 0, .int .u64 0, .int .u64 0, .int .u64 0, .int .u64 0, .slice none 0 0, .bool false]) (by simp [results, Try.results32, go_sem, qf, hlf]) rfl ?_
    refine ⟨⟨⟨0, 1, 1, [], (0, 0, 0), 0, [], false⟩, none, 0, 0, none, 0, 0⟩, _, _, _, rfl, no_none rfl rfl rfl rfl, (N2.out.2.1.kp hkf (by omega) (fun k hk e => by have := HB.out.2 k hk; omega)).below g9.below, kp_gr (N2.out.2.2.trans hkf (fun j hj e => by omega)) g9, ?_⟩
    unfold Tf
    rw [if_pos rfl, PN.out]
    exact ⟨rfl, rfl, by decide⟩
  · go_wp2_with fail
    refine (fault_any a 20 _ N1.out.2.1).mono ?_
    rintro r w2 ⟨rfl, f2, k2⟩
    have N2 : Hid (w2.heap[w.heap.size]? = some (.cells (ncells 0 0 0 (.slice none 0 0) (0, 0, 0) 0 (.slice none 0 0) false) 67 (0, 0)) ∧ Ft w2 fb v L a1 20 a ∧ Kp (fun k => k = fb) w w2) := ⟨(k2.block _ (tk_lt N1.out.1) (by have := HB.out.1; omega)).trans N1.out.1, f2, N1.out.2.2.trans k2 (fun _ _ h => h)⟩
    have cr := (tk_store N2.out.1).1
    have fr := (tk_store N2.out.1).2
    have lr := tk_lt N2.out.1
    have hfb := HB.out.1
    clear f2 k2 N1 y2 ylt
    go_wp2_with fail
    obtain ⟨wf, hwf⟩ : ∃ wf, wf = ((((((((((w2.setCell ⟨w.heap.size, 0, none⟩ (.int .i64 kk)).setCell ⟨w.heap.size, 1, none⟩ (.int .i64 1)).setCell ⟨w.heap.size, 2, none⟩ (.int .i64 1)).setCell ⟨w.heap.size, 3, none⟩ (.slice none 0 0)).setCell ⟨w.heap.size, 4, none⟩ (.int .u64 0)).setCell ⟨w.heap.size, 5, none⟩ (.int .u64 0)).setCell ⟨w.heap.size, 6, none⟩ (.int .u64 0)).setCell ⟨w.heap.size, 7, none⟩ (.int .u64 0)).setCell ⟨w.heap.size, 8, none⟩ (.slice none 0 0)).setCell ⟨w.heap.size, 9, none⟩ (.bool false)) := ⟨_, rfl⟩
    rw [← hwf]
    obtain ⟨hbf, hkf⟩ : wf.heap[w.heap.size]? = some (.cells #[.int .i64 kk, .int .i64 1, .int .i64 1, .slice none 0 0, .int .u64 0, .int .u64 0, .int .u64 0, .int .u64 0, .slice none 0 0, .bool false] 67 (0, 0)) ∧ Kp (fun k => k = w.heap.size) w2 wf := by
      rw [hwf]
      exact fill10 N2.out.1 _ _ _ _ _ _ _ _ _ _
    clear hwf cr fr lr
    obtain ⟨qf, -⟩ := tk_store hbf
    have hlf := tk_lt hbf
    have g9 := (Gr.refl wf).alloc (.cells #[.int .i64 kk, .int .i64 1, .int .i64 1, .slice none 0 0, .int .u64 0, .int .u64 0, .int .u64 0, .int .u64 0, .slice none 0 0, .bool false] 67)
    refine bodyPost_ret (v := .agg #[.int .i64 kk, .int .i64 1, .int .i64 1, .slice none 0 0, .int .u64 0, .int .u64 0, .int .u64 0, .int .u64 0, .slice none 0 0, .bool false]) (by simp [results, Try.results32, go_sem, qf, hlf]) rfl ?_
    refine ⟨⟨⟨kk, 1, 1, [], (0, 0, 0), 0, [], false⟩, none, 0, 0, none, 0, 0⟩, _, _, _, rfl, no_none rfl rfl rfl rfl, (N2.out.2.1.kp hkf (by omega) (fun k hk e => by have := HB.out.2 k hk; omega)).below g9.below, kp_gr (N2.out.2.2.trans hkf (fun j hj e => by omega)) g9, ?_⟩
    unfold Tf
    rw [if_pos rfl, PN.out]
    exact ⟨rfl, rfl, by decide⟩
/-- The document's node. -/
theorem fnode_any {fb a bd : Nat} {v : Value} {L : List UInt8} (w : World) (h : Ft w fb v L a 0 bd) : Calls Try.prog 32 #[.pointer (some ⟨fb, 0, none⟩)] w (Fn fb v L a bd w) := by
  cases hk : any L a with
  | inl z => exact fnode_bad hk w h
  | inr z =>
    obtain ⟨k, b⟩ := z
    by_cases hno : 1 ≤ k ∧ k ≤ 8
    · rcases (by omega : k = 1 ∨ k = 2 ∨ k = 3 ∨ k = 4 ∨ k = 5 ∨ k = 6 ∨ k = 7 ∨ k = 8) with rfl | rfl | rfl | rfl | rfl | rfl | rfl | rfl
      · exact fnode1 hk w h
      · exact fnode2 hk w h
      · exact fnode3 hk w h
      · exact fnode4 hk w h
      · exact fnode5 hk w h
      · exact fnode6 hk w h
      · exact fnode7 hk w h
      · exact fnode8 hk w h
    · exact fnode_none hk hno w h
end Go.Proofs.Ytnclnagpfjmlcaa.Df
