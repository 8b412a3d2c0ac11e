import Derived.Test.YtnclnagpfjmlcaaDFt
import Derived.Test.YtnclnagpfjmlcaaDNods
namespace Go.Proofs.Ytnclnagpfjmlcaa.Df
open Go.RowKit Go.Sort Wi
attribute [local go_sem ↓] Go.wp_at_zero Go.wp_at_succ

/-- What stands while the document reads a node: the front, the result's place, the node's place. -/
structure Nz (w W : World) (fb : Nat) (v : Value) (L : List UInt8) (a e bd nb : Nat) (cs : Array Value) : Prop where
  ft : Ft W fb v L a e bd
  kp : Kp (fun k => k = fb) w W
  hr : W.heap[w.heap.size]? = some (.cells (ncells 0 0 0 (.slice none 0 0) (0, 0, 0) 0 (.slice none 0 0) false) 67 (0, 0))
  hn : W.heap[nb]? = some (.cells cs 67 (0, 0))
  lt : w.heap.size < nb
  old : fb < w.heap.size ∧ ∀ k, v.ownBlock = some k → k < w.heap.size
section
variable {w W W' : World} {fb a e bd nb : Nat} {v : Value} {L : List UInt8} {cs : Array Value}
theorem Nz.set (h : Nz w W fb v L a e bd nb cs) (i : Nat) (x : Value) : Nz w (W.setCell ⟨nb, i, none⟩ x) fb v L a e bd nb (cs.setIfInBounds i x) := by
  obtain ⟨h1, h2⟩ := tk_set h.hn i x
  have h3 := h.lt
  have h4 := h.old.1
  exact ⟨h.ft.kp h2 (by omega) (fun k hk e => by have := h.old.2 k hk; omega), h.kp.trans h2 (fun j hj e => by omega), (h2.block _ (tk_lt h.hr) (by omega)).trans h.hr, h1, h3, h.old⟩
theorem Nz.call (h : Nz w W fb v L a e bd nb cs) {a' e' bd' : Nat} (hr : Ft W' fb v L a' e' bd') (hk : Kp (fun k => k = fb) W W') : Nz w W' fb v L a' e' bd' nb cs := by
  have h3 := h.lt
  have h4 := h.old.1
  exact ⟨hr, h.kp.trans hk (fun j hj e => e), (hk.block _ (tk_lt h.hr) (by omega)).trans h.hr, (hk.block _ (tk_lt h.hn) (by omega)).trans h.hn, h3, h.old⟩
theorem Nz.facts (h : Nz w W fb v L a e bd nb cs) : (W.cell? ⟨fb, 2, none⟩ = some (.int .i64 (e : Nat)) ∧ fb < W.heap.size) ∧ ((∀ i, W.cell? ⟨nb, i, none⟩ = cs[i]?) ∧ (∀ i, W.frozen? ⟨nb, i, none⟩ = false) ∧ nb < W.heap.size) ∧ ((∀ i, W.cell? ⟨w.heap.size, i, none⟩ = (ncells 0 0 0 (.slice none 0 0) (0, 0, 0) 0 (.slice none 0 0) false)[i]?) ∧ (∀ i, W.frozen? ⟨w.heap.size, i, none⟩ = false) ∧ w.heap.size < W.heap.size) ∧ ¬ nb = w.heap.size :=
  ⟨⟨h.ft.c2, h.ft.lt⟩, ⟨(tk_store h.hn).1, (tk_store h.hn).2, tk_lt h.hn⟩, ⟨(tk_store h.hr).1, (tk_store h.hr).2, tk_lt h.hr⟩, by have := h.lt; omega⟩
theorem Nz.end (h : Nz w W fb v L a e bd nb cs) (hk : Kp (fun k => k = w.heap.size) W W') : Ft W' fb v L a e bd ∧ Kp (fun k => k = fb) w W' := by
  have h4 := h.old.1
  exact ⟨h.ft.kp hk (by omega) (fun k hk e => by have := h.old.2 k hk; omega), h.kp.trans hk (fun j hj e => by omega)⟩
end
/-- What the document's node leaves. -/
abbrev Fn (fb : Nat) (v : Value) (L : List UInt8) (a bd : Nat) (w : World) (r : Ending) (w' : World) : Prop := ∃ (x : NV) (a' e' bd' : Nat), r = .returned (.agg x.cells) ∧ NO w.heap.size w' x ∧ Ft w' fb v L a' e' bd' ∧ Kp (fun k => k = fb) w w' ∧ Tf pnod L a 0 bd x.n a' e' bd'
theorem no_none {base : Nat} {w : World} {x : NV} (h1 : x.cv = .slice none 0 0) (h2 : x.dv = .slice none 0 0) (h3 : x.n.code = []) (h4 : x.n.conns = []) : NO base w x :=
  ⟨by rw [h1, h3]; exact World.ownsRow_nil _ _ _ _, by rw [h2, h4]; exact World.ownsRow_nil _ _ _ _, fun k hk => by rw [h1] at hk; simp [Value.ownBlock] at hk⟩
theorem pnod_kind {L : List UInt8} {a k b : Nat} (h : any L a = .inr (k, b)) (h1 : 1 ≤ k) (h8 : k ≤ 8) : pnod L a = pbody k L b := by
  simp only [pnod, Pa.bind, pkind, Pa.guard, h, h1, h8, and_self, decide_true, if_true]
set_option maxHeartbeats 4000000 in
theorem fnode1 {fb a b bd : Nat} {v : Value} {L : List UInt8} (hk : any L a = .inr (1, b)) (w : World) (h : Ft w fb v L a 0 bd) : Calls Try.prog 32 #[.pointer (some ⟨fb, 0, none⟩)] w (Fn fb v L a bd w) := by
  have g0 := (Gr.refl w).alloc (.cells (ncells 0 0 0 (.slice none 0 0) (0, 0, 0) 0 (.slice none 0 0) false) 67)
  have n0 := heap_new' w (.cells (ncells 0 0 0 (.slice none 0 0) (0, 0, 0) 0 (.slice none 0 0) false) 67)
  have HB : Hid (fb < w.heap.size ∧ ∀ k, v.ownBlock = some k → k < w.heap.size) := ⟨h.lt, h.ls.blk⟩
  have PN := hid (pnod_kind hk (by decide) (by decide))
  have h0 := h.below g0.below
  have x1 := h.c1
  have hlt := h.lt
  clear h
  go_enter Try.func32, Try.ntmps32
  go_wp2_with fail
  refine (fany_any _ h0).mono ?_
  rintro r w1 ⟨x, a1, e1, bd1, rfl, f1, k1, t1⟩
  unfold Took at t1
  rw [if_pos rfl, hk] at t1
  obtain ⟨rfl, rfl, rfl, rfl⟩ := t1
  have hn1 : w1.heap.size ≥ w.heap.size + 1 := by have := k1.size; simp at this; omega
  obtain ⟨W, hW⟩ : ∃ W, W = w1.alloc (.cells (ncells 1 0 1 (.slice none 0 0) (0, 0, 0) 0 (.slice none 0 0) false) 67) := ⟨_, rfl⟩
  have F0 : Hid (Nz w W fb v L a1 0 bd1 w1.heap.size (ncells 1 0 1 (.slice none 0 0) (0, 0, 0) 0 (.slice none 0 0) false)) := by
    have g1 : Gr w1 W := by rw [hW]; exact (Gr.refl _).alloc _
    have hfb := HB.out.1
    exact ⟨f1.below g1.below, kp_gr (kp_then g0 k1) g1, (g1.below.block _ (by omega)).trans ((k1.block _ (tk_lt n0) (by omega)).trans n0), by rw [hW]; exact heap_new' _ _, by omega, HB.out⟩
  have y2 := f1.c2
  have ylt := f1.lt
  have N1 : Hid (w1.heap[w.heap.size]? = some (.cells (ncells 0 0 0 (.slice none 0 0) (0, 0, 0) 0 (.slice none 0 0) false) 67 (0, 0)) ∧ Ft w1 fb v L a1 0 bd1 ∧ Kp (fun k => k = fb) w w1) := ⟨(k1.block _ (tk_lt n0) (by have := HB.out.1; omega)).trans n0, f1, kp_then g0 k1⟩
  have hW' : Hid (w1.alloc (.cells #[.int .i64 1, .int .i64 0, .int .i64 1, .slice none 0 0, .int .u64 0, .int .u64 0, .int .u64 0, .int .u64 0, .slice none 0 0, .bool false] 67) = W) := hW.symm
  clear hW g0 n0 h0 f1 k1 hn1 hk x1
  clear hW' F0
  have cr := (tk_store N1.out.1).1
  have fr := (tk_store N1.out.1).2
  have lr := tk_lt N1.out.1
  have hfb := HB.out.1
  go_wp2_with fail
  obtain ⟨wf, hwf⟩ : ∃ wf, wf = ((((((((((w1.setCell ⟨w.heap.size, 0, none⟩ (.int .i64 1)).setCell ⟨w.heap.size, 1, none⟩ (.int .i64 0)).setCell ⟨w.heap.size, 2, none⟩ (.int .i64 1)).setCell ⟨w.heap.size, 3, none⟩ (.slice none 0 0)).setCell ⟨w.heap.size, 4, none⟩ (.int .u64 0)).setCell ⟨w.heap.size, 5, none⟩ (.int .u64 0)).setCell ⟨w.heap.size, 6, none⟩ (.int .u64 0)).setCell ⟨w.heap.size, 7, none⟩ (.int .u64 0)).setCell ⟨w.heap.size, 8, none⟩ (.slice none 0 0)).setCell ⟨w.heap.size, 9, none⟩ (.bool false)) := ⟨_, rfl⟩
  rw [← hwf]
  obtain ⟨hbf, hkf⟩ : wf.heap[w.heap.size]? = some (.cells #[.int .i64 1, .int .i64 0, .int .i64 1, .slice none 0 0, .int .u64 0, .int .u64 0, .int .u64 0, .int .u64 0, .slice none 0 0, .bool false] 67 (0, 0)) ∧ Kp (fun k => k = w.heap.size) w1 wf := by
    rw [hwf]
    exact fill10 N1.out.1 _ _ _ _ _ _ _ _ _ _
  clear hwf cr fr lr
  obtain ⟨qf, -⟩ := tk_store hbf
  have hlf := tk_lt hbf
  have g9 := (Gr.refl wf).alloc (.cells #[.int .i64 1, .int .i64 0, .int .i64 1, .slice none 0 0, .int .u64 0, .int .u64 0, .int .u64 0, .int .u64 0, .slice none 0 0, .bool false] 67)
  refine bodyPost_ret (v := .agg #[.int .i64 1, .int .i64 0, .int .i64 1, .slice none 0 0, .int .u64 0, .int .u64 0, .int .u64 0, .int .u64 0, .slice none 0 0, .bool false]) (by simp [results, Try.results32, go_sem, qf, hlf]) rfl ?_
  refine ⟨⟨⟨1, 0, 1, [], (0, 0, 0), 0, [], false⟩, none, 0, 0, none, 0, 0⟩, _, _, _, rfl, no_none rfl rfl rfl rfl, (N1.out.2.1.kp hkf (by omega) (fun k hk e => by have := HB.out.2 k hk; omega)).below g9.below, kp_gr (N1.out.2.2.trans hkf (fun j hj e => by omega)) g9, ?_⟩
  unfold Tf
  rw [if_pos rfl, PN.out, pb1]
  exact ⟨rfl, rfl, rfl⟩
set_option maxHeartbeats 4000000 in
theorem fnode4 {fb a b bd : Nat} {v : Value} {L : List UInt8} (hk : any L a = .inr (4, b)) (w : World) (h : Ft w fb v L a 0 bd) : Calls Try.prog 32 #[.pointer (some ⟨fb, 0, none⟩)] w (Fn fb v L a bd w) := by
  have g0 := (Gr.refl w).alloc (.cells (ncells 0 0 0 (.slice none 0 0) (0, 0, 0) 0 (.slice none 0 0) false) 67)
  have n0 := heap_new' w (.cells (ncells 0 0 0 (.slice none 0 0) (0, 0, 0) 0 (.slice none 0 0) false) 67)
  have HB : Hid (fb < w.heap.size ∧ ∀ k, v.ownBlock = some k → k < w.heap.size) := ⟨h.lt, h.ls.blk⟩
  have PN := hid (pnod_kind hk (by decide) (by decide))
  have h0 := h.below g0.below
  have x1 := h.c1
  have hlt := h.lt
  clear h
  go_enter Try.func32, Try.ntmps32
  go_wp2_with fail
  refine (fany_any _ h0).mono ?_
  rintro r w1 ⟨x, a1, e1, bd1, rfl, f1, k1, t1⟩
  unfold Took at t1
  rw [if_pos rfl, hk] at t1
  obtain ⟨rfl, rfl, rfl, rfl⟩ := t1
  have hn1 : w1.heap.size ≥ w.heap.size + 1 := by have := k1.size; simp at this; omega
  obtain ⟨W, hW⟩ : ∃ W, W = w1.alloc (.cells (ncells 4 1 1 (.slice none 0 0) (0, 0, 0) 0 (.slice none 0 0) false) 67) := ⟨_, rfl⟩
  have F0 : Hid (Nz w W fb v L a1 0 bd1 w1.heap.size (ncells 4 1 1 (.slice none 0 0) (0, 0, 0) 0 (.slice none 0 0) false)) := by
    have g1 : Gr w1 W := by rw [hW]; exact (Gr.refl _).alloc _
    have hfb := HB.out.1
    exact ⟨f1.below g1.below, kp_gr (kp_then g0 k1) g1, (g1.below.block _ (by omega)).trans ((k1.block _ (tk_lt n0) (by omega)).trans n0), by rw [hW]; exact heap_new' _ _, by omega, HB.out⟩
  have y2 := f1.c2
  have ylt := f1.lt
  have N1 : Hid (w1.heap[w.heap.size]? = some (.cells (ncells 0 0 0 (.slice none 0 0) (0, 0, 0) 0 (.slice none 0 0) false) 67 (0, 0)) ∧ Ft w1 fb v L a1 0 bd1 ∧ Kp (fun k => k = fb) w w1) := ⟨(k1.block _ (tk_lt n0) (by have := HB.out.1; omega)).trans n0, f1, kp_then g0 k1⟩
  have hW' : Hid (w1.alloc (.cells #[.int .i64 4, .int .i64 1, .int .i64 1, .slice none 0 0, .int .u64 0, .int .u64 0, .int .u64 0, .int .u64 0, .slice none 0 0, .bool false] 67) = W) := hW.symm
  clear hW g0 n0 h0 f1 k1 hn1 hk x1
  clear N1
  go_wp2_with fail
  rw [hW'.out]
  clear hW'
  refine (fint_k _ F0.out.ft).mono ?_
  rintro r w2 ⟨x2, u2, a2, e2, bd2, rfl, rfl, f2, k2, t2⟩
  have F2 := hid (F0.out.call f2 k2)
  obtain ⟨⟨c0, l0⟩, ⟨cn, fn, ln⟩, ⟨cr, fr, lr⟩, n0⟩ := F2.out.facts
  clear f2 k2 F0
  go_wp2_with fail
  obtain ⟨wf, hwf⟩ : ∃ wf, wf = (((((((((((w2.setCell ⟨w1.heap.size, 1, none⟩ (.int .i64 x2)).setCell ⟨w.heap.size, 0, none⟩ (.int .i64 4)).setCell ⟨w.heap.size, 1, none⟩ (.int .i64 x2)).setCell ⟨w.heap.size, 2, none⟩ (.int .i64 1)).setCell ⟨w.heap.size, 3, none⟩ (.slice none 0 0)).setCell ⟨w.heap.size, 4, none⟩ (.int .u64 0)).setCell ⟨w.heap.size, 5, none⟩ (.int .u64 0)).setCell ⟨w.heap.size, 6, none⟩ (.int .u64 0)).setCell ⟨w.heap.size, 7, none⟩ (.int .u64 0)).setCell ⟨w.heap.size, 8, none⟩ (.slice none 0 0)).setCell ⟨w.heap.size, 9, none⟩ (.bool false)) := ⟨_, rfl⟩
  rw [← hwf]
  obtain ⟨hbf, hkf⟩ : wf.heap[w.heap.size]? = some (.cells #[.int .i64 4, .int .i64 x2, .int .i64 1, .slice none 0 0, .int .u64 0, .int .u64 0, .int .u64 0, .int .u64 0, .slice none 0 0, .bool false] 67 (0, 0)) ∧ Kp (fun k => k = w.heap.size) (w2.setCell ⟨w1.heap.size, 1, none⟩ (.int .i64 x2)) wf := by
    rw [hwf]
    exact fill10 (F2.out.set 1 (.int .i64 x2)).hr _ _ _ _ _ _ _ _ _ _
  clear hwf
  obtain ⟨qf, -⟩ := tk_store hbf
  have hlf := tk_lt hbf
  have he := (F2.out.set 1 (.int .i64 x2)).end hkf
  refine bodyPost_ret (v := .agg #[.int .i64 4, .int .i64 x2, .int .i64 1, .slice none 0 0, .int .u64 0, .int .u64 0, .int .u64 0, .int .u64 0, .slice none 0 0, .bool false]) (by simp [results, Try.results32, go_sem, qf]) rfl ?_
  refine ⟨⟨⟨4, x2, 1, [], (0, 0, 0), 0, [], false⟩, none, 0, 0, none, 0, 0⟩, _, _, _, rfl, no_none rfl rfl rfl rfl, he.1, he.2, ?_⟩
  have := t2.map (fun n => (⟨4, n, 1, [], (0, 0, 0), 0, [], false⟩ : Nod))
  unfold Tf at this ⊢
  rw [if_pos rfl] at this ⊢
  rw [PN.out, pb4]
  exact this
set_option maxHeartbeats 4000000 in
theorem fnode5 {fb a b bd : Nat} {v : Value} {L : List UInt8} (hk : any L a = .inr (5, b)) (w : World) (h : Ft w fb v L a 0 bd) : Calls Try.prog 32 #[.pointer (some ⟨fb, 0, none⟩)] w (Fn fb v L a bd w) := by
  have g0 := (Gr.refl w).alloc (.cells (ncells 0 0 0 (.slice none 0 0) (0, 0, 0) 0 (.slice none 0 0) false) 67)
  have n0 := heap_new' w (.cells (ncells 0 0 0 (.slice none 0 0) (0, 0, 0) 0 (.slice none 0 0) false) 67)
  have HB : Hid (fb < w.heap.size ∧ ∀ k, v.ownBlock = some k → k < w.heap.size) := ⟨h.lt, h.ls.blk⟩
  have PN := hid (pnod_kind hk (by decide) (by decide))
  have h0 := h.below g0.below
  have x1 := h.c1
  have hlt := h.lt
  clear h
  go_enter Try.func32, Try.ntmps32
  go_wp2_with fail
  refine (fany_any _ h0).mono ?_
  rintro r w1 ⟨x, a1, e1, bd1, rfl, f1, k1, t1⟩
  unfold Took at t1
  rw [if_pos rfl, hk] at t1
  obtain ⟨rfl, rfl, rfl, rfl⟩ := t1
  have hn1 : w1.heap.size ≥ w.heap.size + 1 := by have := k1.size; simp at this; omega
  obtain ⟨W, hW⟩ : ∃ W, W = w1.alloc (.cells (ncells 5 1 1 (.slice none 0 0) (0, 0, 0) 0 (.slice none 0 0) false) 67) := ⟨_, rfl⟩
  have F0 : Hid (Nz w W fb v L a1 0 bd1 w1.heap.size (ncells 5 1 1 (.slice none 0 0) (0, 0, 0) 0 (.slice none 0 0) false)) := by
    have g1 : Gr w1 W := by rw [hW]; exact (Gr.refl _).alloc _
    have hfb := HB.out.1
    exact ⟨f1.below g1.below, kp_gr (kp_then g0 k1) g1, (g1.below.block _ (by omega)).trans ((k1.block _ (tk_lt n0) (by omega)).trans n0), by rw [hW]; exact heap_new' _ _, by omega, HB.out⟩
  have y2 := f1.c2
  have ylt := f1.lt
  have N1 : Hid (w1.heap[w.heap.size]? = some (.cells (ncells 0 0 0 (.slice none 0 0) (0, 0, 0) 0 (.slice none 0 0) false) 67 (0, 0)) ∧ Ft w1 fb v L a1 0 bd1 ∧ Kp (fun k => k = fb) w w1) := ⟨(k1.block _ (tk_lt n0) (by have := HB.out.1; omega)).trans n0, f1, kp_then g0 k1⟩
  have hW' : Hid (w1.alloc (.cells #[.int .i64 5, .int .i64 1, .int .i64 1, .slice none 0 0, .int .u64 0, .int .u64 0, .int .u64 0, .int .u64 0, .slice none 0 0, .bool false] 67) = W) := hW.symm
  clear hW g0 n0 h0 f1 k1 hn1 hk x1
  clear N1
  go_wp2_with fail
  rw [hW'.out]
  clear hW'
  refine (fany_k _ F0.out.ft).mono ?_
  rintro r w2 ⟨x2, u2, a2, e2, bd2, rfl, rfl, f2, k2, t2⟩
  have F2 := hid (F0.out.call f2 k2)
  obtain ⟨⟨c0, l0⟩, ⟨cn, fn, ln⟩, ⟨cr, fr, lr⟩, n0⟩ := F2.out.facts
  clear f2 k2 F0
  go_wp2_with fail
  have F3 := hid (F2.out.set 7 (.int .u64 (x2 : Nat)))
  clear c0 l0 cn fn ln cr fr lr n0
  refine (fpath_k _ F3.out.ft).mono ?_
  rintro r w4 ⟨x4, u4, a4, e4, bd4, rfl, rfl, f4, k4, t4⟩
  have F4 := hid (F3.out.call f4 k4)
  obtain ⟨⟨c0, l0⟩, ⟨cn, fn, ln⟩, ⟨cr, fr, lr⟩, n0⟩ := F4.out.facts
  clear f4 k4 F2 F3
  go_wp2_with fail
  obtain ⟨wf, hwf⟩ : ∃ wf, wf = (((((((((((((w4.setCell ⟨w1.heap.size, 4, none⟩ (.int .u64 (x4.1 : Nat))).setCell ⟨w1.heap.size, 5, none⟩ (.int .u64 (x4.2.1 : Nat))).setCell ⟨w1.heap.size, 6, none⟩ (.int .u64 (x4.2.2 : Nat))).setCell ⟨w.heap.size, 0, none⟩ (.int .i64 5)).setCell ⟨w.heap.size, 1, none⟩ (.int .i64 1)).setCell ⟨w.heap.size, 2, none⟩ (.int .i64 1)).setCell ⟨w.heap.size, 3, none⟩ (.slice none 0 0)).setCell ⟨w.heap.size, 4, none⟩ (.int .u64 (x4.1 : Nat))).setCell ⟨w.heap.size, 5, none⟩ (.int .u64 (x4.2.1 : Nat))).setCell ⟨w.heap.size, 6, none⟩ (.int .u64 (x4.2.2 : Nat))).setCell ⟨w.heap.size, 7, none⟩ (.int .u64 (x2 : Nat))).setCell ⟨w.heap.size, 8, none⟩ (.slice none 0 0)).setCell ⟨w.heap.size, 9, none⟩ (.bool false)) := ⟨_, rfl⟩
  rw [← hwf]
  obtain ⟨hbf, hkf⟩ : wf.heap[w.heap.size]? = some (.cells #[.int .i64 5, .int .i64 1, .int .i64 1, .slice none 0 0, .int .u64 (x4.1 : Nat), .int .u64 (x4.2.1 : Nat), .int .u64 (x4.2.2 : Nat), .int .u64 (x2 : Nat), .slice none 0 0, .bool false] 67 (0, 0)) ∧ Kp (fun k => k = w.heap.size) (((w4.setCell ⟨w1.heap.size, 4, none⟩ (.int .u64 (x4.1 : Nat))).setCell ⟨w1.heap.size, 5, none⟩ (.int .u64 (x4.2.1 : Nat))).setCell ⟨w1.heap.size, 6, none⟩ (.int .u64 (x4.2.2 : Nat))) wf := by
    rw [hwf]
    exact fill10 (((F4.out.set 4 (.int .u64 (x4.1 : Nat))).set 5 (.int .u64 (x4.2.1 : Nat))).set 6 (.int .u64 (x4.2.2 : Nat))).hr _ _ _ _ _ _ _ _ _ _
  clear hwf
  obtain ⟨qf, -⟩ := tk_store hbf
  have hlf := tk_lt hbf
  have he := (((F4.out.set 4 (.int .u64 (x4.1 : Nat))).set 5 (.int .u64 (x4.2.1 : Nat))).set 6 (.int .u64 (x4.2.2 : Nat))).end hkf
  refine bodyPost_ret (v := .agg #[.int .i64 5, .int .i64 1, .int .i64 1, .slice none 0 0, .int .u64 (x4.1 : Nat), .int .u64 (x4.2.1 : Nat), .int .u64 (x4.2.2 : Nat), .int .u64 (x2 : Nat), .slice none 0 0, .bool false]) (by simp [results, Try.results32, go_sem, qf]) rfl ?_
  refine ⟨⟨⟨5, 1, 1, [], x4, x2, [], false⟩, none, 0, 0, none, 0, 0⟩, _, _, _, rfl, no_none rfl rfl rfl rfl, he.1, he.2, ?_⟩
  have := (t2.and t4).map (fun z => (⟨5, 1, 1, [], z.2, z.1, [], false⟩ : Nod))
  unfold Tf at this ⊢
  rw [if_pos rfl] at this ⊢
  rw [PN.out, pb5]
  exact this
set_option maxHeartbeats 4000000 in
theorem fnode6 {fb a b bd : Nat} {v : Value} {L : List UInt8} (hk : any L a = .inr (6, b)) (w : World) (h : Ft w fb v L a 0 bd) : Calls Try.prog 32 #[.pointer (some ⟨fb, 0, none⟩)] w (Fn fb v L a bd w) := by
  have g0 := (Gr.refl w).alloc (.cells (ncells 0 0 0 (.slice none 0 0) (0, 0, 0) 0 (.slice none 0 0) false) 67)
  have n0 := heap_new' w (.cells (ncells 0 0 0 (.slice none 0 0) (0, 0, 0) 0 (.slice none 0 0) false) 67)
  have HB : Hid (fb < w.heap.size ∧ ∀ k, v.ownBlock = some k → k < w.heap.size) := ⟨h.lt, h.ls.blk⟩
  have PN := hid (pnod_kind hk (by decide) (by decide))
  have h0 := h.below g0.below
  have x1 := h.c1
  have hlt := h.lt
  clear h
  go_enter Try.func32, Try.ntmps32
  go_wp2_with fail
  refine (fany_any _ h0).mono ?_
  rintro r w1 ⟨x, a1, e1, bd1, rfl, f1, k1, t1⟩
  unfold Took at t1
  rw [if_pos rfl, hk] at t1
  obtain ⟨rfl, rfl, rfl, rfl⟩ := t1
  have hn1 : w1.heap.size ≥ w.heap.size + 1 := by have := k1.size; simp at this; omega
  obtain ⟨W, hW⟩ : ∃ W, W = w1.alloc (.cells (ncells 6 1 1 (.slice none 0 0) (0, 0, 0) 0 (.slice none 0 0) false) 67) := ⟨_, rfl⟩
  have F0 : Hid (Nz w W fb v L a1 0 bd1 w1.heap.size (ncells 6 1 1 (.slice none 0 0) (0, 0, 0) 0 (.slice none 0 0) false)) := by
    have g1 : Gr w1 W := by rw [hW]; exact (Gr.refl _).alloc _
    have hfb := HB.out.1
    exact ⟨f1.below g1.below, kp_gr (kp_then g0 k1) g1, (g1.below.block _ (by omega)).trans ((k1.block _ (tk_lt n0) (by omega)).trans n0), by rw [hW]; exact heap_new' _ _, by omega, HB.out⟩
  have y2 := f1.c2
  have ylt := f1.lt
  have N1 : Hid (w1.heap[w.heap.size]? = some (.cells (ncells 0 0 0 (.slice none 0 0) (0, 0, 0) 0 (.slice none 0 0) false) 67 (0, 0)) ∧ Ft w1 fb v L a1 0 bd1 ∧ Kp (fun k => k = fb) w w1) := ⟨(k1.block _ (tk_lt n0) (by have := HB.out.1; omega)).trans n0, f1, kp_then g0 k1⟩
  have hW' : Hid (w1.alloc (.cells #[.int .i64 6, .int .i64 1, .int .i64 1, .slice none 0 0, .int .u64 0, .int .u64 0, .int .u64 0, .int .u64 0, .slice none 0 0, .bool false] 67) = W) := hW.symm
  clear hW g0 n0 h0 f1 k1 hn1 hk x1
  clear hW' F0
  have cr := (tk_store N1.out.1).1
  have fr := (tk_store N1.out.1).2
  have lr := tk_lt N1.out.1
  have hfb := HB.out.1
  go_wp2_with fail
  obtain ⟨wf, hwf⟩ : ∃ wf, wf = ((((((((((w1.setCell ⟨w.heap.size, 0, none⟩ (.int .i64 6)).setCell ⟨w.heap.size, 1, none⟩ (.int .i64 1)).setCell ⟨w.heap.size, 2, none⟩ (.int .i64 1)).setCell ⟨w.heap.size, 3, none⟩ (.slice none 0 0)).setCell ⟨w.heap.size, 4, none⟩ (.int .u64 0)).setCell ⟨w.heap.size, 5, none⟩ (.int .u64 0)).setCell ⟨w.heap.size, 6, none⟩ (.int .u64 0)).setCell ⟨w.heap.size, 7, none⟩ (.int .u64 0)).setCell ⟨w.heap.size, 8, none⟩ (.slice none 0 0)).setCell ⟨w.heap.size, 9, none⟩ (.bool false)) := ⟨_, rfl⟩
  rw [← hwf]
  obtain ⟨hbf, hkf⟩ : wf.heap[w.heap.size]? = some (.cells #[.int .i64 6, .int .i64 1, .int .i64 1, .slice none 0 0, .int .u64 0, .int .u64 0, .int .u64 0, .int .u64 0, .slice none 0 0, .bool false] 67 (0, 0)) ∧ Kp (fun k => k = w.heap.size) w1 wf := by
    rw [hwf]
    exact fill10 N1.out.1 _ _ _ _ _ _ _ _ _ _
  clear hwf cr fr lr
  obtain ⟨qf, -⟩ := tk_store hbf
  have hlf := tk_lt hbf
  have g9 := (Gr.refl wf).alloc (.cells #[.int .i64 6, .int .i64 1, .int .i64 1, .slice none 0 0, .int .u64 0, .int .u64 0, .int .u64 0, .int .u64 0, .slice none 0 0, .bool false] 67)
  refine bodyPost_ret (v := .agg #[.int .i64 6, .int .i64 1, .int .i64 1, .slice none 0 0, .int .u64 0, .int .u64 0, .int .u64 0, .int .u64 0, .slice none 0 0, .bool false]) (by simp [results, Try.results32, go_sem, qf, hlf]) rfl ?_
  refine ⟨⟨⟨6, 1, 1, [], (0, 0, 0), 0, [], false⟩, none, 0, 0, none, 0, 0⟩, _, _, _, rfl, no_none rfl rfl rfl rfl, (N1.out.2.1.kp hkf (by omega) (fun k hk e => by have := HB.out.2 k hk; omega)).below g9.below, kp_gr (N1.out.2.2.trans hkf (fun j hj e => by omega)) g9, ?_⟩
  unfold Tf
  rw [if_pos rfl, PN.out, pb6]
  exact ⟨rfl, rfl, rfl⟩
set_option maxHeartbeats 4000000 in
theorem fnode7 {fb a b bd : Nat} {v : Value} {L : List UInt8} (hk : any L a = .inr (7, b)) (w : World) (h : Ft w fb v L a 0 bd) : Calls Try.prog 32 #[.pointer (some ⟨fb, 0, none⟩)] w (Fn fb v L a bd w) := by
  have g0 := (Gr.refl w).alloc (.cells (ncells 0 0 0 (.slice none 0 0) (0, 0, 0) 0 (.slice none 0 0) false) 67)
  have n0 := heap_new' w (.cells (ncells 0 0 0 (.slice none 0 0) (0, 0, 0) 0 (.slice none 0 0) false) 67)
  have HB : Hid (fb < w.heap.size ∧ ∀ k, v.ownBlock = some k → k < w.heap.size) := ⟨h.lt, h.ls.blk⟩
  have PN := hid (pnod_kind hk (by decide) (by decide))
  have h0 := h.below g0.below
  have x1 := h.c1
  have hlt := h.lt
  clear h
  go_enter Try.func32, Try.ntmps32
  go_wp2_with fail
  refine (fany_any _ h0).mono ?_
  rintro r w1 ⟨x, a1, e1, bd1, rfl, f1, k1, t1⟩
  unfold Took at t1
  rw [if_pos rfl, hk] at t1
  obtain ⟨rfl, rfl, rfl, rfl⟩ := t1
  have hn1 : w1.heap.size ≥ w.heap.size + 1 := by have := k1.size; simp at this; omega
  obtain ⟨W, hW⟩ : ∃ W, W = w1.alloc (.cells (ncells 7 1 0 (.slice none 0 0) (0, 0, 0) 0 (.slice none 0 0) false) 67) := ⟨_, rfl⟩
  have F0 : Hid (Nz w W fb v L a1 0 bd1 w1.heap.size (ncells 7 1 0 (.slice none 0 0) (0, 0, 0) 0 (.slice none 0 0) false)) := by
    have g1 : Gr w1 W := by rw [hW]; exact (Gr.refl _).alloc _
    have hfb := HB.out.1
    exact ⟨f1.below g1.below, kp_gr (kp_then g0 k1) g1, (g1.below.block _ (by omega)).trans ((k1.block _ (tk_lt n0) (by omega)).trans n0), by rw [hW]; exact heap_new' _ _, by omega, HB.out⟩
  have y2 := f1.c2
  have ylt := f1.lt
  have N1 : Hid (w1.heap[w.heap.size]? = some (.cells (ncells 0 0 0 (.slice none 0 0) (0, 0, 0) 0 (.slice none 0 0) false) 67 (0, 0)) ∧ Ft w1 fb v L a1 0 bd1 ∧ Kp (fun k => k = fb) w w1) := ⟨(k1.block _ (tk_lt n0) (by have := HB.out.1; omega)).trans n0, f1, kp_then g0 k1⟩
  have hW' : Hid (w1.alloc (.cells #[.int .i64 7, .int .i64 1, .int .i64 0, .slice none 0 0, .int .u64 0, .int .u64 0, .int .u64 0, .int .u64 0, .slice none 0 0, .bool false] 67) = W) := hW.symm
  clear hW g0 n0 h0 f1 k1 hn1 hk x1
  clear hW' F0
  have cr := (tk_store N1.out.1).1
  have fr := (tk_store N1.out.1).2
  have lr := tk_lt N1.out.1
  have hfb := HB.out.1
  go_wp2_with fail
  obtain ⟨wf, hwf⟩ : ∃ wf, wf = ((((((((((w1.setCell ⟨w.heap.size, 0, none⟩ (.int .i64 7)).setCell ⟨w.heap.size, 1, none⟩ (.int .i64 1)).setCell ⟨w.heap.size, 2, none⟩ (.int .i64 0)).setCell ⟨w.heap.size, 3, none⟩ (.slice none 0 0)).setCell ⟨w.heap.size, 4, none⟩ (.int .u64 0)).setCell ⟨w.heap.size, 5, none⟩ (.int .u64 0)).setCell ⟨w.heap.size, 6, none⟩ (.int .u64 0)).setCell ⟨w.heap.size, 7, none⟩ (.int .u64 0)).setCell ⟨w.heap.size, 8, none⟩ (.slice none 0 0)).setCell ⟨w.heap.size, 9, none⟩ (.bool false)) := ⟨_, rfl⟩
  rw [← hwf]
  obtain ⟨hbf, hkf⟩ : wf.heap[w.heap.size]? = some (.cells #[.int .i64 7, .int .i64 1, .int .i64 0, .slice none 0 0, .int .u64 0, .int .u64 0, .int .u64 0, .int .u64 0, .slice none 0 0, .bool false] 67 (0, 0)) ∧ Kp (fun k => k = w.heap.size) w1 wf := by
    rw [hwf]
    exact fill10 N1.out.1 _ _ _ _ _ _ _ _ _ _
  clear hwf cr fr lr
  obtain ⟨qf, -⟩ := tk_store hbf
  have hlf := tk_lt hbf
  have g9 := (Gr.refl wf).alloc (.cells #[.int .i64 7, .int .i64 1, .int .i64 0, .slice none 0 0, .int .u64 0, .int .u64 0, .int .u64 0, .int .u64 0, .slice none 0 0, .bool false] 67)
  refine bodyPost_ret (v := .agg #[.int .i64 7, .int .i64 1, .int .i64 0, .slice none 0 0, .int .u64 0, .int .u64 0, .int .u64 0, .int .u64 0, .slice none 0 0, .bool false]) (by simp [results, Try.results32, go_sem, qf, hlf]) rfl ?_
  refine ⟨⟨⟨7, 1, 0, [], (0, 0, 0), 0, [], false⟩, none, 0, 0, none, 0, 0⟩, _, _, _, rfl, no_none rfl rfl rfl rfl, (N1.out.2.1.kp hkf (by omega) (fun k hk e => by have := HB.out.2 k hk; omega)).below g9.below, kp_gr (N1.out.2.2.trans hkf (fun j hj e => by omega)) g9, ?_⟩
  unfold Tf
  rw [if_pos rfl, PN.out, pb7]
  exact ⟨rfl, rfl, rfl⟩
end Go.Proofs.Ytnclnagpfjmlcaa.Df
