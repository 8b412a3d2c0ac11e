import Derived.Test.YtkopmkmfigenlaaDGr
namespace Go.Proofs.Ytkopmkmfigenlaa.Df
open Go.RowKit Go.Sort Wi
attribute [local go_sem ↓] Go.wp_at_zero Go.wp_at_succ

/-- What Get leaves. -/
def Got (w : World) (L : List UInt8) (r : Ending) (w' : World) : Prop := Below w.heap.size w w' ∧ ∃ u, r = .returned (.tuple #[u, .int .i64 ((get L).2.1 : Nat), .int .i64 ((get L).2.2 : Nat)]) ∧ VG w.heap.size w' u (get L).1
set_option maxHeartbeats 2000000 in
theorem get_any {v : Value} {L : List UInt8} (w : World) (hL : Ls EB w v L) (hl : L.length ≤ 140737488355328) : Calls Try.prog 10 #[v] w (Got w L) := by
  have hmf : ∀ (fn : Fn) (first cap : Array Value) (w : World), (Instr.makeFunc fn first cap).run Try.prog w = .ok (.func fn first cap) w := fun _ _ _ _ => rfl
  have hnr := fun W (hg : Gr w W) => newreader_any W (hL.below hg.below) hl
  have h3 := new3 w (.cells #[.int .i64 0, .slice none 0 0, .slice none 0 0] 25) (.cells #[.int .i64 0] 27) (.cells #[.int .i64 0] 3)
  have hg3 := (((Gr.refl w).alloc (.cells #[.int .i64 0, .slice none 0 0, .slice none 0 0] 25)).alloc (.cells #[.int .i64 0] 27)).alloc (.cells #[.int .i64 0] 3)
  have hs3 : ((((w.alloc (.cells #[.int .i64 0, .slice none 0 0, .slice none 0 0] 25)).alloc (.cells #[.int .i64 0] 27)).alloc (.cells #[.int .i64 0] 3)).heap.size) = w.heap.size + 3 := by simp
  have H3 := hid (And.intro h3 (And.intro hg3 hs3))
  clear hL h3 hg3 hs3
  go_enter_defers Try.func10, Try.ntmps10
  go_wp2_with fail
  go_at_call 26
  refine (hnr _ H3.out.2.1).mono ?_
  rintro r w4 ⟨rb, d, rfl, hrb, hR, hd, hb4⟩
  rw [H3.out.2.2] at hrb hd
  obtain ⟨b0, b1, b2⟩ : w4.heap[w.heap.size]? = some (.cells #[.int .i64 0, .slice none 0 0, .slice none 0 0] 25 (0, 0)) ∧ w4.heap[w.heap.size + 1]? = some (.cells #[.int .i64 0] 27 (0, 0)) ∧ w4.heap[w.heap.size + 1 + 1]? = some (.cells #[.int .i64 0] 3 (0, 0)) := by
    have hs := H3.out.2.2
    refine ⟨?_, ?_, ?_⟩
    · rw [hb4.block _ (by omega)]; exact H3.out.1.1
    · rw [hb4.block _ (by omega)]; exact H3.out.1.2.1
    · rw [hb4.block _ (by omega)]; exact H3.out.1.2.2
  have B4 : Hid (Below w.heap.size w w4) := H3.out.2.1.below.trans (hb4.mono (by rw [H3.out.2.2]; omega))
  clear H3 hb4 hnr
  go_wp2_with fail
  have g4 := (Gr.refl w4).alloc (.cells #[.pointer (some ⟨rb, 0, none⟩)] 73)
  have s4 : (w4.alloc (.cells #[.pointer (some ⟨rb, 0, none⟩)] 73)).heap.size = w4.heap.size + 1 := by simp
  have b2' := b2
  have b0 := (g4.below.block _ (tk_lt b0)).trans b0
  have b1 := (g4.below.block _ (tk_lt b1)).trans b1
  have b2 := (g4.below.block _ (tk_lt b2)).trans b2
  refine (tgraph_any _ (hR.gr g4)).mono ?_
  intro r w5 h5
  have hwl := B4.out.size
  cases e5 : pget L 0 with
  | inl x =>
    obtain ⟨rfl, kk⟩ := h5.bad e5
    have b0 := (kk.block _ (tk_lt b0) (by omega)).trans b0
    have b1 := (kk.block _ (tk_lt b1) (by omega)).trans b1
    have b2 := (kk.block _ (tk_lt b2) (by omega)).trans b2
    have hb5 : Hid (Below w.heap.size w w5) := B4.out.trans ((g4.below.mono B4.out.size).trans (kk.below (by omega) (fun k e => by omega)))
    have HG : Hid (get L = (none', x.1, x.2)) := by show get L = _; rw [get_eq, e5]
    clear h5 kk g4 s4 hR
    go_wp2_with fail
    refine leaves_cons (f := 25) (args := #[.pointer (some ⟨w.heap.size + 1, 0, none⟩), .pointer (some ⟨w.heap.size + 1 + 1, 0, none⟩)]) (by simp) (by simp [go_sem]) ?_
    refine (gcatch_panicking (w.heap.size + 1) (w.heap.size + 1 + 1) (by omega) _ _ x.1 x.2 [] w5 b1 b2).mono ?_
    rintro e u' w6 ⟨rfl, rfl, d1, d2, k6⟩
    have d0 := (k6.block _ (tk_lt b0) (by omega)).trans b0
    have q0 := (tk_store d0).1
    have q1 := (tk_store d1).1
    have q2 := (tk_store d2).1
    have l0 := tk_lt d0
    have l1 := tk_lt d1
    have l2 := tk_lt d2
    have hb6 : Hid (Below w.heap.size w w6) := hb5.out.trans (k6.below (hb5.out.size) (fun k e => by omega))
    clear d0 d1 d2 k6 b0 b1 b2
    simp [Leaves, settle, results, Try.results10, go_sem, q0, q1, q2]
    rw [Got, HG.out]
    refine ⟨hb6.out, _, rfl, _, _, [], rfl, rfl, ?_⟩
    exact ⟨NL.nil _ _, World.ownsRow_nil _ _ _ _, fun k hk => by simp [Value.ownBlock] at hk⟩
  | inr x =>
    obtain ⟨u, rfl, ⟨nv, ev, xs, rfl, hxs, go⟩, r5, kk⟩ := h5.good e5
    obtain ⟨q6, m6, c6, rfl⟩ := owns_form go.nodes.row
    obtain ⟨q8, m8, c8, rfl⟩ := owns_form go.edges
    have b0 := (kk.block _ (tk_lt b0) (by omega)).trans b0
    have b1 := (kk.block _ (tk_lt b1) (by omega)).trans b1
    have b2 := (kk.block _ (tk_lt b2) (by omega)).trans b2
    have hb5 : Hid (Below w.heap.size w w5) := B4.out.trans ((g4.below.mono B4.out.size).trans (kk.below (by omega) (fun k e => by omega)))
    have HG : Hid (get L = (x.1, 0, 0)) := by show get L = _; rw [get_eq, e5]
    have G5 := hid go
    obtain ⟨q0, f0⟩ := tk_store b0
    obtain ⟨q1, f1⟩ := tk_store b1
    obtain ⟨q2, f2⟩ := tk_store b2
    have l0 := tk_lt b0
    have l1 := tk_lt b1
    have l2 := tk_lt b2
    have HB := hid (And.intro b0 (And.intro b1 b2))
    clear h5 kk g4 hR go b0 b1 b2
    go_wp2_with fail
    obtain ⟨wf, hwf⟩ : ∃ wf, wf = ((((w5.setCell ⟨w.heap.size, 0, none⟩ (.int .i64 x.1.arity)).setCell ⟨w.heap.size, 1, none⟩ (.slice q6 m6 c6)).setCell ⟨w.heap.size, 2, none⟩ (.slice q8 m8 c8)).setCell ⟨w.heap.size + 1, 0, none⟩ (.int .i64 0)).setCell ⟨w.heap.size + 1 + 1, 0, none⟩ (.int .i64 0) := ⟨_, rfl⟩
    rw [← hwf]
    obtain ⟨d0, d1, d2, kf⟩ : wf.heap[w.heap.size]? = some (.cells #[.int .i64 x.1.arity, .slice q6 m6 c6, .slice q8 m8 c8] 25 (0, 0)) ∧ wf.heap[w.heap.size + 1]? = some (.cells #[.int .i64 0] 27 (0, 0)) ∧ wf.heap[w.heap.size + 1 + 1]? = some (.cells #[.int .i64 0] 3 (0, 0)) ∧ Kp (fun k => k = w.heap.size ∨ k = w.heap.size + 1 ∨ k = w.heap.size + 1 + 1) w5 wf := by
      rw [hwf]
      have s0 := fill3 HB.out.1 (.int .i64 x.1.arity) (.slice q6 m6 c6) (.slice q8 m8 c8)
      have e1 := (s0.2.block _ (tk_lt HB.out.2.1) (by omega)).trans HB.out.2.1
      have e2 := (s0.2.block _ (tk_lt HB.out.2.2) (by omega)).trans HB.out.2.2
      have s1 := tk_set e1 0 (.int .i64 0)
      have e0 := (s1.2.block _ (tk_lt s0.1) (by omega)).trans s0.1
      have e2 := (s1.2.block _ (tk_lt e2) (by omega)).trans e2
      have s2 := tk_set e2 0 (.int .i64 0)
      have e0 := (s2.2.block _ (tk_lt e0) (by omega)).trans e0
      have e1 := (s2.2.block _ (tk_lt s1.1) (by omega)).trans s1.1
      exact ⟨e0, e1, s2.1, ((s0.2.mono (fun _ h => Or.inl h)).trans (s1.2.mono (fun _ h => Or.inr (Or.inl h))) (fun _ _ h => h)).trans (s2.2.mono (fun _ h => Or.inr (Or.inr h))) (fun _ _ h => h)⟩
    clear hwf q0 f0 q1 f1 q2 f2 l0 l1 l2 HB
    refine leaves_cons (f := 25) (args := #[.pointer (some ⟨w.heap.size + 1, 0, none⟩), .pointer (some ⟨w.heap.size + 1 + 1, 0, none⟩)]) (by simp) (by simp [go_sem]) ?_
    refine (gcatch_idle _ _ _).mono ?_
    rintro e u' w6 ⟨rfl, rfl, rfl⟩
    have q0 := (tk_store d0).1
    have q1 := (tk_store d1).1
    have q2 := (tk_store d2).1
    have l0 := tk_lt d0
    have l1 := tk_lt d1
    have l2 := tk_lt d2
    have hb6 : Hid (Below w.heap.size w w6) := hb5.out.trans (kf.below (hb5.out.size) (fun k e => by omega))
    have G6 : Hid (GO w.heap.size w6 (.slice q6 m6 c6) (.slice q8 m8 c8) xs x.1.edges) := (G5.out.kp kf (fun k hk e => by have := tk_lt b2'; omega)).base (by omega)
    clear d0 d1 d2 kf
    simp [Leaves, settle, results, Try.results10, go_sem, q0, q1, q2]
    rw [Got, HG.out]
    exact ⟨hb6.out, _, rfl, _, _, xs, rfl, hxs, G6.out⟩
end Go.Proofs.Ytkopmkmfigenlaa.Df
