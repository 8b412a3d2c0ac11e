import Derived.Test.YtnclnagpfjmlcaaDFnod
namespace Go.Proofs.Ytnclnagpfjmlcaa.Df
open Go.RowKit Go.Sort Wi
attribute [local go_sem ↓] Go.wp_at_zero Go.wp_at_succ

theorem Nz.kpS {S : Nat → Prop} {w W W' : World} {fb a e bd nb B : Nat} {v : Value} {L : List UInt8} {cs : Array Value} (h : Nz w W fb v L a e bd nb cs) (hk : Kp S W W') (hB : nb < B) (hS : ∀ k, S k → B ≤ k) : Nz w W' fb v L a e bd nb cs := by
  have h3 := h.lt
  have h4 := h.old.1
  exact ⟨h.ft.kp hk (fun e => by have := hS _ e; omega) (fun k hk e => by have := h.old.2 k hk; have := hS _ e; omega), h.kp.trans hk (fun j hj e => by have := hS _ e; omega), (hk.block _ (tk_lt h.hr) (fun e => by have := hS _ e; omega)).trans h.hr, (hk.block _ (tk_lt h.hn) (fun e => by have := hS _ e; omega)).trans h.hn, h3, h.old⟩
theorem tf_opd {L : List UInt8} {a e bd a1 e1 bd1 a2 e2 bd2 : Nat} {x : Int} {y : Nat} (h : Tf int L a e bd x a1 e1 bd1) (k : Tf any L a1 e1 bd1 y a2 e2 bd2) : Tf popd L a e bd ⟨x, y⟩ a2 e2 bd2 := by
  have := (h.and k).map (fun z => (⟨z.1, z.2⟩ : Opd))
  exact this
/-- How far the document's reading of a list has come. -/
def Li {α : Type} (p : Pa α) (L : List UInt8) (ab m : Nat) (i : Nat) (done : List α) (a e bd : Nat) : Prop := (e = 0 ∧ i = done.length ∧ Rp p 16 L ab m done a) ∨ (e ≠ 0 ∧ lst 16 p L ab = .inl (e, bd))
theorem Li.step {α : Type} {p : Pa α} {L : List UInt8} {ab m i : Nat} {done : List α} {a bd : Nat} {x : α} {a' e' bd' : Nat} (h : Li p L ab m i done a 0 bd) (hi : i < m) (t : Tf p L a 0 bd x a' e' bd') : Li p L ab m (i + 1) (done ++ [x]) a' e' bd' := by
  rcases h with ⟨_, h1, h2⟩ | ⟨h1, _⟩
  · cases hp : p L a with
    | inl z =>
      obtain ⟨r1, r2, r3⟩ := t.bad hp
      refine Or.inr ⟨r3, ?_⟩
      rw [h2.bad (by omega) hp, r1, r2]
    | inr z =>
      obtain ⟨rfl, rfl, r3⟩ := t.good hp
      exact Or.inl ⟨r3, by rw [List.length_append, List.length_singleton]; omega, h2.more (by omega) hp⟩
  · exact absurd rfl h1
theorem Li.fin {α : Type} {p : Pa α} {L : List UInt8} {ab m i : Nat} {done : List α} {a e bd bd0 : Nat} (h : Li p L ab m i done a e bd) (hi : e = 0 → i = m) : Tf (lst 16 p) L ab 0 bd0 done a e bd := by
  unfold Tf
  rw [if_pos rfl]
  rcases h with ⟨h0, h1, h2⟩ | ⟨h1, h2⟩
  · have := hi h0
    rw [h2.fin (by omega)]
    exact ⟨rfl, rfl, h0⟩
  · rw [h2]
    exact ⟨rfl, rfl, h1⟩
set_option maxHeartbeats 4000000 in
theorem fnode2 {fb a b bd : Nat} {v : Value} {L : List UInt8} (hk : any L a = .inr (2, b)) (w : World) (h : Ft w fb v L a 0 bd) : Calls Try.prog 32 #[.pointer (some ⟨fb, 0, none⟩)] w (Fn fb v L a bd w) := by
  have g0 := (Gr.refl w).alloc (.cells (ncells 0 0 0 (.slice none 0 0) (0, 0, 0) 0 (.slice none 0 0) false) 67)
  have n0 := heap_new' w (.cells (ncells 0 0 0 (.slice none 0 0) (0, 0, 0) 0 (.slice none 0 0) false) 67)
  have HB : Hid (fb < w.heap.size ∧ ∀ k, v.ownBlock = some k → k < w.heap.size) := ⟨h.lt, h.ls.blk⟩
  have PN := hid (pnod_kind hk (by decide) (by decide))
  have h0 := h.below g0.below
  have x1 := h.c1
  have hlt := h.lt
  clear h
  go_enter Try.func32, Try.ntmps32
  go_wp2_with fail
  refine (fany_any _ h0).mono ?_
  rintro r w1 ⟨x, a1, e1, bd1, rfl, f1, k1, t1⟩
  unfold Took at t1
  rw [if_pos rfl, hk] at t1
  obtain ⟨rfl, rfl, rfl, rfl⟩ := t1
  have hn1 : w1.heap.size ≥ w.heap.size + 1 := by have := k1.size; simp at this; omega
  obtain ⟨W, hW⟩ : ∃ W, W = w1.alloc (.cells (ncells 2 1 1 (.slice none 0 0) (0, 0, 0) 0 (.slice none 0 0) false) 67) := ⟨_, rfl⟩
  have F0 : Hid (Nz w W fb v L a1 0 bd1 w1.heap.size (ncells 2 1 1 (.slice none 0 0) (0, 0, 0) 0 (.slice none 0 0) false)) := by
    have g1 : Gr w1 W := by rw [hW]; exact (Gr.refl _).alloc _
    have hfb := HB.out.1
    exact ⟨f1.below g1.below, kp_gr (kp_then g0 k1) g1, (g1.below.block _ (by omega)).trans ((k1.block _ (tk_lt n0) (by omega)).trans n0), by rw [hW]; exact heap_new' _ _, by omega, HB.out⟩
  have y2 := f1.c2
  have ylt := f1.lt
  have N1 : Hid (w1.heap[w.heap.size]? = some (.cells (ncells 0 0 0 (.slice none 0 0) (0, 0, 0) 0 (.slice none 0 0) false) 67 (0, 0)) ∧ Ft w1 fb v L a1 0 bd1 ∧ Kp (fun k => k = fb) w w1) := ⟨(k1.block _ (tk_lt n0) (by have := HB.out.1; omega)).trans n0, f1, kp_then g0 k1⟩
  have hW' : Hid (w1.alloc (.cells #[.int .i64 2, .int .i64 1, .int .i64 1, .slice none 0 0, .int .u64 0, .int .u64 0, .int .u64 0, .int .u64 0, .slice none 0 0, .bool false] 67) = W) := hW.symm
  clear hW g0 n0 h0 f1 k1 hn1 hk x1
  have hmx : Try.prog.follows .mixedOrders = true := by kernel_rfl
  clear N1
  go_wp2_with fail
  rw [hW'.out]
  clear hW'
  refine (fnumber_any 16 2 _ F0.out.ft).mono ?_
  rintro r w2 ⟨m, a2, e2, bd2, rfl, f2, k2, t2⟩
  have hm := Took.ok (fits_num (most := 16) (over := 2) (by decide) (by decide)) (Nat.zero_le _) F0.out.ft.le t2
  have F2 : Hid (Nz w w2 fb v L a2 e2 bd2 w1.heap.size (ncells 2 1 1 (.slice none 0 0) (0, 0, 0) 0 (.slice none 0 0) false)) := F0.out.call f2 k2
  have I2 : Hid (Li popd L a1 m 0 [] a2 e2 bd2 ∧ (e2 ≠ 0 → m = 0)) := by
    unfold Took at t2
    rw [if_pos rfl] at t2
    cases hp : num 16 2 L a1 with
    | inl z =>
      rw [hp] at t2
      obtain ⟨r1, r2, r3⟩ := t2
      obtain ⟨_, _, h3⟩ := (fits_num (most := 16) (over := 2) (by decide) (by decide)).fault L a1 z.1 z.2 F0.out.ft.le hp
      exact ⟨Or.inr ⟨by rw [r2]; exact h3, by rw [Rp.none hp, r2, r3]⟩, fun _ => r1⟩
    | inr z =>
      rw [hp] at t2
      obtain ⟨r1, r2, r3, _⟩ := t2
      have hs := Rp.start (p := popd) hp
      rw [← r1, ← r2] at hs
      exact ⟨Or.inl ⟨r3, rfl, hs⟩, fun h => absurd r3 h⟩
  obtain ⟨B, hB, hB2⟩ : ∃ B, w1.heap.size < B ∧ B ≤ w2.heap.size := ⟨_, tk_lt F2.out.hn, Nat.le_refl _⟩
  have hwm : wrap64 (m : Int) = (m : Int) := by unfold wrap64; omega
  obtain ⟨⟨c0, l0⟩, ⟨cn, fn, ln⟩, ⟨cr, fr, lr⟩, n0⟩ := F2.out.facts
  clear f2 k2 F0 t2
  go_wp2_with fail
  clear c0 l0 cn fn ln cr fr lr n0
  go_loopw [7] (fun s7 wr => ∃ (i : Nat) (done : List Opd) (q : Option Addr) (mm cc a3 e3 bd3 : Nat), i ≤ m ∧ s7 = .int .i64 (i : Nat) ∧ Hid (Nz w wr fb v L a3 e3 bd3 w1.heap.size (ncells 2 1 1 (.slice q mm cc) (0, 0, 0) 0 (.slice none 0 0) false) ∧ wr.ownsRow B 78 2 (.slice q mm cc) done.length (fl EO done) ∧ B ≤ wr.heap.size ∧ done.length ≤ i ∧ Li popd L a1 m i done a3 e3 bd3)) (fun s7 _ => m - (RowKit.intOf s7).toNat)
  case atStart => exact ⟨0, [], none, 0, 0, a2, e2, bd2, Nat.zero_le _, rfl, F2.out, World.ownsRow_nil _ _ _ _, by omega, Nat.le_refl _, I2.out.1⟩
  case round =>
    clear F2 I2
    obtain ⟨i, done, q, mm, cc, a3, e3, bd3, hi, rfl, HI⟩ := hrel
    obtain ⟨⟨c0, l0⟩, ⟨cn, fn, ln⟩, ⟨cr, fr, lr⟩, n0⟩ := HI.out.1.facts
    by_cases hlt2 : i < m
    · have hltz : (i : Int) < (m : Int) := by omega
      by_cases he3 : e3 = 0
      · subst he3
        go_wp2_with fail
        refine (fint_k _ HI.out.1.ft).mono ?_
        rintro r w4 ⟨x4, u4, a4, e4, bd4, rfl, rfl, f4, k4, t4⟩
        have F4 := hid (HI.out.1.call f4 k4)
        have g5 := (Gr.refl w4).alloc (.cells #[.int .i64 x4, .int .u64 0] 78)
        have o5 := heap_new' w4 (.cells #[.int .i64 x4, .int .u64 0] 78)
        clear c0 l0 cn fn ln cr fr lr n0 f4
        go_wp2_with fail
        have F5 := hid (F4.out.call (F4.out.ft.below g5.below) (Kp.of_gr g5))
        refine (fany_k _ F5.out.ft).mono ?_
        rintro r w6 ⟨x6, u6, a6, e6, bd6, rfl, rfl, f6, k6, t6⟩
        have F6 := hid (F5.out.call f6 k6)
        have hfb := HB.out.1
        have hs4 := k4.size
        have hB3 := HI.out.2.2.1
        have o6 := (k6.block _ (tk_lt o5) (by have := F4.out.lt; have := tk_lt F4.out.hn; omega)).trans o5
        have s6 := tk_set o6 1 (.int .u64 (x6 : Nat))
        have O6 : Hid ((w6.setCell ⟨w4.heap.size, 1, none⟩ (.int .u64 (x6 : Nat))).ownsRow B 78 2 (.slice q mm cc) done.length (fl EO done)) := by
          have hold := fun k hk => owns_rd HI.out.2.1 k hk
          have q1 := owns_far HI.out.2.1 k4 (by omega)
          have q2 := owns_below q1 g5.below
          have q3 := owns_far q2 k6 (by omega)
          exact owns_kp s6.2 q3 (fun k hk e => by have := hold k hk; omega)
        have F7 : Hid (Nz w (w6.setCell ⟨w4.heap.size, 1, none⟩ (.int .u64 (x6 : Nat))) fb v L a6 e6 bd6 w1.heap.size (ncells 2 1 1 (.slice q mm cc) (0, 0, 0) 0 (.slice none 0 0) false)) := F6.out.kpS s6.2 hB (fun k e => by omega)
        have T6 := hid (tf_opd t4 t6)
        have oc := (tk_store o6).1
        have of := (tk_store o6).2
        have ol := tk_lt o6
        have BS : Hid (B ≤ (w6.setCell ⟨w4.heap.size, 1, none⟩ (.int .u64 (x6 : Nat))).heap.size) := by have := s6.2.size; have := k6.size; have := g5.size; show B ≤ _; omega
        obtain ⟨-, ⟨cn, fn, ln⟩, -, -⟩ := F6.out.facts
        have nob : ¬ w4.heap.size = w1.heap.size := by have := tk_lt F4.out.hn; omega
        clear k4 k6 t4 t6 g5 o5 o6 s6 f6 F4 F5 F6
        go_wp2_with (at_builtin; refine wpApp1 EO Try.underlying61 infoO rfl (by decide) rfl _ _ rfl B _ done.length _ rfl O6.out ⟨x4, x6⟩ (by first | rfl | (go_simp; done)) (by have := HI.out.2.2.2.1; omega) (by have := HI.out.2.2.2.1; unfold maxLen; omega) BS.out _ rfl _ ?_)
        intro g cap w8 h1 h2 h3
        have hu := fun k hk => (owns_rd O6.out k hk).1
        have F8 := hid (F7.out.kpS (Kp.grownBy (S := fun k => (Value.slice q mm cc).ownBlock = some k) h2 (fun _ h => h)) hB hu)
        have S8 : Hid (B ≤ w8.heap.size) := Nat.le_trans BS.out h2.size
        have O8 := hid h1
        clear h1 h2 hu cn fn ln oc of ol nob O6 F7 BS
        obtain ⟨-, ⟨cn, fn, ln⟩, -, -⟩ := F8.out.facts
        go_wp2_with fail
        go_roundw
        case rel =>
          have s9 := tk_set F8.out.hn 3 (.slice (some ⟨g, 0, none⟩) (done.length + 1) cap)
          refine ⟨i + 1, done ++ [⟨x4, x6⟩], some ⟨g, 0, none⟩, done.length + 1, cap, a6, e6, bd6, by omega, by go_num, F8.out.set 3 _, ?_, Nat.le_trans S8.out s9.2.size, by rw [List.length_append, List.length_singleton]; have := HI.out.2.2.2.1; omega, HI.out.2.2.2.2.step hlt2 T6.out⟩
          refine owns_re (owns_far O8.out s9.2 hB) (by simp) (by rw [fl_append, fl_one])
        case measure => simp [RowKit.intOf]; omega
      · have hz : ((e3 : Int) == 0) = false := by simp; omega
        have hz' : ¬ (e3 : Int) = 0 := by omega
        go_wp2_with fail
        obtain ⟨wf, hwf⟩ : ∃ wf, wf = ((((((((((wr.setCell ⟨w.heap.size, 0, none⟩ (.int .i64 2)).setCell ⟨w.heap.size, 1, none⟩ (.int .i64 1)).setCell ⟨w.heap.size, 2, none⟩ (.int .i64 1)).setCell ⟨w.heap.size, 3, none⟩ (.slice q mm cc)).setCell ⟨w.heap.size, 4, none⟩ (.int .u64 0)).setCell ⟨w.heap.size, 5, none⟩ (.int .u64 0)).setCell ⟨w.heap.size, 6, none⟩ (.int .u64 0)).setCell ⟨w.heap.size, 7, none⟩ (.int .u64 0)).setCell ⟨w.heap.size, 8, none⟩ (.slice none 0 0)).setCell ⟨w.heap.size, 9, none⟩ (.bool false)) := ⟨_, rfl⟩
        rw [← hwf]
        obtain ⟨hbf, hkf⟩ : wf.heap[w.heap.size]? = some (.cells #[.int .i64 2, .int .i64 1, .int .i64 1, .slice q mm cc, .int .u64 0, .int .u64 0, .int .u64 0, .int .u64 0, .slice none 0 0, .bool false] 67 (0, 0)) ∧ Kp (fun k => k = w.heap.size) wr wf := by
          rw [hwf]
          exact fill10 HI.out.1.hr _ _ _ _ _ _ _ _ _ _
        clear hwf
        obtain ⟨qf, -⟩ := tk_store hbf
        have hlf := tk_lt hbf
        have he := HI.out.1.end hkf
        have hlt2 := HI.out.1.lt
        refine bodyPost_ret (v := .agg #[.int .i64 2, .int .i64 1, .int .i64 1, .slice q mm cc, .int .u64 0, .int .u64 0, .int .u64 0, .int .u64 0, .slice none 0 0, .bool false]) (by simp [results, Try.results32, go_sem, qf]) rfl ?_
        refine ⟨⟨⟨2, 1, 1, done, (0, 0, 0), 0, [], false⟩, q, mm, cc, none, 0, 0⟩, _, _, _, rfl, ⟨owns_base (owns_far HI.out.2.1 hkf (by omega)) (by omega), World.ownsRow_nil _ _ _ _, fun k _ hk => by simp [Value.ownBlock] at hk⟩, he.1, he.2, ?_⟩
        have hT := (HI.out.2.2.2.2.fin (bd0 := bd1) (fun h => absurd h he3)).map (fun l => (⟨2, 1, 1, l, (0, 0, 0), 0, [], false⟩ : Nod))
        unfold Tf at hT ⊢
        rw [if_pos rfl] at hT ⊢
        rw [PN.out, pb2]
        exact hT
    · have hltz : ¬ (i : Int) < (m : Int) := by omega
      go_wp2_with fail
      obtain ⟨wf, hwf⟩ : ∃ wf, wf = ((((((((((wr.setCell ⟨w.heap.size, 0, none⟩ (.int .i64 2)).setCell ⟨w.heap.size, 1, none⟩ (.int .i64 1)).setCell ⟨w.heap.size, 2, none⟩ (.int .i64 1)).setCell ⟨w.heap.size, 3, none⟩ (.slice q mm cc)).setCell ⟨w.heap.size, 4, none⟩ (.int .u64 0)).setCell ⟨w.heap.size, 5, none⟩ (.int .u64 0)).setCell ⟨w.heap.size, 6, none⟩ (.int .u64 0)).setCell ⟨w.heap.size, 7, none⟩ (.int .u64 0)).setCell ⟨w.heap.size, 8, none⟩ (.slice none 0 0)).setCell ⟨w.heap.size, 9, none⟩ (.bool false)) := ⟨_, rfl⟩
      rw [← hwf]
      obtain ⟨hbf, hkf⟩ : wf.heap[w.heap.size]? = some (.cells #[.int .i64 2, .int .i64 1, .int .i64 1, .slice q mm cc, .int .u64 0, .int .u64 0, .int .u64 0, .int .u64 0, .slice none 0 0, .bool false] 67 (0, 0)) ∧ Kp (fun k => k = w.heap.size) wr wf := by
        rw [hwf]
        exact fill10 HI.out.1.hr _ _ _ _ _ _ _ _ _ _
      clear hwf
      obtain ⟨qf, -⟩ := tk_store hbf
      have hlf := tk_lt hbf
      have he := HI.out.1.end hkf
      have hlt2 := HI.out.1.lt
      refine bodyPost_ret (v := .agg #[.int .i64 2, .int .i64 1, .int .i64 1, .slice q mm cc, .int .u64 0, .int .u64 0, .int .u64 0, .int .u64 0, .slice none 0 0, .bool false]) (by simp [results, Try.results32, go_sem, qf]) rfl ?_
      refine ⟨⟨⟨2, 1, 1, done, (0, 0, 0), 0, [], false⟩, q, mm, cc, none, 0, 0⟩, _, _, _, rfl, ⟨owns_base (owns_far HI.out.2.1 hkf (by omega)) (by omega), World.ownsRow_nil _ _ _ _, fun k _ hk => by simp [Value.ownBlock] at hk⟩, he.1, he.2, ?_⟩
      have hT := (HI.out.2.2.2.2.fin (bd0 := bd1) (fun _ => by omega)).map (fun l => (⟨2, 1, 1, l, (0, 0, 0), 0, [], false⟩ : Nod))
      unfold Tf at hT ⊢
      rw [if_pos rfl] at hT ⊢
      rw [PN.out, pb2]
      exact hT
set_option maxHeartbeats 4000000 in
theorem fnode3 {fb a b bd : Nat} {v : Value} {L : List UInt8} (hk : any L a = .inr (3, b)) (w : World) (h : Ft w fb v L a 0 bd) : Calls Try.prog 32 #[.pointer (some ⟨fb, 0, none⟩)] w (Fn fb v L a bd w) := by
  have g0 := (Gr.refl w).alloc (.cells (ncells 0 0 0 (.slice none 0 0) (0, 0, 0) 0 (.slice none 0 0) false) 67)
  have n0 := heap_new' w (.cells (ncells 0 0 0 (.slice none 0 0) (0, 0, 0) 0 (.slice none 0 0) false) 67)
  have HB : Hid (fb < w.heap.size ∧ ∀ k, v.ownBlock = some k → k < w.heap.size) := ⟨h.lt, h.ls.blk⟩
  have PN := hid (pnod_kind hk (by decide) (by decide))
  have h0 := h.below g0.below
  have x1 := h.c1
  have hlt := h.lt
  clear h
  go_enter Try.func32, Try.ntmps32
  go_wp2_with fail
  refine (fany_any _ h0).mono ?_
  rintro r w1 ⟨x, a1, e1, bd1, rfl, f1, k1, t1⟩
  unfold Took at t1
  rw [if_pos rfl, hk] at t1
  obtain ⟨rfl, rfl, rfl, rfl⟩ := t1
  have hn1 : w1.heap.size ≥ w.heap.size + 1 := by have := k1.size; simp at this; omega
  obtain ⟨W, hW⟩ : ∃ W, W = w1.alloc (.cells (ncells 3 1 1 (.slice none 0 0) (0, 0, 0) 0 (.slice none 0 0) false) 67) := ⟨_, rfl⟩
  have F0 : Hid (Nz w W fb v L a1 0 bd1 w1.heap.size (ncells 3 1 1 (.slice none 0 0) (0, 0, 0) 0 (.slice none 0 0) false)) := by
    have g1 : Gr w1 W := by rw [hW]; exact (Gr.refl _).alloc _
    have hfb := HB.out.1
    exact ⟨f1.below g1.below, kp_gr (kp_then g0 k1) g1, (g1.below.block _ (by omega)).trans ((k1.block _ (tk_lt n0) (by omega)).trans n0), by rw [hW]; exact heap_new' _ _, by omega, HB.out⟩
  have y2 := f1.c2
  have ylt := f1.lt
  have N1 : Hid (w1.heap[w.heap.size]? = some (.cells (ncells 0 0 0 (.slice none 0 0) (0, 0, 0) 0 (.slice none 0 0) false) 67 (0, 0)) ∧ Ft w1 fb v L a1 0 bd1 ∧ Kp (fun k => k = fb) w w1) := ⟨(k1.block _ (tk_lt n0) (by have := HB.out.1; omega)).trans n0, f1, kp_then g0 k1⟩
  have hW' : Hid (w1.alloc (.cells #[.int .i64 3, .int .i64 1, .int .i64 1, .slice none 0 0, .int .u64 0, .int .u64 0, .int .u64 0, .int .u64 0, .slice none 0 0, .bool false] 67) = W) := hW.symm
  clear hW g0 n0 h0 f1 k1 hn1 hk x1
  have hmx : Try.prog.follows .mixedOrders = true := by kernel_rfl
  clear N1
  go_wp2_with fail
  rw [hW'.out]
  clear hW'
  refine (fnumber_any 16 2 _ F0.out.ft).mono ?_
  rintro r w2 ⟨m, a2, e2, bd2, rfl, f2, k2, t2⟩
  have hm := Took.ok (fits_num (most := 16) (over := 2) (by decide) (by decide)) (Nat.zero_le _) F0.out.ft.le t2
  have F2 : Hid (Nz w w2 fb v L a2 e2 bd2 w1.heap.size (ncells 3 1 1 (.slice none 0 0) (0, 0, 0) 0 (.slice none 0 0) false)) := F0.out.call f2 k2
  have I2 : Hid (Li popd L a1 m 0 [] a2 e2 bd2 ∧ (e2 ≠ 0 → m = 0)) := by
    unfold Took at t2
    rw [if_pos rfl] at t2
    cases hp : num 16 2 L a1 with
    | inl z =>
      rw [hp] at t2
      obtain ⟨r1, r2, r3⟩ := t2
      obtain ⟨_, _, h3⟩ := (fits_num (most := 16) (over := 2) (by decide) (by decide)).fault L a1 z.1 z.2 F0.out.ft.le hp
      exact ⟨Or.inr ⟨by rw [r2]; exact h3, by rw [Rp.none hp, r2, r3]⟩, fun _ => r1⟩
    | inr z =>
      rw [hp] at t2
      obtain ⟨r1, r2, r3, _⟩ := t2
      have hs := Rp.start (p := popd) hp
      rw [← r1, ← r2] at hs
      exact ⟨Or.inl ⟨r3, rfl, hs⟩, fun h => absurd r3 h⟩
  obtain ⟨B, hB, hB2⟩ : ∃ B, w1.heap.size < B ∧ B ≤ w2.heap.size := ⟨_, tk_lt F2.out.hn, Nat.le_refl _⟩
  have hwm : wrap64 (m : Int) = (m : Int) := by unfold wrap64; omega
  obtain ⟨⟨c0, l0⟩, ⟨cn, fn, ln⟩, ⟨cr, fr, lr⟩, n0⟩ := F2.out.facts
  clear f2 k2 F0 t2
  go_wp2_with fail
  clear c0 l0 cn fn ln cr fr lr n0
  go_loopw [7] (fun s7 wr => ∃ (i : Nat) (done : List Opd) (q : Option Addr) (mm cc a3 e3 bd3 : Nat), i ≤ m ∧ s7 = .int .i64 (i : Nat) ∧ Hid (Nz w wr fb v L a3 e3 bd3 w1.heap.size (ncells 3 1 1 (.slice q mm cc) (0, 0, 0) 0 (.slice none 0 0) false) ∧ wr.ownsRow B 78 2 (.slice q mm cc) done.length (fl EO done) ∧ B ≤ wr.heap.size ∧ done.length ≤ i ∧ Li popd L a1 m i done a3 e3 bd3)) (fun s7 _ => m - (RowKit.intOf s7).toNat)
  case atStart => exact ⟨0, [], none, 0, 0, a2, e2, bd2, Nat.zero_le _, rfl, F2.out, World.ownsRow_nil _ _ _ _, by omega, Nat.le_refl _, I2.out.1⟩
  case round =>
    clear F2 I2
    obtain ⟨i, done, q, mm, cc, a3, e3, bd3, hi, rfl, HI⟩ := hrel
    obtain ⟨⟨c0, l0⟩, ⟨cn, fn, ln⟩, ⟨cr, fr, lr⟩, n0⟩ := HI.out.1.facts
    by_cases hlt2 : i < m
    · have hltz : (i : Int) < (m : Int) := by omega
      by_cases he3 : e3 = 0
      · subst he3
        go_wp2_with fail
        refine (fint_k _ HI.out.1.ft).mono ?_
        rintro r w4 ⟨x4, u4, a4, e4, bd4, rfl, rfl, f4, k4, t4⟩
        have F4 := hid (HI.out.1.call f4 k4)
        have g5 := (Gr.refl w4).alloc (.cells #[.int .i64 x4, .int .u64 0] 78)
        have o5 := heap_new' w4 (.cells #[.int .i64 x4, .int .u64 0] 78)
        clear c0 l0 cn fn ln cr fr lr n0 f4
        go_wp2_with fail
        have F5 := hid (F4.out.call (F4.out.ft.below g5.below) (Kp.of_gr g5))
        refine (fany_k _ F5.out.ft).mono ?_
        rintro r w6 ⟨x6, u6, a6, e6, bd6, rfl, rfl, f6, k6, t6⟩
        have F6 := hid (F5.out.call f6 k6)
        have hfb := HB.out.1
        have hs4 := k4.size
        have hB3 := HI.out.2.2.1
        have o6 := (k6.block _ (tk_lt o5) (by have := F4.out.lt; have := tk_lt F4.out.hn; omega)).trans o5
        have s6 := tk_set o6 1 (.int .u64 (x6 : Nat))
        have O6 : Hid ((w6.setCell ⟨w4.heap.size, 1, none⟩ (.int .u64 (x6 : Nat))).ownsRow B 78 2 (.slice q mm cc) done.length (fl EO done)) := by
          have hold := fun k hk => owns_rd HI.out.2.1 k hk
          have q1 := owns_far HI.out.2.1 k4 (by omega)
          have q2 := owns_below q1 g5.below
          have q3 := owns_far q2 k6 (by omega)
          exact owns_kp s6.2 q3 (fun k hk e => by have := hold k hk; omega)
        have F7 : Hid (Nz w (w6.setCell ⟨w4.heap.size, 1, none⟩ (.int .u64 (x6 : Nat))) fb v L a6 e6 bd6 w1.heap.size (ncells 3 1 1 (.slice q mm cc) (0, 0, 0) 0 (.slice none 0 0) false)) := F6.out.kpS s6.2 hB (fun k e => by omega)
        have T6 := hid (tf_opd t4 t6)
        have oc := (tk_store o6).1
        have of := (tk_store o6).2
        have ol := tk_lt o6
        have BS : Hid (B ≤ (w6.setCell ⟨w4.heap.size, 1, none⟩ (.int .u64 (x6 : Nat))).heap.size) := by have := s6.2.size; have := k6.size; have := g5.size; show B ≤ _; omega
        obtain ⟨-, ⟨cn, fn, ln⟩, -, -⟩ := F6.out.facts
        have nob : ¬ w4.heap.size = w1.heap.size := by have := tk_lt F4.out.hn; omega
        clear k4 k6 t4 t6 g5 o5 o6 s6 f6 F4 F5 F6
        go_wp2_with (at_builtin; refine wpApp1 EO Try.underlying61 infoO rfl (by decide) rfl _ _ rfl B _ done.length _ rfl O6.out ⟨x4, x6⟩ (by first | rfl | (go_simp; done)) (by have := HI.out.2.2.2.1; omega) (by have := HI.out.2.2.2.1; unfold maxLen; omega) BS.out _ rfl _ ?_)
        intro g cap w8 h1 h2 h3
        have hu := fun k hk => (owns_rd O6.out k hk).1
        have F8 := hid (F7.out.kpS (Kp.grownBy (S := fun k => (Value.slice q mm cc).ownBlock = some k) h2 (fun _ h => h)) hB hu)
        have S8 : Hid (B ≤ w8.heap.size) := Nat.le_trans BS.out h2.size
        have O8 := hid h1
        clear h1 h2 hu cn fn ln oc of ol nob O6 F7 BS
        obtain ⟨-, ⟨cn, fn, ln⟩, -, -⟩ := F8.out.facts
        go_wp2_with fail
        go_roundw
        case rel =>
          have s9 := tk_set F8.out.hn 3 (.slice (some ⟨g, 0, none⟩) (done.length + 1) cap)
          refine ⟨i + 1, done ++ [⟨x4, x6⟩], some ⟨g, 0, none⟩, done.length + 1, cap, a6, e6, bd6, by omega, by go_num, F8.out.set 3 _, ?_, Nat.le_trans S8.out s9.2.size, by rw [List.length_append, List.length_singleton]; have := HI.out.2.2.2.1; omega, HI.out.2.2.2.2.step hlt2 T6.out⟩
          refine owns_re (owns_far O8.out s9.2 hB) (by simp) (by rw [fl_append, fl_one])
        case measure => simp [RowKit.intOf]; omega
      · have hz : ((e3 : Int) == 0) = false := by simp; omega
        have hz' : ¬ (e3 : Int) = 0 := by omega
        go_wp2_with fail
        obtain ⟨wf, hwf⟩ : ∃ wf, wf = ((((((((((wr.setCell ⟨w.heap.size, 0, none⟩ (.int .i64 3)).setCell ⟨w.heap.size, 1, none⟩ (.int .i64 1)).setCell ⟨w.heap.size, 2, none⟩ (.int .i64 1)).setCell ⟨w.heap.size, 3, none⟩ (.slice q mm cc)).setCell ⟨w.heap.size, 4, none⟩ (.int .u64 0)).setCell ⟨w.heap.size, 5, none⟩ (.int .u64 0)).setCell ⟨w.heap.size, 6, none⟩ (.int .u64 0)).setCell ⟨w.heap.size, 7, none⟩ (.int .u64 0)).setCell ⟨w.heap.size, 8, none⟩ (.slice none 0 0)).setCell ⟨w.heap.size, 9, none⟩ (.bool false)) := ⟨_, rfl⟩
        rw [← hwf]
        obtain ⟨hbf, hkf⟩ : wf.heap[w.heap.size]? = some (.cells #[.int .i64 3, .int .i64 1, .int .i64 1, .slice q mm cc, .int .u64 0, .int .u64 0, .int .u64 0, .int .u64 0, .slice none 0 0, .bool false] 67 (0, 0)) ∧ Kp (fun k => k = w.heap.size) wr wf := by
          rw [hwf]
          exact fill10 HI.out.1.hr _ _ _ _ _ _ _ _ _ _
        clear hwf
        obtain ⟨qf, -⟩ := tk_store hbf
        have hlf := tk_lt hbf
        have he := HI.out.1.end hkf
        have hlt2 := HI.out.1.lt
        refine bodyPost_ret (v := .agg #[.int .i64 3, .int .i64 1, .int .i64 1, .slice q mm cc, .int .u64 0, .int .u64 0, .int .u64 0, .int .u64 0, .slice none 0 0, .bool false]) (by simp [results, Try.results32, go_sem, qf]) rfl ?_
        refine ⟨⟨⟨3, 1, 1, done, (0, 0, 0), 0, [], false⟩, q, mm, cc, none, 0, 0⟩, _, _, _, rfl, ⟨owns_base (owns_far HI.out.2.1 hkf (by omega)) (by omega), World.ownsRow_nil _ _ _ _, fun k _ hk => by simp [Value.ownBlock] at hk⟩, he.1, he.2, ?_⟩
        have hT := (HI.out.2.2.2.2.fin (bd0 := bd1) (fun h => absurd h he3)).map (fun l => (⟨3, 1, 1, l, (0, 0, 0), 0, [], false⟩ : Nod))
        unfold Tf at hT ⊢
        rw [if_pos rfl] at hT ⊢
        rw [PN.out, pb3]
        exact hT
    · have hltz : ¬ (i : Int) < (m : Int) := by omega
      go_wp2_with fail
      obtain ⟨wf, hwf⟩ : ∃ wf, wf = ((((((((((wr.setCell ⟨w.heap.size, 0, none⟩ (.int .i64 3)).setCell ⟨w.heap.size, 1, none⟩ (.int .i64 1)).setCell ⟨w.heap.size, 2, none⟩ (.int .i64 1)).setCell ⟨w.heap.size, 3, none⟩ (.slice q mm cc)).setCell ⟨w.heap.size, 4, none⟩ (.int .u64 0)).setCell ⟨w.heap.size, 5, none⟩ (.int .u64 0)).setCell ⟨w.heap.size, 6, none⟩ (.int .u64 0)).setCell ⟨w.heap.size, 7, none⟩ (.int .u64 0)).setCell ⟨w.heap.size, 8, none⟩ (.slice none 0 0)).setCell ⟨w.heap.size, 9, none⟩ (.bool false)) := ⟨_, rfl⟩
      rw [← hwf]
      obtain ⟨hbf, hkf⟩ : wf.heap[w.heap.size]? = some (.cells #[.int .i64 3, .int .i64 1, .int .i64 1, .slice q mm cc, .int .u64 0, .int .u64 0, .int .u64 0, .int .u64 0, .slice none 0 0, .bool false] 67 (0, 0)) ∧ Kp (fun k => k = w.heap.size) wr wf := by
        rw [hwf]
        exact fill10 HI.out.1.hr _ _ _ _ _ _ _ _ _ _
      clear hwf
      obtain ⟨qf, -⟩ := tk_store hbf
      have hlf := tk_lt hbf
      have he := HI.out.1.end hkf
      have hlt2 := HI.out.1.lt
      refine bodyPost_ret (v := .agg #[.int .i64 3, .int .i64 1, .int .i64 1, .slice q mm cc, .int .u64 0, .int .u64 0, .int .u64 0, .int .u64 0, .slice none 0 0, .bool false]) (by simp [results, Try.results32, go_sem, qf]) rfl ?_
      refine ⟨⟨⟨3, 1, 1, done, (0, 0, 0), 0, [], false⟩, q, mm, cc, none, 0, 0⟩, _, _, _, rfl, ⟨owns_base (owns_far HI.out.2.1 hkf (by omega)) (by omega), World.ownsRow_nil _ _ _ _, fun k _ hk => by simp [Value.ownBlock] at hk⟩, he.1, he.2, ?_⟩
      have hT := (HI.out.2.2.2.2.fin (bd0 := bd1) (fun _ => by omega)).map (fun l => (⟨3, 1, 1, l, (0, 0, 0), 0, [], false⟩ : Nod))
      unfold Tf at hT ⊢
      rw [if_pos rfl] at hT ⊢
      rw [PN.out, pb3]
      exact hT
end Go.Proofs.Ytnclnagpfjmlcaa.Df
