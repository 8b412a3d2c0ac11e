import Derived.Test.YtnclnagpfjmlcaaDFnod2
namespace Go.Proofs.Ytnclnagpfjmlcaa.Df
open Go.RowKit Go.Sort Wi
attribute [local go_sem ↓] Go.wp_at_zero Go.wp_at_succ

theorem tf_con {L : List UInt8} {a e bd a1 e1 bd1 a2 e2 bd2 a3 e3 bd3 : Nat} {x y : Int} {z : Pth} (h : Tf int L a e bd x a1 e1 bd1) (k : Tf int L a1 e1 bd1 y a2 e2 bd2) (l : Tf ppth L a2 e2 bd2 z a3 e3 bd3) : Tf pcon L a e bd ⟨x, y, z⟩ a3 e3 bd3 := by
  have := (h.and (k.and l)).map (fun z => (⟨z.1, z.2.1, z.2.2⟩ : Con))
  exact this
/-- How far the document's reading of a list has come, behind an error too. -/
def Lw {α : Type} (p : Pa α) (L : List UInt8) (ab e0 bd0 m : Nat) (i : Nat) (done : List α) (a e bd : Nat) : Prop := if e0 = 0 then Li p L ab m i done a e bd else e = e0 ∧ bd = bd0
theorem Lw.step {α : Type} {p : Pa α} {L : List UInt8} {ab e0 bd0 m i : Nat} {done : List α} {a bd : Nat} {x : α} {a' e' bd' : Nat} (h : Lw p L ab e0 bd0 m i done a 0 bd) (hi : i < m) (t : Tf p L a 0 bd x a' e' bd') : Lw p L ab e0 bd0 m (i + 1) (done ++ [x]) a' e' bd' := by
  unfold Lw at h ⊢
  split
  · rename_i h0; rw [if_pos h0] at h; exact h.step hi t
  · rename_i h0; rw [if_neg h0] at h; exact absurd h.1.symm h0
theorem Lw.fin {α : Type} {p : Pa α} {L : List UInt8} {ab e0 bd0 m i : Nat} {done : List α} {a e bd : Nat} (h : Lw p L ab e0 bd0 m i done a e bd) (hi : e = 0 → i = m) : Tf (lst 16 p) L ab e0 bd0 done a e bd := by
  unfold Lw at h
  by_cases h0 : e0 = 0
  · subst h0; rw [if_pos rfl] at h; exact h.fin hi
  · rw [if_neg h0] at h; unfold Tf; rw [if_neg h0]; exact h
theorem Lw.start {α : Type} {p : Pa α} {L : List UInt8} {ab e0 bd0 m a e bd : Nat} (ha : ab ≤ L.length) (t : Took (num 16 2) L ab e0 bd0 0 m a e bd) : Lw p L ab e0 bd0 m 0 [] a e bd := by
  unfold Took at t
  unfold Lw
  by_cases h0 : e0 = 0
  · rw [if_pos h0] at t ⊢
    cases hp : num 16 2 L ab with
    | inl z =>
      rw [hp] at t
      obtain ⟨r1, r2, r3⟩ := t
      obtain ⟨_, _, h3⟩ := (fits_num (most := 16) (over := 2) (by decide) (by decide)).fault L ab z.1 z.2 ha hp
      exact Or.inr ⟨by rw [r2]; exact h3, by rw [Rp.none hp, r2, r3]⟩
    | inr z =>
      rw [hp] at t
      obtain ⟨r1, r2, r3, _⟩ := t
      have hs := Rp.start (p := p) hp
      rw [← r1, ← r2] at hs
      exact Or.inl ⟨r3, rfl, hs⟩
  · rw [if_neg h0] at t ⊢
    exact t.2
set_option maxHeartbeats 4000000 in
theorem fnode8 {fb a b bd : Nat} {v : Value} {L : List UInt8} (hk : any L a = .inr (8, b)) (w : World) (h : Ft w fb v L a 0 bd) : Calls Try.prog 32 #[.pointer (some ⟨fb, 0, none⟩)] w (Fn fb v L a bd w) := by
  have g0 := (Gr.refl w).alloc (.cells (ncells 0 0 0 (.slice none 0 0) (0, 0, 0) 0 (.slice none 0 0) false) 67)
  have n0 := heap_new' w (.cells (ncells 0 0 0 (.slice none 0 0) (0, 0, 0) 0 (.slice none 0 0) false) 67)
  have HB : Hid (fb < w.heap.size ∧ ∀ k, v.ownBlock = some k → k < w.heap.size) := ⟨h.lt, h.ls.blk⟩
  have PN := hid (pnod_kind hk (by decide) (by decide))
  have h0 := h.below g0.below
  have x1 := h.c1
  have hlt := h.lt
  clear h
  go_enter Try.func32, Try.ntmps32
  go_wp2_with fail
  refine (fany_any _ h0).mono ?_
  rintro r w1 ⟨x, a1, e1, bd1, rfl, f1, k1, t1⟩
  unfold Took at t1
  rw [if_pos rfl, hk] at t1
  obtain ⟨rfl, rfl, rfl, rfl⟩ := t1
  have hn1 : w1.heap.size ≥ w.heap.size + 1 := by have := k1.size; simp at this; omega
  obtain ⟨W, hW⟩ : ∃ W, W = w1.alloc (.cells (ncells 8 1 1 (.slice none 0 0) (0, 0, 0) 0 (.slice none 0 0) false) 67) := ⟨_, rfl⟩
  have F0 : Hid (Nz w W fb v L a1 0 bd1 w1.heap.size (ncells 8 1 1 (.slice none 0 0) (0, 0, 0) 0 (.slice none 0 0) false)) := by
    have g1 : Gr w1 W := by rw [hW]; exact (Gr.refl _).alloc _
    have hfb := HB.out.1
    exact ⟨f1.below g1.below, kp_gr (kp_then g0 k1) g1, (g1.below.block _ (by omega)).trans ((k1.block _ (tk_lt n0) (by omega)).trans n0), by rw [hW]; exact heap_new' _ _, by omega, HB.out⟩
  have y2 := f1.c2
  have ylt := f1.lt
  have N1 : Hid (w1.heap[w.heap.size]? = some (.cells (ncells 0 0 0 (.slice none 0 0) (0, 0, 0) 0 (.slice none 0 0) false) 67 (0, 0)) ∧ Ft w1 fb v L a1 0 bd1 ∧ Kp (fun k => k = fb) w w1) := ⟨(k1.block _ (tk_lt n0) (by have := HB.out.1; omega)).trans n0, f1, kp_then g0 k1⟩
  have hW' : Hid (w1.alloc (.cells #[.int .i64 8, .int .i64 1, .int .i64 1, .slice none 0 0, .int .u64 0, .int .u64 0, .int .u64 0, .int .u64 0, .slice none 0 0, .bool false] 67) = W) := hW.symm
  clear hW g0 n0 h0 f1 k1 hn1 hk x1
  have hmx : Try.prog.follows .mixedOrders = true := by kernel_rfl
  clear N1
  go_wp2_with fail
  rw [hW'.out]
  clear hW'
  refine (ftruth_k _ F0.out.ft).mono ?_
  rintro r w2 ⟨x2, u2, a2, e2, bd2, rfl, rfl, f2, k2, t2⟩
  have F2 := hid (F0.out.call f2 k2)
  have T2 := hid t2
  obtain ⟨⟨c0, l0⟩, ⟨cn, fn, ln⟩, ⟨cr, fr, lr⟩, n0⟩ := F2.out.facts
  clear f2 k2 F0 t2
  go_wp2_with fail
  have F3 : Hid (Nz w (w2.setCell ⟨w1.heap.size, 9, none⟩ (.bool x2)) fb v L a2 e2 bd2 w1.heap.size (ncells 8 1 1 (.slice none 0 0) (0, 0, 0) 0 (.slice none 0 0) x2)) := F2.out.set 9 (.bool x2)
  clear c0 l0 cn fn ln cr fr lr n0 F2
  refine (fnumber_any 16 2 _ F3.out.ft).mono ?_
  rintro r w3 ⟨m, a3, e3, bd3, rfl, f3, k3, t3⟩
  have hm := Took.ok (fits_num (most := 16) (over := 2) (by decide) (by decide)) (Nat.zero_le _) F3.out.ft.le t3
  have I3 : Hid (Lw pcon L a2 e2 bd2 m 0 [] a3 e3 bd3) := Lw.start F3.out.ft.le t3
  have F4 : Hid (Nz w w3 fb v L a3 e3 bd3 w1.heap.size (ncells 8 1 1 (.slice none 0 0) (0, 0, 0) 0 (.slice none 0 0) x2)) := F3.out.call f3 k3
  obtain ⟨B, hB, hB2⟩ : ∃ B, w1.heap.size < B ∧ B ≤ w3.heap.size := ⟨_, tk_lt F4.out.hn, Nat.le_refl _⟩
  have hwm : wrap64 (m : Int) = (m : Int) := by unfold wrap64; omega
  obtain ⟨⟨c0, l0⟩, ⟨cn, fn, ln⟩, ⟨cr, fr, lr⟩, n0⟩ := F4.out.facts
  clear f3 k3 F3 t3
  go_wp2_with fail
  clear c0 l0 cn fn ln cr fr lr n0
  go_loopw [10] (fun s10 wr => ∃ (i : Nat) (done : List Con) (q : Option Addr) (mm cc a3 e3 bd3 : Nat), i ≤ m ∧ s10 = .int .i64 (i : Nat) ∧ Hid (Nz w wr fb v L a3 e3 bd3 w1.heap.size (ncells 8 1 1 (.slice none 0 0) (0, 0, 0) 0 (.slice q mm cc) x2) ∧ wr.ownsRow B 80 5 (.slice q mm cc) done.length (fl EC done) ∧ B ≤ wr.heap.size ∧ done.length ≤ i ∧ Lw pcon L a2 e2 bd2 m i done a3 e3 bd3)) (fun s10 _ => m - (RowKit.intOf s10).toNat)
  case atStart => exact ⟨0, [], none, 0, 0, a3, e3, bd3, Nat.zero_le _, rfl, F4.out, World.ownsRow_nil _ _ _ _, by omega, Nat.le_refl _, I3.out⟩
  case round =>
    clear F4 I3
    obtain ⟨i, done, q, mm, cc, a3, e3, bd3, hi, rfl, HI⟩ := hrel
    obtain ⟨⟨c0, l0⟩, ⟨cn, fn, ln⟩, ⟨cr, fr, lr⟩, n0⟩ := HI.out.1.facts
    by_cases hlt2 : i < m
    · have hltz : (i : Int) < (m : Int) := by omega
      by_cases he3 : e3 = 0
      · subst he3
        go_wp2_with fail
        refine (fint_k _ HI.out.1.ft).mono ?_
        rintro r w4 ⟨x4, u4, a4, e4, bd4, rfl, rfl, f4, k4, t4⟩
        have F4 := hid (HI.out.1.call f4 k4)
        have g5 := (Gr.refl w4).alloc (.cells #[.int .i64 x4, .int .i64 0, .int .u64 0, .int .u64 0, .int .u64 0] 80)
        have o5 := heap_new' w4 (.cells #[.int .i64 x4, .int .i64 0, .int .u64 0, .int .u64 0, .int .u64 0] 80)
        clear c0 l0 cn fn ln cr fr lr n0 f4
        go_wp2_with fail
        have F5 := hid (F4.out.call (F4.out.ft.below g5.below) (Kp.of_gr g5))
        refine (fint_k _ F5.out.ft).mono ?_
        rintro r w6 ⟨x6, u6, a6, e6, bd6, rfl, rfl, f6, k6, t6⟩
        have F6 := hid (F5.out.call f6 k6)
        have hfb := HB.out.1
        have hs4 := k4.size
        have hB3 := HI.out.2.2.1
        have o6 := (k6.block _ (tk_lt o5) (by have := F4.out.lt; have := tk_lt F4.out.hn; omega)).trans o5
        have O6 : Hid (w6.ownsRow B 80 5 (.slice q mm cc) done.length (fl EC done) ∧ B ≤ w4.heap.size ∧ (∀ k, (Value.slice q mm cc).ownBlock = some k → k < w4.heap.size) ∧ w4.heap.size < w6.heap.size) := by
          have hold := fun k hk => owns_rd HI.out.2.1 k hk
          have q1 := owns_far HI.out.2.1 k4 (by omega)
          have q2 := owns_below q1 g5.below
          exact ⟨owns_far q2 k6 (by omega), by omega, fun k hk => by have := (hold k hk).2; omega, tk_lt o6⟩
        have oc := (tk_store o6).1
        have of := (tk_store o6).2
        have ol := tk_lt o6
        have T6 := hid (And.intro t4 t6)
        have P6 := hid o6
        clear k4 k6 t4 t6 g5 o5 o6 f6 F4 F5
        go_wp2_with fail
        have s6 := tk_set P6.out 1 (.int .i64 x6)
        have F7 := hid (F6.out.kpS s6.2 hB (fun k e => by have := O6.out.2.1; omega))
        have O7 := hid (owns_kp s6.2 O6.out.1 (fun k hk e => by have := O6.out.2.2.1 k hk; omega))
        have P7 := hid s6.1
        have Z7 := hid s6.2.size
        clear oc of ol s6 F6 P6
        refine (fpath_k _ F7.out.ft).mono ?_
        rintro r w8 ⟨x8, u8, a8, e8, bd8, rfl, rfl, f8, k8, t8⟩
        have F8 := hid (F7.out.call f8 k8)
        have O8 := hid (owns_far O7.out k8 (by have := O6.out.2.1; have := HI.out.1.lt; omega))
        have P8 : Hid (w8.heap[w4.heap.size]? = some (.cells #[.int .i64 x4, .int .i64 x6, .int .u64 0, .int .u64 0, .int .u64 0] 80 (0, 0))) := (k8.block _ (tk_lt P7.out) (by have := O6.out.2.1; have := HI.out.1.lt; omega)).trans P7.out
        have oc := (tk_store P8.out).1
        have of := (tk_store P8.out).2
        have ol := tk_lt P8.out
        obtain ⟨-, ⟨cn, fn, ln⟩, -, -⟩ := F8.out.facts
        have nob : ¬ w4.heap.size = w1.heap.size := by have := O6.out.2.1; omega
        have T8 := hid (tf_con T6.out.1 T6.out.2 t8)
        clear f8 k8 t8 F7 O7 P7
        have F9 : Hid (Nz w (((w8.setCell ⟨w4.heap.size, 2, none⟩ (.int .u64 (x8.1 : Nat))).setCell ⟨w4.heap.size, 3, none⟩ (.int .u64 (x8.2.1 : Nat))).setCell ⟨w4.heap.size, 4, none⟩ (.int .u64 (x8.2.2 : Nat))) fb v L a8 e8 bd8 w1.heap.size (ncells 8 1 1 (.slice none 0 0) (0, 0, 0) 0 (.slice q mm cc) x2) ∧ (((w8.setCell ⟨w4.heap.size, 2, none⟩ (.int .u64 (x8.1 : Nat))).setCell ⟨w4.heap.size, 3, none⟩ (.int .u64 (x8.2.1 : Nat))).setCell ⟨w4.heap.size, 4, none⟩ (.int .u64 (x8.2.2 : Nat))).ownsRow B 80 5 (.slice q mm cc) done.length (fl EC done) ∧ B ≤ (((w8.setCell ⟨w4.heap.size, 2, none⟩ (.int .u64 (x8.1 : Nat))).setCell ⟨w4.heap.size, 3, none⟩ (.int .u64 (x8.2.1 : Nat))).setCell ⟨w4.heap.size, 4, none⟩ (.int .u64 (x8.2.2 : Nat))).heap.size) := by
          have h2 := tk_set P8.out 2 (.int .u64 (x8.1 : Nat))
          have h3 := tk_set h2.1 3 (.int .u64 (x8.2.1 : Nat))
          have h4 := tk_set h3.1 4 (.int .u64 (x8.2.2 : Nat))
          have hk := (h2.2.trans h3.2 (fun _ _ h => h)).trans h4.2 (fun _ _ h => h)
          exact ⟨F8.out.kpS hk hB (fun k e => by have := O6.out.2.1; omega), owns_kp hk O8.out (fun k hk e => by have := O6.out.2.2.1 k hk; omega), by have := hk.size; have := tk_lt P8.out; have := O6.out.2.1; omega⟩
        clear O8 P8 T6 F8 Z7
        go_wp2_with (at_builtin; refine wpApp1 EC Try.underlying65 infoC rfl (by decide) rfl _ _ rfl B _ done.length _ rfl F9.out.2.1 ⟨x4, x6, x8⟩ (by first | rfl | (go_simp; done)) (by have := HI.out.2.2.2.1; omega) (by have := HI.out.2.2.2.1; unfold maxLen; omega) F9.out.2.2 _ rfl _ ?_)
        intro g cap w10 h1 h2 h3
        have hu := fun k hk => (owns_rd F9.out.2.1 k hk).1
        have F10 := hid (F9.out.1.kpS (Kp.grownBy (S := fun k => (Value.slice q mm cc).ownBlock = some k) h2 (fun _ h => h)) hB hu)
        have S10 : Hid (B ≤ w10.heap.size) := Nat.le_trans F9.out.2.2 h2.size
        have O10 := hid h1
        clear h1 h2 hu cn fn ln oc of ol nob F9
        obtain ⟨-, ⟨cn, fn, ln⟩, -, -⟩ := F10.out.facts
        go_wp2_with fail
        go_roundw
        case rel =>
          have s9 := tk_set F10.out.hn 8 (.slice (some ⟨g, 0, none⟩) (done.length + 1) cap)
          refine ⟨i + 1, done ++ [⟨x4, x6, x8⟩], some ⟨g, 0, none⟩, done.length + 1, cap, a8, e8, bd8, by omega, by go_num, F10.out.set 8 _, ?_, Nat.le_trans S10.out s9.2.size, by rw [List.length_append, List.length_singleton]; have := HI.out.2.2.2.1; omega, HI.out.2.2.2.2.step hlt2 T8.out⟩
          refine owns_re (owns_far O10.out s9.2 hB) (by simp) (by rw [fl_append, fl_one])
        case measure => simp [RowKit.intOf]; omega
      · have hz : ((e3 : Int) == 0) = false := by simp; omega
        have hz' : ¬ (e3 : Int) = 0 := by omega
        go_wp2_with fail
        refine (fint_k _ HI.out.1.ft).mono ?_
        rintro r w5 ⟨x5, u5, a5, e5, bd5, rfl, rfl, f5, k5, t5⟩
        have F5 := hid (HI.out.1.call f5 k5)
        have O5 := hid (owns_far HI.out.2.1 k5 (by have := HB.out.1; have := HI.out.1.lt; omega))
        clear f5 k5 c0 l0 cn fn ln cr fr lr n0
        obtain ⟨⟨c0, l0⟩, ⟨cn, fn, ln⟩, ⟨cr, fr, lr⟩, n0⟩ := F5.out.facts
        go_wp2_with fail
        have F6 := hid (F5.out.set 2 (.int .i64 x5))
        have O6 := hid (owns_far O5.out (tk_set F5.out.hn 2 (.int .i64 x5)).2 hB)
        clear c0 l0 cn fn ln cr fr lr n0 F5 O5
        refine (fint_k _ F6.out.ft).mono ?_
        rintro r w7 ⟨x7, u7, a7, e7, bd7, rfl, rfl, f7, k7, t7⟩
        have F7 := hid (F6.out.call f7 k7)
        have O7 := hid (owns_far O6.out k7 (by have := HB.out.1; have := HI.out.1.lt; omega))
        clear f7 k7 F6 O6
        obtain ⟨⟨c0, l0⟩, ⟨cn, fn, ln⟩, ⟨cr, fr, lr⟩, n0⟩ := F7.out.facts
        go_wp2_with fail
        have F8 := hid (F7.out.set 1 (.int .i64 x7))
        have O8 := hid (owns_far O7.out (tk_set F7.out.hn 1 (.int .i64 x7)).2 hB)
        obtain ⟨wf, hwf⟩ : ∃ wf, wf = (((((((((((w7.setCell ⟨w1.heap.size, 1, none⟩ (.int .i64 x7)).setCell ⟨w.heap.size, 0, none⟩ (.int .i64 8)).setCell ⟨w.heap.size, 1, none⟩ (.int .i64 x7)).setCell ⟨w.heap.size, 2, none⟩ (.int .i64 x5)).setCell ⟨w.heap.size, 3, none⟩ (.slice none 0 0)).setCell ⟨w.heap.size, 4, none⟩ (.int .u64 0)).setCell ⟨w.heap.size, 5, none⟩ (.int .u64 0)).setCell ⟨w.heap.size, 6, none⟩ (.int .u64 0)).setCell ⟨w.heap.size, 7, none⟩ (.int .u64 0)).setCell ⟨w.heap.size, 8, none⟩ (.slice q mm cc)).setCell ⟨w.heap.size, 9, none⟩ (.bool x2)) := ⟨_, rfl⟩
        rw [← hwf]
        obtain ⟨hbf, hkf⟩ : wf.heap[w.heap.size]? = some (.cells #[.int .i64 8, .int .i64 x7, .int .i64 x5, .slice none 0 0, .int .u64 0, .int .u64 0, .int .u64 0, .int .u64 0, .slice q mm cc, .bool x2] 67 (0, 0)) ∧ Kp (fun k => k = w.heap.size) (w7.setCell ⟨w1.heap.size, 1, none⟩ (.int .i64 x7)) wf := by
          rw [hwf]
          exact fill10 F8.out.hr _ _ _ _ _ _ _ _ _ _
        clear hwf
        obtain ⟨qf, -⟩ := tk_store hbf
        have hlf := tk_lt hbf
        have he := F8.out.end hkf
        have hlt2 := F8.out.lt
        refine bodyPost_ret (v := .agg #[.int .i64 8, .int .i64 x7, .int .i64 x5, .slice none 0 0, .int .u64 0, .int .u64 0, .int .u64 0, .int .u64 0, .slice q mm cc, .bool x2]) (by simp [results, Try.results32, go_sem, qf]) rfl ?_
        refine ⟨⟨⟨8, x7, x5, [], (0, 0, 0), 0, done, x2⟩, none, 0, 0, q, mm, cc⟩, _, _, _, rfl, ⟨World.ownsRow_nil _ _ _ _, owns_base (owns_far O8.out hkf (by omega)) (by omega), fun k hk => by simp [Value.ownBlock] at hk⟩, he.1, he.2, ?_⟩
        have hT := (T2.out.and ((HI.out.2.2.2.2.fin (fun h => absurd h he3)).and (t5.and t7))).map (fun z => (⟨8, z.2.2.2, z.2.2.1, [], (0, 0, 0), 0, z.2.1, z.1⟩ : Nod))
        unfold Tf at hT ⊢
        rw [if_pos rfl] at hT ⊢
        rw [PN.out, pb8]
        exact hT
    · have hltz : ¬ (i : Int) < (m : Int) := by omega
      go_wp2_with fail
      refine (fint_k _ HI.out.1.ft).mono ?_
      rintro r w5 ⟨x5, u5, a5, e5, bd5, rfl, rfl, f5, k5, t5⟩
      have F5 := hid (HI.out.1.call f5 k5)
      have O5 := hid (owns_far HI.out.2.1 k5 (by have := HB.out.1; have := HI.out.1.lt; omega))
      clear f5 k5 c0 l0 cn fn ln cr fr lr n0
      obtain ⟨⟨c0, l0⟩, ⟨cn, fn, ln⟩, ⟨cr, fr, lr⟩, n0⟩ := F5.out.facts
      go_wp2_with fail
      have F6 := hid (F5.out.set 2 (.int .i64 x5))
      have O6 := hid (owns_far O5.out (tk_set F5.out.hn 2 (.int .i64 x5)).2 hB)
      clear c0 l0 cn fn ln cr fr lr n0 F5 O5
      refine (fint_k _ F6.out.ft).mono ?_
      rintro r w7 ⟨x7, u7, a7, e7, bd7, rfl, rfl, f7, k7, t7⟩
      have F7 := hid (F6.out.call f7 k7)
      have O7 := hid (owns_far O6.out k7 (by have := HB.out.1; have := HI.out.1.lt; omega))
      clear f7 k7 F6 O6
      obtain ⟨⟨c0, l0⟩, ⟨cn, fn, ln⟩, ⟨cr, fr, lr⟩, n0⟩ := F7.out.facts
      go_wp2_with fail
      have F8 := hid (F7.out.set 1 (.int .i64 x7))
      have O8 := hid (owns_far O7.out (tk_set F7.out.hn 1 (.int .i64 x7)).2 hB)
      obtain ⟨wf, hwf⟩ : ∃ wf, wf = (((((((((((w7.setCell ⟨w1.heap.size, 1, none⟩ (.int .i64 x7)).setCell ⟨w.heap.size, 0, none⟩ (.int .i64 8)).setCell ⟨w.heap.size, 1, none⟩ (.int .i64 x7)).setCell ⟨w.heap.size, 2, none⟩ (.int .i64 x5)).setCell ⟨w.heap.size, 3, none⟩ (.slice none 0 0)).setCell ⟨w.heap.size, 4, none⟩ (.int .u64 0)).setCell ⟨w.heap.size, 5, none⟩ (.int .u64 0)).setCell ⟨w.heap.size, 6, none⟩ (.int .u64 0)).setCell ⟨w.heap.size, 7, none⟩ (.int .u64 0)).setCell ⟨w.heap.size, 8, none⟩ (.slice q mm cc)).setCell ⟨w.heap.size, 9, none⟩ (.bool x2)) := ⟨_, rfl⟩
      rw [← hwf]
      obtain ⟨hbf, hkf⟩ : wf.heap[w.heap.size]? = some (.cells #[.int .i64 8, .int .i64 x7, .int .i64 x5, .slice none 0 0, .int .u64 0, .int .u64 0, .int .u64 0, .int .u64 0, .slice q mm cc, .bool x2] 67 (0, 0)) ∧ Kp (fun k => k = w.heap.size) (w7.setCell ⟨w1.heap.size, 1, none⟩ (.int .i64 x7)) wf := by
        rw [hwf]
        exact fill10 F8.out.hr _ _ _ _ _ _ _ _ _ _
      clear hwf
      obtain ⟨qf, -⟩ := tk_store hbf
      have hlf := tk_lt hbf
      have he := F8.out.end hkf
      have hlt2 := F8.out.lt
      refine bodyPost_ret (v := .agg #[.int .i64 8, .int .i64 x7, .int .i64 x5, .slice none 0 0, .int .u64 0, .int .u64 0, .int .u64 0, .int .u64 0, .slice q mm cc, .bool x2]) (by simp [results, Try.results32, go_sem, qf]) rfl ?_
      refine ⟨⟨⟨8, x7, x5, [], (0, 0, 0), 0, done, x2⟩, none, 0, 0, q, mm, cc⟩, _, _, _, rfl, ⟨World.ownsRow_nil _ _ _ _, owns_base (owns_far O8.out hkf (by omega)) (by omega), fun k hk => by simp [Value.ownBlock] at hk⟩, he.1, he.2, ?_⟩
      have hT := (T2.out.and ((HI.out.2.2.2.2.fin (fun _ => by omega)).and (t5.and t7))).map (fun z => (⟨8, z.2.2.2, z.2.2.1, [], (0, 0, 0), 0, z.2.1, z.1⟩ : Nod))
      unfold Tf at hT ⊢
      rw [if_pos rfl] at hT ⊢
      rw [PN.out, pb8]
      exact hT
end Go.Proofs.Ytnclnagpfjmlcaa.Df
