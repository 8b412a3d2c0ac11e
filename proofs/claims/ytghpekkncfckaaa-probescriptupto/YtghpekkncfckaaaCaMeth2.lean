import Derived.Test.YtghpekkncfckaaaCaMeth
import Derived.Test.YtghpekkncfckaaaLStep2
import Derived.Test.YtghpekkncfckaaaLAppN
namespace Go.Proofs.Ytghpekkncfckaaa.Ca
open Go.RowKit Go.Sort
attribute [local go_sem ↓] Go.wp_at_zero Go.wp_at_succ

/-- S, and what is new. -/
def nx (S : Nat → Prop) (w : World) : Nat → Prop := fun k => S k ∨ w.heap.size ≤ k
section
variable {S : Nat → Prop} {pb : Nat} {l : List Ct}
set_option maxHeartbeats 1000000 in
theorem catch_any {v : Value} {m : List Ct} (w : World) (h : Pb w S pb l) (hv : Ls EC w v m) (hl : (l.length + m.length) * 40 ≤ 140737488355328) :
    Calls Try.prog 8 #[.pointer (some ⟨pb, 0, none⟩), v] w fun e w' => e = .returned (.tuple #[]) ∧ Hid (Pb w' (nx S w) pb (l ++ m) ∧ Kp S w w') := by
  obtain ⟨v0, h1, h2, h3⟩ := h.blk
  have hself := h.self
  have c0 := (tk_store h1).1 0
  have hpl := tk_lt h1
  obtain ⟨p, c, rfl⟩ := own_form h2
  obtain ⟨p1, c1, rfl⟩ := hv.form
  obtain ⟨n, hn⟩ : ∃ n, n = l.length := ⟨_, rfl⟩
  obtain ⟨n1, hn1⟩ : ∃ n1, n1 = m.length := ⟨_, rfl⟩
  rw [← hn] at h1 h2 h3 c0
  have c0' : w.cell? ⟨pb, 0, none⟩ = some (.slice p n c) := c0
  have HO := hid h2
  have HV := hid hv
  have H1 := hid h1
  have H3 := hid h3
  have HS := hid hself
  have HL := hid hl
  have HN := hid hn
  have HN1 := hid hn1
  have HBD : Hid ((n + m.length) * 40 ≤ 140737488355328 ∧ n + m.length ≤ maxLen) := by rw [hn]; exact ⟨hl, by unfold maxLen; omega⟩
  rw [← hn1] at HV ⊢
  clear h h1 h2 h3 c0 hv hself hl hn hn1
  go_enter Try.func8, Try.ntmps8
  go_wp2_with (at_builtin; refine wpAppLN EC Try.underlying22 infoC rfl (by decide) rfl _ _ rfl 0 _ n _ rfl HO.out _ m rfl HV.out HBD.out.1 HBD.out.2 (Nat.zero_le _) ?_)
  intro v2 w2 ho2 hg2 HW2
  have HO2 := hid ho2
  have HK2 : Hid (Kp (fun k => (Value.slice p n c).ownBlock = some k) w w2) := Kp.grownBy hg2 (fun _ h => h)
  have hb2 : w2.heap[pb]? = some (.cells #[.slice p n c] 68 (0, 0)) := (HK2.out.block pb hpl (fun e => (H3.out pb e).2 rfl)).trans H1.out
  have f2 := (tk_store hb2).2 0
  have hl2 := tk_lt hb2
  have z2 : w2.cell? ⟨pb, 0, none⟩ = some (.slice p n c) := (tk_store hb2).1 0
  have HB2 := hid hb2
  clear ho2 hg2 hb2
  obtain ⟨p2, c2, rfl⟩ := own_form HO2.out
  go_wp2_with fail
  go_end0
  refine ⟨rfl, ?_⟩
  obtain ⟨s1, s2⟩ := tk_set HB2.out 0 (.slice p2 (n + m.length) c2)
  have hne : ∀ g, (Value.slice p2 (n + m.length) c2).ownBlock = some g → g ≠ pb := fun g hg e => by
    subst e
    obtain ⟨_, ⟨h0, _⟩ | ⟨g', cap', cur, hv', _, hgg, _⟩⟩ := HO2.out
    · rw [h0] at hg; cases hg
    · have : g' = g := by rw [hv'] at hg; simpa [Value.ownBlock] using hg
      subst this
      rw [HB2.out] at hgg
      simp at hgg
  refine ⟨⟨⟨_, s1, ?_, fun g hg => ⟨?_, hne g hg⟩⟩, Or.inl HS.out⟩, ?_⟩
  · refine owns_kp s2 (owns_re HO2.out (by rw [List.length_append, HN.out]) (by rw [fl_append])) (fun k hk e => hne k hk e)
  · rcases HW2.out g hg with e | e
    · exact Or.inl (H3.out g e).1
    · exact Or.inr e
  · exact (HK2.out.mono (T := S) (fun k e => (H3.out k e).1)).trans (s2.mono (T := S) (fun k e => by rw [e]; exact HS.out)) (fun _ _ h => h)
set_option maxHeartbeats 2000000 in
theorem count_any (x : Ct) (w : World) (h : Pb w S pb l) (hl : l.length * 40 ≤ 140737488355328) : Calls Try.prog 12 #[.pointer (some ⟨pb, 0, none⟩), cv x] w fun e w' => e = .returned (.int .i64 (l.count x : Nat)) ∧ Gr w w' := by
  obtain ⟨v0, h1, h2, _⟩ := h.blk
  have c0 := (tk_store h1).1 0
  have hpl := tk_lt h1
  have HLS : Hid (Ls EC w v0 l) := owns_ls (E := EC) h2
  have heq : ∀ (y : Ct) (W : World), Sem.run Try.prog (Op.equalIn 10000 36 (cv y) (cv x)) W = .ok (decide (y = x)) W := fun y W => run_eqC y x W
  obtain ⟨pv, cv0, hv0⟩ := HLS.out.form
  obtain ⟨n, hn⟩ : ∃ n, n = l.length := ⟨_, rfl⟩
  rw [← hn] at hv0 hl
  have hnb : n ≤ 3518437208883 := by omega
  subst hv0
  have HN := hid hn
  clear h h1 h2 hn hl
  have c0' : w.cell? ⟨pb, 0, none⟩ = some (.slice pv n cv0) := c0
  clear c0
  obtain ⟨W1, hW1⟩ : ∃ W1, W1 = w.alloc (.cells #[.int .u64 x.a, .int .u64 x.b, .int .u64 x.c, .int .u64 x.k, .int .u64 x.v] 36) := ⟨_, rfl⟩
  obtain ⟨B1, hB1⟩ : ∃ B1, B1 = w.heap.size := ⟨_, rfl⟩
  have G1 : Gr w W1 := by rw [hW1]; exact (Gr.refl _).alloc _
  have hC1 : Cc W1 B1 0 x := by rw [hW1, hB1]; exact cc_new w x
  have hl1 : B1 < W1.heap.size := by rw [hW1, hB1]; simp
  have c1 : W1.cell? ⟨pb, 0, none⟩ = some (.slice pv n cv0) := (G1.cell hpl).trans c0'
  have HC1 := hid hC1
  have HG1 := hid G1
  clear hC1 G1
  go_enter Try.func12, Try.ntmps12
  go_upto_region 1 with fail
  rw [← hW1, ← hB1]
  clear hW1 hB1
  go_wp2_with fail
  go_loopw [5, 7, 15] (fun s5 _ s15 wr => ∃ i : Nat, i ≤ n ∧ s15 = .int .i64 (i : Nat) ∧ s5 = .int .i64 ((l.take i).count x : Nat) ∧ Hid (Gr W1 wr)) (fun _ _ s15 _ => n - (RowKit.intOf s15).toNat)
  case atStart => exact ⟨0, Nat.zero_le _, rfl, by simp, Gr.refl _⟩
  case round =>
    obtain ⟨i, hi, rfl, rfl, HI⟩ := hrel
    by_cases hlt : i < n
    · have hz : (i : Int) < (n : Int) := by omega
      have hi0 : (0 : Int) ≤ (i : Int) := by omega
      obtain ⟨y, hy⟩ : ∃ y, l[i]? = some y := ⟨l[i]'(by have := HN.out; omega), by simp⟩
      obtain ⟨b1, o1, q1, e1, l1, x0, x1, x2, x3, x4⟩ := atC (HLS.out.below (HG1.out.trans HI.out).below) hy
      simp only [Value.slice.injEq] at e1
      obtain ⟨rfl, -, rfl⟩ := e1
      have HF : Hid ((l.take (i + 1)).count x = (l.take i).count x + (if y = x then 1 else 0)) := by
        show _ = _
        rw [List.take_add_one, hy, List.count_append]
        congr 1
        simp [List.count_cons]
      have hcb : (l.take i).count x ≤ 3518437208883 := Nat.le_trans List.count_le_length (by rw [List.length_take]; omega)
      obtain ⟨m0, m1, m2, m3, m4⟩ := HC1.out.below hl1 HI.out.below
      have heq2 := heq y
      have hl2 := Nat.lt_of_lt_of_le hl1 HI.out.size
      generalize (l.take i).count x = k at *
      clear hy
      by_cases hyx : y = x
      · rw [decide_eq_true hyx] at heq2
        have HF' := HF.out
        rw [if_pos hyx] at HF'
        have HF2 := hid HF'
        clear hyx heq HF HF'
        go_wp2_with fail
        go_roundw
        case rel => exact ⟨i + 1, hlt, by simp, by rw [HF2.out]; simp, HI.out.alloc _⟩
        case measure => simp [RowKit.intOf]; omega
      · rw [decide_eq_false hyx] at heq2
        have HF' := HF.out
        rw [if_neg hyx] at HF'
        have HF2 := hid HF'
        clear hyx heq HF HF'
        go_wp2_with fail
        go_roundw
        case rel => exact ⟨i + 1, hlt, by simp, by rw [HF2.out]; simp, HI.out.alloc _⟩
        case measure => simp [RowKit.intOf]; omega
    · have hz : ¬ ((i : Int) < (n : Int)) := by omega
      have hin : l.take i = l := List.take_of_length_le (by have := HN.out; omega)
      rw [hin]
      go_wp2
      go_ret
      exact ⟨rfl, HG1.out.trans HI.out⟩
set_option maxHeartbeats 1000000 in
set_option maxRecDepth 100000 in
theorem clone_any {v : Value} {m : List Ct} (w : World) (hv : Ls EC w v m) (hl : m.length * 40 ≤ 140737488355328) : Calls Try.prog 40 #[v] w fun e w' => ∃ p n c, e = .returned (.slice p n c) ∧ Hid (w'.ownsRow w.heap.size 36 5 (.slice p n c) m.length (fl EC m) ∧ Below w.heap.size w w') := by
  rcases id hv with ⟨rfl, rfl⟩ | ⟨b, off, c, rfl, hbs, -⟩
  · clear hl hv
    have hnil : ∀ W : World, Sem.run Try.prog (binOp BinOp.eql 22 (.slice none 0 0) (.slice none 0 0)) W = .ok (.bool true) W := fun W => by first | rfl | kernel_rfl
    go_enter Try.func40, Try.ntmps40
    go_wp2_with fail
    go_ret
    exact ⟨none, 0, 0, rfl, World.ownsRow_nil _ _ _ _, (Gr.refl w).below⟩
  · obtain ⟨n, hn⟩ : ∃ n, n = m.length := ⟨_, rfl⟩
    rw [← hn] at hv ⊢
    have HV := hid hv
    have HN := hid hn
    have HLL : Hid ((0 + m.length) * 40 ≤ 140737488355328 ∧ 0 + m.length ≤ maxLen) := ⟨by omega, by unfold maxLen; omega⟩
    clear hv hl
    have hnil : ∀ W : World, Sem.run Try.prog (binOp BinOp.eql 22 (.slice (some ⟨b, off, none⟩) n c) (.slice none 0 0)) W = .ok (.bool false) W := fun W => by first | rfl | kernel_rfl
    clear hn hbs
    go_enter Try.func40, Try.ntmps40
    go_wp2_with (at_builtin; refine wpAppL EC Try.underlying22 infoC rfl (by decide) rfl _ _ rfl w.heap.size _ 0 [] rfl (World.ownsRow_lit w _ 0 (Nat.le_refl _) (Nat.zero_le _) rfl) _ m rfl (HV.out.below ((Gr.refl w).alloc _).below) HLL.out.1 HLL.out.2 (by simp) ?_)
    intro v2 w2 ho2 hg2
    have HB2 : Hid (Below w.heap.size w w2) := by
      have h1 : Below w.heap.size w (w.alloc (.cells #[] 36)) := ((Gr.refl w).alloc _).below
      exact h1.trans ((Kp.grownBy (S := fun k => w.heap.size ≤ k) hg2 (fun k hk => by simp [Value.ownBlock] at hk; omega)).below h1.size (fun _ h => h))
    have HO2 : Hid (w2.ownsRow w.heap.size 36 5 v2 m.length (fl EC m)) := owns_re ho2 (by simp) (by simp)
    clear ho2 hg2
    obtain ⟨p2, c2, rfl⟩ := own_form HO2.out
    go_wp2_with fail
    go_ret
    exact ⟨p2, _, c2, rfl, by rw [HN.out]; exact HO2.out, HB2.out⟩
/-- A new probe: all its blocks are new. -/
def Nw (w w' : World) (pb : Nat) (l : List Ct) : Prop := Pb w' (fun k => w.heap.size ≤ k) pb l ∧ Below w.heap.size w w'
set_option maxHeartbeats 1000000 in
theorem copy_any (w : World) (h : Pb w S pb l) (hl : l.length * 40 ≤ 140737488355328) : Calls Try.prog 26 #[.pointer (some ⟨pb, 0, none⟩)] w fun e w' => ∃ qb, e = .returned (.pointer (some ⟨qb, 0, none⟩)) ∧ Hid (Nw w w' qb l) := by
  obtain ⟨v0, h1, h2, h3⟩ := h.blk
  have c0 := (tk_store h1).1 0
  have hpl := tk_lt h1
  have hc := clone_any w (owns_ls (E := EC) h2) hl
  obtain ⟨p, c, rfl⟩ := own_form h2
  clear h h1 h2 h3 hl
  go_enter Try.func26, Try.ntmps26
  go_wp2_with fail
  refine hc.mono ?_
  rintro e w1 ⟨p1, n1, c1, rfl, H1⟩
  obtain ⟨B, hB⟩ : ∃ B, B = w1.heap.size := ⟨_, rfl⟩
  go_wp2_with fail
  rw [← hB]
  go_ret
  refine ⟨B, rfl, ?_⟩
  have hG : Gr w1 (w1.alloc (.cells #[.slice p1 n1 c1] 68)) := (Gr.refl _).alloc _
  have hnew := heap_new' w1 (.cells #[.slice p1 n1 c1] 68)
  rw [← hB] at hnew
  refine ⟨⟨⟨_, hnew, owns_base (owns_below H1.out.1 hG.below) (Nat.zero_le _), fun g hg => ⟨(H1.out.1.lt g hg).1, ?_⟩⟩, ?_⟩, H1.out.2.trans (hG.below.mono H1.out.2.size)⟩
  · have := (H1.out.1.lt g hg).2; omega
  · have := H1.out.2.size; show w.heap.size ≤ B; omega
set_option maxHeartbeats 1000000 in
theorem new_any (w : World) : Calls Try.prog 6 #[] w fun e w' => ∃ qb, e = .returned (.pointer (some ⟨qb, 0, none⟩)) ∧ Hid (Nw w w' qb []) := by
  obtain ⟨B, hB⟩ : ∃ B, B = w.heap.size := ⟨_, rfl⟩
  go_enter Try.func6, Try.ntmps6
  go_wp2_with fail
  rw [← hB]
  go_ret
  refine ⟨B, rfl, ?_⟩
  have hG : Gr w (w.alloc (.cells #[.slice none 0 0] 68)) := (Gr.refl _).alloc _
  have hnew := heap_new' w (.cells #[.slice none 0 0] 68)
  rw [← hB] at hnew
  exact ⟨⟨⟨_, hnew, World.ownsRow_nil _ _ _ _, fun g hg => by cases hg⟩, by show w.heap.size ≤ B; omega⟩, hG.below⟩
end
end Go.Proofs.Ytghpekkncfckaaa.Ca
