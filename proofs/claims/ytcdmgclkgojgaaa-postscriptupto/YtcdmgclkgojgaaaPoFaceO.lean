import Derived.Test.YtcdmgclkgojgaaaPoDropO
namespace Go.Proofs.Ytcdmgclkgojgaaa.Po
open Go.RowKit Go.Sort
attribute [local go_sem ↓] Go.wp_at_zero Go.wp_at_succ

/-- A post, all of whose blocks are in S: what is on its links. -/
def Pq (w : World) (S : Nat → Prop) (hb W N : Nat) (Q : Nat → List Th) : Prop :=
  ∃ v tk X, Pb w hb W v tk X ∧ (∀ i, i < 64 → (X i).drop (tk i) = Q i) ∧ (∀ i, i < 64 → (X i).length ≤ N) ∧ S hb ∧ ∀ i g, i < 64 → (v i).ownBlock = some g → S g
/-- The blocks of S, and those that are new. -/
def nx (S : Nat → Prop) (w w' : World) : Nat → Prop := fun k => S k ∨ (w.heap.size ≤ k ∧ k < w'.heap.size)
section
variable {w w' : World} {S : Nat → Prop} {hb W N : Nat} {Q : Nat → List Th}
theorem Pq.kp {R : Nat → Prop} (h : Pq w S hb W N Q) (hk : Kp R w w') (hR : ∀ k, k < w.heap.size → S k → ¬ R k) : Pq w' S hb W N Q := by
  obtain ⟨v, tk, X, hP, h1, h2, h3, h4⟩ := h
  exact ⟨v, tk, X, hP.kp hk (hR _ hP.blk.lt h3) (fun i k hi hv => hR k (hP.row hi k hv) (h4 i k hi hv)), h1, h2, h3, h4⟩
theorem Pq.gr (h : Pq w S hb W N Q) (hg : Gr w w') : Pq w' S hb W N Q := h.kp (R := fun _ => False) (Kp.of_gr hg) (fun _ _ _ h => h)
theorem Pq.below (h : Pq w S hb W N Q) (hg : Below w.heap.size w w') : Pq w' S hb W N Q := h.kp (R := fun _ => False) (Kp.of_below hg) (fun _ _ _ h => h)
theorem Pq.mono {S' : Nat → Prop} {N' : Nat} (h : Pq w S hb W N Q) (hS : ∀ k, k < w.heap.size → S k → S' k) (hN : N ≤ N') : Pq w S' hb W N' Q := by
  obtain ⟨v, tk, X, hP, h1, h2, h3, h4⟩ := h
  exact ⟨v, tk, X, hP, h1, fun i hi => Nat.le_trans (h2 i hi) hN, hS _ hP.blk.lt h3, fun i g hi hg => hS g (hP.row hi g hg) (h4 i g hi hg)⟩
theorem Pq.lt (h : Pq w S hb W N Q) : hb < w.heap.size := by
  obtain ⟨v, tk, X, hP, _⟩ := h
  exact hP.blk.lt
theorem Pq.c0 (h : Pq w S hb W N Q) : w.cell? ⟨hb, 0, none⟩ = some (.int .i64 (W : Nat)) := by
  obtain ⟨v, tk, X, hP, _⟩ := h
  exact hP.blk.c0
theorem Pq.w8 (h : Pq w S hb W N Q) : W ≤ 8 := by
  obtain ⟨v, tk, X, hP, _⟩ := h
  exact hP.w8
/-- One link of it is turned. -/
theorem Pq.turn {v : Nat → Value} {tk : Nat → Nat} {X : Nat → List Th} (h2 : ∀ i, i < 64 → (X i).drop (tk i) = Q i) (h3 : ∀ i, i < 64 → (X i).length ≤ N) (h4 : S hb) (h5 : ∀ i g, i < 64 → (v i).ownBlock = some g → S g) (_hs : w.heap.size ≤ w'.heap.size) {i : Nat} {u : Value} {t : Nat} {Y L : List Th} {N' : Nat}
    (hP : Pb w' hb W (upd v i u) (upd tk i t) (upd X i Y)) (hi : i < 64) (hL : Y.drop t = L) (hY : Y.length ≤ N') (hN : N ≤ N') (hu : ∀ g, u.ownBlock = some g → (v i).ownBlock = some g ∨ w.heap.size ≤ g) : Pq w' (nx S w w') hb W N' (upd Q i L) := by
  refine ⟨_, _, _, hP, fun j hj => ?_, fun j hj => ?_, Or.inl h4, fun j g hj hg => ?_⟩
  · by_cases e : j = i
    · subst e; rw [upd_self, upd_self, upd_self]; exact hL
    · rw [upd_ne _ _ e, upd_ne _ _ e, upd_ne _ _ e]; exact h2 j hj
  · by_cases e : j = i
    · subst e; rw [upd_self]; exact hY
    · rw [upd_ne _ _ e]; exact Nat.le_trans (h3 j hj) hN
  · by_cases e : j = i
    · subst e
      have hr := hP.row hj g hg
      rw [upd_self] at hg
      rcases hu g hg with h | h
      · exact Or.inl (h5 j g hj h)
      · exact Or.inr ⟨h, hr⟩
    · rw [upd_ne _ _ e] at hg
      exact Or.inl (h5 j g hj hg)
end
/-- How many are on a link; 0 where there is none. -/
def ln (W : Nat) (Q : Nat → List Th) (f t : Int) : Nat := if Lnk W f t then (Q (nm f t)).length else 0
/-- What is told of one. -/
def lk (W : Nat) (Q : Nat → List Th) (f t i : Int) : Th × Nat :=
  if Lnk W f t then (if 0 ≤ i then match (Q (nm f t))[i.toNat]? with | some x => (x, 0) | none => (tz, 43) else (tz, 43)) else (tz, 40)
/-- One is put on a link. -/
def ptn (W : Nat) (Q : Nat → List Th) (f t : Int) (x : Th) : Nat → List Th := if Lnk W f t then upd Q (nm f t) (Q (nm f t) ++ [x]) else Q
/-- The first is taken off it. -/
def tkn (W : Nat) (Q : Nat → List Th) (f t : Int) : Nat → List Th := if Lnk W f t then upd Q (nm f t) (Q (nm f t)).tail else Q
/-- What Put answers. -/
def pe (W : Nat) (f t : Int) : Nat := if Lnk W f t then 0 else 40

theorem workers_any {S : Nat → Prop} {hb W N : Nat} {Q : Nat → List Th} (w : World) (h : Pq w S hb W N Q) : Calls Try.prog 38 #[.pointer (some ⟨hb, 0, none⟩)] w fun e w' => e = .returned (.int .i64 (W : Nat)) ∧ w' = w := by
  have c0 := h.c0
  have hl := h.lt
  clear h
  go_enter Try.func38, Try.ntmps38
  go_wp2
  go_ret
  exact ⟨rfl, rfl⟩
set_option maxHeartbeats 2000000 in
theorem len_any {S : Nat → Prop} {hb W N : Nat} {Q : Nat → List Th} (f t : Int) (w : World) (h : Pq w S hb W N Q) : Calls Try.prog 39 #[.pointer (some ⟨hb, 0, none⟩), .int .i64 f, .int .i64 t] w fun e w' => e = .returned (.int .i64 (ln W Q f t : Nat)) ∧ ∃ m, w' = w.drewN m := by
  have c0 := h.c0
  have hl := h.lt
  unfold ln
  by_cases hk : Lnk W f t
  · rw [if_pos hk]
    have hbt := between_yes hb W f t w hl c0 hk h.w8
    have hi := nm_lt hk h.w8
    obtain ⟨v, tk, X, hP, h1, h2, h3, h4⟩ := h
    obtain ⟨p, c, hL, hon⟩ := on_any (hb := hb) (o := 1 + 2 * nm f t) w (hP.own _ hi) (hP.le _ hi)
    have hon := hon w hl (hP.blk.cv hi) (hP.blk.ct hi)
    have HN : Hid ((X (nm f t)).length - tk (nm f t) = (Q (nm f t)).length) := by rw [← h1 _ hi]; simp [Hid]
    rw [HN.out] at hon
    clear hP h1 h2 h3 h4 hL
    go_enter Try.func39, Try.ntmps39
    go_wp2_with fail
    refine hbt.mono ?_
    rintro e w1 ⟨rfl, rfl⟩
    go_wp2_with fail
    refine hon.mono ?_
    rintro e w2 ⟨rfl, m, rfl⟩
    go_wp2
    go_ret
    exact ⟨rfl, _, rfl⟩
  · rw [if_neg hk]
    have hbt := between_no hb W f t w hl c0 hk
    clear h
    go_enter Try.func39, Try.ntmps39
    go_wp2_with fail
    refine hbt.mono ?_
    rintro e w1 ⟨rfl, rfl⟩
    go_wp2
    go_ret
    exact ⟨rfl, 0, rfl⟩
set_option maxHeartbeats 2000000 in
theorem put_any {S : Nat → Prop} {hb W N : Nat} {Q : Nat → List Th} (f t : Int) (x : Th) (w : World) (h : Pq w S hb W N Q) (hN : (N + 1) * 40 ≤ 140737488355328) : Calls Try.prog 8 #[.pointer (some ⟨hb, 0, none⟩), .int .i64 f, .int .i64 t, tv x] w fun e w' => e = .returned (.int .i64 (pe W f t : Nat)) ∧ Pq w' (nx S w w') hb W (N + 1) (ptn W Q f t x) ∧ Kp S w w' := by
  unfold pe ptn
  obtain ⟨b1, hb1⟩ : ∃ b1, b1 = w.heap.size := ⟨_, rfl⟩
  obtain ⟨W1, hW1⟩ : ∃ W1, W1 = w.alloc (.cells #[.int .i64 x.1, .int .i64 x.2.1, .int .i64 x.2.2.1, .int .i64 x.2.2.2.1, .int .i64 x.2.2.2.2] 28) := ⟨_, rfl⟩
  have G1 : Gr w W1 := by rw [hW1]; exact (Gr.refl _).alloc _
  have HBX : Hid (W1.heap[b1]? = some (.cells #[.int .i64 x.1, .int .i64 x.2.1, .int .i64 x.2.2.1, .int .i64 x.2.2.2.1, .int .i64 x.2.2.2.2] 28 (0, 0))) := by rw [hW1, hb1]; exact heap_new' _ _
  have h1 := h.gr G1
  have c0 := h1.c0
  have hl := h1.lt
  have HG1 := hid G1
  by_cases hk : Lnk W f t
  · rw [if_pos hk, if_pos hk]
    have hbt := between_yes hb W f t W1 hl c0 hk h.w8
    have hi := nm_lt hk h.w8
    obtain ⟨v, tk, X, hP, e1, e2, e3, e4⟩ := h1
    have hpt := lput_any x W1 hP hi (Nat.le_trans (Nat.mul_le_mul_right _ (Nat.succ_le_succ (e2 _ hi))) hN)
    have HP := hid hP
    have HE := hid (And.intro e1 (And.intro e2 (And.intro e3 e4)))
    have HI := hid hi
    clear hP e1 e2 e3 e4 h hk hi G1 hN
    go_enter Try.func8, Try.ntmps8
    go_upto_region 1 with fail
    rw [← hW1, ← hb1]
    clear hW1 hb1
    have hbl : b1 < W1.heap.size := (Array.getElem?_eq_some_iff.1 HBX.out).1
    obtain ⟨q0, q1, q2, q3, q4⟩ : W1.cell? ⟨b1, 0, none⟩ = some (.int .i64 x.1) ∧ W1.cell? ⟨b1, 0 + 1, none⟩ = some (.int .i64 x.2.1) ∧ W1.cell? ⟨b1, 0 + 2, none⟩ = some (.int .i64 x.2.2.1) ∧ W1.cell? ⟨b1, 0 + 3, none⟩ = some (.int .i64 x.2.2.2.1) ∧ W1.cell? ⟨b1, 0 + 4, none⟩ = some (.int .i64 x.2.2.2.2) := by simp [World.cell?, HBX.out]
    go_wp2_with fail
    refine hbt.mono ?_
    rintro e w1 ⟨rfl, rfl⟩
    go_wp2_with fail
    refine hpt.mono ?_
    rintro e w2 ⟨rfl, u, hP2⟩
    have H2 := hid hP2
    clear hP2 hpt
    go_wp2
    go_ret
    have hK := H2.out.2.1
    have hKS : Kp S _ w2 := Kp.mono hK (fun k hk => by
      rcases hk with rfl | hk
      · exact HE.out.2.2.1
      · exact HE.out.2.2.2 _ _ HI.out hk)
    refine ⟨rfl, ?_, (Kp.of_gr HG1.out).trans hKS (fun _ _ h => h)⟩
    have hr := Pq.turn (N' := N + 1) (L := Q (nm f t) ++ [x]) HE.out.1 HE.out.2.1 HE.out.2.2.1 HE.out.2.2.2 hK.size H2.out.1 HI.out ?_ ?_ (Nat.le_succ _) ?_
    · exact hr.mono (fun k _ hk => hk.imp id (fun h => ⟨Nat.le_trans HG1.out.size h.1, h.2⟩)) (Nat.le_refl _)
    · rw [← HE.out.1 _ HI.out, List.drop_append_of_le_length (HP.out.le _ HI.out)]
    · have := HE.out.2.1 _ HI.out
      simp; omega
    · exact H2.out.2.2
  · rw [if_neg hk, if_neg hk]
    have hbt := between_no hb W f t W1 hl c0 hk
    have HP1 := hid h1
    clear h h1 hN
    go_enter Try.func8, Try.ntmps8
    go_upto_region 1 with fail
    rw [← hW1, ← hb1]
    clear hW1 hb1
    go_wp2_with fail
    refine hbt.mono ?_
    rintro e w1 ⟨rfl, rfl⟩
    go_wp2
    go_ret
    exact ⟨rfl, HP1.out.mono (fun k _ h => Or.inl h) (Nat.le_succ _), Kp.of_gr HG1.out⟩
end Go.Proofs.Ytcdmgclkgojgaaa.Po
