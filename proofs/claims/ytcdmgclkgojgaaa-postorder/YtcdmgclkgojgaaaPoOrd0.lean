import Derived.Test.YtcdmgclkgojgaaaPoNewO
namespace Go.Proofs.Ytcdmgclkgojgaaa.Po
open Go.RowKit Go.Sort
attribute [local go_sem ↓] Go.wp_at_zero Go.wp_at_succ

theorem run_eqSame (x : Th) (w : World) : Sem.run Try.prog (Op.equalIn 10000 28 (tv x) (tv x)) w = .ok true w := by
  have u4 := Try.underlying3
  have a4 := Try.isAgg3
  have z4 := Try.sizeOf3
  have hS : Try.prog.underlying 28 = some (.struct (Try.prog.fieldsOf 28)) := by kernel_rfl
  have hp : Try.prog.stoodInHeld 28 = false := by kernel_rfl
  rw [show (10000 : Nat) = 9999 + 1 from rfl, run_equalIn_agg w 9999 28 _ _ hS hp]
  simp only [Program.fieldsOf, Try.underlying28]
  go_simp
theorem frozen_of_block {w w' : World} {b o : Nat} (h : w'.heap[b]? = w.heap[b]?) : w'.frozen? ⟨b, o, none⟩ = w.frozen? ⟨b, o, none⟩ := by simp [World.frozen?, h]
/-- The cells of sixty-four lists. -/
def Ab (w : World) (bp : Nat) (v : Nat → Value) : Prop :=
  ∃ cs, w.heap[bp]? = some (.cells cs 30 (0, 0)) ∧ cs.size = 64 ∧ ∀ i, i < 64 → cs[i]? = some (v i)
/-- The cells of sixty-four numbers. -/
def Tb (w : World) (bk : Nat) (tk : Nat → Nat) : Prop :=
  ∃ cs, w.heap[bk]? = some (.cells cs 31 (0, 0)) ∧ cs.size = 64 ∧ ∀ i, i < 64 → cs[i]? = some (.int .i64 (tk i : Nat))
section
variable {w w' : World} {bp bk : Nat} {v : Nat → Value} {tk : Nat → Nat}
theorem Ab.lt (h : Ab w bp v) : bp < w.heap.size := by
  obtain ⟨cs, h, _⟩ := h
  exact (Array.getElem?_eq_some_iff.1 h).1
theorem Tb.lt (h : Tb w bk tk) : bk < w.heap.size := by
  obtain ⟨cs, h, _⟩ := h
  exact (Array.getElem?_eq_some_iff.1 h).1
theorem Ab.c (h : Ab w bp v) {i : Nat} (hi : i < 64) : w.cell? ⟨bp, i, none⟩ = some (v i) := by
  obtain ⟨cs, h, _, h0⟩ := h
  simp only [World.cell?, h]
  simpa using h0 i hi
theorem Tb.c (h : Tb w bk tk) {i : Nat} (hi : i < 64) : w.cell? ⟨bk, i, none⟩ = some (.int .i64 (tk i : Nat)) := by
  obtain ⟨cs, h, _, h0⟩ := h
  simp only [World.cell?, h]
  simpa using h0 i hi
theorem Ab.fz (h : Ab w bp v) (o : Nat) : w.frozen? ⟨bp, o, none⟩ = false := by
  obtain ⟨cs, h, _⟩ := h
  simp [World.frozen?, h]
theorem Tb.fz (h : Tb w bk tk) (o : Nat) : w.frozen? ⟨bk, o, none⟩ = false := by
  obtain ⟨cs, h, _⟩ := h
  simp [World.frozen?, h]
theorem Ab.kept (h : Ab w bp v) (he : w'.heap[bp]? = w.heap[bp]?) : Ab w' bp v := by
  obtain ⟨cs, h, r⟩ := h
  exact ⟨cs, he.trans h, r⟩
theorem Tb.kept (h : Tb w bk tk) (he : w'.heap[bk]? = w.heap[bk]?) : Tb w' bk tk := by
  obtain ⟨cs, h, r⟩ := h
  exact ⟨cs, he.trans h, r⟩
theorem Ab.set (h : Ab w bp v) {i : Nat} (hi : i < 64) (x : Value) : Ab (w.setCell ⟨bp, i, none⟩ x) bp (upd v i x) ∧ Kp (fun k => k = bp) w (w.setCell ⟨bp, i, none⟩ x) := by
  obtain ⟨cs, h, hs, h1⟩ := h
  obtain ⟨e1, e2, _⟩ := setCell_blk (k := i) (v := x) h
  refine ⟨⟨_, e1, by simpa using hs, fun j hj => ?_⟩, e2⟩
  by_cases e : j = i
  · subst e
    rw [upd_self, Array.getElem?_setIfInBounds_self_of_lt (by omega)]
  · rw [upd_ne _ _ e, Array.getElem?_setIfInBounds_ne (by omega)]; exact h1 j hj
theorem Tb.set (h : Tb w bk tk) {i : Nat} (hi : i < 64) (x : Nat) : Tb (w.setCell ⟨bk, i, none⟩ (.int .i64 (x : Nat))) bk (upd tk i x) ∧ Kp (fun k => k = bk) w (w.setCell ⟨bk, i, none⟩ (.int .i64 (x : Nat))) := by
  obtain ⟨cs, h, hs, h1⟩ := h
  obtain ⟨e1, e2, _⟩ := setCell_blk (k := i) (v := .int .i64 (x : Nat)) h
  refine ⟨⟨_, e1, by simpa using hs, fun j hj => ?_⟩, e2⟩
  by_cases e : j = i
  · subst e
    rw [upd_self, Array.getElem?_setIfInBounds_self_of_lt (by omega)]
  · rw [upd_ne _ _ e, Array.getElem?_setIfInBounds_ne (by omega)]; exact h1 j hj
end
/-- Sixty-four lists, each with an owner of its own; all of their blocks are in R. -/
structure Av (w : World) (R : Nat → Prop) (bp : Nat) (v : Nat → Value) (X : Nat → List Th) : Prop where
  blk : Ab w bp v
  own : ∀ i, i < 64 → w.ownsRow 0 28 5 (v i) (X i).length (fl ET (X i))
  dup : ∀ i j g, i < 64 → j < 64 → (v i).ownBlock = some g → (v j).ownBlock = some g → i = j
  off : ∀ i, i < 64 → (v i).ownBlock ≠ some bp
  rb : R bp
  rr : ∀ i g, i < 64 → (v i).ownBlock = some g → R g
section
variable {w w' : World} {R : Nat → Prop} {bp : Nat} {v : Nat → Value} {X : Nat → List Th}
theorem Av.row (h : Av w R bp v X) {i : Nat} (hi : i < 64) : ∀ k, (v i).ownBlock = some k → k < w.heap.size := fun k hk => ((h.own i hi).lt k hk).2
theorem Av.kp {S : Nat → Prop} (h : Av w R bp v X) (hk : Kp S w w') (hS : ∀ k, k < w.heap.size → R k → ¬ S k) : Av w' R bp v X :=
  ⟨h.blk.kept (hk.block bp h.blk.lt (hS _ h.blk.lt h.rb)), fun i hi => owns_kp hk (h.own i hi) (fun k hb => hS k (h.row hi k hb) (h.rr i k hi hb)), h.dup, h.off, h.rb, h.rr⟩
/-- One list is longer by one. -/
theorem Av.app (h : Av w R bp v X) {i : Nat} (hi : i < 64) {x : Th} {u : Value} {w3 : World} (ho : w3.ownsRow 0 28 5 u ((X i).length + 1) (fl ET (X i) ++ ET.enc x))
    (hk : Kp (fun k => (v i).ownBlock = some k) w w3) (hn : ∀ g, u.ownBlock = some g → (v i).ownBlock = some g ∨ w.heap.size ≤ g) :
    Av (w3.setCell ⟨bp, i, none⟩ u) (nx R w (w3.setCell ⟨bp, i, none⟩ u)) bp (upd v i u) (upd X i (X i ++ [x])) ∧ Kp R w (w3.setCell ⟨bp, i, none⟩ u) := by
  have hB : Ab w3 bp v := h.blk.kept (hk.block bp h.blk.lt (h.off i hi))
  obtain ⟨b1, b2⟩ := hB.set hi u
  have hK0 : Kp (fun k => k = bp ∨ (v i).ownBlock = some k) w (w3.setCell ⟨bp, i, none⟩ u) := (hk.mono (fun _ h => Or.inr h)).trans b2 (fun _ _ h => Or.inl h)
  have hK : Kp R w (w3.setCell ⟨bp, i, none⟩ u) := hK0.mono (fun k hk => by
    rcases hk with rfl | hk
    · exact h.rb
    · exact h.rr i k hi hk)
  have ho2 : (w3.setCell ⟨bp, i, none⟩ u).ownsRow 0 28 5 u (X i ++ [x]).length (fl ET (X i ++ [x])) := by
    refine owns_re (owns_kp b2 ho (fun k hk e => ?_)) (by simp) (by rw [fl_append, fl_one])
    subst e
    rcases hn k hk with h1 | h1
    · exact h.off i hi h1
    · exact absurd h.blk.lt (by omega)
  have old : ∀ j g, j < 64 → j ≠ i → (v j).ownBlock = some g → u.ownBlock ≠ some g := by
    intro j g hj hne hg h2
    rcases hn g h2 with h3 | h3
    · exact hne (h.dup j i g hj hi hg h3)
    · exact absurd (h.row hj g hg) (by omega)
  refine ⟨⟨b1, fun j hj => ?_, fun j q g hj hq h1 h2 => ?_, fun j hj hg => ?_, Or.inl h.rb, fun j g hj hg => ?_⟩, hK⟩
  · by_cases e : j = i
    · subst e; rw [upd_self, upd_self]; exact ho2
    · rw [upd_ne _ _ e, upd_ne _ _ e]
      refine owns_kp hK0 (h.own j hj) fun k hk hs => ?_
      rcases hs with hs | hs
      · exact h.off j hj (by rw [hk, hs])
      · exact e (h.dup j i k hj hi hk hs)
  · by_cases e : j = i
    · by_cases e2 : q = i
      · rw [e, e2]
      · subst e; rw [upd_self] at h1; rw [upd_ne _ _ e2] at h2
        exact absurd h1 (old q g hq e2 h2)
    · rw [upd_ne _ _ e] at h1
      by_cases e2 : q = i
      · subst e2; rw [upd_self] at h2
        exact absurd h2 (old j g hj e h1)
      · rw [upd_ne _ _ e2] at h2
        exact h.dup j q g hj hq h1 h2
  · by_cases e : j = i
    · subst e; rw [upd_self] at hg
      rcases hn bp hg with h3 | h3
      · exact h.off j hj h3
      · exact absurd h.blk.lt (by omega)
    · rw [upd_ne _ _ e] at hg
      exact h.off j hj hg
  · by_cases e : j = i
    · subst e; rw [upd_self] at hg
      rcases hn g hg with h3 | h3
      · exact Or.inl (h.rr j g hj h3)
      · exact Or.inr ⟨h3, (ho2.lt g hg).2⟩
    · rw [upd_ne _ _ e] at hg
      exact Or.inl (h.rr j g hj hg)
end
/-- What the law holds: the post, the lists that were put, how many were taken. -/
structure St (w0 : World) (F : Nat → Prop) (hb bp bk W N : Nat) (Q pu : Nat → List Th) (tk : Nat → Nat) (w : World) : Prop where
  ex : ∃ S R v, Pq w S hb W N Q ∧ Av w R bp v pu ∧ Tb w bk tk ∧ (∀ j, S j → R j → False) ∧ ¬ S bk ∧ ¬ R bk ∧ (∀ j, S j → w0.heap.size ≤ j ∧ j < w.heap.size) ∧ (∀ j, R j → w0.heap.size ≤ j ∧ j < w.heap.size) ∧ w0.heap.size ≤ bk ∧ ∀ q, F q → q < w.heap.size ∧ ¬ S q ∧ ¬ R q ∧ q ≠ bk
  bel : Below w0.heap.size w0 w
section
variable {w0 w w' : World} {F : Nat → Prop} {hb bp bk W N : Nat} {Q pu : Nat → List Th} {tk : Nat → Nat}
theorem St.below (h : St w0 F hb bp bk W N Q pu tk w) (hB : Below w.heap.size w w') : St w0 F hb bp bk W N Q pu tk w' := by
  obtain ⟨⟨S, R, v, h1, h2, h3, h4, h5, h6, h7, h8, h9, h10⟩, hb⟩ := h
  exact ⟨⟨S, R, v, h1.below hB, h2.kp (S := fun _ => False) (Kp.of_below hB) (fun _ _ _ h => h), h3.kept (hB.block bk h3.lt), h4, h5, h6, fun j hj => ⟨(h7 j hj).1, Nat.lt_of_lt_of_le (h7 j hj).2 hB.size⟩, fun j hj => ⟨(h8 j hj).1, Nat.lt_of_lt_of_le (h8 j hj).2 hB.size⟩, h9, fun q hq => ⟨Nat.lt_of_lt_of_le (h10 q hq).1 hB.size, (h10 q hq).2⟩⟩, hb.trans (hB.mono hb.size)⟩
/-- New blocks are free. -/
theorem St.free (h : St w0 F hb bp bk W N Q pu tk w) (hB : Below w.heap.size w w') : St w0 (fun q => w.heap.size ≤ q ∧ q < w'.heap.size) hb bp bk W N Q pu tk w' := by
  obtain ⟨⟨S, R, v, h1, h2, h3, h4, h5, h6, h7, h8, h9, h10⟩, hb⟩ := h.below hB
  obtain ⟨⟨S', R', v', k1, k2, k3, k4, k5, k6, k7, k8, k9, k10⟩, _⟩ := h
  exact ⟨⟨S', R', v', k1.below hB, k2.kp (S := fun _ => False) (Kp.of_below hB) (fun _ _ _ h => h), k3.kept (hB.block bk k3.lt), k4, k5, k6, fun j hj => ⟨(k7 j hj).1, Nat.lt_of_lt_of_le (k7 j hj).2 hB.size⟩, fun j hj => ⟨(k8 j hj).1, Nat.lt_of_lt_of_le (k8 j hj).2 hB.size⟩, k9, fun q hq => ⟨hq.2, fun hs => by have := (k7 q hs).2; omega, fun hs => by have := (k8 q hs).2; omega, fun e => by have := k3.lt; omega⟩⟩, hb⟩
theorem St.nof (h : St w0 F hb bp bk W N Q pu tk w) : St w0 (fun _ => False) hb bp bk W N Q pu tk w := by
  obtain ⟨⟨S, R, v, h1, h2, h3, h4, h5, h6, h7, h8, h9, _⟩, hb⟩ := h
  exact ⟨⟨S, R, v, h1, h2, h3, h4, h5, h6, h7, h8, h9, fun _ h => h.elim⟩, hb⟩
theorem St.mono {N' : Nat} (h : St w0 F hb bp bk W N Q pu tk w) (hN : N ≤ N') : St w0 F hb bp bk W N' Q pu tk w := by
  obtain ⟨⟨S, R, v, h1, h2⟩, hb⟩ := h
  exact ⟨⟨S, R, v, h1.mono (fun _ _ h => h) hN, h2⟩, hb⟩
theorem St.w8 (h : St w0 F hb bp bk W N Q pu tk w) : W ≤ 8 := by
  obtain ⟨⟨S, R, v, h1, _⟩, _⟩ := h
  exact h1.w8
theorem St.ln_le (h : St w0 F hb bp bk W N Q pu tk w) (f t : Int) : ln W Q f t ≤ N := by
  obtain ⟨⟨S, R, v, h1, _⟩, _⟩ := h
  exact h1.ln_le f t
/-- The post is turned. -/
theorem St.turn {S R : Nat → Prop} {v : Nat → Value} {N' : Nat} {Q' : Nat → List Th} (h2 : Av w R bp v pu) (h3 : Tb w bk tk) (h4 : ∀ j, S j → R j → False) (h5 : ¬ S bk) (h6 : ¬ R bk) (h7 : ∀ j, S j → w0.heap.size ≤ j ∧ j < w.heap.size) (h8 : ∀ j, R j → w0.heap.size ≤ j ∧ j < w.heap.size) (h9 : w0.heap.size ≤ bk) (h10 : ∀ q, F q → q < w.heap.size ∧ ¬ S q ∧ ¬ R q ∧ q ≠ bk) (hB : Below w0.heap.size w0 w)
    (hP : Pq w' (nx S w w') hb W N' Q') (hK : Kp S w w') : St w0 F hb bp bk W N' Q' pu tk w' ∧ ∀ q, F q → w'.heap[q]? = w.heap[q]? := by
  refine ⟨⟨⟨nx S w w', R, v, hP, h2.kp hK (fun k _ hr hs => h4 k hs hr), h3.kept (hK.block bk h3.lt h5), fun j hj hr => ?_, fun hs => ?_, h6, fun j hj => ?_, fun j hj => ⟨(h8 j hj).1, Nat.lt_of_lt_of_le (h8 j hj).2 hK.size⟩, h9, fun q hq => ⟨Nat.lt_of_lt_of_le (h10 q hq).1 hK.size, fun hs => ?_, (h10 q hq).2.2⟩⟩, hB.trans (hK.below hB.size (fun k hk => (h7 k hk).1))⟩, fun q hq => hK.block q (h10 q hq).1 (h10 q hq).2.1⟩
  · rcases hj with hj | hj
    · exact h4 j hj hr
    · have := (h8 j hr).2; omega
  · rcases hs with hs | hs
    · exact h5 hs
    · have := h3.lt; omega
  · rcases hj with hj | hj
    · exact ⟨(h7 j hj).1, Nat.lt_of_lt_of_le (h7 j hj).2 hK.size⟩
    · exact ⟨Nat.le_trans hB.size hj.1, hj.2⟩
  · rcases hs with hs | hs
    · exact (h10 q hq).2.1 hs
    · have := (h10 q hq).1; omega
theorem St.put (h : St w0 F hb bp bk W N Q pu tk w) (f t : Int) (x : Th) (hN : (N + 1) * 40 ≤ 140737488355328) : Calls Try.prog 8 #[.pointer (some ⟨hb, 0, none⟩), .int .i64 f, .int .i64 t, tv x] w fun e w' => e = .returned (.int .i64 (pe W f t : Nat)) ∧ Hid (St w0 F hb bp bk W (N + 1) (ptn W Q f t x) pu tk w' ∧ ∀ q, F q → w'.heap[q]? = w.heap[q]?) := by
  obtain ⟨⟨S, R, v, h1, h2, h3, h4, h5, h6, h7, h8, h9, h10⟩, hB⟩ := h
  refine (put_any f t x w h1 hN).mono ?_
  rintro e w' ⟨he, hP, hK⟩
  exact ⟨he, St.turn h2 h3 h4 h5 h6 h7 h8 h9 h10 hB hP hK⟩
theorem St.take (h : St w0 F hb bp bk W N Q pu tk w) (f t : Int) (hN : N * 40 ≤ 140737488355328) : Calls Try.prog 9 #[.pointer (some ⟨hb, 0, none⟩), .int .i64 f, .int .i64 t] w fun e w' => e = .returned (lv (lk W Q f t 0)) ∧ Hid (St w0 F hb bp bk W N (tkn W Q f t) pu tk w' ∧ ∀ q, F q → w'.heap[q]? = w.heap[q]?) := by
  obtain ⟨⟨S, R, v, h1, h2, h3, h4, h5, h6, h7, h8, h9, h10⟩, hB⟩ := h
  refine (take_any f t w h1 hN).mono ?_
  rintro e w' ⟨he, hP, hK⟩
  exact ⟨he, St.turn h2 h3 h4 h5 h6 h7 h8 h9 h10 hB hP hK⟩
theorem St.total (h : St w0 F hb bp bk W N Q pu tk w) (hN : N * 40 ≤ 140737488355328) : Calls Try.prog 10 #[.pointer (some ⟨hb, 0, none⟩)] w fun e w' => e = .returned (.int .i64 (tot W Q : Nat)) ∧ Hid (St w0 F hb bp bk W N Q pu tk w') := by
  have hs := h
  obtain ⟨⟨S, R, v, h1, _⟩, hB⟩ := h
  refine (total_any w h1 hN).mono ?_
  rintro e w' ⟨he, m, rfl⟩
  exact ⟨he, hs.below ((Gr.refl _).drewN m).below⟩
theorem St.busy (h : St w0 F hb bp bk W N Q pu tk w) (he0 : bsy W Q = []) : Calls Try.prog 11 #[.pointer (some ⟨hb, 0, none⟩)] w fun e w' => ∃ p c, e = .returned (.slice p 0 c) ∧ Hid (Below w0.heap.size w0 w') := by
  have hs := h
  obtain ⟨⟨S, R, v, h1, _⟩, hB⟩ := h
  refine (busy_any w h1).mono ?_
  rintro e w' ⟨u, he, ho, hb⟩
  rw [he0] at ho
  have hB2 : Below w0.heap.size w0 w' := hs.bel.trans (hb.mono hs.bel.size)
  rcases owns_form (owns_base ho (Nat.zero_le _)) with ⟨rfl, _⟩ | ⟨g, cap, rfl, _⟩
  · exact ⟨_, _, he, hB2⟩
  · exact ⟨_, _, he, hB2⟩
/-- One more was put. -/
theorem St.app (h : St w0 F hb bp bk W N Q pu tk w) {i : Nat} (hi : i < 64) (x : Th) : ∃ vi, w.cell? ⟨bp, i, none⟩ = some vi ∧ w.ownsRow 0 28 5 vi (pu i).length (fl ET (pu i)) ∧ vi.ownBlock ≠ some bp ∧ bp < w.heap.size ∧ (∀ q, w.frozen? ⟨bp, q, none⟩ = false) ∧
    ∀ (u : Value) (w3 : World), w3.ownsRow 0 28 5 u ((pu i).length + 1) (fl ET (pu i) ++ ET.enc x) → Kp (fun k => vi.ownBlock = some k) w w3 → (∀ g, u.ownBlock = some g → vi.ownBlock = some g ∨ w.heap.size ≤ g) →
      St w0 F hb bp bk W N Q (upd pu i (pu i ++ [x])) tk (w3.setCell ⟨bp, i, none⟩ u) ∧ ∀ q, F q → (w3.setCell ⟨bp, i, none⟩ u).heap[q]? = w.heap[q]? := by
  obtain ⟨⟨S, R, v, h1, h2, h3, h4, h5, h6, h7, h8, h9, h10⟩, hB⟩ := h
  refine ⟨v i, h2.blk.c hi, h2.own i hi, h2.off i hi, h2.blk.lt, h2.blk.fz, fun u w3 ho hk hn => ?_⟩
  obtain ⟨a1, a2⟩ := h2.app hi ho hk hn
  have hB3 := a2.below hB.size (fun k hk => (h8 k hk).1)
  refine ⟨⟨⟨S, _, _, h1.kp a2 (fun k _ hs hr => h4 k hs hr), a1, h3.kept (a2.block bk h3.lt h6), fun j hs hr => ?_, h5, fun hr => ?_, fun j hj => ⟨(h7 j hj).1, Nat.lt_of_lt_of_le (h7 j hj).2 a2.size⟩, fun j hj => ?_, h9, fun q hq => ⟨Nat.lt_of_lt_of_le (h10 q hq).1 a2.size, (h10 q hq).2.1, fun hr => ?_, (h10 q hq).2.2.2⟩⟩, hB.trans hB3⟩, fun q hq => a2.block q (h10 q hq).1 (h10 q hq).2.2.1⟩
  · rcases hr with hr | hr
    · exact h4 j hs hr
    · have := (h7 j hs).2; omega
  · rcases hr with hr | hr
    · exact h6 hr
    · have := h3.lt; omega
  · rcases hj with hj | hj
    · exact ⟨(h8 j hj).1, Nat.lt_of_lt_of_le (h8 j hj).2 a2.size⟩
    · exact ⟨Nat.le_trans hB.size hj.1, hj.2⟩
  · rcases hr with hr | hr
    · exact (h10 q hq).2.2.1 hr
    · have := (h10 q hq).1; omega
/-- One more was taken. -/
theorem St.tok (h : St w0 F hb bp bk W N Q pu tk w) {i : Nat} (hi : i < 64) (x : Nat) : St w0 F hb bp bk W N Q pu (upd tk i x) (w.setCell ⟨bk, i, none⟩ (.int .i64 (x : Nat))) := by
  obtain ⟨⟨S, R, v, h1, h2, h3, h4, h5, h6, h7, h8, h9, h10⟩, hB⟩ := h
  obtain ⟨t1, t2⟩ := h3.set hi x
  refine ⟨⟨S, R, v, h1.kp t2 (fun k _ hs e => h5 (e ▸ hs)), h2.kp t2 (fun k _ hs e => h6 (e ▸ hs)), t1, h4, h5, h6, fun j hj => ⟨(h7 j hj).1, Nat.lt_of_lt_of_le (h7 j hj).2 t2.size⟩, fun j hj => ⟨(h8 j hj).1, Nat.lt_of_lt_of_le (h8 j hj).2 t2.size⟩, h9, fun q hq => ⟨Nat.lt_of_lt_of_le (h10 q hq).1 t2.size, (h10 q hq).2⟩⟩, hB.trans (t2.below hB.size (fun k e => by rw [e]; exact h9))⟩
theorem St.look (h : St w0 F hb bp bk W N Q pu tk w) {i : Nat} (hi : i < 64) : ∃ p c, w.cell? ⟨bp, i, none⟩ = some (.slice p (pu i).length c) ∧ Ls ET w (.slice p (pu i).length c) (pu i) ∧ bp < w.heap.size ∧ w.cell? ⟨bk, i, none⟩ = some (.int .i64 (tk i : Nat)) ∧ bk < w.heap.size ∧ w.frozen? ⟨bk, i, none⟩ = false := by
  obtain ⟨⟨S, R, v, h1, h2, h3, _⟩, hB⟩ := h
  have hl := owns_ls (E := ET) (h2.own i hi)
  obtain ⟨p, c, e⟩ := hl.form
  refine ⟨p, c, by rw [← e]; exact h2.blk.c hi, by rw [← e]; exact hl, h2.blk.lt, h3.c hi, h3.lt, h3.fz i⟩
end
end Go.Proofs.Ytcdmgclkgojgaaa.Po
