import Derived.Test.YtcdmgclkgojgaaaPoRef3
import Derived.Test.YtcdmgclkgojgaaaPoLookO
namespace Go.Proofs.Ytcdmgclkgojgaaa.Pi
open Go.RowKit Go.Sort

/-- The document's post whose blocks bear the mark j. -/
def Rq (w : World) (tag : Nat → Nat) (j rb W : Nat) (L : List Tg) : Prop := ∃ v, Rv w rb W v L ∧ tag rb = j ∧ ∀ g, v.ownBlock = some g → tag g = j
/-- How a call may turn marks and memory: blocks of A alone are turned. -/
structure Nx (A : Nat → Prop) (tag tag' : Nat → Nat) (w w' : World) : Prop where
  kp : Kp (fun k => A (tag k)) w w'
  old : ∀ k, k < w.heap.size → tag' k = tag k
section
variable {w w' w2 : World} {tag tag' tag2 : Nat → Nat} {A : Nat → Prop} {i j hb rb W N : Nat} {Q : Nat → List Int} {L : List Tg}
theorem Nx.refl (A : Nat → Prop) (tag : Nat → Nat) (w : World) : Nx A tag tag w w := ⟨Kp.refl _ _, fun _ _ => rfl⟩
theorem Nx.trans (h : Nx A tag tag' w w') (h2 : Nx A tag' tag2 w' w2) : Nx A tag tag2 w w2 :=
  ⟨h.kp.trans h2.kp (fun k hk h3 => by rw [h.old k hk] at h3; exact h3), fun k hk => (h2.old k (Nat.lt_of_lt_of_le hk h.kp.size)).trans (h.old k hk)⟩
theorem Nx.mono {B : Nat → Prop} (h : Nx A tag tag' w w') (hAB : ∀ k, A k → B k) : Nx B tag tag' w w' := ⟨h.kp.mono (fun _ hk => hAB _ hk), h.old⟩
theorem Nx.below (A : Nat → Prop) (tag : Nat → Nat) (j : Nat) (hB : Below w.heap.size w w') : Nx A tag (tg tag w j) w w' := ⟨Kp.of_below hB, fun _ hk => tg_old hk⟩
theorem Nx.one (hK : Kp (fun k => tag k = j) w w') (hA : A j) : Nx A tag (tg tag w j) w w' := ⟨hK.mono (fun k hk => by rw [hk]; exact hA), fun _ hk => tg_old hk⟩
theorem Pt.nx (h : Pt w tag i hb W N Q) (hn : Nx A tag tag' w w') (hi : ¬ A i) : Pt w' tag' i hb W N Q := by
  refine Pq.kp (h.mono (S' := fun k => k < w.heap.size ∧ tag k = i) (fun k hk h => ⟨hk, h⟩) (Nat.le_refl _)) hn.kp (fun k _ h1 h2 => hi (by rw [← h1.2]; exact h2)) |>.mono (fun k _ h => ?_) (Nat.le_refl _)
  rw [hn.old k h.1]; exact h.2
theorem Rq.nx (h : Rq w tag i rb W L) (hn : Nx A tag tag' w w') (hi : ¬ A i) : Rq w' tag' i rb W L := by
  obtain ⟨v, h1, h2, h3⟩ := h
  exact ⟨v, h1.kp hn.kp (fun h => hi (by rw [← h2]; exact h)) (fun k hk h => hi (by rw [← h3 k hk]; exact h)), (hn.old rb h1.lt).trans h2, fun g hg => (hn.old g (h1.own.lt g hg).2).trans (h3 g hg)⟩
theorem Rq.below (h : Rq w tag i rb W L) (hB : Below w.heap.size w w') (j : Nat) : Rq w' (tg tag w j) i rb W L := h.nx (Nx.below (fun _ => False) tag j hB) (fun h => h)
theorem Rq.turn {v u : Value} {L' : List Tg} (h1 : Rv w rb W v L) (h2 : tag rb = j) (h3 : ∀ g, v.ownBlock = some g → tag g = j) (hR : Rv w' rb W u L') (hT : Rt w rb v u w') : Rq w' (tg tag w j) j rb W L' ∧ Kp (fun k => tag k = j) w w' := by
  refine ⟨⟨u, hR, by rw [tg_old h1.lt]; exact h2, fun g hg => ?_⟩, hT.1.mono (fun k hk => ?_)⟩
  · rcases hT.2 g hg with h | h
    · rw [tg_old (h1.own.lt g h).2]; exact h3 g h
    · exact tg_new h
  · rcases hk with rfl | hk
    · exact h2
    · exact h3 k hk
/-- A post and the document's beside one another. -/
structure Pr (w : World) (tag : Nat → Nat) (a b hb rb W N : Nat) (Q : Nat → List Int) (L : List Tg) : Prop where
  p : Pt w tag a hb W N Q
  r : Rq w tag b rb W L
  rel : Rel W Q L
  le : L.length ≤ N
variable {a b : Nat}
theorem Pr.nx (h : Pr w tag a b hb rb W N Q L) (hn : Nx A tag tag' w w') (ha : ¬ A a) (hb' : ¬ A b) : Pr w' tag' a b hb rb W N Q L := ⟨h.p.nx hn ha, h.r.nx hn hb', h.rel, h.le⟩
theorem Pr.below (h : Pr w tag a b hb rb W N Q L) (hB : Below w.heap.size w w') (j : Nat) : Pr w' (tg tag w j) a b hb rb W N Q L := h.nx (Nx.below (fun _ => False) tag j hB) (fun h => h) (fun h => h)
theorem Pr.mono {N' : Nat} (h : Pr w tag a b hb rb W N Q L) (hN : N ≤ N') : Pr w tag a b hb rb W N' Q L := ⟨h.p.mono (fun _ _ h => h) hN, h.r, h.rel, Nat.le_trans h.le hN⟩
theorem Pr.w8 (h : Pr w tag a b hb rb W N Q L) : W ≤ 8 := Pq.w8 h.p
theorem Pr.same (h : Pr w tag a b hb rb W N Q L) (hB : Below w.heap.size w w') : Pr w' tag a b hb rb W N Q L := by
  obtain ⟨v, h1, h2, h3⟩ := h.r
  exact ⟨Pq.below h.p hB, ⟨v, h1.below hB, h2, h3⟩, h.rel, h.le⟩
theorem Nx.same (A : Nat → Prop) (tag : Nat → Nat) (hB : Below w.heap.size w w') : Nx A tag tag w w' := ⟨Kp.of_below hB, fun _ _ => rfl⟩
/-- What a call on both leaves. -/
def Af (w : World) (tag : Nat → Nat) (a b hb rb W N : Nat) (w' : World) : Prop := ∃ tag' Q' L', Pr w' tag' a b hb rb W N Q' L' ∧ Nx (fun k => k = a ∨ k = b) tag tag' w w'
theorem Af.below {w1 w2 : World} {tag1 : Nat → Nat} (h : Nx (fun k => k = a ∨ k = b) tag tag1 w w1) (hP : Pr w1 tag1 a b hb rb W N Q L) (hB : Below w1.heap.size w1 w2) : Af w tag a b hb rb W N w2 :=
  ⟨_, _, _, hP.below hB 0, h.trans (Nx.below _ _ 0 hB)⟩
theorem Af.pre {w1 w2 : World} {tag1 : Nat → Nat} (h : Nx (fun k => k = a ∨ k = b) tag tag1 w w1) (h2 : Af w1 tag1 a b hb rb W N w2) : Af w tag a b hb rb W N w2 := by
  obtain ⟨t2, q2, l2, k1, k2⟩ := h2
  exact ⟨t2, q2, l2, k1, h.trans k2⟩
theorem Af.box {w1 w2 : World} {k : Nat} (h : Af w1 tag a b hb rb W N w2) (hk : k < w1.heap.size) (h1 : tag k ≠ a) (h2 : tag k ≠ b) : w2.heap[k]? = w1.heap[k]? := by
  obtain ⟨t2, q2, l2, _, k2⟩ := h
  exact k2.kp.block k hk (fun h => h.elim h1 h2)
/-- Put, at the post, then at the document's. -/
theorem Pr.putP (h : Pr w tag a b hb rb W N Q L) (f t x : Int) (hN : (N + 1) * 24 ≤ 140737488355328) : Calls Try.prog 44 #[.pointer (some ⟨hb, 0, none⟩), .int .i64 f, .int .i64 t, .int .i64 x] w fun e w' => e = .returned (.int .i64 (pe W f t : Nat)) ∧ Hid (Pt w' (tg tag w a) a hb W (N + 1) (ptn W Q f t x) ∧ Kp (fun k => tag k = a) w w') := h.p.put f t x (by omega)
theorem Pr.putR {tagP : Nat → Nat} {wP : World} (h : Pr w tag a b hb rb W N Q L) (hab : a ≠ b) (f t x : Int) (hN : (N + 1) * 24 ≤ 140737488355328) (hP : Pt wP tagP a hb W (N + 1) (ptn W Q f t x)) (hn : Nx (fun k => k = a) tag tagP w wP) : Calls Try.prog 45 #[.pointer (some ⟨rb, 0, none⟩), .int .i64 f, .int .i64 t, .int .i64 x] wP fun e w' => e = .returned (.int .i64 (pe W f t : Nat)) ∧ Hid (Af w tag a b hb rb W (N + 1) w') := by
  obtain ⟨v, h1, h2, h3⟩ := h.r.nx hn (fun e => hab e.symm)
  have hle := h.le
  refine (rput_any f t x wP h1 h.rel h.w8 (Nat.le_trans (Nat.mul_le_mul_right _ (by omega)) hN)).mono ?_
  rintro e w' ⟨he, hR⟩
  obtain ⟨u, L', r1, r2, r3, r4⟩ := hR.out
  obtain ⟨q1, q2⟩ := Rq.turn h1 h2 h3 r1 r4
  refine ⟨he, ⟨_, _, L', ⟨hP.keep hab q2, q1, r2, by omega⟩, (hn.mono (fun k e => Or.inl e)).trans (Nx.one q2 (Or.inr rfl))⟩⟩
theorem Pr.takeR {tagP : Nat → Nat} {wP : World} (h : Pr w tag a b hb rb W N Q L) (hab : a ≠ b) (f t : Int) (hN : (N + 1) * 24 ≤ 140737488355328) (hP : Pt wP tagP a hb W N (tkn W Q f t)) (hn : Nx (fun k => k = a) tag tagP w wP) : Calls Try.prog 47 #[.pointer (some ⟨rb, 0, none⟩), .int .i64 f, .int .i64 t] wP fun e w' => e = .returned (.tuple #[.int .i64 (lk W Q f t 0).1, .int .i64 ((lk W Q f t 0).2 : Nat)]) ∧ Hid (Af w tag a b hb rb W (N + 1) w') := by
  obtain ⟨v, h1, h2, h3⟩ := h.r.nx hn (fun e => hab e.symm)
  have hle := h.le
  refine (rtake_any f t wP h1 h.rel h.w8 (Nat.le_trans (Nat.mul_le_mul_right _ (by omega)) hN)).mono ?_
  rintro e w' ⟨he, hR⟩
  obtain ⟨u, L', r1, r2, r3, r4⟩ := hR.out
  obtain ⟨q1, q2⟩ := Rq.turn h1 h2 h3 r1 r4
  exact ⟨he, ⟨_, _, L', ⟨(hP.keep hab q2).mono (fun _ _ h => h) (Nat.le_succ _), q1, r2, by omega⟩, (hn.mono (fun k e => Or.inl e)).trans (Nx.one q2 (Or.inr rfl))⟩⟩
end
end Go.Proofs.Ytcdmgclkgojgaaa.Pi
