import Derived.Test.YtghpekkncfckaaaCaLaw2
namespace Go.Proofs.Ytghpekkncfckaaa.Ca
open Go.RowKit Go.Sort

theorem own_eq {g k n c : Nat} (h : (Value.slice (some ⟨g, 0, none⟩) n c).ownBlock = some k) : g = k := by simpa [Value.ownBlock] using h
theorem owns_form {w : World} {base n : Nat} {e : TypeId} {s : Nat} {v : Value} {xs : List Value} (h : w.ownsRow base e s v n xs) : (v = .slice none 0 0 ∧ n = 0) ∨ ∃ g c, v = .slice (some ⟨g, 0, none⟩) n c ∧ n ≤ c ∧ c ≤ maxLen ∧ g < w.heap.size := by
  rcases id h.2 with h0 | ⟨g, cap, cur, hv, _, hg, h1, h2, _⟩
  · exact Or.inl h0
  · exact Or.inr ⟨g, cap, hv, h1, h2, (Array.getElem?_eq_some_iff.1 hg).1⟩
/-- A probe and the document's, by marks: both have caught the same. -/
structure Pr (w : World) (tag : Nat → Nat) (a b pb rb N : Nat) (A : List Ct) : Prop where
  p : Pb w (fun k => tag k = a) pb A
  r : Rp w (fun k => tag k = b) rb (srt A)
  le : A.length ≤ N
theorem Pr.nx {X : Nat → Prop} {w w' : World} {tag tag' : Nat → Nat} {a b pb rb N : Nat} {A : List Ct} (h : Pr w tag a b pb rb N A) (hn : Nx X tag tag' w w') (ha : ¬ X a) (hb : ¬ X b) : Pr w' tag' a b pb rb N A := ⟨h.p.nx hn ha, h.r.nx hn hb, h.le⟩
theorem Pr.mono {w : World} {tag : Nat → Nat} {a b pb rb N N' : Nat} {A : List Ct} (h : Pr w tag a b pb rb N A) (hN : N ≤ N') : Pr w tag a b pb rb N' A := ⟨h.p, h.r, Nat.le_trans h.le hN⟩
/-- What a call on both leaves. -/
def Af (w : World) (tag : Nat → Nat) (a b pb rb N : Nat) (w' : World) : Prop := ∃ tag' A', Pr w' tag' a b pb rb N A' ∧ Nx (fun k => k = a ∨ k = b) tag tag' w w'
/-- Pointers to blocks. -/
abbrev pts (m : Nat) (hb : Nat → Nat) : List Value := (List.range m).map fun i => .pointer (some ⟨hb i, 0, none⟩)
abbrev pages (nb : Nat) (V Wv : Nat → Value) : List Value := (List.range nb).flatMap fun p => [V (2 * p), V (2 * p + 1), Wv p]
/-- What the script holds. -/
structure Sc (w0 w : World) (tag : Nat → Nat) (m nb N : Nat) (hb rb : Nat → Nat) (Q : Nat → List Ct) (V Wv : Nat → Value) (D : Nat → List Ct) (sP sR sB : Value) : Prop where
  pr : ∀ i, i < m → Pr w tag (4 + 2 * i) (5 + 2 * i) (hb i) (rb i) N (Q i)
  ps : Ow w tag 1 29 1 sP m (pts m hb)
  rs : Ow w tag 2 52 1 sR m (pts m rb)
  bk : Ow w tag 3 61 3 sB nb (pages nb V Wv)
  pg : ∀ p, p < nb → Ow w tag (20 + 3 * p) 36 5 (V (2 * p)) (D p).length (fl EC (D p)) ∧ Ow w tag (20 + 3 * p + 1) 36 5 (V (2 * p + 1)) (D p).length (fl EC (D p)) ∧ Ow w tag (20 + 3 * p + 2) 36 5 (Wv p) (D p).length (fl EC (D p)) ∧ (D p).length ≤ 1048576
  m4 : m ≤ 4
  old : ∀ k, k < w0.heap.size → tag k = 0
  bel : Below w0.heap.size w0 w
section
variable {w0 w w' : World} {tag tag' : Nat → Nat} {m nb N : Nat} {hb rb : Nat → Nat} {Q : Nat → List Ct} {V Wv : Nat → Value} {D : Nat → List Ct} {sP sR sB : Value} {A : Nat → Prop}
theorem Sc.old_nx (h : Sc w0 w tag m nb N hb rb Q V Wv D sP sR sB) (hn : Nx A tag tag' w w') : ∀ k, k < w0.heap.size → tag' k = 0 := fun k hk => (hn.old k (Nat.lt_of_lt_of_le hk h.bel.size)).trans (h.old k hk)
theorem Sc.bel_nx (h : Sc w0 w tag m nb N hb rb Q V Wv D sP sR sB) (hn : Nx A tag tag' w w') (hA : ¬ A 0) : Below w0.heap.size w0 w' :=
  h.bel.trans (hn.kp.below h.bel.size (fun k hk => Nat.le_of_not_lt (fun hlt => hA (by rw [← h.old k hlt]; exact hk))))
theorem Sc.nx (h : Sc w0 w tag m nb N hb rb Q V Wv D sP sR sB) (hn : Nx (fun _ => False) tag tag' w w') : Sc w0 w' tag' m nb N hb rb Q V Wv D sP sR sB :=
  ⟨fun i hi => (h.pr i hi).nx hn (fun h => h) (fun h => h), h.ps.nx hn (fun h => h), h.rs.nx hn (fun h => h), h.bk.nx hn (fun h => h), fun p hp => ⟨(h.pg p hp).1.nx hn (fun h => h), (h.pg p hp).2.1.nx hn (fun h => h), (h.pg p hp).2.2.1.nx hn (fun h => h), (h.pg p hp).2.2.2⟩, h.m4, h.old_nx hn, h.bel_nx hn (fun h => h)⟩
theorem Sc.below (h : Sc w0 w tag m nb N hb rb Q V Wv D sP sR sB) (hB : Below w.heap.size w w') (j : Nat) : Sc w0 w' (tg tag w j) m nb N hb rb Q V Wv D sP sR sB := h.nx (Nx.below _ tag j hB)
/-- A call on pair i. -/
theorem Sc.ans (h : Sc w0 w tag m nb N hb rb Q V Wv D sP sR sB) {i : Nat} (hi : i < m) {N' : Nat} (hNN : N ≤ N') (ha : Af w tag (4 + 2 * i) (5 + 2 * i) (hb i) (rb i) N' w') : ∃ tag' Q', Sc w0 w' tag' m nb N' hb rb Q' V Wv D sP sR sB := by
  obtain ⟨tag', q, h1, hn⟩ := ha
  have hm := h.m4
  have hA : ∀ j, j < 4 ∨ 20 ≤ j → ¬ (j = 4 + 2 * i ∨ j = 5 + 2 * i) := fun j hj e => by omega
  refine ⟨tag', fun j => if j = i then q else Q j, fun j hj => ?_, h.ps.nx hn (hA _ (by omega)), h.rs.nx hn (hA _ (by omega)), h.bk.nx hn (hA _ (by omega)), fun p hp => ⟨(h.pg p hp).1.nx hn (hA _ (by omega)), (h.pg p hp).2.1.nx hn (hA _ (by omega)), (h.pg p hp).2.2.1.nx hn (hA _ (by omega)), (h.pg p hp).2.2.2⟩, h.m4, h.old_nx hn, h.bel_nx hn (hA 0 (by omega))⟩
  by_cases e : j = i
  · subst e; rw [if_pos rfl]; exact h1
  · rw [if_neg e]
    exact ((h.pr j hj).nx hn (fun e => by omega) (fun e => by omega)).mono hNN
theorem Sc.mono {N' : Nat} (h : Sc w0 w tag m nb N hb rb Q V Wv D sP sR sB) (hN : N ≤ N') : Sc w0 w tag m nb N' hb rb Q V Wv D sP sR sB :=
  ⟨fun i hi => (h.pr i hi).mono hN, h.ps, h.rs, h.bk, h.pg, h.m4, h.old, h.bel⟩
/-- Where the pointers lie. -/
theorem Ow.pts_at {j e m : Nat} {hb : Nat → Nat} {s : Value} (h : Ow w tag j e 1 s m (pts m hb)) {i : Nat} (hi : i < m) : ∃ g c, s = .slice (some ⟨g, 0, none⟩) m c ∧ g < w.heap.size ∧ w.cell? ⟨g, i, none⟩ = some (.pointer (some ⟨hb i, 0, none⟩)) ∧ tag g = j := by
  rcases owns_form h.1 with ⟨_, h0⟩ | ⟨g, c, hs, _, _, hg⟩
  · omega
  · have := h.1.cells (g := g) (by rw [hs]; rfl) i (.pointer (some ⟨hb i, 0, none⟩)) (by simp [pts, hi])
    rw [addA, Nat.zero_add] at this
    exact ⟨g, c, hs, hg, this, h.2 g (by rw [hs]; rfl)⟩
/-- Three new lists, no two in one block, get their marks. -/
theorem Sc.three {a b c : Value} {l : List Ct} (h : Sc w0 w tag m nb N hb rb Q V Wv D sP sR sB) (hB : Below w.heap.size w w') (ha : w'.ownsRow w.heap.size 36 5 a l.length (fl EC l)) (hb' : w'.ownsRow w.heap.size 36 5 b l.length (fl EC l)) (hc : w'.ownsRow w.heap.size 36 5 c l.length (fl EC l))
    (hab : ∀ k, a.ownBlock = some k → b.ownBlock ≠ some k) (hbc : ∀ k, b.ownBlock = some k → c.ownBlock ≠ some k) (hac : ∀ k, a.ownBlock = some k → c.ownBlock ≠ some k) (j : Nat) :
    ∃ tag', Sc w0 w' tag' m nb N hb rb Q V Wv D sP sR sB ∧ Ow w' tag' j 36 5 a l.length (fl EC l) ∧ Ow w' tag' (j + 1) 36 5 b l.length (fl EC l) ∧ Ow w' tag' (j + 2) 36 5 c l.length (fl EC l) := by
  have hlt : ∀ {v : Value} {k : Nat}, w'.ownsRow w.heap.size 36 5 v l.length (fl EC l) → v.ownBlock = some k → ¬ k < w.heap.size := fun h1 h2 h3 => by
    have := (h1.lt _ h2).1
    omega
  refine ⟨fun k => if k < w.heap.size then tag k else if a.ownBlock = some k then j else if b.ownBlock = some k then j + 1 else j + 2, h.nx ⟨Kp.of_below hB, fun k hk => if_pos hk⟩, ⟨owns_base ha (Nat.zero_le _), fun k hk => ?_⟩, ⟨owns_base hb' (Nat.zero_le _), fun k hk => ?_⟩, ⟨owns_base hc (Nat.zero_le _), fun k hk => ?_⟩⟩
  · simp only [if_neg (hlt ha hk), if_pos hk]
  · simp only [if_neg (hlt hb' hk), if_neg (fun e => hab k e hk), if_pos hk]
  · simp only [if_neg (hlt hc hk), if_neg (fun e => hac k e hk), if_neg (fun e => hbc k e hk)]
/-- One more page. -/
theorem Sc.page {a b c sB' : Value} {l : List Ct} (h : Sc w0 w tag m nb N hb rb Q V Wv D sP sR sB) (ha : Ow w tag (20 + 3 * nb) 36 5 a l.length (fl EC l)) (hb' : Ow w tag (20 + 3 * nb + 1) 36 5 b l.length (fl EC l)) (hc : Ow w tag (20 + 3 * nb + 2) 36 5 c l.length (fl EC l)) (hl : l.length ≤ 1048576)
    (hs : w'.ownsRow 0 61 3 sB' (nb + 1) (pages nb V Wv ++ [a, b, c])) (hk : Kp (fun k => sB.ownBlock = some k) w w') (hn : ∀ g, sB'.ownBlock = some g → sB.ownBlock = some g ∨ w.heap.size ≤ g) :
    ∃ tag' V' Wv' D', Sc w0 w' tag' m (nb + 1) N hb rb Q V' Wv' D' sP sR sB' := by
  have hx : Nx (fun k => k = 3) tag (tg tag w 3) w w' := ⟨hk.mono (fun k hk => h.bk.2 k hk), fun _ hk => tg_old hk⟩
  refine ⟨tg tag w 3, fun j => if j = 2 * nb then a else if j = 2 * nb + 1 then b else V j, fun p => if p = nb then c else Wv p, fun p => if p = nb then l else D p, fun i hi => (h.pr i hi).nx hx (by omega) (by omega), h.ps.nx hx (by omega), h.rs.nx hx (by omega), ⟨?_, fun g hg => ?_⟩, fun p hp => ?_, h.m4, h.old_nx hx, h.bel_nx hx (by omega)⟩
  · have e : pages (nb + 1) (fun j => if j = 2 * nb then a else if j = 2 * nb + 1 then b else V j) (fun p => if p = nb then c else Wv p) = pages nb V Wv ++ [a, b, c] := by
      unfold pages
      rw [List.range_succ, List.flatMap_append]
      congr 1
      · rw [List.flatMap_def, List.flatMap_def]
        congr 1
        refine List.map_congr_left fun p hp => ?_
        have := List.mem_range.1 hp
        dsimp only
        rw [if_neg (by omega), if_neg (by omega), if_neg (by omega), if_neg (by omega), if_neg (by omega)]
      · simp
    rw [e]; exact hs
  · rcases hn g hg with h1 | h1
    · rw [tg_old (h.bk.1.lt g h1).2]; exact h.bk.2 g h1
    · exact tg_new h1
  · by_cases e : p = nb
    · subst e
      simp only [if_true, if_neg (show ¬ 2 * p + 1 = 2 * p by omega)]
      exact ⟨ha.nx hx (by omega), hb'.nx hx (by omega), hc.nx hx (by omega), hl⟩
    · have hp' : p < nb := by omega
      simp only [if_neg e, if_neg (show ¬ 2 * p = 2 * nb by omega), if_neg (show ¬ 2 * p = 2 * nb + 1 by omega), if_neg (show ¬ 2 * p + 1 = 2 * nb by omega), if_neg (show ¬ 2 * p + 1 = 2 * nb + 1 by omega)]
      obtain ⟨a1, a2, a3, a4⟩ := h.pg p hp'
      exact ⟨a1.nx hx (by omega), a2.nx hx (by omega), a3.nx hx (by omega), a4⟩
theorem pts_succ (m : Nat) (hb : Nat → Nat) (x : Nat) : pts (m + 1) (fun j => if j = m then x else hb j) = pts m hb ++ [.pointer (some ⟨x, 0, none⟩)] := by
  unfold pts
  rw [List.range_succ, List.map_append]
  congr 1
  · refine List.map_congr_left fun p hp => ?_
    have := List.mem_range.1 hp
    dsimp only
    rw [if_neg (by omega)]
  · simp
/-- The posts' list is longer by a copy. -/
structure Hf (w0 w : World) (tag : Nat → Nat) (m nb N : Nat) (hb rb : Nat → Nat) (Q : Nat → List Ct) (V Wv : Nat → Value) (D : Nat → List Ct) (sP sR sB : Value) (x : Nat) (q : List Ct) : Prop where
  pr : ∀ i, i < m → Pr w tag (4 + 2 * i) (5 + 2 * i) (hb i) (rb i) N (Q i)
  ps : Ow w tag 1 29 1 sP (m + 1) (pts m hb ++ [.pointer (some ⟨x, 0, none⟩)])
  rs : Ow w tag 2 52 1 sR m (pts m rb)
  bk : Ow w tag 3 61 3 sB nb (pages nb V Wv)
  pg : ∀ p, p < nb → Ow w tag (20 + 3 * p) 36 5 (V (2 * p)) (D p).length (fl EC (D p)) ∧ Ow w tag (20 + 3 * p + 1) 36 5 (V (2 * p + 1)) (D p).length (fl EC (D p)) ∧ Ow w tag (20 + 3 * p + 2) 36 5 (Wv p) (D p).length (fl EC (D p)) ∧ (D p).length ≤ 1048576
  m4 : m < 4
  old : ∀ k, k < w0.heap.size → tag k = 0
  bel : Below w0.heap.size w0 w
  p : Pb w (fun k => tag k = 4 + 2 * m) x q
theorem Sc.psApp {x : Nat} {q : List Ct} {sP' : Value} (h : Sc w0 w tag m nb N hb rb Q V Wv D sP sR sB) (hm : m < 4) (hp : Pb w (fun k => tag k = 4 + 2 * m) x q)
    (hs : w'.ownsRow 0 29 1 sP' (m + 1) (pts m hb ++ [.pointer (some ⟨x, 0, none⟩)])) (hk : Kp (fun k => sP.ownBlock = some k) w w') (hn : ∀ g, sP'.ownBlock = some g → sP.ownBlock = some g ∨ w.heap.size ≤ g) :
    Hf w0 w' (tg tag w 1) m nb N hb rb Q V Wv D sP' sR sB x q := by
  have hx : Nx (fun k => k = 1) tag (tg tag w 1) w w' := ⟨hk.mono (fun k hk => h.ps.2 k hk), fun _ hk => tg_old hk⟩
  refine ⟨fun i hi => (h.pr i hi).nx hx (by omega) (by omega), ⟨hs, fun g hg => ?_⟩, h.rs.nx hx (by omega), h.bk.nx hx (by omega), fun p hp => ?_, hm, h.old_nx hx, h.bel_nx hx (by omega), hp.nx hx (by omega)⟩
  · rcases hn g hg with h1 | h1
    · rw [tg_old (h.ps.1.lt g h1).2]; exact h.ps.2 g h1
    · exact tg_new h1
  · obtain ⟨a1, a2, a3, a4⟩ := h.pg p hp
    exact ⟨a1.nx hx (by omega), a2.nx hx (by omega), a3.nx hx (by omega), a4⟩
theorem Hf.below {x : Nat} {q : List Ct} (h : Hf w0 w tag m nb N hb rb Q V Wv D sP sR sB x q) (hB : Below w.heap.size w w') (j : Nat) : Hf w0 w' (tg tag w j) m nb N hb rb Q V Wv D sP sR sB x q := by
  have hx : Nx (fun _ => False) tag (tg tag w j) w w' := Nx.below _ tag j hB
  refine ⟨fun i hi => (h.pr i hi).nx hx (fun h => h) (fun h => h), h.ps.nx hx (fun h => h), h.rs.nx hx (fun h => h), h.bk.nx hx (fun h => h), fun p hp => ?_, h.m4, fun k hk => (hx.old k (Nat.lt_of_lt_of_le hk h.bel.size)).trans (h.old k hk), h.bel.trans (hB.mono h.bel.size), h.p.nx hx (fun h => h)⟩
  obtain ⟨a1, a2, a3, a4⟩ := h.pg p hp
  exact ⟨a1.nx hx (fun h => h), a2.nx hx (fun h => h), a3.nx hx (fun h => h), a4⟩
theorem Hf.done {x y : Nat} {q : List Ct} {sR' : Value} (h : Hf w0 w tag m nb N hb rb Q V Wv D sP sR sB x q) (hr : Rp w (fun k => tag k = 5 + 2 * m) y (srt q)) (hle : q.length ≤ N)
    (hs : w'.ownsRow 0 52 1 sR' (m + 1) (pts m rb ++ [.pointer (some ⟨y, 0, none⟩)])) (hk : Kp (fun k => sR.ownBlock = some k) w w') (hn : ∀ g, sR'.ownBlock = some g → sR.ownBlock = some g ∨ w.heap.size ≤ g) :
    ∃ tag' hb' rb' Q', Sc w0 w' tag' (m + 1) nb N hb' rb' Q' V Wv D sP sR' sB := by
  have hx : Nx (fun k => k = 2) tag (tg tag w 2) w w' := ⟨hk.mono (fun k hk => h.rs.2 k hk), fun _ hk => tg_old hk⟩
  have hm := h.m4
  refine ⟨tg tag w 2, fun j => if j = m then x else hb j, fun j => if j = m then y else rb j, fun j => if j = m then q else Q j, fun i hi => ?_, ?_, ⟨by rw [pts_succ]; exact hs, fun g hg => ?_⟩, h.bk.nx hx (by omega), fun p hp => ?_, by omega, fun k hk => (hx.old k (Nat.lt_of_lt_of_le hk h.bel.size)).trans (h.old k hk), h.bel.trans (hx.kp.below h.bel.size (fun k hk => Nat.le_of_not_lt (fun hlt => by have := h.old k hlt; omega)))⟩
  · by_cases e : i = m
    · subst e
      simp only [if_true]
      exact ⟨h.p.nx hx (by omega), hr.nx hx (by omega), hle⟩
    · simp only [if_neg e]
      exact (h.pr i (by omega)).nx hx (by omega) (by omega)
  · rw [pts_succ]; exact h.ps.nx hx (by omega)
  · rcases hn g hg with h1 | h1
    · rw [tg_old (h.rs.1.lt g h1).2]; exact h.rs.2 g h1
    · exact tg_new h1
  · obtain ⟨a1, a2, a3, a4⟩ := h.pg p hp
    exact ⟨a1.nx hx (by omega), a2.nx hx (by omega), a3.nx hx (by omega), a4⟩
theorem page_len (V Wv : Nat → Value) (nb : Nat) : (pages nb V Wv).length = nb * 3 := by
  unfold pages
  induction nb with
  | zero => rfl
  | succ n ih => rw [List.range_succ, List.flatMap_append, List.length_append, ih]; simp; omega
theorem page_get (V Wv : Nat → Value) (nb p q : Nat) (hp : p < nb) (hq : q < 3) : (pages nb V Wv)[p * 3 + q]? = [V (2 * p), V (2 * p + 1), Wv p][q]? := by
  induction nb with
  | zero => omega
  | succ n ih =>
    have e0 : pages (n + 1) V Wv = pages n V Wv ++ [V (2 * n), V (2 * n + 1), Wv n] := by unfold pages; rw [List.range_succ, List.flatMap_append]; simp
    rw [e0]
    by_cases h : p < n
    · rw [List.getElem?_append_left (by rw [page_len]; omega)]
      exact ih h
    · have e : p = n := by omega
      subst e
      rw [List.getElem?_append_right (by rw [page_len]; omega), page_len, show p * 3 + q - p * 3 = q by omega]
/-- The book out of what the script holds. -/
theorem Sc.book (h : Sc w0 w tag m nb N hb rb Q V Wv D sP sR sB) (hnb : nb ≤ 1048576) : ∃ pb bb c, sB = .slice pb nb c ∧ Book w nb bb 0 pb V Wv D ∧ ∀ i, i < 2 * nb → ∀ g, (V i).ownBlock = some g → w0.heap.size ≤ g := by
  have ev : ∀ i, i < 2 * nb → (w.ownsRow 0 36 5 (V i) (D (i / 2)).length (fl EC (D (i / 2)))) ∧ ∀ g, (V i).ownBlock = some g → tag g = 20 + 3 * (i / 2) + i % 2 := fun i hi => by
    obtain ⟨⟨a1, a2⟩, ⟨b1, b2⟩, -⟩ := h.pg (i / 2) (by omega)
    rcases Nat.mod_two_eq_zero_or_one i with e | e
    · have e2 : 2 * (i / 2) = i := by omega
      rw [e2] at a1 a2
      exact ⟨a1, fun g hg => by rw [a2 g hg]; omega⟩
    · have e2 : 2 * (i / 2) + 1 = i := by omega
      rw [e2] at b1 b2
      exact ⟨b1, fun g hg => by rw [b2 g hg]; omega⟩
  have hfam : Fam EC 36 w (2 * nb) V (fun i => D (i / 2)) := ⟨fun i hi => (ev i hi).1, fun i j hi hj hne g hg e => by
    have h1 := (ev i hi).2 g hg
    have h2 := (ev j hj).2 g e
    omega⟩
  have hB : ∀ i, i < 2 * nb → ∀ g, (V i).ownBlock = some g → w0.heap.size ≤ g := fun i hi g hg => by
    rcases Nat.lt_or_ge g w0.heap.size with hl | hl
    · have h1 := h.old g hl
      have h2 := (ev i hi).2 g hg
      omega
    · exact hl
  have hD : ∀ p, p < nb → (D p).length ≤ 1048576 := fun p hp => (h.pg p hp).2.2.2
  rcases owns_form h.bk.1 with ⟨h0, h1⟩ | ⟨g, cap, h0, _, _, hg⟩
  · refine ⟨none, 0, 0, by rw [h0, h1], ⟨fun hm => by omega, fun i hi => by omega, fun i hi => by omega, fun i hi => by omega, fun i hi => by omega, hfam, hD, hnb⟩, hB⟩
  · have hc : ∀ p q x, p < nb → q < 3 → [V (2 * p), V (2 * p + 1), Wv p][q]? = some x → w.cell? ⟨g, p * 3 + q, none⟩ = some x := fun p q x hp hq hx => by
      have := h.bk.1.cells (g := g) (by rw [h0]; rfl) (p * 3 + q) x (by rw [page_get V Wv nb p q hp hq]; exact hx)
      rw [addA, Nat.zero_add] at this
      exact this
    refine ⟨some ⟨g, 0, none⟩, g, cap, h0, ⟨fun _ => ⟨rfl, hg⟩, fun i hi => ?_, fun i hi => ?_, fun i hi => ?_, fun i hi => owns_ls (E := EC) (h.pg i hi).2.2.1.1, hfam, hD, hnb⟩, hB⟩
    · rw [Nat.zero_add]; exact hc i 0 _ hi (by decide) rfl
    · rw [Nat.zero_add]; exact hc i 1 _ hi (by decide) rfl
    · rw [Nat.zero_add]; exact hc i 2 _ hi (by decide) rfl
end
theorem infoPp : (Try.prog.info? 29).map (fun i => (i.zero, i.size, i.bytes)) = some (some (.pointer none), 1, 8) := by kernel_rfl
theorem infoRp : (Try.prog.info? 52).map (fun i => (i.zero, i.size, i.bytes)) = some (some (.pointer none), 1, 8) := by kernel_rfl
theorem infoPg : (Try.prog.info? 61).map (fun i => (i.zero, i.size, i.bytes)) = some (some (.agg #[.slice none 0 0, .slice none 0 0, .slice none 0 0]), 3, 72) := by kernel_rfl
end Go.Proofs.Ytghpekkncfckaaa.Ca
