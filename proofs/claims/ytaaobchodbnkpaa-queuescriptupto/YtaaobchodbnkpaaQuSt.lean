import Derived.Test.YtaaobchodbnkpaaQuPut0
namespace Go.Proofs.Ytaaobchodbnkpaa.Qe
open Go.RowKit Go.Sort

/-- What is new bears the mark j. -/
def tg (tag : Nat → Nat) (w : World) (j : Nat) : Nat → Nat := fun k => if k < w.heap.size then tag k else j
theorem tg_old {tag : Nat → Nat} {w : World} {j k : Nat} (h : k < w.heap.size) : tg tag w j k = tag k := by unfold tg; rw [if_pos h]
theorem tg_new {tag : Nat → Nat} {w : World} {j k : Nat} (h : w.heap.size ≤ k) : tg tag w j k = j := by unfold tg; rw [if_neg (by omega)]
/-- Five lists in one block, each with an owner of its own. -/
structure Ro (w : World) (tag : Nat → Nat) (a b : Nat) (V : Nat → Value) (X : Nat → List Ms) : Prop where
  blk : w.heap[b]? = some (.cells #[V 0, V 1, V 2, V 3, V 4] 29 (0, 0))
  tb : tag b = a
  own : ∀ p, p < 5 → w.ownsRow 0 36 6 (V p) (X p).length (fl EM (X p))
  tr : ∀ p g, p < 5 → (V p).ownBlock = some g → tag g = a + 1 + p
section
variable {w w' : World} {tag : Nat → Nat} {a b : Nat} {V : Nat → Value} {X : Nat → List Ms}
theorem Ro.lt (h : Ro w tag a b V X) : b < w.heap.size := (Array.getElem?_eq_some_iff.1 h.blk).1
theorem Ro.row (h : Ro w tag a b V X) {p : Nat} (hp : p < 5) : ∀ k, (V p).ownBlock = some k → k < w.heap.size := fun k hk => ((h.own p hp).lt k hk).2
theorem Ro.cell (h : Ro w tag a b V X) {p : Nat} (hp : p < 5) : w.cell? ⟨b, p, none⟩ = some (V p) := by
  simp only [World.cell?, h.blk]
  match p, hp with
  | 0, _ => rfl
  | 1, _ => rfl
  | 2, _ => rfl
  | 3, _ => rfl
  | 4, _ => rfl
theorem Ro.fz (h : Ro w tag a b V X) (q : Nat) : w.frozen? ⟨b, q, none⟩ = false := by simp [World.frozen?, h.blk]
/-- Nothing of it is turned. -/
theorem Ro.keep {S : Nat → Prop} (h : Ro w tag a b V X) (hk : Kp S w w') (hS : ∀ k, k < w.heap.size → S k → tag k < a ∨ a + 5 < tag k) (j : Nat) : Ro w' (tg tag w j) a b V X := by
  have hb := h.lt
  refine ⟨(hk.block b hb (fun e => ?_)).trans h.blk, by rw [tg_old hb]; exact h.tb, fun p hp => owns_kp hk (h.own p hp) (fun k hv e => ?_), fun p g hp hv => by rw [tg_old (h.row hp g hv)]; exact h.tr p g hp hv⟩
  · have := hS b hb e
    have := h.tb
    omega
  · have := hS k (h.row hp k hv) e
    have := h.tr p k hp hv
    omega
theorem upd5 (V : Nat → Value) {p : Nat} (hp : p < 5) (u : Value) : (#[V 0, V 1, V 2, V 3, V 4] : Array Value).setIfInBounds p u = #[upd V p u 0, upd V p u 1, upd V p u 2, upd V p u 3, upd V p u 4] := by
  match p, hp with
  | 0, _ => rfl
  | 1, _ => rfl
  | 2, _ => rfl
  | 3, _ => rfl
  | 4, _ => rfl
/-- One of its lists is another. -/
theorem Ro.turn {w3 : World} (h : Ro w tag a b V X) {p : Nat} (hp : p < 5) {u : Value} {Y : List Ms} (ho : w3.ownsRow 0 36 6 u Y.length (fl EM Y)) (hk : Kp (fun k => (V p).ownBlock = some k) w w3) (hn : ∀ g, u.ownBlock = some g → (V p).ownBlock = some g ∨ w.heap.size ≤ g) :
    Ro (w3.setCell ⟨b, p, none⟩ u) (tg tag w (a + 1 + p)) a b (upd V p u) (upd X p Y) ∧ Kp (fun k => tag k = a ∨ tag k = a + 1 + p) w (w3.setCell ⟨b, p, none⟩ u) := by
  have hb := h.lt
  have hnb : ∀ q, q < 5 → (V q).ownBlock ≠ some b := fun q hq e => by have h1 := h.tr q b hq e; have h2 := h.tb; omega
  have hb3 := (hk.block b hb (hnb p hp)).trans h.blk
  obtain ⟨e1, e2, _⟩ := setCell_blk (k := p) (v := u) hb3
  rw [upd5 V hp] at e1
  have hK : Kp (fun k => k = b ∨ (V p).ownBlock = some k) w (w3.setCell ⟨b, p, none⟩ u) := (hk.mono (fun _ h => Or.inr h)).trans e2 (fun _ _ h => Or.inl h)
  have hub : u.ownBlock ≠ some b := fun e => (hn b e).elim (hnb p hp) (fun h => by omega)
  refine ⟨⟨e1, by rw [tg_old hb]; exact h.tb, fun q hq => ?_, fun q g hq hg => ?_⟩, hK.mono (fun k hk => ?_)⟩
  · by_cases e : q = p
    · subst e
      rw [upd_self, upd_self]
      exact owns_kp e2 ho (fun k hk e => hub (e ▸ hk))
    · rw [upd_ne _ _ e, upd_ne _ _ e]
      refine owns_kp hK (h.own q hq) (fun k hk hs => ?_)
      rcases hs with rfl | hs
      · exact hnb q hq hk
      · have h1 := h.tr q k hq hk
        have h2 := h.tr p k hp hs
        omega
  · by_cases e : q = p
    · subst e
      rw [upd_self] at hg
      rcases hn g hg with h1 | h1
      · rw [tg_old (h.row hp g h1)]; exact h.tr q g hp h1
      · rw [tg_new h1]
    · rw [upd_ne _ _ e] at hg
      rw [tg_old (h.row hq g hg)]
      exact h.tr q g hq hg
  · rcases hk with rfl | hk
    · exact Or.inl h.tb
    · exact Or.inr (h.tr p k hp hk)
end
/-- What the law holds. -/
structure St (w0 w : World) (tag : Nat → Nat) (qb K : Nat) (Q : Nat → List Ms) (wb gb : Nat) (V U : Nat → Value) (X Y : Nat → List Ms) : Prop where
  q : Pq w (fun k => tag k = 0) qb 5 K Q
  a : Ro w tag 1 wb V X
  b : Ro w tag 7 gb U Y
  old : ∀ k, k < w0.heap.size → tag k = 99
  bl : Below w0.heap.size w0 w
section
variable {w0 w w' : World} {tag : Nat → Nat} {qb K : Nat} {Q : Nat → List Ms} {wb gb : Nat} {V U : Nat → Value} {X Y : Nat → List Ms}
theorem St.olds (h : St w0 w tag qb K Q wb gb V U X Y) (j : Nat) : ∀ k, k < w0.heap.size → tg tag w j k = 99 := fun k hk => by rw [tg_old (Nat.lt_of_lt_of_le hk h.bl.size)]; exact h.old k hk
theorem St.below (h : St w0 w tag qb K Q wb gb V U X Y) {S : Nat → Prop} (hk : Kp S w w') (hS : ∀ k, k < w.heap.size → S k → tag k ≠ 99) : Below w0.heap.size w0 w' := by
  have h1 : Kp (fun k => S k ∧ k < w.heap.size) w w' := ⟨hk.os, hk.tape, hk.output, hk.size, fun k hlt hn => hk.block k hlt (fun e => hn ⟨e, hlt⟩)⟩
  refine h.bl.trans (h1.below h.bl.size (fun k e => ?_))
  rcases Nat.lt_or_ge k w0.heap.size with h2 | h2
  · exact absurd (h.old k h2) (hS k e.2 e.1)
  · exact h2
theorem St.qkeep (h : St w0 w tag qb K Q wb gb V U X Y) {S : Nat → Prop} (hk : Kp S w w') (hS : ∀ k, k < w.heap.size → S k → tag k ≠ 0) (j : Nat) : Pq w' (fun k => tg tag w j k = 0) qb 5 K Q :=
  (h.q.old.kp hk (fun k hk hs e => hS k hk e hs.1)).mono (fun k _ hs => by rw [tg_old hs.2]; exact hs.1) (Nat.le_refl _)
/-- New blocks. -/
theorem St.new (h : St w0 w tag qb K Q wb gb V U X Y) (hB : Below w.heap.size w w') : St w0 w' (tg tag w 98) qb K Q wb gb V U X Y := by
  have hk : Kp (fun _ => False) w w' := Kp.of_below hB
  exact ⟨h.qkeep hk (fun _ _ e => e.elim) _, h.a.keep hk (fun _ _ e => e.elim) _, h.b.keep hk (fun _ _ e => e.elim) _, h.olds _, h.below hk (fun _ _ e => e.elim)⟩
/-- A call of the queue. -/
theorem St.queue (h : St w0 w tag qb K Q wb gb V U X Y) {K' : Nat} {Q' : Nat → List Ms} (hP : Pq w' (nx (fun k => tag k = 0) w w') qb 5 K' Q') (hk : Kp (fun k => tag k = 0) w w') : St w0 w' (tg tag w 0) qb K' Q' wb gb V U X Y := by
  refine ⟨hP.mono (fun k _ hs => ?_) (Nat.le_refl _), h.a.keep hk (fun k _ e => Or.inl (by rw [e]; decide)) _, h.b.keep hk (fun k _ e => Or.inl (by rw [e]; decide)) _, h.olds _, h.below hk (fun k _ e => by rw [e]; decide)⟩
  unfold tg
  split
  · rcases hs with hs | hs
    · exact hs
    · omega
  · rfl
/-- A call of the queue that answers a list. -/
theorem St.drain (h : St w0 w tag qb K Q wb gb V U X Y) {K' : Nat} {Q' : Nat → List Ms} (hP : Pq w' (fun k => tag k = 0 ∧ k < w.heap.size) qb 5 K' Q') (hk : Kp (fun k => tag k = 0) w w') : St w0 w' (tg tag w 98) qb K' Q' wb gb V U X Y :=
  ⟨hP.mono (fun k _ hs => by rw [tg_old hs.2]; exact hs.1) (Nat.le_refl _), h.a.keep hk (fun k _ e => Or.inl (by rw [e]; decide)) _, h.b.keep hk (fun k _ e => Or.inl (by rw [e]; decide)) _, h.olds _, h.below hk (fun k _ e => by rw [e]; decide)⟩
/-- One of the lists of the first block grows. -/
theorem St.wantA {w3 : World} (h : St w0 w tag qb K Q wb gb V U X Y) {p : Nat} (hp : p < 5) {u : Value} {L : List Ms} (ho : w3.ownsRow 0 36 6 u L.length (fl EM L)) (hk : Kp (fun k => (V p).ownBlock = some k) w w3) (hn : ∀ g, u.ownBlock = some g → (V p).ownBlock = some g ∨ w.heap.size ≤ g) :
    St w0 (w3.setCell ⟨wb, p, none⟩ u) (tg tag w (1 + 1 + p)) qb K Q wb gb (upd V p u) U (upd X p L) Y := by
  obtain ⟨h1, h2⟩ := h.a.turn hp ho hk hn
  exact ⟨h.qkeep h2 (fun k _ e => by omega) _, h1, h.b.keep h2 (fun k _ e => by omega) _, h.olds _, h.below h2 (fun k _ e => by omega)⟩
theorem St.gotA {w3 : World} (h : St w0 w tag qb K Q wb gb V U X Y) {p : Nat} (hp : p < 5) {u : Value} {L : List Ms} (ho : w3.ownsRow 0 36 6 u L.length (fl EM L)) (hk : Kp (fun k => (U p).ownBlock = some k) w w3) (hn : ∀ g, u.ownBlock = some g → (U p).ownBlock = some g ∨ w.heap.size ≤ g) :
    St w0 (w3.setCell ⟨gb, p, none⟩ u) (tg tag w (7 + 1 + p)) qb K Q wb gb V (upd U p u) X (upd Y p L) := by
  obtain ⟨h1, h2⟩ := h.b.turn hp ho hk hn
  exact ⟨h.qkeep h2 (fun k _ e => by omega) _, h.a.keep h2 (fun k _ e => by omega) _, h1, h.olds _, h.below h2 (fun k _ e => by omega)⟩
end
/-- What is known of the three: all that was put has been taken or waits. -/
def Fit (n : Nat) (Q X Y : Nat → List Ms) : Prop := (∀ p, p < 5 → X p = Y p ++ Q p) ∧ ∀ p, p < 5 → (X p).length ≤ n
/-- The whole: the law's state with its sense. -/
def Sx (w0 : World) (qb wb gb n : Nat) (w : World) : Prop := ∃ tag Q V U X Y, St w0 w tag qb n Q wb gb V U X Y ∧ Fit n Q X Y
end Go.Proofs.Ytaaobchodbnkpaa.Qe
