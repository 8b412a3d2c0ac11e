import Derived.Test.YtcmgmgnmhhkdgaaLgRef2
namespace Go.Proofs.Ytcmgmgnmhhkdgaa
open Go.RowKit Go.Sort Go.Maps Go.Shelf
open Tt (addc addf)

theorem row_not {w : World} {base : Nat} {e : TypeId} {s : Nat} {v : Value} {n : Nat} {xs : List Value} (h : w.ownsRow base e s v n xs) {k : Nat} (hk : v.ownBlock = some k) {cs : Array Value} {T : TypeId} (hT : T ≠ e) : w.heap[k]? ≠ some (.cells cs T (0, 0)) := fun hb => by
  obtain ⟨_, ⟨h3, _⟩ | ⟨g', cap, cur, h3, _, hh, _⟩⟩ := h
  · rw [h3] at hk
    simp [Value.ownBlock] at hk
  · rw [h3] at hk
    have e1 : g' = k := by simpa [Value.ownBlock] using hk
    rw [e1, hb] at hh
    simp only [Option.some.injEq, Obj.cells.injEq, and_true] at hh
    exact hT hh.2
theorem row_notmap {w : World} {base : Nat} {e : TypeId} {s : Nat} {v : Value} {n : Nat} {xs : List Value} (h : w.ownsRow base e s v n xs) {k : Nat} (hk : v.ownBlock = some k) {es : Array MapEntry} {c : Nat} : w.heap[k]? ≠ some (.map es c) := fun hb => by
  obtain ⟨_, ⟨h3, _⟩ | ⟨g', cap, cur, h3, _, hh, _⟩⟩ := h
  · rw [h3] at hk
    simp [Value.ownBlock] at hk
  · rw [h3] at hk
    have e1 : g' = k := by simpa [Value.ownBlock] using hk
    rw [e1, hb] at hh
    simp at hh
/-- A ledger and the document's have no block in common. -/
theorem apart_lr {w : World} {lb tb b n rb : Nat} {f : Sm → Int} {v : Value} {C : List Cg} (hl : Lg w lb tb b n f) (hr : RL w rb v C) {k : Nat} (hk : Lo lb tb b k) : k ≠ rb ∧ v.ownBlock ≠ some k := by
  rcases hk with rfl | rfl | rfl
  · refine ⟨fun e => ?_, fun e => row_not hr.row e (by decide) hl.blk⟩
    have h1 := hr.blk
    rw [← e, hl.blk] at h1
    simp at h1
  · refine ⟨fun e => ?_, fun e => row_not hr.row e (by decide) hl.tl.blk⟩
    have h1 := hr.blk
    rw [← e, hl.tl.blk] at h1
    simp at h1
  · obtain ⟨D, ⟨es, clock, hb, _⟩, _⟩ := hl.tl.ta
    refine ⟨fun e => ?_, fun e => row_notmap hr.row e hb⟩
    have h1 := hr.blk
    rw [← e, hb] at h1
    simp at h1
theorem Lg.mono' {w : World} {lb tb b n m : Nat} {f : Sm → Int} (h : Lg w lb tb b n f) (hm : n ≤ m) : Lg w lb tb b m f := ⟨h.blk, h.tl.blk, h.tl.ta.mono hm, h.tl.bd⟩

/-- The program's ledger and the document's. -/
structure Pp where
  lb : Nat
  tb : Nat
  b : Nat
  n : Nat
  rb : Nat
  v : Value
  C : List Cg
def Pp.own (p : Pp) (k : Nat) : Prop := Lo p.lb p.tb p.b k ∨ k = p.rb ∨ p.v.ownBlock = some k
structure Ok1 (p : Pp) (w : World) : Prop where
  l : Lg w p.lb p.tb p.b p.n (smf p.C)
  r : RL w p.rb p.v p.C
  o : Ones p.C
section
variable {p : Pp} {w w' : World}
theorem Ok1.kp {S : Nat → Prop} (h : Ok1 p w) (hk : Kp S w w') (hS : ∀ k, p.own k → ¬ S k) : Ok1 p w' :=
  ⟨h.l.kp hk (hS _ (Or.inl (Or.inl rfl))) (hS _ (Or.inl (Or.inr (Or.inl rfl)))) (hS _ (Or.inl (Or.inr (Or.inr rfl)))), h.r.kp hk (hS _ (Or.inr (Or.inl rfl))) (fun k hk => hS k (Or.inr (Or.inr hk))), h.o⟩
theorem Ok1.below (h : Ok1 p w) (hb : Below w.heap.size w w') : Ok1 p w' := ⟨h.l.below hb, h.r.below hb, h.o⟩
theorem Ok1.gr (h : Ok1 p w) (hb : Gr w w') : Ok1 p w' := h.below hb.below
theorem Ok1.lt (h : Ok1 p w) {k : Nat} (hk : p.own k) : k < w.heap.size := by
  rcases hk with hk | rfl | hk
  · exact h.l.own hk
  · exact h.r.lt
  · exact (h.r.row.lt k hk).2
/-- A call on the program's leaves the document's alone. -/
theorem Ok1.rK (h : Ok1 p w) {S : Nat → Prop} (hk : Kp S w w') (hS : ∀ k, S k → Lo p.lb p.tb p.b k) : RL w' p.rb p.v p.C :=
  h.r.kp hk (fun e => (apart_lr h.l h.r (hS _ e)).1 rfl) (fun _ hk e => (apart_lr h.l h.r (hS _ e)).2 hk)
end
theorem lK {w w' : World} {lb tb b n rb : Nat} {f : Sm → Int} {v : Value} {C : List Cg} (hl : Lg w lb tb b n f) (hr : RL w rb v C) (hk : Kp (fun k => k = rb ∨ v.ownBlock = some k) w w') : Lg w' lb tb b n f := by
  have hn : ∀ k, Lo lb tb b k → ¬ (k = rb ∨ v.ownBlock = some k) := fun k hk e => by
    have h := apart_lr hl hr hk
    rcases e with e | e
    · exact h.1 e
    · exact h.2 e
  exact hl.kp hk (hn _ (Or.inl rfl)) (hn _ (Or.inr (Or.inl rfl))) (hn _ (Or.inr (Or.inr rfl)))
/-- One of them anew. -/
def updP (ps : Nat → Pp) (j : Nat) (p : Pp) : Nat → Pp := fun i => if i = j then p else ps i
theorem updP_same (ps : Nat → Pp) (j : Nat) (p : Pp) : updP ps j p j = p := if_pos rfl
theorem updP_ne (ps : Nat → Pp) {j i : Nat} (p : Pp) (h : i ≠ j) : updP ps j p i = ps i := if_neg h
/-- New blocks get this tag. -/
def updT (ow : Nat → Nat) (n t : Nat) : Nat → Nat := fun k => if k < n then ow k else t
theorem updT_old {ow : Nat → Nat} {n t k : Nat} (h : k < n) : updT ow n t k = ow k := if_pos h
theorem updT_new {ow : Nat → Nat} {n t k : Nat} (h : n ≤ k) : updT ow n t k = t := if_neg (by omega)
abbrev bkA (ps : Nat → Pp) : Obj := .cells #[lp (ps 0).lb, lp (ps 1).lb] 24 (0, 0)
abbrev bkB (ps : Nat → Pp) : Obj := .cells #[rp (ps 0).rb, rp (ps 1).rb] 51 (0, 0)
/-- Two of each, as they are played. -/
structure St (w : World) (A B : Nat) (ps : Nat → Pp) (S : Nat) (ow : Nat → Nat) (wr : World) : Prop where
  ba : wr.heap[A]? = some (bkA ps)
  bb : wr.heap[B]? = some (bkB ps)
  ok : ∀ i, i < 2 → Ok1 (ps i) wr
  nn : ∀ i, i < 2 → (ps i).n ≤ S ∧ (ps i).C.length ≤ S
  tg : ∀ i, i < 2 → ∀ k, (ps i).own k → ow k = i + 3
  ta : ow A = 1
  tb : ow B = 2
  old : ∀ k, k < w.heap.size → ow k = 0
  bl : Below w.heap.size w wr
section
variable {w wr w' : World} {A B S : Nat} {ps : Nat → Pp} {ow : Nat → Nat}
theorem St.ltA (h : St w A B ps S ow wr) : A < wr.heap.size := (Array.getElem?_eq_some_iff.1 h.ba).1
theorem St.ltB (h : St w A B ps S ow wr) : B < wr.heap.size := (Array.getElem?_eq_some_iff.1 h.bb).1
theorem St.below (h : St w A B ps S ow wr) (hb : Below wr.heap.size wr w') : St w A B ps S ow w' :=
  ⟨(hb.block A h.ltA).trans h.ba, (hb.block B h.ltB).trans h.bb, fun i hi => (h.ok i hi).below hb, h.nn, h.tg, h.ta, h.tb, h.old, h.bl.trans (hb.mono h.bl.size)⟩
theorem St.gr (h : St w A B ps S ow wr) (hb : Gr wr w') : St w A B ps S ow w' := h.below hb.below
theorem St.mono (h : St w A B ps S ow wr) {T : Nat} (hT : S ≤ T) : St w A B ps T ow wr :=
  ⟨h.ba, h.bb, h.ok, fun i hi => ⟨Nat.le_trans (h.nn i hi).1 hT, Nat.le_trans (h.nn i hi).2 hT⟩, h.tg, h.ta, h.tb, h.old, h.bl⟩
theorem St.cellA (h : St w A B ps S ow wr) {j : Nat} (hj : j < 2) : wr.cell? ⟨A, j, none⟩ = some (lp (ps j).lb) := by
  have : j = 0 ∨ j = 1 := by omega
  rcases this with rfl | rfl <;> (simp only [World.cell?, h.ba]; rfl)
theorem St.cellB (h : St w A B ps S ow wr) {j : Nat} (hj : j < 2) : wr.cell? ⟨B, j, none⟩ = some (rp (ps j).rb) := by
  have : j = 0 ∨ j = 1 := by omega
  rcases this with rfl | rfl <;> (simp only [World.cell?, h.bb]; rfl)
/-- A step. -/
theorem St.turn (h : St w A B ps S ow wr) {j : Nat} (hj : j < 2) {p' : Pp} (h1 : Ok1 p' w') (hk : Kp (fun k => (ps j).own k ∨ k = A ∨ k = B) wr w') (ha : w'.heap[A]? = some (bkA (updP ps j p'))) (hb : w'.heap[B]? = some (bkB (updP ps j p'))) (hn : ∀ k, p'.own k → (ps j).own k ∨ wr.heap.size ≤ k) (hc : p'.n ≤ S + 1 ∧ p'.C.length ≤ S + 1) :
    ∃ ow', St w A B (updP ps j p') (S + 1) ow' w' := by
  have hz := h.bl.size
  have hA := h.ltA
  have hB := h.ltB
  refine ⟨updT ow wr.heap.size (j + 3), ha, hb, fun i hi => ?_, fun i hi => ?_, fun i hi k hk' => ?_, ?_, ?_, fun k hk' => ?_, ?_⟩
  · by_cases e : i = j
    · subst e; rw [updP_same]; exact h1
    · rw [updP_ne _ _ e]
      refine (h.ok i hi).kp hk fun k hk' hs => ?_
      have t1 := h.tg i hi k hk'
      rcases hs with hs | rfl | rfl
      · have := h.tg j hj k hs; omega
      · have := h.ta; omega
      · have := h.tb; omega
  · by_cases e : i = j
    · subst e; rw [updP_same]; exact hc
    · rw [updP_ne _ _ e]
      have := h.nn i hi
      omega
  · by_cases e : i = j
    · subst e
      rw [updP_same] at hk'
      rcases hn k hk' with h5 | h5
      · rw [updT_old ((h.ok i hi).lt h5)]; exact h.tg i hi k h5
      · exact updT_new h5
    · rw [updP_ne _ _ e] at hk'
      rw [updT_old ((h.ok i hi).lt hk')]
      exact h.tg i hi k hk'
  · rw [updT_old hA]; exact h.ta
  · rw [updT_old hB]; exact h.tb
  · rw [updT_old (by omega)]; exact h.old k hk'
  · refine h.bl.trans (hk.below hz fun k hk' => ?_)
    have e : ow k ≠ 0 := by
      rcases hk' with hs | rfl | rfl
      · have := h.tg j hj k hs; omega
      · have := h.ta; omega
      · have := h.tb; omega
    by_cases e2 : k < w.heap.size
    · exact absurd (h.old k e2) e
    · omega
/-- A step that leaves the pointers. -/
theorem St.same (h : St w A B ps S ow wr) {j : Nat} (hj : j < 2) {p' : Pp} (h1 : Ok1 p' w') (hk : Kp (ps j).own wr w') (el : p'.lb = (ps j).lb) (er : p'.rb = (ps j).rb) (hn : ∀ k, p'.own k → (ps j).own k ∨ wr.heap.size ≤ k) (hc : p'.n ≤ S + 1 ∧ p'.C.length ≤ S + 1) :
    ∃ ow', St w A B (updP ps j p') (S + 1) ow' w' := by
  have hna : ¬ (ps j).own A := fun e => by have := h.tg j hj A e; have := h.ta; omega
  have hnb : ¬ (ps j).own B := fun e => by have := h.tg j hj B e; have := h.tb; omega
  have e0 : ∀ i, (updP ps j p' i).lb = (ps i).lb ∧ (updP ps j p' i).rb = (ps i).rb := fun i => by
    by_cases e : i = j
    · subst e; rw [updP_same]; exact ⟨el, er⟩
    · rw [updP_ne _ _ e]; exact ⟨rfl, rfl⟩
  refine h.turn hj h1 (hk.mono fun k hk => Or.inl hk) ?_ ?_ hn hc
  · rw [hk.block A h.ltA hna, h.ba]
    unfold bkA
    rw [(e0 0).1, (e0 1).1]
  · rw [hk.block B h.ltB hnb, h.bb]
    unfold bkB
    rw [(e0 0).2, (e0 1).2]
end
/-- Which of the two. -/
def ix (x : Int) : Nat := if x.tmod 2 = 0 then 0 else 1
theorem ix_lt (x : Int) : ix x < 2 := by unfold ix; split <;> omega
theorem rem_cases (x : Int) : x.tmod 2 = 0 ∨ x.tmod 2 = 1 ∨ x.tmod 2 = -1 := by
  have h := Int.tmod_lt_of_pos x (b := 2) (by omega)
  have h2 := Int.lt_tmod_of_pos x (b := 2) (by omega)
  omega
/-- As they are made. -/
theorem St.init {w w1 w2 W : World} {A l0 t0 b0 l1 t1 b1 : Nat} (ho0 : ∀ k, Lo l0 t0 b0 k → w.heap.size ≤ k) (hg0 : Lg w1 l0 t0 b0 0 (fun _ => 0)) (hb1 : Below w.heap.size w w1) (ho1 : ∀ k, Lo l1 t1 b1 k → w1.heap.size ≤ k) (hg1 : Lg w2 l1 t1 b1 0 (fun _ => 0)) (hb2 : Below w1.heap.size w1 w2) (hA : A = w2.heap.size)
    (hW : W = (((w2.alloc (.cells #[lp l0, lp l1] 24)).alloc (.cells #[.slice none 0 0] 53)).alloc (.cells #[.slice none 0 0] 53)).alloc (.cells #[rp (A + 1), rp (A + 2)] 51)) :
    ∃ ow, St w A (A + 3) (fun i => if i = 0 then ⟨l0, t0, b0, 0, A + 1, .slice none 0 0, []⟩ else ⟨l1, t1, b1, 0, A + 2, .slice none 0 0, []⟩) 0 ow W := by
  have z1 := hb1.size
  have z2 := hb2.size
  have G : Gr w2 W := by rw [hW]; exact ((((Gr.refl _).alloc _).alloc _).alloc _).alloc _
  have g1 := (hg0.below hb2).gr G
  have g2 := hg1.gr G
  have y0 : ∀ k, Lo l0 t0 b0 k → k < w1.heap.size := fun k hk => hg0.own hk
  have y1 : ∀ k, Lo l1 t1 b1 k → k < w2.heap.size := fun k hk => hg1.own hk
  have hh : W.heap = (((w2.heap.push (.cells #[lp l0, lp l1] 24 (0, 0))).push (.cells #[.slice none 0 0] 53 (0, 0))).push (.cells #[.slice none 0 0] 53 (0, 0))).push (.cells #[rp (A + 1), rp (A + 2)] 51 (0, 0)) := by rw [hW]; rfl
  have eA : W.heap[A]? = some (.cells #[lp l0, lp l1] 24 (0, 0)) := by rw [hh, hA]; simp only [Array.getElem?_push, Array.size_push]; repeat (first | rw [if_pos trivial] | rw [if_pos (by omega)] | rw [if_neg (by omega)])
  have e1 : W.heap[A + 1]? = some (.cells #[.slice none 0 0] 53 (0, 0)) := by rw [hh, hA]; simp only [Array.getElem?_push, Array.size_push]; repeat (first | rw [if_pos trivial] | rw [if_pos (by omega)] | rw [if_neg (by omega)])
  have e2 : W.heap[A + 2]? = some (.cells #[.slice none 0 0] 53 (0, 0)) := by rw [hh, hA]; simp only [Array.getElem?_push, Array.size_push]; repeat (first | rw [if_pos trivial] | rw [if_pos (by omega)] | rw [if_neg (by omega)])
  have e3 : W.heap[A + 3]? = some (.cells #[rp (A + 1), rp (A + 2)] 51 (0, 0)) := by rw [hh, hA]; simp only [Array.getElem?_push, Array.size_push]; repeat (first | rw [if_pos trivial] | rw [if_pos (by omega)] | rw [if_neg (by omega)])
  have ez : (fun _ => 0 : Sm → Int) = smf [] := rfl
  refine ⟨fun k => if k < w.heap.size then 0 else if k < w1.heap.size then 3 else if k < w2.heap.size then 4 else if k = A then 1 else if k = A + 1 then 3 else if k = A + 2 then 4 else 2, eA, e3, fun i hi => ?_, fun i hi => ?_, fun i hi k hk => ?_, ?_, ?_, fun k hk => ?_, ?_⟩
  · have : i = 0 ∨ i = 1 := by omega
    rcases this with rfl | rfl
    · exact ⟨by rw [ez] at g1; exact g1, ⟨e1, World.ownsRow_nil _ _ _ _, by simp [Value.ownBlock]⟩, Ones.nil⟩
    · exact ⟨by rw [ez] at g2; exact g2, ⟨e2, World.ownsRow_nil _ _ _ _, by simp [Value.ownBlock]⟩, Ones.nil⟩
  · have : i = 0 ∨ i = 1 := by omega
    rcases this with rfl | rfl <;> simp
  · have : i = 0 ∨ i = 1 := by omega
    rcases this with rfl | rfl
    · rcases hk with hk | hk | hk
      · have a := ho0 k hk
        have b := y0 k hk
        simp only [if_neg (show ¬ k < w.heap.size by omega), if_pos b]
      · have hk : k = A + 1 := hk
        simp only [if_neg (show ¬ k < w.heap.size by omega), if_neg (show ¬ k < w1.heap.size by omega), if_neg (show ¬ k < w2.heap.size by omega), if_neg (show ¬ k = A by omega), if_pos hk]
      · simp [Value.ownBlock] at hk
    · rcases hk with hk | hk | hk
      · have a := ho1 k hk
        have b := y1 k hk
        simp only [if_neg (show ¬ k < w.heap.size by omega), if_neg (show ¬ k < w1.heap.size by omega), if_pos b]
      · have hk : k = A + 2 := hk
        simp only [if_neg (show ¬ k < w.heap.size by omega), if_neg (show ¬ k < w1.heap.size by omega), if_neg (show ¬ k < w2.heap.size by omega), if_neg (show ¬ k = A by omega), if_neg (show ¬ k = A + 1 by omega), if_pos hk]
      · simp [Value.ownBlock] at hk
  · simp only [if_neg (show ¬ A < w.heap.size by omega), if_neg (show ¬ A < w1.heap.size by omega), if_neg (show ¬ A < w2.heap.size by omega), if_true]
  · simp only [if_neg (show ¬ A + 3 < w.heap.size by omega), if_neg (show ¬ A + 3 < w1.heap.size by omega), if_neg (show ¬ A + 3 < w2.heap.size by omega), if_neg (show ¬ A + 3 = A by omega), if_neg (show ¬ A + 3 = A + 1 by omega), if_neg (show ¬ A + 3 = A + 2 by omega)]
  · simp only [if_pos hk]
  · exact (hb1.trans (hb2.mono z1)).trans (G.below.mono (by omega))
end Go.Proofs.Ytcmgmgnmhhkdgaa
