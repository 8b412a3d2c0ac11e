import Derived.Test.YtpcamjmfddnglaaHCopy
namespace Go.Proofs.Ytpcamjmfddnglaa.Ht
open Go.RowKit Go.Sort Hp
attribute [local go_sem ↓] Go.wp_at_zero Go.wp_at_succ

/-- A heap, the program's and the document's: blocks, rows, items (as they lie; as they were pushed), how many were pushed. -/
structure Pp where
  hb : Nat
  rb : Nat
  v : Value
  rv : Value
  L : List It
  S : List It
  np : Nat
/-- What is its own. -/
def Pp.own (p : Pp) (k : Nat) : Prop := k = p.hb ∨ p.v.ownBlock = some k ∨ k = p.rb ∨ p.rv.ownBlock = some k
structure Ok1 (ff : Nat) (o : Int) (p : Pp) (w : World) : Prop where
  q : Hq w p.hb ff p.v (okey o) p.L p.np
  r : Rh w p.rb o p.rv (p.S.map Prod.fst)
  d1 : p.hb ≠ p.rb
  d2 : p.v.ownBlock ≠ some p.rb
  d3 : p.rv.ownBlock ≠ some p.hb
  d4 : ∀ k, p.v.ownBlock = some k → p.rv.ownBlock ≠ some k
  pw : p.S.Pairwise fun a b => a.2 < b.2
  pm : p.L.Perm p.S
theorem Ok1.lt {ff : Nat} {o : Int} {p : Pp} {w : World} (h : Ok1 ff o p w) {k : Nat} (hk : p.own k) : k < w.heap.size := by
  rcases hk with rfl | hk | rfl | hk
  · exact h.q.h.lt
  · exact h.q.h.row k hk
  · exact h.r.lt
  · exact h.r.row k hk
theorem Ok1.kp {ff : Nat} {o : Int} {p : Pp} {w w' : World} {S : Nat → Prop} (h : Ok1 ff o p w) (hk : Kp S w w') (hS : ∀ k, p.own k → ¬ S k) : Ok1 ff o p w' :=
  ⟨h.q.kp hk (hS _ (Or.inl rfl)) (fun k hk => hS k (Or.inr (Or.inl hk))), h.r.kp hk (hS _ (Or.inr (Or.inr (Or.inl rfl)))) (fun k hk => hS k (Or.inr (Or.inr (Or.inr hk)))), h.d1, h.d2, h.d3, h.d4, h.pw, h.pm⟩
theorem Ok1.below {ff : Nat} {o : Int} {p : Pp} {w w' : World} (h : Ok1 ff o p w) (hb : Below w.heap.size w w') : Ok1 ff o p w' := h.kp (S := fun _ => False) (Kp.of_below hb) (fun _ _ h => h)
theorem Ok1.gr {ff : Nat} {o : Int} {p : Pp} {w w' : World} (h : Ok1 ff o p w) (hb : Gr w w') : Ok1 ff o p w' := h.below hb.below
/-- What a call may turn. -/
def PT (p p' : Pp) (w w' : World) : Prop := p'.hb = p.hb ∧ p'.rb = p.rb ∧ Kp p.own w w' ∧ ∀ k, p'.own k → p.own k ∨ w.heap.size ≤ k
theorem PT.of_below {p : Pp} {w w' : World} (h : Below w.heap.size w w') : PT p p w w' := ⟨rfl, rfl, Kp.of_below h, fun _ h => Or.inl h⟩
theorem PT.trans {p p' p'' : Pp} {a b c : World} (h : PT p p' a b) (k : PT p' p'' b c) : PT p p'' a c := by
  refine ⟨k.1.trans h.1, k.2.1.trans h.2.1, h.2.2.1.trans k.2.2.1 (fun j hj hs => ?_), fun j hj => ?_⟩
  · rcases h.2.2.2 j hs with h1 | h1
    · exact h1
    · omega
  · rcases k.2.2.2 j hj with h1 | h1
    · exact h.2.2.2 j h1
    · exact Or.inr (Nat.le_trans h.2.2.1.size h1)
/-- The program's heap is turned. -/
theorem Ok1.turnP {ff : Nat} {o : Int} {p : Pp} {w w' : World} {v' : Value} (h : Ok1 ff o p w) (ht : Turn p.hb p.v v' w w') :
    Rh w' p.rb o p.rv (p.S.map Prod.fst) ∧ (v'.ownBlock ≠ some p.rb) ∧ (∀ k, v'.ownBlock = some k → p.rv.ownBlock ≠ some k) := by
  refine ⟨h.r.kp ht.1 (fun e => ?_) (fun k hk e => ?_), fun e => ?_, fun k hk e => ?_⟩
  · rcases e with e | e
    · exact h.d1 e.symm
    · exact h.d2 e
  · rcases e with e | e
    · exact h.d3 (e ▸ hk)
    · exact h.d4 k e hk
  · rcases ht.2 _ e with e | e
    · exact h.d2 e
    · have := h.r.lt; omega
  · rcases ht.2 _ hk with h1 | h1
    · exact h.d4 k h1 e
    · have := h.r.row k e; omega
/-- The document's heap is turned. -/
theorem Ok1.turnR {ff : Nat} {o : Int} {p : Pp} {w w' : World} {v' : Value} (h : Ok1 ff o p w) (ht : Turn p.rb p.rv v' w w') :
    Hq w' p.hb ff p.v (okey o) p.L p.np ∧ (v'.ownBlock ≠ some p.hb) ∧ (∀ k, p.v.ownBlock = some k → v'.ownBlock ≠ some k) := by
  refine ⟨h.q.kp ht.1 (fun e => ?_) (fun k hk e => ?_), fun e => ?_, fun k hk e => ?_⟩
  · rcases e with e | e
    · exact h.d1 e
    · exact h.d3 e
  · rcases e with e | e
    · exact h.d2 (e ▸ hk)
    · exact h.d4 k hk e
  · rcases ht.2 _ e with e | e
    · exact h.d3 e
    · have := h.q.h.lt; omega
  · rcases ht.2 _ e with h1 | h1
    · exact h.d4 k hk h1
    · have := h.q.h.row k hk; omega
/-- Which one is the first: of both. -/
theorem Ok1.first {ff : Nat} {o : Int} {p : Pp} {w : World} (h : Ok1 ff o p w) {t : It} (ht : p.L[0]? = some t) : ∃ k : Nat, p.S[k]? = some t ∧ (p.S.map Prod.fst)[k]? = some t.1 ∧ Mk o (p.S.map Prod.fst) (p.S.map Prod.fst).length (k : Nat) := by
  obtain ⟨h1, h2⟩ := h.q.first ht
  obtain ⟨k, hk⟩ := List.getElem?_of_mem (h.pm.mem_iff.1 h1)
  have hkl := (List.getElem?_eq_some_iff.1 hk).1
  refine ⟨k, hk, by rw [List.getElem?_map, hk]; rfl, Or.inr ⟨k, t.1, rfl, by rw [List.length_map]; exact hkl, by rw [List.getElem?_map, hk]; rfl, fun q y hq hy => ?_⟩⟩
  rw [List.getElem?_map] at hy
  cases hs : p.S[q]? with
  | none => simp [hs] at hy
  | some u =>
    simp [hs] at hy
    subst hy
    have h3 := h2 u (h.pm.mem_iff.2 (List.mem_of_getElem? hs))
    rcases h3 with h3 | ⟨h3, h4⟩
    · exact Or.inl h3
    · refine Or.inr ⟨h3, ?_⟩
      by_cases hlt : q < k
      · obtain ⟨l1, e1⟩ := List.getElem?_eq_some_iff.1 hs
        obtain ⟨l2, e2⟩ := List.getElem?_eq_some_iff.1 hk
        have := List.pairwise_iff_getElem.1 h.pw q k l1 l2 hlt
        rw [e1, e2] at this
        omega
      · omega
theorem erase_perm {S : List It} {k : Nat} {t : It} (h : S[k]? = some t) : (t :: S.eraseIdx k).Perm S := by
  induction S generalizing k with
  | nil => simp at h
  | cons a S ih =>
    cases k with
    | zero => simp at h; subst h; simp
    | succ k =>
      rw [List.eraseIdx_cons_succ]
      exact (List.Perm.swap _ _ _).trans ((ih (by simpa using h)).cons a)
theorem map_erase (S : List It) (k : Nat) : (S.map Prod.fst).eraseIdx k = (S.eraseIdx k).map Prod.fst := by
  induction S generalizing k with
  | nil => simp
  | cons a S ih =>
    cases k with
    | zero => simp
    | succ k => simp [ih]
/-- Two things are one. -/
def veq (a b x y : Int) : Bool := decide (a = x) && decide (b = y)
theorem veq_self (a b : Int) : veq a b a b = true := by simp [veq]
theorem run_eqV (a b x y : Int) (w : World) : Sem.run Try.prog (Op.equalIn 10000 26 (.agg #[.int .i64 a, .int .i64 b]) (.agg #[.int .i64 x, .int .i64 y])) w = .ok (veq a b x y) w := by
  have u3 := Try.underlying3
  have a3 := Try.isAgg3
  have z3 := Try.sizeOf3
  have hS : Try.prog.underlying 26 = some (.struct (Try.prog.fieldsOf 26)) := by kernel_rfl
  have hp : Try.prog.stoodInHeld 26 = false := by kernel_rfl
  rw [show (10000 : Nat) = 9999 + 1 from rfl, run_equalIn_agg w 9999 26 _ _ hS hp]
  simp only [Program.fieldsOf, Try.underlying26]
  go_simp
  by_cases h1 : a = x <;> by_cases h2 : b = y <;> simp [veq, h1, h2]
/-- What a step may leave. -/
def SP (ff : Nat) (o : Int) (p : Pp) (kind : Int) (w w' : World) : Prop := ∃ p', Ok1 ff o p' w' ∧ PT p p' w w' ∧ p'.S.length ≤ p.S.length + (if kind = 1 then 1 else 0) ∧ p'.np ≤ p.np + (if kind = 1 then 1 else 0)
theorem SP.same {ff : Nat} {o : Int} {p : Pp} {kind : Int} {w w' : World} (h : Ok1 ff o p w) (hb : Below w.heap.size w w') : SP ff o p kind w w' := ⟨p, h.below hb, PT.of_below hb, Nat.le_add_right _ _, Nat.le_add_right _ _⟩
/-- As one more is pushed. -/
theorem Ok1.push {ff : Nat} {o : Int} {p : Pp} {w w1 w2 : World} {v' rv' : Value} {L' : List It} {x : Th} (h : Ok1 ff o p w) (hq : Hq w1 p.hb ff v' (okey o) L' (p.np + 1)) (hp : L'.Perm (p.L ++ [(x, p.np)])) (ht : Turn p.hb p.v v' w w1)
    (hr : Rh w2 p.rb o rv' (p.S.map Prod.fst ++ [x])) (ht2 : Turn p.rb p.rv rv' w1 w2) : Ok1 ff o ⟨p.hb, p.rb, v', rv', L', p.S ++ [(x, p.np)], p.np + 1⟩ w2 ∧ PT p ⟨p.hb, p.rb, v', rv', L', p.S ++ [(x, p.np)], p.np + 1⟩ w w2 := by
  obtain ⟨a1, a2, a3⟩ := h.turnP ht
  have z1 := ht.1.size
  have rl := h.r.lt
  have hl := h.q.h.lt
  have e1 : ∀ k, p.rv.ownBlock = some k → k < w.heap.size := h.r.row
  have e2 : ∀ k, p.v.ownBlock = some k → k < w.heap.size := h.q.h.row
  have vl1 := hq.h.row
  have nv : ∀ k, v'.ownBlock = some k → rv'.ownBlock ≠ some k := fun k hk e => by
    rcases ht2.2 k e with h1 | h1
    · exact a3 k hk h1
    · have := vl1 k hk; omega
  have nh : rv'.ownBlock ≠ some p.hb := fun e => by
    rcases ht2.2 _ e with h1 | h1
    · exact h.d3 h1
    · omega
  refine ⟨⟨hq.kp ht2.1 (fun e => ?_) (fun k hk e => ?_), by rw [List.map_append]; exact hr, h.d1, a2, nh, nv, ?_, hp.trans (h.pm.append_right _)⟩, rfl, rfl, ?_, fun k hk => ?_⟩
  · rcases e with e | e
    · exact h.d1 e
    · exact h.d3 e
  · rcases e with e | e
    · exact a2 (e ▸ hk)
    · exact a3 k hk e
  · rw [List.pairwise_append]
    refine ⟨h.pw, List.pairwise_singleton _ _, fun a ha b hb => ?_⟩
    simp at hb
    subst hb
    exact h.q.lt a (h.pm.mem_iff.2 ha)
  · refine (ht.1.mono (fun k hk => ?_)).trans (ht2.1.mono (T := p.own) (fun k hk => ?_)) (fun _ _ h => h)
    · exact hk.elim Or.inl (fun h => Or.inr (Or.inl h))
    · exact Or.inr (Or.inr hk)
  · rcases hk with rfl | hk | rfl | hk
    · exact Or.inl (Or.inl rfl)
    · exact (ht.2 k hk).imp (fun h => Or.inr (Or.inl h)) id
    · exact Or.inl (Or.inr (Or.inr (Or.inl rfl)))
    · exact (ht2.2 k hk).imp (fun h => Or.inr (Or.inr (Or.inr h))) (fun h => by omega)
/-- As the first one is popped. -/
theorem Ok1.pop {ff : Nat} {o : Int} {p : Pp} {w w0 w1 w2 : World} {v' rv' : Value} {L' : List It} {t : It} {k0 : Nat} (h : Ok1 ff o p w) (hS : p.S[k0]? = some t) (hq : Hq w0 p.hb ff v' (okey o) L' p.np) (hp : (t :: L').Perm p.L) (ht : Turn p.hb p.v v' w w0) (hg : Gr w0 w1)
    (hr : Rh w2 p.rb o rv' ((p.S.map Prod.fst).eraseIdx k0)) (ht2 : Turn p.rb p.rv rv' w1 w2) : Ok1 ff o ⟨p.hb, p.rb, v', rv', L', p.S.eraseIdx k0, p.np⟩ w2 ∧ PT p ⟨p.hb, p.rb, v', rv', L', p.S.eraseIdx k0, p.np⟩ w w2 := by
  have ht' : Turn p.hb p.v v' w w1 := ⟨ht.1.trans (Kp.of_gr hg) (fun _ _ h => h), ht.2⟩
  have hq1 := hq.below hg.below
  obtain ⟨a1, a2, a3⟩ := h.turnP ht'
  have z1 := ht'.1.size
  have rl := h.r.lt
  have hl := h.q.h.lt
  have vl1 := hq1.h.row
  have nv : ∀ k, v'.ownBlock = some k → rv'.ownBlock ≠ some k := fun k hk e => by
    rcases ht2.2 k e with h1 | h1
    · exact a3 k hk h1
    · have := vl1 k hk; omega
  have nh : rv'.ownBlock ≠ some p.hb := fun e => by
    rcases ht2.2 _ e with h1 | h1
    · exact h.d3 h1
    · omega
  refine ⟨⟨hq1.kp ht2.1 (fun e => ?_) (fun k hk e => ?_), by rw [← map_erase]; exact hr, h.d1, a2, nh, nv, h.pw.sublist (List.eraseIdx_sublist _ _), ?_⟩, rfl, rfl, ?_, fun k hk => ?_⟩
  · rcases e with e | e
    · exact h.d1 e
    · exact h.d3 e
  · rcases e with e | e
    · exact a2 (e ▸ hk)
    · exact a3 k hk e
  · exact ((hp.trans h.pm).trans (erase_perm hS).symm).cons_inv
  · refine (ht'.1.mono (fun k hk => ?_)).trans (ht2.1.mono (T := p.own) (fun k hk => ?_)) (fun _ _ h => h)
    · exact hk.elim Or.inl (fun h => Or.inr (Or.inl h))
    · exact Or.inr (Or.inr hk)
  · rcases hk with rfl | hk | rfl | hk
    · exact Or.inl (Or.inl rfl)
    · exact (ht'.2 k hk).imp (fun h => Or.inr (Or.inl h)) id
    · exact Or.inl (Or.inr (Or.inr (Or.inl rfl)))
    · exact (ht2.2 k hk).imp (fun h => Or.inr (Or.inr (Or.inr h))) (fun h => by omega)
end Go.Proofs.Ytpcamjmfddnglaa.Ht
