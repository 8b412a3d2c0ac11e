import Derived.Test.YtplbcamliiajdaaYStep
namespace Go.Proofs.Ytplbcamliiajdaa
open Go.RowKit Go.Sort Go.Maps
attribute [local go_sem ↓] Go.wp_at_zero Go.wp_at_succ

/-- Whose a block is while the two lists are made. -/
def Ob (KT KR : Nat) (X : Nat → Tb) (R : Nat → Rf) (s3 s4 : Value) (a k : Nat) : Prop :=
  (a < KT ∧ a < 3 ∧ (k = (X a).t ∨ k = (X a).b)) ∨ (3 ≤ a ∧ a < 6 ∧ a < KR + 3 ∧ k = (R (a - 3)).b) ∨ (a = 6 ∧ s3.ownBlock = some k) ∨ (a = 7 ∧ s4.ownBlock = some k)
theorem sep_up {O O' : Nat → Nat → Prop} {s a0 : Nat} (hs : ∀ a k, O a k → k < s) (hO : ∀ a b k, O a k → O b k → a = b) (h1 : ∀ a k, a ≠ a0 → O' a k → O a k) (h2 : ∀ k, O' a0 k → O a0 k ∨ s ≤ k) : ∀ a b k, O' a k → O' b k → a = b := by
  have cl : ∀ a k, O' a k → O a k ∨ (a = a0 ∧ s ≤ k) := fun a k ho => by
    by_cases ha : a = a0
    · subst ha; exact (h2 k ho).imp id (fun h => ⟨rfl, h⟩)
    · exact Or.inl (h1 a k ha ho)
  intro a b k p q
  rcases cl a k p with p | ⟨p, p'⟩ <;> rcases cl b k q with q | ⟨q, q'⟩
  · exact hO a b k p q
  · have := hs a k p; omega
  · have := hs b k q; omega
  · omega
structure Bld (w0 W : World) (KT KR : Nat) (X : Nat → Tb) (R : Nat → Rf) (s3 s4 : Value) : Prop where
  ta : W.ownsRow w0.heap.size 23 1 s3 KT ((List.range KT).map fun i => tp (X i))
  ra : W.ownsRow w0.heap.size 44 1 s4 KR ((List.range KR).map fun i => rp (R i))
  tl : ∀ i, i < KT → Tl W (X i).t (X i).b (X i).g 0 (fun _ => 0) ∧ OrdOk (X i).g (cf i)
  rt : ∀ i, i < KR → RT W (R i) i [] [] ∧ (R i).n = .slice none 0 0 ∧ (R i).c = .slice none 0 0
  lt : ∀ a k, Ob KT KR X R s3 s4 a k → w0.heap.size ≤ k ∧ k < W.heap.size
  sep : ∀ a b k, Ob KT KR X R s3 s4 a k → Ob KT KR X R s3 s4 b k → a = b
  bl : Below w0.heap.size w0 W
/-- A tally and its place in the list. -/
theorem Bld.stepT {w0 W W1 W2 : World} {K : Nat} {X : Nat → Tb} {R : Nat → Rf} {s3 s4 s3' : Value} {x : Tb} (h : Bld w0 W K K X R s3 s4) (hK : K < 3) (hx1 : W.heap.size ≤ x.t) (hx2 : W.heap.size ≤ x.b) (hT : Tl W1 x.t x.b x.g 0 (fun _ => 0)) (hO : OrdOk x.g (cf K)) (hg : Gr W W1)
    (hm : W2.ownsRow w0.heap.size 23 1 s3' (K + 1) ((List.range K).map (fun i => tp (X i)) ++ [tp x])) (hk : Kp (fun q => s3.ownBlock = some q) W1 W2) (hs : ∀ g, s3'.ownBlock = some g → s3.ownBlock = some g ∨ W1.heap.size ≤ g) :
    Bld w0 W2 (K + 1) K (st X K x) R s3' s4 := by
  have hz1 := hg.size
  have hz2 := hk.size
  have eR : (List.range (K + 1)).map (fun i => tp (st X K x i)) = (List.range K).map (fun i => tp (X i)) ++ [tp x] := by
    rw [List.range_succ, List.map_append]
    congr 1
    · refine List.map_congr_left fun i hi => ?_
      rw [st_other X x (by have := List.mem_range.1 hi; omega)]
    · simp [st_same]
  have hz0 := h.bl.size
  -- made
  have sepA : ∀ a b k, Ob (K + 1) K (st X K x) R s3 s4 a k → Ob (K + 1) K (st X K x) R s3 s4 b k → a = b := by
    refine sep_up (s := W.heap.size) (a0 := K) (fun a k ho => (h.lt a k ho).2) h.sep (fun a k ha ho => ?_) (fun k ho => ?_)
    · rcases ho with ⟨p1, p2, p3⟩ | p | p | p
      · rw [st_other X x ha] at p3; exact Or.inl ⟨by omega, p2, p3⟩
      · exact Or.inr (Or.inl p)
      · exact Or.inr (Or.inr (Or.inl p))
      · exact Or.inr (Or.inr (Or.inr p))
    · rcases ho with ⟨p1, p2, p3⟩ | ⟨p, _⟩ | ⟨p, _⟩ | ⟨p, _⟩
      · rw [st_same] at p3
        rcases p3 with rfl | rfl
        · exact Or.inr hx1
        · exact Or.inr hx2
      · omega
      · omega
      · omega
  have ltA : ∀ a k, Ob (K + 1) K (st X K x) R s3 s4 a k → w0.heap.size ≤ k ∧ k < W1.heap.size := fun a k ho => by
    by_cases ha : a = K
    · subst ha
      rcases ho with ⟨p1, p2, p3⟩ | ⟨p, _⟩ | ⟨p, _⟩ | ⟨p, _⟩
      · rw [st_same] at p3
        rcases p3 with rfl | rfl
        · exact ⟨by omega, hT.lt⟩
        · exact ⟨by omega, hT.ta.lt⟩
      · omega
      · omega
      · omega
    · have hO' : Ob K K X R s3 s4 a k := by
        rcases ho with ⟨p1, p2, p3⟩ | p | p | p
        · rw [st_other X x ha] at p3; exact Or.inl ⟨by omega, p2, p3⟩
        · exact Or.inr (Or.inl p)
        · exact Or.inr (Or.inr (Or.inl p))
        · exact Or.inr (Or.inr (Or.inr p))
      have := h.lt a k hO'
      exact ⟨this.1, by omega⟩
  have sub : ∀ a k, a ≠ 6 → Ob (K + 1) K (st X K x) R s3' s4 a k → Ob (K + 1) K (st X K x) R s3 s4 a k := fun a k ha ho => by
    rcases ho with p | p | ⟨p, _⟩ | p
    · exact Or.inl p
    · exact Or.inr (Or.inl p)
    · exact absurd p ha
    · exact Or.inr (Or.inr (Or.inr p))
  have self : ∀ k, Ob (K + 1) K (st X K x) R s3' s4 6 k → Ob (K + 1) K (st X K x) R s3 s4 6 k ∨ W1.heap.size ≤ k := fun k ho => by
    rcases ho with ⟨_, p, _⟩ | ⟨_, p, _⟩ | ⟨_, p⟩ | ⟨p, _⟩
    · omega
    · omega
    · exact (hs k p).imp (fun h => Or.inr (Or.inr (Or.inl ⟨rfl, h⟩))) id
    · omega
  have nS : ∀ a k, a ≠ 6 → Ob (K + 1) K (st X K x) R s3 s4 a k → ¬ s3.ownBlock = some k := fun a k ha ho e => ha (sepA a 6 k ho (Or.inr (Or.inr (Or.inl ⟨rfl, e⟩))))
  refine ⟨by rw [eR]; exact hm, ?_, fun i hi => ?_, fun i hi => ?_, fun a k ho => ?_, sep_up (s := W1.heap.size) (a0 := 6) (fun a k ho => (ltA a k ho).2) sepA sub self, ?_⟩
  · refine owns_kp hk (owns_kp (Kp.of_gr (S := fun _ => False) hg) h.ra (fun _ _ h => h)) (fun k hq => nS 7 k (by omega) (Or.inr (Or.inr (Or.inr ⟨rfl, hq⟩))))
  · by_cases e : i = K
    · subst e
      rw [st_same]
      exact ⟨hT.kp hk (nS i _ (by omega) (Or.inl ⟨by omega, hK, by rw [st_same]; exact Or.inl rfl⟩)) (nS i _ (by omega) (Or.inl ⟨by omega, hK, by rw [st_same]; exact Or.inr rfl⟩)), hO⟩
    · rw [st_other X x e]
      have h1 := h.tl i (by omega)
      exact ⟨(h1.1.gr hg).kp hk (nS i _ (by omega) (Or.inl ⟨hi, by omega, by rw [st_other X x e]; exact Or.inl rfl⟩)) (nS i _ (by omega) (Or.inl ⟨hi, by omega, by rw [st_other X x e]; exact Or.inr rfl⟩)), h1.2⟩
  · obtain ⟨h1, h2, h3⟩ := h.rt i hi
    refine ⟨(h1.gr hg).kp hk (fun k ho => ?_), h2, h3⟩
    rcases ho with p | p | p
    · exact nS (i + 3) k (by omega) (Or.inr (Or.inl ⟨by omega, by omega, by omega, by simpa using p⟩))
    · rw [h2] at p; simp [Value.ownBlock] at p
    · rw [h3] at p; simp [Value.ownBlock] at p
  · by_cases ha : a = 6
    · subst ha
      rcases ho with ⟨_, p, _⟩ | ⟨_, p, _⟩ | ⟨_, p⟩ | ⟨p, _⟩
      · omega
      · omega
      · exact hm.lt k p
      · omega
    · have := ltA a k (sub a k ha ho)
      exact ⟨this.1, by omega⟩
  · have b1 := h.bl.trans (hg.below.mono h.bl.size)
    exact b1.trans (hk.below b1.size (fun k hq => (h.lt 6 k (Or.inr (Or.inr (Or.inl ⟨rfl, hq⟩)))).1))
/-- The document's tally and its place in the list. -/
theorem Bld.stepR {w0 W W1 W2 : World} {K : Nat} {X : Nat → Tb} {R : Nat → Rf} {s3 s4 s4' : Value} (h : Bld w0 W (K + 1) K X R s3 s4) (hK : K < 3) (r : Rf) (hr1 : W.heap.size ≤ r.b) (hrn : r.n = .slice none 0 0) (hrc : r.c = .slice none 0 0) (hT : RT W1 r K [] []) (hg : Gr W W1)
    (hm : W2.ownsRow w0.heap.size 44 1 s4' (K + 1) ((List.range K).map (fun i => rp (R i)) ++ [rp r])) (hk : Kp (fun q => s4.ownBlock = some q) W1 W2) (hs : ∀ g, s4'.ownBlock = some g → s4.ownBlock = some g ∨ W1.heap.size ≤ g) :
    Bld w0 W2 (K + 1) (K + 1) X (st R K r) s3 s4' := by
  have hz1 := hg.size
  have hz2 := hk.size
  have eR : (List.range (K + 1)).map (fun i => rp (st R K r i)) = (List.range K).map (fun i => rp (R i)) ++ [rp r] := by
    rw [List.range_succ, List.map_append]
    congr 1
    · refine List.map_congr_left fun i hi => ?_
      rw [st_other R r (by have := List.mem_range.1 hi; omega)]
    · simp [st_same]
  have hz0 := h.bl.size
  have old : ∀ a k, a ≠ K + 3 → Ob (K + 1) (K + 1) X (st R K r) s3 s4 a k → Ob (K + 1) K X R s3 s4 a k := fun a k ha ho => by
    rcases ho with p | ⟨p1, p2, p3, p4⟩ | p | p
    · exact Or.inl p
    · rw [st_other R r (by omega)] at p4; exact Or.inr (Or.inl ⟨p1, p2, by omega, p4⟩)
    · exact Or.inr (Or.inr (Or.inl p))
    · exact Or.inr (Or.inr (Or.inr p))
  have new : ∀ k, Ob (K + 1) (K + 1) X (st R K r) s3 s4 (K + 3) k → k = r.b := fun k ho => by
    rcases ho with ⟨p1, p2, p3⟩ | ⟨p1, p2, p3, p4⟩ | ⟨p, _⟩ | ⟨p, _⟩
    · omega
    · rw [show K + 3 - 3 = K by omega, st_same] at p4; exact p4
    · omega
    · omega
  have sepA : ∀ a b k, Ob (K + 1) (K + 1) X (st R K r) s3 s4 a k → Ob (K + 1) (K + 1) X (st R K r) s3 s4 b k → a = b :=
    sep_up (s := W.heap.size) (a0 := K + 3) (fun a k ho => (h.lt a k ho).2) h.sep old (fun k ho => Or.inr (by rw [new k ho]; exact hr1))
  have ltA : ∀ a k, Ob (K + 1) (K + 1) X (st R K r) s3 s4 a k → w0.heap.size ≤ k ∧ k < W1.heap.size := fun a k ho => by
    by_cases ha : a = K + 3
    · subst ha
      rw [new k ho]
      exact ⟨by omega, hT.lt⟩
    · have := h.lt a k (old a k ha ho)
      exact ⟨this.1, by omega⟩
  have sub : ∀ a k, a ≠ 7 → Ob (K + 1) (K + 1) X (st R K r) s3 s4' a k → Ob (K + 1) (K + 1) X (st R K r) s3 s4 a k := fun a k ha ho => by
    rcases ho with p | p | p | ⟨p, _⟩
    · exact Or.inl p
    · exact Or.inr (Or.inl p)
    · exact Or.inr (Or.inr (Or.inl p))
    · exact absurd p ha
  have self : ∀ k, Ob (K + 1) (K + 1) X (st R K r) s3 s4' 7 k → Ob (K + 1) (K + 1) X (st R K r) s3 s4 7 k ∨ W1.heap.size ≤ k := fun k ho => by
    rcases ho with ⟨_, p, _⟩ | ⟨_, p, _⟩ | ⟨p, _⟩ | ⟨_, p⟩
    · omega
    · omega
    · omega
    · exact (hs k p).imp (fun h => Or.inr (Or.inr (Or.inr ⟨rfl, h⟩))) id
  have nS : ∀ a k, a ≠ 7 → Ob (K + 1) (K + 1) X (st R K r) s3 s4 a k → ¬ s4.ownBlock = some k := fun a k ha ho e => ha (sepA a 7 k ho (Or.inr (Or.inr (Or.inr ⟨rfl, e⟩))))
  refine ⟨?_, by rw [eR]; exact hm, fun i hi => ?_, fun i hi => ?_, fun a k ho => ?_, sep_up (s := W1.heap.size) (a0 := 7) (fun a k ho => (ltA a k ho).2) sepA sub self, ?_⟩
  · refine owns_kp hk (owns_kp (Kp.of_gr (S := fun _ => False) hg) h.ta (fun _ _ h => h)) (fun k hq => nS 6 k (by omega) (Or.inr (Or.inr (Or.inl ⟨rfl, hq⟩))))
  · have h1 := h.tl i hi
    exact ⟨(h1.1.gr hg).kp hk (nS i _ (by omega) (Or.inl ⟨hi, by omega, Or.inl rfl⟩)) (nS i _ (by omega) (Or.inl ⟨hi, by omega, Or.inr rfl⟩)), h1.2⟩
  · by_cases e : i = K
    · subst e
      rw [st_same]
      refine ⟨hT.kp hk (fun k ho => ?_), hrn, hrc⟩
      rcases ho with p | p | p
      · exact nS (i + 3) k (by omega) (Or.inr (Or.inl ⟨by omega, by omega, by omega, by rw [show i + 3 - 3 = i by omega, st_same]; exact p⟩))
      · rw [hrn] at p; simp [Value.ownBlock] at p
      · rw [hrc] at p; simp [Value.ownBlock] at p
    · rw [st_other R r e]
      obtain ⟨h1, h2, h3⟩ := h.rt i (by omega)
      refine ⟨(h1.gr hg).kp hk (fun k ho => ?_), h2, h3⟩
      rcases ho with p | p | p
      · exact nS (i + 3) k (by omega) (Or.inr (Or.inl ⟨by omega, by omega, by omega, by rw [show i + 3 - 3 = i by omega, st_other R r e]; exact p⟩))
      · rw [h2] at p; simp [Value.ownBlock] at p
      · rw [h3] at p; simp [Value.ownBlock] at p
  · by_cases ha : a = 7
    · subst ha
      rcases ho with ⟨_, p, _⟩ | ⟨_, p, _⟩ | ⟨p, _⟩ | ⟨_, p⟩
      · omega
      · omega
      · omega
      · exact hm.lt k p
    · have := ltA a k (sub a k ha ho)
      exact ⟨this.1, by omega⟩
  · have b1 := h.bl.trans (hg.below.mono h.bl.size)
    exact b1.trans (hk.below b1.size (fun k hq => (h.lt 7 k (Or.inr (Or.inr (Or.inr ⟨rfl, hq⟩)))).1))
theorem row_of {W : World} {base n : Nat} {e : TypeId} {v : Value} {f : Nat → Value} (hn : 0 < n) (h : W.ownsRow base e 1 v n ((List.range n).map f)) : ∃ g c cur, v = .slice (some ⟨g, 0, none⟩) n c ∧ W.heap[g]? = some (.cells cur e (0, 0)) ∧ n ≤ cur.size ∧ ∀ i, i < n → cur[i]? = some (f i) := by
  obtain ⟨_, ⟨_, h0⟩ | ⟨g, c, cur, hv, _, hh, h2, _, h4, h5⟩⟩ := h
  · omega
  · refine ⟨g, c, cur, hv, hh, by omega, fun i hi => ?_⟩
    have := congrArg (·[i]?) h5
    simp only [Nat.mul_one] at this
    rw [List.getElem?_take_of_lt hi, Array.getElem?_toList] at this
    rw [this]
    simp [hi]
/-- The lists are made. -/
theorem Bld.six {w0 W : World} {X : Nat → Tb} {R : Nat → Rf} {s3 s4 : Value} (h : Bld w0 W 3 3 X R s3 s4) : ∃ gA cA gR cR, s3 = .slice (some ⟨gA, 0, none⟩) 3 cA ∧ s4 = .slice (some ⟨gR, 0, none⟩) 3 cR ∧
    Six W gA gR X R (fun i => i) (fun i => i) (fun _ => 0) (fun _ _ => 0) (fun _ => []) (fun _ => []) w0.heap.size ∧ Fit3 [] (fun i => i) (fun i => i) (fun _ _ => 0) (fun _ => []) (fun _ => []) := by
  obtain ⟨gA, cA, ca, e1, h1, h2, h3⟩ := row_of (by decide) h.ta
  obtain ⟨gR, cR, cr, e2, h4, h5, h6⟩ := row_of (by decide) h.ra
  have tr : ∀ a k, Own X R gA gR a k → Ob 3 3 X R s3 s4 a k := fun a k ho => by
    rcases ho with ⟨p1, p2⟩ | ⟨p1, p2, p3⟩ | ⟨p1, rfl⟩ | ⟨p1, rfl⟩
    · exact Or.inl ⟨p1, p1, p2⟩
    · obtain ⟨_, q2, q3⟩ := h.rt (a - 3) (by omega)
      rcases p3 with p | p | p
      · exact Or.inr (Or.inl ⟨p1, p2, by omega, p⟩)
      · rw [q2] at p; simp [Value.ownBlock] at p
      · rw [q3] at p; simp [Value.ownBlock] at p
    · exact Or.inr (Or.inr (Or.inl ⟨p1, by rw [e1]; rfl⟩))
    · exact Or.inr (Or.inr (Or.inr ⟨p1, by rw [e2]; rfl⟩))
  refine ⟨gA, cA, gR, cR, e1, e2, ⟨⟨ca, h1, h2, h3⟩, ⟨cr, h4, h5, h6⟩, fun i hi => (h.tl i hi).1, fun i hi => ⟨(h.tl i hi).2, by omega⟩, fun i hi => (h.rt i hi).1, fun a b k p q => h.sep a b k (tr a k p) (tr b k q), fun a k p => (h.lt a k (tr a k p)).1⟩, ⟨fun _ _ => rfl, fun _ _ => ⟨fun x => by simp [rget], fun y hy => by cases hy⟩, fun _ _ y hy => by cases hy⟩⟩
/-- As many entries as there are names. -/
theorem Six.norm {w : World} {bA bR base : Nat} {X : Nat → Tb} {R : Nat → Rf} {kT kR : Nat → Int} {nn : Nat → Nat} {F : Nat → BS → Int} {N : Nat → List Rk} {C : Nat → List Int} {U : List Rk} (h : Six w bA bR X R kT kR nn F N C base) (hf : Fit3 U kT kR F N C) : Six w bA bR X R kT kR (fun _ => U.length) F N C base := by
  refine ⟨h.ca, h.cr, fun i hi => ?_, h.od, h.rt, h.sep, h.lo⟩
  have h1 := h.tl i hi
  have h2 := h1.ta.le (ms := U.map (·.1)) (fun s hs => by
    rw [(hf.rl i hi).eq s] at hs
    have hm : (s, (0 : Int)) ∈ N i := Classical.byContradiction fun hm => hs (rget_not (h.rt i hi).len hm)
    exact List.mem_map.2 ⟨_, hf.un i hi _ hm, rfl⟩)
  rw [List.length_map] at h2
  exact ⟨h1.blk, h2, h1.bd⟩
end Go.Proofs.Ytplbcamliiajdaa
