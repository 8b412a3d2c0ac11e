import Derived.Test.YtaaobchodbnkpaaQuKn
namespace Go.Proofs.Ytaaobchodbnkpaa.Qe
open Go.RowKit Go.Sort

/-- What waits at each place when all of l has been put. -/
def qs (l : List Ms) : Nat → List Ms := fun p => l.filter fun m => decide (m.at_ = (p : Int))
theorem qs_nil : qs [] = fun _ => [] := rfl
theorem qs_put {N : Nat} {l : List Ms} {x : Ms} : ∀ p, p < N → ptn N (qs l) x p = qs (l ++ [x]) p := by
  intro p hp
  have e : qs (l ++ [x]) p = qs l p ++ (if x.at_ = (p : Int) then [x] else []) := by
    unfold qs
    rw [List.filter_append, List.filter_cons, List.filter_nil]
    by_cases h : x.at_ = (p : Int) <;> simp [h]
  rw [e]
  unfold ptn
  by_cases hP : Plc N x.at_
  · rw [if_pos hP]
    by_cases h : x.at_ = (p : Int)
    · rw [if_pos h, show x.at_.toNat = p by omega, upd_self]
    · rw [if_neg h, List.append_nil, upd_ne]
      intro e2
      have := hP.cast
      omega
  · rw [if_neg hP, if_neg, List.append_nil]
    intro h
    exact hP ⟨by omega, by omega⟩
/-- How many of them could be put. -/
def nv (N : Nat) (l : List Ms) : Nat := (l.filter fun m => decide (Plc N m.at_)).length
theorem nv_le (N : Nat) (l : List Ms) : nv N l ≤ l.length := List.length_filter_le _ _
theorem nv_snoc (N : Nat) (l : List Ms) (x : Ms) : nv N (l ++ [x]) = nv N l + (if Plc N x.at_ then 1 else 0) := by
  unfold nv
  rw [List.filter_append, List.length_append, List.filter_cons, List.filter_nil]
  by_cases h : Plc N x.at_ <;> simp [h]
theorem sumTo_one {g g' : Nat → Nat} {i : Nat} (h : ∀ j, j ≠ i → g' j = g j) : ∀ n, (i < n → sumTo g' n + g i = sumTo g n + g' i) ∧ (n ≤ i → sumTo g' n = sumTo g n) := by
  intro n
  induction n with
  | zero => exact ⟨fun h => absurd h (Nat.not_lt_zero _), fun _ => rfl⟩
  | succ n ih =>
    constructor
    · intro hi
      rw [sumTo, sumTo]
      by_cases e : i = n
      · subst e
        have := ih.2 (Nat.le_refl _)
        omega
      · have h1 := ih.1 (by omega)
        have h2 := h n (fun q => e q.symm)
        omega
    · intro hi
      rw [sumTo, sumTo, ih.2 (by omega), h n (by omega)]
theorem sumTo_congr {g g' : Nat → Nat} : ∀ n, (∀ j, j < n → g j = g' j) → sumTo g n = sumTo g' n := by
  intro n
  induction n with
  | zero => intro _; rfl
  | succ n ih => intro h; rw [sumTo, sumTo, ih (fun j hj => h j (by omega)), h n (by omega)]
theorem tot_congr {N : Nat} {Q Q' : Nat → List Ms} (h : ∀ p, p < N → Q p = Q' p) : tot N Q = tot N Q' := sumTo_congr N fun j hj => by rw [h j hj]
theorem tot_upd {N : Nat} {Q : Nat → List Ms} {i : Nat} (hi : i < N) (L : List Ms) : tot N (upd Q i L) + (Q i).length = tot N Q + L.length := by
  have h := (sumTo_one (g := fun j => (Q j).length) (g' := fun j => (upd Q i L j).length) (i := i) (fun j hj => by rw [upd_ne _ _ hj]) N).1 hi
  rw [upd_self] at h
  exact h
theorem tot_nil {N : Nat} {Q : Nat → List Ms} (h : ∀ p, p < N → Q p = []) : tot N Q = 0 := by
  have : ∀ n, (∀ p, p < n → Q p = []) → sumTo (fun i => (Q i).length) n = 0 := by
    intro n
    induction n with
    | zero => intro _; rfl
    | succ n ih => intro h; rw [sumTo, ih (fun p hp => h p (by omega)), h n (by omega)]; rfl
  exact this N h
theorem tot_qs (N : Nat) (l : List Ms) : tot N (qs l) = nv N l := by
  have : ∀ n (l : List Ms), l.length = n → tot N (qs l) = nv N l := by
    intro n
    induction n with
    | zero => intro l hl; rw [List.eq_nil_of_length_eq_zero hl]; exact tot_nil (fun _ _ => rfl)
    | succ n ih =>
      intro l hl
      rcases List.eq_nil_or_concat l with rfl | ⟨l0, x, rfl⟩
      · simp at hl
      · rw [List.concat_eq_append] at hl ⊢
        rw [List.length_append, List.length_singleton] at hl
        have h1 := ih l0 (by omega)
        rw [nv_snoc, ← tot_congr (fun p hp => qs_put (N := N) (l := l0) (x := x) p hp)]
        unfold ptn
        by_cases hP : Plc N x.at_
        · rw [if_pos hP, if_pos hP]
          have h2 := tot_upd (Q := qs l0) hP.lt (qs l0 x.at_.toNat ++ [x])
          rw [List.length_append, List.length_singleton] at h2
          omega
        · rw [if_neg hP, if_neg hP]
          exact h1
  exact this _ l rfl
/-- Ahead of one another by place, then by time. -/
def cl (a b : Cg) : Prop := a.at_ < b.at_ ∨ (a.at_ = b.at_ ∧ tl (a.a, a.b, a.c) (b.a, b.b, b.c) = true)
theorem cat_mem {p : Int} {l : List Ms} {c : Cg} (h : c ∈ cat p l) : c.at_ = p ∧ 0 < c.n ∧ c.n = ((l.map tmo).count (c.a, c.b, c.c) : Nat) := by
  unfold cat at h
  obtain ⟨⟨t, n⟩, hx, rfl⟩ := List.mem_map.1 h
  have h1 := ((gct_ok (l.map tmo)).cnt t n).1 hx
  refine ⟨rfl, by show (0 : Int) < ((n : Nat) : Int); omega, ?_⟩
  show ((n : Nat) : Int) = _
  rw [← h1.1]
  rfl
theorem cts_mem {Q : Nat → List Ms} {N : Nat} {c : Cg} (h : c ∈ ctsTo Q N) : ∃ p, p < N ∧ c.at_ = (p : Int) ∧ 0 < c.n ∧ c.n = (((Q p).map tmo).count (c.a, c.b, c.c) : Nat) := by
  induction N with
  | zero => simp [ctsTo] at h
  | succ N ih =>
    rw [ctsTo, List.mem_append] at h
    rcases h with h | h
    · obtain ⟨p, hp, r⟩ := ih h
      exact ⟨p, by omega, r⟩
    · exact ⟨N, by omega, cat_mem h⟩
theorem cts_sorted (Q : Nat → List Ms) : ∀ N, (ctsTo Q N).Pairwise cl := by
  intro N
  induction N with
  | zero => exact List.Pairwise.nil
  | succ N ih =>
    rw [ctsTo]
    refine List.pairwise_append.2 ⟨ih, ?_, fun a ha b hb => ?_⟩
    · unfold cat
      rw [List.pairwise_map]
      exact (gct_ok _).srt.imp (fun h => Or.inr ⟨rfl, h⟩)
    · obtain ⟨p, hp, h1, _⟩ := cts_mem ha
      have h2 := (cat_mem hb).1
      exact Or.inl (by omega)
theorem cts_sum (Q : Nat → List Ms) : ∀ N, ((ctsTo Q N).map Cg.n).sum = (sumTo (fun i => (Q i).length) N : Nat) := by
  intro N
  induction N with
  | zero => rfl
  | succ N ih =>
    rw [ctsTo, List.map_append, List.sum_append, ih, sumTo]
    have : ((cat (N : Int) (Q N)).map Cg.n).sum = ((Q N).length : Nat) := by
      have h := (gct_ok ((Q N).map tmo)).sum
      rw [List.length_map] at h
      rw [← h]
      unfold cat
      rw [List.map_map]
      generalize gct ((Q N).map tmo) = G
      induction G with
      | nil => rfl
      | cons x G ih2 =>
        rw [List.map_cons, List.sum_cons, List.map_cons, List.sum_cons, ih2]
        show ((x.2 : Nat) : Int) + _ = _
        omega
    rw [this]
    omega
/-- How many stand at one stamp. -/
def hm (l : List Ms) (p : Int) (t : Tq) : Nat := (l.filter fun m => decide (m.at_ = p ∧ tmo m = t)).length
theorem hm_le (l : List Ms) (p : Int) (t : Tq) : hm l p t ≤ l.length := List.length_filter_le _ _
theorem hm_next {l : List Ms} {i : Nat} {x : Ms} (h : l[i]? = some x) (p : Int) (t : Tq) : hm (l.take (i + 1)) p t = hm (l.take i) p t + (if x.at_ = p ∧ tmo x = t then 1 else 0) := by
  obtain ⟨hi, rfl⟩ := List.getElem?_eq_some_iff.1 h
  unfold hm
  rw [List.take_succ_eq_append_getElem hi, List.filter_append, List.length_append, List.filter_cons, List.filter_nil]
  by_cases h : l[i].at_ = p ∧ tmo l[i] = t <;> simp [h]
theorem hm_count (l : List Ms) (p : Nat) (t : Tq) : ((qs l p).map tmo).count t = hm l (p : Int) t := by
  unfold qs hm
  induction l with
  | nil => rfl
  | cons x l ih =>
    rw [List.filter_cons, List.filter_cons]
    by_cases h1 : x.at_ = (p : Int)
    · rw [if_pos (by simp [h1]), List.map_cons, List.count_cons, ih]
      by_cases h2 : tmo x = t
      · rw [if_pos (show decide (x.at_ = (p : Int) ∧ tmo x = t) = true from decide_eq_true ⟨h1, h2⟩), List.length_cons]
        rw [if_pos (by rw [h2]; exact beq_self_eq_true _)]
      · rw [if_neg (show ¬ decide (x.at_ = (p : Int) ∧ tmo x = t) = true from fun h => h2 (of_decide_eq_true h).2)]
        rw [if_neg (fun h => h2 (eq_of_beq h)), Nat.add_zero]
    · rw [if_neg (by simp [h1]), if_neg (by simp [h1]), ih]
end Go.Proofs.Ytaaobchodbnkpaa.Qe
