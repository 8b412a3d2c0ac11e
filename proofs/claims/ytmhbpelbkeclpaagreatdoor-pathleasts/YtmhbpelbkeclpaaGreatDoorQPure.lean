import Derived.Test.YtmhbpelbkeclpaaGreatDoorRef6
namespace Go.Proofs.YtmhbpelbkeclpaaGreatDoor
open Go.RowKit Go.Shelf Go.Lib
open Go.Sort hiding Below

/-- What the document's Least holds behind k of the list. -/
structure RL (ts out : List T3) (k : Nat) : Prop where
  nd : out.Nodup
  mem : ∀ x, x ∈ out ↔ x ∈ ts.take k ∧ lst ts x = true
  len : out.length ≤ k
theorem RL.zero (ts : List T3) : RL ts [] 0 := ⟨List.nodup_nil, fun x => by simp, Nat.le_refl _⟩
theorem RL.skip {ts out : List T3} {k : Nat} {x : T3} (h : RL ts out k) (hx : ts[k]? = some x) (hs : x ∈ out ∨ lst ts x = false) : RL ts out (k + 1) := by
  refine ⟨h.nd, fun y => ?_, Nat.le_succ_of_le h.len⟩
  rw [h.mem, List.take_add_one, hx, List.mem_append]
  simp only [Option.toList_some, List.mem_singleton]
  constructor
  · exact fun ⟨a, b⟩ => ⟨Or.inl a, b⟩
  · rintro ⟨a | rfl, b⟩
    · exact ⟨a, b⟩
    · rcases hs with hs | hs
      · exact (h.mem y).1 hs
      · rw [hs] at b; cases b
theorem RL.put {ts out : List T3} {k : Nat} {x : T3} (h : RL ts out k) (hx : ts[k]? = some x) (hn : x ∉ out) (hl : lst ts x = true) : RL ts (out ++ [x]) (k + 1) := by
  refine ⟨?_, fun y => ?_, ?_⟩
  · rw [List.nodup_append]
    refine ⟨h.nd, by simp, fun a ha b hb => ?_⟩
    rw [List.mem_singleton] at hb
    subst hb
    exact fun e => hn (by rw [← e]; exact ha)
  · rw [List.mem_append, List.mem_singleton, h.mem, List.take_add_one, hx, List.mem_append]
    simp only [Option.toList_some, List.mem_singleton]
    constructor
    · rintro (⟨a, b⟩ | rfl)
      · exact ⟨Or.inl a, b⟩
      · exact ⟨Or.inr rfl, hl⟩
    · rintro ⟨a | rfl, b⟩
      · exact Or.inl ⟨a, b⟩
      · exact Or.inr rfl
  · have := h.len
    simp
    omega
/-- A list that is put in order by exchanges: the first i stand. -/
structure Xs (out L : List T3) (i : Nat) : Prop where
  len : L.length = out.length
  inj : ∀ (a b : Nat) x, L[a]? = some x → L[b]? = some x → a = b
  mem : ∀ x, x ∈ L ↔ x ∈ out
  srt : ∀ (a b : Nat) x y, a < i → a < b → L[a]? = some x → L[b]? = some y → lt3 x y
theorem Xs.zero {out : List T3} (h : out.Nodup) : Xs out out 0 := by
  refine ⟨rfl, fun a b x ha hb => ?_, fun _ => Iff.rfl, fun a _ _ _ h => absurd h (Nat.not_lt_zero _)⟩
  obtain ⟨ha', ea⟩ := List.getElem?_eq_some_iff.1 ha
  obtain ⟨hb', eb⟩ := List.getElem?_eq_some_iff.1 hb
  rcases Nat.lt_trichotomy a b with hlt | he | hlt
  · exact absurd (ea.trans eb.symm) (List.pairwise_iff_getElem.1 h a b ha' hb' hlt)
  · exact he
  · exact absurd (eb.trans ea.symm) (List.pairwise_iff_getElem.1 h b a hb' ha' hlt)
/-- The i-th is least among those up to j. -/
structure Xj (out L : List T3) (i j : Nat) : Prop extends Xs out L i where
  low : ∀ (b : Nat) x y, i < b → b < j → L[i]? = some x → L[b]? = some y → lt3 x y
theorem Xs.start {out L : List T3} {i : Nat} (h : Xs out L i) : Xj out L i (i + 1) := ⟨h, fun b x y h1 h2 => by omega⟩
theorem Xj.stay {out L : List T3} {i j : Nat} {x y : T3} (h : Xj out L i j) (hij : i < j) (hx : L[i]? = some x) (hy : L[j]? = some y) (hc : ¬ lt3 y x) : Xj out L i (j + 1) := by
  refine ⟨h.toXs, fun b x' y' h1 h2 hx' hy' => ?_⟩
  rcases Nat.lt_succ_iff_lt_or_eq.1 h2 with h3 | rfl
  · exact h.low b x' y' h1 h3 hx' hy'
  · rw [hx] at hx'; cases hx'
    rw [hy] at hy'; cases hy'
    apply Classical.byContradiction
    intro hn
    have e := lt3_total _ _ hc hn
    subst e
    have := h.inj i b y hx hy
    omega
theorem swap_get {L : List T3} {i j : Nat} {x y : T3} (hx : L[i]? = some x) (hy : L[j]? = some y) (a : Nat) : ((L.set i y).set j x)[a]? = if a = j then some x else if a = i then some y else L[a]? := by
  have hi := (List.getElem?_eq_some_iff.1 hx).1
  have hj := (List.getElem?_eq_some_iff.1 hy).1
  rw [List.getElem?_set, List.getElem?_set]
  by_cases h1 : a = j
  · subst h1
    rw [if_pos rfl, if_pos rfl, if_pos (by rw [List.length_set]; exact hj)]
  · rw [if_neg (fun e => h1 e.symm), if_neg h1]
    by_cases h2 : a = i
    · subst h2
      rw [if_pos rfl, if_pos rfl, if_pos hi]
    · rw [if_neg (fun e => h2 e.symm), if_neg h2]
theorem Xj.swap {out L : List T3} {i j : Nat} {x y : T3} (h : Xj out L i j) (hij : i < j) (hx : L[i]? = some x) (hy : L[j]? = some y) (hc : lt3 y x) : Xj out ((L.set i y).set j x) i (j + 1) := by
  have hg := swap_get hx hy
  have hne : i ≠ j := by omega
  refine ⟨⟨by rw [List.length_set, List.length_set, h.len], fun a b z ha hb => ?_, fun z => ?_, fun a b z u h1 h2 hz hu => ?_⟩, fun b z u h1 h2 hz hu => ?_⟩
  · rw [hg] at ha hb
    have hnot : ∀ c : Nat, c ≠ j → c ≠ i → L[c]? = some x → False := fun c _ h2 e => h2 (h.inj c i x e hx)
    have hnot2 : ∀ c : Nat, c ≠ j → c ≠ i → L[c]? = some y → False := fun c h1 _ e => h1 (h.inj c j y e hy)
    have hxy : x ≠ y := fun e => lt3_irrefl y (by rw [e] at hc; exact hc)
    by_cases a1 : a = j <;> by_cases b1 : b = j <;> by_cases a2 : a = i <;> by_cases b2 : b = i <;> simp only [a1, b1, a2, b2, if_true, if_false] at ha hb
    all_goals first
      | omega
      | (exfalso; simp_all; done)
      | (cases ha; exact (hnot _ b1 b2 hb).elim)
      | (cases ha; exact (hnot2 _ b1 b2 hb).elim)
      | (cases hb; exact (hnot _ a1 a2 ha).elim)
      | (cases hb; exact (hnot2 _ a1 a2 ha).elim)
      | (rw [if_neg a1, if_neg a2] at ha; rw [if_neg b1, if_neg b2] at hb; exact h.inj a b z ha hb)
      | exact h.inj a b z ha hb
  · rw [← h.mem z]
    constructor
    · intro hm
      obtain ⟨a, ha⟩ := List.getElem?_of_mem hm
      rw [hg] at ha
      split at ha
      · cases ha; exact List.mem_of_getElem? hx
      · split at ha
        · cases ha; exact List.mem_of_getElem? hy
        · exact List.mem_of_getElem? ha
    · intro hm
      obtain ⟨a, ha⟩ := List.getElem?_of_mem hm
      by_cases h1 : a = i
      · subst h1
        rw [hx] at ha; cases ha
        exact List.mem_of_getElem? (i := j) (by rw [hg, if_pos rfl])
      · by_cases h2 : a = j
        · subst h2
          rw [hy] at ha; cases ha
          exact List.mem_of_getElem? (i := i) (by rw [hg, if_neg hne, if_pos rfl])
        · exact List.mem_of_getElem? (i := a) (by rw [hg, if_neg h2, if_neg h1]; exact ha)
  · rw [hg, if_neg (by omega), if_neg (by omega)] at hz
    rw [hg] at hu
    split at hu
    · cases hu; exact h.srt a i z x h1 (by omega) hz hx
    · split at hu
      · cases hu; exact h.srt a j z y h1 (by omega) hz hy
      · exact h.srt a b z u h1 h2 hz hu
  · rw [hg, if_neg hne, if_pos rfl] at hz
    cases hz
    rw [hg] at hu
    by_cases hbj : b = j
    · rw [if_pos hbj] at hu
      cases hu
      exact hc
    · rw [if_neg hbj, if_neg (by omega)] at hu
      exact lt3_trans hc (h.low b x u h1 (by omega) hx hu)
theorem Xj.next {out L : List T3} {i j : Nat} (h : Xj out L i j) (hj : ¬ j < out.length) : Xs out L (i + 1) := by
  refine ⟨h.len, h.inj, h.mem, fun a b x y h1 h2 hx hy => ?_⟩
  rcases Nat.lt_succ_iff_lt_or_eq.1 h1 with h3 | rfl
  · exact h.srt a b x y h3 h2 hx hy
  · have := (List.getElem?_eq_some_iff.1 hy).1
    have := h.len
    exact h.low b x y h2 (by omega) hx hy
theorem Xs.done {ts out L : List T3} {i k : Nat} (h : Xs out L i) (hi : ¬ i < out.length) (hr : RL ts out k) (hk : ¬ k < ts.length) : L = tfront ts := by
  refine rise_unique ?_ (tfront_rise ts) fun x => ?_
  · rw [List.pairwise_iff_getElem]
    intro a b ha hb hab
    have := h.len
    exact h.srt a b _ _ (by omega) hab (List.getElem?_eq_getElem ha) (List.getElem?_eq_getElem hb)
  · rw [h.mem, hr.mem, tfront_mem, List.take_of_length_le (by omega), lst_iff]
end Go.Proofs.YtmhbpelbkeclpaaGreatDoor
