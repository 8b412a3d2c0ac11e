import Derived.Test.YtghpekkncfckaaaLFam
namespace Go.Proofs.Ytghpekkncfckaaa
open Go.RowKit Go.Sort

section
variable {α : Type} (E : El α) (e eS : TypeId) (mk : Nat → α) (d : Nat)
/-- Behind k lists that were grown. -/
structure Grw (w2 : World) (N : Nat) (V : Nat → Value) (n : Nat → Nat) (W : World) (k : Nat) (X : Nat → Value) (s : Value) : Prop where
  big : ∀ i, i < k → Ls E W (X i) (List.replicate (n i + d) (mk i))
  old : ∀ i, i < k → Ls E W (V i) (List.replicate (n i) (mk i))
  rest : ∀ i, k ≤ i → i < N → W.ownsRow 0 e E.k (V i) (n i) (fl E (List.replicate (n i) (mk i)))
  lie : ∀ i, i < k → ∀ g, (X i).ownBlock = some g → (V i).ownBlock = some g ∨ w2.heap.size ≤ g
  more : W.ownsRow w2.heap.size eS 1 s k ((List.range k).map X)
  mfar : ∀ g, s.ownBlock = some g → ∀ i, i < k → (X i).ownBlock ≠ some g
  kp : Kp (fun q => ∃ i, i < N ∧ (V i).ownBlock = some q) w2 W

variable {E e eS mk d}
theorem Grw.step {w2 : World} {N : Nat} {V : Nat → Value} {n : Nat → Nat} {W W1 W3 : World} {k : Nat} {X : Nat → Value} {s s' x : Value} (h : Grw E e eS mk d w2 N V n W k X s) (hk : k < N)
    (hfar : ∀ i j, i < N → j < N → i ≠ j → ∀ g, (V i).ownBlock = some g → (V j).ownBlock ≠ some g) (hlow : ∀ i, i < N → ∀ g, (V i).ownBlock = some g → g < w2.heap.size)
    (hx : Ls E W1 x (List.replicate (n k + d) (mk k))) (hxl : ∀ g, x.ownBlock = some g → (V k).ownBlock = some g ∨ W.heap.size ≤ g) (hV : Ls E W1 (V k) (List.replicate (n k) (mk k))) (h1 : Kp (fun q => (V k).ownBlock = some q) W W1)
    (hm : W3.ownsRow w2.heap.size eS 1 s' (k + 1) ((List.range k).map X ++ [x])) (h3 : Kp (fun q => s.ownBlock = some q) W1 W3) (hs : ∀ g, s'.ownBlock = some g → s.ownBlock = some g ∨ W1.heap.size ≤ g) :
    Grw E e eS mk d w2 N V n W3 (k + 1) (fun i => if i = k then x else X i) s' := by
  have hsl : ∀ g, s.ownBlock = some g → w2.heap.size ≤ g ∧ g < W.heap.size := fun g hg => h.more.lt g hg
  have hVs : ∀ i, i < N → ∀ q, (V i).ownBlock = some q → ¬ s.ownBlock = some q := fun i hi q hq e => by have := (hsl q e).1; have := hlow i hi q hq; omega
  have hXk : ∀ i, i < k → ∀ q, (X i).ownBlock = some q → ¬ (V k).ownBlock = some q := fun i hi q hq e => by
    rcases h.lie i hi q hq with h' | h'
    · exact hfar i k (by omega) hk (by omega) q h' e
    · have := hlow k hk q e; omega
  have hxs : ∀ q, x.ownBlock = some q → ¬ s.ownBlock = some q := fun q hq e => by
    rcases hxl q hq with h' | h'
    · exact hVs k hk q h' e
    · have := (hsl q e).2; omega
  refine ⟨fun i hi => ?_, fun i hi => ?_, fun i hi hiN => ?_, fun i hi g hg => ?_, ?_, fun g hg i hi => ?_, ?_⟩
  · by_cases e : i = k
    · subst e
      rw [if_pos rfl]
      exact h3.ls hx hxs
    · rw [if_neg e]
      exact h3.ls (h1.ls (h.big i (by omega)) (hXk i (by omega))) (fun q hq e' => h.mfar q e' i (by omega) hq)
  · by_cases e : i = k
    · subst e
      exact h3.ls hV (hVs i hk)
    · exact h3.ls (h1.ls (h.old i (by omega)) (fun q hq e' => hfar i k (by omega) hk e q hq e')) (hVs i (by omega))
  · exact owns_kp h3 (owns_kp h1 (h.rest i (by omega) hiN) (fun q hq e' => hfar i k hiN hk (by omega) q hq e')) (hVs i hiN)
  · by_cases e : i = k
    · subst e
      rw [if_pos rfl] at hg
      rcases hxl g hg with h' | h'
      · exact Or.inl h'
      · exact Or.inr (Nat.le_trans h.kp.size h')
    · rw [if_neg e] at hg
      exact h.lie i (by omega) g hg
  · have e : (List.range (k + 1)).map (fun i => if i = k then x else X i) = (List.range k).map X ++ [x] := by
      rw [List.range_succ, List.map_append]
      congr 1
      · refine List.map_congr_left fun i hi => ?_
        rw [if_neg (by have := List.mem_range.1 hi; omega)]
      · simp
    rw [e]
    exact hm
  · intro e
    by_cases ei : i = k
    · subst ei
      rw [if_pos rfl] at e
      rcases hs g hg with h' | h'
      · exact hxs g e h'
      · have := hx.blk g e; omega
    · rw [if_neg ei] at e
      rcases hs g hg with h' | h'
      · exact h.mfar g h' i (by omega) e
      · have := (h.big i (by omega)).blk g e; have := h1.size; omega
  · refine (h.kp.trans h1 (fun q _ e => ⟨k, hk, e⟩)).trans h3 (fun q hq e => ?_)
    have := (hsl q e).1; omega


/-- The row of a list that was grown, as a list. -/
theorem Inn.ls {α : Type} {E : El α} {e : TypeId} {W0 W : World} {v x : Value} {n m : Nat} {a : α} (h : Inn E e W0 v n a W x m) (ho : W0.ownsRow 0 e E.k v n (fl E (List.replicate n a))) : Ls E W x (List.replicate (n + m) a) ∧ Ls E W v (List.replicate n a) := by
  refine ⟨owns_ls (E := E) (by rw [List.length_replicate]; exact h.ox), ?_⟩
  obtain ⟨_, ⟨h0, h1⟩ | ⟨g, cap, cur, hv, _, hgg, _⟩⟩ := id ho
  · subst h1
    exact Or.inl ⟨rfl, h0⟩
  · refine Or.inr ⟨g, 0, cap, by rw [List.length_replicate]; exact hv, Nat.lt_of_lt_of_le (Array.getElem?_eq_some_iff.1 hgg).1 h.kp.size, fun j u hj => ?_⟩
    rw [Nat.zero_add]
    exact h.vk g (by rw [hv]; rfl) j u hj
end
end Go.Proofs.Ytghpekkncfckaaa
