import Derived.Test.YtknejahmjfgmhabGreatDoorPTexts
namespace Go.Proofs.YtknejahmjfgmhabGreatDoor
open Go.RowKit Go.Shelf Go.Lib

/-- One byte of the scan: the part's number, and the digits of the three parts. -/
def sc2 : Option (Nat × List UInt8 × List UInt8 × List UInt8) → UInt8 → Option (Nat × List UInt8 × List UInt8 × List UInt8)
  | none, _ => none
  | some (k, A, B, C), ch =>
    if 48 ≤ ch.toNat ∧ ch.toNat ≤ 57 then
      (if k = 0 then some (0, A ++ [ch], B, C) else if k = 1 then some (1, A, B ++ [ch], C) else some (k, A, B, C ++ [ch]))
    else if ch = 44 ∧ k < 2 then some (k + 1, A, B, C)
    else if ch = 43 then some (k, A, B, C) else none
theorem sc2_none (l : List UInt8) : l.foldl sc2 none = none := by
  induction l with
  | nil => rfl
  | cons x l ih => exact ih
/-- All are digits. -/
def Digs (l : List UInt8) : Prop := ∀ c ∈ l, 48 ≤ c.toNat ∧ c.toNat ≤ 57
theorem digs_dec (u : Nat) : Digs (decDigits u) := fun c hc => dec_digit u c hc
theorem sc2_d0 (l : List UInt8) (h : Digs l) (A B C : List UInt8) : l.foldl sc2 (some (0, A, B, C)) = some (0, A ++ l, B, C) := by
  induction l generalizing A with
  | nil => simp
  | cons x l ih =>
    have hx := h x (by simp)
    rw [List.foldl_cons, show sc2 (some (0, A, B, C)) x = some (0, A ++ [x], B, C) by simp [sc2, hx], ih (fun c hc => h c (by simp [hc]))]
    simp
theorem sc2_d1 (l : List UInt8) (h : Digs l) (A B C : List UInt8) : l.foldl sc2 (some (1, A, B, C)) = some (1, A, B ++ l, C) := by
  induction l generalizing B with
  | nil => simp
  | cons x l ih =>
    have hx := h x (by simp)
    rw [List.foldl_cons, show sc2 (some (1, A, B, C)) x = some (1, A, B ++ [x], C) by simp [sc2, hx], ih (fun c hc => h c (by simp [hc]))]
    simp
theorem sc2_d2 (l : List UInt8) (h : Digs l) (A B C : List UInt8) : l.foldl sc2 (some (2, A, B, C)) = some (2, A, B, C ++ l) := by
  induction l generalizing C with
  | nil => simp
  | cons x l ih =>
    have hx := h x (by simp)
    rw [List.foldl_cons, show sc2 (some (2, A, B, C)) x = some (2, A, B, C ++ [x]) by simp [sc2, hx], ih (fun c hc => h c (by simp [hc]))]
    simp
theorem sc2_com (k : Nat) (hk : k < 2) (A B C : List UInt8) : sc2 (some (k, A, B, C)) 44 = some (k + 1, A, B, C) := by
  simp [sc2, hk]
theorem sc2_plus (k : Nat) (A B C : List UInt8) : sc2 (some (k, A, B, C)) 43 = some (k, A, B, C) := by
  simp [sc2]
/-- The number that digits tell. -/
def dnum (l : List UInt8) : Nat := l.foldl (fun n c => 10 * n + (c.toNat - 48)) 0
theorem dnum_snoc (l : List UInt8) (c : UInt8) : dnum (l ++ [c]) = 10 * dnum l + (c.toNat - 48) := by simp [dnum]
theorem dnum_dec (m : Nat) : dnum (decDigits m) = m := by
  induction m using Nat.strongRecOn with
  | _ m ih =>
    by_cases h : m < 10
    · rw [dec_small h]
      simp only [dnum, List.foldl_cons, List.foldl_nil]
      rw [UInt8.toNat_ofNat']; omega
    · rw [dec_big h, dnum_snoc, ih _ (by omega), UInt8.toNat_ofNat']; omega
theorem sc2_text {l : List UInt8} {n u v x : Nat} (h1 : 1 ≤ n) (h3 : n ≤ 3) (h : IsPText l n u v x) : ∃ k A B C, l.foldl sc2 (some (0, [], [], [])) = some (k, A, B, C) ∧ dnum A = u ∧ dnum B = v ∧ dnum C = x := by
  have hd : ∀ u, swp 46 44 (decDigits u) = decDigits u := fun u => swp_none (dec_nopt u)
  have hc : ∀ l : List UInt8, swp 46 44 (46 :: l) = 44 :: swp 46 44 l := fun l => rfl
  have hn : n = 1 ∨ n = 2 ∨ n = 3 := by omega
  rw [h.ht]
  rcases hn with rfl | rfl | rfl
  · have hv := h.h2 (by decide); have hx := h.h3 (by decide)
    subst hv hx
    refine ⟨0, decDigits u, [], [], ?_, dnum_dec u, rfl, rfl⟩
    simp only [ptext, ttext, List.foldl_cons, sc2_plus]
    simp [hd, sc2_d0 _ (digs_dec u)]
  · have hx := h.h3 (by decide)
    subst hx
    refine ⟨1, decDigits u, decDigits v, [], ?_, dnum_dec u, dnum_dec v, rfl⟩
    simp only [ptext, ttext, List.foldl_cons, sc2_plus]
    simp [swp_append, hd, hc, sc2_d0 _ (digs_dec u), sc2_com, sc2_d1 _ (digs_dec v)]
  · refine ⟨2, decDigits u, decDigits v, decDigits x, ?_, dnum_dec u, dnum_dec v, dnum_dec x⟩
    simp only [ptext, ttext, List.foldl_cons, sc2_plus]
    simp [swp_append, hd, hc, sc2_d0 _ (digs_dec u), sc2_com, sc2_d1 _ (digs_dec v), sc2_d2 _ (digs_dec x)]
theorem noPText_scan {l : List UInt8} {n j : Nat} (h1 : 1 ≤ n) (h3 : n ≤ 3) (h : (l.take j).foldl sc2 (some (0, [], [], [])) = none) (u v x : Nat) : ¬ IsPText l n u v x := fun ht => by
  obtain ⟨k, A, B, C, e, _⟩ := sc2_text h1 h3 ht
  rw [← List.take_append_drop j l, List.foldl_append, h, sc2_none] at e
  cases e
theorem sc2_step {k k' : Nat} {A B C A' B' C' : List UInt8} {ch : UInt8} (a : Digs A) (b : Digs B) (c : Digs C) (hk : k ≤ 2) (h : sc2 (some (k, A, B, C)) ch = some (k', A', B', C')) :
    Digs A' ∧ Digs B' ∧ Digs C' ∧ A'.length + B'.length + C'.length ≤ A.length + B.length + C.length + 1 ∧ k' ≤ 2 := by
  have snoc : ∀ {L : List UInt8}, Digs L → (48 ≤ ch.toNat ∧ ch.toNat ≤ 57) → Digs (L ++ [ch]) := fun hL hc d hd => by
    rcases List.mem_append.1 hd with h | h
    · exact hL d h
    · rw [List.mem_singleton.1 h]; exact hc
  rw [sc2] at h
  split at h
  · rename_i hc
    split at h
    · cases h; exact ⟨snoc a hc, b, c, by simp; omega, by omega⟩
    · split at h
      · cases h; exact ⟨a, snoc b hc, c, by simp; omega, by omega⟩
      · cases h; exact ⟨a, b, snoc c hc, by simp; omega, by omega⟩
  · split at h
    · rename_i h2; cases h; exact ⟨a, b, c, by omega, by omega⟩
    · split at h
      · cases h; exact ⟨a, b, c, by omega, by omega⟩
      · cases h
theorem sc2_inv (l : List UInt8) : ∀ {k k' : Nat} {A B C A' B' C' : List UInt8}, Digs A → Digs B → Digs C → k ≤ 2 → l.foldl sc2 (some (k, A, B, C)) = some (k', A', B', C') →
    Digs A' ∧ Digs B' ∧ Digs C' ∧ A'.length + B'.length + C'.length ≤ A.length + B.length + C.length + l.length ∧ k' ≤ 2 := by
  induction l with
  | nil =>
    intro k k' A B C A' B' C' a b c hk h
    cases h
    exact ⟨a, b, c, by simp, hk⟩
  | cons ch l ih =>
    intro k k' A B C A' B' C' a b c hk h
    rw [List.foldl_cons] at h
    cases hs : sc2 (some (k, A, B, C)) ch with
    | none => rw [hs, sc2_none] at h; cases h
    | some q =>
      obtain ⟨k1, A1, B1, C1⟩ := q
      obtain ⟨a1, b1, c1, hl, hk1⟩ := sc2_step a b c hk hs
      rw [hs] at h
      obtain ⟨a2, b2, c2, hl2, hk2⟩ := ih a1 b1 c1 hk1 h
      exact ⟨a2, b2, c2, by simp; omega, hk2⟩
theorem sc2_digs {l : List UInt8} {k : Nat} {A B C : List UInt8} (h : l.foldl sc2 (some (0, [], [], [])) = some (k, A, B, C)) : Digs A ∧ Digs B ∧ Digs C ∧ A.length + B.length + C.length ≤ l.length ∧ k ≤ 2 := by
  have h0 : Digs [] := fun c hc => by cases hc
  obtain ⟨a, b, c, hl, hk⟩ := sc2_inv l h0 h0 h0 (by omega) h
  exact ⟨a, b, c, by simpa using hl, hk⟩
end Go.Proofs.YtknejahmjfgmhabGreatDoor
