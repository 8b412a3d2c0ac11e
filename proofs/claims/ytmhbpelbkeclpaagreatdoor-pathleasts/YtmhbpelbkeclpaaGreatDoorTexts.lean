import Derived.Test.YtmhbpelbkeclpaaGreatDoorSplit
import Derived.Test.YtmhbpelbkeclpaaGreatDoorNum
namespace Go.Proofs.YtmhbpelbkeclpaaGreatDoor
open Go.RowKit Go.Shelf Go.Lib

/-- Joined by points. -/
def joinP : List (List UInt8) → List UInt8
  | [] => []
  | [p] => p
  | p :: q :: r => p ++ 46 :: joinP (q :: r)
theorem ext_list (x : ByteArray) (a b : Nat) : (x.extract a b).data.toList = (x.data.toList.drop a).take (b - a) := by
  rw [ByteArray.data_extract, Array.toList_extract]
theorem pt_none {s : ByteArray} (h : pt s < 0) : 46 ∉ s.data.toList := by
  have h1 := Lib.indexByte_ge s.data.toList 46
  have h2 : Lib.indexByte s.data.toList 46 = -1 := by unfold pt at h; omega
  intro hm
  obtain ⟨k, hk⟩ := List.getElem?_of_mem hm
  exact Lib.indexByte_none h2 k hk
theorem spl_ne (k : Nat) (s : ByteArray) : ∃ p r, spl k s = p :: r := by
  cases k with
  | zero => exact ⟨_, _, rfl⟩
  | succ k => rw [spl]; split <;> exact ⟨_, _, rfl⟩
theorem spl_join (k : Nat) (s : ByteArray) : joinP ((spl k s).map (·.data.toList)) = s.data.toList := by
  induction k generalizing s with
  | zero => rfl
  | succ k ih =>
    rcases pt_cases s with h | ⟨i, h, hi⟩
    · rw [spl_miss _ _ (by omega)]; rfl
    · rw [spl_hit k s i h]
      obtain ⟨p, r, hpr⟩ := spl_ne k (s.extract (i + 1) s.size)
      have h1 := ih (s.extract (i + 1) s.size)
      rw [hpr] at h1 ⊢
      rw [List.map_cons, List.map_cons, joinP]
      rw [List.map_cons] at h1
      rw [h1, ext_list, ext_list]
      have h2 := (Lib.indexByte_some (show Lib.indexByte s.data.toList 46 = (i : Nat) from h)).1
      have hlen : s.data.toList.length = s.size := by simp
      have h3 : s.data.toList.drop i = 46 :: s.data.toList.drop (i + 1) := by
        rw [List.drop_eq_getElem_cons (by omega)]
        congr 1
        have := List.getElem?_eq_getElem (l := s.data.toList) (i := i) (by omega)
        rw [this] at h2
        exact Option.some.inj h2
      have h4 : (s.data.toList.drop (i + 1)).take (s.size - (i + 1)) = s.data.toList.drop (i + 1) := List.take_of_length_le (by rw [List.length_drop]; omega)
      rw [h4, ← h3, List.drop_zero, Nat.sub_zero]
      exact List.take_append_drop i _
/-- What is joined out of pieces without a point is cut into them. -/
theorem spl_of (ps : List (List UInt8)) (hp : ∀ p ∈ ps, (46 : UInt8) ∉ p) (hne : ps ≠ []) (k : Nat) (hk : ps.length ≤ k + 1) (s : ByteArray) (hs : s.data.toList = joinP ps) : (spl k s).map (·.data.toList) = ps := by
  induction ps generalizing k s with
  | nil => exact absurd rfl hne
  | cons p r ih =>
    cases r with
    | nil =>
      have hs' : s.data.toList = p := hs
      have hno : pt s < 0 := by
        rcases pt_cases s with h | ⟨i, h, hi⟩
        · omega
        · exfalso
          have h2 := (Lib.indexByte_some (show Lib.indexByte s.data.toList 46 = (i : Nat) from h)).1
          rw [hs'] at h2
          exact hp p (by simp) (List.mem_of_getElem? h2)
      rw [spl_miss _ _ hno]
      simp [hs']
    | cons q r =>
      cases k with
      | zero => simp at hk
      | succ k =>
        have hs' : s.data.toList = p ++ 46 :: joinP (q :: r) := hs
        have hlen : s.data.toList.length = s.size := by simp
        have hat : s.data.toList[p.length]? = some 46 := by rw [hs']; simp
        have hpt : pt s = (p.length : Nat) := by
          rcases pt_cases s with h | ⟨i, h, hi⟩
          · exfalso
            exact Lib.indexByte_none (show Lib.indexByte s.data.toList 46 = -1 from h) p.length hat
          · have h2 := Lib.indexByte_some (show Lib.indexByte s.data.toList 46 = (i : Nat) from h)
            rw [h]
            by_cases h3 : i < p.length
            · exfalso
              have h4 := h2.1
              rw [hs', List.getElem?_append_left h3] at h4
              exact hp p (by simp) (List.mem_of_getElem? h4)
            · by_cases h5 : p.length < i
              · exact absurd hat (h2.2 p.length h5)
              · congr 1; omega
        rw [spl_hit k s p.length hpt, List.map_cons]
        have e1 : (s.extract 0 p.length).data.toList = p := by
          rw [ext_list, hs']; simp
        have e2 : (s.extract (p.length + 1) s.size).data.toList = joinP (q :: r) := by
          rw [ext_list]
          have h6 : s.data.toList.drop (p.length + 1) = joinP (q :: r) := by
            rw [hs', List.drop_append, List.drop_of_length_le (by omega)]; simp
          rw [List.take_of_length_le (by rw [List.length_drop]; omega), h6]
        rw [e1, ih (fun x hx => hp x (by simp [hx])) (by simp) k (by simp at hk ⊢; omega) _ e2]

/-- The text of a time, for an arity. -/
def ttext (u v x : Nat) (n : Int) : List UInt8 :=
  if n = 1 then decDigits u else if n = 2 then decDigits u ++ 46 :: decDigits v else decDigits u ++ 46 :: (decDigits v ++ 46 :: decDigits x)
/-- These bytes are the text of that time. -/
structure IsText (l : List UInt8) (n : Int) (u v x : Nat) : Prop where
  hu : u < 18446744073709551616
  hv : v < 18446744073709551616
  hx : x < 18446744073709551616
  h2 : n < 2 → v = 0
  h3 : n < 3 → x = 0
  ht : l = ttext u v x n
theorem dec_nopt (u : Nat) : (46 : UInt8) ∉ decDigits u := fun h => by
  have := dec_digit u 46 h
  simp at this
theorem text_parts (u v x : Nat) (n : Nat) (h1 : 1 ≤ n) (h3 : n ≤ 3) : ttext u v x n = joinP ([decDigits u, decDigits v, decDigits x].take n) := by
  have : n = 1 ∨ n = 2 ∨ n = 3 := by omega
  rcases this with rfl | rfl | rfl <;> simp [ttext, joinP]
/-- A text's pieces. -/
theorem split_text (l : ByteArray) (u v x : Nat) (n : Nat) (h1 : 1 ≤ n) (h3 : n ≤ 3) (hl : l.data.toList = ttext u v x n) (N : Nat) (hN : N = min (n + 1) (l.size + 1)) : (spl (N - 1) l).map (·.data.toList) = [decDigits u, decDigits v, decDigits x].take n := by
  have hnn : ∀ p ∈ [decDigits u, decDigits v, decDigits x].take n, (46 : UInt8) ∉ p := by
    intro p hp
    have hp' := List.mem_of_mem_take hp
    simp at hp'
    rcases hp' with rfl | rfl | rfl <;> exact dec_nopt _
  have hln : ([decDigits u, decDigits v, decDigits x].take n).length = n := by simp; omega
  refine spl_of _ hnn (fun e => by rw [e] at hln; simp at hln; omega) (N - 1) ?_ l (by rw [hl]; exact text_parts u v x n h1 h3)
  rw [hln]
  have hsz : l.data.toList.length = l.size := by simp
  have d1 : 1 ≤ (decDigits u).length := List.length_pos_iff.2 (dec_ne u)
  have d2 : 1 ≤ (decDigits v).length := List.length_pos_iff.2 (dec_ne v)
  have : n = 1 ∨ n = 2 ∨ n = 3 := by omega
  rcases this with rfl | rfl | rfl
  · rw [hl] at hsz; simp [ttext] at hsz; omega
  · rw [hl] at hsz; simp [ttext] at hsz; omega
  · rw [hl] at hsz; simp [ttext] at hsz; omega
theorem text_unique {l : ByteArray} {n : Nat} (h1 : 1 ≤ n) (h3 : n ≤ 3) {u v x u' v' x' : Nat} (h : IsText l.data.toList n u v x) (k : IsText l.data.toList n u' v' x') : u = u' ∧ v = v' ∧ x = x' := by
  have e1 := split_text l u v x n h1 h3 h.ht _ rfl
  have e2 := split_text l u' v' x' n h1 h3 k.ht _ rfl
  rw [e1] at e2
  have : n = 1 ∨ n = 2 ∨ n = 3 := by omega
  rcases this with rfl | rfl | rfl
  · simp at e2
    exact ⟨dec_inj h.hu k.hu e2, by rw [h.h2 (by decide), k.h2 (by decide)], by rw [h.h3 (by decide), k.h3 (by decide)]⟩
  · simp at e2
    exact ⟨dec_inj h.hu k.hu e2.1, dec_inj h.hv k.hv e2.2, by rw [h.h3 (by decide), k.h3 (by decide)]⟩
  · simp at e2
    exact ⟨dec_inj h.hu k.hu e2.1, dec_inj h.hv k.hv e2.2.1, dec_inj h.hx k.hx e2.2.2⟩
end Go.Proofs.YtmhbpelbkeclpaaGreatDoor
