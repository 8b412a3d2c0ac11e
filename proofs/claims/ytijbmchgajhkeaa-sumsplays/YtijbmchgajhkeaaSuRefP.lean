import Derived.Test.YtijbmchgajhkeaaSuRef3
namespace Go.Proofs.Ytijbmchgajhkeaa
open Go.RowKit Go.Sort Go.Maps Go.Shelf

/-- Which records stand ahead of a key. -/
abbrev kp (q : Ku) (r : Rc) : Bool := decide (r.1.1 < q.1)
theorem ah_map {α β : Type} (f : α → β) (p : β → Bool) (l : List α) : ah p (l.map f) = ah (fun a => p (f a)) l := by
  induction l with
  | nil => rfl
  | cons y l ih => rw [List.map_cons, ah, ah, ih]
theorem ah_rcs (A : List Ct) (t : Tm) (q : Ku) : ah (kp q) (rcs A t) = ah (fun k => decide (ltK k q)) (kys A t) := by
  unfold rcs
  rw [ah_map]
  rfl
/-- A key that is there stands where those ahead of it end. -/
theorem ah_mem {l : List Ku} (hl : l.Pairwise ltK) {q : Ku} (h : q ∈ l) : l[ah (fun k => decide (ltK k q)) l]? = some q := by
  induction l with
  | nil => cases h
  | cons y l ih =>
    rw [List.pairwise_cons] at hl
    unfold ah
    rcases List.mem_cons.1 h with rfl | h
    · rw [if_neg (by rw [decide_eq_true_iff]; exact ltK_irr _)]
      rfl
    · rw [if_pos (by rw [decide_eq_true_iff]; exact hl.1 q h)]
      exact ih hl.2 h
theorem rcs_miss {A : List Ct} {t : Tm} {x : Ct} (h : x.1 ≠ t) : rcs (A ++ [x]) t = rcs A t := by
  unfold rcs
  rw [kys_snoc, if_neg h]
  refine List.map_congr_left fun k _ => ?_
  rw [sm_snoc, if_neg fun h' => h h'.1]
theorem rcs_put {A : List Ct} {t : Tm} {x : Ct} (h : x.1 = t) (hn : ∀ r, (rcs A t)[ah (kp x.2.1) (rcs A t)]? = some r → r.1 ≠ x.2.1) :
    rcs (A ++ [x]) t = (rcs A t).take (ah (kp x.2.1) (rcs A t)) ++ x.2 :: (rcs A t).drop (ah (kp x.2.1) (rcs A t)) := by
  have hq : x.2.1 ∉ kys A t := fun hm => by
    have h1 := ah_mem (kys_rise A t) hm
    rw [← ah_rcs] at h1
    refine hn (x.2.1, sm A (t, x.2.1)) ?_ rfl
    show ((kys A t).map _)[_]? = _
    rw [List.getElem?_map, h1]
    rfl
  have hs : sm (A ++ [x]) (t, x.2.1) = x.2.2 := by
    rw [sm_snoc, if_pos ⟨h, rfl⟩, sm_none (fun hh => hq ((mem_kys A t _).2 hh)), addU_zero]
  rw [ah_rcs]
  have e : kys (A ++ [x]) t = (kys A t).take (ah (fun k => decide (ltK k x.2.1)) (kys A t)) ++ x.2.1 :: (kys A t).drop (ah (fun k => decide (ltK k x.2.1)) (kys A t)) := by rw [kys_snoc, if_pos h, if_neg hq, ins_ah]
  have hk : ∀ k ∈ kys A t, (fun k => ((k, sm (A ++ [x]) (t, k)) : Rc)) k = (fun k => ((k, sm A (t, k)) : Rc)) k := fun k hk => by
    show (k, _) = (k, _)
    rw [sm_snoc, if_neg fun h' => hq (by rw [h'.2]; exact hk)]
  show (kys (A ++ [x]) t).map (fun k => ((k, sm (A ++ [x]) (t, k)) : Rc)) = ((kys A t).map (fun k => ((k, sm A (t, k)) : Rc))).take _ ++ x.2 :: ((kys A t).map (fun k => ((k, sm A (t, k)) : Rc))).drop _
  rw [e, List.map_append, List.map_cons, ← List.map_take, ← List.map_drop]
  congr 1
  · exact List.map_congr_left fun k hk' => hk k (List.mem_of_mem_take hk')
  · congr 1
    · show (x.2.1, sm (A ++ [x]) (t, x.2.1)) = x.2
      rw [hs]
    · exact List.map_congr_left fun k hk' => hk k (List.mem_of_mem_drop hk')
theorem rcs_set {A : List Ct} {t : Tm} {x : Ct} {r : Rc} {j : Nat} (h : x.1 = t) (hr : (rcs A t)[j]? = some r) (he : r.1 = x.2.1) :
    rcs (A ++ [x]) t = (rcs A t).set j (r.1, addU r.2 x.2.2) := by
  have hr2 : (kys A t)[j]? = some r.1 ∧ r.2 = sm A (t, r.1) := by
    have h1 : ((kys A t).map (fun k => ((k, sm A (t, k)) : Rc)))[j]? = some r := hr
    rw [List.getElem?_map] at h1
    cases hk : (kys A t)[j]? with
    | none => rw [hk] at h1; cases h1
    | some k =>
      rw [hk] at h1
      have h2 : (k, sm A (t, k)) = r := by simpa using h1
      rw [← h2]
      exact ⟨rfl, rfl⟩
  have hq : x.2.1 ∈ kys A t := by rw [← he]; exact List.mem_of_getElem? hr2.1
  have e : kys (A ++ [x]) t = kys A t := by rw [kys_snoc, if_pos h, if_pos hq]
  show (kys (A ++ [x]) t).map (fun k => ((k, sm (A ++ [x]) (t, k)) : Rc)) = ((kys A t).map (fun k => ((k, sm A (t, k)) : Rc))).set j _
  rw [e]
  refine List.ext_getElem? fun i => ?_
  rw [List.getElem?_map, List.getElem?_set, List.getElem?_map]
  by_cases hij : j = i
  · subst hij
    have hlt := (List.getElem?_eq_some_iff.1 hr2.1).1
    rw [if_pos rfl, if_pos (by rw [List.length_map]; exact hlt), hr2.1]
    show some (r.1, sm (A ++ [x]) (t, r.1)) = _
    rw [sm_snoc, if_pos ⟨h, he.symm⟩, ← hr2.2]
  · rw [if_neg hij]
    cases hk : (kys A t)[i]? with
    | none => rfl
    | some k =>
      show some (k, sm (A ++ [x]) (t, k)) = some (k, sm A (t, k))
      rw [sm_snoc, if_neg fun h' => ?_]
      refine hij ?_
      have h1 : (kys A t)[j]? = some k := by rw [hr2.1, he, h'.2]
      obtain ⟨l1, e1⟩ := List.getElem?_eq_some_iff.1 h1
      obtain ⟨l2, e2⟩ := List.getElem?_eq_some_iff.1 hk
      rcases Nat.lt_trichotomy j i with hl | hl | hl
      · have := List.pairwise_iff_getElem.1 (kys_rise A t) j i l1 l2 hl
        rw [e1, e2] at this
        exact absurd this (ltK_irr k)
      · exact hl
      · have := List.pairwise_iff_getElem.1 (kys_rise A t) i j l2 l1 hl
        rw [e1, e2] at this
        exact absurd this (ltK_irr k)
end Go.Proofs.Ytijbmchgajhkeaa
