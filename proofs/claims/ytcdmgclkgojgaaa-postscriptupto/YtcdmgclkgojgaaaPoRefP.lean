import Derived.Test.YtcdmgclkgojgaaaPoTagI
namespace Go.Proofs.Ytcdmgclkgojgaaa.Pi
open Go.RowKit Go.Sort

/-- A thing on a link, as the document has it: from, to, what. -/
abbrev Tg := Int × Int × Int
/-- Does number n go there? -/
def hit (f t : Int) (L : List Tg) (n : Nat) : Bool := match L[n]? with
  | some x => decide (x.1 = f ∧ x.2.1 = t)
  | none => false
/-- What is on a link, by the document's list. -/
def vals (f t : Int) (L : List Tg) : List Int := (L.filter fun x => decide (x.1 = f ∧ x.2.1 = t)).map fun x => x.2.2
/-- Its places among the first n. -/
def ons (f t : Int) (L : List Tg) : Nat → List Nat
  | 0 => []
  | n + 1 => ons f t L n ++ (if hit f t L n then [n] else [])
theorem ons_lt (f t : Int) (L : List Tg) : ∀ n, ∀ i ∈ ons f t L n, i < n ∧ hit f t L i = true := by
  intro n
  induction n with
  | zero => intro i hi; simp [ons] at hi
  | succ n ih =>
    intro i hi
    rw [ons, List.mem_append] at hi
    rcases hi with hi | hi
    · have := ih i hi; exact ⟨by omega, this.2⟩
    · split at hi
      · rename_i h; simp at hi; subst hi; exact ⟨by omega, h⟩
      · simp at hi
theorem vals_take_succ (f t : Int) (L : List Tg) (n : Nat) (hn : n < L.length) : vals f t (L.take (n + 1)) = vals f t (L.take n) ++ (if hit f t L n then [(L[n]).2.2] else []) := by
  unfold vals hit
  rw [List.take_add_one, List.getElem?_eq_getElem hn]
  simp only [Option.toList_some, List.filter_append, List.map_append]
  by_cases h : L[n].1 = f ∧ L[n].2.1 = t
  · simp [h]
  · simp [h]
theorem ons_vals (f t : Int) (L : List Tg) : ∀ n, n ≤ L.length → (ons f t L n).map (fun i => ((L[i]?).getD (0, 0, 0)).2.2) = vals f t (L.take n) := by
  intro n
  induction n with
  | zero => intro _; simp [ons, vals]
  | succ n ih =>
    intro hn
    rw [ons, List.map_append, ih (by omega), vals_take_succ f t L n (by omega)]
    congr 1
    split
    · simp [List.getElem?_eq_getElem (show n < L.length by omega)]
    · rfl
theorem ons_all (f t : Int) (L : List Tg) : (ons f t L L.length).map (fun i => ((L[i]?).getD (0, 0, 0)).2.2) = vals f t L := by
  rw [ons_vals f t L _ (Nat.le_refl _), List.take_of_length_le (Nat.le_refl _)]
theorem ons_length (f t : Int) (L : List Tg) : (ons f t L L.length).length = (vals f t L).length := by rw [← ons_all, List.length_map]
theorem ons_le (f t : Int) (L : List Tg) (n : Nat) : (ons f t L n).length ≤ n := by
  induction n with
  | zero => simp [ons]
  | succ n ih =>
    rw [ons, List.length_append]
    split <;> simp <;> omega
/-- The value at the i-th place. -/
theorem ons_get {f t : Int} {L : List Tg} {i j : Nat} (h : (ons f t L L.length)[i]? = some j) : ∃ x, L[j]? = some x ∧ (vals f t L)[i]? = some x.2.2 ∧ x.1 = f ∧ x.2.1 = t := by
  have hm := List.mem_of_getElem? h
  obtain ⟨h1, h2⟩ := ons_lt f t L _ j hm
  refine ⟨L[j], List.getElem?_eq_getElem h1, ?_, ?_⟩
  · rw [← ons_all, List.getElem?_map, h]
    simp [List.getElem?_eq_getElem h1]
  · unfold hit at h2
    rw [List.getElem?_eq_getElem h1] at h2
    simpa using h2
/-- The first one of a link is taken out. -/
theorem first_out {f t : Int} {L : List Tg} {j : Nat} (h : (ons f t L L.length)[0]? = some j) (f' t' : Int) : vals f' t' (L.take j ++ L.drop (j + 1)) = if f' = f ∧ t' = t then (vals f t L).tail else vals f' t' L := by
  obtain ⟨x, hx, hv, h1, h2⟩ := ons_get h
  obtain ⟨hj, rfl⟩ := List.getElem?_eq_some_iff.1 hx
  have hsplit : L = L.take j ++ L[j] :: L.drop (j + 1) := by
    rw [← List.drop_eq_getElem_cons hj, List.take_append_drop]
  have hap : ∀ (f t : Int) (a b : List Tg), vals f t (a ++ b) = vals f t a ++ vals f t b := fun f t a b => by unfold vals; rw [List.filter_append, List.map_append]
  have hcons : ∀ (f t : Int) (a : Tg) (b : List Tg), vals f t (a :: b) = (if a.1 = f ∧ a.2.1 = t then [a.2.2] else []) ++ vals f t b := fun f t a b => by
    unfold vals
    by_cases h : a.1 = f ∧ a.2.1 = t
    · simp [h]
    · simp [h]
  by_cases e : f' = f ∧ t' = t
  · rw [if_pos e, e.1, e.2]
    have hz : vals f t (L.take j) = [] := by
      rw [← ons_vals f t L j (by omega)]
      cases ho : ons f t L j with
      | nil => rfl
      | cons q l =>
        exfalso
        have hpre : ∀ n, j ≤ n → ∃ l', ons f t L n = q :: l' := by
          intro n hn
          induction n with
          | zero => have : j = 0 := by omega
                    subst this; exact ⟨l, ho⟩
          | succ n ih =>
            by_cases hjn : j = n + 1
            · subst hjn; exact ⟨l, ho⟩
            · obtain ⟨l', hl'⟩ := ih (by omega)
              rw [ons, hl']
              exact ⟨_, rfl⟩
        obtain ⟨l', hl'⟩ := hpre L.length (by omega)
        rw [hl'] at h
        simp at h
        have := (ons_lt f t L j q (by rw [ho]; exact List.mem_cons_self)).1
        omega
    conv => rhs; rw [hsplit, hap, hcons, hz, if_pos ⟨h1, h2⟩]
    rw [hap, hz]
    rfl
  · rw [if_neg e]
    conv => rhs; rw [hsplit, hap, hcons]
    rw [hap, if_neg (fun h => e ⟨h.1.symm.trans h1, h.2.symm.trans h2⟩)]
    rfl
/-- The post and the document's list say the same. -/
structure Rel (W : Nat) (Q : Nat → List Int) (L : List Tg) : Prop where
  lk : ∀ x ∈ L, Lnk W x.1 x.2.1
  q : ∀ f t, Lnk W f t → Q (nm f t) = vals f t L
  n : tot W Q = L.length
theorem vals_none {W : Nat} {f t : Int} {L : List Tg} (h : ∀ x ∈ L, Lnk W x.1 x.2.1) (hn : ¬ Lnk W f t) : vals f t L = [] := by
  unfold vals
  rw [List.map_eq_nil_iff, List.filter_eq_nil_iff]
  intro x hx hd
  rw [decide_eq_true_iff] at hd
  have := h x hx
  rw [hd.1, hd.2] at this
  exact hn this
theorem Rel.ln {W : Nat} {Q : Nat → List Int} {L : List Tg} (h : Rel W Q L) (f t : Int) : ln W Q f t = (vals f t L).length := by
  unfold Pi.ln
  by_cases hk : Lnk W f t
  · rw [if_pos hk, h.q f t hk]
  · rw [if_neg hk, vals_none h.lk hk]; rfl
theorem Rel.bsy {W : Nat} {Q : Nat → List Int} {L : List Tg} (h : Rel W Q L) : bsy W Q = bsA (fun f t => (vals f t L).length) W W := by
  unfold Pi.bsy
  rw [show (fun f t : Nat => Pi.ln W Q f t) = fun f t : Nat => (vals f t L).length from funext fun f => funext fun t => h.ln f t]
theorem Rel.nil (W : Nat) (h8 : W ≤ 8) : Rel W (fun _ => []) [] := ⟨fun _ h => (by simp at h), fun _ _ _ => rfl, tot_nil h8 (fun _ _ => rfl)⟩
theorem Rel.put {W : Nat} {Q : Nat → List Int} {L : List Tg} (h : Rel W Q L) (h8 : W ≤ 8) {f t : Int} (hk : Lnk W f t) (x : Int) : Rel W (ptn W Q f t x) (L ++ [(f, t, x)]) := by
  refine ⟨fun y hy => ?_, fun f' t' hk' => ?_, by rw [tot_ptn h8 hk, h.n, List.length_append]; rfl⟩
  · rw [List.mem_append] at hy
    rcases hy with hy | hy
    · exact h.lk y hy
    · simp at hy; subst hy; exact hk
  · unfold ptn
    rw [if_pos hk]
    have e : vals f' t' (L ++ [(f, t, x)]) = vals f' t' L ++ (if f = f' ∧ t = t' then [x] else []) := by
      unfold vals
      rw [List.filter_append, List.map_append]
      congr 1
      by_cases h : f = f' ∧ t = t'
      · simp [h]
      · simp [h]
    rw [e]
    by_cases e2 : f = f' ∧ t = t'
    · rw [if_pos e2, ← e2.1, ← e2.2, upd_self, h.q f t hk]
    · rw [if_neg e2, List.append_nil, upd_ne, h.q f' t' hk']
      intro e3
      exact e2 ((nm_inj h8 hk hk' e3.symm))
theorem Rel.take {W : Nat} {Q : Nat → List Int} {L : List Tg} (h : Rel W Q L) (h8 : W ≤ 8) {f t : Int} (hk : Lnk W f t) {j : Nat} (hj : (ons f t L L.length)[0]? = some j) : Rel W (tkn W Q f t) (L.take j ++ L.drop (j + 1)) := by
  obtain ⟨x, hx, hv, _⟩ := ons_get hj
  have hjl := (List.getElem?_eq_some_iff.1 hx).1
  refine ⟨fun y hy => ?_, fun f' t' hk' => ?_, ?_⟩
  · rw [List.mem_append] at hy
    rcases hy with hy | hy
    · exact h.lk y (List.mem_of_mem_take hy)
    · exact h.lk y (List.mem_of_mem_drop hy)
  · rw [first_out hj f' t']
    unfold tkn
    rw [if_pos hk]
    by_cases e : f' = f ∧ t' = t
    · rw [if_pos e, e.1, e.2, upd_self, h.q f t hk]
    · rw [if_neg e, upd_ne, h.q f' t' hk']
      intro e3
      exact e (nm_inj h8 hk' hk e3)
  · have hne : Q (nm f t) ≠ [] := by
      rw [h.q f t hk]
      intro e
      rw [e] at hv
      simp at hv
    have := tot_tkn h8 hk hne
    rw [h.n] at this
    rw [List.length_append, List.length_take, List.length_drop]
    omega
end Go.Proofs.Ytcdmgclkgojgaaa.Pi
