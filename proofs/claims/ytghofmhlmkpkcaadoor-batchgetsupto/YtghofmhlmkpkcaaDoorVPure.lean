import Derived.WalkKit
namespace Go.Proofs.YtghofmhlmkpkcaaDoor.Wi

/-- The form of a number. -/
def form (v : Nat) : List UInt8 := if v < 128 then [UInt8.ofNat v] else UInt8.ofNat (v % 128 + 128) :: form (v / 128)
termination_by v
decreasing_by omega
theorem form_small {v : Nat} (h : v < 128) : form v = [UInt8.ofNat v] := by rw [form, if_pos h]
theorem form_great {v : Nat} (h : ¬ v < 128) : form v = UInt8.ofNat (v % 128 + 128) :: form (v / 128) := by rw [form, if_neg h]
theorem form_pos (v : Nat) : 0 < (form v).length := by
  by_cases h : v < 128
  · rw [form_small h]; simp
  · rw [form_great h]; simp
/-- As many bytes as groups of seven bits. -/
theorem form_le (k v : Nat) (h : v < 128 ^ (k + 1)) : (form v).length ≤ k + 1 := by
  induction k generalizing v with
  | zero => rw [form_small (by simpa using h)]; simp
  | succ k ih =>
    by_cases hv : v < 128
    · rw [form_small hv]; simp
    · rw [form_great hv]
      have := ih (v / 128) (by rw [Nat.div_lt_iff_lt_mul (by decide)]; rw [Nat.pow_succ] at h; exact h)
      simp; omega
theorem form_ge (k v : Nat) (h : (form v).length ≤ k + 1) : v < 128 ^ (k + 1) := by
  induction k generalizing v with
  | zero =>
    by_cases hv : v < 128
    · simpa using hv
    · rw [form_great hv] at h
      have := form_pos (v / 128)
      rw [List.length_cons] at h; omega
  | succ k ih =>
    by_cases hv : v < 128
    · exact Nat.lt_of_lt_of_le hv (by rw [Nat.pow_succ]; exact Nat.le_mul_of_pos_left _ (Nat.pow_pos (by decide)))
    · rw [form_great hv] at h
      have := ih (v / 128) (by simpa using h)
      rw [Nat.div_lt_iff_lt_mul (by decide)] at this
      rw [Nat.pow_succ]; exact this
theorem form_ten {v : Nat} (h : v < 18446744073709551616) : (form v).length ≤ 10 := form_le 9 v (Nat.lt_of_lt_of_le h (by decide))

/-- May a byte be the i-th one of a form? -/
def may (x i : Nat) : Bool := if i = 9 then x == 1 else i == 0 || x != 0
/-- What stands at the front: the number, how many bytes it has, the error. -/
def scan (most : Nat) : Nat → Nat → List UInt8 → Nat × Nat × Nat
  | _, _, [] => (0, 0, 30)
  | i, v, x :: l =>
    if may x.toNat i = false then (0, 0, 31)
    else if x.toNat < 128 then
      if most < v + x.toNat % 128 * 128 ^ i then (0, 0, 12) else (v + x.toNat % 128 * 128 ^ i, i + 1, 0)
    else scan most (i + 1) (v + x.toNat % 128 * 128 ^ i) l
theorem u8_of {n : Nat} (h : n < 256) : (UInt8.ofNat n).toNat = n := by simp; omega
/-- There: what was put, with anything behind it. -/
theorem scan_form (most : Nat) (l : List UInt8) (i v u : Nat) (hu : u * 128 ^ i < 18446744073709551616) (h0 : i = 0 ∨ 0 < u) :
    scan most i v (form u ++ l) = if most < v + u * 128 ^ i then (0, 0, 12) else (v + u * 128 ^ i, i + (form u).length, 0) := by
  induction u using Nat.strongRecOn generalizing i v with
  | _ u ih =>
    have h9 : 0 < u → i ≤ 9 := fun hp => by
      by_cases hi : i ≤ 9
      · exact hi
      · exfalso
        have h1 : 128 ^ 10 ≤ 128 ^ i := Nat.pow_le_pow_right (by decide) (by omega)
        have h2 : 128 ^ i ≤ u * 128 ^ i := Nat.le_mul_of_pos_left _ hp
        have h3 : (128 : Nat) ^ 10 = 1180591620717411303424 := by decide
        omega
    have h91 : i = 9 → u ≤ 1 := fun hi => by
      subst hi
      have h3 : (128 : Nat) ^ 9 = 9223372036854775808 := by decide
      rw [h3] at hu
      omega
    by_cases hs : u < 128
    · rw [form_small hs]
      have e : (UInt8.ofNat u).toNat = u := u8_of (by omega)
      have hm : may u i = true := by
        unfold may
        split
        · rename_i h
          have := h91 h
          have : u = 1 := by omega
          simp [this]
        · rcases h0 with rfl | h0
          · simp
          · simp; omega
      simp only [List.cons_append, List.nil_append, scan, e, hm, List.length_singleton, hs, if_true, Nat.mod_eq_of_lt hs, Bool.true_eq_false, if_false]
    · rw [form_great hs]
      have e : (UInt8.ofNat (u % 128 + 128)).toNat = u % 128 + 128 := u8_of (by omega)
      have hi8 : i ≠ 9 := fun h => by have := h91 h; omega
      have hm : may (u % 128 + 128) i = true := by
        unfold may
        rw [if_neg hi8]
        simp
      have h1 : ¬ u % 128 + 128 < 128 := by omega
      have h2 : (u % 128 + 128) % 128 = u % 128 := by omega
      have hd : u / 128 * 128 ^ (i + 1) ≤ u * 128 ^ i := by
        rw [Nat.pow_succ, Nat.mul_comm (128 ^ i) 128, ← Nat.mul_assoc]
        exact Nat.mul_le_mul_right _ (Nat.div_mul_le_self u 128)
      have hsum : u % 128 * 128 ^ i + u / 128 * 128 ^ (i + 1) = u * 128 ^ i := by
        rw [Nat.pow_succ, Nat.mul_comm (128 ^ i) 128, ← Nat.mul_assoc, ← Nat.add_mul]
        congr 1
        omega
      simp only [List.cons_append, scan, e, hm, h1, h2, Bool.true_eq_false, if_false, List.length_cons]
      rw [ih (u / 128) (by omega) (i + 1) _ (by omega) (Or.inr (by omega)), Nat.add_assoc v, hsum]
      simp only [Nat.add_assoc, Nat.add_comm 1]
/-- Of a beginning of it: too short. -/
theorem scan_short (most i v u n : Nat) (hu : u * 128 ^ i < 18446744073709551616) (h0 : i = 0 ∨ 0 < u) (hn : n < (form u).length) : scan most i v ((form u).take n) = (0, 0, 30) := by
  induction u using Nat.strongRecOn generalizing i v n with
  | _ u ih =>
    cases n with
    | zero => simp [scan]
    | succ n =>
      by_cases hs : u < 128
      · rw [form_small hs] at hn; simp at hn
      · rw [form_great hs] at hn ⊢
        have hi8 : i ≠ 9 := fun h => by
          subst h
          have h3 : (128 : Nat) ^ 9 = 9223372036854775808 := by decide
          rw [h3] at hu
          omega
        have e : (UInt8.ofNat (u % 128 + 128)).toNat = u % 128 + 128 := u8_of (by omega)
        have hm : may (u % 128 + 128) i = true := by
          unfold may
          rw [if_neg hi8]
          simp
        have h1 : ¬ u % 128 + 128 < 128 := by omega
        have hd : u / 128 * 128 ^ (i + 1) ≤ u * 128 ^ i := by
          rw [Nat.pow_succ, Nat.mul_comm (128 ^ i) 128, ← Nat.mul_assoc]
          exact Nat.mul_le_mul_right _ (Nat.div_mul_le_self u 128)
        simp only [List.take_succ_cons, scan, e, hm, h1, Bool.true_eq_false, if_false]
        exact ih (u / 128) (by omega) (i + 1) _ n (by omega) (Or.inr (by omega)) (by simpa using hn)
/-- Back: what is taken is the one form. -/
theorem scan_back (most : Nat) (b : List UInt8) (i v : Nat) (hv : v < 128 ^ i) (hi : i ≤ 9) :
    (∃ e, scan most i v b = (0, 0, e) ∧ (e = 30 ∨ e = 31 ∨ (e = 12 ∧ most < 18446744073709551615))) ∨ ∃ u n, scan most i v b = (v + u * 128 ^ i, i + n, 0) ∧ v + u * 128 ^ i ≤ most ∧ v + u * 128 ^ i < 18446744073709551616 ∧ n = (form u).length ∧ b.take n = form u ∧ (i = 0 ∨ 0 < u) ∧ i + n ≤ 10 ∧ n ≤ b.length := by
  induction b generalizing i v with
  | nil => exact Or.inl ⟨30, rfl, Or.inl rfl⟩
  | cons x l ih =>
    have hx : x.toNat < 256 := x.toNat_lt
    by_cases hm : may x.toNat i = true
    · have hm' : ¬ may x.toNat i = false := by rw [hm]; decide
      have hp : (128 : Nat) ^ i ≤ 9223372036854775808 := by
        have := Nat.pow_le_pow_right (n := 128) (by decide) hi
        have h3 : (128 : Nat) ^ 9 = 9223372036854775808 := by decide
        omega
      by_cases hs : x.toNat < 128
      · have hmod : x.toNat % 128 = x.toNat := Nat.mod_eq_of_lt hs
        have hb : v + x.toNat * 128 ^ i < 18446744073709551616 := by
          by_cases h9 : i = 9
          · subst h9
            have : x.toNat = 1 := by simpa [may] using hm
            rw [this]
            have h3 : (128 : Nat) ^ 9 = 9223372036854775808 := by decide
            rw [h3] at hv ⊢
            omega
          · have h8 : (128 : Nat) ^ i ≤ 72057594037927936 := by
              have := Nat.pow_le_pow_right (n := 128) (by decide) (show i ≤ 8 by omega)
              have h3 : (128 : Nat) ^ 8 = 72057594037927936 := by decide
              omega
            have : x.toNat * 128 ^ i ≤ 127 * 72057594037927936 := Nat.mul_le_mul (by omega) h8
            omega
        by_cases hmo : most < v + x.toNat * 128 ^ i
        · refine Or.inl ⟨12, ?_, Or.inr (Or.inr ⟨rfl, by omega⟩)⟩
          rw [scan, if_neg hm', if_pos hs, hmod, if_pos hmo]
        · refine Or.inr ⟨x.toNat, 1, ?_, by omega, hb, ?_, ?_, ?_, by omega, by simp⟩
          · rw [scan, if_neg hm', if_pos hs, hmod, if_neg hmo]
          · rw [form_small hs]; rfl
          · rw [form_small hs]; simp
          · by_cases h0 : i = 0
            · exact Or.inl h0
            · right
              unfold may at hm
              split at hm
              · simp at hm; omega
              · simp [h0] at hm
                omega
      · have h9 : i ≠ 9 := fun h => by
          subst h
          have : x.toNat = 1 := by simpa [may] using hm
          omega
        have hv' : v + x.toNat % 128 * 128 ^ i < 128 ^ (i + 1) := by
          rw [Nat.pow_succ]
          have : x.toNat % 128 * 128 ^ i ≤ 127 * 128 ^ i := Nat.mul_le_mul_right _ (by omega)
          omega
        have hE : scan most i v (x :: l) = scan most (i + 1) (v + x.toNat % 128 * 128 ^ i) l := by rw [scan, if_neg hm', if_neg hs]
        rw [hE]
        rcases ih (i + 1) (v + x.toNat % 128 * 128 ^ i) hv' (by omega) with h | ⟨u, n, h1, h2, h3, h4, h5, h6, h7, h8⟩
        · exact Or.inl h
        · have hup : 0 < u := by omega
          have hsum : v + x.toNat % 128 * 128 ^ i + u * 128 ^ (i + 1) = v + (x.toNat % 128 + 128 * u) * 128 ^ i := by
            rw [Nat.pow_succ, Nat.add_mul, Nat.mul_comm (128 ^ i) 128, ← Nat.mul_assoc, Nat.mul_comm u 128, Nat.add_assoc]
          have hf : form (x.toNat % 128 + 128 * u) = x :: form u := by
            rw [form_great (by omega), show (x.toNat % 128 + 128 * u) / 128 = u by omega, show (x.toNat % 128 + 128 * u) % 128 + 128 = x.toNat by omega]
            simp
          refine Or.inr ⟨x.toNat % 128 + 128 * u, n + 1, ?_, ?_, ?_, ?_, ?_, Or.inr (by omega), by omega, by simp; omega⟩
          · rw [h1, hsum, Nat.add_assoc, Nat.add_comm 1]
          · rw [← hsum]; exact h2
          · rw [← hsum]; exact h3
          · rw [hf, h4]; rfl
          · rw [hf, List.take_succ_cons, h5]
    · refine Or.inl ⟨31, ?_, Or.inr (Or.inl rfl)⟩
      rw [scan, if_pos (by simpa using hm)]
/-- A whole number as a number, and back. -/
def fold (n : Int) : Nat := if n < 0 then (-2 * n - 1).toNat else (2 * n).toNat
def unfold (v : Nat) : Int := if v % 2 = 1 then -(v / 2 : Nat) - 1 else (v / 2 : Nat)
theorem unfold_fold (n : Int) : unfold (fold n) = n := by unfold fold unfold; split <;> split <;> omega
theorem fold_unfold (v : Nat) : fold (unfold v) = v := by unfold fold unfold; split <;> split <;> omega
theorem fold_lt {n : Int} (h0 : -9223372036854775808 ≤ n) (h1 : n ≤ 9223372036854775807) : fold n < 18446744073709551616 := by unfold fold; split <;> omega
theorem form_inj {u v : Nat} (hu : u < 18446744073709551616) (hv : v < 18446744073709551616) (h : form u = form v) : u = v := by
  have h1 := scan_form 18446744073709551615 [] 0 0 u (by simpa using hu) (Or.inl rfl)
  have h2 := scan_form 18446744073709551615 [] 0 0 v (by simpa using hv) (Or.inl rfl)
  rw [h, h2] at h1
  rw [if_neg (by simp; omega), if_neg (by simp; omega)] at h1
  simp at h1
  exact h1.symm
end Go.Proofs.YtghofmhlmkpkcaaDoor.Wi
