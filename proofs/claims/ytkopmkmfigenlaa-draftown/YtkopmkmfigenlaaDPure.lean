import Derived.Test.YtkopmkmfigenlaaVPure
namespace Go.Proofs.Ytkopmkmfigenlaa.Df
open Wi

/-- What reads on from a place: an error and where, or a thing and the place behind it. -/
def Pa (α : Type) := List UInt8 → Nat → (Nat × Nat) ⊕ (α × Nat)
def Pa.ret {α : Type} (x : α) : Pa α := fun _ a => .inr (x, a)
def Pa.bind {α β : Type} (p : Pa α) (q : α → Pa β) : Pa β := fun L a => match p L a with
  | .inl e => .inl e
  | .inr x => q x.1 L x.2
def Pa.map {α β : Type} (p : Pa α) (t : α → β) : Pa β := fun L a => match p L a with
  | .inl e => .inl e
  | .inr x => .inr (t x.1, x.2)
def Pa.guard {α : Type} (p : Pa α) (c : α → Bool) (over : Nat) : Pa α := fun L a => match p L a with
  | .inl e => .inl e
  | .inr x => if c x.1 then .inr x else .inl (over, a)
def Pa.rep {α : Type} (p : Pa α) : Nat → Pa (List α)
  | 0 => Pa.ret []
  | n + 1 => p.bind fun x => (p.rep n).map (x :: ·)

/-- It reads just what is laid. -/
structure Fits {α : Type} (p : Pa α) (f : α → List UInt8) (ok : α → Prop) : Prop where
  there : ∀ x, ok x → ∀ (L : List UInt8) a rest, L.drop a = f x ++ rest → p L a = .inr (x, a + (f x).length)
  short : ∀ x, ok x → ∀ (L : List UInt8) a n, a ≤ L.length → n < (f x).length → L.drop a = (f x).take n → ∃ t, p L a = .inl (30, t) ∧ a ≤ t ∧ t ≤ L.length
  back : ∀ (L : List UInt8) a x a', a ≤ L.length → p L a = .inr (x, a') → ok x ∧ L.drop a = f x ++ L.drop a' ∧ a' = a + (f x).length ∧ a' ≤ L.length
  fault : ∀ (L : List UInt8) a e t, a ≤ L.length → p L a = .inl (e, t) → a ≤ t ∧ t ≤ L.length ∧ e ≠ 0

theorem drop_on {L : List UInt8} {a : Nat} {F R : List UInt8} (h : L.drop a = F ++ R) : L.drop (a + F.length) = R := by
  rw [← List.drop_drop, h, List.drop_left]
section
variable {α β : Type} {p : Pa α} {f : α → List UInt8} {okp : α → Prop} {F : β → List UInt8} {ok : β → Prop}
theorem Fits.ret (x : α) : Fits (Pa.ret x) (fun _ => []) (fun y => y = x) where
  there := fun y hy L a rest _ => by subst hy; simp [Pa.ret]
  short := fun y _ L a n _ hn => by simp at hn
  back := fun L a y a' ha h => by
    simp only [Pa.ret, Sum.inr.injEq, Prod.mk.injEq] at h
    obtain ⟨rfl, rfl⟩ := h
    simp [ha]
  fault := fun L a e t _ h => by simp [Pa.ret] at h
theorem Fits.bind {q : α → Pa β} {g : α → β → List UInt8} {okq : α → β → Prop} (hp : Fits p f okp) (hq : ∀ x, okp x → Fits (q x) (g x) (okq x))
    (h1 : ∀ y, ok y → ∃ x, okp x ∧ okq x y) (h2 : ∀ x y, okp x → okq x y → ok y ∧ F y = f x ++ g x y) : Fits (p.bind q) F ok where
  there := fun y hy L a rest h => by
    obtain ⟨x, hx, hxy⟩ := h1 y hy
    rw [(h2 x y hx hxy).2, List.append_assoc] at h
    have e1 := hp.there x hx L a _ h
    have e2 := (hq x hx).there y hxy L _ _ (drop_on h)
    simp only [Pa.bind, e1, e2, (h2 x y hx hxy).2, List.length_append, Nat.add_assoc]
  short := fun y hy L a n ha hn h => by
    obtain ⟨x, hx, hxy⟩ := h1 y hy
    rw [(h2 x y hx hxy).2] at h hn
    by_cases hl : n < (f x).length
    · rw [List.take_append_of_le_length (by omega)] at h
      obtain ⟨t, e, h3⟩ := hp.short x hx L a n ha hl h
      exact ⟨t, by simp only [Pa.bind, e], h3⟩
    · rw [List.take_append, List.take_of_length_le (by omega)] at h
      have e1 := hp.there x hx L a _ h
      have hlen := congrArg List.length h
      rw [List.length_drop, List.length_append, List.length_take] at hlen
      rw [List.length_append] at hn
      obtain ⟨t, e, h3⟩ := (hq x hx).short y hxy L (a + (f x).length) (n - (f x).length) (by omega) (by omega) (drop_on h)
      exact ⟨t, by simp only [Pa.bind, e1, e], by omega⟩
  back := fun L a y a' ha h => by
    unfold Pa.bind at h
    split at h
    · cases h
    · rename_i x e1
      obtain ⟨x, b⟩ := x
      obtain ⟨k1, k2, k3, k4⟩ := hp.back L a x b ha e1
      obtain ⟨j1, j2, j3, j4⟩ := (hq x k1).back L b y a' k4 h
      obtain ⟨i1, i2⟩ := h2 x y k1 j1
      exact ⟨i1, by rw [k2, j2, i2, List.append_assoc], by rw [i2, List.length_append]; omega, j4⟩
  fault := fun L a e t ha h => by
    unfold Pa.bind at h
    split at h
    · rename_i e1
      cases h
      exact hp.fault L a e t ha e1
    · rename_i x e1
      obtain ⟨x, b⟩ := x
      obtain ⟨k1, k2, k3, k4⟩ := hp.back L a x b ha e1
      have := (hq x k1).fault L b e t k4 h
      omega
theorem Fits.map (hp : Fits p f okp) (t : α → β) (h1 : ∀ y, ok y → ∃ x, okp x ∧ t x = y) (h2 : ∀ x, okp x → ok (t x) ∧ F (t x) = f x) : Fits (p.map t) F ok where
  there := fun y hy L a rest h => by
    obtain ⟨x, hx, rfl⟩ := h1 y hy
    rw [(h2 x hx).2] at h ⊢
    simp only [Pa.map, hp.there x hx L a rest h]
  short := fun y hy L a n ha hn h => by
    obtain ⟨x, hx, rfl⟩ := h1 y hy
    rw [(h2 x hx).2] at h hn
    obtain ⟨s, e, h3⟩ := hp.short x hx L a n ha hn h
    exact ⟨s, by simp only [Pa.map, e], h3⟩
  back := fun L a y a' ha h => by
    unfold Pa.map at h
    split at h
    · cases h
    · rename_i x e1
      obtain ⟨x, b⟩ := x
      simp only [Sum.inr.injEq, Prod.mk.injEq] at h
      obtain ⟨rfl, rfl⟩ := h
      obtain ⟨k1, k2, k3, k4⟩ := hp.back L a x b ha e1
      rw [(h2 x k1).2]
      exact ⟨(h2 x k1).1, k2, k3, k4⟩
  fault := fun L a e s ha h => by
    unfold Pa.map at h
    split at h
    · rename_i e1
      cases h
      exact hp.fault L a e s ha e1
    · cases h
theorem Fits.guard (hp : Fits p f okp) (c : α → Bool) (over : Nat) (ho : over ≠ 0) : Fits (p.guard c over) f (fun x => okp x ∧ c x = true) where
  there := fun x hx L a rest h => by simp only [Pa.guard, hp.there x hx.1 L a rest h, hx.2, if_true]
  short := fun x hx L a n ha hn h => by
    obtain ⟨s, e, h3⟩ := hp.short x hx.1 L a n ha hn h
    exact ⟨s, by simp only [Pa.guard, e], h3⟩
  back := fun L a x a' ha h => by
    unfold Pa.guard at h
    split at h
    · cases h
    · rename_i y e1
      split at h
      · rename_i hc
        simp only [Sum.inr.injEq] at h
        subst h
        obtain ⟨k1, k2⟩ := hp.back L a x a' ha e1
        exact ⟨⟨k1, hc⟩, k2⟩
      · cases h
  fault := fun L a e s ha h => by
    unfold Pa.guard at h
    split at h
    · rename_i e1
      cases h
      exact hp.fault L a e s ha e1
    · split at h
      · cases h
      · cases h
        exact ⟨Nat.le_refl _, ha, ho⟩
theorem Fits.rep (hp : Fits p f okp) (n : Nat) : Fits (p.rep n) (fun l => l.flatMap f) (fun l => l.length = n ∧ ∀ x ∈ l, okp x) := by
  induction n with
  | zero =>
    refine ((Fits.ret ([] : List α)).map id (ok := fun l => l.length = 0 ∧ ∀ x ∈ l, okp x) (F := fun l => l.flatMap f) ?_ ?_)
    · exact fun y hy => ⟨[], rfl, (List.eq_nil_of_length_eq_zero hy.1).symm⟩
    · rintro x rfl
      simp
  | succ n ih =>
    refine Fits.bind hp (okq := fun x l => ∃ r, l = x :: r ∧ r.length = n ∧ ∀ y ∈ r, okp y) (g := fun x l => l.tail.flatMap f) (fun x hx => ih.map _ ?_ ?_) ?_ ?_
    · rintro y ⟨r, rfl, h1, h2⟩
      exact ⟨r, ⟨h1, h2⟩, rfl⟩
    · rintro r ⟨h1, h2⟩
      exact ⟨⟨r, rfl, h1, h2⟩, rfl⟩
    · rintro l ⟨h1, h2⟩
      cases l with
      | nil => simp at h1
      | cons x r => exact ⟨x, h2 x (by simp), r, rfl, by simpa using h1, fun y hy => h2 y (by simp [hy])⟩
    · rintro x l hx ⟨r, rfl, h1, h2⟩
      refine ⟨⟨by simp [h1], fun y hy => ?_⟩, by simp⟩
      rcases List.mem_cons.1 hy with rfl | hy
      · exact hx
      · exact h2 y hy
end

/-- A number, at most most; above it the error over. -/
def num (most over : Nat) : Pa Nat := fun L a => if (scan most 0 0 (L.drop a)).2.2 = 0 then .inr ((scan most 0 0 (L.drop a)).1, a + (scan most 0 0 (L.drop a)).2.1) else .inl (if (scan most 0 0 (L.drop a)).2.2 = 12 then over else (scan most 0 0 (L.drop a)).2.2, a)
theorem fits_num {most over : Nat} (hm : most < 18446744073709551616) (ho : over ≠ 0) : Fits (num most over) form (fun v => v ≤ most) where
  there := fun v hv L a rest h => by
    have e := scan_form most rest 0 0 v (by simp; omega) (Or.inl rfl)
    rw [if_neg (by simp; omega)] at e
    simp only [Nat.pow_zero, Nat.mul_one, Nat.zero_add] at e
    simp only [num, h, e, if_true]
  short := fun v hv L a n ha hn h => by
    have e := scan_short most 0 0 v n (by simp; omega) (Or.inl rfl) hn
    exact ⟨a, by simp [num, h, e], Nat.le_refl _, ha⟩
  back := fun L a v a' ha h => by
    rcases scan_back most (L.drop a) 0 0 (by simp) (by omega) with ⟨e, h1, h2⟩ | ⟨u, n, h1, h2, h3, h4, h5, h6, h7, h8⟩
    · rw [num, h1] at h
      rw [if_neg (by simp only; omega)] at h
      cases h
    · simp only [Nat.pow_zero, Nat.mul_one, Nat.zero_add] at h1 h2 h3
      rw [num, h1] at h
      simp only [if_true, Sum.inr.injEq, Prod.mk.injEq] at h
      obtain ⟨rfl, rfl⟩ := h
      rw [List.length_drop] at h8
      refine ⟨h2, ?_, by rw [h4], by omega⟩
      rw [← h5, ← List.drop_drop, List.take_append_drop]
  fault := fun L a e t ha h => by
    unfold num at h
    split at h
    · cases h
    · rename_i h0
      simp only [Sum.inl.injEq, Prod.mk.injEq] at h
      obtain ⟨h1, rfl⟩ := h
      refine ⟨Nat.le_refl _, ha, ?_⟩
      rw [← h1]
      split
      · exact ho
      · exact h0
def any : Pa Nat := num 18446744073709551615 12
def int : Pa Int := (num 9223372036854775807 12).map Int.ofNat
def truth : Pa Bool := fun L a => match L.drop a with
  | [] => .inl (30, a)
  | x :: _ => if x.toNat ≤ 1 then .inr (x.toNat == 1, a + 1) else .inl (31, a)
/-- A list: how many, and these. -/
def lst {α : Type} (most : Nat) (p : Pa α) : Pa (List α) := (num most 2).bind p.rep

/-- Bytes of an int, of a truth. -/
def bint (n : Int) : List UInt8 := form n.toNat
def btruth (b : Bool) : List UInt8 := [if b then 1 else 0]
def blst {α : Type} (f : α → List UInt8) (l : List α) : List UInt8 := form l.length ++ l.flatMap f
theorem fits_any : Fits any form (fun v => v ≤ 18446744073709551615) := fits_num (by decide) (by decide)
theorem fits_int : Fits int bint (fun n => 0 ≤ n ∧ n ≤ 9223372036854775807) :=
  (fits_num (most := 9223372036854775807) (over := 12) (by decide) (by decide)).map _ (fun y hy => ⟨y.toNat, by omega, Int.toNat_of_nonneg hy.1⟩) (fun x hx => ⟨by simp; omega, by simp [bint]⟩)
theorem fits_truth : Fits truth btruth (fun _ => True) where
  there := fun b _ L a rest h => by
    simp only [btruth, List.cons_append, List.nil_append] at h
    simp only [truth, h, btruth, List.length_singleton]
    cases b <;> rfl
  short := fun b _ L a n ha hn h => by
    have : n = 0 := by simp [btruth] at hn; exact hn
    subst this
    rw [List.take_zero] at h
    exact ⟨a, by simp only [truth, h], Nat.le_refl _, ha⟩
  back := fun L a b a' ha h => by
    unfold truth at h
    split at h
    · cases h
    · rename_i x r hd
      split at h
      · rename_i hx
        simp only [Sum.inr.injEq, Prod.mk.injEq] at h
        obtain ⟨rfl, rfl⟩ := h
        have hl := congrArg List.length hd
        rw [List.length_drop, List.length_cons] at hl
        have hb : btruth (x.toNat == 1) = [x] := by
          have : x.toNat = 0 ∨ x.toNat = 1 := by omega
          rcases this with h | h
          · have : x = 0 := UInt8.toNat_inj.1 h
            subst this; rfl
          · have : x = 1 := UInt8.toNat_inj.1 h
            subst this; rfl
        refine ⟨trivial, ?_, by simp [btruth], by omega⟩
        rw [hb]
        have := drop_on (F := [x]) (R := r) hd
        rw [List.length_singleton] at this
        rw [this, hd]; rfl
      · cases h
  fault := fun L a e t ha h => by
    unfold truth at h
    split at h
    · cases h; exact ⟨Nat.le_refl _, ha, by decide⟩
    · split at h
      · cases h
      · cases h; exact ⟨Nat.le_refl _, ha, by decide⟩
theorem fits_lst {α : Type} {p : Pa α} {f : α → List UInt8} {okp : α → Prop} {most : Nat} (hm : most < 18446744073709551616) (hp : Fits p f okp) : Fits (lst most p) (blst f) (fun l => l.length ≤ most ∧ ∀ x ∈ l, okp x) :=
  Fits.bind (fits_num hm (by decide)) (fun n _ => hp.rep n) (fun l hl => ⟨l.length, hl.1, rfl, hl.2⟩) (fun n l hn hl => ⟨⟨by omega, hl.2⟩, by rw [← hl.1]; rfl⟩)
/-- One behind the other. -/
def Pa.and {α β : Type} (p : Pa α) (q : Pa β) : Pa (α × β) := p.bind fun x => q.map fun y => (x, y)
theorem Fits.and {α β : Type} {p : Pa α} {q : Pa β} {f : α → List UInt8} {g : β → List UInt8} {okp : α → Prop} {okq : β → Prop} (hp : Fits p f okp) (hq : Fits q g okq) : Fits (p.and q) (fun z => f z.1 ++ g z.2) (fun z => okp z.1 ∧ okq z.2) :=
  Fits.bind hp (g := fun _ z => g z.2) (okq := fun x z => z.1 = x ∧ okq z.2) (fun x _ => hq.map _ (fun z hz => ⟨z.2, hz.2, by rw [← hz.1]⟩) (fun y hy => ⟨⟨rfl, hy⟩, rfl⟩))
    (fun z hz => ⟨z.1, hz.1, rfl, hz.2⟩) (fun x z hx hz => ⟨⟨by rw [hz.1]; exact hx, hz.2⟩, by rw [hz.1]⟩)
end Go.Proofs.Ytkopmkmfigenlaa.Df
