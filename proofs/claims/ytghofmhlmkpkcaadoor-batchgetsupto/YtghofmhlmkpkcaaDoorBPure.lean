import Derived.Test.YtghofmhlmkpkcaaDoorVPure
namespace Go.Proofs.YtghofmhlmkpkcaaDoor.Wi

/-- A change: its place, its time, its number. -/
structure Cx where
  pl : Int
  A : Nat
  B : Nat
  C : Nat
  N : Int
  ok : (-9223372036854775808 ≤ pl ∧ pl ≤ 9223372036854775807) ∧ (A < 18446744073709551616 ∧ B < 18446744073709551616 ∧ C < 18446744073709551616) ∧ (-9223372036854775808 ≤ N ∧ N ≤ 9223372036854775807)
theorem Cx.ext' {a b : Cx} (h0 : a.pl = b.pl) (h1 : a.A = b.A) (h2 : a.B = b.B) (h3 : a.C = b.C) (h4 : a.N = b.N) : a = b := by
  cases a; cases b; simp at h0 h1 h2 h3 h4; subst h0 h1 h2 h3 h4; rfl
theorem Cx.eq_iff (a b : Cx) : a = b ↔ (a.pl = b.pl ∧ a.A = b.A ∧ a.B = b.B ∧ a.C = b.C ∧ a.N = b.N) :=
  ⟨fun h => by subst h; exact ⟨rfl, rfl, rfl, rfl, rfl⟩, fun ⟨h0, h1, h2, h3, h4⟩ => Cx.ext' h0 h1 h2 h3 h4⟩
instance : DecidableEq Cx := fun a b => decidable_of_iff _ (Cx.eq_iff a b).symm
instance : Inhabited Cx := ⟨⟨0, 0, 0, 0, 0, by decide⟩⟩
/-- The change of these numbers. -/
def mkC (a A B C : Nat) (N : Int) : Cx :=
  if h : ((-9223372036854775808 : Int) ≤ a ∧ (a : Int) ≤ 9223372036854775807) ∧ (A < 18446744073709551616 ∧ B < 18446744073709551616 ∧ C < 18446744073709551616) ∧ (-9223372036854775808 ≤ N ∧ N ≤ 9223372036854775807) then ⟨a, A, B, C, N, h⟩ else default
theorem mkC_eq {a A B C : Nat} {N : Int} (h0 : a ≤ 9223372036854775807) (h1 : A < 18446744073709551616) (h2 : B < 18446744073709551616) (h3 : C < 18446744073709551616) (h4 : -9223372036854775808 ≤ N) (h5 : N ≤ 9223372036854775807) :
    (mkC a A B C N).pl = a ∧ (mkC a A B C N).A = A ∧ (mkC a A B C N).B = B ∧ (mkC a A B C N).C = C ∧ (mkC a A B C N).N = N := by
  unfold mkC
  rw [dif_pos ⟨⟨by omega, by omega⟩, ⟨h1, h2, h3⟩, h4, h5⟩]
  exact ⟨rfl, rfl, rfl, rfl, rfl⟩
/-- The bytes of a change. -/
def fc (c : Cx) : List UInt8 := form c.pl.toNat ++ (form c.A ++ (form c.B ++ (form c.C ++ form (fold c.N))))
/-- What is wrong with a change by itself. -/
def wr1 (c : Cx) : Nat := if c.pl < 0 ∨ 191 < c.pl ∨ c.N < -2147483647 ∨ 2147483647 < c.N then 12 else if c.N = 0 then 31 else 0
/-- The order of changes. -/
def lt4 (a b : Cx) : Prop := a.pl < b.pl ∨ (a.pl = b.pl ∧ (a.A < b.A ∨ (a.A = b.A ∧ (a.B < b.B ∨ (a.B = b.B ∧ a.C < b.C)))))
instance (a b : Cx) : Decidable (lt4 a b) := by unfold lt4; infer_instance
theorem lt4_not {a b : Cx} (h : lt4 a b) : ¬ lt4 b a := by unfold lt4 at *; omega
def bh (p : Option Cx) (c : Cx) : Bool := match p with | none => true | some a => decide (lt4 a c)
/-- The first thing that is wrong with a list. -/
def bgo : Option Cx → List Cx → Nat
  | _, [] => 0
  | p, c :: l => if wr1 c ≠ 0 then wr1 c else if bh p c = false then 31 else bgo (some c) l
theorem bgo_cons {p : Option Cx} {c : Cx} {l : List Cx} (h : bgo p (c :: l) = 0) : wr1 c = 0 ∧ bh p c = true ∧ bgo (some c) l = 0 := by
  rw [bgo] at h
  by_cases h1 : wr1 c = 0
  · rw [if_neg (by simpa using h1)] at h
    cases h2 : bh p c
    · rw [h2, if_pos rfl] at h; cases h
    · rw [h2, if_neg (by decide)] at h; exact ⟨h1, rfl, h⟩
  · rw [if_pos h1] at h; exact absurd h h1
theorem bgo_mk {p : Option Cx} {c : Cx} {l : List Cx} (h1 : wr1 c = 0) (h2 : bh p c = true) : bgo p (c :: l) = bgo (some c) l := by
  rw [bgo, if_neg (by simpa using h1), h2, if_neg (by decide)]
theorem wr1_ok {c : Cx} (h : wr1 c = 0) : 0 ≤ c.pl ∧ c.pl ≤ 191 ∧ -2147483647 ≤ c.N ∧ c.N ≤ 2147483647 ∧ c.N ≠ 0 := by
  unfold wr1 at h
  split at h
  · cases h
  · split at h
    · cases h
    · omega
/-- The list's last one, and then one more list. -/
def lastO (p : Option Cx) (l : List Cx) : Option Cx := match l.getLast? with | none => p | some c => some c
theorem bgo_append (l m : List Cx) (p : Option Cx) (h : bgo p l = 0) : bgo p (l ++ m) = bgo (lastO p l) m := by
  induction l generalizing p with
  | nil => rfl
  | cons c l ih =>
    obtain ⟨h1, h2, h3⟩ := bgo_cons h
    rw [List.cons_append, bgo_mk h1 h2, ih (some c) h3]
    congr 1
    unfold lastO
    cases l with
    | nil => rfl
    | cons d l => rw [List.getLast?_cons_cons]; cases he : (d :: l).getLast? with
      | none => simp at he
      | some x => rfl
theorem bgo_append_ne (l m : List Cx) (p : Option Cx) (h : bgo p l ≠ 0) : bgo p (l ++ m) = bgo p l := by
  induction l generalizing p with
  | nil => exact absurd rfl h
  | cons c l ih =>
    by_cases h1 : wr1 c = 0
    · cases h2 : bh p c
      · have e : ∀ k, bgo p (c :: k) = 31 := fun k => by rw [bgo, if_neg (by simpa using h1), h2, if_pos rfl]
        rw [List.cons_append, e, e]
      · rw [bgo_mk h1 h2] at h
        rw [List.cons_append, bgo_mk h1 h2, bgo_mk h1 h2]
        exact ih _ h
    · rw [List.cons_append, bgo, bgo, if_pos h1, if_pos h1]
theorem lastO_none (l : List Cx) : lastO none l = l.getLast? := by unfold lastO; cases l.getLast? <;> rfl
theorem bgo_step (l : List Cx) (c : Cx) (h : bgo none l = 0) : bgo none (l ++ [c]) = if wr1 c ≠ 0 then wr1 c else if bh l.getLast? c = false then 31 else 0 := by
  rw [bgo_append l [c] none h, lastO_none, bgo]
  rfl
/-- The bytes of a list in form. -/
def bts (l : List Cx) : List UInt8 := if l = [] then [] else form l.length ++ l.flatMap fc
def bput (l : List Cx) : List UInt8 × Nat := if bgo none l = 0 then (bts l, 0) else ([], bgo none l)
theorem fc_le {c : Cx} (h : wr1 c = 0) : (fc c).length ≤ 50 := by
  have hk := wr1_ok h
  have ho := c.ok
  have h1 := form_ten (v := c.pl.toNat) (by omega)
  have h2 := form_ten ho.2.1.1
  have h3 := form_ten ho.2.1.2.1
  have h4 := form_ten ho.2.1.2.2
  have h5 := form_ten (fold_lt ho.2.2.1 ho.2.2.2)
  unfold fc
  simp only [List.length_append]
  omega
theorem fc_ge (c : Cx) : 5 ≤ (fc c).length := by
  have h1 := form_pos c.pl.toNat
  have h2 := form_pos c.A
  have h3 := form_pos c.B
  have h4 := form_pos c.C
  have h5 := form_pos (fold c.N)
  unfold fc
  simp only [List.length_append]
  omega
theorem fcs_le (l : List Cx) (p : Option Cx) (h : bgo p l = 0) : (l.flatMap fc).length ≤ 50 * l.length := by
  induction l generalizing p with
  | nil => simp
  | cons c l ih =>
    obtain ⟨h1, _, h3⟩ := bgo_cons h
    have := fc_le h1
    have := ih _ h3
    simp only [List.flatMap_cons, List.length_append, List.length_cons]
    omega
theorem fcs_ge (l : List Cx) : 5 * l.length ≤ (l.flatMap fc).length := by
  induction l with
  | nil => simp
  | cons c l ih =>
    have := fc_ge c
    simp only [List.flatMap_cons, List.length_append, List.length_cons]
    omega
theorem bts_ne {l : List Cx} (h : l ≠ []) : bts l = form l.length ++ l.flatMap fc := by unfold bts; rw [if_neg h]
theorem bts_nil_iff (l : List Cx) : bts l = [] ↔ l = [] := by
  constructor
  · intro h
    by_cases h0 : l = []
    · exact h0
    · rw [bts_ne h0] at h
      have h1 := form_pos l.length
      have h2 := congrArg List.length h
      rw [List.length_append, List.length_nil] at h2
      omega
  · intro h; subst h; rfl

/-! The way back -/
abbrev Er := Nat × Nat
/-- A number at a place: it and the place behind it, or where and what is wrong. -/
def num (L : List UInt8) (most at_ : Nat) : Except Er (Nat × Nat) :=
  if (scan most 0 0 (L.drop at_)).2.2 = 0 then .ok ((scan most 0 0 (L.drop at_)).1, at_ + (scan most 0 0 (L.drop at_)).2.1) else .error (at_, (scan most 0 0 (L.drop at_)).2.2)
def mx : Nat := 18446744073709551615
theorem num_ok {L : List UInt8} {most at_ u a : Nat} (h : num L most at_ = .ok (u, a)) (hl : at_ ≤ L.length) : u ≤ most ∧ u < 18446744073709551616 ∧ a = at_ + (form u).length ∧ a ≤ L.length ∧ L.drop at_ = form u ++ L.drop a := by
  unfold num at h
  rcases scan_back most (L.drop at_) 0 0 (by decide) (by decide) with ⟨e, h1, h2⟩ | ⟨u', n, h1, h2, h3, h4, h5, h6, h7, h8⟩
  · rw [h1, if_neg (by rcases h2 with rfl | rfl | ⟨rfl, _⟩ <;> simp)] at h
    cases h
  · rw [h1, if_pos rfl] at h
    simp only [Nat.pow_zero, Nat.mul_one, Nat.zero_add] at h h2 h3
    injection h with h
    injection h with ha hb
    subst ha
    rw [List.length_drop] at h8
    refine ⟨h2, h3, by omega, by omega, ?_⟩
    rw [← hb, ← List.drop_drop, ← h5, List.take_append_drop]
theorem num_err {L : List UInt8} {most at_ : Nat} {e : Er} (h : num L most at_ = .error e) : e.1 = at_ ∧ (e.2 = 30 ∨ e.2 = 31 ∨ e.2 = 12) := by
  unfold num at h
  rcases scan_back most (L.drop at_) 0 0 (by decide) (by decide) with ⟨e', h1, h2⟩ | ⟨u', n, h1, h2, h3, h4, h5, h6, h7, h8⟩
  · rw [h1] at h
    split at h
    · cases h
    · injection h with h
      subst h
      exact ⟨rfl, by rcases h2 with rfl | rfl | ⟨rfl, _⟩ <;> simp⟩
  · rw [h1, if_pos rfl] at h
    cases h
theorem num_take {L R : List UInt8} {most at_ u m : Nat} (h : L.drop at_ = (form u ++ R).take m) (hu : u < 18446744073709551616) (hm : u ≤ most) :
    (m < (form u).length ∧ num L most at_ = .error (at_, 30)) ∨ ((form u).length ≤ m ∧ num L most at_ = .ok (u, at_ + (form u).length) ∧ L.drop (at_ + (form u).length) = R.take (m - (form u).length)) := by
  by_cases hlt : m < (form u).length
  · left
    refine ⟨hlt, ?_⟩
    rw [List.take_append_of_le_length (by omega)] at h
    unfold num
    rw [h, scan_short most 0 0 u m (by simpa using hu) (Or.inl rfl) hlt, if_neg (by simp)]
  · right
    rw [List.take_append, List.take_of_length_le (by omega)] at h
    refine ⟨by omega, ?_, ?_⟩
    · unfold num
      have hs : scan most 0 0 (L.drop at_) = (u, (form u).length, 0) := by
        rw [h, scan_form most _ 0 0 u (by simpa using hu) (Or.inl rfl), if_neg (by simpa using hm)]
        simp
      rw [hs, if_pos rfl]
    · rw [← List.drop_drop, h, List.drop_left]
/-- A change's five numbers; the place of the last, and the place behind it. -/
def five (L : List UInt8) (at_ : Nat) : Except Er ((Nat × Nat × Nat × Nat × Nat) × Nat × Nat) :=
  match num L 191 at_ with
  | .error e => .error e
  | .ok (a, p1) => match num L mx p1 with
    | .error e => .error e
    | .ok (A, p2) => match num L mx p2 with
      | .error e => .error e
      | .ok (B, p3) => match num L mx p3 with
        | .error e => .error e
        | .ok (C, p4) => match num L mx p4 with
          | .error e => .error e
          | .ok (u, p5) => .ok ((a, A, B, C, u), p4, p5)
/-- The change at a place, behind another one. -/
def bone (L : List UInt8) (p : Option Cx) (at_ : Nat) : Except Er (Cx × Nat) :=
  match five L at_ with
  | .error e => .error e
  | .ok ((a, A, B, C, u), p4, p5) =>
    if wr1 (mkC a A B C (unfold u)) ≠ 0 then .error (p4, wr1 (mkC a A B C (unfold u)))
    else if bh p (mkC a A B C (unfold u)) = false then .error (at_, 31)
    else .ok (mkC a A B C (unfold u), p5)
def bmany (L : List UInt8) : Nat → List Cx → Nat → Except Er (List Cx × Nat)
  | 0, acc, at_ => .ok (acc, at_)
  | n + 1, acc, at_ => match bone L acc.getLast? at_ with
    | .error e => .error e
    | .ok (c, a) => bmany L n (acc ++ [c]) a
def bget (L : List UInt8) : Except Er (List Cx) :=
  if L = [] then .ok [] else match num L mx 0 with
  | .error e => .error e
  | .ok (n, a) => if n = 0 then .error (0, 31) else match bmany L n [] a with
    | .error e => .error e
    | .ok (l, a) => if a < L.length then .error (a, 32) else .ok l
theorem five_err {L : List UInt8} {at_ : Nat} {e : Er} (hl : at_ ≤ L.length) (h : five L at_ = .error e) : e.1 ≤ L.length ∧ (e.2 = 30 ∨ e.2 = 31 ∨ e.2 = 12) := by
  unfold five at h
  cases h1 : num L 191 at_ with
  | error e1 =>
    rw [h1] at h; injection h with h; subst h
    have := num_err h1; exact ⟨by omega, this.2⟩
  | ok x1 =>
  obtain ⟨a, p1⟩ := x1
  rw [h1] at h
  have k1 := (num_ok h1 hl).2.2.2.1
  cases h2 : num L mx p1 with
  | error e1 =>
    simp only [h2] at h; injection h with h; subst h
    have := num_err h2; exact ⟨by omega, this.2⟩
  | ok x2 =>
  obtain ⟨A, p2⟩ := x2
  simp only [h2] at h
  have k2 := (num_ok h2 k1).2.2.2.1
  cases h3 : num L mx p2 with
  | error e1 =>
    simp only [h3] at h; injection h with h; subst h
    have := num_err h3; exact ⟨by omega, this.2⟩
  | ok x3 =>
  obtain ⟨B, p3⟩ := x3
  simp only [h3] at h
  have k3 := (num_ok h3 k2).2.2.2.1
  cases h4 : num L mx p3 with
  | error e1 =>
    simp only [h4] at h; injection h with h; subst h
    have := num_err h4; exact ⟨by omega, this.2⟩
  | ok x4 =>
  obtain ⟨C, p4⟩ := x4
  simp only [h4] at h
  have k4 := (num_ok h4 k3).2.2.2.1
  cases h5 : num L mx p4 with
  | error e1 =>
    simp only [h5] at h; injection h with h; subst h
    have := num_err h5; exact ⟨by omega, this.2⟩
  | ok x5 =>
    simp only [h5] at h; cases h
theorem unfold_bd {u : Nat} (h : u < 18446744073709551616) : -9223372036854775808 ≤ unfold u ∧ unfold u ≤ 9223372036854775807 := by unfold unfold; split <;> omega
theorem five_ok {L : List UInt8} {at_ a A B C u p4 p5 : Nat} (hl : at_ ≤ L.length) (h : five L at_ = .ok ((a, A, B, C, u), p4, p5)) :
    (a ≤ 191 ∧ A < 18446744073709551616 ∧ B < 18446744073709551616 ∧ C < 18446744073709551616 ∧ u < 18446744073709551616) ∧ at_ ≤ p4 ∧ p4 ≤ p5 ∧ p5 ≤ L.length ∧ L.drop at_ = fc (mkC a A B C (unfold u)) ++ L.drop p5 ∧ p5 = at_ + (fc (mkC a A B C (unfold u))).length := by
  unfold five at h
  cases h1 : num L 191 at_ with
  | error e1 => rw [h1] at h; cases h
  | ok x1 =>
  obtain ⟨a', p1⟩ := x1
  rw [h1] at h
  have k1 := num_ok h1 hl
  cases h2 : num L mx p1 with
  | error e1 => simp only [h2] at h; cases h
  | ok x2 =>
  obtain ⟨A', p2⟩ := x2
  simp only [h2] at h
  have k2 := num_ok h2 k1.2.2.2.1
  cases h3 : num L mx p2 with
  | error e1 => simp only [h3] at h; cases h
  | ok x3 =>
  obtain ⟨B', p3⟩ := x3
  simp only [h3] at h
  have k3 := num_ok h3 k2.2.2.2.1
  cases h4 : num L mx p3 with
  | error e1 => simp only [h4] at h; cases h
  | ok x4 =>
  obtain ⟨C', p4'⟩ := x4
  simp only [h4] at h
  have k4 := num_ok h4 k3.2.2.2.1
  cases h5 : num L mx p4' with
  | error e1 => simp only [h5] at h; cases h
  | ok x5 =>
  obtain ⟨u', p5'⟩ := x5
  simp only [h5] at h
  have k5 := num_ok h5 k4.2.2.2.1
  injection h with h
  simp only [Prod.mk.injEq] at h
  obtain ⟨⟨rfl, rfl, rfl, rfl, rfl⟩, rfl, rfl⟩ := h
  have hb := unfold_bd k5.2.1
  obtain ⟨m0, m1, m2, m3, m4⟩ := mkC_eq (a := a') (A := A') (B := B') (C := C') (N := unfold u') (by omega) k2.2.1 k3.2.1 k4.2.1 hb.1 hb.2
  have hf : fc (mkC a' A' B' C' (unfold u')) = form a' ++ (form A' ++ (form B' ++ (form C' ++ form u'))) := by
    unfold fc
    rw [m0, m1, m2, m3, m4, fold_unfold]
    simp
  refine ⟨⟨k1.1, k2.2.1, k3.2.1, k4.2.1, k5.2.1⟩, by omega, by omega, k5.2.2.2.1, ?_, ?_⟩
  · rw [hf, k1.2.2.2.2, k2.2.2.2.2, k3.2.2.2.2, k4.2.2.2.2, k5.2.2.2.2]
    simp only [List.append_assoc]
  · rw [hf]
    simp only [List.length_append]
    omega
theorem bone_ok {L : List UInt8} {p : Option Cx} {at_ a : Nat} {c : Cx} (hl : at_ ≤ L.length) (h : bone L p at_ = .ok (c, a)) : wr1 c = 0 ∧ bh p c = true ∧ a ≤ L.length ∧ L.drop at_ = fc c ++ L.drop a ∧ a = at_ + (fc c).length := by
  unfold bone at h
  cases h1 : five L at_ with
  | error e => rw [h1] at h; cases h
  | ok x =>
    obtain ⟨⟨x1, x2, x3, x4, x5⟩, p4, p5⟩ := x
    rw [h1] at h
    obtain ⟨_, _, _, k1, k2, k3⟩ := five_ok hl h1
    simp only at h
    generalize mkC x1 x2 x3 x4 (unfold x5) = d at h k2 k3
    by_cases hw : wr1 d = 0
    · rw [if_neg (by simpa using hw)] at h
      cases hb : bh p d
      · rw [hb, if_pos rfl] at h; cases h
      · rw [hb, if_neg (by decide)] at h
        injection h with h
        simp only [Prod.mk.injEq] at h
        obtain ⟨rfl, rfl⟩ := h
        exact ⟨hw, hb, k1, k2, k3⟩
    · rw [if_pos hw] at h; cases h
theorem wr1_codes (c : Cx) : wr1 c = 0 ∨ wr1 c = 12 ∨ wr1 c = 31 := by
  unfold wr1
  split
  · simp
  · by_cases h : c.N = 0 <;> simp [h]
theorem bone_err {L : List UInt8} {p : Option Cx} {at_ : Nat} {e : Er} (hl : at_ ≤ L.length) (h : bone L p at_ = .error e) : e.1 ≤ L.length ∧ (e.2 = 30 ∨ e.2 = 31 ∨ e.2 = 12) := by
  unfold bone at h
  cases h1 : five L at_ with
  | error e' => rw [h1] at h; injection h with h; subst h; exact five_err hl h1
  | ok x =>
    obtain ⟨⟨x1, x2, x3, x4, x5⟩, p4, p5⟩ := x
    rw [h1] at h
    obtain ⟨_, _, k0, k1, k2, k3⟩ := five_ok hl h1
    simp only at h
    generalize mkC x1 x2 x3 x4 (unfold x5) = d at h k2 k3
    by_cases hw : wr1 d = 0
    · rw [if_neg (by simpa using hw)] at h
      cases hb : bh p d
      · rw [hb, if_pos rfl] at h; injection h with h; subst h; exact ⟨hl, by simp⟩
      · rw [hb, if_neg (by decide)] at h; cases h
    · rw [if_pos hw] at h
      injection h with h
      subst h
      refine ⟨by simp only; omega, ?_⟩
      rcases wr1_codes d with h | h | h
      · exact absurd h hw
      · simp [h]
      · simp [h]
theorem bmany_ok {L : List UInt8} (n : Nat) (acc : List Cx) (at_ : Nat) {l : List Cx} {a : Nat} (hl : at_ ≤ L.length) (hg : bgo none acc = 0) (h : bmany L n acc at_ = .ok (l, a)) :
    ∃ m, l = acc ++ m ∧ m.length = n ∧ bgo none l = 0 ∧ a ≤ L.length ∧ L.drop at_ = m.flatMap fc ++ L.drop a := by
  induction n generalizing acc at_ with
  | zero =>
    rw [bmany] at h
    injection h with h
    simp only [Prod.mk.injEq] at h
    obtain ⟨rfl, rfl⟩ := h
    exact ⟨[], by simp, rfl, hg, hl, by simp⟩
  | succ n ih =>
    rw [bmany] at h
    cases h1 : bone L acc.getLast? at_ with
    | error e => rw [h1] at h; cases h
    | ok x =>
      obtain ⟨c, a'⟩ := x
      rw [h1] at h
      obtain ⟨k1, k2, k3, k4, k5⟩ := bone_ok hl h1
      have hg' : bgo none (acc ++ [c]) = 0 := by
        rw [bgo_step acc c hg, if_neg (by simpa using k1), k2, if_neg (by decide)]
      obtain ⟨m, m1, m2, m3, m4, m5⟩ := ih (acc ++ [c]) a' k3 hg' h
      refine ⟨c :: m, by rw [m1]; simp, by simp [m2], m3, m4, ?_⟩
      rw [k4, m5, List.flatMap_cons, List.append_assoc]
theorem bmany_err {L : List UInt8} (n : Nat) (acc : List Cx) (at_ : Nat) {e : Er} (hl : at_ ≤ L.length) (h : bmany L n acc at_ = .error e) : e.1 ≤ L.length ∧ (e.2 = 30 ∨ e.2 = 31 ∨ e.2 = 12) := by
  induction n generalizing acc at_ with
  | zero => rw [bmany] at h; cases h
  | succ n ih =>
    rw [bmany] at h
    cases h1 : bone L acc.getLast? at_ with
    | error e' => rw [h1] at h; injection h with h; subst h; exact bone_err hl h1
    | ok x =>
      obtain ⟨c, a'⟩ := x
      rw [h1] at h
      exact ih (acc ++ [c]) a' (bone_ok hl h1).2.2.1 h
theorem bget_ok {L : List UInt8} {l : List Cx} (h : bget L = .ok l) : bgo none l = 0 ∧ bts l = L ∧ l.length < 18446744073709551616 ∧ 5 * l.length ≤ L.length := by
  unfold bget at h
  by_cases h0 : L = []
  · rw [if_pos h0] at h
    injection h with h
    subst h; subst h0
    exact ⟨rfl, rfl, by decide, by decide⟩
  · rw [if_neg h0] at h
    cases h1 : num L mx 0 with
    | error e => rw [h1] at h; cases h
    | ok x =>
      obtain ⟨n, a⟩ := x
      rw [h1] at h
      obtain ⟨_, k1, k2, k3, k4⟩ := num_ok h1 (Nat.zero_le _)
      by_cases hn : n = 0
      · simp only [if_pos hn] at h; cases h
      · simp only [if_neg hn] at h
        cases h2 : bmany L n [] a with
        | error e => rw [h2] at h; cases h
        | ok x =>
          obtain ⟨l', a'⟩ := x
          rw [h2] at h
          obtain ⟨m, m1, m2, m3, m4, m5⟩ := bmany_ok n [] a k3 rfl h2
          by_cases ha : a' < L.length
          · simp only [if_pos ha] at h; cases h
          · simp only [if_neg ha] at h
            injection h with h
            subst h
            rw [List.nil_append] at m1
            subst m1
            have hne : l' ≠ [] := fun e => by rw [e] at m2; simp at m2; omega
            have hL : L = bts l' := by
              rw [bts_ne hne, m2]
              rw [List.drop_zero] at k4
              rw [k4, m5, List.drop_of_length_le (by omega)]
              simp
            refine ⟨m3, hL.symm, by omega, ?_⟩
            rw [hL, bts_ne hne, List.length_append]
            have := fcs_ge l'
            omega
theorem bget_err {L : List UInt8} {e : Er} (h : bget L = .error e) : e.1 ≤ L.length ∧ (e.2 = 30 ∨ e.2 = 31 ∨ e.2 = 12 ∨ e.2 = 32) := by
  unfold bget at h
  by_cases h0 : L = []
  · rw [if_pos h0] at h; cases h
  · rw [if_neg h0] at h
    cases h1 : num L mx 0 with
    | error e' =>
      rw [h1] at h; injection h with h; subst h
      have := num_err h1
      exact ⟨by omega, by omega⟩
    | ok x =>
      obtain ⟨n, a⟩ := x
      rw [h1] at h
      obtain ⟨_, k1, k2, k3, k4⟩ := num_ok h1 (Nat.zero_le _)
      by_cases hn : n = 0
      · simp only [if_pos hn] at h
        injection h with h; subst h
        exact ⟨Nat.zero_le _, by simp⟩
      · simp only [if_neg hn] at h
        cases h2 : bmany L n [] a with
        | error e' =>
          rw [h2] at h; injection h with h; subst h
          have := bmany_err n [] a k3 h2
          exact ⟨this.1, by omega⟩
        | ok x =>
          obtain ⟨l', a'⟩ := x
          rw [h2] at h
          obtain ⟨m, m1, m2, m3, m4, m5⟩ := bmany_ok n [] a k3 rfl h2
          by_cases ha : a' < L.length
          · simp only [if_pos ha] at h
            injection h with h; subst h
            exact ⟨m4, by simp⟩
          · simp only [if_neg ha] at h; cases h
/-! A beginning of a list's bytes -/
theorem bone_take {L R : List UInt8} {p : Option Cx} {at_ m : Nat} {c : Cx} (h : L.drop at_ = (fc c ++ R).take m) (hw : wr1 c = 0) (hb : bh p c = true) :
    (m < (fc c).length ∧ ∃ q, bone L p at_ = .error (q, 30)) ∨ ((fc c).length ≤ m ∧ bone L p at_ = .ok (c, at_ + (fc c).length) ∧ L.drop (at_ + (fc c).length) = R.take (m - (fc c).length)) := by
  have hk := wr1_ok hw
  have ho := c.ok
  have hfl := fold_lt ho.2.2.1 ho.2.2.2
  have hlen : (fc c).length = (form c.pl.toNat).length + (form c.A).length + (form c.B).length + (form c.C).length + (form (fold c.N)).length := by
    unfold fc; simp only [List.length_append]; omega
  have h' := h
  unfold fc at h'
  simp only [List.append_assoc] at h'
  rcases num_take (most := 191) h' (by omega) (by omega) with ⟨l1, n1⟩ | ⟨l1, n1, d1⟩
  · exact Or.inl ⟨by omega, _, by unfold bone five; rw [n1]⟩
  rcases num_take (most := mx) d1 ho.2.1.1 (by unfold mx; omega) with ⟨l2, n2⟩ | ⟨l2, n2, d2⟩
  · refine Or.inl ⟨by omega, at_ + (form c.pl.toNat).length, ?_⟩
    unfold bone five; simp only [n1, n2]
  rcases num_take (most := mx) d2 ho.2.1.2.1 (by unfold mx; omega) with ⟨l3, n3⟩ | ⟨l3, n3, d3⟩
  · refine Or.inl ⟨by omega, at_ + (form c.pl.toNat).length + (form c.A).length, ?_⟩
    unfold bone five; simp only [n1, n2, n3]
  rcases num_take (most := mx) d3 ho.2.1.2.2 (by unfold mx; omega) with ⟨l4, n4⟩ | ⟨l4, n4, d4⟩
  · refine Or.inl ⟨by omega, at_ + (form c.pl.toNat).length + (form c.A).length + (form c.B).length, ?_⟩
    unfold bone five; simp only [n1, n2, n3, n4]
  rcases num_take (most := mx) d4 hfl (by unfold mx; omega) with ⟨l5, n5⟩ | ⟨l5, n5, d5⟩
  · refine Or.inl ⟨by omega, at_ + (form c.pl.toNat).length + (form c.A).length + (form c.B).length + (form c.C).length, ?_⟩
    unfold bone five; simp only [n1, n2, n3, n4, n5]
  · refine Or.inr ⟨by omega, ?_, ?_⟩
    · have hm : mkC c.pl.toNat c.A c.B c.C (unfold (fold c.N)) = c := by
        rw [unfold_fold]
        obtain ⟨m0, m1, m2, m3, m4⟩ := mkC_eq (a := c.pl.toNat) (A := c.A) (B := c.B) (C := c.C) (N := c.N) (by omega) ho.2.1.1 ho.2.1.2.1 ho.2.1.2.2 ho.2.2.1 ho.2.2.2
        exact Cx.ext' (by rw [m0]; omega) m1 m2 m3 m4
      unfold bone five
      simp only [n1, n2, n3, n4, n5, hm, hw, hb]
      rw [if_neg (by decide), if_neg (by decide), hlen]
      simp only [Nat.add_assoc]
    · rw [hlen]
      simp only [← Nat.add_assoc, ← Nat.sub_sub]
      exact d5
theorem bmany_take {L R : List UInt8} (l acc : List Cx) (at_ m : Nat) (h : L.drop at_ = (l.flatMap fc ++ R).take m) (hg : bgo acc.getLast? l = 0) :
    (m < (l.flatMap fc).length ∧ ∃ q, bmany L l.length acc at_ = .error (q, 30)) ∨ ((l.flatMap fc).length ≤ m ∧ bmany L l.length acc at_ = .ok (acc ++ l, at_ + (l.flatMap fc).length) ∧ L.drop (at_ + (l.flatMap fc).length) = R.take (m - (l.flatMap fc).length)) := by
  induction l generalizing acc at_ m with
  | nil => right; simp at h; simp [bmany, h]
  | cons c l ih =>
    obtain ⟨h1, h2, h3⟩ := bgo_cons hg
    rw [List.flatMap_cons, List.append_assoc] at h
    have hlen : ((c :: l).flatMap fc).length = (fc c).length + (l.flatMap fc).length := by rw [List.flatMap_cons, List.length_append]
    rcases bone_take h h1 h2 with ⟨a1, q, a2⟩ | ⟨a1, a2, a3⟩
    · refine Or.inl ⟨by omega, q, ?_⟩
      rw [List.length_cons, bmany, a2]
    · rcases ih (acc ++ [c]) (at_ + (fc c).length) (m - (fc c).length) a3 (by simpa using h3) with ⟨b1, q, b2⟩ | ⟨b1, b2, b3⟩
      · refine Or.inl ⟨by omega, q, ?_⟩
        rw [List.length_cons, bmany, a2]
        exact b2
      · refine Or.inr ⟨by omega, ?_, ?_⟩
        · rw [List.length_cons, bmany, a2]
          simp only
          rw [b2, hlen]
          simp [Nat.add_assoc]
        · rw [hlen, ← Nat.add_assoc, ← Nat.sub_sub]
          exact b3
theorem bget_take {L R : List UInt8} (l : List Cx) (m : Nat) (hne : l ≠ []) (hll : l.length < 18446744073709551616) (hg : bgo none l = 0) (hm : 0 < m) (h : L = (bts l ++ R).take m) :
    (m < (bts l).length ∧ ∃ q, bget L = .error (q, 30)) ∨ ((bts l).length ≤ m ∧ bget L = if (R.take (m - (bts l).length)) = [] then .ok l else .error ((bts l).length, 32)) := by
  have hb := bts_ne hne
  have hlen : (bts l).length = (form l.length).length + (l.flatMap fc).length := by rw [hb, List.length_append]
  have hpos := form_pos l.length
  have hL0 : L ≠ [] := fun e => by
    have := congrArg List.length h
    rw [e, List.length_take, List.length_append] at this
    simp at this
    omega
  have hd : L.drop 0 = (form l.length ++ (l.flatMap fc ++ R)).take m := by rw [List.drop_zero, h, hb, List.append_assoc]
  unfold bget
  rw [if_neg hL0]
  rcases num_take (most := mx) hd hll (by unfold mx; omega) with ⟨l1, n1⟩ | ⟨l1, n1, d1⟩
  · exact Or.inl ⟨by omega, 0, by rw [n1]⟩
  · have hn0 : ¬ l.length = 0 := fun e => hne (List.eq_nil_of_length_eq_zero e)
    rcases bmany_take l [] _ _ d1 hg with ⟨b1, q, b2⟩ | ⟨b1, b2, b3⟩
    · refine Or.inl ⟨by omega, q, ?_⟩
      simp only [n1, if_neg hn0, b2]
    · refine Or.inr ⟨by omega, ?_⟩
      simp only [n1, if_neg hn0, b2, List.nil_append]
      have e1 : 0 + (form l.length).length + (l.flatMap fc).length = (bts l).length := by omega
      rw [e1] at b3 ⊢
      rw [Nat.sub_sub, ← hlen] at b3
      rw [← b3]
      by_cases hlt : (bts l).length < L.length
      · rw [if_pos hlt, if_neg (fun e => by have := congrArg List.length e; rw [List.length_drop] at this; simp at this; omega)]
      · rw [if_neg hlt, if_pos (List.drop_of_length_le (by omega))]
/-- There and back. -/
theorem bget_bts (l : List Cx) (hll : l.length < 18446744073709551616) (hg : bgo none l = 0) : bget (bts l) = .ok l := by
  by_cases hne : l = []
  · subst hne; rfl
  · have hp : 0 < (bts l).length := by rw [bts_ne hne, List.length_append]; have := form_pos l.length; omega
    rcases bget_take (L := bts l) (R := []) l (bts l).length hne hll hg hp (by simp) with ⟨h, _⟩ | ⟨_, h⟩
    · omega
    · rw [h, if_pos (by simp)]
theorem bget_more (l : List Cx) (x : UInt8) (hne : l ≠ []) (hll : l.length < 18446744073709551616) (hg : bgo none l = 0) : bget (bts l ++ [x]) = .error ((bts l).length, 32) := by
  rcases bget_take (L := bts l ++ [x]) (R := [x]) l ((bts l).length + 1) hne hll hg (by omega) (by rw [List.take_of_length_le (by simp)]) with ⟨h, _⟩ | ⟨_, h⟩
  · omega
  · rw [h, if_neg (by simp)]
theorem bget_short (l : List Cx) (n : Nat) (hne : l ≠ []) (hll : l.length < 18446744073709551616) (hg : bgo none l = 0) (h0 : 0 < n) (h1 : n < (bts l).length) : ∃ q, bget ((bts l).take n) = .error (q, 30) ∧ q ≤ n := by
  rcases bget_take (L := (bts l).take n) (R := []) l n hne hll hg h0 (by simp) with ⟨_, q, h⟩ | ⟨h, _⟩
  · refine ⟨q, h, ?_⟩
    have := (bget_err h).1
    rw [List.length_take] at this
    simp only at this
    omega
  · omega
theorem bts_inj {l m : List Cx} (hl : l.length < 18446744073709551616) (hm : m.length < 18446744073709551616) (gl : bgo none l = 0) (gm : bgo none m = 0) (h : bts l = bts m) : l = m := by
  have h1 := bget_bts l hl gl
  rw [h, bget_bts m hm gm] at h1
  injection h1 with h1
  exact h1.symm
/-- Two of them the other way round. -/
theorem bgo_swap {a b : Cx} {l : List Cx} (h : bgo none (a :: b :: l) = 0) : bgo none (b :: a :: l) = 31 := by
  obtain ⟨h1, _, h2⟩ := bgo_cons h
  obtain ⟨h3, h4, _⟩ := bgo_cons h2
  rw [bgo_mk h3 rfl, bgo, if_neg (by simpa using h1)]
  have : bh (some b) a = false := by
    have h4' : lt4 a b := of_decide_eq_true h4
    exact decide_eq_false (lt4_not h4')
  rw [this, if_pos rfl]
end Go.Proofs.YtghofmhlmkpkcaaDoor.Wi
