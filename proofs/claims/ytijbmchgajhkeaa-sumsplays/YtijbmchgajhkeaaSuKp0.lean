import Derived.Test.YtijbmchgajhkeaaSuLk0
import Derived.Test.YtijbmchgajhkeaaSuAp
import Derived.Test.YtijbmchgajhkeaaSuFill2
import Derived.Test.YtijbmchgajhkeaaSuCopy2
namespace Go.Proofs.Ytijbmchgajhkeaa
open Go.RowKit Go.Sort Go.Maps Go.Shelf

/-- A row, and between which blocks it lies. -/
structure Own (W : World) (e : TypeId) (s : Nat) (v : Value) (n : Nat) (xs : List Value) (lo hi : Nat) : Prop where
  row : W.ownsRow lo e s v n xs
  up : ∀ g, v.ownBlock = some g → g < hi
section
variable {W W' : World} {e : TypeId} {s : Nat} {v : Value} {n : Nat} {xs : List Value} {lo hi : Nat}
theorem Own.kp {S : Nat → Prop} (h : Own W e s v n xs lo hi) (hk : Kp S W W') (hS : ∀ k, S k → k < lo ∨ hi ≤ k) : Own W' e s v n xs lo hi :=
  ⟨owns_kp hk h.row (fun k hk' e => by have h1 := (h.row.lt k hk').1; have h2 := h.up k hk'; rcases hS k e with h3 | h3 <;> omega), h.up⟩
theorem Own.below (h : Own W e s v n xs lo hi) (hb : Below W.heap.size W W') : Own W' e s v n xs lo hi := ⟨owns_below h.row hb, h.up⟩
theorem Own.mk' (h : W.ownsRow lo e s v n xs) : Own W e s v n xs lo W.heap.size := ⟨h, fun g hg => (h.lt g hg).2⟩
theorem Own.bd (h : Own W e s v n xs lo hi) {g : Nat} (hg : v.ownBlock = some g) : lo ≤ g ∧ g < hi := ⟨(h.row.lt g hg).1, h.up g hg⟩
theorem Own.z (h : Own W e s v n xs lo hi) : W.ownsRow 0 e s v n xs := owns_base h.row (Nat.zero_le _)
end
@[reducible] def pick5 {α : Type} (a b c d e : α) : Nat → α
  | 0 => a
  | 1 => b
  | 2 => c
  | 3 => d
  | _ => e
theorem five {P : Nat → Prop} (h0 : P 0) (h1 : P 1) (h2 : P 2) (h3 : P 3) (h4 : P 4) : ∀ i, i < 5 → P i := fun i hi => by
  have : i = 0 ∨ i = 1 ∨ i = 2 ∨ i = 3 ∨ i = 4 := by omega
  rcases this with rfl | rfl | rfl | rfl | rfl <;> assumption
theorem far_of {V : Nat → Value} {lo hi : Nat → Nat} (hb : ∀ i, i < 5 → ∀ g, (V i).ownBlock = some g → lo i ≤ g ∧ g < hi i) (hs : ∀ i, i < 5 → ∀ j, j < 5 → i < j → hi i ≤ lo j) : ∀ i j, i < 5 → j < 5 → i ≠ j → ∀ g, (V i).ownBlock = some g → (V j).ownBlock ≠ some g := fun i j hi' hj hne g h1 h2 => by
  have a := hb i hi' g h1
  have b := hb j hj g h2
  rcases Nat.lt_or_ge i j with h | h
  · have := hs i hi' j hj h; omega
  · have := hs j hj i hi' (by omega); omega
/-- Rows as elements. -/
abbrev Vw := { v : Value // v.oneCell' = true }
instance : Inhabited Vw := ⟨⟨.slice none 0 0, rfl⟩⟩
def EV : El Vw where
  k := 1
  enc v := [v.1]
  len _ := rfl
  one x u hu := by simp at hu; subst hu; exact x.2
def vw (p : Option Addr) (n c : Nat) : Vw := ⟨.slice p n c, rfl⟩
/-- The cells of a row of rows. -/
theorem rows_at {w : World} {base : Nat} {e : TypeId} {p : Option Addr} {n c : Nat} {xs : List Value} (h : w.ownsRow base e 1 (.slice p n c) n xs) (hn : 0 < n) : ∃ g, p = some ⟨g, 0, none⟩ ∧ g < w.heap.size ∧ base ≤ g ∧ ∀ i v, xs[i]? = some v → w.cell? ⟨g, i, none⟩ = some v := by
  obtain ⟨_, ⟨_, h1⟩ | ⟨ga, cap, cur, h0, hbg, hgg, _⟩⟩ := id h
  · omega
  · simp only [Value.slice.injEq] at h0
    refine ⟨ga, h0.1, (Array.getElem?_eq_some_iff.1 hgg).1, hbg, fun i v hv => ?_⟩
    have := h.cells (g := ga) (by rw [h0.1]; rfl) i v hv
    rw [addA, Nat.zero_add] at this
    exact this
/-- Behind n lists that were told, and what they should be. -/
structure Tw (Z : Nat) (W : World) (n : Nat) (tv uv : Value) (V U : Nat → Value) (D : Nat → List Rc) : Prop where
  r1 : W.ownsRow Z 33 1 tv n ((List.range n).map V)
  r2 : W.ownsRow Z 33 1 uv n ((List.range n).map U)
  own : ∀ i, i < n → W.ownsRow Z 37 2 (V i) (D i).length (fl ER (D i))
  ls : ∀ i, i < n → Ls ER W (U i) (D i) ∧ ∀ g, (U i).ownBlock = some g → Z ≤ g
  far : ∀ i j, i < n → j < n → i ≠ j → ∀ g, (V i).ownBlock = some g → (V j).ownBlock ≠ some g
  nt : ∀ i, i < n → ∀ g, (V i).ownBlock = some g → tv.ownBlock ≠ some g ∧ uv.ownBlock ≠ some g
  nu : ∀ i, i < n → ∀ g, (U i).ownBlock = some g → tv.ownBlock ≠ some g ∧ uv.ownBlock ≠ some g
  tu : ∀ g, tv.ownBlock = some g → uv.ownBlock ≠ some g
  bd : ∀ i, i < n → (D i).length ≤ 900
section
variable {Z n : Nat} {W W' : World} {tv uv tv' uv' x y u1 u2 : Value} {V U : Nat → Value} {D : Nat → List Rc} {R : List Rc}
theorem Tw.nil (Z : Nat) (W : World) (V U : Nat → Value) (D : Nat → List Rc) : Tw Z W 0 (.slice none 0 0) (.slice none 0 0) V U D :=
  ⟨World.ownsRow_nil _ _ _ _, World.ownsRow_nil _ _ _ _, fun i h => absurd h (Nat.not_lt_zero _), fun i h => absurd h (Nat.not_lt_zero _), fun i j h => absurd h (Nat.not_lt_zero _), fun i h => absurd h (Nat.not_lt_zero _), fun i h => absurd h (Nat.not_lt_zero _), fun g h => by simp [Value.ownBlock] at h, fun i h => absurd h (Nat.not_lt_zero _)⟩
theorem Tw.kp {S : Nat → Prop} (h : Tw Z W n tv uv V U D) (hk : Kp S W W') (hS : ∀ k, S k → k < Z) : Tw Z W' n tv uv V U D :=
  ⟨owns_kp hk h.r1 fun k hk' e => by have := (h.r1.lt k hk').1; have := hS k e; omega, owns_kp hk h.r2 fun k hk' e => by have := (h.r2.lt k hk').1; have := hS k e; omega,
   fun i hi => owns_kp hk (h.own i hi) fun k hk' e => by have := ((h.own i hi).lt k hk').1; have := hS k e; omega,
   fun i hi => ⟨hk.ls (h.ls i hi).1 fun k hk' e => by have := (h.ls i hi).2 k hk'; have := hS k e; omega, (h.ls i hi).2⟩, h.far, h.nt, h.nu, h.tu, h.bd⟩
theorem Tw.below (h : Tw Z W n tv uv V U D) (hb : Below W.heap.size W W') : Tw Z W' n tv uv V U D := h.kp (S := fun _ => False) (Kp.of_below hb) fun _ h => h.elim
/-- Two more are told. -/
theorem Tw.told (h : Tw Z W n tv uv V U D) {W1 W2 : World} (ht : Tw Z W1 n tv uv V U D) (hZ : Z ≤ W.heap.size) (hs1 : W.heap.size ≤ W1.heap.size) (hx : W1.ownsRow W.heap.size 37 2 x R.length (fl ER R)) (hy : W1.ownsRow W.heap.size 37 2 y R.length (fl ER R)) (hxy : ∀ g, x.ownBlock = some g → y.ownBlock ≠ some g)
    (hr : W2.ownsRow Z 33 1 tv' (n + 2) ((List.range n).map V ++ [x, y])) (hk : Kp (fun q => tv.ownBlock = some q) W1 W2) (hl : ∀ g, tv'.ownBlock = some g → tv.ownBlock = some g ∨ W1.heap.size ≤ g)
    {W3 W4 : World} (h3 : Below W2.heap.size W2 W3) (hu1 : Ls ER W3 u1 R) (hu1l : ∀ g, u1.ownBlock = some g → W2.heap.size ≤ g) (hu2 : Ls ER W3 u2 R) (hu2l : ∀ g, u2.ownBlock = some g → W2.heap.size ≤ g)
    (hq : W4.ownsRow Z 33 1 uv' (n + 2) ((List.range n).map U ++ [u1, u2])) (hk4 : Kp (fun q => uv.ownBlock = some q) W3 W4) (hl4 : ∀ g, uv'.ownBlock = some g → uv.ownBlock = some g ∨ W3.heap.size ≤ g) (hR : R.length ≤ 900) :
    Tw Z W4 (n + 2) tv' uv' (fun i => if i < n then V i else if i = n then x else y) (fun i => if i < n then U i else if i = n then u1 else u2) (fun i => if i < n then D i else R) := by
  have hs2 := hk.size
  have hs3 := h3.size
  have hs4 := hk4.size
  have bV : ∀ i, i < n → ∀ g, (V i).ownBlock = some g → g < W.heap.size := fun i hi g hg => ((h.own i hi).lt g hg).2
  have bU : ∀ i, i < n → ∀ g, (U i).ownBlock = some g → g < W.heap.size := fun i hi g hg => (h.ls i hi).1.blk g hg
  have bt : ∀ g, tv.ownBlock = some g → g < W.heap.size := fun g hg => (h.r1.lt g hg).2
  have bu : ∀ g, uv.ownBlock = some g → g < W.heap.size := fun g hg => (h.r2.lt g hg).2
  have bx : ∀ g, x.ownBlock = some g → W.heap.size ≤ g ∧ g < W1.heap.size := fun g hg => hx.lt g hg
  have by' : ∀ g, y.ownBlock = some g → W.heap.size ≤ g ∧ g < W1.heap.size := fun g hg => hy.lt g hg
  have keep : ∀ v : Value, (∀ g, v.ownBlock = some g → tv.ownBlock ≠ some g ∧ uv.ownBlock ≠ some g) → ∀ {base e s m} {xs : List Value}, W1.ownsRow base e s v m xs → W4.ownsRow base e s v m xs := fun v hv base e s m xs ho =>
    owns_kp hk4 (owns_below (owns_kp hk ho fun g hg e => (hv g hg).1 e) h3) fun g hg e => (hv g hg).2 e
  have keepL : ∀ v : Value, (∀ g, v.ownBlock = some g → tv.ownBlock ≠ some g ∧ uv.ownBlock ≠ some g) → ∀ {l : List Rc}, Ls ER W1 v l → Ls ER W4 v l := fun v hv l ho =>
    hk4.ls ((hk.ls ho fun g hg e => (hv g hg).1 e).below h3) fun g hg e => (hv g hg).2 e
  have far2 : ∀ v : Value, (∀ g, v.ownBlock = some g → W.heap.size ≤ g) → ∀ g, v.ownBlock = some g → tv.ownBlock ≠ some g ∧ uv.ownBlock ≠ some g := fun v hv g hg => ⟨fun e => by have := hv g hg; have := bt g e; omega, fun e => by have := hv g hg; have := bu g e; omega⟩
  refine ⟨?_, ?_, fun i hi => ?_, fun i hi => ?_, fun i j hi hj hne g h5 h6 => ?_, fun i hi g hg => ?_, fun i hi g hg => ?_, fun g hg e => ?_, fun i hi => ?_⟩
  · have e : (List.range (n + 2)).map (fun i => if i < n then V i else if i = n then x else y) = (List.range n).map V ++ [x, y] := by
      rw [show n + 2 = (n + 1) + 1 from rfl, List.range_succ, List.range_succ, List.map_append, List.map_append, List.append_assoc]
      congr 1
      · exact List.map_congr_left fun i hi => if_pos (List.mem_range.1 hi)
      · have h9 : ¬ n + 1 < n := by omega
        simp [h9]
    rw [e]
    refine owns_kp hk4 (owns_below hr h3) fun g hg e => ?_
    rcases hl g hg with h7 | h7
    · exact h.tu g h7 e
    · have := bu g e; omega
  · have e : (List.range (n + 2)).map (fun i => if i < n then U i else if i = n then u1 else u2) = (List.range n).map U ++ [u1, u2] := by
      rw [show n + 2 = (n + 1) + 1 from rfl, List.range_succ, List.range_succ, List.map_append, List.map_append, List.append_assoc]
      congr 1
      · exact List.map_congr_left fun i hi => if_pos (List.mem_range.1 hi)
      · have h9 : ¬ n + 1 < n := by omega
        simp [h9]
    rw [e]
    exact hq
  · show W4.ownsRow Z _ 2 (if i < n then V i else if i = n then x else y) (if i < n then D i else R).length (fl ER (if i < n then D i else R))
    split
    · rename_i hin; exact keep _ (h.nt i hin) (ht.own i hin)
    · split
      · exact keep _ (far2 x fun g hg => (bx g hg).1) (owns_base hx hZ)
      · exact keep _ (far2 y fun g hg => (by' g hg).1) (owns_base hy hZ)
  · show Ls ER W4 (if i < n then U i else if i = n then u1 else u2) (if i < n then D i else R) ∧ ∀ g, (if i < n then U i else if i = n then u1 else u2).ownBlock = some g → Z ≤ g
    split
    · rename_i hin; exact ⟨keepL _ (h.nu i hin) (ht.ls i hin).1, (h.ls i hin).2⟩
    · split
      · exact ⟨hk4.ls hu1 fun g hg e => by have := hu1l g hg; have := bu g e; omega, fun g hg => by have := hu1l g hg; omega⟩
      · exact ⟨hk4.ls hu2 fun g hg e => by have := hu2l g hg; have := bu g e; omega, fun g hg => by have := hu2l g hg; omega⟩
  · by_cases hi1 : i < n
    · rw [if_pos hi1] at h5
      by_cases hj1 : j < n
      · rw [if_pos hj1] at h6
        exact h.far i j hi1 hj1 hne g h5 h6
      · rw [if_neg hj1] at h6
        have := bV i hi1 g h5
        split at h6
        · have := (bx g h6).1; omega
        · have := (by' g h6).1; omega
    · rw [if_neg hi1] at h5
      by_cases hj1 : j < n
      · rw [if_pos hj1] at h6
        have := bV j hj1 g h6
        split at h5
        · have := (bx g h5).1; omega
        · have := (by' g h5).1; omega
      · rw [if_neg hj1] at h6
        split at h5
        · split at h6
          · omega
          · exact hxy g h5 h6
        · split at h6
          · exact hxy g h6 h5
          · omega
  · have hv : tv.ownBlock ≠ some g ∧ uv.ownBlock ≠ some g ∧ g < W1.heap.size := by
      split at hg
      · rename_i hin; exact ⟨(h.nt i hin g hg).1, (h.nt i hin g hg).2, by have := bV i hin g hg; omega⟩
      · split at hg
        · exact ⟨(far2 x (fun g hg => (bx g hg).1) g hg).1, (far2 x (fun g hg => (bx g hg).1) g hg).2, (bx g hg).2⟩
        · exact ⟨(far2 y (fun g hg => (by' g hg).1) g hg).1, (far2 y (fun g hg => (by' g hg).1) g hg).2, (by' g hg).2⟩
    refine ⟨fun e => ?_, fun e => ?_⟩
    · rcases hl g e with h7 | h7
      · exact hv.1 h7
      · have := hv.2.2; omega
    · rcases hl4 g e with h7 | h7
      · exact hv.2.1 h7
      · have := hv.2.2; omega
  · have hv : (tv.ownBlock ≠ some g ∧ uv.ownBlock ≠ some g ∧ g < W1.heap.size) ∨ (W2.heap.size ≤ g ∧ g < W3.heap.size) := by
      split at hg
      · rename_i hin; exact .inl ⟨(h.nu i hin g hg).1, (h.nu i hin g hg).2, by have := bU i hin g hg; omega⟩
      · split at hg
        · exact .inr ⟨hu1l g hg, hu1.blk g hg⟩
        · exact .inr ⟨hu2l g hg, hu2.blk g hg⟩
    have b2 := fun g hg => (hr.lt g hg).2
    refine ⟨fun e => ?_, fun e => ?_⟩
    · rcases hl g e with h7 | h7
      · rcases hv with hv | hv
        · exact hv.1 h7
        · have := bt g h7; omega
      · have := b2 g e
        rcases hv with hv | hv <;> omega
    · rcases hl4 g e with h7 | h7
      · rcases hv with hv | hv
        · exact hv.2.1 h7
        · have := bu g h7; omega
      · rcases hv with hv | hv <;> omega
  · have b2 := (hr.lt g hg).2
    rcases hl4 g e with h7 | h7
    · rcases hl g hg with h8 | h8
      · exact h.tu g h8 h7
      · have := bu g h7; omega
    · omega
  · split
    · rename_i hin; exact h.bd i hin
    · exact hR
end
theorem Two.kp {w W W' : World} {Sa Sb S : Nat → Prop} {Z N sa sb : Nat} {A B : List Ct} (h : Two w Sa Sb Z N sa sb A B W) (hk : Kp S W W') (hS : ∀ k, S k → Z ≤ k) (hw : w.heap.size ≤ Z) : Two w Sa Sb Z N sa sb A B W' :=
  ⟨h.a.kp hk fun k h1 h2 => by have h3 := h.up k (.inl h1); have h4 := hS k h2; omega, h.b.kp hk fun k h1 h2 => by have h3 := h.up k (.inr h1); have h4 := hS k h2; omega, h.bl.trans (hk.below h.bl.size fun k h1 => Nat.le_trans hw (hS k h1)), h.da, h.lo, h.up, Nat.le_trans h.hz hk.size⟩
end Go.Proofs.Ytijbmchgajhkeaa
