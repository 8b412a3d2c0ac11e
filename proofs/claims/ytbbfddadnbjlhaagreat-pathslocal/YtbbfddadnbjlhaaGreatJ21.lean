import Derived.Test.YtbbfddadnbjlhaaGreatJ20
import Derived.BigQuiet
import Derived.Test.YtbbfddadnbjlhaaGreatJ18
namespace Go.Proofs.YtbbfddadnbjlhaaGreat.Lf
open Go.RowKit Go.Sort Pt
open Df (hid Gph plN Gok GR NV Edg gof gvc Gcap EI tk_store tk_lt owns_form owns_caps)
attribute [local go_sem ↓] Go.wp_at_zero Go.wp_at_succ
theorem bt_len {g : Gph} {R : Nat → Nat → List Tri} (h : ∀ p, p < plN g.nodes → Res PX (StG g) p (some (R p))) (p q : Int) : (bt (plN g.nodes) R p q).length ≤ 64 := by
 unfold bt
 split
 ·rename_i hc
  exact (h p.toNat (by omega) q.toNat).2.2
 ·exact Nat.zero_le _
section
variable {M M2 tb rb n : Nat} {R : Nat → Nat → List Tri} {sv : Value} {l : List Hf.Th} {W : World}
end
end Go.Proofs.YtbbfddadnbjlhaaGreat.Lf

namespace Go.Proofs.YtbbfddadnbjlhaaGreat.Lf
open Go.RowKit Go.Sort Pt
open Df (Gph plN)
theorem wy_least {St : Nat → Nat → Tri → Prop} {p q : Nat} : ∀ (n : Nat) (a : Tri), (a.1.1 + a.1.2.1 + a.1.2.2).toNat ≤ n → Wy PX St p q a → ∃ m, Lea PX St p q m ∧ PX.ahd m a := by
 classical
 intro n
 induction n with
 | zero =>
  intro a ha hw
  refine ⟨a, ⟨hw, fun b _ hb => ?_⟩, PX_ok.refl a⟩
  have h1 := tri_bd a
  have h2 := tri_bd b
  obtain ⟨k1, k2, k3⟩ := hb
  exact tri_ext (by omega) (by omega) (by omega)
 | succ n ih =>
  intro a ha hw
  by_cases h : ∃ b, Wy PX St p q b ∧ PX.ahd b a ∧ b ≠ a
  ·obtain ⟨b, hb, hba, hne⟩ := h
   have h1 := tri_bd a
   have h2 := tri_bd b
   have hlt : (b.1.1 + b.1.2.1 + b.1.2.2).toNat ≤ n := by
    obtain ⟨k1, k2, k3⟩ := hba
    have : ¬ (b.1.1 = a.1.1 ∧ b.1.2.1 = a.1.2.1 ∧ b.1.2.2 = a.1.2.2) := fun e => hne (tri_ext e.1 e.2.1 e.2.2)
    omega
   obtain ⟨m, hm, hmb⟩ := ih b hlt hb
   exact ⟨m, hm, PX_ok.trans hmb hba⟩
  ·refine ⟨a, ⟨hw, fun b hb hba => ?_⟩, PX_ok.refl a⟩
   by_cases e : b = a
   ·exact e
   ·exact absurd ⟨b, hb, hba, e⟩ h
theorem res_cov {St : Nat → Nat → Tri → Prop} {p : Nat} {rows : Nat → List Tri} (h : Res PX St p (some rows)) (q : Nat) (a : Tri) (ha : Wy PX St p q a) : Cov PX (rows q) a := by
 obtain ⟨m, hm, hma⟩ := wy_least _ a (Nat.le_refl _) ha
 exact ⟨m, ((h q).2.1 m).2 hm, hma⟩
section
variable {St : Nat → Nat → Tri → Prop} {n : Nat} {R : Nat → Nat → List Tri}
end
end Go.Proofs.YtbbfddadnbjlhaaGreat.Lf

namespace Go.Proofs.YtbbfddadnbjlhaaGreat.Lf
open Go.RowKit Go.Sort Pt
open Df (Gph plN Con Gok stR PthT)
section
variable {St : Nat → Nat → Tri → Prop} {n : Nat} {R : Nat → Nat → List Tri}
end
theorem tmod_bd2 (x : Int) {m : Int} (hm : 0 < m) : -m < x.tmod m ∧ x.tmod m < m := by
 by_cases h0 : 0 ≤ x
 ·have h1 := Int.tmod_nonneg m h0
  have h2 := Int.tmod_lt_of_pos x hm
  omega
 ·have h1 : (-x).tmod m = -(x.tmod m) := Int.neg_tmod _ _
  have h2 := Int.tmod_nonneg m (a := -x) (by omega)
  have h3 := Int.tmod_lt_of_pos (-x) hm
  omega
theorem tri_of {p : Df.Pth} (h : PthT p) : (tri p).1 = ((p.1 : Int), (p.2.1 : Int), (p.2.2 : Int)) := by
 unfold tri
 rw [dif_pos h]
end Go.Proofs.YtbbfddadnbjlhaaGreat.Lf

namespace Go.Proofs.YtbbfddadnbjlhaaGreat.Lf
open Go.RowKit Go.Sort Pt
open Df (Gph plN Gok stR)
theorem z_ahd (a : Tri) : PX.ahd PX.z a := by
 have h := tri_bd a
 exact ⟨h.1.1, h.2.1.1, h.2.2.1⟩
theorem ahd_z {a : Tri} (h : PX.ahd a PX.z) : a = PX.z := by
 obtain ⟨h1, h2, h3⟩ := h
 have hb := tri_bd a
 have z1 : PX.z.1.1 = 0 := rfl
 have z2 : PX.z.1.2.1 = 0 := rfl
 have z3 : PX.z.1.2.2 = 0 := rfl
 exact tri_ext (by omega) (by omega) (by omega)
section
variable {St : Nat → Nat → Tri → Prop} {p : Nat} {rows : Nat → List Tri}
theorem res_self (h : Res PX St p (some rows)) : rows p = [PX.z] := by
 have hz : PX.z ∈ rows p := ((h p).2.1 PX.z).2 ⟨.nil, fun b _ hb => ahd_z hb⟩
 have ha : ∀ a ∈ rows p, a = PX.z := fun a ha => by
  have := ((h p).2.1 a).1 ha
  exact (this.2 PX.z .nil (z_ahd a)).symm
 have hp := (h p).1
 cases e : rows p with
 | nil => rw [e] at hz; cases hz
 | cons a l =>
  rw [e] at ha hp
  cases l with
  | nil => rw [ha a (by simp)]
  | cons b l =>
   have h1 := (List.pairwise_cons.1 hp).1 b (by simp)
   rw [ha a (by simp), ha b (by simp)] at h1
   exact absurd h1 (PX_ok.irr _)
theorem res_step (h : Res PX St p (some rows)) {q q' : Nat} {a b x : Tri} (ha : a ∈ rows q) (hs : St q q' b) (hx : thn3 a b = some x) : Wy PX St p q' x := .step (((h q).2.1 a).1 ha).1 hs hx
theorem res_last (h : Res PX St p (some rows)) {q : Nat} (hq : q ≠ p) {k : Tri} (hk : k ∈ rows q) : ∃ q0 a b, a ∈ rows q0 ∧ St q0 q b ∧ thn3 a b = some k := by
 have hl := ((h q).2.1 k).1 hk
 have hw := hl.1
 cases hw with
 | nil => exact absurd rfl hq
 | @step q0 _ a b _ h1 h2 h3 =>
  obtain ⟨c, hc, hca⟩ := res_cov h q0 a h1
  obtain ⟨e, he, hek⟩ := PX_ok.mono hca h3
  have := hl.2 e (res_step h hc h2 he) hek
  rw [this] at he
  exact ⟨q0, c, b, hc, h2, he⟩
theorem res_told (h : Res PX St p (some rows)) {q i j : Nat} {a b : Tri} (hi : (rows q)[i]? = some a) (hj : (rows q)[j]? = some b) (hij : i < j) : PX.tld a b := by
 have h1 := (List.getElem?_eq_some_iff.1 hi)
 have h2 := (List.getElem?_eq_some_iff.1 hj)
 obtain ⟨h3, h4⟩ := h1
 obtain ⟨h5, h6⟩ := h2
 have := List.pairwise_iff_getElem.1 (h q).1 i j h3 h5 hij
 rw [h4, h6] at this
 exact this
theorem res_apart (h : Res PX St p (some rows)) {q i j : Nat} {a b : Tri} (hi : (rows q)[i]? = some a) (hj : (rows q)[j]? = some b) (hij : i ≠ j) : ¬ PX.ahd a b := fun ha => by
 have h1 := ((h q).2.1 b).1 (List.mem_of_getElem? hj)
 have e := h1.2 a (((h q).2.1 a).1 (List.mem_of_getElem? hi)).1 ha
 subst e
 rcases Nat.lt_or_gt_of_ne hij with h2 | h2
 ·exact PX_ok.irr _ (res_told h hi hj h2)
 ·exact PX_ok.irr _ (res_told h hj hi h2)
end
structure Md (St : Nat → Nat → Tri → Prop) (sr : List Df.Con) (R0 : Nat → List Tri) (p i j : Nat) (L : Nat → List Tri) : Prop where
 sound : ∀ q x, x ∈ L q → Wy PX St p q x
 compl : ∀ (i' j' : Nat) (c : Df.Con) (a x : Tri), sr[i']? = some c → (R0 c.inn.toNat)[j']? = some a → (i' < i ∨ (i' = i ∧ j' < j)) → thn3 a (tri c.via) = some x → x ∈ L c.out.toNat
 len : ∀ q, (L q).length ≤ 64 * i + j
section
variable {St : Nat → Nat → Tri → Prop} {sr : List Df.Con} {R0 : Nat → List Tri} {p i j : Nat} {L : Nat → List Tri}
theorem Md.zero : Md St sr R0 p 0 0 (fun _ => []) := ⟨(fun q x h => by cases h), (fun i' j' c a x _ _ h => by omega), fun q => by simp⟩
theorem Md.skip (h : Md St sr R0 p i j L) {c : Df.Con} {a : Tri} (hc : sr[i]? = some c) (ha : (R0 c.inn.toNat)[j]? = some a) (hx : thn3 a (tri c.via) = none) : Md St sr R0 p i (j + 1) L := by
 refine ⟨h.sound, fun i' j' c' a' x h1 h2 h3 h4 => ?_, fun q => by have := h.len q; omega⟩
 by_cases e : i' = i ∧ j' = j
 ·obtain ⟨rfl, rfl⟩ := e
  rw [hc] at h1
  cases h1
  rw [ha] at h2
  cases h2
  rw [hx] at h4
  cases h4
 ·exact h.compl i' j' c' a' x h1 h2 (by omega) h4
theorem Md.put (h : Md St sr R0 p i j L) {c : Df.Con} {a x : Tri} {q : Nat} (hc : sr[i]? = some c) (ha : (R0 c.inn.toNat)[j]? = some a) (hx : thn3 a (tri c.via) = some x) (hq : c.out = (q : Int)) (hw : Wy PX St p q x) : Md St sr R0 p i (j + 1) (fun r => if r = q then L q ++ [x] else L r) := by
 refine ⟨fun r y hy => ?_, fun i' j' c' a' y h1 h2 h3 h4 => ?_, fun r => ?_⟩
 ·by_cases e : r = q
  ·subst e
   simp only [if_true] at hy
   rcases List.mem_append.1 hy with hy | hy
   ·exact h.sound r y hy
   ·rw [List.mem_singleton] at hy
    rw [hy]
    exact hw
  ·simp only [if_neg e] at hy
   exact h.sound r y hy
 ·by_cases e : i' = i ∧ j' = j
  ·obtain ⟨rfl, rfl⟩ := e
   rw [hc] at h1
   cases h1
   rw [ha] at h2
   cases h2
   rw [hx] at h4
   cases h4
   rw [hq, Int.toNat_natCast]
   simp
  ·have := h.compl i' j' c' a' y h1 h2 (by omega) h4
   by_cases e2 : c'.out.toNat = q
   ·rw [e2] at this ⊢
    simp only [if_true]
    exact List.mem_append_left _ this
   ·simp only [if_neg e2]
    exact this
 ·have h1 := h.len r
  have h2 := h.len q
  by_cases e : r = q
  ·subst e
   simp only [if_true, List.length_append, List.length_singleton]
   omega
  ·simp only [if_neg e]
   omega
theorem Md.next (h : Md St sr R0 p i j L) {c : Df.Con} (hc : sr[i]? = some c) (hj : (R0 c.inn.toNat).length = j) (h64 : j ≤ 64) : Md St sr R0 p (i + 1) 0 L := by
 refine ⟨h.sound, fun i' j' c' a' x h1 h2 h3 h4 => ?_, fun q => by have := h.len q; omega⟩
 by_cases e : i' = i
 ·subst e
  rw [hc] at h1
  cases h1
  have := (List.getElem?_eq_some_iff.1 h2).1
  exact h.compl i' j' c a' x hc h2 (by omega) h4
 ·exact h.compl i' j' c' a' x h1 h2 (by omega) h4
theorem Md.cov (hr : Res PX St p (some R0)) (h : Md St sr R0 p i j L) {q : Nat} {x : Tri} (hx : x ∈ L q) : Cov PX (R0 q) x := res_cov hr q x (h.sound q x hx)
end
theorem Md.has {g : Gph} {R0 : Nat → List Tri} {p : Nat} {L : Nat → List Tri} (hr : Res PX (StG g) p (some R0)) (h : Md (StG g) (stR g) R0 p (stR g).length 0 L) {q : Nat} (hq : q ≠ p) {k : Tri} (hk : k ∈ R0 q) : k ∈ L q := by
 obtain ⟨q0, a, b, ha, hs, hx⟩ := res_last hr hq hk
 obtain ⟨_, c, hc, h1, h2, h3⟩ := sts_ssL.1 hs
 obtain ⟨i', hi⟩ := List.mem_iff_getElem?.1 hc
 obtain ⟨j', hj⟩ := List.mem_iff_getElem?.1 ha
 have := h.compl i' j' c a k hi (by rw [h1, Int.toNat_natCast]; exact hj) (Or.inl (List.getElem?_eq_some_iff.1 hi).1) (by rw [h3]; exact hx)
 rw [h2, Int.toNat_natCast] at this
 exact this
theorem stR_at {g : Gph} (hok : Gok g) (hP : Gpt g) {i : Nat} {c : Df.Con} (hc : (stR g)[i]? = some c) : ∃ q q', q < plN g.nodes ∧ q' < plN g.nodes ∧ c.inn = (q : Int) ∧ c.out = (q' : Int) ∧ StG g q q' (tri c.via) ∧ Df.PthT c.via := by
 have hm := List.mem_of_getElem? hc
 obtain ⟨⟨q, hq, hi⟩, q', hq', ho⟩ := stR_lt hok hm
 exact ⟨q, q', hq, hq', hi, ho, sts_ssL.2 ⟨hq, c, hm, hi, ho, rfl⟩, stR_pth hP hm⟩
end Go.Proofs.YtbbfddadnbjlhaaGreat.Lf
