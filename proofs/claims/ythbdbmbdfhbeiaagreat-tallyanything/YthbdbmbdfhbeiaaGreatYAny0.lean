import Derived.Test.YthbdbmbdfhbeiaaGreatYKeysP
import Derived.Test.YthbdbmbdfhbeiaaGreatYKeysM
import Derived.Test.YthbdbmbdfhbeiaaGreatYKn2U
namespace Go.Proofs.YthbdbmbdfhbeiaaGreat
open Go.RowKit Go.Sort Go.Maps
open Mm (Sz st st_inj cfz swoZ totZ lt_cfz)

/-- What is counted of stamps behind k rounds. -/
def fu (k : Nat) (s : Sm) : Int := if s.1.2 = (0, 0, 0) ∧ 0 ≤ s.1.1 ∧ s.1.1 < k then s.1.1 + 1 else 0
theorem fu_zero : fu 0 = fun _ => 0 := by
  funext s
  unfold fu
  rw [if_neg (by omega)]
theorem fu_st (k : Nat) (z : Sz) : fu k (st z) = if z.1 < k then (z.1 : Int) + 1 else 0 := by
  unfold fu st
  by_cases h : z.1 < k
  · rw [if_pos h, if_pos ⟨rfl, by simp only; omega, by simp only; omega⟩]
  · rw [if_neg h, if_neg (by rintro ⟨_, _, h3⟩; simp only at h3; omega)]
theorem fu_ne {k : Nat} (hk : k ≤ 1000) {s : Sm} (h : fu k s ≠ 0) : ∃ z, s = st z ∧ z.1 < k := by
  unfold fu at h
  split at h
  · rename_i hc
    obtain ⟨h1, h2, h3⟩ := hc
    refine ⟨⟨s.1.1.toNat, by omega⟩, ?_, by simp only; omega⟩
    obtain ⟨⟨a, b⟩, hp⟩ := s
    simp only at h1 h2
    subst h1
    apply Subtype.ext
    unfold st
    simp only [Prod.mk.injEq, and_true]
    omega
  · exact absurd rfl h
theorem fu_succ (k : Nat) (hk : k < 1000) : upd (fu k) (st ⟨k, hk⟩) ((k : Int) + 1) = fu (k + 1) := by
  funext s
  by_cases e : s = st ⟨k, hk⟩
  · subst e
    rw [upd_same, fu_st, if_pos (by simp)]
  · rw [upd_other _ _ e]
    unfold fu
    by_cases h1 : s.1.2 = (0, 0, 0) ∧ 0 ≤ s.1.1 ∧ s.1.1 < k
    · rw [if_pos h1, if_pos ⟨h1.1, h1.2.1, by omega⟩]
    · rw [if_neg h1, if_neg]
      rintro ⟨h2, h3, h4⟩
      refine h1 ⟨h2, h3, ?_⟩
      by_cases h5 : s.1.1 = k
      · refine absurd ?_ e
        obtain ⟨⟨a, b⟩, hp⟩ := s
        simp only at h2 h5
        subst h2 h5
        rfl
      · omega
/-- Place n. -/
def zn (n : Nat) : Sz := if h : n < 1000 then ⟨n, h⟩ else ⟨0, by decide⟩
theorem zn_val {n : Nat} (h : n < 1000) : (zn n).1 = n := by unfold zn; rw [dif_pos h]
def zl (k : Nat) : List Sz := (List.range k).map zn
theorem zl_length (k : Nat) : (zl k).length = k := by simp [zl]
theorem zl_get {k i : Nat} (hi : i < k) : (zl k)[i]? = some (zn i) := by simp [zl, hi]
theorem zl_sorted {k : Nat} (hk : k ≤ 1000) : (zl k).Pairwise fun a b => a.1 < b.1 := by
  unfold zl
  rw [List.pairwise_map]
  refine List.pairwise_lt_range.imp_of_mem fun {a b} ha hb hab => ?_
  have h1 := List.mem_range.1 ha
  have h2 := List.mem_range.1 hb
  rw [zn_val (by omega), zn_val (by omega)]
  exact hab
theorem zl_nodup {k : Nat} (hk : k ≤ 1000) : (zl k).Nodup := (zl_sorted hk).imp fun {a b} h e => by subst e; omega
theorem zl_mem {k : Nat} (hk : k ≤ 1000) (z : Sz) : z ∈ zl k ↔ z.1 < k := by
  unfold zl
  rw [List.mem_map]
  constructor
  · rintro ⟨n, hn, rfl⟩
    have := List.mem_range.1 hn
    rw [zn_val (by omega)]; exact this
  · intro h
    refine ⟨z.1, List.mem_range.2 h, ?_⟩
    apply Subtype.ext
    exact zn_val z.2
theorem fu_sup {k : Nat} (hk : k ≤ 1000) {zs : List Sz} (h : Sup (fu k) (zs.map st)) : Q.srtBy cfz zs = zl k := by
  have hnd : zs.Nodup := by
    have := h.1
    rw [List.Nodup, List.pairwise_map] at this
    exact this.imp fun {a b} hab e => hab (by rw [e])
  have hperm : zs.Perm (zl k) := by
    refine (List.perm_ext_iff_of_nodup hnd (zl_nodup hk)).2 fun z => ?_
    rw [zl_mem hk]
    have h1 := h.2 (st z)
    rw [fu_st, List.mem_map] at h1
    constructor
    · intro hz
      have h2 := h1.1 ⟨z, hz, rfl⟩
      by_cases h3 : z.1 < k
      · exact h3
      · rw [if_neg h3] at h2; exact absurd rfl h2
    · intro hz
      obtain ⟨y, hy, e⟩ := h1.2 (by rw [if_pos hz]; omega)
      rw [← st_inj e]; exact hy
  rw [Q.srtBy_of_perm swoZ totZ hperm]
  refine List.Perm.eq_of_pairwise (le := fun x y => (!(ltOf cfz) y x) = true) (fun x y _ _ h1 h2 => ?_) (Q.srtBy_sorted swoZ _) ((zl_sorted hk).imp fun {a b} hab => ?_) (Q.srtBy_perm cfz _)
  · simp only [Bool.not_eq_true'] at h1 h2
    exact totZ x y h2 h1
  · rw [lt_cfz]; simp; omega
theorem fu_len {k : Nat} (hk : k ≤ 1000) {ks : List Sm} (h : Sup (fu k) ks) : ks.length = k := by
  obtain ⟨zs, rfl⟩ := Mm.pre_st (ss := ks) fun s hs => by
    obtain ⟨z, hz, _⟩ := fu_ne hk ((h.2 s).1 hs)
    exact ⟨z, hz⟩
  have := congrArg List.length (fu_sup hk h)
  rw [Q.srtBy_length, zl_length] at this
  rw [List.length_map, this]

/-- What the law holds: the tally of pairs, the document's, the tally of stamps. -/
structure All (w0 W : World) (tb b ub bu : Nat) (r : Rf) (f : Pr → Int) (N : List Rk) (C : List Int) (n k : Nat) : Prop where
  t : Pp.Tl W tb b 5 n f
  u : Mm.Tl W ub bu 7 k (fu k)
  rt : RT W r 0 N C
  rel : Pp.Rel f N C
  few : N.length ≤ n
  sep : ∀ q, r.own q → q ≠ tb ∧ q ≠ b ∧ q ≠ ub ∧ q ≠ bu ∧ w0.heap.size ≤ q
  s1 : b ≠ ub
  s2 : b ≠ bu
  s3 : bu ≠ tb
  l1 : w0.heap.size ≤ b
  l2 : w0.heap.size ≤ bu
  size : w0.heap.size ≤ W.heap.size
  below : Below w0.heap.size w0 W
section
variable {w0 W W' : World} {tb b ub bu : Nat} {r r' : Rf} {f f' : Pr → Int} {N N' : List Rk} {C C' : List Int} {n k : Nat}
theorem All.kept (h : All w0 W tb b ub bu r f N C n k) (hb : Below W.heap.size W W') : All w0 W' tb b ub bu r f N C n k :=
  ⟨h.t.below hb, h.u.below hb, h.rt.bel hb, h.rel, h.few, h.sep, h.s1, h.s2, h.s3, h.l1, h.l2, Nat.le_trans h.size hb.size, h.below.trans (hb.mono h.size)⟩
/-- Both tallies are turned. -/
theorem All.both (h : All w0 W tb b ub bu r f N C n k) {W1 W2 : World} (ht : Pp.Tl W1 tb b 5 (n + 1) f') (hk1 : Kp (fun q => q = b) W W1) (h12 : Gr W1 W2) (hr : RT W' r' 0 N' C') (hk2 : Kp r.own W2 W') (hown : ∀ q, r'.own q → r.own q ∨ W2.heap.size ≤ q)
    (hrel : Pp.Rel f' N' C') (hfew : N'.length ≤ N.length + 1) : All w0 W' tb b ub bu r' f' N' C' (n + 1) k := by
  have z1 := hk1.size
  have z2 := h12.size
  have hbo : ¬ r.own b := fun e => (h.sep b e).2.1 rfl
  have htb : ¬ r.own tb := fun e => (h.sep tb e).1 rfl
  have hub : ¬ r.own ub := fun e => (h.sep ub e).2.2.1 rfl
  have hbu : ¬ r.own bu := fun e => (h.sep bu e).2.2.2.1 rfl
  have hu2 : Mm.Tl W2 ub bu 7 k (fu k) := (h.u.kp hk1 (fun e => h.s1 e.symm) (fun e => h.s2 e.symm)).gr h12
  have hB1 : Below w0.heap.size w0 W1 := h.below.trans (hk1.below h.size (fun q e => by rw [e]; exact h.l1))
  have hB2 : Below w0.heap.size w0 W2 := hB1.trans (h12.below.mono (Nat.le_trans h.size z1))
  refine ⟨(ht.gr h12).kp hk2 htb hbo, hu2.kp hk2 hub hbu, hr, hrel, by have := h.few; omega, fun q hq => ?_, h.s1, h.s2, h.s3, h.l1, h.l2, Nat.le_trans (Nat.le_trans (Nat.le_trans h.size z1) z2) hk2.size, hB2.trans (hk2.below (Nat.le_trans (Nat.le_trans h.size z1) z2) (fun q hq => (h.sep q hq).2.2.2.2))⟩
  rcases hown q hq with h1 | h1
  · exact h.sep q h1
  · have a1 := h.t.lt
    have a2 := h.t.ta.lt
    have a3 := h.u.lt
    have a4 := h.u.ta.lt
    have a5 := h.size
    exact ⟨by omega, by omega, by omega, by omega, by omega⟩
/-- The stamps are turned. -/
theorem All.stamp (h : All w0 W tb b ub bu r f N C n k) (hu : Mm.Tl W' ub bu 7 (k + 1) (fu (k + 1))) (hk : Kp (fun q => q = bu) W W') : All w0 W' tb b ub bu r f N C n (k + 1) :=
  ⟨h.t.kp hk (fun e => h.s3 e.symm) h.s2, hu, h.rt.kp hk (fun q hq e => (h.sep q hq).2.2.2.1 e), h.rel, h.few, h.sep, h.s1, h.s2, h.s3, h.l1, h.l2, Nat.le_trans h.size hk.size, h.below.trans (hk.below h.size (fun q e => by rw [e]; exact h.l2))⟩
end
end Go.Proofs.YthbdbmbdfhbeiaaGreat
