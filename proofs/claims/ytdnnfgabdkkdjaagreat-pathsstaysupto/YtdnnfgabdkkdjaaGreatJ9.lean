import Derived.Test.YtdnnfgabdkkdjaaGreatJ8
import Derived.Laws.OwnMore
import Derived.Test.YtdnnfgabdkkdjaaGreatJ2
namespace Go.Proofs.YtdnnfgabdkkdjaaGreat.Lf
open Go.RowKit Go.Sort Pt
def EF : El Hf.Th where
 k := 4
 enc a := [.int .i64 a.1, .int .u64 a.2.1.1, .int .u64 a.2.1.2.1, .int .u64 a.2.1.2.2]
 len _ := rfl
 one x u hu := by
  simp at hu
  rcases hu with rfl | rfl | rfl | rfl <;> rfl
theorem EF_at {w : World} {v : Value} {ts : List Hf.Th} (h : Ls EF w v ts) {j : Nat} {x : Hf.Th} (hj : ts[j]? = some x) :
    ∃ b off c, v = .slice (some ⟨b, off, none⟩) ts.length c ∧ b < w.heap.size ∧ w.cell? ⟨b, off + j * 4, none⟩ = some (.int .i64 x.1) ∧ w.cell? ⟨b, off + j * 4 + 1, none⟩ = some (.int .u64 x.2.1.1) ∧ w.cell? ⟨b, off + j * 4 + 2, none⟩ = some (.int .u64 x.2.1.2.1) ∧ w.cell? ⟨b, off + j * 4 + 3, none⟩ = some (.int .u64 x.2.1.2.2) := by
 obtain ⟨b, off, c, hv, hb, hc⟩ := h.get hj
 exact ⟨b, off, c, hv, hb, hc 0 _ (by decide) rfl, hc 1 _ (by decide) rfl, hc 2 _ (by decide) rfl, hc 3 _ (by decide) rfl⟩
abbrev Vw := { v : Value // v.oneCell' = true }
def EV : El Vw where
 k := 1
 enc v := [v.1]
 len _ := rfl
 one x u hu := by simp at hu; subst hu; exact x.2
def Sp (w : World) (su : Value) (ss : List (List Hf.Th)) : Prop := ∃ vs : List Vw, Ls EV w su vs ∧ vs.length = ss.length ∧ ∀ (i : Nat) (v : Vw) (s : List Hf.Th), vs[i]? = some v → ss[i]? = some s → Ls EF w v.1 s
theorem Sp.below {w w' : World} {su : Value} {ss : List (List Hf.Th)} (h : Sp w su ss) (hb : Below w.heap.size w w') : Sp w' su ss := by
 obtain ⟨vs, h1, h2, h3⟩ := h
 exact ⟨vs, h1.below hb, h2, fun i v s hv hs => (h3 i v s hv hs).below hb⟩
theorem Sp.form {w : World} {su : Value} {ss : List (List Hf.Th)} (h : Sp w su ss) : ∃ p c, su = .slice p ss.length c := by
 obtain ⟨vs, h1, h2, h3⟩ := h
 rw [← h2]
 exact h1.form
theorem Sp.at {w : World} {p : Option Addr} {n c : Nat} {ss : List (List Hf.Th)} (h : Sp w (.slice p n c) ss) {i : Nat} {s : List Hf.Th} (hs : ss[i]? = some s) : ∃ b off q m, p = some ⟨b, off, none⟩ ∧ b < w.heap.size ∧ w.cell? ⟨b, off + i, none⟩ = some (.slice q s.length m) ∧ Ls EF w (.slice q s.length m) s := by
 obtain ⟨vs, h1, h2, h3⟩ := h
 obtain ⟨v, hv⟩ : ∃ v, vs[i]? = some v := ⟨vs[i]'(by rw [h2]; exact (List.getElem?_eq_some_iff.1 hs).1), by simp⟩
 have h4 := h3 i v s hv hs
 obtain ⟨q, m, e⟩ := h4.form
 obtain ⟨b, off, c', e2, hb, hc⟩ := h1.get hv
 simp only [Value.slice.injEq] at e2
 obtain ⟨rfl, -, rfl⟩ := e2
 have h5 := hc 0 _ (by decide) rfl
 have h6 : w.cell? ⟨b, off + i, none⟩ = some v.1 := by simpa [EV] using h5
 rw [e] at h6 h4
 exact ⟨b, off, q, m, rfl, hb, h6, h4⟩
theorem infoCp : (Tryz.prog.info? 98).map (fun i => (i.zero, i.size, i.bytes)) = some (some (.pointer none), 1, 8) := by kernel_rfl
theorem madeP (n : Nat) : (madeCells (Value.pointer none).cells (n * 1)).toList = fl EP (([] : List Nat).map some ++ List.replicate (n - ([] : List Nat).length) none) := by
 rw [Nat.mul_one, fl_EP]
 exact (toList_madeCells_one _ n).trans (by simp)
end Go.Proofs.YtdnnfgabdkkdjaaGreat.Lf

namespace Go.Proofs.YtdnnfgabdkkdjaaGreat.Lf
open Go.RowKit Go.Sort Pt
open Df (LV EL owns_rd owns_ne_own owns_one fl_setE)
structure Fw {α : Type} (E : El α) (T TT : TypeId) (B : Nat) (w : World) (v : Value) (vs : List LV) (L : Nat → List α) : Prop where
 row : w.ownsRow B TT 1 v vs.length (fl EL vs)
 each : ∀ (k : Nat) (x : LV), vs[k]? = some x → w.ownsRow B T E.k x.v (L k).length (fl E (L k))
 apart : ∀ (k : Nat) (x : LV), vs[k]? = some x → ∀ b, x.v.ownBlock = some b → ∀ (k' : Nat) (x' : LV), vs[k']? = some x' → x'.v.ownBlock = some b → k' = k
section
variable {α : Type} {E : El α} {T TT : TypeId} {B : Nat} {w w1 w' : World} {v : Value} {vs : List LV} {L L' : Nat → List α}
theorem Fw.below (h : Fw E T TT B w v vs L) (hb : Below w.heap.size w w') : Fw E T TT B w' v vs L := ⟨owns_below h.row hb, fun k x hk => owns_below (h.each k x hk) hb, h.apart⟩
theorem Fw.re (h : Fw E T TT B w v vs L) (hL : ∀ k, k < vs.length → L k = L' k) : Fw E T TT B w v vs L' := ⟨h.row, fun k x hk => by rw [← hL k (List.getElem?_eq_some_iff.1 hk).1]; exact h.each k x hk, h.apart⟩
theorem Fw.step (hTT : T ≠ TT) (h : Fw E T TT B w v vs L) {k pb pc g cap : Nat} {x : LV} (hk : vs[k]? = some x) (hpv : v = .slice (some ⟨pb, 0, none⟩) vs.length pc) {y : α}
    (h1 : w1.ownsRow B T E.k (.slice (some ⟨g, 0, none⟩) ((L k).length + 1) cap) ((L k).length + 1) (fl E (L k) ++ E.enc y)) (h2 : w.grownBy w1 x.v.ownBlock) (h3 : x.v.ownBlock = some g ∨ w.heap.size ≤ g) :
    Fw E T TT B (w1.setCell ⟨pb, k, none⟩ (.slice (some ⟨g, 0, none⟩) ((L k).length + 1) cap)) v (vs.set k ⟨some ⟨g, 0, none⟩, (L k).length + 1, cap⟩) (fun j => if j = k then L k ++ [y] else L j) ∧ Kp (fun j => v.ownBlock = some j ∨ x.v.ownBlock = some j) w (w1.setCell ⟨pb, k, none⟩ (.slice (some ⟨g, 0, none⟩) ((L k).length + 1) cap)) := by
 have hks := (List.getElem?_eq_some_iff.1 hk).1
 have K2 := Kp.grownBy (S := fun j => x.v.ownBlock = some j) h2 (fun _ h => h)
 have sp1 := owns_kp K2 h.row (fun j e e2 => owns_ne_own h.row (h.each k x hk) (Ne.symm hTT) j e e2)
 have sp2 := sp1
 rw [hpv] at sp2
 obtain ⟨so, sk⟩ := owns_one sp2 k (.slice (some ⟨g, 0, none⟩) ((L k).length + 1) cap)
 have hpb : v.ownBlock = some pb := by rw [hpv]; rfl
 have ne2 : ∀ {n : Nat} {u : Value} {us : List Value}, w1.ownsRow B T E.k u n us → (w1.setCell ⟨pb, k, none⟩ (.slice (some ⟨g, 0, none⟩) ((L k).length + 1) cap)).ownsRow B T E.k u n us := fun o => owns_kp sk o (fun j e e2 => owns_ne_own o sp1 hTT j e (by rw [e2]; exact hpb))
 have get : ∀ (j : Nat) (x' : LV), (vs.set k ⟨some ⟨g, 0, none⟩, (L k).length + 1, cap⟩)[j]? = some x' → (j = k ∧ x' = ⟨some ⟨g, 0, none⟩, (L k).length + 1, cap⟩) ∨ (j ≠ k ∧ vs[j]? = some x') := fun j x' hj => by
  rw [List.getElem?_set] at hj
  by_cases e : k = j
  ·subst e
   rw [if_pos rfl, if_pos hks] at hj
   exact Or.inl ⟨rfl, (Option.some.inj hj).symm⟩
  ·rw [if_neg e] at hj
   exact Or.inr ⟨fun e2 => e e2.symm, hj⟩
 have evlt : ∀ (j : Nat) (x' : LV), vs[j]? = some x' → ∀ b, x'.v.ownBlock = some b → b < w.heap.size := fun j x' hj b e => (owns_rd (h.each j x' hj) b e).2
 refine ⟨⟨?_, ?_, ?_⟩, ?_⟩
 ·rw [hpv]
  refine owns_re so (by simp) ?_
  have := fl_setE EL vs k 0 x ⟨some ⟨g, 0, none⟩, (L k).length + 1, cap⟩ (.slice (some ⟨g, 0, none⟩) ((L k).length + 1) cap) hk (by decide) rfl
  rw [show EL.k = 1 from rfl, Nat.mul_one, Nat.add_zero] at this
  exact this
 ·intro j x' hj
  rcases get j x' hj with ⟨rfl, rfl⟩ | ⟨hne, hj⟩
  ·simp only [if_true]
   exact owns_re (ne2 h1) (by simp) (by rw [fl_append, fl_one])
  ·simp only [if_neg hne]
   exact ne2 (owns_kp K2 (h.each j x' hj) (fun b e e2 => hne (h.apart k x hk b e2 j x' hj e)))
 ·intro j x' hj b hb
  rcases get j x' hj with ⟨rfl, rfl⟩ | ⟨hne, hj2⟩
  ·obtain rfl : g = b := by simpa [Value.ownBlock] using hb
   intro k' x' hk' e
   rcases get k' x' hk' with ⟨rfl, _⟩ | ⟨hne', hk'⟩
   ·rfl
   ·rcases h3 with h3 | h3
    ·exact h.apart j x hk g h3 k' x' hk' e
    ·have := evlt k' x' hk' g e; omega
  ·intro k' t hk' e
   rcases get k' t hk' with ⟨rfl, rfl⟩ | ⟨_, hk2⟩
   ·obtain rfl : g = b := by simpa [Value.ownBlock] using e
    rcases h3 with h3 | h3
    ·exact h.apart j x' hj2 g hb k' x hk h3
    ·have := evlt j x' hj2 g hb; omega
   ·exact h.apart j x' hj2 b hb k' t hk2 e
 ·exact (K2.mono (T := fun j => v.ownBlock = some j ∨ x.v.ownBlock = some j) (fun j e => Or.inr e)).trans sk (fun j _ e => Or.inl (by rw [e]; exact hpb))
theorem Fw.blocks (h : Fw E T TT B w v vs L) {k : Nat} {x : LV} (hk : vs[k]? = some x) : ∀ j, v.ownBlock = some j ∨ x.v.ownBlock = some j → B ≤ j := fun j e => by
 rcases e with e | e
 ·exact (owns_rd h.row j e).1
 ·exact (owns_rd (h.each k x hk) j e).1
theorem Fw.other (h : Fw E T TT B w v vs L) {k : Nat} {x : LV} (hk : vs[k]? = some x) (hK : Kp (fun j => v.ownBlock = some j ∨ x.v.ownBlock = some j) w w') {B2 : Nat} {T2 : TypeId} {size n : Nat} {u : Value} {us : List Value} (ho : w.ownsRow B2 T2 size u n us) (hT : T2 ≠ T) (hT2 : T2 ≠ TT) : w'.ownsRow B2 T2 size u n us :=
 owns_kp hK ho (fun j e e2 => by
  rcases e2 with e2 | e2
  ·exact owns_ne_own ho h.row hT2 j e e2
  ·exact owns_ne_own ho (h.each k x hk) hT j e e2)
end
theorem fl_EL (vs : List LV) : fl EL vs = vs.map LV.v := by
 induction vs with
 | nil => rfl
 | cons x l ih => rw [fl_cons, ih]; rfl
def LV.w (x : LV) : Vw := ⟨x.v, rfl⟩
theorem fl_EV (vs : List LV) : fl EV (vs.map LV.w) = fl EL vs := by
 induction vs with
 | nil => rfl
 | cons x l ih => rw [List.map_cons, fl_cons, fl_cons, ih]; rfl
theorem madeV (n : Nat) : (madeCells (Value.slice none 0 0).cells (n * 1)).toList = fl EL (List.replicate n ⟨none, 0, 0⟩) := by
 rw [Nat.mul_one, fl_EL]
 exact (toList_madeCells_one _ n).trans (by simp)
theorem Fw.made {α : Type} (E : El α) (T TT : TypeId) {B : Nat} {w1 : World} {n b c : Nat} (hrow : w1.ownsRow B TT 1 (.slice (some ⟨b, 0, none⟩) n c) n (madeCells (Value.slice none 0 0).cells (n * 1)).toList) : Fw E T TT B w1 (.slice (some ⟨b, 0, none⟩) n c) (List.replicate n ⟨none, 0, 0⟩) (fun _ => []) := by
 have hnil : ∀ (k : Nat) (x : LV), (List.replicate n (⟨none, 0, 0⟩ : LV))[k]? = some x → x = ⟨none, 0, 0⟩ := fun k x h => List.eq_of_mem_replicate (List.mem_of_getElem? h)
 refine ⟨?_, fun k x h => ?_, fun k x h b e => ?_⟩
 ·rw [List.length_replicate]
  rw [madeV] at hrow
  exact hrow
 ·rw [hnil k x h]
  exact World.ownsRow_nil _ _ _ _
 ·rw [hnil k x h] at e
  cases e
theorem Fw.cell {α : Type} {E : El α} {T TT : TypeId} {B : Nat} {w : World} {g n c : Nat} {vs : List LV} {L : Nat → List α} (h : Fw E T TT B w (.slice (some ⟨g, 0, none⟩) n c) vs L) (hn : vs.length = n) {k : Nat} (hk : k < n) : ∃ x : LV, vs[k]? = some x ∧ w.cell? ⟨g, k, none⟩ = some x.v ∧ g < w.heap.size ∧ x.m = (L k).length ∧ w.ownsRow B T E.k x.v (L k).length (fl E (L k)) := by
 obtain ⟨x, hx⟩ : ∃ x, vs[k]? = some x := ⟨vs[k]'(by omega), by simp⟩
 obtain ⟨b, off, c, hv, hb, hc⟩ := Df.ls_atL (owns_ls (E := EL) h.row) hx
 simp only [Value.slice.injEq, Option.some.injEq, Addr.mk.injEq] at hv
 obtain ⟨⟨rfl, rfl, -⟩, -, -⟩ := hv
 rw [Nat.zero_add] at hc
 exact ⟨x, hx, hc, hb, (Df.owns_caps (h.each k x hx) _ _ _ rfl).1, h.each k x hx⟩
theorem Fw.sp {T TT : TypeId} {B : Nat} {w : World} {v : Value} {vs : List LV} {L : Nat → List Hf.Th} (h : Fw EF T TT B w v vs L) : Sp w v ((List.range vs.length).map L) := by
 refine ⟨vs.map LV.w, owns_ls (E := EV) (e := TT) (base := B) ?_, by simp, fun i v' s hv hs => ?_⟩
 ·rw [fl_EV, List.length_map]
  exact h.row
 ·rw [List.getElem?_map] at hv
  cases e : vs[i]? with
  | none => rw [e] at hv; cases hv
  | some x =>
   rw [e] at hv
   cases hv
   have hi := (List.getElem?_eq_some_iff.1 e).1
   rw [List.getElem?_map, List.getElem?_range hi] at hs
   cases hs
   exact owns_ls (E := EF) (h.each i x e)
end Go.Proofs.YtdnnfgabdkkdjaaGreat.Lf

namespace Go.Proofs.YtdnnfgabdkkdjaaGreat.Lf
open Go.RowKit Go.Sort Pt
structure Pu (ss : List (List Hf.Th)) (p d : Nat) (rows : Nat → List Tri) (L : List Hf.It) (np : Nat) : Prop where
 iv : Iv PX (Sts ss) p rows (opn L)
 rg : Rg ss.length L
 sm : ∀ q, (rows q).length ≤ 64
 nb : np ≤ 1 + tot ss.length rows * d
 ln : L.length ≤ np
section
variable {ss : List (List Hf.Th)} {s : List Hf.Th} {p d q0 k np np' : Nat} {w : Tri} {rows : Nat → List Tri} {R L L' : List Hf.It}
theorem Pu.init (hp : p < ss.length) : Pu ss p d (fun _ => []) [(((p : Int), PX.z), 0)] 1 := by
 refine ⟨by simpa [opn] using Iv.init (X := PX) (St := Sts ss) (p := p), fun x hx => ?_, fun _ => Nat.zero_le _, by omega, Nat.le_refl _⟩
 simp only [List.mem_singleton] at hx
 subst hx
 exact ⟨p, hp, rfl⟩
theorem Pu.bd (h : Pu ss p d rows L np) (hM : (64 * ss.length * (d + 1) + 2) * 40 ≤ 140737488355328) : np ≤ 64 * ss.length * (d + 1) + 1 ∧ L.length ≤ 64 * ss.length * (d + 1) + 1 ∧ (L.length + 1) * 40 ≤ 140737488355328 ∧ np + 1 < 18446744073709551616 := by
 have h1 := tot_le (n := ss.length) (m := 64) (rows := rows) (fun q _ => h.sm q)
 have h2 : tot ss.length rows * d ≤ 64 * ss.length * (d + 1) := Nat.mul_le_mul h1 (Nat.le_succ d)
 have h3 := h.nb
 have h4 := h.ln
 refine ⟨by omega, by omega, by omega, by omega⟩
theorem Pu.skip (h : Pu ss p d rows L np) (hp : ((((q0 : Int), w), k) :: R).Perm L) (hc : Cov PX (rows q0) w) : Pu ss p d rows R np ∧ mes ss.length d rows R.length < mes ss.length d rows L.length := by
 have h0 : ∀ x, x ∈ opn L ↔ x = (q0, w) ∨ x ∈ opn R := fun x => by
  rw [← opn_perm hp x, opn_cons]
  simp
 have hl : R.length + 1 = L.length := by simpa using hp.length_eq
 refine ⟨⟨h.iv.skip (fun x hx => (h0 x).1 hx) (fun x hx => (h0 x).2 (Or.inr hx)) hc, fun x hx => h.rg x (hp.mem_iff.1 (List.mem_cons_of_mem _ hx)), h.sm, h.nb, by have := h.ln; omega⟩, ?_⟩
 unfold mes
 omega
theorem Pu.take (h : Pu ss p d rows L np) (hp : ((((q0 : Int), w), k) :: R).Perm L) (hk : ∀ x ∈ R, Hf.kf ((q0 : Int), w) < Hf.kf x.1 ∨ (Hf.kf ((q0 : Int), w) = Hf.kf x.1 ∧ k < x.2)) (hc : ¬ Cov PX (rows q0) w) (hs : ss[q0]? = some s) (hd : s.length ≤ d) (h64 : (rows q0).length + 1 ≤ 64)
    (hi : Inn s ss.length w (put1 rows q0 w) R L' s.length) (hn1 : np' ≤ np + s.length) (hn2 : L'.length ≤ np') : Pu ss p d (put1 rows q0 w) L' np' ∧ mes ss.length d (put1 rows q0 w) L'.length < mes ss.length d rows L.length := by
 have hq : q0 < ss.length := (List.getElem?_eq_some_iff.1 hs).1
 have hl : R.length + 1 = L.length := by simpa using hp.length_eq
 have hsm : ∀ q, (put1 rows q0 w q).length ≤ 64 := fun q => by
  unfold put1
  split
  ·rename_i e
   subst e
   simpa using h64
  ·exact h.sm q
 refine ⟨⟨hi.fin h.iv hp (first_out hp hk) hc hs, hi.rg, hsm, ?_, hn2⟩, ?_⟩
 ·rw [tot_put1, if_pos hq, Nat.add_mul, Nat.one_mul]
  have := h.nb
  omega
 ·exact mes_take hq (fun q _ => hsm q) (by omega) (by have := hi.cnt; omega)
theorem Pu.wide (h : Pu ss p d rows L np) (hp : ((((q0 : Int), w), k) :: R).Perm L) (hk : ∀ x ∈ R, Hf.kf ((q0 : Int), w) < Hf.kf x.1 ∨ (Hf.kf ((q0 : Int), w) = Hf.kf x.1 ∧ k < x.2)) (hc : ¬ Cov PX (rows q0) w) (h64 : 64 < (rows q0).length + 1) : Res PX (Sts ss) p none := by
 obtain ⟨o, ho⟩ := take_all h.iv hp (first_out hp hk) hc
 exact ho.wide PX_ok (q := q0) (by unfold put1; rw [if_pos rfl]; simpa using h64)
theorem Pu.fin (h : Pu ss p d rows [] np) : Res PX (Sts ss) p (some rows) := Iv.fin PX_ok h.iv h.sm
theorem Pu.ins (h : Pu ss p d rows L np) (hp : ((((q0 : Int), w), k) :: R).Perm L) : cins Pc.bel Pc.tol (rows q0) w = if ccov Pc.bel (rows q0) w then rows q0 else rows q0 ++ [w] :=
 cins_iv Pc.bel_px Pc.tol_px PX_ok h.iv (by rw [← opn_perm hp, opn_cons]; simp)
end
end Go.Proofs.YtdnnfgabdkkdjaaGreat.Lf

namespace Go.Proofs.YtdnnfgabdkkdjaaGreat.Df
open Go.RowKit Go.Sort
def fnL (n : Nat) (f : Nat → Int) : List Int := (List.range n).map f
theorem fnL_len (n : Nat) (f : Nat → Int) : (fnL n f).length = n := by simp [fnL]
theorem fnL_get {n : Nat} (f : Nat → Int) {k : Nat} (h : k < n) : (fnL n f)[k]? = some (f k) := by simp [fnL, h]
def upd (f : Nat → Int) (k : Nat) (x : Int) : Nat → Int := fun j => if j = k then x else f j
theorem fnL_set (n : Nat) (f : Nat → Int) (k : Nat) (x : Int) : (fnL n f).set k x = fnL n (upd f k x) := by
 refine List.ext_getElem? fun j => ?_
 rw [List.getElem?_set]
 by_cases hj : j < n
 ·by_cases e : k = j
  ·subst e
   rw [if_pos rfl, if_pos (by rw [fnL_len]; exact hj), fnL_get _ hj]
   simp [upd]
  ·rw [if_neg e, fnL_get _ hj, fnL_get _ hj]
   have : ¬ j = k := fun h => e h.symm
   simp [upd, this]
 ·have h2 : (fnL n (upd f k x))[j]? = none := List.getElem?_eq_none (by rw [fnL_len]; omega)
  rw [h2]
  split
  ·rw [if_neg (by rw [fnL_len]; omega)]
  ·exact List.getElem?_eq_none (by rw [fnL_len]; omega)
theorem fnL_ext {n : Nat} {f g : Nat → Int} (h : ∀ k, k < n → f k = g k) : fnL n f = fnL n g := by
 unfold fnL
 exact List.map_congr_left fun k hk => h k (List.mem_range.1 hk)
theorem fnL_zero (n : Nat) : List.replicate n (0 : Int) = fnL n (fun _ => 0) := by
 refine List.ext_getElem? fun j => ?_
 by_cases hj : j < n
 ·rw [fnL_get _ hj]
  simp [hj]
 ·rw [List.getElem?_eq_none (by simp; omega), List.getElem?_eq_none (by rw [fnL_len]; omega)]
def zeroN (n : Nat) (f : Nat → Int) : Option Nat := (List.range n).find? fun k => f k == 0
def stepN (ls : List (List Int)) (f : Nat → Int) (p : Nat) : Nat → Int := fun k => (if k = p then -1 else f k) - (((ls[p]?).getD []).count (k : Int) : Nat)
def ordN (n : Nat) (ls : List (List Int)) : Nat → Option (List Int × (Nat → Int))
 | 0 => some ([], fun k => (cntL ls (k : Int) : Nat))
 | t + 1 => match ordN n ls t with
  | none => none
  | some (o, f) => match zeroN n f with
   | none => none
   | some p => some (o ++ [(p : Int)], stepN ls f p)
end Go.Proofs.YtdnnfgabdkkdjaaGreat.Df
