import Derived.Test.YtjppkehnjnmbnaaGreatJ19
import Derived.BigQuiet
import Derived.Test.YtjppkehnjnmbnaaGreatJ17
namespace Go.Proofs.YtjppkehnjnmbnaaGreat.Lf
open Go.RowKit Go.Sort Pt
open Df (hid LV EL EI infoI tk_store tk_lt)
attribute [local go_sem ↓] Go.wp_at_zero Go.wp_at_succ
theorem sm_row1 {w : World} {b c : Nat} {s : Hf.Th} (hb : w.heap[b]? = some (.cells #[.int .i64 s.1, .int .u64 s.2.1.1, .int .u64 s.2.1.2.1, .int .u64 s.2.1.2.2] 52 (0, 0))) : Ls EF w (.slice (some ⟨b, 0, none⟩) 1 c) [s] := by
 refine Or.inr ⟨b, 0, c, rfl, tk_lt hb, fun j u hj => ?_⟩
 rw [Nat.zero_add, (tk_store hb).1, ← Array.getElem?_toList]
 exact hj
theorem any_onL (bl : List Tri) (s u : Tri) : (onL bl s).any (fun y => Pc.bel y u) = bl.any (cldP s u) := by
 induction bl with
 | nil => rfl
 | cons b l ih =>
  unfold onL at ih ⊢
  rw [List.filterMap_cons, List.any_cons, ← ih]
  cases h : thn3 b s with
  | none => simp [cldP, h]
  | some c => simp [cldP, h, thv_some h]
theorem cld_front {n : Nat} {R : Nat → Nat → List Tri} (s u : Hf.Th) : ccov Pc.bel (frt (allT n R u.1 [s])) u.2 = (bt n R s.1 u.1).any (cldP s.2 u.2) := by
 unfold frt
 rw [cov_all Pc.ords, ← any_onL]
 simp [allT]
end Go.Proofs.YtjppkehnjnmbnaaGreat.Lf

namespace Go.Proofs.YtjppkehnjnmbnaaGreat.Lf
open Go.RowKit Go.Sort Pt
open Df (hid Gph plN Gok GR NV Edg gof gvc Gcap EI tk_store tk_lt owns_form owns_caps)
attribute [local go_sem ↓] Go.wp_at_zero Go.wp_at_succ
theorem bt_len {g : Gph} {R : Nat → Nat → List Tri} (h : ∀ p, p < plN g.nodes → Res PX (StG g) p (some (R p))) (p q : Int) : (bt (plN g.nodes) R p q).length ≤ 64 := by
 unfold bt
 split
 ·rename_i hc
  exact (h p.toNat (by omega) q.toNat).2.2
 ·exact Nat.zero_le _
section
variable {M M2 tb rb n : Nat} {R : Nat → Nat → List Tri} {sv : Value} {l : List Hf.Th} {W : World}
end
end Go.Proofs.YtjppkehnjnmbnaaGreat.Lf

namespace Go.Proofs.YtjppkehnjnmbnaaGreat.Lf
open Go.RowKit Go.Sort Pt
open Df (Gph plN)
theorem wy_least {St : Nat → Nat → Tri → Prop} {p q : Nat} : ∀ (n : Nat) (a : Tri), (a.1.1 + a.1.2.1 + a.1.2.2).toNat ≤ n → Wy PX St p q a → ∃ m, Lea PX St p q m ∧ PX.ahd m a := by
 classical
 intro n
 induction n with
 | zero =>
  intro a ha hw
  refine ⟨a, ⟨hw, fun b _ hb => ?_⟩, PX_ok.refl a⟩
  have h1 := tri_bd a
  have h2 := tri_bd b
  obtain ⟨k1, k2, k3⟩ := hb
  exact tri_ext (by omega) (by omega) (by omega)
 | succ n ih =>
  intro a ha hw
  by_cases h : ∃ b, Wy PX St p q b ∧ PX.ahd b a ∧ b ≠ a
  ·obtain ⟨b, hb, hba, hne⟩ := h
   have h1 := tri_bd a
   have h2 := tri_bd b
   have hlt : (b.1.1 + b.1.2.1 + b.1.2.2).toNat ≤ n := by
    obtain ⟨k1, k2, k3⟩ := hba
    have : ¬ (b.1.1 = a.1.1 ∧ b.1.2.1 = a.1.2.1 ∧ b.1.2.2 = a.1.2.2) := fun e => hne (tri_ext e.1 e.2.1 e.2.2)
    omega
   obtain ⟨m, hm, hmb⟩ := ih b hlt hb
   exact ⟨m, hm, PX_ok.trans hmb hba⟩
  ·refine ⟨a, ⟨hw, fun b hb hba => ?_⟩, PX_ok.refl a⟩
   by_cases e : b = a
   ·exact e
   ·exact absurd ⟨b, hb, hba, e⟩ h
theorem res_cov {St : Nat → Nat → Tri → Prop} {p : Nat} {rows : Nat → List Tri} (h : Res PX St p (some rows)) (q : Nat) (a : Tri) (ha : Wy PX St p q a) : Cov PX (rows q) a := by
 obtain ⟨m, hm, hma⟩ := wy_least _ a (Nat.le_refl _) ha
 exact ⟨m, ((h q).2.1 m).2 hm, hma⟩
def cldB (n : Nat) (R : Nat → Nat → List Tri) (s u : Hf.Th) : Bool := (bt n R s.1 u.1).any (cldP s.2 u.2)
theorem cldP_iff {s u b : Tri} : cldP s u b = true ↔ ∃ c, thn3 b s = some c ∧ PX.ahd c u := by
 unfold cldP
 rw [Bool.and_eq_true]
 cases h : thn3 b s with
 | none => simp
 | some c =>
  rw [thv_some h, Pc.bel_iff]
  constructor
  ·rintro ⟨_, k⟩
   exact ⟨c, rfl, k⟩
  ·rintro ⟨d, e, k⟩
   cases e
   exact ⟨rfl, k⟩
section
variable {St : Nat → Nat → Tri → Prop} {n : Nat} {R : Nat → Nat → List Tri}
theorem cldB_iff (h : ∀ p, p < n → Res PX St p (some (R p))) {i j : Nat} (hi : i < n) (hj : j < n) {t u : Tri} : cldB n R ((i : Int), t) ((j : Int), u) = true ↔ Cld St i t j u := by
 rw [Cld.least (h i hi) (res_cov (h i hi))]
 unfold cldB
 rw [bt_in hi hj, List.any_eq_true]
 constructor
 ·rintro ⟨b, hb, k⟩
  exact ⟨b, hb, cldP_iff.1 k⟩
 ·rintro ⟨b, hb, k⟩
  exact ⟨b, hb, cldP_iff.2 k⟩
end
end Go.Proofs.YtjppkehnjnmbnaaGreat.Lf

namespace Go.Proofs.YtjppkehnjnmbnaaGreat.Lf
open Go.RowKit Go.Sort Pt
open Df (Gph plN Con Gok stR PthT)
theorem way_step {St : Nat → Nat → Tri → Prop} {p q q' : Nat} {a b t now next : Tri} (h : Wy PX St p q a) (h1 : thn3 a t = some now) (hs : St q q' b) (h2 : thn3 b now = some next) : ∃ c, Wy PX St p q' c ∧ thn3 c t = some next := by
 obtain ⟨a1, a2, a3⟩ := thn3_some h1
 obtain ⟨b1, b2, b3⟩ := thn3_some h2
 have bt := tri_bd t
 have bn := tri_bd next
 obtain ⟨c, hc⟩ := thn3_of (a := a) (b := b) ⟨by omega, by omega, by omega⟩
 obtain ⟨c1, c2, c3⟩ := thn3_some hc
 obtain ⟨d, hd⟩ := thn3_of (a := c) (b := t) ⟨by omega, by omega, by omega⟩
 obtain ⟨d1, d2, d3⟩ := thn3_some hd
 have e : d = next := tri_ext (by omega) (by omega) (by omega)
 exact ⟨c, .step h hs hc, e ▸ hd⟩
section
variable {St : Nat → Nat → Tri → Prop} {n : Nat} {R : Nat → Nat → List Tri}
theorem way_could (h : ∀ p, p < n → Res PX St p (some (R p))) {p q : Nat} (hp : p < n) (hq : q < n) {a t now : Tri} (hw : Wy PX St p q a) (ha : thn3 a t = some now) : cldB n R ((p : Int), t) ((q : Int), now) = true := (cldB_iff h hp hq).2 ⟨a, now, hw, ha, PX_ok.refl now⟩
theorem way_open (h : ∀ p, p < n → Res PX St p (some (R p))) {p q : Nat} (hp : p < n) (hq : q < n) {a t now : Tri} (hw : Wy PX St p q a) (ha : thn3 a t = some now) : ccov Pc.bel (frt (allT n R (q : Int) [((p : Int), t)])) now = true := by
 have h1 := way_could h hp hq hw ha
 have h2 := cld_front (n := n) (R := R) ((p : Int), t) ((q : Int), now)
 simp only at h2
 rw [h2]
 exact h1
theorem way_least (h : ∀ p, p < n → Res PX St p (some (R p))) {p q : Nat} (hp : p < n) (hq : q < n) {a : Tri} (hw : Wy PX St p q a) : 0 < (bt n R (p : Int) (q : Int)).length := by
 obtain ⟨x, hx, _⟩ := res_cov (h p hp) q a hw
 rw [bt_in hp hq]
 exact List.length_pos_of_mem hx
end
def fil (l : List Con) (q : Nat) : List Con := l.filter (fun c => c.inn == (q : Int))
theorem fil_take {l : List Con} {j q : Nat} {c : Con} (h : l[j]? = some c) : fil (l.take (j + 1)) q = fil (l.take j) q ++ if c.inn = (q : Int) then [c] else [] := by
 unfold fil
 rw [List.take_add_one, h, List.filter_append, Option.toList_some]
 by_cases e : c.inn = (q : Int)
 ·simp [e]
 ·rw [if_neg e, List.filter_cons_of_neg (by simpa using e)]
  simp
theorem fil_len (l : List Con) (q : Nat) : (fil l q).length ≤ l.length := List.length_filter_le _ _
theorem fil_step {g : Gph} (hok : Gok g) {q k : Nat} {c : Con} (hq : q < plN g.nodes) (hc : (fil (stR g) q)[k]? = some c) : ∃ q', q' < plN g.nodes ∧ c.out = (q' : Int) ∧ c ∈ stR g ∧ StG g q q' (tri c.via) := by
 have hm := List.mem_of_getElem? hc
 unfold fil at hm
 rw [List.mem_filter] at hm
 obtain ⟨h1, h2⟩ := hm
 have h2 : c.inn = (q : Int) := by simpa using h2
 obtain ⟨_, q', hq', ho⟩ := stR_lt hok h1
 exact ⟨q', hq', ho, h1, sts_ssL.2 ⟨hq, c, h1, h2, ho, rfl⟩⟩
theorem tmod_bd2 (x : Int) {m : Int} (hm : 0 < m) : -m < x.tmod m ∧ x.tmod m < m := by
 by_cases h0 : 0 ≤ x
 ·have h1 := Int.tmod_nonneg m h0
  have h2 := Int.tmod_lt_of_pos x hm
  omega
 ·have h1 : (-x).tmod m = -(x.tmod m) := Int.neg_tmod _ _
  have h2 := Int.tmod_nonneg m (a := -x) (by omega)
  have h3 := Int.tmod_lt_of_pos (-x) hm
  omega
theorem tri_of {p : Df.Pth} (h : PthT p) : (tri p).1 = ((p.1 : Int), (p.2.1 : Int), (p.2.2 : Int)) := by
 unfold tri
 rw [dif_pos h]
end Go.Proofs.YtjppkehnjnmbnaaGreat.Lf
