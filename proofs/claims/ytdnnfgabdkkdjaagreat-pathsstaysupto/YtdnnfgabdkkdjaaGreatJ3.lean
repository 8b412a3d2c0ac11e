import Derived.Test.YtdnnfgabdkkdjaaGreatRows
import Derived.Test.YtdnnfgabdkkdjaaGreatJ2
import Derived.Test.YtdnnfgabdkkdjaaGreatLRow
import Derived.WalkKit
import Derived.WalkSpells
import Derived.Deep.RegionHeld3
import Derived.Deep.DrawnRows
import Derived.Deep.DeepCutAuto
import Derived.Deep.LoopGhost
import Derived.Deep.QuietTactic
import Derived.BigQuiet
import Derived.Shelf.SlSortCmp.QuietGrown
import Derived.Deep.RegionLaw
import Derived.Deep.RegionWith
import Derived.Laws.CopyOwn
namespace Go.Proofs.YtdnnfgabdkkdjaaGreat.Hf
open Go.RowKit Go.Sort Hp
attribute [local go_sem ↓] Go.wp_at_zero Go.wp_at_succ
abbrev Th := Int × Pt.Tri
abbrev tv (a : Th) : Value := .agg #[.int .i64 a.1, .int .u64 a.2.1.1, .int .u64 a.2.1.2.1, .int .u64 a.2.1.2.2]
abbrev It := Th × Nat
abbrev iv (x : It) : Value := .agg #[.int .i64 x.1.1, .int .u64 x.1.2.1.1, .int .u64 x.1.2.1.2.1, .int .u64 x.1.2.1.2.2, .int .u64 (x.2 : Nat)]
def EI : El It where
 k := 5
 enc x := [.int .i64 x.1.1, .int .u64 x.1.2.1.1, .int .u64 x.1.2.1.2.1, .int .u64 x.1.2.1.2.2, .int .u64 (x.2 : Nat)]
 len _ := rfl
 one x u hu := by
  simp at hu
  rcases hu with rfl | rfl | rfl | rfl | rfl <;> rfl
theorem ls_at {w : World} {v : Value} {ts : List It} (h : Ls EI w v ts) {j : Nat} {x : It} (hj : ts[j]? = some x) :
    ∃ b off c, v = .slice (some ⟨b, off, none⟩) ts.length c ∧ b < w.heap.size ∧ w.cell? ⟨b, off + j * 5, none⟩ = some (.int .i64 x.1.1) ∧ w.cell? ⟨b, off + j * 5 + 1, none⟩ = some (.int .u64 x.1.2.1.1) ∧ w.cell? ⟨b, off + j * 5 + 2, none⟩ = some (.int .u64 x.1.2.1.2.1) ∧ w.cell? ⟨b, off + j * 5 + 3, none⟩ = some (.int .u64 x.1.2.1.2.2) ∧ w.cell? ⟨b, off + j * 5 + 4, none⟩ = some (.int .u64 (x.2 : Nat)) := by
 obtain ⟨b, off, c, hv, hb, hc⟩ := h.get hj
 exact ⟨b, off, c, hv, hb, hc 0 _ (by decide) rfl,hc 1 _ (by decide) rfl,hc 2 _ (by decide) rfl,hc 3 _ (by decide) rfl,hc 4 _ (by decide) rfl⟩
abbrev fv (f : Nat) : Value := .func (.func f) #[] #[]
structure FnOk (f : Nat) (r : Th → Th → Bool) : Prop where
 enter : ∀ args w, (callFunc f args).run Tryz.prog w = .ok (.enter f args) w
 calls : ∀ (a b : Th) (W : World), Calls Tryz.prog f #[tv a, tv b] W fun e w' => e = .returned (.bool (r a b)) ∧ Gr W w'
def ahd (r : Th → Th → Bool) (a b : It) : Bool := if a.2 < b.2 then !r b.1 a.1 else r a.1 b.1
structure Hb (w : World) (hb ff : Nat) (v : Value) (L : List It) (np : Nat) : Prop where
 blk : w.heap[hb]? = some (.cells #[fv ff, v, .int .u64 (np : Nat)] 186 (0, 0))
 own : w.ownsRow 0 188 5 v L.length (fl EI L)
 off : v.ownBlock ≠ some hb
section
variable {w w' : World} {hb ff np : Nat} {v : Value} {L : List It}
theorem Hb.lt (h : Hb w hb ff v L np) : hb < w.heap.size := (Array.getElem?_eq_some_iff.1 h.blk).1
theorem Hb.c0 (h : Hb w hb ff v L np) : w.cell? ⟨hb, 0, none⟩ = some (fv ff) := by simp [World.cell?, h.blk]
theorem Hb.c1 (h : Hb w hb ff v L np) : w.cell? ⟨hb, 1, none⟩ = some v := by simp [World.cell?, h.blk]
theorem Hb.c2 (h : Hb w hb ff v L np) : w.cell? ⟨hb, 2, none⟩ = some (.int .u64 (np : Nat)) := by simp [World.cell?, h.blk]
theorem Hb.fz (h : Hb w hb ff v L np) (o : Nat) : w.frozen? ⟨hb, o, none⟩ = false := by simp [World.frozen?, h.blk]
theorem Hb.lst (h : Hb w hb ff v L np) : Ls EI w v L := owns_ls (E := EI) h.own
theorem Hb.row (h : Hb w hb ff v L np) : ∀ k, v.ownBlock = some k → k < w.heap.size := fun k hk => (h.own.lt k hk).2
theorem Hb.kp {S : Nat → Prop} (h : Hb w hb ff v L np) (hk : Kp S w w') (h1 : ¬ S hb) (h2 : ∀ k, v.ownBlock = some k → ¬ S k) : Hb w' hb ff v L np :=
 ⟨(hk.block hb h.lt h1).trans h.blk, owns_kp hk h.own h2, h.off⟩
theorem Hb.below (h : Hb w hb ff v L np) (hb' : Below w.heap.size w w') : Hb w' hb ff v L np := h.kp (S := fun _ => False) (Kp.of_below hb') (fun h => h) (fun _ _ h => h)
theorem Hb.gr (h : Hb w hb ff v L np) (hg : Gr w w') : Hb w' hb ff v L np := h.below hg.below
end
theorem blk_set {w : World} {hb ff : Nat} {v n : Value} (h : w.heap[hb]? = some (.cells #[fv ff, v, n] 186 (0, 0))) :
    (∀ v2, (w.setCell ⟨hb, 1, none⟩ v2).heap[hb]? = some (.cells #[fv ff, v2, n] 186 (0, 0)) ∧ Kp (fun k => k = hb) w (w.setCell ⟨hb, 1, none⟩ v2)) ∧ (∀ n2, (w.setCell ⟨hb, 2, none⟩ n2).heap[hb]? = some (.cells #[fv ff, v, n2] 186 (0, 0)) ∧ Kp (fun k => k = hb) w (w.setCell ⟨hb, 2, none⟩ n2)) := by
 refine ⟨fun v2 => ?_, fun n2 => ?_⟩
 ·have e := setCell_eq_setRow w hb 1 _ _ _ v2 h
  rw [e]
  exact ⟨by rw [setRow_heap w hb _ _ _ _ h]; simp, rfl, rfl, rfl, by simp [World.setRow], fun k _ hne => setRow_other w hb k _ (by omega)⟩
 ·have e := setCell_eq_setRow w hb 2 _ _ _ n2 h
  rw [e]
  exact ⟨by rw [setRow_heap w hb _ _ _ _ h]; simp, rfl, rfl, rfl, by simp [World.setRow], fun k _ hne => setRow_other w hb k _ (by omega)⟩
theorem Hb.setNp {w : World} {hb ff np : Nat} {v : Value} {L : List It} (h : Hb w hb ff v L np) (n : Nat) : Hb (w.setCell ⟨hb, 2, none⟩ (.int .u64 n)) hb ff v L n ∧ Kp (fun k => k = hb) w (w.setCell ⟨hb, 2, none⟩ (.int .u64 n)) := by
 obtain ⟨h1, h2⟩ := (blk_set h.blk).2 (.int .u64 n)
 exact ⟨⟨h1, owns_kp h2 h.own (fun k hk e => h.off (e ▸ hk)), h.off⟩, h2⟩
theorem owns_cell {w : World} {e : TypeId} {s g n cap q : Nat} {xs : List Value} (u : Value) (h : w.ownsRow 0 e s (.slice (some ⟨g, 0, none⟩) n cap) n xs) :
    (w.setCell ⟨g, q, none⟩ u).ownsRow 0 e s (.slice (some ⟨g, 0, none⟩) n cap) n (xs.set q u) ∧ Kp (fun k => k = g) w (w.setCell ⟨g, q, none⟩ u) := by
 obtain ⟨h1, ⟨h0, _⟩ | ⟨g', cap', cur, hv, hg, hh, h2, h3, h4, h5⟩⟩ := h
 ·cases h0
 ·cases hv
  have e1 := setCell_eq_setRow w g q _ _ _ u hh
  have hk1 : Kp (fun k => k = g) w (w.setCell ⟨g, q, none⟩ u) := by
   rw [e1]
   exact ⟨rfl, rfl, rfl, by simp [World.setRow], fun q _ hne => setRow_other _ g q _ (by omega)⟩
  refine ⟨⟨by simpa using h1, Or.inr ⟨g, cap, _, rfl, hg, by rw [e1]; exact setRow_heap _ g _ _ _ _ hh, h2, h3, ?_, ?_⟩⟩, hk1⟩
  ·simp [h4]
  ·rw [Array.toList_setIfInBounds, List.take_set, h5]
theorem fl_item (L : List It) (i : Nat) (x : It) : ((((((fl EI L).set (i * 5) (.int .i64 x.1.1)).set (i * 5 + 1) (.int .u64 x.1.2.1.1)).set (i * 5 + 2) (.int .u64 x.1.2.1.2.1)).set (i * 5 + 3) (.int .u64 x.1.2.1.2.2)).set (i * 5 + 4) (.int .u64 (x.2 : Nat))) = fl EI (L.set i x) := by
 induction L generalizing i with
 | nil => simp [fl]
 | cons y L ih =>
  rw [fl_cons]
  cases i with
  | zero => simp [EI, fl]
  | succ i =>
   rw [List.set_cons_succ, fl_cons, ← ih i, show (i + 1) * 5 = i * 5 + 5 by omega]
   simp [EI]
theorem owns_item {w : World} {g N cap i : Nat} {L : List It} (x : It) (h : w.ownsRow 0 188 5 (.slice (some ⟨g, 0, none⟩) N cap) N (fl EI L)) : (((((w.setCell ⟨g, i * 5, none⟩ (.int .i64 x.1.1)).setCell ⟨g, i * 5 + 1, none⟩ (.int .u64 x.1.2.1.1)).setCell ⟨g, i * 5 + 2, none⟩ (.int .u64 x.1.2.1.2.1)).setCell ⟨g, i * 5 + 3, none⟩ (.int .u64 x.1.2.1.2.2)).setCell ⟨g, i * 5 + 4, none⟩ (.int .u64 (x.2 : Nat))).ownsRow 0 188 5 (.slice (some ⟨g, 0, none⟩) N cap) N (fl EI (L.set i x)) ∧ Kp (fun k => k = g) w (((((w.setCell ⟨g, i * 5, none⟩ (.int .i64 x.1.1)).setCell ⟨g, i * 5 + 1, none⟩ (.int .u64 x.1.2.1.1)).setCell ⟨g, i * 5 + 2, none⟩ (.int .u64 x.1.2.1.2.1)).setCell ⟨g, i * 5 + 3, none⟩ (.int .u64 x.1.2.1.2.2)).setCell ⟨g, i * 5 + 4, none⟩ (.int .u64 (x.2 : Nat))) := by
 obtain ⟨h0, m0⟩ := owns_cell (q := i * 5) (.int .i64 x.1.1) h
 obtain ⟨h1, m1⟩ := owns_cell (q := i * 5 + 1) (.int .u64 x.1.2.1.1) h0
 obtain ⟨h2, m2⟩ := owns_cell (q := i * 5 + 2) (.int .u64 x.1.2.1.2.1) h1
 obtain ⟨h3, m3⟩ := owns_cell (q := i * 5 + 3) (.int .u64 x.1.2.1.2.2) h2
 obtain ⟨h4, m4⟩ := owns_cell (q := i * 5 + 4) (.int .u64 (x.2 : Nat)) h3
 refine ⟨?_, ((((m0.trans m1 (fun _ _ h => h)).trans m2 (fun _ _ h => h)).trans m3 (fun _ _ h => h)).trans m4 (fun _ _ h => h))⟩
 rw [← fl_item]
 exact h4
def Turn (hb : Nat) (v v' : Value) (w w' : World) : Prop := Kp (fun k => k = hb ∨ v.ownBlock = some k) w w' ∧ ∀ g, v'.ownBlock = some g → v.ownBlock = some g ∨ w.heap.size ≤ g
set_option maxHeartbeats 1000000 in
theorem parent_any (i : Nat) (h0 : 0 < i) (hl : i < 9223372036854775807) (w : World) : Calls Tryz.prog 122 #[.int .i64 i] w fun e w' => e = .returned (.int .i64 (par i : Nat)) ∧ w' = w := by
 have hz : ((i : Int) - 1).tdiv 2 = (par i : Nat) := by
  unfold par
  rw [Int.tdiv_eq_ediv_of_nonneg (by omega)]; omega
 go_enter Tryz.func122, Tryz.ntmps122
 go_wp2
 go_ret
 refine ⟨?_, rfl⟩
 have hw : wrap64 (par i : Nat) = (par i : Nat) := by unfold wrap64; have := par_lt h0; omega
 show Ending.returned (Value.int _ (wrap64 (par i : Nat))) = _
 rw [hw]
set_option maxHeartbeats 1000000 in
theorem ahead_any (ff : Nat) (r : Th → Th → Bool) (hF : FnOk ff r) (x y : It) (hb : Nat) (w : World) (hlt : hb < w.heap.size) (cf : w.cell? ⟨hb, 0, none⟩ = some (fv ff)) :
    Calls Tryz.prog 143 #[.pointer (some ⟨hb, 0, none⟩), iv x, iv y] w fun e w' => e = .returned (.bool (ahd r x y)) ∧ Gr w w' := by
 have he := hF.enter
 have hc1 := hF.calls y.1 x.1
 have hc2 := hF.calls x.1 y.1
 have hm : Tryz.prog.follows .mixedOrders = true := by kernel_rfl
 obtain ⟨W1, hW1⟩ : ∃ W1, W1 = (w.alloc (.cells #[.int .i64 x.1.1, .int .u64 x.1.2.1.1, .int .u64 x.1.2.1.2.1, .int .u64 x.1.2.1.2.2, .int .u64 (x.2 : Nat)] 188)).alloc (.cells #[.int .i64 y.1.1, .int .u64 y.1.2.1.1, .int .u64 y.1.2.1.2.1, .int .u64 y.1.2.1.2.2, .int .u64 (y.2 : Nat)] 188) := ⟨_, rfl⟩
 have G1 : Gr w W1 := by rw [hW1]; exact ((Gr.refl _).alloc _).alloc _
 have hz : w.heap.size + 1 < W1.heap.size := by rw [hW1]; simp
 obtain ⟨nb, hnb⟩ : ∃ nb, nb = w.heap.size := ⟨_, rfl⟩
 have k0 := cell_grown (a := ⟨hb, 0, none⟩) (Nat.lt_trans hlt (Nat.lt_of_succ_lt hz)) ((G1.cell hlt).trans cf)
 obtain ⟨p0, p1, p2, p3, p4⟩ : W1.cell? ⟨nb, 0, none⟩ = some (.int .i64 x.1.1) ∧ W1.cell? ⟨nb, 1, none⟩ = some (.int .u64 x.1.2.1.1) ∧ W1.cell? ⟨nb, 2, none⟩ = some (.int .u64 x.1.2.1.2.1) ∧ W1.cell? ⟨nb, 3, none⟩ = some (.int .u64 x.1.2.1.2.2) ∧ W1.cell? ⟨nb, 4, none⟩ = some (.int .u64 (x.2 : Nat)) := by rw [hW1, hnb]; simp
 obtain ⟨q0, q1, q2, q3, q4⟩ : W1.cell? ⟨nb + 1, 0, none⟩ = some (.int .i64 y.1.1) ∧ W1.cell? ⟨nb + 1, 1, none⟩ = some (.int .u64 y.1.2.1.1) ∧ W1.cell? ⟨nb + 1, 2, none⟩ = some (.int .u64 y.1.2.1.2.1) ∧ W1.cell? ⟨nb + 1, 3, none⟩ = some (.int .u64 y.1.2.1.2.2) ∧ W1.cell? ⟨nb + 1, 4, none⟩ = some (.int .u64 (y.2 : Nat)) := by rw [hW1, hnb]; simp
 have k10 := cell_grown (w := W1) (a := ⟨nb, 0, none⟩) (by rw [hnb]; exact Nat.lt_of_succ_lt hz) p0
 have k11 := cell_grown (w := W1) (a := ⟨nb, 1, none⟩) (by rw [hnb]; exact Nat.lt_of_succ_lt hz) p1
 have k12 := cell_grown (w := W1) (a := ⟨nb, 2, none⟩) (by rw [hnb]; exact Nat.lt_of_succ_lt hz) p2
 have k13 := cell_grown (w := W1) (a := ⟨nb, 3, none⟩) (by rw [hnb]; exact Nat.lt_of_succ_lt hz) p3
 have k14 := cell_grown (w := W1) (a := ⟨nb, 4, none⟩) (by rw [hnb]; exact Nat.lt_of_succ_lt hz) p4
 have k20 := cell_grown (w := W1) (a := ⟨nb + 1, 0, none⟩) (by rw [hnb]; exact hz) q0
 have k21 := cell_grown (w := W1) (a := ⟨nb + 1, 1, none⟩) (by rw [hnb]; exact hz) q1
 have k22 := cell_grown (w := W1) (a := ⟨nb + 1, 2, none⟩) (by rw [hnb]; exact hz) q2
 have k23 := cell_grown (w := W1) (a := ⟨nb + 1, 3, none⟩) (by rw [hnb]; exact hz) q3
 have k24 := cell_grown (w := W1) (a := ⟨nb + 1, 4, none⟩) (by rw [hnb]; exact hz) q4
 by_cases hlt2 : x.2 < y.2
 ·have hlz : (x.2 : Int) < (y.2 : Int) := by omega
  have HA : Hid (ahd r x y = !r y.1 x.1) := by unfold ahd; rw [if_pos hlt2]; rfl
  rw [HA.out]
  generalize r y.1 x.1 = rr at hc1 ⊢
  clear hc2 HA
  go_enter Tryz.func143, Tryz.ntmps143
  go_upto_region 2 with fail
  rw [← hW1, ← hnb]
  clear hW1 hnb cf
  go_quiet_grown (first | (go_at_fn ff; refine Calls.grown_of (v := .bool rr) (hc1 _)))
  go_wp2
  go_ret
  exact ⟨rfl, (G1.drewN _).grown _⟩
 ·have hlz : ¬ (x.2 : Int) < (y.2 : Int) := by omega
  have HA : Hid (ahd r x y = r x.1 y.1) := by unfold ahd; rw [if_neg hlt2]; rfl
  rw [HA.out]
  generalize r x.1 y.1 = rr at hc2 ⊢
  clear hc1 HA
  go_enter Tryz.func143, Tryz.ntmps143
  go_upto_region 3 with fail
  rw [← hW1, ← hnb]
  clear hW1 hnb cf
  go_quiet_grown (first | (go_at_fn ff; refine Calls.grown_of (v := .bool rr) (hc2 _)))
  go_wp2
  go_ret
  exact ⟨rfl, (G1.drewN _).grown _⟩
end Go.Proofs.YtdnnfgabdkkdjaaGreat.Hf

namespace Go.Proofs.YtdnnfgabdkkdjaaGreat.Hf
open Go.RowKit Go.Sort Hp
attribute [local go_sem ↓] Go.wp_at_zero Go.wp_at_succ
set_option maxHeartbeats 16000000 in
set_option maxRecDepth 100000 in
theorem upTo_any {hb ff np : Nat} {v : Value} {L : List It} {r : Th → Th → Bool} (x : It) (w : World) (hH : Hb w hb ff v L np) (hl : L.length ≤ 140737488355328) (hF : FnOk ff r) :
    Calls Tryz.prog 121 #[.pointer (some ⟨hb, 0, none⟩), iv x] w fun e w' => ∃ at_ : Nat, e = .returned (.int .i64 at_) ∧ Wy (QU (ahd r) L x) L.length at_ ∧ (at_ = 0 ∨ ∃ y, L[par at_]? = some y ∧ ahd r x y = false) ∧ Gr w w' := by
 have hmx : Tryz.prog.follows .mixedOrders = true := by kernel_rfl
 have ep : ∀ args w, (callFunc 122 args).run Tryz.prog w = .ok (.enter 122 args) w := enters_of Tryz.func122 (by kernel_rfl) rfl
 obtain ⟨pl, cl, rfl⟩ := hH.lst.form
 obtain ⟨B0, hB0⟩ : ∃ B0, B0 = w.heap.size := ⟨_, rfl⟩
 obtain ⟨W1, hW1⟩ : ∃ W1, W1 = w.alloc (.cells #[.int .i64 x.1.1, .int .u64 x.1.2.1.1, .int .u64 x.1.2.1.2.1, .int .u64 x.1.2.1.2.2, .int .u64 (x.2 : Nat)] 188) := ⟨_, rfl⟩
 have G1 : Gr w W1 := by rw [hW1]; exact (Gr.refl _).alloc _
 have HG : Hid (Gr w W1) := G1
 have hB : B0 < W1.heap.size := by rw [hW1, hB0]; simp
 obtain ⟨q0, q1, q2, q3, q4⟩ : W1.cell? ⟨B0, 0, none⟩ = some (.int .i64 x.1.1) ∧ W1.cell? ⟨B0, 1, none⟩ = some (.int .u64 x.1.2.1.1) ∧ W1.cell? ⟨B0, 2, none⟩ = some (.int .u64 x.1.2.1.2.1) ∧ W1.cell? ⟨B0, 3, none⟩ = some (.int .u64 x.1.2.1.2.2) ∧ W1.cell? ⟨B0, 4, none⟩ = some (.int .u64 (x.2 : Nat)) := by rw [hW1, hB0]; simp
 have hH1 := hH.gr G1
 have HL : Hid (Ls EI W1 (.slice pl L.length cl) L) := hH1.lst
 have k0 := hH1.c0
 have k1 := hH1.c1
 have kl := hH1.lt
 have k1w := hH.c1
 have klw := hH.lt
 have HF : Hid (FnOk ff r) := hF
 clear hH hH1 G1 hF
 go_enter Tryz.func121, Tryz.ntmps121
 go_wp2_with fail
 rw [← hW1, ← hB0]
 clear hW1 hB0 k1w klw
 go_loopw [5] (fun s5 wr => ∃ a : Nat, a ≤ L.length ∧ s5 = .int .i64 a ∧ Gr W1 wr ∧ Hid (Wy (QU (ahd r) L x) L.length a)) (fun s5 _ => (RowKit.intOf s5).toNat)
 case atStart => exact ⟨L.length, Nat.le_refl _, rfl, Gr.refl _, .refl _⟩
 case round =>
  obtain ⟨a, hal, rfl, hgr, AA⟩ := hrel
  by_cases h0 : a = 0
  ·subst h0
   go_upto_region 2 with fail
   go_quiet (fail)
   go_wp2
   go_ret
   exact ⟨0, rfl, AA.out, Or.inl rfl, HG.out.trans (hgr.drewN _)⟩
  ·have ha0 : 0 < a := Nat.pos_of_ne_zero h0
   have haz : (0 : Int) < (a : Int) := by omega
   have hpa := par_lt ha0
   have hpz : (par a : Int) < (L.length : Int) := by omega
   have hp0 : (0 : Int) ≤ (par a : Int) := by omega
   obtain ⟨y, hy⟩ : ∃ y, L[par a]? = some y := ⟨L[par a]'(by omega), by rw [List.getElem?_eq_getElem]⟩
   obtain ⟨b1, o1, c1, e1, z1, x0, x1, x2, x3, x4⟩ := ls_at (HL.out.below hgr.below) hy
   simp only [Value.slice.injEq] at e1
   obtain ⟨rfl, -, rfl⟩ := e1
   have HY : Hid (L[par a]? = some y) := hy
   have S0 : (wr.drew.cell? ⟨b1, o1 + par a * 5, none⟩ = some (.int .i64 y.1.1) ∧ wr.drew.cell? ⟨b1, o1 + par a * 5 + 1, none⟩ = some (.int .u64 y.1.2.1.1) ∧ wr.drew.cell? ⟨b1, o1 + par a * 5 + 2, none⟩ = some (.int .u64 y.1.2.1.2.1) ∧ wr.drew.cell? ⟨b1, o1 + par a * 5 + 3, none⟩ = some (.int .u64 y.1.2.1.2.2) ∧ wr.drew.cell? ⟨b1, o1 + par a * 5 + 4, none⟩ = some (.int .u64 (y.2 : Nat)) ∧ wr.drew.cell? ⟨B0, 0, none⟩ = some (.int .i64 x.1.1) ∧ wr.drew.cell? ⟨B0, 1, none⟩ = some (.int .u64 x.1.2.1.1) ∧ wr.drew.cell? ⟨B0, 2, none⟩ = some (.int .u64 x.1.2.1.2.1) ∧ wr.drew.cell? ⟨B0, 3, none⟩ = some (.int .u64 x.1.2.1.2.2) ∧ wr.drew.cell? ⟨B0, 4, none⟩ = some (.int .u64 (x.2 : Nat)) ∧ wr.drew.cell? ⟨hb, 0, none⟩ = some (fv ff) ∧ wr.drew.cell? ⟨hb, 1, none⟩ = some (.slice (some ⟨b1, o1, none⟩) L.length cl) ∧ b1 < wr.drew.heap.size ∧ B0 < wr.drew.heap.size ∧ hb < wr.drew.heap.size) := ⟨x0, x1, x2, x3, x4, (hgr.cell hB).trans q0,(hgr.cell hB).trans q1,(hgr.cell hB).trans q2,(hgr.cell hB).trans q3,(hgr.cell hB).trans q4, (hgr.cell kl).trans k0, (hgr.cell kl).trans k1, z1, Nat.lt_of_lt_of_le hB hgr.size, Nat.lt_of_lt_of_le kl hgr.size⟩
   have keepG : ∀ W W' : World, (W.cell? ⟨b1, o1 + par a * 5, none⟩ = some (.int .i64 y.1.1) ∧ W.cell? ⟨b1, o1 + par a * 5 + 1, none⟩ = some (.int .u64 y.1.2.1.1) ∧ W.cell? ⟨b1, o1 + par a * 5 + 2, none⟩ = some (.int .u64 y.1.2.1.2.1) ∧ W.cell? ⟨b1, o1 + par a * 5 + 3, none⟩ = some (.int .u64 y.1.2.1.2.2) ∧ W.cell? ⟨b1, o1 + par a * 5 + 4, none⟩ = some (.int .u64 (y.2 : Nat)) ∧ W.cell? ⟨B0, 0, none⟩ = some (.int .i64 x.1.1) ∧ W.cell? ⟨B0, 1, none⟩ = some (.int .u64 x.1.2.1.1) ∧ W.cell? ⟨B0, 2, none⟩ = some (.int .u64 x.1.2.1.2.1) ∧ W.cell? ⟨B0, 3, none⟩ = some (.int .u64 x.1.2.1.2.2) ∧ W.cell? ⟨B0, 4, none⟩ = some (.int .u64 (x.2 : Nat)) ∧ W.cell? ⟨hb, 0, none⟩ = some (fv ff) ∧ W.cell? ⟨hb, 1, none⟩ = some (.slice (some ⟨b1, o1, none⟩) L.length cl) ∧ b1 < W.heap.size ∧ B0 < W.heap.size ∧ hb < W.heap.size) → Gr W W' → (W'.cell? ⟨b1, o1 + par a * 5, none⟩ = some (.int .i64 y.1.1) ∧ W'.cell? ⟨b1, o1 + par a * 5 + 1, none⟩ = some (.int .u64 y.1.2.1.1) ∧ W'.cell? ⟨b1, o1 + par a * 5 + 2, none⟩ = some (.int .u64 y.1.2.1.2.1) ∧ W'.cell? ⟨b1, o1 + par a * 5 + 3, none⟩ = some (.int .u64 y.1.2.1.2.2) ∧ W'.cell? ⟨b1, o1 + par a * 5 + 4, none⟩ = some (.int .u64 (y.2 : Nat)) ∧ W'.cell? ⟨B0, 0, none⟩ = some (.int .i64 x.1.1) ∧ W'.cell? ⟨B0, 1, none⟩ = some (.int .u64 x.1.2.1.1) ∧ W'.cell? ⟨B0, 2, none⟩ = some (.int .u64 x.1.2.1.2.1) ∧ W'.cell? ⟨B0, 3, none⟩ = some (.int .u64 x.1.2.1.2.2) ∧ W'.cell? ⟨B0, 4, none⟩ = some (.int .u64 (x.2 : Nat)) ∧ W'.cell? ⟨hb, 0, none⟩ = some (fv ff) ∧ W'.cell? ⟨hb, 1, none⟩ = some (.slice (some ⟨b1, o1, none⟩) L.length cl) ∧ b1 < W'.heap.size ∧ B0 < W'.heap.size ∧ hb < W'.heap.size) := by
    rintro W W' ⟨a0, a1, a2, a3, a4, b0, b1, b2, b3, b4, d0, d1, d2, d3, d4⟩ hg
    exact ⟨(hg.cell d2).trans a0,(hg.cell d2).trans a1,(hg.cell d2).trans a2,(hg.cell d2).trans a3,(hg.cell d2).trans a4, (hg.cell d3).trans b0,(hg.cell d3).trans b1,(hg.cell d3).trans b2,(hg.cell d3).trans b3,(hg.cell d3).trans b4, (hg.cell d4).trans d0, (hg.cell d4).trans d1, Nat.lt_of_lt_of_le d2 hg.size, Nat.lt_of_lt_of_le d3 hg.size, Nat.lt_of_lt_of_le d4 hg.size⟩
   have hpar : ∀ W, Calls Tryz.prog 122 #[.int .i64 a] W fun e w' => e = .returned (.int .i64 (par a : Nat)) ∧ w' = W := fun W => parent_any a ha0 (by omega) W
   have hah : ∀ W : World, hb < W.heap.size → W.cell? ⟨hb, 0, none⟩ = some (fv ff) → Calls Tryz.prog 143 #[.pointer (some ⟨hb, 0, none⟩), iv x, iv y] W fun e w' => e = .returned (.bool (ahd r x y)) ∧ Gr W w' := fun W h1 h2 => ahead_any ff r HF.out x y hb W h1 h2
   have HGR : Hid (Gr W1 wr.drew) := hgr.drew
   have HPA : Hid (par a < a) := hpa
   have HAL : Hid (a ≤ L.length) := hal
   have hr : ahd r x y = true ∨ ahd r x y = false := by cases ahd r x y; exact Or.inr rfl; exact Or.inl rfl
   clear hy hgr x0 x1 x2 x3 x4 hpa
   have dh0 : wr.drew.cell? ⟨hb, 0, none⟩ = some (fv ff) := S0.2.2.2.2.2.2.2.2.2.2.1
   have dh1 : hb < wr.drew.heap.size := S0.2.2.2.2.2.2.2.2.2.2.2.2.2.2
   rcases hr with hr | hr
   ·have HR : Hid (ahd r x y = true) := hr
    rw [hr] at hah
    clear hr
    go_upto_region 2 with fail
    go_region_held3 (fun w' => w'.cell? ⟨b1, o1 + par a * 5, none⟩ = some (.int .i64 y.1.1) ∧ w'.cell? ⟨b1, o1 + par a * 5 + 1, none⟩ = some (.int .u64 y.1.2.1.1) ∧ w'.cell? ⟨b1, o1 + par a * 5 + 2, none⟩ = some (.int .u64 y.1.2.1.2.1) ∧ w'.cell? ⟨b1, o1 + par a * 5 + 3, none⟩ = some (.int .u64 y.1.2.1.2.2) ∧ w'.cell? ⟨b1, o1 + par a * 5 + 4, none⟩ = some (.int .u64 (y.2 : Nat)) ∧ w'.cell? ⟨B0, 0, none⟩ = some (.int .i64 x.1.1) ∧ w'.cell? ⟨B0, 1, none⟩ = some (.int .u64 x.1.2.1.1) ∧ w'.cell? ⟨B0, 2, none⟩ = some (.int .u64 x.1.2.1.2.1) ∧ w'.cell? ⟨B0, 3, none⟩ = some (.int .u64 x.1.2.1.2.2) ∧ w'.cell? ⟨B0, 4, none⟩ = some (.int .u64 (x.2 : Nat)) ∧ w'.cell? ⟨hb, 0, none⟩ = some (fv ff) ∧ w'.cell? ⟨hb, 1, none⟩ = some (.slice (some ⟨b1, o1, none⟩) L.length cl) ∧ b1 < w'.heap.size ∧ B0 < w'.heap.size ∧ hb < w'.heap.size)
     (first | exact S0 | exact keepG _ _ (by assumption) (by assumption) | assumption)
     (first | (go_at_call 122; refine (hpar _).mono ?_; rintro e w4 ⟨rfl, rfl⟩) | (go_at_call 143; refine (hah _ (by assumption) (by assumption)).mono ?_; rintro e w5 ⟨rfl, hg5⟩))
    go_wp2_with (go_at_call 122; refine (hpar _).mono ?_; rintro e w6 ⟨rfl, rfl⟩)
    go_roundw
    case rel => exact ⟨par a, Nat.le_of_lt (Nat.lt_of_lt_of_le HPA.out HAL.out), rfl, HGR.out.trans hg5, AA.out.snoc ha0 ⟨y, HY.out, HR.out⟩⟩
    case measure => simp [RowKit.intOf]; exact HPA.out
   ·have HR : Hid (ahd r x y = false) := hr
    rw [hr] at hah
    clear hr
    go_upto_region 2 with fail
    go_region_held3 (fun w' => w'.cell? ⟨b1, o1 + par a * 5, none⟩ = some (.int .i64 y.1.1) ∧ w'.cell? ⟨b1, o1 + par a * 5 + 1, none⟩ = some (.int .u64 y.1.2.1.1) ∧ w'.cell? ⟨b1, o1 + par a * 5 + 2, none⟩ = some (.int .u64 y.1.2.1.2.1) ∧ w'.cell? ⟨b1, o1 + par a * 5 + 3, none⟩ = some (.int .u64 y.1.2.1.2.2) ∧ w'.cell? ⟨b1, o1 + par a * 5 + 4, none⟩ = some (.int .u64 (y.2 : Nat)) ∧ w'.cell? ⟨B0, 0, none⟩ = some (.int .i64 x.1.1) ∧ w'.cell? ⟨B0, 1, none⟩ = some (.int .u64 x.1.2.1.1) ∧ w'.cell? ⟨B0, 2, none⟩ = some (.int .u64 x.1.2.1.2.1) ∧ w'.cell? ⟨B0, 3, none⟩ = some (.int .u64 x.1.2.1.2.2) ∧ w'.cell? ⟨B0, 4, none⟩ = some (.int .u64 (x.2 : Nat)) ∧ w'.cell? ⟨hb, 0, none⟩ = some (fv ff) ∧ w'.cell? ⟨hb, 1, none⟩ = some (.slice (some ⟨b1, o1, none⟩) L.length cl) ∧ b1 < w'.heap.size ∧ B0 < w'.heap.size ∧ hb < w'.heap.size)
     (first | exact S0 | exact keepG _ _ (by assumption) (by assumption) | assumption)
     (first | (go_at_call 122; refine (hpar _).mono ?_; rintro e w4 ⟨rfl, rfl⟩) | (go_at_call 143; refine (hah _ (by assumption) (by assumption)).mono ?_; rintro e w5 ⟨rfl, hg5⟩))
    go_wp2
    go_ret
    exact ⟨a, rfl, AA.out, Or.inr ⟨y, HY.out, HR.out⟩, HG.out.trans (HGR.out.trans hg5)⟩
end Go.Proofs.YtdnnfgabdkkdjaaGreat.Hf

namespace Go.Proofs.YtdnnfgabdkkdjaaGreat.Hf
open Go.RowKit Go.Sort Hp
attribute [local go_sem ↓] Go.wp_at_zero Go.wp_at_succ
theorem hid {p : Prop} (h : p) : Hid p := h
theorem infoI : (Tryz.prog.info? 188).map (fun i => (i.zero, i.size, i.bytes)) = some (some (.agg #[.int .i64 0, .int .u64 0, .int .u64 0, .int .u64 0, .int .u64 0]), 5, 40) := by kernel_rfl
theorem frozen_of_block {w w' : World} {b o : Nat} (h : w'.heap[b]? = w.heap[b]?) : w'.frozen? ⟨b, o, none⟩ = w.frozen? ⟨b, o, none⟩ := by simp [World.frozen?, h]
theorem owns_fz {w : World} {e : TypeId} {s g n n' cap : Nat} {xs : List Value} (h : w.ownsRow 0 e s (.slice (some ⟨g, 0, none⟩) n' cap) n xs) (q : Nat) : w.frozen? ⟨g, q, none⟩ = false := by
 obtain ⟨_, ⟨h0, _⟩ | ⟨g', cap', cur, hv, _, hgg, _⟩⟩ := h
 ·cases h0
 ·cases hv
  simp [World.frozen?, hgg]
structure Pu (w : World) (hb ff np B1 g cap : Nat) (v : Value) (L : List It) (x : It) (r : Th → Th → Bool) (at_ : Nat) (M : List It) (i : Nat) (wr : World) : Prop where
 inv : PushInv (ahd r) L x at_ M i
 hp : Hb wr hb ff (.slice (some ⟨g, 0, none⟩) (L.length + 1) cap) M (np + 1)
 box : wr.heap[B1]? = some (.cells #[.int .i64 x.1.1, .int .u64 x.1.2.1.1, .int .u64 x.1.2.1.2.1, .int .u64 x.1.2.1.2.2, .int .u64 (x.2 : Nat)] 188 (0, 0))
 turn : Turn hb v (.slice (some ⟨g, 0, none⟩) (L.length + 1) cap) w wr
 bne : B1 ≠ g ∧ B1 ≠ hb
theorem Pu.row {w wr : World} {hb ff np B1 g cap at_ i : Nat} {v : Value} {L M : List It} {x : It} {r : Th → Th → Bool} (h : Pu w hb ff np B1 g cap v L x r at_ M i wr) : wr.ownsRow 0 188 5 (.slice (some ⟨g, 0, none⟩) (L.length + 1) cap) (L.length + 1) (fl EI M) := by
 have := h.hp.own
 rw [h.inv.len] at this
 exact this
theorem Pu.set {w wr w' : World} {hb ff np B1 g cap at_ i j : Nat} {v : Value} {L M : List It} {x : It} {r : Th → Th → Bool} (h : Pu w hb ff np B1 g cap v L x r at_ M i wr) {y : It} {k : Nat} (hi : PushInv (ahd r) L x at_ (M.set k y) j)
    (ho : w'.ownsRow 0 188 5 (.slice (some ⟨g, 0, none⟩) (L.length + 1) cap) (L.length + 1) (fl EI (M.set k y))) (hk : Kp (fun q => q = g) wr w') (hg : v.ownBlock = some g ∨ w.heap.size ≤ g) : Pu w hb ff np B1 g cap v L x r at_ (M.set k y) j w' := by
 have hgb : hb ≠ g := fun e => h.hp.off (by rw [e]; rfl)
 refine ⟨hi, ⟨(hk.block hb h.hp.lt hgb).trans h.hp.blk, by rw [hi.len]; exact ho, h.hp.off⟩, (hk.block B1 (Array.getElem?_eq_some_iff.1 h.box).1 h.bne.1).trans h.box, ⟨h.turn.1.trans hk (fun q _ hq => ?_), h.turn.2⟩, h.bne⟩
 subst hq
 rcases hg with hg | hg
 ·exact Or.inr hg
 ·omega
set_option maxHeartbeats 16000000 in
set_option maxRecDepth 100000 in
theorem push_any {hb ff np : Nat} {v : Value} {L : List It} {r : Th → Th → Bool} (x : Th) (w : World) (hH : Hb w hb ff v L np) (hl : (L.length + 1) * 40 ≤ 140737488355328) (hnp : np + 1 < 18446744073709551616) (hF : FnOk ff r) :
    Calls Tryz.prog 93 #[.pointer (some ⟨hb, 0, none⟩), tv x] w fun e w' => ∃ v' L', e = .returned (.tuple #[]) ∧ Hb w' hb ff v' L' (np + 1) ∧ L'.Perm (L ++ [(x, np)]) ∧ (Tot (ahd r) → Heapy (ahd r) L → Heapy (ahd r) L') ∧ Turn hb v v' w w' := by
 have hmx : Tryz.prog.follows .mixedOrders = true := by kernel_rfl
 have k0 := hH.c0
 have k1 := hH.c1
 have k2 := hH.c2
 have kl := hH.lt
 have k2f := hH.fz 2
 obtain ⟨pl, cl, rfl⟩ := hH.lst.form
 obtain ⟨B1, hB1⟩ : ∃ B1, B1 = w.heap.size + 1 := ⟨_, rfl⟩
 obtain ⟨W2, hW2⟩ : ∃ W2, W2 = ((w.alloc (.cells #[.int .i64 x.1, .int .u64 x.2.1.1, .int .u64 x.2.1.2.1, .int .u64 x.2.1.2.2] 149)).alloc (.cells #[.int .i64 (x, np).1.1, .int .u64 (x, np).1.2.1.1, .int .u64 (x, np).1.2.1.2.1, .int .u64 (x, np).1.2.1.2.2, .int .u64 ((x, np).2 : Nat)] 188)).drew := ⟨_, rfl⟩
 have G2 : Gr w W2 := by rw [hW2]; exact (((Gr.refl _).alloc _).alloc _).drew
 have hBX : W2.heap[B1]? = some (.cells #[.int .i64 (x, np).1.1, .int .u64 (x, np).1.2.1.1, .int .u64 (x, np).1.2.1.2.1, .int .u64 (x, np).1.2.1.2.2, .int .u64 ((x, np).2 : Nat)] 188 (0, 0)) := by
  have h := heap_new' (w.alloc (.cells #[.int .i64 x.1, .int .u64 x.2.1.1, .int .u64 x.2.1.2.1, .int .u64 x.2.1.2.2] 149)) (.cells #[.int .i64 (x, np).1.1, .int .u64 (x, np).1.2.1.1, .int .u64 (x, np).1.2.1.2.1, .int .u64 (x, np).1.2.1.2.2, .int .u64 ((x, np).2 : Nat)] 188)
  rw [show (w.alloc (.cells #[.int .i64 x.1, .int .u64 x.2.1.1, .int .u64 x.2.1.2.1, .int .u64 x.2.1.2.2] 149)).heap.size = w.heap.size + 1 by simp] at h
  rw [hW2, hB1]; exact h
 have HH2 : Hid (Hb W2 hb ff (.slice pl L.length cl) L np) := hH.gr G2
 have hup := upTo_any (r := r) (x, np) W2 HH2.out (by omega) hF
 have HG2 : Hid (Gr w W2) := G2
 have HBW : Hid (w.heap.size ≤ B1 ∧ B1 < W2.heap.size) := ⟨by omega, (Array.getElem?_eq_some_iff.1 hBX).1⟩
 have hBl : B1 < W2.heap.size := (Array.getElem?_eq_some_iff.1 hBX).1
 obtain ⟨q0, q1, q2, q3, q4⟩ : W2.cell? ⟨B1, 0, none⟩ = some (.int .i64 (x, np).1.1) ∧ W2.cell? ⟨B1, 1, none⟩ = some (.int .u64 (x, np).1.2.1.1) ∧ W2.cell? ⟨B1, 2, none⟩ = some (.int .u64 (x, np).1.2.1.2.1) ∧ W2.cell? ⟨B1, 3, none⟩ = some (.int .u64 (x, np).1.2.1.2.2) ∧ W2.cell? ⟨B1, 4, none⟩ = some (.int .u64 ((x, np).2 : Nat)) := by simp [World.cell?, hBX]
 have HBX : Hid (W2.heap[B1]? = some (.cells #[.int .i64 (x, np).1.1, .int .u64 (x, np).1.2.1.1, .int .u64 (x, np).1.2.1.2.1, .int .u64 (x, np).1.2.1.2.2, .int .u64 ((x, np).2 : Nat)] 188 (0, 0))) := hBX
 have HH0 : Hid (Hb w hb ff (.slice pl L.length cl) L np) := hH
 clear hH G2 hBX
 go_enter Tryz.func93, Tryz.ntmps93
 go_wp2_with fail
 go_region
 rw [← hW2, ← hB1]
 clear hW2 hB1 k0 k1 k2 kl k2f
 go_wp2_with fail
 refine hup.mono ?_
 rintro e w3 ⟨at_, rfl, hway, hend, hg3⟩
 clear hup
 have HH3 : Hid (Hb w3 hb ff (.slice pl L.length cl) L np) := HH2.out.gr hg3
 have k2 := HH3.out.c2
 have kl := HH3.out.lt
 have k2f := HH3.out.fz 2
 have HWY : Hid (Wy (QU (ahd r) L (x, np)) L.length at_) := hway
 have HEN : Hid (at_ = 0 ∨ ∃ y, L[par at_]? = some y ∧ ahd r (x, np) y = false) := hend
 have HAL : Hid (at_ ≤ L.length) := hway.le
 have HG3 : Hid (Gr w w3) := HG2.out.trans hg3
 have HBX3 : Hid (w3.heap[B1]? = some (.cells #[.int .i64 (x, np).1.1, .int .u64 (x, np).1.2.1.1, .int .u64 (x, np).1.2.1.2.1, .int .u64 (x, np).1.2.1.2.2, .int .u64 ((x, np).2 : Nat)] 188 (0, 0))) := (hg3.below.block B1 hBl).trans HBX.out
 clear hway hend hg3 q0 q1 q2 q3 q4 HBX HH2
 go_upto_region 5 with fail
 have HH4 : Hid (Hb (w3.setCell ⟨hb, 2, none⟩ (.int .u64 ((np : Int) + 1))) hb ff (.slice pl L.length cl) L (np + 1)) := (HH3.out.setNp (np + 1)).1
 have HK4 : Hid (Kp (fun k => k = hb) w3 (w3.setCell ⟨hb, 2, none⟩ (.int .u64 ((np : Int) + 1)))) := (HH3.out.setNp (np + 1)).2
 generalize w3.setCell ⟨hb, 2, none⟩ (.int .u64 ((np : Int) + 1)) = w4 at HH4 HK4 ⊢
 have hBne : B1 ≠ hb := fun e => by have := HH0.out.lt; have := HBW.out.1; omega
 have HB4 : Hid (w4.heap[B1]? = some (.cells #[.int .i64 (x, np).1.1, .int .u64 (x, np).1.2.1.1, .int .u64 (x, np).1.2.1.2.1, .int .u64 (x, np).1.2.1.2.2, .int .u64 ((x, np).2 : Nat)] 188 (0, 0))) := (HK4.out.block B1 (Array.getElem?_eq_some_iff.1 HBX3.out).1 hBne).trans HBX3.out
 have hBl4 : B1 < w4.heap.size := (Array.getElem?_eq_some_iff.1 HB4.out).1
 obtain ⟨q0, q1, q2, q3, q4⟩ : w4.cell? ⟨B1, 0, none⟩ = some (.int .i64 (x, np).1.1) ∧ w4.cell? ⟨B1, 1, none⟩ = some (.int .u64 (x, np).1.2.1.1) ∧ w4.cell? ⟨B1, 2, none⟩ = some (.int .u64 (x, np).1.2.1.2.1) ∧ w4.cell? ⟨B1, 3, none⟩ = some (.int .u64 (x, np).1.2.1.2.2) ∧ w4.cell? ⟨B1, 4, none⟩ = some (.int .u64 ((x, np).2 : Nat)) := by simp [World.cell?, HB4.out]
 obtain ⟨iK, hiK, hk0, hk1, hk2⟩ := info_parts infoI
 have r0 := HH4.out.c1
 have k0f := HH4.out.fz 1
 have hlr := HH4.out.lt
 have hne1 : some hb ≠ (Value.slice pl L.length cl).ownBlock := fun e => HH4.out.off e.symm
 have hnm : w4.ownsRow 0 188 5 (.slice pl L.length cl) L.length (fl EI L) := HH4.out.own
 clear k2 kl k2f hBl
 go_cut [32] from 25 to 34 (fun _ w' => ∃ g cap, Hid (Pu w hb ff np B1 g cap (.slice pl L.length cl) L (x, np) r at_ (L ++ [(x, np)]) L.length w' ∧ ((Value.slice pl L.length cl).ownBlock = some g ∨ w.heap.size ≤ g)))
 case first =>
  go_region_law (refine step_append_lies _ rfl _ _ 184 rfl 0 188 iK (.agg #[.int .i64 0, .int .u64 0, .int .u64 0, .int .u64 0, .int .u64 0]) 5 40 Tryz.underlying184 hiK hk0 hk1 hk2 rfl (by decide) (Value.slice pl L.length cl) L.length (fl EI L) rfl (World.ownsRow.alloc (w := w4.drew) hnm _) ⟨w4.heap.size, 0, none⟩ 1 1 [.int .i64 (x, np).1.1, .int .u64 (x, np).1.2.1.1, .int .u64 (x, np).1.2.1.2.1, .int .u64 (x, np).1.2.1.2.2, .int .u64 ((x, np).2 : Nat)] rfl rfl (World.news_of_block (heap_new' _ _)) (by simp [Value.oneCell']) (by decide) (by unfold maxLen; omega) (by omega) (Nat.zero_le _) _ rfl ?_
                 intro g cap w10 hown10 hgrow hat10 hlt10
                 have HB10 := hgrow.block hb (by simp; omega) hne1
                 have k10 : w10.cell? ⟨hb, 1, none⟩ = some (Value.slice pl L.length cl) := (World.cell?_of_block (a := ⟨hb, 1, none⟩) HB10).trans ((((Gr.refl w4).drew.alloc _).cell hlr).trans r0)
                 have k10f : w10.frozen? ⟨hb, 1, none⟩ = false := (frozen_of_block HB10).trans ((((Gr.refl w4).drew.alloc _).frozen hlr).trans k0f))
  all_goals (
   go_wp2_with fail
   go_meet
   have HB10' : w10.heap[hb]? = some (.cells #[fv ff, .slice pl L.length cl, .int .u64 ((np + 1 : Nat) : Int)] 186 (0, 0)) := HB10.trans ((((Gr.refl w4).drew.alloc _).below.block hb hlr).trans HH4.out.blk)
   obtain ⟨hs1, hs2⟩ := (blk_set HB10').1 (.slice (some ⟨g, 0, none⟩) (L.length + 1) cap)
   have hz4 : w.heap.size ≤ w4.heap.size := Nat.le_trans HG3.out.size HK4.out.size
   have hK10 : Kp (fun q => (Value.slice pl L.length cl).ownBlock = some q) w4 w10 := (Kp.of_gr ((Gr.refl w4).drew.alloc _)).trans (Kp.grownBy (S := fun q => (Value.slice pl L.length cl).ownBlock = some q) hgrow (fun _ h => h)) (fun _ _ h => h)
   have hg4 : (Value.slice pl L.length cl).ownBlock = some g ∨ w4.heap.size ≤ g := hat10.imp id (fun h => by rw [h]; simp)
   have hg : (Value.slice pl L.length cl).ownBlock = some g ∨ w.heap.size ≤ g := hg4.imp id (fun h => by omega)
   have hlw := HH0.out.lt
   have hrw := HH0.out.row
   have hgb : g ≠ hb := fun e => by
    rcases hg with h | h
    ·exact HH0.out.off (by rw [h, e])
    ·omega
   have hBg : B1 ≠ g := fun e => by
    have hB := HBW.out.1
    have hB4 : B1 < w4.heap.size := hBl4
    rcases hg4 with h | h
    ·have := hrw g h; omega
    ·omega
   refine ⟨g, cap, ⟨PushInv.init HWY.out, ⟨hs1, ?_, ?_⟩, ?_, ⟨?_, fun q hq => ?_⟩, hBg, hBne⟩, hg⟩
   ·rw [List.length_append, fl_append]
    refine owns_kp hs2 (by rw [fl_one]; exact hown10) (fun k hk e => ?_)
    have : k = g := by simpa [Value.ownBlock] using hk.symm
    exact hgb (by rw [← this, e])
   ·simpa [Value.ownBlock] using hgb
   ·refine (hs2.block B1 (Nat.lt_of_lt_of_le hBl4 hK10.size) hBne).trans ((hK10.block B1 hBl4 (fun h => ?_)).trans HB4.out)
    have := hrw B1 h
    have := HBW.out.1
    omega
   ·refine (((Kp.of_gr HG3.out).trans (HK4.out.mono (fun _ h => Or.inl h)) (fun _ _ h => h)).trans (hK10.mono (fun _ h => Or.inr h)) (fun _ _ h => h)).trans (hs2.mono (fun _ h => Or.inl h)) (fun _ _ h => h)
   ·have : q = g := by simpa [Value.ownBlock] using hq.symm
    rw [this]; exact hg)
 case rest =>
  obtain ⟨g, cap, HPG⟩ := hcut
  have r1 := HPG.out.1.hp.c1
  have hlr1 := HPG.out.1.hp.lt
  have HGO : Hid ((Value.slice pl L.length cl).ownBlock = some g ∨ w.heap.size ≤ g) := HPG.out.2
  have HP0 : Hid (Pu w hb ff np B1 g cap (.slice pl L.length cl) L (x, np) r at_ (L ++ [(x, np)]) L.length wc) := HPG.out.1
  clear HPG HB4 hBl4 q0 q1 q2 q3 q4 r0 k0f hlr hne1 hnm HH4 HK4 HH3 HG3 HBX3 hiK hk0 hk1 hk2
  go_wp2_with fail
  clear r1 hlr1
  go_loopw [6] (fun s6 wr => ∃ (i : Nat) (M : List It), i ≤ L.length ∧ s6 = .int .i64 i ∧ Hid (Pu w hb ff np B1 g cap (.slice pl L.length cl) L (x, np) r at_ M i wr)) (fun s6 _ => (RowKit.intOf s6).toNat)
  case atStart => exact ⟨L.length, _, Nat.le_refl _, by first | rfl | simp, HP0.out⟩
  case round =>
   clear HP0
   obtain ⟨i, M, hil, rfl, HP⟩ := hrel
   have HRO : Hid (wr.ownsRow 0 188 5 (.slice (some ⟨g, 0, none⟩) (L.length + 1) cap) (L.length + 1) (fl EI M)) := HP.out.row
   have hfz := owns_fz HRO.out
   have r1 := HP.out.hp.c1
   have hlr := HP.out.hp.lt
   have hgl : g < wr.heap.size := (HRO.out.lt g rfl).2
   have hil1 : (i : Int) < (L.length : Int) + 1 := by omega
   have hi0 : (0 : Int) ≤ (i : Int) := by omega
   obtain ⟨z, hz⟩ : ∃ z, M[i]? = some z := ⟨M[i]'(by rw [HP.out.inv.len]; omega), by rw [List.getElem?_eq_getElem]⟩
   obtain ⟨b1, o1, c1, e1, z1, y0, y1, y2, y3, y4⟩ := ls_at HP.out.hp.lst hz
   simp only [Value.slice.injEq, Option.some.injEq, Addr.mk.injEq, and_true] at e1
   obtain ⟨⟨rfl, rfl⟩, -, rfl⟩ := e1
   rw [Nat.zero_add] at y0 y1 y2 y3 y4
   have f0 := hfz (i * 5 + 0)
   have f1 := hfz (i * 5 + 1)
   have f2 := hfz (i * 5 + 2)
   have f3 := hfz (i * 5 + 3)
   have f4 := hfz (i * 5 + 4)
   rw [Nat.add_zero] at f0
   clear hz z1 hfz
   by_cases hlt : at_ < i
   ·have hltz : (at_ : Int) < (i : Int) := by omega
    obtain ⟨y, hy, hpi⟩ := HP.out.inv.step hlt
    have hipos : 0 < i := by omega
    have hpa := par_lt hipos
    have HPI : Hid (PushInv (ahd r) L (x, np) at_ (M.set i y) (par i)) := hpi
    have hpz : (par i : Int) < (L.length : Int) + 1 := by omega
    have hp0 : (0 : Int) ≤ (par i : Int) := by omega
    obtain ⟨b1, o1, c1, e1, z1, x0, x1, x2, x3, x4⟩ := ls_at HP.out.hp.lst hy
    clear z1
    simp only [Value.slice.injEq, Option.some.injEq, Addr.mk.injEq, and_true] at e1
    obtain ⟨⟨rfl, rfl⟩, -, rfl⟩ := e1
    rw [Nat.zero_add] at x0 x1 x2 x3 x4
    have hpar : ∀ W, Calls Tryz.prog 122 #[.int .i64 i] W fun e w' => e = .returned (.int .i64 (par i : Nat)) ∧ w' = W := fun W => parent_any i hipos (by omega) W
    have HPA : Hid (par i < i) := hpa
    clear hy hpi hpa
    go_wp2_with fail
    go_region_with (go_at_call 122; refine (hpar _).mono ?_; rintro e w4 ⟨rfl, rfl⟩)
    all_goals (
     obtain ⟨ho, hk⟩ := owns_item (i := i) y HRO.out
     have HP2 := hid (HP.out.set HPI.out (owns_below ho (Gr.refl _).drew.below) (hk.trans (Kp.of_gr (Gr.refl _).drew) (fun _ _ h => h)) HGO.out)
     clear ho hk r1 x0 x1 x2 x3 x4 y0 y1 y2 y3 y4 f0 f1 f2 f3 f4
     go_wp2_with (go_at_call 122; refine (hpar _).mono ?_; rintro e w4 ⟨rfl, rfl⟩)
     go_roundw
     case rel => exact ⟨par i, _, by have := HPA.out; omega, rfl, HP2.out⟩
     case measure => simp [RowKit.intOf]; exact HPA.out)
   ·have hltz : ¬ (at_ : Int) < (i : Int) := by omega
    have hie : i = at_ := by have := HP.out.inv.way.le; omega
    subst hie
    obtain ⟨q0, q1, q2, q3, q4⟩ : wr.cell? ⟨B1, 0, none⟩ = some (.int .i64 (x, np).1.1) ∧ wr.cell? ⟨B1, 1, none⟩ = some (.int .u64 (x, np).1.2.1.1) ∧ wr.cell? ⟨B1, 2, none⟩ = some (.int .u64 (x, np).1.2.1.2.1) ∧ wr.cell? ⟨B1, 3, none⟩ = some (.int .u64 (x, np).1.2.1.2.2) ∧ wr.cell? ⟨B1, 4, none⟩ = some (.int .u64 ((x, np).2 : Nat)) := by simp [World.cell?, HP.out.box]
    have hBl : B1 < wr.heap.size := (Array.getElem?_eq_some_iff.1 HP.out.box).1
    go_wp2_with fail
    go_region
    all_goals (
     go_end0
     obtain ⟨ho, hk⟩ := owns_item (i := i) (x, np) HRO.out
     obtain ⟨d1, d2⟩ := HP.out.inv.done HEN.out
     have hgb : hb ≠ g := fun e => HP.out.hp.off (by rw [e]; rfl)
     have hk2 := hk.trans (Kp.of_gr (S := fun q => q = g) (Gr.refl _).drew) (fun _ _ h => h)
     refine ⟨_, _, rfl, ⟨(hk2.block hb HP.out.hp.lt hgb).trans HP.out.hp.blk, ?_, HP.out.hp.off⟩, d1, d2, HP.out.turn.1.trans hk2 (fun q _ hq => ?_), HP.out.turn.2⟩
     ·rw [List.length_set, HP.out.inv.len]
      exact owns_below ho (Gr.refl _).drew.below
     ·subst hq
      rcases HGO.out with hg | hg
      ·exact Or.inr hg
      ·omega)
end Go.Proofs.YtdnnfgabdkkdjaaGreat.Hf

namespace Go.Proofs.YtdnnfgabdkkdjaaGreat.Hf
open Go.RowKit Go.Sort Hp
attribute [local go_sem ↓] Go.wp_at_zero Go.wp_at_succ
theorem new_any (ff : Nat) (w : World) : Calls Tryz.prog 91 #[fv ff] w fun e w' => ∃ hb, e = .returned (.pointer (some ⟨hb, 0, none⟩)) ∧ w.heap.size ≤ hb ∧ Hb w' hb ff (.slice none 0 0) [] 0 ∧ Gr w w' := by
 go_enter Tryz.func91, Tryz.ntmps91
 go_wp2
 go_ret
 exact ⟨_, rfl, Nat.le_refl _, ⟨heap_new' _ _, World.ownsRow_nil _ _ _ _, by simp [Value.ownBlock]⟩, (Gr.refl _).alloc _⟩
theorem len_any {hb ff np : Nat} {v : Value} {L : List It} (w : World) (hH : Hb w hb ff v L np) : Calls Tryz.prog 144 #[.pointer (some ⟨hb, 0, none⟩)] w fun e w' => e = .returned (.int .i64 (L.length : Nat)) ∧ w' = w := by
 have k1 := hH.c1
 obtain ⟨pl, cl, rfl⟩ := hH.lst.form
 have kl := hH.lt
 clear hH
 go_enter Tryz.func144, Tryz.ntmps144
 go_wp2
 go_ret
 exact ⟨rfl, rfl⟩
abbrev ans (x : Th) (b : Bool) : Value := .tuple #[tv x, .bool b]
abbrev zt : Th := (0, ⟨(0, 0, 0), by decide⟩)
set_option maxHeartbeats 1000000 in
theorem peek_any {hb ff np : Nat} {v : Value} {L : List It} {t : It} (w : World) (hH : Hb w hb ff v L np) (ht : L[0]? = some t) : Calls Tryz.prog 123 #[.pointer (some ⟨hb, 0, none⟩)] w fun e w' => e = .returned (ans t.1 true) ∧ Gr w w' := by
 have hlen : ∀ W : World, Gr w W → Calls Tryz.prog 144 #[.pointer (some ⟨hb, 0, none⟩)] W fun e w' => e = .returned (.int .i64 (L.length : Nat)) ∧ w' = W := fun W h => len_any W (hH.gr h)
 have hpos : 0 < L.length := (List.getElem?_eq_some_iff.1 ht).1
 have hpz : ¬ (L.length : Int) = 0 := by omega
 have hpz2 : (0 : Int) < (L.length : Int) := by omega
 obtain ⟨b1, o1, c1, e1, z1, x0, x1, x2, x3, x4⟩ := ls_at hH.lst ht
 subst e1
 have k1 := hH.c1
 have kl := hH.lt
 clear hH ht
 simp only [Nat.zero_mul, Nat.add_zero] at x0 x1 x2 x3 x4
 go_enter Tryz.func123, Tryz.ntmps123
 go_wp2_with fail
 refine (hlen _ (by first | exact (Gr.refl _).alloc _ | exact Gr.refl _)).mono ?_
 rintro e w1 ⟨rfl, rfl⟩
 go_wp2
 refine bodyPost_ret (v := ans t.1 true) (by simp [results, Tryz.results123, go_sem]) rfl ?_
 exact ⟨rfl, by first | exact (Gr.refl _).alloc _ | exact Gr.refl _⟩
set_option maxHeartbeats 1000000 in
theorem peek_none {hb ff np : Nat} {v : Value} (w : World) (hH : Hb w hb ff v [] np) : Calls Tryz.prog 123 #[.pointer (some ⟨hb, 0, none⟩)] w fun e w' => e = .returned (ans zt false) ∧ Gr w w' := by
 have hlen : ∀ W : World, Gr w W → Calls Tryz.prog 144 #[.pointer (some ⟨hb, 0, none⟩)] W fun e w' => e = .returned (.int .i64 0) ∧ w' = W := fun W h => len_any W (hH.gr h)
 clear hH
 go_enter Tryz.func123, Tryz.ntmps123
 go_wp2_with fail
 refine (hlen _ (by first | exact (Gr.refl _).alloc _ | exact Gr.refl _)).mono ?_
 rintro e w1 ⟨rfl, rfl⟩
 go_wp2
 refine bodyPost_ret (v := ans zt false) (by simp [results, Tryz.results123, go_sem]) rfl ?_
 exact ⟨rfl, by first | exact ((Gr.refl _).alloc _).alloc _ | exact (Gr.refl _).alloc _ | exact Gr.refl _⟩
end Go.Proofs.YtdnnfgabdkkdjaaGreat.Hf
