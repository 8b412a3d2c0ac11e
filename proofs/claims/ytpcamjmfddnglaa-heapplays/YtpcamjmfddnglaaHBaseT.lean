import Derived.Test.YtpcamjmfddnglaaRows
import Derived.Test.YtpcamjmfddnglaaHPure
import Derived.Test.YtpcamjmfddnglaaLRow
import Derived.WalkKit
import Derived.WalkSpells
import Derived.Deep.RegionHeld3
import Derived.Deep.DrawnRows
import Derived.Deep.DeepCutAuto
import Derived.Deep.LoopGhost
import Derived.Deep.QuietTactic
import Derived.BigQuiet
import Derived.Shelf.SlSortCmp.QuietGrown
namespace Go.Proofs.Ytpcamjmfddnglaa.Ht
open Go.RowKit Go.Sort Hp
attribute [local go_sem ↓] Go.wp_at_zero Go.wp_at_succ

abbrev Th := Int × Int
abbrev tv (a : Th) : Value := .agg #[.int .i64 a.1, .int .i64 a.2]
/-- An item: a thing and its turn. -/
abbrev It := Th × Nat
abbrev iv (x : It) : Value := .agg #[.int .i64 x.1.1, .int .i64 x.1.2, .int .u64 (x.2 : Nat)]
def EI : El It where
  k := 3
  enc x := [.int .i64 x.1.1, .int .i64 x.1.2, .int .u64 (x.2 : Nat)]
  len _ := rfl
  one x u hu := by
    simp at hu
    rcases hu with rfl | rfl | rfl <;> rfl
theorem ls_at {w : World} {v : Value} {ts : List It} (h : Ls EI w v ts) {j : Nat} {x : It} (hj : ts[j]? = some x) :
    ∃ b off c, v = .slice (some ⟨b, off, none⟩) ts.length c ∧ b < w.heap.size ∧ w.cell? ⟨b, off + j * 3, none⟩ = some (.int .i64 x.1.1) ∧ w.cell? ⟨b, off + j * 3 + 1, none⟩ = some (.int .i64 x.1.2) ∧ w.cell? ⟨b, off + j * 3 + 2, none⟩ = some (.int .u64 (x.2 : Nat)) := by
  obtain ⟨b, off, c, hv, hb, hc⟩ := h.get hj
  exact ⟨b, off, c, hv, hb, hc 0 _ (by decide) rfl,hc 1 _ (by decide) rfl,hc 2 _ (by decide) rfl⟩
abbrev fv (f : Nat) : Value := .func (.func f) #[] #[]
/-- A function that answers r. -/
structure FnOk (f : Nat) (r : Th → Th → Bool) : Prop where
  enter : ∀ args w, (callFunc f args).run Try.prog w = .ok (.enter f args) w
  calls : ∀ (a b : Th) (W : World), Calls Try.prog f #[tv a, tv b] W fun e w' => e = .returned (.bool (r a b)) ∧ Gr W w'
/-- a comes out ahead of b. -/
def ahd (r : Th → Th → Bool) (a b : It) : Bool := if a.2 < b.2 then !r b.1 a.1 else r a.1 b.1
/-- A heap's block and its row. -/
structure Hb (w : World) (hb ff : Nat) (v : Value) (L : List It) (np : Nat) : Prop where
  blk : w.heap[hb]? = some (.cells #[fv ff, v, .int .u64 (np : Nat)] 66 (0, 0))
  own : w.ownsRow 0 69 3 v L.length (fl EI L)
  off : v.ownBlock ≠ some hb
section
variable {w w' : World} {hb ff np : Nat} {v : Value} {L : List It}
theorem Hb.lt (h : Hb w hb ff v L np) : hb < w.heap.size := (Array.getElem?_eq_some_iff.1 h.blk).1
theorem Hb.c0 (h : Hb w hb ff v L np) : w.cell? ⟨hb, 0, none⟩ = some (fv ff) := by simp [World.cell?, h.blk]
theorem Hb.c1 (h : Hb w hb ff v L np) : w.cell? ⟨hb, 1, none⟩ = some v := by simp [World.cell?, h.blk]
theorem Hb.c2 (h : Hb w hb ff v L np) : w.cell? ⟨hb, 2, none⟩ = some (.int .u64 (np : Nat)) := by simp [World.cell?, h.blk]
theorem Hb.fz (h : Hb w hb ff v L np) (o : Nat) : w.frozen? ⟨hb, o, none⟩ = false := by simp [World.frozen?, h.blk]
theorem Hb.lst (h : Hb w hb ff v L np) : Ls EI w v L := owns_ls (E := EI) h.own
theorem Hb.row (h : Hb w hb ff v L np) : ∀ k, v.ownBlock = some k → k < w.heap.size := fun k hk => (h.own.lt k hk).2
theorem Hb.kp {S : Nat → Prop} (h : Hb w hb ff v L np) (hk : Kp S w w') (h1 : ¬ S hb) (h2 : ∀ k, v.ownBlock = some k → ¬ S k) : Hb w' hb ff v L np :=
  ⟨(hk.block hb h.lt h1).trans h.blk, owns_kp hk h.own h2, h.off⟩
theorem Hb.below (h : Hb w hb ff v L np) (hb' : Below w.heap.size w w') : Hb w' hb ff v L np := h.kp (S := fun _ => False) (Kp.of_below hb') (fun h => h) (fun _ _ h => h)
theorem Hb.gr (h : Hb w hb ff v L np) (hg : Gr w w') : Hb w' hb ff v L np := h.below hg.below
end
/-- The block is set anew. -/
theorem blk_set {w : World} {hb ff : Nat} {v n : Value} (h : w.heap[hb]? = some (.cells #[fv ff, v, n] 66 (0, 0))) :
    (∀ v2, (w.setCell ⟨hb, 1, none⟩ v2).heap[hb]? = some (.cells #[fv ff, v2, n] 66 (0, 0)) ∧ Kp (fun k => k = hb) w (w.setCell ⟨hb, 1, none⟩ v2)) ∧ (∀ n2, (w.setCell ⟨hb, 2, none⟩ n2).heap[hb]? = some (.cells #[fv ff, v, n2] 66 (0, 0)) ∧ Kp (fun k => k = hb) w (w.setCell ⟨hb, 2, none⟩ n2)) := by
  refine ⟨fun v2 => ?_, fun n2 => ?_⟩
  · have e := setCell_eq_setRow w hb 1 _ _ _ v2 h
    rw [e]
    exact ⟨by rw [setRow_heap w hb _ _ _ _ h]; simp, rfl, rfl, rfl, by simp [World.setRow], fun k _ hne => setRow_other w hb k _ (by omega)⟩
  · have e := setCell_eq_setRow w hb 2 _ _ _ n2 h
    rw [e]
    exact ⟨by rw [setRow_heap w hb _ _ _ _ h]; simp, rfl, rfl, rfl, by simp [World.setRow], fun k _ hne => setRow_other w hb k _ (by omega)⟩
theorem Hb.setNp {w : World} {hb ff np : Nat} {v : Value} {L : List It} (h : Hb w hb ff v L np) (n : Nat) : Hb (w.setCell ⟨hb, 2, none⟩ (.int .u64 n)) hb ff v L n ∧ Kp (fun k => k = hb) w (w.setCell ⟨hb, 2, none⟩ (.int .u64 n)) := by
  obtain ⟨h1, h2⟩ := (blk_set h.blk).2 (.int .u64 n)
  exact ⟨⟨h1, owns_kp h2 h.own (fun k hk e => h.off (e ▸ hk)), h.off⟩, h2⟩
theorem owns_cell {w : World} {e : TypeId} {s g n cap q : Nat} {xs : List Value} (u : Value) (h : w.ownsRow 0 e s (.slice (some ⟨g, 0, none⟩) n cap) n xs) :
    (w.setCell ⟨g, q, none⟩ u).ownsRow 0 e s (.slice (some ⟨g, 0, none⟩) n cap) n (xs.set q u) ∧ Kp (fun k => k = g) w (w.setCell ⟨g, q, none⟩ u) := by
  obtain ⟨h1, ⟨h0, _⟩ | ⟨g', cap', cur, hv, hg, hh, h2, h3, h4, h5⟩⟩ := h
  · cases h0
  · cases hv
    have e1 := setCell_eq_setRow w g q _ _ _ u hh
    have hk1 : Kp (fun k => k = g) w (w.setCell ⟨g, q, none⟩ u) := by
      rw [e1]
      exact ⟨rfl, rfl, rfl, by simp [World.setRow], fun q _ hne => setRow_other _ g q _ (by omega)⟩
    refine ⟨⟨by simpa using h1, Or.inr ⟨g, cap, _, rfl, hg, by rw [e1]; exact setRow_heap _ g _ _ _ _ hh, h2, h3, ?_, ?_⟩⟩, hk1⟩
    · simp [h4]
    · rw [Array.toList_setIfInBounds, List.take_set, h5]
theorem fl_item (L : List It) (i : Nat) (x : It) : ((((fl EI L).set (i * 3) (.int .i64 x.1.1)).set (i * 3 + 1) (.int .i64 x.1.2)).set (i * 3 + 2) (.int .u64 (x.2 : Nat))) = fl EI (L.set i x) := by
  induction L generalizing i with
  | nil => simp [fl]
  | cons y L ih =>
    rw [fl_cons]
    cases i with
    | zero => simp [EI, fl]
    | succ i =>
      rw [List.set_cons_succ, fl_cons, ← ih i, show (i + 1) * 3 = i * 3 + 3 by omega]
      simp [EI]
/-- One item is stored. -/
theorem owns_item {w : World} {g N cap i : Nat} {L : List It} (x : It) (h : w.ownsRow 0 69 3 (.slice (some ⟨g, 0, none⟩) N cap) N (fl EI L)) : (((w.setCell ⟨g, i * 3, none⟩ (.int .i64 x.1.1)).setCell ⟨g, i * 3 + 1, none⟩ (.int .i64 x.1.2)).setCell ⟨g, i * 3 + 2, none⟩ (.int .u64 (x.2 : Nat))).ownsRow 0 69 3 (.slice (some ⟨g, 0, none⟩) N cap) N (fl EI (L.set i x)) ∧ Kp (fun k => k = g) w (((w.setCell ⟨g, i * 3, none⟩ (.int .i64 x.1.1)).setCell ⟨g, i * 3 + 1, none⟩ (.int .i64 x.1.2)).setCell ⟨g, i * 3 + 2, none⟩ (.int .u64 (x.2 : Nat))) := by
  obtain ⟨h0, m0⟩ := owns_cell (q := i * 3) (.int .i64 x.1.1) h
  obtain ⟨h1, m1⟩ := owns_cell (q := i * 3 + 1) (.int .i64 x.1.2) h0
  obtain ⟨h2, m2⟩ := owns_cell (q := i * 3 + 2) (.int .u64 (x.2 : Nat)) h1
  refine ⟨?_, ((m0.trans m1 (fun _ _ h => h)).trans m2 (fun _ _ h => h))⟩
  rw [← fl_item]
  exact h2
/-- What a call may turn of a heap: its block, its row. -/
def Turn (hb : Nat) (v v' : Value) (w w' : World) : Prop := Kp (fun k => k = hb ∨ v.ownBlock = some k) w w' ∧ ∀ g, v'.ownBlock = some g → v.ownBlock = some g ∨ w.heap.size ≤ g
theorem Turn.refl (hb : Nat) (v : Value) (w : World) : Turn hb v v w w := ⟨Kp.refl _ _, fun _ h => Or.inl h⟩
theorem Turn.of_gr {hb : Nat} {v : Value} {w w' : World} (h : Gr w w') : Turn hb v v w w' := ⟨Kp.of_gr h, fun _ h => Or.inl h⟩
theorem Turn.trans {hb : Nat} {v1 v2 v3 : Value} {a b c : World} (h : Turn hb v1 v2 a b) (k : Turn hb v2 v3 b c) : Turn hb v1 v3 a c := by
  refine ⟨h.1.trans k.1 fun j hj hs => ?_, fun g hg => ?_⟩
  · rcases hs with hs | hs
    · exact Or.inl hs
    · rcases h.2 j hs with h1 | h1
      · exact Or.inr h1
      · omega
  · rcases k.2 g hg with h1 | h1
    · exact h.2 g h1
    · exact Or.inr (Nat.le_trans h.1.size h1)

set_option maxHeartbeats 1000000 in
theorem parent_any (i : Nat) (h0 : 0 < i) (hl : i < 9223372036854775807) (w : World) : Calls Try.prog 33 #[.int .i64 i] w fun e w' => e = .returned (.int .i64 (par i : Nat)) ∧ w' = w := by
  have hz : ((i : Int) - 1).tdiv 2 = (par i : Nat) := by
    unfold par
    rw [Int.tdiv_eq_ediv_of_nonneg (by omega)]; omega
  go_enter Try.func33, Try.ntmps33
  go_wp2
  go_ret
  refine ⟨?_, rfl⟩
  have hw : wrap64 (par i : Nat) = (par i : Nat) := by unfold wrap64; have := par_lt h0; omega
  show Ending.returned (Value.int _ (wrap64 (par i : Nat))) = _
  rw [hw]

set_option maxHeartbeats 1000000 in
theorem ahead_any (ff : Nat) (r : Th → Th → Bool) (hF : FnOk ff r) (x y : It) (hb : Nat) (w : World) (hlt : hb < w.heap.size) (cf : w.cell? ⟨hb, 0, none⟩ = some (fv ff)) :
    Calls Try.prog 48 #[.pointer (some ⟨hb, 0, none⟩), iv x, iv y] w fun e w' => e = .returned (.bool (ahd r x y)) ∧ Gr w w' := by
  have he := hF.enter
  have hc1 := hF.calls y.1 x.1
  have hc2 := hF.calls x.1 y.1
  have hm : Try.prog.follows .mixedOrders = true := by kernel_rfl
  obtain ⟨W1, hW1⟩ : ∃ W1, W1 = (w.alloc (.cells #[.int .i64 x.1.1, .int .i64 x.1.2, .int .u64 (x.2 : Nat)] 69)).alloc (.cells #[.int .i64 y.1.1, .int .i64 y.1.2, .int .u64 (y.2 : Nat)] 69) := ⟨_, rfl⟩
  have G1 : Gr w W1 := by rw [hW1]; exact ((Gr.refl _).alloc _).alloc _
  have hz : w.heap.size + 1 < W1.heap.size := by rw [hW1]; simp
  obtain ⟨nb, hnb⟩ : ∃ nb, nb = w.heap.size := ⟨_, rfl⟩
  have k0 := cell_grown (a := ⟨hb, 0, none⟩) (Nat.lt_trans hlt (Nat.lt_of_succ_lt hz)) ((G1.cell hlt).trans cf)
  obtain ⟨p0, p1, p2⟩ : W1.cell? ⟨nb, 0, none⟩ = some (.int .i64 x.1.1) ∧ W1.cell? ⟨nb, 1, none⟩ = some (.int .i64 x.1.2) ∧ W1.cell? ⟨nb, 2, none⟩ = some (.int .u64 (x.2 : Nat)) := by rw [hW1, hnb]; simp
  obtain ⟨q0, q1, q2⟩ : W1.cell? ⟨nb + 1, 0, none⟩ = some (.int .i64 y.1.1) ∧ W1.cell? ⟨nb + 1, 1, none⟩ = some (.int .i64 y.1.2) ∧ W1.cell? ⟨nb + 1, 2, none⟩ = some (.int .u64 (y.2 : Nat)) := by rw [hW1, hnb]; simp
  have k10 := cell_grown (w := W1) (a := ⟨nb, 0, none⟩) (by rw [hnb]; exact Nat.lt_of_succ_lt hz) p0
  have k11 := cell_grown (w := W1) (a := ⟨nb, 1, none⟩) (by rw [hnb]; exact Nat.lt_of_succ_lt hz) p1
  have k12 := cell_grown (w := W1) (a := ⟨nb, 2, none⟩) (by rw [hnb]; exact Nat.lt_of_succ_lt hz) p2
  have k20 := cell_grown (w := W1) (a := ⟨nb + 1, 0, none⟩) (by rw [hnb]; exact hz) q0
  have k21 := cell_grown (w := W1) (a := ⟨nb + 1, 1, none⟩) (by rw [hnb]; exact hz) q1
  have k22 := cell_grown (w := W1) (a := ⟨nb + 1, 2, none⟩) (by rw [hnb]; exact hz) q2
  by_cases hlt2 : x.2 < y.2
  · have hlz : (x.2 : Int) < (y.2 : Int) := by omega
    have HA : Hid (ahd r x y = !r y.1 x.1) := by unfold ahd; rw [if_pos hlt2]; rfl
    rw [HA.out]
    generalize r y.1 x.1 = rr at hc1 ⊢
    clear hc2 HA
    go_enter Try.func48, Try.ntmps48
    go_upto_region 2 with fail
    rw [← hW1, ← hnb]
    clear hW1 hnb cf
    go_quiet_grown (first | (go_at_fn ff; refine Calls.grown_of (v := .bool rr) (hc1 _)))
    go_wp2
    go_ret
    exact ⟨rfl, (G1.drewN _).grown _⟩
  · have hlz : ¬ (x.2 : Int) < (y.2 : Int) := by omega
    have HA : Hid (ahd r x y = r x.1 y.1) := by unfold ahd; rw [if_neg hlt2]; rfl
    rw [HA.out]
    generalize r x.1 y.1 = rr at hc2 ⊢
    clear hc1 HA
    go_enter Try.func48, Try.ntmps48
    go_upto_region 3 with fail
    rw [← hW1, ← hnb]
    clear hW1 hnb cf
    go_quiet_grown (first | (go_at_fn ff; refine Calls.grown_of (v := .bool rr) (hc2 _)))
    go_wp2
    go_ret
    exact ⟨rfl, (G1.drewN _).grown _⟩
end Go.Proofs.Ytpcamjmfddnglaa.Ht
