import Derived.Test.YtdnnfgabdkkdjaaGreatJ5
import Derived.Shelf.SlSortCmp.QuietGrown
import Derived.Deep.LoopGhost
import Derived.Deep.DeepCutAuto
import Derived.Deep.RegionLaw
namespace Go.Proofs.YtdnnfgabdkkdjaaGreat.Pc.Cn
open Go.RowKit Go.Sort
attribute [local go_sem ↓] Go.wp_at_zero Go.wp_at_succ
set_option maxHeartbeats 1000000 in
theorem covers1_any (fb : Nat) (bel : Tm → Tm → Bool) (hF : FnOk fb bel) (x v : Tm) (B1 B2 cb : Nat) (w : World) (h1 : B1 < w.heap.size) (h2 : B2 < w.heap.size) (hc : cb < w.heap.size)
    (c1 : w.cell? ⟨B1, 0, none⟩ = some (.pointer (some ⟨cb, 0, none⟩))) (c20 : w.cell? ⟨B2, 0, none⟩ = some (.int .u64 v.1.1)) (c21 : w.cell? ⟨B2, 1, none⟩ = some (.int .u64 v.1.2.1)) (c22 : w.cell? ⟨B2, 2, none⟩ = some (.int .u64 v.1.2.2)) (cf : w.cell? ⟨cb, 0, none⟩ = some (fv fb)) :
    Calls Tryz.prog 106 #[tv x, .pointer (some ⟨B1, 0, none⟩), .pointer (some ⟨B2, 0, none⟩)] w fun e w' => e = .returned (.bool (bel x v)) ∧ Gr w w' := by
 have he := hF.enter
 have hcall := hF.calls x v
 generalize bel x v = r at hcall ⊢
 have hm : Tryz.prog.follows .mixedOrders = true := by kernel_rfl
 obtain ⟨W1, hW1⟩ : ∃ W1, W1 = w.alloc (.cells #[.int .u64 x.1.1, .int .u64 x.1.2.1, .int .u64 x.1.2.2] 39) := ⟨_, rfl⟩
 have G1 : Gr w W1 := by rw [hW1]; exact (Gr.refl _).alloc _
 have hz : w.heap.size < W1.heap.size := by rw [hW1]; simp
 obtain ⟨nb, hnb⟩ : ∃ nb, nb = w.heap.size := ⟨_, rfl⟩
 have k1 := cell_grown (a := ⟨B1, 0, none⟩) (Nat.lt_trans h1 hz) ((G1.cell h1).trans c1)
 have k2 := cell_grown (a := ⟨B2, 0, none⟩) (Nat.lt_trans h2 hz) ((G1.cell h2).trans c20)
 have k3 := cell_grown (a := ⟨B2, 1, none⟩) (Nat.lt_trans h2 hz) ((G1.cell h2).trans c21)
 have k3b := cell_grown (a := ⟨B2, 2, none⟩) (Nat.lt_trans h2 hz) ((G1.cell h2).trans c22)
 have k4 := cell_grown (a := ⟨cb, 0, none⟩) (Nat.lt_trans hc hz) ((G1.cell hc).trans cf)
 have k5 := cell_grown (w := W1) (a := ⟨nb, 0, none⟩) (v := .int .u64 x.1.1) (by rw [hnb]; exact hz) (by rw [hW1, hnb]; simp)
 have k6 := cell_grown (w := W1) (a := ⟨nb, 1, none⟩) (v := .int .u64 x.1.2.1) (by rw [hnb]; exact hz) (by rw [hW1, hnb]; simp)
 have k7 := cell_grown (w := W1) (a := ⟨nb, 2, none⟩) (v := .int .u64 x.1.2.2) (by rw [hnb]; exact hz) (by rw [hW1, hnb]; simp)
 go_enter Tryz.func106, Tryz.ntmps106
 go_wp2_with fail
 rw [← hW1, ← hnb]
 clear hW1 hnb c1 c20 c21 c22 cf
 go_quiet_grown (first | (go_at_fn fb; refine Calls.grown_of (v := .bool r) (hcall _)))
 go_wp2
 go_ret
 exact ⟨rfl, (G1.drewN _).grown _⟩
set_option maxHeartbeats 1000000 in
theorem staying1_any (fb : Nat) (bel : Tm → Tm → Bool) (hF : FnOk fb bel) (x v : Tm) (B1 B2 cb : Nat) (w : World) (h1 : B1 < w.heap.size) (h2 : B2 < w.heap.size) (hc : cb < w.heap.size)
    (c1 : w.cell? ⟨B1, 0, none⟩ = some (.pointer (some ⟨cb, 0, none⟩))) (c20 : w.cell? ⟨B2, 0, none⟩ = some (.int .u64 v.1.1)) (c21 : w.cell? ⟨B2, 1, none⟩ = some (.int .u64 v.1.2.1)) (c22 : w.cell? ⟨B2, 2, none⟩ = some (.int .u64 v.1.2.2)) (cf : w.cell? ⟨cb, 0, none⟩ = some (fv fb)) :
    Calls Tryz.prog 107 #[tv x, .pointer (some ⟨B1, 0, none⟩), .pointer (some ⟨B2, 0, none⟩)] w fun e w' => e = .returned (.bool (bel v x)) ∧ Gr w w' := by
 have he := hF.enter
 have hcall := hF.calls v x
 generalize bel v x = r at hcall ⊢
 have hm : Tryz.prog.follows .mixedOrders = true := by kernel_rfl
 obtain ⟨W1, hW1⟩ : ∃ W1, W1 = w.alloc (.cells #[.int .u64 x.1.1, .int .u64 x.1.2.1, .int .u64 x.1.2.2] 39) := ⟨_, rfl⟩
 have G1 : Gr w W1 := by rw [hW1]; exact (Gr.refl _).alloc _
 have hz : w.heap.size < W1.heap.size := by rw [hW1]; simp
 obtain ⟨nb, hnb⟩ : ∃ nb, nb = w.heap.size := ⟨_, rfl⟩
 have k1 := cell_grown (a := ⟨B1, 0, none⟩) (Nat.lt_trans h1 hz) ((G1.cell h1).trans c1)
 have k2 := cell_grown (a := ⟨B2, 0, none⟩) (Nat.lt_trans h2 hz) ((G1.cell h2).trans c20)
 have k3 := cell_grown (a := ⟨B2, 1, none⟩) (Nat.lt_trans h2 hz) ((G1.cell h2).trans c21)
 have k3b := cell_grown (a := ⟨B2, 2, none⟩) (Nat.lt_trans h2 hz) ((G1.cell h2).trans c22)
 have k4 := cell_grown (a := ⟨cb, 0, none⟩) (Nat.lt_trans hc hz) ((G1.cell hc).trans cf)
 have k5 := cell_grown (w := W1) (a := ⟨nb, 0, none⟩) (v := .int .u64 x.1.1) (by rw [hnb]; exact hz) (by rw [hW1, hnb]; simp)
 have k6 := cell_grown (w := W1) (a := ⟨nb, 1, none⟩) (v := .int .u64 x.1.2.1) (by rw [hnb]; exact hz) (by rw [hW1, hnb]; simp)
 have k7 := cell_grown (w := W1) (a := ⟨nb, 2, none⟩) (v := .int .u64 x.1.2.2) (by rw [hnb]; exact hz) (by rw [hW1, hnb]; simp)
 go_enter Tryz.func107, Tryz.ntmps107
 go_wp2_with fail
 rw [← hW1, ← hnb]
 clear hW1 hnb c1 c20 c21 c22 cf
 go_quiet_grown (first | (go_at_fn fb; refine Calls.grown_of (v := .bool r) (hcall _)))
 go_wp2
 go_ret
 exact ⟨rfl, (G1.drewN _).grown _⟩
set_option maxHeartbeats 1000000 in
theorem place1_any (fb : Nat) (bel : Tm → Tm → Bool) (hF : FnOk fb bel) (x v : Tm) (B1 B2 cb : Nat) (w : World) (h1 : B1 < w.heap.size) (h2 : B2 < w.heap.size) (hc : cb < w.heap.size)
    (c1 : w.cell? ⟨B1, 0, none⟩ = some (.pointer (some ⟨cb, 0, none⟩))) (c20 : w.cell? ⟨B2, 0, none⟩ = some (.int .u64 v.1.1)) (c21 : w.cell? ⟨B2, 1, none⟩ = some (.int .u64 v.1.2.1)) (c22 : w.cell? ⟨B2, 2, none⟩ = some (.int .u64 v.1.2.2)) (cf : w.cell? ⟨cb, 1, none⟩ = some (fv fb)) :
    Calls Tryz.prog 108 #[tv x, .pointer (some ⟨B1, 0, none⟩), .pointer (some ⟨B2, 0, none⟩)] w fun e w' => e = .returned (.bool (bel v x)) ∧ Gr w w' := by
 have he := hF.enter
 have hcall := hF.calls v x
 generalize bel v x = r at hcall ⊢
 have hm : Tryz.prog.follows .mixedOrders = true := by kernel_rfl
 obtain ⟨W1, hW1⟩ : ∃ W1, W1 = w.alloc (.cells #[.int .u64 x.1.1, .int .u64 x.1.2.1, .int .u64 x.1.2.2] 39) := ⟨_, rfl⟩
 have G1 : Gr w W1 := by rw [hW1]; exact (Gr.refl _).alloc _
 have hz : w.heap.size < W1.heap.size := by rw [hW1]; simp
 obtain ⟨nb, hnb⟩ : ∃ nb, nb = w.heap.size := ⟨_, rfl⟩
 have k1 := cell_grown (a := ⟨B1, 0, none⟩) (Nat.lt_trans h1 hz) ((G1.cell h1).trans c1)
 have k2 := cell_grown (a := ⟨B2, 0, none⟩) (Nat.lt_trans h2 hz) ((G1.cell h2).trans c20)
 have k3 := cell_grown (a := ⟨B2, 1, none⟩) (Nat.lt_trans h2 hz) ((G1.cell h2).trans c21)
 have k3b := cell_grown (a := ⟨B2, 2, none⟩) (Nat.lt_trans h2 hz) ((G1.cell h2).trans c22)
 have k4 := cell_grown (a := ⟨cb, 1, none⟩) (Nat.lt_trans hc hz) ((G1.cell hc).trans cf)
 have k5 := cell_grown (w := W1) (a := ⟨nb, 0, none⟩) (v := .int .u64 x.1.1) (by rw [hnb]; exact hz) (by rw [hW1, hnb]; simp)
 have k6 := cell_grown (w := W1) (a := ⟨nb, 1, none⟩) (v := .int .u64 x.1.2.1) (by rw [hnb]; exact hz) (by rw [hW1, hnb]; simp)
 have k7 := cell_grown (w := W1) (a := ⟨nb, 2, none⟩) (v := .int .u64 x.1.2.2) (by rw [hnb]; exact hz) (by rw [hW1, hnb]; simp)
 go_enter Tryz.func108, Tryz.ntmps108
 go_wp2_with fail
 rw [← hW1, ← hnb]
 clear hW1 hnb c1 c20 c21 c22 cf
 go_quiet_grown (first | (go_at_fn fb; refine Calls.grown_of (v := .bool r) (hcall _)))
 go_wp2
 go_ret
 exact ⟨rfl, (G1.drewN _).grown _⟩
def PredG (g : Nat) (lb : Array Value) (p : Tm → Bool) (w : World) : Prop := ∀ (W : World) (x : Tm), Gr w W → Calls Tryz.prog g (#[tv x] ++ lb) W fun e w' => e = .returned (.bool (p x)) ∧ Gr W w'
def idxv (p : Tm → Bool) (l : List Tm) : Int := if l.findIdx p < l.length then (l.findIdx p : Int) else -1
theorem idxv_hit {p : Tm → Bool} {l : List Tm} {k : Nat} {x : Tm} (hx : l[k]? = some x) (hp : p x = true) (hn : ∀ j y, j < k → l[j]? = some y → p y = false) : idxv p l = (k : Int) := by
 obtain ⟨hk, rfl⟩ := List.getElem?_eq_some_iff.1 hx
 have : l.findIdx p = k := by
  rw [List.findIdx_eq hk]
  exact ⟨hp, fun j hj => by simpa using hn j _ hj (List.getElem?_eq_getElem (Nat.lt_trans hj hk))⟩
 unfold idxv
 rw [this, if_pos hk]
theorem idxv_miss {p : Tm → Bool} {l : List Tm} (hn : ∀ j y, j < l.length → l[j]? = some y → p y = false) : idxv p l = -1 := by
 have : l.findIdx p = l.length := by
  rw [List.findIdx_eq_length]
  intro x hx
  obtain ⟨j, hj⟩ := List.mem_iff_getElem?.1 hx
  exact hn j x (List.getElem?_eq_some_iff.1 hj).1 hj
 unfold idxv
 rw [this, if_neg (Nat.lt_irrefl _)]
theorem idxv_neg (p : Tm → Bool) (l : List Tm) : decide (0 ≤ idxv p l) = l.any p := by
 unfold idxv
 by_cases h : l.findIdx p < l.length
 ·rw [if_pos h]
  have : l.any p = true := by
   rw [List.findIdx_lt_length] at h
   simpa using h
  rw [this]; simp
 ·rw [if_neg h]
  have : l.any p = false := by
   rw [List.findIdx_lt_length] at h
   simpa using h
  rw [this]; simp
set_option maxHeartbeats 2000000 in
set_option maxRecDepth 100000 in
theorem indexFunc_any (v : Value) (l : List Tm) (g : Nat) (lb : Array Value) (p : Tm → Bool) (w : World) (hv : Lst w v l) (hl : l.length ≤ maxLen) (eg : ∀ args w, (callFunc g args).run Tryz.prog w = .ok (.enter g args) w) (hp : PredG g lb p w) :
    Calls Tryz.prog 64 #[v, .func (.func g) #[] lb] w fun e w' => e = .returned (.int .i64 (idxv p l)) ∧ Gr w w' := by
 unfold maxLen at hl
 obtain ⟨pl, cl, rfl⟩ := hv.form
 have HL : Hid (Lst w (.slice pl l.length cl) l) := hv
 have HP : Hid (PredG g lb p w) := hp
 clear hv hp
 obtain ⟨r, hr⟩ : ∃ r, r = idxv p l := ⟨_, rfl⟩
 rw [← hr]
 have HRR : Hid (r = idxv p l) := hr
 clear hr
 go_enter Tryz.func64, Tryz.ntmps64
 go_wp2_with fail
 go_loopw [5, 8] (fun s5 s8 wr => ∃ k : Nat, k ≤ l.length ∧ s8 = .int .i64 k ∧ Gr w wr ∧ Hid (∀ j y, j < k → l[j]? = some y → p y = false)) (fun _ s8 _ => l.length - (RowKit.intOf s8).toNat)
 case atStart => exact ⟨0, Nat.zero_le _, rfl, Gr.refl _, fun j _ hj => absurd hj (Nat.not_lt_zero _)⟩
 case round =>
  obtain ⟨k, hk, rfl, hgr, A⟩ := hrel
  by_cases hlt : k < l.length
  ·have hltz : (k : Int) < (l.length : Int) := by omega
   obtain ⟨x, hx⟩ : ∃ x, l[k]? = some x := ⟨l[k], by simp⟩
   obtain ⟨b1, o1, c1, e1, z1, x1, x2, x3⟩ := (HL.out.below hgr.below).atP hx
   simp only [Value.slice.injEq] at e1
   obtain ⟨rfl, -, rfl⟩ := e1
   have HX : Hid (l[k]? = some x) := hx
   clear hx
   have hcall := HP.out wr x hgr
   cases hq : p x with
   | true =>
    rw [hq] at hcall
    go_wp2_with (go_at_fn g; refine hcall.mono ?_; rintro e w' ⟨rfl, hb'⟩)
    go_ret
    exact ⟨by rw [HRR.out, idxv_hit HX.out hq A.out]; rfl, hgr.trans hb'⟩
   | false =>
    rw [hq] at hcall
    go_wp2_with (go_at_fn g; refine hcall.mono ?_; rintro e w' ⟨rfl, hb'⟩)
    refine ⟨⟨k + 1, by omega, by go_num, hgr.trans hb', fun j y hj hy => ?_⟩, by simp [RowKit.intOf]; omega⟩
    by_cases e : j = k
    ·subst e
     have := HX.out
     rw [hy] at this
     cases this; exact hq
    ·exact A.out j y (by omega) hy
  ·have hltz : ¬ (k : Int) < (l.length : Int) := by omega
   have hk' : k = l.length := by omega
   subst hk'
   go_wp2
   go_ret
   exact ⟨by rw [HRR.out, idxv_miss A.out]; rfl, hgr⟩
set_option maxHeartbeats 2000000 in
theorem containsFunc_any (v : Value) (l : List Tm) (g : Nat) (lb : Array Value) (p : Tm → Bool) (w : World) (hv : Lst w v l) (hl : l.length ≤ maxLen) (eg : ∀ args w, (callFunc g args).run Tryz.prog w = .ok (.enter g args) w) (hp : PredG g lb p w) :
    Calls Tryz.prog 43 #[v, .func (.func g) #[] lb] w fun e w' => e = .returned (.bool (l.any p)) ∧ Gr w w' := by
 have h := indexFunc_any v l g lb p w hv hl eg hp
 rw [← idxv_neg]
 generalize idxv p l = r at h ⊢
 go_enter Tryz.func43, Tryz.ntmps43
 go_wp2_with fail
 refine h.mono ?_
 rintro e w1 ⟨rfl, hg⟩
 go_wp2
 go_ret
 exact ⟨by first | rfl | simp, hg⟩
structure Ch (w : World) (cb fb ff : Nat) (v : Value) (l : List Tm) : Prop where
 blk : w.heap[cb]? = some (.cells #[fv fb, fv ff, v] 129 (0, 0))
 own : w.ownsRow 0 39 3 v l.length (flT l)
 off : v.ownBlock ≠ some cb
section
variable {w w' : World} {cb fb ff : Nat} {v : Value} {l : List Tm}
theorem Ch.lt (h : Ch w cb fb ff v l) : cb < w.heap.size := (Array.getElem?_eq_some_iff.1 h.blk).1
theorem Ch.c0 (h : Ch w cb fb ff v l) : w.cell? ⟨cb, 0, none⟩ = some (fv fb) := by simp [World.cell?, h.blk]
theorem Ch.c1 (h : Ch w cb fb ff v l) : w.cell? ⟨cb, 1, none⟩ = some (fv ff) := by simp [World.cell?, h.blk]
theorem Ch.c2 (h : Ch w cb fb ff v l) : w.cell? ⟨cb, 2, none⟩ = some v := by simp [World.cell?, h.blk]
theorem Ch.lst (h : Ch w cb fb ff v l) : Lst w v l := owns_lst h.own
theorem Ch.row (h : Ch w cb fb ff v l) : ∀ k, v.ownBlock = some k → k < w.heap.size := fun k hk => (h.own.lt k hk).2
theorem Ch.kp {S : Nat → Prop} (h : Ch w cb fb ff v l) (hk : Kp S w w') (h1 : ¬ S cb) (h2 : ∀ k, v.ownBlock = some k → ¬ S k) : Ch w' cb fb ff v l :=
 ⟨(hk.block cb h.lt h1).trans h.blk, owns_kp hk h.own h2, h.off⟩
theorem Ch.below (h : Ch w cb fb ff v l) (hb : Below w.heap.size w w') : Ch w' cb fb ff v l := h.kp (S := fun _ => False) (Kp.of_below hb) (fun h => h) (fun _ _ h => h)
end
def Turn (cb : Nat) (v v' : Value) (w w' : World) : Prop := Kp (fun k => k = cb ∨ v.ownBlock = some k) w w' ∧ ∀ g, v'.ownBlock = some g → v.ownBlock = some g ∨ w.heap.size ≤ g
theorem Turn.of_below {cb : Nat} {v : Value} {w w' : World} (h : Below w.heap.size w w') : Turn cb v v w w' := ⟨Kp.of_below h, fun _ h => Or.inl h⟩
theorem Turn.below {cb B : Nat} {v v' : Value} {w w' : World} (h : Turn cb v v' w w') (hB : B ≤ w.heap.size) (hc : B ≤ cb) (hv : ∀ g, v.ownBlock = some g → B ≤ g) : Below B w w' ∧ ∀ g, v'.ownBlock = some g → B ≤ g := by
 refine ⟨h.1.below hB fun k hk => ?_, fun g hg => ?_⟩
 ·rcases hk with rfl | hk
  ·exact hc
  ·exact hv k hk
 ·rcases h.2 g hg with h1 | h1
  ·exact hv g h1
  ·exact Nat.le_trans hB h1
end Go.Proofs.YtdnnfgabdkkdjaaGreat.Pc.Cn

namespace Go.Proofs.YtdnnfgabdkkdjaaGreat.Pc.Cn
open Go.RowKit Go.Sort
attribute [local go_sem ↓] Go.wp_at_zero Go.wp_at_succ
theorem len_ok {l : List Tm} (h : l.length * 24 ≤ 140737488355328) : l.length ≤ maxLen := by unfold maxLen; omega
set_option maxHeartbeats 1000000 in
theorem covers_any {cb fb ff : Nat} {v : Value} {l : List Tm} {bel : Tm → Tm → Bool} (x : Tm) (w : World) (hc : Ch w cb fb ff v l) (hl : l.length * 24 ≤ 140737488355328) (hF : FnOk fb bel) :
    Calls Tryz.prog 68 #[.pointer (some ⟨cb, 0, none⟩), tv x] w fun e w' => e = .returned (.bool (ccov bel l x)) ∧ Gr w w' := by
 obtain ⟨W2, hW2⟩ : ∃ W2, W2 = (w.alloc (.cells #[.pointer (some ⟨cb, 0, none⟩)] 98)).alloc (.cells #[.int .u64 x.1.1, .int .u64 x.1.2.1, .int .u64 x.1.2.2] 39) := ⟨_, rfl⟩
 have G2 : Gr w W2 := by rw [hW2]; exact ((Gr.refl _).alloc _).alloc _
 have hz : w.heap.size + 1 < W2.heap.size := by rw [hW2]; simp
 have b1 : W2.cell? ⟨w.heap.size, 0, none⟩ = some (.pointer (some ⟨cb, 0, none⟩)) := by rw [hW2]; simp
 have b2 : W2.cell? ⟨w.heap.size + 1, 0, none⟩ = some (.int .u64 x.1.1) := by rw [hW2]; simp
 have b3 : W2.cell? ⟨w.heap.size + 1, 1, none⟩ = some (.int .u64 x.1.2.1) := by rw [hW2]; simp
 have b4 : W2.cell? ⟨w.heap.size + 1, 2, none⟩ = some (.int .u64 x.1.2.2) := by rw [hW2]; simp
 have hc2 := hc.below G2.below
 have hP : PredG 106 #[.pointer (some ⟨w.heap.size, 0, none⟩), .pointer (some ⟨w.heap.size + 1, 0, none⟩)] (fun y => bel y x) W2 := fun W y hg =>
  covers1_any fb bel hF y x w.heap.size (w.heap.size + 1) cb W (Nat.lt_of_lt_of_le (by omega) hg.size) (Nat.lt_of_lt_of_le hz hg.size) (Nat.lt_of_lt_of_le hc2.lt hg.size)
   ((hg.cell (by omega)).trans b1) ((hg.cell hz).trans b2) ((hg.cell hz).trans b3) ((hg.cell hz).trans b4) ((hg.cell hc2.lt).trans hc2.c0)
 have h := containsFunc_any v l _ _ _ W2 hc2.lst (len_ok hl) (enters_of Tryz.func106 (by kernel_rfl) rfl) hP
 rw [show (l.any fun y => bel y x) = ccov bel l x from rfl] at h
 generalize ccov bel l x = r at h ⊢
 have k2 := hc.c2
 have kl := hc.lt
 clear hP hc2 b1 b2 b3 b4
 subst hW2
 go_enter Tryz.func68, Tryz.ntmps68
 go_wp2_with fail
 refine h.mono ?_
 rintro e w1 ⟨rfl, hg⟩
 go_wp2
 go_ret
 exact ⟨rfl, G2.trans hg⟩
theorem idxv_place (p : Tm → Bool) (l : List Tm) : (idxv p l < 0 ∧ (l.length : Int) = (l.findIdx p : Int)) ∨ (¬ idxv p l < 0 ∧ idxv p l = (l.findIdx p : Int)) := by
 unfold idxv
 by_cases h : l.findIdx p < l.length
 ·rw [if_pos h]; right; exact ⟨by omega, rfl⟩
 ·rw [if_neg h]; left; have := List.findIdx_le_length (p := p) (xs := l); exact ⟨by omega, by omega⟩
set_option maxHeartbeats 1000000 in
theorem place_any {cb fb ff : Nat} {v u : Value} {l m : List Tm} {fst : Tm → Tm → Bool} (x : Tm) (w : World) (hc : Ch w cb fb ff v l) (hu : Lst w u m) (hl : m.length * 24 ≤ 140737488355328) (hF : FnOk ff fst) :
    Calls Tryz.prog 70 #[.pointer (some ⟨cb, 0, none⟩), u, tv x] w fun e w' => e = .returned (.int .i64 (m.findIdx fun y => fst x y : Nat)) ∧ Gr w w' := by
 obtain ⟨W2, hW2⟩ : ∃ W2, W2 = (w.alloc (.cells #[.pointer (some ⟨cb, 0, none⟩)] 98)).alloc (.cells #[.int .u64 x.1.1, .int .u64 x.1.2.1, .int .u64 x.1.2.2] 39) := ⟨_, rfl⟩
 have G2 : Gr w W2 := by rw [hW2]; exact ((Gr.refl _).alloc _).alloc _
 have hz : w.heap.size + 1 < W2.heap.size := by rw [hW2]; simp
 have b1 : W2.cell? ⟨w.heap.size, 0, none⟩ = some (.pointer (some ⟨cb, 0, none⟩)) := by rw [hW2]; simp
 have b2 : W2.cell? ⟨w.heap.size + 1, 0, none⟩ = some (.int .u64 x.1.1) := by rw [hW2]; simp
 have b3 : W2.cell? ⟨w.heap.size + 1, 1, none⟩ = some (.int .u64 x.1.2.1) := by rw [hW2]; simp
 have b4 : W2.cell? ⟨w.heap.size + 1, 2, none⟩ = some (.int .u64 x.1.2.2) := by rw [hW2]; simp
 have hc2 := hc.below G2.below
 have hP : PredG 108 #[.pointer (some ⟨w.heap.size, 0, none⟩), .pointer (some ⟨w.heap.size + 1, 0, none⟩)] (fun y => fst x y) W2 := fun W y hg =>
  place1_any ff fst hF y x w.heap.size (w.heap.size + 1) cb W (Nat.lt_of_lt_of_le (by omega) hg.size) (Nat.lt_of_lt_of_le hz hg.size) (Nat.lt_of_lt_of_le hc2.lt hg.size)
   ((hg.cell (by omega)).trans b1) ((hg.cell hz).trans b2) ((hg.cell hz).trans b3) ((hg.cell hz).trans b4) ((hg.cell hc2.lt).trans hc2.c1)
 have h := indexFunc_any u m _ _ _ W2 (hu.below G2.below) (len_ok hl) (enters_of Tryz.func108 (by kernel_rfl) rfl) hP
 have hi := idxv_place (fun y => fst x y) m
 obtain ⟨pu, cu, rfl⟩ := hu.form
 generalize idxv (fun y => fst x y) m = r at h hi
 generalize List.findIdx (fun y => fst x y) m = q at hi ⊢
 have k2 := hc.c2
 have kl := hc.lt
 clear hP hc2 b1 b2 b3 b4 hu
 subst hW2
 rcases hi with ⟨h1, h2⟩ | ⟨h1, h2⟩
 ·have HQ : Hid ((m.length : Int) = (q : Int)) := h2
  clear h2
  go_enter Tryz.func70, Tryz.ntmps70
  go_wp2_with fail
  refine h.mono ?_
  rintro e w1 ⟨rfl, hg⟩
  go_wp2
  go_ret
  exact ⟨by rw [← HQ.out]; rfl, G2.trans hg⟩
 ·have HQ : Hid (r = (q : Int)) := h2
  clear h2
  go_enter Tryz.func70, Tryz.ntmps70
  go_wp2_with fail
  refine h.mono ?_
  rintro e w1 ⟨rfl, hg⟩
  go_wp2
  go_ret
  exact ⟨by rw [← HQ.out]; rfl, G2.trans hg⟩
end Go.Proofs.YtdnnfgabdkkdjaaGreat.Pc.Cn

namespace Go.Proofs.YtdnnfgabdkkdjaaGreat.Pc.Cn
open Go.RowKit Go.Sort
attribute [local go_sem ↓] Go.wp_at_zero Go.wp_at_succ
theorem ccut_none {bel : Tm → Tm → Bool} {l : List Tm} {x : Tm} (h : ¬ l.findIdx (fun y => bel x y) < l.length) : ccut bel l x = l := by
 rw [List.findIdx_lt_length] at h
 unfold ccut
 rw [List.filter_eq_self]
 intro a ha
 cases hq : bel x a with
 | false => rfl
 | true => exact absurd ⟨a, ha, hq⟩ h
theorem ccut_at {bel : Tm → Tm → Bool} {l : List Tm} {x : Tm} {i : Nat} (hi : l.findIdx (fun y => bel x y) = i) (h : i < l.length) : ccut bel l x = l.take i ++ ccut bel (l.drop (i + 1)) x := by
 have h1 : l = l.take i ++ l[i] :: l.drop (i + 1) := by rw [← List.drop_eq_getElem_cons h, List.take_append_drop]
 have hp : bel x l[i] = true := by
  subst hi
  exact List.findIdx_getElem (w := h)
 have h2 : (l.take i).filter (fun y => !bel x y) = l.take i := by
  rw [List.filter_eq_self]
  intro a ha
  subst hi
  rw [findIdx_take_false (p := fun y => bel x y) ha]; rfl
 conv => lhs; rw [h1]
 unfold ccut
 rw [List.filter_append, h2, List.filter_cons, hp]
 simp
theorem ccut_take_succ {bel : Tm → Tm → Bool} {m : List Tm} {x y : Tm} {k : Nat} (h : m[k]? = some y) : ccut bel (m.take (k + 1)) x = ccut bel (m.take k) x ++ (if bel x y then [] else [y]) := by
 unfold ccut
 rw [List.take_add_one, h, List.filter_append]
 cases hq : bel x y <;> simp [hq]
theorem ccut_le {bel : Tm → Tm → Bool} {m : List Tm} {x : Tm} (k : Nat) : (ccut bel (m.take k) x).length ≤ k := Nat.le_trans (ccut_length _ _) (List.length_take_le _ _)
theorem wpApp1 {w : World} {ops : Array Oper} {rest : List Oper} {o : Oper} {a : Act} {Q : Exit → Act → World → Prop} (hgd : o.guard = none) (s x : Operand)
    (ho : o.op = .call ⟨.builtin .append, #[s, x], #[35, 35]⟩)
    (base : Nat) (v : Value) (n : Nat) (xs : List Value) (hs : a.eval s = v) (hown : w.ownsRow base 39 3 v n xs)
    (t : Tm) (hx : a.eval x = .slice (some ⟨w.heap.size, 0, none⟩) 1 1) (hbig : (n + 1) * 24 ≤ 140737488355328) (hbase : base ≤ w.heap.size)
    (h : ∀ g cap w', w'.ownsRow base 39 3 (.slice (some ⟨g, 0, none⟩) (n + 1) cap) (n + 1) (xs ++ ET.enc t) → w.grownBy w' v.ownBlock → (v.ownBlock = some g ∨ w.heap.size ≤ g) → wpList Tryz.prog ops Q rest (a.put o.dst (.slice (some ⟨g, 0, none⟩) (n + 1) cap)) w') :
    wpList Tryz.prog ops Q (o :: rest) a (w.alloc (.cells #[.int .u64 t.1.1, .int .u64 t.1.2.1, .int .u64 t.1.2.2] 39)) :=
 YtdnnfgabdkkdjaaGreat.wpApp1 ET Tryz.underlying35 infoTm rfl (by decide) hgd s x ho base v n xs hs hown t hx hbig (by unfold maxLen; omega) hbase _ rfl _ h
theorem wpAppL {w : World} {ops : Array Oper} {rest : List Oper} {o : Oper} {a : Act} {Q : Exit → Act → World → Prop} (hgd : o.guard = none) (s x : Operand)
    (ho : o.op = .call ⟨.builtin .append, #[s, x], #[35, 35]⟩)
    (base : Nat) (v : Value) (n : Nat) (xs : List Value) (hs : a.eval s = v) (hown : w.ownsRow base 39 3 v n xs)
    (v1 : Value) (ts : List Tm) (hx : a.eval x = v1) (hv : Lst w v1 ts) (hbig : (n + ts.length) * 24 ≤ 140737488355328) (hbase : base ≤ w.heap.size)
    (h : ∀ v' w', w'.ownsRow base 39 3 v' (n + ts.length) (xs ++ flT ts) → w.grownBy w' v.ownBlock → wpList Tryz.prog ops Q rest (a.put o.dst v') w') : wpList Tryz.prog ops Q (o :: rest) a w :=
 YtdnnfgabdkkdjaaGreat.wpAppL ET Tryz.underlying35 infoTm rfl (by decide) hgd s x ho base v n xs hs hown v1 ts hx hv hbig (by unfold maxLen; omega) hbase h
set_option maxHeartbeats 2000000 in
set_option maxRecDepth 100000 in
theorem staying_any {cb fb ff : Nat} {v : Value} {l : List Tm} {bel : Tm → Tm → Bool} (x : Tm) (w : World) (hc : Ch w cb fb ff v l) (hl : l.length * 24 ≤ 140737488355328) (hF : FnOk fb bel) :
    Calls Tryz.prog 69 #[.pointer (some ⟨cb, 0, none⟩), tv x] w fun e w' => ∃ v', e = .returned v' ∧ w'.ownsRow 0 39 3 v' (ccut bel l x).length (flT (ccut bel l x)) ∧ Below w.heap.size w w' ∧ (v' = v ∨ ∀ g, v'.ownBlock = some g → w.heap.size ≤ g) := by
 obtain ⟨W2, hW2⟩ : ∃ W2, W2 = (w.alloc (.cells #[.pointer (some ⟨cb, 0, none⟩)] 98)).alloc (.cells #[.int .u64 x.1.1, .int .u64 x.1.2.1, .int .u64 x.1.2.2] 39) := ⟨_, rfl⟩
 have G2 : Gr w W2 := by rw [hW2]; exact ((Gr.refl _).alloc _).alloc _
 have hz : w.heap.size + 1 < W2.heap.size := by rw [hW2]; simp
 have b1 : W2.cell? ⟨w.heap.size, 0, none⟩ = some (.pointer (some ⟨cb, 0, none⟩)) := by rw [hW2]; simp
 have b2 : W2.cell? ⟨w.heap.size + 1, 0, none⟩ = some (.int .u64 x.1.1) := by rw [hW2]; simp
 have b3 : W2.cell? ⟨w.heap.size + 1, 1, none⟩ = some (.int .u64 x.1.2.1) := by rw [hW2]; simp
 have b4 : W2.cell? ⟨w.heap.size + 1, 2, none⟩ = some (.int .u64 x.1.2.2) := by rw [hW2]; simp
 have hc2 := hc.below G2.below
 have HPB : Hid (∀ (W : World) (y : Tm), Below W2.heap.size W2 W → Calls Tryz.prog 107 #[tv y, .pointer (some ⟨w.heap.size, 0, none⟩), .pointer (some ⟨w.heap.size + 1, 0, none⟩)] W fun e w' => e = .returned (.bool (bel x y)) ∧ Gr W w') := fun W y hg =>
  staying1_any fb bel hF y x w.heap.size (w.heap.size + 1) cb W (Nat.lt_of_lt_of_le (by omega) hg.size) (Nat.lt_of_lt_of_le hz hg.size) (Nat.lt_of_lt_of_le hc2.lt hg.size)
   ((hg.cell (p := ⟨_, _, none⟩) (Nat.lt_of_succ_lt hz)).trans b1) ((hg.cell (p := ⟨_, _, none⟩) hz).trans b2) ((hg.cell (p := ⟨_, _, none⟩) hz).trans b3) ((hg.cell (p := ⟨_, _, none⟩) hz).trans b4) ((hg.cell (p := ⟨_, _, none⟩) hc2.lt).trans hc2.c0)
 have hP : PredG 107 #[.pointer (some ⟨w.heap.size, 0, none⟩), .pointer (some ⟨w.heap.size + 1, 0, none⟩)] (fun y => bel x y) W2 := fun W y hg => HPB.out W y hg.below
 have h := indexFunc_any v l _ _ _ W2 hc2.lst (len_ok hl) (enters_of Tryz.func107 (by kernel_rfl) rfl) hP
 clear hP
 have eg : ∀ args w, (callFunc 107 args).run Tryz.prog w = .ok (.enter 107 args) w := enters_of Tryz.func107 (by kernel_rfl) rfl
 have HB1 : Hid (W2.cell? ⟨w.heap.size, 0, none⟩ = some (.pointer (some ⟨cb, 0, none⟩))) := b1
 have HB2 : Hid (W2.cell? ⟨w.heap.size + 1, 0, none⟩ = some (.int .u64 x.1.1)) := b2
 have HB3 : Hid (W2.cell? ⟨w.heap.size + 1, 1, none⟩ = some (.int .u64 x.1.2.1)) := b3
 have HB4 : Hid (W2.cell? ⟨w.heap.size + 1, 2, none⟩ = some (.int .u64 x.1.2.2)) := b4
 have HZ : Hid (w.heap.size + 1 < W2.heap.size) := hz
 have HC2 : Hid (Ch W2 cb fb ff v l) := hc2
 have HCC : Hid (Ch w cb fb ff v l) := hc
 have k2 := hc.c2
 have kl := hc.lt
 clear b1 b2 b3 b4 hz hc2
 by_cases hi : l.findIdx (fun y => bel x y) < l.length
 ·have hv : idxv (fun y => bel x y) l = ((l.findIdx fun y => bel x y : Nat) : Int) := by unfold idxv; rw [if_pos hi]
  have HC := ccut_at (bel := bel) (l := l) (x := x) rfl hi
  rw [hv] at h
  clear hv
  generalize hq : List.findIdx (fun y => bel x y) l = i at *
  clear hq
  obtain ⟨_, ⟨_, h0⟩ | ⟨g, cap, cur, hvf, _, hgg, hn, hm, hcs, htk⟩⟩ := hc.own
  ·omega
  subst hvf
  have hz1 : ¬ (i : Int) < 0 := by omega
  have hz2 : (0 : Int) ≤ (i : Int) := by omega
  have hz3 : (i : Int) ≤ (cap : Int) := by omega
  have hz4 : ¬ cap = 0 := by omega
  obtain ⟨m, hmD⟩ : ∃ m, m = l.length - (i + 1) := ⟨_, rfl⟩
  obtain ⟨D, hD⟩ : ∃ D, D = l.drop (i + 1) := ⟨_, rfl⟩
  have hDl : D.length = m := by rw [hD, hmD]; simp
  have HD : Hid (D = l.drop (i + 1)) := hD
  rw [← hD] at HC
  have HCT : Hid (ccut bel l x = l.take i ++ ccut bel D x) := HC
  have hlt : (l.take i).length = i := by simp; omega
  have hml : i + m + 1 = l.length := by omega
  unfold maxLen at hm
  clear HC hD hmD hc hgg hcs htk
  subst hW2
  go_enter Tryz.func69, Tryz.ntmps69
  go_wp2_with fail
  refine h.mono ?_
  rintro e w1 ⟨rfl, hg⟩
  have k3 := (hg.cell (b := w.heap.size) (o := 0) (Nat.lt_of_succ_lt HZ.out)).trans HB1.out
  have k4 := (hg.cell (b := cb) (o := 2) HC2.out.lt).trans HC2.out.c2
  have k6 : w.heap.size < w1.heap.size := Nat.lt_of_lt_of_le (Nat.lt_of_succ_lt HZ.out) hg.size
  have k7 : cb < w1.heap.size := Nat.lt_of_lt_of_le HC2.out.lt hg.size
  have HL1 : Hid (Lst w1 (.slice (some ⟨g, 0, none⟩) l.length cap) l) := HC2.out.lst.below hg.below
  have HLT : Hid (Lst w1 (.slice (some ⟨g, 0, none⟩) i cap) (l.take i)) := by
   have := HL1.out.cut (k := i) (by omega) cap
   exact this
  clear h
  go_upto_region 6 with (at_builtin; refine wpAppL rfl _ _ rfl w1.heap.size (.slice none 0 0) 0 [] rfl (World.ownsRow_nil _ _ _ _) (.slice (some ⟨g, 0, none⟩) i cap) (l.take i) rfl HLT.out (by omega) (Nat.le_refl _) ?_; intro v5 w5 ho5 hg5)
  have hb5 : Below w1.heap.size w1 w5 := (Kp.grownBy (S := fun _ => False) hg5 (fun k hk => by cases hk)).below (Nat.le_refl _) (fun _ h => h.elim)
  have k3' := (hb5.cell (p := ⟨w.heap.size, 0, none⟩) k6).trans k3
  have k4' := (hb5.cell (p := ⟨cb, 2, none⟩) k7).trans k4
  have k6' : w.heap.size < w5.heap.size := Nat.lt_of_lt_of_le k6 hb5.size
  have k7' : cb < w5.heap.size := Nat.lt_of_lt_of_le k7 hb5.size
  have HL5 : Hid (Lst w5 (.slice (some ⟨g, 0, none⟩) l.length cap) l) := HL1.out.below hb5
  have hz5 : ((i : Int) + 1) ≤ (l.length : Int) := by omega
  have hz6 : (0 : Int) ≤ (i : Int) + 1 := by omega
  clear k3 k4 k6 k7
  go_cut [36, 37, 38] (fun s36 s37 s38 w' => ∃ q c, s36 = .slice q m c ∧ Hid (Lst w1 (.slice q m c) D) ∧ s37 = .int .i64 (m : Int) ∧ s38 = .int .i64 0 ∧ w' = w5)
  case first =>
   have hmm : l.length - (i + 1) = m := by omega
   by_cases hcc : cap = i + 1
   ·go_wp2_with fail
    go_meet
    have h1 := HL1.out.void (k := i + 1) (by omega) 0
    rw [← HD.out, hmm] at h1
    exact ⟨_, _, rfl, h1, rfl, rfl, rfl⟩
   ·go_wp2_with fail
    go_meet
    have h1 := HL1.out.tail (k := i + 1) (cap - (i + 1))
    rw [← HD.out, hmm, Nat.zero_add] at h1
    exact ⟨_, _, rfl, h1, rfl, rfl, rfl⟩
  case rest =>
   obtain ⟨q, c, rfl, HLD1, rfl, rfl, hwc⟩ := hcut
   rw [hwc]
   clear hwc k3' k4' k6' k7' HL5 HLT HL1 hz5 hz6
   rw [hlt, List.nil_append] at ho5
   rw [Nat.zero_add] at ho5
   have HW : Hid (Below ((w.alloc (.cells #[.pointer (some ⟨cb, 0, none⟩)] 98)).alloc (.cells #[.int .u64 x.1.1, .int .u64 x.1.2.1, .int .u64 x.1.2.2] 39)).heap.size ((w.alloc (.cells #[.pointer (some ⟨cb, 0, none⟩)] 98)).alloc (.cells #[.int .u64 x.1.1, .int .u64 x.1.2.1, .int .u64 x.1.2.2] 39)) w1) := hg.below
   have HGW : Hid (Gr w w1) := G2.trans hg
   have hzz := HGW.out.size
   have hsz2 := hg.size
   clear hg G2 hg5
   go_wp2_with fail
   go_loopw [7, 9, 38] (fun s7 _ s38 wr => ∃ k : Nat, k ≤ m ∧ s38 = .int .i64 k ∧ wr.ownsRow w1.heap.size 39 3 s7 (i + (ccut bel (D.take k) x).length) (flT (l.take i ++ ccut bel (D.take k) x)) ∧ Below w1.heap.size w1 wr) (fun _ _ s38 _ => m - (RowKit.intOf s38).toNat)
   case atStart => exact ⟨0, Nat.zero_le _, rfl, by simpa [ccut] using ho5, hb5⟩
   case round =>
    obtain ⟨k, hk, rfl, hown, hbw⟩ := hrel
    clear ho5
    have HIN : Hid (Below ((w.alloc (.cells #[.pointer (some ⟨cb, 0, none⟩)] 98)).alloc (.cells #[.int .u64 x.1.1, .int .u64 x.1.2.1, .int .u64 x.1.2.2] 39)).heap.size ((w.alloc (.cells #[.pointer (some ⟨cb, 0, none⟩)] 98)).alloc (.cells #[.int .u64 x.1.1, .int .u64 x.1.2.1, .int .u64 x.1.2.2] 39)) wr) := HW.out.trans (hbw.mono hsz2)
    have hsz := hbw.size
    by_cases hlt2 : k < m
    ·have hltz : (k : Int) < (m : Int) := by omega
     obtain ⟨y, hy⟩ : ∃ y, D[k]? = some y := ⟨D[k]'(by omega), by simp⟩
     have HLw : Lst wr (.slice q m c) D := HLD1.out.below hbw
     obtain ⟨b1, o1, c1, e1, z1, x1, x2, x3⟩ := HLw.atP hy
     simp only [Value.slice.injEq] at e1
     obtain ⟨rfl, -, rfl⟩ := e1
     clear HLw
     have HY : Hid (ccut bel (D.take (k + 1)) x = ccut bel (D.take k) x ++ (if bel x y then [] else [y])) := ccut_take_succ hy
     have hcl := ccut_le (bel := bel) (m := D) (x := x) k
     clear hy
     generalize ccut bel (D.take k) x = f at *
     have hcall := HPB.out (wr.alloc (.cells #[.int .u64 y.1.1, .int .u64 y.1.2.1, .int .u64 y.1.2.2] 39)) y (HIN.out.trans ((Below.refl _ _).alloc HIN.out.size _))
     cases hq : bel x y with
     | true =>
      rw [hq] at hcall
      have HE : Hid (ccut bel (D.take (k + 1)) x = f) := by rw [HY.out, hq]; simp [Hid]
      go_wp2_with (go_at_call 107; refine hcall.mono ?_; rintro e w3 ⟨rfl, hg3⟩)
      refine ⟨⟨k + 1, by omega, by go_num, by rw [HE.out]; exact owns_below (hown.alloc _) hg3.below, (hbw.alloc hsz _).trans (hg3.below.mono (by simp; omega))⟩, by simp [RowKit.intOf]; omega⟩
     | false =>
      rw [hq] at hcall
      have HE : Hid (ccut bel (D.take (k + 1)) x = f ++ [y]) := by rw [HY.out, hq]; simp [Hid]
      go_wp2_with fail
      go_at_call 107
      refine hcall.mono ?_
      rintro e w3 ⟨rfl, hg3⟩
      have q1 : w3.cell? ⟨wr.heap.size, 0, none⟩ = some (.int .u64 y.1.1) := (hg3.cell (by simp)).trans (by simp)
      have q2 : w3.cell? ⟨wr.heap.size, 1, none⟩ = some (.int .u64 y.1.2.1) := (hg3.cell (by simp)).trans (by simp)
      have q2b : w3.cell? ⟨wr.heap.size, 2, none⟩ = some (.int .u64 y.1.2.2) := (hg3.cell (by simp)).trans (by simp)
      have q3 : wr.heap.size < w3.heap.size := Nat.lt_of_lt_of_le (by simp) hg3.size
      have hown3 := owns_below (hown.alloc _) hg3.below
      clear x1 x2 x3 hcall
      go_wp2_with (at_builtin; refine wpApp1 rfl _ _ rfl w1.heap.size _ (i + f.length) _ rfl hown3 y rfl (by omega) (by omega) ?_)
      intro g9 c9 w9 ho9 hg9 hl9
      go_wp2
      refine ⟨⟨k + 1, by omega, by go_num, ?_, ?_⟩, by simp [RowKit.intOf]; omega⟩
      ·rw [HE.out]
       simpa [flT_append, flT_one, Nat.add_assoc] using ho9
      ·exact ((hbw.alloc hsz _).trans (hg3.below.mono (by simp; omega))).trans ((Kp.grownBy (S := fun k => w1.heap.size ≤ k) hg9 (fun k hk => (hown3.lt k hk).1)).below (by omega) (fun _ h => h))
    ·have hltz : ¬ (k : Int) < (m : Int) := by omega
     have hkm : k = m := by omega
     subst hkm
     rw [List.take_of_length_le (by omega)] at hown
     go_wp2
     go_ret
     refine ⟨_, rfl, ?_, HGW.out.below.trans (hbw.mono hzz), Or.inr fun g' hg' => Nat.le_trans hzz (hown.lt g' hg').1⟩
     rw [HCT.out, List.length_append, hlt]
     exact owns_base hown (Nat.zero_le _)
 ·have hv : idxv (fun y => bel x y) l = -1 := by unfold idxv; rw [if_neg hi]
  rw [ccut_none hi]
  rw [hv] at h
  clear hv hi eg HPB
  clear hc
  subst hW2
  go_enter Tryz.func69, Tryz.ntmps69
  go_wp2_with fail
  refine h.mono ?_
  rintro e w1 ⟨rfl, hg⟩
  have k3 := (hg.cell (b := w.heap.size) (o := 0) (Nat.lt_of_succ_lt HZ.out)).trans HB1.out
  have k4 := (hg.cell (b := cb) (o := 2) HC2.out.lt).trans HC2.out.c2
  have k6 : w.heap.size < w1.heap.size := Nat.lt_of_lt_of_le (Nat.lt_of_succ_lt HZ.out) hg.size
  have k7 : cb < w1.heap.size := Nat.lt_of_lt_of_le HC2.out.lt hg.size
  clear h
  go_wp2
  go_ret
  exact ⟨_, rfl, owns_below HCC.out.own (G2.trans hg).below, (G2.trans hg).below, Or.inl rfl⟩
end Go.Proofs.YtdnnfgabdkkdjaaGreat.Pc.Cn

namespace Go.Proofs.YtdnnfgabdkkdjaaGreat.Pc.Cn
open Go.RowKit Go.Sort
attribute [local go_sem ↓] Go.wp_at_zero Go.wp_at_succ
theorem copied (cur : List Value) (M : List Tm) (n k o : Nat) (hM : M.length = n + 1) (hk : k ≤ n) (hc : cur.take ((n + 1) * 3) = flT M) (ho : o = (k + 1) * 3 ∨ n = k) :
    (cur.take o ++ flT ((M.drop k).take (n - k)) ++ cur.drop (o + (n - k) * 3)).take ((n + 1) * 3) = flT (M.take (k + 1) ++ (M.drop k).take (n - k)) := by
 have hl : (n + 1) * 3 ≤ cur.length := by
  have h1 := congrArg List.length hc
  rw [flT_length, hM, List.length_take] at h1
  omega
 rcases ho with rfl | rfl
 ·have h2 : cur.take ((k + 1) * 3) = flT (M.take (k + 1)) := by
    rw [← flT_take, ← hc, List.take_take, Nat.min_eq_left (by omega)]
  rw [h2, flT_append, List.take_append_of_le_length (by simp [flT_length]; omega), List.take_of_length_le (by simp [flT_length]; omega)]
 ·simp only [Nat.sub_self, List.take_zero, flT_nil, List.append_nil, Nat.zero_mul, Nat.add_zero, List.take_append_drop]
  rw [hc, List.take_of_length_le (by omega)]
theorem step_copyP {ops : Array Oper} {o : Oper} {a : Act} {w : World} {K : Act → World → Prop} {Q : Exit → Act → World → Prop} {E : Prop} (hgd : o.guard = none) (d s : Operand)
    (hop : o.op = .call ⟨.builtin .copy, #[d, s], #[35, 35]⟩)
    (g n cap k off dc sc : Nat) (M : List Tm) (hM : M.length = n + 1) (hk : k ≤ n) (hd : a.eval d = .slice (some ⟨g, off, none⟩) (n - k) dc) (ho : off = (k + 1) * 3 ∨ (n = k ∧ off = 0)) (hs : a.eval s = .slice (some ⟨g, k * 3, none⟩) (n + 1 - k) sc)
    (hown : w.ownsRow 0 39 3 (.slice (some ⟨g, 0, none⟩) (n + 1) cap) (n + 1) (flT M))
    (h : ∀ w', w'.ownsRow 0 39 3 (.slice (some ⟨g, 0, none⟩) (n + 1) cap) (n + 1) (flT (M.take (k + 1) ++ (M.drop k).take (n - k))) → Kp (fun j => j = g) w w' → K (a.put o.dst (goInt (n - k : Nat))) w') :
    if Region.wanted o (yielded ops a.tmps) = true then Oper.wp Tryz.prog o a w K Q else E := by
 have hw : Region.wanted o (yielded ops a.tmps) = true := by simp [Region.wanted, hgd]
 rw [if_pos hw]
 obtain ⟨hlen, ⟨h0, _⟩ | ⟨g', cap', cur, hv, _, hgg, hn, hm, hcs, htk⟩⟩ := id hown
 ·cases h0
 cases hv
 have hcl : (flT ((M.drop k).take (n - k))).length = (n - k) * 3 := by rw [flT_length]; simp; omega
 have hmin : Nat.min (n + 1 - k) (n - k) = n - k := Nat.min_eq_right (by omega)
 have hrun := run_copy_rowK (P := Tryz.prog) w 35 35 o.type 39 3 g off (n - k) dc ⟨g, k * 3, none⟩ (n + 1 - k) sc cur 39 (flT ((M.drop k).take (n - k))) Tryz.underlying35 (by kernel_rfl) hgg (by rw [hcl, hmin])
  (fun j v hj => by
   rw [addA]
   have h1 : (flT M)[k * 3 + j]? = some v := by
    rw [← List.getElem?_drop, flT_drop]
    rw [← flT_take, List.getElem?_take] at hj
    split at hj
    ·exact hj
    ·cases hj
   have := hown.cells (g := g) rfl _ _ h1
   rwa [addA, Nat.zero_add] at this)
  (by rw [hcl, hcs]; rcases ho with rfl | ⟨rfl, rfl⟩ <;> omega) (flT_oneCell _)
 rw [hmin] at hrun
 unfold Oper.wp
 simp [execOp, hop, resolve, invoke, builtin, hd, hs, hrun, Result.andThen]
 refine h _ ⟨?_, Or.inr ⟨g, cap, _, rfl, Nat.zero_le _, setRow_heap w g _ _ _ _ hgg, hn, hm, ?_, ?_⟩⟩ ⟨rfl, rfl, rfl, by simp [World.setRow], fun j _ hne => setRow_other w g j _ (by omega)⟩
 ·rw [flT_length]; simp; omega
 ·simp [hcl]; rw [hcs]; rcases ho with rfl | ⟨rfl, rfl⟩ <;> omega
 ·rw [hcl, List.toList_toArray, ← List.append_assoc]
  exact copied cur.toList M n k off hM hk htk (ho.imp id (fun h => h.1))
theorem put_list (m : List Tm) (x : Tm) (n k : Nat) (hn : m.length = n) (hk : k ≤ n) : (((m ++ [x]).take (k + 1) ++ ((m ++ [x]).drop k).take (n - k))).set k x = m.take k ++ x :: m.drop k := by
 subst hn
 have h1 : ((m ++ [x]).drop k).take (m.length - k) = m.drop k := by
  rw [List.drop_append_of_le_length hk, List.take_append_of_le_length (by simp), List.take_of_length_le (by simp)]
 rw [h1]
 have h2 : (m ++ [x]).take k = m.take k := List.take_append_of_le_length hk
 have h3 : ((m ++ [x]).take (k + 1)) = m.take k ++ [(m ++ [x])[k]'(by simp; omega)] := by
  rw [List.take_add_one, h2, List.getElem?_eq_getElem (by simp; omega)]; rfl
 rw [h3]
 generalize (m ++ [x])[k]'(by simp; omega) = y
 rw [List.append_assoc, List.set_append_right _ _ (by rw [List.length_take]; exact Nat.min_le_left _ _)]
 simp [Nat.min_eq_left hk]
theorem flT_set (L : List Tm) (k : Nat) (x : Tm) : (((flT L).set (k * 3) (.int .u64 x.1.1)).set (k * 3 + 1) (.int .u64 x.1.2.1)).set (k * 3 + 2) (.int .u64 x.1.2.2) = flT (L.set k x) := by
 induction L generalizing k with
 | nil => simp [flT, fl]
 | cons y L ih =>
  show List.set (List.set (List.set (fl ET (y :: L)) _ _) _ _) _ _ = _
  rw [fl_cons]
  cases k with
  | zero => simp [ET, fl]
  | succ k =>
   rw [List.set_cons_succ]
   show _ = fl ET (y :: L.set k x)
   rw [fl_cons, show fl ET (L.set k x) = flT (L.set k x) from rfl, ← ih k, show (k + 1) * 3 = k * 3 + 3 by omega]
   simp [ET]
   rfl
theorem owns_set3 {w : World} {g N cap k : Nat} {L : List Tm} (x : Tm) (h : w.ownsRow 0 39 3 (.slice (some ⟨g, 0, none⟩) N cap) N (flT L)) :
    (((w.setCell ⟨g, k * 3, none⟩ (.int .u64 x.1.1)).setCell ⟨g, k * 3 + 1, none⟩ (.int .u64 x.1.2.1)).setCell ⟨g, k * 3 + 2, none⟩ (.int .u64 x.1.2.2)).ownsRow 0 39 3 (.slice (some ⟨g, 0, none⟩) N cap) N (flT (L.set k x)) ∧ Kp (fun j => j = g) w (((w.setCell ⟨g, k * 3, none⟩ (.int .u64 x.1.1)).setCell ⟨g, k * 3 + 1, none⟩ (.int .u64 x.1.2.1)).setCell ⟨g, k * 3 + 2, none⟩ (.int .u64 x.1.2.2)) := by
 obtain ⟨hlen, ⟨h0, _⟩ | ⟨g', cap', cur, hv, _, hgg, hn, hm, hcs, htk⟩⟩ := id h
 ·cases h0
 cases hv
 have e1 := setCell_eq_setRow w g (k * 3) _ _ _ (.int .u64 x.1.1) hgg
 have hg2 := setRow_heap w g _ (cur.setIfInBounds (k * 3) (.int .u64 x.1.1)) _ _ hgg
 have e2 := setCell_eq_setRow (w.setRow g (cur.setIfInBounds (k * 3) (.int .u64 x.1.1))) g (k * 3 + 1) _ _ _ (.int .u64 x.1.2.1) hg2
 have hg3 := setRow_heap (w.setRow g (cur.setIfInBounds (k * 3) (.int .u64 x.1.1))) g _ ((cur.setIfInBounds (k * 3) (.int .u64 x.1.1)).setIfInBounds (k * 3 + 1) (.int .u64 x.1.2.1)) _ _ hg2
 have e3 := setCell_eq_setRow ((w.setRow g (cur.setIfInBounds (k * 3) (.int .u64 x.1.1))).setRow g ((cur.setIfInBounds (k * 3) (.int .u64 x.1.1)).setIfInBounds (k * 3 + 1) (.int .u64 x.1.2.1))) g (k * 3 + 2) _ _ _ (.int .u64 x.1.2.2) hg3
 rw [e1, e2, e3]
 have hg4 := setRow_heap ((w.setRow g (cur.setIfInBounds (k * 3) (.int .u64 x.1.1))).setRow g ((cur.setIfInBounds (k * 3) (.int .u64 x.1.1)).setIfInBounds (k * 3 + 1) (.int .u64 x.1.2.1))) g _ (((cur.setIfInBounds (k * 3) (.int .u64 x.1.1)).setIfInBounds (k * 3 + 1) (.int .u64 x.1.2.1)).setIfInBounds (k * 3 + 2) (.int .u64 x.1.2.2)) _ _ hg3
 refine ⟨⟨by rw [flT_length] at hlen ⊢; simpa using hlen, Or.inr ⟨g, cap, _, rfl, Nat.zero_le _, hg4, hn, hm, by simpa using hcs, ?_⟩⟩, ⟨rfl, rfl, rfl, by simp [World.setRow], fun j _ hne => ?_⟩⟩
 ·rw [Array.toList_setIfInBounds, Array.toList_setIfInBounds, Array.toList_setIfInBounds, List.take_set, List.take_set, List.take_set, htk]
  exact flT_set L k x
 ·rw [setRow_other _ g j _ (by omega), setRow_other _ g j _ (by omega), setRow_other _ g j _ (by omega)]
set_option maxHeartbeats 400000 in
set_option maxRecDepth 100000 in
theorem put_any (u : Value) (m : List Tm) (k : Nat) (x : Tm) (w : World) (hown : w.ownsRow 0 39 3 u m.length (flT m)) (hk : k ≤ m.length) (hl : (m.length + 1) * 24 ≤ 140737488355328) :
    Calls Tryz.prog 71 #[u, .int .i64 k, tv x] w fun e w' => ∃ g cap, e = .returned (.slice (some ⟨g, 0, none⟩) (m.length + 1) cap) ∧ w'.ownsRow 0 39 3 (.slice (some ⟨g, 0, none⟩) (m.length + 1) cap) (m.length + 1) (flT (m.take k ++ x :: m.drop k)) ∧ Kp (fun j => u.ownBlock = some j) w w' ∧ (u.ownBlock = some g ∨ w.heap.size ≤ g) := by
 have hmx : Tryz.prog.follows .mixedOrders = true := by kernel_rfl
 generalize hn : m.length = n at *
 have HN : Hid (m.length = n) := hn
 clear hn
 go_enter Tryz.func71, Tryz.ntmps71
 go_wp2_with (at_builtin; refine wpApp1 rfl _ _ rfl 0 u n (flT m) rfl (hown.alloc _) x (by show Value.slice (some ⟨w.heap.size + 1, 0, none⟩) 1 1 = _; simp) (by omega) (Nat.zero_le _) ?_)
 intro g cap w1 ho1 hg1 hl1
 have hb1 : Kp (fun j => u.ownBlock = some j) w w1 := (Kp.of_below ((Gr.refl w).alloc _).below).trans (Kp.grownBy (S := fun j => u.ownBlock = some j) hg1 (fun _ h => h)) (fun _ _ h => h)
 have hlt1 : w.heap.size < w1.heap.size := Nat.lt_of_lt_of_le (by simp) hg1.size
 have hne : u.ownBlock ≠ some w.heap.size := fun h => by have := (hown.lt _ h).2; omega
 have q1 : w1.cell? ⟨w.heap.size, 0, none⟩ = some (.int .u64 x.1.1) := hg1.cell (a := ⟨w.heap.size, 0, none⟩) (by simp) (fun h => hne h.symm)
 have q2 : w1.cell? ⟨w.heap.size, 1, none⟩ = some (.int .u64 x.1.2.1) := hg1.cell (a := ⟨w.heap.size, 1, none⟩) (by simp) (fun h => hne h.symm)
 have q3 : w1.cell? ⟨w.heap.size, 2, none⟩ = some (.int .u64 x.1.2.2) := hg1.cell (a := ⟨w.heap.size, 2, none⟩) (by simp) (fun h => hne h.symm)
 have ho1' : Hid (w1.ownsRow 0 39 3 (.slice (some ⟨g, 0, none⟩) (n + 1) cap) (n + 1) (flT (m ++ [x]))) := by
  show World.ownsRow _ _ _ _ _ _ _
  rw [flT_append, flT_one]; exact ho1
 obtain ⟨hcp1, hcp2⟩ : n + 1 ≤ cap ∧ cap ≤ maxLen := by
  obtain ⟨_, ⟨h0, _⟩ | ⟨g', cap', cur, hv, _, _, hn, hm, _⟩⟩ := ho1
  ·cases h0
  ·cases hv; exact ⟨hn, hm⟩
 have hgl : g < w1.heap.size := (ho1.lt g rfl).2
 have hgn : g ≠ w.heap.size := by
  rcases hl1 with h | h
  ·have := (hown.lt g h).2; omega
  ·first | omega | (simp at h; omega)
 unfold maxLen at hcp2
 clear ho1 hg1
 have z1 : (0 : Int) ≤ (k : Int) := by omega
 have z2 : (k : Int) + 1 ≤ ((n + 1 : Nat) : Int) := by omega
 have z3 : (k : Int) ≤ ((n + 1 : Nat) : Int) := by omega
 have z4 : ¬ cap = k := by omega
 have hwk : IntKind.i64.wrap ((k : Int) + 1) = (k : Int) + 1 := by rw [IntKind.wrap_i64]; omega
 have z6 : (0 : Int) ≤ (k : Int) + 1 := by omega
 have z7 : (k : Int) + 1 ≤ (n : Int) + 1 := by omega
 have z8 : (k : Int) ≤ (n : Int) + 1 := by omega
 have z9 : ((k : Int) + 1).toNat = k + 1 := by omega
 have z5 : n + 1 - (k + 1) = n - k := by omega
 have HMX : Hid ((m ++ [x]).length = n + 1) := by simp [Hid, HN.out]
 go_upto_region 2 with fail
 go_cut [18] (fun _ w' => w'.ownsRow 0 39 3 (.slice (some ⟨g, 0, none⟩) (n + 1) cap) (n + 1) (flT ((m ++ [x]).take (k + 1) ++ ((m ++ [x]).drop k).take (n - k))) ∧ Kp (fun j => j = g) w1 w')
 case first =>
  by_cases hcc : cap = k + 1
  ·subst hcc
   go_region_law (refine step_copyP rfl (.tmp 14) (.tmp 17) rfl g n (k + 1) k 0 0 1 (m ++ [x]) HMX.out hk (by simp [Act.eval, Act.put]) (Or.inr ⟨by omega, rfl⟩) (by simp [Act.eval, Act.put]) ho1'.out ?_; intro w2 ho2 hk2)
   all_goals (go_wp2_with fail; go_meet; exact ⟨ho2, ⟨hk2.os, hk2.tape, hk2.output, hk2.size, hk2.block⟩⟩)
  ·go_region_law (refine step_copyP rfl (.tmp 14) (.tmp 17) rfl g n cap k ((k + 1) * 3) (cap - (k + 1)) (cap - k) (m ++ [x]) HMX.out hk (by simp [Act.eval, Act.put]) (Or.inl rfl) (by simp [Act.eval, Act.put]) ho1'.out ?_; intro w2 ho2 hk2)
   all_goals (go_wp2_with fail; go_meet; exact ⟨ho2, ⟨hk2.os, hk2.tape, hk2.output, hk2.size, hk2.block⟩⟩)
 case rest =>
  obtain ⟨ho2, hk2⟩ := hcut
  have HS : Hid (((m ++ [x]).take (k + 1) ++ ((m ++ [x]).drop k).take (n - k)).set k x = m.take k ++ x :: m.drop k) := put_list m x n k HN.out hk
  have hL : ((m ++ [x]).take (k + 1) ++ ((m ++ [x]).drop k).take (n - k)).length = n + 1 := by
   have := HMX.out
   simp at this ⊢; omega
  generalize (m ++ [x]).take (k + 1) ++ ((m ++ [x]).drop k).take (n - k) = L2 at *
  obtain ⟨y, hy⟩ : ∃ y, L2[k]? = some y := ⟨L2[k]'(by omega), by simp⟩
  have HT := (owns_lst (ts := L2) (by rw [hL]; exact ho2)).atP hy
  obtain ⟨b1, o1, c1, e1, zz, y1, y2, y3⟩ := HT
  simp only [Value.slice.injEq, Option.some.injEq, Addr.mk.injEq] at e1
  obtain ⟨⟨rfl, rfl, -⟩, -, rfl⟩ := e1
  rw [Nat.zero_add] at y1 y2 y3
  obtain ⟨f1, f2, f3⟩ : wc.frozen? ⟨g, k * 3, none⟩ = false ∧ wc.frozen? ⟨g, k * 3 + 1, none⟩ = false ∧ wc.frozen? ⟨g, k * 3 + 2, none⟩ = false := by
   obtain ⟨_, ⟨h0, _⟩ | ⟨g', cap', cur, hv, _, hgg, _⟩⟩ := id ho2
   ·cases h0
   ·cases hv; simp [World.frozen?, hgg]
  have q1' : wc.cell? ⟨w.heap.size, 0, none⟩ = some (.int .u64 x.1.1) := (World.cell?_of_block (a := ⟨w.heap.size, 0, none⟩) (hk2.block w.heap.size hlt1 (fun h => hgn h.symm))).trans q1
  have q2' : wc.cell? ⟨w.heap.size, 1, none⟩ = some (.int .u64 x.1.2.1) := (World.cell?_of_block (a := ⟨w.heap.size, 1, none⟩) (hk2.block w.heap.size hlt1 (fun h => hgn h.symm))).trans q2
  have q3' : wc.cell? ⟨w.heap.size, 2, none⟩ = some (.int .u64 x.1.2.2) := (World.cell?_of_block (a := ⟨w.heap.size, 2, none⟩) (hk2.block w.heap.size hlt1 (fun h => hgn h.symm))).trans q3
  have zl : (k : Int) < (n : Int) + 1 := by omega
  have zl2 : (k : Int) < ((n + 1 : Nat) : Int) := by omega
  clear q1 q2 q3 hwk z6 z7 z8 z9 z4 z5 z2 z3 hy
  go_wp2
  go_ret
  obtain ⟨ho3, hk3⟩ := owns_set3 (k := k) x ho2
  rw [HS.out] at ho3
  refine ⟨g, cap, rfl, ho3, ?_, hl1.imp id (fun h => by first | omega | (simp at h; omega))⟩
  refine hb1.trans ((hk2.trans hk3 (fun _ _ h => h))) (fun j hj h => ?_)
  subst h
  rcases hl1 with h | h
  ·exact h
  ·exact absurd hj (by first | omega | (simp at h; omega))
end Go.Proofs.YtdnnfgabdkkdjaaGreat.Pc.Cn
