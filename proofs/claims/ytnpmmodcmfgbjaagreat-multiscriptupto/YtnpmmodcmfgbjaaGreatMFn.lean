import Derived.Test.YtnpmmodcmfgbjaaGreatMBase
import Derived.Shelf.SlSortCmp.QuietGrown
namespace Go.Proofs.YtnpmmodcmfgbjaaGreat.Cn
open Go.RowKit Go.Sort
attribute [local go_sem ↓] Go.wp_at_zero Go.wp_at_succ

set_option maxHeartbeats 1000000 in
theorem covers1_any (fb : Nat) (bel : Tm → Tm → Bool) (hF : FnOk fb bel) (x v : Tm) (B1 B2 cb : Nat) (w : World) (h1 : B1 < w.heap.size) (h2 : B2 < w.heap.size) (hc : cb < w.heap.size)
    (c1 : w.cell? ⟨B1, 0, none⟩ = some (.pointer (some ⟨cb, 0, none⟩))) (c20 : w.cell? ⟨B2, 0, none⟩ = some (.int .u64 v.1.1)) (c21 : w.cell? ⟨B2, 1, none⟩ = some (.int .u64 v.1.2.1)) (c22 : w.cell? ⟨B2, 2, none⟩ = some (.int .u64 v.1.2.2)) (cf : w.cell? ⟨cb, 0, none⟩ = some (fv fb)) :
    Calls Tryz.prog 54 #[tv x, .pointer (some ⟨B1, 0, none⟩), .pointer (some ⟨B2, 0, none⟩)] w fun e w' => e = .returned (.bool (bel x v)) ∧ Gr w w' := by
  have he := hF.enter
  have hcall := hF.calls x v
  generalize bel x v = r at hcall ⊢
  have hm : Tryz.prog.follows .mixedOrders = true := by kernel_rfl
  obtain ⟨W1, hW1⟩ : ∃ W1, W1 = w.alloc (.cells #[.int .u64 x.1.1, .int .u64 x.1.2.1, .int .u64 x.1.2.2] 37) := ⟨_, rfl⟩
  have G1 : Gr w W1 := by rw [hW1]; exact (Gr.refl _).alloc _
  have hz : w.heap.size < W1.heap.size := by rw [hW1]; simp
  obtain ⟨nb, hnb⟩ : ∃ nb, nb = w.heap.size := ⟨_, rfl⟩
  have k1 := cell_grown (a := ⟨B1, 0, none⟩) (Nat.lt_trans h1 hz) ((G1.cell h1).trans c1)
  have k2 := cell_grown (a := ⟨B2, 0, none⟩) (Nat.lt_trans h2 hz) ((G1.cell h2).trans c20)
  have k3 := cell_grown (a := ⟨B2, 1, none⟩) (Nat.lt_trans h2 hz) ((G1.cell h2).trans c21)
  have k3b := cell_grown (a := ⟨B2, 2, none⟩) (Nat.lt_trans h2 hz) ((G1.cell h2).trans c22)
  have k4 := cell_grown (a := ⟨cb, 0, none⟩) (Nat.lt_trans hc hz) ((G1.cell hc).trans cf)
  have k5 := cell_grown (w := W1) (a := ⟨nb, 0, none⟩) (v := .int .u64 x.1.1) (by rw [hnb]; exact hz) (by rw [hW1, hnb]; simp)
  have k6 := cell_grown (w := W1) (a := ⟨nb, 1, none⟩) (v := .int .u64 x.1.2.1) (by rw [hnb]; exact hz) (by rw [hW1, hnb]; simp)
  have k7 := cell_grown (w := W1) (a := ⟨nb, 2, none⟩) (v := .int .u64 x.1.2.2) (by rw [hnb]; exact hz) (by rw [hW1, hnb]; simp)
  go_enter Tryz.func54, Tryz.ntmps54
  go_wp2_with fail
  rw [← hW1, ← hnb]
  clear hW1 hnb c1 c20 c21 c22 cf
  go_quiet_grown (first | (go_at_fn fb; refine Calls.grown_of (v := .bool r) (hcall _)))
  go_wp2
  go_ret
  exact ⟨rfl, (G1.drewN _).grown _⟩
set_option maxHeartbeats 1000000 in
theorem staying1_any (fb : Nat) (bel : Tm → Tm → Bool) (hF : FnOk fb bel) (x v : Tm) (B1 B2 cb : Nat) (w : World) (h1 : B1 < w.heap.size) (h2 : B2 < w.heap.size) (hc : cb < w.heap.size)
    (c1 : w.cell? ⟨B1, 0, none⟩ = some (.pointer (some ⟨cb, 0, none⟩))) (c20 : w.cell? ⟨B2, 0, none⟩ = some (.int .u64 v.1.1)) (c21 : w.cell? ⟨B2, 1, none⟩ = some (.int .u64 v.1.2.1)) (c22 : w.cell? ⟨B2, 2, none⟩ = some (.int .u64 v.1.2.2)) (cf : w.cell? ⟨cb, 0, none⟩ = some (fv fb)) :
    Calls Tryz.prog 84 #[tv x, .pointer (some ⟨B1, 0, none⟩), .pointer (some ⟨B2, 0, none⟩)] w fun e w' => e = .returned (.bool (bel v x)) ∧ Gr w w' := by
  have he := hF.enter
  have hcall := hF.calls v x
  generalize bel v x = r at hcall ⊢
  have hm : Tryz.prog.follows .mixedOrders = true := by kernel_rfl
  obtain ⟨W1, hW1⟩ : ∃ W1, W1 = w.alloc (.cells #[.int .u64 x.1.1, .int .u64 x.1.2.1, .int .u64 x.1.2.2] 37) := ⟨_, rfl⟩
  have G1 : Gr w W1 := by rw [hW1]; exact (Gr.refl _).alloc _
  have hz : w.heap.size < W1.heap.size := by rw [hW1]; simp
  obtain ⟨nb, hnb⟩ : ∃ nb, nb = w.heap.size := ⟨_, rfl⟩
  have k1 := cell_grown (a := ⟨B1, 0, none⟩) (Nat.lt_trans h1 hz) ((G1.cell h1).trans c1)
  have k2 := cell_grown (a := ⟨B2, 0, none⟩) (Nat.lt_trans h2 hz) ((G1.cell h2).trans c20)
  have k3 := cell_grown (a := ⟨B2, 1, none⟩) (Nat.lt_trans h2 hz) ((G1.cell h2).trans c21)
  have k3b := cell_grown (a := ⟨B2, 2, none⟩) (Nat.lt_trans h2 hz) ((G1.cell h2).trans c22)
  have k4 := cell_grown (a := ⟨cb, 0, none⟩) (Nat.lt_trans hc hz) ((G1.cell hc).trans cf)
  have k5 := cell_grown (w := W1) (a := ⟨nb, 0, none⟩) (v := .int .u64 x.1.1) (by rw [hnb]; exact hz) (by rw [hW1, hnb]; simp)
  have k6 := cell_grown (w := W1) (a := ⟨nb, 1, none⟩) (v := .int .u64 x.1.2.1) (by rw [hnb]; exact hz) (by rw [hW1, hnb]; simp)
  have k7 := cell_grown (w := W1) (a := ⟨nb, 2, none⟩) (v := .int .u64 x.1.2.2) (by rw [hnb]; exact hz) (by rw [hW1, hnb]; simp)
  go_enter Tryz.func84, Tryz.ntmps84
  go_wp2_with fail
  rw [← hW1, ← hnb]
  clear hW1 hnb c1 c20 c21 c22 cf
  go_quiet_grown (first | (go_at_fn fb; refine Calls.grown_of (v := .bool r) (hcall _)))
  go_wp2
  go_ret
  exact ⟨rfl, (G1.drewN _).grown _⟩
set_option maxHeartbeats 1000000 in
theorem place1_any (fb : Nat) (bel : Tm → Tm → Bool) (hF : FnOk fb bel) (x v : Tm) (B1 B2 cb : Nat) (w : World) (h1 : B1 < w.heap.size) (h2 : B2 < w.heap.size) (hc : cb < w.heap.size)
    (c1 : w.cell? ⟨B1, 0, none⟩ = some (.pointer (some ⟨cb, 0, none⟩))) (c20 : w.cell? ⟨B2, 0, none⟩ = some (.int .u64 v.1.1)) (c21 : w.cell? ⟨B2, 1, none⟩ = some (.int .u64 v.1.2.1)) (c22 : w.cell? ⟨B2, 2, none⟩ = some (.int .u64 v.1.2.2)) (cf : w.cell? ⟨cb, 1, none⟩ = some (fv fb)) :
    Calls Tryz.prog 85 #[tv x, .pointer (some ⟨B1, 0, none⟩), .pointer (some ⟨B2, 0, none⟩)] w fun e w' => e = .returned (.bool (bel v x)) ∧ Gr w w' := by
  have he := hF.enter
  have hcall := hF.calls v x
  generalize bel v x = r at hcall ⊢
  have hm : Tryz.prog.follows .mixedOrders = true := by kernel_rfl
  obtain ⟨W1, hW1⟩ : ∃ W1, W1 = w.alloc (.cells #[.int .u64 x.1.1, .int .u64 x.1.2.1, .int .u64 x.1.2.2] 37) := ⟨_, rfl⟩
  have G1 : Gr w W1 := by rw [hW1]; exact (Gr.refl _).alloc _
  have hz : w.heap.size < W1.heap.size := by rw [hW1]; simp
  obtain ⟨nb, hnb⟩ : ∃ nb, nb = w.heap.size := ⟨_, rfl⟩
  have k1 := cell_grown (a := ⟨B1, 0, none⟩) (Nat.lt_trans h1 hz) ((G1.cell h1).trans c1)
  have k2 := cell_grown (a := ⟨B2, 0, none⟩) (Nat.lt_trans h2 hz) ((G1.cell h2).trans c20)
  have k3 := cell_grown (a := ⟨B2, 1, none⟩) (Nat.lt_trans h2 hz) ((G1.cell h2).trans c21)
  have k3b := cell_grown (a := ⟨B2, 2, none⟩) (Nat.lt_trans h2 hz) ((G1.cell h2).trans c22)
  have k4 := cell_grown (a := ⟨cb, 1, none⟩) (Nat.lt_trans hc hz) ((G1.cell hc).trans cf)
  have k5 := cell_grown (w := W1) (a := ⟨nb, 0, none⟩) (v := .int .u64 x.1.1) (by rw [hnb]; exact hz) (by rw [hW1, hnb]; simp)
  have k6 := cell_grown (w := W1) (a := ⟨nb, 1, none⟩) (v := .int .u64 x.1.2.1) (by rw [hnb]; exact hz) (by rw [hW1, hnb]; simp)
  have k7 := cell_grown (w := W1) (a := ⟨nb, 2, none⟩) (v := .int .u64 x.1.2.2) (by rw [hnb]; exact hz) (by rw [hW1, hnb]; simp)
  go_enter Tryz.func85, Tryz.ntmps85
  go_wp2_with fail
  rw [← hW1, ← hnb]
  clear hW1 hnb c1 c20 c21 c22 cf
  go_quiet_grown (first | (go_at_fn fb; refine Calls.grown_of (v := .bool r) (hcall _)))
  go_wp2
  go_ret
  exact ⟨rfl, (G1.drewN _).grown _⟩
/-- A predicate over times, at every later world. -/
def PredG (g : Nat) (lb : Array Value) (p : Tm → Bool) (w : World) : Prop := ∀ (W : World) (x : Tm), Gr w W → Calls Tryz.prog g (#[tv x] ++ lb) W fun e w' => e = .returned (.bool (p x)) ∧ Gr W w'
/-- The first place, or -1. -/
def idxv (p : Tm → Bool) (l : List Tm) : Int := if l.findIdx p < l.length then (l.findIdx p : Int) else -1
theorem idxv_hit {p : Tm → Bool} {l : List Tm} {k : Nat} {x : Tm} (hx : l[k]? = some x) (hp : p x = true) (hn : ∀ j y, j < k → l[j]? = some y → p y = false) : idxv p l = (k : Int) := by
  obtain ⟨hk, rfl⟩ := List.getElem?_eq_some_iff.1 hx
  have : l.findIdx p = k := by
    rw [List.findIdx_eq hk]
    exact ⟨hp, fun j hj => by simpa using hn j _ hj (List.getElem?_eq_getElem (Nat.lt_trans hj hk))⟩
  unfold idxv
  rw [this, if_pos hk]
theorem idxv_miss {p : Tm → Bool} {l : List Tm} (hn : ∀ j y, j < l.length → l[j]? = some y → p y = false) : idxv p l = -1 := by
  have : l.findIdx p = l.length := by
    rw [List.findIdx_eq_length]
    intro x hx
    obtain ⟨j, hj⟩ := List.mem_iff_getElem?.1 hx
    exact hn j x (List.getElem?_eq_some_iff.1 hj).1 hj
  unfold idxv
  rw [this, if_neg (Nat.lt_irrefl _)]
theorem idxv_neg (p : Tm → Bool) (l : List Tm) : decide (0 ≤ idxv p l) = l.any p := by
  unfold idxv
  by_cases h : l.findIdx p < l.length
  · rw [if_pos h]
    have : l.any p = true := by
      rw [List.findIdx_lt_length] at h
      simpa using h
    rw [this]; simp
  · rw [if_neg h]
    have : l.any p = false := by
      rw [List.findIdx_lt_length] at h
      simpa using h
    rw [this]; simp

set_option maxHeartbeats 2000000 in
set_option maxRecDepth 100000 in
theorem indexFunc_any (v : Value) (l : List Tm) (g : Nat) (lb : Array Value) (p : Tm → Bool) (w : World) (hv : Lst w v l) (hl : l.length ≤ maxLen) (eg : ∀ args w, (callFunc g args).run Tryz.prog w = .ok (.enter g args) w) (hp : PredG g lb p w) :
    Calls Tryz.prog 70 #[v, .func (.func g) #[] lb] w fun e w' => e = .returned (.int .i64 (idxv p l)) ∧ Gr w w' := by
  unfold maxLen at hl
  obtain ⟨pl, cl, rfl⟩ := hv.form
  have HL : Hid (Lst w (.slice pl l.length cl) l) := hv
  have HP : Hid (PredG g lb p w) := hp
  clear hv hp
  obtain ⟨r, hr⟩ : ∃ r, r = idxv p l := ⟨_, rfl⟩
  rw [← hr]
  have HRR : Hid (r = idxv p l) := hr
  clear hr
  go_enter Tryz.func70, Tryz.ntmps70
  go_wp2_with fail
  go_loopw [5, 8] (fun s5 s8 wr => ∃ k : Nat, k ≤ l.length ∧ s8 = .int .i64 k ∧ Gr w wr ∧ Hid (∀ j y, j < k → l[j]? = some y → p y = false)) (fun _ s8 _ => l.length - (RowKit.intOf s8).toNat)
  case atStart => exact ⟨0, Nat.zero_le _, rfl, Gr.refl _, fun j _ hj => absurd hj (Nat.not_lt_zero _)⟩
  case round =>
    obtain ⟨k, hk, rfl, hgr, A⟩ := hrel
    by_cases hlt : k < l.length
    · have hltz : (k : Int) < (l.length : Int) := by omega
      obtain ⟨x, hx⟩ : ∃ x, l[k]? = some x := ⟨l[k], by simp⟩
      obtain ⟨b1, o1, c1, e1, z1, x1, x2, x3⟩ := (HL.out.below hgr.below).at3 hx
      simp only [Value.slice.injEq] at e1
      obtain ⟨rfl, -, rfl⟩ := e1
      have HX : Hid (l[k]? = some x) := hx
      clear hx
      have hcall := HP.out wr x hgr
      cases hq : p x with
      | true =>
        rw [hq] at hcall
        go_wp2_with (go_at_fn g; refine hcall.mono ?_; rintro e w' ⟨rfl, hb'⟩)
        go_ret
        exact ⟨by rw [HRR.out, idxv_hit HX.out hq A.out]; rfl, hgr.trans hb'⟩
      | false =>
        rw [hq] at hcall
        go_wp2_with (go_at_fn g; refine hcall.mono ?_; rintro e w' ⟨rfl, hb'⟩)
        refine ⟨⟨k + 1, by omega, by go_num, hgr.trans hb', fun j y hj hy => ?_⟩, by simp [RowKit.intOf]; omega⟩
        by_cases e : j = k
        · subst e
          have := HX.out
          rw [hy] at this
          cases this; exact hq
        · exact A.out j y (by omega) hy
    · have hltz : ¬ (k : Int) < (l.length : Int) := by omega
      have hk' : k = l.length := by omega
      subst hk'
      go_wp2
      go_ret
      exact ⟨by rw [HRR.out, idxv_miss A.out]; rfl, hgr⟩

set_option maxHeartbeats 2000000 in
theorem containsFunc_any (v : Value) (l : List Tm) (g : Nat) (lb : Array Value) (p : Tm → Bool) (w : World) (hv : Lst w v l) (hl : l.length ≤ maxLen) (eg : ∀ args w, (callFunc g args).run Tryz.prog w = .ok (.enter g args) w) (hp : PredG g lb p w) :
    Calls Tryz.prog 53 #[v, .func (.func g) #[] lb] w fun e w' => e = .returned (.bool (l.any p)) ∧ Gr w w' := by
  have h := indexFunc_any v l g lb p w hv hl eg hp
  rw [← idxv_neg]
  generalize idxv p l = r at h ⊢
  go_enter Tryz.func53, Tryz.ntmps53
  go_wp2_with fail
  refine h.mono ?_
  rintro e w1 ⟨rfl, hg⟩
  go_wp2
  go_ret
  exact ⟨by first | rfl | simp, hg⟩
/-- A chain's block and its list. -/
structure Ch (w : World) (cb fb ff : Nat) (v : Value) (l : List Tm) : Prop where
  blk : w.heap[cb]? = some (.cells #[fv fb, fv ff, v] 84 (0, 0))
  own : w.ownsRow 0 37 3 v l.length (flT l)
  off : v.ownBlock ≠ some cb
section
variable {w w' : World} {cb fb ff : Nat} {v : Value} {l : List Tm}
theorem Ch.lt (h : Ch w cb fb ff v l) : cb < w.heap.size := (Array.getElem?_eq_some_iff.1 h.blk).1
theorem Ch.c0 (h : Ch w cb fb ff v l) : w.cell? ⟨cb, 0, none⟩ = some (fv fb) := by simp [World.cell?, h.blk]
theorem Ch.c1 (h : Ch w cb fb ff v l) : w.cell? ⟨cb, 1, none⟩ = some (fv ff) := by simp [World.cell?, h.blk]
theorem Ch.c2 (h : Ch w cb fb ff v l) : w.cell? ⟨cb, 2, none⟩ = some v := by simp [World.cell?, h.blk]
theorem Ch.fz (h : Ch w cb fb ff v l) : w.frozen? ⟨cb, 2, none⟩ = false := by simp [World.frozen?, h.blk]
theorem Ch.lst (h : Ch w cb fb ff v l) : Lst w v l := owns_lst h.own
theorem Ch.row (h : Ch w cb fb ff v l) : ∀ k, v.ownBlock = some k → k < w.heap.size := fun k hk => (h.own.lt k hk).2
theorem Ch.kp {S : Nat → Prop} (h : Ch w cb fb ff v l) (hk : Kp S w w') (h1 : ¬ S cb) (h2 : ∀ k, v.ownBlock = some k → ¬ S k) : Ch w' cb fb ff v l :=
  ⟨(hk.block cb h.lt h1).trans h.blk, owns_kp hk h.own h2, h.off⟩
theorem Ch.below (h : Ch w cb fb ff v l) (hb : Below w.heap.size w w') : Ch w' cb fb ff v l := h.kp (S := fun _ => False) (Kp.of_below hb) (fun h => h) (fun _ _ h => h)
/-- The list is set anew. -/
theorem Ch.set {v2 : Value} {l2 : List Tm} (h : Ch w cb fb ff v l) (ho : w.ownsRow 0 37 3 v2 l2.length (flT l2)) (hoff : v2.ownBlock ≠ some cb) : Ch (w.setCell ⟨cb, 2, none⟩ v2) cb fb ff v2 l2 ∧ Kp (fun k => k = cb) w (w.setCell ⟨cb, 2, none⟩ v2) := by
  have e := setCell_eq_setRow w cb 2 _ _ _ v2 h.blk
  have hk : Kp (fun k => k = cb) w (w.setCell ⟨cb, 2, none⟩ v2) := by
    rw [e]
    exact ⟨rfl, rfl, rfl, by simp [World.setRow], fun k _ hne => setRow_other w cb k _ (by omega)⟩
  refine ⟨⟨?_, owns_kp hk ho (fun k hk he => hoff (he ▸ hk)), hoff⟩, hk⟩
  rw [e, setRow_heap w cb _ _ _ _ h.blk]
  simp
end
/-- What a call may turn of a chain: its block, its row. -/
def Turn (cb : Nat) (v v' : Value) (w w' : World) : Prop := Kp (fun k => k = cb ∨ v.ownBlock = some k) w w' ∧ ∀ g, v'.ownBlock = some g → v.ownBlock = some g ∨ w.heap.size ≤ g
theorem Turn.refl (cb : Nat) (v : Value) (w : World) : Turn cb v v w w := ⟨Kp.refl _ _, fun _ h => Or.inl h⟩
theorem Turn.of_below {cb : Nat} {v : Value} {w w' : World} (h : Below w.heap.size w w') : Turn cb v v w w' := ⟨Kp.of_below h, fun _ h => Or.inl h⟩
theorem Turn.trans {cb : Nat} {v1 v2 v3 : Value} {a b c : World} (h : Turn cb v1 v2 a b) (k : Turn cb v2 v3 b c) : Turn cb v1 v3 a c := by
  refine ⟨h.1.trans k.1 fun j hj hs => ?_, fun g hg => ?_⟩
  · rcases hs with hs | hs
    · exact Or.inl hs
    · rcases h.2 j hs with h1 | h1
      · exact Or.inr h1
      · exact absurd h1 (Nat.not_le.2 hj)
  · rcases k.2 g hg with h1 | h1
    · exact h.2 g h1
    · exact Or.inr (Nat.le_trans h.1.size h1)
/-- Of a chain that lies above B. -/
theorem Turn.below {cb B : Nat} {v v' : Value} {w w' : World} (h : Turn cb v v' w w') (hB : B ≤ w.heap.size) (hc : B ≤ cb) (hv : ∀ g, v.ownBlock = some g → B ≤ g) : Below B w w' ∧ ∀ g, v'.ownBlock = some g → B ≤ g := by
  refine ⟨h.1.below hB fun k hk => ?_, fun g hg => ?_⟩
  · rcases hk with rfl | hk
    · exact hc
    · exact hv k hk
  · rcases h.2 g hg with h1 | h1
    · exact hv g h1
    · exact Nat.le_trans hB h1

end Go.Proofs.YtnpmmodcmfgbjaaGreat.Cn
