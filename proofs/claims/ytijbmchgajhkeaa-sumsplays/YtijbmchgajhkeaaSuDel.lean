import Derived.Test.YtijbmchgajhkeaaSuTm
import Derived.Test.YtijbmchgajhkeaaLClear
import Derived.Lib.SliceRun
import Derived.Deep.LoopGhost
namespace Go.Proofs.Ytijbmchgajhkeaa.Cn
open Go.RowKit Go.Sort
attribute [local go_sem ↓] Go.wp_at_zero Go.wp_at_succ

/-- A predicate over times, at every later world. -/
def PredG (g : Nat) (lb : Array Value) (p : Tm → Bool) (w : World) : Prop := ∀ (W : World) (x : Tm), Gr w W → Calls Try.prog g (#[tv x] ++ lb) W fun e w' => e = .returned (.bool (p x)) ∧ Gr W w'
/-- The first place, or -1. -/
def idxv (p : Tm → Bool) (l : List Tm) : Int := if l.findIdx p < l.length then (l.findIdx p : Int) else -1
theorem idxv_hit {p : Tm → Bool} {l : List Tm} {k : Nat} {x : Tm} (hx : l[k]? = some x) (hp : p x = true) (hn : ∀ j y, j < k → l[j]? = some y → p y = false) : idxv p l = (k : Int) := by
  obtain ⟨hk, rfl⟩ := List.getElem?_eq_some_iff.1 hx
  have : l.findIdx p = k := by
    rw [List.findIdx_eq hk]
    exact ⟨hp, fun j hj => by simpa using hn j _ hj (List.getElem?_eq_getElem (Nat.lt_trans hj hk))⟩
  unfold idxv
  rw [this, if_pos hk]
theorem idxv_miss {p : Tm → Bool} {l : List Tm} (hn : ∀ j y, j < l.length → l[j]? = some y → p y = false) : idxv p l = -1 := by
  have : l.findIdx p = l.length := by
    rw [List.findIdx_eq_length]
    intro x hx
    obtain ⟨j, hj⟩ := List.mem_iff_getElem?.1 hx
    exact hn j x (List.getElem?_eq_some_iff.1 hj).1 hj
  unfold idxv
  rw [this, if_neg (Nat.lt_irrefl _)]
theorem idxv_neg (p : Tm → Bool) (l : List Tm) : decide (0 ≤ idxv p l) = l.any p := by
  unfold idxv
  by_cases h : l.findIdx p < l.length
  · rw [if_pos h]
    have : l.any p = true := by
      rw [List.findIdx_lt_length] at h
      simpa using h
    rw [this]; simp
  · rw [if_neg h]
    have : l.any p = false := by
      rw [List.findIdx_lt_length] at h
      simpa using h
    rw [this]; simp

set_option maxHeartbeats 2000000 in
set_option maxRecDepth 100000 in
theorem indexFunc_any (v : Value) (l : List Tm) (g : Nat) (lb : Array Value) (p : Tm → Bool) (w : World) (hv : Lst w v l) (hl : l.length ≤ maxLen) (eg : ∀ args w, (callFunc g args).run Try.prog w = .ok (.enter g args) w) (hp : PredG g lb p w) :
    Calls Try.prog 44 #[v, .func (.func g) #[] lb] w fun e w' => e = .returned (.int .i64 (idxv p l)) ∧ Gr w w' := by
  unfold maxLen at hl
  obtain ⟨pl, cl, rfl⟩ := hv.form
  have HL : Hid (Lst w (.slice pl l.length cl) l) := hv
  have HP : Hid (PredG g lb p w) := hp
  clear hv hp
  obtain ⟨r, hr⟩ : ∃ r, r = idxv p l := ⟨_, rfl⟩
  rw [← hr]
  have HRR : Hid (r = idxv p l) := hr
  clear hr
  go_enter Try.func44, Try.ntmps44
  go_wp2_with fail
  go_loopw [5, 8] (fun s5 s8 wr => ∃ k : Nat, k ≤ l.length ∧ s8 = .int .i64 k ∧ Gr w wr ∧ Hid (∀ j y, j < k → l[j]? = some y → p y = false)) (fun _ s8 _ => l.length - (RowKit.intOf s8).toNat)
  case atStart => exact ⟨0, Nat.zero_le _, rfl, Gr.refl _, fun j _ hj => absurd hj (Nat.not_lt_zero _)⟩
  case round =>
    obtain ⟨k, hk, rfl, hgr, A⟩ := hrel
    by_cases hlt : k < l.length
    · have hltz : (k : Int) < (l.length : Int) := by omega
      obtain ⟨x, hx⟩ : ∃ x, l[k]? = some x := ⟨l[k], by simp⟩
      obtain ⟨b1, o1, c1, e1, z1, x1, x2, x3⟩ := (HL.out.below hgr.below).at3 hx
      simp only [Value.slice.injEq] at e1
      obtain ⟨rfl, -, rfl⟩ := e1
      have HX : Hid (l[k]? = some x) := hx
      clear hx
      have hcall := HP.out wr x hgr
      cases hq : p x with
      | true =>
        rw [hq] at hcall
        go_wp2_with (go_at_fn g; refine hcall.mono ?_; rintro e w' ⟨rfl, hb'⟩)
        go_ret
        exact ⟨by rw [HRR.out, idxv_hit HX.out hq A.out]; rfl, hgr.trans hb'⟩
      | false =>
        rw [hq] at hcall
        go_wp2_with (go_at_fn g; refine hcall.mono ?_; rintro e w' ⟨rfl, hb'⟩)
        refine ⟨⟨k + 1, by omega, by go_num, hgr.trans hb', fun j y hj hy => ?_⟩, by simp [RowKit.intOf]; omega⟩
        by_cases e : j = k
        · subst e
          have := HX.out
          rw [hy] at this
          cases this; exact hq
        · exact A.out j y (by omega) hy
    · have hltz : ¬ (k : Int) < (l.length : Int) := by omega
      have hk' : k = l.length := by omega
      subst hk'
      go_wp2
      go_ret
      exact ⟨by rw [HRR.out, idxv_miss A.out]; rfl, hgr⟩

set_option maxHeartbeats 2000000 in
theorem containsFunc_any (v : Value) (l : List Tm) (g : Nat) (lb : Array Value) (p : Tm → Bool) (w : World) (hv : Lst w v l) (hl : l.length ≤ maxLen) (eg : ∀ args w, (callFunc g args).run Try.prog w = .ok (.enter g args) w) (hp : PredG g lb p w) :
    Calls Try.prog 45 #[v, .func (.func g) #[] lb] w fun e w' => e = .returned (.bool (l.any p)) ∧ Gr w w' := by
  have h := indexFunc_any v l g lb p w hv hl eg hp
  rw [← idxv_neg]
  generalize idxv p l = r at h ⊢
  go_enter Try.func45, Try.ntmps45
  go_wp2_with fail
  refine h.mono ?_
  rintro e w1 ⟨rfl, hg⟩
  go_wp2
  go_ret
  exact ⟨by first | rfl | simp, hg⟩
theorem flT_set (L : List Tm) (k : Nat) (x : Tm) : (((flT L).set (k * 3) (.int .u64 x.1.1)).set (k * 3 + 1) (.int .u64 x.1.2.1)).set (k * 3 + 2) (.int .u64 x.1.2.2) = flT (L.set k x) := by
  induction L generalizing k with
  | nil => simp [flT, fl]
  | cons y L ih =>
    show List.set (List.set (List.set (fl ET (y :: L)) _ _) _ _) _ _ = _
    rw [fl_cons]
    cases k with
    | zero => simp [ET, fl]
    | succ k =>
      rw [List.set_cons_succ]
      show _ = fl ET (y :: L.set k x)
      rw [fl_cons, show fl ET (L.set k x) = flT (L.set k x) from rfl, ← ih k, show (k + 1) * 3 = k * 3 + 3 by omega]
      simp [ET]
      rfl
theorem owns_set3 {w : World} {g N cap k : Nat} {L : List Tm} (x : Tm) (h : w.ownsRow 0 32 3 (.slice (some ⟨g, 0, none⟩) N cap) N (flT L)) :
    (((w.setCell ⟨g, k * 3, none⟩ (.int .u64 x.1.1)).setCell ⟨g, k * 3 + 1, none⟩ (.int .u64 x.1.2.1)).setCell ⟨g, k * 3 + 2, none⟩ (.int .u64 x.1.2.2)).ownsRow 0 32 3 (.slice (some ⟨g, 0, none⟩) N cap) N (flT (L.set k x)) ∧ Kp (fun j => j = g) w (((w.setCell ⟨g, k * 3, none⟩ (.int .u64 x.1.1)).setCell ⟨g, k * 3 + 1, none⟩ (.int .u64 x.1.2.1)).setCell ⟨g, k * 3 + 2, none⟩ (.int .u64 x.1.2.2)) := by
  obtain ⟨hlen, ⟨h0, _⟩ | ⟨g', cap', cur, hv, _, hgg, hn, hm, hcs, htk⟩⟩ := id h
  · cases h0
  cases hv
  have e1 := setCell_eq_setRow w g (k * 3) _ _ _ (.int .u64 x.1.1) hgg
  have hg2 := setRow_heap w g _ (cur.setIfInBounds (k * 3) (.int .u64 x.1.1)) _ _ hgg
  have e2 := setCell_eq_setRow (w.setRow g (cur.setIfInBounds (k * 3) (.int .u64 x.1.1))) g (k * 3 + 1) _ _ _ (.int .u64 x.1.2.1) hg2
  have hg3 := setRow_heap (w.setRow g (cur.setIfInBounds (k * 3) (.int .u64 x.1.1))) g _ ((cur.setIfInBounds (k * 3) (.int .u64 x.1.1)).setIfInBounds (k * 3 + 1) (.int .u64 x.1.2.1)) _ _ hg2
  have e3 := setCell_eq_setRow ((w.setRow g (cur.setIfInBounds (k * 3) (.int .u64 x.1.1))).setRow g ((cur.setIfInBounds (k * 3) (.int .u64 x.1.1)).setIfInBounds (k * 3 + 1) (.int .u64 x.1.2.1))) g (k * 3 + 2) _ _ _ (.int .u64 x.1.2.2) hg3
  rw [e1, e2, e3]
  have hg4 := setRow_heap ((w.setRow g (cur.setIfInBounds (k * 3) (.int .u64 x.1.1))).setRow g ((cur.setIfInBounds (k * 3) (.int .u64 x.1.1)).setIfInBounds (k * 3 + 1) (.int .u64 x.1.2.1))) g _ (((cur.setIfInBounds (k * 3) (.int .u64 x.1.1)).setIfInBounds (k * 3 + 1) (.int .u64 x.1.2.1)).setIfInBounds (k * 3 + 2) (.int .u64 x.1.2.2)) _ _ hg3
  refine ⟨⟨by rw [flT_length] at hlen ⊢; simpa using hlen, Or.inr ⟨g, cap, _, rfl, Nat.zero_le _, hg4, hn, hm, by simpa using hcs, ?_⟩⟩, ⟨rfl, rfl, rfl, by simp [World.setRow], fun j _ hne => ?_⟩⟩
  · rw [Array.toList_setIfInBounds, Array.toList_setIfInBounds, Array.toList_setIfInBounds, List.take_set, List.take_set, List.take_set, htk]
    exact flT_set L k x
  · rw [setRow_other _ g j _ (by omega), setRow_other _ g j _ (by omega), setRow_other _ g j _ (by omega)]

end Go.Proofs.Ytijbmchgajhkeaa.Cn
namespace Go.Proofs.Ytijbmchgajhkeaa
open Go.RowKit Go.Sort Go.Maps
attribute [local go_sem ↓] Go.wp_at_zero Go.wp_at_succ

set_option maxHeartbeats 1000000 in
theorem open1_any (x t : Tm) (B : Nat) (w : World) (hB : B < w.heap.size) (g0 : w.cell? ⟨B, 0, none⟩ = some (.int .u64 t.1.1)) (g1 : w.cell? ⟨B, 1, none⟩ = some (.int .u64 t.1.2.1)) (g2 : w.cell? ⟨B, 2, none⟩ = some (.int .u64 t.1.2.2)) :
    Calls Try.prog 46 #[tv x, .pointer (some ⟨B, 0, none⟩)] w fun e w' => e = .returned (.bool (bel x t)) ∧ Gr w w' := by
  have H := fun W => ahead_ok.calls x t W
  generalize bel x t = r at H ⊢
  have hne : B ≠ w.heap.size := by omega
  go_enter Try.func46, Try.ntmps46
  go_wp2_with (go_at_call 47; refine (H _).mono ?_; rintro e w1 ⟨rfl, hg⟩)
  go_ret
  exact ⟨rfl, ((Gr.refl _).alloc _).trans hg⟩
set_option maxHeartbeats 1000000 in
/-- Open at a list of times. -/
theorem sopen_any (v : Value) (l : List Tm) (x : Tm) (w : World) (hv : Lst w v l) (hl : l.length ≤ maxLen) :
    Calls Try.prog 28 #[v, tv x] w fun e w' => e = .returned (.bool (ccov bel l x)) ∧ Gr w w' := by
  obtain ⟨W2, hW2⟩ : ∃ W2, W2 = w.alloc (.cells #[.int .u64 x.1.1, .int .u64 x.1.2.1, .int .u64 x.1.2.2] 32) := ⟨_, rfl⟩
  have G2 : Gr w W2 := by rw [hW2]; exact (Gr.refl _).alloc _
  have hz : w.heap.size < W2.heap.size := by rw [hW2]; simp
  have b2 : W2.cell? ⟨w.heap.size, 0, none⟩ = some (.int .u64 x.1.1) := by rw [hW2]; simp
  have b3 : W2.cell? ⟨w.heap.size, 1, none⟩ = some (.int .u64 x.1.2.1) := by rw [hW2]; simp
  have b4 : W2.cell? ⟨w.heap.size, 2, none⟩ = some (.int .u64 x.1.2.2) := by rw [hW2]; simp
  have hP : Cn.PredG 46 #[.pointer (some ⟨w.heap.size, 0, none⟩)] (fun y => bel y x) W2 := fun W y hg =>
    open1_any y x w.heap.size W (Nat.lt_of_lt_of_le hz hg.size) ((hg.cell hz).trans b2) ((hg.cell hz).trans b3) ((hg.cell hz).trans b4)
  have h := Cn.containsFunc_any v l _ _ _ W2 (hv.below G2.below) hl (enters_of Try.func46 (by kernel_rfl) rfl) hP
  rw [show (l.any fun y => bel y x) = ccov bel l x from rfl] at h
  generalize ccov bel l x = r at h ⊢
  obtain ⟨pl, cl, rfl⟩ := hv.form
  clear hP b2 b3 b4 hv
  subst hW2
  go_enter Try.func28, Try.ntmps28
  go_wp2_with fail
  refine h.mono ?_
  rintro e w1 ⟨rfl, hg⟩
  go_wp2
  go_ret
  exact ⟨rfl, G2.trans hg⟩
theorem zeroT (w : World) : (zeroValue 32).run Try.prog w = .ok (.agg #[.int .u64 0, .int .u64 0, .int .u64 0]) w := by kernel_rfl
theorem filter_take_succ {α : Type} {p : α → Bool} {l : List α} {j : Nat} {y : α} (h : l[j]? = some y) : (l.take (j + 1)).filter p = (l.take j).filter p ++ (if p y then [y] else []) := by
  rw [List.take_add_one, h, List.filter_append]
  cases hp : p y <;> simp [hp]
theorem filter_findIdx {α : Type} {p : α → Bool} {l : List α} {i : Nat} {y : α} (hi : l.findIdx p = i) (hy : l[i]? = some y) : (l.take (i + 1)).filter (fun x => !p x) = l.take i := by
  have hlt : i < l.length := (List.getElem?_eq_some_iff.1 hy).1
  have hp : p y = true := by
    obtain ⟨h1, h2⟩ := List.getElem?_eq_some_iff.1 hy
    subst hi
    rw [← h2]
    exact List.findIdx_getElem (w := hlt)
  rw [filter_take_succ hy, hp]
  simp only [Bool.not_true, Bool.false_eq_true, if_false, List.append_nil]
  rw [List.filter_eq_self]
  intro a ha
  subst hi
  rw [findIdx_take_false (p := p) ha]; rfl

set_option maxHeartbeats 4000000 in
set_option maxRecDepth 100000 in
theorem deleteFunc_any {base : Nat} (g cap : Nat) (l : List Tm) (gf : Nat) (lb : Array Value) (p : Tm → Bool) (w : World) (ho : w.ownsRow base 32 3 (.slice (some ⟨g, 0, none⟩) l.length cap) l.length (flT l)) (hl : l.length * 24 ≤ 140737488355328) (eg : ∀ args w, (callFunc gf args).run Try.prog w = .ok (.enter gf args) w)
    (hp : ∀ (W : World) (x : Tm), Kp (fun k => k = g) w W → Calls Try.prog gf (#[tv x] ++ lb) W fun e w' => e = .returned (.bool (p x)) ∧ Gr W w') :
    Calls Try.prog 26 #[.slice (some ⟨g, 0, none⟩) l.length cap, .func (.func gf) #[] lb] w fun e w' => ∃ c', e = .returned (.slice (some ⟨g, 0, none⟩) (l.filter fun x => !p x).length c') ∧
      w'.ownsRow 0 32 3 (.slice (some ⟨g, 0, none⟩) (l.filter fun x => !p x).length c') (l.filter fun x => !p x).length (flT (l.filter fun x => !p x)) ∧ Kp (fun k => k = g) w w' := by
  have hix := Cn.indexFunc_any (.slice (some ⟨g, 0, none⟩) l.length cap) l gf lb p w (owns_lst ho) (by unfold maxLen; omega) eg (fun W x hg => hp W x (Kp.of_gr hg))
  have HP : Hid (∀ (W : World) (x : Tm), Kp (fun k => k = g) w W → Calls Try.prog gf (#[tv x] ++ lb) W fun e w' => e = .returned (.bool (p x)) ∧ Gr W w') := hp
  have HO : Hid (w.ownsRow 0 32 3 (.slice (some ⟨g, 0, none⟩) l.length cap) l.length (flT l)) := owns_base ho (Nat.zero_le _)
  obtain ⟨hc1, hc2⟩ := owns_cap ho
  unfold maxLen at hc2
  clear hp ho
  by_cases hi : l.findIdx p < l.length
  · have hv : Cn.idxv p l = ((l.findIdx p : Nat) : Int) := by unfold Cn.idxv; rw [if_pos hi]
    rw [hv] at hix
    obtain ⟨y0, hy0⟩ : ∃ y, l[l.findIdx p]? = some y := ⟨l[l.findIdx p], by simp⟩
    have HF := filter_findIdx (p := p) rfl hy0
    clear hv hy0
    generalize l.findIdx p = i at *
    have HF0 : Hid ((l.take (i + 1)).filter (fun x => !p x) = l.take i) := HF
    clear HF
    have hne : ¬ (i : Int) = -1 := by omega
    go_enter Try.func26, Try.ntmps26
    go_wp2_with fail
    refine hix.mono ?_
    rintro e w1 ⟨rfl, hg1⟩
    have HG1 : Hid (Gr w w1) := hg1
    have HO1 : Hid (w1.ownsRow 0 32 3 (.slice (some ⟨g, 0, none⟩) l.length cap) l.length (flT l)) := owns_below HO.out hg1.below
    clear hix hg1
    go_wp2_with fail
    go_loopw [5, 6, 7] (fun s5 s6 _ wr => ∃ (j q : Nat) (M : List Tm), j ≤ l.length ∧ s6 = .int .i64 j ∧ s5 = .int .i64 q ∧ q < j ∧ Hid (wr.ownsRow 0 32 3 (.slice (some ⟨g, 0, none⟩) l.length cap) l.length (flT M) ∧ M.length = l.length ∧ M.take q = (l.take j).filter (fun x => !p x) ∧ M.drop j = l.drop j ∧ Kp (fun k => k = g) w1 wr)) (fun _ s6 _ _ => l.length - (RowKit.intOf s6).toNat)
    case atStart => exact ⟨i + 1, i, l, by omega, by go_num, rfl, by omega, HO1.out, rfl, HF0.out.symm, rfl, Kp.refl _ _⟩
    case round =>
      obtain ⟨j, q, M, hj, rfl, rfl, hqj, HI⟩ := hrel
      obtain ⟨hoM, hML, hMt, hMd, hkp⟩ := HI.out
      by_cases hlt : j < l.length
      · have hltz : (j : Int) < (l.length : Int) := by omega
        obtain ⟨y, hy⟩ : ∃ y, l[j]? = some y := ⟨l[j], by simp⟩
        have hMy : M[j]? = some y := by
          have : (M.drop j)[0]? = (l.drop j)[0]? := by rw [hMd]
          simpa [hy] using this
        obtain ⟨b1, o1, c1, e1, z1, x1, x2, x3⟩ := (owns_lst (ts := M) (by rw [hML]; exact hoM)).at3 hMy
        simp only [Value.slice.injEq, Option.some.injEq, Addr.mk.injEq, and_true] at e1
        obtain ⟨⟨rfl, rfl⟩, -, rfl⟩ := e1
        rw [Nat.zero_add] at x1 x2 x3
        obtain ⟨W2, hW2⟩ : ∃ W2, W2 = wr.alloc (.cells #[.int .u64 y.1.1, .int .u64 y.1.2.1, .int .u64 y.1.2.2] 32) := ⟨_, rfl⟩
        have G2 : Gr wr W2 := by rw [hW2]; exact (Gr.refl _).alloc _
        have hcall := HP.out W2 y ((Kp.of_gr HG1.out).trans (hkp.trans (Kp.of_gr (S := fun k => k = g) G2) (fun _ _ h => h)) (fun _ _ h => h))
        have HFS : Hid ((l.take (j + 1)).filter (fun x => !p x) = (l.take j).filter (fun x => !p x) ++ (if (!p y) then [y] else [])) := filter_take_succ hy
        have HMD : Hid (∀ M' : List Tm, M'.drop j = l.drop j → M'.drop (j + 1) = l.drop (j + 1)) := fun M' h => by rw [← List.drop_drop, h, List.drop_drop]
        have HMT : Hid (M.take q = (l.take j).filter (fun x => !p x)) := hMt
        have HMDD : Hid (M.drop j = l.drop j) := hMd
        have HM : Hid (wr.ownsRow 0 32 3 (.slice (some ⟨g, 0, none⟩) l.length cap) l.length (flT M)) := hoM
        have HKP : Hid (Kp (fun k => k = g) w1 wr) := hkp
        have hgl : g < wr.heap.size := z1
        clear hy hMy hMt hMd hoM hkp HI
        cases hq : p y with
        | true =>
          rw [hq] at hcall
          have HE : Hid ((l.take (j + 1)).filter (fun x => !p x) = (l.take j).filter (fun x => !p x)) := by rw [HFS.out, hq]; simp [Hid]
          subst hW2
          go_wp2_with (go_at_fn gf; refine hcall.mono ?_; rintro e w3 ⟨rfl, hg3⟩)
          go_roundw
          case rel =>
            refine ⟨_, _, _, _, _, _, _, _, _, _, _, _, _, _, _, _, _, _, _, _, _, _, _, ?rl, rfl⟩
            exact ⟨j + 1, q, M, by omega, by go_num, rfl, by omega, owns_below HM.out (G2.trans hg3).below, hML, by rw [HE.out]; exact HMT.out, HMD.out M HMDD.out, HKP.out.trans (Kp.of_gr (S := fun k => k = g) (G2.trans hg3)) (fun _ _ h => h)⟩
          case measure => simp [RowKit.intOf]; omega
        | false =>
          rw [hq] at hcall
          have HE : Hid ((l.take (j + 1)).filter (fun x => !p x) = (l.take j).filter (fun x => !p x) ++ [y]) := by rw [HFS.out, hq]; simp [Hid]
          have hq0 : W2.cell? ⟨wr.heap.size, 0, none⟩ = some (.int .u64 y.1.1) := by rw [hW2]; simp
          have hq1 : W2.cell? ⟨wr.heap.size, 1, none⟩ = some (.int .u64 y.1.2.1) := by rw [hW2]; simp
          have hq2 : W2.cell? ⟨wr.heap.size, 2, none⟩ = some (.int .u64 y.1.2.2) := by rw [hW2]; simp
          have hnl : wr.heap.size < W2.heap.size := by rw [hW2]; simp
          obtain ⟨u, hu⟩ : ∃ u, M[q]? = some u := ⟨M[q]'(by omega), by simp⟩
          have HU : Hid (M[q]? = some u) := hu
          have hgn : g ≠ wr.heap.size := by omega
          clear hu
          subst hW2
          go_wp2_with fail
          go_at_fn gf
          refine hcall.mono ?_
          rintro e w3 ⟨rfl, hg3⟩
          have HO3 : Hid (w3.ownsRow 0 32 3 (.slice (some ⟨g, 0, none⟩) l.length cap) l.length (flT M)) := owns_below HM.out (G2.trans hg3).below
          obtain ⟨b2, o2, c2, e2, z2, u1, u2, u3⟩ := (owns_lst (ts := M) (by rw [hML]; exact HO3.out)).at3 HU.out
          simp only [Value.slice.injEq, Option.some.injEq, Addr.mk.injEq, and_true] at e2
          obtain ⟨⟨rfl, rfl⟩, -, rfl⟩ := e2
          rw [Nat.zero_add] at u1 u2 u3
          obtain ⟨f1, f2, f3⟩ : w3.frozen? ⟨g, q * 3, none⟩ = false ∧ w3.frozen? ⟨g, q * 3 + 1, none⟩ = false ∧ w3.frozen? ⟨g, q * 3 + 2, none⟩ = false := by
            obtain ⟨_, ⟨h0, _⟩ | ⟨g', cap', cur, hv, _, hgg, _⟩⟩ := id HO3.out
            · cases h0
            · cases hv; simp [World.frozen?, hgg]
          have r0 := (hg3.cell hnl).trans hq0
          have r1 := (hg3.cell hnl).trans hq1
          have r2 := (hg3.cell hnl).trans hq2
          have hn3 := Nat.lt_of_lt_of_le hnl hg3.size
          have hqz : (q : Int) < (l.length : Int) := by omega
          clear hq0 hq1 hq2 x1 x2 x3 hcall
          go_wp2
          obtain ⟨ho4, hk4⟩ := Cn.owns_set3 (k := q) y HO3.out
          go_roundw
          case rel =>
            refine ⟨_, _, _, _, _, _, _, _, _, _, _, _, _, _, _, _, _, _, _, _, _, _, _, ?rl2, rfl⟩
            refine ⟨j + 1, q + 1, M.set q y, by omega, by go_num, by go_num, by omega, ho4, by simp [hML], ?_, HMD.out _ ?_, (HKP.out.trans (Kp.of_gr (S := fun k => k = g) (G2.trans hg3)) (fun _ _ h => h)).trans hk4 (fun _ _ h => h)⟩
            · rw [HE.out, ← HMT.out, List.take_add_one, List.getElem?_set_self (by omega), List.take_set_of_le (Nat.le_refl _)]
              rfl
            · rw [List.drop_set_of_lt hqj]
              exact HMDD.out
          case measure => simp [RowKit.intOf]; omega
      · have hltz : ¬ (j : Int) < (l.length : Int) := by omega
        have hjl : j = l.length := by omega
        subst hjl
        rw [List.take_length] at hMt
        have HM9 : Hid (M.take q = l.filter (fun x => !p x)) := hMt
        have hql : (l.filter (fun x => !p x)).length = q := by rw [← hMt, List.length_take]; omega
        have HQL : Hid ((l.filter (fun x => !p x)).length = q) := hql
        obtain ⟨w9, hrun, ho9, hk9⟩ := owns_clear (P := Try.prog) (E := ET) (sT := 23) (z := .agg #[.int .u64 0, .int .u64 0, .int .u64 0]) 0 (cap - q) Try.underlying23 zeroT rfl (fun j hj => by have hj' : j < 3 := hj; (match j, hj' with | 0, _ => rfl | 1, _ => rfl | 2, _ => rfl)) (by decide) hoM hML hqj
        have hrun : Sem.run Try.prog (Builtin.clear_ #[23] 0 #[.slice (some ⟨g, q * 3, none⟩) (l.length - q) (cap - q)]) wr = .ok (.tuple #[]) w9 := hrun
        have H9 : Hid (w9.ownsRow 0 32 3 (.slice (some ⟨g, 0, none⟩) q cap) q (flT (M.take q)) ∧ Kp (fun k => k = g) w w9) := ⟨ho9, (Kp.of_gr HG1.out).trans (hkp.trans hk9 (fun _ _ h => h)) (fun _ _ h => h)⟩
        have z1 : (0 : Int) ≤ (q : Int) := by omega
        have z2 : (q : Int) ≤ (l.length : Int) := by omega
        have z3 : ¬ cap = q := by omega
        have z4 : (q : Int) ≤ (cap : Int) := by omega
        have z5 : ¬ cap = 0 := by omega
        clear hMt hql hoM hk9 ho9 hMd HI hkp
        go_wp2
        go_ret
        refine ⟨cap, by rw [HQL.out]; rfl, ?_, H9.out.2⟩
        rw [HQL.out, ← HM9.out]
        exact H9.out.1
  · have hv : Cn.idxv p l = -1 := by unfold Cn.idxv; rw [if_neg hi]
    rw [hv] at hix
    have HF : Hid (l.filter (fun x => !p x) = l) := by
      rw [List.findIdx_lt_length] at hi
      show _ = _
      rw [List.filter_eq_self]
      intro a ha
      cases hq : p a with
      | false => rfl
      | true => exact absurd ⟨a, ha, hq⟩ hi
    rw [HF.out]
    clear hv hi
    go_enter Try.func26, Try.ntmps26
    go_wp2_with fail
    refine hix.mono ?_
    rintro e w1 ⟨rfl, hg1⟩
    go_wp2
    go_ret
    exact ⟨_, rfl, owns_below HO.out hg1.below, Kp.of_gr hg1⟩
end Go.Proofs.Ytijbmchgajhkeaa
