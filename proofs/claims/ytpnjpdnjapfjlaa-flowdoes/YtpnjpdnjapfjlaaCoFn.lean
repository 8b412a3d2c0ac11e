import Derived.Test.YtpnjpdnjapfjlaaCoOne0
import Derived.Test.YtpnjpdnjapfjlaaCoOneC
import Derived.Shelf.Abstract
import Derived.Laws.EntriesVeiled
namespace Go.Proofs.Ytpnjpdnjapfjlaa.Cd
open Go.RowKit Go.Sort
attribute [local go_sem ↓] Go.wp_at_zero Go.wp_at_succ

/-- A predicate over instructions, at every later world. -/
def PredG (g : Nat) (lb : Array Value) (p : Op2 → Bool) (l : List Op2) (w : World) : Prop := ∀ (W : World) (x : Op2), x ∈ l → Gr w W → Calls Try.prog g (#[ov x] ++ lb) W fun e w' => e = .returned (.bool (p x)) ∧ Gr W w'
/-- The first place, or -1. -/
def idxv (p : Op2 → Bool) (l : List Op2) : Int := if l.findIdx p < l.length then (l.findIdx p : Int) else -1
theorem idxv_hit {p : Op2 → Bool} {l : List Op2} {k : Nat} {x : Op2} (hx : l[k]? = some x) (hp : p x = true) (hn : ∀ j y, j < k → l[j]? = some y → p y = false) : idxv p l = (k : Int) := by
  obtain ⟨hk, rfl⟩ := List.getElem?_eq_some_iff.1 hx
  have : l.findIdx p = k := by
    rw [List.findIdx_eq hk]
    exact ⟨hp, fun j hj => by simpa using hn j _ hj (List.getElem?_eq_getElem (Nat.lt_trans hj hk))⟩
  unfold idxv
  rw [this, if_pos hk]
theorem idxv_miss {p : Op2 → Bool} {l : List Op2} (hn : ∀ j y, j < l.length → l[j]? = some y → p y = false) : idxv p l = -1 := by
  have : l.findIdx p = l.length := by
    rw [List.findIdx_eq_length]
    intro x hx
    obtain ⟨j, hj⟩ := List.mem_iff_getElem?.1 hx
    exact hn j x (List.getElem?_eq_some_iff.1 hj).1 hj
  unfold idxv
  rw [this, if_neg (Nat.lt_irrefl _)]
theorem idxv_neg (p : Op2 → Bool) (l : List Op2) : decide (0 ≤ idxv p l) = l.any p := by
  unfold idxv
  by_cases h : l.findIdx p < l.length
  · rw [if_pos h]
    have : l.any p = true := by
      rw [List.findIdx_lt_length] at h
      simpa using h
    rw [this]; simp
  · rw [if_neg h]
    have : l.any p = false := by
      rw [List.findIdx_lt_length] at h
      simpa using h
    rw [this]; simp

set_option maxHeartbeats 2000000 in
set_option maxRecDepth 100000 in
theorem indexFunc_any (v : Value) (l : List Op2) (g : Nat) (lb : Array Value) (p : Op2 → Bool) (w : World) (hv : Ls EO w v l) (hl : l.length ≤ maxLen) (eg : ∀ args w, (callFunc g args).run Try.prog w = .ok (.enter g args) w) (hp : PredG g lb p l w) :
    Calls Try.prog 27 #[v, .func (.func g) #[] lb] w fun e w' => e = .returned (.int .i64 (idxv p l)) ∧ Gr w w' := by
  unfold maxLen at hl
  obtain ⟨pl, cl, rfl⟩ := hv.form
  have HL : Hid (Ls EO w (.slice pl l.length cl) l) := hv
  have HP : Hid (PredG g lb p l w) := hp
  clear hv hp
  obtain ⟨r, hr⟩ : ∃ r, r = idxv p l := ⟨_, rfl⟩
  rw [← hr]
  have HRR : Hid (r = idxv p l) := hr
  clear hr
  go_enter Try.func27, Try.ntmps27
  go_wp2_with fail
  go_loopw [5, 8] (fun s5 s8 wr => ∃ k : Nat, k ≤ l.length ∧ s8 = .int .i64 k ∧ Gr w wr ∧ Hid (∀ j y, j < k → l[j]? = some y → p y = false)) (fun _ s8 _ => l.length - (RowKit.intOf s8).toNat)
  case atStart => exact ⟨0, Nat.zero_le _, rfl, Gr.refl _, fun j _ hj => absurd hj (Nat.not_lt_zero _)⟩
  case round =>
    obtain ⟨k, hk, rfl, hgr, A⟩ := hrel
    by_cases hlt : k < l.length
    · have hltz : (k : Int) < (l.length : Int) := by omega
      obtain ⟨x, hx⟩ : ∃ x, l[k]? = some x := ⟨l[k], by simp⟩
      obtain ⟨b1, o1, c1, e1, z1, x1, x2⟩ := ls_at (HL.out.below hgr.below) hx
      simp only [Value.slice.injEq] at e1
      obtain ⟨rfl, -, rfl⟩ := e1
      have HX : Hid (l[k]? = some x) := hx
      have hcall := HP.out wr x (List.mem_of_getElem? hx) hgr
      clear hx
      cases hq : p x with
      | true =>
        rw [hq] at hcall
        go_wp2_with (go_at_fn g; refine hcall.mono ?_; rintro e w' ⟨rfl, hb'⟩)
        go_ret
        exact ⟨by rw [HRR.out, idxv_hit HX.out hq A.out]; rfl, hgr.trans hb'⟩
      | false =>
        rw [hq] at hcall
        go_wp2_with (go_at_fn g; refine hcall.mono ?_; rintro e w' ⟨rfl, hb'⟩)
        refine ⟨⟨k + 1, by omega, by go_num, hgr.trans hb', fun j y hj hy => ?_⟩, by simp [RowKit.intOf]; omega⟩
        by_cases e : j = k
        · subst e
          have := HX.out
          rw [hy] at this
          cases this; exact hq
        · exact A.out j y (by omega) hy
    · have hltz : ¬ (k : Int) < (l.length : Int) := by omega
      have hk' : k = l.length := by omega
      subst hk'
      go_wp2
      go_ret
      exact ⟨by rw [HRR.out, idxv_miss A.out]; rfl, hgr⟩
set_option maxHeartbeats 2000000 in
theorem containsFunc_any (v : Value) (l : List Op2) (g : Nat) (lb : Array Value) (p : Op2 → Bool) (w : World) (hv : Ls EO w v l) (hl : l.length ≤ maxLen) (eg : ∀ args w, (callFunc g args).run Try.prog w = .ok (.enter g args) w) (hp : PredG g lb p l w) :
    Calls Try.prog 23 #[v, .func (.func g) #[] lb] w fun e w' => e = .returned (.bool (l.any p)) ∧ Gr w w' := by
  have h := indexFunc_any v l g lb p w hv hl eg hp
  rw [← idxv_neg]
  generalize idxv p l = r at h ⊢
  go_enter Try.func23, Try.ntmps23
  go_wp2_with fail
  refine h.mono ?_
  rintro e w1 ⟨rfl, hg⟩
  go_wp2
  go_ret
  exact ⟨by first | rfl | simp, hg⟩
/-- May it be one of the kind's? -/
def may (k : Int) (o : Op2) : Bool := if k = 2 then mayM o else mayF o
/-- Check's answer. -/
def chk (k : Int) (l : List Op2) : Int := if k ≠ 2 ∧ k ≠ 3 then 20 else if 16 < l.length then 2 else if l.any (fun o => !may k o) then 24 else 0
/-- The closure of Check. -/
theorem closeM_any (o : Op2) (b : Nat) (w : World) (h : w.heap[b]? = some (.cells #[.func (.func 21) #[] #[]] 74 (0, 0))) : Calls Try.prog 24 #[ov o, .pointer (some ⟨b, 0, none⟩)] w fun r w' => r = .returned (.bool (!mayM o)) ∧ Gr w w' := by
  have c : w.cell? ⟨b, 0, none⟩ = some (.func (.func 21) #[] #[]) := by simp [World.cell?, h]
  have lb : b < w.heap.size := (Array.getElem?_eq_some_iff.1 h).1
  have hm := fun W => mayM_any o W
  generalize mayM o = q at hm ⊢
  clear h
  go_enter Try.func24, Try.ntmps24
  go_wp2_with fail
  refine (hm _).mono ?_
  rintro r w1 ⟨rfl, g1⟩
  go_wp2_with fail
  go_ret
  exact ⟨by simp, ((Gr.refl w).alloc _).trans g1⟩
theorem closeF_any (o : Op2) (b : Nat) (w : World) (h : w.heap[b]? = some (.cells #[.func (.func 22) #[] #[]] 74 (0, 0))) : Calls Try.prog 24 #[ov o, .pointer (some ⟨b, 0, none⟩)] w fun r w' => r = .returned (.bool (!mayF o)) ∧ Gr w w' := by
  have c : w.cell? ⟨b, 0, none⟩ = some (.func (.func 22) #[] #[]) := by simp [World.cell?, h]
  have lb : b < w.heap.size := (Array.getElem?_eq_some_iff.1 h).1
  have hm := fun W => mayF_any o W
  generalize mayF o = q at hm ⊢
  clear h
  go_enter Try.func24, Try.ntmps24
  go_wp2_with fail
  refine (hm _).mono ?_
  rintro r w1 ⟨rfl, g1⟩
  go_wp2_with fail
  go_ret
  exact ⟨by simp, ((Gr.refl w).alloc _).trans g1⟩
set_option maxHeartbeats 2000000 in
set_option maxRecDepth 100000 in
theorem check_any (k : Int) {v : Value} {l : List Op2} (w : World) (hv : Ls EO w v l) : Calls Try.prog 15 #[.int .i64 k, v] w fun e w' => e = .returned (.int .i64 (chk k l)) ∧ Below w.heap.size w w' := by
  obtain ⟨p, c, rfl⟩ := hv.form
  by_cases hk : k ≠ 2 ∧ k ≠ 3
  · rw [show chk k l = 20 by unfold chk; rw [if_pos hk]]
    have e2 : (k == 2) = false := by simpa using hk.1
    have e3 : (k == 3) = false := by simpa using hk.2
    clear hv hk
    go_enter Try.func15, Try.ntmps15
    go_wp2_with fail
    go_ret
    exact ⟨rfl, ((Gr.refl w).alloc _).below⟩
  by_cases hl : 16 < l.length
  · rw [show chk k l = 2 by unfold chk; rw [if_neg hk, if_pos hl]]
    have hz : (16 : Int) < (l.length : Int) := by omega
    clear hv hl
    by_cases h2 : k = 2
    · subst h2
      clear hk
      go_enter Try.func15, Try.ntmps15
      go_wp2_with fail
      go_ret
      exact ⟨rfl, ((Gr.refl w).alloc _).below⟩
    · have h3 : k = 3 := by omega
      subst h3
      clear hk h2
      go_enter Try.func15, Try.ntmps15
      go_wp2_with fail
      go_ret
      exact ⟨rfl, ((Gr.refl w).alloc _).below⟩
  have hz : ¬ (16 : Int) < (l.length : Int) := by omega
  have hm : l.length ≤ maxLen := by unfold maxLen; omega
  by_cases h2 : k = 2
  · subst h2
    rw [show chk 2 l = if l.any (fun o => !mayM o) then 24 else 0 by unfold chk; rw [if_neg hk, if_neg hl]; rfl]
    have hc := fun (W : World) (hW : Gr w W) (hb : W.heap[w.heap.size]? = some (.cells #[.func (.func 21) #[] #[]] 74 (0, 0))) =>
      containsFunc_any _ l 24 #[.pointer (some ⟨w.heap.size, 0, none⟩)] (fun o => !mayM o) W (hv.below hW.below) hm (by intro args w; rfl) (fun W2 x _ h2 => closeM_any x _ W2 ((h2.below.block _ (Array.getElem?_eq_some_iff.1 hb).1).trans hb))
    have hb := heap_new' w (.cells #[.func (.func 21) #[] #[]] 74)
    have hc1 := hc _ ((Gr.refl w).alloc _) hb
    clear hc hb hv hk hm hl
    generalize l.any (fun o => !mayM o) = q at hc1 ⊢
    go_enter Try.func15, Try.ntmps15
    go_wp2_with fail
    refine hc1.mono ?_
    rintro e w1 ⟨rfl, g1⟩
    have hG := ((Gr.refl w).alloc _).trans g1
    cases q with
    | true =>
      go_wp2_with fail
      go_ret
      exact ⟨rfl, hG.below⟩
    | false =>
      go_wp2_with fail
      go_ret
      exact ⟨rfl, hG.below⟩
  · have h3 : k = 3 := by omega
    subst h3
    rw [show chk 3 l = if l.any (fun o => !mayF o) then 24 else 0 by unfold chk; rw [if_neg hk, if_neg hl]; rfl]
    have hc := fun (W : World) (hW : Gr w W) (hb : W.heap[w.heap.size]? = some (.cells #[.func (.func 22) #[] #[]] 74 (0, 0))) =>
      containsFunc_any _ l 24 #[.pointer (some ⟨w.heap.size, 0, none⟩)] (fun o => !mayF o) W (hv.below hW.below) hm (by intro args w; rfl) (fun W2 x _ h2 => closeF_any x _ W2 ((h2.below.block _ (Array.getElem?_eq_some_iff.1 hb).1).trans hb))
    have hb := heap_new' w (.cells #[.func (.func 22) #[] #[]] 74)
    have hc1 := hc _ ((Gr.refl w).alloc _) hb
    clear hc hb hv hk hm hl h2
    generalize l.any (fun o => !mayF o) = q at hc1 ⊢
    go_enter Try.func15, Try.ntmps15
    go_wp2_with fail
    refine hc1.mono ?_
    rintro e w1 ⟨rfl, g1⟩
    have hG := ((Gr.refl w).alloc _).trans g1
    cases q with
    | true =>
      go_wp2_with fail
      go_ret
      exact ⟨rfl, hG.below⟩
    | false =>
      go_wp2_with fail
      go_ret
      exact ⟨rfl, hG.below⟩
end Go.Proofs.Ytpnjpdnjapfjlaa.Cd
