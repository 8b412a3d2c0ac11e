import Derived.Test.YtghpekkncfckaaaCaBase
namespace Go.Proofs.Ytghpekkncfckaaa.Ca
open Go.RowKit Go.Sort
attribute [local go_sem ↓] Go.wp_at_zero Go.wp_at_succ

/-- A predicate over times, at every later world. -/
def PredG (g : Nat) (lb : Array Value) (p : T3 → Bool) (w : World) : Prop := ∀ (W : World) (x : T3), Gr w W → Calls Try.prog g (#[tv x] ++ lb) W fun e w' => e = .returned (.bool (p x)) ∧ Gr W w'
/-- The first place, or -1. -/
def idxv (p : T3 → Bool) (l : List T3) : Int := if l.findIdx p < l.length then (l.findIdx p : Int) else -1
theorem idxv_hit {p : T3 → Bool} {l : List T3} {k : Nat} {x : T3} (hx : l[k]? = some x) (hp : p x = true) (hn : ∀ j y, j < k → l[j]? = some y → p y = false) : idxv p l = (k : Int) := by
  obtain ⟨hk, rfl⟩ := List.getElem?_eq_some_iff.1 hx
  have : l.findIdx p = k := by
    rw [List.findIdx_eq hk]
    exact ⟨hp, fun j hj => by simpa using hn j _ hj (List.getElem?_eq_getElem (Nat.lt_trans hj hk))⟩
  unfold idxv
  rw [this, if_pos hk]
theorem idxv_miss {p : T3 → Bool} {l : List T3} (hn : ∀ j y, j < l.length → l[j]? = some y → p y = false) : idxv p l = -1 := by
  have : l.findIdx p = l.length := by
    rw [List.findIdx_eq_length]
    intro x hx
    obtain ⟨j, hj⟩ := List.mem_iff_getElem?.1 hx
    exact hn j x (List.getElem?_eq_some_iff.1 hj).1 hj
  unfold idxv
  rw [this, if_neg (Nat.lt_irrefl _)]
theorem idxv_neg (p : T3 → Bool) (l : List T3) : decide (0 ≤ idxv p l) = l.any p := by
  unfold idxv
  by_cases h : l.findIdx p < l.length
  · rw [if_pos h]
    have : l.any p = true := by
      rw [List.findIdx_lt_length] at h
      simpa using h
    rw [this]; simp
  · rw [if_neg h]
    have : l.any p = false := by
      rw [List.findIdx_lt_length] at h
      simpa using h
    rw [this]; simp

set_option maxHeartbeats 2000000 in
set_option maxRecDepth 100000 in
theorem indexFunc_any (v : Value) (l : List T3) (g : Nat) (lb : Array Value) (p : T3 → Bool) (w : World) (hv : Ls ET w v l) (hl : l.length ≤ maxLen) (eg : ∀ args w, (callFunc g args).run Try.prog w = .ok (.enter g args) w) (hp : PredG g lb p w) :
    Calls Try.prog 53 #[v, .func (.func g) #[] lb] w fun e w' => e = .returned (.int .i64 (idxv p l)) ∧ Gr w w' := by
  unfold maxLen at hl
  obtain ⟨pl, cl, rfl⟩ := hv.form
  have HL : Hid (Ls ET w (.slice pl l.length cl) l) := hv
  have HP : Hid (PredG g lb p w) := hp
  clear hv hp
  obtain ⟨r, hr⟩ : ∃ r, r = idxv p l := ⟨_, rfl⟩
  rw [← hr]
  have HRR : Hid (r = idxv p l) := hr
  clear hr
  go_enter Try.func53, Try.ntmps53
  go_wp2_with fail
  go_loopw [5, 8] (fun s5 s8 wr => ∃ k : Nat, k ≤ l.length ∧ s8 = .int .i64 k ∧ Gr w wr ∧ Hid (∀ j y, j < k → l[j]? = some y → p y = false)) (fun _ s8 _ => l.length - (RowKit.intOf s8).toNat)
  case atStart => exact ⟨0, Nat.zero_le _, rfl, Gr.refl _, fun j _ hj => absurd hj (Nat.not_lt_zero _)⟩
  case round =>
    obtain ⟨k, hk, rfl, hgr, A⟩ := hrel
    by_cases hlt : k < l.length
    · have hltz : (k : Int) < (l.length : Int) := by omega
      obtain ⟨x, hx⟩ : ∃ x, l[k]? = some x := ⟨l[k], by simp⟩
      obtain ⟨b1, o1, c1, e1, z1, x1, x2, x3⟩ := atT (HL.out.below hgr.below) hx
      simp only [Value.slice.injEq] at e1
      obtain ⟨rfl, -, rfl⟩ := e1
      have HX : Hid (l[k]? = some x) := hx
      clear hx
      have hcall := HP.out wr x hgr
      cases hq : p x with
      | true =>
        rw [hq] at hcall
        go_wp2_with (go_at_fn g; refine hcall.mono ?_; rintro e w' ⟨rfl, hb'⟩)
        go_ret
        exact ⟨by rw [HRR.out, idxv_hit HX.out hq A.out]; rfl, hgr.trans hb'⟩
      | false =>
        rw [hq] at hcall
        go_wp2_with (go_at_fn g; refine hcall.mono ?_; rintro e w' ⟨rfl, hb'⟩)
        refine ⟨⟨k + 1, by omega, by go_num, hgr.trans hb', fun j y hj hy => ?_⟩, by simp [RowKit.intOf]; omega⟩
        by_cases e : j = k
        · subst e
          have := HX.out
          rw [hy] at this
          cases this; exact hq
        · exact A.out j y (by omega) hy
    · have hltz : ¬ (k : Int) < (l.length : Int) := by omega
      have hk' : k = l.length := by omega
      subst hk'
      go_wp2
      go_ret
      exact ⟨by rw [HRR.out, idxv_miss A.out]; rfl, hgr⟩

set_option maxHeartbeats 2000000 in
theorem containsFunc_any (v : Value) (l : List T3) (g : Nat) (lb : Array Value) (p : T3 → Bool) (w : World) (hv : Ls ET w v l) (hl : l.length ≤ maxLen) (eg : ∀ args w, (callFunc g args).run Try.prog w = .ok (.enter g args) w) (hp : PredG g lb p w) :
    Calls Try.prog 45 #[v, .func (.func g) #[] lb] w fun e w' => e = .returned (.bool (l.any p)) ∧ Gr w w' := by
  have h := indexFunc_any v l g lb p w hv hl eg hp
  rw [← idxv_neg]
  generalize idxv p l = r at h ⊢
  go_enter Try.func45, Try.ntmps45
  go_wp2_with fail
  refine h.mono ?_
  rintro e w1 ⟨rfl, hg⟩
  go_wp2
  go_ret
  exact ⟨by first | rfl | simp, hg⟩
set_option maxHeartbeats 1000000 in
theorem open1_any (x t : T3) (B : Nat) (w : World) (hB : B < w.heap.size) (g0 : w.cell? ⟨B, 0, none⟩ = some (.int .u64 t.1)) (g1 : w.cell? ⟨B, 1, none⟩ = some (.int .u64 t.2.1)) (g2 : w.cell? ⟨B, 2, none⟩ = some (.int .u64 t.2.2)) :
    Calls Try.prog 46 #[tv x, .pointer (some ⟨B, 0, none⟩)] w fun e w' => e = .returned (.bool (bel x t)) ∧ Gr w w' := by
  have H := fun W => Ahead_any x.1 x.2.1 x.2.2 t.1 t.2.1 t.2.2 W
  rw [show tle x.1 x.2.1 x.2.2 t.1 t.2.1 t.2.2 = bel x t from rfl] at H
  generalize bel x t = r at H ⊢
  have hne : B ≠ w.heap.size := by omega
  go_enter Try.func46, Try.ntmps46
  go_wp2_with (go_at_call 34; refine (H _).mono ?_; rintro e w1 ⟨rfl, hg⟩)
  go_ret
  exact ⟨rfl, ((Gr.refl _).alloc _).trans hg⟩
set_option maxHeartbeats 1000000 in
/-- Open at a list of times. -/
theorem sopen_any (v : Value) (l : List T3) (x : T3) (w : World) (hv : Ls ET w v l) (hl : l.length ≤ maxLen) :
    Calls Try.prog 37 #[v, tv x] w fun e w' => e = .returned (.bool (opn l x)) ∧ Gr w w' := by
  obtain ⟨W2, hW2⟩ : ∃ W2, W2 = w.alloc (.cells #[.int .u64 x.1, .int .u64 x.2.1, .int .u64 x.2.2] 25) := ⟨_, rfl⟩
  have G2 : Gr w W2 := by rw [hW2]; exact (Gr.refl _).alloc _
  have hz : w.heap.size < W2.heap.size := by rw [hW2]; simp
  have b2 : W2.cell? ⟨w.heap.size, 0, none⟩ = some (.int .u64 x.1) := by rw [hW2]; simp
  have b3 : W2.cell? ⟨w.heap.size, 1, none⟩ = some (.int .u64 x.2.1) := by rw [hW2]; simp
  have b4 : W2.cell? ⟨w.heap.size, 2, none⟩ = some (.int .u64 x.2.2) := by rw [hW2]; simp
  have hP : PredG 46 #[.pointer (some ⟨w.heap.size, 0, none⟩)] (fun y => bel y x) W2 := fun W y hg =>
    open1_any y x w.heap.size W (Nat.lt_of_lt_of_le hz hg.size) ((hg.cell hz).trans b2) ((hg.cell hz).trans b3) ((hg.cell hz).trans b4)
  have h := containsFunc_any v l _ _ _ W2 (hv.below G2.below) hl (enters_of Try.func46 (by kernel_rfl) rfl) hP
  rw [show (l.any fun y => bel y x) = opn l x from rfl] at h
  generalize opn l x = r at h ⊢
  obtain ⟨pl, cl, rfl⟩ := hv.form
  clear hP b2 b3 b4 hv
  subst hW2
  go_enter Try.func37, Try.ntmps37
  go_wp2_with fail
  refine h.mono ?_
  rintro e w1 ⟨rfl, hg⟩
  go_wp2
  go_ret
  exact ⟨rfl, G2.trans hg⟩
end Go.Proofs.Ytghpekkncfckaaa.Ca
