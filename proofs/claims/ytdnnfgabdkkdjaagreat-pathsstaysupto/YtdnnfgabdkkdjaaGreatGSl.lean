import Derived.Test.YtdnnfgabdkkdjaaGreatGBy
namespace Go.Proofs.YtdnnfgabdkkdjaaGreat.Df
open Go.RowKit Go.Sort
attribute [local go_sem ↓] Go.wp_at_zero Go.wp_at_succ
abbrev fe (b : Nat) : Value := .func (.func 113) #[] #[.pointer (some ⟨b, 0, none⟩)]
def anyw (l : List Edg) (d : Edg) : Bool := l.any (fun c => way c d)
theorem take_ind {α : Type} {p : α → Prop} {l : List α} {i : Nat} {o : α} (h : l[i]? = some o) (h1 : ∀ y ∈ l.take i, p y) (h2 : p o) : ∀ y ∈ l.take (i + 1), p y := fun y hy => by
 rw [List.take_add_one, h] at hy
 rcases List.mem_append.1 hy with hy | hy
 ·exact h1 y hy
 ·simp at hy
  subst hy
  exact h2
set_option maxHeartbeats 2000000 in
theorem indexway_any {M : Nat} {v : Value} {l : List Edg} (d : Edg) (b : Nat) (w : World) (hL : Lz ED M w v l) (hb : w.heap[b]? = some (.cells (ecells d) 94 (0, 0))) (hl : l.length ≤ 140737488351232) :
    Calls Tryz.prog 140 #[v, fe b] w fun r w' => ∃ z : Int, r = .returned (.int .i64 z) ∧ (0 ≤ z ↔ anyw l d = true) ∧ Below w.heap.size w w' := by
 have hmx : Tryz.prog.follows .mixedOrders = true := by kernel_rfl
 have HL := hid hL
 have HB := hid hb
 obtain ⟨p, c, hv⟩ := hL.form
 obtain ⟨n, hn⟩ : ∃ n, n = l.length := ⟨_, rfl⟩
 rw [← hn] at hv
 subst hv
 have hn9 : n ≤ 140737488351232 := by omega
 have HN := hid hn
 clear hL hb hn hl
 go_enter Tryz.func140, Tryz.ntmps140
 go_wp2_with fail
 go_loopw [8] (fun s8 wr => ∃ i : Nat, i ≤ n ∧ s8 = .int .i64 (i : Nat) ∧ Hid (Below w.heap.size w wr ∧ ∀ y ∈ l.take i, way y d = false)) (fun s8 _ => n - (RowKit.intOf s8).toNat)
 case atStart => exact ⟨0, Nat.zero_le _, rfl, Below.refl _ _, fun y hy => (by simp at hy)⟩
 case round =>
  obtain ⟨i, hi, rfl, HI⟩ := hrel
  by_cases hlt : i < n
  ·have hltz : (i : Int) < (n : Int) := by omega
   obtain ⟨y, hy⟩ : ∃ y, l[i]? = some y := ⟨l[i]'(by have := HN.out; omega), by simp⟩
   obtain ⟨b1, o1, q1, ev1, zz1, x0, x1, x2, x3, x4⟩ := ls_atD ((HL.out.below HI.out.1).ls hy) hy
   simp only [Value.slice.injEq] at ev1
   obtain ⟨rfl, -, rfl⟩ := ev1
   have hb2 := (HI.out.1.block _ (tk_lt HB.out)).trans HB.out
   have hc := edgeflaw1_any y d b wr hb2
   have HY := hid hy
   clear hy hb2
   cases hw : way y d with
   | true =>
    rw [hw] at hc
    have HR : Hid (anyw l d = true) := List.any_eq_true.2 ⟨y, List.mem_of_getElem? HY.out, hw⟩
    clear hw
    go_wp2_with fail
    refine hc.mono ?_
    rintro r w1 ⟨rfl, g1⟩
    have B1 := hid (HI.out.1.trans (g1.mono HI.out.1.size))
    clear g1
    go_wp2_with fail
    go_ret
    exact ⟨(i : Int), rfl, by rw [HR.out]; simp, B1.out⟩
   | false =>
    rw [hw] at hc
    have HW := hid hw
    clear hw
    go_wp2_with fail
    refine hc.mono ?_
    rintro r w1 ⟨rfl, g1⟩
    have B1 := hid (HI.out.1.trans (g1.mono HI.out.1.size))
    clear g1 x0 x1 x2 x3 x4 zz1 hc
    go_wp2_with fail
    go_roundw
    case rel => exact ⟨i + 1, by omega, by go_num, B1.out, take_ind HY.out HI.out.2 HW.out⟩
    case measure => simp [RowKit.intOf]; omega
  ·have hltz : ¬ (i : Int) < (n : Int) := by omega
   have HR : Hid (anyw l d = false) := by
    have h2 := HI.out.2
    rw [List.take_of_length_le (by have := HN.out; omega)] at h2
    show anyw l d = false
    unfold anyw
    rw [List.any_eq_false]
    intro y hy
    rw [h2 y hy]
    decide
   go_wp2_with fail
   go_ret
   exact ⟨-1, rfl, by rw [HR.out]; simp, HI.out.1⟩
theorem containsway_any {M : Nat} {v : Value} {l : List Edg} (d : Edg) (b : Nat) (w : World) (hL : Lz ED M w v l) (hb : w.heap[b]? = some (.cells (ecells d) 94 (0, 0))) (hl : l.length ≤ 140737488351232) :
    Calls Tryz.prog 117 #[v, fe b] w fun r w' => r = .returned (.bool (anyw l d)) ∧ Below w.heap.size w w' := by
 have hi := indexway_any d b w hL hb hl
 obtain ⟨p, c, rfl⟩ := hL.form
 generalize anyw l d = e at hi ⊢
 generalize l.length = n at hi
 clear hL hb hl
 go_enter Tryz.func117, Tryz.ntmps117
 go_wp2_with fail
 refine hi.mono ?_
 rintro r w1 ⟨z, rfl, hz, b1⟩
 have B1 := hid b1
 have HZ : Hid (decide (0 ≤ z) = e) := by
  show _ = _
  rw [Bool.eq_iff_iff, ← hz]
  simp
 clear b1 hz
 go_wp2_with fail
 go_ret
 exact ⟨by rw [← HZ.out]; rfl, B1.out⟩
end Go.Proofs.YtdnnfgabdkkdjaaGreat.Df
