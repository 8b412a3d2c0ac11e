import Derived.Test.YtifjjnnpoleinaaJ3
import Derived.Test.YtifjjnnpoleinaaLHold
import Derived.BigQuiet
namespace Go.Proofs.Ytifjjnnpoleinaa.Df
open Go.RowKit Go.Sort
attribute [local go_sem ↓] Go.wp_at_zero Go.wp_at_succ

/-- What the document's fields says. -/
def rfl9 (k : Int) (cm : Nat) (via : Pth) (bd dm : Nat) (st : Bool) (a : Int) : Bool := !(has (if k = 2 ∨ k = 3 then 0 else cm) (if k = 5 then (0, 0, 0) else via) (if k = 5 then 0 else bd) (if k = 8 then 0 else dm) (if k = 8 then false else st)) && decide (tfits via.1 via.2.1 via.2.2 a = 0) && decide (bd ≤ 64)
end Go.Proofs.Ytifjjnnpoleinaa.Df

namespace Go.Proofs.Ytifjjnnpoleinaa.Df
open Go.RowKit Go.Sort
attribute [local go_sem ↓] Go.wp_at_zero Go.wp_at_succ

theorem cok_bad {i o a : Int} {l : List Con} {j : Nat} {c : Con} (hj : l[j]? = some c) (h : ¬ cgood i o a l j c) : cok i o a l = false := by
  rw [Bool.eq_false_iff]
  intro hc
  exact h ((cok_iff.1 hc).2 j c hj)
theorem isin_false {l : List Con} {j : Nat} {y : Con} (h : ∀ m c, m < j → l[m]? = some c → c ≠ y) : isin (l.take j) y = false := by
  unfold isin
  rw [List.any_eq_false]
  intro c hc
  obtain ⟨m, hm, rfl⟩ := List.mem_iff_getElem.1 hc
  have hm2 : m < j ∧ m < l.length := by simp at hm; omega
  have := h m l[m] hm2.1 (by simp [hm2.2])
  simp only [List.getElem_take, decide_eq_true_eq]
  exact fun e => this e.symm
theorem isin_true {l : List Con} {j m : Nat} {y : Con} (hm : m < j) (h : l[m]? = some y) : isin (l.take j) y = true := by
  unfold isin
  rw [List.any_eq_true]
  exact ⟨y, List.mem_of_getElem? (i := m) (by rw [List.getElem?_take, if_pos hm]; exact h), by simp⟩
theorem nflaw_doc {k i o : Int} {cd : List Opd} {via : Pth} {bd : Nat} {cn : List Con} {st : Bool} {a : Int} (ha : 1 ≤ a ∧ a ≤ 3) (hk1 : ¬ k < 1) (hk8 : ¬ 8 < k) : nflaw a ⟨k, i, o, cd, via, bd, cn, st⟩ = if (pIn k i && pOut k o) = false then 21 else if rfl9 k cd.length via bd cn.length st a = false then 22 else if 16 < cd.length then 24 else if cok i o a cn = false then 23 else 0 := by
  have hz : tfits ((0, 0, 0) : Pth).1 ((0, 0, 0) : Pth).2.1 ((0, 0, 0) : Pth).2.2 a = 0 := by
    show tfits (0 : Nat) (0 : Nat) (0 : Nat) a = 0
    unfold tfits
    rw [if_neg (by omega), if_pos (by simp)]
  have hd0 : (decide (tfits ((0, 0, 0) : Pth).1 ((0, 0, 0) : Pth).2.1 ((0, 0, 0) : Pth).2.2 a = 0) && decide (0 ≤ 64)) = true := by rw [decide_eq_true hz]; rfl
  unfold nflaw
  simp only
  rw [if_neg (by omega)]
  cases hpp : (pIn k i && pOut k o) with
  | false => rw [if_pos (by intro h; rw [h.1, h.2] at hpp; cases hpp), if_pos rfl]
  | true =>
    rw [Bool.and_eq_true] at hpp
    rw [if_neg (by intro h; exact h hpp), if_neg (show ¬ (true = false) by decide)]
    by_cases hh : nhas ⟨k, i, o, cd, via, bd, cn, st⟩ = true
    · rw [if_pos hh, if_pos]
      have : has (if k = 2 ∨ k = 3 then 0 else cd.length) (if k = 5 then (0, 0, 0) else via) (if k = 5 then 0 else bd) (if k = 8 then 0 else cn.length) (if k = 8 then false else st) = true := hh
      unfold rfl9
      rw [this]
      rfl
    · rw [if_neg hh]
      have hh2 : nhas ⟨k, i, o, cd, via, bd, cn, st⟩ = false := by simpa using hh
      change has (if k = 2 ∨ k = 3 then 0 else cd.length) (if k = 5 then (0, 0, 0) else via) (if k = 5 then 0 else bd) (if k = 8 then 0 else cn.length) (if k = 8 then false else st) = false at hh2
      have hr9 : rfl9 k cd.length via bd cn.length st a = (decide (tfits via.1 via.2.1 via.2.2 a = 0) && decide (bd ≤ 64)) := by
        unfold rfl9
        rw [hh2]
        rfl
      rw [hr9]
      simp only [has, Bool.or_eq_false_iff, decide_eq_false_iff_not] at hh2
      obtain ⟨⟨⟨⟨q1, q2⟩, q3⟩, q4⟩, q5⟩ := hh2
      unfold nrest
      simp only
      have ce : cok i o a [] = true := by simp [cok]
      by_cases e23 : k = 2 ∨ k = 3
      · have e5 : ¬ k = 5 := by omega
        have e8 : ¬ k = 8 := by omega
        rw [if_neg e5] at q2 q3
        rw [if_neg e8] at q4
        have v0 : via = (0, 0, 0) := by simpa using q2
        have b0 : bd = 0 := by omega
        have c0 : cn = [] := List.eq_nil_of_length_eq_zero (by omega)
        subst v0 b0 c0
        rw [if_pos e23, hd0, if_neg (show ¬ (true = false) by decide), ce, if_neg (show ¬ (true = false) by decide)]
      · rw [if_neg e23] at q1
        have l0 : ¬ 16 < cd.length := by omega
        rw [if_neg e23, if_neg l0]
        by_cases e5 : k = 5
        · have e8 : ¬ k = 8 := by omega
          rw [if_neg e8] at q4
          have c0 : cn = [] := List.eq_nil_of_length_eq_zero (by omega)
          subst c0
          rw [if_pos e5, ce, if_neg (show ¬ (true = false) by decide)]
          by_cases hb : 64 < bd ∨ tfits via.1 via.2.1 via.2.2 a ≠ 0
          · rw [if_pos hb, if_pos]
            rw [Bool.and_eq_false_iff]
            rcases hb with h | h
            · exact Or.inr (decide_eq_false (by omega))
            · exact Or.inl (decide_eq_false h)
          · have h1 : tfits via.1 via.2.1 via.2.2 a = 0 := Classical.not_not.1 (fun h => hb (Or.inr h))
            have h2 : bd ≤ 64 := by omega
            rw [if_neg hb, if_neg]
            rw [decide_eq_true h1, decide_eq_true h2]
            decide
        · rw [if_neg e5] at q2 q3
          have v0 : via = (0, 0, 0) := by simpa using q2
          have b0 : bd = 0 := by omega
          subst v0 b0
          rw [if_neg e5, hd0, if_neg (show ¬ (true = false) by decide)]
          by_cases e8 : k = 8
          · rw [if_pos e8]
            cases cok i o a cn <;> rfl
          · rw [if_neg e8] at q4
            have c0 : cn = [] := List.eq_nil_of_length_eq_zero (by omega)
            subst c0
            rw [if_neg e8, ce]
            rfl
end Go.Proofs.Ytifjjnnpoleinaa.Df

namespace Go.Proofs.Ytifjjnnpoleinaa.Df
open Go.RowKit Go.Sort
attribute [local go_sem ↓] Go.wp_at_zero Go.wp_at_succ

/-- The nodes of a graph that is read, as the document's functions find them: their number, their ports. -/
structure Nr (w : World) (nv : Value) (xs : List NV) : Prop where
  nodes : Lz EV w.heap.size w nv xs
  nl : xs.length ≤ 24
  pok : Pok (xs.map NV.n)
theorem Nr.below {w w' : World} {nv : Value} {xs : List NV} (h : Nr w nv xs) (hb : Below w.heap.size w w') : Nr w' nv xs := ⟨(h.nodes.below hb).up hb.size, h.nl, h.pok⟩
theorem fn_pos {ns : List Nod} {i : Nat} {n : Nod} (hi : ns[i]? = some n) (hp : Pok ns) : (firstN ns i : Int) + n.ins + n.outs = (firstN ns (i + 1) : Nat) := by
  have := hp n (List.mem_of_getElem? hi)
  rw [firstN_succ hi]
  push_cast
  omega
set_option maxHeartbeats 4000000 in
theorem rfirst_any {nv ev : Value} {a : Int} {xs : List NV} (j : Nat) (hj : j ≤ xs.length) (w : World) (h : Nr w nv xs) : Calls Try.prog 40 #[.agg (gvc a nv ev), .int .i64 (j : Nat)] w fun r w' => r = .returned (.int .i64 (firstN (xs.map NV.n) j : Nat)) ∧ Gr w w' := by
  have g0 := (Gr.refl w).alloc (.cells (gvc a nv ev) 25)
  have HB := hid (heap_new' w (.cells (gvc a nv ev) 25))
  have HN := hid (h.below g0.below)
  obtain ⟨W0, hW0⟩ : ∃ W, W = w.alloc (.cells (gvc a nv ev) 25) := ⟨_, rfl⟩
  have HW : Hid (w.alloc (.cells #[.int .i64 a, nv, ev] 25) = W0) := hW0.symm
  rw [← hW0] at g0 HB HN
  have G0 := hid g0
  obtain ⟨qn, cn, rfl⟩ := h.nodes.form
  have hnl := h.nl
  have HP := hid h.pok
  obtain ⟨ns, hns⟩ : ∃ ns, ns = xs.map NV.n := ⟨_, rfl⟩
  rw [← hns] at HP ⊢
  have HNS := hid hns
  generalize hxl : xs.length = nl at *
  have HXL := hid hxl
  clear h hW0 g0 hns hxl
  have c0 := (tk_store HB.out).1
  have l0 := tk_lt HB.out
  go_enter Try.func40, Try.ntmps40
  go_upto_region 1 with fail
  rw [HW.out]
  clear HW
  go_wp2_with fail
  clear c0 l0
  go_loopw [5, 6] (fun sn si wr => ∃ i : Nat, i ≤ j ∧ si = .int .i64 (i : Nat) ∧ sn = .int .i64 (firstN ns i : Nat) ∧ Hid (Gr W0 wr)) (fun _ si _ => j - (RowKit.intOf si).toNat)
  case atStart => exact ⟨0, Nat.zero_le _, rfl, rfl, Gr.refl _⟩
  case round =>
    obtain ⟨i, hi, rfl, rfl, HI⟩ := hrel
    have hb0 := (HI.out.below.block _ (tk_lt HB.out)).trans HB.out
    have c1 := (tk_store hb0).1
    have l1 := tk_lt hb0
    clear hb0
    by_cases hlt : i < j
    · have hltz : (i : Int) < (j : Int) := by omega
      have hi0 : (0 : Int) ≤ (i : Int) := by omega
      have hil : (i : Int) < (nl : Int) := by omega
      obtain ⟨y, hy⟩ : ∃ y, xs[i]? = some y := ⟨xs[i]'(by have := HXL.out; omega), by simp⟩
      have HYN : Hid (ns[i]? = some y.n) := by show _ = _; rw [HNS.out]; simp [hy]
      obtain ⟨b1, o1, q1, ev1, zz1, x0, x1, x2, -⟩ := ls_atV ((HN.out.nodes.below HI.out.below).ls hy) hy
      simp only [Value.slice.injEq] at ev1
      obtain ⟨rfl, -, rfl⟩ := ev1
      have HFS := hid (fn_pos HYN.out HP.out)
      have hf1 := firstN_le HP.out i
      have hq := HP.out y.n (List.mem_of_getElem? HYN.out)
      obtain ⟨m, hm⟩ : ∃ m, m = firstN ns i := ⟨_, rfl⟩
      rw [← hm] at HFS hf1 ⊢
      have hm9 : (m : Int) ≤ 192 := by omega
      have q1 : 0 ≤ y.n.ins := hq.1
      have q2 : y.n.ins ≤ 4 := hq.2.1
      have q3 : 0 ≤ y.n.outs := hq.2.2.1
      have q4 : y.n.outs ≤ 4 := hq.2.2.2
      clear hy hm hq hf1
      go_upto_region 5 with fail
      go_quiet (fail)
      have G1 := hid (HI.out.drewN nq)
      clear x0 x1 x2 zz1 c1 l1
      go_wp2_with fail
      go_roundw
      case rel => exact ⟨i + 1, by omega, by go_num, by rw [← HFS.out], G1.out⟩
      case measure => simp [RowKit.intOf]; omega
    · have hltz : ¬ (i : Int) < (j : Int) := by omega
      obtain rfl : i = j := by omega
      go_wp2_with fail
      go_ret
      exact ⟨rfl, G0.out.trans HI.out⟩
end Go.Proofs.Ytifjjnnpoleinaa.Df
