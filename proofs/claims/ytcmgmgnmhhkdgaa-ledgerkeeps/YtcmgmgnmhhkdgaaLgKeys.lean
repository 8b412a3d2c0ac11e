import Derived.Test.YtcmgmgnmhhkdgaaLgTal2
import Derived.Test.YtcmgmgnmhhkdgaaLgOrd
import Derived.Test.YtcmgmgnmhhkdgaaLgSrt
import Derived.Test.YtcmgmgnmhhkdgaaLgSo
import Derived.Maps.AppendAt
import Derived.Sort.OwnSorted
namespace Go.Proofs.Ytcmgmgnmhhkdgaa
open Go.RowKit Go.Sort Go.Maps Go.Shelf Go.Lib
open Tt (Tl)
attribute [local go_sem ↓] Go.wp_at_zero Go.wp_at_succ

theorem cmpLaysS (blk off size : Nat) (w : World) : CmpLays Try.prog 39 #[] ES.enc 4 scm blk off size w :=
  fun _ _ _ _ x y => order_any x y _
theorem sort_any (g cap base : Nat) (ts : List Sm) (w : World) (h : w.ownsRow base 35 4 (.slice (some ⟨g, 0, none⟩) ts.length cap) ts.length (fl ES ts)) (hsz : ts.length < 4611686018427387904) :
    Calls Try.prog 41 #[.slice (some ⟨g, 0, none⟩) ts.length cap, .func (.func 39) #[] #[]] w fun e w' => e = .returned (.tuple #[]) ∧ w'.ownsRow base 35 4 (.slice (some ⟨g, 0, none⟩) ts.length cap) ts.length (fl ES (stS ts)) ∧ Kp (fun k => k = g) w w' := by
  have eg : ∀ args w, (callFunc 39 args).run Try.prog w = .ok (.enter 39 args) w := enters_of Try.func39 (by kernel_rfl) rfl
  have hg : g < w.heap.size := (h.lt g rfl).2
  have hcon := AnyQ.slices_SortFunc_total Try.lSortS 4 Try.isAgg35 Try.sizeOf35 ES.enc (fun _ => rfl) ES.one scm swoS 39 #[] g 0 cap ts.toArray w eg (cmpLaysS g 0 _ w) (holdsK_of_owns (E := ES) (by decide) h) hg (by simpa using hsz) totS
  change Calls Try.prog 41 _ _ _ at hcon
  rw [List.size_toArray] at hcon
  refine hcon.mono ?_
  rintro e w' ⟨rfl, n, os, rfl⟩
  exact ⟨rfl, owns_sorted (E := ES) (by decide) h (srtBy_length scm ts), kp_sorted (E := ES)⟩

set_option maxHeartbeats 4000000 in
set_option maxRecDepth 100000 in
theorem keys_any {tb b n : Nat} {f : Sm → Int} (w : World) (h : Tl w tb b 39 n f) (hn : n * 32 ≤ 140737488355328) :
    Calls Try.prog 33 #[.pointer (some ⟨tb, 0, none⟩)] w fun e w' => ∃ (v : Value) (ks : List Sm), Sup f ks ∧ e = .returned v ∧
      w'.ownsRow w.heap.size 35 4 v (stS ks).length (fl ES (stS ks)) ∧ v ≠ .slice none 0 0 ∧ Below w.heap.size w w' := by
  obtain ⟨i0, hi, hz0, hz1, hz2⟩ := info_parts infoS
  have HT : Hid (Tl w tb b 39 n f) := h
  have c0 := h.c0
  have c1 := h.c1
  have hlt := h.lt
  obtain ⟨D, hown, h1, h2⟩ := h.ta
  have hbl := hown.lt
  have hsz := hown.size_le
  have hlen := fun ty => hown.len Try.underlying70 ty
  clear h h1
  go_enter Try.func33, Try.ntmps33
  go_wp2_with (first
    | (at_make; refine wpList_make_own _ rfl _ _ 29 rfl w.heap.size 35 i0 (.agg #[.int .i64 0, .int .u64 0, .int .u64 0, .int .u64 0]) 4 Try.underlying29 hi hz0 hz1 _ _ _ (Maps.size D) rfl rfl rfl (by rw [hz2]; omega) (by unfold maxLen; omega) (Nat.le_refl _) ?_; intro w1 hrow1 hg1
       have c1b := (HT.out.kp (Kp.grownBy (S := fun _ => False) hg1 (fun k hk => by cases hk)) (fun h => h) (fun h => h)).c1)
    | (at_range; refine wpList_range_own _ rfl _ 70 rfl 35 2 ZM.law Try.underlying70 _ b n _ rfl (hown.kept hg1 (by simp)) ?_; intro w0 hrg0 hg0 hs0)
    | go_in)
  go_frame
  go_loopw [3, 4] (fun v _ wr => ∃ (left : Lit → Bool) (cnt : Nat) (ss : List Sm), wr.ranges Try.prog 35 (plainElem Try.prog 2) b w1.heap.size n D left cnt ∧ ss.length + cnt ≤ Maps.size D ∧
      wr.ownsRow w.heap.size 35 4 v ss.length (fl ES ss) ∧ v ≠ .slice none 0 0 ∧ Coll ZM D left ss ∧ Below w.heap.size w wr)
    (fun _ _ wr => wr.rangeLeft b w1.heap.size)
  case atStart =>
    exact ⟨_, _, [], hrg0, by simp, hrow1.kept hg0 (Or.inr (by simp [Value.ownBlock])), by simp, Coll.start D,
      ((Below.refl _ _).grown hg1 (Nat.le_refl _) (fun j hj => by cases hj)).grown hg0 hg1.size (fun j hj => by cases hj)⟩
  case round =>
    obtain ⟨left, cnt, ss, hrg, hcs, hrow, hnn, hC, hnx⟩ := hrel
    go_wp2_with (first
      | (at_next; refine wpList_next_ranges _ rfl _ rfl 35 ZM.law (plainElem Try.prog 2) mv (Value.int .i64) (fun key kl hk => invSm key kl hk) (fun v y hv => by obtain ⟨c, rfl, _⟩ := plainElem_int_inv Try.underlying2 hv; exact ⟨c, rfl⟩) b w1.heap.size n _ _ _ rfl hrg ?_ ?_)
      | go_in)
    · intro hc0 hl0
      rcases hrow.2 with ⟨hnil, _⟩ | ⟨gb, cap, cur, rfl, hbase, hb, h3, h4, h5, h6⟩
      · exact absurd hnil hnn
      have hS := hC.sup h2 hl0
      have c0r := (hnx.cell (p := ⟨tb, 0, none⟩) hlt).trans c0
      have hc := sort_any gb cap w.heap.size ss wr hrow (by omega)
      clear h6 hb h5
      go_wp2_with (go_at_call 41; refine hc.mono ?_; rintro e w' ⟨rfl, ho', hk'⟩)
      go_ret
      refine ⟨_, ss, hS, rfl, by rw [srtBy_length]; exact ho', by simp, ?_⟩
      exact hnx.trans (hk'.below hnx.size (fun k hk => by rw [hk]; exact hbase))
    · intro ta tb' tc td tp c kl yd yp w2 cnt2 hkey hlk hv hat hrg2 hlt2 hg2 hs2 hen
      obtain ⟨x, hx⟩ : ∃ x : Sm, x = ⟨(ta, tb', tc, td), tp⟩ := ⟨_, rfl⟩
      rw [← hx] at hkey hen ⊢
      clear hx tp ta tb' tc td
      obtain rfl : kl = ZM.lit x := by
        have h7 := (ZM.key x).symm.trans hkey
        exact (Option.some.inj h7).symm
      have hrow2 := hrow.kept hg2 (Or.inr (row_ne_iter hrow hrg).symm)
      have B2 : Below w.heap.size w w2 := hnx.grown hg2 hnx.size (fun j hj => by cases hj; exact hg1.size)
      have HC2 := hC.step hlk hat
      clear hs2 hv hat hkey hlk
      go_wp2_with (first
        | (at_builtin; refine wpApp1 (E := ES) Try.underlying29 infoS rfl (by decide) rfl _ _ rfl w.heap.size _ ss.length _ rfl (hrow2.alloc _) x (by show Value.slice (some ⟨w2.heap.size + 1, 0, none⟩) 1 1 = _; simp) (by omega) (by unfold maxLen; omega) (by have := B2.size; simp; omega) _ rfl _ ?_; intro g' cap' w3 ho3 hg3 hl3)
        | go_in)
      have hrg3 := (hrg2.alloc _).kept hg3 (row_ne_low hrow2 hbl) (row_ne_iter hrow2 hrg2)
      go_roundw
      case rel =>
        refine ⟨_, cnt2, ss ++ [x], hrg3, by simp; omega, ?_, by simp, HC2, ?_⟩
        · rw [fl_append, fl_one, List.length_append]
          exact ho3
        · exact (B2.alloc B2.size _).grown hg3 (by have := B2.size; simp; omega) (fun j hj => (hrow2.lt j hj).1)
      case measure => rw [hrg3.left_eq, hrg.left_eq]; exact hlt2
end Go.Proofs.Ytcmgmgnmhhkdgaa
