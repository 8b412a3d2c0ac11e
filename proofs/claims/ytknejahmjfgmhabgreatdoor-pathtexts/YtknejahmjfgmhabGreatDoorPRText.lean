import Derived.Test.YtknejahmjfgmhabGreatDoorPDec
import Derived.Test.YtknejahmjfgmhabGreatDoorPRef3
namespace Go.Proofs.YtknejahmjfgmhabGreatDoor
open Go.RowKit Go.Shelf Go.Lib
open Go.Sort hiding Below

set_option maxHeartbeats 1000000 in
set_option maxRecDepth 100000 in
theorem prefText_bad (u v x : Nat) (n : Int) (w : World) (hf : tfits u v x n = 10) :
    Calls Tryz.prog 6 #[.agg #[.int .u64 u, .int .u64 v, .int .u64 x], .int .i64 n] w fun e w' => e = .returned (.tuple #[.string ⟨#[]⟩, .int .i64 10]) ∧ Below w.heap.size w w' := by
  have hF := fun W => prefFits_any u v x n W
  rw [hf] at hF
  clear hf
  go_enter Tryz.func6, Tryz.ntmps6
  go_wp2_with (go_at_call 20; refine (hF _).mono ?_; rintro e w1 ⟨rfl, hg⟩)
  go_ret2
  exact ⟨rfl, ((Below.refl _ w).alloc (Nat.le_refl _) _).trans (hg.below.mono (by simp))⟩

set_option maxHeartbeats 4000000 in
set_option maxRecDepth 100000 in
theorem prefText_1 (u v x : Nat) (du dv dx : ByteArray) (w : World) (hf : tfits u v x 1 = 0) (zu : du.size ≤ 20) (_zv : dv.size ≤ 20) (_zx : dx.size ≤ 20)
    (hU : ∀ W, Calls Tryz.prog 24 #[.int .u64 u] W fun e w' => e = .returned (.string du) ∧ Below W.heap.size W w') (_hV : ∀ W, Calls Tryz.prog 24 #[.int .u64 v] W fun e w' => e = .returned (.string dv) ∧ Below W.heap.size W w') (_hX : ∀ W, Calls Tryz.prog 24 #[.int .u64 x] W fun e w' => e = .returned (.string dx) ∧ Below W.heap.size W w') :
    Calls Tryz.prog 6 #[.agg #[.int .u64 u, .int .u64 v, .int .u64 x], .int .i64 1] w fun e w' => e = .returned (.tuple #[.string (⟨#[43]⟩ ++ du), .int .i64 0]) ∧ Below w.heap.size w w' := by
  have hF : ∀ W, Calls Tryz.prog 20 #[.agg #[.int .u64 u, .int .u64 v, .int .u64 x], .int .i64 1] W _ := fun W => prefFits_any u v x 1 W
  rw [hf] at hF
  have hN := fun a b c W => pnumbers_at a b c W
  clear hf
  go_enter Tryz.func6, Tryz.ntmps6
  have BB := (Below.refl w.heap.size w).alloc (Nat.le_refl _) (.cells #[.int .u64 u, .int .u64 v, .int .u64 x] 24)
  go_wp2_with fail
  refine (hF _).mono ?_
  rintro e w1 ⟨rfl, hg1⟩
  obtain ⟨lp, p0, p1, p2⟩ := At3.below hg1.below (At3.new w (.int .u64 u) (.int .u64 v) (.int .u64 x) 24)
  replace BB := BB.trans (hg1.below.mono BB.size)
  clear hg1
  go_wp2_with fail
  refine (hN _ _ _ _).mono ?_
  rintro e w2 ⟨g, rfl, LN, hb2⟩
  replace BB := BB.trans (hb2.mono BB.size)
  clear hb2 lp p0 p1 p2 hN hF
  obtain ⟨ln, n0, n1, n2⟩ := id LN
  go_wp2_with fail
  refine wp_loop_rounds 4 ?_
  rw [rounds_succ]
  go_wp2_with fail
  refine (hU _).mono ?_
  rintro e w3 ⟨rfl, hb3⟩
  replace LN := At3.below hb3 LN
  replace BB := BB.trans (hb3.mono BB.size)
  clear hb3 ln n0 n1 n2
  obtain ⟨ln, n0, n1, n2⟩ := id LN
  go_wp2_with fail
  rw [rounds_succ]
  go_wp2_with fail
  rw [rounds_succ]
  go_wp2_with fail
  rw [rounds_succ]
  go_wp2_with fail
  go_ret2
  exact ⟨rfl, BB⟩

set_option maxHeartbeats 4000000 in
set_option maxRecDepth 100000 in
theorem prefText_2 (u v x : Nat) (du dv dx : ByteArray) (w : World) (hf : tfits u v x 2 = 0) (zu : du.size ≤ 20) (zv : dv.size ≤ 20) (_zx : dx.size ≤ 20)
    (hU : ∀ W, Calls Tryz.prog 24 #[.int .u64 u] W fun e w' => e = .returned (.string du) ∧ Below W.heap.size W w') (hV : ∀ W, Calls Tryz.prog 24 #[.int .u64 v] W fun e w' => e = .returned (.string dv) ∧ Below W.heap.size W w') (_hX : ∀ W, Calls Tryz.prog 24 #[.int .u64 x] W fun e w' => e = .returned (.string dx) ∧ Below W.heap.size W w') :
    Calls Tryz.prog 6 #[.agg #[.int .u64 u, .int .u64 v, .int .u64 x], .int .i64 2] w fun e w' => e = .returned (.tuple #[.string (⟨#[43]⟩ ++ du ++ ⟨#[44]⟩ ++ dv), .int .i64 0]) ∧ Below w.heap.size w w' := by
  have hF : ∀ W, Calls Tryz.prog 20 #[.agg #[.int .u64 u, .int .u64 v, .int .u64 x], .int .i64 2] W _ := fun W => prefFits_any u v x 2 W
  rw [hf] at hF
  have hN := fun a b c W => pnumbers_at a b c W
  clear hf
  go_enter Tryz.func6, Tryz.ntmps6
  have BB := (Below.refl w.heap.size w).alloc (Nat.le_refl _) (.cells #[.int .u64 u, .int .u64 v, .int .u64 x] 24)
  go_wp2_with fail
  refine (hF _).mono ?_
  rintro e w1 ⟨rfl, hg1⟩
  obtain ⟨lp, p0, p1, p2⟩ := At3.below hg1.below (At3.new w (.int .u64 u) (.int .u64 v) (.int .u64 x) 24)
  replace BB := BB.trans (hg1.below.mono BB.size)
  clear hg1
  go_wp2_with fail
  refine (hN _ _ _ _).mono ?_
  rintro e w2 ⟨g, rfl, LN, hb2⟩
  replace BB := BB.trans (hb2.mono BB.size)
  clear hb2 lp p0 p1 p2 hN hF
  obtain ⟨ln, n0, n1, n2⟩ := id LN
  go_wp2_with fail
  refine wp_loop_rounds 4 ?_
  rw [rounds_succ]
  go_wp2_with fail
  refine (hU _).mono ?_
  rintro e w3 ⟨rfl, hb3⟩
  replace LN := At3.below hb3 LN
  replace BB := BB.trans (hb3.mono BB.size)
  clear hb3 ln n0 n1 n2
  obtain ⟨ln, n0, n1, n2⟩ := id LN
  go_wp2_with fail
  rw [rounds_succ]
  go_wp2_with fail
  refine (hV _).mono ?_
  rintro e w4 ⟨rfl, hb4⟩
  replace LN := At3.below hb4 LN
  replace BB := BB.trans (hb4.mono BB.size)
  clear hb4 ln n0 n1 n2
  obtain ⟨ln, n0, n1, n2⟩ := id LN
  go_wp2_with fail
  rw [rounds_succ]
  go_wp2_with fail
  rw [rounds_succ]
  go_wp2_with fail
  go_ret2
  exact ⟨rfl, BB⟩

set_option maxHeartbeats 4000000 in
set_option maxRecDepth 100000 in
theorem prefText_3 (u v x : Nat) (du dv dx : ByteArray) (w : World) (hf : tfits u v x 3 = 0) (zu : du.size ≤ 20) (zv : dv.size ≤ 20) (zx : dx.size ≤ 20)
    (hU : ∀ W, Calls Tryz.prog 24 #[.int .u64 u] W fun e w' => e = .returned (.string du) ∧ Below W.heap.size W w') (hV : ∀ W, Calls Tryz.prog 24 #[.int .u64 v] W fun e w' => e = .returned (.string dv) ∧ Below W.heap.size W w') (hX : ∀ W, Calls Tryz.prog 24 #[.int .u64 x] W fun e w' => e = .returned (.string dx) ∧ Below W.heap.size W w') :
    Calls Tryz.prog 6 #[.agg #[.int .u64 u, .int .u64 v, .int .u64 x], .int .i64 3] w fun e w' => e = .returned (.tuple #[.string (⟨#[43]⟩ ++ du ++ ⟨#[44]⟩ ++ dv ++ ⟨#[44]⟩ ++ dx), .int .i64 0]) ∧ Below w.heap.size w w' := by
  have hF : ∀ W, Calls Tryz.prog 20 #[.agg #[.int .u64 u, .int .u64 v, .int .u64 x], .int .i64 3] W _ := fun W => prefFits_any u v x 3 W
  rw [hf] at hF
  have hN := fun a b c W => pnumbers_at a b c W
  clear hf
  go_enter Tryz.func6, Tryz.ntmps6
  have BB := (Below.refl w.heap.size w).alloc (Nat.le_refl _) (.cells #[.int .u64 u, .int .u64 v, .int .u64 x] 24)
  go_wp2_with fail
  refine (hF _).mono ?_
  rintro e w1 ⟨rfl, hg1⟩
  obtain ⟨lp, p0, p1, p2⟩ := At3.below hg1.below (At3.new w (.int .u64 u) (.int .u64 v) (.int .u64 x) 24)
  replace BB := BB.trans (hg1.below.mono BB.size)
  clear hg1
  go_wp2_with fail
  refine (hN _ _ _ _).mono ?_
  rintro e w2 ⟨g, rfl, LN, hb2⟩
  replace BB := BB.trans (hb2.mono BB.size)
  clear hb2 lp p0 p1 p2 hN hF
  obtain ⟨ln, n0, n1, n2⟩ := id LN
  go_wp2_with fail
  refine wp_loop_rounds 4 ?_
  rw [rounds_succ]
  go_wp2_with fail
  refine (hU _).mono ?_
  rintro e w3 ⟨rfl, hb3⟩
  replace LN := At3.below hb3 LN
  replace BB := BB.trans (hb3.mono BB.size)
  clear hb3 ln n0 n1 n2
  obtain ⟨ln, n0, n1, n2⟩ := id LN
  go_wp2_with fail
  rw [rounds_succ]
  go_wp2_with fail
  refine (hV _).mono ?_
  rintro e w4 ⟨rfl, hb4⟩
  replace LN := At3.below hb4 LN
  replace BB := BB.trans (hb4.mono BB.size)
  clear hb4 ln n0 n1 n2
  obtain ⟨ln, n0, n1, n2⟩ := id LN
  go_wp2_with fail
  rw [rounds_succ]
  go_wp2_with fail
  refine (hX _).mono ?_
  rintro e w5 ⟨rfl, hb5⟩
  replace LN := At3.below hb5 LN
  replace BB := BB.trans (hb5.mono BB.size)
  clear hb5 ln n0 n1 n2
  obtain ⟨ln, n0, n1, n2⟩ := id LN
  go_wp2_with fail
  rw [rounds_succ]
  go_wp2_with fail
  go_ret2
  exact ⟨rfl, BB⟩

theorem ptext_parts (u v x n : Nat) (h1 : 1 ≤ n) (h3 : n ≤ 3) : (⟨(ptext u v x n).toArray⟩ : ByteArray) = if n = 1 then ⟨#[43]⟩ ++ dg8 u else if n = 2 then ⟨#[43]⟩ ++ dg8 u ++ ⟨#[44]⟩ ++ dg8 v else ⟨#[43]⟩ ++ dg8 u ++ ⟨#[44]⟩ ++ dg8 v ++ ⟨#[44]⟩ ++ dg8 x := by
  have hd : ∀ u, swp 46 44 (decDigits u) = decDigits u := fun u => swp_none (dec_nopt u)
  have hc : ∀ l : List UInt8, swp 46 44 (46 :: l) = 44 :: swp 46 44 l := fun l => rfl
  have : n = 1 ∨ n = 2 ∨ n = 3 := by omega
  rcases this with rfl | rfl | rfl
  all_goals apply ByteArray.ext
  all_goals apply Array.toList_inj.1
  all_goals simp [ptext, ttext, dg8, swp_append, hd, hc]
theorem prefText_ok (u v x n : Nat) (w : World) (hu : u < 18446744073709551616) (hv : v < 18446744073709551616) (hx : x < 18446744073709551616) (h1 : 1 ≤ n) (h3 : n ≤ 3) (hf : tfits u v x n = 0) :
    Calls Tryz.prog 6 #[.agg #[.int .u64 u, .int .u64 v, .int .u64 x], .int .i64 n] w fun e w' => e = .returned (.tuple #[.string ⟨(ptext u v x n).toArray⟩, .int .i64 0]) ∧ Below w.heap.size w w' := by
  rw [ptext_parts u v x n h1 h3]
  have zu : (dg8 u).size ≤ 20 := dec_len u hu
  have zv : (dg8 v).size ≤ 20 := dec_len v hv
  have zx : (dg8 x).size ≤ 20 := dec_len x hx
  have : n = 1 ∨ n = 2 ∨ n = 3 := by omega
  rcases this with rfl | rfl | rfl
  · exact prefText_1 u v x _ _ _ w hf zu zv zx (fun W => decimal_any u W hu) (fun W => decimal_any v W hv) (fun W => decimal_any x W hx)
  · exact prefText_2 u v x _ _ _ w hf zu zv zx (fun W => decimal_any u W hu) (fun W => decimal_any v W hv) (fun W => decimal_any x W hx)
  · exact prefText_3 u v x _ _ _ w hf zu zv zx (fun W => decimal_any u W hu) (fun W => decimal_any v W hv) (fun W => decimal_any x W hx)
end Go.Proofs.YtknejahmjfgmhabGreatDoor
