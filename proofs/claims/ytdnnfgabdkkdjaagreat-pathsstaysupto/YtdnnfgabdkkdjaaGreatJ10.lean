import Derived.Test.YtdnnfgabdkkdjaaGreatJ9
import Derived.BigQuiet
namespace Go.Proofs.YtdnnfgabdkkdjaaGreat.Df
open Go.RowKit Go.Sort
theorem fl_I (l : List Int) : fl EI l = l.map (Value.int .i64) := by
 induction l with
 | nil => rfl
 | cons x l ih => rw [fl_cons, ih]; rfl
theorem fl_Iset (S : List Int) (e : Nat) (x : Int) : (fl EI S).set e (.int .i64 x) = fl EI (S.set e x) := by rw [fl_I, fl_I, List.map_set]
theorem cntL_le {ls : List (List Int)} {m : Nat} (h : ∀ l ∈ ls, l.length ≤ m) (x : Int) : cntL ls x ≤ ls.length * m := by
 induction ls with
 | nil => simp [cntL]
 | cons l ls ih =>
  have h1 := ih fun l hl => h l (by simp [hl])
  have h2 := h l (by simp)
  have h3 : l.count x ≤ l.length := List.count_le_length
  have h4 : cntL (l :: ls) x = l.count x + cntL ls x := by simp [cntL]
  rw [h4, List.length_cons, Nat.add_mul, Nat.one_mul]
  omega
theorem count_snoc {l : List Int} {k : Nat} {x : Int} (hx : l[k]? = some x) (y : Int) : (l.take (k + 1)).count y = (l.take k).count y + if x = y then 1 else 0 := by
 rw [List.take_add_one, hx, List.count_append]
 simp [List.count_singleton]
theorem cntL_snoc {ls : List (List Int)} {i : Nat} {l : List Int} (hl : ls[i]? = some l) (y : Int) : cntL (ls.take (i + 1)) y = cntL (ls.take i) y + l.count y := by
 rw [List.take_add_one, hl, cntL_append]
 simp [cntL]
structure Wt (w : World) (n g : Nat) (f : Nat → Int) (W : World) : Prop where
 bl : Below w.heap.size w W
 row : W.ownsRow w.heap.size 3 1 (.slice (some ⟨g, 0, none⟩) n n) n (fl EI (fnL n f))
section
variable {w W W' : World} {n g : Nat} {f : Nat → Int}
theorem Wt.set (h : Wt w n g f W) (k : Nat) (x : Int) : Wt w n g (upd f k x) (W.setCell ⟨g, k, none⟩ (.int .i64 x)) ∧ Kp (fun j => j = g) W (W.setCell ⟨g, k, none⟩ (.int .i64 x)) := by
 obtain ⟨h1, h2⟩ := owns_one h.row k (.int .i64 x)
 rw [fl_Iset, fnL_set] at h1
 exact ⟨⟨h.bl.trans (h2.below h.bl.size (fun j e => by rw [e]; exact (owns_rd h.row g rfl).1)), h1⟩, h2⟩
theorem Wt.cell (h : Wt w n g f W) {k : Nat} (hk : k < n) : W.cell? ⟨g, k, none⟩ = some (.int .i64 (f k)) ∧ g < W.heap.size := by
 have hr : W.ownsRow w.heap.size 3 1 (.slice (some ⟨g, 0, none⟩) n n) (fnL n f).length (fl EI (fnL n f)) := owns_re h.row (fnL_len n f).symm rfl
 obtain ⟨b, o, c, hv, hb, hx⟩ := (owns_ls (E := EI) hr).get (fnL_get f hk)
 simp only [Value.slice.injEq, Option.some.injEq, Addr.mk.injEq] at hv
 obtain ⟨⟨rfl, rfl, -⟩, -, -⟩ := hv
 have h0 := hx 0 _ (by decide) rfl
 simp only [Nat.zero_add, show EI.k = 1 from rfl, Nat.mul_one, Nat.add_zero] at h0
 exact ⟨h0, hb⟩
theorem Wt.re {f' : Nat → Int} (h : Wt w n g f W) (hf : ∀ k, k < n → f k = f' k) : Wt w n g f' W := ⟨h.bl, by rw [← fnL_ext hf]; exact h.row⟩
end
end Go.Proofs.YtdnnfgabdkkdjaaGreat.Df

namespace Go.Proofs.YtdnnfgabdkkdjaaGreat.Df
open Go.RowKit Go.Sort
attribute [local go_sem ↓] Go.wp_at_zero Go.wp_at_succ
theorem infoIK : (Tryz.prog.info? 3).map (fun i => (i.zero, i.size, i.bytes)) = some (some (.int .i64 0), 1, 8) := by kernel_rfl
theorem madeK (n : Nat) : (madeCells (Value.int .i64 0).cells (n * 1)).toList = (List.replicate n (0 : Int)).map (Value.int .i64) := by
 rw [Nat.mul_one]
 exact (toList_madeCells_one _ n).trans (by simp)
theorem own_frK {w : World} {B : Nat} {e : TypeId} {size n g : Nat} {m c : Nat} {xs : List Value} (h : w.ownsRow B e size (.slice (some ⟨g, 0, none⟩) m c) n xs) : ∀ j, w.frozen? ⟨g, j, none⟩ = false := by
 rcases h.2 with ⟨h0, _⟩ | ⟨g', cap, cur, hv, _, hh, _⟩
 ·cases h0
 ·simp only [Value.slice.injEq, Option.some.injEq, Addr.mk.injEq] at hv
  obtain ⟨⟨rfl, -, -⟩, -, rfl⟩ := hv
  exact (tk_store hh).2
def Od (w : World) (n : Nat) (ls : List (List Int)) (r : Ending) (w' : World) : Prop := Below w.heap.size w w' ∧ ((ordN n ls n = none ∧ r = .returned (.tuple #[.slice none 0 0, .int .i64 27])) ∨ ∃ o f d, ordN n ls n = some (o, f) ∧ r = .returned (.tuple #[d, .int .i64 0]) ∧ w'.ownsRow w.heap.size 3 1 d o.length (fl EI o))
theorem ordN_none {n : Nat} {ls : List (List Int)} {t m : Nat} (h : t ≤ m) (ht : ordN n ls t = none) : ordN n ls m = none := by
 induction m with
 | zero =>
  obtain rfl : t = 0 := by omega
  exact ht
 | succ m ih =>
  by_cases e : t = m + 1
  ·subst e
   exact ht
  ·rw [ordN, ih (by omega)]
def Os (w : World) (n g : Nat) (ls : List (List Int)) (t : Nat) (vo : Value) (W : World) : Prop := ∃ o f, ordN n ls t = some (o, f) ∧ Wt w n g f W ∧ W.ownsRow w.heap.size 3 1 vo o.length (fl EI o) ∧ (∀ k, vo.ownBlock = some k → k ≠ g) ∧ o.length = t ∧ ∀ k, -1000000 - 1001 * (t : Int) ≤ f k ∧ f k ≤ 1000000
set_option maxRecDepth 100000 in
set_option maxHeartbeats 4000000 in
theorem ordered_any {M : Nat} {v : Value} {ls : List (List Int)} (w : World) (hF : Ff M w v ls) (hn : ls.length ≤ 1000) (hx : ∀ l ∈ ls, l.length ≤ 1000 ∧ ∀ x ∈ l, 0 ≤ x ∧ x < (ls.length : Int)) : Calls Tryz.prog 85 #[v] w (Od w ls.length ls) := by
 have hmx : Tryz.prog.follows .mixedOrders = true := by kernel_rfl
 obtain ⟨p, c, rfl⟩ := hF.form
 have HF := hid hF
 have HX := hid hx
 obtain ⟨n, hnn⟩ : ∃ n, n = ls.length := ⟨_, rfl⟩
 rw [← hnn] at hn ⊢
 have HN := hid hnn
 have HCB : Hid (∀ (i : Nat) (y : Int), cntL (ls.take i) y ≤ 1000000) := fun i y => by
  have h := cntL_le (ls := ls.take i) (m := 1000) (fun l hl => (hx l (List.mem_of_mem_take hl)).1) y
  have h2 : (ls.take i).length ≤ 1000 := by rw [List.length_take]; omega
  have := Nat.mul_le_mul_right 1000 h2
  omega
 clear hF hx hnn
 obtain ⟨i0, hi0, hz0, hz1, hz2⟩ := info_parts infoIK
 go_enter Tryz.func85, Tryz.ntmps85
 go_upto_region 2 with (at_make; refine wpList_make_full _ rfl _ _ 59 rfl w.heap.size 3 i0 (.int .i64 0) 1 Tryz.underlying59 hi0 hz0 hz1 _ _ _ _ n rfl rfl rfl rfl (by rw [hz2]; omega) (by unfold maxLen; omega) (Nat.le_refl _) ?_; intro w1 hrow hg1)
 obtain ⟨g, hg⟩ : ∃ g, g = w.heap.size := ⟨_, rfl⟩
 rw [← hg]
 have W1 : Hid (Wt w n g (fun k => (cntL (ls.take 0) (k : Int) : Nat)) w1) := by
  refine ⟨(Kp.grownBy (S := fun _ => False) hg1 (fun _ h => by cases h)).below (Nat.le_refl _) (fun _ h => h.elim), ?_⟩
  rw [hg]
  refine owns_re hrow rfl ?_
  rw [madeK, fnL_zero, fl_I]
  simp [cntL]
 clear hrow hg1 hg hi0 hz0 hz1 hz2
 go_wp2_with fail
 go_loopw [18] (fun s18 wr => ∃ i : Nat, i ≤ n ∧ s18 = .int .i64 (i : Nat) ∧ Hid (Wt w n g (fun k => (cntL (ls.take i) (k : Int) : Nat)) wr)) (fun s18 _ => n - (RowKit.intOf s18).toNat)
 case atStart => exact ⟨0, Nat.zero_le _, rfl, W1.out⟩
 case round =>
  clear W1
  obtain ⟨i, hi, rfl, HI⟩ := hrel
  by_cases hlt : i < n
  ·have hltz : (i : Int) < (n : Int) := by omega
   have hi1 : (0 : Int) ≤ (i : Int) := by omega
   obtain ⟨l, hl⟩ : ∃ l, ls[i]? = some l := ⟨ls[i]'(by have := HN.out; omega), by simp⟩
   obtain ⟨b, off, c1, q, c2, e1, z0, x0, hz⟩ := HF.out.at hl
   have x1 := (HI.out.bl.cell (p := ⟨b, off + i, none⟩) z0).trans x0
   have z1 := Nat.lt_of_lt_of_le z0 HI.out.bl.size
   simp only [Value.slice.injEq] at e1
   obtain ⟨rfl, -, rfl⟩ := e1
   have HL : Hid (ls[i]? = some l ∧ l.length ≤ 1000 ∧ ∀ x ∈ l, 0 ≤ x ∧ x < (n : Int)) := ⟨hl, (HX.out l (List.mem_of_getElem? hl)).1, by have h := (HX.out l (List.mem_of_getElem? hl)).2; rw [← HN.out] at h; exact h⟩
   have HZ := hid (fun (W : World) (hb : Below w.heap.size w W) => hz.below hb)
   have hll := HL.out.2.1
   clear hz hl z0 x0
   go_wp2_with fail
   clear x1 z1
   go_loopw [24] (fun s24 wr => ∃ k : Nat, k ≤ l.length ∧ s24 = .int .i64 (k : Nat) ∧ Hid (Wt w n g (fun y => (cntL (ls.take i) (y : Int) + (l.take k).count (y : Int) : Nat)) wr)) (fun s24 _ => l.length - (RowKit.intOf s24).toNat)
   case atStart => exact ⟨0, Nat.zero_le _, rfl, HI.out.re (fun k _ => by simp)⟩
   case round =>
    clear HI
    obtain ⟨k, hk, rfl, HI⟩ := hrel
    by_cases hlk : k < l.length
    ·have hlkz : (k : Int) < (l.length : Int) := by omega
     have hk0 : (0 : Int) ≤ (k : Int) := by omega
     obtain ⟨x, hx⟩ : ∃ x, l[k]? = some x := ⟨l[k], by simp⟩
     have hxb := HL.out.2.2 x (List.mem_of_getElem? hx)
     obtain ⟨e, rfl⟩ : ∃ e : Nat, x = (e : Int) := ⟨x.toNat, by omega⟩
     obtain ⟨b2, o2, c3, e2, z2, y0⟩ := ls_atI ((HZ.out wr HI.out.bl).ls hx) hx
     simp only [Value.slice.injEq] at e2
     obtain ⟨rfl, -, rfl⟩ := e2
     obtain ⟨m, hm⟩ : ∃ m : Nat, m = cntL (ls.take i) (e : Int) + (l.take k).count (e : Int) := ⟨_, rfl⟩
     have hc := (HI.out.cell (k := e) (by omega)).1
     rw [← hm] at hc
     have lg := (HI.out.cell (k := e) (by omega)).2
     have fg := own_frK HI.out.row
     have hm9 : m ≤ 2000000 := by
      have h1 := HCB.out i (e : Int)
      have h2 : (l.take k).count (e : Int) ≤ (l.take k).length := List.count_le_length
      rw [List.length_take] at h2
      omega
     have FIN : Hid (Wt w n g (fun y => (cntL (ls.take i) (y : Int) + (l.take (k + 1)).count (y : Int) : Nat)) (wr.setCell ⟨g, e, none⟩ (.int .i64 ((m : Int) + 1)))) := by
      refine (HI.out.set e ((m : Int) + 1)).1.re (fun y _ => ?_)
      rw [count_snoc hx]
      unfold upd
      by_cases hy : y = e
      ·subst hy
       rw [if_pos rfl, if_pos rfl, hm]
       omega
      ·rw [if_neg hy, if_neg (by omega)]
       simp
     have he0 : (0 : Int) ≤ (e : Int) := by omega
     have hen : (e : Int) < (n : Int) := hxb.2
     clear hx hm
     go_wp2_with fail
     go_roundw
     case rel => exact ⟨k + 1, by omega, by go_num, FIN.out⟩
     case measure => simp [RowKit.intOf]; omega
    ·have hlkz : ¬ (k : Int) < (l.length : Int) := by omega
     have FIN : Hid (Wt w n g (fun y => (cntL (ls.take (i + 1)) (y : Int) : Nat)) wr) := HI.out.re (fun y _ => by have h : l.take k = l := List.take_of_length_le (by omega); rw [cntL_snoc HL.out.1, h])
     go_wp2_with fail
     go_roundw
     case rel => exact ⟨i + 1, by omega, by go_num, FIN.out⟩
     case measure => simp [RowKit.intOf]; omega
  ·have hltz : ¬ (i : Int) < (n : Int) := by omega
   have A1 : Hid (Wt w n g (fun k => (cntL ls (k : Int) : Nat)) wr) := HI.out.re (fun y _ => by have h : ls.take i = ls := List.take_of_length_le (by have := HN.out; omega); rw [h])
   have C1 : Hid (∀ y : Int, cntL ls y ≤ 1000000) := fun y => by have h := HCB.out n y; rw [HN.out, List.take_length] at h; exact h
   clear HI
   go_wp2_with fail
   go_loopw [9, 38] (fun s9 s38 wr => ∃ (t : Nat) (vo : Value), t ≤ n ∧ s38 = .int .i64 (t : Nat) ∧ vo = s9 ∧ Hid (Os w n g ls t vo wr)) (fun _ s38 _ => n - (RowKit.intOf s38).toNat)
   case atStart => exact ⟨0, _, Nat.zero_le _, rfl, rfl, [], _, rfl, A1.out, World.ownsRow_nil _ _ _ _, (fun k e => by cases e), rfl, fun k => by have := C1.out (k : Int); omega⟩
   case round =>
    clear A1
    obtain ⟨t, vo, ht, rfl, rfl, HI⟩ := hrel
    by_cases hlt2 : t < n
    ·have hltz2 : (t : Int) < (n : Int) := by omega
     obtain ⟨o, f, ho, hw, hro, hne, hol, hfb⟩ := HI.out
     have hr : wr.ownsRow w.heap.size 3 1 (.slice (some ⟨g, 0, none⟩) n n) (fnL n f).length (fl EI (fnL n f)) := owns_re hw.row (fnL_len n f).symm rfl
     have hidx := indexI_any 0 wr (owns_lz (E := EI) hr) (by rw [fnL_len]; omega)
     have HO := hid ho
     have HW := hid hw
     have HR : Hid (wr.ownsRow w.heap.size 3 1 vo o.length (fl EI o) ∧ (∀ k, vo.ownBlock = some k → k ≠ g) ∧ o.length = t ∧ ∀ k, -1000000 - 1001 * (t : Int) ≤ f k ∧ f k ≤ 1000000) := ⟨hro, hne, hol, hfb⟩
     clear ho hw hro hne hol hfb hr
     go_wp2_with fail
     refine hidx.mono ?_
     rintro r w2 ⟨hw2, hr2⟩
     subst hw2
     rcases hr2 with ⟨q, rfl, hq1, hq2⟩ | ⟨rfl, hq1⟩
     ·have hqn : q < n := by have h := (List.getElem?_eq_some_iff.1 hq1).1; rw [fnL_len] at h; exact h
      have hfq : f q = 0 := by rw [fnL_get f hqn] at hq1; exact Option.some.inj hq1
      have HZN : Hid (zeroN n f = some q) := by
       show _ = _
       unfold zeroN
       rw [List.find?_range_eq_some]
       refine ⟨by simp [hfq], by simpa using hqn, fun j hj => ?_⟩
       have h := hq2 j hj
       rw [fnL_get f (by omega)] at h
       simp only [ne_eq, Option.some.injEq] at h
       simpa using h
      have HOT := hid HR.out.2.2.1
      have hq0 : (0 : Int) ≤ (q : Int) := by omega
      have hqz : (q : Int) < (n : Int) := by omega
      obtain ⟨l, hl⟩ : ∃ l, ls[q]? = some l := ⟨ls[q]'(by have := HN.out; omega), by simp⟩
      have HL : Hid (ls[q]? = some l ∧ l.length ≤ 1000 ∧ ∀ x ∈ l, 0 ≤ x ∧ x < (n : Int)) := ⟨hl, (HX.out l (List.mem_of_getElem? hl)).1, by have h := (HX.out l (List.mem_of_getElem? hl)).2; rw [← HN.out] at h; exact h⟩
      have hll := HL.out.2.1
      clear hidx hq1 hq2 HI
      go_wp2_with (at_builtin; refine wpApp1 EI Tryz.underlying59 infoIK rfl (by decide) rfl _ _ rfl w.heap.size _ o.length _ rfl HR.out.1 (q : Int) rfl (by have := HOT.out; omega) (by have := HOT.out; unfold maxLen; omega) HW.out.bl.size _ rfl _ ?_)
      intro g9 c9 w9 r1 r2 r3
      have S9 : Hid (Wt w n g f w9 ∧ w9.ownsRow w.heap.size 3 1 (.slice (some ⟨g9, 0, none⟩) (o.length + 1) c9) (o ++ [(q : Int)]).length (fl EI (o ++ [(q : Int)])) ∧ g9 ≠ g) := by
       have k2 := Kp.grownBy (S := fun j => vo.ownBlock = some j) r2 (fun _ h => h)
       refine ⟨⟨HW.out.bl.trans (k2.below HW.out.bl.size (fun j e => (owns_rd HR.out.1 j e).1)), owns_kp k2 HW.out.row (fun j e e2 => HR.out.2.1 j e2 (by simpa [Value.ownBlock] using e.symm))⟩, owns_re r1 (by simp) (by rw [fl_append, fl_one]), fun e => ?_⟩
       rcases r3 with h | h
       ·exact HR.out.2.1 g9 h e
       ·have := (owns_rd HW.out.row g rfl).2
        omega
      clear r1 r2 r3
      have hc := (S9.out.1.cell hqn).1
      have lg := (S9.out.1.cell hqn).2
      have fg := own_frK S9.out.1.row
      obtain ⟨w10, hw10⟩ : ∃ W, W = w9.setCell ⟨g, q, none⟩ (.int .i64 (-1)) := ⟨_, rfl⟩
      have S10 : Hid (Wt w n g (fun y => (if y = q then -1 else f y) - ((l.take 0).count (y : Int) : Nat)) w10 ∧ w10.ownsRow w.heap.size 3 1 (.slice (some ⟨g9, 0, none⟩) (o.length + 1) c9) (o ++ [(q : Int)]).length (fl EI (o ++ [(q : Int)]))) := by
       obtain ⟨h1, h2⟩ := S9.out.1.set q (-1)
       rw [hw10]
       exact ⟨h1.re (fun y _ => by simp [upd]), owns_kp h2 S9.out.2.1 (fun j e e2 => S9.out.2.2 (by simp [Value.ownBlock] at e; omega))⟩
      have HW10 : Hid (w9.setCell ⟨g, q, none⟩ (.int .i64 (-1)) = w10) := hw10.symm
      clear hw10
      generalize o.length + 1 = ol at S10 S9 ⊢
      go_upto_region 19 with fail
      rw [HW10.out]
      clear HW10 hc lg fg
      obtain ⟨b, off, c1, q1, c2, e1, z0, x0, hz⟩ := HF.out.at hl
      have x1 := (S10.out.1.bl.cell (p := ⟨b, off + q, none⟩) z0).trans x0
      have z1 := Nat.lt_of_lt_of_le z0 S10.out.1.bl.size
      simp only [Value.slice.injEq] at e1
      obtain ⟨rfl, -, rfl⟩ := e1
      have HZ := hid (fun (W : World) (hb : Below w.heap.size w W) => hz.below hb)
      clear hz hl z0 x0
      go_wp2_with fail
      clear x1 z1
      go_loopw [56] (fun s56 wr => ∃ k : Nat, k ≤ l.length ∧ s56 = .int .i64 (k : Nat) ∧ Hid (Wt w n g (fun y => (if y = q then -1 else f y) - ((l.take k).count (y : Int) : Nat)) wr ∧ wr.ownsRow w.heap.size 3 1 (.slice (some ⟨g9, 0, none⟩) ol c9) (o ++ [(q : Int)]).length (fl EI (o ++ [(q : Int)])))) (fun s56 _ => l.length - (RowKit.intOf s56).toNat)
      case atStart => exact ⟨0, Nat.zero_le _, rfl, S10.out⟩
      case round =>
       clear S10
       obtain ⟨k, hk, rfl, HI⟩ := hrel
       by_cases hlk : k < l.length
       ·have hlkz : (k : Int) < (l.length : Int) := by omega
        have hk0 : (0 : Int) ≤ (k : Int) := by omega
        obtain ⟨x, hx⟩ : ∃ x, l[k]? = some x := ⟨l[k], by simp⟩
        have hxb := HL.out.2.2 x (List.mem_of_getElem? hx)
        obtain ⟨e, rfl⟩ : ∃ e : Nat, x = (e : Int) := ⟨x.toNat, by omega⟩
        obtain ⟨b2, o2, c3, e2, z2, y0⟩ := ls_atI ((HZ.out wr HI.out.1.bl).ls hx) hx
        simp only [Value.slice.injEq] at e2
        obtain ⟨rfl, -, rfl⟩ := e2
        obtain ⟨m, hm⟩ : ∃ m : Int, m = (if e = q then -1 else f e) - ((l.take k).count (e : Int) : Nat) := ⟨_, rfl⟩
        have hc := (HI.out.1.cell (k := e) (by omega)).1
        rw [← hm] at hc
        have lg := (HI.out.1.cell (k := e) (by omega)).2
        have fg := own_frK HI.out.1.row
        have hm9 : -4000000 ≤ m ∧ m ≤ 2000000 := by
         have h1 := HR.out.2.2.2 e
         have h2 : (l.take k).count (e : Int) ≤ (l.take k).length := List.count_le_length
         rw [List.length_take] at h2
         rw [hm]
         split <;> omega
        have FIN : Hid (Wt w n g (fun y => (if y = q then -1 else f y) - ((l.take (k + 1)).count (y : Int) : Nat)) (wr.setCell ⟨g, e, none⟩ (.int .i64 (m - 1))) ∧ (wr.setCell ⟨g, e, none⟩ (.int .i64 (m - 1))).ownsRow w.heap.size 3 1 (.slice (some ⟨g9, 0, none⟩) ol c9) (o ++ [(q : Int)]).length (fl EI (o ++ [(q : Int)]))) := by
         obtain ⟨h1, h2⟩ := HI.out.1.set e (m - 1)
         refine ⟨h1.re (fun y _ => ?_), owns_kp h2 HI.out.2 (fun j e e2 => S9.out.2.2 (by simp [Value.ownBlock] at e; omega))⟩
         rw [count_snoc hx]
         unfold upd
         by_cases hy : y = e
         ·subst hy
          rw [if_pos rfl, if_pos rfl, hm]
          omega
         ·rw [if_neg hy, if_neg (show ¬ ((e : Nat) : Int) = (y : Int) by omega)]
          simp
        have he0 : (0 : Int) ≤ (e : Int) := by omega
        have hen : (e : Int) < (n : Int) := hxb.2
        obtain ⟨hm1, hm2⟩ := hm9
        clear hx hm
        go_wp2_with fail
        go_roundw
        case rel => exact ⟨k + 1, by omega, by go_num, FIN.out⟩
        case measure => simp [RowKit.intOf]; omega
       ·have hlkz : ¬ (k : Int) < (l.length : Int) := by omega
        have FIN : Hid (Os w n g ls (t + 1) (.slice (some ⟨g9, 0, none⟩) ol c9) wr) := by
         have h : l.take k = l := List.take_of_length_le (by omega)
         refine ⟨o ++ [(q : Int)], stepN ls f q, ?_, HI.out.1.re (fun y _ => by unfold stepN; rw [HL.out.1, h]; rfl), HI.out.2, fun j e e2 => S9.out.2.2 (by simp [Value.ownBlock] at e; omega), by rw [List.length_append, HOT.out]; rfl, fun y => ?_⟩
         ·rw [ordN, HO.out]
          simp only [HZN.out]
         ·have h1 := HR.out.2.2.2 y
          have h2 : l.count (y : Int) ≤ l.length := List.count_le_length
          unfold stepN
          rw [HL.out.1, Option.getD_some]
          split <;> omega
        go_wp2_with fail
        go_roundw
        case rel => exact ⟨t + 1, _, by omega, by go_num, rfl, FIN.out⟩
        case measure => simp [RowKit.intOf]; omega
     ·have HNO : Hid (ordN n ls n = none) := by
        refine ordN_none (t := t + 1) (by omega) ?_
        rw [ordN, HO.out]
        have h : zeroN n f = none := List.find?_eq_none.2 (fun k hk h => hq1 (by
         have h1 := fnL_get f (List.mem_range.1 hk)
         have h2 : f k = 0 := by simpa using h
         rw [h2] at h1
         exact List.mem_of_getElem? h1))
        simp only [h]
      go_wp2_with fail
      refine bodyPost_ret (v := .tuple #[.slice none 0 0, .int .i64 27]) (by simp [results, Tryz.results85, go_sem]) rfl ?_
      exact ⟨HW.out.bl, Or.inl ⟨HNO.out, rfl⟩⟩
    ·have hltz2 : ¬ (t : Int) < (n : Int) := by omega
     obtain rfl : t = n := by omega
     obtain ⟨o, f, ho, hw, hro, hne, hol, hfb⟩ := HI.out
     have FIN : Hid (Od w t ls (.returned (.tuple #[vo, .int .i64 0])) wr) := ⟨hw.bl, Or.inr ⟨o, f, vo, ho, rfl, hro⟩⟩
     obtain ⟨qo, mo, co, hvo⟩ := owns_form hro
     subst hvo
     clear ho hw hro hne hol hfb
     go_wp2_with fail
     refine bodyPost_ret (v := .tuple #[.slice qo mo co, .int .i64 0]) (by simp [results, Tryz.results85, go_sem]) rfl ?_
     exact FIN.out
end Go.Proofs.YtdnnfgabdkkdjaaGreat.Df

namespace Go.Proofs.YtdnnfgabdkkdjaaGreat.Df
open Go.RowKit Go.Sort
def Sp (ls : List (List Int)) (p q : Nat) : Prop := ∃ l, ls[p]? = some l ∧ ((q : Nat) : Int) ∈ l
def Wp (ls : List (List Int)) : List Nat → Nat → Prop
 | [], _ => True
 | [v], q => Sp ls v q
 | v :: u :: vs, q => Sp ls v u ∧ Wp ls (u :: vs) q
theorem Wp.tail {ls : List (List Int)} {v : Nat} {vs : List Nat} {q : Nat} (h : Wp ls (v :: vs) q) : Wp ls vs q := by
 cases vs with
 | nil => trivial
 | cons a vs => exact h.2
theorem Wp.next {ls : List (List Int)} {v : Nat} {vs : List Nat} {q : Nat} (h : Wp ls (v :: vs) q) : ∃ u, Sp ls v u ∧ ((vs = [] ∧ u = q) ∨ (vs.head? = some u ∧ Wp ls vs q)) := by
 cases vs with
 | nil => exact ⟨q, h, Or.inl ⟨rfl, rfl⟩⟩
 | cons a vs => exact ⟨a, h.1, Or.inr ⟨rfl, h.2⟩⟩
theorem Sp.lt {ls : List (List Int)} {p q : Nat} (h : Sp ls p q) : p < ls.length := by
 obtain ⟨l, hl, _⟩ := h
 exact (List.getElem?_eq_some_iff.1 hl).1
theorem Wp.lt {ls : List (List Int)} {q : Nat} (l : List Nat) (h : Wp ls l q) : ∀ x ∈ l, x < ls.length := by
 induction l with
 | nil => intro x hx; cases hx
 | cons v l ih =>
  intro x hx
  rcases List.mem_cons.1 hx with rfl | hx
  ·obtain ⟨u, hu, _⟩ := h.next
   exact hu.lt
  ·exact ih h.tail x hx
def Ry (ls : List (List Int)) (q m p : Nat) : Prop := ∃ l : List Nat, l.head? = some p ∧ Wp ls l q ∧ l.length ≤ m
end Go.Proofs.YtdnnfgabdkkdjaaGreat.Df

namespace Go.Proofs.YtdnnfgabdkkdjaaGreat.Df
open Go.RowKit Go.Sort
theorem sub_le {α : Type} [BEq α] [LawfulBEq α] : ∀ (l m : List α), l.Nodup → (∀ x ∈ l, x ∈ m) → l.length ≤ m.length := by
 intro l
 induction l with
 | nil => intro m _ _; simp
 | cons x l ih =>
  intro m hd hs
  have hx := hs x (by simp)
  have h1 := ih (m.erase x) (List.nodup_cons.1 hd).2 (fun y hy => by
   have hne : y ≠ x := fun e => (List.nodup_cons.1 hd).1 (e ▸ hy)
   exact (List.mem_erase_of_ne hne).2 (hs y (by simp [hy])))
  have h2 := (List.perm_cons_erase hx).length_eq
  simp only [List.length_cons] at h2 ⊢
  omega
theorem all_in {n : Nat} {us : List Nat} (hd : us.Nodup) (hb : ∀ x ∈ us, x < n) (hl : us.length = n) : ∀ k, k < n → k ∈ us := fun k hk => by
 by_cases h : k ∈ us
 ·exact h
 ·have h1 := sub_le (k :: us) (List.range n) (List.nodup_cons.2 ⟨h, hd⟩) (fun x hx => by
    rcases List.mem_cons.1 hx with rfl | hx
    ·exact List.mem_range.2 hk
    ·exact List.mem_range.2 (hb x hx))
  simp at h1
  omega
theorem sum_split (C : Nat → Nat) {l : List Nat} {x : Nat} (h : x ∈ l) : (l.map C).sum = C x + ((l.erase x).map C).sum := by
 have h1 := ((List.perm_cons_erase h).map C).sum_nat
 simpa using h1
theorem sum_le (C : Nat → Nat) : ∀ (us m : List Nat), us.Nodup → (∀ x ∈ us, x ∈ m) → (us.map C).sum ≤ (m.map C).sum := by
 intro us
 induction us with
 | nil => intro m _ _; simp
 | cons x us ih =>
  intro m hd hs
  have h1 := ih (m.erase x) (List.nodup_cons.1 hd).2 (fun y hy => by
   have hne : y ≠ x := fun e => (List.nodup_cons.1 hd).1 (e ▸ hy)
   exact (List.mem_erase_of_ne hne).2 (hs y (by simp [hy])))
  rw [sum_split C (hs x (by simp)), List.map_cons, List.sum_cons]
  omega
theorem sum_ge (C : Nat → Nat) : ∀ (m us : List Nat), m.Nodup → (∀ x ∈ m, C x ≠ 0 → x ∈ us) → (m.map C).sum ≤ (us.map C).sum := by
 intro m
 induction m with
 | nil => intro us _ _; simp
 | cons x m ih =>
  intro us hd hs
  by_cases hc : C x = 0
  ·rw [List.map_cons, List.sum_cons, hc]
   have := ih us (List.nodup_cons.1 hd).2 (fun y hy => hs y (by simp [hy]))
   omega
  ·have hx := hs x (by simp) hc
   have h1 := ih (us.erase x) (List.nodup_cons.1 hd).2 (fun y hy hy2 => by
    have hne : y ≠ x := fun e => (List.nodup_cons.1 hd).1 (e ▸ hy)
    exact (List.mem_erase_of_ne hne).2 (hs y (by simp [hy]) hy2))
   rw [sum_split C hx, List.map_cons, List.sum_cons]
   omega
def cAt (ls : List (List Int)) (k p : Nat) : Nat := ((ls[p]?).getD []).count (k : Int)
theorem cAt_pos {ls : List (List Int)} {k p : Nat} : cAt ls k p ≠ 0 ↔ Sp ls p k := by
 unfold cAt Sp
 cases ls[p]? with
 | none => simp
 | some l => simp [List.count_eq_zero]
theorem cntL_range (ls : List (List Int)) (k : Nat) : cntL ls (k : Int) = ((List.range ls.length).map (cAt ls k)).sum := by
 unfold cntL
 congr 1
 refine List.ext_getElem (by simp) fun i h1 h2 => ?_
 simp [cAt, List.getElem?_eq_getElem (show i < ls.length by simpa using h1)]
structure Oi (ls : List (List Int)) (us : List Nat) (f : Nat → Int) : Prop where
 nd : us.Nodup
 bd : ∀ x ∈ us, x < ls.length
 lo : ∀ k ∈ us, f k ≤ -1
 hi : ∀ k, k ∉ us → f k = (cntL ls (k : Int) : Int) - ((us.map (cAt ls k)).sum : Nat)
 bef : ∀ j q, us[j]? = some q → ∀ p, Sp ls p q → p ∈ us.take j
abbrev ints (us : List Nat) : List Int := us.map fun (u : Nat) => (u : Int)
theorem Oi.step {ls : List (List Int)} {us : List Nat} {f : Nat → Int} {p : Nat} (h : Oi ls us f) (hz : zeroN ls.length f = some p) : Oi ls (us ++ [p]) (stepN ls f p) := by
 unfold zeroN at hz
 rw [List.find?_range_eq_some] at hz
 obtain ⟨h1, h2, _⟩ := hz
 have hf : f p = 0 := by simpa using h1
 have hn : p < ls.length := by simpa using h2
 have hp : p ∉ us := fun e => by have := h.lo p e; omega
 have hpre : ∀ r, Sp ls r p → r ∈ us := fun r hr => by
  by_cases e : r ∈ us
  ·exact e
  ·have h3 := sum_le (cAt ls p) (r :: us) (List.range ls.length) (List.nodup_cons.2 ⟨e, h.nd⟩) (fun x hx => by
     rcases List.mem_cons.1 hx with rfl | hx
     ·exact List.mem_range.2 hr.lt
     ·exact List.mem_range.2 (h.bd x hx))
   rw [← cntL_range, List.map_cons, List.sum_cons] at h3
   have h4 := h.hi p hp
   have h5 := cAt_pos.2 hr
   omega
 refine ⟨?_, ?_, ?_, ?_, ?_⟩
 ·rw [List.nodup_append]
  exact ⟨h.nd, by simp, fun a ha b hb => by
   simp at hb
   subst hb
   exact fun e => hp (e ▸ ha)⟩
 ·intro x hx
  rcases List.mem_append.1 hx with hx | hx
  ·exact h.bd x hx
  ·simp at hx
   omega
 ·intro k hk
  unfold stepN
  rcases List.mem_append.1 hk with hk | hk
  ·have := h.lo k hk
   split <;> omega
  ·simp at hk
   rw [if_pos hk]
   omega
 ·intro k hk
  have hk1 : k ∉ us := fun e => hk (by simp [e])
  have hk2 : ¬ k = p := fun e => hk (by simp [e])
  have := h.hi k hk1
  have e3 : stepN ls f p k = f k - (cAt ls k p : Nat) := by
   unfold stepN cAt
   rw [if_neg hk2]
  rw [e3, List.map_append, List.sum_append]
  simp only [List.map_cons, List.map_nil, List.sum_cons, List.sum_nil]
  omega
 ·intro j q hj r hr
  by_cases hjl : j < us.length
  ·rw [List.getElem?_append_left hjl] at hj
   have := h.bef j q hj r hr
   rw [List.take_append_of_le_length (by omega)]
   exact this
  ·have hlt := (List.getElem?_eq_some_iff.1 hj).1
   simp at hlt
   obtain rfl : j = us.length := by omega
   simp at hj
   subst hj
   simpa using hpre r hr
theorem ordN_inv (ls : List (List Int)) (t : Nat) (ht : t ≤ ls.length) : match ordN ls.length ls t with
    | some (o, f) => ∃ us : List Nat, o = ints us ∧ us.length = t ∧ Oi ls us f
    | none => ∃ us : List Nat, us.Nodup ∧ (∀ x ∈ us, x < ls.length) ∧ us.length < ls.length ∧ ∀ k, k < ls.length → k ∉ us → ∃ p, p ∉ us ∧ Sp ls p k := by
 induction t with
 | zero => exact ⟨[], rfl, rfl, ⟨List.nodup_nil, (fun x hx => by cases hx), (fun k hk => by cases hk), (fun k _ => by simp), (fun j q hj => by simp at hj)⟩⟩
 | succ t ih =>
  have ih := ih (by omega)
  unfold ordN
  cases e : ordN ls.length ls t with
  | none =>
   rw [e] at ih
   exact ih
  | some x =>
   obtain ⟨o, f⟩ := x
   rw [e] at ih
   obtain ⟨us, h1, h2, h3⟩ := ih
   dsimp only
   cases e2 : zeroN ls.length f with
   | none =>
    refine ⟨us, h3.nd, h3.bd, by omega, fun k hk hku => ?_⟩
    have hf : f k ≠ 0 := fun e => by
     have := List.find?_eq_none.1 e2 k (List.mem_range.2 hk)
     simp [e] at this
    have h4 := h3.hi k hku
    apply Classical.byContradiction
    intro hno
    have h5 := sum_ge (cAt ls k) (List.range ls.length) us List.nodup_range (fun x _ hx => by
     by_cases e : x ∈ us
     ·exact e
     ·exact absurd ⟨x, e, cAt_pos.1 hx⟩ hno)
    have h6 := sum_le (cAt ls k) us (List.range ls.length) h3.nd (fun x hx => List.mem_range.2 (h3.bd x hx))
    rw [← cntL_range] at h5 h6
    omega
   | some p =>
    exact ⟨us ++ [p], by simp [h1, ints], by simp [h2], h3.step e2⟩
structure Or (ls : List (List Int)) (us : List Nat) : Prop where
 nd : us.Nodup
 bd : ∀ x ∈ us, x < ls.length
 len : us.length = ls.length
 bef : ∀ (i j p q : Nat), us[i]? = some p → us[j]? = some q → Sp ls p q → i < j
theorem Or.at {ls : List (List Int)} {us : List Nat} (h : Or ls us) {k : Nat} (hk : k < ls.length) : ∃ i : Nat, us[i]? = some k := List.mem_iff_getElem?.1 (all_in h.nd h.bd h.len k hk)
theorem Or.way {ls : List (List Int)} {us : List Nat} (h : Or ls us) (hx : ∀ p q, Sp ls p q → q < ls.length) {q : Nat} (l : List Nat) (hw : Wp ls l q) : ∀ (p i j : Nat), l.head? = some p → us[i]? = some p → us[j]? = some q → i < j := by
 induction l with
 | nil => intro p i j e; cases e
 | cons v l ih =>
  intro p i j e hi hj
  simp at e
  subst e
  obtain ⟨u, hu, h2⟩ := hw.next
  rcases h2 with ⟨_, rfl⟩ | ⟨h3, h4⟩
  ·exact h.bef i j v u hi hj hu
  ·obtain ⟨k, hk⟩ := h.at (hx v u hu)
   have h5 := h.bef i k v u hi hk hu
   have h6 := ih h4 u k j h3 hk hj
   omega
theorem Or.none {ls : List (List Int)} {us : List Nat} (h : Or ls us) (hx : ∀ p q, Sp ls p q → q < ls.length) (x m : Nat) : ¬ Ry ls x m x := fun ⟨l, h1, h2, _⟩ => by
 have hlt : x < ls.length := by
  cases l with
  | nil => cases h1
  | cons y l =>
   simp at h1
   subst h1
   exact Wp.lt _ h2 y (by simp)
 obtain ⟨i, hi⟩ := h.at hlt
 have := h.way hx l h2 x i i h1 hi hi
 omega
end Go.Proofs.YtdnnfgabdkkdjaaGreat.Df
