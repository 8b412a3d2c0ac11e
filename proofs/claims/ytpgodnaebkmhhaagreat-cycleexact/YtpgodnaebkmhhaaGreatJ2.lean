import Derived.Test.YtpgodnaebkmhhaaGreatJ1
import Derived.BigQuiet
import Derived.Sort.OwnSortedInts
namespace Go.Proofs.YtpgodnaebkmhhaaGreat.Df
open Go.RowKit Go.Sort
attribute [local go_sem ↓] Go.wp_at_zero Go.wp_at_succ

theorem infoIK : (Tryz.prog.info? 3).map (fun i => (i.zero, i.size, i.bytes)) = some (some (.int .i64 0), 1, 8) := by kernel_rfl
theorem madeK (n : Nat) : (madeCells (Value.int .i64 0).cells (n * 1)).toList = (List.replicate n (0 : Int)).map (Value.int .i64) := by
  rw [Nat.mul_one]
  exact (toList_madeCells_one _ n).trans (by simp)
theorem own_frK {w : World} {B : Nat} {e : TypeId} {size n g : Nat} {m c : Nat} {xs : List Value} (h : w.ownsRow B e size (.slice (some ⟨g, 0, none⟩) m c) n xs) : ∀ j, w.frozen? ⟨g, j, none⟩ = false := by
  rcases h.2 with ⟨h0, _⟩ | ⟨g', cap, cur, hv, _, hh, _⟩
  · cases h0
  · simp only [Value.slice.injEq, Option.some.injEq, Addr.mk.injEq] at hv
    obtain ⟨⟨rfl, -, -⟩, -, rfl⟩ := hv
    exact (tk_store hh).2
/-- What ordered answers. -/
def Od (w : World) (n : Nat) (ls : List (List Int)) (r : Ending) (w' : World) : Prop := Below w.heap.size w w' ∧ ((ordN n ls n = none ∧ r = .returned (.tuple #[.slice none 0 0, .int .i64 27])) ∨ ∃ o f d, ordN n ls n = some (o, f) ∧ r = .returned (.tuple #[d, .int .i64 0]) ∧ w'.ownsRow w.heap.size 3 1 d o.length (fl EI o))
theorem ordN_none {n : Nat} {ls : List (List Int)} {t m : Nat} (h : t ≤ m) (ht : ordN n ls t = none) : ordN n ls m = none := by
  induction m with
  | zero =>
    obtain rfl : t = 0 := by omega
    exact ht
  | succ m ih =>
    by_cases e : t = m + 1
    · subst e
      exact ht
    · rw [ordN, ih (by omega)]
/-- What stands while the places are listed. -/
def Os (w : World) (n g : Nat) (ls : List (List Int)) (t : Nat) (vo : Value) (W : World) : Prop := ∃ o f, ordN n ls t = some (o, f) ∧ Wt w n g f W ∧ W.ownsRow w.heap.size 3 1 vo o.length (fl EI o) ∧ (∀ k, vo.ownBlock = some k → k ≠ g) ∧ o.length = t ∧ ∀ k, -1000000 - 1001 * (t : Int) ≤ f k ∧ f k ≤ 1000000
set_option maxRecDepth 100000 in
set_option maxHeartbeats 4000000 in
theorem ordered_any {M : Nat} {v : Value} {ls : List (List Int)} (w : World) (hF : Ff M w v ls) (hn : ls.length ≤ 1000) (hx : ∀ l ∈ ls, l.length ≤ 1000 ∧ ∀ x ∈ l, 0 ≤ x ∧ x < (ls.length : Int)) : Calls Tryz.prog 28 #[v] w (Od w ls.length ls) := by
  have hmx : Tryz.prog.follows .mixedOrders = true := by kernel_rfl
  obtain ⟨p, c, rfl⟩ := hF.form
  have HF := hid hF
  have HX := hid hx
  obtain ⟨n, hnn⟩ : ∃ n, n = ls.length := ⟨_, rfl⟩
  rw [← hnn] at hn ⊢
  have HN := hid hnn
  have HCB : Hid (∀ (i : Nat) (y : Int), cntL (ls.take i) y ≤ 1000000) := fun i y => by
    have h := cntL_le (ls := ls.take i) (m := 1000) (fun l hl => (hx l (List.mem_of_mem_take hl)).1) y
    have h2 : (ls.take i).length ≤ 1000 := by rw [List.length_take]; omega
    have := Nat.mul_le_mul_right 1000 h2
    omega
  clear hF hx hnn
  obtain ⟨i0, hi0, hz0, hz1, hz2⟩ := info_parts infoIK
  go_enter Tryz.func28, Tryz.ntmps28
  go_upto_region 2 with (at_make; refine wpList_make_full _ rfl _ _ 33 rfl w.heap.size 3 i0 (.int .i64 0) 1 Tryz.underlying33 hi0 hz0 hz1 _ _ _ _ n rfl rfl rfl rfl (by rw [hz2]; omega) (by unfold maxLen; omega) (Nat.le_refl _) ?_; intro w1 hrow hg1)
  obtain ⟨g, hg⟩ : ∃ g, g = w.heap.size := ⟨_, rfl⟩
  rw [← hg]
  have W1 : Hid (Wt w n g (fun k => (cntL (ls.take 0) (k : Int) : Nat)) w1) := by
    refine ⟨(Kp.grownBy (S := fun _ => False) hg1 (fun _ h => by cases h)).below (Nat.le_refl _) (fun _ h => h.elim), ?_⟩
    rw [hg]
    refine owns_re hrow rfl ?_
    rw [madeK, fnL_zero, fl_I]
    simp [cntL]
  clear hrow hg1 hg hi0 hz0 hz1 hz2
  go_wp2_with fail
  go_loopw [18] (fun s18 wr => ∃ i : Nat, i ≤ n ∧ s18 = .int .i64 (i : Nat) ∧ Hid (Wt w n g (fun k => (cntL (ls.take i) (k : Int) : Nat)) wr)) (fun s18 _ => n - (RowKit.intOf s18).toNat)
  case atStart => exact ⟨0, Nat.zero_le _, rfl, W1.out⟩
  case round =>
    clear W1
    obtain ⟨i, hi, rfl, HI⟩ := hrel
    by_cases hlt : i < n
    · have hltz : (i : Int) < (n : Int) := by omega
      have hi1 : (0 : Int) ≤ (i : Int) := by omega
      obtain ⟨l, hl⟩ : ∃ l, ls[i]? = some l := ⟨ls[i]'(by have := HN.out; omega), by simp⟩
      obtain ⟨b, off, c1, q, c2, e1, z0, x0, hz⟩ := HF.out.at hl
      have x1 := (HI.out.bl.cell (p := ⟨b, off + i, none⟩) z0).trans x0
      have z1 := Nat.lt_of_lt_of_le z0 HI.out.bl.size
      simp only [Value.slice.injEq] at e1
      obtain ⟨rfl, -, rfl⟩ := e1
      have HL : Hid (ls[i]? = some l ∧ l.length ≤ 1000 ∧ ∀ x ∈ l, 0 ≤ x ∧ x < (n : Int)) := ⟨hl, (HX.out l (List.mem_of_getElem? hl)).1, by have h := (HX.out l (List.mem_of_getElem? hl)).2; rw [← HN.out] at h; exact h⟩
      have HZ := hid (fun (W : World) (hb : Below w.heap.size w W) => hz.below hb)
      have hll := HL.out.2.1
      clear hz hl z0 x0
      go_wp2_with fail
      clear x1 z1
      go_loopw [24] (fun s24 wr => ∃ k : Nat, k ≤ l.length ∧ s24 = .int .i64 (k : Nat) ∧ Hid (Wt w n g (fun y => (cntL (ls.take i) (y : Int) + (l.take k).count (y : Int) : Nat)) wr)) (fun s24 _ => l.length - (RowKit.intOf s24).toNat)
      case atStart => exact ⟨0, Nat.zero_le _, rfl, HI.out.re (fun k _ => by simp)⟩
      case round =>
        clear HI
        obtain ⟨k, hk, rfl, HI⟩ := hrel
        by_cases hlk : k < l.length
        · have hlkz : (k : Int) < (l.length : Int) := by omega
          have hk0 : (0 : Int) ≤ (k : Int) := by omega
          obtain ⟨x, hx⟩ : ∃ x, l[k]? = some x := ⟨l[k], by simp⟩
          have hxb := HL.out.2.2 x (List.mem_of_getElem? hx)
          obtain ⟨e, rfl⟩ : ∃ e : Nat, x = (e : Int) := ⟨x.toNat, by omega⟩
          obtain ⟨b2, o2, c3, e2, z2, y0⟩ := ls_atI ((HZ.out wr HI.out.bl).ls hx) hx
          simp only [Value.slice.injEq] at e2
          obtain ⟨rfl, -, rfl⟩ := e2
          obtain ⟨m, hm⟩ : ∃ m : Nat, m = cntL (ls.take i) (e : Int) + (l.take k).count (e : Int) := ⟨_, rfl⟩
          have hc := (HI.out.cell (k := e) (by omega)).1
          rw [← hm] at hc
          have lg := (HI.out.cell (k := e) (by omega)).2
          have fg := own_frK HI.out.row
          have hm9 : m ≤ 2000000 := by
            have h1 := HCB.out i (e : Int)
            have h2 : (l.take k).count (e : Int) ≤ (l.take k).length := List.count_le_length
            rw [List.length_take] at h2
            omega
          have FIN : Hid (Wt w n g (fun y => (cntL (ls.take i) (y : Int) + (l.take (k + 1)).count (y : Int) : Nat)) (wr.setCell ⟨g, e, none⟩ (.int .i64 ((m : Int) + 1)))) := by
            refine (HI.out.set e ((m : Int) + 1)).1.re (fun y _ => ?_)
            rw [count_snoc hx]
            unfold upd
            by_cases hy : y = e
            · subst hy
              rw [if_pos rfl, if_pos rfl, hm]
              omega
            · rw [if_neg hy, if_neg (by omega)]
              simp
          have he0 : (0 : Int) ≤ (e : Int) := by omega
          have hen : (e : Int) < (n : Int) := hxb.2
          clear hx hm
          go_wp2_with fail
          go_roundw
          case rel => exact ⟨k + 1, by omega, by go_num, FIN.out⟩
          case measure => simp [RowKit.intOf]; omega
        · have hlkz : ¬ (k : Int) < (l.length : Int) := by omega
          have FIN : Hid (Wt w n g (fun y => (cntL (ls.take (i + 1)) (y : Int) : Nat)) wr) := HI.out.re (fun y _ => by have h : l.take k = l := List.take_of_length_le (by omega); rw [cntL_snoc HL.out.1, h])
          go_wp2_with fail
          go_roundw
          case rel => exact ⟨i + 1, by omega, by go_num, FIN.out⟩
          case measure => simp [RowKit.intOf]; omega
    · have hltz : ¬ (i : Int) < (n : Int) := by omega
      have A1 : Hid (Wt w n g (fun k => (cntL ls (k : Int) : Nat)) wr) := HI.out.re (fun y _ => by have h : ls.take i = ls := List.take_of_length_le (by have := HN.out; omega); rw [h])
      have C1 : Hid (∀ y : Int, cntL ls y ≤ 1000000) := fun y => by have h := HCB.out n y; rw [HN.out, List.take_length] at h; exact h
      clear HI
      go_wp2_with fail
      go_loopw [9, 38] (fun s9 s38 wr => ∃ (t : Nat) (vo : Value), t ≤ n ∧ s38 = .int .i64 (t : Nat) ∧ vo = s9 ∧ Hid (Os w n g ls t vo wr)) (fun _ s38 _ => n - (RowKit.intOf s38).toNat)
      case atStart => exact ⟨0, _, Nat.zero_le _, rfl, rfl, [], _, rfl, A1.out, World.ownsRow_nil _ _ _ _, (fun k e => by cases e), rfl, fun k => by have := C1.out (k : Int); omega⟩
      case round =>
        clear A1
        obtain ⟨t, vo, ht, rfl, rfl, HI⟩ := hrel
        by_cases hlt2 : t < n
        · have hltz2 : (t : Int) < (n : Int) := by omega
          obtain ⟨o, f, ho, hw, hro, hne, hol, hfb⟩ := HI.out
          have hr : wr.ownsRow w.heap.size 3 1 (.slice (some ⟨g, 0, none⟩) n n) (fnL n f).length (fl EI (fnL n f)) := owns_re hw.row (fnL_len n f).symm rfl
          have hidx := indexI_any 0 wr (owns_lz (E := EI) hr) (by rw [fnL_len]; omega)
          have HO := hid ho
          have HW := hid hw
          have HR : Hid (wr.ownsRow w.heap.size 3 1 vo o.length (fl EI o) ∧ (∀ k, vo.ownBlock = some k → k ≠ g) ∧ o.length = t ∧ ∀ k, -1000000 - 1001 * (t : Int) ≤ f k ∧ f k ≤ 1000000) := ⟨hro, hne, hol, hfb⟩
          clear ho hw hro hne hol hfb hr
          go_wp2_with fail
          refine hidx.mono ?_
          rintro r w2 ⟨hw2, hr2⟩
          subst hw2
          rcases hr2 with ⟨q, rfl, hq1, hq2⟩ | ⟨rfl, hq1⟩
          · have hqn : q < n := by have h := (List.getElem?_eq_some_iff.1 hq1).1; rw [fnL_len] at h; exact h
            have hfq : f q = 0 := by rw [fnL_get f hqn] at hq1; exact Option.some.inj hq1
            have HZN : Hid (zeroN n f = some q) := by
              show _ = _
              unfold zeroN
              rw [List.find?_range_eq_some]
              refine ⟨by simp [hfq], by simpa using hqn, fun j hj => ?_⟩
              have h := hq2 j hj
              rw [fnL_get f (by omega)] at h
              simp only [ne_eq, Option.some.injEq] at h
              simpa using h
            have HOT := hid HR.out.2.2.1
            have hq0 : (0 : Int) ≤ (q : Int) := by omega
            have hqz : (q : Int) < (n : Int) := by omega
            obtain ⟨l, hl⟩ : ∃ l, ls[q]? = some l := ⟨ls[q]'(by have := HN.out; omega), by simp⟩
            have HL : Hid (ls[q]? = some l ∧ l.length ≤ 1000 ∧ ∀ x ∈ l, 0 ≤ x ∧ x < (n : Int)) := ⟨hl, (HX.out l (List.mem_of_getElem? hl)).1, by have h := (HX.out l (List.mem_of_getElem? hl)).2; rw [← HN.out] at h; exact h⟩
            have hll := HL.out.2.1
            clear hidx hq1 hq2 HI
            go_wp2_with (at_builtin; refine wpApp1 EI Tryz.underlying33 infoIK rfl (by decide) rfl _ _ rfl w.heap.size _ o.length _ rfl HR.out.1 (q : Int) rfl (by have := HOT.out; omega) (by have := HOT.out; unfold maxLen; omega) HW.out.bl.size _ rfl _ ?_)
            intro g9 c9 w9 r1 r2 r3
            have S9 : Hid (Wt w n g f w9 ∧ w9.ownsRow w.heap.size 3 1 (.slice (some ⟨g9, 0, none⟩) (o.length + 1) c9) (o ++ [(q : Int)]).length (fl EI (o ++ [(q : Int)])) ∧ g9 ≠ g) := by
              have k2 := Kp.grownBy (S := fun j => vo.ownBlock = some j) r2 (fun _ h => h)
              refine ⟨⟨HW.out.bl.trans (k2.below HW.out.bl.size (fun j e => (owns_rd HR.out.1 j e).1)), owns_kp k2 HW.out.row (fun j e e2 => HR.out.2.1 j e2 (by simpa [Value.ownBlock] using e.symm))⟩, owns_re r1 (by simp) (by rw [fl_append, fl_one]), fun e => ?_⟩
              rcases r3 with h | h
              · exact HR.out.2.1 g9 h e
              · have := (owns_rd HW.out.row g rfl).2
                omega
            clear r1 r2 r3
            have hc := (S9.out.1.cell hqn).1
            have lg := (S9.out.1.cell hqn).2
            have fg := own_frK S9.out.1.row
            obtain ⟨w10, hw10⟩ : ∃ W, W = w9.setCell ⟨g, q, none⟩ (.int .i64 (-1)) := ⟨_, rfl⟩
            have S10 : Hid (Wt w n g (fun y => (if y = q then -1 else f y) - ((l.take 0).count (y : Int) : Nat)) w10 ∧ w10.ownsRow w.heap.size 3 1 (.slice (some ⟨g9, 0, none⟩) (o.length + 1) c9) (o ++ [(q : Int)]).length (fl EI (o ++ [(q : Int)]))) := by
              obtain ⟨h1, h2⟩ := S9.out.1.set q (-1)
              rw [hw10]
              exact ⟨h1.re (fun y _ => by simp [upd]), owns_kp h2 S9.out.2.1 (fun j e e2 => S9.out.2.2 (by simp [Value.ownBlock] at e; omega))⟩
            have HW10 : Hid (w9.setCell ⟨g, q, none⟩ (.int .i64 (-1)) = w10) := hw10.symm
            clear hw10
            generalize o.length + 1 = ol at S10 S9 ⊢
            go_upto_region 19 with fail
            rw [HW10.out]
            clear HW10 hc lg fg
            obtain ⟨b, off, c1, q1, c2, e1, z0, x0, hz⟩ := HF.out.at hl
            have x1 := (S10.out.1.bl.cell (p := ⟨b, off + q, none⟩) z0).trans x0
            have z1 := Nat.lt_of_lt_of_le z0 S10.out.1.bl.size
            simp only [Value.slice.injEq] at e1
            obtain ⟨rfl, -, rfl⟩ := e1
            have HZ := hid (fun (W : World) (hb : Below w.heap.size w W) => hz.below hb)
            clear hz hl z0 x0
            go_wp2_with fail
            clear x1 z1
            go_loopw [56] (fun s56 wr => ∃ k : Nat, k ≤ l.length ∧ s56 = .int .i64 (k : Nat) ∧ Hid (Wt w n g (fun y => (if y = q then -1 else f y) - ((l.take k).count (y : Int) : Nat)) wr ∧ wr.ownsRow w.heap.size 3 1 (.slice (some ⟨g9, 0, none⟩) ol c9) (o ++ [(q : Int)]).length (fl EI (o ++ [(q : Int)])))) (fun s56 _ => l.length - (RowKit.intOf s56).toNat)
            case atStart => exact ⟨0, Nat.zero_le _, rfl, S10.out⟩
            case round =>
              clear S10
              obtain ⟨k, hk, rfl, HI⟩ := hrel
              by_cases hlk : k < l.length
              · have hlkz : (k : Int) < (l.length : Int) := by omega
                have hk0 : (0 : Int) ≤ (k : Int) := by omega
                obtain ⟨x, hx⟩ : ∃ x, l[k]? = some x := ⟨l[k], by simp⟩
                have hxb := HL.out.2.2 x (List.mem_of_getElem? hx)
                obtain ⟨e, rfl⟩ : ∃ e : Nat, x = (e : Int) := ⟨x.toNat, by omega⟩
                obtain ⟨b2, o2, c3, e2, z2, y0⟩ := ls_atI ((HZ.out wr HI.out.1.bl).ls hx) hx
                simp only [Value.slice.injEq] at e2
                obtain ⟨rfl, -, rfl⟩ := e2
                obtain ⟨m, hm⟩ : ∃ m : Int, m = (if e = q then -1 else f e) - ((l.take k).count (e : Int) : Nat) := ⟨_, rfl⟩
                have hc := (HI.out.1.cell (k := e) (by omega)).1
                rw [← hm] at hc
                have lg := (HI.out.1.cell (k := e) (by omega)).2
                have fg := own_frK HI.out.1.row
                have hm9 : -4000000 ≤ m ∧ m ≤ 2000000 := by
                  have h1 := HR.out.2.2.2 e
                  have h2 : (l.take k).count (e : Int) ≤ (l.take k).length := List.count_le_length
                  rw [List.length_take] at h2
                  rw [hm]
                  split <;> omega
                have FIN : Hid (Wt w n g (fun y => (if y = q then -1 else f y) - ((l.take (k + 1)).count (y : Int) : Nat)) (wr.setCell ⟨g, e, none⟩ (.int .i64 (m - 1))) ∧ (wr.setCell ⟨g, e, none⟩ (.int .i64 (m - 1))).ownsRow w.heap.size 3 1 (.slice (some ⟨g9, 0, none⟩) ol c9) (o ++ [(q : Int)]).length (fl EI (o ++ [(q : Int)]))) := by
                  obtain ⟨h1, h2⟩ := HI.out.1.set e (m - 1)
                  refine ⟨h1.re (fun y _ => ?_), owns_kp h2 HI.out.2 (fun j e e2 => S9.out.2.2 (by simp [Value.ownBlock] at e; omega))⟩
                  rw [count_snoc hx]
                  unfold upd
                  by_cases hy : y = e
                  · subst hy
                    rw [if_pos rfl, if_pos rfl, hm]
                    omega
                  · rw [if_neg hy, if_neg (show ¬ ((e : Nat) : Int) = (y : Int) by omega)]
                    simp
                have he0 : (0 : Int) ≤ (e : Int) := by omega
                have hen : (e : Int) < (n : Int) := hxb.2
                obtain ⟨hm1, hm2⟩ := hm9
                clear hx hm
                go_wp2_with fail
                go_roundw
                case rel => exact ⟨k + 1, by omega, by go_num, FIN.out⟩
                case measure => simp [RowKit.intOf]; omega
              · have hlkz : ¬ (k : Int) < (l.length : Int) := by omega
                have FIN : Hid (Os w n g ls (t + 1) (.slice (some ⟨g9, 0, none⟩) ol c9) wr) := by
                  have h : l.take k = l := List.take_of_length_le (by omega)
                  refine ⟨o ++ [(q : Int)], stepN ls f q, ?_, HI.out.1.re (fun y _ => by unfold stepN; rw [HL.out.1, h]; rfl), HI.out.2, fun j e e2 => S9.out.2.2 (by simp [Value.ownBlock] at e; omega), by rw [List.length_append, HOT.out]; rfl, fun y => ?_⟩
                  · rw [ordN, HO.out]
                    simp only [HZN.out]
                  · have h1 := HR.out.2.2.2 y
                    have h2 : l.count (y : Int) ≤ l.length := List.count_le_length
                    unfold stepN
                    rw [HL.out.1, Option.getD_some]
                    split <;> omega
                go_wp2_with fail
                go_roundw
                case rel => exact ⟨t + 1, _, by omega, by go_num, rfl, FIN.out⟩
                case measure => simp [RowKit.intOf]; omega
          · have HNO : Hid (ordN n ls n = none) := by
              refine ordN_none (t := t + 1) (by omega) ?_
              rw [ordN, HO.out]
              have h : zeroN n f = none := List.find?_eq_none.2 (fun k hk h => hq1 (by
                have h1 := fnL_get f (List.mem_range.1 hk)
                have h2 : f k = 0 := by simpa using h
                rw [h2] at h1
                exact List.mem_of_getElem? h1))
              simp only [h]
            go_wp2_with fail
            refine bodyPost_ret (v := .tuple #[.slice none 0 0, .int .i64 27]) (by simp [results, Tryz.results28, go_sem]) rfl ?_
            exact ⟨HW.out.bl, Or.inl ⟨HNO.out, rfl⟩⟩
        · have hltz2 : ¬ (t : Int) < (n : Int) := by omega
          obtain rfl : t = n := by omega
          obtain ⟨o, f, ho, hw, hro, hne, hol, hfb⟩ := HI.out
          have FIN : Hid (Od w t ls (.returned (.tuple #[vo, .int .i64 0])) wr) := ⟨hw.bl, Or.inr ⟨o, f, vo, ho, rfl, hro⟩⟩
          obtain ⟨qo, mo, co, hvo⟩ := owns_form hro
          subst hvo
          clear ho hw hro hne hol hfb
          go_wp2_with fail
          refine bodyPost_ret (v := .tuple #[.slice qo mo co, .int .i64 0]) (by simp [results, Tryz.results28, go_sem]) rfl ?_
          exact FIN.out
end Go.Proofs.YtpgodnaebkmhhaaGreat.Df

namespace Go.Proofs.YtpgodnaebkmhhaaGreat.Df
open Go.RowKit Go.Sort

/-- A step leads from one place to another. -/
def Sp (ls : List (List Int)) (p q : Nat) : Prop := ∃ l, ls[p]? = some l ∧ ((q : Nat) : Int) ∈ l
/-- Places one behind the other, and then one more. -/
def Wp (ls : List (List Int)) : List Nat → Nat → Prop
  | [], _ => True
  | [v], q => Sp ls v q
  | v :: u :: vs, q => Sp ls v u ∧ Wp ls (u :: vs) q
theorem Wp.cons {ls : List (List Int)} {v u : Nat} {vs : List Nat} {q : Nat} (h1 : Sp ls v u) (h2 : Wp ls vs q) (h3 : vs.head? = some u) : Wp ls (v :: vs) q := by
  cases vs with
  | nil => cases h3
  | cons a vs =>
    simp only [List.head?_cons, Option.some.injEq] at h3
    subst h3
    exact ⟨h1, h2⟩
theorem Wp.tail {ls : List (List Int)} {v : Nat} {vs : List Nat} {q : Nat} (h : Wp ls (v :: vs) q) : Wp ls vs q := by
  cases vs with
  | nil => trivial
  | cons a vs => exact h.2
theorem Wp.back {ls : List (List Int)} {a b : List Nat} {q : Nat} (h : Wp ls (a ++ b) q) : Wp ls b q := by
  induction a with
  | nil => exact h
  | cons x a ih => exact ih h.tail
theorem Wp.next {ls : List (List Int)} {v : Nat} {vs : List Nat} {q : Nat} (h : Wp ls (v :: vs) q) : ∃ u, Sp ls v u ∧ ((vs = [] ∧ u = q) ∨ (vs.head? = some u ∧ Wp ls vs q)) := by
  cases vs with
  | nil => exact ⟨q, h, Or.inl ⟨rfl, rfl⟩⟩
  | cons a vs => exact ⟨a, h.1, Or.inr ⟨rfl, h.2⟩⟩
/-- Every way has one beside it on which no place stands twice. -/
theorem Wp.slim {ls : List (List Int)} {q : Nat} (l : List Nat) (h : Wp ls l q) : ∃ m : List Nat, Wp ls m q ∧ m.head? = l.head? ∧ m.Nodup ∧ ∀ x ∈ m, x ∈ l := by
  induction l with
  | nil => exact ⟨[], trivial, rfl, List.nodup_nil, fun _ h => h⟩
  | cons v l ih =>
    obtain ⟨m, h1, h2, h3, h4⟩ := ih h.tail
    by_cases hv : v ∈ m
    · obtain ⟨a, b, hab⟩ := List.append_of_mem hv
      refine ⟨v :: b, ?_, rfl, ?_, fun x hx => ?_⟩
      · rw [hab] at h1
        exact h1.back
      · rw [hab] at h3
        exact (List.nodup_append.1 h3).2.1
      · rcases List.mem_cons.1 hx with rfl | hx
        · simp
        · exact List.mem_cons_of_mem _ (h4 x (by rw [hab]; simp [hx]))
    · cases l with
      | nil =>
        refine ⟨[v], h, rfl, by simp, fun x hx => hx⟩
      | cons u l =>
        refine ⟨v :: m, Wp.cons h.1 h1 (by rw [h2]; rfl), rfl, List.nodup_cons.2 ⟨hv, h3⟩, fun x hx => ?_⟩
        rcases List.mem_cons.1 hx with rfl | hx
        · simp
        · exact List.mem_cons_of_mem _ (h4 x hx)
theorem nodup_le {n : Nat} : ∀ (l : List Nat), l.Nodup → (∀ x ∈ l, x < n) → l.length ≤ n := by
  induction n with
  | zero =>
    intro l _ h
    cases l with
    | nil => simp
    | cons x l => exact absurd (h x (by simp)) (Nat.not_lt_zero _)
  | succ n ih =>
    intro l hd h
    have h1 := ih (l.erase n) (hd.erase n) (fun x hx => by
      have h2 := List.mem_of_mem_erase hx
      have h3 := h x h2
      by_cases e : x = n
      · subst e
        exact absurd hx (hd.not_mem_erase)
      · omega)
    have h2 := List.length_erase (a := n) (l := l)
    split at h2 <;> omega
theorem Sp.lt {ls : List (List Int)} {p q : Nat} (h : Sp ls p q) : p < ls.length := by
  obtain ⟨l, hl, _⟩ := h
  exact (List.getElem?_eq_some_iff.1 hl).1
theorem Wp.lt {ls : List (List Int)} {q : Nat} (l : List Nat) (h : Wp ls l q) : ∀ x ∈ l, x < ls.length := by
  induction l with
  | nil => intro x hx; cases hx
  | cons v l ih =>
    intro x hx
    rcases List.mem_cons.1 hx with rfl | hx
    · obtain ⟨u, hu, _⟩ := h.next
      exact hu.lt
    · exact ih h.tail x hx
/-- There is a way of at most so many steps. -/
def Ry (ls : List (List Int)) (q m p : Nat) : Prop := ∃ l : List Nat, l.head? = some p ∧ Wp ls l q ∧ l.length ≤ m
theorem Ry.mono {ls : List (List Int)} {q m m' p : Nat} (h : Ry ls q m p) (hm : m ≤ m') : Ry ls q m' p := by
  obtain ⟨l, h1, h2, h3⟩ := h
  exact ⟨l, h1, h2, Nat.le_trans h3 hm⟩
theorem Ry.zero {ls : List (List Int)} {q p : Nat} (h : Ry ls q 0 p) : False := by
  obtain ⟨l, h1, h2, h3⟩ := h
  cases l with
  | nil => cases h1
  | cons => simp at h3
theorem Ry.most {ls : List (List Int)} {q m p : Nat} (h : Ry ls q m p) : Ry ls q ls.length p := by
  obtain ⟨l, h1, h2, h3⟩ := h
  obtain ⟨l2, g1, g2, g3, _⟩ := Wp.slim l h2
  exact ⟨l2, by rw [g2, h1], g1, nodup_le l2 g3 (Wp.lt l2 g1)⟩
theorem Ry.next {ls : List (List Int)} {q m p : Nat} (h : Ry ls q (m + 1) p) : ∃ u, Sp ls p u ∧ (u = q ∨ Ry ls q m u) := by
  obtain ⟨l, h1, h2, h3⟩ := h
  cases l with
  | nil => cases h1
  | cons v l =>
    simp only [List.head?_cons, Option.some.injEq] at h1
    subst h1
    obtain ⟨u, hu, h4⟩ := h2.next
    refine ⟨u, hu, ?_⟩
    rcases h4 with ⟨_, e⟩ | ⟨e, h5⟩
    · exact Or.inl e
    · exact Or.inr ⟨l, e, h5, by simpa using h3⟩
/-- How the next ones are tried, one behind the other. -/
def loopN (d : Nat → (Nat → Int) → Option (List Nat) × (Nat → Int)) (q : Nat) : List Int → (Nat → Int) → Option (List Nat) × (Nat → Int)
  | [], f => (none, f)
  | x :: xs, f => if x = (q : Int) then (some [], f) else match d x.toNat f with
    | (some l, f') => (some l, f')
    | (none, f') => loopN d q xs f'
/-- The way down from a place with at most so many steps, and what was in vain. -/
def downN (ls : List (List Int)) (q : Nat) : Nat → Nat → (Nat → Int) → Option (List Nat) × (Nat → Int)
  | 0, _, f => (none, f)
  | m + 1, p, f => if (m : Int) + 1 ≤ f p then (none, f) else match loopN (downN ls q m) q ((ls[p]?).getD []) f with
    | (some l, f') => (some (p :: l), f')
    | (none, f') => (none, upd f' p ((m : Int) + 1))
/-- What is in vain is so. -/
def Vn (ls : List (List Int)) (q : Nat) (f : Nat → Int) : Prop := ∀ p, 0 ≤ f p ∧ ¬ Ry ls q (f p).toNat p
/-- What down answers is right. -/
def Dw (ls : List (List Int)) (q m p : Nat) (r : Option (List Nat) × (Nat → Int)) : Prop := Vn ls q r.2 ∧ match r.1 with
  | none => ¬ Ry ls q m p
  | some l => l.head? = some p ∧ Wp ls l q ∧ l.length ≤ m
theorem loopN_ok {ls : List (List Int)} {q m : Nat} {d : Nat → (Nat → Int) → Option (List Nat) × (Nat → Int)} (hd : ∀ p f, Vn ls q f → Dw ls q m p (d p f)) : ∀ (xs : List Int) (f : Nat → Int), (∀ x ∈ xs, 0 ≤ x) → Vn ls q f → Vn ls q (loopN d q xs f).2 ∧ match (loopN d q xs f).1 with
    | none => ∀ x ∈ xs, x ≠ (q : Int) ∧ ¬ Ry ls q m x.toNat
    | some l => ∃ x ∈ xs, (l = [] ∧ x = (q : Int)) ∨ (l.head? = some x.toNat ∧ Wp ls l q ∧ l.length ≤ m) := by
  intro xs
  induction xs with
  | nil =>
    intro f _ hf
    exact ⟨hf, fun x hx => by cases hx⟩
  | cons x xs ih =>
    intro f h0 hf
    unfold loopN
    by_cases hx : x = (q : Int)
    · rw [if_pos hx]
      exact ⟨hf, x, by simp, Or.inl ⟨rfl, hx⟩⟩
    · rw [if_neg hx]
      have h1 := hd x.toNat f hf
      cases e : d x.toNat f with
      | mk a f' =>
        rw [e] at h1
        cases a with
        | some l => exact ⟨h1.1, x, by simp, Or.inr h1.2⟩
        | none =>
          have h2 := ih f' (fun y hy => h0 y (by simp [hy])) h1.1
          refine ⟨h2.1, ?_⟩
          have h3 := h2.2
          revert h3
          cases (loopN d q xs f').1 with
          | none =>
            intro h3 y hy
            rcases List.mem_cons.1 hy with rfl | hy
            · exact ⟨hx, h1.2⟩
            · exact h3 y hy
          | some l =>
            rintro ⟨y, hy, h4⟩
            exact ⟨y, by simp [hy], h4⟩
theorem downN_ok {ls : List (List Int)} {q : Nat} (h0 : ∀ l ∈ ls, ∀ x ∈ l, (0 : Int) ≤ x) : ∀ (m p : Nat) (f : Nat → Int), Vn ls q f → Dw ls q m p (downN ls q m p f) := by
  intro m
  induction m with
  | zero =>
    intro p f hf
    exact ⟨hf, Ry.zero⟩
  | succ m ih =>
    intro p f hf
    unfold downN
    by_cases hm : (m : Int) + 1 ≤ f p
    · rw [if_pos hm]
      exact ⟨hf, fun h => (hf p).2 (h.mono (by omega))⟩
    · rw [if_neg hm]
      have hx : ∀ x ∈ (ls[p]?).getD [], (0 : Int) ≤ x := by
        cases e : ls[p]? with
        | none => simp
        | some l => simpa using h0 l (List.mem_of_getElem? e)
      have h1 := loopN_ok ih ((ls[p]?).getD []) f hx hf
      cases e : loopN (downN ls q m) q ((ls[p]?).getD []) f with
      | mk a f' =>
        rw [e] at h1
        cases a with
        | some l =>
          obtain ⟨h2, x, hxm, h3⟩ := h1
          refine ⟨h2, rfl, ?_, ?_⟩
          · have hs : Sp ls p x.toNat := by
              cases e2 : ls[p]? with
              | none => rw [e2] at hxm; simp at hxm
              | some l2 =>
                rw [e2] at hxm
                simp only [Option.getD_some] at hxm
                exact ⟨l2, e2, by rw [Int.toNat_of_nonneg (h0 l2 (List.mem_of_getElem? e2) x hxm)]; exact hxm⟩
            rcases h3 with ⟨rfl, rfl⟩ | ⟨h4, h5, _⟩
            · exact hs
            · exact Wp.cons hs h5 h4
          · rcases h3 with ⟨rfl, rfl⟩ | ⟨_, _, h6⟩
            · simp
            · simpa using h6
        | none =>
          have hn : ¬ Ry ls q (m + 1) p := fun h => by
            obtain ⟨u, ⟨l2, e2, hu⟩, h3⟩ := h.next
            have h4 := h1.2 (u : Int) (by rw [e2]; exact hu)
            rcases h3 with rfl | h3
            · exact h4.1 rfl
            · exact h4.2 (by simpa using h3)
          refine ⟨fun k => ?_, hn⟩
          unfold upd
          by_cases hk : k = p
          · subst hk
            simp only [if_true]
            exact ⟨by omega, by rw [show ((m : Int) + 1).toNat = m + 1 by omega]; exact hn⟩
          · simp only [if_neg hk]
            exact h1.1 k
/-- A first place, tried with one step more each time. -/
def mostN (ls : List (List Int)) (q : Nat) : Nat → (Nat → Int) × Option (List Nat)
  | 0 => (fun _ => 0, none)
  | m + 1 => match mostN ls q m with
    | (f, some l) => (f, some l)
    | (f, none) => ((downN ls q (m + 1) q f).2, (downN ls q (m + 1) q f).1)
/-- The first cycle that is found among so many first places. -/
def findN (ls : List (List Int)) : Nat → Option (List Nat)
  | 0 => none
  | q + 1 => match findN ls q with
    | some l => some l
    | none => (mostN ls q ls.length).2
theorem mostN_ok {ls : List (List Int)} {q : Nat} (h0 : ∀ l ∈ ls, ∀ x ∈ l, (0 : Int) ≤ x) (m : Nat) : Vn ls q (mostN ls q m).1 ∧ match (mostN ls q m).2 with
    | none => ¬ Ry ls q m q
    | some l => l.head? = some q ∧ Wp ls l q ∧ l.length ≤ m ∧ ¬ Ry ls q (l.length - 1) q := by
  induction m with
  | zero => exact ⟨fun p => ⟨Int.le_refl _, Ry.zero⟩, Ry.zero⟩
  | succ m ih =>
    unfold mostN
    cases e : mostN ls q m with
    | mk f a =>
      rw [e] at ih
      cases a with
      | some l => exact ⟨ih.1, ih.2.1, ih.2.2.1, Nat.le_succ_of_le ih.2.2.2.1, ih.2.2.2.2⟩
      | none =>
        have h1 := downN_ok h0 (m + 1) q f ih.1
        dsimp only
        cases e2 : downN ls q (m + 1) q f with
        | mk b f' =>
          rw [e2] at h1
          refine ⟨h1.1, ?_⟩
          cases b with
          | none => exact h1.2
          | some l => exact ⟨h1.2.1, h1.2.2.1, h1.2.2.2, fun h => ih.2 (h.mono (by have := h1.2.2.2; omega))⟩
/-- What is found is a cycle of the lowest place that has one; nothing is found if there is none. -/
theorem findN_ok {ls : List (List Int)} (h0 : ∀ l ∈ ls, ∀ x ∈ l, (0 : Int) ≤ x) (t : Nat) : match findN ls t with
    | none => ∀ q, q < t → ∀ m, ¬ Ry ls q m q
    | some l => ∃ q, q < t ∧ l.head? = some q ∧ Wp ls l q ∧ l.length ≤ ls.length ∧ (∀ q', q' < q → ∀ m, ¬ Ry ls q' m q') ∧ ¬ Ry ls q (l.length - 1) q := by
  induction t with
  | zero => intro q hq; exact absurd hq (Nat.not_lt_zero _)
  | succ t ih =>
    unfold findN
    cases e : findN ls t with
    | some l =>
      rw [e] at ih
      obtain ⟨q, hq, h⟩ := ih
      exact ⟨q, by omega, h⟩
    | none =>
      rw [e] at ih
      have h1 := (mostN_ok (ls := ls) (q := t) h0 ls.length).2
      cases e2 : (mostN ls t ls.length).2 with
      | none =>
        rw [e2] at h1
        intro q hq m hm
        by_cases eq : q = t
        · subst eq
          exact h1 hm.most
        · exact ih q (by omega) m hm
      | some l =>
        rw [e2] at h1
        exact ⟨t, by omega, h1.1, h1.2.1, h1.2.2.1, ih, h1.2.2.2⟩
end Go.Proofs.YtpgodnaebkmhhaaGreat.Df

namespace Go.Proofs.YtpgodnaebkmhhaaGreat.Df
open Go.RowKit Go.Sort

theorem sub_le {α : Type} [BEq α] [LawfulBEq α] : ∀ (l m : List α), l.Nodup → (∀ x ∈ l, x ∈ m) → l.length ≤ m.length := by
  intro l
  induction l with
  | nil => intro m _ _; simp
  | cons x l ih =>
    intro m hd hs
    have hx := hs x (by simp)
    have h1 := ih (m.erase x) (List.nodup_cons.1 hd).2 (fun y hy => by
      have hne : y ≠ x := fun e => (List.nodup_cons.1 hd).1 (e ▸ hy)
      exact (List.mem_erase_of_ne hne).2 (hs y (by simp [hy])))
    have h2 := (List.perm_cons_erase hx).length_eq
    simp only [List.length_cons] at h2 ⊢
    omega
theorem all_in {n : Nat} {us : List Nat} (hd : us.Nodup) (hb : ∀ x ∈ us, x < n) (hl : us.length = n) : ∀ k, k < n → k ∈ us := fun k hk => by
  by_cases h : k ∈ us
  · exact h
  · have h1 := sub_le (k :: us) (List.range n) (List.nodup_cons.2 ⟨h, hd⟩) (fun x hx => by
      rcases List.mem_cons.1 hx with rfl | hx
      · exact List.mem_range.2 hk
      · exact List.mem_range.2 (hb x hx))
    simp at h1
    omega
theorem sum_split (C : Nat → Nat) {l : List Nat} {x : Nat} (h : x ∈ l) : (l.map C).sum = C x + ((l.erase x).map C).sum := by
  have h1 := ((List.perm_cons_erase h).map C).sum_nat
  simpa using h1
theorem sum_le (C : Nat → Nat) : ∀ (us m : List Nat), us.Nodup → (∀ x ∈ us, x ∈ m) → (us.map C).sum ≤ (m.map C).sum := by
  intro us
  induction us with
  | nil => intro m _ _; simp
  | cons x us ih =>
    intro m hd hs
    have h1 := ih (m.erase x) (List.nodup_cons.1 hd).2 (fun y hy => by
      have hne : y ≠ x := fun e => (List.nodup_cons.1 hd).1 (e ▸ hy)
      exact (List.mem_erase_of_ne hne).2 (hs y (by simp [hy])))
    rw [sum_split C (hs x (by simp)), List.map_cons, List.sum_cons]
    omega
theorem sum_ge (C : Nat → Nat) : ∀ (m us : List Nat), m.Nodup → (∀ x ∈ m, C x ≠ 0 → x ∈ us) → (m.map C).sum ≤ (us.map C).sum := by
  intro m
  induction m with
  | nil => intro us _ _; simp
  | cons x m ih =>
    intro us hd hs
    by_cases hc : C x = 0
    · rw [List.map_cons, List.sum_cons, hc]
      have := ih us (List.nodup_cons.1 hd).2 (fun y hy => hs y (by simp [hy]))
      omega
    · have hx := hs x (by simp) hc
      have h1 := ih (us.erase x) (List.nodup_cons.1 hd).2 (fun y hy hy2 => by
        have hne : y ≠ x := fun e => (List.nodup_cons.1 hd).1 (e ▸ hy)
        exact (List.mem_erase_of_ne hne).2 (hs y (by simp [hy]) hy2))
      rw [sum_split C hx, List.map_cons, List.sum_cons]
      omega
/-- How many steps lead from a place to another. -/
def cAt (ls : List (List Int)) (k p : Nat) : Nat := ((ls[p]?).getD []).count (k : Int)
theorem cAt_pos {ls : List (List Int)} {k p : Nat} : cAt ls k p ≠ 0 ↔ Sp ls p k := by
  unfold cAt Sp
  cases ls[p]? with
  | none => simp
  | some l => simp [List.count_eq_zero]
theorem cntL_range (ls : List (List Int)) (k : Nat) : cntL ls (k : Int) = ((List.range ls.length).map (cAt ls k)).sum := by
  unfold cntL
  congr 1
  refine List.ext_getElem (by simp) fun i h1 h2 => ?_
  simp [cAt, List.getElem?_eq_getElem (show i < ls.length by simpa using h1)]
/-- What stands while the places are listed. -/
structure Oi (ls : List (List Int)) (us : List Nat) (f : Nat → Int) : Prop where
  nd : us.Nodup
  bd : ∀ x ∈ us, x < ls.length
  lo : ∀ k ∈ us, f k ≤ -1
  hi : ∀ k, k ∉ us → f k = (cntL ls (k : Int) : Int) - ((us.map (cAt ls k)).sum : Nat)
  bef : ∀ j q, us[j]? = some q → ∀ p, Sp ls p q → p ∈ us.take j
abbrev ints (us : List Nat) : List Int := us.map fun (u : Nat) => (u : Int)
theorem Oi.step {ls : List (List Int)} {us : List Nat} {f : Nat → Int} {p : Nat} (h : Oi ls us f) (hz : zeroN ls.length f = some p) : Oi ls (us ++ [p]) (stepN ls f p) := by
  unfold zeroN at hz
  rw [List.find?_range_eq_some] at hz
  obtain ⟨h1, h2, _⟩ := hz
  have hf : f p = 0 := by simpa using h1
  have hn : p < ls.length := by simpa using h2
  have hp : p ∉ us := fun e => by have := h.lo p e; omega
  have hpre : ∀ r, Sp ls r p → r ∈ us := fun r hr => by
    by_cases e : r ∈ us
    · exact e
    · have h3 := sum_le (cAt ls p) (r :: us) (List.range ls.length) (List.nodup_cons.2 ⟨e, h.nd⟩) (fun x hx => by
        rcases List.mem_cons.1 hx with rfl | hx
        · exact List.mem_range.2 hr.lt
        · exact List.mem_range.2 (h.bd x hx))
      rw [← cntL_range, List.map_cons, List.sum_cons] at h3
      have h4 := h.hi p hp
      have h5 := cAt_pos.2 hr
      omega
  refine ⟨?_, ?_, ?_, ?_, ?_⟩
  · rw [List.nodup_append]
    exact ⟨h.nd, by simp, fun a ha b hb => by
      simp at hb
      subst hb
      exact fun e => hp (e ▸ ha)⟩
  · intro x hx
    rcases List.mem_append.1 hx with hx | hx
    · exact h.bd x hx
    · simp at hx
      omega
  · intro k hk
    unfold stepN
    rcases List.mem_append.1 hk with hk | hk
    · have := h.lo k hk
      split <;> omega
    · simp at hk
      rw [if_pos hk]
      omega
  · intro k hk
    have hk1 : k ∉ us := fun e => hk (by simp [e])
    have hk2 : ¬ k = p := fun e => hk (by simp [e])
    have := h.hi k hk1
    have e3 : stepN ls f p k = f k - (cAt ls k p : Nat) := by
      unfold stepN cAt
      rw [if_neg hk2]
    rw [e3, List.map_append, List.sum_append]
    simp only [List.map_cons, List.map_nil, List.sum_cons, List.sum_nil]
    omega
  · intro j q hj r hr
    by_cases hjl : j < us.length
    · rw [List.getElem?_append_left hjl] at hj
      have := h.bef j q hj r hr
      rw [List.take_append_of_le_length (by omega)]
      exact this
    · have hlt := (List.getElem?_eq_some_iff.1 hj).1
      simp at hlt
      obtain rfl : j = us.length := by omega
      simp at hj
      subst hj
      simpa using hpre r hr
/-- What an order is, and what there is if there is none. -/
theorem ordN_inv (ls : List (List Int)) (t : Nat) (ht : t ≤ ls.length) : match ordN ls.length ls t with
    | some (o, f) => ∃ us : List Nat, o = ints us ∧ us.length = t ∧ Oi ls us f
    | none => ∃ us : List Nat, us.Nodup ∧ (∀ x ∈ us, x < ls.length) ∧ us.length < ls.length ∧ ∀ k, k < ls.length → k ∉ us → ∃ p, p ∉ us ∧ Sp ls p k := by
  induction t with
  | zero => exact ⟨[], rfl, rfl, ⟨List.nodup_nil, (fun x hx => by cases hx), (fun k hk => by cases hk), (fun k _ => by simp), (fun j q hj => by simp at hj)⟩⟩
  | succ t ih =>
    have ih := ih (by omega)
    unfold ordN
    cases e : ordN ls.length ls t with
    | none =>
      rw [e] at ih
      exact ih
    | some x =>
      obtain ⟨o, f⟩ := x
      rw [e] at ih
      obtain ⟨us, h1, h2, h3⟩ := ih
      dsimp only
      cases e2 : zeroN ls.length f with
      | none =>
        refine ⟨us, h3.nd, h3.bd, by omega, fun k hk hku => ?_⟩
        have hf : f k ≠ 0 := fun e => by
          have := List.find?_eq_none.1 e2 k (List.mem_range.2 hk)
          simp [e] at this
        have h4 := h3.hi k hku
        apply Classical.byContradiction
        intro hno
        have h5 := sum_ge (cAt ls k) (List.range ls.length) us List.nodup_range (fun x _ hx => by
          by_cases e : x ∈ us
          · exact e
          · exact absurd ⟨x, e, cAt_pos.1 hx⟩ hno)
        have h6 := sum_le (cAt ls k) us (List.range ls.length) h3.nd (fun x hx => List.mem_range.2 (h3.bd x hx))
        rw [← cntL_range] at h5 h6
        omega
      | some p =>
        exact ⟨us ++ [p], by simp [h1, ints], by simp [h2], h3.step e2⟩
theorem Wp.front {ls : List (List Int)} {a b : List Nat} {v q : Nat} (h : Wp ls (a ++ v :: b) q) : Wp ls a v := by
  induction a with
  | nil => trivial
  | cons x a ih =>
    cases a with
    | nil => exact h.1
    | cons y a => exact ⟨h.1, ih h.2⟩
theorem Wp.ring {ls : List (List Int)} {q : Nat} (l : List Nat) (h : Wp ls l q) (hd : ¬ l.Nodup) : ∃ x m, Ry ls x m x := by
  induction l with
  | nil => exact absurd List.nodup_nil hd
  | cons v l ih =>
    by_cases hv : v ∈ l
    · obtain ⟨a, b, rfl⟩ := List.append_of_mem hv
      exact ⟨v, (v :: a).length, v :: a, rfl, Wp.front (a := v :: a) h, Nat.le_refl _⟩
    · exact ih h.tail (fun e => hd (List.nodup_cons.2 ⟨hv, e⟩))
theorem ord_none {ls : List (List Int)} (h : ordN ls.length ls ls.length = none) : ∃ x m, x < ls.length ∧ Ry ls x m x := by
  have h1 := ordN_inv ls ls.length (Nat.le_refl _)
  rw [h] at h1
  obtain ⟨us, hd, hb, hl, hp⟩ := h1
  obtain ⟨q, hq, hqu⟩ : ∃ q, q < ls.length ∧ q ∉ us := by
    apply Classical.byContradiction
    intro hno
    have := sub_le (List.range ls.length) us List.nodup_range (fun x hx => by
      by_cases e : x ∈ us
      · exact e
      · exact absurd ⟨x, List.mem_range.1 hx, e⟩ hno)
    simp at this
    omega
  have hway : ∀ t, ∃ l : List Nat, l.length = t + 1 ∧ Wp ls l q ∧ ∃ v, l.head? = some v ∧ v < ls.length ∧ v ∉ us := by
    intro t
    induction t with
    | zero =>
      obtain ⟨p, h1, h2⟩ := hp q hq hqu
      exact ⟨[p], rfl, h2, p, rfl, h2.lt, h1⟩
    | succ t ih =>
      obtain ⟨l, h1, h2, v, h3, h4, h5⟩ := ih
      obtain ⟨p, g1, g2⟩ := hp v h4 h5
      exact ⟨p :: l, by simp [h1], Wp.cons g2 h2 h3, p, rfl, g2.lt, g1⟩
  obtain ⟨l, h1, h2, _⟩ := hway ls.length
  obtain ⟨x, m, h3⟩ := Wp.ring l h2 (fun e => by have := nodup_le l e (Wp.lt l h2); omega)
  refine ⟨x, m, ?_, h3⟩
  obtain ⟨l2, g1, g2, _⟩ := h3
  cases l2 with
  | nil => cases g1
  | cons y l2 =>
    simp at g1
    subst g1
    exact Wp.lt _ g2 y (by simp)
/-- An order of all places. -/
structure Or (ls : List (List Int)) (us : List Nat) : Prop where
  nd : us.Nodup
  bd : ∀ x ∈ us, x < ls.length
  len : us.length = ls.length
  bef : ∀ (i j p q : Nat), us[i]? = some p → us[j]? = some q → Sp ls p q → i < j
theorem nodup_pos {us : List Nat} (h : us.Nodup) {i j x : Nat} (hi : us[i]? = some x) (hj : us[j]? = some x) : i = j := by
  obtain ⟨h1, h2⟩ := List.getElem?_eq_some_iff.1 hi
  obtain ⟨h3, h4⟩ := List.getElem?_eq_some_iff.1 hj
  have hp := List.pairwise_iff_getElem.1 h
  by_cases e1 : i < j
  · exact absurd (h2.trans h4.symm) (hp i j h1 h3 e1)
  · by_cases e2 : j < i
    · exact absurd (h4.trans h2.symm) (hp j i h3 h1 e2)
    · omega
theorem ord_some {ls : List (List Int)} {o : List Int} {f : Nat → Int} (h : ordN ls.length ls ls.length = some (o, f)) : ∃ us, o = ints us ∧ Or ls us := by
  have h1 := ordN_inv ls ls.length (Nat.le_refl _)
  rw [h] at h1
  obtain ⟨us, h2, h3, h4⟩ := h1
  refine ⟨us, h2, ⟨h4.nd, h4.bd, h3, fun i j p q hi hj hs => ?_⟩⟩
  obtain ⟨i', hi'⟩ := List.mem_iff_getElem?.1 (h4.bef j q hj p hs)
  have hlt := (List.getElem?_eq_some_iff.1 hi').1
  rw [List.length_take] at hlt
  rw [List.getElem?_take_of_lt (by omega)] at hi'
  rw [nodup_pos h4.nd hi hi']
  omega
theorem Or.at {ls : List (List Int)} {us : List Nat} (h : Or ls us) {k : Nat} (hk : k < ls.length) : ∃ i : Nat, us[i]? = some k := List.mem_iff_getElem?.1 (all_in h.nd h.bd h.len k hk)
theorem Or.way {ls : List (List Int)} {us : List Nat} (h : Or ls us) (hx : ∀ p q, Sp ls p q → q < ls.length) {q : Nat} (l : List Nat) (hw : Wp ls l q) : ∀ (p i j : Nat), l.head? = some p → us[i]? = some p → us[j]? = some q → i < j := by
  induction l with
  | nil => intro p i j e; cases e
  | cons v l ih =>
    intro p i j e hi hj
    simp at e
    subst e
    obtain ⟨u, hu, h2⟩ := hw.next
    rcases h2 with ⟨_, rfl⟩ | ⟨h3, h4⟩
    · exact h.bef i j v u hi hj hu
    · obtain ⟨k, hk⟩ := h.at (hx v u hu)
      have h5 := h.bef i k v u hi hk hu
      have h6 := ih h4 u k j h3 hk hj
      omega
theorem Or.none {ls : List (List Int)} {us : List Nat} (h : Or ls us) (hx : ∀ p q, Sp ls p q → q < ls.length) (x m : Nat) : ¬ Ry ls x m x := fun ⟨l, h1, h2, _⟩ => by
  have hlt : x < ls.length := by
    cases l with
    | nil => cases h1
    | cons y l =>
      simp at h1
      subst h1
      exact Wp.lt _ h2 y (by simp)
  obtain ⟨i, hi⟩ := h.at hlt
  have := h.way hx l h2 x i i h1 hi hi
  omega
theorem Or.self {ls : List (List Int)} {us : List Nat} (h : Or ls us) {p : Nat} : ¬ Sp ls p p := fun hs => by
  obtain ⟨i, hi⟩ := h.at hs.lt
  have := h.bef i i p p hi hi hs
  omega
/-- The ranks when one more place is looked at. -/
def rkS (ls : List (List Int)) (f : Nat → Int) (u : Nat) : Nat → Int := fun k => if ((k : Nat) : Int) ∈ (ls[u]?).getD [] then max (f k) (f u + 1) else f k
def rkN (ls : List (List Int)) (us : List Nat) : Nat → Int := us.foldl (rkS ls) (fun _ => 0)
theorem rkN_snoc (ls : List (List Int)) (us : List Nat) (u : Nat) : rkN ls (us ++ [u]) = rkS ls (rkN ls us) u := by simp [rkN]
theorem sp_getD {ls : List (List Int)} {p q : Nat} : ((q : Nat) : Int) ∈ (ls[p]?).getD [] ↔ Sp ls p q := by
  unfold Sp
  cases ls[p]? with
  | none => simp
  | some l => simp
/-- What ranks are. -/
structure Rk (ls : List (List Int)) (us : List Nat) (t : Nat) (f : Nat → Int) : Prop where
  pos : ∀ k, 0 ≤ f k ∧ f k ≤ t
  up : ∀ p q, p ∈ us.take t → Sp ls p q → f p + 1 ≤ f q
  held : ∀ q, 0 < f q → ∃ p, p ∈ us.take t ∧ Sp ls p q ∧ f p + 1 = f q
theorem Rk.all {ls : List (List Int)} {us : List Nat} (h : Or ls us) (t : Nat) (ht : t ≤ us.length) : Rk ls us t (rkN ls (us.take t)) := by
  induction t with
  | zero => exact ⟨fun k => by simp [rkN], fun p q hp => by simp at hp, fun q hq => by simp [rkN] at hq⟩
  | succ t ih =>
    have ih := ih (by omega)
    obtain ⟨u, hu⟩ : ∃ u, us[t]? = some u := ⟨us[t], by simp⟩
    have hun : u ∉ us.take t := fun e => by
      obtain ⟨i, hi⟩ := List.mem_iff_getElem?.1 e
      have hlt := (List.getElem?_eq_some_iff.1 hi).1
      rw [List.length_take] at hlt
      rw [List.getElem?_take_of_lt (by omega)] at hi
      have := nodup_pos h.nd hi hu
      omega
    have e1 : us.take (t + 1) = us.take t ++ [u] := by rw [List.take_add_one, hu]; rfl
    rw [e1, rkN_snoc]
    generalize rkN ls (us.take t) = f at ih
    have hold : ∀ p, p ∈ us.take t ++ [u] → rkS ls f u p = f p := fun p hp => by
      unfold rkS
      rw [if_neg]
      intro e
      have hs := sp_getD.1 e
      obtain ⟨i, hi⟩ := List.mem_iff_getElem?.1 (e1 ▸ hp : p ∈ us.take (t + 1))
      have hlt := (List.getElem?_eq_some_iff.1 hi).1
      rw [List.length_take] at hlt
      rw [List.getElem?_take_of_lt (by omega)] at hi
      have := h.bef t i u p hu hi hs
      omega
    have hge : ∀ q, f q ≤ rkS ls f u q := fun q => by
      unfold rkS
      split
      · exact Int.le_max_left _ _
      · exact Int.le_refl _
    refine ⟨fun k => ?_, fun p q hp hs => ?_, fun q hq => ?_⟩
    · have h1 := ih.pos k
      have h2 := ih.pos u
      unfold rkS
      split
      · omega
      · omega
    · rw [e1] at hp
      rw [hold p hp]
      rcases List.mem_append.1 hp with hp | hp
      · exact Int.le_trans (ih.up p q hp hs) (hge q)
      · simp at hp
        subst hp
        unfold rkS
        rw [if_pos (sp_getD.2 hs)]
        exact Int.le_max_right _ _
    · rw [e1]
      by_cases hs : Sp ls u q
      · by_cases hm : f q ≤ f u + 1
        · refine ⟨u, by simp, hs, ?_⟩
          rw [hold u (by simp)]
          unfold rkS
          rw [if_pos (sp_getD.2 hs)]
          omega
        · obtain ⟨p, hp1, hp2, hp3⟩ := ih.held q (by have := (ih.pos u).1; omega)
          refine ⟨p, by simp [hp1], hp2, ?_⟩
          rw [hold p (by simp [hp1])]
          unfold rkS
          rw [if_pos (sp_getD.2 hs)]
          omega
      · have e2 : rkS ls f u q = f q := by
          unfold rkS
          rw [if_neg (fun e => hs (sp_getD.1 e))]
        rw [e2] at hq ⊢
        obtain ⟨p, hp1, hp2, hp3⟩ := ih.held q hq
        exact ⟨p, by simp [hp1], hp2, by rw [hold p (by simp [hp1])]; exact hp3⟩
end Go.Proofs.YtpgodnaebkmhhaaGreat.Df

namespace Go.Proofs.YtpgodnaebkmhhaaGreat.Df
open Go.RowKit Go.Sort

/-- The empty steps, in the order in which the program meets them. -/
def isE (c : Con) : Bool := decide (c.via = (0, 0, 0))
def cIn (ns : List Nod) (i : Nat) (c : Con) : Nat := firstN ns i + c.inn.toNat
def cOut (ns : List Nod) (i : Nat) (c : Con) : Nat := firstN ns i + (match ns[i]? with | some n => n.ins.toNat | none => 0) + c.out.toNat
def conS (ns : List Nod) (i : Nat) (c : Con) : Nat × Nat := (cIn ns i c, cOut ns i c)
def nodS (ns : List Nod) (i : Nat) (l : List Con) : List (Nat × Nat) := (l.filter isE).map (conS ns i)
def nodU (ns : List Nod) : Nat → List (Nat × Nat)
  | 0 => []
  | i + 1 => nodU ns i ++ nodS ns i (connsAt ns (i : Int))
def edgP (ns : List Nod) (d : Edg) : Nat × Nat := (outPl ns d, inPl ns d)
def edgS (ns : List Nod) (es : List Edg) : List (Nat × Nat) := es.map (edgP ns)
def stS (g : Gph) : List (Nat × Nat) := edgS g.nodes g.edges ++ nodU g.nodes g.nodes.length
def fromS (l : List (Nat × Nat)) (k : Nat) : List Int := (l.filter fun p => p.1 == k).map fun p => ((p.2 : Nat) : Int)
def srtI (l : List Int) : List Int := l.mergeSort fun x y => decide (x ≤ y)
def stL (g : Gph) : List (List Int) := (List.range (plN g.nodes)).map fun k => srtI (fromS (stS g) k)
theorem fromS_snoc (l : List (Nat × Nat)) (p : Nat × Nat) (k : Nat) : fromS (l ++ [p]) k = if k = p.1 then fromS l p.1 ++ [((p.2 : Nat) : Int)] else fromS l k := by
  unfold fromS
  rw [List.filter_append, List.map_append]
  by_cases h : k = p.1
  · subst h
    simp
  · have h2 : ¬ p.1 = k := fun e => h e.symm
    simp [h, h2]
theorem fromS_len (l : List (Nat × Nat)) (k : Nat) : (fromS l k).length ≤ l.length := by
  unfold fromS
  rw [List.length_map]
  exact List.length_filter_le _ _
theorem srtI_len (l : List Int) : (srtI l).length = l.length := List.length_mergeSort l
theorem srtI_mem {l : List Int} {x : Int} : x ∈ srtI l ↔ x ∈ l := (List.mergeSort_perm l _).mem_iff
theorem fromS_mem {l : List (Nat × Nat)} {k : Nat} {x : Int} : x ∈ fromS l k ↔ ∃ q : Nat, x = (q : Int) ∧ (k, q) ∈ l := by
  unfold fromS
  constructor
  · intro h
    obtain ⟨p, hp, rfl⟩ := List.mem_map.1 h
    obtain ⟨h1, h2⟩ := List.mem_filter.1 hp
    obtain ⟨a, b⟩ := p
    have h3 : a = k := by simpa using h2
    subst h3
    exact ⟨b, rfl, h1⟩
  · rintro ⟨q, rfl, h⟩
    exact List.mem_map.2 ⟨(k, q), List.mem_filter.2 ⟨h, by simp⟩, rfl⟩
theorem stL_len (g : Gph) : (stL g).length = plN g.nodes := by simp [stL]
theorem stL_get {g : Gph} {k : Nat} (hk : k < plN g.nodes) : (stL g)[k]? = some (srtI (fromS (stS g) k)) := by simp [stL, hk]
theorem nflaw_rest {a : Int} {n : Nod} (h : nflaw a n = 0) : (pIn n.kind n.ins = true ∧ pOut n.kind n.outs = true) ∧ nrest a n = 0 := by
  unfold nflaw at h
  split at h
  · cases h
  · split at h
    · cases h
    · split at h
      · cases h
      · rename_i h1 h2 h3
        exact ⟨Classical.not_not.1 h2, h⟩
theorem acrL_mem {o i : Nat} {c : Con} (h : c ∈ acrL o i) : 0 ≤ c.inn ∧ c.inn < (i : Int) ∧ 0 ≤ c.out ∧ c.out < (o : Int) := by
  induction i with
  | zero => cases h
  | succ i ih =>
    unfold acrL at h
    rcases List.mem_append.1 h with h | h
    · have := ih h
      omega
    · unfold rowL at h
      obtain ⟨p, hp, rfl⟩ := List.mem_map.1 h
      have := List.mem_range.1 hp
      dsimp only
      omega
theorem connsN_good {a : Int} {n : Nod} (h : nflaw a n = 0) {c : Con} (hc : c ∈ connsN n) : (0 ≤ c.inn ∧ c.inn < n.ins) ∧ (0 ≤ c.out ∧ c.out < n.outs) := by
  obtain ⟨⟨h1, h2⟩, h3⟩ := nflaw_rest h
  have h4 := nflaw_ports h
  unfold connsN at hc
  split at hc
  · rename_i hk
    simp at hc
    subst hc
    unfold pIn at h1
    unfold pOut at h2
    rw [if_neg (by omega), if_neg (by omega), if_neg (by omega)] at h1
    rw [if_neg (by omega), if_neg (by omega)] at h2
    simp at h1 h2
    dsimp only
    omega
  · split at hc
    · rename_i hk
      unfold nrest at h3
      rw [if_neg (by omega), if_neg (by omega), if_pos hk] at h3
      split at h3
      · rename_i hok
        obtain ⟨j, hj⟩ := List.mem_iff_getElem?.1 hc
        have := (cok_iff.1 hok).2 j c hj
        exact ⟨this.1, this.2.1⟩
      · cases h3
    · have := acrL_mem hc
      omega
theorem connsN_len {a : Int} {n : Nod} (h : nflaw a n = 0) : (connsN n).length ≤ 16 := by
  have h4 := nflaw_ports h
  unfold connsN
  split
  · simp
  · split
    · exact (nflaw_lists h).2
    · rw [acrL_length]
      have h1 : n.ins.toNat ≤ 4 := by omega
      have h2 : n.outs.toNat ≤ 4 := by omega
      exact Nat.le_trans (Nat.mul_le_mul h1 h2) (by decide)
theorem connsAt_nat (ns : List Nod) (i : Nat) : connsAt ns (i : Int) = match ns[i]? with | some n => connsN n | none => [] := by
  unfold connsAt natN?
  rw [if_pos (by omega)]
  rfl
theorem Gok.con {g : Gph} (h : Gok g) {i : Nat} {c : Con} (hc : c ∈ connsAt g.nodes (i : Int)) : hasIN g.nodes (i : Int) c.inn = true ∧ hasON g.nodes (i : Int) c.out = true := by
  rw [connsAt_nat] at hc
  cases e : g.nodes[i]? with
  | none => rw [e] at hc; cases hc
  | some n =>
    rw [e] at hc
    have hn := h.ng i n (List.getElem?_eq_some_iff.1 e).1 e
    have hg := connsN_good hn hc
    unfold hasIN hasON natN?
    rw [if_pos (by omega), show ((i : Nat) : Int).toNat = i by omega, e]
    simp only [decide_eq_true_eq]
    exact hg
theorem Gok.conLen {g : Gph} (h : Gok g) (i : Nat) : (connsAt g.nodes (i : Int)).length ≤ 16 := by
  rw [connsAt_nat]
  cases e : g.nodes[i]? with
  | none => simp
  | some n => exact connsN_len (h.ng i n (List.getElem?_eq_some_iff.1 e).1 e)
theorem cIn_eq {ns : List Nod} {i : Nat} {c : Con} (h : hasIN ns (i : Int) c.inn = true) : inN ns (i : Int) c.inn = (cIn ns i c : Nat) := by
  obtain ⟨n, hn, h0, _, h1, _⟩ := has_in h
  unfold inN cIn
  rw [if_pos h, show ((i : Nat) : Int).toNat = i by omega]
  push_cast
  omega
theorem cOut_eq {ns : List Nod} {i : Nat} {c : Con} (hp : Pok ns) (h : hasON ns (i : Int) c.out = true) : outN ns (i : Int) c.out = (cOut ns i c : Nat) := by
  obtain ⟨n, hn, h0, _, h1, _⟩ := has_out h
  rw [show ((i : Nat) : Int).toNat = i by omega] at hn
  have := hp n (List.mem_of_getElem? hn)
  unfold outN cOut
  rw [if_pos h, show ((i : Nat) : Int).toNat = i by omega, hn]
  push_cast
  omega
theorem cIn_lt {ns : List Nod} {i : Nat} {c : Con} (h : hasIN ns (i : Int) c.inn = true) : cIn ns i c < plN ns := by
  obtain ⟨n, hn, _, _, h1, h2⟩ := has_in h
  rw [show ((i : Nat) : Int).toNat = i by omega] at hn
  have := spots_in (p := c.inn.toNat) hn (List.getElem?_eq_some_iff.1 hn).1 (by omega)
  exact (List.getElem?_eq_some_iff.1 this).1
theorem cOut_lt {ns : List Nod} {i : Nat} {c : Con} (h : hasON ns (i : Int) c.out = true) : cOut ns i c < plN ns := by
  obtain ⟨n, hn, _, _, h1, h2⟩ := has_out h
  rw [show ((i : Nat) : Int).toNat = i by omega] at hn
  have := spots_out (p := c.out.toNat) hn (List.getElem?_eq_some_iff.1 hn).1 (by omega)
  unfold cOut
  rw [hn]
  exact (List.getElem?_eq_some_iff.1 this).1
theorem outPl_lt {ns : List Nod} {d : Edg} (h : hasON ns d.src d.out = true) : outPl ns d < plN ns := (List.getElem?_eq_some_iff.1 (out_spot h)).1
theorem inPl_lt {ns : List Nod} {d : Edg} (h : hasIN ns d.dst d.inn = true) : inPl ns d < plN ns := (List.getElem?_eq_some_iff.1 (in_spot h)).1
theorem nodU_mem {ns : List Nod} {m : Nat} {p : Nat × Nat} : p ∈ nodU ns m ↔ ∃ i c, i < m ∧ c ∈ connsAt ns ((i : Nat) : Int) ∧ isE c = true ∧ p = conS ns i c := by
  induction m with
  | zero => simp [nodU]
  | succ m ih =>
    unfold nodU
    rw [List.mem_append, ih]
    constructor
    · rintro (⟨i, c, h1, h2⟩ | h)
      · exact ⟨i, c, by omega, h2⟩
      · unfold nodS at h
        obtain ⟨c, hc, rfl⟩ := List.mem_map.1 h
        obtain ⟨h1, h2⟩ := List.mem_filter.1 hc
        exact ⟨m, c, by omega, h1, h2, rfl⟩
    · rintro ⟨i, c, h1, h2, h3, rfl⟩
      by_cases e : i = m
      · subst e
        exact Or.inr (List.mem_map.2 ⟨c, List.mem_filter.2 ⟨h2, h3⟩, rfl⟩)
      · exact Or.inl ⟨i, c, by omega, h2, h3, rfl⟩
theorem nodU_len {g : Gph} (h : Gok g) (m : Nat) : (nodU g.nodes m).length ≤ 16 * m := by
  induction m with
  | zero => simp [nodU]
  | succ m ih =>
    unfold nodU nodS
    rw [List.length_append, List.length_map]
    have h1 := List.length_filter_le isE (connsAt g.nodes (m : Int))
    have h2 := h.conLen m
    omega
theorem stS_len {g : Gph} (h : Gok g) : (stS g).length ≤ 432 := by
  unfold stS edgS
  rw [List.length_append, List.length_map]
  have h1 := nodU_len h g.nodes.length
  have h2 := h.nl
  have h3 := h.el
  omega
theorem stS_lt {g : Gph} (h : Gok g) {p q : Nat} (hm : (p, q) ∈ stS g) : p < plN g.nodes ∧ q < plN g.nodes := by
  unfold stS at hm
  rcases List.mem_append.1 hm with hm | hm
  · obtain ⟨d, hd, e⟩ := List.mem_map.1 hm
    obtain ⟨j, hj⟩ := List.mem_iff_getElem?.1 hd
    have := h.ends hj
    unfold edgP at e
    simp only [Prod.mk.injEq] at e
    rw [← e.1, ← e.2]
    exact ⟨outPl_lt this.1, inPl_lt this.2⟩
  · obtain ⟨i, c, _, h2, _, e⟩ := nodU_mem.1 hm
    have := h.con h2
    unfold conS at e
    simp only [Prod.mk.injEq] at e
    rw [e.1, e.2]
    exact ⟨cIn_lt this.1, cOut_lt this.2⟩
theorem plN_le {g : Gph} (h : Gok g) : plN g.nodes ≤ 192 := by
  have h1 := firstN_le h.pok g.nodes.length
  have h2 := h.nl
  unfold plN
  unfold firstN at h1
  omega
/-- A step of the lists is one of the graph. -/
theorem sp_iff {g : Gph} (h : Gok g) {p q : Nat} : Sp (stL g) p q ↔ (p, q) ∈ stS g := by
  constructor
  · rintro ⟨l, h1, h2⟩
    have hp := (List.getElem?_eq_some_iff.1 h1).1
    rw [stL_len] at hp
    rw [stL_get hp, Option.some.injEq] at h1
    subst h1
    obtain ⟨q', e, h3⟩ := fromS_mem.1 (srtI_mem.1 h2)
    obtain rfl : q = q' := by omega
    exact h3
  · intro hm
    exact ⟨_, stL_get (stS_lt h hm).1, srtI_mem.2 (fromS_mem.2 ⟨q, rfl, hm⟩)⟩
theorem stL_good {g : Gph} (h : Gok g) : (stL g).length ≤ 1000 ∧ ∀ l ∈ stL g, l.length ≤ 1000 ∧ ∀ x ∈ l, 0 ≤ x ∧ x < ((stL g).length : Int) := by
  have h1 := plN_le h
  rw [stL_len]
  refine ⟨by omega, fun l hl => ?_⟩
  obtain ⟨k, hk, rfl⟩ := List.mem_map.1 hl
  refine ⟨?_, fun x hx => ?_⟩
  · rw [srtI_len]
    exact Nat.le_trans (fromS_len _ _) (Nat.le_trans (stS_len h) (by decide))
  · obtain ⟨q, rfl, hq⟩ := fromS_mem.1 (srtI_mem.1 hx)
    have := (stS_lt h hq).2
    omega
theorem sp_lt {g : Gph} (h : Gok g) (p q : Nat) (hs : Sp (stL g) p q) : q < (stL g).length := by
  rw [stL_len]
  exact (stS_lt h ((sp_iff h).1 hs)).2
/-- Lists of numbers that are the call's own, each with one owner. -/
structure Fo (B : Nat) (w : World) (v : Value) (vs : List LV) (L : Nat → List Int) : Prop where
  row : w.ownsRow B 33 1 v vs.length (fl EL vs)
  each : ∀ (k : Nat) (x : LV), vs[k]? = some x → w.ownsRow B 3 1 x.v (L k).length (fl EI (L k))
  apart : ∀ (k : Nat) (x : LV), vs[k]? = some x → ∀ b, x.v.ownBlock = some b → ∀ (k' : Nat) (x' : LV), vs[k']? = some x' → x'.v.ownBlock = some b → k' = k
section
variable {B : Nat} {w w1 w' : World} {v : Value} {vs : List LV} {L L' : Nat → List Int}
theorem Fo.below (h : Fo B w v vs L) (hb : Below w.heap.size w w') : Fo B w' v vs L := ⟨owns_below h.row hb, fun k x hk => owns_below (h.each k x hk) hb, h.apart⟩
theorem Fo.re (h : Fo B w v vs L) (hL : ∀ k, k < vs.length → L k = L' k) : Fo B w v vs L' := ⟨h.row, fun k x hk => by rw [← hL k (List.getElem?_eq_some_iff.1 hk).1]; exact h.each k x hk, h.apart⟩
theorem Fo.kp {S : Nat → Prop} (h : Fo B w v vs L) (hk : Kp S w w') (hS : ∀ k, B ≤ k → ¬ S k) : Fo B w' v vs L :=
  ⟨owns_kp hk h.row (fun k e => hS k (owns_rd h.row k e).1), fun k x hx => owns_kp hk (h.each k x hx) (fun j e => hS j (owns_rd (h.each k x hx) j e).1), h.apart⟩
theorem Fo.ff (h : Fo B w v vs L) {ls : List (List Int)} (hl : ls.length = vs.length) (hg : ∀ k l, ls[k]? = some l → l = L k) : Ff w.heap.size w v ls :=
  ⟨vs, owns_lz (E := EL) h.row, hl.symm, fun i x l hx hls => by rw [hg i l hls]; exact owns_lz (E := EI) (h.each i x hx)⟩
theorem Fo.step (h : Fo B w v vs L) {k pb pc g cap : Nat} {x : LV} (hk : vs[k]? = some x) (hpv : v = .slice (some ⟨pb, 0, none⟩) vs.length pc) {y : Int}
    (h1 : w1.ownsRow B 3 1 (.slice (some ⟨g, 0, none⟩) ((L k).length + 1) cap) ((L k).length + 1) (fl EI (L k) ++ EI.enc y)) (h2 : w.grownBy w1 x.v.ownBlock) (h3 : x.v.ownBlock = some g ∨ w.heap.size ≤ g) :
    Fo B (w1.setCell ⟨pb, k, none⟩ (.slice (some ⟨g, 0, none⟩) ((L k).length + 1) cap)) v (vs.set k ⟨some ⟨g, 0, none⟩, (L k).length + 1, cap⟩) (fun j => if j = k then L k ++ [y] else L j) ∧ Kp (fun j => v.ownBlock = some j ∨ x.v.ownBlock = some j) w (w1.setCell ⟨pb, k, none⟩ (.slice (some ⟨g, 0, none⟩) ((L k).length + 1) cap)) := by
  have hks := (List.getElem?_eq_some_iff.1 hk).1
  have K2 := Kp.grownBy (S := fun j => x.v.ownBlock = some j) h2 (fun _ h => h)
  have sp1 := owns_kp K2 h.row (fun j e e2 => owns_ne_own h.row (h.each k x hk) (by decide) j e e2)
  have sp2 := sp1
  rw [hpv] at sp2
  obtain ⟨so, sk⟩ := owns_one sp2 k (.slice (some ⟨g, 0, none⟩) ((L k).length + 1) cap)
  have hpb : v.ownBlock = some pb := by rw [hpv]; rfl
  have ne2 : ∀ {n : Nat} {u : Value} {us : List Value}, w1.ownsRow B 3 1 u n us → (w1.setCell ⟨pb, k, none⟩ (.slice (some ⟨g, 0, none⟩) ((L k).length + 1) cap)).ownsRow B 3 1 u n us := fun o => owns_kp sk o (fun j e e2 => owns_ne_own o sp1 (by decide) j e (by rw [e2]; exact hpb))
  have get : ∀ (j : Nat) (x' : LV), (vs.set k ⟨some ⟨g, 0, none⟩, (L k).length + 1, cap⟩)[j]? = some x' → (j = k ∧ x' = ⟨some ⟨g, 0, none⟩, (L k).length + 1, cap⟩) ∨ (j ≠ k ∧ vs[j]? = some x') := fun j x' hj => by
    rw [List.getElem?_set] at hj
    by_cases e : k = j
    · subst e
      rw [if_pos rfl, if_pos hks] at hj
      exact Or.inl ⟨rfl, (Option.some.inj hj).symm⟩
    · rw [if_neg e] at hj
      exact Or.inr ⟨fun e2 => e e2.symm, hj⟩
  have evlt : ∀ (j : Nat) (x' : LV), vs[j]? = some x' → ∀ b, x'.v.ownBlock = some b → b < w.heap.size := fun j x' hj b e => (owns_rd (h.each j x' hj) b e).2
  refine ⟨⟨?_, ?_, ?_⟩, ?_⟩
  · rw [hpv]
    refine owns_re so (by simp) ?_
    have := fl_setE EL vs k 0 x ⟨some ⟨g, 0, none⟩, (L k).length + 1, cap⟩ (.slice (some ⟨g, 0, none⟩) ((L k).length + 1) cap) hk (by decide) rfl
    rw [show EL.k = 1 from rfl, Nat.mul_one, Nat.add_zero] at this
    exact this
  · intro j x' hj
    rcases get j x' hj with ⟨rfl, rfl⟩ | ⟨hne, hj⟩
    · simp only [if_true]
      exact owns_re (ne2 h1) (by simp) (by rw [fl_append, fl_one])
    · simp only [if_neg hne]
      exact ne2 (owns_kp K2 (h.each j x' hj) (fun b e e2 => hne (h.apart k x hk b e2 j x' hj e)))
  · intro j x' hj b hb
    rcases get j x' hj with ⟨rfl, rfl⟩ | ⟨hne, hj2⟩
    · obtain rfl : g = b := by simpa [Value.ownBlock] using hb
      intro k' x' hk' e
      rcases get k' x' hk' with ⟨rfl, _⟩ | ⟨hne', hk'⟩
      · rfl
      · rcases h3 with h3 | h3
        · exact h.apart j x hk g h3 k' x' hk' e
        · have := evlt k' x' hk' g e; omega
    · intro k' t hk' e
      rcases get k' t hk' with ⟨rfl, rfl⟩ | ⟨_, hk2⟩
      · obtain rfl : g = b := by simpa [Value.ownBlock] using e
        rcases h3 with h3 | h3
        · exact h.apart j x' hj2 g hb k' x hk h3
        · have := evlt j x' hj2 g hb; omega
      · exact h.apart j x' hj2 b hb k' t hk2 e
  · exact (K2.mono (T := fun j => v.ownBlock = some j ∨ x.v.ownBlock = some j) (fun j e => Or.inr e)).trans sk (fun j _ e => Or.inl (by rw [e]; exact hpb))
theorem Fo.put (h : Fo B w v vs L) {k : Nat} {x : LV} {l : List Int} (hk : vs[k]? = some x) (h2 : w.grownBy w1 x.v.ownBlock) (h1 : w1.ownsRow B 3 1 x.v l.length (fl EI l)) : Fo B w1 v vs (fun j => if j = k then l else L j) ∧ Kp (fun j => x.v.ownBlock = some j) w w1 := by
  have K2 := Kp.grownBy (S := fun j => x.v.ownBlock = some j) h2 (fun _ h => h)
  refine ⟨⟨owns_kp K2 h.row (fun j e e2 => owns_ne_own h.row (h.each k x hk) (by decide) j e e2), fun j x' hj => ?_, h.apart⟩, K2⟩
  by_cases e : j = k
  · subst e
    rw [hk] at hj
    obtain rfl := Option.some.inj hj
    simp only [if_true]
    exact h1
  · simp only [if_neg e]
    exact owns_kp K2 (h.each j x' hj) (fun b e1 e2 => e (h.apart k x hk b e2 j x' hj e1))
theorem Fo.blocks (h : Fo B w v vs L) {k : Nat} {x : LV} (hk : vs[k]? = some x) : ∀ j, v.ownBlock = some j ∨ x.v.ownBlock = some j → B ≤ j := fun j e => by
  rcases e with e | e
  · exact (owns_rd h.row j e).1
  · exact (owns_rd (h.each k x hk) j e).1
/-- Another row is none of these. -/
theorem Fo.other (h : Fo B w v vs L) {k : Nat} {x : LV} (hk : vs[k]? = some x) (hK : Kp (fun j => v.ownBlock = some j ∨ x.v.ownBlock = some j) w w') {B2 : Nat} {T : TypeId} {size n : Nat} {u : Value} {us : List Value} (ho : w.ownsRow B2 T size u n us) (hT : T ≠ 3) (hT2 : T ≠ 33) : w'.ownsRow B2 T size u n us :=
  owns_kp hK ho (fun j e e2 => by
    rcases e2 with e2 | e2
    · exact owns_ne_own ho h.row hT2 j e e2
    · exact owns_ne_own ho (h.each k x hk) hT j e e2)
end
/-- The sort of a list that is the call's own. -/
theorem sorted_own {B : Nat} {w w' : World} {g cap n : Nat} {l : List Int} {os : Array Obj} (h : w.ownsRow B 3 1 (.slice (some ⟨g, 0, none⟩) l.length cap) l.length (fl EI l)) (hw : w' = grow (putRow (Value.int .i64) (Sort.ahead w n) g 0 (srtI l).toArray) os) : w'.ownsRow B 3 1 (.slice (some ⟨g, 0, none⟩) l.length cap) (srtI l).length (fl EI (srtI l)) ∧ w.grownBy w' (some g) := by
  subst hw
  refine ⟨?_, grownBy_sortedI _⟩
  rcases h.2 with ⟨h0, _⟩ | ⟨g', cap', cur, hv, hbase, hb, h1, h2, h3, h4⟩
  · cases h0
  · simp only [Value.slice.injEq, Option.some.injEq, Addr.mk.injEq] at hv
    obtain ⟨⟨rfl, -, -⟩, -, rfl⟩ := hv
    have := ownsRow_sortedI (n := n) (os := os) (ts := srtI l) (ss := l) (srtI_len l) hbase hb h1 h2 h3
    rw [srtI_len, fl_I]
    exact this
theorem holds_own {B : Nat} {w : World} {g cap : Nat} {l : List Int} (h : w.ownsRow B 3 1 (.slice (some ⟨g, 0, none⟩) l.length cap) l.length (fl EI l)) : Holds (Value.int .i64) w g 0 l.toArray ∧ g < w.heap.size := by
  rcases h.2 with ⟨h0, _⟩ | ⟨g', cap', cur, hv, hbase, hb, h1, h2, h3, h4⟩
  · cases h0
  · simp only [Value.slice.injEq, Option.some.injEq, Addr.mk.injEq] at hv
    obtain ⟨⟨rfl, -, -⟩, -, rfl⟩ := hv
    rw [fl_I, Nat.mul_one] at h4
    exact ⟨holds_of_blockI hb h4, (Array.getElem?_eq_some_iff.1 hb).1⟩
theorem own_at0 {B : Nat} {w : World} {x : LV} {l : List Int} (h : w.ownsRow B 3 1 x.v l.length (fl EI l)) : (l = [] ∧ x.q = none ∧ x.m = 0) ∨ ∃ g, x.q = some ⟨g, 0, none⟩ ∧ x.m = l.length := by
  obtain ⟨q, m, c⟩ := x
  rcases h.2 with ⟨h0, h1⟩ | ⟨g', cap', cur, hv, hbase, hb, h1, h2, h3, h4⟩
  · simp only [Value.slice.injEq] at h0
    exact Or.inl ⟨List.length_eq_zero_iff.1 (by omega), h0.1, h0.2.1⟩
  · simp only [Value.slice.injEq] at hv
    exact Or.inr ⟨g', hv.1, hv.2.1⟩
end Go.Proofs.YtpgodnaebkmhhaaGreat.Df
