import Derived.Test.YtngnfglnfkhheaaGreatJ3
import Derived.BigQuiet
import Derived.WalkMore
import Derived.Test.YtngnfglnfkhheaaGreatFits
namespace Go.Proofs.YtngnfglnfkhheaaGreat.Df
open Go.RowKit Go.Sort
attribute [local go_sem ↓] Go.wp_at_zero Go.wp_at_succ

theorem findN_mono {ls : List (List Int)} {i j : Nat} {l : List Nat} (h : findN ls i = some l) (hij : i ≤ j) : findN ls j = some l := by
  induction j with
  | zero =>
    obtain rfl : i = 0 := by omega
    exact h
  | succ j ih =>
    by_cases e : i = j + 1
    · subst e
      exact h
    · rw [findN, ih (by omega)]
theorem findN_skip {ls : List (List Int)} {i : Nat} (h0 : ∀ l ∈ ls, ∀ x ∈ l, (0 : Int) ≤ x) (h : findN ls i = none) (hr : ∀ m, ¬ Ry ls i m i) : findN ls (i + 1) = none := by
  rw [findN, h]
  have h1 := (mostN_ok (ls := ls) (q := i) h0 ls.length).2
  revert h1
  cases (mostN ls i ls.length).2 with
  | none => intro _; rfl
  | some l => intro h1; exact absurd ⟨l, h1.1, h1.2.1, Nat.le_refl _⟩ (hr l.length)
theorem mostN_some {ls : List (List Int)} {q t m : Nat} {f : Nat → Int} {l : List Nat} (h : mostN ls q t = (f, some l)) (htm : t ≤ m) : mostN ls q m = (f, some l) := by
  induction m with
  | zero =>
    obtain rfl : t = 0 := by omega
    exact h
  | succ m ih =>
    by_cases e : t = m + 1
    · subst e
      exact h
    · rw [mostN, ih (by omega)]
/-- What stands while first places are tried. -/
structure Fb (w : World) (sb wb : Nat) (v wv : Value) (W : World) : Prop where
  bl : Below w.heap.size w W
  s : W.heap[sb]? = some (.cells #[v] 67 (0, 0))
  y : W.heap[wb]? = some (.cells #[wv] 33 (0, 0))
  ry : W.ownsRow w.heap.size 3 1 wv 0 []
  lo : w.heap.size ≤ wb
theorem Fb.below {w W W' : World} {sb wb : Nat} {v wv : Value} (h : Fb w sb wb v wv W) (hb : Below W.heap.size W W') : Fb w sb wb v wv W' := ⟨h.bl.trans (hb.mono h.bl.size), (hb.block _ (tk_lt h.s)).trans h.s, (hb.block _ (tk_lt h.y)).trans h.y, owns_below h.ry hb, h.lo⟩
/-- What Find answers. -/
def Fn (w : World) (ls : List (List Int)) (r : Ending) (w' : World) : Prop := ∃ v, r = .returned v ∧ Below w.heap.size w w' ∧ w'.ownsRow w.heap.size 3 1 v ((findN ls ls.length).getD []).length (fl EI (ints ((findN ls ls.length).getD [])))
set_option maxRecDepth 100000 in
set_option maxHeartbeats 8000000 in
theorem find_of {gp : Option Addr} {ls : List (List Int)} (w : World) (hs : Calls Tryz.prog 29 #[.pointer gp] w fun r w' => ∃ v, r = .returned v ∧ Hid (Below w.heap.size w w' ∧ Ff w'.heap.size w' v ls)) (hn : ls.length ≤ 1000) (hx : ∀ l ∈ ls, l.length ≤ 1000 ∧ ∀ x ∈ l, 0 ≤ x ∧ x < (ls.length : Int)) : Calls Tryz.prog 11 #[.pointer gp] w (Fn w ls) := by
  obtain ⟨i0, hi0, hz0, hz1, hz2⟩ := info_parts infoIK
  obtain ⟨n, hnn⟩ : ∃ n, n = ls.length := ⟨_, rfl⟩
  rw [← hnn] at hn hx
  have HN := hid hnn
  have HX := hid hx
  have H0 : Hid (∀ l ∈ ls, ∀ x ∈ l, (0 : Int) ≤ x) := fun l hl x hxl => ((hx l hl).2 x hxl).1
  clear hnn hx
  go_enter Tryz.func11, Tryz.ntmps11
  go_wp2_with fail
  go_step3
  go_wp2_with fail
  refine hs.mono ?_
  clear hs
  rintro r w1 ⟨v, rfl, H1⟩
  obtain ⟨p, c, rfl⟩ := H1.out.2.form
  have H1' : Hid (Below w.heap.size w w1 ∧ Ff w1.heap.size w1 (.slice p n c) ls) := by rw [HN.out]; exact H1.out
  rw [← HN.out]
  clear H1
  go_wp2_with fail
  go_step3
  obtain ⟨sb, hsb⟩ : ∃ b, b = w1.heap.size := ⟨_, rfl⟩
  obtain ⟨W2, hW2⟩ : ∃ W, W = (w1.alloc (.cells #[.slice p n c] 67)).alloc (.cells #[.slice none 0 0] 33) := ⟨_, rfl⟩
  rw [← hW2, ← hsb]
  have B2 : Hid (Fb w1 sb (sb + 1) (.slice p n c) (.slice none 0 0) W2) := by
    rw [hW2, hsb]
    exact ⟨(((Gr.refl w1).alloc _).alloc _).below, new1' w1 _ _, new2' w1 _ _, World.ownsRow_nil _ _ _ _, by omega⟩
  obtain ⟨wb, hwb⟩ : ∃ b, b = sb + 1 := ⟨_, rfl⟩
  rw [← hwb] at B2 ⊢
  have HSB : Hid (sb = w1.heap.size ∧ wb = sb + 1) := ⟨hsb, hwb⟩
  have c2 := (tk_store B2.out.s).1
  have l2 := tk_lt B2.out.s
  clear hW2 hsb hwb
  go_wp2_with fail
  clear c2 l2
  go_loopw [13] (fun s13 wr => ∃ i : Nat, i ≤ n ∧ s13 = .int .i64 (i : Nat) ∧ Hid (findN ls i = none ∧ ∃ wv, Fb w1 sb wb (.slice p n c) wv wr)) (fun s13 _ => n - (RowKit.intOf s13).toNat)
  case atStart => exact ⟨0, Nat.zero_le _, rfl, rfl, _, B2.out⟩
  case round =>
    clear B2
    obtain ⟨i, hi, rfl, HI⟩ := hrel
    obtain ⟨hfi, wv, hfb⟩ := HI.out
    by_cases hlt : i < n
    · have hltz : (i : Int) < (n : Int) := by omega
      have hi1 : (0 : Int) ≤ (i : Int) := by omega
      obtain ⟨fb, hfbb⟩ : ∃ b, b = wr.heap.size := ⟨_, rfl⟩
      obtain ⟨W3, hW3⟩ : ∃ W, W = wr.alloc (.cells #[.int .i64 (i : Nat)] 3) := ⟨_, rfl⟩
      have hb3 : Below wr.heap.size wr W3 := by rw [hW3]; exact ((Gr.refl wr).alloc _).below
      have P3 : Hid (Fb w1 sb wb (.slice p n c) wv W3 ∧ W3.heap[fb]? = some (.cells #[.int .i64 (i : Nat)] 3 (0, 0)) ∧ ∀ k, wv.ownBlock = some k → k ≠ fb) := ⟨hfb.below hb3, by rw [hW3, hfbb]; exact heap_new' _ _, fun k e => by have := (owns_rd hfb.ry k e).2; omega⟩
      have HW3 : Hid (wr.alloc (.cells #[.int .i64 (i : Nat)] 3) = W3 ∧ wr.heap.size = fb) := ⟨hW3.symm, hfbb.symm⟩
      have HFI := hid hfi
      clear HI hfi hfb hW3 hfbb hb3
      go_upto_region 6 with fail
      rw [HW3.out.1, HW3.out.2]
      clear HW3
      have c3 := (tk_store P3.out.1.s).1
      have l3 := tk_lt P3.out.1.s
      have c4 := (tk_store P3.out.2.1).1
      have l4 := tk_lt P3.out.2.1
      have hcb := comesBack_any i W3 (H1'.out.2.below P3.out.1.bl) (by rw [← HN.out]; exact hlt) (by rw [← HN.out]; exact hn) (by rw [← HN.out]; exact HX.out)
      go_wp2_with fail
      refine hcb.mono ?_
      clear hcb c3 l3 c4 l4
      rintro r w4 ⟨bb, rfl, HB⟩
      cases bb with
      | false =>
        have FIN : Hid (findN ls (i + 1) = none ∧ ∃ wv, Fb w1 sb wb (.slice p n c) wv w4) := ⟨findN_skip H0.out HFI.out (HB.out.2 rfl), wv, P3.out.1.below HB.out.1⟩
        clear HB P3
        go_wp2_with fail
        go_roundw
        case rel => exact ⟨i + 1, by omega, by go_num, FIN.out⟩
        case measure => simp [RowKit.intOf]; omega
      | true =>
        have P4 : Hid (Fb w1 sb wb (.slice p n c) wv w4 ∧ w4.heap[fb]? = some (.cells #[.int .i64 (i : Nat)] 3 (0, 0)) ∧ ∀ k, wv.ownBlock = some k → k ≠ fb) := ⟨P3.out.1.below HB.out.1, (HB.out.1.block _ (tk_lt P3.out.2.1)).trans P3.out.2.1, P3.out.2.2⟩
        have c3 := (tk_store P4.out.1.s).1
        have l3 := tk_lt P4.out.1.s
        clear HB P3
        go_upto_region 7 with fail
        go_upto_region 8 with (at_make; refine wpList_make_full _ rfl _ _ 33 rfl w4.heap.size 3 i0 (.int .i64 0) 1 Tryz.underlying33 hi0 hz0 hz1 _ _ _ _ n rfl rfl rfl rfl (by rw [hz2]; omega) (by unfold maxLen; omega) (Nat.le_refl _) ?_; intro w5 hrow hg1)
        obtain ⟨g, hg⟩ : ∃ g, g = w4.heap.size := ⟨_, rfl⟩
        obtain ⟨ib, hib⟩ : ∃ b, b = w5.heap.size := ⟨_, rfl⟩
        rw [← hg, ← hib]
        obtain ⟨W6, hW6⟩ : ∃ W, W = w5.alloc (.cells #[.slice (some ⟨g, 0, none⟩) n n] 33) := ⟨_, rfl⟩
        rw [← hW6]
        have HIB := hid hib
        have HW6 := hid hW6
        have HGG := hid hg
        clear c3 l3 hib hW6 hg
        go_upto_region 10 with fail
        obtain ⟨db, hdb⟩ : ∃ b, b = W6.heap.size := ⟨_, rfl⟩
        rw [← hdb]
        obtain ⟨W7, hW7⟩ : ∃ W, W = W6.alloc (.cells #[.func (.func 31) #[] #[.pointer (some ⟨ib, 0, none⟩), .pointer (some ⟨wb, 0, none⟩), .pointer (some ⟨sb, 0, none⟩), .pointer (some ⟨fb, 0, none⟩), .pointer (some ⟨db, 0, none⟩)]] 70) := ⟨_, rfl⟩
        rw [← hW7]
        have F7 : Hid (Fs w1 ib wb sb fb db g n i (.slice p n c) (fun _ => 0) [] wv W7) := by
          have hib := HIB.out
          have hW6 := HW6.out
          have hg := HGG.out
          have b5 : Below w4.heap.size w4 w5 := (Kp.grownBy (S := fun _ => False) hg1 (fun _ h => by cases h)).below (Nat.le_refl _) (fun _ h => h.elim)
          have b6 : Below w5.heap.size w5 W6 := by rw [hW6]; exact ((Gr.refl w5).alloc _).below
          have b7 : Below W6.heap.size W6 W7 := by rw [hW7]; exact ((Gr.refl W6).alloc _).below
          have b57 : Below w5.heap.size w5 W7 := b6.trans (b7.mono b6.size)
          have b47 : Below w4.heap.size w4 W7 := b5.trans (b57.mono b5.size)
          have h7 := P4.out.1.below b47
          have hlf := tk_lt P4.out.2.1
          have hly := tk_lt P4.out.1.y
          have h45 := b5.size
          refine ⟨h7.bl, (b7.block _ (by rw [hib, hW6]; simp)).trans (by rw [hW6, hib]; exact heap_new' _ _), h7.y, h7.s, (b47.block _ hlf).trans P4.out.2.1, by rw [hW7, hdb]; exact heap_new' _ _, ?_, h7.ry, fun k e => ⟨?_, P4.out.2.2 k e⟩, by omega, by omega, h7.lo, fun k => Int.le_refl _⟩
          · rw [hg]
            refine owns_re (owns_below (owns_base hrow P4.out.1.bl.size) b57) rfl ?_
            rw [madeK, fnL_zero, fl_I]
          · have := (owns_rd P4.out.1.ry k e).2
            omega
        have c3 := (tk_store F7.out.s).1
        have l3 := tk_lt F7.out.s
        clear hrow hg1 HGG HIB HW6 hdb hW7 P4
        go_wp2_with fail
        clear c3 l3
        go_loopw [26] (fun s26 wr => ∃ t : Nat, t ≤ n ∧ s26 = .int .i64 (t : Nat) ∧ Hid (∃ f wv, mostN ls i t = (f, none) ∧ Fs w1 ib wb sb fb db g n i (.slice p n c) f [] wv wr)) (fun s26 _ => n - (RowKit.intOf s26).toNat)
        case atStart => exact ⟨0, Nat.zero_le _, rfl, _, _, rfl, F7.out⟩
        case round =>
          clear F7
          obtain ⟨t, ht, rfl, HI⟩ := hrel
          obtain ⟨f, wv2, hmo, hfs⟩ := HI.out
          clear HI
          by_cases hlt2 : t < n
          · have hltz2 : (t : Int) < (n : Int) := by omega
            have hcall := fd_down H1'.out.2 HN.out HX.out (t + 1) wr f [] wv2 i hfs hlt (by simp; omega)
            have c5 := (tk_store hfs.d).1
            have l5 := tk_lt hfs.d
            have c6 := (tk_store hfs.f0).1
            have l6 := tk_lt hfs.f0
            have HMO := hid hmo
            push_cast at hcall
            clear hmo hfs
            go_wp2_with fail
            refine hcall.mono ?_
            clear hcall c5 l5 c6 l6
            intro r w10 hr
            have HR := hid hr
            clear hr
            cases hdn : downN ls i (t + 1) i f with
            | mk a f' =>
              have hr := HR.out
              rw [hdn] at hr
              have hm1 : mostN ls i (t + 1) = (f', a) := by rw [mostN, HMO.out]; simp only [hdn]
              have HM1 := hid hm1
              clear HR hdn hm1
              cases a with
              | some l =>
                obtain ⟨rfl, wv3, h3⟩ := hr
                have hfin : (findN ls ls.length).getD [] = l := by
                  rw [findN_mono (i := i + 1) (l := l) (by rw [findN, HFI.out]; simp only [mostN_some HM1.out (show t + 1 ≤ ls.length by have := HN.out; omega)]) (by have := HN.out; omega)]
                  rfl
                have FIN : Hid (Fn w ls (.returned wv3) w10) := ⟨wv3, rfl, H1'.out.1.trans (h3.bl.mono H1'.out.1.size), by rw [hfin]; exact owns_base h3.ry H1'.out.1.size⟩
                have c7 := (tk_store h3.y).1
                have l7 := tk_lt h3.y
                clear h3 hfin
                go_wp2_with fail
                try rw [Exit.noGoto_ret]
                go_ret
                exact FIN.out
              | none =>
                obtain ⟨rfl, wv3, h3⟩ := hr
                have FIN : Hid (∃ f wv, mostN ls i (t + 1) = (f, none) ∧ Fs w1 ib wb sb fb db g n i (.slice p n c) f [] wv w10) := ⟨f', wv3, HM1.out, h3⟩
                clear h3
                go_wp2_with fail
                go_roundw
                case rel => exact ⟨t + 1, by omega, by go_num, FIN.out⟩
                case measure => simp [RowKit.intOf]; omega
          · have hltz2 : ¬ (t : Int) < (n : Int) := by omega
            obtain rfl : t = n := by omega
            have FIN : Hid (findN ls (i + 1) = none ∧ ∃ wv, Fb w1 sb wb (.slice p t c) wv wr) := ⟨by rw [findN, HFI.out, ← HN.out]; simp only [hmo], wv2, hfs.bl, hfs.s, hfs.y, hfs.ry, hfs.lo⟩
            clear hmo hfs
            go_wp2_with fail
            go_roundw
            case rel => exact ⟨i + 1, by omega, by go_num, FIN.out⟩
            case measure => simp [RowKit.intOf]; omega
    · have hltz : ¬ (i : Int) < (n : Int) := by omega
      obtain rfl : i = n := by omega
      have hfin : (findN ls ls.length).getD [] = [] := by rw [← HN.out, hfi]; rfl
      have FIN : Hid (Fn w ls (.returned wv) wr) := ⟨wv, rfl, H1'.out.1.trans (hfb.bl.mono H1'.out.1.size), by rw [hfin]; exact owns_base hfb.ry H1'.out.1.size⟩
      have c7 := (tk_store hfb.y).1
      have l7 := tk_lt hfb.y
      clear HI hfi hfb hfin
      go_wp2_with fail
      try rw [Exit.noGoto_ret]
      go_ret
      exact FIN.out
theorem find_any {B gb : Nat} {g : Gph} (w : World) (h : Gm B w gb g) (hOK : Gok g) : Calls Tryz.prog 11 #[.pointer (some ⟨gb, 0, none⟩)] w (Fn w (stL g)) := find_of w (stepsOf_any w h hOK) (stL_good hOK).1 (stL_good hOK).2
theorem findNil_any (w : World) : Calls Tryz.prog 11 #[.pointer none] w (Fn w []) := by
  refine find_of w ((stepsNil_any w).mono ?_) (by simp) (fun l hl => by cases hl)
  rintro r w' ⟨p, c, rfl, hb⟩
  exact ⟨_, rfl, hb, [], Or.inr ⟨rfl, p, c, rfl⟩, rfl, fun i x l hx => by simp at hx⟩
end Go.Proofs.YtngnfglnfkhheaaGreat.Df

namespace Go.Proofs.YtngnfglnfkhheaaGreat.Df
open Go.RowKit Go.Sort
attribute [local go_sem ↓] Go.wp_at_zero Go.wp_at_succ

/-- The document's third example; u: the loop's path. -/
def exN (k i o : Int) (u : Nat) : NV := ⟨⟨k, i, o, [], (u, 0, 0), 0, [], false⟩, none, 0, 0, none, 0, 0⟩
def exX (u : Nat) : List NV := [exN 1 0 1 0, exN 4 2 1 0, exN 5 1 1 u]
def exE : List Edg := [⟨0, 0, 1, 0, false⟩, ⟨1, 0, 2, 0, false⟩, ⟨2, 0, 1, 1, false⟩]
abbrev exG (u : Nat) : Gph := gof 2 (exX u) exE
theorem ex_fl (u : Nat) (hu : u = 0 ∨ u = 1) : Fl (exG u) 0 0 := by
  refine Fl.none (by show (1 : Int) ≤ 2; decide) (by show (2 : Int) ≤ 3; decide) (by show 3 ≤ 24; decide) (by show 3 ≤ 48; decide) ?_ ?_
  · intro j n hj hn
    have hj : j < 3 := hj
    rcases hu with rfl | rfl <;> rcases (by omega : j = 0 ∨ j = 1 ∨ j = 2) with rfl | rfl | rfl <;> simp [exX, exN] at hn <;> subst hn <;> rfl
  · intro j d hj hd
    have hj : j < 3 := hj
    rcases hu with rfl | rfl <;> rcases (by omega : j = 0 ∨ j = 1 ∨ j = 2) with rfl | rfl | rfl <;> simp [exE] at hd <;> subst hd <;> rfl
theorem srt1 (x : Int) : srtI [x] = [x] := by simp [srtI]
theorem srt0 : srtI [] = [] := by simp [srtI]
def exL1 : List (List Int) := [[1], [3], [3], [4], [], [2]]
def exL0 : List (List Int) := [[1], [3], [3], [4], [5], [2]]
theorem ex_st1 : stL (exG 1) = exL1 := by
  have h6 : plN (exG 1).nodes = 6 := by decide
  unfold stL
  rw [h6]
  have e0 : fromS (stS (exG 1)) 0 = [1] := by decide
  have e1 : fromS (stS (exG 1)) 1 = [3] := by decide
  have e2 : fromS (stS (exG 1)) 2 = [3] := by decide
  have e3 : fromS (stS (exG 1)) 3 = [4] := by decide
  have e4 : fromS (stS (exG 1)) 4 = [] := by decide
  have e5 : fromS (stS (exG 1)) 5 = [2] := by decide
  show [srtI (fromS (stS (exG 1)) 0), srtI (fromS (stS (exG 1)) 1), srtI (fromS (stS (exG 1)) 2), srtI (fromS (stS (exG 1)) 3), srtI (fromS (stS (exG 1)) 4), srtI (fromS (stS (exG 1)) 5)] = _
  rw [e0, e1, e2, e3, e4, e5, srt1, srt1, srt1, srt0, srt1]
  rfl
theorem ex_st0 : stL (exG 0) = exL0 := by
  have h6 : plN (exG 0).nodes = 6 := by decide
  unfold stL
  rw [h6]
  have e0 : fromS (stS (exG 0)) 0 = [1] := by decide
  have e1 : fromS (stS (exG 0)) 1 = [3] := by decide
  have e2 : fromS (stS (exG 0)) 2 = [3] := by decide
  have e3 : fromS (stS (exG 0)) 3 = [4] := by decide
  have e4 : fromS (stS (exG 0)) 4 = [5] := by decide
  have e5 : fromS (stS (exG 0)) 5 = [2] := by decide
  show [srtI (fromS (stS (exG 0)) 0), srtI (fromS (stS (exG 0)) 1), srtI (fromS (stS (exG 0)) 2), srtI (fromS (stS (exG 0)) 3), srtI (fromS (stS (exG 0)) 4), srtI (fromS (stS (exG 0)) 5)] = _
  rw [e0, e1, e2, e3, e4, e5, srt1, srt1, srt1, srt1, srt1]
  rfl
theorem ex_ord1 : ∃ f, ordN 6 exL1 6 = some ([0, 1, 5, 2, 3, 4], f) := ⟨_, rfl⟩
theorem ex_ord0 : ordN 6 exL0 6 = none := rfl
theorem ex_find1 : findN exL1 6 = none := by decide
theorem ex_find0 : findN exL0 6 = some [2, 3, 4, 5] := by decide
theorem ints_inj {a b : List Nat} (h : ints a = ints b) : a = b := by
  induction a generalizing b with
  | nil =>
    cases b with
    | nil => rfl
    | cons => cases h
  | cons x a ih =>
    cases b with
    | nil => cases h
    | cons y b =>
      simp only [ints, List.map_cons, List.cons.injEq] at h
      obtain rfl : x = y := by omega
      rw [ih h.2]
theorem sm_rowK {w : World} {b c : Nat} {α : Type} {E : El α} {T : TypeId} {l : List α} {cs : Array Value} (hcs : cs.toList = fl E l) (hb : w.heap[b]? = some (.cells cs T (0, 0))) : Ls E w (.slice (some ⟨b, 0, none⟩) l.length c) l := by
  refine Or.inr ⟨b, 0, c, rfl, tk_lt hb, fun j u hj => ?_⟩
  rw [Nat.zero_add, (tk_store hb).1, ← Array.getElem?_toList, hcs]
  exact hj
theorem ex_gr {w : World} {b1 b2 c1 c2 : Nat} (u : Nat) (h1 : w.heap[b1]? = some (.cells (fl EV (exX u)).toArray 58 (0, 0))) (h2 : w.heap[b2]? = some (.cells (fl ED exE).toArray 74 (0, 0))) : GR w.heap.size w (.slice (some ⟨b1, 0, none⟩) 3 c1) (.slice (some ⟨b2, 0, none⟩) 3 c2) (exX u) exE := by
  refine ⟨Or.inl ⟨sm_rowK (E := EV) (l := exX u) rfl h1, fun k hk => ?_⟩, Or.inl ⟨sm_rowK (E := ED) (l := exE) rfl h2, fun k hk => ?_⟩, fun x hx => ?_, fun x hx => ?_, by simp [exX, exE]⟩
  · simp only [Value.ownBlock, Option.some.injEq] at hk
    have := tk_lt h1
    omega
  · simp only [Value.ownBlock, Option.some.injEq] at hk
    have := tk_lt h2
    omega
  · simp only [exX, List.mem_cons, List.not_mem_nil, or_false] at hx
    rcases hx with rfl | rfl | rfl <;> exact ⟨Lz.nil _ _ _, Lz.nil _ _ _⟩
  · simp only [exX, List.mem_cons, List.not_mem_nil, or_false] at hx
    rcases hx with rfl | rfl | rfl <;> simp [exN]
set_option maxRecDepth 100000 in
theorem example_any (u : Nat) (w : World) : Calls Tryz.prog 21 #[.int .u64 (u : Nat)] w fun r w' => r = .returned (.agg (gvc 2 (.slice (some ⟨w.heap.size + 1, 0, none⟩) 3 3) (.slice (some ⟨w.heap.size + 1 + 1, 0, none⟩) 3 3))) ∧ Hid (Below w.heap.size w w' ∧ GR w'.heap.size w' (.slice (some ⟨w.heap.size + 1, 0, none⟩) 3 3) (.slice (some ⟨w.heap.size + 1 + 1, 0, none⟩) 3 3) (exX u) exE) := by
  go_enter Tryz.func21, Tryz.ntmps21
  go_wp2_with fail
  refine bodyPost_ret (v := .agg #[.int .i64 2, .slice (some ⟨w.heap.size + 1, 0, none⟩) 3 3, .slice (some ⟨w.heap.size + 1 + 1, 0, none⟩) 3 3]) (by simp [results, Tryz.results21, go_sem]) rfl ?_
  exact ⟨rfl, ((((Gr.refl w).alloc _).alloc _).alloc _).below, ex_gr u (new3 w _ _ _).2.1 (new3 w _ _ _).2.2⟩
/-- A graph of the example. -/
theorem exNew_any (u : Nat) (hu : u = 0 ∨ u = 1) {b1 b2 : Nat} (w : World) (h : GR w.heap.size w (.slice (some ⟨b1, 0, none⟩) 3 3) (.slice (some ⟨b2, 0, none⟩) 3 3) (exX u) exE) : Calls Tryz.prog 8 #[.agg (gvc 2 (.slice (some ⟨b1, 0, none⟩) 3 3) (.slice (some ⟨b2, 0, none⟩) 3 3))] w fun r w' => ∃ gb, r = .returned (.tuple #[.pointer (some ⟨gb, 0, none⟩), .int .i64 0, .int .i64 0]) ∧ Hid (Below w.heap.size w w' ∧ Gm w.heap.size w' gb (exG u)) := by
  refine (new_any (a := 2) w h ⟨?_, ?_⟩).mono ?_
  · intro p n c e
    simp only [Value.slice.injEq] at e
    omega
  · intro x hx
    simp only [exX, List.mem_cons, List.not_mem_nil, or_false] at hx
    rcases hx with rfl | rfl | rfl <;> simp [exN]
  · rintro r w' ⟨hb, e, t, hfl, hr⟩
    obtain ⟨rfl, rfl⟩ := hfl.same (ex_fl u hu)
    rcases hr with ⟨h0, _⟩ | ⟨_, gb, rfl, hm⟩
    · exact absurd rfl h0
    · exact ⟨gb, rfl, hb, hm⟩
end Go.Proofs.YtngnfglnfkhheaaGreat.Df

namespace Go.Proofs.YtngnfglnfkhheaaGreat.Df
open Go.RowKit Go.Sort
attribute [local go_sem ↓] Go.wp_at_zero Go.wp_at_succ

theorem own_z {w : World} {B : Nat} {d : Value} {l : List Int} {n : Nat} (h : w.ownsRow B 3 1 d n (fl EI l)) (hn : n = l.length) : ∃ q c, d = .slice q n c ∧ Lz EI w.heap.size w d l := by
  subst hn
  have hz := owns_lz (E := EI) h
  obtain ⟨p, c, e⟩ := hz.form
  exact ⟨p, c, e, hz⟩
theorem exOrd1_any {B gb : Nat} (w : World) (h : Gm B w gb (exG 1)) : Calls Tryz.prog 9 #[.pointer (some ⟨gb, 0, none⟩)] w fun r w' => ∃ q c, r = .returned (.tuple #[.slice q 6 c, .int .i64 0]) ∧ Hid (Below w.heap.size w w' ∧ Lz EI w'.heap.size w' (.slice q 6 c) [0, 1, 5, 2, 3, 4]) := by
  refine (order_any w h ((ex_fl 1 (Or.inr rfl)).ok.1 rfl)).mono ?_
  rintro r w' ⟨hb, hr⟩
  rw [ex_st1] at hr
  obtain ⟨f1, hf1⟩ := ex_ord1
  rcases hr with ⟨e, _⟩ | ⟨o, f, d, e, rfl, hrow⟩
  · rw [show exL1.length = 6 from rfl, hf1] at e
    cases e
  · rw [show exL1.length = 6 from rfl, hf1] at e
    simp only [Option.some.injEq, Prod.mk.injEq] at e
    obtain ⟨rfl, _⟩ := e
    obtain ⟨q, c, rfl, hz⟩ := own_z hrow rfl
    exact ⟨q, c, rfl, hb, hz⟩
theorem exRank1_any {B gb : Nat} (w : World) (h : Gm B w gb (exG 1)) : Calls Tryz.prog 10 #[.pointer (some ⟨gb, 0, none⟩)] w fun r w' => ∃ q c, r = .returned (.tuple #[.slice q 6 c, .int .i64 0]) ∧ Hid (Below w.heap.size w w' ∧ Lz EI w'.heap.size w' (.slice q 6 c) [0, 1, 1, 2, 3, 0]) := by
  refine (rank_any w h ((ex_fl 1 (Or.inr rfl)).ok.1 rfl)).mono ?_
  rintro r w' ⟨hb, hr⟩
  rw [ex_st1] at hr
  obtain ⟨f1, hf1⟩ := ex_ord1
  rcases hr with ⟨e, _⟩ | ⟨us, f, d, e, rfl, hrow⟩
  · rw [show exL1.length = 6 from rfl, hf1] at e
    cases e
  · rw [show exL1.length = 6 from rfl, hf1] at e
    simp only [Option.some.injEq, Prod.mk.injEq] at e
    obtain rfl : [0, 1, 5, 2, 3, 4] = us := ints_inj e.1
    have hl : fnL exL1.length (rkN exL1 [0, 1, 5, 2, 3, 4]) = [0, 1, 1, 2, 3, 0] := by decide
    rw [hl] at hrow
    obtain ⟨q, c, rfl, hz⟩ := own_z hrow rfl
    exact ⟨q, c, rfl, hb, hz⟩
theorem exFind1_any {B gb : Nat} (w : World) (h : Gm B w gb (exG 1)) : Calls Tryz.prog 11 #[.pointer (some ⟨gb, 0, none⟩)] w fun r w' => ∃ q c, r = .returned (.slice q 0 c) ∧ Hid (Below w.heap.size w w') := by
  refine (find_any w h ((ex_fl 1 (Or.inr rfl)).ok.1 rfl)).mono ?_
  rintro r w' ⟨v, rfl, hb, hrow⟩
  rw [ex_st1, show exL1.length = 6 from rfl, ex_find1] at hrow
  obtain ⟨q, c, rfl, _⟩ := own_z hrow rfl
  exact ⟨q, c, rfl, hb⟩
theorem exFindN_any (w : World) : Calls Tryz.prog 11 #[.pointer none] w fun r w' => ∃ q c, r = .returned (.slice q 0 c) ∧ Hid (Below w.heap.size w w') := by
  refine (findNil_any w).mono ?_
  rintro r w' ⟨v, rfl, hb, hrow⟩
  obtain ⟨q, c, rfl, _⟩ := own_z hrow rfl
  exact ⟨q, c, rfl, hb⟩
theorem exOrd0_any {B gb : Nat} (w : World) (h : Gm B w gb (exG 0)) : Calls Tryz.prog 9 #[.pointer (some ⟨gb, 0, none⟩)] w fun r w' => r = .returned (.tuple #[.slice none 0 0, .int .i64 27]) ∧ Hid (Below w.heap.size w w') := by
  refine (order_any w h ((ex_fl 0 (Or.inl rfl)).ok.1 rfl)).mono ?_
  rintro r w' ⟨hb, hr⟩
  rw [ex_st0] at hr
  rcases hr with ⟨_, rfl⟩ | ⟨o, f, d, e, _⟩
  · exact ⟨rfl, hb⟩
  · rw [show exL0.length = 6 from rfl, ex_ord0] at e
    cases e
theorem exFind0_any {B gb : Nat} (w : World) (h : Gm B w gb (exG 0)) : Calls Tryz.prog 11 #[.pointer (some ⟨gb, 0, none⟩)] w fun r w' => ∃ q c, r = .returned (.slice q 4 c) ∧ Hid (Below w.heap.size w w' ∧ Lz EI w'.heap.size w' (.slice q 4 c) [2, 3, 4, 5]) := by
  refine (find_any w h ((ex_fl 0 (Or.inl rfl)).ok.1 rfl)).mono ?_
  rintro r w' ⟨v, rfl, hb, hrow⟩
  rw [ex_st0, show exL0.length = 6 from rfl, ex_find0] at hrow
  obtain ⟨q, c, rfl, hz⟩ := own_z hrow rfl
  exact ⟨q, c, rfl, hb, hz⟩
theorem lit_z (w : World) {l : List Int} {cs : Array Value} (hcs : cs.toList = fl EI l) : Lz EI (w.alloc (.cells cs 3)).heap.size (w.alloc (.cells cs 3)) (.slice (some ⟨w.heap.size, 0, none⟩) l.length l.length) l := Or.inl ⟨sm_rowK hcs (heap_new' _ _), fun k hk => by simp only [Value.ownBlock, Option.some.injEq] at hk; simp; omega⟩
set_option maxRecDepth 100000 in
set_option maxHeartbeats 4000000 in
/-- What the document fixes. -/
theorem known_any (w : World) : Calls Tryz.prog 6 #[] w fun r w' => r = .returned (.bool true) ∧ Hid (Below w.heap.size w w') := by
  go_enter Tryz.func6, Tryz.ntmps6
  go_wp2_with fail
  refine (example_any 1 w).mono ?_
  rintro r w1 ⟨rfl, H1⟩
  go_wp2_with fail
  refine (exNew_any 1 (Or.inr rfl) w1 H1.out.2).mono ?_
  rintro r w2 ⟨g, rfl, H2⟩
  have B2 : Hid (Below w.heap.size w w2) := H1.out.1.trans (H2.out.1.mono H1.out.1.size)
  go_wp2_with fail
  refine (example_any 0 w2).mono ?_
  rintro r w3 ⟨rfl, H3⟩
  go_wp2_with fail
  refine (exNew_any 0 (Or.inl rfl) w3 H3.out.2).mono ?_
  rintro r w4 ⟨h, rfl, H4⟩
  have B24 : Hid (Below w2.heap.size w2 w4) := H3.out.1.trans (H4.out.1.mono H3.out.1.size)
  have B4 : Hid (Below w.heap.size w w4) := B2.out.trans (B24.out.mono B2.out.size)
  have G1 : Hid (Gm w1.heap.size w4 g (exG 1)) := H2.out.2.below B24.out
  have G0 : Hid (Gm w3.heap.size w4 h (exG 0)) := H4.out.2
  clear H1 H2 H3 H4 B2 B24
  go_wp2_with fail
  refine (exOrd1_any w4 G1.out).mono ?_
  rintro r w5 ⟨q5, c5, rfl, H5⟩
  go_wp2_with fail
  refine (exRank1_any w5 (G1.out.below H5.out.1)).mono ?_
  rintro r w6 ⟨q6, c6, rfl, H6⟩
  have B46 : Hid (Below w4.heap.size w4 w6) := H5.out.1.trans (H6.out.1.mono H5.out.1.size)
  have hs1 := sameI_eq (w6.alloc (.cells #[.int .i64 0, .int .i64 1, .int .i64 5, .int .i64 2, .int .i64 3, .int .i64 4] 3)) (((H5.out.2.below H6.out.1).up H6.out.1.size).below ((Gr.refl w6).alloc _).below |>.up ((Gr.refl w6).alloc _).below.size) (lit_z w6 (l := [0, 1, 5, 2, 3, 4]) rfl) (by decide)
  go_wp2_with fail
  refine hs1.mono ?_
  clear hs1
  rintro r w7 ⟨rfl, g7⟩
  have B67 : Hid (Below w6.heap.size w6 w7) := ((Gr.refl w6).alloc _).below.trans (g7.below.mono ((Gr.refl w6).alloc _).below.size)
  clear g7
  have hs2 := sameI_eq (w7.alloc (.cells #[.int .i64 0, .int .i64 1, .int .i64 1, .int .i64 2, .int .i64 3, .int .i64 0] 3)) (((H6.out.2.below B67.out).up B67.out.size).below ((Gr.refl w7).alloc _).below |>.up ((Gr.refl w7).alloc _).below.size) (lit_z w7 (l := [0, 1, 1, 2, 3, 0]) rfl) (by decide)
  go_wp2_with fail
  refine hs2.mono ?_
  clear hs2
  rintro r w8 ⟨rfl, g8⟩
  have B48 : Hid (Below w4.heap.size w4 w8) := by
    have h1 := B46.out.trans (B67.out.mono B46.out.size)
    have h2 := ((Gr.refl w7).alloc (.cells #[.int .i64 0, .int .i64 1, .int .i64 1, .int .i64 2, .int .i64 3, .int .i64 0] 3)).below.trans (g8.below.mono ((Gr.refl w7).alloc _).below.size)
    exact h1.trans (h2.mono h1.size)
  clear g8 B67 B46 H5 H6
  go_wp2_with fail
  refine (exFind1_any w8 (G1.out.below B48.out)).mono ?_
  rintro r w9 ⟨q9, c9, rfl, H9⟩
  have B49 : Hid (Below w4.heap.size w4 w9) := B48.out.trans (H9.out.mono B48.out.size)
  clear B48 H9
  go_wp2_with fail
  refine (exOrd0_any w9 (G0.out.below B49.out)).mono ?_
  rintro r w10 ⟨rfl, H10⟩
  have B410 : Hid (Below w4.heap.size w4 w10) := B49.out.trans (H10.out.mono B49.out.size)
  clear B49 H10
  go_wp2_with fail
  refine (orderNil_any w10).mono ?_
  rintro r w11 ⟨rfl, hw11⟩
  subst hw11
  go_wp2_with fail
  refine (rankNil_any w11).mono ?_
  rintro r w12 ⟨rfl, hw12⟩
  subst hw12
  go_wp2_with fail
  refine (exFind0_any w12 (G0.out.below B410.out)).mono ?_
  rintro r w13 ⟨q13, c13, rfl, H13⟩
  have B413 : Hid (Below w4.heap.size w4 w13) := B410.out.trans (H13.out.1.mono B410.out.size)
  have hs3 := sameI_eq (w13.alloc (.cells #[.int .i64 2, .int .i64 3, .int .i64 4, .int .i64 5] 3)) (H13.out.2.below ((Gr.refl w13).alloc _).below |>.up ((Gr.refl w13).alloc _).below.size) (lit_z w13 (l := [2, 3, 4, 5]) rfl) (by decide)
  go_wp2_with fail
  refine hs3.mono ?_
  clear hs3
  rintro r w14 ⟨rfl, g14⟩
  have B14 : Hid (Below w.heap.size w w14) := by
    have h1 := ((Gr.refl w13).alloc (.cells #[.int .i64 2, .int .i64 3, .int .i64 4, .int .i64 5] 3)).below.trans (g14.below.mono ((Gr.refl w13).alloc _).below.size)
    have h2 := B413.out.trans (h1.mono B413.out.size)
    exact B4.out.trans (h2.mono B4.out.size)
  clear g14
  go_wp2_with fail
  refine (exFindN_any w14).mono ?_
  rintro r w15 ⟨q15, c15, rfl, H15⟩
  go_wp2_with fail
  go_ret
  exact ⟨by first | rfl | simp, B14.out.trans (H15.out.mono B14.out.size)⟩
end Go.Proofs.YtngnfglnfkhheaaGreat.Df

namespace Go.Proofs.YtngnfglnfkhheaaGreat
open Go.RowKit Go.Sort
attribute [local go_sem ↓] Go.wp_at_zero Go.wp_at_succ

set_option maxHeartbeats 1000000 in
theorem numbers_any (a b c : Int) (w : World) :
    Calls Tryz.prog 101 #[.agg #[.int .u64 a, .int .u64 b, .int .u64 c]] w fun e w' =>
      e = .returned (.slice (some ⟨w.heap.size + 1, 0, none⟩) 3 3) ∧ w' = (w.alloc (.cells #[.int .u64 a, .int .u64 b, .int .u64 c] 117)).alloc (.cells #[.int .u64 a, .int .u64 b, .int .u64 c] 41) := by
  go_enter Tryz.func101, Tryz.ntmps101
  go_wp2
  go_ret
  exact ⟨rfl, rfl⟩
set_option maxHeartbeats 1000000 in
set_option maxRecDepth 100000 in
theorem refFits_bad (a b c n : Int) (w : World) (h : n < 1 ∨ 3 < n) :
    Calls Tryz.prog 75 #[.agg #[.int .u64 a, .int .u64 b, .int .u64 c], .int .i64 n] w fun e w' => e = .returned (.int .i64 10) ∧ Gr w w' := by
  rcases h with h | h
  · go_enter Tryz.func75, Tryz.ntmps75
    go_wp2
    go_ret
    exact ⟨rfl, (Gr.refl _).alloc _⟩
  · have h' : ¬ n < 1 := by omega
    go_enter Tryz.func75, Tryz.ntmps75
    go_wp2
    go_ret
    exact ⟨rfl, (Gr.refl _).alloc _⟩

set_option maxHeartbeats 1000000 in
set_option maxRecDepth 100000 in
theorem refFits_1b (a b c : Int) (w : World) (hb : b ≠ 0) :
    Calls Tryz.prog 75 #[.agg #[.int .u64 a, .int .u64 b, .int .u64 c], .int .i64 1] w fun e w' => e = .returned (.int .i64 10) ∧ Gr w w' := by
  have hb' : (b != 0) = true := by rw [bne_iff_ne]; exact hb
  have hN := fun a b c W => numbers_any a b c W
  go_enter Tryz.func75, Tryz.ntmps75
  go_wp2_with (go_at_call 101; refine (hN _ _ _ _).mono ?_; rintro e w1 ⟨rfl, rfl⟩)
  refine wp_loop_rounds 4 ?_
  rw [rounds_succ]; go_wp2
  go_ret
  exact ⟨rfl, (by repeat (first | exact Gr.refl _ | refine Gr.drewN ?_ _ | refine Gr.drew ?_ | refine Gr.alloc ?_ _))⟩

set_option maxHeartbeats 1000000 in
set_option maxRecDepth 100000 in
theorem refFits_1c (a b c : Int) (w : World) (hb : b = 0) (hc : c ≠ 0) :
    Calls Tryz.prog 75 #[.agg #[.int .u64 a, .int .u64 b, .int .u64 c], .int .i64 1] w fun e w' => e = .returned (.int .i64 10) ∧ Gr w w' := by
  subst hb
  have hc' : (c != 0) = true := by rw [bne_iff_ne]; exact hc
  have hN := fun a b c W => numbers_any a b c W
  go_enter Tryz.func75, Tryz.ntmps75
  go_wp2_with (go_at_call 101; refine (hN _ _ _ _).mono ?_; rintro e w1 ⟨rfl, rfl⟩)
  refine wp_loop_rounds 4 ?_
  rw [rounds_succ]; go_wp2
  rw [rounds_succ]; go_wp2
  go_ret
  exact ⟨rfl, (by repeat (first | exact Gr.refl _ | refine Gr.drewN ?_ _ | refine Gr.drew ?_ | refine Gr.alloc ?_ _))⟩

set_option maxHeartbeats 1000000 in
set_option maxRecDepth 100000 in
theorem refFits_1 (a b c : Int) (w : World) (hb : b = 0) (hc : c = 0) :
    Calls Tryz.prog 75 #[.agg #[.int .u64 a, .int .u64 b, .int .u64 c], .int .i64 1] w fun e w' => e = .returned (.int .i64 0) ∧ Gr w w' := by
  subst hb
  subst hc
  have hN := fun a b c W => numbers_any a b c W
  go_enter Tryz.func75, Tryz.ntmps75
  go_wp2_with (go_at_call 101; refine (hN _ _ _ _).mono ?_; rintro e w1 ⟨rfl, rfl⟩)
  refine wp_loop_rounds 4 ?_
  rw [rounds_succ]; go_wp2
  rw [rounds_succ]; go_wp2
  rw [rounds_succ]; go_wp2
  go_ret
  exact ⟨rfl, (by repeat (first | exact Gr.refl _ | refine Gr.drewN ?_ _ | refine Gr.drew ?_ | refine Gr.alloc ?_ _))⟩

set_option maxHeartbeats 1000000 in
set_option maxRecDepth 100000 in
theorem refFits_2c (a b c : Int) (w : World) (hc : c ≠ 0) :
    Calls Tryz.prog 75 #[.agg #[.int .u64 a, .int .u64 b, .int .u64 c], .int .i64 2] w fun e w' => e = .returned (.int .i64 10) ∧ Gr w w' := by
  have hc' : (c != 0) = true := by rw [bne_iff_ne]; exact hc
  have hN := fun a b c W => numbers_any a b c W
  go_enter Tryz.func75, Tryz.ntmps75
  go_wp2_with (go_at_call 101; refine (hN _ _ _ _).mono ?_; rintro e w1 ⟨rfl, rfl⟩)
  refine wp_loop_rounds 4 ?_
  rw [rounds_succ]; go_wp2
  go_ret
  exact ⟨rfl, (by repeat (first | exact Gr.refl _ | refine Gr.drewN ?_ _ | refine Gr.drew ?_ | refine Gr.alloc ?_ _))⟩

set_option maxHeartbeats 1000000 in
set_option maxRecDepth 100000 in
theorem refFits_2 (a b c : Int) (w : World) (hc : c = 0) :
    Calls Tryz.prog 75 #[.agg #[.int .u64 a, .int .u64 b, .int .u64 c], .int .i64 2] w fun e w' => e = .returned (.int .i64 0) ∧ Gr w w' := by
  subst hc
  have hN := fun a b c W => numbers_any a b c W
  go_enter Tryz.func75, Tryz.ntmps75
  go_wp2_with (go_at_call 101; refine (hN _ _ _ _).mono ?_; rintro e w1 ⟨rfl, rfl⟩)
  refine wp_loop_rounds 4 ?_
  rw [rounds_succ]; go_wp2
  rw [rounds_succ]; go_wp2
  go_ret
  exact ⟨rfl, (by repeat (first | exact Gr.refl _ | refine Gr.drewN ?_ _ | refine Gr.drew ?_ | refine Gr.alloc ?_ _))⟩

set_option maxHeartbeats 1000000 in
set_option maxRecDepth 100000 in
theorem refFits_3 (a b c : Int) (w : World)  :
    Calls Tryz.prog 75 #[.agg #[.int .u64 a, .int .u64 b, .int .u64 c], .int .i64 3] w fun e w' => e = .returned (.int .i64 0) ∧ Gr w w' := by
  have hN := fun a b c W => numbers_any a b c W
  go_enter Tryz.func75, Tryz.ntmps75
  go_wp2_with (go_at_call 101; refine (hN _ _ _ _).mono ?_; rintro e w1 ⟨rfl, rfl⟩)
  refine wp_loop_rounds 4 ?_
  rw [rounds_succ]; go_wp2
  go_ret
  exact ⟨rfl, (by repeat (first | exact Gr.refl _ | refine Gr.drewN ?_ _ | refine Gr.drew ?_ | refine Gr.alloc ?_ _))⟩

theorem refFits_any (a b c n : Int) (w : World) :
    Calls Tryz.prog 75 #[.agg #[.int .u64 a, .int .u64 b, .int .u64 c], .int .i64 n] w fun e w' => e = .returned (.int .i64 (tfits a b c n)) ∧ Gr w w' := by
  by_cases h : n < 1 ∨ 3 < n
  · rw [show tfits a b c n = 10 by simp [tfits, h]]; exact refFits_bad a b c n w h
  · have hn : n = 1 ∨ n = 2 ∨ n = 3 := by omega
    rcases hn with rfl | rfl | rfl
    · by_cases hb : b = 0
      · by_cases hc : c = 0
        · rw [show tfits a b c 1 = 0 by simp [tfits, hb, hc]]; exact refFits_1 a b c w hb hc
        · rw [show tfits a b c 1 = 10 by simp [tfits, hc]]; exact refFits_1c a b c w hb hc
      · rw [show tfits a b c 1 = 10 by simp [tfits, hb]]; exact refFits_1b a b c w hb
    · by_cases hc : c = 0
      · rw [show tfits a b c 2 = 0 by simp [tfits, hc]]; exact refFits_2 a b c w hc
      · rw [show tfits a b c 2 = 10 by simp [tfits, hc]]; exact refFits_2c a b c w hc
    · rw [show tfits a b c 3 = 0 by simp [tfits]]; exact refFits_3 a b c w
end Go.Proofs.YtngnfglnfkhheaaGreat
