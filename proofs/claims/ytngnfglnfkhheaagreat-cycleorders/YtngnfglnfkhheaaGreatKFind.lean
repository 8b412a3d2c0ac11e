import Derived.Test.YtngnfglnfkhheaaGreatJ3
import Derived.Test.YtngnfglnfkhheaaGreatKTop
import Derived.BigQuiet
import Derived.WalkMore
namespace Go.Proofs.YtngnfglnfkhheaaGreat.Df
open Go.RowKit Go.Sort
attribute [local go_sem ↓] Go.wp_at_zero Go.wp_at_succ

theorem findN_mono {ls : List (List Int)} {i j : Nat} {l : List Nat} (h : findN ls i = some l) (hij : i ≤ j) : findN ls j = some l := by
  induction j with
  | zero =>
    obtain rfl : i = 0 := by omega
    exact h
  | succ j ih =>
    by_cases e : i = j + 1
    · subst e
      exact h
    · rw [findN, ih (by omega)]
theorem findN_skip {ls : List (List Int)} {i : Nat} (h0 : ∀ l ∈ ls, ∀ x ∈ l, (0 : Int) ≤ x) (h : findN ls i = none) (hr : ∀ m, ¬ Ry ls i m i) : findN ls (i + 1) = none := by
  rw [findN, h]
  have h1 := (mostN_ok (ls := ls) (q := i) h0 ls.length).2
  revert h1
  cases (mostN ls i ls.length).2 with
  | none => intro _; rfl
  | some l => intro h1; exact absurd ⟨l, h1.1, h1.2.1, Nat.le_refl _⟩ (hr l.length)
theorem mostN_some {ls : List (List Int)} {q t m : Nat} {f : Nat → Int} {l : List Nat} (h : mostN ls q t = (f, some l)) (htm : t ≤ m) : mostN ls q m = (f, some l) := by
  induction m with
  | zero =>
    obtain rfl : t = 0 := by omega
    exact h
  | succ m ih =>
    by_cases e : t = m + 1
    · subst e
      exact h
    · rw [mostN, ih (by omega)]
/-- What stands while first places are tried. -/
structure Fb (w : World) (sb wb : Nat) (v wv : Value) (W : World) : Prop where
  bl : Below w.heap.size w W
  s : W.heap[sb]? = some (.cells #[v] 67 (0, 0))
  y : W.heap[wb]? = some (.cells #[wv] 33 (0, 0))
  ry : W.ownsRow w.heap.size 3 1 wv 0 []
  lo : w.heap.size ≤ wb
theorem Fb.below {w W W' : World} {sb wb : Nat} {v wv : Value} (h : Fb w sb wb v wv W) (hb : Below W.heap.size W W') : Fb w sb wb v wv W' := ⟨h.bl.trans (hb.mono h.bl.size), (hb.block _ (tk_lt h.s)).trans h.s, (hb.block _ (tk_lt h.y)).trans h.y, owns_below h.ry hb, h.lo⟩
/-- What Find answers. -/
def Fn (w : World) (ls : List (List Int)) (r : Ending) (w' : World) : Prop := ∃ v, r = .returned v ∧ Below w.heap.size w w' ∧ w'.ownsRow w.heap.size 3 1 v ((findN ls ls.length).getD []).length (fl EI (ints ((findN ls ls.length).getD [])))
set_option maxRecDepth 100000 in
set_option maxHeartbeats 8000000 in
theorem find_of {gp : Option Addr} {ls : List (List Int)} (w : World) (hs : Calls Tryz.prog 29 #[.pointer gp] w fun r w' => ∃ v, r = .returned v ∧ Hid (Below w.heap.size w w' ∧ Ff w'.heap.size w' v ls)) (hn : ls.length ≤ 1000) (hx : ∀ l ∈ ls, l.length ≤ 1000 ∧ ∀ x ∈ l, 0 ≤ x ∧ x < (ls.length : Int)) : Calls Tryz.prog 11 #[.pointer gp] w (Fn w ls) := by
  obtain ⟨i0, hi0, hz0, hz1, hz2⟩ := info_parts infoIK
  obtain ⟨n, hnn⟩ : ∃ n, n = ls.length := ⟨_, rfl⟩
  rw [← hnn] at hn hx
  have HN := hid hnn
  have HX := hid hx
  have H0 : Hid (∀ l ∈ ls, ∀ x ∈ l, (0 : Int) ≤ x) := fun l hl x hxl => ((hx l hl).2 x hxl).1
  clear hnn hx
  go_enter Tryz.func11, Tryz.ntmps11
  go_wp2_with fail
  go_step3
  go_wp2_with fail
  refine hs.mono ?_
  clear hs
  rintro r w1 ⟨v, rfl, H1⟩
  obtain ⟨p, c, rfl⟩ := H1.out.2.form
  have H1' : Hid (Below w.heap.size w w1 ∧ Ff w1.heap.size w1 (.slice p n c) ls) := by rw [HN.out]; exact H1.out
  rw [← HN.out]
  clear H1
  go_wp2_with fail
  go_step3
  obtain ⟨sb, hsb⟩ : ∃ b, b = w1.heap.size := ⟨_, rfl⟩
  obtain ⟨W2, hW2⟩ : ∃ W, W = (w1.alloc (.cells #[.slice p n c] 67)).alloc (.cells #[.slice none 0 0] 33) := ⟨_, rfl⟩
  rw [← hW2, ← hsb]
  have B2 : Hid (Fb w1 sb (sb + 1) (.slice p n c) (.slice none 0 0) W2) := by
    rw [hW2, hsb]
    exact ⟨(((Gr.refl w1).alloc _).alloc _).below, new1' w1 _ _, new2' w1 _ _, World.ownsRow_nil _ _ _ _, by omega⟩
  obtain ⟨wb, hwb⟩ : ∃ b, b = sb + 1 := ⟨_, rfl⟩
  rw [← hwb] at B2 ⊢
  have HSB : Hid (sb = w1.heap.size ∧ wb = sb + 1) := ⟨hsb, hwb⟩
  have c2 := (tk_store B2.out.s).1
  have l2 := tk_lt B2.out.s
  clear hW2 hsb hwb
  go_wp2_with fail
  clear c2 l2
  go_loopw [13] (fun s13 wr => ∃ i : Nat, i ≤ n ∧ s13 = .int .i64 (i : Nat) ∧ Hid (findN ls i = none ∧ ∃ wv, Fb w1 sb wb (.slice p n c) wv wr)) (fun s13 _ => n - (RowKit.intOf s13).toNat)
  case atStart => exact ⟨0, Nat.zero_le _, rfl, rfl, _, B2.out⟩
  case round =>
    clear B2
    obtain ⟨i, hi, rfl, HI⟩ := hrel
    obtain ⟨hfi, wv, hfb⟩ := HI.out
    by_cases hlt : i < n
    · have hltz : (i : Int) < (n : Int) := by omega
      have hi1 : (0 : Int) ≤ (i : Int) := by omega
      obtain ⟨fb, hfbb⟩ : ∃ b, b = wr.heap.size := ⟨_, rfl⟩
      obtain ⟨W3, hW3⟩ : ∃ W, W = wr.alloc (.cells #[.int .i64 (i : Nat)] 3) := ⟨_, rfl⟩
      have hb3 : Below wr.heap.size wr W3 := by rw [hW3]; exact ((Gr.refl wr).alloc _).below
      have P3 : Hid (Fb w1 sb wb (.slice p n c) wv W3 ∧ W3.heap[fb]? = some (.cells #[.int .i64 (i : Nat)] 3 (0, 0)) ∧ ∀ k, wv.ownBlock = some k → k ≠ fb) := ⟨hfb.below hb3, by rw [hW3, hfbb]; exact heap_new' _ _, fun k e => by have := (owns_rd hfb.ry k e).2; omega⟩
      have HW3 : Hid (wr.alloc (.cells #[.int .i64 (i : Nat)] 3) = W3 ∧ wr.heap.size = fb) := ⟨hW3.symm, hfbb.symm⟩
      have HFI := hid hfi
      clear HI hfi hfb hW3 hfbb hb3
      go_upto_region 6 with fail
      rw [HW3.out.1, HW3.out.2]
      clear HW3
      have c3 := (tk_store P3.out.1.s).1
      have l3 := tk_lt P3.out.1.s
      have c4 := (tk_store P3.out.2.1).1
      have l4 := tk_lt P3.out.2.1
      have hcb := comesBack_any i W3 (H1'.out.2.below P3.out.1.bl) (by rw [← HN.out]; exact hlt) (by rw [← HN.out]; exact hn) (by rw [← HN.out]; exact HX.out)
      go_wp2_with fail
      refine hcb.mono ?_
      clear hcb c3 l3 c4 l4
      rintro r w4 ⟨bb, rfl, HB⟩
      cases bb with
      | false =>
        have FIN : Hid (findN ls (i + 1) = none ∧ ∃ wv, Fb w1 sb wb (.slice p n c) wv w4) := ⟨findN_skip H0.out HFI.out (HB.out.2 rfl), wv, P3.out.1.below HB.out.1⟩
        clear HB P3
        go_wp2_with fail
        go_roundw
        case rel => exact ⟨i + 1, by omega, by go_num, FIN.out⟩
        case measure => simp [RowKit.intOf]; omega
      | true =>
        have P4 : Hid (Fb w1 sb wb (.slice p n c) wv w4 ∧ w4.heap[fb]? = some (.cells #[.int .i64 (i : Nat)] 3 (0, 0)) ∧ ∀ k, wv.ownBlock = some k → k ≠ fb) := ⟨P3.out.1.below HB.out.1, (HB.out.1.block _ (tk_lt P3.out.2.1)).trans P3.out.2.1, P3.out.2.2⟩
        have c3 := (tk_store P4.out.1.s).1
        have l3 := tk_lt P4.out.1.s
        clear HB P3
        go_upto_region 7 with fail
        go_upto_region 8 with (at_make; refine wpList_make_full _ rfl _ _ 33 rfl w4.heap.size 3 i0 (.int .i64 0) 1 Tryz.underlying33 hi0 hz0 hz1 _ _ _ _ n rfl rfl rfl rfl (by rw [hz2]; omega) (by unfold maxLen; omega) (Nat.le_refl _) ?_; intro w5 hrow hg1)
        obtain ⟨g, hg⟩ : ∃ g, g = w4.heap.size := ⟨_, rfl⟩
        obtain ⟨ib, hib⟩ : ∃ b, b = w5.heap.size := ⟨_, rfl⟩
        rw [← hg, ← hib]
        obtain ⟨W6, hW6⟩ : ∃ W, W = w5.alloc (.cells #[.slice (some ⟨g, 0, none⟩) n n] 33) := ⟨_, rfl⟩
        rw [← hW6]
        have HIB := hid hib
        have HW6 := hid hW6
        have HGG := hid hg
        clear c3 l3 hib hW6 hg
        go_upto_region 10 with fail
        obtain ⟨db, hdb⟩ : ∃ b, b = W6.heap.size := ⟨_, rfl⟩
        rw [← hdb]
        obtain ⟨W7, hW7⟩ : ∃ W, W = W6.alloc (.cells #[.func (.func 31) #[] #[.pointer (some ⟨ib, 0, none⟩), .pointer (some ⟨wb, 0, none⟩), .pointer (some ⟨sb, 0, none⟩), .pointer (some ⟨fb, 0, none⟩), .pointer (some ⟨db, 0, none⟩)]] 70) := ⟨_, rfl⟩
        rw [← hW7]
        have F7 : Hid (Fs w1 ib wb sb fb db g n i (.slice p n c) (fun _ => 0) [] wv W7) := by
          have hib := HIB.out
          have hW6 := HW6.out
          have hg := HGG.out
          have b5 : Below w4.heap.size w4 w5 := (Kp.grownBy (S := fun _ => False) hg1 (fun _ h => by cases h)).below (Nat.le_refl _) (fun _ h => h.elim)
          have b6 : Below w5.heap.size w5 W6 := by rw [hW6]; exact ((Gr.refl w5).alloc _).below
          have b7 : Below W6.heap.size W6 W7 := by rw [hW7]; exact ((Gr.refl W6).alloc _).below
          have b57 : Below w5.heap.size w5 W7 := b6.trans (b7.mono b6.size)
          have b47 : Below w4.heap.size w4 W7 := b5.trans (b57.mono b5.size)
          have h7 := P4.out.1.below b47
          have hlf := tk_lt P4.out.2.1
          have hly := tk_lt P4.out.1.y
          have h45 := b5.size
          refine ⟨h7.bl, (b7.block _ (by rw [hib, hW6]; simp)).trans (by rw [hW6, hib]; exact heap_new' _ _), h7.y, h7.s, (b47.block _ hlf).trans P4.out.2.1, by rw [hW7, hdb]; exact heap_new' _ _, ?_, h7.ry, fun k e => ⟨?_, P4.out.2.2 k e⟩, by omega, by omega, h7.lo, fun k => Int.le_refl _⟩
          · rw [hg]
            refine owns_re (owns_below (owns_base hrow P4.out.1.bl.size) b57) rfl ?_
            rw [madeK, fnL_zero, fl_I]
          · have := (owns_rd P4.out.1.ry k e).2
            omega
        have c3 := (tk_store F7.out.s).1
        have l3 := tk_lt F7.out.s
        clear hrow hg1 HGG HIB HW6 hdb hW7 P4
        go_wp2_with fail
        clear c3 l3
        go_loopw [26] (fun s26 wr => ∃ t : Nat, t ≤ n ∧ s26 = .int .i64 (t : Nat) ∧ Hid (∃ f wv, mostN ls i t = (f, none) ∧ Fs w1 ib wb sb fb db g n i (.slice p n c) f [] wv wr)) (fun s26 _ => n - (RowKit.intOf s26).toNat)
        case atStart => exact ⟨0, Nat.zero_le _, rfl, _, _, rfl, F7.out⟩
        case round =>
          clear F7
          obtain ⟨t, ht, rfl, HI⟩ := hrel
          obtain ⟨f, wv2, hmo, hfs⟩ := HI.out
          clear HI
          by_cases hlt2 : t < n
          · have hltz2 : (t : Int) < (n : Int) := by omega
            have hcall := fd_down H1'.out.2 HN.out HX.out (t + 1) wr f [] wv2 i hfs hlt (by simp; omega)
            have c5 := (tk_store hfs.d).1
            have l5 := tk_lt hfs.d
            have c6 := (tk_store hfs.f0).1
            have l6 := tk_lt hfs.f0
            have HMO := hid hmo
            push_cast at hcall
            clear hmo hfs
            go_wp2_with fail
            refine hcall.mono ?_
            clear hcall c5 l5 c6 l6
            intro r w10 hr
            have HR := hid hr
            clear hr
            cases hdn : downN ls i (t + 1) i f with
            | mk a f' =>
              have hr := HR.out
              rw [hdn] at hr
              have hm1 : mostN ls i (t + 1) = (f', a) := by rw [mostN, HMO.out]; simp only [hdn]
              have HM1 := hid hm1
              clear HR hdn hm1
              cases a with
              | some l =>
                obtain ⟨rfl, wv3, h3⟩ := hr
                have hfin : (findN ls ls.length).getD [] = l := by
                  rw [findN_mono (i := i + 1) (l := l) (by rw [findN, HFI.out]; simp only [mostN_some HM1.out (show t + 1 ≤ ls.length by have := HN.out; omega)]) (by have := HN.out; omega)]
                  rfl
                have FIN : Hid (Fn w ls (.returned wv3) w10) := ⟨wv3, rfl, H1'.out.1.trans (h3.bl.mono H1'.out.1.size), by rw [hfin]; exact owns_base h3.ry H1'.out.1.size⟩
                have c7 := (tk_store h3.y).1
                have l7 := tk_lt h3.y
                clear h3 hfin
                go_wp2_with fail
                try rw [Exit.noGoto_ret]
                go_ret
                exact FIN.out
              | none =>
                obtain ⟨rfl, wv3, h3⟩ := hr
                have FIN : Hid (∃ f wv, mostN ls i (t + 1) = (f, none) ∧ Fs w1 ib wb sb fb db g n i (.slice p n c) f [] wv w10) := ⟨f', wv3, HM1.out, h3⟩
                clear h3
                go_wp2_with fail
                go_roundw
                case rel => exact ⟨t + 1, by omega, by go_num, FIN.out⟩
                case measure => simp [RowKit.intOf]; omega
          · have hltz2 : ¬ (t : Int) < (n : Int) := by omega
            obtain rfl : t = n := by omega
            have FIN : Hid (findN ls (i + 1) = none ∧ ∃ wv, Fb w1 sb wb (.slice p t c) wv wr) := ⟨by rw [findN, HFI.out, ← HN.out]; simp only [hmo], wv2, hfs.bl, hfs.s, hfs.y, hfs.ry, hfs.lo⟩
            clear hmo hfs
            go_wp2_with fail
            go_roundw
            case rel => exact ⟨i + 1, by omega, by go_num, FIN.out⟩
            case measure => simp [RowKit.intOf]; omega
    · have hltz : ¬ (i : Int) < (n : Int) := by omega
      obtain rfl : i = n := by omega
      have hfin : (findN ls ls.length).getD [] = [] := by rw [← HN.out, hfi]; rfl
      have FIN : Hid (Fn w ls (.returned wv) wr) := ⟨wv, rfl, H1'.out.1.trans (hfb.bl.mono H1'.out.1.size), by rw [hfin]; exact owns_base hfb.ry H1'.out.1.size⟩
      have c7 := (tk_store hfb.y).1
      have l7 := tk_lt hfb.y
      clear HI hfi hfb hfin
      go_wp2_with fail
      try rw [Exit.noGoto_ret]
      go_ret
      exact FIN.out
theorem find_any {B gb : Nat} {g : Gph} (w : World) (h : Gm B w gb g) (hOK : Gok g) : Calls Tryz.prog 11 #[.pointer (some ⟨gb, 0, none⟩)] w (Fn w (stL g)) := find_of w (stepsOf_any w h hOK) (stL_good hOK).1 (stL_good hOK).2
theorem findNil_any (w : World) : Calls Tryz.prog 11 #[.pointer none] w (Fn w []) := by
  refine find_of w ((stepsNil_any w).mono ?_) (by simp) (fun l hl => by cases hl)
  rintro r w' ⟨p, c, rfl, hb⟩
  exact ⟨_, rfl, hb, [], Or.inr ⟨rfl, p, c, rfl⟩, rfl, fun i x l hx => by simp at hx⟩
end Go.Proofs.YtngnfglnfkhheaaGreat.Df
