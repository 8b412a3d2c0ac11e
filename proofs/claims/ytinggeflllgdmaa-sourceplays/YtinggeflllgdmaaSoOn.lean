import Derived.Test.YtinggeflllgdmaaSoTak
import Derived.BigQuiet
namespace Go.Proofs.Ytinggeflllgdmaa
open Go.RowKit Go.Sort
attribute [local go_sem ↓] Go.wp_at_zero Go.wp_at_succ

/-- Times as elements of lists. -/
def E3 : El T3 where
  k := 3
  enc t := [.int .u64 t.1, .int .u64 t.2.1, .int .u64 t.2.2]
  len _ := rfl
  one x u hu := by
    simp at hu
    rcases hu with rfl | rfl | rfl <;> rfl
theorem Ls.at3 {w : World} {v : Value} {ts : List T3} (h : Ls E3 w v ts) {j : Nat} {t : T3} (hj : ts[j]? = some t) :
    ∃ b off c, v = .slice (some ⟨b, off, none⟩) ts.length c ∧ b < w.heap.size ∧ w.cell? ⟨b, off + j * 3, none⟩ = some (.int .u64 t.1) ∧ w.cell? ⟨b, off + j * 3 + 1, none⟩ = some (.int .u64 t.2.1) ∧ w.cell? ⟨b, off + j * 3 + 2, none⟩ = some (.int .u64 t.2.2) := by
  obtain ⟨b, off, c, hv, hb, hc⟩ := h.get hj
  exact ⟨b, off, c, hv, hb, hc 0 _ (by decide) rfl, hc 1 _ (by decide) rfl, hc 2 _ (by decide) rfl⟩
theorem tle_yes {a b c x y z : Int} (h1 : a ≤ x) (h2 : b ≤ y) (h3 : c ≤ z) : tle a b c x y z = true := by simp [tle, h1, h2, h3]
theorem tle_no {a b c x y z : Int} (h : ¬ a ≤ x ∨ ¬ b ≤ y ∨ ¬ c ≤ z) : tle a b c x y z = false := by
  cases hq : tle a b c x y z with
  | false => rfl
  | true => simp only [tle, Bool.and_eq_true, decide_eq_true_eq] at hq; omega
theorem snd3 (s t : T3) : snd 3 (some s) t = if tle s.1 s.2.1 s.2.2 t.1 t.2.1 t.2.2 then 0 else 46 := by
  unfold snd
  rw [if_pos (by simp [tfits])]
  rfl
theorem adv3 (s t : T3) : adv 3 (some s) t = some (if tle s.1 s.2.1 s.2.2 t.1 t.2.1 t.2.2 then t else s) := by
  unfold adv
  rw [snd3]
  cases tle s.1 s.2.1 s.2.2 t.1 t.2.1 t.2.2 <;> rfl
set_option maxHeartbeats 16000000 in
set_option maxRecDepth 100000 in
theorem sourceOn_any (v : Value) (l : List T3) (w : World) (hl : Ls E3 w v l) (hn : l.length * 24 ≤ 140737488351232) : Calls Try.prog 3 #[v] w fun e w' => e = .returned (.bool true) ∧ Below w.heap.size w w' := by
  obtain ⟨p0, c0, rfl⟩ := hl.form
  have HL := hid hl
  have hnb : (l.length : Int) ≤ 5864062014801 := by omega
  have heqT := fun (a b c x y z : Int) W => run_eqT a b c x y z W
  have N3 := hid (fun W => newOk_any (n := 3) (by decide) W)
  clear hl
  go_enter Try.func3, Try.ntmps3
  go_wp2_with fail
  refine (N3.out _).mono ?_
  rintro e w1 ⟨sb, rfl, h1⟩
  clear N3
  go_wp2_with fail
  refine (taken_any _).mono ?_
  rintro e w2 ⟨rfl, g2⟩
  have HS2 : Hid (So w2 sb 3 (some (0, 0, 0))) := h1.out.1.below g2
  go_wp2_with fail
  refine (epoch_any _ HS2.out).mono ?_
  rintro e w3 ⟨rfl, g3⟩
  simp only [ep, tv, Option.getD_some, Option.isSome_some]
  go_upto_region 5 with fail
  obtain ⟨W4, hW4⟩ : ∃ W4, W4 = w3.alloc (.cells #[.int .u64 0, .int .u64 0, .int .u64 0] 30) := ⟨_, rfl⟩
  obtain ⟨b5, hb5⟩ : ∃ b5, b5 = w3.heap.size := ⟨_, rfl⟩
  have hk4 : Hid (Tk w W4 sb b5 3 (some (0, 0, 0)) (0, 0, 0)) := by
    rw [hW4, hb5]
    have hb : Below w.heap.size w w3 := h1.out.2.2.below.trans ((g2.trans (g3.mono g2.size)).mono h1.out.2.2.size)
    exact Tk.new (HS2.out.below g3) hb h1.out.2.1 (0, 0, 0)
  rw [← hW4, ← hb5]
  clear hW4 hb5 h1 g2 g3 HS2
  obtain ⟨y0, y1, y2, yz⟩ := box3 hk4.out.bx
  simp only at y0 y1 y2
  have ht0 : teq 0 0 0 0 0 0 = true := rfl
  go_wp2_with fail
  clear y0 y1 y2 yz ht0
  go_loopw [7, 8, 9, 10, 11, 12, 13] (fun s7 _ _ _ _ _ _ wr => ∃ (i : Nat) (t : T3), i ≤ l.length ∧ s7 = .int .i64 i ∧ Hid (Tk w wr sb b5 3 (some t) t)) (fun s7 _ _ _ _ _ _ _ => l.length - (RowKit.intOf s7).toNat)
  case atStart => exact ⟨0, _, Nat.zero_le _, rfl, hk4.out⟩
  case round =>
    clear hk4
    obtain ⟨i, ⟨a, b, c⟩, hi, rfl, HK⟩ := hrel
    by_cases hlt : i < l.length
    · have hltz : (i : Int) < (l.length : Int) := by omega
      have i0 : (0 : Int) ≤ (i : Int) := by omega
      obtain ⟨⟨x, y, z⟩, hx⟩ : ∃ x, l[i]? = some x := ⟨l[i], by rw [List.getElem?_eq_getElem]⟩
      have HX := hid hx
      obtain ⟨b1, o1, c1, e1, z1, x0, x1, x2⟩ := (HL.out.below HK.out.bl).at3 hx
      simp only [Value.slice.injEq] at e1
      obtain ⟨rfl, -, rfl⟩ := e1
      simp only at x0 x1 x2
      clear hx
      obtain ⟨y0, y1, y2, yz⟩ := box3 HK.out.bx
      simp only at y0 y1 y2
      go_upto_region 10 with fail
      go_cut [8] (fun s8 w' => s8 = .bool (tle a b c x y z) ∧ Gr wr w')
      case first =>
        by_cases h1 : a ≤ x
        · by_cases h2 : b ≤ y
          · by_cases h3 : c ≤ z
            · have HT : Hid (tle a b c x y z = true) := tle_yes h1 h2 h3
              go_quiet (fail)
              go_wp2_with fail
              go_meet
              exact ⟨by rw [HT.out], (Gr.refl _).drewN _⟩
            · have HT : Hid (tle a b c x y z = false) := tle_no (.inr (.inr h3))
              go_quiet (fail)
              go_wp2_with fail
              go_meet
              exact ⟨by rw [HT.out], (Gr.refl _).drewN _⟩
          · have HT : Hid (tle a b c x y z = false) := tle_no (.inr (.inl h2))
            go_quiet (fail)
            go_wp2_with fail
            go_meet
            exact ⟨by rw [HT.out], (Gr.refl _).drewN _⟩
        · have HT : Hid (tle a b c x y z = false) := tle_no (.inl h1)
          go_quiet (fail)
          go_wp2_with fail
          go_meet
          exact ⟨by rw [HT.out], (Gr.refl _).drewN _⟩
      case rest =>
        obtain ⟨rfl, gc⟩ := hcut
        have HK1 := hid (HK.out.gr gc.below)
        have HS := hid (fun W hW => send_any (b := sb) (n := 3) (s := some (a, b, c)) (x, y, z) W hW)
        have HA := hid (fun W hW => advance_any (b := sb) (n := 3) (s := some (a, b, c)) (x, y, z) W hW)
        rw [snd3] at HS
        rw [snd3, adv3] at HA
        simp only at HS HA
        obtain ⟨tb, htb⟩ : ∃ tb, tb = tle a b c x y z := ⟨_, rfl⟩
        rw [← htb] at HS HA ⊢
        clear htb HK y0 y1 y2 yz
        obtain ⟨r, hr⟩ : ∃ r : Int, r = if tb then 0 else 46 := ⟨_, rfl⟩
        obtain ⟨u, hu⟩ : ∃ u : T3, u = if tb then (x, y, z) else (a, b, c) := ⟨_, rfl⟩
        rw [← hr] at HS HA
        rw [← hu] at HA
        have HR := hid hr
        have HU := hid hu
        clear hr hu
        have xs0 := (gc.cell z1).trans x0
        have xs1 := (gc.cell z1).trans x1
        have xs2 := (gc.cell z1).trans x2
        have zs := Nat.lt_of_lt_of_le z1 gc.size
        clear x0 x1 x2 z1 gc
        go_wp2_with fail
        refine (HS.out _ HK1.out.so).mono ?_
        rintro e w5 ⟨rfl, g5⟩
        have HK5 := hid (HK1.out.gr g5.below)
        have x0 := (g5.cell zs).trans xs0
        have x1 := (g5.cell zs).trans xs1
        have x2 := (g5.cell zs).trans xs2
        have z1 := Nat.lt_of_lt_of_le zs g5.size
        clear xs0 xs1 xs2 zs g5 HK1
        go_wp2_with fail
        refine (HS.out _ HK5.out.so).mono ?_
        rintro e w6 ⟨rfl, g6⟩
        have HK6 := hid (HK5.out.gr g6.below)
        have xs0 := (g6.cell z1).trans x0
        have xs1 := (g6.cell z1).trans x1
        have xs2 := (g6.cell z1).trans x2
        have zs := Nat.lt_of_lt_of_le z1 g6.size
        clear x0 x1 x2 z1 g6 HK5 HS
        go_wp2_with fail
        refine (HA.out _ HK6.out.so).mono ?_
        rintro e w7 ⟨rfl, h7⟩
        have HK7 := hid (HK6.out.turn h7.out.1 h7.out.2)
        clear xs0 xs1 xs2 zs h7 HK6 HA
        go_wp2_with fail
        refine (epoch_any _ HK7.out.so).mono ?_
        rintro e w8 ⟨rfl, g8⟩
        have HK8 := hid (HK7.out.gr g8)
        clear HK7 g8
        simp only [ep, tv, Option.getD_some, Option.isSome_some]
        go_upto_region 15 with fail
        obtain ⟨W9, hW9⟩ : ∃ W9, W9 = w8.alloc (.cells #[.int .u64 u.1, .int .u64 u.2.1, .int .u64 u.2.2] 30) := ⟨_, rfl⟩
        obtain ⟨b12, hb12⟩ : ∃ b12, b12 = w8.heap.size := ⟨_, rfl⟩
        have G9 : Gr w8 W9 := by rw [hW9]; exact (Gr.refl _).alloc _
        have HK9 := hid (HK8.out.gr G9.below)
        have HX9 : Hid (W9.heap[b12]? = some (.cells (tc u) 30 (0, 0))) := by rw [hW9, hb12]; exact heap_new' _ _
        rw [← hW9, ← hb12]
        clear hW9 hb12 G9 HK8
        obtain ⟨b1', o1', c1', e1, z1, x0, x1, x2⟩ := (HL.out.below HK9.out.bl).at3 HX.out
        simp only [Value.slice.injEq, Option.some.injEq, Addr.mk.injEq, and_true] at e1
        obtain ⟨⟨rfl, rfl⟩, -, rfl⟩ := e1
        simp only at x0 x1 x2
        obtain ⟨y0, y1, y2, yz⟩ := box3 HK9.out.bx
        simp only at y0 y1 y2
        obtain ⟨v0, v1, v2, vz⟩ := box3 HX9.out
        have hi2 : i + 1 ≤ l.length := by omega
        cases tb with
        | true =>
          have hr := HR.out
          have hu := HU.out
          simp only [if_true] at hr hu
          subst hr hu
          simp only at v0 v1 v2
          have hte : teq x y z x y z = true := by simp [teq]
          go_quiet (fail)
          have HKd := hid (HK9.out.gr ((Gr.refl W9).drewN nq).below)
          have HXd := hid ((((Gr.refl W9).drewN nq).below.block b12 vz).trans HX9.out)
          clear x0 x1 x2 y0 y1 y2 yz v0 v1 v2 vz z1 HK9 HX9 HX hte
          generalize W9.drewN nq = W10 at HKd HXd ⊢
          obtain ⟨y0, y1, y2, yz⟩ := box3 HKd.out.bx
          obtain ⟨f0, f1, f2⟩ := put3 HKd.out.bx
          obtain ⟨v0, v1, v2, vz⟩ := box3 HXd.out
          simp only at v0 v1 v2
          have HP := hid (HKd.out.put (x, y, z))
          simp only at HP
          clear HKd HXd
          go_wp2_with fail
          go_roundw
          case rel => exact ⟨i + 1, (x, y, z), hi2, by go_num, HP.out⟩
          case measure => simp [RowKit.intOf]; omega
        | false =>
          have hr := HR.out
          have hu := HU.out
          simp only [Bool.false_eq_true, if_false] at hr hu
          subst hr hu
          simp only at v0 v1 v2
          have hte : teq a b c a b c = true := by simp [teq]
          go_quiet (fail)
          have HKd := hid (HK9.out.gr ((Gr.refl W9).drewN nq).below)
          have HXd := hid ((((Gr.refl W9).drewN nq).below.block b12 vz).trans HX9.out)
          clear x0 x1 x2 y0 y1 y2 yz v0 v1 v2 vz z1 HK9 HX9 HX hte
          generalize W9.drewN nq = W10 at HKd HXd ⊢
          obtain ⟨y0, y1, y2, yz⟩ := box3 HKd.out.bx
          obtain ⟨f0, f1, f2⟩ := put3 HKd.out.bx
          obtain ⟨v0, v1, v2, vz⟩ := box3 HXd.out
          simp only at v0 v1 v2
          have HP := hid (HKd.out.put (a, b, c))
          simp only at HP
          clear HKd HXd
          go_wp2_with fail
          go_roundw
          case rel => exact ⟨i + 1, (a, b, c), hi2, by go_num, HP.out⟩
          case measure => simp [RowKit.intOf]; omega
    · have hltz : ¬ (i : Int) < (l.length : Int) := by omega
      obtain ⟨y0, y1, y2, yz⟩ := box3 HK.out.bx
      simp only at y0 y1 y2
      go_wp2_with fail
      refine (close_any _ HK.out.so).mono ?_
      rintro e w5 ⟨rfl, h5⟩
      simp only [cl, Option.isSome_some, if_true]
      have HK5 := hid (HK.out.turn h5.out.1 h5.out.2)
      clear HK h5 y0 y1 y2 yz
      go_wp2_with fail
      refine (close_any _ HK5.out.so).mono ?_
      rintro e w6 ⟨rfl, h6⟩
      simp only [cl, Option.isSome_none, Bool.false_eq_true, if_false]
      have HK6 := hid (HK5.out.turn h6.out.1 h6.out.2)
      clear HK5 h6
      obtain ⟨y0, y1, y2, yz⟩ := box3 HK6.out.bx
      simp only at y0 y1 y2
      have HA := hid (fun W hW => advance_any (b := sb) (n := 3) (s := none) (a, b, c) W hW)
      rw [show snd 3 none (a, b, c) = 45 by simp [snd, snx, tfits], show adv 3 none (a, b, c) = none by simp [adv, snd, snx, tfits]] at HA
      go_wp2_with fail
      refine (HA.out _ HK6.out.so).mono ?_
      rintro e w7 ⟨rfl, h7⟩
      have HK7 := hid (HK6.out.turn h7.out.1 h7.out.2)
      clear HK6 h7 y0 y1 y2 yz HA
      obtain ⟨y0, y1, y2, yz⟩ := box3 HK7.out.bx
      simp only at y0 y1 y2
      have HS := hid (fun W hW => send_any (b := sb) (n := 3) (s := none) (a, b, c) W hW)
      rw [show snd 3 none (a, b, c) = 45 by simp [snd, snx, tfits]] at HS
      go_wp2_with fail
      refine (HS.out _ HK7.out.so).mono ?_
      rintro e w8 ⟨rfl, g8⟩
      have HK8 := hid (HK7.out.gr g8.below)
      clear HK7 g8 y0 y1 y2 yz HS
      go_wp2_with fail
      refine (epoch_any _ HK8.out.so).mono ?_
      rintro e w9 ⟨rfl, g9⟩
      have HK9 := hid (HK8.out.gr g9)
      clear HK8 g9
      simp only [ep, tv, Option.getD_none, Option.isSome_none]
      obtain ⟨y0, y1, y2, yz⟩ := box3 HK9.out.bx
      obtain ⟨f0, f1, f2⟩ := put3 HK9.out.bx
      have HP := hid (HK9.out.put (0, 0, 0))
      simp only at HP
      obtain ⟨z0, z1, z2, zz⟩ := box3 HP.out.bx
      simp only at z0 z1 z2
      obtain ⟨W13, hW13⟩ : ∃ W13, W13 = (((w9.setCell ⟨b5, 0, none⟩ (.int .u64 0)).setCell ⟨b5, 1, none⟩ (.int .u64 0)).setCell ⟨b5, 2, none⟩ (.int .u64 0)) := ⟨_, rfl⟩
      rw [← hW13] at HP z0 z1 z2 zz
      go_upto_region 21 with fail
      rw [← hW13]
      clear hW13 f0 f1 f2 y0 y1 y2 yz HK9
      have ht0 : teq 0 0 0 0 0 0 = true := rfl
      go_wp2_with fail
      go_ret
      exact ⟨rfl, HP.out.bl⟩
end Go.Proofs.Ytinggeflllgdmaa
