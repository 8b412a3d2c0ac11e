import Derived.Test.YteffgkhpcdboaaaMRef
namespace Go.Proofs.Yteffgkhpcdboaaa
open Go.RowKit Go.Sort Go.Maps
open Tt (Tl byd byd_f byd_t)
attribute [local go_sem ↓] Go.wp_at_zero Go.wp_at_succ

set_option maxHeartbeats 2000000 in
set_option maxRecDepth 100000 in
theorem fronts_any (v u : Value) (l : List Dl) (qs : List Tm) (w : World) (hv : Ls ED w v l) (hu : Lst w u qs) (hl : l.length ≤ 9223372036854775807) (hq : qs.length ≤ 9223372036854775807) :
    Calls Try.prog 5 #[v, u] w fun e w' => e = .returned (.bool true) ∧ Below w.heap.size w w' := by
  have hmx : Try.prog.follows .mixedOrders = true := by kernel_rfl
  have hne := Sn.new w
  have hkn := fun W => known_any W
  have HV : Hid (Ls ED w v l) := hv
  have HU : Hid (Lst w u qs) := hu
  have hsl := sml_length l
  obtain ⟨pu, cu, rfl⟩ := hu.form
  clear hv hu
  go_enter Try.func5, Try.ntmps5
  go_wp2_with fail
  refine hne.mono ?_
  rintro e w1 ⟨mb, tb, b, cb, rfl, S1⟩
  have HS1 : Hid (Sn w w1 mb tb b cb 0 (.slice none 0 0) (fun _ => 0) []) := S1
  clear hne S1
  go_wp2_with fail
  refine (hkn _).mono ?_
  rintro e w2 ⟨rfl, hb2⟩
  have HS2 : Hid (Sn w w2 mb tb b cb 0 (.slice none 0 0) (fun _ => 0) []) := HS1.out.below hb2
  have hsm := small_any v l w2 (HV.out.below HS2.out.bl) hl
  clear hkn hb2
  go_wp2_with fail
  refine hsm.mono ?_
  rintro e w3 ⟨v3, rfl, ho3, hb3⟩
  have hap := (HS2.out.below hb3).small (owns_ls (E := ED) (ts := sml l) ho3) (by omega) (sml_lo l) (by omega) (fun _ => by omega) (f' := fun t => isum (sml l) t + 0) rfl
  clear hsm ho3 hb3
  generalize hN : (sml l).length = N at *
  generalize hff : (fun t => isum (sml l) t + 0) = f at *
  clear hN hff
  go_wp2_with fail
  refine hap.mono ?_
  rintro e w5 ⟨vo, v5, fr, rfl, _, S5, _⟩
  have HS5 : Hid (Sn w w5 mb tb b cb (0 + 2 * N) v5 f fr) := S5
  have hti := times_any w5 S5.mu (by omega)
  clear hap S5
  go_wp2_with fail
  refine hti.mono ?_
  rintro e w6 ⟨va, ks, hks, rfl, ho6, hb6⟩
  have HS6 : Hid (Sn w w6 mb tb b cb (0 + 2 * N) v5 f fr) := HS5.out.below hb6
  have hfl := HS6.out.fr.le HS6.out.mu.tl.ta
  have hfn := front_any w6 HS6.out.mu (by omega)
  have HA6 : Hid (Lst w6 va (stT ks)) := owns_lst ho6
  obtain ⟨pa, ca, rfl⟩ := HA6.out.form
  have hkl : (stT ks).length ≤ 2000 := by
    obtain ⟨D, hown, _, h3⟩ := HS6.out.mu.tl.ta
    obtain ⟨ks', hk', hl'⟩ := owns_sup hown h3
    have h1 := (hks.perm hk').length_eq
    have h2 := hown.size_le
    rw [srtBy_length]
    omega
  clear hti ho6 hb6 hks
  go_wp2_with fail
  refine hfn.mono ?_
  rintro e w8 ⟨vf, rfl, ho8, hb8⟩
  have HS8 : Hid (Sn w w8 mb tb b cb (0 + 2 * N) v5 f fr) := HS6.out.below hb8
  have HF8 : Hid (Lst w8 vf fr) := owns_lst ho8
  have HA8 : Hid (Lst w8 (.slice pa (stT ks).length ca) (stT ks)) := HA6.out.below hb8
  have HU8 : Hid (Lst w8 (.slice pu qs.length cu) qs) := HU.out.below HS8.out.bl
  obtain ⟨pf, cf, rfl⟩ := HF8.out.form
  have hfz : fr.length ≤ 2000 := by omega
  have HCT : Hid (∀ (y : Tm) (W : World), Gr w8 W → Calls Try.prog 10 #[.pointer (some ⟨mb, 0, none⟩), tv y] W fun e w' => e = .returned (.int .i64 (f y)) ∧ Gr W w') := fun y W h => count_any y W (HS8.out.mu.below h.below)
  have HOP : Hid (∀ (y : Tm) (W : World), Gr w8 W → Calls Try.prog 17 #[.pointer (some ⟨mb, 0, none⟩), tv y] W fun e w' => e = .returned (.bool (ccov bel fr y)) ∧ Gr W w') := fun y W h => open_any y W (HS8.out.mu.below h.below) (by omega)
  have HRO : Hid (∀ (y : Tm) (W : World), Gr w8 W → Calls Try.prog 18 #[.slice pf fr.length cf, tv y] W fun e w' => e = .returned (.bool (ccov bel fr y)) ∧ Gr W w') := fun y W h => ropen_any _ fr y W (HF8.out.below h.below) (by omega)
  have HFR : Hid (IsFr f fr) := HS8.out.fr
  have HB8 : Hid (Below w.heap.size w w8) := HS8.out.bl
  clear hfn ho8 hb8 hfl hsl
  go_wp2_with fail
  go_loopw [10, 11] (fun s10 _ wr => ∃ k : Nat, k ≤ fr.length ∧ s10 = .int .i64 k ∧ Gr w8 wr) (fun s10 _ _ => fr.length - (RowKit.intOf s10).toNat)
  case atStart => exact ⟨0, Nat.zero_le _, rfl, Gr.refl _⟩
  case round =>
    obtain ⟨k, hk, rfl, hgr⟩ := hrel
    by_cases hlt : k < fr.length
    · have hltz : (k : Int) < (fr.length : Int) := by omega
      obtain ⟨y, hy⟩ : ∃ y, fr[k]? = some y := ⟨fr[k], by simp⟩
      have HY : Hid (fr[k]? = some y) := hy
      obtain ⟨b2, o2, c2, e2, z2, x1, x2, x3⟩ := (HF8.out.below hgr.below).at3 hy
      simp only [Value.slice.injEq] at e2
      obtain ⟨rfl, -, rfl⟩ := e2
      have hct := HCT.out y wr hgr
      have hpos : ¬ f y ≤ 0 := by have := HFR.out.pos y (List.mem_of_getElem? hy); omega
      generalize f y = c at hct hpos
      clear hy
      go_wp2_with fail
      refine hct.mono ?_
      rintro e w9 ⟨rfl, hg9⟩
      have HG9 : Hid (Gr w8 w9) := hgr.trans hg9
      clear hct hg9 x1 x2 x3 z2 hgr
      go_wp2_with fail
      go_loopw [11] (fun s11 wq => ∃ j : Nat, j ≤ fr.length ∧ s11 = .int .i64 j ∧ Gr w8 wq) (fun s11 _ => fr.length - (RowKit.intOf s11).toNat)
      case atStart => exact ⟨0, Nat.zero_le _, rfl, HG9.out⟩
      case round =>
        obtain ⟨j, hj, rfl, hgj⟩ := hrel
        by_cases hjl : j < fr.length
        · have hjz : (j : Int) < (fr.length : Int) := by omega
          obtain ⟨z, hz⟩ : ∃ z, fr[j]? = some z := ⟨fr[j], by simp⟩
          by_cases hkj : k = j
          · subst hkj
            have hgd : ((k : Int) != (k : Int)) = false := by simp
            clear hz
            go_wp2_with fail
            go_quiet (fail)
            go_wp2
            go_roundw
            case rel => exact ⟨k + 1, by omega, by go_num, hgj.drewN _⟩
            case measure => simp [RowKit.intOf]; omega
          · have hgd : ((k : Int) != (j : Int)) = true := by simp; omega
            obtain ⟨b2', o2', c2', e2, z2, x1, x2, x3⟩ := (HF8.out.below hgj.below).at3 hz
            obtain ⟨b3', o3', c3', e3, z3, y1, y2, y3⟩ := (HF8.out.below hgj.below).at3 HY.out
            simp only [Value.slice.injEq, Option.some.injEq, Addr.mk.injEq, and_true] at e2 e3
            obtain ⟨⟨rfl, rfl⟩, -, rfl⟩ := e2
            obtain ⟨⟨rfl, rfl⟩, -⟩ := e3
            have hra := fun W => rahead_any z y W
            rw [show bel z y = false from good_off HFR.out.good hz HY.out (fun e => hkj e.symm)] at hra
            have S0 : (wr.drew.cell? ⟨b2, o2 + j * 3, none⟩ = some (.int .u64 z.1.1) ∧ wr.drew.cell? ⟨b2, o2 + j * 3 + 1, none⟩ = some (.int .u64 z.1.2.1) ∧ wr.drew.cell? ⟨b2, o2 + j * 3 + 2, none⟩ = some (.int .u64 z.1.2.2) ∧ wr.drew.cell? ⟨b2, o2 + k * 3, none⟩ = some (.int .u64 y.1.1) ∧ wr.drew.cell? ⟨b2, o2 + k * 3 + 1, none⟩ = some (.int .u64 y.1.2.1) ∧ wr.drew.cell? ⟨b2, o2 + k * 3 + 2, none⟩ = some (.int .u64 y.1.2.2) ∧ b2 < wr.drew.heap.size) := ⟨x1, x2, x3, y1, y2, y3, z2⟩
            have keepG : ∀ W W' : World, (W.cell? ⟨b2, o2 + j * 3, none⟩ = some (.int .u64 z.1.1) ∧ W.cell? ⟨b2, o2 + j * 3 + 1, none⟩ = some (.int .u64 z.1.2.1) ∧ W.cell? ⟨b2, o2 + j * 3 + 2, none⟩ = some (.int .u64 z.1.2.2) ∧ W.cell? ⟨b2, o2 + k * 3, none⟩ = some (.int .u64 y.1.1) ∧ W.cell? ⟨b2, o2 + k * 3 + 1, none⟩ = some (.int .u64 y.1.2.1) ∧ W.cell? ⟨b2, o2 + k * 3 + 2, none⟩ = some (.int .u64 y.1.2.2) ∧ b2 < W.heap.size) → Gr W W' → (W'.cell? ⟨b2, o2 + j * 3, none⟩ = some (.int .u64 z.1.1) ∧ W'.cell? ⟨b2, o2 + j * 3 + 1, none⟩ = some (.int .u64 z.1.2.1) ∧ W'.cell? ⟨b2, o2 + j * 3 + 2, none⟩ = some (.int .u64 z.1.2.2) ∧ W'.cell? ⟨b2, o2 + k * 3, none⟩ = some (.int .u64 y.1.1) ∧ W'.cell? ⟨b2, o2 + k * 3 + 1, none⟩ = some (.int .u64 y.1.2.1) ∧ W'.cell? ⟨b2, o2 + k * 3 + 2, none⟩ = some (.int .u64 y.1.2.2) ∧ b2 < W'.heap.size) := fun W W' h hg =>
              ⟨(hg.cell h.2.2.2.2.2.2).trans h.1, (hg.cell h.2.2.2.2.2.2).trans h.2.1, (hg.cell h.2.2.2.2.2.2).trans h.2.2.1, (hg.cell h.2.2.2.2.2.2).trans h.2.2.2.1, (hg.cell h.2.2.2.2.2.2).trans h.2.2.2.2.1, (hg.cell h.2.2.2.2.2.2).trans h.2.2.2.2.2.1, Nat.lt_of_lt_of_le h.2.2.2.2.2.2 hg.size⟩
            have HGJ : Hid (Gr w8 wr.drew) := hgj.drew
            clear hz hgj x1 x2 x3 y1 y2 y3 z2 z3
            go_wp2_with fail
            go_region_held3 (fun w' => w'.cell? ⟨b2, o2 + j * 3, none⟩ = some (.int .u64 z.1.1) ∧ w'.cell? ⟨b2, o2 + j * 3 + 1, none⟩ = some (.int .u64 z.1.2.1) ∧ w'.cell? ⟨b2, o2 + j * 3 + 2, none⟩ = some (.int .u64 z.1.2.2) ∧ w'.cell? ⟨b2, o2 + k * 3, none⟩ = some (.int .u64 y.1.1) ∧ w'.cell? ⟨b2, o2 + k * 3 + 1, none⟩ = some (.int .u64 y.1.2.1) ∧ w'.cell? ⟨b2, o2 + k * 3 + 2, none⟩ = some (.int .u64 y.1.2.2) ∧ b2 < w'.heap.size)
              (first | exact S0 | exact keepG _ _ (by assumption) (by assumption))
              (first | (go_at_call 16; refine (hra _).mono ?_; rintro e w10 ⟨rfl, hg10⟩))
            go_wp2
            go_roundw
            case rel => exact ⟨j + 1, by omega, by go_num, HGJ.out.trans hg10⟩
            case measure => simp [RowKit.intOf]; omega
        · have hjz : ¬ (j : Int) < (fr.length : Int) := by omega
          go_wp2
          go_roundw
          case rel => exact ⟨k + 1, by omega, by go_num, hgj⟩
          case measure => simp [RowKit.intOf]; omega
    · have hltz : ¬ (k : Int) < (fr.length : Int) := by omega
      have HGR : Hid (Gr w8 wr) := hgr
      go_wp2_with fail
      clear hlt hltz hk hgr
      go_loopw [12] (fun s12 wq => ∃ k : Nat, k ≤ (stT ks).length ∧ s12 = .int .i64 k ∧ Gr w8 wq) (fun s12 _ => (stT ks).length - (RowKit.intOf s12).toNat)
      case atStart => exact ⟨0, Nat.zero_le _, rfl, HGR.out⟩
      case round =>
        obtain ⟨k, hk, rfl, hgr⟩ := hrel
        by_cases hlt : k < (stT ks).length
        · have hltz : (k : Int) < ((stT ks).length : Int) := by omega
          obtain ⟨y, hy⟩ : ∃ y, (stT ks)[k]? = some y := ⟨(stT ks)[k], by simp⟩
          obtain ⟨b1, o1, c1, e1, z1, x1, x2, x3⟩ := (HA8.out.below hgr.below).at3 hy
          simp only [Value.slice.injEq] at e1
          obtain ⟨rfl, -, rfl⟩ := e1
          have hct := HCT.out y wr hgr
          have HPO : Hid (0 < f y → ccov bel fr y = true) := HFR.out.cov y
          generalize hfy : f y = c at hct HPO
          clear hy hfy
          go_wp2_with fail
          refine hct.mono ?_
          rintro e w9 ⟨rfl, hg9⟩
          have HG9 : Hid (Gr w8 w9) := hgr.trans hg9
          by_cases hc : 0 < c
          · have hop := HOP.out y w9 HG9.out
            rw [HPO.out hc] at hop
            have r1 := (hg9.cell z1).trans x1
            have r2 := (hg9.cell z1).trans x2
            have r3 := (hg9.cell z1).trans x3
            have rz := Nat.lt_of_lt_of_le z1 hg9.size
            clear hct hg9 x1 x2 x3 z1 hgr
            go_wp2_with fail
            refine hop.mono ?_
            rintro e w10 ⟨rfl, hg10⟩
            go_wp2
            go_roundw
            case rel => exact ⟨k + 1, by omega, by go_num, HG9.out.trans hg10⟩
            case measure => simp [RowKit.intOf]; omega
          · clear hct x1 x2 x3 z1
            go_wp2
            go_roundw
            case rel => exact ⟨k + 1, by omega, by go_num, HG9.out⟩
            case measure => simp [RowKit.intOf]; omega
        · have hltz : ¬ (k : Int) < ((stT ks).length : Int) := by omega
          have HGS : Hid (Gr w8 wr) := hgr
          go_wp2_with fail
          clear hlt hltz hk hgr
          go_loopw [13] (fun s13 wq => ∃ k : Nat, k ≤ qs.length ∧ s13 = .int .i64 k ∧ Gr w8 wq) (fun s13 _ => qs.length - (RowKit.intOf s13).toNat)
          case atStart => exact ⟨0, Nat.zero_le _, rfl, HGS.out⟩
          case round =>
            obtain ⟨k, hk, rfl, hgr⟩ := hrel
            by_cases hlt : k < qs.length
            · have hltz : (k : Int) < (qs.length : Int) := by omega
              obtain ⟨y, hy⟩ : ∃ y, qs[k]? = some y := ⟨qs[k], by simp⟩
              obtain ⟨b1, o1, c1, e1, z1, x1, x2, x3⟩ := (HU8.out.below hgr.below).at3 hy
              simp only [Value.slice.injEq] at e1
              obtain ⟨rfl, -, rfl⟩ := e1
              have S0 : (wr.drew.cell? ⟨b1, o1 + k * 3, none⟩ = some (.int .u64 y.1.1) ∧ wr.drew.cell? ⟨b1, o1 + k * 3 + 1, none⟩ = some (.int .u64 y.1.2.1) ∧ wr.drew.cell? ⟨b1, o1 + k * 3 + 2, none⟩ = some (.int .u64 y.1.2.2) ∧ b1 < wr.drew.heap.size ∧ Gr w8 wr.drew) := ⟨x1, x2, x3, z1, hgr.drew⟩
              have keepG : ∀ W W' : World, (W.cell? ⟨b1, o1 + k * 3, none⟩ = some (.int .u64 y.1.1) ∧ W.cell? ⟨b1, o1 + k * 3 + 1, none⟩ = some (.int .u64 y.1.2.1) ∧ W.cell? ⟨b1, o1 + k * 3 + 2, none⟩ = some (.int .u64 y.1.2.2) ∧ b1 < W.heap.size ∧ Gr w8 W) → Gr W W' → (W'.cell? ⟨b1, o1 + k * 3, none⟩ = some (.int .u64 y.1.1) ∧ W'.cell? ⟨b1, o1 + k * 3 + 1, none⟩ = some (.int .u64 y.1.2.1) ∧ W'.cell? ⟨b1, o1 + k * 3 + 2, none⟩ = some (.int .u64 y.1.2.2) ∧ b1 < W'.heap.size ∧ Gr w8 W') := fun W W' h hg =>
                ⟨(hg.cell h.2.2.2.1).trans h.1, (hg.cell h.2.2.2.1).trans h.2.1, (hg.cell h.2.2.2.1).trans h.2.2.1, Nat.lt_of_lt_of_le h.2.2.2.1 hg.size, h.2.2.2.2.trans hg⟩
              have hop : ∀ W, (W.cell? ⟨b1, o1 + k * 3, none⟩ = some (.int .u64 y.1.1) ∧ W.cell? ⟨b1, o1 + k * 3 + 1, none⟩ = some (.int .u64 y.1.2.1) ∧ W.cell? ⟨b1, o1 + k * 3 + 2, none⟩ = some (.int .u64 y.1.2.2) ∧ b1 < W.heap.size ∧ Gr w8 W) → _ := fun W h => HOP.out y W h.2.2.2.2
              have hro : ∀ W, (W.cell? ⟨b1, o1 + k * 3, none⟩ = some (.int .u64 y.1.1) ∧ W.cell? ⟨b1, o1 + k * 3 + 1, none⟩ = some (.int .u64 y.1.2.1) ∧ W.cell? ⟨b1, o1 + k * 3 + 2, none⟩ = some (.int .u64 y.1.2.2) ∧ b1 < W.heap.size ∧ Gr w8 W) → _ := fun W h => HRO.out y W h.2.2.2.2
              generalize ccov bel fr y = r at hop hro
              clear hy hgr x1 x2 x3 z1
              go_wp2_with fail
              go_region_held3 (fun w' => w'.cell? ⟨b1, o1 + k * 3, none⟩ = some (.int .u64 y.1.1) ∧ w'.cell? ⟨b1, o1 + k * 3 + 1, none⟩ = some (.int .u64 y.1.2.1) ∧ w'.cell? ⟨b1, o1 + k * 3 + 2, none⟩ = some (.int .u64 y.1.2.2) ∧ b1 < w'.heap.size ∧ Gr w8 w')
                (first | exact S0 | exact keepG _ _ (by assumption) (by assumption))
                (first | (go_at_call 17; refine (hop _ (by assumption)).mono ?_; rintro e w10 ⟨rfl, hg10⟩) | (go_at_call 18; refine (hro _ (by assumption)).mono ?_; rintro e w11 ⟨rfl, hg11⟩))
              go_wp2
              go_roundw
              case rel => exact ⟨k + 1, by omega, by go_num, S0.2.2.2.2.trans (hg10.trans hg11)⟩
              case measure => simp [RowKit.intOf]; omega
            · have hltz : ¬ (k : Int) < (qs.length : Int) := by omega
              go_wp2
              go_ret
              exact ⟨rfl, HB8.out.trans (hgr.below.mono HB8.out.size)⟩
end Go.Proofs.Yteffgkhpcdboaaa
