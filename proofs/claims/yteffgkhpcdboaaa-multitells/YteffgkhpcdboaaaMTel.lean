import Derived.Test.YteffgkhpcdboaaaMTel1
namespace Go.Proofs.Yteffgkhpcdboaaa
open Go.RowKit Go.Sort Go.Maps
open Tt (Tl byd byd_f byd_t)
attribute [local go_sem ↓] Go.wp_at_zero Go.wp_at_succ

set_option maxHeartbeats 2000000 in
set_option maxRecDepth 100000 in
theorem tells_any (v : Value) (svs : List SV) (w : World) (hv : Ls ES w v svs) (hi : ∀ s ∈ svs, ∃ l : List Dl, Lz w s.1 l ∧ l.length ≤ 9223372036854775807) (_hl : svs.length ≤ 9223372036854775807) :
    Calls Try.prog 6 #[v] w fun e w' => e = .returned (.bool true) ∧ Below w.heap.size w w' := by
  have hmx : Try.prog.follows .mixedOrders = true := by kernel_rfl
  have heq := fun a b c x y z W => run_eqT a b c x y z W
  have hne := Sn.new w
  have hkn := fun W => known_any W
  have HV : Hid (Ls ES w v svs) := hv
  have HIN : Hid (∀ s ∈ svs, ∃ l : List Dl, Lz w s.1 l ∧ l.length ≤ 9223372036854775807) := hi
  obtain ⟨pv, cv', rfl⟩ := hv.form
  clear hv hi
  go_enter Try.func6, Try.ntmps6
  go_wp2_with fail
  refine hne.mono ?_
  rintro e w1 ⟨mb, tb, b, cb, rfl, S1⟩
  have HS1 : Hid (Sn w w1 mb tb b cb 0 (.slice none 0 0) (fun _ => 0) []) := S1
  clear hne S1
  go_wp2_with fail
  refine (hkn _).mono ?_
  rintro e w2 ⟨rfl, hb2⟩
  have HS2 : Hid (Sn w w2 mb tb b cb 0 (.slice none 0 0) (fun _ => 0) []) := HS1.out.below hb2
  clear hkn hb2 HS1
  go_wp2_with fail
  go_loopw [4, 5, 6, 7, 8, 9, 10, 11, 12, 13] (fun s4 s5 _ _ _ _ _ _ _ _ wr => ∃ (i n : Nat) (vm : Value) (f : Tm → Int) (fr : List Tm), i ≤ svs.length ∧ i ≤ 100 ∧ n ≤ 2000 * i ∧ s5 = .int .i64 i ∧ Hid (Sn w wr mb tb b cb n vm f fr ∧ Lst wr s4 fr ∧ (∀ g, s4.ownBlock = some g → g ≠ b ∧ g ≠ cb ∧ vm.ownBlock ≠ some g) ∧ ∀ t, -(999000 * (i : Int)) ≤ f t ∧ f t ≤ 999000 * (i : Int))) (fun _ s5 _ _ _ _ _ _ _ _ _ => svs.length - (RowKit.intOf s5).toNat)
  case atStart => exact ⟨0, 0, _, _, [], Nat.zero_le _, by omega, by omega, rfl, HS2.out, Ls.nil _, fun g hg => by simp [Value.ownBlock] at hg, fun t => by omega⟩
  case round =>
    obtain ⟨i, n, vm, f, fr, hi1, hi2, hin, rfl, HI⟩ := hrel
    by_cases hlt : i < svs.length
    · have hltz : (i : Int) < (svs.length : Int) := by omega
      by_cases hlt2 : i < 100
      · have hltz2 : (i : Int) < 100 := by omega
        obtain ⟨sv, hsv⟩ : ∃ sv, svs[i]? = some sv := ⟨svs[i], by simp⟩
        obtain ⟨hS, hLf, hap, hfb⟩ := HI.out
        obtain ⟨l, hlz, hll⟩ := HIN.out sv (List.mem_of_getElem? hsv)
        obtain ⟨b1, o1, c1, e1, z1, x1⟩ := (HV.out.below hS.bl).at1 hsv
        simp only [Value.slice.injEq] at e1
        obtain ⟨rfl, -, rfl⟩ := e1
        have hsm := small_lz sv.1 l wr (hlz.below hS.bl) hll
        have hsl := sml_length l
        have HLO : Hid (Lo9 (sml l)) := sml_lo l
        have HS : Hid (Sn w wr mb tb b cb n vm f fr) := hS
        have HLF : Hid (Lst wr u4 fr) := hLf
        have HAP : Hid (∀ g, u4.ownBlock = some g → g ≠ b ∧ g ≠ cb ∧ vm.ownBlock ≠ some g) := hap
        have HFB : Hid (∀ t, -(999000 * (i : Int)) ≤ f t ∧ f t ≤ 999000 * (i : Int)) := hfb
        have hone := sv.2
        generalize sv.1 = svv at *
        clear hS hLf hap hfb HI hlz hll hsv
        go_wp2_with fail
        refine hsm.mono ?_
        rintro e w3 ⟨v3, rfl, ho3, hb3⟩
        have hap := (HS.out.below hb3).small (owns_ls (E := ED) (ts := sml l) ho3) (by omega) HLO.out (by omega) (fun t => by have := HFB.out t; omega) (f' := fun t => isum (sml l) t + f t) rfl
        have HLF3 : Hid (Lst w3 u4 fr) := HLF.out.below hb3
        have HFB2 : Hid (∀ t, -(999000 * ((i : Int) + 1)) ≤ isum (sml l) t + f t ∧ isum (sml l) t + f t ≤ 999000 * ((i : Int) + 1)) := fun t => by
          have h1 := isum_bd HLO.out t
          have h2 := HFB.out t
          omega
        have hnb : n + 2 * (sml l).length ≤ 2000 * (i + 1) := by omega
        generalize hnn : n + 2 * (sml l).length = n2 at *
        generalize hff : (fun t => isum (sml l) t + f t) = f2 at *
        have HFB3 : Hid (∀ t, -(999000 * ((i : Int) + 1)) ≤ f2 t ∧ f2 t ≤ 999000 * ((i : Int) + 1)) := fun t => by
          have := congrFun hff t
          have h2 := HFB2.out t
          show _ ∧ _
          rw [← this]
          exact h2
        clear hsm ho3 hb3 hnn hff HFB HFB2 HLF hsl HLO x1 z1 hone
        go_wp2_with fail
        refine hap.mono ?_
        rintro e w4 ⟨vo, vm2, fr2, rfl, ho4, S4, K4, V4, N4⟩
        have HS4 : Hid (Sn w w4 mb tb b cb n2 vm2 f2 fr2) := S4
        have HLF4 : Hid (Lst w4 u4 fr) := K4.ls HLF3.out (fun g hg e => by
          obtain ⟨h1, h2, h3⟩ := HAP.out g hg
          rcases e with e | e | e
          · exact h1 e
          · exact h2 e
          · exact h3 e)
        have hfl : fr.length ≤ 200000 := by have := HS.out.fr.le HS.out.mu.tl.ta; omega
        have hfl2 : fr2.length ≤ 200000 := by have := S4.fr.le S4.mu.tl.ta; omega
        have HND : Hid ((dlt fr fr2).Pairwise fun p q => tol p.1 q.1 = true) := dlt_sorted HS.out.fr.nodup S4.fr.nodup
        have hdl : (dlt fr fr2).length ≤ 400000 := by have := dlt_length fr fr2; omega
        have HD4 : Hid (Ls ED w4 vo (dlt fr fr2)) := owns_ls (E := ED) ho4
        obtain ⟨pd, cd, rfl⟩ := HD4.out.form
        obtain ⟨pf, cf, hu4⟩ := HLF4.out.form
        subst hu4
        have HMD : Hid (∀ d ∈ dlt fr fr2, (d.2 = 1 ∧ d.1 ∉ fr) ∨ (d.2 = -1 ∧ d.1 ∈ fr)) := fun d hd => by
          obtain ⟨h1, h2⟩ := mem_dlt.1 hd
          rcases h1 with ⟨h3, h4⟩ | ⟨h3, h4⟩
          · rw [if_neg h4] at h2; exact Or.inr ⟨h2, h3⟩
          · rw [if_pos h3] at h2; exact Or.inl ⟨h2, h4⟩
        have HFIN : Hid (∀ r : List Tm, (r.Pairwise fun p q => tol p q = true) → (∀ y, y ∈ r ↔ y ∈ nx fr (dlt fr fr2) ++ up (dlt fr fr2)) → r = fr2) := fun r h1 h2 => sorted_same ords h1 S4.fr.sorted (fun y => (h2 y).trans (mem_next y))
        generalize dlt fr fr2 = dl at *
        clear hap ho4 S4 K4 V4 N4 HS HAP HLF3
        go_wp2_with fail
        go_loopw [8, 9, 10, 11] (fun s8 s9 _ _ wq => ∃ j : Nat, j ≤ fr.length ∧ s9 = .int .i64 j ∧ Hid (wq.ownsRow w4.heap.size 24 3 s8 (nx (fr.take j) dl).length (flT (nx (fr.take j) dl)) ∧ Below w4.heap.size w4 wq)) (fun _ s9 _ _ _ => fr.length - (RowKit.intOf s9).toNat)
        case atStart => exact ⟨0, Nat.zero_le _, rfl, World.ownsRow_nil _ _ _ _, Below.refl _ _⟩
        case round =>
          obtain ⟨j, hj, rfl, HJ⟩ := hrel
          by_cases hjl : j < fr.length
          · have hjz : (j : Int) < (fr.length : Int) := by omega
            obtain ⟨y, hy⟩ : ∃ y, fr[j]? = some y := ⟨fr[j], by simp⟩
            have HY : Hid (fr[j]? = some y) := hy
            have HNX : Hid (nx (fr.take (j + 1)) dl = nx (fr.take j) dl ++ (if gn dl y then [] else [y])) := nx_take_succ hy
            have hNL : (nx (fr.take j) dl).length ≤ j := Nat.le_trans (nx_length _ _) (by rw [List.length_take]; omega)
            clear hy
            generalize nx (fr.take j) dl = NX at *
            obtain ⟨wj, hwj⟩ : ∃ wj, wj = wr := ⟨wr, rfl⟩
            subst hwj
            go_wp2_with fail
            go_loopw [10, 11] (fun s10 s11 wq => ∃ k : Nat, k ≤ dl.length ∧ s11 = .int .i64 k ∧ s10 = .bool (gn (dl.take k) y) ∧ Gr wj wq) (fun _ s11 _ => dl.length - (RowKit.intOf s11).toNat)
            case atStart => exact ⟨0, Nat.zero_le _, rfl, rfl, Gr.refl _⟩
            case round =>
              obtain ⟨k, hk, rfl, rfl, hgk⟩ := hrel
              by_cases hkl : k < dl.length
              · have hkz : (k : Int) < (dl.length : Int) := by omega
                obtain ⟨d, hd⟩ : ∃ d, dl[k]? = some d := ⟨dl[k], by simp⟩
                have HGS : Hid (gn (dl.take (k + 1)) y = (gn (dl.take k) y || (decide (d.1 = y) && (d.2 == -1)))) := gn_take_succ hd y
                have BJ : Below w4.heap.size w4 wr := HJ.out.2.trans (hgk.below.mono HJ.out.2.size)
                obtain ⟨bd, od, ccd, ed, zd, d1, d2, d3, d4⟩ := (HD4.out.below BJ).at4 hd
                obtain ⟨bf, of, ccf, ef, zf, f1, f2', f3⟩ := (HLF4.out.below BJ).at3 HY.out
                simp only [Value.slice.injEq] at ed ef
                obtain ⟨rfl, -, rfl⟩ := ed
                obtain ⟨rfl, -, rfl⟩ := ef
                clear hd BJ
                cases hg0 : gn (dl.take k) y with
                | true =>
                  rw [hg0] at HGS
                  have HG2 : Hid (gn (dl.take (k + 1)) y = true) := by rw [HGS.out]; simp [Hid]
                  clear HGS
                  go_wp2_with fail
                  go_quiet (fail)
                  go_wp2
                  go_roundw
                  case rel => exact ⟨k + 1, by omega, by go_num, by rw [HG2.out], hgk.drewN _⟩
                  case measure => simp [RowKit.intOf]; omega
                | false =>
                  rw [hg0] at HGS
                  by_cases hdy : d.1 = y
                  · have hq := teq_t hdy
                    by_cases hd2 : d.2 = -1
                    · have hq2 : (d.2 == -1) = true := by simpa using hd2
                      have HG2 : Hid (gn (dl.take (k + 1)) y = true) := by rw [HGS.out, hq2, decide_eq_true hdy]; simp [Hid]
                      clear HGS hdy hd2
                      go_wp2_with fail
                      go_quiet (fail)
                      go_wp2
                      go_roundw
                      case rel => exact ⟨k + 1, by omega, by go_num, by rw [HG2.out], hgk.drewN _⟩
                      case measure => simp [RowKit.intOf]; omega
                    · have hq2 : (d.2 == -1) = false := by simpa using hd2
                      have HG2 : Hid (gn (dl.take (k + 1)) y = false) := by rw [HGS.out, hq2]; simp [Hid]
                      clear HGS hdy hd2
                      go_wp2_with fail
                      go_quiet (fail)
                      go_wp2
                      go_roundw
                      case rel => exact ⟨k + 1, by omega, by go_num, by rw [HG2.out], hgk.drewN _⟩
                      case measure => simp [RowKit.intOf]; omega
                  · have hq := teq_f hdy
                    have HG2 : Hid (gn (dl.take (k + 1)) y = false) := by rw [HGS.out, decide_eq_false hdy]; simp [Hid]
                    clear HGS hdy
                    go_wp2_with fail
                    go_quiet (fail)
                    go_wp2
                    go_roundw
                    case rel => exact ⟨k + 1, by omega, by go_num, by rw [HG2.out], hgk.drewN _⟩
                    case measure => simp [RowKit.intOf]; omega
              · have hkz : ¬ (k : Int) < (dl.length : Int) := by omega
                have hkk : k = dl.length := by omega
                subst hkk
                rw [List.take_length]
                have BJ : Hid (Below w4.heap.size w4 wr) := HJ.out.2.trans (hgk.below.mono HJ.out.2.size)
                have HOJ : Hid (wr.ownsRow w4.heap.size 24 3 u8 NX.length (flT NX)) := owns_below HJ.out.1 hgk.below
                obtain ⟨bf, of, ccf, ef, zf, f1, f2', f3⟩ := (HLF4.out.below BJ.out).at3 HY.out
                simp only [Value.slice.injEq] at ef
                obtain ⟨rfl, -, rfl⟩ := ef
                cases hg0 : gn dl y with
                | true =>
                  rw [hg0] at HNX
                  have HN2 : Hid (nx (fr.take (j + 1)) dl = NX) := by rw [HNX.out]; simp [Hid]
                  clear HNX
                  go_wp2
                  go_roundw
                  case rel => exact ⟨j + 1, by omega, by go_num, by rw [HN2.out]; exact HOJ.out, BJ.out⟩
                  case measure => simp [RowKit.intOf]; omega
                | false =>
                  rw [hg0] at HNX
                  have HN2 : Hid (nx (fr.take (j + 1)) dl = NX ++ [y]) := by rw [HNX.out]; simp [Hid]
                  have hbz := BJ.out.size
                  clear HNX
                  go_wp2_with (at_builtin; refine Cn.wpApp1 rfl _ _ rfl w4.heap.size _ NX.length _ rfl HOJ.out y rfl (by omega) hbz ?_)
                  intro g' cap' w6 ho6 hg6 hl6
                  have HE6 : Hid (w6.ownsRow w4.heap.size 24 3 (.slice (some ⟨g', 0, none⟩) (NX.length + 1) cap') (NX ++ [y]).length (flT (NX ++ [y])) ∧ Below w4.heap.size w4 w6) := ⟨owns_re ho6 (by simp) (by rw [flT_append, flT_one]), BJ.out.trans ((Kp.grownBy (S := fun k => w4.heap.size ≤ k) hg6 (fun k hk => (HOJ.out.lt k hk).1)).below BJ.out.size (fun _ h => h))⟩
                  clear ho6 hg6 hl6
                  go_wp2
                  go_roundw
                  case rel => exact ⟨j + 1, by omega, by go_num, by rw [HN2.out]; exact HE6.out⟩
                  case measure => simp [RowKit.intOf]; omega
          · have hjz : ¬ (j : Int) < (fr.length : Int) := by omega
            have hjj : j = fr.length := by omega
            subst hjj
            rw [List.take_length] at HJ
            have HJ1 : Hid (wr.ownsRow w4.heap.size 24 3 u8 (nx fr dl).length (flT (nx fr dl)) ∧ Below w4.heap.size w4 wr) := HJ.out
            have hNL := nx_length fr dl
            go_wp2_with fail
            clear hjl hjz hj HJ
            generalize nx fr dl = NX at *
            go_loopw [8, 12, 13] (fun s8 s12 _ wq => ∃ k : Nat, k ≤ dl.length ∧ s12 = .int .i64 k ∧ Hid (wq.ownsRow w4.heap.size 24 3 s8 (NX ++ up (dl.take k)).length (flT (NX ++ up (dl.take k))) ∧ Below w4.heap.size w4 wq)) (fun _ s12 _ _ => dl.length - (RowKit.intOf s12).toNat)
            case atStart => exact ⟨0, Nat.zero_le _, rfl, by simpa [up] using HJ1.out.1, HJ1.out.2⟩
            case round =>
              obtain ⟨k, hk, rfl, HK⟩ := hrel
              by_cases hkl : k < dl.length
              · have hkz : (k : Int) < (dl.length : Int) := by omega
                obtain ⟨d, hd⟩ : ∃ d, dl[k]? = some d := ⟨dl[k], by simp⟩
                have HDK : Hid (dl[k]? = some d) := hd
                have HUP : Hid (NX ++ up (dl.take (k + 1)) = (NX ++ up (dl.take k)) ++ (if d.2 = 1 then [d.1] else [])) := by
                  show _ = _
                  rw [up_take_succ hd, List.append_assoc]
                have hUL : (up (dl.take k)).length ≤ k := Nat.le_trans (up_length _) (by rw [List.length_take]; omega)
                have hmd := HMD.out d (List.mem_of_getElem? hd)
                have BK : Hid (Below w4.heap.size w4 wr) := HK.out.2
                have HOK : Hid (wr.ownsRow w4.heap.size 24 3 u8 (NX ++ up (dl.take k)).length (flT (NX ++ up (dl.take k)))) := HK.out.1
                obtain ⟨bd, od, ccd, ed, zd, d1, d2, d3, d4⟩ := (HD4.out.below BK.out).at4 hd
                simp only [Value.slice.injEq] at ed
                obtain ⟨rfl, -, rfl⟩ := ed
                have hhas := has_any (.slice pf fr.length cf) fr d.1 wr (HLF4.out.below BK.out) (by omega)
                have hLU : (NX ++ up (dl.take k)).length = NX.length + (up (dl.take k)).length := List.length_append
                have hLU2 : (NX ++ up (dl.take k)).length ≤ 700000 := by omega
                clear hLU hUL HK
                generalize NX ++ up (dl.take k) = NU at *
                clear hd
                rcases hmd with ⟨hd2, hdf⟩ | ⟨hd2, hdf⟩
                · rw [decide_eq_false hdf] at hhas
                  rw [hd2] at d4
                  have HU2 : Hid (NX ++ up (dl.take (k + 1)) = NU ++ [d.1]) := by rw [HUP.out, if_pos hd2]; simp [Hid]
                  clear HUP
                  go_wp2_with fail
                  refine hhas.mono ?_
                  rintro e w7 ⟨rfl, hg7⟩
                  by_cases hk00 : k = 0
                  · subst hk00
                    have r1 := (hg7.cell zd).trans d1
                    have r2 := (hg7.cell zd).trans d2
                    have r3 := (hg7.cell zd).trans d3
                    have r4 := (hg7.cell zd).trans d4
                    have rz := Nat.lt_of_lt_of_le zd hg7.size
                    have HG7 : Hid (Gr wr w7) := hg7
                    clear hg7 d1 d2 d3 d4 hhas
                    go_wp2_with fail
                    go_quiet (fail)
                    have G8 : Gr w7 (w7.drewN nq) := (Gr.refl w7).drewN nq
                    have s1 := (G8.cell rz).trans r1
                    have s2 := (G8.cell rz).trans r2
                    have s3 := (G8.cell rz).trans r3
                    have s4 := (G8.cell rz).trans r4
                    simp only [Nat.zero_mul, Nat.add_zero] at s1 s2 s3 s4
                    have G9 : Gr wr (w7.drewN nq) := HG7.out.trans G8
                    skip
                    generalize w7.drewN nq = w8 at *
                    have HO8 : Hid (w8.ownsRow w4.heap.size 24 3 u8 NU.length (flT NU)) := owns_below HOK.out G9.below
                    have B8 : Hid (Below w4.heap.size w4 w8) := BK.out.trans (G9.below.mono BK.out.size)
                    have hz8 := B8.out.size
                    clear r1 r2 r3 r4 G8 G9 HG7 HOK BK
                    go_wp2_with (at_builtin; refine Cn.wpApp1 rfl _ _ rfl w4.heap.size _ NU.length _ rfl HO8.out d.1 rfl (by omega) hz8 ?_)
                    intro g' cap' w6 ho6 hg6 hl6
                    have HE6 : Hid (w6.ownsRow w4.heap.size 24 3 (.slice (some ⟨g', 0, none⟩) (NU.length + 1) cap') (NU ++ [d.1]).length (flT (NU ++ [d.1])) ∧ Below w4.heap.size w4 w6) := ⟨owns_re ho6 (by simp) (by rw [flT_append, flT_one]), B8.out.trans ((Kp.grownBy (S := fun k => w4.heap.size ≤ k) hg6 (fun k hk => (HO8.out.lt k hk).1)).below B8.out.size (fun _ h => h))⟩
                    clear ho6 hg6 hl6
                    go_wp2
                    go_roundw
                    case rel => exact ⟨0 + 1, by omega, by first | go_num | rfl, by rw [HU2.out]; exact HE6.out⟩
                    case measure => simp [RowKit.intOf]; omega
                  · skip
                    obtain ⟨k0, hk0⟩ : ∃ k0, k = k0 + 1 := ⟨k - 1, by omega⟩
                    have HK0 : Hid (k = k0 + 1) := hk0
                    have hkm : (k : Int) - 1 = (k0 : Int) := by omega
                    have hkm0 : (0 : Int) < (k : Int) := by omega
                    have hkn0 : 0 < k := by omega
                    have hkm1 : (k0 : Int) < (dl.length : Int) := by omega
                    have hwk : IntKind.i64.wrap (k0 : Int) = (k0 : Int) := by rw [IntKind.wrap_i64]; omega
                    have hwk2 : IntKind.i64.wrap ((k : Int) - 1) = (k0 : Int) := by rw [IntKind.wrap_i64]; omega
                    obtain ⟨q, hq⟩ : ∃ q, dl[k0]? = some q := ⟨dl[k0]'(by omega), by simp⟩
                    have hto : ∀ W, Calls Try.prog 20 #[tv q.1, tv d.1] W fun e w' => e = .returned (.bool true) ∧ Gr W w' := fun W => by
                      have h := told_any q.1 d.1 W
                      obtain ⟨hh1, hh2⟩ := List.getElem?_eq_some_iff.1 hq
                      obtain ⟨hh3, hh4⟩ := List.getElem?_eq_some_iff.1 HDK.out
                      have := List.pairwise_iff_getElem.1 HND.out k0 k hh1 hh3 (by omega)
                      rw [hh2, hh4] at this
                      rw [this] at h
                      exact h
                    obtain ⟨bq, oq, ccq, eq, zq, q1, q2, q3, q4⟩ := (HD4.out.below (BK.out.trans (hg7.below.mono BK.out.size))).at4 hq
                    simp only [Value.slice.injEq, Option.some.injEq, Addr.mk.injEq, and_true] at eq
                    obtain ⟨⟨rfl, rfl⟩, -⟩ := eq
                    clear hq hk0
                    have g1 := cell_grown (a := ⟨bd, od + k0 * 4, none⟩) zq q1
                    have g2 := cell_grown (a := ⟨bd, od + k0 * 4 + 1, none⟩) zq q2
                    have g3 := cell_grown (a := ⟨bd, od + k0 * 4 + 2, none⟩) zq q3
                    have r1 := (hg7.cell zd).trans d1
                    have r2 := (hg7.cell zd).trans d2
                    have r3 := (hg7.cell zd).trans d3
                    have r4 := (hg7.cell zd).trans d4
                    have rz := Nat.lt_of_lt_of_le zd hg7.size
                    have e1 := cell_grown (a := ⟨bd, od + k * 4, none⟩) rz r1
                    have e2 := cell_grown (a := ⟨bd, od + k * 4 + 1, none⟩) rz r2
                    have e3 := cell_grown (a := ⟨bd, od + k * 4 + 2, none⟩) rz r3
                    have e4 := cell_grown (a := ⟨bd, od + k * 4 + 3, none⟩) rz r4
                    have HG7 : Hid (Gr wr w7) := hg7
                    clear hg7 d1 d2 d3 d4 hhas
                    go_wp2_with fail
                    go_quiet_grown (first | (go_at_call 20; refine Calls.grown_of (v := .bool true) (hto _)))
                    have G8 : Gr w7 (grow (w7.drewN nq) osq) := ((Gr.refl w7).drewN nq).grown osq
                    have s1 := (G8.cell rz).trans r1
                    have s2 := (G8.cell rz).trans r2
                    have s3 := (G8.cell rz).trans r3
                    have s4 := (G8.cell rz).trans r4
                    skip
                    have G9 : Gr wr (grow (w7.drewN nq) osq) := HG7.out.trans G8
                    clear g1 g2 g3 e1 e2 e3 e4 hto q1 q2 q3 q4
                    generalize grow (w7.drewN nq) osq = w8 at *
                    have HO8 : Hid (w8.ownsRow w4.heap.size 24 3 u8 NU.length (flT NU)) := owns_below HOK.out G9.below
                    have B8 : Hid (Below w4.heap.size w4 w8) := BK.out.trans (G9.below.mono BK.out.size)
                    have hz8 := B8.out.size
                    clear r1 r2 r3 r4 G8 G9 HG7 HOK BK
                    go_wp2_with (at_builtin; refine Cn.wpApp1 rfl _ _ rfl w4.heap.size _ NU.length _ rfl HO8.out d.1 rfl (by omega) hz8 ?_)
                    intro g' cap' w6 ho6 hg6 hl6
                    have HE6 : Hid (w6.ownsRow w4.heap.size 24 3 (.slice (some ⟨g', 0, none⟩) (NU.length + 1) cap') (NU ++ [d.1]).length (flT (NU ++ [d.1])) ∧ Below w4.heap.size w4 w6) := ⟨owns_re ho6 (by simp) (by rw [flT_append, flT_one]), B8.out.trans ((Kp.grownBy (S := fun k => w4.heap.size ≤ k) hg6 (fun k hk => (HO8.out.lt k hk).1)).below B8.out.size (fun _ h => h))⟩
                    clear ho6 hg6 hl6
                    go_wp2
                    go_roundw
                    case rel => exact ⟨k + 1, by omega, by first | go_num | rfl, by rw [HU2.out]; exact HE6.out⟩
                    case measure => simp [RowKit.intOf]; omega
                · rw [decide_eq_true hdf] at hhas
                  rw [hd2] at d4
                  have HU2 : Hid (NX ++ up (dl.take (k + 1)) = NU) := by rw [HUP.out, if_neg (by omega)]; simp [Hid]
                  clear HUP
                  go_wp2_with fail
                  refine hhas.mono ?_
                  rintro e w7 ⟨rfl, hg7⟩
                  by_cases hk00 : k = 0
                  · subst hk00
                    have r1 := (hg7.cell zd).trans d1
                    have r2 := (hg7.cell zd).trans d2
                    have r3 := (hg7.cell zd).trans d3
                    have r4 := (hg7.cell zd).trans d4
                    have rz := Nat.lt_of_lt_of_le zd hg7.size
                    have HG7 : Hid (Gr wr w7) := hg7
                    clear hg7 d1 d2 d3 d4 hhas
                    go_wp2_with fail
                    go_quiet (fail)
                    have G8 : Gr w7 (w7.drewN nq) := (Gr.refl w7).drewN nq
                    have s1 := (G8.cell rz).trans r1
                    have s2 := (G8.cell rz).trans r2
                    have s3 := (G8.cell rz).trans r3
                    have s4 := (G8.cell rz).trans r4
                    simp only [Nat.zero_mul, Nat.add_zero] at s1 s2 s3 s4
                    have G9 : Gr wr (w7.drewN nq) := HG7.out.trans G8
                    skip
                    generalize w7.drewN nq = w8 at *
                    have HO8 : Hid (w8.ownsRow w4.heap.size 24 3 u8 NU.length (flT NU)) := owns_below HOK.out G9.below
                    have B8 : Hid (Below w4.heap.size w4 w8) := BK.out.trans (G9.below.mono BK.out.size)
                    have hz8 := B8.out.size
                    clear r1 r2 r3 r4 G8 G9 HG7 HOK BK
                    go_wp2
                    go_roundw
                    case rel => exact ⟨0 + 1, by omega, by first | go_num | rfl, by rw [HU2.out]; exact ⟨HO8.out, B8.out⟩⟩
                    case measure => simp [RowKit.intOf]; omega
                  · skip
                    obtain ⟨k0, hk0⟩ : ∃ k0, k = k0 + 1 := ⟨k - 1, by omega⟩
                    have HK0 : Hid (k = k0 + 1) := hk0
                    have hkm : (k : Int) - 1 = (k0 : Int) := by omega
                    have hkm0 : (0 : Int) < (k : Int) := by omega
                    have hkn0 : 0 < k := by omega
                    have hkm1 : (k0 : Int) < (dl.length : Int) := by omega
                    have hwk : IntKind.i64.wrap (k0 : Int) = (k0 : Int) := by rw [IntKind.wrap_i64]; omega
                    have hwk2 : IntKind.i64.wrap ((k : Int) - 1) = (k0 : Int) := by rw [IntKind.wrap_i64]; omega
                    obtain ⟨q, hq⟩ : ∃ q, dl[k0]? = some q := ⟨dl[k0]'(by omega), by simp⟩
                    have hto : ∀ W, Calls Try.prog 20 #[tv q.1, tv d.1] W fun e w' => e = .returned (.bool true) ∧ Gr W w' := fun W => by
                      have h := told_any q.1 d.1 W
                      obtain ⟨hh1, hh2⟩ := List.getElem?_eq_some_iff.1 hq
                      obtain ⟨hh3, hh4⟩ := List.getElem?_eq_some_iff.1 HDK.out
                      have := List.pairwise_iff_getElem.1 HND.out k0 k hh1 hh3 (by omega)
                      rw [hh2, hh4] at this
                      rw [this] at h
                      exact h
                    obtain ⟨bq, oq, ccq, eq, zq, q1, q2, q3, q4⟩ := (HD4.out.below (BK.out.trans (hg7.below.mono BK.out.size))).at4 hq
                    simp only [Value.slice.injEq, Option.some.injEq, Addr.mk.injEq, and_true] at eq
                    obtain ⟨⟨rfl, rfl⟩, -⟩ := eq
                    clear hq hk0
                    have g1 := cell_grown (a := ⟨bd, od + k0 * 4, none⟩) zq q1
                    have g2 := cell_grown (a := ⟨bd, od + k0 * 4 + 1, none⟩) zq q2
                    have g3 := cell_grown (a := ⟨bd, od + k0 * 4 + 2, none⟩) zq q3
                    have r1 := (hg7.cell zd).trans d1
                    have r2 := (hg7.cell zd).trans d2
                    have r3 := (hg7.cell zd).trans d3
                    have r4 := (hg7.cell zd).trans d4
                    have rz := Nat.lt_of_lt_of_le zd hg7.size
                    have e1 := cell_grown (a := ⟨bd, od + k * 4, none⟩) rz r1
                    have e2 := cell_grown (a := ⟨bd, od + k * 4 + 1, none⟩) rz r2
                    have e3 := cell_grown (a := ⟨bd, od + k * 4 + 2, none⟩) rz r3
                    have e4 := cell_grown (a := ⟨bd, od + k * 4 + 3, none⟩) rz r4
                    have HG7 : Hid (Gr wr w7) := hg7
                    clear hg7 d1 d2 d3 d4 hhas
                    go_wp2_with fail
                    go_quiet_grown (first | (go_at_call 20; refine Calls.grown_of (v := .bool true) (hto _)))
                    have G8 : Gr w7 (grow (w7.drewN nq) osq) := ((Gr.refl w7).drewN nq).grown osq
                    have s1 := (G8.cell rz).trans r1
                    have s2 := (G8.cell rz).trans r2
                    have s3 := (G8.cell rz).trans r3
                    have s4 := (G8.cell rz).trans r4
                    skip
                    have G9 : Gr wr (grow (w7.drewN nq) osq) := HG7.out.trans G8
                    clear g1 g2 g3 e1 e2 e3 e4 hto q1 q2 q3 q4
                    generalize grow (w7.drewN nq) osq = w8 at *
                    have HO8 : Hid (w8.ownsRow w4.heap.size 24 3 u8 NU.length (flT NU)) := owns_below HOK.out G9.below
                    have B8 : Hid (Below w4.heap.size w4 w8) := BK.out.trans (G9.below.mono BK.out.size)
                    have hz8 := B8.out.size
                    clear r1 r2 r3 r4 G8 G9 HG7 HOK BK
                    go_wp2
                    go_roundw
                    case rel => exact ⟨k + 1, by omega, by first | go_num | rfl, by rw [HU2.out]; exact ⟨HO8.out, B8.out⟩⟩
                    case measure => simp [RowKit.intOf]; omega
              · have hkz : ¬ (k : Int) < (dl.length : Int) := by omega
                have hkk : k = dl.length := by omega
                subst hkk
                rw [List.take_length] at HK
                have hUL := up_length dl
                have BK : Hid (Below w4.heap.size w4 wr) := HK.out.2
                have hso := rsorted_any u8 (NX ++ up dl) wr (owns_ls (E := ET) HK.out.1) (by rw [List.length_append]; omega)
                clear HK
                go_wp2_with fail
                refine hso.mono ?_
                rintro e w9 ⟨v9, r, rfl, ho9, hp9, hm9, hb9⟩
                have hr : r = fr2 := HFIN.out r hp9 hm9
                subst hr
                have BW : Hid (Below w4.heap.size w4 w9) := BK.out.trans (hb9.mono BK.out.size)
                have HS9 : Hid (Sn w w9 mb tb b cb n2 vm2 f2 r) := HS4.out.below BW.out
                have HO9 : Hid (Out wr.heap.size w9 v9 r) := ho9
                have HBS : Hid (w4.heap.size ≤ wr.heap.size) := BK.out.size
                have hfr := front_any w9 HS9.out.mu (by omega)
                clear hso hm9 hp9 ho9 hb9 BW BK
                go_wp2_with fail
                refine hfr.mono ?_
                rintro e w10 ⟨v10, rfl, ho10, hb10⟩
                have hts := tms_any v10 v9 r r w10 (owns_ls (E := ET) ho10) (owns_ls (E := ET) (HO9.out.below hb10).owns) (by unfold maxLen; omega)
                rw [decide_eq_true rfl] at hts
                have HB10 : Hid (Below w9.heap.size w9 w10) := hb10
                clear hfr ho10 hb10
                go_wp2_with fail
                refine hts.mono ?_
                rintro e w11 ⟨rfl, hg11⟩
                have HB11 : Hid (Below w9.heap.size w9 w11) := HB10.out.trans (hg11.below.mono HB10.out.size)
                clear hts hg11
                go_wp2
                go_roundw
                case rel =>
                  refine ⟨i + 1, n2, vm2, f2, r, by omega, by omega, by omega, by go_num, HS9.out.below HB11.out, owns_ls (E := ET) (HO9.out.below HB11.out).owns, fun g hg => ?_, fun t => ?_⟩
                  · have h1 := (HO9.out.owns.lt g hg).1
                    have h2 := HBS.out
                    have h3 := HS4.out.mu.tl.ta.lt
                    have h4 := HS4.out.mu.ch.lt
                    exact ⟨fun e => by omega, fun e => by omega, fun e => by have := HS4.out.mu.ch.row g e; omega⟩
                  · have h1 := HFB3.out t
                    omega
                case measure => simp [RowKit.intOf]; omega
      · have hltz2 : ¬ (i : Int) < 100 := by omega
        have HB : Hid (Below w.heap.size w wr) := HI.out.1.bl
        go_wp2
        go_ret
        exact ⟨rfl, HB.out⟩
    · have hltz : ¬ (i : Int) < (svs.length : Int) := by omega
      have HB : Hid (Below w.heap.size w wr) := HI.out.1.bl
      go_wp2
      go_ret
      exact ⟨rfl, HB.out⟩
end Go.Proofs.Yteffgkhpcdboaaa
