import Derived.Test.YtmhbpelbkeclpaaGreatDoorQLeasts0
import Derived.Deep.RegionHeld3
namespace Go.Proofs.YtmhbpelbkeclpaaGreatDoor
open Go.RowKit Go.Shelf Go.Lib
open Go.Sort hiding Below

set_option maxHeartbeats 4000000 in
set_option maxRecDepth 100000 in
theorem leasts_any (v u : Value) (ts us : List T3) (w : World) (he : Env w) (hv : Lst w v ts) (hu : Lst w u us) (hb1 : ts.length * 24 ≤ 140737488351232) (hb2 : us.length * 24 ≤ 140737488351232) :
    Calls Tryz.prog 4 #[v, u] w fun e w' => e = .returned (.bool true) ∧ Below w.heap.size w w' := by
  have hmx : Tryz.prog.follows .mixedOrders = true := by kernel_rfl
  have hkn := known_any w he
  obtain ⟨pl, cl, rfl⟩ := hv.form
  obtain ⟨pu, cu, rfl⟩ := hu.form
  have HV := hideA hv
  have HU := hideA hu
  have hft : (tfront ts).length ≤ ts.length := tfront_len ts
  have hfu : (tfront us).length ≤ us.length := tfront_len us
  clear hv hu he
  go_enter Tryz.func4, Tryz.ntmps4
  go_wp2_with fail
  refine hkn.mono ?_
  rintro e w2 ⟨rfl, hb2'⟩
  have B2 := hideA hb2'
  clear hkn hb2'
  go_wp2_with (at_builtin; refine wpAppL Tryz.underlying33 infoP rfl _ _ rfl w2.heap.size (.slice (some ⟨w2.heap.size, 0, none⟩) 0 0) 0 [] rfl ⟨rfl, Or.inr ⟨w2.heap.size, 0, #[], rfl, Nat.le_refl _, heap_new' _ _, Nat.le_refl _, by simp, rfl, rfl⟩⟩ _ ts rfl ((HV.out.below B2.out).below ((Gr.refl _).alloc _).below) (by omega) (by simp) ?_)
  intro vo w3 ho3 hb3
  have O3 : Hid (w3.ownsRow w2.heap.size 34 3 vo ts.length (flat ts)) := by unfold Hid; simpa using ho3
  have B3 : Hid (Below w2.heap.size w2 w3) := ((Gr.refl w2).alloc _).below.trans hb3
  have hm9 := mark99 w3
  clear ho3 hb3
  go_wp2_with fail
  refine hm9.mono ?_
  rintro e w4 ⟨rfl, hg4⟩
  have O4 := hideA (owns_below2 O3.out hg4.below)
  have B4 : Hid (Below w2.heap.size w2 w4) := B3.out.trans (hg4.below.mono B3.out.size)
  clear hm9 hg4 O3 B3
  go_wp2_with (at_builtin; refine wpApp1 Tryz.underlying33 infoP rfl _ _ rfl w2.heap.size _ ts.length (flat ts) rfl O4.out m99 rfl (by omega) B4.out.size ?_)
  intro v5 w5 ho5 hb5
  obtain ⟨g, cap, rfl, hg2, hg5⟩ := ho5.form (by omega)
  have O5 : Hid (w5.ownsRow w2.heap.size 34 3 (.slice (some ⟨g, 0, none⟩) (ts.length + 1) cap) (ts.length + 1) (flat (ts ++ [m99]))) := by
    unfold Hid
    rw [flat_append]
    simpa [flat] using ho5
  have HG : Hid (w2.heap.size ≤ g ∧ g < w5.heap.size) := ⟨hg2, hg5⟩
  have B5 : Hid (Below w2.heap.size w2 w5) := B4.out.trans hb5
  have A5 : Hid (Below w.heap.size w w5) := B2.out.trans (B5.out.mono B2.out.size)
  obtain ⟨l5, -, hcap, -, -, -⟩ := lst_tk O5.out rfl
  have L5 := hideA l5
  have hcz : (ts.length : Int) ≤ (cap : Int) := by omega
  have hcapz : ts.length ≤ cap := by omega
  have hr6 := prefLeast_any _ ts w5 (HV.out.below A5.out) (by omega)
  clear ho5 hb5 O4 B4 l5 hcap hg2 hg5
  go_wp2_with fail
  refine hr6.mono ?_
  rintro e w6 ⟨v6, rfl, o6, hb6⟩
  have O6 := hideA o6
  have Bl6 := hideA hb6
  have hL7 := Least_any _ ts w6 (L5.out.below hb6) (by omega)
  clear hr6 o6 hb6
  go_wp2_with fail
  refine hL7.mono ?_
  rintro e w7 ⟨v7, rfl, o7, hb7⟩
  have O7 := hideA o7
  have Bl7 := hideA hb7
  have C57 : Hid (Below w5.heap.size w5 w7) := Bl6.out.trans (hb7.mono Bl6.out.size)
  have hL8 := Least_any _ ts w7 (L5.out.below C57.out) (by omega)
  clear hL7 o7 hb7
  go_wp2_with fail
  refine hL8.mono ?_
  rintro e w8 ⟨v8, rfl, o8, hb8⟩
  have O8 := hideA o8
  have Bl8 := hideA hb8
  have C58 : Hid (Below w5.heap.size w5 w8) := C57.out.trans (hb8.mono C57.out.size)
  have A8 : Hid (Below w.heap.size w w8) := A5.out.trans (C58.out.mono A5.out.size)
  have hL9 := Least_any _ us w8 (HU.out.below A8.out) (by omega)
  clear hL8 o8 hb8
  go_wp2_with fail
  refine hL9.mono ?_
  rintro e w9 ⟨v9, rfl, o9, hb9⟩
  have O9 := hideA o9
  have Bl9 := hideA hb9
  have C59 : Hid (Below w5.heap.size w5 w9) := C58.out.trans (hb9.mono C58.out.size)
  have hL10 := Least_any _ ts w9 (L5.out.below C59.out) (by omega)
  clear hL9 o9 hb9
  go_wp2_with fail
  refine hL10.mono ?_
  rintro e w10 ⟨v10, rfl, o10, hb10⟩
  have O10 := hideA o10
  have Bl10 := hideA hb10
  have C510 : Hid (Below w5.heap.size w5 w10) := C59.out.trans (hb10.mono C59.out.size)
  clear hL10 o10 hb10
  have z56 := Bl6.out.size
  have z67 := Bl7.out.size
  have z78 := Bl8.out.size
  have z89 := Bl9.out.size
  have z90 := Bl10.out.size
  have HZ := hideA (And.intro z56 (And.intro z67 (And.intro z78 (And.intro z89 z90))))
  have D810 : Hid (Below w8.heap.size w8 w10) := Bl9.out.trans (Bl10.out.mono z89)
  have D710 : Hid (Below w7.heap.size w7 w10) := Bl8.out.trans (D810.out.mono z78)
  have D610 : Hid (Below w6.heap.size w6 w10) := Bl7.out.trans (D710.out.mono z67)
  have A10 : Hid (Below w.heap.size w w10) := A5.out.trans (C510.out.mono A5.out.size)
  have Q6 := hideA (owns_below2 O6.out D610.out)
  have Q7 := hideA (owns_below2 O7.out D710.out)
  have Q8 := hideA (owns_below2 O8.out D810.out)
  have Q9 := hideA (owns_below2 O9.out Bl10.out)
  have Q5 := hideA (owns_below2 O5.out C510.out)
  obtain ⟨l10, zg, -, k1, k2, k3⟩ := lst_tk Q5.out rfl
  have hmt : (tfront ts).length ≤ maxLen := by unfold maxLen; omega
  have hmu : (tfront us).length ≤ maxLen := by unfold maxLen; omega
  have hml : ts.length ≤ maxLen := by unfold maxLen; omega
  have dr : Below w10.heap.size w10 w10.drew := (Gr.refl w10).drew.below
  have hSame : ∀ x y W, ((x = v7 ∧ y = v6) ∨ (x = v8 ∧ y = v6) ∨ (x = v10 ∧ y = v6)) → Below w10.heap.size w10 W → Calls Tryz.prog 18 #[x, y] W fun e w' => e = .returned (.bool true) ∧ Gr W w' := fun x y W h hb => by
    have L6 := (owns_lst Q6.out).below hb
    rcases h with ⟨rfl, rfl⟩ | ⟨rfl, rfl⟩ | ⟨rfl, rfl⟩
    · exact same_true _ _ _ W ((owns_lst Q7.out).below hb) L6 hmt
    · exact same_true _ _ _ W ((owns_lst Q8.out).below hb) L6 hmt
    · exact same_true _ _ _ W ((owns_lst O10.out).below hb) L6 hmt
  have hSameI : ∀ W, Below w10.heap.size w10 W → Calls Tryz.prog 18 #[.slice (some ⟨g, 0, none⟩) ts.length cap, .slice pl ts.length cl] W fun e w' => e = .returned (.bool true) ∧ Gr W w' := fun W hb => same_true _ _ _ W (l10.below hb) ((HV.out.below A10.out).below hb) hml
  have hSameC : ∀ y W, Below w10.heap.size w10 W → Lst W y (tfront us) → Calls Tryz.prog 18 #[v9, y] W fun e w' => e = .returned (.bool true) ∧ Gr W w' := fun y W hb hy => same_true _ _ _ W ((owns_lst Q9.out).below hb) hy hmu
  have hRef : ∀ W, Below w10.heap.size w10 W → Calls Tryz.prog 16 #[.slice pu us.length cu] W fun e w' => ∃ v', e = .returned v' ∧ w'.ownsRow W.heap.size 34 3 v' (tfront us).length (flat (tfront us)) ∧ Below W.heap.size W w' := fun W hb => prefLeast_any _ us W ((HU.out.below A10.out).below hb) (by omega)
  have hM9 := fun W => mark99 W
  have heq := fun a b c x y z W => run_eqP a b c x y z W
  have hq9 : teq 18446744073709551615 18446744073709551606 18446744073709551599 18446744073709551615 18446744073709551606 18446744073709551599 = true := by simp [teq]
  have hnz : (ts.length : Int) < (ts.length : Int) + 1 := by omega
  have S0 : (w10.drew.cell? ⟨g, ts.length * 3, none⟩ = some (.int .u64 18446744073709551615) ∧ w10.drew.cell? ⟨g, ts.length * 3 + 1, none⟩ = some (.int .u64 18446744073709551606) ∧ w10.drew.cell? ⟨g, ts.length * 3 + 2, none⟩ = some (.int .u64 18446744073709551599) ∧ g < w10.drew.heap.size) ∧ Below w10.heap.size w10 w10.drew := ⟨⟨k1, k2, k3, zg⟩, dr⟩
  have keepB : ∀ W W' : World, ((W.cell? ⟨g, ts.length * 3, none⟩ = some (.int .u64 18446744073709551615) ∧ W.cell? ⟨g, ts.length * 3 + 1, none⟩ = some (.int .u64 18446744073709551606) ∧ W.cell? ⟨g, ts.length * 3 + 2, none⟩ = some (.int .u64 18446744073709551599) ∧ g < W.heap.size) ∧ Below w10.heap.size w10 W) → Below W.heap.size W W' → ((W'.cell? ⟨g, ts.length * 3, none⟩ = some (.int .u64 18446744073709551615) ∧ W'.cell? ⟨g, ts.length * 3 + 1, none⟩ = some (.int .u64 18446744073709551606) ∧ W'.cell? ⟨g, ts.length * 3 + 2, none⟩ = some (.int .u64 18446744073709551599) ∧ g < W'.heap.size) ∧ Below w10.heap.size w10 W') := by
    rintro W W' ⟨⟨a1, a2, a3, a4⟩, a5⟩ hb
    exact ⟨⟨(hb.cell (p := ⟨g, ts.length * 3, none⟩) a4).trans a1, (hb.cell (p := ⟨g, ts.length * 3 + 1, none⟩) a4).trans a2, (hb.cell (p := ⟨g, ts.length * 3 + 2, none⟩) a4).trans a3, Nat.lt_of_lt_of_le a4 hb.size⟩, a5.trans (hb.mono a5.size)⟩
  have fin : ∀ W : World, ((W.cell? ⟨g, ts.length * 3, none⟩ = some (.int .u64 18446744073709551615) ∧ W.cell? ⟨g, ts.length * 3 + 1, none⟩ = some (.int .u64 18446744073709551606) ∧ W.cell? ⟨g, ts.length * 3 + 2, none⟩ = some (.int .u64 18446744073709551599) ∧ g < W.heap.size) ∧ Below w10.heap.size w10 W) → Below w10.heap.size w10 W := fun W h => h.2
  have HSz := hideA (And.intro hb1 (And.intro hb2 (And.intro hft (And.intro hfu (And.intro hmt (And.intro hmu hml))))))
  clear z56 z67 z78 z89 z90 l10 k1 k2 k3 zg dr hb1 hb2 hft hfu hmt hmu hml
  go_wp2_with fail
  go_region_held3 (fun w' => ((w'.cell? ⟨g, ts.length * 3, none⟩ = some (.int .u64 18446744073709551615) ∧ w'.cell? ⟨g, ts.length * 3 + 1, none⟩ = some (.int .u64 18446744073709551606) ∧ w'.cell? ⟨g, ts.length * 3 + 2, none⟩ = some (.int .u64 18446744073709551599) ∧ g < w'.heap.size) ∧ Below w10.heap.size w10 w'))
    (first | exact S0 | exact keepB _ _ (by assumption) (by assumption) | exact keepB _ _ (by assumption) (Gr.below (by assumption)) | assumption)
    (first
      | (go_at_call 18; have hx := hg22; clear hx; refine (hSameI _ (And.right (by assumption))).mono ?_; rintro e w23 ⟨rfl, hg23⟩)
      | (go_at_call 18; refine (hSameC _ _ (And.right (by assumption)) (owns_lst o21)).mono ?_; rintro e w22 ⟨rfl, hg22⟩)
      | (go_at_call 18; refine (hSame _ _ _ (by first | exact Or.inl ⟨rfl, rfl⟩ | exact Or.inr (Or.inl ⟨rfl, rfl⟩) | exact Or.inr (Or.inr ⟨rfl, rfl⟩)) (And.right (by assumption))).mono ?_; rintro e wS ⟨rfl, hgS⟩)
      | (go_at_call 16; refine (hRef _ (And.right (by assumption))).mono ?_; rintro e w21 ⟨v21, rfl, o21, hb21⟩)
      | (go_at_call 15; refine (hM9 _).mono ?_; rintro e w24 ⟨rfl, hg24⟩))
  have B11 := hideA (fin _ (by assumption))
  clear hSame hSameI hSameC hRef hM9 heq hq9 hnz S0 keepB fin
  have W0 : Hid (Wro w24 w2.heap.size g cap ts us 0 w24) := ⟨by rw [ovr_zero]; exact owns_below2 Q5.out B11.out, Q.Kp.refl _ _⟩
  have A24 : Hid (Below w.heap.size w w24) := A10.out.trans (B11.out.mono A10.out.size)
  have hgw : Hid (w.heap.size ≤ g) := Nat.le_trans B2.out.size HG.out.1
  obtain ⟨hb1, hb2, hft, hfu, hmt, hmu, hml⟩ := HSz.out
  have LU : Hid (∀ W, Q.Kp (fun q => q = g) w24 W → Lst W (.slice pu us.length cu) us) := fun W hk => hk.ls (E := ET3) (HU.out.below A24.out) (fun q hq e => by
    subst e
    have := Q.Ls.blk (E := ET3) HU.out q hq
    have := hgw.out
    omega)
  go_wp2_with fail
  go_loopw [11] (fun s11 wr => ∃ i : Nat, i ≤ ts.length ∧ i ≤ us.length ∧ s11 = .int .i64 i ∧ Hid (Wro w24 w2.heap.size g cap ts us i wr)) (fun s11 _ => ts.length - (RowKit.intOf s11).toNat)
  case atStart => exact ⟨0, Nat.zero_le _, Nat.zero_le _, rfl, W0⟩
  case round =>
    clear W0
    obtain ⟨i, hi1, hi2, rfl, HW⟩ := hrel
    by_cases hlt : i < ts.length ∧ i < us.length
    · have hz1 : (i : Int) < (ts.length : Int) := by omega
      have hz2 : (i : Int) < (us.length : Int) := by omega
      have hz3 : (i : Int) < (ts.length : Int) + 1 := by omega
      obtain ⟨y, hy⟩ : ∃ y, us[i]? = some y := ⟨us[i]'hlt.2, by simp⟩
      obtain ⟨bu, ou, cu', eu, zu, y1, y2, y3⟩ := (LU.out wr HW.out.kp).at2 hy
      simp only [Value.slice.injEq] at eu
      obtain ⟨rfl, -, rfl⟩ := eu
      obtain ⟨x, hx⟩ : ∃ x, (ovr ts us i ++ [m99])[i]? = some x := ⟨(ovr ts us i ++ [m99])[i]'(by rw [List.length_append, ovr_len ts us i hi1 hi2]; simp; omega), by simp⟩
      have q1 : wr.cell? ⟨g, i * 3, none⟩ = some (.int .u64 x.1) := by rw [HW.out.row.cellAt _ (by omega)]; exact flat_get _ i 0 x hx (by omega)
      have q2 : wr.cell? ⟨g, i * 3 + 1, none⟩ = some (.int .u64 x.2.1) := by rw [HW.out.row.cellAt _ (by omega)]; exact flat_get _ i 1 x hx (by omega)
      have q3 : wr.cell? ⟨g, i * 3 + 2, none⟩ = some (.int .u64 x.2.2) := by rw [HW.out.row.cellAt _ (by omega)]; exact flat_get _ i 2 x hx (by omega)
      have f1 := HW.out.row.frozenAt (i * 3)
      have f2 := HW.out.row.frozenAt (i * 3 + 1)
      have f3 := HW.out.row.frozenAt (i * 3 + 2)
      have HN := hideA (HW.out.step hlt.1 hy)
      clear hy hx
      go_wp2
      exact ⟨⟨i + 1, hlt.1, hlt.2, by go_num, HN⟩, meas_up _ i hlt.1⟩
    · have K10 : Hid (Q.Kp (fun q => q = g) w10 wr) := (Q.Kp.of_below B11.out).trans HW.out.kp (fun _ _ h => h)
      have hgr : ∀ q, w5.heap.size ≤ q → ¬ q = g := fun q hq e => by have := HG.out.2; omega
      obtain ⟨z56, z67, z78, z89, z90⟩ := HZ.out
      have R7 := hideA (Q.owns_kp K10.out Q7.out (fun q hq e => hgr q (by have := (O7.out.lt q hq).1; omega) e))
      have R8 := hideA (Q.owns_kp K10.out Q8.out (fun q hq e => hgr q (by have := (O8.out.lt q hq).1; omega) e))
      have R9 := hideA (Q.owns_kp K10.out Q9.out (fun q hq e => hgr q (by have := (O9.out.lt q hq).1; omega) e))
      have R10 := hideA (Q.owns_kp K10.out O10.out (fun q hq e => hgr q (by have := (O10.out.lt q hq).1; omega) e))
      have R6 := hideA (Q.owns_kp K10.out Q6.out (fun q hq e => hgr q (by have := (O6.out.lt q hq).1; omega) e))
      have A12 : Hid (Below w.heap.size w wr) := A24.out.trans (HW.out.kp.below A24.out.size (fun q e => by rw [e]; exact hgw.out))
      have r7 : Hid (∀ q, v7.ownBlock = some q → w6.heap.size ≤ q ∧ q < w7.heap.size) := fun q hq => O7.out.lt q hq
      have r8 : Hid (∀ q, v8.ownBlock = some q → w7.heap.size ≤ q ∧ q < w8.heap.size) := fun q hq => O8.out.lt q hq
      have r9 : Hid (∀ q, v9.ownBlock = some q → w8.heap.size ≤ q ∧ q < w9.heap.size) := fun q hq => O9.out.lt q hq
      have r10 : Hid (∀ q, v10.ownBlock = some q → w9.heap.size ≤ q ∧ q < w10.heap.size) := fun q hq => O10.out.lt q hq
      have r6 : Hid (∀ q, v6.ownBlock = some q → w5.heap.size ≤ q ∧ q < w6.heap.size) := fun q hq => O6.out.lt q hq
      have H1012 : Hid (w10.heap.size ≤ wr.heap.size) := K10.out.size
      have hw6 : Hid (w.heap.size ≤ w6.heap.size) := by
        have h1 := B2.out.size
        have h2 := HG.out
        unfold Hid
        omega
      obtain ⟨p7, c7, rfl⟩ := (owns_lst R7.out).form
      obtain ⟨p8, c8, rfl⟩ := (owns_lst R8.out).form
      obtain ⟨p9, c9, rfl⟩ := (owns_lst R9.out).form
      obtain ⟨p10, c10, rfl⟩ := (owns_lst R10.out).form
      obtain ⟨xs, hxs⟩ : ∃ xs, xs = ovr ts us i := ⟨_, rfl⟩
      have hxl : xs.length = ts.length := by rw [hxs]; exact ovr_len ts us i hi1 hi2
      have hrow := HW.out.row
      rw [← hxs] at hrow
      have LI := hideA (lst_tk hrow hxl).1
      have hfx : (tfront xs).length ≤ xs.length := tfront_len xs
      have hxb : xs.length * 24 ≤ 140737488351232 := by omega
      have hxm : (tfront xs).length ≤ maxLen := by unfold maxLen; omega
      have HXL := hideA hxl
      have cond : ¬ ((i : Int) < (ts.length : Int)) ∨ ((i : Int) < (ts.length : Int) ∧ ¬ ((i : Int) < (us.length : Int))) := by omega
      clear hxs hxl hrow HW LU hgr K10 Q5 Q6 Q7 Q8 Q9 O5 O6 O7 O8 O9 O10 B11 A24 C57 C58 C59 C510 D810 D710 D610 Bl6 Bl7 Bl8 Bl9 Bl10 A10 A8 A5 B5 L5 hlt z56 z67 z78 z89 z90
      generalize wr = w12 at *
      rcases cond with hz1 | ⟨hz1, hz2⟩
      all_goals go_wp2_with (at_builtin; refine wpAppL Tryz.underlying33 infoP rfl _ _ rfl w12.heap.size (.slice (some ⟨w12.heap.size, 0, none⟩) 0 0) 0 [] rfl ⟨rfl, Or.inr ⟨w12.heap.size, 0, #[], rfl, Nat.le_refl _, heap_new' _ _, Nat.le_refl _, by simp, rfl, rfl⟩⟩ _ xs rfl (LI.out.below ((Gr.refl _).alloc _).below) (by omega) (by simp) ?_)
      all_goals (
        intro v13 w13 ho13 hb13
        have O13 : Hid (w13.ownsRow w12.heap.size 34 3 v13 xs.length (flat xs)) := by unfold Hid; simpa using ho13
        have B13 : Hid (Below w12.heap.size w12 w13) := ((Gr.refl w12).alloc _).below.trans hb13
        have hL14 := Least_any (.slice (some ⟨g, 0, none⟩) ts.length cap) xs w13 (LI.out.below B13.out) (by omega)
        clear ho13 hb13
        go_wp2_with fail
        refine hL14.mono ?_
        rintro e w14 ⟨v14, rfl, o14, hb14⟩
        have O14 := hideA o14
        have B14 : Hid (Below w12.heap.size w12 w14) := B13.out.trans (hb14.mono B13.out.size)
        have hR15 := prefLeast_any v13 xs w14 ((owns_lst O13.out).below hb14) (by omega)
        clear hL14 o14 hb14
        go_wp2_with fail
        refine hR15.mono ?_
        rintro e w15 ⟨v15, rfl, o15, hb15⟩
        have hS16 := same_true v14 v15 _ w15 ((owns_lst O14.out).below hb15) (owns_lst o15) hxm
        have B15 : Hid (Below w12.heap.size w12 w15) := B14.out.trans (hb15.mono B14.out.size)
        clear hR15 o15 hb15
        go_wp2_with fail
        refine hS16.mono ?_
        rintro e w16 ⟨rfl, hg16⟩
        have B16 : Hid (Below w12.heap.size w12 w16) := B15.out.trans (hg16.below.mono B15.out.size)
        clear hS16 hg16
        obtain ⟨bl, hbl⟩ : ∃ b, b = w16.heap.size := ⟨_, rfl⟩
        obtain ⟨W17, hW17⟩ : ∃ W, W = w16.alloc (.cells #[.slice p7 (tfront ts).length c7, .slice p8 (tfront ts).length c8, .slice p9 (tfront us).length c9, .slice p10 (tfront ts).length c10] 33) := ⟨_, rfl⟩
        have g17 : Gr w16 W17 := by rw [hW17]; exact (Gr.refl _).alloc _
        have hblk : W17.heap[bl]? = some (.cells #[.slice p7 (tfront ts).length c7, .slice p8 (tfront ts).length c8, .slice p9 (tfront us).length c9, .slice p10 (tfront ts).length c10] 33 (0, 0)) := by rw [hW17, hbl]; exact heap_new' _ _
        have B17 : Hid (Below w12.heap.size w12 W17) := B16.out.trans (g17.below.mono B16.out.size)
        have T7 := hideA (owns_base2 (owns_below2 R7.out B17.out) (Nat.zero_le _))
        have T8 := hideA (owns_base2 (owns_below2 R8.out B17.out) (Nat.zero_le _))
        have T9 := hideA (owns_base2 (owns_below2 R9.out B17.out) (Nat.zero_le _))
        have T10 := hideA (owns_base2 (owns_below2 R10.out B17.out) (Nat.zero_le _))
        have FM := fam_four T7.out T8.out T9.out T10.out r7.out r8.out r9.out (fun q hq => (r10.out q hq).1) HZ.out.2.2.1 HZ.out.2.2.2.1
        have hzz : w10.heap.size ≤ bl := by have := H1012.out; have := B16.out.size; omega
        have hap := papart_any bl _ _ W17 (fun k hk => by
          match k, hk with
          | 0, _ => simp [World.cell?, hblk]
          | 1, _ => simp [World.cell?, hblk]
          | 2, _ => simp [World.cell?, hblk]
          | 3, _ => simp [World.cell?, hblk]) (Array.getElem?_eq_some_iff.1 hblk).1 (fun k hk e => by
          have hz := HZ.out
          match k, hk with
          | 0, _ => have := r7.out bl e; omega
          | 1, _ => have := r8.out bl e; omega
          | 2, _ => have := r9.out bl e; omega
          | 3, _ => have := r10.out bl e; omega) FM (fun k hk => by
          match k, hk with
          | 0, _ => show ((tfront ts).length + 1) * 24 ≤ _; omega
          | 1, _ => show ((tfront ts).length + 1) * 24 ≤ _; omega
          | 2, _ => show ((tfront us).length + 1) * 24 ≤ _; omega
          | 3, _ => show ((tfront ts).length + 1) * 24 ≤ _; omega)
        have SQ : Hid (∀ q, Sq (fun k => if k = 0 then .slice p7 (tfront ts).length c7 else if k = 1 then .slice p8 (tfront ts).length c8 else if k = 2 then .slice p9 (tfront us).length c9 else .slice p10 (tfront ts).length c10) q → w6.heap.size ≤ q) := fun q hq => by
          have hz := HZ.out
          exact sq_four (fun g h => (r7.out g h).1) (fun g h => by have := (r8.out g h).1; omega) (fun g h => by have := (r9.out g h).1; omega) (fun g h => by have := (r10.out g h).1; omega) hq
        clear FM hblk hzz g17
        go_wp2_with fail
        rw [← hbl, ← hW17]
        clear hW17 hbl
        refine hap.mono ?_
        rintro e w18 ⟨rfl, hk18⟩
        have A17 : Hid (Below w.heap.size w W17) := A12.out.trans (B17.out.mono A12.out.size)
        have A18 : Hid (Below w.heap.size w w18) := A17.out.trans (hk18.below A17.out.size (fun q hq => Nat.le_trans hw6.out (SQ.out q hq)))
        have L6 : Hid (Lst w18 v6 (tfront ts)) := hk18.ls (E := ET3) ((owns_lst R6.out).below B17.out) (fun q hq e => by have := (r6.out q hq).2; have := SQ.out q e; omega)
        have hL19 := Least_any _ ts w18 (HV.out.below A18.out) (by omega)
        clear hap hk18
        go_wp2_with fail
        refine hL19.mono ?_
        rintro e w19 ⟨v19, rfl, o19, hb19⟩
        have hS20 := same_true v19 v6 _ w19 (owns_lst o19) (L6.out.below hb19) hmt
        have A19 : Hid (Below w.heap.size w w19) := A18.out.trans (hb19.mono A18.out.size)
        clear hL19 o19 hb19
        go_wp2_with fail
        refine hS20.mono ?_
        rintro e w20 ⟨rfl, hg20⟩
        have A20 : Hid (Below w.heap.size w w20) := A19.out.trans (hg20.below.mono A19.out.size)
        clear hS20 hg20
        go_wp2
        go_ret
        exact ⟨rfl, A20.out⟩)
end Go.Proofs.YtmhbpelbkeclpaaGreatDoor
