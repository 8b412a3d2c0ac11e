import Derived.Test.YtmhbpelbkeclpaaGreatDoorQApart0
import Derived.Deep.RegionHeld3
namespace Go.Proofs.YtmhbpelbkeclpaaGreatDoor
open Go.RowKit Go.Shelf Go.Lib
open Go.Sort hiding Below

set_option maxHeartbeats 8000000 in
set_option maxRecDepth 100000 in
theorem papart_any (bl : Nat) (V : Nat → Value) (C : Nat → List T3) (w : World) (hl : ∀ k, k < 4 → w.cell? ⟨bl, k, none⟩ = some (V k)) (hbl : bl < w.heap.size) (hfar : ∀ k, k < 4 → (V k).ownBlock ≠ some bl) (hF : Q.Fam ET3 34 w 4 V C) (hN : ∀ k, k < 4 → ((C k).length + 1) * 24 ≤ 140737488355328) :
    Calls Tryz.prog 19 #[.slice (some ⟨bl, 0, none⟩) 4 4] w fun e w' => e = .returned (.bool true) ∧ Q.Kp (Sq V) w w' := by
  have hM := fun i j hi hj W => pmark_any i j hi hj W
  obtain ⟨iS, hiS, hs0, hs1, hs2⟩ := Q.info_parts infoLP
  have HiS : Hid (Tryz.prog.info? 33 = some iS) := hiS
  have Hs0 : Hid (iS.zero = some (.slice none 0 0)) := hs0
  have Hs1 : Hid (iS.size = 1) := hs1
  have Hs2 : Hid (iS.bytes = 24) := hs2
  clear hiS hs0 hs1 hs2
  have Hbl : Hid (∀ W, Q.Kp (Sq V) w W → (∀ k, k < 4 → W.cell? ⟨bl, k, none⟩ = some (V k)) ∧ bl < W.heap.size) := fun W hk => ⟨fun k hk4 => (hk.cell hbl (fun ⟨i, hi, e⟩ => hfar i hi e)).trans (hl k hk4), Nat.lt_of_lt_of_le hbl hk.size⟩
  have HN : Hid (∀ k, k < 4 → ((C k).length + 1) * 24 ≤ 140737488355328) := hN
  have HF : Hid (Q.Fam ET3 34 w 4 V C) := hF
  clear hfar hN hF hl hbl
  go_enter Tryz.func19, Tryz.ntmps19
  go_wp2_with fail
  go_loopw [14] (fun s14 wr => ∃ k : Nat, k ≤ 4 ∧ s14 = .int .i64 k ∧ Hid (Q.Fam ET3 34 wr 4 V (Q.stage mkP C k 0) ∧ Q.Kp (Sq V) w wr)) (fun s14 _ => 4 - (RowKit.intOf s14).toNat)
  case atStart => exact ⟨0, by omega, rfl, by rw [Q.stage_zero]; exact HF.out, Q.Kp.refl _ _⟩
  case round =>
    obtain ⟨k, hk, rfl, HI⟩ := hrel
    by_cases hk4 : k < 4
    · have hkz : (k : Int) < 4 := by omega
      have hNk := HN.out k hk4
      obtain ⟨hc, hblr⟩ := Hbl.out wr HI.out.2
      have x0 := hc k hk4
      obtain ⟨pk, ck, ek⟩ := (owns_lst (HF.out.own k hk4)).form
      rw [ek] at x0
      have HE : Hid (V k = .slice pk (C k).length ck) := ek
      clear hc ek
      go_wp2_with fail
      go_loopw [21] (fun s21 wr => ∃ i : Nat, i ≤ (C k).length ∧ s21 = .int .i64 i ∧ Hid (Q.Fam ET3 34 wr 4 V (Q.stage mkP C k i) ∧ Q.Kp (Sq V) w wr)) (fun s21 _ => (C k).length - (RowKit.intOf s21).toNat)
      case atStart => exact ⟨0, Nat.zero_le _, rfl, HI⟩
      case round =>
        clear HI x0 hblr
        obtain ⟨i, hi, rfl, HI⟩ := hrel
        by_cases hlt : i < (C k).length
        · have hltz : (i : Int) < ((C k).length : Int) := by omega
          have hlen := Q.stage_len mkP C k i k hi
          have hown : wr.ownsRow 0 34 3 (.slice pk (C k).length ck) (C k).length (flat (Q.stage mkP C k i k)) := by
            have := HI.out.1.own k hk4
            rw [hlen, HE.out] at this
            exact this
          obtain ⟨g, cap, hV, hBg, hg⟩ := hown.form (by omega)
          simp only [Value.slice.injEq] at hV
          obtain ⟨rfl, -, rfl⟩ := hV
          obtain ⟨s', hs'⟩ : ∃ s', (Q.stage mkP C k i k)[i]? = some s' := ⟨(Q.stage mkP C k i k)[i]'(by omega), by simp⟩
          have q1 : wr.cell? ⟨g, i * 3, none⟩ = some (.int .u64 s'.1) := by rw [hown.cellAt _ (by omega)]; exact flat_get _ i 0 s' hs' (by omega)
          have q2 : wr.cell? ⟨g, i * 3 + 1, none⟩ = some (.int .u64 s'.2.1) := by rw [hown.cellAt _ (by omega)]; exact flat_get _ i 1 s' hs' (by omega)
          have q3 : wr.cell? ⟨g, i * 3 + 2, none⟩ = some (.int .u64 s'.2.2) := by rw [hown.cellAt _ (by omega)]; exact flat_get _ i 2 s' hs' (by omega)
          have f1 := hown.frozenAt (i * 3)
          have f2 := hown.frozenAt (i * 3 + 1)
          have f3 := hown.frozenAt (i * 3 + 2)
          clear hown hs' hlen
          go_wp2_with fail
          refine (hM k i (by omega) (by omega) _).mono ?_
          rintro e w5 ⟨rfl, hg5⟩
          replace q1 := (hg5.cell (b := g) (o := i * 3) hg).trans q1
          replace q2 := (hg5.cell (b := g) (o := i * 3 + 1) hg).trans q2
          replace q3 := (hg5.cell (b := g) (o := i * 3 + 2) hg).trans q3
          replace f1 := (hg5.frozen (b := g) (o := i * 3) hg).trans f1
          replace f2 := (hg5.frozen (b := g) (o := i * 3 + 1) hg).trans f2
          replace f3 := (hg5.frozen (b := g) (o := i * 3 + 2) hg).trans f3
          have HS := hideA (fam_mark (HI.out.1.below hg5.below) hk4 HE.out rfl hlt)
          have HK := hideA ((kp_gr HI.out.2 hg5).trans HS.out.2 (fun _ _ h => h))
          go_wp2
          exact ⟨⟨i + 1, by omega, by go_num, HS.out.1, HK.out⟩, by simp [RowKit.intOf]; omega⟩
        · have hltz : ¬ (i : Int) < ((C k).length : Int) := by omega
          have hie : i = (C k).length := by omega
          have HI2 : Hid (Q.Fam ET3 34 wr 4 V (Q.stage mkP C (k + 1) 0) ∧ Q.Kp (Sq V) w wr) := by
            have := HI.out
            rw [hie, Q.stage_next] at this
            exact this
          go_wp2
          exact ⟨⟨k + 1, by omega, by go_num, HI2⟩, by simp [RowKit.intOf]; omega⟩
    · have hkz : ¬ (k : Int) < 4 := by omega
      have hk' : k = 4 := by omega
      subst hk'
      have G2 : Hid (Q.Grw ET3 34 33 mkP 1 wr 4 V (fun i => (C i).length) wr 0 V (.slice none 0 0)) := ⟨fun i hi => by omega, fun i hi => by omega, fun i _ hi => by
        have := HI.out.1.own i hi
        rw [Q.stage_full mkP C 4 i hi, Q.mks_len] at this
        exact this, fun i hi => by omega, World.ownsRow_nil _ _ _ _, fun g hg => by simp [Value.ownBlock] at hg, Q.Kp.refl _ _⟩
      have K2 : Hid (Q.Kp (Sq V) w wr) := HI.out.2
      have FAR : Hid (∀ i i', i < 4 → i' < 4 → i ≠ i' → ∀ g, (V i).ownBlock = some g → (V i').ownBlock ≠ some g) := HI.out.1.far
      have LOW : Hid (∀ i, i < 4 → ∀ g, (V i).ownBlock = some g → g < wr.heap.size) := fun i hi g hg => HI.out.1.lt hi g hg
      clear HI HF
      generalize wr = w2 at *
      have CB : Hid (∀ W, Q.Kp (Sq V) w2 W → (∀ k, k < 4 → W.cell? ⟨bl, k, none⟩ = some (V k)) ∧ bl < W.heap.size) := fun W hW => Hbl.out W (K2.out.trans hW (fun _ _ h => h))
      go_wp2_with fail
      clear hkz
      go_loopw [6, 34] (fun s6 s34 wr => ∃ (k : Nat) (X : Nat → Value), k ≤ 4 ∧ s34 = .int .i64 k ∧ Hid (Q.Grw ET3 34 33 mkP 1 w2 4 V (fun i => (C i).length) wr k X s6)) (fun _ s34 _ => 4 - (RowKit.intOf s34).toNat)
      case atStart => exact ⟨0, V, Nat.zero_le _, rfl, G2⟩
      case round =>
        clear G2
        obtain ⟨k, X, hk, rfl, HG⟩ := hrel
        obtain ⟨hc, hblr⟩ := CB.out wr HG.out.kp
        by_cases hk4 : k < 4
        · have hkz : (k : Int) < 4 := by omega
          have hNk := HN.out k hk4
          have x0 := hc k hk4
          have hOk := HG.out.rest k (Nat.le_refl _) hk4
          obtain ⟨pk, ck, ek⟩ := (owns_lst (ts := Q.mks mkP k (C k).length) (by rw [Q.mks_len]; exact hOk)).form
          rw [Q.mks_len] at ek
          have HOK : Hid (wr.ownsRow 0 34 ET3.k (.slice pk (C k).length ck) (C k).length (Q.fl ET3 (Q.mks mkP k (C k).length))) := by rw [← ek]; exact hOk
          have HEK : Hid (V k = .slice pk (C k).length ck) := ek
          rw [ek] at x0
          have hsw := HG.out.kp.size
          clear hOk ek hc
          go_wp2_with fail
          refine (hM k (C k).length (by omega) (by omega) _).mono ?_
          rintro e w5 ⟨rfl, hg5⟩
          go_wp2_with (at_builtin; refine Q.wpAppKeep1 ET3 Tryz.underlying33 infoP rfl (by decide) rfl _ _ rfl (.slice pk (C k).length ck) (C k).length (Q.mks mkP k (C k).length) rfl (Q.owns_below HOK.out hg5.below) (mkP k (C k).length) rfl hNk (by unfold maxLen; omega) _ rfl _ ?_)
          intro g cap W1 ho1 hk1 hl1 hold
          have HX1 : Hid (Lst W1 (.slice (some ⟨g, 0, none⟩) ((C k).length + 1) cap) (Q.mks mkP k ((C k).length + 1))) := owns_lst (by rw [Q.mks_len, ← mks_flat]; exact ho1)
          have HOLD : Hid (Lst W1 (V k) (Q.mks mkP k (C k).length)) := by
            unfold Hid
            rw [HEK.out]
            exact old_ls HOK.out (Q.mks_len ..) (Nat.le_trans hg5.size hk1.size) hold
          have HK1 : Hid (Q.Kp (fun q => (V k).ownBlock = some q) wr W1) := by
            unfold Hid
            rw [HEK.out]
            exact (Q.Kp.of_gr hg5).trans hk1 (fun _ _ h => h)
          have HL1 : Hid (∀ q, (Value.slice (some ⟨g, 0, none⟩) ((C k).length + 1) cap).ownBlock = some q → (V k).ownBlock = some q ∨ wr.heap.size ≤ q) := fun q hq => by
            have : q = g := by simpa [Value.ownBlock] using hq.symm
            rw [this, HEK.out]
            exact hl1.imp id (fun h => Nat.le_trans hg5.size h)
          have HM1 : Hid (W1.ownsRow w2.heap.size 33 1 u6 k ((List.range k).map X)) := Q.owns_kp HK1.out HG.out.more (fun q hq e => by
            have h1 := (HG.out.more.lt q hq).1
            have h2 := LOW.out k hk4 q e
            omega)
          have hz1 := HK1.out.size
          clear ho1 hk1 hl1 hold hg5
          go_wp2_with (at_builtin; refine wpList_append_lies _ rfl _ _ 40 rfl w2.heap.size 33 iS (.slice none 0 0) 1 24 Tryz.underlying40 HiS.out Hs0.out Hs1.out Hs2.out rfl (by decide) u6 k _ rfl (World.ownsRow.alloc HM1.out _) ⟨W1.heap.size, 0, none⟩ 1 1 [.slice (some ⟨g, 0, none⟩) ((C k).length + 1) cap] rfl rfl (World.news_of_block (heap_new' _ _)) (fun u hu => by simp at hu; subst hu; rfl) (by decide) (by unfold maxLen; omega) (by omega) (by simp; omega) _ rfl ?_)
          intro g7 c7 W3 ho3 hg3 hl3 _
          have HSS := hideA (HG.out.step hk4 FAR.out LOW.out HX1.out HL1.out HOLD.out HK1.out ho3 ((Q.Kp.of_below ((Gr.refl W1).alloc _).below).trans (Q.Kp.grownBy (S := fun q => u6.ownBlock = some q) hg3 (fun _ h => h)) (fun _ _ h => h)) (fun q hq => by
            have : q = g7 := by simpa [Value.ownBlock] using hq.symm
            rw [this]
            exact hl3.imp id (fun e => by rw [e]; simp)))
          clear ho3 hg3 hl3
          go_wp2
          exact ⟨⟨k + 1, _, by omega, by go_num, HSS⟩, meas_up 4 k hk4⟩
        · have hkz : ¬ (k : Int) < 4 := by omega
          have hk' : k = 4 := by omega
          subst hk'
          have GW : Hid (Q.Grw ET3 34 33 mkP 1 w2 4 V (fun i => (C i).length) wr 4 X u6) := HG.out
          have HC : Hid (∀ k, k < 4 → wr.cell? ⟨bl, k, none⟩ = some (V k)) := hc
          have KF : Hid (Q.Kp (Sq V) w wr) := K2.out.trans HG.out.kp (fun _ _ h => h)
          obtain ⟨g7, c7, h7, _, hg7⟩ := HG.out.more.form (by decide)
          subst h7
          have H7 : Hid (∀ i, i < 4 → wr.cell? ⟨g7, i, none⟩ = some (X i)) := fun i hi => by
            rw [HG.out.more.cellAt i (by omega)]
            simp [hi]
          have hmx : Tryz.prog.follows .mixedOrders = true := by kernel_rfl
          have heq := fun a b c x y z W => run_eqP a b c x y z W
          clear HG hc K2 FAR LOW CB Hbl HiS Hs0 Hs1 Hs2
          generalize wr = w3 at *
          go_wp2_with fail
          clear hkz
          go_loopw [52] (fun s52 wr => ∃ k : Nat, k ≤ 4 ∧ s52 = .int .i64 k ∧ Gr w3 wr) (fun s52 _ => 4 - (RowKit.intOf s52).toNat)
          case atStart => exact ⟨0, by omega, rfl, Gr.refl _⟩
          case round =>
            obtain ⟨k, hk, rfl, hg3⟩ := hrel
            by_cases hk4 : k < 4
            · have hkz : (k : Int) < 4 := by omega
              have hNk := HN.out k hk4
              have m1 := (hg3.cell (b := g7) (o := k) hg7).trans (H7.out k hk4)
              have LX := GW.out.big k hk4
              obtain ⟨px, cx, ex⟩ := ((ls_ET _ _ _).1 LX).form
              rw [Q.mks_len] at ex
              rw [ex] at m1
              have HX : Hid (X k = .slice px ((C k).length + 1) cx) := ex
              have LV := GW.out.old k hk4
              obtain ⟨pv, cv, ev⟩ := ((ls_ET _ _ _).1 LV).form
              rw [Q.mks_len] at ev
              have HV : Hid (V k = .slice pv (C k).length cv) := ev
              have HLX : Hid (Lst w3 (.slice px ((C k).length + 1) cx) (Q.mks mkP k ((C k).length + 1))) := by rw [← ex]; exact LX
              have HLV : Hid (Lst w3 (.slice pv (C k).length cv) (Q.mks mkP k (C k).length)) := by rw [← ev]; exact LV
              clear ex ev LX LV
              have HCk : Hid (w3.cell? ⟨bl, k, none⟩ = some (.slice pv (C k).length cv)) := by
                have := HC.out k hk4
                rw [HV.out] at this
                exact this
              go_wp2_with fail
              clear m1
              go_loopw [59] (fun s59 wr => ∃ i : Nat, i ≤ (C k).length + 1 ∧ s59 = .int .i64 i ∧ Gr w3 wr) (fun s59 _ => (C k).length + 1 - (RowKit.intOf s59).toNat)
              case atStart => exact ⟨0, Nat.zero_le _, rfl, hg3⟩
              case round =>
                clear hg3
                obtain ⟨i, hi, rfl, hg4⟩ := hrel
                by_cases hlt : i < (C k).length + 1
                · have hltz : (i : Int) < (((C k).length + 1 : Nat) : Int) := Int.ofNat_lt.2 hlt
                  have hltz2 : (i : Int) < ((C k).length : Int) + 1 := by omega
                  have hz4 := hg4.size
                  have hMk : ∀ W : World, Calls Tryz.prog 15 #[.int .i64 (k : Int), .int .i64 (i : Int)] W fun e w' => e = .returned (.agg #[.int .u64 18446744073709551615, .int .u64 (18446744073709551615 - (k : Int)), .int .u64 (18446744073709551608 - (i : Int))]) ∧ Gr W w' := fun W => hM k i (by omega) (by omega) W
                  obtain ⟨bx, ox, cx', ex, zx, y1, y2, y3⟩ := (HLX.out.below hg4.below).at2 (j := i) (Q.mks_get mkP hlt)
                  rw [Q.mks_len] at ex
                  simp only [Value.slice.injEq] at ex
                  obtain ⟨rfl, -, rfl⟩ := ex
                  have Y1 : wr.cell? ⟨bx, ox + i * 3, none⟩ = some (.int .u64 18446744073709551615) := y1
                  have Y2 : wr.cell? ⟨bx, ox + i * 3 + 1, none⟩ = some (.int .u64 (18446744073709551615 - (k : Int))) := y2
                  have Y3 : wr.cell? ⟨bx, ox + i * 3 + 2, none⟩ = some (.int .u64 (18446744073709551608 - (i : Int))) := y3
                  have b1 := (hg4.cell (b := bl) (o := k) hblr).trans HCk.out
                  have zb : bl < wr.heap.size := Nat.lt_of_lt_of_le hblr hz4
                  have hq : teq 18446744073709551615 (18446744073709551615 - (k : Int)) (18446744073709551608 - (i : Int)) 18446744073709551615 (18446744073709551615 - (k : Int)) (18446744073709551608 - (i : Int)) = true := by simp [teq]
                  have HH := hideA (And.intro hg4 (And.intro hlt (And.intro hi (And.intro hk4 hNk))))
                  clear y1 y2 y3
                  go_wp2_with fail
                  by_cases hil : i < (C k).length
                  · have hilz : (i : Int) < ((C k).length : Int) := Int.ofNat_lt.2 hil
                    obtain ⟨bv, ov, cv', ev, zv, v1, v2, v3⟩ := (HLV.out.below HH.out.1.below).at2 (j := i) (Q.mks_get mkP hil)
                    rw [Q.mks_len] at ev
                    simp only [Value.slice.injEq] at ev
                    obtain ⟨rfl, -, rfl⟩ := ev
                    have S0 : (wr.drew.cell? ⟨bx, ox + i * 3, none⟩ = some (.int .u64 18446744073709551615) ∧ wr.drew.cell? ⟨bx, ox + i * 3 + 1, none⟩ = some (.int .u64 (18446744073709551615 - (k : Int))) ∧ wr.drew.cell? ⟨bx, ox + i * 3 + 2, none⟩ = some (.int .u64 (18446744073709551608 - (i : Int))) ∧ wr.drew.cell? ⟨bl, k, none⟩ = some (.slice (some ⟨bv, ov, none⟩) (C k).length cv) ∧ wr.drew.cell? ⟨bv, ov + i * 3, none⟩ = some (.int .u64 18446744073709551615) ∧ wr.drew.cell? ⟨bv, ov + i * 3 + 1, none⟩ = some (.int .u64 (18446744073709551615 - (k : Int))) ∧ wr.drew.cell? ⟨bv, ov + i * 3 + 2, none⟩ = some (.int .u64 (18446744073709551608 - (i : Int))) ∧ bx < wr.drew.heap.size ∧ bl < wr.drew.heap.size ∧ bv < wr.drew.heap.size) := ⟨Y1, Y2, Y3, b1, v1, v2, v3, zx, zb, zv⟩
                    have keepG : ∀ W W' : World, (W.cell? ⟨bx, ox + i * 3, none⟩ = some (.int .u64 18446744073709551615) ∧ W.cell? ⟨bx, ox + i * 3 + 1, none⟩ = some (.int .u64 (18446744073709551615 - (k : Int))) ∧ W.cell? ⟨bx, ox + i * 3 + 2, none⟩ = some (.int .u64 (18446744073709551608 - (i : Int))) ∧ W.cell? ⟨bl, k, none⟩ = some (.slice (some ⟨bv, ov, none⟩) (C k).length cv) ∧ W.cell? ⟨bv, ov + i * 3, none⟩ = some (.int .u64 18446744073709551615) ∧ W.cell? ⟨bv, ov + i * 3 + 1, none⟩ = some (.int .u64 (18446744073709551615 - (k : Int))) ∧ W.cell? ⟨bv, ov + i * 3 + 2, none⟩ = some (.int .u64 (18446744073709551608 - (i : Int))) ∧ bx < W.heap.size ∧ bl < W.heap.size ∧ bv < W.heap.size) → Gr W W' → (W'.cell? ⟨bx, ox + i * 3, none⟩ = some (.int .u64 18446744073709551615) ∧ W'.cell? ⟨bx, ox + i * 3 + 1, none⟩ = some (.int .u64 (18446744073709551615 - (k : Int))) ∧ W'.cell? ⟨bx, ox + i * 3 + 2, none⟩ = some (.int .u64 (18446744073709551608 - (i : Int))) ∧ W'.cell? ⟨bl, k, none⟩ = some (.slice (some ⟨bv, ov, none⟩) (C k).length cv) ∧ W'.cell? ⟨bv, ov + i * 3, none⟩ = some (.int .u64 18446744073709551615) ∧ W'.cell? ⟨bv, ov + i * 3 + 1, none⟩ = some (.int .u64 (18446744073709551615 - (k : Int))) ∧ W'.cell? ⟨bv, ov + i * 3 + 2, none⟩ = some (.int .u64 (18446744073709551608 - (i : Int))) ∧ bx < W'.heap.size ∧ bl < W'.heap.size ∧ bv < W'.heap.size) := by
                      rintro W W' ⟨a1, a2, a3, a4, a5, a6, a7, a9, aa, ab⟩ hg
                      exact ⟨(hg.cell a9).trans a1, (hg.cell a9).trans a2, (hg.cell a9).trans a3, (hg.cell aa).trans a4, (hg.cell ab).trans a5, (hg.cell ab).trans a6, (hg.cell ab).trans a7, Nat.lt_of_lt_of_le a9 hg.size, Nat.lt_of_lt_of_le aa hg.size, Nat.lt_of_lt_of_le ab hg.size⟩
                    clear hM hNk hg4 hlt hi b1 zb zx hz4 Y1 Y2 Y3 v1 v2 v3 hil
                    go_region_held3 (fun w' => w'.cell? ⟨bx, ox + i * 3, none⟩ = some (.int .u64 18446744073709551615) ∧ w'.cell? ⟨bx, ox + i * 3 + 1, none⟩ = some (.int .u64 (18446744073709551615 - (k : Int))) ∧ w'.cell? ⟨bx, ox + i * 3 + 2, none⟩ = some (.int .u64 (18446744073709551608 - (i : Int))) ∧ w'.cell? ⟨bl, k, none⟩ = some (.slice (some ⟨bv, ov, none⟩) (C k).length cv) ∧ w'.cell? ⟨bv, ov + i * 3, none⟩ = some (.int .u64 18446744073709551615) ∧ w'.cell? ⟨bv, ov + i * 3 + 1, none⟩ = some (.int .u64 (18446744073709551615 - (k : Int))) ∧ w'.cell? ⟨bv, ov + i * 3 + 2, none⟩ = some (.int .u64 (18446744073709551608 - (i : Int))) ∧ bx < w'.heap.size ∧ bl < w'.heap.size ∧ bv < w'.heap.size)
                      (first | exact S0 | exact keepG _ _ (by assumption) (by assumption) | assumption)
                      (first | (go_at_call 15; have hx5 := hg5; clear hx5; refine (hMk _).mono ?_; rintro e w6 ⟨rfl, hg6⟩) | (go_at_call 15; refine (hMk _).mono ?_; rintro e w5 ⟨rfl, hg5⟩))
                    obtain ⟨hg4, hlt, hi, hk4, hNk⟩ := HH.out
                    have hgn : Gr w3 w6 := hg4.trans ((Gr.refl wr).drew.trans (hg5.trans hg6))
                    clear keepG S0
                    go_wp2
                    exact ⟨⟨i + 1, hlt, by go_num, hgn⟩, meas_up _ i hlt⟩
                  · have hilz : ¬ (i : Int) < ((C k).length : Int) := fun h => hil (Int.ofNat_lt.1 h)
                    have hile : (C k).length ≤ i := Nat.le_of_not_lt hil
                    have S0 : (wr.drew.cell? ⟨bx, ox + i * 3, none⟩ = some (.int .u64 18446744073709551615) ∧ wr.drew.cell? ⟨bx, ox + i * 3 + 1, none⟩ = some (.int .u64 (18446744073709551615 - (k : Int))) ∧ wr.drew.cell? ⟨bx, ox + i * 3 + 2, none⟩ = some (.int .u64 (18446744073709551608 - (i : Int))) ∧ wr.drew.cell? ⟨bl, k, none⟩ = some (.slice pv (C k).length cv) ∧ bx < wr.drew.heap.size ∧ bl < wr.drew.heap.size) := ⟨Y1, Y2, Y3, b1, zx, zb⟩
                    have keepG : ∀ W W' : World, (W.cell? ⟨bx, ox + i * 3, none⟩ = some (.int .u64 18446744073709551615) ∧ W.cell? ⟨bx, ox + i * 3 + 1, none⟩ = some (.int .u64 (18446744073709551615 - (k : Int))) ∧ W.cell? ⟨bx, ox + i * 3 + 2, none⟩ = some (.int .u64 (18446744073709551608 - (i : Int))) ∧ W.cell? ⟨bl, k, none⟩ = some (.slice pv (C k).length cv) ∧ bx < W.heap.size ∧ bl < W.heap.size) → Gr W W' → (W'.cell? ⟨bx, ox + i * 3, none⟩ = some (.int .u64 18446744073709551615) ∧ W'.cell? ⟨bx, ox + i * 3 + 1, none⟩ = some (.int .u64 (18446744073709551615 - (k : Int))) ∧ W'.cell? ⟨bx, ox + i * 3 + 2, none⟩ = some (.int .u64 (18446744073709551608 - (i : Int))) ∧ W'.cell? ⟨bl, k, none⟩ = some (.slice pv (C k).length cv) ∧ bx < W'.heap.size ∧ bl < W'.heap.size) := by
                      rintro W W' ⟨a1, a2, a3, a4, a9, aa⟩ hg
                      exact ⟨(hg.cell a9).trans a1, (hg.cell a9).trans a2, (hg.cell a9).trans a3, (hg.cell aa).trans a4, Nat.lt_of_lt_of_le a9 hg.size, Nat.lt_of_lt_of_le aa hg.size⟩
                    clear hM hNk hg4 hlt hi b1 zb zx hz4 Y1 Y2 Y3 hil
                    refine wp_region_held_drew (S := (fun w' => w'.cell? ⟨bx, ox + i * 3, none⟩ = some (.int .u64 18446744073709551615) ∧ w'.cell? ⟨bx, ox + i * 3 + 1, none⟩ = some (.int .u64 (18446744073709551615 - (k : Int))) ∧ w'.cell? ⟨bx, ox + i * 3 + 2, none⟩ = some (.int .u64 (18446744073709551608 - (i : Int))) ∧ w'.cell? ⟨bl, k, none⟩ = some (.slice pv (C k).length cv) ∧ bx < w'.heap.size ∧ bl < w'.heap.size)) (by kernel_rfl) S0 (fun hHeld => ?_)
                    refine' wpAnyH_take (i := 0) (oi := { dst := some 62, op := Op.move (Operand.tmp 10), type := 33, pos := "law.go:75", after := #[], guard := none }) (v := _) rfl (by kernel_rfl) (by kernel_rfl) (by kernel_rfl) (fun _ _ _ h => h) (Or.inl ⟨by rfl, ?hy0⟩) (by assumption) ?rest0
                    case hy0 => (intro w hSw; (try dsimp only at hSw); go_simp; try (with_reducible rfl))
                    try simp only [Act.put, List.setIfInBounds_toArray, List.set_cons_zero, List.set_cons_succ]
                    refine' wpAnyH_take (i := 1) (oi := { dst := some 63, op := Op.move (Operand.tmp 11), type := 3, pos := "law.go:75", after := #[], guard := none }) (v := _) rfl (by kernel_rfl) (by kernel_rfl) (by kernel_rfl) (fun _ _ _ h => h) (Or.inl ⟨by rfl, ?hy1⟩) (by assumption) ?rest1
                    case hy1 => (intro w hSw; (try dsimp only at hSw); go_simp; try (with_reducible rfl))
                    try simp only [Act.put, List.setIfInBounds_toArray, List.set_cons_zero, List.set_cons_succ]
                    refine' wpAnyH_take (i := 2) (oi := { dst := some 64, op := Op.indexAddr 33 (Operand.tmp 62) (Operand.tmp 63), type := 0, pos := "law.go:75", after := #[{ on := 0, ground := Ground.data }, { on := 1, ground := Ground.data }], guard := none }) (v := _) rfl (by kernel_rfl) (by kernel_rfl) (by kernel_rfl) (fun _ _ _ h => h) (Or.inl ⟨by rfl, ?hy2⟩) (by assumption) ?rest2
                    case hy2 => (intro w hSw; (try dsimp only at hSw); go_simp; try (with_reducible rfl))
                    try simp only [Act.put, List.setIfInBounds_toArray, List.set_cons_zero, List.set_cons_succ]
                    refine' wpAnyH_take (i := 3) (oi := { dst := some 65, op := Op.load 34 (Operand.tmp 64), type := 34, pos := "law.go:75", after := #[{ on := 2, ground := Ground.data }], guard := none }) (v := _) rfl (by kernel_rfl) (by kernel_rfl) (by kernel_rfl) (fun _ _ _ h => h) (Or.inl ⟨by rfl, ?hy3⟩) (by assumption) ?rest3
                    case hy3 => (intro w hSw; (try dsimp only at hSw); go_simp; try (with_reducible rfl))
                    try simp only [Act.put, List.setIfInBounds_toArray, List.set_cons_zero, List.set_cons_succ]
                    refine' wpAnyH_take (i := 4) (oi := { dst := some 66, op := Op.move (Operand.tmp 9), type := 3, pos := "law.go:75", after := #[], guard := none }) (v := _) rfl (by kernel_rfl) (by kernel_rfl) (by kernel_rfl) (fun _ _ _ h => h) (Or.inl ⟨by rfl, ?hy4⟩) (by assumption) ?rest4
                    case hy4 => (intro w hSw; (try dsimp only at hSw); go_simp; try (with_reducible rfl))
                    try simp only [Act.put, List.setIfInBounds_toArray, List.set_cons_zero, List.set_cons_succ]
                    refine' wpAnyH_take (i := 5) (oi := { dst := some 67, op := Op.move (Operand.tmp 11), type := 3, pos := "law.go:75", after := #[], guard := none }) (v := _) rfl (by kernel_rfl) (by kernel_rfl) (by kernel_rfl) (fun _ _ _ h => h) (Or.inl ⟨by rfl, ?hy5⟩) (by assumption) ?rest5
                    case hy5 => (intro w hSw; (try dsimp only at hSw); go_simp; try (with_reducible rfl))
                    try simp only [Act.put, List.setIfInBounds_toArray, List.set_cons_zero, List.set_cons_succ]
                    refine wpAnyH_ready (rs := [6]) (by kernel_rfl) (by simp) ?_
                    refine AllReadyH.cons (o := { dst := some 68, op := Op.call { callee := Callee.value (Operand.func 15), args := #[Operand.tmp 66, Operand.tmp 67], argTypes := #[3, 3] }, type := 34, pos := "law.go:75", after := #[{ on := 4, ground := Ground.data }, { on := 5, ground := Ground.data }], guard := none }) rfl (fun K hK => ?_) AllReadyH.nil
                    go_simp
                    refine (hMk _).mono ?_
                    rintro e w5 ⟨rfl, hg5⟩
                    have HS5 := keepG _ _ hHeld hg5
                    go_wp2_with fail
                    refine hK.out _ _ HS5 (fun _ => ?_)
                    clear hK K hHeld
                    try simp only [Act.put, List.setIfInBounds_toArray, List.set_cons_zero, List.set_cons_succ]
                    refine' wpAnyH_take (i := 7) (oi := { dst := some 69, op := Op.binOp BinOp.neq 34 (Operand.tmp 65) (Operand.tmp 68) 34, type := 4, pos := "law.go:75", after := #[{ on := 3, ground := Ground.data }, { on := 6, ground := Ground.data }], guard := none }) (v := _) rfl (by kernel_rfl) (by kernel_rfl) (by kernel_rfl) (fun _ _ _ h => h) (Or.inl ⟨by rfl, ?hy7⟩) (by assumption) ?rest7
                    case hy7 => (intro w hSw; (try dsimp only at hSw); go_simp; try (with_reducible rfl))
                    try simp only [Act.put, List.setIfInBounds_toArray, List.set_cons_zero, List.set_cons_succ]
                    refine' wpAnyH_take (i := 8) (oi := { dst := some 70, op := Op.move (Operand.tmp 69), type := 4, pos := "law.go:75", after := #[{ on := 7, ground := Ground.data }, { on := 6, ground := Ground.chain }], guard := none }) (v := _) rfl (by kernel_rfl) (by kernel_rfl) (by kernel_rfl) (fun _ _ _ h => h) (Or.inl ⟨by rfl, ?hy8⟩) (by assumption) ?rest8
                    case hy8 => (intro w hSw; (try dsimp only at hSw); go_simp; try (with_reducible rfl))
                    try simp only [Act.put, List.setIfInBounds_toArray, List.set_cons_zero, List.set_cons_succ]
                    refine' wpAnyH_take (i := 9) (oi := { dst := some 71, op := Op.move (Operand.tmp 11), type := 3, pos := "law.go:75", after := #[{ on := 8, ground := Ground.guard }], guard := some (8, false) }) (v := _) rfl (by kernel_rfl) (by kernel_rfl) (by kernel_rfl) (fun _ _ _ h => h) (Or.inl ⟨by rfl, ?hy9⟩) (by assumption) ?rest9
                    case hy9 => (intro w hSw; (try dsimp only at hSw); go_simp; try (with_reducible rfl))
                    try simp only [Act.put, List.setIfInBounds_toArray, List.set_cons_zero, List.set_cons_succ]
                    refine' wpAnyH_take (i := 10) (oi := { dst := some 72, op := Op.move (Operand.tmp 0), type := 40, pos := "law.go:75", after := #[{ on := 8, ground := Ground.guard }], guard := some (8, false) }) (v := _) rfl (by kernel_rfl) (by kernel_rfl) (by kernel_rfl) (fun _ _ _ h => h) (Or.inl ⟨by rfl, ?hy10⟩) (by assumption) ?rest10
                    case hy10 => (intro w hSw; (try dsimp only at hSw); go_simp; try (with_reducible rfl))
                    try simp only [Act.put, List.setIfInBounds_toArray, List.set_cons_zero, List.set_cons_succ]
                    refine' wpAnyH_take (i := 11) (oi := { dst := some 73, op := Op.move (Operand.tmp 9), type := 3, pos := "law.go:75", after := #[{ on := 8, ground := Ground.guard }], guard := some (8, false) }) (v := _) rfl (by kernel_rfl) (by kernel_rfl) (by kernel_rfl) (fun _ _ _ h => h) (Or.inl ⟨by rfl, ?hy11⟩) (by assumption) ?rest11
                    case hy11 => (intro w hSw; (try dsimp only at hSw); go_simp; try (with_reducible rfl))
                    try simp only [Act.put, List.setIfInBounds_toArray, List.set_cons_zero, List.set_cons_succ]
                    refine' wpAnyH_take (i := 12) (oi := { dst := some 74, op := Op.indexAddr 40 (Operand.tmp 72) (Operand.tmp 73), type := 0, pos := "law.go:75", after := #[{ on := 10, ground := Ground.data }, { on := 11, ground := Ground.data }, { on := 8, ground := Ground.guard }], guard := some (8, false) }) (v := _) rfl (by kernel_rfl) (by kernel_rfl) (by kernel_rfl) (fun _ _ _ h => h) (Or.inl ⟨by rfl, ?hy12⟩) (by assumption) ?rest12
                    case hy12 => (intro w hSw; (try dsimp only at hSw); go_simp; try (with_reducible rfl))
                    try simp only [Act.put, List.setIfInBounds_toArray, List.set_cons_zero, List.set_cons_succ]
                    refine' wpAnyH_take (i := 13) (oi := { dst := some 75, op := Op.load 33 (Operand.tmp 74), type := 33, pos := "law.go:75", after := #[{ on := 12, ground := Ground.data }, { on := 8, ground := Ground.guard }], guard := some (8, false) }) (v := _) rfl (by kernel_rfl) (by kernel_rfl) (by kernel_rfl) (fun _ _ _ h => h) (Or.inl ⟨by rfl, ?hy13⟩) (by assumption) ?rest13
                    case hy13 => (intro w hSw; (try dsimp only at hSw); go_simp; try (with_reducible rfl))
                    try simp only [Act.put, List.setIfInBounds_toArray, List.set_cons_zero, List.set_cons_succ]
                    refine' wpAnyH_take (i := 14) (oi := { dst := some 76, op := Op.call { callee := Callee.builtin Builtin.len, args := #[Operand.tmp 75], argTypes := #[33] }, type := 3, pos := "law.go:75", after := #[{ on := 13, ground := Ground.data }, { on := 8, ground := Ground.guard }], guard := some (8, false) }) (v := _) rfl (by kernel_rfl) (by kernel_rfl) (by kernel_rfl) (fun _ _ _ h => h) (Or.inl ⟨by rfl, ?hy14⟩) (by assumption) ?rest14
                    case hy14 => (intro w hSw; (try dsimp only at hSw); go_simp; try (with_reducible rfl))
                    try simp only [Act.put, List.setIfInBounds_toArray, List.set_cons_zero, List.set_cons_succ]
                    refine' wpAnyH_take (i := 15) (oi := { dst := some 77, op := Op.binOp BinOp.lss 3 (Operand.tmp 71) (Operand.tmp 76) 3, type := 4, pos := "law.go:75", after := #[{ on := 9, ground := Ground.data }, { on := 14, ground := Ground.data }, { on := 8, ground := Ground.guard }], guard := some (8, false) }) (v := .bool false) rfl (by kernel_rfl) (by kernel_rfl) (by kernel_rfl) (fun _ _ _ h => h) (Or.inl ⟨by rfl, ?hy15⟩) (by assumption) ?rest15
                    case hy15 => (intro w hSw; (try dsimp only at hSw); go_simp)
                    try simp only [Act.put, List.setIfInBounds_toArray, List.set_cons_zero, List.set_cons_succ]
                    refine' wpAnyH_take (i := 16) (oi := { dst := some 78, op := Op.move (Operand.tmp 77), type := 4, pos := "law.go:75", after := #[{ on := 15, ground := Ground.data }, { on := 8, ground := Ground.chain }, { on := 8, ground := Ground.guard }], guard := some (8, false) }) (v := _) rfl (by kernel_rfl) (by kernel_rfl) (by kernel_rfl) (fun _ _ _ h => h) (Or.inl ⟨by rfl, ?hy16⟩) (by assumption) ?rest16
                    case hy16 => (intro w hSw; (try dsimp only at hSw); go_simp; try (with_reducible rfl))
                    try simp only [Act.put, List.setIfInBounds_toArray, List.set_cons_zero, List.set_cons_succ]
                    refine' wpAnyH_take (i := 17) (oi := { dst := some 79, op := Op.move (Operand.tmp 0), type := 40, pos := "law.go:75", after := #[{ on := 16, ground := Ground.guard }], guard := some (16, true) }) (v := undef) rfl (by kernel_rfl) (by kernel_rfl) (by kernel_rfl) (fun _ _ _ h => h) (Or.inr ⟨by rfl, rfl⟩) (by assumption) ?rest17
                    try simp only [Act.put, List.setIfInBounds_toArray, List.set_cons_zero, List.set_cons_succ]
                    refine' wpAnyH_take (i := 18) (oi := { dst := some 80, op := Op.move (Operand.tmp 9), type := 3, pos := "law.go:75", after := #[{ on := 16, ground := Ground.guard }], guard := some (16, true) }) (v := undef) rfl (by kernel_rfl) (by kernel_rfl) (by kernel_rfl) (fun _ _ _ h => h) (Or.inr ⟨by rfl, rfl⟩) (by assumption) ?rest18
                    try simp only [Act.put, List.setIfInBounds_toArray, List.set_cons_zero, List.set_cons_succ]
                    refine' wpAnyH_take (i := 19) (oi := { dst := some 81, op := Op.indexAddr 40 (Operand.tmp 79) (Operand.tmp 80), type := 0, pos := "law.go:75", after := #[{ on := 17, ground := Ground.data }, { on := 18, ground := Ground.data }, { on := 16, ground := Ground.guard }], guard := some (16, true) }) (v := undef) rfl (by kernel_rfl) (by kernel_rfl) (by kernel_rfl) (fun _ _ _ h => h) (Or.inr ⟨by rfl, rfl⟩) (by assumption) ?rest19
                    try simp only [Act.put, List.setIfInBounds_toArray, List.set_cons_zero, List.set_cons_succ]
                    refine' wpAnyH_take (i := 20) (oi := { dst := some 82, op := Op.load 33 (Operand.tmp 81), type := 33, pos := "law.go:75", after := #[{ on := 19, ground := Ground.data }, { on := 16, ground := Ground.guard }], guard := some (16, true) }) (v := undef) rfl (by kernel_rfl) (by kernel_rfl) (by kernel_rfl) (fun _ _ _ h => h) (Or.inr ⟨by rfl, rfl⟩) (by assumption) ?rest20
                    try simp only [Act.put, List.setIfInBounds_toArray, List.set_cons_zero, List.set_cons_succ]
                    refine' wpAnyH_take (i := 21) (oi := { dst := some 83, op := Op.move (Operand.tmp 11), type := 3, pos := "law.go:75", after := #[{ on := 16, ground := Ground.guard }], guard := some (16, true) }) (v := undef) rfl (by kernel_rfl) (by kernel_rfl) (by kernel_rfl) (fun _ _ _ h => h) (Or.inr ⟨by rfl, rfl⟩) (by assumption) ?rest21
                    try simp only [Act.put, List.setIfInBounds_toArray, List.set_cons_zero, List.set_cons_succ]
                    refine' wpAnyH_take (i := 22) (oi := { dst := some 84, op := Op.indexAddr 33 (Operand.tmp 82) (Operand.tmp 83), type := 0, pos := "law.go:75", after := #[{ on := 20, ground := Ground.data }, { on := 21, ground := Ground.data }, { on := 16, ground := Ground.guard }], guard := some (16, true) }) (v := undef) rfl (by kernel_rfl) (by kernel_rfl) (by kernel_rfl) (fun _ _ _ h => h) (Or.inr ⟨by rfl, rfl⟩) (by assumption) ?rest22
                    try simp only [Act.put, List.setIfInBounds_toArray, List.set_cons_zero, List.set_cons_succ]
                    refine' wpAnyH_take (i := 23) (oi := { dst := some 85, op := Op.load 34 (Operand.tmp 84), type := 34, pos := "law.go:75", after := #[{ on := 22, ground := Ground.data }, { on := 16, ground := Ground.guard }], guard := some (16, true) }) (v := undef) rfl (by kernel_rfl) (by kernel_rfl) (by kernel_rfl) (fun _ _ _ h => h) (Or.inr ⟨by rfl, rfl⟩) (by assumption) ?rest23
                    try simp only [Act.put, List.setIfInBounds_toArray, List.set_cons_zero, List.set_cons_succ]
                    refine' wpAnyH_take (i := 24) (oi := { dst := some 86, op := Op.move (Operand.tmp 9), type := 3, pos := "law.go:75", after := #[{ on := 16, ground := Ground.guard }], guard := some (16, true) }) (v := undef) rfl (by kernel_rfl) (by kernel_rfl) (by kernel_rfl) (fun _ _ _ h => h) (Or.inr ⟨by rfl, rfl⟩) (by assumption) ?rest24
                    try simp only [Act.put, List.setIfInBounds_toArray, List.set_cons_zero, List.set_cons_succ]
                    refine' wpAnyH_take (i := 25) (oi := { dst := some 87, op := Op.move (Operand.tmp 11), type := 3, pos := "law.go:75", after := #[{ on := 16, ground := Ground.guard }], guard := some (16, true) }) (v := undef) rfl (by kernel_rfl) (by kernel_rfl) (by kernel_rfl) (fun _ _ _ h => h) (Or.inr ⟨by rfl, rfl⟩) (by assumption) ?rest25
                    try simp only [Act.put, List.setIfInBounds_toArray, List.set_cons_zero, List.set_cons_succ]
                    refine' wpAnyH_take (i := 26) (oi := { dst := some 88, op := Op.call { callee := Callee.value (Operand.func 15), args := #[Operand.tmp 86, Operand.tmp 87], argTypes := #[3, 3] }, type := 34, pos := "law.go:75", after := #[{ on := 24, ground := Ground.data }, { on := 25, ground := Ground.data }, { on := 16, ground := Ground.chain }, { on := 16, ground := Ground.guard }], guard := some (16, true) }) (v := undef) rfl (by kernel_rfl) (by kernel_rfl) (by kernel_rfl) (fun _ _ _ h => h) (Or.inr ⟨by rfl, rfl⟩) (by assumption) ?rest26
                    try simp only [Act.put, List.setIfInBounds_toArray, List.set_cons_zero, List.set_cons_succ]
                    refine' wpAnyH_take (i := 27) (oi := { dst := some 89, op := Op.binOp BinOp.neq 34 (Operand.tmp 85) (Operand.tmp 88) 34, type := 4, pos := "law.go:75", after := #[{ on := 23, ground := Ground.data }, { on := 26, ground := Ground.data }, { on := 16, ground := Ground.guard }], guard := some (16, true) }) (v := undef) rfl (by kernel_rfl) (by kernel_rfl) (by kernel_rfl) (fun _ _ _ h => h) (Or.inr ⟨by rfl, rfl⟩) (by assumption) ?rest27
                    try simp only [Act.put, List.setIfInBounds_toArray, List.set_cons_zero, List.set_cons_succ]
                    refine' wpAnyH_take (i := 28) (oi := { dst := some 90, op := Op.pick (Operand.tmp 78) (Operand.tmp 89) (Operand.const (Value.bool false)), type := 4, pos := "law.go:75", after := #[{ on := 16, ground := Ground.data }, { on := 27, ground := Ground.data }, { on := 8, ground := Ground.guard }], guard := some (8, false) }) (v := _) rfl (by kernel_rfl) (by kernel_rfl) (by kernel_rfl) (fun _ _ _ h => h) (Or.inl ⟨by rfl, ?hy28⟩) (by assumption) ?rest28
                    case hy28 => (intro w hSw; (try dsimp only at hSw); go_simp; try (with_reducible rfl))
                    try simp only [Act.put, List.setIfInBounds_toArray, List.set_cons_zero, List.set_cons_succ]
                    refine' wpAnyH_take (i := 29) (oi := { dst := some 91, op := Op.pick (Operand.tmp 70) (Operand.const (Value.bool true)) (Operand.tmp 90), type := 4, pos := "law.go:75", after := #[{ on := 8, ground := Ground.data }, { on := 28, ground := Ground.data }], guard := none }) (v := _) rfl (by kernel_rfl) (by kernel_rfl) (by kernel_rfl) (fun _ _ _ h => h) (Or.inl ⟨by rfl, ?hy29⟩) (by assumption) ?rest29
                    case hy29 => (intro w hSw; (try dsimp only at hSw); go_simp; try (with_reducible rfl))
                    try simp only [Act.put, List.setIfInBounds_toArray, List.set_cons_zero, List.set_cons_succ]
                    refine wpAnyH_done (by kernel_rfl) ?_ _
                    obtain ⟨hg4, hlt, hi, hk4, hNk⟩ := HH.out
                    have hgn : Gr w3 w5 := hg4.trans ((Gr.refl wr).drew.trans hg5)
                    clear HS5 keepG S0
                    go_wp2
                    exact ⟨⟨i + 1, hlt, by go_num, hgn⟩, meas_up _ i hlt⟩
                · have hltz : ¬ (i : Int) < (((C k).length + 1 : Nat) : Int) := fun h => hlt (Int.ofNat_lt.1 h)
                  have hltz2 : ¬ (i : Int) < ((C k).length : Int) + 1 := by omega
                  go_wp2
                  exact ⟨⟨k + 1, by omega, by go_num, hg4⟩, meas_up 4 k hk4⟩
            · have hkz : ¬ (k : Int) < 4 := by omega
              have KE := hideA (kp_gr KF.out hg3)
              go_wp2
              go_ret
              exact ⟨rfl, KE.out⟩
end Go.Proofs.YtmhbpelbkeclpaaGreatDoor
