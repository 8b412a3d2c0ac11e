import Derived.Test.YtmhbpelbkeclpaaGreatDoorSApart0
import Derived.Deep.RegionHeld3
import Derived.Deep.RegionWith
import Derived.Shelf.SlSortCmp.QuietGrown
namespace Go.Proofs.YtmhbpelbkeclpaaGreatDoor
open Go.RowKit Go.Shelf Go.Lib
open Go.Sort hiding Below

set_option maxHeartbeats 8000000 in
set_option maxRecDepth 100000 in
theorem apart_any (bl B : Nat) (V : Nat → Value) (C : Nat → List T3) (w : World) (hl : ∀ k, k < 3 → w.cell? ⟨bl, k, none⟩ = some (V k)) (hbl : bl < w.heap.size) (hfar : ∀ k, k < 3 → (V k).ownBlock ≠ some bl) (hF : Fam w B V C) (hN : ∀ k, k < 3 → ((C k).length + 8) * 24 ≤ 140737488355328) (hB : B ≤ w.heap.size) :
    Calls Tryz.prog 13 #[.slice (some ⟨bl, 0, none⟩) 3 3] w fun e w' => e = .returned (.bool true) ∧ Below B w w' := by
  have hM := fun k hk W => mark_any k hk W
  obtain ⟨iL, hiL, zL0, zL1, zL2⟩ := info_parts infoL
  have HiL : Hid (Tryz.prog.info? 22 = some iL) := hiL
  have HzL0 : Hid (iL.zero = some (.slice none 0 0)) := zL0
  have HzL1 : Hid (iL.size = 1) := zL1
  have HzL2 : Hid (iL.bytes = 24) := zL2
  clear hiL zL0 zL1 zL2
  have Hfar : Hid (∀ k, k < 3 → (V k).ownBlock ≠ some bl) := hfar
  have HN : Hid (∀ k, k < 3 → ((C k).length + 8) * 24 ≤ 140737488355328) := hN
  have HF : Hid (Fam w B V C) := hF
  have HL : Hid (∀ k, k < 3 → w.cell? ⟨bl, k, none⟩ = some (V k)) := hl
  clear hfar hN hF hl
  go_enter Tryz.func13, Tryz.ntmps13
  go_wp2_with fail
  go_loopw [3] (fun s3 wr => ∃ k : Nat, k ≤ 3 ∧ s3 = .int .i64 k ∧ Fam wr B V (stage C k 0) ∧ (∀ j, j < 3 → wr.cell? ⟨bl, j, none⟩ = some (V j)) ∧ bl < wr.heap.size ∧ Below B w wr) (fun s3 _ => 3 - (RowKit.intOf s3).toNat)
  case atStart => exact ⟨0, by omega, rfl, by rw [stage_zero]; exact HF.out, HL.out, hbl, Below.refl _ _⟩
  case round =>
    obtain ⟨k, hk, rfl, hfam, hcl, hbr, hbw⟩ := hrel
    by_cases hk3 : k < 3
    · have hkz : (k : Int) < 3 := by omega
      have hNk := HN.out k hk3
      go_wp2_with fail
      go_loopw [4] (fun s4 wr => ∃ i : Nat, i ≤ (C k).length ∧ s4 = .int .i64 i ∧ Fam wr B V (stage C k i) ∧ (∀ j, j < 3 → wr.cell? ⟨bl, j, none⟩ = some (V j)) ∧ bl < wr.heap.size ∧ Below B w wr) (fun s4 _ => (C k).length - (RowKit.intOf s4).toNat)
      case atStart => exact ⟨0, Nat.zero_le _, rfl, hfam, hcl, hbr, hbw⟩
      case round => as_aux_lemma =>
        clear hfam hcl hbr hbw
        obtain ⟨i, hi, rfl, hfam, hcl, hbr, hbw⟩ := hrel
        have HC : Hid (∀ j, j < 3 → wr.cell? ⟨bl, j, none⟩ = some (V j)) := hcl
        have HFm : Hid (Fam wr B V (stage C k i)) := hfam
        have x0 := hcl k hk3
        have hown := hfam.own k hk3
        rw [stage_len C k i k hi] at hown
        clear hcl hfam
        by_cases hlt : i < (C k).length
        · have hltz : (i : Int) < ((C k).length : Int) := by omega
          obtain ⟨g, cap, hV, hBg, hg⟩ := hown.form (by omega)
          rw [hV] at x0 hown
          have hgb : g ≠ bl := fun e => Hfar.out k hk3 (by rw [hV, e]; rfl)
          have hgb' : bl ≠ g := fun e => hgb e.symm
          obtain ⟨s', hs'⟩ : ∃ s', (stage C k i k)[i]? = some s' := ⟨(stage C k i k)[i]'(by rw [stage_len C k i k hi]; exact hlt), by simp⟩
          have q1 : wr.cell? ⟨g, i * 3, none⟩ = some (.int .u64 s'.1) := by rw [hown.cellAt _ (by omega)]; exact flat_get _ i 0 s' hs' (by omega)
          have q2 : wr.cell? ⟨g, i * 3 + 1, none⟩ = some (.int .u64 s'.2.1) := by rw [hown.cellAt _ (by omega)]; exact flat_get _ i 1 s' hs' (by omega)
          have q3 : wr.cell? ⟨g, i * 3 + 2, none⟩ = some (.int .u64 s'.2.2) := by rw [hown.cellAt _ (by omega)]; exact flat_get _ i 2 s' hs' (by omega)
          have f1 := hown.frozenAt (i * 3)
          have f2 := hown.frozenAt (i * 3 + 1)
          have f3 := hown.frozenAt (i * 3 + 2)
          have HV : Hid (V k = .slice (some ⟨g, 0, none⟩) (C k).length cap) := hV
          clear hown hV hs'
          have S0 := cspot_of hgb' x0 ⟨_, q1⟩ ⟨_, q2⟩ ⟨_, q3⟩ f1 f2 f3 hbr hg
          have drw : ∀ W : World, Gr W W.drew := fun W => (Gr.refl W).drew
          clear x0 q1 q2 q3 f1 f2 f3
          have hk63 : k < 9223372036854775807 := by omega
          unfold CSpot at S0
          go_wp2_with fail
          go_region_held3 (fun w' => w'.cell? ⟨bl, k, none⟩ = some (.slice (some ⟨g, 0, none⟩) (C k).length cap) ∧ w'.cell? ⟨g, i * 3, none⟩ = some (cval w' ⟨g, i * 3, none⟩) ∧ w'.cell? ⟨g, i * 3 + 1, none⟩ = some (cval w' ⟨g, i * 3 + 1, none⟩) ∧ w'.cell? ⟨g, i * 3 + 2, none⟩ = some (cval w' ⟨g, i * 3 + 2, none⟩) ∧ w'.frozen? ⟨g, i * 3, none⟩ = false ∧ w'.frozen? ⟨g, i * 3 + 1, none⟩ = false ∧ w'.frozen? ⟨g, i * 3 + 2, none⟩ = false ∧ bl < w'.heap.size ∧ g < w'.heap.size)
            (first | exact S0 | exact cspot_grown (by assumption) (drw _) | exact cspot_grown (by assumption) (by assumption) | exact cspot_set hgb' (by assumption) _ _ _)
            (first | (go_at_call 33; refine (hM k hk63 _).mono ?_; rintro e w5 ⟨rfl, hg5⟩))
          have hgr : Gr wr w5 := (drw wr).trans hg5
          go_wp2
          refine ⟨⟨i + 1, by omega, by go_num, fam_set (fam_below HFm.out hgr.below) hk3 HV.out (stage_len C k i k hi) (mk3 k) (fun j => stage_step C k i hlt j), fun j hj => far_set ((hgr.cell hbr).trans (HC.out j hj)) hgb, ?_, ?_⟩, by simp [RowKit.intOf]; omega⟩
          · rw [size_set]; have := hgr.size; omega
          · have hB := hbw.trans (hgr.below.mono (by omega))
            exact ((hB.setCell (p := ⟨g, i * 3, none⟩) hBg _).setCell (p := ⟨g, i * 3 + 1, none⟩) hBg _).setCell (p := ⟨g, i * 3 + 2, none⟩) hBg _
        · have hltz : ¬ (i : Int) < ((C k).length : Int) := by omega
          obtain ⟨p, c, hVk⟩ := (owns_lst (ts := stage C k i k) (by rw [stage_len C k i k hi]; exact hown)).form
          rw [stage_len C k i k hi] at hVk
          rw [hVk] at x0
          have hie : i = (C k).length := by omega
          clear hown hVk
          go_wp2
          refine ⟨⟨k + 1, by omega, by go_num, by rw [← stage_next, ← hie]; exact HFm.out, HC.out, hbr, hbw⟩, by simp [RowKit.intOf]; omega⟩
    · have hkz : ¬ (k : Int) < 3 := by omega
      have hk' : k = 3 := by omega
      subst hk'
      have hp0 := p2_start hfam Hfar.out hcl hbr
      clear hfam hcl hbr
      go_wp2_with fail
      go_loopw [5, 6] (fun s5 s6 wr => ∃ (k : Nat) (X : Nat → Value), k ≤ 3 ∧ s6 = .int .i64 k ∧ P2 bl B V (fun j => (C j).length) k X s5 wr ∧ Below B w wr) (fun _ s6 _ => 3 - (RowKit.intOf s6).toNat)
      case atStart => exact ⟨0, _, by omega, rfl, hp0, hbw⟩
      case round =>
        clear hp0 hbw
        obtain ⟨k, X, hk, rfl, hp, hbw⟩ := hrel
        have hszw := hbw.size
        by_cases hk3 : k < 3
        · as_aux_lemma =>
          have hkz : (k : Int) < 3 := by omega
          have hNk := HN.out k hk3
          have x0 := hp.cell k hk3
          have xlt := hp.lt
          obtain ⟨ao, b, cap, hV, hc, hcm, hob⟩ := came_own (hp.own k hk3 (Nat.le_refl _))
          rw [hV] at x0
          have HP : Hid (P2 bl B V (fun j => (C j).length) k X u5 wr) := hp
          have HV : Hid (V k = .slice ao (C k).length cap) := hV
          have HO : Hid ((V k).ownBlock = none ∧ (C k).length = 0 ∧ cap = 0 ∨ (V k).ownBlock = some b ∧ ao = some ⟨b, 0, none⟩) := hob
          have HCm : Hid (Came wr 3 ao b 0 (C k).length cap (flat (List.replicate (C k).length (mk3 k)))) := hc
          have hI0 : In2 wr wr B (V k) (C k).length (mk3 k) ao b cap 0 (.slice ao (C k).length cap) := by
            have := In2.start (hp.own k hk3 (Nat.le_refl _)) hV hc
            rwa [← hV]
          have hBk : B ≤ wr.heap.size := by omega
          clear hp hV hob hc
          generalize wr = wk at *
          have hk63 : k < 9223372036854775807 := by omega
          go_wp2_with fail
          go_loopw [7, 8] (fun s7 s8 wr2 => ∃ i : Nat, i ≤ 8 ∧ s8 = .int .i64 i ∧ In2 wk wr2 B (V k) (C k).length (mk3 k) ao b cap i s7) (fun _ s8 _ => 8 - (RowKit.intOf s8).toNat)
          case atStart => exact ⟨0, by omega, rfl, hI0⟩
          case round =>
            clear hI0
            obtain ⟨i, hi, rfl, hin⟩ := hrel
            have hsz := hin.size
            by_cases hi8 : i < 8
            · have hiz : (i : Int) < 8 := Int.ofNat_lt.2 hi8
              have hbd : ((C k).length + i + 1) * 24 ≤ 140737488355328 := Nat.le_trans (Nat.mul_le_mul_right 24 (Nat.add_le_add_left (Nat.le_of_lt_succ (Nat.succ_lt_succ hi8)) (C k).length)) hNk
              have HIn : Hid (In2 wk wr B (V k) (C k).length (mk3 k) ao b cap i u7) := hin
              clear hin
              go_wp2_with fail
              refine (hM k hk63 _).mono ?_
              rintro e w5 ⟨rfl, hg5⟩
              have hs5 := hg5.size
              have hbs : B ≤ w5.heap.size := Nat.le_trans hBk (Nat.le_trans hsz hs5)
              go_wp2_with (at_builtin; refine wpAppOnto HCm.out rfl _ _ rfl B u7 i _ _ rfl (owns_below' HIn.out.own hg5.below) (onto_gr HCm.out HIn.out.onto hg5) ((k : Int), 99999, 12345) rfl hbd hbs ?_)
              intro v' w' h1 h2 h3
              have HS := hideQ (HIn.out.step HV.out hg5 hBk h1 h2 h3)
              clear h1 h2 h3
              go_wp2
              exact ⟨⟨i + 1, hi8, by go_num, HS.out⟩, meas_one 8 i hi8⟩
            · have hiz : ¬ (i : Int) < 8 := fun h => hi8 (Int.ofNat_lt.1 h)
              have hi' : i = 8 := Nat.le_antisymm hi (Nat.le_of_not_lt hi8)
              subst hi'
              have hmor := own_keep HP.out.mor (fun g hg hgl => hin.keep g hgl (fun e => (HP.out.mfar g hg).2.1 k hk3 e.symm))
              obtain ⟨g7, c7, hu7, _, _⟩ := hin.own.form (Nat.lt_of_lt_of_le (by decide : 0 < 8) (Nat.le_add_left 8 _))
              subst hu7
              have HIn : Hid (In2 wk wr B (V k) (C k).length (mk3 k) ao b cap 8 (.slice (some ⟨g7, 0, none⟩) ((C k).length + 8) c7)) := hin
              have HMor : Hid (wr.ownsRow B 22 1 u5 k ((List.range k).map X)) := hmor
              have hBr : B ≤ wr.heap.size := Nat.le_trans hBk hsz
              clear hin hmor
              go_wp2_with (at_builtin; refine wpList_append_lies _ rfl _ _ 32 rfl B 22 iL (.slice none 0 0) 1 24 Tryz.underlying32 HiL.out HzL0.out HzL1.out HzL2.out rfl (by decide) u5 k ((List.range k).map X) rfl (World.ownsRow.alloc HMor.out _) ⟨wr.heap.size, 0, none⟩ 1 1 [.slice (some ⟨g7, 0, none⟩) ((C k).length + 8) c7] rfl rfl (World.news_of_block (heap_new _ _)) (one_slice _ _ _) (by decide) (small3 hk3).1 (small3 hk3).2 (Nat.le_trans hBr (((Gr.refl wr).alloc _).size)) _ rfl ?_)
              intro g cap' w' h1 h2 h3 h4
              have HS := hideQ (P2.step HP.out hk3 HV.out HO.out HIn.out h1 h2 (h3.imp (fun e => e.symm) (fun e g' hg' => by
                simp [Value.ownBlock] at hg'
                rw [← hg', e]
                exact Nat.le_succ _)))
              have HB := hideQ (((hbw.trans HIn.out.bel).alloc hBr _).grown h2 (Nat.le_trans hBr (((Gr.refl wr).alloc _).size)) (fun q hq => (HMor.out.lt q hq).1))
              clear h1 h2 h3 h4
              go_wp2
              exact ⟨⟨k + 1, _, hk3, by go_num, HS.out, HB.out⟩, meas_one 3 k hk3⟩
        · have hkz : ¬ (k : Int) < 3 := by omega
          have hk' : k = 3 := by omega
          subst hk'
          have HP : Hid (P2 bl B V (fun j => (C j).length) 3 X u5 wr) := hp
          obtain ⟨gm, cm, hum, hgm1, hgm2⟩ := hp.mor.form (by decide)
          subst hum
          have hmc : ∀ k, k < 3 → wr.cell? ⟨gm, k, none⟩ = some (X k) := fun k hk => by
            rw [hp.mor.cellAt k (by omega)]
            simp [hk]
          have HMc : Hid (∀ k, k < 3 → wr.cell? ⟨gm, k, none⟩ = some (X k)) := hmc
          have hblt := hp.lt
          have heq := fun a b c x y z W => run_eqT a b c x y z W
          have hmx : Tryz.prog.follows .mixedOrders = true := by kernel_rfl
          clear hmc hp
          generalize wr = w3 at *
          go_wp2_with fail
          go_loopw [9] (fun s9 wr3 => ∃ k : Nat, k ≤ 3 ∧ s9 = .int .i64 k ∧ Below w3.heap.size w3 wr3) (fun s9 _ => 3 - (RowKit.intOf s9).toNat)
          case atStart => exact ⟨0, by omega, rfl, Below.refl _ _⟩
          case round =>
            obtain ⟨k, hk, rfl, hb3⟩ := hrel
            by_cases hk3 : k < 3
            · as_aux_lemma =>
              have hkz3 : (k : Int) < 3 := by omega
              have hNk := HN.out k hk3
              have hk63 : k < 9223372036854775807 := by omega
              have hMk := fun W => hM k hk63 W
              go_wp2_with fail
              go_loopw [10] (fun s10 wr4 => ∃ i : Nat, i ≤ (C k).length + 8 ∧ s10 = .int .i64 i ∧ Below w3.heap.size w3 wr4) (fun s10 _ => (C k).length + 8 - (RowKit.intOf s10).toNat)
              case atStart => exact ⟨0, Nat.zero_le _, rfl, hb3⟩
              case round =>
                clear hb3
                obtain ⟨i, hi, rfl, hb4⟩ := hrel
                have hsz4 := hb4.size
                have m1 := (hb4.cell (p := ⟨gm, k, none⟩) hgm2).trans (HMc.out k hk3)
                have b1 := (hb4.cell (p := ⟨bl, k, none⟩) hblt).trans (HP.out.cell k hk3)
                obtain ⟨px, cx, hX⟩ := (HP.out.big k hk3).form
                rw [List.length_replicate] at hX
                rw [hX] at m1
                by_cases hlt : i < (C k).length + 8
                · have hltz : (i : Int) < (((C k).length + 8 : Nat) : Int) := Int.ofNat_lt.2 hlt
                  obtain ⟨bx, ox, cx', ex, zx, y1, y2, y3⟩ := ((HP.out.big k hk3).below hb4).at (j := i) (t := mk3 k) (by simp [hlt])
                  rw [hX] at ex
                  simp only [Value.slice.injEq] at ex
                  obtain ⟨rfl, -, rfl⟩ := ex
                  have HX : Hid (X k = .slice (some ⟨bx, ox, none⟩) ((C k).length + 8) cx) := hX
                  clear hX
                  go_wp2_with fail
                  have Y1 : wr.cell? ⟨bx, ox + i * 3, none⟩ = some (.int .u64 (k : Int)) := y1
                  have Y2 : wr.cell? ⟨bx, ox + i * 3 + 1, none⟩ = some (.int .u64 99999) := y2
                  have Y3 : wr.cell? ⟨bx, ox + i * 3 + 2, none⟩ = some (.int .u64 12345) := y3
                  have hq : teq (k : Int) 99999 12345 (k : Int) 99999 12345 = true := by simp [teq]
                  have zm : gm < wr.heap.size := Nat.lt_of_lt_of_le hgm2 hsz4
                  have zb : bl < wr.heap.size := Nat.lt_of_lt_of_le hblt hsz4
                  have HH := hideQ (And.intro hb4 (And.intro hsz4 (And.intro hlt (And.intro hi (And.intro hk3 hNk)))))
                  by_cases hil : i < (C k).length
                  · have hilz : (i : Int) < ((C k).length : Int) := Int.ofNat_lt.2 hil
                    obtain ⟨bv, ov, cv, ev, zv, v1, v2, v3⟩ := ((HP.out.lst k hk3).below hb4).at (j := i) (t := mk3 k) (by simp [hil])
                    rw [List.length_replicate] at ev
                    rw [ev] at b1
                    have S0 : (wr.drew.cell? ⟨gm, k, none⟩ = some (.slice (some ⟨bx, ox, none⟩) ((C k).length + 8) cx) ∧ wr.drew.cell? ⟨bx, ox + i * 3, none⟩ = some (.int .u64 (k : Int)) ∧ wr.drew.cell? ⟨bx, ox + i * 3 + 1, none⟩ = some (.int .u64 99999) ∧ wr.drew.cell? ⟨bx, ox + i * 3 + 2, none⟩ = some (.int .u64 12345) ∧ wr.drew.cell? ⟨bl, k, none⟩ = some (.slice (some ⟨bv, ov, none⟩) (C k).length cv) ∧ wr.drew.cell? ⟨bv, ov + i * 3, none⟩ = some (.int .u64 (k : Int)) ∧ wr.drew.cell? ⟨bv, ov + i * 3 + 1, none⟩ = some (.int .u64 99999) ∧ wr.drew.cell? ⟨bv, ov + i * 3 + 2, none⟩ = some (.int .u64 12345) ∧ gm < wr.drew.heap.size ∧ bx < wr.drew.heap.size ∧ bl < wr.drew.heap.size ∧ bv < wr.drew.heap.size) := ⟨m1, Y1, Y2, Y3, b1, v1, v2, v3, zm, zx, zb, zv⟩
                    have keepG : ∀ W W' : World, (W.cell? ⟨gm, k, none⟩ = some (.slice (some ⟨bx, ox, none⟩) ((C k).length + 8) cx) ∧ W.cell? ⟨bx, ox + i * 3, none⟩ = some (.int .u64 (k : Int)) ∧ W.cell? ⟨bx, ox + i * 3 + 1, none⟩ = some (.int .u64 99999) ∧ W.cell? ⟨bx, ox + i * 3 + 2, none⟩ = some (.int .u64 12345) ∧ W.cell? ⟨bl, k, none⟩ = some (.slice (some ⟨bv, ov, none⟩) (C k).length cv) ∧ W.cell? ⟨bv, ov + i * 3, none⟩ = some (.int .u64 (k : Int)) ∧ W.cell? ⟨bv, ov + i * 3 + 1, none⟩ = some (.int .u64 99999) ∧ W.cell? ⟨bv, ov + i * 3 + 2, none⟩ = some (.int .u64 12345) ∧ gm < W.heap.size ∧ bx < W.heap.size ∧ bl < W.heap.size ∧ bv < W.heap.size) → Gr W W' → (W'.cell? ⟨gm, k, none⟩ = some (.slice (some ⟨bx, ox, none⟩) ((C k).length + 8) cx) ∧ W'.cell? ⟨bx, ox + i * 3, none⟩ = some (.int .u64 (k : Int)) ∧ W'.cell? ⟨bx, ox + i * 3 + 1, none⟩ = some (.int .u64 99999) ∧ W'.cell? ⟨bx, ox + i * 3 + 2, none⟩ = some (.int .u64 12345) ∧ W'.cell? ⟨bl, k, none⟩ = some (.slice (some ⟨bv, ov, none⟩) (C k).length cv) ∧ W'.cell? ⟨bv, ov + i * 3, none⟩ = some (.int .u64 (k : Int)) ∧ W'.cell? ⟨bv, ov + i * 3 + 1, none⟩ = some (.int .u64 99999) ∧ W'.cell? ⟨bv, ov + i * 3 + 2, none⟩ = some (.int .u64 12345) ∧ gm < W'.heap.size ∧ bx < W'.heap.size ∧ bl < W'.heap.size ∧ bv < W'.heap.size) := by
                      rintro W W' ⟨a0, a1, a2, a3, a4, a5, a6, a7, a8, a9, aa, ab⟩ hg
                      exact ⟨(hg.cell a8).trans a0, (hg.cell a9).trans a1, (hg.cell a9).trans a2, (hg.cell a9).trans a3, (hg.cell aa).trans a4, (hg.cell ab).trans a5, (hg.cell ab).trans a6, (hg.cell ab).trans a7, Nat.lt_of_lt_of_le a8 hg.size, Nat.lt_of_lt_of_le a9 hg.size, Nat.lt_of_lt_of_le aa hg.size, Nat.lt_of_lt_of_le ab hg.size⟩
                    clear hM hNk hk63 hbw hB hszw hbl hb4 hlt hi m1 b1 zm zb zx hsz4 y1 y2 y3 Y1 Y2 Y3 v1 v2 v3 ev
                    go_region_held3 (fun w' => w'.cell? ⟨gm, k, none⟩ = some (.slice (some ⟨bx, ox, none⟩) ((C k).length + 8) cx) ∧ w'.cell? ⟨bx, ox + i * 3, none⟩ = some (.int .u64 (k : Int)) ∧ w'.cell? ⟨bx, ox + i * 3 + 1, none⟩ = some (.int .u64 99999) ∧ w'.cell? ⟨bx, ox + i * 3 + 2, none⟩ = some (.int .u64 12345) ∧ w'.cell? ⟨bl, k, none⟩ = some (.slice (some ⟨bv, ov, none⟩) (C k).length cv) ∧ w'.cell? ⟨bv, ov + i * 3, none⟩ = some (.int .u64 (k : Int)) ∧ w'.cell? ⟨bv, ov + i * 3 + 1, none⟩ = some (.int .u64 99999) ∧ w'.cell? ⟨bv, ov + i * 3 + 2, none⟩ = some (.int .u64 12345) ∧ gm < w'.heap.size ∧ bx < w'.heap.size ∧ bl < w'.heap.size ∧ bv < w'.heap.size)
                      (first | exact S0 | exact keepG _ _ (by assumption) (by assumption) | assumption)
                      (first | (go_at_call 33; have hx5 := hg5; clear hx5; refine (hMk _).mono ?_; rintro e w6 ⟨rfl, hg6⟩) | (go_at_call 33; refine (hMk _).mono ?_; rintro e w5 ⟨rfl, hg5⟩))
                    obtain ⟨hb4, hsz4, hlt, hi, hk3, hNk⟩ := HH.out
                    have hgn : Gr wr w6 := (Gr.refl wr).drew.trans (hg5.trans hg6)
                    have hbn := hb4.trans (hgn.below.mono hsz4)
                    go_wp2
                    exact ⟨⟨i + 1, hlt, by go_num, hbn⟩, meas_one _ i hlt⟩
                  · have hilz : ¬ (i : Int) < ((C k).length : Int) := fun h => hil (Int.ofNat_lt.1 h)
                    obtain ⟨pv, cv, ev⟩ := (HP.out.lst k hk3).form
                    rw [List.length_replicate] at ev
                    rw [ev] at b1
                    have S0 : (wr.drew.cell? ⟨gm, k, none⟩ = some (.slice (some ⟨bx, ox, none⟩) ((C k).length + 8) cx) ∧ wr.drew.cell? ⟨bx, ox + i * 3, none⟩ = some (.int .u64 (k : Int)) ∧ wr.drew.cell? ⟨bx, ox + i * 3 + 1, none⟩ = some (.int .u64 99999) ∧ wr.drew.cell? ⟨bx, ox + i * 3 + 2, none⟩ = some (.int .u64 12345) ∧ wr.drew.cell? ⟨bl, k, none⟩ = some (.slice pv (C k).length cv) ∧ gm < wr.drew.heap.size ∧ bx < wr.drew.heap.size ∧ bl < wr.drew.heap.size) := ⟨m1, Y1, Y2, Y3, b1, zm, zx, zb⟩
                    have keepG : ∀ W W' : World, (W.cell? ⟨gm, k, none⟩ = some (.slice (some ⟨bx, ox, none⟩) ((C k).length + 8) cx) ∧ W.cell? ⟨bx, ox + i * 3, none⟩ = some (.int .u64 (k : Int)) ∧ W.cell? ⟨bx, ox + i * 3 + 1, none⟩ = some (.int .u64 99999) ∧ W.cell? ⟨bx, ox + i * 3 + 2, none⟩ = some (.int .u64 12345) ∧ W.cell? ⟨bl, k, none⟩ = some (.slice pv (C k).length cv) ∧ gm < W.heap.size ∧ bx < W.heap.size ∧ bl < W.heap.size) → Gr W W' → (W'.cell? ⟨gm, k, none⟩ = some (.slice (some ⟨bx, ox, none⟩) ((C k).length + 8) cx) ∧ W'.cell? ⟨bx, ox + i * 3, none⟩ = some (.int .u64 (k : Int)) ∧ W'.cell? ⟨bx, ox + i * 3 + 1, none⟩ = some (.int .u64 99999) ∧ W'.cell? ⟨bx, ox + i * 3 + 2, none⟩ = some (.int .u64 12345) ∧ W'.cell? ⟨bl, k, none⟩ = some (.slice pv (C k).length cv) ∧ gm < W'.heap.size ∧ bx < W'.heap.size ∧ bl < W'.heap.size) := by
                      rintro W W' ⟨a0, a1, a2, a3, a4, a8, a9, aa⟩ hg
                      exact ⟨(hg.cell a8).trans a0, (hg.cell a9).trans a1, (hg.cell a9).trans a2, (hg.cell a9).trans a3, (hg.cell aa).trans a4, Nat.lt_of_lt_of_le a8 hg.size, Nat.lt_of_lt_of_le a9 hg.size, Nat.lt_of_lt_of_le aa hg.size⟩
                    clear hM hNk hk63 hbw hB hszw hbl hb4 hlt hi m1 b1 zm zb zx hsz4 y1 y2 y3 Y1 Y2 Y3 ev
                    refine wp_region_held_drew (S := (fun w' => w'.cell? ⟨gm, k, none⟩ = some (.slice (some ⟨bx, ox, none⟩) ((C k).length + 8) cx) ∧ w'.cell? ⟨bx, ox + i * 3, none⟩ = some (.int .u64 (k : Int)) ∧ w'.cell? ⟨bx, ox + i * 3 + 1, none⟩ = some (.int .u64 99999) ∧ w'.cell? ⟨bx, ox + i * 3 + 2, none⟩ = some (.int .u64 12345) ∧ w'.cell? ⟨bl, k, none⟩ = some (.slice pv (C k).length cv) ∧ gm < w'.heap.size ∧ bx < w'.heap.size ∧ bl < w'.heap.size)) (by kernel_rfl) S0 (fun hHeld => ?_)
                    refine' wpAnyH_take (i := 0) (oi := { dst := some 72, op := Op.move (Operand.tmp 5), type := 32, pos := "law.go:63", after := #[], guard := none }) (v := _) rfl (by kernel_rfl) (by kernel_rfl) (by kernel_rfl) (fun _ _ _ h => h) (Or.inl ⟨by rfl, ?hy0⟩) (by assumption) ?rest0
                    case hy0 => (intro w hSw; (try dsimp only at hSw); go_simp; try (with_reducible rfl))
                    try simp only [Act.put, List.setIfInBounds_toArray, List.set_cons_zero, List.set_cons_succ]
                    refine' wpAnyH_take (i := 1) (oi := { dst := some 73, op := Op.move (Operand.tmp 9), type := 3, pos := "law.go:63", after := #[], guard := none }) (v := _) rfl (by kernel_rfl) (by kernel_rfl) (by kernel_rfl) (fun _ _ _ h => h) (Or.inl ⟨by rfl, ?hy1⟩) (by assumption) ?rest1
                    case hy1 => (intro w hSw; (try dsimp only at hSw); go_simp; try (with_reducible rfl))
                    try simp only [Act.put, List.setIfInBounds_toArray, List.set_cons_zero, List.set_cons_succ]
                    refine' wpAnyH_take (i := 2) (oi := { dst := some 74, op := Op.indexAddr 32 (Operand.tmp 72) (Operand.tmp 73), type := 0, pos := "law.go:63", after := #[{ on := 0, ground := Ground.data }, { on := 1, ground := Ground.data }], guard := none }) (v := _) rfl (by kernel_rfl) (by kernel_rfl) (by kernel_rfl) (fun _ _ _ h => h) (Or.inl ⟨by rfl, ?hy2⟩) (by assumption) ?rest2
                    case hy2 => (intro w hSw; (try dsimp only at hSw); go_simp; try (with_reducible rfl))
                    try simp only [Act.put, List.setIfInBounds_toArray, List.set_cons_zero, List.set_cons_succ]
                    refine' wpAnyH_take (i := 3) (oi := { dst := some 75, op := Op.load 22 (Operand.tmp 74), type := 22, pos := "law.go:63", after := #[{ on := 2, ground := Ground.data }], guard := none }) (v := _) rfl (by kernel_rfl) (by kernel_rfl) (by kernel_rfl) (fun _ _ _ h => h) (Or.inl ⟨by rfl, ?hy3⟩) (by assumption) ?rest3
                    case hy3 => (intro w hSw; (try dsimp only at hSw); go_simp; try (with_reducible rfl))
                    try simp only [Act.put, List.setIfInBounds_toArray, List.set_cons_zero, List.set_cons_succ]
                    refine' wpAnyH_take (i := 4) (oi := { dst := some 76, op := Op.move (Operand.tmp 10), type := 3, pos := "law.go:63", after := #[], guard := none }) (v := _) rfl (by kernel_rfl) (by kernel_rfl) (by kernel_rfl) (fun _ _ _ h => h) (Or.inl ⟨by rfl, ?hy4⟩) (by assumption) ?rest4
                    case hy4 => (intro w hSw; (try dsimp only at hSw); go_simp; try (with_reducible rfl))
                    try simp only [Act.put, List.setIfInBounds_toArray, List.set_cons_zero, List.set_cons_succ]
                    refine' wpAnyH_take (i := 5) (oi := { dst := some 77, op := Op.indexAddr 22 (Operand.tmp 75) (Operand.tmp 76), type := 0, pos := "law.go:63", after := #[{ on := 3, ground := Ground.data }, { on := 4, ground := Ground.data }], guard := none }) (v := _) rfl (by kernel_rfl) (by kernel_rfl) (by kernel_rfl) (fun _ _ _ h => h) (Or.inl ⟨by rfl, ?hy5⟩) (by assumption) ?rest5
                    case hy5 => (intro w hSw; (try dsimp only at hSw); go_simp; try (with_reducible rfl))
                    try simp only [Act.put, List.setIfInBounds_toArray, List.set_cons_zero, List.set_cons_succ]
                    refine' wpAnyH_take (i := 6) (oi := { dst := some 78, op := Op.load 25 (Operand.tmp 77), type := 25, pos := "law.go:63", after := #[{ on := 5, ground := Ground.data }], guard := none }) (v := _) rfl (by kernel_rfl) (by kernel_rfl) (by kernel_rfl) (fun _ _ _ h => h) (Or.inl ⟨by rfl, ?hy6⟩) (by assumption) ?rest6
                    case hy6 => (intro w hSw; (try dsimp only at hSw); go_simp; try (with_reducible rfl))
                    try simp only [Act.put, List.setIfInBounds_toArray, List.set_cons_zero, List.set_cons_succ]
                    refine' wpAnyH_take (i := 7) (oi := { dst := some 79, op := Op.move (Operand.tmp 9), type := 3, pos := "law.go:63", after := #[], guard := none }) (v := _) rfl (by kernel_rfl) (by kernel_rfl) (by kernel_rfl) (fun _ _ _ h => h) (Or.inl ⟨by rfl, ?hy7⟩) (by assumption) ?rest7
                    case hy7 => (intro w hSw; (try dsimp only at hSw); go_simp; try (with_reducible rfl))
                    try simp only [Act.put, List.setIfInBounds_toArray, List.set_cons_zero, List.set_cons_succ]
                    refine wpAnyH_ready (rs := [8]) (by kernel_rfl) (by simp) ?_
                    refine AllReadyH.cons (o := { dst := some 80, op := Op.call { callee := Callee.value (Operand.func 33), args := #[Operand.tmp 79], argTypes := #[3] }, type := 25, pos := "law.go:63", after := #[{ on := 7, ground := Ground.data }], guard := none }) rfl (fun K hK => ?_) AllReadyH.nil
                    go_simp
                    refine (hMk _).mono ?_
                    rintro e w5 ⟨rfl, hg5⟩
                    have HS5 := keepG _ _ hHeld hg5
                    go_wp2_with fail
                    refine hK.out _ _ HS5 (fun _ => ?_)
                    clear hK K hHeld
                    try simp only [Act.put, List.setIfInBounds_toArray, List.set_cons_zero, List.set_cons_succ]
                    refine' wpAnyH_take (i := 9) (oi := { dst := some 81, op := Op.binOp BinOp.neq 25 (Operand.tmp 78) (Operand.tmp 80) 25, type := 4, pos := "law.go:63", after := #[{ on := 6, ground := Ground.data }, { on := 8, ground := Ground.data }], guard := none }) (v := _) rfl (by kernel_rfl) (by kernel_rfl) (by kernel_rfl) (fun _ _ _ h => h) (Or.inl ⟨by rfl, ?hy9⟩) (by assumption) ?rest9
                    case hy9 => (intro w hSw; (try dsimp only at hSw); go_simp; try (with_reducible rfl))
                    try simp only [Act.put, List.setIfInBounds_toArray, List.set_cons_zero, List.set_cons_succ]
                    refine' wpAnyH_take (i := 10) (oi := { dst := some 82, op := Op.move (Operand.tmp 81), type := 4, pos := "law.go:63", after := #[{ on := 9, ground := Ground.data }, { on := 8, ground := Ground.chain }], guard := none }) (v := _) rfl (by kernel_rfl) (by kernel_rfl) (by kernel_rfl) (fun _ _ _ h => h) (Or.inl ⟨by rfl, ?hy10⟩) (by assumption) ?rest10
                    case hy10 => (intro w hSw; (try dsimp only at hSw); go_simp; try (with_reducible rfl))
                    try simp only [Act.put, List.setIfInBounds_toArray, List.set_cons_zero, List.set_cons_succ]
                    refine' wpAnyH_take (i := 11) (oi := { dst := some 83, op := Op.move (Operand.tmp 10), type := 3, pos := "law.go:63", after := #[{ on := 10, ground := Ground.guard }], guard := some (10, false) }) (v := _) rfl (by kernel_rfl) (by kernel_rfl) (by kernel_rfl) (fun _ _ _ h => h) (Or.inl ⟨by rfl, ?hy11⟩) (by assumption) ?rest11
                    case hy11 => (intro w hSw; (try dsimp only at hSw); go_simp; try (with_reducible rfl))
                    try simp only [Act.put, List.setIfInBounds_toArray, List.set_cons_zero, List.set_cons_succ]
                    refine' wpAnyH_take (i := 12) (oi := { dst := some 84, op := Op.move (Operand.tmp 0), type := 32, pos := "law.go:63", after := #[{ on := 10, ground := Ground.guard }], guard := some (10, false) }) (v := _) rfl (by kernel_rfl) (by kernel_rfl) (by kernel_rfl) (fun _ _ _ h => h) (Or.inl ⟨by rfl, ?hy12⟩) (by assumption) ?rest12
                    case hy12 => (intro w hSw; (try dsimp only at hSw); go_simp; try (with_reducible rfl))
                    try simp only [Act.put, List.setIfInBounds_toArray, List.set_cons_zero, List.set_cons_succ]
                    refine' wpAnyH_take (i := 13) (oi := { dst := some 85, op := Op.move (Operand.tmp 9), type := 3, pos := "law.go:63", after := #[{ on := 10, ground := Ground.guard }], guard := some (10, false) }) (v := _) rfl (by kernel_rfl) (by kernel_rfl) (by kernel_rfl) (fun _ _ _ h => h) (Or.inl ⟨by rfl, ?hy13⟩) (by assumption) ?rest13
                    case hy13 => (intro w hSw; (try dsimp only at hSw); go_simp; try (with_reducible rfl))
                    try simp only [Act.put, List.setIfInBounds_toArray, List.set_cons_zero, List.set_cons_succ]
                    refine' wpAnyH_take (i := 14) (oi := { dst := some 86, op := Op.indexAddr 32 (Operand.tmp 84) (Operand.tmp 85), type := 0, pos := "law.go:63", after := #[{ on := 12, ground := Ground.data }, { on := 13, ground := Ground.data }, { on := 10, ground := Ground.guard }], guard := some (10, false) }) (v := _) rfl (by kernel_rfl) (by kernel_rfl) (by kernel_rfl) (fun _ _ _ h => h) (Or.inl ⟨by rfl, ?hy14⟩) (by assumption) ?rest14
                    case hy14 => (intro w hSw; (try dsimp only at hSw); go_simp; try (with_reducible rfl))
                    try simp only [Act.put, List.setIfInBounds_toArray, List.set_cons_zero, List.set_cons_succ]
                    refine' wpAnyH_take (i := 15) (oi := { dst := some 87, op := Op.load 22 (Operand.tmp 86), type := 22, pos := "law.go:63", after := #[{ on := 14, ground := Ground.data }, { on := 10, ground := Ground.guard }], guard := some (10, false) }) (v := _) rfl (by kernel_rfl) (by kernel_rfl) (by kernel_rfl) (fun _ _ _ h => h) (Or.inl ⟨by rfl, ?hy15⟩) (by assumption) ?rest15
                    case hy15 => (intro w hSw; (try dsimp only at hSw); go_simp; try (with_reducible rfl))
                    try simp only [Act.put, List.setIfInBounds_toArray, List.set_cons_zero, List.set_cons_succ]
                    refine' wpAnyH_take (i := 16) (oi := { dst := some 88, op := Op.call { callee := Callee.builtin Builtin.len, args := #[Operand.tmp 87], argTypes := #[22] }, type := 3, pos := "law.go:63", after := #[{ on := 15, ground := Ground.data }, { on := 10, ground := Ground.guard }], guard := some (10, false) }) (v := _) rfl (by kernel_rfl) (by kernel_rfl) (by kernel_rfl) (fun _ _ _ h => h) (Or.inl ⟨by rfl, ?hy16⟩) (by assumption) ?rest16
                    case hy16 => (intro w hSw; (try dsimp only at hSw); go_simp; try (with_reducible rfl))
                    try simp only [Act.put, List.setIfInBounds_toArray, List.set_cons_zero, List.set_cons_succ]
                    refine' wpAnyH_take (i := 17) (oi := { dst := some 89, op := Op.binOp BinOp.lss 3 (Operand.tmp 83) (Operand.tmp 88) 3, type := 4, pos := "law.go:63", after := #[{ on := 11, ground := Ground.data }, { on := 16, ground := Ground.data }, { on := 10, ground := Ground.guard }], guard := some (10, false) }) (v := _) rfl (by kernel_rfl) (by kernel_rfl) (by kernel_rfl) (fun _ _ _ h => h) (Or.inl ⟨by rfl, ?hy17⟩) (by assumption) ?rest17
                    case hy17 => (intro w hSw; (try dsimp only at hSw); go_simp; try (with_reducible rfl))
                    try simp only [Act.put, List.setIfInBounds_toArray, List.set_cons_zero, List.set_cons_succ]
                    refine' wpAnyH_take (i := 18) (oi := { dst := some 90, op := Op.move (Operand.tmp 89), type := 4, pos := "law.go:63", after := #[{ on := 17, ground := Ground.data }, { on := 10, ground := Ground.chain }, { on := 10, ground := Ground.guard }], guard := some (10, false) }) (v := _) rfl (by kernel_rfl) (by kernel_rfl) (by kernel_rfl) (fun _ _ _ h => h) (Or.inl ⟨by rfl, ?hy18⟩) (by assumption) ?rest18
                    case hy18 => (intro w hSw; (try dsimp only at hSw); go_simp; try (with_reducible rfl))
                    try simp only [Act.put, List.setIfInBounds_toArray, List.set_cons_zero, List.set_cons_succ]
                    refine' wpAnyH_take (i := 19) (oi := { dst := some 91, op := Op.move (Operand.tmp 0), type := 32, pos := "law.go:63", after := #[{ on := 18, ground := Ground.guard }], guard := some (18, true) }) (v := undef) rfl (by kernel_rfl) (by kernel_rfl) (by kernel_rfl) (fun _ _ _ h => h) (Or.inr ⟨by rfl, rfl⟩) (by assumption) ?rest19
                    try simp only [Act.put, List.setIfInBounds_toArray, List.set_cons_zero, List.set_cons_succ]
                    refine' wpAnyH_take (i := 20) (oi := { dst := some 92, op := Op.move (Operand.tmp 9), type := 3, pos := "law.go:63", after := #[{ on := 18, ground := Ground.guard }], guard := some (18, true) }) (v := undef) rfl (by kernel_rfl) (by kernel_rfl) (by kernel_rfl) (fun _ _ _ h => h) (Or.inr ⟨by rfl, rfl⟩) (by assumption) ?rest20
                    try simp only [Act.put, List.setIfInBounds_toArray, List.set_cons_zero, List.set_cons_succ]
                    refine' wpAnyH_take (i := 21) (oi := { dst := some 93, op := Op.indexAddr 32 (Operand.tmp 91) (Operand.tmp 92), type := 0, pos := "law.go:63", after := #[{ on := 19, ground := Ground.data }, { on := 20, ground := Ground.data }, { on := 18, ground := Ground.guard }], guard := some (18, true) }) (v := undef) rfl (by kernel_rfl) (by kernel_rfl) (by kernel_rfl) (fun _ _ _ h => h) (Or.inr ⟨by rfl, rfl⟩) (by assumption) ?rest21
                    try simp only [Act.put, List.setIfInBounds_toArray, List.set_cons_zero, List.set_cons_succ]
                    refine' wpAnyH_take (i := 22) (oi := { dst := some 94, op := Op.load 22 (Operand.tmp 93), type := 22, pos := "law.go:63", after := #[{ on := 21, ground := Ground.data }, { on := 18, ground := Ground.guard }], guard := some (18, true) }) (v := undef) rfl (by kernel_rfl) (by kernel_rfl) (by kernel_rfl) (fun _ _ _ h => h) (Or.inr ⟨by rfl, rfl⟩) (by assumption) ?rest22
                    try simp only [Act.put, List.setIfInBounds_toArray, List.set_cons_zero, List.set_cons_succ]
                    refine' wpAnyH_take (i := 23) (oi := { dst := some 95, op := Op.move (Operand.tmp 10), type := 3, pos := "law.go:63", after := #[{ on := 18, ground := Ground.guard }], guard := some (18, true) }) (v := undef) rfl (by kernel_rfl) (by kernel_rfl) (by kernel_rfl) (fun _ _ _ h => h) (Or.inr ⟨by rfl, rfl⟩) (by assumption) ?rest23
                    try simp only [Act.put, List.setIfInBounds_toArray, List.set_cons_zero, List.set_cons_succ]
                    refine' wpAnyH_take (i := 24) (oi := { dst := some 96, op := Op.indexAddr 22 (Operand.tmp 94) (Operand.tmp 95), type := 0, pos := "law.go:63", after := #[{ on := 22, ground := Ground.data }, { on := 23, ground := Ground.data }, { on := 18, ground := Ground.guard }], guard := some (18, true) }) (v := undef) rfl (by kernel_rfl) (by kernel_rfl) (by kernel_rfl) (fun _ _ _ h => h) (Or.inr ⟨by rfl, rfl⟩) (by assumption) ?rest24
                    try simp only [Act.put, List.setIfInBounds_toArray, List.set_cons_zero, List.set_cons_succ]
                    refine' wpAnyH_take (i := 25) (oi := { dst := some 97, op := Op.load 25 (Operand.tmp 96), type := 25, pos := "law.go:63", after := #[{ on := 24, ground := Ground.data }, { on := 18, ground := Ground.guard }], guard := some (18, true) }) (v := undef) rfl (by kernel_rfl) (by kernel_rfl) (by kernel_rfl) (fun _ _ _ h => h) (Or.inr ⟨by rfl, rfl⟩) (by assumption) ?rest25
                    try simp only [Act.put, List.setIfInBounds_toArray, List.set_cons_zero, List.set_cons_succ]
                    refine' wpAnyH_take (i := 26) (oi := { dst := some 98, op := Op.move (Operand.tmp 9), type := 3, pos := "law.go:63", after := #[{ on := 18, ground := Ground.guard }], guard := some (18, true) }) (v := undef) rfl (by kernel_rfl) (by kernel_rfl) (by kernel_rfl) (fun _ _ _ h => h) (Or.inr ⟨by rfl, rfl⟩) (by assumption) ?rest26
                    try simp only [Act.put, List.setIfInBounds_toArray, List.set_cons_zero, List.set_cons_succ]
                    refine' wpAnyH_take (i := 27) (oi := { dst := some 99, op := Op.call { callee := Callee.value (Operand.func 33), args := #[Operand.tmp 98], argTypes := #[3] }, type := 25, pos := "law.go:63", after := #[{ on := 26, ground := Ground.data }, { on := 18, ground := Ground.chain }, { on := 18, ground := Ground.guard }], guard := some (18, true) }) (v := undef) rfl (by kernel_rfl) (by kernel_rfl) (by kernel_rfl) (fun _ _ _ h => h) (Or.inr ⟨by rfl, rfl⟩) (by assumption) ?rest27
                    try simp only [Act.put, List.setIfInBounds_toArray, List.set_cons_zero, List.set_cons_succ]
                    refine' wpAnyH_take (i := 28) (oi := { dst := some 100, op := Op.binOp BinOp.neq 25 (Operand.tmp 97) (Operand.tmp 99) 25, type := 4, pos := "law.go:63", after := #[{ on := 25, ground := Ground.data }, { on := 27, ground := Ground.data }, { on := 18, ground := Ground.guard }], guard := some (18, true) }) (v := undef) rfl (by kernel_rfl) (by kernel_rfl) (by kernel_rfl) (fun _ _ _ h => h) (Or.inr ⟨by rfl, rfl⟩) (by assumption) ?rest28
                    try simp only [Act.put, List.setIfInBounds_toArray, List.set_cons_zero, List.set_cons_succ]
                    refine' wpAnyH_take (i := 29) (oi := { dst := some 101, op := Op.pick (Operand.tmp 90) (Operand.tmp 100) (Operand.const (Value.bool false)), type := 4, pos := "law.go:63", after := #[{ on := 18, ground := Ground.data }, { on := 28, ground := Ground.data }, { on := 10, ground := Ground.guard }], guard := some (10, false) }) (v := _) rfl (by kernel_rfl) (by kernel_rfl) (by kernel_rfl) (fun _ _ _ h => h) (Or.inl ⟨by rfl, ?hy29⟩) (by assumption) ?rest29
                    case hy29 => (intro w hSw; (try dsimp only at hSw); go_simp; try (with_reducible rfl))
                    try simp only [Act.put, List.setIfInBounds_toArray, List.set_cons_zero, List.set_cons_succ]
                    refine' wpAnyH_take (i := 30) (oi := { dst := some 102, op := Op.pick (Operand.tmp 82) (Operand.const (Value.bool true)) (Operand.tmp 101), type := 4, pos := "law.go:63", after := #[{ on := 10, ground := Ground.data }, { on := 29, ground := Ground.data }], guard := none }) (v := _) rfl (by kernel_rfl) (by kernel_rfl) (by kernel_rfl) (fun _ _ _ h => h) (Or.inl ⟨by rfl, ?hy30⟩) (by assumption) ?rest30
                    case hy30 => (intro w hSw; (try dsimp only at hSw); go_simp; try (with_reducible rfl))
                    try simp only [Act.put, List.setIfInBounds_toArray, List.set_cons_zero, List.set_cons_succ]
                    refine wpAnyH_done (by kernel_rfl) ?_ _
                    obtain ⟨hb4, hsz4, hlt, hi, hk3, hNk⟩ := HH.out
                    have hgn : Gr wr w5 := (Gr.refl wr).drew.trans hg5
                    have hbn := hb4.trans (hgn.below.mono hsz4)
                    clear HS5 keepG S0
                    go_wp2
                    exact ⟨⟨i + 1, hlt, by go_num, hbn⟩, meas_one _ i hlt⟩
                · have hltz : ¬ (i : Int) < (((C k).length + 8 : Nat) : Int) := fun h => hlt (Int.ofNat_lt.1 h)
                  go_wp2
                  exact ⟨⟨k + 1, hk3, by go_num, hb4⟩, meas_one 3 k hk3⟩
            · have hkz3 : ¬ (k : Int) < 3 := by omega
              have hBw := hbw.trans (hb3.mono (Nat.le_trans hB hszw))
              go_wp2
              go_ret
              exact ⟨rfl, hBw⟩
end Go.Proofs.YtmhbpelbkeclpaaGreatDoor
