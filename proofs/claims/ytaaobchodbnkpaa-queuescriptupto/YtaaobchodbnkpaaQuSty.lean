import Derived.Test.YtaaobchodbnkpaaQuSt1
namespace Go.Proofs.Ytaaobchodbnkpaa.Qs
open Go.RowKit Go.Sort
open Qe (Ms EM Cg EC infoM infoC messages_eq changes_eq ls_at lc_at)
attribute [local go_sem ↓] Go.wp_at_zero Go.wp_at_succ

set_option maxHeartbeats 8000000 in
set_option maxRecDepth 100000 in
theorem stay_any (B kb nT nD : Nat) (sT sU sD sX : Value) (VT VU VD VX : Nat → Value) (CT : Nat → List Ms) (CD : Nat → List Cg) (w : World) (hb : Bk w kb nT nD sT sU sD sX VT VU VD VX CT CD) (hB : ∀ q, SqF nT VT q ∨ SqF nD VD q → B ≤ q) (hBw : B ≤ w.heap.size) :
    Calls Try.prog 24 #[.pointer (some ⟨kb, 0, none⟩)] w fun e w' => e = .returned (.bool true) ∧ Below B w w' := by
  have hmx : Try.prog.follows .mixedOrders = true := by kernel_rfl
  obtain ⟨hfT, hfD⟩ := hb.few
  obtain ⟨pT, gT, cT, rfl, fT⟩ := row_form hb.rT
  obtain ⟨pU, gU, cU, rfl, fU⟩ := row_form hb.rU
  obtain ⟨pD, gD, cD, rfl, fD⟩ := row_form hb.rD
  obtain ⟨pX, gX, cX, rfl, fX⟩ := row_form hb.rX
  have HB : Hid (Bk w kb nT nD (.slice pT nT cT) (.slice pU nT cU) (.slice pD nD cD) (.slice pX nD cX) VT VU VD VX CT CD) := hb
  have FT : Hid (∀ i, i < nT → pT = some ⟨gT, 0, none⟩ ∧ gT < w.heap.size ∧ w.cell? ⟨gT, i, none⟩ = some (VT i) ∧ (Value.slice pT nT cT).ownBlock = some gT) := fT
  have FU : Hid (∀ i, i < nT → pU = some ⟨gU, 0, none⟩ ∧ gU < w.heap.size ∧ w.cell? ⟨gU, i, none⟩ = some (VU i) ∧ (Value.slice pU nT cU).ownBlock = some gU) := fU
  have FD : Hid (∀ i, i < nD → pD = some ⟨gD, 0, none⟩ ∧ gD < w.heap.size ∧ w.cell? ⟨gD, i, none⟩ = some (VD i) ∧ (Value.slice pD nD cD).ownBlock = some gD) := fD
  have FX : Hid (∀ i, i < nD → pX = some ⟨gX, 0, none⟩ ∧ gX < w.heap.size ∧ w.cell? ⟨gX, i, none⟩ = some (VX i) ∧ (Value.slice pX nD cX).ownBlock = some gX) := fX
  have HOK : Hid (∀ W, Kp (fun q => SqF nT VT q ∨ SqF nD VD q) w W → BkOk W kb nT nD pT pD gT gD cT cD VT VD) := fun W hk => hb.ok fT fD hk
  have HBQ : Hid (∀ q, SqF nT VT q ∨ SqF nD VD q → B ≤ q) := hB
  have kbl : kb < w.heap.size := (Array.getElem?_eq_some_iff.1 hb.blk).1
  have KC : Hid (w.cell? ⟨kb, 0, none⟩ = some (.slice pT nT cT) ∧ w.cell? ⟨kb, 1, none⟩ = some (.slice pU nT cU) ∧ w.cell? ⟨kb, 2, none⟩ = some (.slice pD nD cD) ∧ w.cell? ⟨kb, 3, none⟩ = some (.slice pX nD cX)) := by
    refine ⟨?_, ?_, ?_, ?_⟩ <;> simp [World.cell?, hb.blk]
  obtain ⟨iT, hiT, ht0, ht1, ht2⟩ := info_parts infoLt
  obtain ⟨iD, hiD, hd0, hd1, hd2⟩ := info_parts infoLd
  have IT : Hid (Try.prog.info? 22 = some iT ∧ iT.zero = some (.slice none 0 0) ∧ iT.size = 1 ∧ iT.bytes = 24) := ⟨hiT, ht0, ht1, ht2⟩
  have ID : Hid (Try.prog.info? 45 = some iD ∧ iD.zero = some (.slice none 0 0) ∧ iD.size = 1 ∧ iD.bytes = 24) := ⟨hiD, hd0, hd1, hd2⟩
  clear hb fT fU fD fX hB hiT ht0 ht1 ht2 hiD hd0 hd1 hd2
  go_enter Try.func24, Try.ntmps24
  have GS : Gr w w := Gr.refl _
  go_wp2_with fail
  go_loopw [3] (fun s wr => ∃ i : Nat, i ≤ nT ∧ s = .int .i64 i ∧ Gr w wr) (fun s _ => nT - (RowKit.intOf s).toNat)
  case atStart => exact ⟨0, Nat.zero_le _, rfl, GS⟩
  case round =>
    clear GS
    obtain ⟨i, hi, rfl, hgr⟩ := hrel
    have k0 := (hgr.cell (o := 0) kbl).trans KC.out.1
    have kbr : kb < wr.heap.size := Nat.lt_of_lt_of_le kbl hgr.size
    by_cases hlt : i < nT
    · have hltz : (i : Int) < (nT : Int) := by omega
      obtain ⟨e1, gl1, c1, -⟩ := FT.out i hlt
      obtain ⟨e2, gl2, c2, -⟩ := FU.out i hlt
      subst e1 e2
      have k1 := (hgr.cell (o := 1) kbl).trans KC.out.2.1
      have r1 := (hgr.cell (o := i) gl1).trans c1
      have r2 := (hgr.cell (o := i) gl2).trans c2
      have LA := (owns_ls (HB.out.fT.own i hlt)).below hgr.below
      have LW := (HB.out.wT i hlt).below hgr.below
      obtain ⟨pa, ca, ea⟩ := LA.form
      obtain ⟨pw, cw, ew⟩ := LW.form
      have hsm := HB.out.small.1 i hlt
      rw [ea] at LA r1
      rw [ew] at LW r2
      have hS : ∀ W, Gr wr W → Calls Try.prog 12 #[.slice pa (CT i).length ca, .slice pw (CT i).length cw] W fun e w' => e = .returned (.bool true) ∧ Gr W w' := fun W hg => by
        exact messages_eq W (LA.below hg.below) (LW.below hg.below) (by omega)
      have q1 : gT < wr.heap.size := Nat.lt_of_lt_of_le gl1 hgr.size
      have q2 : gU < wr.heap.size := Nat.lt_of_lt_of_le gl2 hgr.size
      clear LA LW ea ew c1 c2
      generalize (CT i).length = n at *
      have S0 : wr.cell? ⟨kb, 0, none⟩ = some (.slice (some ⟨gT, 0, none⟩) nT cT) ∧ wr.cell? ⟨kb, 1, none⟩ = some (.slice (some ⟨gU, 0, none⟩) nT cU) ∧ wr.cell? ⟨gT, i, none⟩ = some (.slice pa n ca) ∧ wr.cell? ⟨gU, i, none⟩ = some (.slice pw n cw) ∧ Gr wr wr := ⟨k0, k1, r1, r2, Gr.refl _⟩
      have keepG : ∀ W W' : World, (W.cell? ⟨kb, 0, none⟩ = some (.slice (some ⟨gT, 0, none⟩) nT cT) ∧ W.cell? ⟨kb, 1, none⟩ = some (.slice (some ⟨gU, 0, none⟩) nT cU) ∧ W.cell? ⟨gT, i, none⟩ = some (.slice pa n ca) ∧ W.cell? ⟨gU, i, none⟩ = some (.slice pw n cw) ∧ Gr wr W) → Gr W W' → (W'.cell? ⟨kb, 0, none⟩ = some (.slice (some ⟨gT, 0, none⟩) nT cT) ∧ W'.cell? ⟨kb, 1, none⟩ = some (.slice (some ⟨gU, 0, none⟩) nT cU) ∧ W'.cell? ⟨gT, i, none⟩ = some (.slice pa n ca) ∧ W'.cell? ⟨gU, i, none⟩ = some (.slice pw n cw) ∧ Gr wr W') := fun W W' h hg => by
        have hz := h.2.2.2.2.size
        exact ⟨(hg.cell (b := kb) (by omega)).trans h.1, (hg.cell (b := kb) (by omega)).trans h.2.1, (hg.cell (b := gT) (by omega)).trans h.2.2.1, (hg.cell (b := gU) (by omega)).trans h.2.2.2.1, h.2.2.2.2.trans hg⟩
      go_wp2_with fail
      clear k1 r1 r2
      go_region_held3 (fun W => W.cell? ⟨kb, 0, none⟩ = some (.slice (some ⟨gT, 0, none⟩) nT cT) ∧ W.cell? ⟨kb, 1, none⟩ = some (.slice (some ⟨gU, 0, none⟩) nT cU) ∧ W.cell? ⟨gT, i, none⟩ = some (.slice pa n ca) ∧ W.cell? ⟨gU, i, none⟩ = some (.slice pw n cw) ∧ Gr wr W)
        (first | exact S0 | exact keepG _ _ (by assumption) (Gr.refl _).drew | exact keepG _ _ (by assumption) (by assumption))
        (first | (go_at_call 12; refine (hS _ (And.right (And.right (And.right (And.right (by assumption)))))).mono ?_; rintro e w5 ⟨rfl, hg5⟩))
      have G5 : Gr w w5 := hgr.trans ((Gr.refl wr).drew.trans hg5)
      clear S0 keepG hS hg5 hgr
      go_wp2
      exact ⟨⟨i + 1, by omega, by go_num, G5⟩, by simp [RowKit.intOf]; omega⟩
    · have hltz : ¬ (i : Int) < (nT : Int) := by omega
      have GS : Gr w wr := hgr
      clear hgr hi hlt
      go_wp2_with fail
      clear k0 kbr hltz
      go_loopw [4] (fun s wr => ∃ i : Nat, i ≤ nD ∧ s = .int .i64 i ∧ Gr w wr) (fun s _ => nD - (RowKit.intOf s).toNat)
      case atStart => exact ⟨0, Nat.zero_le _, rfl, GS⟩
      case round =>
        clear GS
        obtain ⟨i, hi, rfl, hgr⟩ := hrel
        have k0 := (hgr.cell (o := 2) kbl).trans KC.out.2.2.1
        have kbr : kb < wr.heap.size := Nat.lt_of_lt_of_le kbl hgr.size
        by_cases hlt : i < nD
        · have hltz : (i : Int) < (nD : Int) := by omega
          obtain ⟨e1, gl1, c1, -⟩ := FD.out i hlt
          obtain ⟨e2, gl2, c2, -⟩ := FX.out i hlt
          subst e1 e2
          have k1 := (hgr.cell (o := 3) kbl).trans KC.out.2.2.2
          have r1 := (hgr.cell (o := i) gl1).trans c1
          have r2 := (hgr.cell (o := i) gl2).trans c2
          have LA := (owns_ls (HB.out.fD.own i hlt)).below hgr.below
          have LW := (HB.out.wD i hlt).below hgr.below
          obtain ⟨pa, ca, ea⟩ := LA.form
          obtain ⟨pw, cw, ew⟩ := LW.form
          have hsm := HB.out.small.2 i hlt
          rw [ea] at LA r1
          rw [ew] at LW r2
          have hS : ∀ W, Gr wr W → Calls Try.prog 20 #[.slice pa (CD i).length ca, .slice pw (CD i).length cw] W fun e w' => e = .returned (.bool true) ∧ Gr W w' := fun W hg => by
            exact changes_eq W (LA.below hg.below) (LW.below hg.below) (by omega)
          have q1 : gD < wr.heap.size := Nat.lt_of_lt_of_le gl1 hgr.size
          have q2 : gX < wr.heap.size := Nat.lt_of_lt_of_le gl2 hgr.size
          clear LA LW ea ew c1 c2
          generalize (CD i).length = n at *
          have S0 : wr.cell? ⟨kb, 2, none⟩ = some (.slice (some ⟨gD, 0, none⟩) nD cD) ∧ wr.cell? ⟨kb, 3, none⟩ = some (.slice (some ⟨gX, 0, none⟩) nD cX) ∧ wr.cell? ⟨gD, i, none⟩ = some (.slice pa n ca) ∧ wr.cell? ⟨gX, i, none⟩ = some (.slice pw n cw) ∧ Gr wr wr := ⟨k0, k1, r1, r2, Gr.refl _⟩
          have keepG : ∀ W W' : World, (W.cell? ⟨kb, 2, none⟩ = some (.slice (some ⟨gD, 0, none⟩) nD cD) ∧ W.cell? ⟨kb, 3, none⟩ = some (.slice (some ⟨gX, 0, none⟩) nD cX) ∧ W.cell? ⟨gD, i, none⟩ = some (.slice pa n ca) ∧ W.cell? ⟨gX, i, none⟩ = some (.slice pw n cw) ∧ Gr wr W) → Gr W W' → (W'.cell? ⟨kb, 2, none⟩ = some (.slice (some ⟨gD, 0, none⟩) nD cD) ∧ W'.cell? ⟨kb, 3, none⟩ = some (.slice (some ⟨gX, 0, none⟩) nD cX) ∧ W'.cell? ⟨gD, i, none⟩ = some (.slice pa n ca) ∧ W'.cell? ⟨gX, i, none⟩ = some (.slice pw n cw) ∧ Gr wr W') := fun W W' h hg => by
            have hz := h.2.2.2.2.size
            exact ⟨(hg.cell (b := kb) (by omega)).trans h.1, (hg.cell (b := kb) (by omega)).trans h.2.1, (hg.cell (b := gD) (by omega)).trans h.2.2.1, (hg.cell (b := gX) (by omega)).trans h.2.2.2.1, h.2.2.2.2.trans hg⟩
          go_wp2_with fail
          clear k1 r1 r2
          go_region_held3 (fun W => W.cell? ⟨kb, 2, none⟩ = some (.slice (some ⟨gD, 0, none⟩) nD cD) ∧ W.cell? ⟨kb, 3, none⟩ = some (.slice (some ⟨gX, 0, none⟩) nD cX) ∧ W.cell? ⟨gD, i, none⟩ = some (.slice pa n ca) ∧ W.cell? ⟨gX, i, none⟩ = some (.slice pw n cw) ∧ Gr wr W)
            (first | exact S0 | exact keepG _ _ (by assumption) (Gr.refl _).drew | exact keepG _ _ (by assumption) (by assumption))
            (first | (go_at_call 20; refine (hS _ (And.right (And.right (And.right (And.right (by assumption)))))).mono ?_; rintro e w5 ⟨rfl, hg5⟩))
          have G5 : Gr w w5 := hgr.trans ((Gr.refl wr).drew.trans hg5)
          clear S0 keepG hS hg5 hgr
          go_wp2
          exact ⟨⟨i + 1, by omega, by go_num, G5⟩, by simp [RowKit.intOf]; omega⟩
        · have hltz : ¬ (i : Int) < (nD : Int) := by omega
          have K0 : Hid (Kp (fun q => SqF nT VT q ∨ SqF nD VD q) w wr) := Kp.of_gr hgr
          have FMT : Hid (Fam EM 36 wr nT VT CT) := HB.out.fT.below hgr.below
          have FMD : Hid (Fam EC 51 wr nD VD CD) := HB.out.fD.below hgr.below
          have HSMT : Hid (∀ i, i < nT → (CT i).length ≤ 1048576) := HB.out.small.1
          have HSMD : Hid (∀ i, i < nD → (CD i).length ≤ 1048576) := HB.out.small.2
          have STD : Hid (∀ q, SqF nT VT q → ¬ SqF nD VD q) := HB.out.sTD
          have HZ0 : Hid (w.heap.size ≤ wr.heap.size) := hgr.size
          clear hgr hlt hi FT FU FD FX HB KC
          generalize wr = w0 at *
          go_wp2_with fail
          clear k0 kbr hltz
          go_loopw [5] (fun s wr => ∃ i : Nat, i ≤ nT ∧ s = .int .i64 i ∧ Hid (Fam EM 36 wr nT VT (stage mkT CT i 0) ∧ Kp (SqF nT VT) w0 wr)) (fun s _ => nT - (RowKit.intOf s).toNat)
          case atStart => exact ⟨0, Nat.zero_le _, rfl, by rw [stage_zero]; exact FMT.out, Kp.refl _ _⟩
          case round =>
            obtain ⟨i, hi, rfl, HI⟩ := hrel
            have KA : Hid (∀ W, Kp (SqF nT VT) w0 W → BkOk W kb nT nD pT pD gT gD cT cD VT VD) := fun W hk => HOK.out W (K0.out.trans hk (fun q _ h => Or.inl h))
            obtain ⟨k0, kbr⟩ : wr.cell? ⟨kb, 0, none⟩ = some (.slice pT nT cT) ∧ kb < wr.heap.size := ⟨(KA.out wr HI.out.2).1, (KA.out wr HI.out.2).2.2.1⟩
            by_cases hlt : i < nT
            · have hltz : (i : Int) < (nT : Int) := by omega
              obtain ⟨e1, gl1, c1⟩ := (KA.out wr HI.out.2).2.2.2.1 i hlt
              subst e1
              obtain ⟨pk, ck, ek⟩ := (owns_ls (FMT.out.own i hlt)).form
              have HE : Hid (VT i = .slice pk (CT i).length ck) := ek
              have hsm := HSMT.out i hlt
              go_wp2_with fail
              clear k0 c1 gl1 kbr ek
              go_loopw [6] (fun s wr => ∃ j : Nat, j ≤ (CT i).length ∧ s = .int .i64 j ∧ Hid (Fam EM 36 wr nT VT (stage mkT CT i j) ∧ Kp (SqF nT VT) w0 wr)) (fun s _ => (CT i).length - (RowKit.intOf s).toNat)
              case atStart => exact ⟨0, Nat.zero_le _, rfl, HI⟩
              case round =>
                clear HI
                obtain ⟨j, hj, rfl, HI⟩ := hrel
                obtain ⟨k0, kbr⟩ : wr.cell? ⟨kb, 0, none⟩ = some (.slice (some ⟨gT, 0, none⟩) nT cT) ∧ kb < wr.heap.size := ⟨(KA.out wr HI.out.2).1, (KA.out wr HI.out.2).2.2.1⟩
                obtain ⟨-, gl1, c1⟩ := (KA.out wr HI.out.2).2.2.2.1 i hlt
                rw [HE.out] at c1
                by_cases hjl : j < (CT i).length
                · have hjz : (j : Int) < ((CT i).length : Int) := by omega
                  have hlen := stage_len mkT CT i j i hj
                  have hown : wr.ownsRow 0 36 6 (.slice pk (CT i).length ck) (CT i).length (fl EM (stage mkT CT i j i)) := by
                    have := HI.out.1.own i hlt
                    rw [hlen, HE.out] at this
                    exact this
                  obtain ⟨g, cap, hV, -, -⟩ := owns_form0 hown (by omega)
                  simp only [Value.slice.injEq] at hV
                  obtain ⟨rfl, -, rfl⟩ := hV
                  have gl2 : g < wr.heap.size := (hown.lt g rfl).2
                  obtain ⟨y, hy⟩ : ∃ y, (stage mkT CT i j i)[j]? = some y := ⟨(stage mkT CT i j i)[j]'(by omega), by simp⟩
                  have hcl : ∀ q u, q < 6 → (EM.enc y)[q]? = some u → wr.cell? ⟨g, j * 6 + q, none⟩ = some u := fun q u hq hu => by
                    have := hown.cells (g := g) rfl (j * 6 + q) u ((fl_get EM _ j q y hy hq).trans hu)
                    rw [addA, Nat.zero_add] at this
                    exact this
                  have q1 : wr.cell? ⟨g, j * 6, none⟩ = some (.int .i64 y.at_) := hcl 0 _ (by decide) rfl
                  have q2 := hcl 1 (.int .u64 y.a) (by decide) rfl
                  have q3 := hcl 2 (.int .u64 y.b) (by decide) rfl
                  have q4 := hcl 3 (.int .u64 y.c) (by decide) rfl
                  have q5 := hcl 4 (.int .u64 y.k) (by decide) rfl
                  have q6 := hcl 5 (.int .u64 y.v) (by decide) rfl
                  have f1 := owns_frozen0 hown (j * 6)
                  have f2 := owns_frozen0 hown (j * 6 + 1)
                  have f3 := owns_frozen0 hown (j * 6 + 2)
                  have f4 := owns_frozen0 hown (j * 6 + 3)
                  have f5 := owns_frozen0 hown (j * 6 + 4)
                  have f6 := owns_frozen0 hown (j * 6 + 5)
                  have hcv : IntKind.i64.wrap (-5 - (i : Int)) = -5 - (i : Int) := by rw [IntKind.wrap_i64]; omega
                  have HS : Hid _ := hideM (fam_markT HI.out.1 hlt HE.out rfl hjl)
                  have HK : Hid (Kp (SqF nT VT) w0 _) := HI.out.2.trans HS.out.2 (fun q _ h => ⟨i, hlt, h⟩)
                  clear hown hy hcl hlen
                  go_wp2
                  exact ⟨⟨j + 1, by omega, by go_num, HS.out.1, HK.out⟩, by simp [RowKit.intOf]; omega⟩
                · have hjz : ¬ (j : Int) < ((CT i).length : Int) := by omega
                  have hje : j = (CT i).length := by omega
                  have HI2 : Hid (Fam EM 36 wr nT VT (stage mkT CT (i + 1) 0) ∧ Kp (SqF nT VT) w0 wr) := by
                    have := HI.out
                    rw [hje, stage_next] at this
                    exact this
                  clear hje
                  go_wp2
                  exact ⟨⟨i + 1, by omega, by go_num, HI2⟩, by simp [RowKit.intOf]; omega⟩
            · have hltz : ¬ (i : Int) < (nT : Int) := by omega
              have hie : i = nT := by omega
              have FE : Hid (Fam EM 36 wr nT VT (stage mkT CT nT 0)) := by have := HI.out.1; rw [hie] at this; exact this
              have KE : Hid (Kp (SqF nT VT) w0 wr) := HI.out.2
              clear hie KA HI
              have K1 : Hid (Kp (fun q => SqF nT VT q ∨ SqF nD VD q) w wr) := K0.out.trans KE.out (fun q _ h => Or.inl h)
              have FMD1 : Hid (Fam EC 51 wr nD VD CD) := FMD.out.kp KE.out (fun i hi g hg h => STD.out g h ⟨i, hi, hg⟩)
              have FET : Hid (Fam EM 36 wr nT VT (stage mkT CT nT 0)) := FE.out
              have HZ1 : Hid (w0.heap.size ≤ wr.heap.size) := KE.out.size
              clear FMD FMT FE KE K0 hlt hi
              generalize wr = w1 at *
              have K0 : Hid (Kp (fun q => SqF nT VT q ∨ SqF nD VD q) w w1) := K1.out
              have FMD : Hid (Fam EC 51 w1 nD VD CD) := FMD1.out
              clear K1 FMD1
              go_wp2_with fail
              clear k0 kbr hltz
              go_loopw [7] (fun s wr => ∃ i : Nat, i ≤ nD ∧ s = .int .i64 i ∧ Hid (Fam EC 51 wr nD VD (stage mkD CD i 0) ∧ Kp (SqF nD VD) w1 wr)) (fun s _ => nD - (RowKit.intOf s).toNat)
              case atStart => exact ⟨0, Nat.zero_le _, rfl, by rw [stage_zero]; exact FMD.out, Kp.refl _ _⟩
              case round =>
                obtain ⟨i, hi, rfl, HI⟩ := hrel
                have KA : Hid (∀ W, Kp (SqF nD VD) w1 W → BkOk W kb nT nD pT pD gT gD cT cD VT VD) := fun W hk => HOK.out W (K0.out.trans hk (fun q _ h => Or.inr h))
                obtain ⟨k0, kbr⟩ : wr.cell? ⟨kb, 2, none⟩ = some (.slice pD nD cD) ∧ kb < wr.heap.size := ⟨(KA.out wr HI.out.2).2.1, (KA.out wr HI.out.2).2.2.1⟩
                by_cases hlt : i < nD
                · have hltz : (i : Int) < (nD : Int) := by omega
                  obtain ⟨e1, gl1, c1⟩ := (KA.out wr HI.out.2).2.2.2.2 i hlt
                  subst e1
                  obtain ⟨pk, ck, ek⟩ := (owns_ls (FMD.out.own i hlt)).form
                  have HE : Hid (VD i = .slice pk (CD i).length ck) := ek
                  have hsm := HSMD.out i hlt
                  go_wp2_with fail
                  clear k0 c1 gl1 kbr ek
                  go_loopw [8] (fun s wr => ∃ j : Nat, j ≤ (CD i).length ∧ s = .int .i64 j ∧ Hid (Fam EC 51 wr nD VD (stage mkD CD i j) ∧ Kp (SqF nD VD) w1 wr)) (fun s _ => (CD i).length - (RowKit.intOf s).toNat)
                  case atStart => exact ⟨0, Nat.zero_le _, rfl, HI⟩
                  case round =>
                    clear HI
                    obtain ⟨j, hj, rfl, HI⟩ := hrel
                    obtain ⟨k0, kbr⟩ : wr.cell? ⟨kb, 2, none⟩ = some (.slice (some ⟨gD, 0, none⟩) nD cD) ∧ kb < wr.heap.size := ⟨(KA.out wr HI.out.2).2.1, (KA.out wr HI.out.2).2.2.1⟩
                    obtain ⟨-, gl1, c1⟩ := (KA.out wr HI.out.2).2.2.2.2 i hlt
                    rw [HE.out] at c1
                    by_cases hjl : j < (CD i).length
                    · have hjz : (j : Int) < ((CD i).length : Int) := by omega
                      have hlen := stage_len mkD CD i j i hj
                      have hown : wr.ownsRow 0 51 5 (.slice pk (CD i).length ck) (CD i).length (fl EC (stage mkD CD i j i)) := by
                        have := HI.out.1.own i hlt
                        rw [hlen, HE.out] at this
                        exact this
                      obtain ⟨g, cap, hV, -, -⟩ := owns_form0 hown (by omega)
                      simp only [Value.slice.injEq] at hV
                      obtain ⟨rfl, -, rfl⟩ := hV
                      have gl2 : g < wr.heap.size := (hown.lt g rfl).2
                      obtain ⟨y, hy⟩ : ∃ y, (stage mkD CD i j i)[j]? = some y := ⟨(stage mkD CD i j i)[j]'(by omega), by simp⟩
                      have hcl : ∀ q u, q < 5 → (EC.enc y)[q]? = some u → wr.cell? ⟨g, j * 5 + q, none⟩ = some u := fun q u hq hu => by
                        have := hown.cells (g := g) rfl (j * 5 + q) u ((fl_get EC _ j q y hy hq).trans hu)
                        rw [addA, Nat.zero_add] at this
                        exact this
                      have q1 : wr.cell? ⟨g, j * 5, none⟩ = some (.int .i64 y.at_) := hcl 0 _ (by decide) rfl
                      have q2 := hcl 1 (.int .u64 y.a) (by decide) rfl
                      have q3 := hcl 2 (.int .u64 y.b) (by decide) rfl
                      have q4 := hcl 3 (.int .u64 y.c) (by decide) rfl
                      have q5 := hcl 4 (.int .i64 y.n) (by decide) rfl
                      have f1 := owns_frozen0 hown (j * 5)
                      have f2 := owns_frozen0 hown (j * 5 + 1)
                      have f3 := owns_frozen0 hown (j * 5 + 2)
                      have f4 := owns_frozen0 hown (j * 5 + 3)
                      have f5 := owns_frozen0 hown (j * 5 + 4)
                      have hcv : IntKind.i64.wrap (-5 - (i : Int)) = -5 - (i : Int) := by rw [IntKind.wrap_i64]; omega
                      have HS : Hid _ := hideM (fam_markD HI.out.1 hlt HE.out rfl hjl)
                      have HK : Hid (Kp (SqF nD VD) w1 _) := HI.out.2.trans HS.out.2 (fun q _ h => ⟨i, hlt, h⟩)
                      clear hown hy hcl hlen
                      go_wp2
                      exact ⟨⟨j + 1, by omega, by go_num, HS.out.1, HK.out⟩, by simp [RowKit.intOf]; omega⟩
                    · have hjz : ¬ (j : Int) < ((CD i).length : Int) := by omega
                      have hje : j = (CD i).length := by omega
                      have HI2 : Hid (Fam EC 51 wr nD VD (stage mkD CD (i + 1) 0) ∧ Kp (SqF nD VD) w1 wr) := by
                        have := HI.out
                        rw [hje, stage_next] at this
                        exact this
                      clear hje
                      go_wp2
                      exact ⟨⟨i + 1, by omega, by go_num, HI2⟩, by simp [RowKit.intOf]; omega⟩
                · have hltz : ¬ (i : Int) < (nD : Int) := by omega
                  have hie : i = nD := by omega
                  have FE : Hid (Fam EC 51 wr nD VD (stage mkD CD nD 0)) := by have := HI.out.1; rw [hie] at this; exact this
                  have KE : Hid (Kp (SqF nD VD) w1 wr) := HI.out.2
                  clear hie KA HI
                  have K2 : Hid (Kp (fun q => SqF nT VT q ∨ SqF nD VD q) w wr) := K0.out.trans KE.out (fun q _ h => Or.inr h)
                  have FT3 : Hid (Fam EM 36 wr nT VT (stage mkT CT nT 0)) := FET.out.kp KE.out (fun i hi g hg h => STD.out g ⟨i, hi, hg⟩ h)
                  have FD3 : Hid (Fam EC 51 wr nD VD (stage mkD CD nD 0)) := FE.out
                  have FART : Hid (∀ i j, i < nT → j < nT → i ≠ j → ∀ g, (VT i).ownBlock = some g → (VT j).ownBlock ≠ some g) := FT3.out.far
                  have FARD : Hid (∀ i j, i < nD → j < nD → i ≠ j → ∀ g, (VD i).ownBlock = some g → (VD j).ownBlock ≠ some g) := FD3.out.far
                  have LOWT : Hid (∀ i, i < nT → ∀ g, (VT i).ownBlock = some g → g < wr.heap.size) := fun i hi g hg => FT3.out.lt hi g hg
                  have LOWD0 : Hid (∀ i, i < nD → ∀ g, (VD i).ownBlock = some g → g < wr.heap.size) := fun i hi g hg => FD3.out.lt hi g hg
                  have G2 : Hid (Grw EM 36 22 mkT 2 wr nT VT (fun i => (CT i).length) wr 0 VT (.slice none 0 0)) := ⟨fun i hi => by omega, fun i hi => by omega, fun i _ hi => by
                    have := FT3.out.own i hi
                    rw [stage_full mkT CT nT i hi, List.length_replicate] at this
                    exact this, fun i hi => by omega, World.ownsRow_nil _ _ _ _, fun g hg => by simp [Value.ownBlock] at hg, Kp.refl _ _⟩
                  clear FMD FET FE KE K0 hlt hi FT3
                  generalize wr = w3 at *
                  go_wp2_with fail
                  clear k0 kbr hltz
                  go_loopw [9, 11] (fun s6 s34 wr => ∃ (k : Nat) (X : Nat → Value), k ≤ nT ∧ s34 = .int .i64 k ∧ Hid (Grw EM 36 22 mkT 2 w3 nT VT (fun i => (CT i).length) wr k X s6)) (fun _ s34 _ => nT - (RowKit.intOf s34).toNat)
                  case atStart => exact ⟨0, VT, Nat.zero_le _, rfl, G2⟩
                  case round =>
                    clear G2
                    obtain ⟨k, X, hk, rfl, HG⟩ := hrel
                    have hbk := HOK.out wr (K2.out.trans HG.out.kp (fun q _ h => Or.inl h))
                    have k0 := hbk.1
                    have kbr := hbk.2.2.1
                    by_cases hlt : k < nT
                    · have hltz : (k : Int) < (nT : Int) := by omega
                      obtain ⟨e1, gl1, c1⟩ := hbk.2.2.2.1 k hlt
                      subst e1
                      have hsm := HSMT.out k hlt
                      have hOk := HG.out.rest k (Nat.le_refl _) hlt
                      obtain ⟨pk, ck, ek⟩ := (owns_ls (E := EM) (ts := List.replicate (CT k).length (mkT k)) (by rw [List.length_replicate]; exact hOk)).form
                      rw [List.length_replicate] at ek
                      have HOKr : Hid (wr.ownsRow 0 36 EM.k (.slice pk (CT k).length ck) (CT k).length (fl EM (List.replicate (CT k).length (mkT k)))) := by rw [← ek]; exact hOk
                      have HEK : Hid (VT k = .slice pk (CT k).length ck) := ek
                      rw [ek] at c1
                      have hsw := HG.out.kp.size
                      clear hOk ek hbk
                      have hcv : IntKind.i64.wrap (-5 - (k : Int)) = -5 - (k : Int) := by rw [IntKind.wrap_i64]; omega
                      have HEN : Hid (EM.enc (mkT k) = [.int .i64 (-5 - (k : Int)), .int .u64 0, .int .u64 0, .int .u64 0, .int .u64 0, .int .u64 0]) := rfl
                      go_wp2_with (at_builtin; refine wpAppKeep2 EM Try.underlying22 infoM rfl (by decide) rfl _ _ rfl (.slice pk (CT k).length ck) (CT k).length (List.replicate (CT k).length (mkT k)) rfl HOKr.out (by simp) (mkT k) rfl (by omega) (by unfold maxLen; omega) _ (by rw [HEN.out]; rfl) _ ?_)
                      intro g cap W1 ho1 hk1 hl1 hold
                      have HX1 : Hid (Ls EM W1 (.slice (some ⟨g, 0, none⟩) ((CT k).length + 2) cap) (List.replicate ((CT k).length + 2) (mkT k))) := owns_ls (by rw [List.length_replicate, rep2]; exact ho1)
                      have HOLD : Hid (Ls EM W1 (VT k) (List.replicate (CT k).length (mkT k))) := by
                        unfold Hid
                        rw [HEK.out]
                        exact hold
                      have HK1 : Hid (Kp (fun q => (VT k).ownBlock = some q) wr W1) := by
                        unfold Hid
                        rw [HEK.out]
                        exact hk1
                      have HL1 : Hid (∀ q, (Value.slice (some ⟨g, 0, none⟩) ((CT k).length + 2) cap).ownBlock = some q → (VT k).ownBlock = some q ∨ wr.heap.size ≤ q) := fun q hq => by
                        have : q = g := by simpa [Value.ownBlock] using hq.symm
                        rw [this, HEK.out]
                        exact hl1
                      have HM1 : Hid (W1.ownsRow w3.heap.size 22 1 u9 k ((List.range k).map X)) := owns_kp HK1.out HG.out.more (fun q hq e => by
                        have h1 := (HG.out.more.lt q hq).1
                        have h2 := LOWT.out k hlt q e
                        omega)
                      have hz1 := HK1.out.size
                      clear ho1 hk1 hl1 hold
                      go_wp2_with (at_builtin; refine wpList_append_lies _ rfl _ _ 61 rfl w3.heap.size 22 iT (.slice none 0 0) 1 24 Try.underlying61 IT.out.1 IT.out.2.1 IT.out.2.2.1 IT.out.2.2.2 rfl (by decide) u9 k _ rfl (World.ownsRow.alloc HM1.out _) ⟨W1.heap.size, 0, none⟩ 1 1 [.slice (some ⟨g, 0, none⟩) ((CT k).length + 2) cap] rfl rfl (World.news_of_block (heap_new' _ _)) (fun u hu => by simp at hu; subst hu; rfl) (by decide) (by unfold maxLen; omega) (by omega) (by simp; omega) _ rfl ?_)
                      intro g7 c7 W3 ho3 hg3 hl3 _
                      have HSS := hideM (HG.out.step hlt FART.out LOWT.out HX1.out HL1.out HOLD.out HK1.out ho3 ((Kp.of_below ((Gr.refl W1).alloc _).below).trans (Kp.grownBy (S := fun q => u9.ownBlock = some q) hg3 (fun _ h => h)) (fun _ _ h => h)) (fun q hq => by
                        have : q = g7 := by simpa [Value.ownBlock] using hq.symm
                        rw [this]
                        exact hl3.imp id (fun e => by rw [e]; simp)))
                      clear ho3 hg3 hl3
                      go_wp2
                      exact ⟨⟨k + 1, _, by omega, by go_num, HSS⟩, by simp [RowKit.intOf]; omega⟩
                    · have hltz : ¬ (k : Int) < (nT : Int) := by omega
                      have hke : k = nT := by omega
                      have GE : Hid (Grw EM 36 22 mkT 2 w3 nT VT (fun i => (CT i).length) wr nT X u9) := by have := HG.out; rw [hke] at this; exact this
                      clear hke HG hbk
                      have GT : Hid (Grw EM 36 22 mkT 2 w3 nT VT (fun i => (CT i).length) wr nT X u9) := GE.out
                      have K3 : Hid (Kp (fun q => SqF nT VT q ∨ SqF nD VD q) w wr) := K2.out.trans GT.out.kp (fun q _ h => Or.inl h)
                      have FD4 : Hid (Fam EC 51 wr nD VD (stage mkD CD nD 0)) := FD3.out.kp GT.out.kp (fun i hi g hg h => STD.out g h ⟨i, hi, hg⟩)
                      have LOWD : Hid (∀ i, i < nD → ∀ g, (VD i).ownBlock = some g → g < wr.heap.size) := fun i hi g hg => FD4.out.lt hi g hg
                      have G2 : Hid (Grw EC 51 45 mkD 2 wr nD VD (fun i => (CD i).length) wr 0 VD (.slice none 0 0)) := ⟨fun i hi => by omega, fun i hi => by omega, fun i _ hi => by
                        have := FD4.out.own i hi
                        rw [stage_full mkD CD nD i hi, List.length_replicate] at this
                        exact this, fun i hi => by omega, World.ownsRow_nil _ _ _ _, fun g hg => by simp [Value.ownBlock] at hg, Kp.refl _ _⟩
                      obtain ⟨XT, hXT⟩ : ∃ XT, XT = X := ⟨_, rfl⟩
                      rw [← hXT] at GT
                      clear FD3 FD4 GE K2 hlt hk hXT X FART LOWT
                      have K2 : Hid (Kp (fun q => SqF nT VT q ∨ SqF nD VD q) w wr) := K3.out
                      generalize wr = w4 at *
                      go_wp2_with fail
                      clear k0 kbr hltz
                      go_loopw [10, 12] (fun s6 s34 wr => ∃ (k : Nat) (X : Nat → Value), k ≤ nD ∧ s34 = .int .i64 k ∧ Hid (Grw EC 51 45 mkD 2 w4 nD VD (fun i => (CD i).length) wr k X s6)) (fun _ s34 _ => nD - (RowKit.intOf s34).toNat)
                      case atStart => exact ⟨0, VD, Nat.zero_le _, rfl, G2⟩
                      case round =>
                        clear G2
                        obtain ⟨k, X, hk, rfl, HG⟩ := hrel
                        have hbk := HOK.out wr (K2.out.trans HG.out.kp (fun q _ h => Or.inr h))
                        have k0 := hbk.2.1
                        have kbr := hbk.2.2.1
                        by_cases hlt : k < nD
                        · have hltz : (k : Int) < (nD : Int) := by omega
                          obtain ⟨e1, gl1, c1⟩ := hbk.2.2.2.2 k hlt
                          subst e1
                          have hsm := HSMD.out k hlt
                          have hOk := HG.out.rest k (Nat.le_refl _) hlt
                          obtain ⟨pk, ck, ek⟩ := (owns_ls (E := EC) (ts := List.replicate (CD k).length (mkD k)) (by rw [List.length_replicate]; exact hOk)).form
                          rw [List.length_replicate] at ek
                          have HOKr : Hid (wr.ownsRow 0 51 EC.k (.slice pk (CD k).length ck) (CD k).length (fl EC (List.replicate (CD k).length (mkD k)))) := by rw [← ek]; exact hOk
                          have HEK : Hid (VD k = .slice pk (CD k).length ck) := ek
                          rw [ek] at c1
                          have hsw := HG.out.kp.size
                          clear hOk ek hbk
                          have hcv : IntKind.i64.wrap (-5 - (k : Int)) = -5 - (k : Int) := by rw [IntKind.wrap_i64]; omega
                          have HEN : Hid (EC.enc (mkD k) = [.int .i64 0, .int .u64 0, .int .u64 0, .int .u64 0, .int .i64 (-5 - (k : Int))]) := rfl
                          go_wp2_with (at_builtin; refine wpAppKeep2 EC Try.underlying45 infoC rfl (by decide) rfl _ _ rfl (.slice pk (CD k).length ck) (CD k).length (List.replicate (CD k).length (mkD k)) rfl HOKr.out (by simp) (mkD k) rfl (by omega) (by unfold maxLen; omega) _ (by rw [HEN.out]; rfl) _ ?_)
                          intro g cap W1 ho1 hk1 hl1 hold
                          have HX1 : Hid (Ls EC W1 (.slice (some ⟨g, 0, none⟩) ((CD k).length + 2) cap) (List.replicate ((CD k).length + 2) (mkD k))) := owns_ls (by rw [List.length_replicate, rep2]; exact ho1)
                          have HOLD : Hid (Ls EC W1 (VD k) (List.replicate (CD k).length (mkD k))) := by
                            unfold Hid
                            rw [HEK.out]
                            exact hold
                          have HK1 : Hid (Kp (fun q => (VD k).ownBlock = some q) wr W1) := by
                            unfold Hid
                            rw [HEK.out]
                            exact hk1
                          have HL1 : Hid (∀ q, (Value.slice (some ⟨g, 0, none⟩) ((CD k).length + 2) cap).ownBlock = some q → (VD k).ownBlock = some q ∨ wr.heap.size ≤ q) := fun q hq => by
                            have : q = g := by simpa [Value.ownBlock] using hq.symm
                            rw [this, HEK.out]
                            exact hl1
                          have HM1 : Hid (W1.ownsRow w4.heap.size 45 1 u10 k ((List.range k).map X)) := owns_kp HK1.out HG.out.more (fun q hq e => by
                            have h1 := (HG.out.more.lt q hq).1
                            have h2 := LOWD.out k hlt q e
                            omega)
                          have hz1 := HK1.out.size
                          clear ho1 hk1 hl1 hold
                          go_wp2_with (at_builtin; refine wpList_append_lies _ rfl _ _ 62 rfl w4.heap.size 45 iD (.slice none 0 0) 1 24 Try.underlying62 ID.out.1 ID.out.2.1 ID.out.2.2.1 ID.out.2.2.2 rfl (by decide) u10 k _ rfl (World.ownsRow.alloc HM1.out _) ⟨W1.heap.size, 0, none⟩ 1 1 [.slice (some ⟨g, 0, none⟩) ((CD k).length + 2) cap] rfl rfl (World.news_of_block (heap_new' _ _)) (fun u hu => by simp at hu; subst hu; rfl) (by decide) (by unfold maxLen; omega) (by omega) (by simp; omega) _ rfl ?_)
                          intro g7 c7 W3 ho3 hg3 hl3 _
                          have HSS := hideM (HG.out.step hlt FARD.out LOWD.out HX1.out HL1.out HOLD.out HK1.out ho3 ((Kp.of_below ((Gr.refl W1).alloc _).below).trans (Kp.grownBy (S := fun q => u10.ownBlock = some q) hg3 (fun _ h => h)) (fun _ _ h => h)) (fun q hq => by
                            have : q = g7 := by simpa [Value.ownBlock] using hq.symm
                            rw [this]
                            exact hl3.imp id (fun e => by rw [e]; simp)))
                          clear ho3 hg3 hl3
                          go_wp2
                          exact ⟨⟨k + 1, _, by omega, by go_num, HSS⟩, by simp [RowKit.intOf]; omega⟩
                        · have hltz : ¬ (k : Int) < (nD : Int) := by omega
                          have hke : k = nD := by omega
                          have GE : Hid (Grw EC 51 45 mkD 2 w4 nD VD (fun i => (CD i).length) wr nD X u10) := by have := HG.out; rw [hke] at this; exact this
                          clear hke HG hbk
                          have BV : Hid (BkOk wr kb nT nD pT pD gT gD cT cD VT VD) := HOK.out wr (K2.out.trans GE.out.kp (fun q _ h => Or.inr h))
                          have KF : Hid (Kp (fun q => SqF nT VT q ∨ SqF nD VD q) w wr) := K2.out.trans GE.out.kp (fun q _ h => Or.inr h)
                          obtain ⟨hxt, hvt, hrt⟩ := GT.out.far GE.out.kp (fun q ⟨i, hi, h⟩ => LOWD0.out i hi q h) (fun i hi q hq h => STD.out q ⟨i, hi, hq⟩ h) (Nat.le_refl _)
                          have HXT : Hid (∀ i, i < nT → Ls EM wr (XT i) (List.replicate ((CT i).length + 2) (mkT i))) := hxt
                          have HVT : Hid (∀ i, i < nT → Ls EM wr (VT i) (List.replicate (CT i).length (mkT i))) := hvt
                          have HXD : Hid (∀ i, i < nD → Ls EC wr (X i) (List.replicate ((CD i).length + 2) (mkD i))) := GE.out.big
                          have HVD : Hid (∀ i, i < nD → Ls EC wr (VD i) (List.replicate (CD i).length (mkD i))) := GE.out.old
                          obtain ⟨pLT, gLT, cLT, hu9, flt⟩ := row_form (owns_base hrt (Nat.zero_le _))
                          obtain ⟨pLD, gLD, cLD, hu10, fld⟩ := row_form (owns_base GE.out.more (Nat.zero_le _))
                          subst hu9 hu10
                          have FLT : Hid (∀ i, i < nT → pLT = some ⟨gLT, 0, none⟩ ∧ gLT < wr.heap.size ∧ wr.cell? ⟨gLT, i, none⟩ = some (XT i) ∧ (Value.slice pLT nT cLT).ownBlock = some gLT) := flt
                          have FLD : Hid (∀ i, i < nD → pLD = some ⟨gLD, 0, none⟩ ∧ gLD < wr.heap.size ∧ wr.cell? ⟨gLD, i, none⟩ = some (X i) ∧ (Value.slice pLD nD cLD).ownBlock = some gLD) := fld
                          have GV : Gr wr wr := Gr.refl _
                          clear GE GT K2 K3 hxt hvt hrt flt fld hlt hk LOWD LOWD0 FARD HOK STD
                          generalize wr = wv at *
                          go_wp2_with fail
                          clear k0 kbr hltz
                          go_loopw [13] (fun s wr => ∃ i : Nat, i ≤ nT ∧ s = .int .i64 i ∧ Gr wv wr) (fun s _ => nT - (RowKit.intOf s).toNat)
                          case atStart => exact ⟨0, Nat.zero_le _, rfl, GV⟩
                          case round =>
                            clear GV
                            obtain ⟨i, hi, rfl, hgr⟩ := hrel
                            by_cases hlt : i < nT
                            · have hltz : (i : Int) < (nT : Int) := by omega
                              obtain ⟨el, gll, cl1, -⟩ := FLT.out i hlt
                              obtain ⟨e1, gl1, c1⟩ := BV.out.2.2.2.1 i hlt
                              subst el e1
                              have hsm := HSMT.out i hlt
                              obtain ⟨px, cx, ex⟩ := (HXT.out i hlt).form
                              obtain ⟨pv, cv, ev⟩ := (HVT.out i hlt).form
                              rw [List.length_replicate] at ex ev
                              have HLX : Hid (Ls EM wv (.slice px ((CT i).length + 2) cx) (List.replicate ((CT i).length + 2) (mkT i))) := by rw [← ex]; exact HXT.out i hlt
                              have HLV : Hid (Ls EM wv (.slice pv (CT i).length cv) (List.replicate (CT i).length (mkT i))) := by rw [← ev]; exact HVT.out i hlt
                              rw [ex] at cl1
                              rw [ev] at c1
                              have KV : Hid (wv.cell? ⟨kb, 0, none⟩ = some (.slice (some ⟨gT, 0, none⟩) nT cT) ∧ kb < wv.heap.size) := ⟨BV.out.1, BV.out.2.2.1⟩
                              have CL : Hid (wv.cell? ⟨gLT, i, none⟩ = some (.slice px ((CT i).length + 2) cx) ∧ gLT < wv.heap.size) := ⟨cl1, gll⟩
                              have CV : Hid (wv.cell? ⟨gT, i, none⟩ = some (.slice pv (CT i).length cv) ∧ gT < wv.heap.size) := ⟨c1, gl1⟩
                              clear ex ev cl1 c1 gl1 gll
                              generalize (CT i).length = n at *
                              go_wp2_with fail
                              go_loopw [14] (fun s wr => ∃ j : Nat, j ≤ n + 2 ∧ s = .int .i64 j ∧ Gr wv wr) (fun s _ => n + 2 - (RowKit.intOf s).toNat)
                              case atStart => exact ⟨0, Nat.zero_le _, rfl, hgr⟩
                              case round =>
                                clear hgr
                                obtain ⟨j, hj, rfl, hgr⟩ := hrel
                                have l1 := (hgr.cell (o := i) CL.out.2).trans CL.out.1
                                have zl1 := Nat.lt_of_lt_of_le CL.out.2 hgr.size
                                by_cases hjl : j < n + 2
                                · have hjz : (j : Int) < (n : Int) + 2 := by omega
                                  have hjz2 : (j : Int) < ((n + 2 : Nat) : Int) := by omega
                                  obtain ⟨b1, o1, c1', e1', z1, x0, x1, x2, x3, x4, x5⟩ := ls_at (HLX.out.below hgr.below) (j := j) (x := mkT i) (by simp [hjl])
                                  rw [List.length_replicate] at e1'
                                  simp only [Value.slice.injEq] at e1'
                                  obtain ⟨rfl, -, rfl⟩ := e1'
                                  have X1 : wr.cell? ⟨b1, o1 + j * 6, none⟩ = some (.int .i64 (-5 - (i : Int))) := x0
                                  clear x0 x1 x2 x3 x4 x5
                                  have hcv : IntKind.i64.wrap (-5 - (i : Int)) = -5 - (i : Int) := by rw [IntKind.wrap_i64]; omega
                                  have hse : ((-5 - (i : Int)) != (-5 - (i : Int))) = false := by simp
                                  have k0 := (hgr.cell (o := 0) KV.out.2).trans KV.out.1
                                  have kbr := Nat.lt_of_lt_of_le KV.out.2 hgr.size
                                  have v1 := (hgr.cell (o := i) CV.out.2).trans CV.out.1
                                  have zv1 := Nat.lt_of_lt_of_le CV.out.2 hgr.size
                                  by_cases hjn : j < n
                                  · have hjnz : (j : Int) < (n : Int) := by omega
                                    obtain ⟨b2, o2, c2', e2', z2, y0, y1, y2, y3, y4, y5⟩ := ls_at (HLV.out.below hgr.below) (j := j) (x := mkT i) (by simp [hjn])
                                    rw [List.length_replicate] at e2'
                                    simp only [Value.slice.injEq] at e2'
                                    obtain ⟨rfl, -, rfl⟩ := e2'
                                    have Y1 : wr.cell? ⟨b2, o2 + j * 6, none⟩ = some (.int .i64 (-5 - (i : Int))) := y0
                                    clear y0 y1 y2 y3 y4 y5
                                    go_wp2_with fail
                                    exact ⟨⟨j + 1, by omega, by go_num, hgr⟩, by simp [RowKit.intOf]; omega⟩
                                  · have hjnz : ¬ (j : Int) < (n : Int) := by omega
                                    go_wp2_with fail
                                    exact ⟨⟨j + 1, by omega, by go_num, hgr⟩, by simp [RowKit.intOf]; omega⟩
                                · have hjz : ¬ (j : Int) < (n : Int) + 2 := by omega
                                  have hjz2 : ¬ (j : Int) < ((n + 2 : Nat) : Int) := by omega
                                  go_wp2
                                  exact ⟨⟨i + 1, by omega, by go_num, hgr⟩, by simp [RowKit.intOf]; omega⟩
                            · have hltz : ¬ (i : Int) < (nT : Int) := by omega
                              clear hlt hi
                              have GV : Gr wv wr := hgr
                              clear hgr
                              go_wp2_with fail
                              clear hltz
                              go_loopw [15] (fun s wr => ∃ i : Nat, i ≤ nD ∧ s = .int .i64 i ∧ Gr wv wr) (fun s _ => nD - (RowKit.intOf s).toNat)
                              case atStart => exact ⟨0, Nat.zero_le _, rfl, GV⟩
                              case round =>
                                clear GV
                                obtain ⟨i, hi, rfl, hgr⟩ := hrel
                                by_cases hlt : i < nD
                                · have hltz : (i : Int) < (nD : Int) := by omega
                                  obtain ⟨el, gll, cl1, -⟩ := FLD.out i hlt
                                  obtain ⟨e1, gl1, c1⟩ := BV.out.2.2.2.2 i hlt
                                  subst el e1
                                  have hsm := HSMD.out i hlt
                                  obtain ⟨px, cx, ex⟩ := (HXD.out i hlt).form
                                  obtain ⟨pv, cv, ev⟩ := (HVD.out i hlt).form
                                  rw [List.length_replicate] at ex ev
                                  have HLX : Hid (Ls EC wv (.slice px ((CD i).length + 2) cx) (List.replicate ((CD i).length + 2) (mkD i))) := by rw [← ex]; exact HXD.out i hlt
                                  have HLV : Hid (Ls EC wv (.slice pv (CD i).length cv) (List.replicate (CD i).length (mkD i))) := by rw [← ev]; exact HVD.out i hlt
                                  rw [ex] at cl1
                                  rw [ev] at c1
                                  have KV : Hid (wv.cell? ⟨kb, 2, none⟩ = some (.slice (some ⟨gD, 0, none⟩) nD cD) ∧ kb < wv.heap.size) := ⟨BV.out.2.1, BV.out.2.2.1⟩
                                  have CL : Hid (wv.cell? ⟨gLD, i, none⟩ = some (.slice px ((CD i).length + 2) cx) ∧ gLD < wv.heap.size) := ⟨cl1, gll⟩
                                  have CV : Hid (wv.cell? ⟨gD, i, none⟩ = some (.slice pv (CD i).length cv) ∧ gD < wv.heap.size) := ⟨c1, gl1⟩
                                  clear ex ev cl1 c1 gl1 gll
                                  generalize (CD i).length = n at *
                                  go_wp2_with fail
                                  go_loopw [16] (fun s wr => ∃ j : Nat, j ≤ n + 2 ∧ s = .int .i64 j ∧ Gr wv wr) (fun s _ => n + 2 - (RowKit.intOf s).toNat)
                                  case atStart => exact ⟨0, Nat.zero_le _, rfl, hgr⟩
                                  case round =>
                                    clear hgr
                                    obtain ⟨j, hj, rfl, hgr⟩ := hrel
                                    have l1 := (hgr.cell (o := i) CL.out.2).trans CL.out.1
                                    have zl1 := Nat.lt_of_lt_of_le CL.out.2 hgr.size
                                    by_cases hjl : j < n + 2
                                    · have hjz : (j : Int) < (n : Int) + 2 := by omega
                                      have hjz2 : (j : Int) < ((n + 2 : Nat) : Int) := by omega
                                      obtain ⟨b1, o1, c1', e1', z1, x0, x1, x2, x3, x4⟩ := lc_at (HLX.out.below hgr.below) (j := j) (x := mkD i) (by simp [hjl])
                                      rw [List.length_replicate] at e1'
                                      simp only [Value.slice.injEq] at e1'
                                      obtain ⟨rfl, -, rfl⟩ := e1'
                                      have X1 : wr.cell? ⟨b1, o1 + j * 5 + 4, none⟩ = some (.int .i64 (-5 - (i : Int))) := x4
                                      clear x0 x1 x2 x3 x4
                                      have hcv : IntKind.i64.wrap (-5 - (i : Int)) = -5 - (i : Int) := by rw [IntKind.wrap_i64]; omega
                                      have hse : ((-5 - (i : Int)) != (-5 - (i : Int))) = false := by simp
                                      have k0 := (hgr.cell (o := 2) KV.out.2).trans KV.out.1
                                      have kbr := Nat.lt_of_lt_of_le KV.out.2 hgr.size
                                      have v1 := (hgr.cell (o := i) CV.out.2).trans CV.out.1
                                      have zv1 := Nat.lt_of_lt_of_le CV.out.2 hgr.size
                                      by_cases hjn : j < n
                                      · have hjnz : (j : Int) < (n : Int) := by omega
                                        obtain ⟨b2, o2, c2', e2', z2, y0, y1, y2, y3, y4⟩ := lc_at (HLV.out.below hgr.below) (j := j) (x := mkD i) (by simp [hjn])
                                        rw [List.length_replicate] at e2'
                                        simp only [Value.slice.injEq] at e2'
                                        obtain ⟨rfl, -, rfl⟩ := e2'
                                        have Y1 : wr.cell? ⟨b2, o2 + j * 5 + 4, none⟩ = some (.int .i64 (-5 - (i : Int))) := y4
                                        clear y0 y1 y2 y3 y4
                                        go_wp2_with fail
                                        exact ⟨⟨j + 1, by omega, by go_num, hgr⟩, by simp [RowKit.intOf]; omega⟩
                                      · have hjnz : ¬ (j : Int) < (n : Int) := by omega
                                        go_wp2_with fail
                                        exact ⟨⟨j + 1, by omega, by go_num, hgr⟩, by simp [RowKit.intOf]; omega⟩
                                    · have hjz : ¬ (j : Int) < (n : Int) + 2 := by omega
                                      have hjz2 : ¬ (j : Int) < ((n + 2 : Nat) : Int) := by omega
                                      go_wp2
                                      exact ⟨⟨i + 1, by omega, by go_num, hgr⟩, by simp [RowKit.intOf]; omega⟩
                                · have hltz : ¬ (i : Int) < (nD : Int) := by omega
                                  clear hlt hi
                                  go_wp2
                                  go_ret
                                  exact ⟨rfl, (KF.out.below hBw HBQ.out).trans (hgr.below.mono (Nat.le_trans hBw KF.out.size))⟩
end Go.Proofs.Ytaaobchodbnkpaa.Qs
