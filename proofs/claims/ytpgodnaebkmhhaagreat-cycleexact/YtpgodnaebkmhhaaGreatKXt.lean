import Derived.Test.YtpgodnaebkmhhaaGreatKXt0
import Derived.BigQuiet
namespace Go.Proofs.YtpgodnaebkmhhaaGreat.Df
open Go.RowKit Go.Sort
attribute [local go_sem ↓] Go.wp_at_zero Go.wp_at_succ
set_option maxRecDepth 100000 in
set_option maxHeartbeats 16000000 in
theorem cycleExact_any {M : Nat} {nv ev : Value} {a : Int} {xs : List NV} {es : List Edg} (w : World) (hG : GR M w nv ev xs es) (hM : M ≤ w.heap.size) (hC : Gcap ev xs) : Calls Tryz.prog 5 #[.agg (gvc a nv ev)] w fun r w' => r = .returned (.bool true) ∧ Below w.heap.size w w' := by
  obtain ⟨W0, hW0⟩ : ∃ W, W = w.alloc (.cells (gvc a nv ev) 25) := ⟨_, rfl⟩
  obtain ⟨gx, hgx⟩ : ∃ b, b = w.heap.size := ⟨_, rfl⟩
  have b0 : Below w.heap.size w W0 := by rw [hW0]; exact ((Gr.refl w).alloc _).below
  have HB : Hid (W0.heap[gx]? = some (.cells (gvc a nv ev) 25 (0, 0)) ∧ Below w.heap.size w W0) := ⟨by rw [hW0, hgx]; exact heap_new' _ _, b0⟩
  have HG : Hid (∀ W, Below W0.heap.size W0 W → GR W.heap.size W nv ev xs es) := fun W hb => ((hG.below b0).below hb).up (Nat.le_trans (Nat.le_trans hM b0.size) hb.size)
  have HC := hid hC
  obtain ⟨qn, cn, hnv⟩ := hG.nodes.form
  obtain ⟨qe, ce, hev⟩ := hG.edges.form
  have HW : Hid (w.alloc (.cells #[.int .i64 a, .slice qn xs.length cn, .slice qe es.length ce] 25) = W0 ∧ w.heap.size = gx) := by rw [← hnv, ← hev]; exact ⟨hW0.symm, hgx.symm⟩
  obtain ⟨nl, hnl⟩ : ∃ n, n = xs.length := ⟨_, rfl⟩
  obtain ⟨el, hel⟩ : ∃ n, n = es.length := ⟨_, rfl⟩
  subst hnv
  subst hev
  rw [← hnl] at HB HG HW ⊢
  rw [← hel] at HB HG HC HW ⊢
  have HNL := hid hnl
  clear hG hM hC hW0 hgx b0 hnl hel
  go_enter Tryz.func5, Tryz.ntmps5
  go_upto_region 1 with fail
  rw [HW.out.1, HW.out.2]
  clear HW
  go_wp2_with fail
  refine (known_any W0).mono ?_
  rintro r w1 ⟨rfl, H1⟩
  have hb1 := (H1.out.block _ (tk_lt HB.out.1)).trans HB.out.1
  have c1 := (tk_store hb1).1
  have l1 := tk_lt hb1
  have hch := rcheck_any (a := a) w1 (HG.out w1 H1.out) (Nat.le_refl _)
  clear hb1
  go_wp2_with fail
  refine hch.mono ?_
  clear hch c1 l1
  rintro r w2 ⟨e, t, rfl, hfl, hb2⟩
  have B2 : Hid (Below W0.heap.size W0 w2) := H1.out.trans (hb2.mono H1.out.size)
  clear hb2 H1
  by_cases he : e = 0
  · subst he
    have hOK : Gok (gof a xs es) := hfl.ok.1 rfl
    have HFL := hid hfl
    have HOK := hid hOK
    have hb1 := (B2.out.block _ (tk_lt HB.out.1)).trans HB.out.1
    have c1 := (tk_store hb1).1
    have l1 := tk_lt hb1
    have hnew := new_any (a := a) w2 (HG.out w2 B2.out) HC.out
    clear hb1 hfl hOK
    go_wp2_with fail
    refine hnew.mono ?_
    clear hnew c1 l1
    rintro r w3 ⟨hb3, e3, t3, hfl3, hr3⟩
    obtain ⟨rfl, rfl⟩ := hfl3.same HFL.out
    rcases hr3 with ⟨h0, _⟩ | ⟨_, gb, rfl, hm⟩
    · exact absurd rfl h0
    have B3 : Hid (Below W0.heap.size W0 w3) := B2.out.trans (hb3.mono B2.out.size)
    have HM := hid hm
    clear hb3 hfl3 hm B2
    obtain ⟨LO, EO, hlo, hod⟩ := od_det (stL (gof a xs es))
    obtain ⟨LR, ER, hlr, hrd⟩ := rd_det (stL (gof a xs es))
    obtain ⟨LF, hlf, hfn⟩ := fn_det (stL (gof a xs es)) (fun l hl y hy => (((stL_good HOK.out).2 l hl).2 y hy).1)
    have hn9 := (stL_good HOK.out).1
    have hlo9 : LO.length ≤ 1000 := by omega
    have hlr9 : LR.length ≤ 1000 := by omega
    have hlf9 : LF.length ≤ 1000 := by omega
    have HOD := hid hod
    have HRD := hid hrd
    have HFN := hid hfn
    clear hod hrd hfn hlo hlr hlf hn9
    have hb1 := (B3.out.block _ (tk_lt HB.out.1)).trans HB.out.1
    have c1 := (tk_store hb1).1
    have l1 := tk_lt hb1
    have hca := korder_any (a := a) w3 (HG.out w3 B3.out) (Nat.le_refl _) HOK.out
    clear hb1
    go_wp2_with fail
    refine hca.mono ?_
    clear hca c1 l1
    intro r w4 hr
    obtain ⟨hbn, dwo, rfl, hown⟩ := HOD.out _ _ _ hr
    clear hr
    obtain ⟨pwo, kwo, rfl⟩ := hown.form
    have Owo := hid hown
    have B4 : Hid (Below W0.heap.size W0 w4) := B3.out.trans (hbn.mono B3.out.size)
    have HM4 := hid (HM.out.below hbn)
    clear hbn hown
    have hb1 := (B4.out.block _ (tk_lt HB.out.1)).trans HB.out.1
    have c1 := (tk_store hb1).1
    have l1 := tk_lt hb1
    have hca := krank_any (a := a) w4 (HG.out w4 B4.out) (Nat.le_refl _) HOK.out
    clear hb1
    go_wp2_with fail
    refine hca.mono ?_
    clear hca c1 l1
    intro r w5 hr
    obtain ⟨hbn, dwr, rfl, hown⟩ := HRD.out _ _ _ hr
    clear hr
    obtain ⟨pwr, kwr, rfl⟩ := hown.form
    have Owo := hid (Owo.out.below hbn)
    have Owr := hid hown
    have B5 : Hid (Below W0.heap.size W0 w5) := B4.out.trans (hbn.mono B4.out.size)
    have HM5 := hid (HM4.out.below hbn)
    clear hbn hown
    have hb1 := (B5.out.block _ (tk_lt HB.out.1)).trans HB.out.1
    have c1 := (tk_store hb1).1
    have l1 := tk_lt hb1
    have hca := kfind_any (a := a) w5 (HG.out w5 B5.out) (Nat.le_refl _) HOK.out
    clear hb1
    go_wp2_with fail
    refine hca.mono ?_
    clear hca c1 l1
    intro r w6 hr
    obtain ⟨hbn, dwf, rfl, hown⟩ := HFN.out _ _ _ hr
    clear hr
    obtain ⟨pwf, kwf, rfl⟩ := hown.form
    have Owo := hid (Owo.out.below hbn)
    have Owr := hid (Owr.out.below hbn)
    have Owf := hid hown
    have B6 : Hid (Below W0.heap.size W0 w6) := B5.out.trans (hbn.mono B5.out.size)
    have HM6 := hid (HM5.out.below hbn)
    clear hbn hown
    have hca := order_any w6 HM6.out HOK.out
    go_wp2_with fail
    refine hca.mono ?_
    clear hca
    intro r w7 hr
    obtain ⟨hbn, dl, rfl, hown⟩ := HOD.out _ _ _ hr
    clear hr
    obtain ⟨pl, kl, rfl⟩ := hown.form
    have Owo := hid (Owo.out.below hbn)
    have Owr := hid (Owr.out.below hbn)
    have Owf := hid (Owf.out.below hbn)
    have Ol := hid hown
    have B7 : Hid (Below W0.heap.size W0 w7) := B6.out.trans (hbn.mono B6.out.size)
    have Z7 : Hid (w6.heap.size ≤ w7.heap.size) := hbn.size
    have HM7 := hid (HM6.out.below hbn)
    clear hbn hown
    have hca := rank_any w7 HM7.out HOK.out
    go_wp2_with fail
    refine hca.mono ?_
    clear hca
    intro r w8 hr
    obtain ⟨hbn, dr, rfl, hown⟩ := HRD.out _ _ _ hr
    clear hr
    obtain ⟨pr, kr, rfl⟩ := hown.form
    have Owo := hid (Owo.out.below hbn)
    have Owr := hid (Owr.out.below hbn)
    have Owf := hid (Owf.out.below hbn)
    have Ol := hid (Ol.out.below hbn)
    have Or_ := hid hown
    have B8 : Hid (Below W0.heap.size W0 w8) := B7.out.trans (hbn.mono B7.out.size)
    have Z8 : Hid (w7.heap.size ≤ w8.heap.size) := hbn.size
    have HM8 := hid (HM7.out.below hbn)
    clear hbn hown
    have hca := find_any w8 HM8.out HOK.out
    go_wp2_with fail
    refine hca.mono ?_
    clear hca
    intro r w9 hr
    obtain ⟨hbn, dc, rfl, hown⟩ := HFN.out _ _ _ hr
    clear hr
    obtain ⟨pc, kc, rfl⟩ := hown.form
    have Owo := hid (Owo.out.below hbn)
    have Owr := hid (Owr.out.below hbn)
    have Owf := hid (Owf.out.below hbn)
    have Ol := hid (Ol.out.below hbn)
    have Or_ := hid (Or_.out.below hbn)
    have Oc := hid hown
    have B9 : Hid (Below W0.heap.size W0 w9) := B8.out.trans (hbn.mono B8.out.size)
    have Z9 : Hid (w8.heap.size ≤ w9.heap.size) := hbn.size
    have HM9 := hid (HM8.out.below hbn)
    clear hbn hown
    go_wp2_with fail
    refine (known_any w9).mono ?_
    rintro r w10 ⟨rfl, hkn⟩
    have Z10 : Hid (w9.heap.size ≤ w10.heap.size) := (hkn.out).size
    have Owo := hid (Owo.out.below hkn.out)
    have Owr := hid (Owr.out.below hkn.out)
    have Owf := hid (Owf.out.below hkn.out)
    have Ol := hid (Ol.out.below hkn.out)
    have Or_ := hid (Or_.out.below hkn.out)
    have Oc := hid (Oc.out.below hkn.out)
    have B10 : Hid (Below W0.heap.size W0 w10) := B9.out.trans ((hkn.out).mono B9.out.size)
    have HM10 := hid (HM9.out.below (hkn.out))
    clear hkn
    have hca := sameI_eq w10 Ol.out.lz Owo.out.lz (by omega)
    go_wp2_with fail
    refine hca.mono ?_
    clear hca
    rintro r w11 ⟨rfl, gg⟩
    have Z11 : Hid (w10.heap.size ≤ w11.heap.size) := (gg.below).size
    have Owo := hid (Owo.out.below gg.below)
    have Owr := hid (Owr.out.below gg.below)
    have Owf := hid (Owf.out.below gg.below)
    have Ol := hid (Ol.out.below gg.below)
    have Or_ := hid (Or_.out.below gg.below)
    have Oc := hid (Oc.out.below gg.below)
    have B11 : Hid (Below W0.heap.size W0 w11) := B10.out.trans ((gg.below).mono B10.out.size)
    have HM11 := hid (HM10.out.below (gg.below))
    clear gg
    have hca := sameI_eq w11 Or_.out.lz Owr.out.lz (by omega)
    go_wp2_with fail
    refine hca.mono ?_
    clear hca
    rintro r w12 ⟨rfl, gg⟩
    have Z12 : Hid (w11.heap.size ≤ w12.heap.size) := (gg.below).size
    have Owo := hid (Owo.out.below gg.below)
    have Owr := hid (Owr.out.below gg.below)
    have Owf := hid (Owf.out.below gg.below)
    have Ol := hid (Ol.out.below gg.below)
    have Or_ := hid (Or_.out.below gg.below)
    have Oc := hid (Oc.out.below gg.below)
    have B12 : Hid (Below W0.heap.size W0 w12) := B11.out.trans ((gg.below).mono B11.out.size)
    have HM12 := hid (HM11.out.below (gg.below))
    clear gg
    have hca := sameI_eq w12 Oc.out.lz Owf.out.lz (by omega)
    go_wp2_with fail
    refine hca.mono ?_
    clear hca
    rintro r w13 ⟨rfl, gg⟩
    have Z13 : Hid (w12.heap.size ≤ w13.heap.size) := (gg.below).size
    have Owo := hid (Owo.out.below gg.below)
    have Owr := hid (Owr.out.below gg.below)
    have Owf := hid (Owf.out.below gg.below)
    have Ol := hid (Ol.out.below gg.below)
    have Or_ := hid (Or_.out.below gg.below)
    have Oc := hid (Oc.out.below gg.below)
    have B13 : Hid (Below W0.heap.size W0 w13) := B12.out.trans ((gg.below).mono B12.out.size)
    have HM13 := hid (HM12.out.below (gg.below))
    clear gg
    have hca := order_any w13 HM13.out HOK.out
    go_wp2_with fail
    refine hca.mono ?_
    clear hca
    intro r w14 hr
    obtain ⟨hbn, dm, rfl, hown⟩ := HOD.out _ _ _ hr
    clear hr
    obtain ⟨pm, km, rfl⟩ := hown.form
    have Owo := hid (Owo.out.below hbn)
    have Owr := hid (Owr.out.below hbn)
    have Owf := hid (Owf.out.below hbn)
    have Ol := hid (Ol.out.below hbn)
    have Or_ := hid (Or_.out.below hbn)
    have Oc := hid (Oc.out.below hbn)
    have Om := hid hown
    have B14 : Hid (Below W0.heap.size W0 w14) := B13.out.trans (hbn.mono B13.out.size)
    have Z14 : Hid (w13.heap.size ≤ w14.heap.size) := hbn.size
    have HM14 := hid (HM13.out.below hbn)
    clear hbn hown
    have hca := rank_any w14 HM14.out HOK.out
    go_wp2_with fail
    refine hca.mono ?_
    clear hca
    intro r w15 hr
    obtain ⟨hbn, ds, rfl, hown⟩ := HRD.out _ _ _ hr
    clear hr
    obtain ⟨ps, ks, rfl⟩ := hown.form
    have Owo := hid (Owo.out.below hbn)
    have Owr := hid (Owr.out.below hbn)
    have Owf := hid (Owf.out.below hbn)
    have Ol := hid (Ol.out.below hbn)
    have Or_ := hid (Or_.out.below hbn)
    have Oc := hid (Oc.out.below hbn)
    have Om := hid (Om.out.below hbn)
    have Os := hid hown
    have B15 : Hid (Below W0.heap.size W0 w15) := B14.out.trans (hbn.mono B14.out.size)
    have Z15 : Hid (w14.heap.size ≤ w15.heap.size) := hbn.size
    have HM15 := hid (HM14.out.below hbn)
    clear hbn hown
    have hca := find_any w15 HM15.out HOK.out
    go_wp2_with fail
    refine hca.mono ?_
    clear hca
    intro r w16 hr
    obtain ⟨hbn, dd, rfl, hown⟩ := HFN.out _ _ _ hr
    clear hr
    obtain ⟨pd, kd, rfl⟩ := hown.form
    have Owo := hid (Owo.out.below hbn)
    have Owr := hid (Owr.out.below hbn)
    have Owf := hid (Owf.out.below hbn)
    have Ol := hid (Ol.out.below hbn)
    have Or_ := hid (Or_.out.below hbn)
    have Oc := hid (Oc.out.below hbn)
    have Om := hid (Om.out.below hbn)
    have Os := hid (Os.out.below hbn)
    have Od_ := hid hown
    have B16 : Hid (Below W0.heap.size W0 w16) := B15.out.trans (hbn.mono B15.out.size)
    have Z16 : Hid (w15.heap.size ≤ w16.heap.size) := hbn.size
    have HM16 := hid (HM15.out.below hbn)
    clear hbn hown
    have hca := sameI_eq w16 Ol.out.lz Owo.out.lz (by omega)
    go_wp2_with fail
    refine hca.mono ?_
    clear hca
    rintro r w17 ⟨rfl, gg⟩
    have Z17 : Hid (w16.heap.size ≤ w17.heap.size) := (gg.below).size
    have Owo := hid (Owo.out.below gg.below)
    have Owr := hid (Owr.out.below gg.below)
    have Owf := hid (Owf.out.below gg.below)
    have Ol := hid (Ol.out.below gg.below)
    have Or_ := hid (Or_.out.below gg.below)
    have Oc := hid (Oc.out.below gg.below)
    have Om := hid (Om.out.below gg.below)
    have Os := hid (Os.out.below gg.below)
    have Od_ := hid (Od_.out.below gg.below)
    have B17 : Hid (Below W0.heap.size W0 w17) := B16.out.trans ((gg.below).mono B16.out.size)
    have HM17 := hid (HM16.out.below (gg.below))
    clear gg
    have hca := sameI_eq w17 Om.out.lz Owo.out.lz (by omega)
    go_wp2_with fail
    refine hca.mono ?_
    clear hca
    rintro r w18 ⟨rfl, gg⟩
    have Z18 : Hid (w17.heap.size ≤ w18.heap.size) := (gg.below).size
    have Owo := hid (Owo.out.below gg.below)
    have Owr := hid (Owr.out.below gg.below)
    have Owf := hid (Owf.out.below gg.below)
    have Ol := hid (Ol.out.below gg.below)
    have Or_ := hid (Or_.out.below gg.below)
    have Oc := hid (Oc.out.below gg.below)
    have Om := hid (Om.out.below gg.below)
    have Os := hid (Os.out.below gg.below)
    have Od_ := hid (Od_.out.below gg.below)
    have B18 : Hid (Below W0.heap.size W0 w18) := B17.out.trans ((gg.below).mono B17.out.size)
    have HM18 := hid (HM17.out.below (gg.below))
    clear gg
    have hca := sameI_eq w18 Or_.out.lz Owr.out.lz (by omega)
    go_wp2_with fail
    refine hca.mono ?_
    clear hca
    rintro r w19 ⟨rfl, gg⟩
    have Z19 : Hid (w18.heap.size ≤ w19.heap.size) := (gg.below).size
    have Owo := hid (Owo.out.below gg.below)
    have Owr := hid (Owr.out.below gg.below)
    have Owf := hid (Owf.out.below gg.below)
    have Ol := hid (Ol.out.below gg.below)
    have Or_ := hid (Or_.out.below gg.below)
    have Oc := hid (Oc.out.below gg.below)
    have Om := hid (Om.out.below gg.below)
    have Os := hid (Os.out.below gg.below)
    have Od_ := hid (Od_.out.below gg.below)
    have B19 : Hid (Below W0.heap.size W0 w19) := B18.out.trans ((gg.below).mono B18.out.size)
    have HM19 := hid (HM18.out.below (gg.below))
    clear gg
    have hca := sameI_eq w19 Os.out.lz Owr.out.lz (by omega)
    go_wp2_with fail
    refine hca.mono ?_
    clear hca
    rintro r w20 ⟨rfl, gg⟩
    have Z20 : Hid (w19.heap.size ≤ w20.heap.size) := (gg.below).size
    have Owo := hid (Owo.out.below gg.below)
    have Owr := hid (Owr.out.below gg.below)
    have Owf := hid (Owf.out.below gg.below)
    have Ol := hid (Ol.out.below gg.below)
    have Or_ := hid (Or_.out.below gg.below)
    have Oc := hid (Oc.out.below gg.below)
    have Om := hid (Om.out.below gg.below)
    have Os := hid (Os.out.below gg.below)
    have Od_ := hid (Od_.out.below gg.below)
    have B20 : Hid (Below W0.heap.size W0 w20) := B19.out.trans ((gg.below).mono B19.out.size)
    have HM20 := hid (HM19.out.below (gg.below))
    clear gg
    have hca := sameI_eq w20 Oc.out.lz Owf.out.lz (by omega)
    go_wp2_with fail
    refine hca.mono ?_
    clear hca
    rintro r w21 ⟨rfl, gg⟩
    have Z21 : Hid (w20.heap.size ≤ w21.heap.size) := (gg.below).size
    have Owo := hid (Owo.out.below gg.below)
    have Owr := hid (Owr.out.below gg.below)
    have Owf := hid (Owf.out.below gg.below)
    have Ol := hid (Ol.out.below gg.below)
    have Or_ := hid (Or_.out.below gg.below)
    have Oc := hid (Oc.out.below gg.below)
    have Om := hid (Om.out.below gg.below)
    have Os := hid (Os.out.below gg.below)
    have Od_ := hid (Od_.out.below gg.below)
    have B21 : Hid (Below W0.heap.size W0 w21) := B20.out.trans ((gg.below).mono B20.out.size)
    have HM21 := hid (HM20.out.below (gg.below))
    clear gg
    have hca := sameI_eq w21 Od_.out.lz Owf.out.lz (by omega)
    go_wp2_with fail
    refine hca.mono ?_
    clear hca
    rintro r w22 ⟨rfl, gg⟩
    have Z22 : Hid (w21.heap.size ≤ w22.heap.size) := (gg.below).size
    have Owo := hid (Owo.out.below gg.below)
    have Owr := hid (Owr.out.below gg.below)
    have Owf := hid (Owf.out.below gg.below)
    have Ol := hid (Ol.out.below gg.below)
    have Or_ := hid (Or_.out.below gg.below)
    have Oc := hid (Oc.out.below gg.below)
    have Om := hid (Om.out.below gg.below)
    have Os := hid (Os.out.below gg.below)
    have Od_ := hid (Od_.out.below gg.below)
    have B22 : Hid (Below W0.heap.size W0 w22) := B21.out.trans ((gg.below).mono B21.out.size)
    have HM22 := hid (HM21.out.below (gg.below))
    clear gg
    have ZZ : Hid (w6.heap.size ≤ w7.heap.size ∧ w7.heap.size ≤ w8.heap.size ∧ w8.heap.size ≤ w9.heap.size ∧ w9.heap.size ≤ w13.heap.size ∧ w13.heap.size ≤ w14.heap.size ∧ w14.heap.size ≤ w15.heap.size ∧ w15.heap.size ≤ w16.heap.size ∧ w.heap.size ≤ w6.heap.size) := by
      have z7 := Z7.out; have z8 := Z8.out; have z9 := Z9.out; have z10 := Z10.out; have z11 := Z11.out; have z12 := Z12.out; have z13 := Z13.out; have z14 := Z14.out; have z15 := Z15.out; have z16 := Z16.out
      have z6 := HB.out.2.size
      have z5 := B6.out.size
      show _ ∧ _
      omega
    have BE : Hid (Below w.heap.size w w22) := HB.out.2.trans (B22.out.mono HB.out.2.size)
    have OX : Hid (Own w6.heap.size w7.heap.size w22 (.slice pl LO.length kl) LO ∧ Own w13.heap.size w14.heap.size w22 (.slice pm LO.length km) LO ∧ Own w8.heap.size w9.heap.size w22 (.slice pc LF.length kc) LF) := ⟨Ol.out, Om.out, Oc.out⟩
    have OY : Hid (Own w7.heap.size w8.heap.size w22 (.slice pr LR.length kr) LR ∧ Own w14.heap.size w15.heap.size w22 (.slice ps LR.length ks) LR ∧ Own w15.heap.size w16.heap.size w22 (.slice pd LF.length kd) LF) := ⟨Or_.out, Os.out, Od_.out⟩
    have ha1 := alone_any (v3 (.slice pl LO.length kl) (.slice pm LO.length km) (.slice pc LF.length kc)) (c3 LO LO LF) w22 (by
      have zz := ZZ.out
      exact fam3 OX.out.1 OX.out.2.1 OX.out.2.2 (by omega) (by omega) (by omega)) (fun i hi => by
      match i, hi with
      | 0, _ => exact hlo9
      | 1, _ => exact hlo9
      | 2, _ => exact hlf9)
    go_wp2_with fail
    refine ha1.mono ?_
    clear ha1
    rintro r w23 ⟨rfl, hk23⟩
    have KK : Hid (Kp (fun q => w.heap.size ≤ q) w22 w23) := by
      have zz := ZZ.out
      refine ⟨hk23.os, hk23.tape, hk23.output, hk23.size, fun q hq hn => hk23.block q hq (fun hs => hn ?_)⟩
      have := sq3 OX.out.1 OX.out.2.1 OX.out.2.2 hs
      omega
    have OZ : Hid (Own w7.heap.size w8.heap.size w23 (.slice pr LR.length kr) LR ∧ Own w14.heap.size w15.heap.size w23 (.slice ps LR.length ks) LR ∧ Own w15.heap.size w16.heap.size w23 (.slice pd LF.length kd) LF) := by
      have zz := ZZ.out
      refine ⟨OY.out.1.kp hk23 (fun q h1 h2 hs => ?_), OY.out.2.1.kp hk23 (fun q h1 h2 hs => ?_), OY.out.2.2.kp hk23 (fun q h1 h2 hs => ?_)⟩
      · have := sq3 OX.out.1 OX.out.2.1 OX.out.2.2 hs
        omega
      · have := sq3 OX.out.1 OX.out.2.1 OX.out.2.2 hs
        omega
      · have := sq3 OX.out.1 OX.out.2.1 OX.out.2.2 hs
        omega
    have hfam : Fam EI 3 w23 3 (v3 (.slice pr LR.length kr) (.slice ps LR.length ks) (.slice pd LF.length kd)) (c3 LR LR LF) := by
      have zz := ZZ.out
      have h0 := OZ.out.1
      have h1 := OZ.out.2.1
      have h2 := OZ.out.2.2
      exact fam3' h0 h1 h2 (by omega) (by omega) (by omega)
    have ha2 := alone_any (v3 (.slice pr LR.length kr) (.slice ps LR.length ks) (.slice pd LF.length kd)) (c3 LR LR LF) w23 hfam (fun i hi => by
      match i, hi with
      | 0, _ => exact hlr9
      | 1, _ => exact hlr9
      | 2, _ => exact hlf9)
    have HK23 := hid hk23
    clear hk23 hfam
    go_wp2_with fail
    refine ha2.mono ?_
    clear ha2
    rintro r w24 ⟨rfl, hk24⟩
    have FIN : Hid (Below w.heap.size w w24) := by
      have zz := ZZ.out
      have k2 : Kp (fun q => w.heap.size ≤ q) w23 w24 := by
        refine ⟨hk24.os, hk24.tape, hk24.output, hk24.size, fun q hq hn => hk24.block q hq (fun hs => hn ?_)⟩
        have := sq3 OZ.out.1 OZ.out.2.1 OZ.out.2.2 hs
        omega
      exact BE.out.trans ((KK.out.trans k2 (fun _ _ h => h)).below BE.out.size (fun _ h => h))
    clear hk24
    go_wp2_with fail
    go_ret
    exact ⟨rfl, FIN.out⟩
  · have FIN : Hid (Below w.heap.size w w2) := HB.out.2.trans (B2.out.mono HB.out.2.size)
    clear hfl
    go_wp2_with fail
    go_ret
    exact ⟨rfl, FIN.out⟩
end Go.Proofs.YtpgodnaebkmhhaaGreat.Df
