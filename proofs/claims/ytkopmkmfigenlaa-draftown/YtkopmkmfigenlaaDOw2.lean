import Derived.Test.YtkopmkmfigenlaaDOw1
namespace Go.Proofs.Ytkopmkmfigenlaa.Df
open Go.RowKit Go.Sort Wi
attribute [local go_sem ↓] Go.wp_at_zero Go.wp_at_succ

/-- What write leaves. -/
def Wrt (B : Nat) (w : World) (kb : Nat) (cO cC cN cD : LV) (lO : List (List Opd)) (lC : List (List Con)) (lN : List (List NV)) (lD : List (List Edg)) (r : Ending) (w' : World) : Prop := r = .returned (.tuple #[]) ∧ ∃ uO uC uN uD, Bk B w' kb cO cC cN cD uO (grwn fO lO lO.length) uC (grwn fC lC lC.length) uN (grwn fN lN lN.length) uD (grwn fD lD lD.length) ∧ Kp (fun k => B ≤ k) w w'
set_option maxRecDepth 100000 in
set_option maxHeartbeats 8000000 in
theorem write_any {B kb : Nat} {cO cC cN cD : LV} {vO : List LV} {lO : List (List Opd)} {vC : List LV} {lC : List (List Con)} {vN : List LV} {lN : List (List NV)} {vD : List LV} {lD : List (List Edg)} (w : World) (hB : Bk B w kb cO cC cN cD vO lO vC lC vN lN vD lD) (sO : Sm lO) (sC : Sm lC) (sN : Sm lN) (sD : Sm lD) : Calls Try.prog 13 #[.pointer (some ⟨kb, 0, none⟩)] w (Wrt B w kb cO cC cN cD lO lC lN lD) := by
  have hmx : Try.prog.follows .mixedOrders = true := by kernel_rfl
  have PS : Hid (Bk B w kb cO cC cN cD vO lO vC lC vN lN vD lD ∧ Kp (fun k => B ≤ k) w w) := ⟨hB, Kp.refl _ _⟩
  have HSO := hid sO
  have HSC := hid sC
  have HSN := hid sN
  have HSD := hid sD
  clear hB sO sC sN sD
  obtain ⟨qO, mO, kO⟩ := cO
  obtain ⟨qC, mC, kC⟩ := cC
  obtain ⟨qN, mN, kN⟩ := cN
  obtain ⟨qD, mD, kD⟩ := cD
  go_enter Try.func13, Try.ntmps13
  have cb := (tk_store PS.out.1.blk).1
  simp only [LV.v] at cb
  have lb := tk_lt PS.out.1.blk
  go_upto_region 1 with fail
  clear cb lb
  go_loopw [27] (fun s wr => ∃ i : Nat, i ≤ mO ∧ s = .int .i64 (i : Nat) ∧ Hid (Bk B wr kb ⟨qO, mO, kO⟩ ⟨qC, mC, kC⟩ ⟨qN, mN, kN⟩ ⟨qD, mD, kD⟩ vO (mkd fO lO i) vC lC vN lN vD lD ∧ Kp (fun k => B ≤ k) w wr)) (fun s _ => mO - (RowKit.intOf s).toNat)
  case atStart => exact ⟨0, Nat.zero_le _, rfl, by rw [mkd_zero]; exact PS.out⟩
  case round =>
    clear PS
    obtain ⟨i, hi, rfl, HI⟩ := hrel
    by_cases hlt : i < mO
    · have hltz : (i : Int) < (mO : Int) := by omega
      have hi0 : (0 : Int) ≤ (i : Int) := by omega
      have hcm : mO = vO.length := (owns_caps HI.out.1.rO _ _ _ rfl).1
      obtain ⟨v, hv⟩ : ∃ v, vO[i]? = some v := ⟨vO[i]'(by omega), List.getElem?_eq_getElem (by omega)⟩
      obtain ⟨l, hl⟩ : ∃ l, lO[i]? = some l := ⟨lO[i]'(by have := HI.out.1.fO.len; rw [mkd_len] at this; omega), List.getElem?_eq_getElem _⟩
      have hsl : l.length ≤ 1000 := HSO.out.2 l (List.mem_of_getElem? hl)
      have hil : i ≤ 1000 := by have := HSO.out.1; have := (List.getElem?_eq_some_iff.1 hl).1; omega
      obtain ⟨b1, o1, q1, e1, zz1, y0⟩ := ls_atL (owns_ls (E := EL) HI.out.1.rO) hv
      simp only [LV.v, Value.slice.injEq] at e1
      have hvm : v.m = l.length := (owns_caps (HI.out.1.fO.each i v l hv (mkd_get fO hl)) _ _ _ rfl).1
      have HVL : Hid (vO[i]? = some v ∧ lO[i]? = some l ∧ v.m = l.length) := ⟨hv, hl, hvm⟩
      obtain ⟨rfl, -, rfl⟩ := e1
      clear hv hl hvm hcm
      have I0 : Hid (Bk B wr kb ⟨some ⟨b1, o1, none⟩, mO, kO⟩ ⟨qC, mC, kC⟩ ⟨qN, mN, kN⟩ ⟨qD, mD, kD⟩ vO ((mkd fO lO i).set i l) vC lC vN lN vD lD ∧ Kp (fun k => B ≤ k) w wr) := by
        have h := HI.out
        rw [← set_eq_same (mkd_get fO HVL.out.2.1)] at h
        exact h
      obtain ⟨vq, vm, vc⟩ := v
      simp only [LV.v] at y0
      go_upto_region 4 with fail
      clear y0 zz1
      go_loopw [34] (fun s wr => ∃ j : Nat, j ≤ l.length ∧ s = .int .i64 (j : Nat) ∧ Hid (Bk B wr kb ⟨some ⟨b1, o1, none⟩, mO, kO⟩ ⟨qC, mC, kC⟩ ⟨qN, mN, kN⟩ ⟨qD, mD, kD⟩ vO ((mkd fO lO i).set i (mksF fO i j ++ l.drop j)) vC lC vN lN vD lD ∧ Kp (fun k => B ≤ k) w wr)) (fun s _ => l.length - (RowKit.intOf s).toNat)
      case atStart => exact ⟨0, Nat.zero_le _, rfl, by rw [mks0]; exact I0.out⟩
      case round =>
        clear I0 HI
        obtain ⟨j, hj, rfl, HJ⟩ := hrel
        have HVM : Hid (vm = l.length) := HVL.out.2.2
        by_cases hjl : j < l.length
        · have hjz : (j : Int) < (vm : Int) := by have := HVM.out; omega
          have hj0 : (0 : Int) ≤ (j : Int) := by omega
          have HLL : Hid ((mksF fO i j ++ l.drop j).length = l.length) := by show _ = _; rw [List.length_append, mksF_len, List.length_drop]; omega
          have hgi : ((mkd fO lO i).set i (mksF fO i j ++ l.drop j))[i]? = some (mksF fO i j ++ l.drop j) := by
            rw [List.getElem?_set_self (by rw [mkd_len]; exact (List.getElem?_eq_some_iff.1 HVL.out.2.1).1)]
          have hrw := HJ.out.1.fO.each i ⟨vq, vm, vc⟩ _ HVL.out.1 hgi
          obtain ⟨LL, hLL⟩ : ∃ L, L = mksF fO i j ++ l.drop j := ⟨_, rfl⟩
          rw [← hLL] at hrw HLL
          have HL2 : Hid (LL.set j (fO (mkI i j)) = mksF fO i (j + 1) ++ l.drop (j + 1)) := by rw [hLL]; exact mark_step fO hjl
          obtain ⟨g, c8, hg⟩ := owns_at0 hrw (j := j) (by have := HLL.out; omega)
          simp only [Value.slice.injEq] at hg
          obtain ⟨rfl, rfl, rfl⟩ := hg
          obtain ⟨z, hz⟩ : ∃ z, LL[j]? = some z := ⟨LL[j]'(by have := HLL.out; omega), List.getElem?_eq_getElem _⟩
          obtain ⟨b8, o8, c9, e8, zz8, x0, x1⟩ := ls_atO (owns_ls (E := EO) hrw) hz
          simp only [Value.slice.injEq, Option.some.injEq, Addr.mk.injEq] at e8
          obtain ⟨⟨rfl, rfl, -⟩, -, rfl⟩ := e8
          simp only [Nat.zero_add] at x0 x1
          have fr := hrw.frozenAt
          have OE : Hid (((wr.setCell ⟨g, j * 2, none⟩ (.int .i64 (mkI i j))).setCell ⟨g, j * 2 + 1, none⟩ (.int .u64 0)).ownsRow B 78 2 (.slice (some ⟨g, 0, none⟩) LL.length vc) (LL.set j (fO (mkI i j))).length (fl EO (LL.set j (fO (mkI i j)))) ∧ Kp (fun k => k = g) wr ((wr.setCell ⟨g, j * 2, none⟩ (.int .i64 (mkI i j))).setCell ⟨g, j * 2 + 1, none⟩ (.int .u64 0))) := owns_elem EO hrw j (fO (mkI i j)) (by have := HLL.out; omega)
          have NB : Hid (Bk B ((wr.setCell ⟨g, j * 2, none⟩ (.int .i64 (mkI i j))).setCell ⟨g, j * 2 + 1, none⟩ (.int .u64 0)) kb ⟨some ⟨b1, o1, none⟩, mO, kO⟩ ⟨qC, mC, kC⟩ ⟨qN, mN, kN⟩ ⟨qD, mD, kD⟩ vO ((mkd fO lO i).set i (mksF fO i (j + 1) ++ l.drop (j + 1))) vC lC vN lN vD lD ∧ Kp (fun k => B ≤ k) w ((wr.setCell ⟨g, j * 2, none⟩ (.int .i64 (mkI i j))).setCell ⟨g, j * 2 + 1, none⟩ (.int .u64 0))) := by
            have h := HJ.out.1.markO (l' := mksF fO i (j + 1) ++ l.drop (j + 1)) HVL.out.1 (by have h := OE.out.1; rw [HL2.out] at h; exact h) (OE.out.2.mono (fun k e => by rw [e]; rfl))
            rw [List.set_set] at h
            exact ⟨h, HJ.out.2.trans OE.out.2 (fun k _ e => by rw [e]; exact (owns_rd hrw g rfl).1)⟩
          have hmk := fun W => mark_any i j (by omega) (by omega) W
          clear hrw hgi hz hLL OE
          generalize LL.length = ll at *
          go_wp2_with fail
          refine (hmk _).mono ?_
          rintro r w9 ⟨rfl, rfl⟩
          go_wp2_with fail
          generalize ((w9.setCell ⟨g, j * 2, none⟩ (.int .i64 (mkI i j))).setCell ⟨g, j * 2 + 1, none⟩ (.int .u64 0)) = wz at NB ⊢
          clear fr hmk x0 x1 zz8
          go_wp2_with fail
          go_roundw
          case rel => exact ⟨j + 1, by omega, by go_num, NB.out⟩
          case measure => simp [RowKit.intOf]; omega
        · have hjz : ¬ (j : Int) < (vm : Int) := by have := HVM.out; omega
          have FIN : Hid (Bk B wr kb ⟨some ⟨b1, o1, none⟩, mO, kO⟩ ⟨qC, mC, kC⟩ ⟨qN, mN, kN⟩ ⟨qD, mD, kD⟩ vO (mkd fO lO (i + 1)) vC lC vN lN vD lD ∧ Kp (fun k => B ≤ k) w wr) := by
            have h := HJ.out
            rw [show j = l.length by omega, List.drop_length, List.append_nil, mkd_succ fO HVL.out.2.1] at h
            exact h
          go_wp2_with fail
          go_roundw
          case rel => exact ⟨i + 1, by omega, by go_num, FIN.out⟩
          case measure => simp [RowKit.intOf]; omega
    · have hltz : ¬ (i : Int) < (mO : Int) := by omega
      have P0 : Hid (Bk B wr kb ⟨qO, mO, kO⟩ ⟨qC, mC, kC⟩ ⟨qN, mN, kN⟩ ⟨qD, mD, kD⟩ vO (mkd fO lO lO.length) vC lC vN lN vD lD ∧ Kp (fun k => B ≤ k) w wr) := by
        have h := HI.out
        have h2 : mO = vO.length := (owns_caps h.1.rO _ _ _ rfl).1
        have h3 := h.1.fO.len
        rw [mkd_len] at h3
        rw [show i = lO.length by omega] at h
        exact h
      clear HI
      have cb := (tk_store P0.out.1.blk).1
      simp only [LV.v] at cb
      have lb := tk_lt P0.out.1.blk
      go_upto_region 10 with fail
      clear cb lb
      go_loopw [51] (fun s wr => ∃ i : Nat, i ≤ mC ∧ s = .int .i64 (i : Nat) ∧ Hid (Bk B wr kb ⟨qO, mO, kO⟩ ⟨qC, mC, kC⟩ ⟨qN, mN, kN⟩ ⟨qD, mD, kD⟩ vO (mkd fO lO lO.length) vC (mkd fC lC i) vN lN vD lD ∧ Kp (fun k => B ≤ k) w wr)) (fun s _ => mC - (RowKit.intOf s).toNat)
      case atStart => exact ⟨0, Nat.zero_le _, rfl, by rw [mkd_zero]; exact P0.out⟩
      case round =>
        clear P0
        obtain ⟨i, hi, rfl, HI⟩ := hrel
        by_cases hlt : i < mC
        · have hltz : (i : Int) < (mC : Int) := by omega
          have hi0 : (0 : Int) ≤ (i : Int) := by omega
          have hcm : mC = vC.length := (owns_caps HI.out.1.rC _ _ _ rfl).1
          obtain ⟨v, hv⟩ : ∃ v, vC[i]? = some v := ⟨vC[i]'(by omega), List.getElem?_eq_getElem (by omega)⟩
          obtain ⟨l, hl⟩ : ∃ l, lC[i]? = some l := ⟨lC[i]'(by have := HI.out.1.fC.len; rw [mkd_len] at this; omega), List.getElem?_eq_getElem _⟩
          have hsl : l.length ≤ 1000 := HSC.out.2 l (List.mem_of_getElem? hl)
          have hil : i ≤ 1000 := by have := HSC.out.1; have := (List.getElem?_eq_some_iff.1 hl).1; omega
          obtain ⟨b1, o1, q1, e1, zz1, y0⟩ := ls_atL (owns_ls (E := EL) HI.out.1.rC) hv
          simp only [LV.v, Value.slice.injEq] at e1
          have hvm : v.m = l.length := (owns_caps (HI.out.1.fC.each i v l hv (mkd_get fC hl)) _ _ _ rfl).1
          have HVL : Hid (vC[i]? = some v ∧ lC[i]? = some l ∧ v.m = l.length) := ⟨hv, hl, hvm⟩
          obtain ⟨rfl, -, rfl⟩ := e1
          clear hv hl hvm hcm
          have I0 : Hid (Bk B wr kb ⟨qO, mO, kO⟩ ⟨some ⟨b1, o1, none⟩, mC, kC⟩ ⟨qN, mN, kN⟩ ⟨qD, mD, kD⟩ vO (mkd fO lO lO.length) vC ((mkd fC lC i).set i l) vN lN vD lD ∧ Kp (fun k => B ≤ k) w wr) := by
            have h := HI.out
            rw [← set_eq_same (mkd_get fC HVL.out.2.1)] at h
            exact h
          obtain ⟨vq, vm, vc⟩ := v
          simp only [LV.v] at y0
          go_upto_region 13 with fail
          clear y0 zz1
          go_loopw [58] (fun s wr => ∃ j : Nat, j ≤ l.length ∧ s = .int .i64 (j : Nat) ∧ Hid (Bk B wr kb ⟨qO, mO, kO⟩ ⟨some ⟨b1, o1, none⟩, mC, kC⟩ ⟨qN, mN, kN⟩ ⟨qD, mD, kD⟩ vO (mkd fO lO lO.length) vC ((mkd fC lC i).set i (mksF fC i j ++ l.drop j)) vN lN vD lD ∧ Kp (fun k => B ≤ k) w wr)) (fun s _ => l.length - (RowKit.intOf s).toNat)
          case atStart => exact ⟨0, Nat.zero_le _, rfl, by rw [mks0]; exact I0.out⟩
          case round =>
            clear I0 HI
            obtain ⟨j, hj, rfl, HJ⟩ := hrel
            have HVM : Hid (vm = l.length) := HVL.out.2.2
            by_cases hjl : j < l.length
            · have hjz : (j : Int) < (vm : Int) := by have := HVM.out; omega
              have hj0 : (0 : Int) ≤ (j : Int) := by omega
              have HLL : Hid ((mksF fC i j ++ l.drop j).length = l.length) := by show _ = _; rw [List.length_append, mksF_len, List.length_drop]; omega
              have hgi : ((mkd fC lC i).set i (mksF fC i j ++ l.drop j))[i]? = some (mksF fC i j ++ l.drop j) := by
                rw [List.getElem?_set_self (by rw [mkd_len]; exact (List.getElem?_eq_some_iff.1 HVL.out.2.1).1)]
              have hrw := HJ.out.1.fC.each i ⟨vq, vm, vc⟩ _ HVL.out.1 hgi
              obtain ⟨LL, hLL⟩ : ∃ L, L = mksF fC i j ++ l.drop j := ⟨_, rfl⟩
              rw [← hLL] at hrw HLL
              have HL2 : Hid (LL.set j (fC (mkI i j)) = mksF fC i (j + 1) ++ l.drop (j + 1)) := by rw [hLL]; exact mark_step fC hjl
              obtain ⟨g, c8, hg⟩ := owns_at0 hrw (j := j) (by have := HLL.out; omega)
              simp only [Value.slice.injEq] at hg
              obtain ⟨rfl, rfl, rfl⟩ := hg
              obtain ⟨z, hz⟩ : ∃ z, LL[j]? = some z := ⟨LL[j]'(by have := HLL.out; omega), List.getElem?_eq_getElem _⟩
              obtain ⟨b8, o8, c9, e8, zz8, x0, x1, x2, x3, x4⟩ := ls_atC (owns_ls (E := EC) hrw) hz
              simp only [Value.slice.injEq, Option.some.injEq, Addr.mk.injEq] at e8
              obtain ⟨⟨rfl, rfl, -⟩, -, rfl⟩ := e8
              simp only [Nat.zero_add] at x0 x1 x2 x3 x4
              have fr := hrw.frozenAt
              have OE : Hid ((((((wr.setCell ⟨g, j * 5, none⟩ (.int .i64 (mkI i j))).setCell ⟨g, j * 5 + 1, none⟩ (.int .i64 0)).setCell ⟨g, j * 5 + 2, none⟩ (.int .u64 0)).setCell ⟨g, j * 5 + 3, none⟩ (.int .u64 0)).setCell ⟨g, j * 5 + 4, none⟩ (.int .u64 0)).ownsRow B 80 5 (.slice (some ⟨g, 0, none⟩) LL.length vc) (LL.set j (fC (mkI i j))).length (fl EC (LL.set j (fC (mkI i j)))) ∧ Kp (fun k => k = g) wr (((((wr.setCell ⟨g, j * 5, none⟩ (.int .i64 (mkI i j))).setCell ⟨g, j * 5 + 1, none⟩ (.int .i64 0)).setCell ⟨g, j * 5 + 2, none⟩ (.int .u64 0)).setCell ⟨g, j * 5 + 3, none⟩ (.int .u64 0)).setCell ⟨g, j * 5 + 4, none⟩ (.int .u64 0))) := owns_elem EC hrw j (fC (mkI i j)) (by have := HLL.out; omega)
              have NB : Hid (Bk B (((((wr.setCell ⟨g, j * 5, none⟩ (.int .i64 (mkI i j))).setCell ⟨g, j * 5 + 1, none⟩ (.int .i64 0)).setCell ⟨g, j * 5 + 2, none⟩ (.int .u64 0)).setCell ⟨g, j * 5 + 3, none⟩ (.int .u64 0)).setCell ⟨g, j * 5 + 4, none⟩ (.int .u64 0)) kb ⟨qO, mO, kO⟩ ⟨some ⟨b1, o1, none⟩, mC, kC⟩ ⟨qN, mN, kN⟩ ⟨qD, mD, kD⟩ vO (mkd fO lO lO.length) vC ((mkd fC lC i).set i (mksF fC i (j + 1) ++ l.drop (j + 1))) vN lN vD lD ∧ Kp (fun k => B ≤ k) w (((((wr.setCell ⟨g, j * 5, none⟩ (.int .i64 (mkI i j))).setCell ⟨g, j * 5 + 1, none⟩ (.int .i64 0)).setCell ⟨g, j * 5 + 2, none⟩ (.int .u64 0)).setCell ⟨g, j * 5 + 3, none⟩ (.int .u64 0)).setCell ⟨g, j * 5 + 4, none⟩ (.int .u64 0))) := by
                have h := HJ.out.1.markC (l' := mksF fC i (j + 1) ++ l.drop (j + 1)) HVL.out.1 (by have h := OE.out.1; rw [HL2.out] at h; exact h) (OE.out.2.mono (fun k e => by rw [e]; rfl))
                rw [List.set_set] at h
                exact ⟨h, HJ.out.2.trans OE.out.2 (fun k _ e => by rw [e]; exact (owns_rd hrw g rfl).1)⟩
              have hmk := fun W => mark_any i j (by omega) (by omega) W
              clear hrw hgi hz hLL OE
              generalize LL.length = ll at *
              go_wp2_with fail
              refine (hmk _).mono ?_
              rintro r w9 ⟨rfl, rfl⟩
              go_wp2_with fail
              generalize (((((w9.setCell ⟨g, j * 5, none⟩ (.int .i64 (mkI i j))).setCell ⟨g, j * 5 + 1, none⟩ (.int .i64 0)).setCell ⟨g, j * 5 + 2, none⟩ (.int .u64 0)).setCell ⟨g, j * 5 + 3, none⟩ (.int .u64 0)).setCell ⟨g, j * 5 + 4, none⟩ (.int .u64 0)) = wz at NB ⊢
              clear fr hmk x0 x1 x2 x3 x4 zz8
              go_wp2_with fail
              go_roundw
              case rel => exact ⟨j + 1, by omega, by go_num, NB.out⟩
              case measure => simp [RowKit.intOf]; omega
            · have hjz : ¬ (j : Int) < (vm : Int) := by have := HVM.out; omega
              have FIN : Hid (Bk B wr kb ⟨qO, mO, kO⟩ ⟨some ⟨b1, o1, none⟩, mC, kC⟩ ⟨qN, mN, kN⟩ ⟨qD, mD, kD⟩ vO (mkd fO lO lO.length) vC (mkd fC lC (i + 1)) vN lN vD lD ∧ Kp (fun k => B ≤ k) w wr) := by
                have h := HJ.out
                rw [show j = l.length by omega, List.drop_length, List.append_nil, mkd_succ fC HVL.out.2.1] at h
                exact h
              go_wp2_with fail
              go_roundw
              case rel => exact ⟨i + 1, by omega, by go_num, FIN.out⟩
              case measure => simp [RowKit.intOf]; omega
        · have hltz : ¬ (i : Int) < (mC : Int) := by omega
          have P1 : Hid (Bk B wr kb ⟨qO, mO, kO⟩ ⟨qC, mC, kC⟩ ⟨qN, mN, kN⟩ ⟨qD, mD, kD⟩ vO (mkd fO lO lO.length) vC (mkd fC lC lC.length) vN lN vD lD ∧ Kp (fun k => B ≤ k) w wr) := by
            have h := HI.out
            have h2 : mC = vC.length := (owns_caps h.1.rC _ _ _ rfl).1
            have h3 := h.1.fC.len
            rw [mkd_len] at h3
            rw [show i = lC.length by omega] at h
            exact h
          clear HI
          have cb := (tk_store P1.out.1.blk).1
          simp only [LV.v] at cb
          have lb := tk_lt P1.out.1.blk
          go_upto_region 19 with fail
          clear cb lb
          go_loopw [75] (fun s wr => ∃ i : Nat, i ≤ mN ∧ s = .int .i64 (i : Nat) ∧ Hid (Bk B wr kb ⟨qO, mO, kO⟩ ⟨qC, mC, kC⟩ ⟨qN, mN, kN⟩ ⟨qD, mD, kD⟩ vO (mkd fO lO lO.length) vC (mkd fC lC lC.length) vN (mkd fN lN i) vD lD ∧ Kp (fun k => B ≤ k) w wr)) (fun s _ => mN - (RowKit.intOf s).toNat)
          case atStart => exact ⟨0, Nat.zero_le _, rfl, by rw [mkd_zero]; exact P1.out⟩
          case round =>
            clear P1
            obtain ⟨i, hi, rfl, HI⟩ := hrel
            by_cases hlt : i < mN
            · have hltz : (i : Int) < (mN : Int) := by omega
              have hi0 : (0 : Int) ≤ (i : Int) := by omega
              have hcm : mN = vN.length := (owns_caps HI.out.1.rN _ _ _ rfl).1
              obtain ⟨v, hv⟩ : ∃ v, vN[i]? = some v := ⟨vN[i]'(by omega), List.getElem?_eq_getElem (by omega)⟩
              obtain ⟨l, hl⟩ : ∃ l, lN[i]? = some l := ⟨lN[i]'(by have := HI.out.1.fN.len; rw [mkd_len] at this; omega), List.getElem?_eq_getElem _⟩
              have hsl : l.length ≤ 1000 := HSN.out.2 l (List.mem_of_getElem? hl)
              have hil : i ≤ 1000 := by have := HSN.out.1; have := (List.getElem?_eq_some_iff.1 hl).1; omega
              obtain ⟨b1, o1, q1, e1, zz1, y0⟩ := ls_atL (owns_ls (E := EL) HI.out.1.rN) hv
              simp only [LV.v, Value.slice.injEq] at e1
              have hvm : v.m = l.length := (owns_caps (HI.out.1.fN.each i v l hv (mkd_get fN hl)) _ _ _ rfl).1
              have HVL : Hid (vN[i]? = some v ∧ lN[i]? = some l ∧ v.m = l.length) := ⟨hv, hl, hvm⟩
              obtain ⟨rfl, -, rfl⟩ := e1
              clear hv hl hvm hcm
              have I0 : Hid (Bk B wr kb ⟨qO, mO, kO⟩ ⟨qC, mC, kC⟩ ⟨some ⟨b1, o1, none⟩, mN, kN⟩ ⟨qD, mD, kD⟩ vO (mkd fO lO lO.length) vC (mkd fC lC lC.length) vN ((mkd fN lN i).set i l) vD lD ∧ Kp (fun k => B ≤ k) w wr) := by
                have h := HI.out
                rw [← set_eq_same (mkd_get fN HVL.out.2.1)] at h
                exact h
              obtain ⟨vq, vm, vc⟩ := v
              simp only [LV.v] at y0
              go_upto_region 22 with fail
              clear y0 zz1
              go_loopw [82] (fun s wr => ∃ j : Nat, j ≤ l.length ∧ s = .int .i64 (j : Nat) ∧ Hid (Bk B wr kb ⟨qO, mO, kO⟩ ⟨qC, mC, kC⟩ ⟨some ⟨b1, o1, none⟩, mN, kN⟩ ⟨qD, mD, kD⟩ vO (mkd fO lO lO.length) vC (mkd fC lC lC.length) vN ((mkd fN lN i).set i (mksF fN i j ++ l.drop j)) vD lD ∧ Kp (fun k => B ≤ k) w wr)) (fun s _ => l.length - (RowKit.intOf s).toNat)
              case atStart => exact ⟨0, Nat.zero_le _, rfl, by rw [mks0]; exact I0.out⟩
              case round =>
                clear I0 HI
                obtain ⟨j, hj, rfl, HJ⟩ := hrel
                have HVM : Hid (vm = l.length) := HVL.out.2.2
                by_cases hjl : j < l.length
                · have hjz : (j : Int) < (vm : Int) := by have := HVM.out; omega
                  have hj0 : (0 : Int) ≤ (j : Int) := by omega
                  have HLL : Hid ((mksF fN i j ++ l.drop j).length = l.length) := by show _ = _; rw [List.length_append, mksF_len, List.length_drop]; omega
                  have hgi : ((mkd fN lN i).set i (mksF fN i j ++ l.drop j))[i]? = some (mksF fN i j ++ l.drop j) := by
                    rw [List.getElem?_set_self (by rw [mkd_len]; exact (List.getElem?_eq_some_iff.1 HVL.out.2.1).1)]
                  have hrw := HJ.out.1.fN.each i ⟨vq, vm, vc⟩ _ HVL.out.1 hgi
                  obtain ⟨LL, hLL⟩ : ∃ L, L = mksF fN i j ++ l.drop j := ⟨_, rfl⟩
                  rw [← hLL] at hrw HLL
                  have HL2 : Hid (LL.set j (fN (mkI i j)) = mksF fN i (j + 1) ++ l.drop (j + 1)) := by rw [hLL]; exact mark_step fN hjl
                  obtain ⟨g, c8, hg⟩ := owns_at0 hrw (j := j) (by have := HLL.out; omega)
                  simp only [Value.slice.injEq] at hg
                  obtain ⟨rfl, rfl, rfl⟩ := hg
                  obtain ⟨z, hz⟩ : ∃ z, LL[j]? = some z := ⟨LL[j]'(by have := HLL.out; omega), List.getElem?_eq_getElem _⟩
                  obtain ⟨b8, o8, c9, e8, zz8, x0, x1, x2, x3, x4, x5, x6, x7, x8, x9⟩ := ls_atV (owns_ls (E := EV) hrw) hz
                  simp only [Value.slice.injEq, Option.some.injEq, Addr.mk.injEq] at e8
                  obtain ⟨⟨rfl, rfl, -⟩, -, rfl⟩ := e8
                  simp only [Nat.zero_add] at x0 x1 x2 x3 x4 x5 x6 x7 x8 x9
                  have fr := hrw.frozenAt
                  have OE : Hid (((((((((((wr.setCell ⟨g, j * 10, none⟩ (.int .i64 (mkI i j))).setCell ⟨g, j * 10 + 1, none⟩ (.int .i64 0)).setCell ⟨g, j * 10 + 2, none⟩ (.int .i64 0)).setCell ⟨g, j * 10 + 3, none⟩ (.slice none 0 0)).setCell ⟨g, j * 10 + 4, none⟩ (.int .u64 0)).setCell ⟨g, j * 10 + 5, none⟩ (.int .u64 0)).setCell ⟨g, j * 10 + 6, none⟩ (.int .u64 0)).setCell ⟨g, j * 10 + 7, none⟩ (.int .u64 0)).setCell ⟨g, j * 10 + 8, none⟩ (.slice none 0 0)).setCell ⟨g, j * 10 + 9, none⟩ (.bool false)).ownsRow B 67 10 (.slice (some ⟨g, 0, none⟩) LL.length vc) (LL.set j (fN (mkI i j))).length (fl EV (LL.set j (fN (mkI i j)))) ∧ Kp (fun k => k = g) wr ((((((((((wr.setCell ⟨g, j * 10, none⟩ (.int .i64 (mkI i j))).setCell ⟨g, j * 10 + 1, none⟩ (.int .i64 0)).setCell ⟨g, j * 10 + 2, none⟩ (.int .i64 0)).setCell ⟨g, j * 10 + 3, none⟩ (.slice none 0 0)).setCell ⟨g, j * 10 + 4, none⟩ (.int .u64 0)).setCell ⟨g, j * 10 + 5, none⟩ (.int .u64 0)).setCell ⟨g, j * 10 + 6, none⟩ (.int .u64 0)).setCell ⟨g, j * 10 + 7, none⟩ (.int .u64 0)).setCell ⟨g, j * 10 + 8, none⟩ (.slice none 0 0)).setCell ⟨g, j * 10 + 9, none⟩ (.bool false))) := owns_elem EV hrw j (fN (mkI i j)) (by have := HLL.out; omega)
                  have NB : Hid (Bk B ((((((((((wr.setCell ⟨g, j * 10, none⟩ (.int .i64 (mkI i j))).setCell ⟨g, j * 10 + 1, none⟩ (.int .i64 0)).setCell ⟨g, j * 10 + 2, none⟩ (.int .i64 0)).setCell ⟨g, j * 10 + 3, none⟩ (.slice none 0 0)).setCell ⟨g, j * 10 + 4, none⟩ (.int .u64 0)).setCell ⟨g, j * 10 + 5, none⟩ (.int .u64 0)).setCell ⟨g, j * 10 + 6, none⟩ (.int .u64 0)).setCell ⟨g, j * 10 + 7, none⟩ (.int .u64 0)).setCell ⟨g, j * 10 + 8, none⟩ (.slice none 0 0)).setCell ⟨g, j * 10 + 9, none⟩ (.bool false)) kb ⟨qO, mO, kO⟩ ⟨qC, mC, kC⟩ ⟨some ⟨b1, o1, none⟩, mN, kN⟩ ⟨qD, mD, kD⟩ vO (mkd fO lO lO.length) vC (mkd fC lC lC.length) vN ((mkd fN lN i).set i (mksF fN i (j + 1) ++ l.drop (j + 1))) vD lD ∧ Kp (fun k => B ≤ k) w ((((((((((wr.setCell ⟨g, j * 10, none⟩ (.int .i64 (mkI i j))).setCell ⟨g, j * 10 + 1, none⟩ (.int .i64 0)).setCell ⟨g, j * 10 + 2, none⟩ (.int .i64 0)).setCell ⟨g, j * 10 + 3, none⟩ (.slice none 0 0)).setCell ⟨g, j * 10 + 4, none⟩ (.int .u64 0)).setCell ⟨g, j * 10 + 5, none⟩ (.int .u64 0)).setCell ⟨g, j * 10 + 6, none⟩ (.int .u64 0)).setCell ⟨g, j * 10 + 7, none⟩ (.int .u64 0)).setCell ⟨g, j * 10 + 8, none⟩ (.slice none 0 0)).setCell ⟨g, j * 10 + 9, none⟩ (.bool false))) := by
                    have h := HJ.out.1.markN (l' := mksF fN i (j + 1) ++ l.drop (j + 1)) HVL.out.1 (by have h := OE.out.1; rw [HL2.out] at h; exact h) (OE.out.2.mono (fun k e => by rw [e]; rfl))
                    rw [List.set_set] at h
                    exact ⟨h, HJ.out.2.trans OE.out.2 (fun k _ e => by rw [e]; exact (owns_rd hrw g rfl).1)⟩
                  have hmk := fun W => mark_any i j (by omega) (by omega) W
                  clear hrw hgi hz hLL OE
                  generalize LL.length = ll at *
                  go_wp2_with fail
                  refine (hmk _).mono ?_
                  rintro r w9 ⟨rfl, rfl⟩
                  go_wp2_with fail
                  generalize ((((((((((w9.setCell ⟨g, j * 10, none⟩ (.int .i64 (mkI i j))).setCell ⟨g, j * 10 + 1, none⟩ (.int .i64 0)).setCell ⟨g, j * 10 + 2, none⟩ (.int .i64 0)).setCell ⟨g, j * 10 + 3, none⟩ (.slice none 0 0)).setCell ⟨g, j * 10 + 4, none⟩ (.int .u64 0)).setCell ⟨g, j * 10 + 5, none⟩ (.int .u64 0)).setCell ⟨g, j * 10 + 6, none⟩ (.int .u64 0)).setCell ⟨g, j * 10 + 7, none⟩ (.int .u64 0)).setCell ⟨g, j * 10 + 8, none⟩ (.slice none 0 0)).setCell ⟨g, j * 10 + 9, none⟩ (.bool false)) = wz at NB ⊢
                  clear fr hmk x0 x1 x2 x3 x4 x5 x6 x7 x8 x9 zz8
                  go_wp2_with fail
                  go_roundw
                  case rel => exact ⟨j + 1, by omega, by go_num, NB.out⟩
                  case measure => simp [RowKit.intOf]; omega
                · have hjz : ¬ (j : Int) < (vm : Int) := by have := HVM.out; omega
                  have FIN : Hid (Bk B wr kb ⟨qO, mO, kO⟩ ⟨qC, mC, kC⟩ ⟨some ⟨b1, o1, none⟩, mN, kN⟩ ⟨qD, mD, kD⟩ vO (mkd fO lO lO.length) vC (mkd fC lC lC.length) vN (mkd fN lN (i + 1)) vD lD ∧ Kp (fun k => B ≤ k) w wr) := by
                    have h := HJ.out
                    rw [show j = l.length by omega, List.drop_length, List.append_nil, mkd_succ fN HVL.out.2.1] at h
                    exact h
                  go_wp2_with fail
                  go_roundw
                  case rel => exact ⟨i + 1, by omega, by go_num, FIN.out⟩
                  case measure => simp [RowKit.intOf]; omega
            · have hltz : ¬ (i : Int) < (mN : Int) := by omega
              have P2 : Hid (Bk B wr kb ⟨qO, mO, kO⟩ ⟨qC, mC, kC⟩ ⟨qN, mN, kN⟩ ⟨qD, mD, kD⟩ vO (mkd fO lO lO.length) vC (mkd fC lC lC.length) vN (mkd fN lN lN.length) vD lD ∧ Kp (fun k => B ≤ k) w wr) := by
                have h := HI.out
                have h2 : mN = vN.length := (owns_caps h.1.rN _ _ _ rfl).1
                have h3 := h.1.fN.len
                rw [mkd_len] at h3
                rw [show i = lN.length by omega] at h
                exact h
              clear HI
              have cb := (tk_store P2.out.1.blk).1
              simp only [LV.v] at cb
              have lb := tk_lt P2.out.1.blk
              go_upto_region 28 with fail
              clear cb lb
              go_loopw [99] (fun s wr => ∃ i : Nat, i ≤ mD ∧ s = .int .i64 (i : Nat) ∧ Hid (Bk B wr kb ⟨qO, mO, kO⟩ ⟨qC, mC, kC⟩ ⟨qN, mN, kN⟩ ⟨qD, mD, kD⟩ vO (mkd fO lO lO.length) vC (mkd fC lC lC.length) vN (mkd fN lN lN.length) vD (mkd fD lD i) ∧ Kp (fun k => B ≤ k) w wr)) (fun s _ => mD - (RowKit.intOf s).toNat)
              case atStart => exact ⟨0, Nat.zero_le _, rfl, by rw [mkd_zero]; exact P2.out⟩
              case round =>
                clear P2
                obtain ⟨i, hi, rfl, HI⟩ := hrel
                by_cases hlt : i < mD
                · have hltz : (i : Int) < (mD : Int) := by omega
                  have hi0 : (0 : Int) ≤ (i : Int) := by omega
                  have hcm : mD = vD.length := (owns_caps HI.out.1.rD _ _ _ rfl).1
                  obtain ⟨v, hv⟩ : ∃ v, vD[i]? = some v := ⟨vD[i]'(by omega), List.getElem?_eq_getElem (by omega)⟩
                  obtain ⟨l, hl⟩ : ∃ l, lD[i]? = some l := ⟨lD[i]'(by have := HI.out.1.fD.len; rw [mkd_len] at this; omega), List.getElem?_eq_getElem _⟩
                  have hsl : l.length ≤ 1000 := HSD.out.2 l (List.mem_of_getElem? hl)
                  have hil : i ≤ 1000 := by have := HSD.out.1; have := (List.getElem?_eq_some_iff.1 hl).1; omega
                  obtain ⟨b1, o1, q1, e1, zz1, y0⟩ := ls_atL (owns_ls (E := EL) HI.out.1.rD) hv
                  simp only [LV.v, Value.slice.injEq] at e1
                  have hvm : v.m = l.length := (owns_caps (HI.out.1.fD.each i v l hv (mkd_get fD hl)) _ _ _ rfl).1
                  have HVL : Hid (vD[i]? = some v ∧ lD[i]? = some l ∧ v.m = l.length) := ⟨hv, hl, hvm⟩
                  obtain ⟨rfl, -, rfl⟩ := e1
                  clear hv hl hvm hcm
                  have I0 : Hid (Bk B wr kb ⟨qO, mO, kO⟩ ⟨qC, mC, kC⟩ ⟨qN, mN, kN⟩ ⟨some ⟨b1, o1, none⟩, mD, kD⟩ vO (mkd fO lO lO.length) vC (mkd fC lC lC.length) vN (mkd fN lN lN.length) vD ((mkd fD lD i).set i l) ∧ Kp (fun k => B ≤ k) w wr) := by
                    have h := HI.out
                    rw [← set_eq_same (mkd_get fD HVL.out.2.1)] at h
                    exact h
                  obtain ⟨vq, vm, vc⟩ := v
                  simp only [LV.v] at y0
                  go_upto_region 31 with fail
                  clear y0 zz1
                  go_loopw [106] (fun s wr => ∃ j : Nat, j ≤ l.length ∧ s = .int .i64 (j : Nat) ∧ Hid (Bk B wr kb ⟨qO, mO, kO⟩ ⟨qC, mC, kC⟩ ⟨qN, mN, kN⟩ ⟨some ⟨b1, o1, none⟩, mD, kD⟩ vO (mkd fO lO lO.length) vC (mkd fC lC lC.length) vN (mkd fN lN lN.length) vD ((mkd fD lD i).set i (mksF fD i j ++ l.drop j)) ∧ Kp (fun k => B ≤ k) w wr)) (fun s _ => l.length - (RowKit.intOf s).toNat)
                  case atStart => exact ⟨0, Nat.zero_le _, rfl, by rw [mks0]; exact I0.out⟩
                  case round =>
                    clear I0 HI
                    obtain ⟨j, hj, rfl, HJ⟩ := hrel
                    have HVM : Hid (vm = l.length) := HVL.out.2.2
                    by_cases hjl : j < l.length
                    · have hjz : (j : Int) < (vm : Int) := by have := HVM.out; omega
                      have hj0 : (0 : Int) ≤ (j : Int) := by omega
                      have HLL : Hid ((mksF fD i j ++ l.drop j).length = l.length) := by show _ = _; rw [List.length_append, mksF_len, List.length_drop]; omega
                      have hgi : ((mkd fD lD i).set i (mksF fD i j ++ l.drop j))[i]? = some (mksF fD i j ++ l.drop j) := by
                        rw [List.getElem?_set_self (by rw [mkd_len]; exact (List.getElem?_eq_some_iff.1 HVL.out.2.1).1)]
                      have hrw := HJ.out.1.fD.each i ⟨vq, vm, vc⟩ _ HVL.out.1 hgi
                      obtain ⟨LL, hLL⟩ : ∃ L, L = mksF fD i j ++ l.drop j := ⟨_, rfl⟩
                      rw [← hLL] at hrw HLL
                      have HL2 : Hid (LL.set j (fD (mkI i j)) = mksF fD i (j + 1) ++ l.drop (j + 1)) := by rw [hLL]; exact mark_step fD hjl
                      obtain ⟨g, c8, hg⟩ := owns_at0 hrw (j := j) (by have := HLL.out; omega)
                      simp only [Value.slice.injEq] at hg
                      obtain ⟨rfl, rfl, rfl⟩ := hg
                      obtain ⟨z, hz⟩ : ∃ z, LL[j]? = some z := ⟨LL[j]'(by have := HLL.out; omega), List.getElem?_eq_getElem _⟩
                      obtain ⟨b8, o8, c9, e8, zz8, x0, x1, x2, x3, x4⟩ := ls_atD (owns_ls (E := ED) hrw) hz
                      simp only [Value.slice.injEq, Option.some.injEq, Addr.mk.injEq] at e8
                      obtain ⟨⟨rfl, rfl, -⟩, -, rfl⟩ := e8
                      simp only [Nat.zero_add] at x0 x1 x2 x3 x4
                      have fr := hrw.frozenAt
                      have OE : Hid ((((((wr.setCell ⟨g, j * 5, none⟩ (.int .i64 (mkI i j))).setCell ⟨g, j * 5 + 1, none⟩ (.int .i64 0)).setCell ⟨g, j * 5 + 2, none⟩ (.int .i64 0)).setCell ⟨g, j * 5 + 3, none⟩ (.int .i64 0)).setCell ⟨g, j * 5 + 4, none⟩ (.bool false)).ownsRow B 69 5 (.slice (some ⟨g, 0, none⟩) LL.length vc) (LL.set j (fD (mkI i j))).length (fl ED (LL.set j (fD (mkI i j)))) ∧ Kp (fun k => k = g) wr (((((wr.setCell ⟨g, j * 5, none⟩ (.int .i64 (mkI i j))).setCell ⟨g, j * 5 + 1, none⟩ (.int .i64 0)).setCell ⟨g, j * 5 + 2, none⟩ (.int .i64 0)).setCell ⟨g, j * 5 + 3, none⟩ (.int .i64 0)).setCell ⟨g, j * 5 + 4, none⟩ (.bool false))) := owns_elem ED hrw j (fD (mkI i j)) (by have := HLL.out; omega)
                      have NB : Hid (Bk B (((((wr.setCell ⟨g, j * 5, none⟩ (.int .i64 (mkI i j))).setCell ⟨g, j * 5 + 1, none⟩ (.int .i64 0)).setCell ⟨g, j * 5 + 2, none⟩ (.int .i64 0)).setCell ⟨g, j * 5 + 3, none⟩ (.int .i64 0)).setCell ⟨g, j * 5 + 4, none⟩ (.bool false)) kb ⟨qO, mO, kO⟩ ⟨qC, mC, kC⟩ ⟨qN, mN, kN⟩ ⟨some ⟨b1, o1, none⟩, mD, kD⟩ vO (mkd fO lO lO.length) vC (mkd fC lC lC.length) vN (mkd fN lN lN.length) vD ((mkd fD lD i).set i (mksF fD i (j + 1) ++ l.drop (j + 1))) ∧ Kp (fun k => B ≤ k) w (((((wr.setCell ⟨g, j * 5, none⟩ (.int .i64 (mkI i j))).setCell ⟨g, j * 5 + 1, none⟩ (.int .i64 0)).setCell ⟨g, j * 5 + 2, none⟩ (.int .i64 0)).setCell ⟨g, j * 5 + 3, none⟩ (.int .i64 0)).setCell ⟨g, j * 5 + 4, none⟩ (.bool false))) := by
                        have h := HJ.out.1.markD (l' := mksF fD i (j + 1) ++ l.drop (j + 1)) HVL.out.1 (by have h := OE.out.1; rw [HL2.out] at h; exact h) (OE.out.2.mono (fun k e => by rw [e]; rfl))
                        rw [List.set_set] at h
                        exact ⟨h, HJ.out.2.trans OE.out.2 (fun k _ e => by rw [e]; exact (owns_rd hrw g rfl).1)⟩
                      have hmk := fun W => mark_any i j (by omega) (by omega) W
                      clear hrw hgi hz hLL OE
                      generalize LL.length = ll at *
                      go_wp2_with fail
                      refine (hmk _).mono ?_
                      rintro r w9 ⟨rfl, rfl⟩
                      go_wp2_with fail
                      generalize (((((w9.setCell ⟨g, j * 5, none⟩ (.int .i64 (mkI i j))).setCell ⟨g, j * 5 + 1, none⟩ (.int .i64 0)).setCell ⟨g, j * 5 + 2, none⟩ (.int .i64 0)).setCell ⟨g, j * 5 + 3, none⟩ (.int .i64 0)).setCell ⟨g, j * 5 + 4, none⟩ (.bool false)) = wz at NB ⊢
                      clear fr hmk x0 x1 x2 x3 x4 zz8
                      go_wp2_with fail
                      go_roundw
                      case rel => exact ⟨j + 1, by omega, by go_num, NB.out⟩
                      case measure => simp [RowKit.intOf]; omega
                    · have hjz : ¬ (j : Int) < (vm : Int) := by have := HVM.out; omega
                      have FIN : Hid (Bk B wr kb ⟨qO, mO, kO⟩ ⟨qC, mC, kC⟩ ⟨qN, mN, kN⟩ ⟨some ⟨b1, o1, none⟩, mD, kD⟩ vO (mkd fO lO lO.length) vC (mkd fC lC lC.length) vN (mkd fN lN lN.length) vD (mkd fD lD (i + 1)) ∧ Kp (fun k => B ≤ k) w wr) := by
                        have h := HJ.out
                        rw [show j = l.length by omega, List.drop_length, List.append_nil, mkd_succ fD HVL.out.2.1] at h
                        exact h
                      go_wp2_with fail
                      go_roundw
                      case rel => exact ⟨i + 1, by omega, by go_num, FIN.out⟩
                      case measure => simp [RowKit.intOf]; omega
                · have hltz : ¬ (i : Int) < (mD : Int) := by omega
                  have P3 : Hid (Bk B wr kb ⟨qO, mO, kO⟩ ⟨qC, mC, kC⟩ ⟨qN, mN, kN⟩ ⟨qD, mD, kD⟩ vO (mkd fO lO lO.length) vC (mkd fC lC lC.length) vN (mkd fN lN lN.length) vD (mkd fD lD lD.length) ∧ Kp (fun k => B ≤ k) w wr) := by
                    have h := HI.out
                    have h2 : mD = vD.length := (owns_caps h.1.rD _ _ _ rfl).1
                    have h3 := h.1.fD.len
                    rw [mkd_len] at h3
                    rw [show i = lD.length by omega] at h
                    exact h
                  clear HI
                  have cb := (tk_store P3.out.1.blk).1
                  simp only [LV.v] at cb
                  have lb := tk_lt P3.out.1.blk
                  go_upto_region 37 with fail
                  clear cb lb
                  go_loopw [123] (fun s wr => ∃ (i : Nat) (uu : List LV), i ≤ mO ∧ s = .int .i64 (i : Nat) ∧ Hid (Bk B wr kb ⟨qO, mO, kO⟩ ⟨qC, mC, kC⟩ ⟨qN, mN, kN⟩ ⟨qD, mD, kD⟩ uu (grwn fO lO i) vC (mkd fC lC lC.length) vN (mkd fN lN lN.length) vD (mkd fD lD lD.length) ∧ Kp (fun k => B ≤ k) w wr)) (fun s _ => mO - (RowKit.intOf s).toNat)
                  case atStart => exact ⟨0, vO, Nat.zero_le _, rfl, by rw [grwn_zero]; exact P3.out⟩
                  case round =>
                    clear P3
                    obtain ⟨i, uu, hi, rfl, HI⟩ := hrel
                    by_cases hlt : i < mO
                    · have hltz : (i : Int) < (mO : Int) := by omega
                      have hi0 : (0 : Int) ≤ (i : Int) := by omega
                      have hcm : mO = uu.length := (owns_caps HI.out.1.rO _ _ _ rfl).1
                      obtain ⟨v, hv⟩ : ∃ v, uu[i]? = some v := ⟨uu[i]'(by omega), List.getElem?_eq_getElem (by omega)⟩
                      obtain ⟨l, hl⟩ : ∃ l, lO[i]? = some l := ⟨lO[i]'(by
                        have h1 := HI.out.1.fO.len
                        have h2 : (grwn fO lO i).length = lO.length := by simp [grwn, mkd_len]; omega
                        omega), List.getElem?_eq_getElem _⟩
                      have hsl : l.length ≤ 1000 := HSO.out.2 l (List.mem_of_getElem? hl)
                      have hil : i ≤ 1000 := by have := HSO.out.1; have := (List.getElem?_eq_some_iff.1 hl).1; omega
                      have hrow := HI.out.1.fO.each i v _ hv (grwn_get fO hl)
                      have hvm : v.m = l.length := by
                        have := (owns_caps hrow _ _ _ rfl).1
                        rwa [mksF_len] at this
                      obtain ⟨cg, o1, cc, e1, zz1, y0⟩ := ls_atL (owns_ls (E := EL) HI.out.1.rO) hv
                      have ho1 : o1 = 0 := by
                        rcases HI.out.1.rO.2 with ⟨h0, _⟩ | ⟨g, cap, cur, h0, _⟩
                        · rw [e1] at h0; cases h0
                        · rw [e1] at h0
                          simp only [Value.slice.injEq, Option.some.injEq, Addr.mk.injEq] at h0
                          exact h0.1.2.1
                      subst ho1
                      rw [Nat.zero_add] at y0
                      simp only [LV.v, Value.slice.injEq] at e1
                      obtain ⟨rfl, -, rfl⟩ := e1
                      obtain ⟨vq, vm, vc⟩ := v
                      simp only at hvm
                      subst hvm
                      have HVL : Hid (uu[i]? = some ⟨vq, l.length, vc⟩ ∧ lO[i]? = some l ∧ mO = uu.length) := ⟨hv, hl, hcm⟩
                      have HRW : Hid (wr.ownsRow B 78 2 (.slice vq l.length vc) l.length (fl EO (mksF fO i l.length))) := owns_re hrow (mksF_len _ _ _) rfl
                      have hmk := fun W => mark_any i l.length (by omega) (by omega) W
                      have HBW : Hid (B ≤ wr.heap.size) := Nat.le_trans HI.out.1.low (Nat.le_of_lt (tk_lt HI.out.1.blk))
                      have frc := HI.out.1.rO
                      have FRC : Hid (wr.frozen? ⟨cg, i, none⟩ = false) := by
                        have h := HI.out.1.rO
                        have e : (LV.v ⟨some ⟨cg, 0, none⟩, mO, kO⟩) = .slice (some ⟨cg, 0, none⟩) uu.length kO := by rw [← hcm]
                        rw [e] at h
                        exact h.frozenAt i
                      clear hv hl hrow frc hcm
                      generalize hln : l.length = ln at *
                      have HLN := hid hln
                      clear hln
                      simp only [LV.v] at y0
                      go_upto_region 39 with fail
                      have hS0 : wr.drew.heap[kb]? = some (.cells #[LV.v ⟨some ⟨cg, 0, none⟩, mO, kO⟩, LV.v ⟨qC, mC, kC⟩, LV.v ⟨qN, mN, kN⟩, LV.v ⟨qD, mD, kD⟩] 43 (0, 0)) ∧ wr.drew.cell? ⟨cg, i, none⟩ = some (.slice vq ln vc) ∧ cg < wr.drew.heap.size := ⟨HI.out.1.blk, y0, zz1⟩
                      have HS0 := hid hS0
                      refine wp_regionD (S := fun W => W.heap[kb]? = some (.cells #[LV.v ⟨some ⟨cg, 0, none⟩, mO, kO⟩, LV.v ⟨qC, mC, kC⟩, LV.v ⟨qN, mN, kN⟩, LV.v ⟨qD, mD, kD⟩] 43 (0, 0)) ∧ W.cell? ⟨cg, i, none⟩ = some (.slice vq ln vc) ∧ cg < W.heap.size) (D := [14]) hmx ?_
                      refine' wpAnyD_take (i := 0) (oi := { dst := some 128, op := Go.Op.move (Go.Operand.tmp 0), type := 37, pos := "outright.go:129", after := #[], guard := none }) (v := _) rfl (by kernel_rfl) (by kernel_rfl) (by kernel_rfl) (fun _ _ _ h => h) (by kernel_rfl) (Or.inl ⟨by rfl, ?hy1⟩) hS0 ?rest1
                      case hy1 => (intro W hSw; go_simp; try (with_reducible rfl))
                      try simp only [Act.put, List.setIfInBounds_toArray, List.set_cons_zero, List.set_cons_succ]
                      refine' wpAnyD_take (i := 1) (oi := { dst := some 129, op := Go.Op.nilCheck (Go.Operand.tmp 128), type := 0, pos := "outright.go:129", after := #[{ on := 0, ground := Go.Ground.data }], guard := none }) (v := _) rfl (by kernel_rfl) (by kernel_rfl) (by kernel_rfl) (fun _ _ _ h => h) (by kernel_rfl) (Or.inl ⟨by rfl, ?hy2⟩) hS0 ?rest2
                      case hy2 => (intro W hSw; go_simp; try (with_reducible rfl))
                      try simp only [Act.put, List.setIfInBounds_toArray, List.set_cons_zero, List.set_cons_succ]
                      refine' wpAnyD_take (i := 2) (oi := { dst := some 130, op := Go.Op.fieldAddr 43 (Go.Operand.tmp 129) 0, type := 0, pos := "outright.go:129", after := #[{ on := 1, ground := Go.Ground.data }], guard := none }) (v := _) rfl (by kernel_rfl) (by kernel_rfl) (by kernel_rfl) (fun _ _ _ h => h) (by kernel_rfl) (Or.inl ⟨by rfl, ?hy3⟩) hS0 ?rest3
                      case hy3 => (intro W hSw; go_simp; try (with_reducible rfl))
                      try simp only [Act.put, List.setIfInBounds_toArray, List.set_cons_zero, List.set_cons_succ]
                      refine' wpAnyD_take (i := 3) (oi := { dst := some 131, op := Go.Op.load 38 (Go.Operand.tmp 130), type := 38, pos := "outright.go:129", after := #[{ on := 2, ground := Go.Ground.data }], guard := none }) (v := _) rfl (by kernel_rfl) (by kernel_rfl) (by kernel_rfl) (fun _ _ _ h => h) (by kernel_rfl) (Or.inl ⟨by rfl, ?hy4⟩) hS0 ?rest4
                      case hy4 => (intro W hSw; have hc := (tk_store hSw.1).1; simp only [LV.v] at hc; have hl := tk_lt hSw.1; go_simp; try (with_reducible rfl))
                      try simp only [Act.put, List.setIfInBounds_toArray, List.set_cons_zero, List.set_cons_succ]
                      refine' wpAnyD_take (i := 4) (oi := { dst := some 132, op := Go.Op.move (Go.Operand.tmp 14), type := 3, pos := "outright.go:129", after := #[], guard := none }) (v := _) rfl (by kernel_rfl) (by kernel_rfl) (by kernel_rfl) (fun _ _ _ h => h) (by kernel_rfl) (Or.inl ⟨by rfl, ?hy5⟩) hS0 ?rest5
                      case hy5 => (intro W hSw; go_simp; try (with_reducible rfl))
                      try simp only [Act.put, List.setIfInBounds_toArray, List.set_cons_zero, List.set_cons_succ]
                      refine' wpAnyD_take (i := 5) (oi := { dst := some 133, op := Go.Op.move (Go.Operand.tmp 15), type := 61, pos := "outright.go:129", after := #[], guard := none }) (v := _) rfl (by kernel_rfl) (by kernel_rfl) (by kernel_rfl) (fun _ _ _ h => h) (by kernel_rfl) (Or.inl ⟨by rfl, ?hy6⟩) hS0 ?rest6
                      case hy6 => (intro W hSw; go_simp; try (with_reducible rfl))
                      try simp only [Act.put, List.setIfInBounds_toArray, List.set_cons_zero, List.set_cons_succ]
                      refine' wpAnyD_take (i := 6) (oi := { dst := some 134, op := Go.Op.move (Go.Operand.tmp 14), type := 3, pos := "outright.go:129", after := #[], guard := none }) (v := _) rfl (by kernel_rfl) (by kernel_rfl) (by kernel_rfl) (fun _ _ _ h => h) (by kernel_rfl) (Or.inl ⟨by rfl, ?hy7⟩) hS0 ?rest7
                      case hy7 => (intro W hSw; go_simp; try (with_reducible rfl))
                      try simp only [Act.put, List.setIfInBounds_toArray, List.set_cons_zero, List.set_cons_succ]
                      refine' wpAnyD_take (i := 7) (oi := { dst := some 135, op := Go.Op.move (Go.Operand.tmp 15), type := 61, pos := "outright.go:129", after := #[], guard := none }) (v := _) rfl (by kernel_rfl) (by kernel_rfl) (by kernel_rfl) (fun _ _ _ h => h) (by kernel_rfl) (Or.inl ⟨by rfl, ?hy8⟩) hS0 ?rest8
                      case hy8 => (intro W hSw; go_simp; try (with_reducible rfl))
                      try simp only [Act.put, List.setIfInBounds_toArray, List.set_cons_zero, List.set_cons_succ]
                      refine' wpAnyD_take (i := 8) (oi := { dst := some 136, op := Go.Op.call { callee := Go.Callee.builtin Go.Builtin.len, args := #[Go.Operand.tmp 135], argTypes := #[61] }, type := 3, pos := "outright.go:129", after := #[{ on := 7, ground := Go.Ground.data }], guard := none }) (v := _) rfl (by kernel_rfl) (by kernel_rfl) (by kernel_rfl) (fun _ _ _ h => h) (by kernel_rfl) (Or.inl ⟨by rfl, ?hy9⟩) hS0 ?rest9
                      case hy9 => (intro W hSw; go_simp; try (with_reducible rfl))
                      try simp only [Act.put, List.setIfInBounds_toArray, List.set_cons_zero, List.set_cons_succ]
                      refine wpAnyD_one (i := 9) (o := { dst := some 137, op := Go.Op.call { callee := Go.Callee.value (Go.Operand.func 29), args := #[Go.Operand.tmp 134, Go.Operand.tmp 136], argTypes := #[3, 3] }, type := 3, pos := "outright.go:129", after := #[{ on := 6, ground := Go.Ground.data }, { on := 8, ground := Go.Ground.data }], guard := none }) (by kernel_rfl) rfl (fun K hK => ?_)
                      go_simp
                      refine (hmk _).mono ?_
                      rintro r w6 ⟨rfl, h6⟩
                      subst h6
                      go_wp2_with fail
                      refine hK.out _ _ (fun hD => HS0.out) ?_
                      clear hK K
                      try simp only [Act.put, List.setIfInBounds_toArray, List.set_cons_zero, List.set_cons_succ]
                      refine' wpAnyD_take (i := 10) (oi := { dst := some 138, op := Go.Op.build 78 #[(0, Go.Operand.tmp 137)], type := 78, pos := "outright.go:129", after := #[{ on := 9, ground := Go.Ground.data }], guard := none }) (v := _) rfl (by kernel_rfl) (by kernel_rfl) (by kernel_rfl) (fun _ _ _ h => h) (by kernel_rfl) (Or.inl ⟨by rfl, ?hy11⟩) HS0.out ?rest11
                      case hy11 => (intro W hSw; go_simp; try (with_reducible rfl))
                      try simp only [Act.put, List.setIfInBounds_toArray, List.set_cons_zero, List.set_cons_succ]
                      refine wpAnyD_one (i := 11) (o := { dst := some 139, op := Go.Op.buildSlice 61 1 #[(0, Go.Operand.tmp 138)], type := 61, pos := "outright.go:129", after := #[{ on := 10, ground := Go.Ground.data }], guard := none }) (by kernel_rfl) rfl (fun K hK => ?_)
                      go_simp
                      have b7 := ((Gr.refl wr).drew.alloc (.cells #[(.int .i64 (mkI i ln)), (.int .u64 0)] 78)).below
                      have hS7 := (show _ ∧ _ ∧ _ from ⟨(b7.block _ (tk_lt HS0.out.1)).trans HS0.out.1, (b7.cell (p := ⟨cg, i, none⟩) HS0.out.2.2).trans HS0.out.2.1, Nat.lt_of_lt_of_le HS0.out.2.2 b7.size⟩)
                      clear b7
                      refine hK.out _ _ (fun hD => hS7) ?_
                      clear hK K
                      try simp only [Act.put, List.setIfInBounds_toArray, List.set_cons_zero, List.set_cons_succ]
                      refine wpAnyD_one (i := 12) (o := { dst := some 140, op := Go.Op.call { callee := Go.Callee.builtin Go.Builtin.append, args := #[Go.Operand.tmp 133, Go.Operand.tmp 139], argTypes := #[61, 61] }, type := 61, pos := "outright.go:129", after := #[{ on := 5, ground := Go.Ground.data }, { on := 11, ground := Go.Ground.data }, { on := 9, ground := Go.Ground.chain }], guard := none }) (by kernel_rfl) rfl (fun K hK => ?_)
                      refine step_app1 EO Try.underlying61 infoO rfl (by decide) rfl _ _ rfl B (.slice vq ln vc) ln (fl EO (mksF fO i ln)) rfl (show (wr.drew).ownsRow B 78 2 (.slice vq ln vc) ln (fl EO (mksF fO i ln)) from HRW.out) (fO (mkI i ln)) (by first | rfl | simp) (by omega) (by unfold maxLen; omega) HBW.out _ rfl _ ?_
                      intro g8 cap8 w8 h8 k8 n8
                      have K8 := Kp.grownBy (S := fun k => (Value.slice vq ln vc).ownBlock = some k) k8.out (fun _ h => h)
                      have O8 : w8.ownsRow B 78 2 (LV.v ⟨some ⟨g8, 0, none⟩, ln + 1, cap8⟩) (mksF fO i (ln + 1)).length (fl EO (mksF fO i (ln + 1))) := owns_re h8.out (mksF_len _ _ _).symm (by rw [mksF_succ, fl_append, fl_one])
                      have IB : Bk B wr kb ⟨some ⟨cg, 0, none⟩, mO, kO⟩ ⟨qC, mC, kC⟩ ⟨qN, mN, kN⟩ ⟨qD, mD, kD⟩ uu (grwn fO lO i) vC (mkd fC lC lC.length) vN (mkd fN lN lN.length) vD (mkd fD lD lD.length) := HI.out.1
                      have ST : Hid (Bk B (w8.setCell ⟨cg, i, none⟩ (.slice (some ⟨g8, 0, none⟩) (ln + 1) cap8)) kb ⟨some ⟨cg, 0, none⟩, mO, kO⟩ ⟨qC, mC, kC⟩ ⟨qN, mN, kN⟩ ⟨qD, mD, kD⟩ (uu.set i ⟨some ⟨g8, 0, none⟩, ln + 1, cap8⟩) (grwn fO lO (i + 1)) vC (mkd fC lC lC.length) vN (mkd fN lN lN.length) vD (mkd fD lD lD.length) ∧ Kp (fun k => B ≤ k) w (w8.setCell ⟨cg, i, none⟩ (.slice (some ⟨g8, 0, none⟩) (ln + 1) cap8))) := by
                        have h := Bk.growO (w := wr.drew) (v' := ⟨some ⟨g8, 0, none⟩, ln + 1, cap8⟩) (cg := cg) (cc := kO) (show Bk B wr.drew kb ⟨some ⟨cg, 0, none⟩, mO, kO⟩ ⟨qC, mC, kC⟩ ⟨qN, mN, kN⟩ ⟨qD, mD, kD⟩ uu (grwn fO lO i) vC (mkd fC lC lC.length) vN (mkd fN lN lN.length) vD (mkd fD lD lD.length) from (by have h := IB; exact ⟨h.blk, h.low, h.rO, h.rC, h.rN, h.rD, h.fO.below (Gr.refl wr).drew.below, h.fC.below (Gr.refl wr).drew.below, h.fN.below (Gr.refl wr).drew.below, h.fD.below (Gr.refl wr).drew.below⟩)) HVL.out.1 O8 K8 (fun b e => by
                          obtain rfl : g8 = b := by simpa [LV.v, Value.ownBlock] using e
                          exact n8.out) (by rw [← HVL.out.2.2])
                        have h2 := grwn_succ fO HVL.out.2.1
                        rw [HLN.out] at h2
                        rw [h2] at h
                        exact ⟨h.1, (HI.out.2.trans (Kp.of_gr (Gr.refl wr).drew) (fun _ _ h => h)).trans h.2 (fun _ _ h => h)⟩
                      have hS8 : w8.heap[kb]? = some (.cells #[LV.v ⟨some ⟨cg, 0, none⟩, mO, kO⟩, LV.v ⟨qC, mC, kC⟩, LV.v ⟨qN, mN, kN⟩, LV.v ⟨qD, mD, kD⟩] 43 (0, 0)) ∧ w8.cell? ⟨cg, i, none⟩ = some (.slice vq ln vc) ∧ cg < w8.heap.size := ⟨(K8.block _ (tk_lt HS0.out.1) (fun e => owns_ne_blk HRW.out HS0.out.1 (by decide) kb e rfl)).trans HS0.out.1, (K8.cell (o := i) HS0.out.2.2 (fun e => owns_ne_own HRW.out IB.rO (by decide) cg e rfl)).trans HS0.out.2.1, Nat.lt_of_lt_of_le HS0.out.2.2 K8.size⟩
                      have HF8 : Hid (w8.frozen? ⟨cg, i, none⟩ = false) := by
                        have h := owns_kp K8 (show (wr.drew).ownsRow B 61 1 (LV.v ⟨some ⟨cg, 0, none⟩, mO, kO⟩) uu.length (fl EL uu) from IB.rO) (fun b e e2 => owns_ne_own IB.rO HRW.out (by decide) b e e2)
                        have e : (LV.v ⟨some ⟨cg, 0, none⟩, mO, kO⟩) = .slice (some ⟨cg, 0, none⟩) uu.length kO := by rw [← HVL.out.2.2]
                        rw [e] at h
                        exact h.frozenAt i
                      clear h8 k8 n8 K8 O8 IB hS7
                      refine hK.out _ _ (fun hD => hS8) ?_
                      clear hK K
                      try simp only [Act.put, List.setIfInBounds_toArray, List.set_cons_zero, List.set_cons_succ]
                      refine' wpAnyD_take (i := 13) (oi := { dst := some 141, op := Go.Op.indexAddr 38 (Go.Operand.tmp 131) (Go.Operand.tmp 132), type := 0, pos := "outright.go:129", after := #[{ on := 3, ground := Go.Ground.data }, { on := 4, ground := Go.Ground.data }, { on := 0, ground := Go.Ground.phase }, { on := 1, ground := Go.Ground.phase }, { on := 2, ground := Go.Ground.phase }, { on := 3, ground := Go.Ground.phase }, { on := 4, ground := Go.Ground.phase }, { on := 5, ground := Go.Ground.phase }, { on := 6, ground := Go.Ground.phase }, { on := 7, ground := Go.Ground.phase }, { on := 8, ground := Go.Ground.phase }, { on := 9, ground := Go.Ground.phase }, { on := 10, ground := Go.Ground.phase }, { on := 11, ground := Go.Ground.phase }, { on := 12, ground := Go.Ground.phase }], guard := none }) (v := _) rfl (by kernel_rfl) (by kernel_rfl) (by kernel_rfl) (fun _ _ _ h => h) (by kernel_rfl) (Or.inl ⟨by rfl, ?hy14⟩) hS8 ?rest14
                      case hy14 => (intro W hSw; go_simp; try (with_reducible rfl))
                      try simp only [Act.put, List.setIfInBounds_toArray, List.set_cons_zero, List.set_cons_succ]
                      refine wpAnyD_one (i := 14) (o := { dst := none, op := Go.Op.store 61 (Go.Operand.tmp 141) (Go.Operand.tmp 140), type := 0, pos := "outright.go:129", after := #[{ on := 13, ground := Go.Ground.data }, { on := 12, ground := Go.Ground.data }, { on := 12, ground := Go.Ground.chain }, { on := 0, ground := Go.Ground.phase }, { on := 1, ground := Go.Ground.phase }, { on := 2, ground := Go.Ground.phase }, { on := 3, ground := Go.Ground.phase }, { on := 4, ground := Go.Ground.phase }, { on := 5, ground := Go.Ground.phase }, { on := 6, ground := Go.Ground.phase }, { on := 7, ground := Go.Ground.phase }, { on := 8, ground := Go.Ground.phase }, { on := 9, ground := Go.Ground.phase }, { on := 10, ground := Go.Ground.phase }, { on := 11, ground := Go.Ground.phase }, { on := 12, ground := Go.Ground.phase }], guard := none }) (by kernel_rfl) rfl (fun K hK => ?_)
                      have c8 := hS8.2.1
                      have f8 := HF8.out
                      have l8 := hS8.2.2
                      go_simp
                      generalize (w8.setCell ⟨cg, i, none⟩ (.slice (some ⟨g8, 0, none⟩) (ln + 1) cap8)) = w9 at ST ⊢
                      clear c8 f8 l8
                      refine hK.out _ _ (fun hD => absurd (by decide) hD) ?_
                      clear hK K
                      try simp only [Act.put, List.setIfInBounds_toArray, List.set_cons_zero, List.set_cons_succ]
                      refine wpAnyD_done (by kernel_rfl) ?_ _
                      clear hS0 hS8 y0 zz1 hmk
                      go_wp2_with fail
                      go_roundw
                      case rel => exact ⟨i + 1, _, by omega, by go_num, ST.out⟩
                      case measure => simp [RowKit.intOf]; omega
                    · have hltz : ¬ (i : Int) < (mO : Int) := by omega
                      have G0 : Hid (Bk B wr kb ⟨qO, mO, kO⟩ ⟨qC, mC, kC⟩ ⟨qN, mN, kN⟩ ⟨qD, mD, kD⟩ uu (grwn fO lO lO.length) vC (mkd fC lC lC.length) vN (mkd fN lN lN.length) vD (mkd fD lD lD.length) ∧ Kp (fun k => B ≤ k) w wr) := by
                        have h := HI.out
                        have h2 : mO = uu.length := (owns_caps h.1.rO _ _ _ rfl).1
                        have h3 := h.1.fO.len
                        have h4 : (grwn fO lO i).length = lO.length := by
                          simp [grwn, mkd_len]
                          have h5 := HSO.out.1
                          by_cases e : i ≤ lO.length
                          · omega
                          · exfalso
                            simp [grwn, mkd_len] at h3
                            omega
                        rw [show i = lO.length by omega] at h
                        exact h
                      obtain ⟨uO, huO⟩ : ∃ u, u = uu := ⟨_, rfl⟩
                      rw [← huO] at G0
                      clear HI huO
                      have cb := (tk_store G0.out.1.blk).1
                      simp only [LV.v] at cb
                      have lb := tk_lt G0.out.1.blk
                      go_upto_region 42 with fail
                      clear cb lb
                      go_loopw [148] (fun s wr => ∃ (i : Nat) (uu : List LV), i ≤ mC ∧ s = .int .i64 (i : Nat) ∧ Hid (Bk B wr kb ⟨qO, mO, kO⟩ ⟨qC, mC, kC⟩ ⟨qN, mN, kN⟩ ⟨qD, mD, kD⟩ uO (grwn fO lO lO.length) uu (grwn fC lC i) vN (mkd fN lN lN.length) vD (mkd fD lD lD.length) ∧ Kp (fun k => B ≤ k) w wr)) (fun s _ => mC - (RowKit.intOf s).toNat)
                      case atStart => exact ⟨0, vC, Nat.zero_le _, rfl, by rw [grwn_zero]; exact G0.out⟩
                      case round =>
                        clear G0
                        obtain ⟨i, uu, hi, rfl, HI⟩ := hrel
                        by_cases hlt : i < mC
                        · have hltz : (i : Int) < (mC : Int) := by omega
                          have hi0 : (0 : Int) ≤ (i : Int) := by omega
                          have hcm : mC = uu.length := (owns_caps HI.out.1.rC _ _ _ rfl).1
                          obtain ⟨v, hv⟩ : ∃ v, uu[i]? = some v := ⟨uu[i]'(by omega), List.getElem?_eq_getElem (by omega)⟩
                          obtain ⟨l, hl⟩ : ∃ l, lC[i]? = some l := ⟨lC[i]'(by
                            have h1 := HI.out.1.fC.len
                            have h2 : (grwn fC lC i).length = lC.length := by simp [grwn, mkd_len]; omega
                            omega), List.getElem?_eq_getElem _⟩
                          have hsl : l.length ≤ 1000 := HSC.out.2 l (List.mem_of_getElem? hl)
                          have hil : i ≤ 1000 := by have := HSC.out.1; have := (List.getElem?_eq_some_iff.1 hl).1; omega
                          have hrow := HI.out.1.fC.each i v _ hv (grwn_get fC hl)
                          have hvm : v.m = l.length := by
                            have := (owns_caps hrow _ _ _ rfl).1
                            rwa [mksF_len] at this
                          obtain ⟨cg, o1, cc, e1, zz1, y0⟩ := ls_atL (owns_ls (E := EL) HI.out.1.rC) hv
                          have ho1 : o1 = 0 := by
                            rcases HI.out.1.rC.2 with ⟨h0, _⟩ | ⟨g, cap, cur, h0, _⟩
                            · rw [e1] at h0; cases h0
                            · rw [e1] at h0
                              simp only [Value.slice.injEq, Option.some.injEq, Addr.mk.injEq] at h0
                              exact h0.1.2.1
                          subst ho1
                          rw [Nat.zero_add] at y0
                          simp only [LV.v, Value.slice.injEq] at e1
                          obtain ⟨rfl, -, rfl⟩ := e1
                          obtain ⟨vq, vm, vc⟩ := v
                          simp only at hvm
                          subst hvm
                          have HVL : Hid (uu[i]? = some ⟨vq, l.length, vc⟩ ∧ lC[i]? = some l ∧ mC = uu.length) := ⟨hv, hl, hcm⟩
                          have HRW : Hid (wr.ownsRow B 80 5 (.slice vq l.length vc) l.length (fl EC (mksF fC i l.length))) := owns_re hrow (mksF_len _ _ _) rfl
                          have hmk := fun W => mark_any i l.length (by omega) (by omega) W
                          have HBW : Hid (B ≤ wr.heap.size) := Nat.le_trans HI.out.1.low (Nat.le_of_lt (tk_lt HI.out.1.blk))
                          have frc := HI.out.1.rC
                          have FRC : Hid (wr.frozen? ⟨cg, i, none⟩ = false) := by
                            have h := HI.out.1.rC
                            have e : (LV.v ⟨some ⟨cg, 0, none⟩, mC, kC⟩) = .slice (some ⟨cg, 0, none⟩) uu.length kC := by rw [← hcm]
                            rw [e] at h
                            exact h.frozenAt i
                          clear hv hl hrow frc hcm
                          generalize hln : l.length = ln at *
                          have HLN := hid hln
                          clear hln
                          simp only [LV.v] at y0
                          go_upto_region 44 with fail
                          have hS0 : wr.drew.heap[kb]? = some (.cells #[LV.v ⟨qO, mO, kO⟩, LV.v ⟨some ⟨cg, 0, none⟩, mC, kC⟩, LV.v ⟨qN, mN, kN⟩, LV.v ⟨qD, mD, kD⟩] 43 (0, 0)) ∧ wr.drew.cell? ⟨cg, i, none⟩ = some (.slice vq ln vc) ∧ cg < wr.drew.heap.size := ⟨HI.out.1.blk, y0, zz1⟩
                          have HS0 := hid hS0
                          refine wp_regionD (S := fun W => W.heap[kb]? = some (.cells #[LV.v ⟨qO, mO, kO⟩, LV.v ⟨some ⟨cg, 0, none⟩, mC, kC⟩, LV.v ⟨qN, mN, kN⟩, LV.v ⟨qD, mD, kD⟩] 43 (0, 0)) ∧ W.cell? ⟨cg, i, none⟩ = some (.slice vq ln vc) ∧ cg < W.heap.size) (D := [14]) hmx ?_
                          refine' wpAnyD_take (i := 0) (oi := { dst := some 153, op := Go.Op.move (Go.Operand.tmp 0), type := 37, pos := "outright.go:132", after := #[], guard := none }) (v := _) rfl (by kernel_rfl) (by kernel_rfl) (by kernel_rfl) (fun _ _ _ h => h) (by kernel_rfl) (Or.inl ⟨by rfl, ?hy16⟩) hS0 ?rest16
                          case hy16 => (intro W hSw; go_simp; try (with_reducible rfl))
                          try simp only [Act.put, List.setIfInBounds_toArray, List.set_cons_zero, List.set_cons_succ]
                          refine' wpAnyD_take (i := 1) (oi := { dst := some 154, op := Go.Op.nilCheck (Go.Operand.tmp 153), type := 0, pos := "outright.go:132", after := #[{ on := 0, ground := Go.Ground.data }], guard := none }) (v := _) rfl (by kernel_rfl) (by kernel_rfl) (by kernel_rfl) (fun _ _ _ h => h) (by kernel_rfl) (Or.inl ⟨by rfl, ?hy17⟩) hS0 ?rest17
                          case hy17 => (intro W hSw; go_simp; try (with_reducible rfl))
                          try simp only [Act.put, List.setIfInBounds_toArray, List.set_cons_zero, List.set_cons_succ]
                          refine' wpAnyD_take (i := 2) (oi := { dst := some 155, op := Go.Op.fieldAddr 43 (Go.Operand.tmp 154) 1, type := 0, pos := "outright.go:132", after := #[{ on := 1, ground := Go.Ground.data }], guard := none }) (v := _) rfl (by kernel_rfl) (by kernel_rfl) (by kernel_rfl) (fun _ _ _ h => h) (by kernel_rfl) (Or.inl ⟨by rfl, ?hy18⟩) hS0 ?rest18
                          case hy18 => (intro W hSw; go_simp; try (with_reducible rfl))
                          try simp only [Act.put, List.setIfInBounds_toArray, List.set_cons_zero, List.set_cons_succ]
                          refine' wpAnyD_take (i := 3) (oi := { dst := some 156, op := Go.Op.load 39 (Go.Operand.tmp 155), type := 39, pos := "outright.go:132", after := #[{ on := 2, ground := Go.Ground.data }], guard := none }) (v := _) rfl (by kernel_rfl) (by kernel_rfl) (by kernel_rfl) (fun _ _ _ h => h) (by kernel_rfl) (Or.inl ⟨by rfl, ?hy19⟩) hS0 ?rest19
                          case hy19 => (intro W hSw; have hc := (tk_store hSw.1).1; simp only [LV.v] at hc; have hl := tk_lt hSw.1; go_simp; try (with_reducible rfl))
                          try simp only [Act.put, List.setIfInBounds_toArray, List.set_cons_zero, List.set_cons_succ]
                          refine' wpAnyD_take (i := 4) (oi := { dst := some 157, op := Go.Op.move (Go.Operand.tmp 16), type := 3, pos := "outright.go:132", after := #[], guard := none }) (v := _) rfl (by kernel_rfl) (by kernel_rfl) (by kernel_rfl) (fun _ _ _ h => h) (by kernel_rfl) (Or.inl ⟨by rfl, ?hy20⟩) hS0 ?rest20
                          case hy20 => (intro W hSw; go_simp; try (with_reducible rfl))
                          try simp only [Act.put, List.setIfInBounds_toArray, List.set_cons_zero, List.set_cons_succ]
                          refine' wpAnyD_take (i := 5) (oi := { dst := some 158, op := Go.Op.move (Go.Operand.tmp 17), type := 65, pos := "outright.go:132", after := #[], guard := none }) (v := _) rfl (by kernel_rfl) (by kernel_rfl) (by kernel_rfl) (fun _ _ _ h => h) (by kernel_rfl) (Or.inl ⟨by rfl, ?hy21⟩) hS0 ?rest21
                          case hy21 => (intro W hSw; go_simp; try (with_reducible rfl))
                          try simp only [Act.put, List.setIfInBounds_toArray, List.set_cons_zero, List.set_cons_succ]
                          refine' wpAnyD_take (i := 6) (oi := { dst := some 159, op := Go.Op.move (Go.Operand.tmp 16), type := 3, pos := "outright.go:132", after := #[], guard := none }) (v := _) rfl (by kernel_rfl) (by kernel_rfl) (by kernel_rfl) (fun _ _ _ h => h) (by kernel_rfl) (Or.inl ⟨by rfl, ?hy22⟩) hS0 ?rest22
                          case hy22 => (intro W hSw; go_simp; try (with_reducible rfl))
                          try simp only [Act.put, List.setIfInBounds_toArray, List.set_cons_zero, List.set_cons_succ]
                          refine' wpAnyD_take (i := 7) (oi := { dst := some 160, op := Go.Op.move (Go.Operand.tmp 17), type := 65, pos := "outright.go:132", after := #[], guard := none }) (v := _) rfl (by kernel_rfl) (by kernel_rfl) (by kernel_rfl) (fun _ _ _ h => h) (by kernel_rfl) (Or.inl ⟨by rfl, ?hy23⟩) hS0 ?rest23
                          case hy23 => (intro W hSw; go_simp; try (with_reducible rfl))
                          try simp only [Act.put, List.setIfInBounds_toArray, List.set_cons_zero, List.set_cons_succ]
                          refine' wpAnyD_take (i := 8) (oi := { dst := some 161, op := Go.Op.call { callee := Go.Callee.builtin Go.Builtin.len, args := #[Go.Operand.tmp 160], argTypes := #[65] }, type := 3, pos := "outright.go:132", after := #[{ on := 7, ground := Go.Ground.data }], guard := none }) (v := _) rfl (by kernel_rfl) (by kernel_rfl) (by kernel_rfl) (fun _ _ _ h => h) (by kernel_rfl) (Or.inl ⟨by rfl, ?hy24⟩) hS0 ?rest24
                          case hy24 => (intro W hSw; go_simp; try (with_reducible rfl))
                          try simp only [Act.put, List.setIfInBounds_toArray, List.set_cons_zero, List.set_cons_succ]
                          refine wpAnyD_one (i := 9) (o := { dst := some 162, op := Go.Op.call { callee := Go.Callee.value (Go.Operand.func 29), args := #[Go.Operand.tmp 159, Go.Operand.tmp 161], argTypes := #[3, 3] }, type := 3, pos := "outright.go:132", after := #[{ on := 6, ground := Go.Ground.data }, { on := 8, ground := Go.Ground.data }], guard := none }) (by kernel_rfl) rfl (fun K hK => ?_)
                          go_simp
                          refine (hmk _).mono ?_
                          rintro r w6 ⟨rfl, h6⟩
                          subst h6
                          go_wp2_with fail
                          refine hK.out _ _ (fun hD => HS0.out) ?_
                          clear hK K
                          try simp only [Act.put, List.setIfInBounds_toArray, List.set_cons_zero, List.set_cons_succ]
                          refine' wpAnyD_take (i := 10) (oi := { dst := some 163, op := Go.Op.build 80 #[(0, Go.Operand.tmp 162)], type := 80, pos := "outright.go:132", after := #[{ on := 9, ground := Go.Ground.data }], guard := none }) (v := _) rfl (by kernel_rfl) (by kernel_rfl) (by kernel_rfl) (fun _ _ _ h => h) (by kernel_rfl) (Or.inl ⟨by rfl, ?hy26⟩) HS0.out ?rest26
                          case hy26 => (intro W hSw; go_simp; try (with_reducible rfl))
                          try simp only [Act.put, List.setIfInBounds_toArray, List.set_cons_zero, List.set_cons_succ]
                          refine wpAnyD_one (i := 11) (o := { dst := some 164, op := Go.Op.buildSlice 65 1 #[(0, Go.Operand.tmp 163)], type := 65, pos := "outright.go:132", after := #[{ on := 10, ground := Go.Ground.data }], guard := none }) (by kernel_rfl) rfl (fun K hK => ?_)
                          go_simp
                          have b7 := ((Gr.refl wr).drew.alloc (.cells #[(.int .i64 (mkI i ln)), (.int .i64 0), (.int .u64 0), (.int .u64 0), (.int .u64 0)] 80)).below
                          have hS7 := (show _ ∧ _ ∧ _ from ⟨(b7.block _ (tk_lt HS0.out.1)).trans HS0.out.1, (b7.cell (p := ⟨cg, i, none⟩) HS0.out.2.2).trans HS0.out.2.1, Nat.lt_of_lt_of_le HS0.out.2.2 b7.size⟩)
                          clear b7
                          refine hK.out _ _ (fun hD => hS7) ?_
                          clear hK K
                          try simp only [Act.put, List.setIfInBounds_toArray, List.set_cons_zero, List.set_cons_succ]
                          refine wpAnyD_one (i := 12) (o := { dst := some 165, op := Go.Op.call { callee := Go.Callee.builtin Go.Builtin.append, args := #[Go.Operand.tmp 158, Go.Operand.tmp 164], argTypes := #[65, 65] }, type := 65, pos := "outright.go:132", after := #[{ on := 5, ground := Go.Ground.data }, { on := 11, ground := Go.Ground.data }, { on := 9, ground := Go.Ground.chain }], guard := none }) (by kernel_rfl) rfl (fun K hK => ?_)
                          refine step_app1 EC Try.underlying65 infoC rfl (by decide) rfl _ _ rfl B (.slice vq ln vc) ln (fl EC (mksF fC i ln)) rfl (show (wr.drew).ownsRow B 80 5 (.slice vq ln vc) ln (fl EC (mksF fC i ln)) from HRW.out) (fC (mkI i ln)) (by first | rfl | simp) (by omega) (by unfold maxLen; omega) HBW.out _ rfl _ ?_
                          intro g8 cap8 w8 h8 k8 n8
                          have K8 := Kp.grownBy (S := fun k => (Value.slice vq ln vc).ownBlock = some k) k8.out (fun _ h => h)
                          have O8 : w8.ownsRow B 80 5 (LV.v ⟨some ⟨g8, 0, none⟩, ln + 1, cap8⟩) (mksF fC i (ln + 1)).length (fl EC (mksF fC i (ln + 1))) := owns_re h8.out (mksF_len _ _ _).symm (by rw [mksF_succ, fl_append, fl_one])
                          have IB : Bk B wr kb ⟨qO, mO, kO⟩ ⟨some ⟨cg, 0, none⟩, mC, kC⟩ ⟨qN, mN, kN⟩ ⟨qD, mD, kD⟩ uO (grwn fO lO lO.length) uu (grwn fC lC i) vN (mkd fN lN lN.length) vD (mkd fD lD lD.length) := HI.out.1
                          have ST : Hid (Bk B (w8.setCell ⟨cg, i, none⟩ (.slice (some ⟨g8, 0, none⟩) (ln + 1) cap8)) kb ⟨qO, mO, kO⟩ ⟨some ⟨cg, 0, none⟩, mC, kC⟩ ⟨qN, mN, kN⟩ ⟨qD, mD, kD⟩ uO (grwn fO lO lO.length) (uu.set i ⟨some ⟨g8, 0, none⟩, ln + 1, cap8⟩) (grwn fC lC (i + 1)) vN (mkd fN lN lN.length) vD (mkd fD lD lD.length) ∧ Kp (fun k => B ≤ k) w (w8.setCell ⟨cg, i, none⟩ (.slice (some ⟨g8, 0, none⟩) (ln + 1) cap8))) := by
                            have h := Bk.growC (w := wr.drew) (v' := ⟨some ⟨g8, 0, none⟩, ln + 1, cap8⟩) (cg := cg) (cc := kC) (show Bk B wr.drew kb ⟨qO, mO, kO⟩ ⟨some ⟨cg, 0, none⟩, mC, kC⟩ ⟨qN, mN, kN⟩ ⟨qD, mD, kD⟩ uO (grwn fO lO lO.length) uu (grwn fC lC i) vN (mkd fN lN lN.length) vD (mkd fD lD lD.length) from (by have h := IB; exact ⟨h.blk, h.low, h.rO, h.rC, h.rN, h.rD, h.fO.below (Gr.refl wr).drew.below, h.fC.below (Gr.refl wr).drew.below, h.fN.below (Gr.refl wr).drew.below, h.fD.below (Gr.refl wr).drew.below⟩)) HVL.out.1 O8 K8 (fun b e => by
                              obtain rfl : g8 = b := by simpa [LV.v, Value.ownBlock] using e
                              exact n8.out) (by rw [← HVL.out.2.2])
                            have h2 := grwn_succ fC HVL.out.2.1
                            rw [HLN.out] at h2
                            rw [h2] at h
                            exact ⟨h.1, (HI.out.2.trans (Kp.of_gr (Gr.refl wr).drew) (fun _ _ h => h)).trans h.2 (fun _ _ h => h)⟩
                          have hS8 : w8.heap[kb]? = some (.cells #[LV.v ⟨qO, mO, kO⟩, LV.v ⟨some ⟨cg, 0, none⟩, mC, kC⟩, LV.v ⟨qN, mN, kN⟩, LV.v ⟨qD, mD, kD⟩] 43 (0, 0)) ∧ w8.cell? ⟨cg, i, none⟩ = some (.slice vq ln vc) ∧ cg < w8.heap.size := ⟨(K8.block _ (tk_lt HS0.out.1) (fun e => owns_ne_blk HRW.out HS0.out.1 (by decide) kb e rfl)).trans HS0.out.1, (K8.cell (o := i) HS0.out.2.2 (fun e => owns_ne_own HRW.out IB.rC (by decide) cg e rfl)).trans HS0.out.2.1, Nat.lt_of_lt_of_le HS0.out.2.2 K8.size⟩
                          have HF8 : Hid (w8.frozen? ⟨cg, i, none⟩ = false) := by
                            have h := owns_kp K8 (show (wr.drew).ownsRow B 65 1 (LV.v ⟨some ⟨cg, 0, none⟩, mC, kC⟩) uu.length (fl EL uu) from IB.rC) (fun b e e2 => owns_ne_own IB.rC HRW.out (by decide) b e e2)
                            have e : (LV.v ⟨some ⟨cg, 0, none⟩, mC, kC⟩) = .slice (some ⟨cg, 0, none⟩) uu.length kC := by rw [← HVL.out.2.2]
                            rw [e] at h
                            exact h.frozenAt i
                          clear h8 k8 n8 K8 O8 IB hS7
                          refine hK.out _ _ (fun hD => hS8) ?_
                          clear hK K
                          try simp only [Act.put, List.setIfInBounds_toArray, List.set_cons_zero, List.set_cons_succ]
                          refine' wpAnyD_take (i := 13) (oi := { dst := some 166, op := Go.Op.indexAddr 39 (Go.Operand.tmp 156) (Go.Operand.tmp 157), type := 0, pos := "outright.go:132", after := #[{ on := 3, ground := Go.Ground.data }, { on := 4, ground := Go.Ground.data }, { on := 0, ground := Go.Ground.phase }, { on := 1, ground := Go.Ground.phase }, { on := 2, ground := Go.Ground.phase }, { on := 3, ground := Go.Ground.phase }, { on := 4, ground := Go.Ground.phase }, { on := 5, ground := Go.Ground.phase }, { on := 6, ground := Go.Ground.phase }, { on := 7, ground := Go.Ground.phase }, { on := 8, ground := Go.Ground.phase }, { on := 9, ground := Go.Ground.phase }, { on := 10, ground := Go.Ground.phase }, { on := 11, ground := Go.Ground.phase }, { on := 12, ground := Go.Ground.phase }], guard := none }) (v := _) rfl (by kernel_rfl) (by kernel_rfl) (by kernel_rfl) (fun _ _ _ h => h) (by kernel_rfl) (Or.inl ⟨by rfl, ?hy29⟩) hS8 ?rest29
                          case hy29 => (intro W hSw; go_simp; try (with_reducible rfl))
                          try simp only [Act.put, List.setIfInBounds_toArray, List.set_cons_zero, List.set_cons_succ]
                          refine wpAnyD_one (i := 14) (o := { dst := none, op := Go.Op.store 65 (Go.Operand.tmp 166) (Go.Operand.tmp 165), type := 0, pos := "outright.go:132", after := #[{ on := 13, ground := Go.Ground.data }, { on := 12, ground := Go.Ground.data }, { on := 12, ground := Go.Ground.chain }, { on := 0, ground := Go.Ground.phase }, { on := 1, ground := Go.Ground.phase }, { on := 2, ground := Go.Ground.phase }, { on := 3, ground := Go.Ground.phase }, { on := 4, ground := Go.Ground.phase }, { on := 5, ground := Go.Ground.phase }, { on := 6, ground := Go.Ground.phase }, { on := 7, ground := Go.Ground.phase }, { on := 8, ground := Go.Ground.phase }, { on := 9, ground := Go.Ground.phase }, { on := 10, ground := Go.Ground.phase }, { on := 11, ground := Go.Ground.phase }, { on := 12, ground := Go.Ground.phase }], guard := none }) (by kernel_rfl) rfl (fun K hK => ?_)
                          have c8 := hS8.2.1
                          have f8 := HF8.out
                          have l8 := hS8.2.2
                          go_simp
                          generalize (w8.setCell ⟨cg, i, none⟩ (.slice (some ⟨g8, 0, none⟩) (ln + 1) cap8)) = w9 at ST ⊢
                          clear c8 f8 l8
                          refine hK.out _ _ (fun hD => absurd (by decide) hD) ?_
                          clear hK K
                          try simp only [Act.put, List.setIfInBounds_toArray, List.set_cons_zero, List.set_cons_succ]
                          refine wpAnyD_done (by kernel_rfl) ?_ _
                          clear hS0 hS8 y0 zz1 hmk
                          go_wp2_with fail
                          go_roundw
                          case rel => exact ⟨i + 1, _, by omega, by go_num, ST.out⟩
                          case measure => simp [RowKit.intOf]; omega
                        · have hltz : ¬ (i : Int) < (mC : Int) := by omega
                          have G1 : Hid (Bk B wr kb ⟨qO, mO, kO⟩ ⟨qC, mC, kC⟩ ⟨qN, mN, kN⟩ ⟨qD, mD, kD⟩ uO (grwn fO lO lO.length) uu (grwn fC lC lC.length) vN (mkd fN lN lN.length) vD (mkd fD lD lD.length) ∧ Kp (fun k => B ≤ k) w wr) := by
                            have h := HI.out
                            have h2 : mC = uu.length := (owns_caps h.1.rC _ _ _ rfl).1
                            have h3 := h.1.fC.len
                            have h4 : (grwn fC lC i).length = lC.length := by
                              simp [grwn, mkd_len]
                              have h5 := HSC.out.1
                              by_cases e : i ≤ lC.length
                              · omega
                              · exfalso
                                simp [grwn, mkd_len] at h3
                                omega
                            rw [show i = lC.length by omega] at h
                            exact h
                          obtain ⟨uC, huC⟩ : ∃ u, u = uu := ⟨_, rfl⟩
                          rw [← huC] at G1
                          clear HI huC
                          have cb := (tk_store G1.out.1.blk).1
                          simp only [LV.v] at cb
                          have lb := tk_lt G1.out.1.blk
                          go_upto_region 47 with fail
                          clear cb lb
                          go_loopw [173] (fun s wr => ∃ (i : Nat) (uu : List LV), i ≤ mN ∧ s = .int .i64 (i : Nat) ∧ Hid (Bk B wr kb ⟨qO, mO, kO⟩ ⟨qC, mC, kC⟩ ⟨qN, mN, kN⟩ ⟨qD, mD, kD⟩ uO (grwn fO lO lO.length) uC (grwn fC lC lC.length) uu (grwn fN lN i) vD (mkd fD lD lD.length) ∧ Kp (fun k => B ≤ k) w wr)) (fun s _ => mN - (RowKit.intOf s).toNat)
                          case atStart => exact ⟨0, vN, Nat.zero_le _, rfl, by rw [grwn_zero]; exact G1.out⟩
                          case round =>
                            clear G1
                            obtain ⟨i, uu, hi, rfl, HI⟩ := hrel
                            by_cases hlt : i < mN
                            · have hltz : (i : Int) < (mN : Int) := by omega
                              have hi0 : (0 : Int) ≤ (i : Int) := by omega
                              have hcm : mN = uu.length := (owns_caps HI.out.1.rN _ _ _ rfl).1
                              obtain ⟨v, hv⟩ : ∃ v, uu[i]? = some v := ⟨uu[i]'(by omega), List.getElem?_eq_getElem (by omega)⟩
                              obtain ⟨l, hl⟩ : ∃ l, lN[i]? = some l := ⟨lN[i]'(by
                                have h1 := HI.out.1.fN.len
                                have h2 : (grwn fN lN i).length = lN.length := by simp [grwn, mkd_len]; omega
                                omega), List.getElem?_eq_getElem _⟩
                              have hsl : l.length ≤ 1000 := HSN.out.2 l (List.mem_of_getElem? hl)
                              have hil : i ≤ 1000 := by have := HSN.out.1; have := (List.getElem?_eq_some_iff.1 hl).1; omega
                              have hrow := HI.out.1.fN.each i v _ hv (grwn_get fN hl)
                              have hvm : v.m = l.length := by
                                have := (owns_caps hrow _ _ _ rfl).1
                                rwa [mksF_len] at this
                              obtain ⟨cg, o1, cc, e1, zz1, y0⟩ := ls_atL (owns_ls (E := EL) HI.out.1.rN) hv
                              have ho1 : o1 = 0 := by
                                rcases HI.out.1.rN.2 with ⟨h0, _⟩ | ⟨g, cap, cur, h0, _⟩
                                · rw [e1] at h0; cases h0
                                · rw [e1] at h0
                                  simp only [Value.slice.injEq, Option.some.injEq, Addr.mk.injEq] at h0
                                  exact h0.1.2.1
                              subst ho1
                              rw [Nat.zero_add] at y0
                              simp only [LV.v, Value.slice.injEq] at e1
                              obtain ⟨rfl, -, rfl⟩ := e1
                              obtain ⟨vq, vm, vc⟩ := v
                              simp only at hvm
                              subst hvm
                              have HVL : Hid (uu[i]? = some ⟨vq, l.length, vc⟩ ∧ lN[i]? = some l ∧ mN = uu.length) := ⟨hv, hl, hcm⟩
                              have HRW : Hid (wr.ownsRow B 67 10 (.slice vq l.length vc) l.length (fl EV (mksF fN i l.length))) := owns_re hrow (mksF_len _ _ _) rfl
                              have hmk := fun W => mark_any i l.length (by omega) (by omega) W
                              have HBW : Hid (B ≤ wr.heap.size) := Nat.le_trans HI.out.1.low (Nat.le_of_lt (tk_lt HI.out.1.blk))
                              have frc := HI.out.1.rN
                              have FRC : Hid (wr.frozen? ⟨cg, i, none⟩ = false) := by
                                have h := HI.out.1.rN
                                have e : (LV.v ⟨some ⟨cg, 0, none⟩, mN, kN⟩) = .slice (some ⟨cg, 0, none⟩) uu.length kN := by rw [← hcm]
                                rw [e] at h
                                exact h.frozenAt i
                              clear hv hl hrow frc hcm
                              generalize hln : l.length = ln at *
                              have HLN := hid hln
                              clear hln
                              simp only [LV.v] at y0
                              go_upto_region 49 with fail
                              have hS0 : wr.drew.heap[kb]? = some (.cells #[LV.v ⟨qO, mO, kO⟩, LV.v ⟨qC, mC, kC⟩, LV.v ⟨some ⟨cg, 0, none⟩, mN, kN⟩, LV.v ⟨qD, mD, kD⟩] 43 (0, 0)) ∧ wr.drew.cell? ⟨cg, i, none⟩ = some (.slice vq ln vc) ∧ cg < wr.drew.heap.size := ⟨HI.out.1.blk, y0, zz1⟩
                              have HS0 := hid hS0
                              refine wp_regionD (S := fun W => W.heap[kb]? = some (.cells #[LV.v ⟨qO, mO, kO⟩, LV.v ⟨qC, mC, kC⟩, LV.v ⟨some ⟨cg, 0, none⟩, mN, kN⟩, LV.v ⟨qD, mD, kD⟩] 43 (0, 0)) ∧ W.cell? ⟨cg, i, none⟩ = some (.slice vq ln vc) ∧ cg < W.heap.size) (D := [14]) hmx ?_
                              refine' wpAnyD_take (i := 0) (oi := { dst := some 178, op := Go.Op.move (Go.Operand.tmp 0), type := 37, pos := "outright.go:135", after := #[], guard := none }) (v := _) rfl (by kernel_rfl) (by kernel_rfl) (by kernel_rfl) (fun _ _ _ h => h) (by kernel_rfl) (Or.inl ⟨by rfl, ?hy31⟩) hS0 ?rest31
                              case hy31 => (intro W hSw; go_simp; try (with_reducible rfl))
                              try simp only [Act.put, List.setIfInBounds_toArray, List.set_cons_zero, List.set_cons_succ]
                              refine' wpAnyD_take (i := 1) (oi := { dst := some 179, op := Go.Op.nilCheck (Go.Operand.tmp 178), type := 0, pos := "outright.go:135", after := #[{ on := 0, ground := Go.Ground.data }], guard := none }) (v := _) rfl (by kernel_rfl) (by kernel_rfl) (by kernel_rfl) (fun _ _ _ h => h) (by kernel_rfl) (Or.inl ⟨by rfl, ?hy32⟩) hS0 ?rest32
                              case hy32 => (intro W hSw; go_simp; try (with_reducible rfl))
                              try simp only [Act.put, List.setIfInBounds_toArray, List.set_cons_zero, List.set_cons_succ]
                              refine' wpAnyD_take (i := 2) (oi := { dst := some 180, op := Go.Op.fieldAddr 43 (Go.Operand.tmp 179) 2, type := 0, pos := "outright.go:135", after := #[{ on := 1, ground := Go.Ground.data }], guard := none }) (v := _) rfl (by kernel_rfl) (by kernel_rfl) (by kernel_rfl) (fun _ _ _ h => h) (by kernel_rfl) (Or.inl ⟨by rfl, ?hy33⟩) hS0 ?rest33
                              case hy33 => (intro W hSw; go_simp; try (with_reducible rfl))
                              try simp only [Act.put, List.setIfInBounds_toArray, List.set_cons_zero, List.set_cons_succ]
                              refine' wpAnyD_take (i := 3) (oi := { dst := some 181, op := Go.Op.load 40 (Go.Operand.tmp 180), type := 40, pos := "outright.go:135", after := #[{ on := 2, ground := Go.Ground.data }], guard := none }) (v := _) rfl (by kernel_rfl) (by kernel_rfl) (by kernel_rfl) (fun _ _ _ h => h) (by kernel_rfl) (Or.inl ⟨by rfl, ?hy34⟩) hS0 ?rest34
                              case hy34 => (intro W hSw; have hc := (tk_store hSw.1).1; simp only [LV.v] at hc; have hl := tk_lt hSw.1; go_simp; try (with_reducible rfl))
                              try simp only [Act.put, List.setIfInBounds_toArray, List.set_cons_zero, List.set_cons_succ]
                              refine' wpAnyD_take (i := 4) (oi := { dst := some 182, op := Go.Op.move (Go.Operand.tmp 18), type := 3, pos := "outright.go:135", after := #[], guard := none }) (v := _) rfl (by kernel_rfl) (by kernel_rfl) (by kernel_rfl) (fun _ _ _ h => h) (by kernel_rfl) (Or.inl ⟨by rfl, ?hy35⟩) hS0 ?rest35
                              case hy35 => (intro W hSw; go_simp; try (with_reducible rfl))
                              try simp only [Act.put, List.setIfInBounds_toArray, List.set_cons_zero, List.set_cons_succ]
                              refine' wpAnyD_take (i := 5) (oi := { dst := some 183, op := Go.Op.move (Go.Operand.tmp 19), type := 22, pos := "outright.go:135", after := #[], guard := none }) (v := _) rfl (by kernel_rfl) (by kernel_rfl) (by kernel_rfl) (fun _ _ _ h => h) (by kernel_rfl) (Or.inl ⟨by rfl, ?hy36⟩) hS0 ?rest36
                              case hy36 => (intro W hSw; go_simp; try (with_reducible rfl))
                              try simp only [Act.put, List.setIfInBounds_toArray, List.set_cons_zero, List.set_cons_succ]
                              refine' wpAnyD_take (i := 6) (oi := { dst := some 184, op := Go.Op.move (Go.Operand.tmp 18), type := 3, pos := "outright.go:135", after := #[], guard := none }) (v := _) rfl (by kernel_rfl) (by kernel_rfl) (by kernel_rfl) (fun _ _ _ h => h) (by kernel_rfl) (Or.inl ⟨by rfl, ?hy37⟩) hS0 ?rest37
                              case hy37 => (intro W hSw; go_simp; try (with_reducible rfl))
                              try simp only [Act.put, List.setIfInBounds_toArray, List.set_cons_zero, List.set_cons_succ]
                              refine' wpAnyD_take (i := 7) (oi := { dst := some 185, op := Go.Op.move (Go.Operand.tmp 19), type := 22, pos := "outright.go:135", after := #[], guard := none }) (v := _) rfl (by kernel_rfl) (by kernel_rfl) (by kernel_rfl) (fun _ _ _ h => h) (by kernel_rfl) (Or.inl ⟨by rfl, ?hy38⟩) hS0 ?rest38
                              case hy38 => (intro W hSw; go_simp; try (with_reducible rfl))
                              try simp only [Act.put, List.setIfInBounds_toArray, List.set_cons_zero, List.set_cons_succ]
                              refine' wpAnyD_take (i := 8) (oi := { dst := some 186, op := Go.Op.call { callee := Go.Callee.builtin Go.Builtin.len, args := #[Go.Operand.tmp 185], argTypes := #[22] }, type := 3, pos := "outright.go:135", after := #[{ on := 7, ground := Go.Ground.data }], guard := none }) (v := _) rfl (by kernel_rfl) (by kernel_rfl) (by kernel_rfl) (fun _ _ _ h => h) (by kernel_rfl) (Or.inl ⟨by rfl, ?hy39⟩) hS0 ?rest39
                              case hy39 => (intro W hSw; go_simp; try (with_reducible rfl))
                              try simp only [Act.put, List.setIfInBounds_toArray, List.set_cons_zero, List.set_cons_succ]
                              refine wpAnyD_one (i := 9) (o := { dst := some 187, op := Go.Op.call { callee := Go.Callee.value (Go.Operand.func 29), args := #[Go.Operand.tmp 184, Go.Operand.tmp 186], argTypes := #[3, 3] }, type := 3, pos := "outright.go:135", after := #[{ on := 6, ground := Go.Ground.data }, { on := 8, ground := Go.Ground.data }], guard := none }) (by kernel_rfl) rfl (fun K hK => ?_)
                              go_simp
                              refine (hmk _).mono ?_
                              rintro r w6 ⟨rfl, h6⟩
                              subst h6
                              go_wp2_with fail
                              refine hK.out _ _ (fun hD => HS0.out) ?_
                              clear hK K
                              try simp only [Act.put, List.setIfInBounds_toArray, List.set_cons_zero, List.set_cons_succ]
                              refine' wpAnyD_take (i := 10) (oi := { dst := some 188, op := Go.Op.build 67 #[(0, Go.Operand.tmp 187)], type := 67, pos := "outright.go:135", after := #[{ on := 9, ground := Go.Ground.data }], guard := none }) (v := _) rfl (by kernel_rfl) (by kernel_rfl) (by kernel_rfl) (fun _ _ _ h => h) (by kernel_rfl) (Or.inl ⟨by rfl, ?hy41⟩) HS0.out ?rest41
                              case hy41 => (intro W hSw; go_simp; try (with_reducible rfl))
                              try simp only [Act.put, List.setIfInBounds_toArray, List.set_cons_zero, List.set_cons_succ]
                              refine wpAnyD_one (i := 11) (o := { dst := some 189, op := Go.Op.buildSlice 22 1 #[(0, Go.Operand.tmp 188)], type := 22, pos := "outright.go:135", after := #[{ on := 10, ground := Go.Ground.data }], guard := none }) (by kernel_rfl) rfl (fun K hK => ?_)
                              go_simp
                              have b7 := ((Gr.refl wr).drew.alloc (.cells #[(.int .i64 (mkI i ln)), (.int .i64 0), (.int .i64 0), (.slice none 0 0), (.int .u64 0), (.int .u64 0), (.int .u64 0), (.int .u64 0), (.slice none 0 0), (.bool false)] 67)).below
                              have hS7 := (show _ ∧ _ ∧ _ from ⟨(b7.block _ (tk_lt HS0.out.1)).trans HS0.out.1, (b7.cell (p := ⟨cg, i, none⟩) HS0.out.2.2).trans HS0.out.2.1, Nat.lt_of_lt_of_le HS0.out.2.2 b7.size⟩)
                              clear b7
                              refine hK.out _ _ (fun hD => hS7) ?_
                              clear hK K
                              try simp only [Act.put, List.setIfInBounds_toArray, List.set_cons_zero, List.set_cons_succ]
                              refine wpAnyD_one (i := 12) (o := { dst := some 190, op := Go.Op.call { callee := Go.Callee.builtin Go.Builtin.append, args := #[Go.Operand.tmp 183, Go.Operand.tmp 189], argTypes := #[22, 22] }, type := 22, pos := "outright.go:135", after := #[{ on := 5, ground := Go.Ground.data }, { on := 11, ground := Go.Ground.data }, { on := 9, ground := Go.Ground.chain }], guard := none }) (by kernel_rfl) rfl (fun K hK => ?_)
                              refine step_app1 EV Try.underlying22 infoV rfl (by decide) rfl _ _ rfl B (.slice vq ln vc) ln (fl EV (mksF fN i ln)) rfl (show (wr.drew).ownsRow B 67 10 (.slice vq ln vc) ln (fl EV (mksF fN i ln)) from HRW.out) (fN (mkI i ln)) (by first | rfl | simp) (by omega) (by unfold maxLen; omega) HBW.out _ rfl _ ?_
                              intro g8 cap8 w8 h8 k8 n8
                              have K8 := Kp.grownBy (S := fun k => (Value.slice vq ln vc).ownBlock = some k) k8.out (fun _ h => h)
                              have O8 : w8.ownsRow B 67 10 (LV.v ⟨some ⟨g8, 0, none⟩, ln + 1, cap8⟩) (mksF fN i (ln + 1)).length (fl EV (mksF fN i (ln + 1))) := owns_re h8.out (mksF_len _ _ _).symm (by rw [mksF_succ, fl_append, fl_one])
                              have IB : Bk B wr kb ⟨qO, mO, kO⟩ ⟨qC, mC, kC⟩ ⟨some ⟨cg, 0, none⟩, mN, kN⟩ ⟨qD, mD, kD⟩ uO (grwn fO lO lO.length) uC (grwn fC lC lC.length) uu (grwn fN lN i) vD (mkd fD lD lD.length) := HI.out.1
                              have ST : Hid (Bk B (w8.setCell ⟨cg, i, none⟩ (.slice (some ⟨g8, 0, none⟩) (ln + 1) cap8)) kb ⟨qO, mO, kO⟩ ⟨qC, mC, kC⟩ ⟨some ⟨cg, 0, none⟩, mN, kN⟩ ⟨qD, mD, kD⟩ uO (grwn fO lO lO.length) uC (grwn fC lC lC.length) (uu.set i ⟨some ⟨g8, 0, none⟩, ln + 1, cap8⟩) (grwn fN lN (i + 1)) vD (mkd fD lD lD.length) ∧ Kp (fun k => B ≤ k) w (w8.setCell ⟨cg, i, none⟩ (.slice (some ⟨g8, 0, none⟩) (ln + 1) cap8))) := by
                                have h := Bk.growN (w := wr.drew) (v' := ⟨some ⟨g8, 0, none⟩, ln + 1, cap8⟩) (cg := cg) (cc := kN) (show Bk B wr.drew kb ⟨qO, mO, kO⟩ ⟨qC, mC, kC⟩ ⟨some ⟨cg, 0, none⟩, mN, kN⟩ ⟨qD, mD, kD⟩ uO (grwn fO lO lO.length) uC (grwn fC lC lC.length) uu (grwn fN lN i) vD (mkd fD lD lD.length) from (by have h := IB; exact ⟨h.blk, h.low, h.rO, h.rC, h.rN, h.rD, h.fO.below (Gr.refl wr).drew.below, h.fC.below (Gr.refl wr).drew.below, h.fN.below (Gr.refl wr).drew.below, h.fD.below (Gr.refl wr).drew.below⟩)) HVL.out.1 O8 K8 (fun b e => by
                                  obtain rfl : g8 = b := by simpa [LV.v, Value.ownBlock] using e
                                  exact n8.out) (by rw [← HVL.out.2.2])
                                have h2 := grwn_succ fN HVL.out.2.1
                                rw [HLN.out] at h2
                                rw [h2] at h
                                exact ⟨h.1, (HI.out.2.trans (Kp.of_gr (Gr.refl wr).drew) (fun _ _ h => h)).trans h.2 (fun _ _ h => h)⟩
                              have hS8 : w8.heap[kb]? = some (.cells #[LV.v ⟨qO, mO, kO⟩, LV.v ⟨qC, mC, kC⟩, LV.v ⟨some ⟨cg, 0, none⟩, mN, kN⟩, LV.v ⟨qD, mD, kD⟩] 43 (0, 0)) ∧ w8.cell? ⟨cg, i, none⟩ = some (.slice vq ln vc) ∧ cg < w8.heap.size := ⟨(K8.block _ (tk_lt HS0.out.1) (fun e => owns_ne_blk HRW.out HS0.out.1 (by decide) kb e rfl)).trans HS0.out.1, (K8.cell (o := i) HS0.out.2.2 (fun e => owns_ne_own HRW.out IB.rN (by decide) cg e rfl)).trans HS0.out.2.1, Nat.lt_of_lt_of_le HS0.out.2.2 K8.size⟩
                              have HF8 : Hid (w8.frozen? ⟨cg, i, none⟩ = false) := by
                                have h := owns_kp K8 (show (wr.drew).ownsRow B 22 1 (LV.v ⟨some ⟨cg, 0, none⟩, mN, kN⟩) uu.length (fl EL uu) from IB.rN) (fun b e e2 => owns_ne_own IB.rN HRW.out (by decide) b e e2)
                                have e : (LV.v ⟨some ⟨cg, 0, none⟩, mN, kN⟩) = .slice (some ⟨cg, 0, none⟩) uu.length kN := by rw [← HVL.out.2.2]
                                rw [e] at h
                                exact h.frozenAt i
                              clear h8 k8 n8 K8 O8 IB hS7
                              refine hK.out _ _ (fun hD => hS8) ?_
                              clear hK K
                              try simp only [Act.put, List.setIfInBounds_toArray, List.set_cons_zero, List.set_cons_succ]
                              refine' wpAnyD_take (i := 13) (oi := { dst := some 191, op := Go.Op.indexAddr 40 (Go.Operand.tmp 181) (Go.Operand.tmp 182), type := 0, pos := "outright.go:135", after := #[{ on := 3, ground := Go.Ground.data }, { on := 4, ground := Go.Ground.data }, { on := 0, ground := Go.Ground.phase }, { on := 1, ground := Go.Ground.phase }, { on := 2, ground := Go.Ground.phase }, { on := 3, ground := Go.Ground.phase }, { on := 4, ground := Go.Ground.phase }, { on := 5, ground := Go.Ground.phase }, { on := 6, ground := Go.Ground.phase }, { on := 7, ground := Go.Ground.phase }, { on := 8, ground := Go.Ground.phase }, { on := 9, ground := Go.Ground.phase }, { on := 10, ground := Go.Ground.phase }, { on := 11, ground := Go.Ground.phase }, { on := 12, ground := Go.Ground.phase }], guard := none }) (v := _) rfl (by kernel_rfl) (by kernel_rfl) (by kernel_rfl) (fun _ _ _ h => h) (by kernel_rfl) (Or.inl ⟨by rfl, ?hy44⟩) hS8 ?rest44
                              case hy44 => (intro W hSw; go_simp; try (with_reducible rfl))
                              try simp only [Act.put, List.setIfInBounds_toArray, List.set_cons_zero, List.set_cons_succ]
                              refine wpAnyD_one (i := 14) (o := { dst := none, op := Go.Op.store 22 (Go.Operand.tmp 191) (Go.Operand.tmp 190), type := 0, pos := "outright.go:135", after := #[{ on := 13, ground := Go.Ground.data }, { on := 12, ground := Go.Ground.data }, { on := 12, ground := Go.Ground.chain }, { on := 0, ground := Go.Ground.phase }, { on := 1, ground := Go.Ground.phase }, { on := 2, ground := Go.Ground.phase }, { on := 3, ground := Go.Ground.phase }, { on := 4, ground := Go.Ground.phase }, { on := 5, ground := Go.Ground.phase }, { on := 6, ground := Go.Ground.phase }, { on := 7, ground := Go.Ground.phase }, { on := 8, ground := Go.Ground.phase }, { on := 9, ground := Go.Ground.phase }, { on := 10, ground := Go.Ground.phase }, { on := 11, ground := Go.Ground.phase }, { on := 12, ground := Go.Ground.phase }], guard := none }) (by kernel_rfl) rfl (fun K hK => ?_)
                              have c8 := hS8.2.1
                              have f8 := HF8.out
                              have l8 := hS8.2.2
                              go_simp
                              generalize (w8.setCell ⟨cg, i, none⟩ (.slice (some ⟨g8, 0, none⟩) (ln + 1) cap8)) = w9 at ST ⊢
                              clear c8 f8 l8
                              refine hK.out _ _ (fun hD => absurd (by decide) hD) ?_
                              clear hK K
                              try simp only [Act.put, List.setIfInBounds_toArray, List.set_cons_zero, List.set_cons_succ]
                              refine wpAnyD_done (by kernel_rfl) ?_ _
                              clear hS0 hS8 y0 zz1 hmk
                              go_wp2_with fail
                              go_roundw
                              case rel => exact ⟨i + 1, _, by omega, by go_num, ST.out⟩
                              case measure => simp [RowKit.intOf]; omega
                            · have hltz : ¬ (i : Int) < (mN : Int) := by omega
                              have G2 : Hid (Bk B wr kb ⟨qO, mO, kO⟩ ⟨qC, mC, kC⟩ ⟨qN, mN, kN⟩ ⟨qD, mD, kD⟩ uO (grwn fO lO lO.length) uC (grwn fC lC lC.length) uu (grwn fN lN lN.length) vD (mkd fD lD lD.length) ∧ Kp (fun k => B ≤ k) w wr) := by
                                have h := HI.out
                                have h2 : mN = uu.length := (owns_caps h.1.rN _ _ _ rfl).1
                                have h3 := h.1.fN.len
                                have h4 : (grwn fN lN i).length = lN.length := by
                                  simp [grwn, mkd_len]
                                  have h5 := HSN.out.1
                                  by_cases e : i ≤ lN.length
                                  · omega
                                  · exfalso
                                    simp [grwn, mkd_len] at h3
                                    omega
                                rw [show i = lN.length by omega] at h
                                exact h
                              obtain ⟨uN, huN⟩ : ∃ u, u = uu := ⟨_, rfl⟩
                              rw [← huN] at G2
                              clear HI huN
                              have cb := (tk_store G2.out.1.blk).1
                              simp only [LV.v] at cb
                              have lb := tk_lt G2.out.1.blk
                              go_upto_region 52 with fail
                              clear cb lb
                              go_loopw [198] (fun s wr => ∃ (i : Nat) (uu : List LV), i ≤ mD ∧ s = .int .i64 (i : Nat) ∧ Hid (Bk B wr kb ⟨qO, mO, kO⟩ ⟨qC, mC, kC⟩ ⟨qN, mN, kN⟩ ⟨qD, mD, kD⟩ uO (grwn fO lO lO.length) uC (grwn fC lC lC.length) uN (grwn fN lN lN.length) uu (grwn fD lD i) ∧ Kp (fun k => B ≤ k) w wr)) (fun s _ => mD - (RowKit.intOf s).toNat)
                              case atStart => exact ⟨0, vD, Nat.zero_le _, rfl, by rw [grwn_zero]; exact G2.out⟩
                              case round =>
                                clear G2
                                obtain ⟨i, uu, hi, rfl, HI⟩ := hrel
                                by_cases hlt : i < mD
                                · have hltz : (i : Int) < (mD : Int) := by omega
                                  have hi0 : (0 : Int) ≤ (i : Int) := by omega
                                  have hcm : mD = uu.length := (owns_caps HI.out.1.rD _ _ _ rfl).1
                                  obtain ⟨v, hv⟩ : ∃ v, uu[i]? = some v := ⟨uu[i]'(by omega), List.getElem?_eq_getElem (by omega)⟩
                                  obtain ⟨l, hl⟩ : ∃ l, lD[i]? = some l := ⟨lD[i]'(by
                                    have h1 := HI.out.1.fD.len
                                    have h2 : (grwn fD lD i).length = lD.length := by simp [grwn, mkd_len]; omega
                                    omega), List.getElem?_eq_getElem _⟩
                                  have hsl : l.length ≤ 1000 := HSD.out.2 l (List.mem_of_getElem? hl)
                                  have hil : i ≤ 1000 := by have := HSD.out.1; have := (List.getElem?_eq_some_iff.1 hl).1; omega
                                  have hrow := HI.out.1.fD.each i v _ hv (grwn_get fD hl)
                                  have hvm : v.m = l.length := by
                                    have := (owns_caps hrow _ _ _ rfl).1
                                    rwa [mksF_len] at this
                                  obtain ⟨cg, o1, cc, e1, zz1, y0⟩ := ls_atL (owns_ls (E := EL) HI.out.1.rD) hv
                                  have ho1 : o1 = 0 := by
                                    rcases HI.out.1.rD.2 with ⟨h0, _⟩ | ⟨g, cap, cur, h0, _⟩
                                    · rw [e1] at h0; cases h0
                                    · rw [e1] at h0
                                      simp only [Value.slice.injEq, Option.some.injEq, Addr.mk.injEq] at h0
                                      exact h0.1.2.1
                                  subst ho1
                                  rw [Nat.zero_add] at y0
                                  simp only [LV.v, Value.slice.injEq] at e1
                                  obtain ⟨rfl, -, rfl⟩ := e1
                                  obtain ⟨vq, vm, vc⟩ := v
                                  simp only at hvm
                                  subst hvm
                                  have HVL : Hid (uu[i]? = some ⟨vq, l.length, vc⟩ ∧ lD[i]? = some l ∧ mD = uu.length) := ⟨hv, hl, hcm⟩
                                  have HRW : Hid (wr.ownsRow B 69 5 (.slice vq l.length vc) l.length (fl ED (mksF fD i l.length))) := owns_re hrow (mksF_len _ _ _) rfl
                                  have hmk := fun W => mark_any i l.length (by omega) (by omega) W
                                  have HBW : Hid (B ≤ wr.heap.size) := Nat.le_trans HI.out.1.low (Nat.le_of_lt (tk_lt HI.out.1.blk))
                                  have frc := HI.out.1.rD
                                  have FRC : Hid (wr.frozen? ⟨cg, i, none⟩ = false) := by
                                    have h := HI.out.1.rD
                                    have e : (LV.v ⟨some ⟨cg, 0, none⟩, mD, kD⟩) = .slice (some ⟨cg, 0, none⟩) uu.length kD := by rw [← hcm]
                                    rw [e] at h
                                    exact h.frozenAt i
                                  clear hv hl hrow frc hcm
                                  generalize hln : l.length = ln at *
                                  have HLN := hid hln
                                  clear hln
                                  simp only [LV.v] at y0
                                  go_upto_region 54 with fail
                                  have hS0 : wr.drew.heap[kb]? = some (.cells #[LV.v ⟨qO, mO, kO⟩, LV.v ⟨qC, mC, kC⟩, LV.v ⟨qN, mN, kN⟩, LV.v ⟨some ⟨cg, 0, none⟩, mD, kD⟩] 43 (0, 0)) ∧ wr.drew.cell? ⟨cg, i, none⟩ = some (.slice vq ln vc) ∧ cg < wr.drew.heap.size := ⟨HI.out.1.blk, y0, zz1⟩
                                  have HS0 := hid hS0
                                  refine wp_regionD (S := fun W => W.heap[kb]? = some (.cells #[LV.v ⟨qO, mO, kO⟩, LV.v ⟨qC, mC, kC⟩, LV.v ⟨qN, mN, kN⟩, LV.v ⟨some ⟨cg, 0, none⟩, mD, kD⟩] 43 (0, 0)) ∧ W.cell? ⟨cg, i, none⟩ = some (.slice vq ln vc) ∧ cg < W.heap.size) (D := [14]) hmx ?_
                                  refine' wpAnyD_take (i := 0) (oi := { dst := some 203, op := Go.Op.move (Go.Operand.tmp 0), type := 37, pos := "outright.go:138", after := #[], guard := none }) (v := _) rfl (by kernel_rfl) (by kernel_rfl) (by kernel_rfl) (fun _ _ _ h => h) (by kernel_rfl) (Or.inl ⟨by rfl, ?hy46⟩) hS0 ?rest46
                                  case hy46 => (intro W hSw; go_simp; try (with_reducible rfl))
                                  try simp only [Act.put, List.setIfInBounds_toArray, List.set_cons_zero, List.set_cons_succ]
                                  refine' wpAnyD_take (i := 1) (oi := { dst := some 204, op := Go.Op.nilCheck (Go.Operand.tmp 203), type := 0, pos := "outright.go:138", after := #[{ on := 0, ground := Go.Ground.data }], guard := none }) (v := _) rfl (by kernel_rfl) (by kernel_rfl) (by kernel_rfl) (fun _ _ _ h => h) (by kernel_rfl) (Or.inl ⟨by rfl, ?hy47⟩) hS0 ?rest47
                                  case hy47 => (intro W hSw; go_simp; try (with_reducible rfl))
                                  try simp only [Act.put, List.setIfInBounds_toArray, List.set_cons_zero, List.set_cons_succ]
                                  refine' wpAnyD_take (i := 2) (oi := { dst := some 205, op := Go.Op.fieldAddr 43 (Go.Operand.tmp 204) 3, type := 0, pos := "outright.go:138", after := #[{ on := 1, ground := Go.Ground.data }], guard := none }) (v := _) rfl (by kernel_rfl) (by kernel_rfl) (by kernel_rfl) (fun _ _ _ h => h) (by kernel_rfl) (Or.inl ⟨by rfl, ?hy48⟩) hS0 ?rest48
                                  case hy48 => (intro W hSw; go_simp; try (with_reducible rfl))
                                  try simp only [Act.put, List.setIfInBounds_toArray, List.set_cons_zero, List.set_cons_succ]
                                  refine' wpAnyD_take (i := 3) (oi := { dst := some 206, op := Go.Op.load 41 (Go.Operand.tmp 205), type := 41, pos := "outright.go:138", after := #[{ on := 2, ground := Go.Ground.data }], guard := none }) (v := _) rfl (by kernel_rfl) (by kernel_rfl) (by kernel_rfl) (fun _ _ _ h => h) (by kernel_rfl) (Or.inl ⟨by rfl, ?hy49⟩) hS0 ?rest49
                                  case hy49 => (intro W hSw; have hc := (tk_store hSw.1).1; simp only [LV.v] at hc; have hl := tk_lt hSw.1; go_simp; try (with_reducible rfl))
                                  try simp only [Act.put, List.setIfInBounds_toArray, List.set_cons_zero, List.set_cons_succ]
                                  refine' wpAnyD_take (i := 4) (oi := { dst := some 207, op := Go.Op.move (Go.Operand.tmp 20), type := 3, pos := "outright.go:138", after := #[], guard := none }) (v := _) rfl (by kernel_rfl) (by kernel_rfl) (by kernel_rfl) (fun _ _ _ h => h) (by kernel_rfl) (Or.inl ⟨by rfl, ?hy50⟩) hS0 ?rest50
                                  case hy50 => (intro W hSw; go_simp; try (with_reducible rfl))
                                  try simp only [Act.put, List.setIfInBounds_toArray, List.set_cons_zero, List.set_cons_succ]
                                  refine' wpAnyD_take (i := 5) (oi := { dst := some 208, op := Go.Op.move (Go.Operand.tmp 21), type := 23, pos := "outright.go:138", after := #[], guard := none }) (v := _) rfl (by kernel_rfl) (by kernel_rfl) (by kernel_rfl) (fun _ _ _ h => h) (by kernel_rfl) (Or.inl ⟨by rfl, ?hy51⟩) hS0 ?rest51
                                  case hy51 => (intro W hSw; go_simp; try (with_reducible rfl))
                                  try simp only [Act.put, List.setIfInBounds_toArray, List.set_cons_zero, List.set_cons_succ]
                                  refine' wpAnyD_take (i := 6) (oi := { dst := some 209, op := Go.Op.move (Go.Operand.tmp 20), type := 3, pos := "outright.go:138", after := #[], guard := none }) (v := _) rfl (by kernel_rfl) (by kernel_rfl) (by kernel_rfl) (fun _ _ _ h => h) (by kernel_rfl) (Or.inl ⟨by rfl, ?hy52⟩) hS0 ?rest52
                                  case hy52 => (intro W hSw; go_simp; try (with_reducible rfl))
                                  try simp only [Act.put, List.setIfInBounds_toArray, List.set_cons_zero, List.set_cons_succ]
                                  refine' wpAnyD_take (i := 7) (oi := { dst := some 210, op := Go.Op.move (Go.Operand.tmp 21), type := 23, pos := "outright.go:138", after := #[], guard := none }) (v := _) rfl (by kernel_rfl) (by kernel_rfl) (by kernel_rfl) (fun _ _ _ h => h) (by kernel_rfl) (Or.inl ⟨by rfl, ?hy53⟩) hS0 ?rest53
                                  case hy53 => (intro W hSw; go_simp; try (with_reducible rfl))
                                  try simp only [Act.put, List.setIfInBounds_toArray, List.set_cons_zero, List.set_cons_succ]
                                  refine' wpAnyD_take (i := 8) (oi := { dst := some 211, op := Go.Op.call { callee := Go.Callee.builtin Go.Builtin.len, args := #[Go.Operand.tmp 210], argTypes := #[23] }, type := 3, pos := "outright.go:138", after := #[{ on := 7, ground := Go.Ground.data }], guard := none }) (v := _) rfl (by kernel_rfl) (by kernel_rfl) (by kernel_rfl) (fun _ _ _ h => h) (by kernel_rfl) (Or.inl ⟨by rfl, ?hy54⟩) hS0 ?rest54
                                  case hy54 => (intro W hSw; go_simp; try (with_reducible rfl))
                                  try simp only [Act.put, List.setIfInBounds_toArray, List.set_cons_zero, List.set_cons_succ]
                                  refine wpAnyD_one (i := 9) (o := { dst := some 212, op := Go.Op.call { callee := Go.Callee.value (Go.Operand.func 29), args := #[Go.Operand.tmp 209, Go.Operand.tmp 211], argTypes := #[3, 3] }, type := 3, pos := "outright.go:138", after := #[{ on := 6, ground := Go.Ground.data }, { on := 8, ground := Go.Ground.data }], guard := none }) (by kernel_rfl) rfl (fun K hK => ?_)
                                  go_simp
                                  refine (hmk _).mono ?_
                                  rintro r w6 ⟨rfl, h6⟩
                                  subst h6
                                  go_wp2_with fail
                                  refine hK.out _ _ (fun hD => HS0.out) ?_
                                  clear hK K
                                  try simp only [Act.put, List.setIfInBounds_toArray, List.set_cons_zero, List.set_cons_succ]
                                  refine' wpAnyD_take (i := 10) (oi := { dst := some 213, op := Go.Op.build 69 #[(0, Go.Operand.tmp 212)], type := 69, pos := "outright.go:138", after := #[{ on := 9, ground := Go.Ground.data }], guard := none }) (v := _) rfl (by kernel_rfl) (by kernel_rfl) (by kernel_rfl) (fun _ _ _ h => h) (by kernel_rfl) (Or.inl ⟨by rfl, ?hy56⟩) HS0.out ?rest56
                                  case hy56 => (intro W hSw; go_simp; try (with_reducible rfl))
                                  try simp only [Act.put, List.setIfInBounds_toArray, List.set_cons_zero, List.set_cons_succ]
                                  refine wpAnyD_one (i := 11) (o := { dst := some 214, op := Go.Op.buildSlice 23 1 #[(0, Go.Operand.tmp 213)], type := 23, pos := "outright.go:138", after := #[{ on := 10, ground := Go.Ground.data }], guard := none }) (by kernel_rfl) rfl (fun K hK => ?_)
                                  go_simp
                                  have b7 := ((Gr.refl wr).drew.alloc (.cells #[(.int .i64 (mkI i ln)), (.int .i64 0), (.int .i64 0), (.int .i64 0), (.bool false)] 69)).below
                                  have hS7 := (show _ ∧ _ ∧ _ from ⟨(b7.block _ (tk_lt HS0.out.1)).trans HS0.out.1, (b7.cell (p := ⟨cg, i, none⟩) HS0.out.2.2).trans HS0.out.2.1, Nat.lt_of_lt_of_le HS0.out.2.2 b7.size⟩)
                                  clear b7
                                  refine hK.out _ _ (fun hD => hS7) ?_
                                  clear hK K
                                  try simp only [Act.put, List.setIfInBounds_toArray, List.set_cons_zero, List.set_cons_succ]
                                  refine wpAnyD_one (i := 12) (o := { dst := some 215, op := Go.Op.call { callee := Go.Callee.builtin Go.Builtin.append, args := #[Go.Operand.tmp 208, Go.Operand.tmp 214], argTypes := #[23, 23] }, type := 23, pos := "outright.go:138", after := #[{ on := 5, ground := Go.Ground.data }, { on := 11, ground := Go.Ground.data }, { on := 9, ground := Go.Ground.chain }], guard := none }) (by kernel_rfl) rfl (fun K hK => ?_)
                                  refine step_app1 ED Try.underlying23 infoD rfl (by decide) rfl _ _ rfl B (.slice vq ln vc) ln (fl ED (mksF fD i ln)) rfl (show (wr.drew).ownsRow B 69 5 (.slice vq ln vc) ln (fl ED (mksF fD i ln)) from HRW.out) (fD (mkI i ln)) (by first | rfl | simp) (by omega) (by unfold maxLen; omega) HBW.out _ rfl _ ?_
                                  intro g8 cap8 w8 h8 k8 n8
                                  have K8 := Kp.grownBy (S := fun k => (Value.slice vq ln vc).ownBlock = some k) k8.out (fun _ h => h)
                                  have O8 : w8.ownsRow B 69 5 (LV.v ⟨some ⟨g8, 0, none⟩, ln + 1, cap8⟩) (mksF fD i (ln + 1)).length (fl ED (mksF fD i (ln + 1))) := owns_re h8.out (mksF_len _ _ _).symm (by rw [mksF_succ, fl_append, fl_one])
                                  have IB : Bk B wr kb ⟨qO, mO, kO⟩ ⟨qC, mC, kC⟩ ⟨qN, mN, kN⟩ ⟨some ⟨cg, 0, none⟩, mD, kD⟩ uO (grwn fO lO lO.length) uC (grwn fC lC lC.length) uN (grwn fN lN lN.length) uu (grwn fD lD i) := HI.out.1
                                  have ST : Hid (Bk B (w8.setCell ⟨cg, i, none⟩ (.slice (some ⟨g8, 0, none⟩) (ln + 1) cap8)) kb ⟨qO, mO, kO⟩ ⟨qC, mC, kC⟩ ⟨qN, mN, kN⟩ ⟨some ⟨cg, 0, none⟩, mD, kD⟩ uO (grwn fO lO lO.length) uC (grwn fC lC lC.length) uN (grwn fN lN lN.length) (uu.set i ⟨some ⟨g8, 0, none⟩, ln + 1, cap8⟩) (grwn fD lD (i + 1)) ∧ Kp (fun k => B ≤ k) w (w8.setCell ⟨cg, i, none⟩ (.slice (some ⟨g8, 0, none⟩) (ln + 1) cap8))) := by
                                    have h := Bk.growD (w := wr.drew) (v' := ⟨some ⟨g8, 0, none⟩, ln + 1, cap8⟩) (cg := cg) (cc := kD) (show Bk B wr.drew kb ⟨qO, mO, kO⟩ ⟨qC, mC, kC⟩ ⟨qN, mN, kN⟩ ⟨some ⟨cg, 0, none⟩, mD, kD⟩ uO (grwn fO lO lO.length) uC (grwn fC lC lC.length) uN (grwn fN lN lN.length) uu (grwn fD lD i) from (by have h := IB; exact ⟨h.blk, h.low, h.rO, h.rC, h.rN, h.rD, h.fO.below (Gr.refl wr).drew.below, h.fC.below (Gr.refl wr).drew.below, h.fN.below (Gr.refl wr).drew.below, h.fD.below (Gr.refl wr).drew.below⟩)) HVL.out.1 O8 K8 (fun b e => by
                                      obtain rfl : g8 = b := by simpa [LV.v, Value.ownBlock] using e
                                      exact n8.out) (by rw [← HVL.out.2.2])
                                    have h2 := grwn_succ fD HVL.out.2.1
                                    rw [HLN.out] at h2
                                    rw [h2] at h
                                    exact ⟨h.1, (HI.out.2.trans (Kp.of_gr (Gr.refl wr).drew) (fun _ _ h => h)).trans h.2 (fun _ _ h => h)⟩
                                  have hS8 : w8.heap[kb]? = some (.cells #[LV.v ⟨qO, mO, kO⟩, LV.v ⟨qC, mC, kC⟩, LV.v ⟨qN, mN, kN⟩, LV.v ⟨some ⟨cg, 0, none⟩, mD, kD⟩] 43 (0, 0)) ∧ w8.cell? ⟨cg, i, none⟩ = some (.slice vq ln vc) ∧ cg < w8.heap.size := ⟨(K8.block _ (tk_lt HS0.out.1) (fun e => owns_ne_blk HRW.out HS0.out.1 (by decide) kb e rfl)).trans HS0.out.1, (K8.cell (o := i) HS0.out.2.2 (fun e => owns_ne_own HRW.out IB.rD (by decide) cg e rfl)).trans HS0.out.2.1, Nat.lt_of_lt_of_le HS0.out.2.2 K8.size⟩
                                  have HF8 : Hid (w8.frozen? ⟨cg, i, none⟩ = false) := by
                                    have h := owns_kp K8 (show (wr.drew).ownsRow B 23 1 (LV.v ⟨some ⟨cg, 0, none⟩, mD, kD⟩) uu.length (fl EL uu) from IB.rD) (fun b e e2 => owns_ne_own IB.rD HRW.out (by decide) b e e2)
                                    have e : (LV.v ⟨some ⟨cg, 0, none⟩, mD, kD⟩) = .slice (some ⟨cg, 0, none⟩) uu.length kD := by rw [← HVL.out.2.2]
                                    rw [e] at h
                                    exact h.frozenAt i
                                  clear h8 k8 n8 K8 O8 IB hS7
                                  refine hK.out _ _ (fun hD => hS8) ?_
                                  clear hK K
                                  try simp only [Act.put, List.setIfInBounds_toArray, List.set_cons_zero, List.set_cons_succ]
                                  refine' wpAnyD_take (i := 13) (oi := { dst := some 216, op := Go.Op.indexAddr 41 (Go.Operand.tmp 206) (Go.Operand.tmp 207), type := 0, pos := "outright.go:138", after := #[{ on := 3, ground := Go.Ground.data }, { on := 4, ground := Go.Ground.data }, { on := 0, ground := Go.Ground.phase }, { on := 1, ground := Go.Ground.phase }, { on := 2, ground := Go.Ground.phase }, { on := 3, ground := Go.Ground.phase }, { on := 4, ground := Go.Ground.phase }, { on := 5, ground := Go.Ground.phase }, { on := 6, ground := Go.Ground.phase }, { on := 7, ground := Go.Ground.phase }, { on := 8, ground := Go.Ground.phase }, { on := 9, ground := Go.Ground.phase }, { on := 10, ground := Go.Ground.phase }, { on := 11, ground := Go.Ground.phase }, { on := 12, ground := Go.Ground.phase }], guard := none }) (v := _) rfl (by kernel_rfl) (by kernel_rfl) (by kernel_rfl) (fun _ _ _ h => h) (by kernel_rfl) (Or.inl ⟨by rfl, ?hy59⟩) hS8 ?rest59
                                  case hy59 => (intro W hSw; go_simp; try (with_reducible rfl))
                                  try simp only [Act.put, List.setIfInBounds_toArray, List.set_cons_zero, List.set_cons_succ]
                                  refine wpAnyD_one (i := 14) (o := { dst := none, op := Go.Op.store 23 (Go.Operand.tmp 216) (Go.Operand.tmp 215), type := 0, pos := "outright.go:138", after := #[{ on := 13, ground := Go.Ground.data }, { on := 12, ground := Go.Ground.data }, { on := 12, ground := Go.Ground.chain }, { on := 0, ground := Go.Ground.phase }, { on := 1, ground := Go.Ground.phase }, { on := 2, ground := Go.Ground.phase }, { on := 3, ground := Go.Ground.phase }, { on := 4, ground := Go.Ground.phase }, { on := 5, ground := Go.Ground.phase }, { on := 6, ground := Go.Ground.phase }, { on := 7, ground := Go.Ground.phase }, { on := 8, ground := Go.Ground.phase }, { on := 9, ground := Go.Ground.phase }, { on := 10, ground := Go.Ground.phase }, { on := 11, ground := Go.Ground.phase }, { on := 12, ground := Go.Ground.phase }], guard := none }) (by kernel_rfl) rfl (fun K hK => ?_)
                                  have c8 := hS8.2.1
                                  have f8 := HF8.out
                                  have l8 := hS8.2.2
                                  go_simp
                                  generalize (w8.setCell ⟨cg, i, none⟩ (.slice (some ⟨g8, 0, none⟩) (ln + 1) cap8)) = w9 at ST ⊢
                                  clear c8 f8 l8
                                  refine hK.out _ _ (fun hD => absurd (by decide) hD) ?_
                                  clear hK K
                                  try simp only [Act.put, List.setIfInBounds_toArray, List.set_cons_zero, List.set_cons_succ]
                                  refine wpAnyD_done (by kernel_rfl) ?_ _
                                  clear hS0 hS8 y0 zz1 hmk
                                  go_wp2_with fail
                                  go_roundw
                                  case rel => exact ⟨i + 1, _, by omega, by go_num, ST.out⟩
                                  case measure => simp [RowKit.intOf]; omega
                                · have hltz : ¬ (i : Int) < (mD : Int) := by omega
                                  have G3 : Hid (Bk B wr kb ⟨qO, mO, kO⟩ ⟨qC, mC, kC⟩ ⟨qN, mN, kN⟩ ⟨qD, mD, kD⟩ uO (grwn fO lO lO.length) uC (grwn fC lC lC.length) uN (grwn fN lN lN.length) uu (grwn fD lD lD.length) ∧ Kp (fun k => B ≤ k) w wr) := by
                                    have h := HI.out
                                    have h2 : mD = uu.length := (owns_caps h.1.rD _ _ _ rfl).1
                                    have h3 := h.1.fD.len
                                    have h4 : (grwn fD lD i).length = lD.length := by
                                      simp [grwn, mkd_len]
                                      have h5 := HSD.out.1
                                      by_cases e : i ≤ lD.length
                                      · omega
                                      · exfalso
                                        simp [grwn, mkd_len] at h3
                                        omega
                                    rw [show i = lD.length by omega] at h
                                    exact h
                                  obtain ⟨uD, huD⟩ : ∃ u, u = uu := ⟨_, rfl⟩
                                  rw [← huD] at G3
                                  clear HI huD
                                  go_wp2_with fail
                                  go_end0
                                  exact ⟨rfl, _, _, _, _, G3.out⟩
end Go.Proofs.Ytkopmkmfigenlaa.Df
