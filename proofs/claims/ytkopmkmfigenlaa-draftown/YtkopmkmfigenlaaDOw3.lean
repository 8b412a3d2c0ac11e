import Derived.Test.YtkopmkmfigenlaaDOw1
import Derived.BigQuiet
namespace Go.Proofs.Ytkopmkmfigenlaa.Df
open Go.RowKit Go.Sort Wi
attribute [local go_sem ↓] Go.wp_at_zero Go.wp_at_succ

/-- All lists have their marks. -/
def Md {α : Type} (f : Int → α) (ls : List (List α)) : Prop := ls.length ≤ 1000 ∧ ∀ (i : Nat) (l : List α), ls[i]? = some l → l = mksF f i l.length ∧ l.length ≤ 1001
set_option maxRecDepth 100000 in
set_option maxHeartbeats 8000000 in
theorem stands_any {B kb : Nat} {cO cC cN cD : LV} {vO : List LV} {lO : List (List Opd)} {vC : List LV} {lC : List (List Con)} {vN : List LV} {lN : List (List NV)} {vD : List LV} {lD : List (List Edg)} (w : World) (hB : Bk B w kb cO cC cN cD vO lO vC lC vN lN vD lD) (sO : Md fO lO) (sC : Md fC lC) (sN : Md fN lN) (sD : Md fD lD) : Calls Try.prog 14 #[.pointer (some ⟨kb, 0, none⟩)] w fun r w' => r = .returned (.bool true) ∧ Gr w w' := by
  have hmx : Try.prog.follows .mixedOrders = true := by kernel_rfl
  have PS : Hid (Gr w w) := Gr.refl _
  have HSO := hid sO
  have HSC := hid sC
  have HSN := hid sN
  have HSD := hid sD
  have HB := hid hB
  clear hB sO sC sN sD
  obtain ⟨qO, mO, kO⟩ := cO
  obtain ⟨qC, mC, kC⟩ := cC
  obtain ⟨qN, mN, kN⟩ := cN
  obtain ⟨qD, mD, kD⟩ := cD
  go_enter Try.func14, Try.ntmps14
  have hb0 := (PS.out.below.block _ (tk_lt HB.out.blk)).trans HB.out.blk
  have cb := (tk_store hb0).1
  simp only [LV.v] at cb
  have lb := tk_lt hb0
  go_upto_region 2 with fail
  clear cb lb hb0
  go_loopw [20] (fun s wr => ∃ i : Nat, i ≤ mO ∧ s = .int .i64 (i : Nat) ∧ Hid (Gr w wr)) (fun s _ => mO - (RowKit.intOf s).toNat)
  case atStart => exact ⟨0, Nat.zero_le _, rfl, PS.out⟩
  case round =>
    clear PS
    obtain ⟨i, hi, rfl, HI⟩ := hrel
    have hcm : mO = vO.length := (owns_caps HB.out.rO _ _ _ rfl).1
    have hm9 : mO ≤ 1000 := by have := HB.out.fO.len; have := HSO.out.1; omega
    by_cases hlt : i < mO
    · have hltz : (i : Int) < (mO : Int) := by omega
      have hi0 : (0 : Int) ≤ (i : Int) := by omega
      obtain ⟨v, hv⟩ : ∃ v, vO[i]? = some v := ⟨vO[i]'(by omega), List.getElem?_eq_getElem (by omega)⟩
      obtain ⟨l, hl, hrow⟩ := HB.out.fO.row hv
      have hml := HSO.out.2 i l hl
      have hvm : v.m = l.length := (owns_caps hrow _ _ _ rfl).1
      obtain ⟨b1, o1, q1, e1, zz1, y0⟩ := ls_atL ((owns_ls (E := EL) HB.out.rO).below HI.out.below) hv
      simp only [LV.v, Value.slice.injEq] at e1
      obtain ⟨vq, vm, vc⟩ := v
      simp only [LV.v] at y0
      have HRW := hid hrow
      have HML := hid hml
      have hl9 : l.length ≤ 1001 := hml.2
      have HVM : Hid (vm = l.length) := hvm
      have hq1 := e1.1
      have hq2 := e1.2.2
      rw [hq1, hq2]
      clear hv hl hrow hml hvm hcm hq1 hq2
      go_upto_region 5 with fail
      clear y0 zz1
      go_loopw [27] (fun s wr => ∃ j : Nat, j ≤ l.length ∧ s = .int .i64 (j : Nat) ∧ Hid (Gr w wr)) (fun s _ => l.length - (RowKit.intOf s).toNat)
      case atStart => exact ⟨0, Nat.zero_le _, rfl, HI.out⟩
      case round =>
        clear HI
        obtain ⟨j, hj, rfl, HI⟩ := hrel
        by_cases hjl : j < l.length
        · have hjz : (j : Int) < (vm : Int) := by have := HVM.out; omega
          have hj0 : (0 : Int) ≤ (j : Int) := by omega
          have hz : l[j]? = some (fO (mkI i j)) := by
            rw [HML.out.1]
            exact mksF_get fO hjl
          obtain ⟨b8, o8, c9, e8, zz8, x0, x1⟩ := ls_atO ((owns_ls (E := EO) HRW.out).below HI.out.below) hz
          simp only [LV.v, Value.slice.injEq] at e8
          have hq3 := e8.1
          have hq4 := e8.2.2
          rw [hq3, hq4]
          have y0 : wr.cell? ⟨b8, o8 + j * 2, none⟩ = some (.int .i64 (mkI i j)) := x0
          have y1 : wr.cell? ⟨b8, o8 + j * 2 + 1, none⟩ = some (.int .u64 0) := x1
          have hmk := fun W => mark_any i j (by omega) (by omega) W
          have heq : ∀ W, Sem.run Try.prog (Op.equalIn 10000 78 (.agg #[.int .i64 (mkI i j), .int .u64 0]) (.agg #[.int .i64 (mkI i j), .int .u64 0])) W = .ok true W := fun W => (run_eqO (fO (mkI i j)) (fO (mkI i j)) W).trans (by rw [decide_eq_true rfl])
          clear x0 x1 hz e8 hq3 hq4
          go_upto_region 7 with fail
          go_quiet (first | (go_at_call 29; exact Calls.quiet_of_same (hmk _)))
          have G1 := hid (HI.out.drewN nq)
          clear y0 y1 zz8 hmk heq
          go_wp2_with fail
          go_roundw
          case rel => exact ⟨j + 1, by omega, by go_num, G1.out⟩
          case measure => simp [RowKit.intOf]; omega
        · have hjz : ¬ (j : Int) < (vm : Int) := by have := HVM.out; omega
          go_wp2_with fail
          go_roundw
          case rel => exact ⟨i + 1, by omega, by go_num, HI.out⟩
          case measure => simp [RowKit.intOf]; omega
    · have hltz : ¬ (i : Int) < (mO : Int) := by omega
      have P0 := HI
      clear HI
      have hb0 := (P0.out.below.block _ (tk_lt HB.out.blk)).trans HB.out.blk
      have cb := (tk_store hb0).1
      simp only [LV.v] at cb
      have lb := tk_lt hb0
      go_upto_region 12 with fail
      clear cb lb hb0
      go_loopw [46] (fun s wr => ∃ i : Nat, i ≤ mC ∧ s = .int .i64 (i : Nat) ∧ Hid (Gr w wr)) (fun s _ => mC - (RowKit.intOf s).toNat)
      case atStart => exact ⟨0, Nat.zero_le _, rfl, P0.out⟩
      case round =>
        clear P0
        obtain ⟨i, hi, rfl, HI⟩ := hrel
        have hcm : mC = vC.length := (owns_caps HB.out.rC _ _ _ rfl).1
        have hm9 : mC ≤ 1000 := by have := HB.out.fC.len; have := HSC.out.1; omega
        by_cases hlt : i < mC
        · have hltz : (i : Int) < (mC : Int) := by omega
          have hi0 : (0 : Int) ≤ (i : Int) := by omega
          obtain ⟨v, hv⟩ : ∃ v, vC[i]? = some v := ⟨vC[i]'(by omega), List.getElem?_eq_getElem (by omega)⟩
          obtain ⟨l, hl, hrow⟩ := HB.out.fC.row hv
          have hml := HSC.out.2 i l hl
          have hvm : v.m = l.length := (owns_caps hrow _ _ _ rfl).1
          obtain ⟨b1, o1, q1, e1, zz1, y0⟩ := ls_atL ((owns_ls (E := EL) HB.out.rC).below HI.out.below) hv
          simp only [LV.v, Value.slice.injEq] at e1
          obtain ⟨vq, vm, vc⟩ := v
          simp only [LV.v] at y0
          have HRW := hid hrow
          have HML := hid hml
          have hl9 : l.length ≤ 1001 := hml.2
          have HVM : Hid (vm = l.length) := hvm
          have hq1 := e1.1
          have hq2 := e1.2.2
          rw [hq1, hq2]
          clear hv hl hrow hml hvm hcm hq1 hq2
          go_upto_region 15 with fail
          clear y0 zz1
          go_loopw [53] (fun s wr => ∃ j : Nat, j ≤ l.length ∧ s = .int .i64 (j : Nat) ∧ Hid (Gr w wr)) (fun s _ => l.length - (RowKit.intOf s).toNat)
          case atStart => exact ⟨0, Nat.zero_le _, rfl, HI.out⟩
          case round =>
            clear HI
            obtain ⟨j, hj, rfl, HI⟩ := hrel
            by_cases hjl : j < l.length
            · have hjz : (j : Int) < (vm : Int) := by have := HVM.out; omega
              have hj0 : (0 : Int) ≤ (j : Int) := by omega
              have hz : l[j]? = some (fC (mkI i j)) := by
                rw [HML.out.1]
                exact mksF_get fC hjl
              obtain ⟨b8, o8, c9, e8, zz8, x0, x1, x2, x3, x4⟩ := ls_atC ((owns_ls (E := EC) HRW.out).below HI.out.below) hz
              simp only [LV.v, Value.slice.injEq] at e8
              have hq3 := e8.1
              have hq4 := e8.2.2
              rw [hq3, hq4]
              have y0 : wr.cell? ⟨b8, o8 + j * 5, none⟩ = some (.int .i64 (mkI i j)) := x0
              have y1 : wr.cell? ⟨b8, o8 + j * 5 + 1, none⟩ = some (.int .i64 0) := x1
              have y2 : wr.cell? ⟨b8, o8 + j * 5 + 2, none⟩ = some (.int .u64 0) := x2
              have y3 : wr.cell? ⟨b8, o8 + j * 5 + 3, none⟩ = some (.int .u64 0) := x3
              have y4 : wr.cell? ⟨b8, o8 + j * 5 + 4, none⟩ = some (.int .u64 0) := x4
              have hmk := fun W => mark_any i j (by omega) (by omega) W
              have heq : ∀ W, Sem.run Try.prog (Op.equalIn 10000 80 (.agg #[.int .i64 (mkI i j), .int .i64 0, .int .u64 0, .int .u64 0, .int .u64 0]) (.agg #[.int .i64 (mkI i j), .int .i64 0, .int .u64 0, .int .u64 0, .int .u64 0])) W = .ok true W := fun W => (run_eqC (fC (mkI i j)) (fC (mkI i j)) W).trans (by rw [decide_eq_true rfl])
              clear x0 x1 x2 x3 x4 hz e8 hq3 hq4
              go_upto_region 17 with fail
              go_quiet (first | (go_at_call 29; exact Calls.quiet_of_same (hmk _)))
              have G1 := hid (HI.out.drewN nq)
              clear y0 y1 y2 y3 y4 zz8 hmk heq
              go_wp2_with fail
              go_roundw
              case rel => exact ⟨j + 1, by omega, by go_num, G1.out⟩
              case measure => simp [RowKit.intOf]; omega
            · have hjz : ¬ (j : Int) < (vm : Int) := by have := HVM.out; omega
              go_wp2_with fail
              go_roundw
              case rel => exact ⟨i + 1, by omega, by go_num, HI.out⟩
              case measure => simp [RowKit.intOf]; omega
        · have hltz : ¬ (i : Int) < (mC : Int) := by omega
          have P1 := HI
          clear HI
          have hb0 := (P1.out.below.block _ (tk_lt HB.out.blk)).trans HB.out.blk
          have cb := (tk_store hb0).1
          simp only [LV.v] at cb
          have lb := tk_lt hb0
          go_upto_region 22 with fail
          clear cb lb hb0
          go_loopw [72] (fun s wr => ∃ i : Nat, i ≤ mN ∧ s = .int .i64 (i : Nat) ∧ Hid (Gr w wr)) (fun s _ => mN - (RowKit.intOf s).toNat)
          case atStart => exact ⟨0, Nat.zero_le _, rfl, P1.out⟩
          case round =>
            clear P1
            obtain ⟨i, hi, rfl, HI⟩ := hrel
            have hcm : mN = vN.length := (owns_caps HB.out.rN _ _ _ rfl).1
            have hm9 : mN ≤ 1000 := by have := HB.out.fN.len; have := HSN.out.1; omega
            by_cases hlt : i < mN
            · have hltz : (i : Int) < (mN : Int) := by omega
              have hi0 : (0 : Int) ≤ (i : Int) := by omega
              obtain ⟨v, hv⟩ : ∃ v, vN[i]? = some v := ⟨vN[i]'(by omega), List.getElem?_eq_getElem (by omega)⟩
              obtain ⟨l, hl, hrow⟩ := HB.out.fN.row hv
              have hml := HSN.out.2 i l hl
              have hvm : v.m = l.length := (owns_caps hrow _ _ _ rfl).1
              obtain ⟨b1, o1, q1, e1, zz1, y0⟩ := ls_atL ((owns_ls (E := EL) HB.out.rN).below HI.out.below) hv
              simp only [LV.v, Value.slice.injEq] at e1
              obtain ⟨vq, vm, vc⟩ := v
              simp only [LV.v] at y0
              have HRW := hid hrow
              have HML := hid hml
              have hl9 : l.length ≤ 1001 := hml.2
              have HVM : Hid (vm = l.length) := hvm
              have hq1 := e1.1
              have hq2 := e1.2.2
              rw [hq1, hq2]
              clear hv hl hrow hml hvm hcm hq1 hq2
              go_upto_region 25 with fail
              clear y0 zz1
              go_loopw [79] (fun s wr => ∃ j : Nat, j ≤ l.length ∧ s = .int .i64 (j : Nat) ∧ Hid (Gr w wr)) (fun s _ => l.length - (RowKit.intOf s).toNat)
              case atStart => exact ⟨0, Nat.zero_le _, rfl, HI.out⟩
              case round =>
                clear HI
                obtain ⟨j, hj, rfl, HI⟩ := hrel
                by_cases hjl : j < l.length
                · have hjz : (j : Int) < (vm : Int) := by have := HVM.out; omega
                  have hj0 : (0 : Int) ≤ (j : Int) := by omega
                  have hz : l[j]? = some (fN (mkI i j)) := by
                    rw [HML.out.1]
                    exact mksF_get fN hjl
                  obtain ⟨b8, o8, c9, e8, zz8, x0, x1, x2, x3, x4, x5, x6, x7, x8, x9⟩ := ls_atV ((owns_ls (E := EV) HRW.out).below HI.out.below) hz
                  simp only [LV.v, Value.slice.injEq] at e8
                  have hq3 := e8.1
                  have hq4 := e8.2.2
                  rw [hq3, hq4]
                  have y0 : wr.cell? ⟨b8, o8 + j * 10, none⟩ = some (.int .i64 (mkI i j)) := x0
                  have y1 : wr.cell? ⟨b8, o8 + j * 10 + 1, none⟩ = some (.int .i64 0) := x1
                  have y2 : wr.cell? ⟨b8, o8 + j * 10 + 2, none⟩ = some (.int .i64 0) := x2
                  have y3 : wr.cell? ⟨b8, o8 + j * 10 + 3, none⟩ = some (.slice none 0 0) := x3
                  have y4 : wr.cell? ⟨b8, o8 + j * 10 + 4, none⟩ = some (.int .u64 0) := x4
                  have y5 : wr.cell? ⟨b8, o8 + j * 10 + 5, none⟩ = some (.int .u64 0) := x5
                  have y6 : wr.cell? ⟨b8, o8 + j * 10 + 6, none⟩ = some (.int .u64 0) := x6
                  have y7 : wr.cell? ⟨b8, o8 + j * 10 + 7, none⟩ = some (.int .u64 0) := x7
                  have y8 : wr.cell? ⟨b8, o8 + j * 10 + 8, none⟩ = some (.slice none 0 0) := x8
                  have y9 : wr.cell? ⟨b8, o8 + j * 10 + 9, none⟩ = some (.bool false) := x9
                  have hmk := fun W => mark_any i j (by omega) (by omega) W
                  clear x0 x1 x2 x3 x4 x5 x6 x7 x8 x9 hz e8 hq3 hq4
                  go_upto_region 27 with fail
                  go_quiet (first | (go_at_call 29; exact Calls.quiet_of_same (hmk _)))
                  have G1 := hid (HI.out.drewN nq)
                  clear y0 y1 y2 y3 y4 y5 y6 y7 y8 y9 zz8 hmk
                  go_wp2_with fail
                  go_roundw
                  case rel => exact ⟨j + 1, by omega, by go_num, G1.out⟩
                  case measure => simp [RowKit.intOf]; omega
                · have hjz : ¬ (j : Int) < (vm : Int) := by have := HVM.out; omega
                  go_wp2_with fail
                  go_roundw
                  case rel => exact ⟨i + 1, by omega, by go_num, HI.out⟩
                  case measure => simp [RowKit.intOf]; omega
            · have hltz : ¬ (i : Int) < (mN : Int) := by omega
              have P2 := HI
              clear HI
              have hb0 := (P2.out.below.block _ (tk_lt HB.out.blk)).trans HB.out.blk
              have cb := (tk_store hb0).1
              simp only [LV.v] at cb
              have lb := tk_lt hb0
              go_upto_region 32 with fail
              clear cb lb hb0
              go_loopw [98] (fun s wr => ∃ i : Nat, i ≤ mD ∧ s = .int .i64 (i : Nat) ∧ Hid (Gr w wr)) (fun s _ => mD - (RowKit.intOf s).toNat)
              case atStart => exact ⟨0, Nat.zero_le _, rfl, P2.out⟩
              case round =>
                clear P2
                obtain ⟨i, hi, rfl, HI⟩ := hrel
                have hcm : mD = vD.length := (owns_caps HB.out.rD _ _ _ rfl).1
                have hm9 : mD ≤ 1000 := by have := HB.out.fD.len; have := HSD.out.1; omega
                by_cases hlt : i < mD
                · have hltz : (i : Int) < (mD : Int) := by omega
                  have hi0 : (0 : Int) ≤ (i : Int) := by omega
                  obtain ⟨v, hv⟩ : ∃ v, vD[i]? = some v := ⟨vD[i]'(by omega), List.getElem?_eq_getElem (by omega)⟩
                  obtain ⟨l, hl, hrow⟩ := HB.out.fD.row hv
                  have hml := HSD.out.2 i l hl
                  have hvm : v.m = l.length := (owns_caps hrow _ _ _ rfl).1
                  obtain ⟨b1, o1, q1, e1, zz1, y0⟩ := ls_atL ((owns_ls (E := EL) HB.out.rD).below HI.out.below) hv
                  simp only [LV.v, Value.slice.injEq] at e1
                  obtain ⟨vq, vm, vc⟩ := v
                  simp only [LV.v] at y0
                  have HRW := hid hrow
                  have HML := hid hml
                  have hl9 : l.length ≤ 1001 := hml.2
                  have HVM : Hid (vm = l.length) := hvm
                  have hq1 := e1.1
                  have hq2 := e1.2.2
                  rw [hq1, hq2]
                  clear hv hl hrow hml hvm hcm hq1 hq2
                  go_upto_region 35 with fail
                  clear y0 zz1
                  go_loopw [105] (fun s wr => ∃ j : Nat, j ≤ l.length ∧ s = .int .i64 (j : Nat) ∧ Hid (Gr w wr)) (fun s _ => l.length - (RowKit.intOf s).toNat)
                  case atStart => exact ⟨0, Nat.zero_le _, rfl, HI.out⟩
                  case round =>
                    clear HI
                    obtain ⟨j, hj, rfl, HI⟩ := hrel
                    by_cases hjl : j < l.length
                    · have hjz : (j : Int) < (vm : Int) := by have := HVM.out; omega
                      have hj0 : (0 : Int) ≤ (j : Int) := by omega
                      have hz : l[j]? = some (fD (mkI i j)) := by
                        rw [HML.out.1]
                        exact mksF_get fD hjl
                      obtain ⟨b8, o8, c9, e8, zz8, x0, x1, x2, x3, x4⟩ := ls_atD ((owns_ls (E := ED) HRW.out).below HI.out.below) hz
                      simp only [LV.v, Value.slice.injEq] at e8
                      have hq3 := e8.1
                      have hq4 := e8.2.2
                      rw [hq3, hq4]
                      have y0 : wr.cell? ⟨b8, o8 + j * 5, none⟩ = some (.int .i64 (mkI i j)) := x0
                      have y1 : wr.cell? ⟨b8, o8 + j * 5 + 1, none⟩ = some (.int .i64 0) := x1
                      have y2 : wr.cell? ⟨b8, o8 + j * 5 + 2, none⟩ = some (.int .i64 0) := x2
                      have y3 : wr.cell? ⟨b8, o8 + j * 5 + 3, none⟩ = some (.int .i64 0) := x3
                      have y4 : wr.cell? ⟨b8, o8 + j * 5 + 4, none⟩ = some (.bool false) := x4
                      have hmk := fun W => mark_any i j (by omega) (by omega) W
                      have heq : ∀ W, Sem.run Try.prog (Op.equalIn 10000 69 (.agg #[.int .i64 (mkI i j), .int .i64 0, .int .i64 0, .int .i64 0, .bool false]) (.agg #[.int .i64 (mkI i j), .int .i64 0, .int .i64 0, .int .i64 0, .bool false])) W = .ok true W := fun W => (run_eqD (fD (mkI i j)) (fD (mkI i j)) W).trans (by rw [decide_eq_true rfl])
                      clear x0 x1 x2 x3 x4 hz e8 hq3 hq4
                      go_upto_region 37 with fail
                      go_quiet (first | (go_at_call 29; exact Calls.quiet_of_same (hmk _)))
                      have G1 := hid (HI.out.drewN nq)
                      clear y0 y1 y2 y3 y4 zz8 hmk heq
                      go_wp2_with fail
                      go_roundw
                      case rel => exact ⟨j + 1, by omega, by go_num, G1.out⟩
                      case measure => simp [RowKit.intOf]; omega
                    · have hjz : ¬ (j : Int) < (vm : Int) := by have := HVM.out; omega
                      go_wp2_with fail
                      go_roundw
                      case rel => exact ⟨i + 1, by omega, by go_num, HI.out⟩
                      case measure => simp [RowKit.intOf]; omega
                · have hltz : ¬ (i : Int) < (mD : Int) := by omega
                  have P3 := HI
                  clear HI
                  go_wp2_with fail
                  go_ret
                  exact ⟨rfl, P3.out⟩
end Go.Proofs.Ytkopmkmfigenlaa.Df
