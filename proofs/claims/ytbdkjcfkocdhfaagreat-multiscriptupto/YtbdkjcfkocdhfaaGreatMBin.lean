import Derived.Test.YtbdkjcfkocdhfaaGreatMRen
namespace Go.Proofs.YtbdkjcfkocdhfaaGreat
open Go.RowKit Go.Sort Go.Maps
attribute [local go_sem ↓] Go.wp_at_zero Go.wp_at_succ

set_option maxHeartbeats 1000000 in
set_option maxRecDepth 100000 in
theorem bsearch_any (v : Value) (l : List Tm) (x : Tm) (w : World) (hv : Lst w v l) (hl : l.length * 24 ≤ 140737488355328) (hs : l.Pairwise fun a b => tol a b = true) :
    Calls Tryz.prog 84 #[v, tv x, .func (.func fC) #[] #[]] w fun e w' => ∃ i : Int, e = .returned (.tuple #[.int .i64 i, .bool (decide (x ∈ l))]) ∧ Gr w w' := by
  have hmx : Tryz.prog.follows .mixedOrders = true := by kernel_rfl
  obtain ⟨pl, cl, rfl⟩ := hv.form
  obtain ⟨W1, hW1⟩ : ∃ W1, W1 = w.alloc (.cells #[.int .u64 x.1.1, .int .u64 x.1.2.1, .int .u64 x.1.2.2] 32) := ⟨_, rfl⟩
  obtain ⟨B0, hB0⟩ : ∃ B0, B0 = w.heap.size := ⟨_, rfl⟩
  have G1 : Gr w W1 := by rw [hW1]; exact (Gr.refl _).alloc _
  have HG : Hid (Gr w W1) := G1
  have HL : Hid (Lst W1 (.slice pl l.length cl) l) := hv.below G1.below
  have HS : Hid (l.Pairwise fun a b => tol a b = true) := hs
  have hblk : W1.heap[B0]? = some (.cells #[.int .u64 x.1.1, .int .u64 x.1.2.1, .int .u64 x.1.2.2] 32 (0, 0)) := by rw [hW1, hB0]; exact heap_new' _ _
  have hB : B0 < W1.heap.size := (Array.getElem?_eq_some_iff.1 hblk).1
  have q0 : W1.cell? ⟨B0, 0, none⟩ = some (.int .u64 x.1.1) := by simp only [World.cell?]; rw [hblk]; rfl
  have q1 : W1.cell? ⟨B0, 1, none⟩ = some (.int .u64 x.1.2.1) := by simp only [World.cell?]; rw [hblk]; rfl
  have q2 : W1.cell? ⟨B0, 2, none⟩ = some (.int .u64 x.1.2.2) := by simp only [World.cell?]; rw [hblk]; rfl
  have eg : ∀ args w, (callFunc fC args).run Tryz.prog w = .ok (.enter fC args) w := enters_of Tryz.func31 (by kernel_rfl) rfl
  clear hblk hv hs G1
  go_enter Tryz.func84, Tryz.ntmps84
  go_wp2_with fail
  rw [← hW1, ← hB0]
  clear hW1 hB0
  go_loopw [9, 10, 11] (fun s9 s10 _ wr => ∃ (i j : Nat), i ≤ j ∧ j ≤ l.length ∧ s9 = .int .i64 i ∧ s10 = .int .i64 j ∧ Gr W1 wr ∧ Hid ((∀ k y, k < i → l[k]? = some y → tol y x = true) ∧ ∀ k y, j ≤ k → l[k]? = some y → tol y x = false)) (fun s9 s10 _ _ => (RowKit.intOf s10).toNat - (RowKit.intOf s9).toNat)
  case atStart => exact ⟨0, l.length, Nat.zero_le _, Nat.le_refl _, rfl, rfl, Gr.refl _, fun k y hk => absurd hk (Nat.not_lt_zero _), fun k y hk hy => absurd (List.getElem?_eq_some_iff.1 hy).1 (Nat.not_lt.2 hk)⟩
  case round =>
    obtain ⟨i, j, hij, hjl, rfl, rfl, hgr, A⟩ := hrel
    by_cases hlt : i < j
    · have hltz : (i : Int) < (j : Int) := by omega
      obtain ⟨m, hm⟩ : ∃ m : Nat, m = (i + j) / 2 := ⟨_, rfl⟩
      have hmi : i ≤ m := by omega
      have hmj : m < j := by omega
      have hmz : ((i : Int) + (j : Int)) / 2 = (m : Int) := by omega
      have hml : (m : Int) < (l.length : Int) := by omega
      have hm0 : (0 : Int) ≤ (m : Int) := by omega
      obtain ⟨y, hy⟩ : ∃ y, l[m]? = some y := ⟨l[m]'(by omega), by simp⟩
      obtain ⟨b1, o1, c1, e1, z1, x1, x2, x3⟩ := (HL.out.below hgr.below).at3 hy
      simp only [Value.slice.injEq] at e1
      obtain ⟨rfl, -, rfl⟩ := e1
      have HY : Hid (l[m]? = some y) := hy
      have S0 : (wr.drew.cell? ⟨b1, o1 + m * 3, none⟩ = some (.int .u64 y.1.1) ∧ wr.drew.cell? ⟨b1, o1 + m * 3 + 1, none⟩ = some (.int .u64 y.1.2.1) ∧ wr.drew.cell? ⟨b1, o1 + m * 3 + 2, none⟩ = some (.int .u64 y.1.2.2) ∧ wr.drew.cell? ⟨B0, 0, none⟩ = some (.int .u64 x.1.1) ∧ wr.drew.cell? ⟨B0, 1, none⟩ = some (.int .u64 x.1.2.1) ∧ wr.drew.cell? ⟨B0, 2, none⟩ = some (.int .u64 x.1.2.2) ∧ b1 < wr.drew.heap.size ∧ B0 < wr.drew.heap.size) := ⟨x1, x2, x3, (hgr.cell hB).trans q0, (hgr.cell hB).trans q1, (hgr.cell hB).trans q2, z1, Nat.lt_of_lt_of_le hB hgr.size⟩
      have keepG : ∀ W W' : World, (W.cell? ⟨b1, o1 + m * 3, none⟩ = some (.int .u64 y.1.1) ∧ W.cell? ⟨b1, o1 + m * 3 + 1, none⟩ = some (.int .u64 y.1.2.1) ∧ W.cell? ⟨b1, o1 + m * 3 + 2, none⟩ = some (.int .u64 y.1.2.2) ∧ W.cell? ⟨B0, 0, none⟩ = some (.int .u64 x.1.1) ∧ W.cell? ⟨B0, 1, none⟩ = some (.int .u64 x.1.2.1) ∧ W.cell? ⟨B0, 2, none⟩ = some (.int .u64 x.1.2.2) ∧ b1 < W.heap.size ∧ B0 < W.heap.size) → Gr W W' → (W'.cell? ⟨b1, o1 + m * 3, none⟩ = some (.int .u64 y.1.1) ∧ W'.cell? ⟨b1, o1 + m * 3 + 1, none⟩ = some (.int .u64 y.1.2.1) ∧ W'.cell? ⟨b1, o1 + m * 3 + 2, none⟩ = some (.int .u64 y.1.2.2) ∧ W'.cell? ⟨B0, 0, none⟩ = some (.int .u64 x.1.1) ∧ W'.cell? ⟨B0, 1, none⟩ = some (.int .u64 x.1.2.1) ∧ W'.cell? ⟨B0, 2, none⟩ = some (.int .u64 x.1.2.2) ∧ b1 < W'.heap.size ∧ B0 < W'.heap.size) := fun W W' h hg =>
        ⟨(hg.cell h.2.2.2.2.2.2.1).trans h.1, (hg.cell h.2.2.2.2.2.2.1).trans h.2.1, (hg.cell h.2.2.2.2.2.2.1).trans h.2.2.1, (hg.cell h.2.2.2.2.2.2.2).trans h.2.2.2.1, (hg.cell h.2.2.2.2.2.2.2).trans h.2.2.2.2.1, (hg.cell h.2.2.2.2.2.2.2).trans h.2.2.2.2.2.1, Nat.lt_of_lt_of_le h.2.2.2.2.2.2.1 hg.size, Nat.lt_of_lt_of_le h.2.2.2.2.2.2.2 hg.size⟩
      have hcm : ∀ W, Calls Tryz.prog fC #[tv y, tv x] W fun e w' => e = .returned (.int .i64 (tcm y x)) ∧ Gr W w' := fun W => Compare_any _ _ _ _ _ _ W
      have HGR : Hid (Gr W1 wr.drew) := hgr.drew
      have htol : tol y x = decide (tcm y x < 0) := rfl
      have HTO : Hid (tol y x = decide (tcm y x < 0)) := htol
      clear hy hm htol hgr
      go_upto_region 5 with fail
      clear hmz
      generalize tcm y x = r at hcm HTO
      by_cases hr : r < 0
      · have hT : tol y x = true := by rw [HTO.out]; simpa using hr
        have A2 : Hid ((∀ k y, k < m + 1 → l[k]? = some y → tol y x = true) ∧ ∀ k y, j ≤ k → l[k]? = some y → tol y x = false) := by
          refine ⟨fun k z hk hz => ?_, A.out.2⟩
          by_cases hkm : k = m
          · subst hkm
            have := HY.out
            rw [hz] at this
            cases this
            exact hT
          · obtain ⟨hk1, rfl⟩ := List.getElem?_eq_some_iff.1 hz
            obtain ⟨hm1, hm2⟩ := List.getElem?_eq_some_iff.1 HY.out
            have := List.pairwise_iff_getElem.1 HS.out k m hk1 hm1 (by omega)
            rw [hm2] at this
            exact ords.tr _ _ _ this hT
        clear x1 x2 x3
        go_region_held3 (fun w' => w'.cell? ⟨b1, o1 + m * 3, none⟩ = some (.int .u64 y.1.1) ∧ w'.cell? ⟨b1, o1 + m * 3 + 1, none⟩ = some (.int .u64 y.1.2.1) ∧ w'.cell? ⟨b1, o1 + m * 3 + 2, none⟩ = some (.int .u64 y.1.2.2) ∧ w'.cell? ⟨B0, 0, none⟩ = some (.int .u64 x.1.1) ∧ w'.cell? ⟨B0, 1, none⟩ = some (.int .u64 x.1.2.1) ∧ w'.cell? ⟨B0, 2, none⟩ = some (.int .u64 x.1.2.2) ∧ b1 < w'.heap.size ∧ B0 < w'.heap.size)
          (first | exact S0 | exact keepG _ _ (by assumption) (by assumption))
          (first | (go_at_fn fC; refine (hcm _).mono ?_; rintro e w5 ⟨rfl, hg5⟩))
        go_wp2
        go_roundw
        case rel => exact ⟨m + 1, j, by omega, hjl, by go_num, rfl, HGR.out.trans hg5, A2.out⟩
        case measure => simp [RowKit.intOf]; omega
      · have hT : tol y x = false := by rw [HTO.out]; simpa using hr
        have A2 : Hid ((∀ k y, k < i → l[k]? = some y → tol y x = true) ∧ ∀ k y, m ≤ k → l[k]? = some y → tol y x = false) := by
          refine ⟨A.out.1, fun k z hk hz => ?_⟩
          by_cases hkm : k = m
          · subst hkm
            have := HY.out
            rw [hz] at this
            cases this
            exact hT
          · obtain ⟨hk1, rfl⟩ := List.getElem?_eq_some_iff.1 hz
            obtain ⟨hm1, hm2⟩ := List.getElem?_eq_some_iff.1 HY.out
            have := List.pairwise_iff_getElem.1 HS.out m k hm1 hk1 (by omega)
            rw [hm2] at this
            cases hq : tol l[k] x with
            | false => rfl
            | true => rw [ords.tr _ _ _ this hq] at hT; cases hT
        clear x1 x2 x3
        go_region_held3 (fun w' => w'.cell? ⟨b1, o1 + m * 3, none⟩ = some (.int .u64 y.1.1) ∧ w'.cell? ⟨b1, o1 + m * 3 + 1, none⟩ = some (.int .u64 y.1.2.1) ∧ w'.cell? ⟨b1, o1 + m * 3 + 2, none⟩ = some (.int .u64 y.1.2.2) ∧ w'.cell? ⟨B0, 0, none⟩ = some (.int .u64 x.1.1) ∧ w'.cell? ⟨B0, 1, none⟩ = some (.int .u64 x.1.2.1) ∧ w'.cell? ⟨B0, 2, none⟩ = some (.int .u64 x.1.2.2) ∧ b1 < w'.heap.size ∧ B0 < w'.heap.size)
          (first | exact S0 | exact keepG _ _ (by assumption) (by assumption))
          (first | (go_at_fn fC; refine (hcm _).mono ?_; rintro e w5 ⟨rfl, hg5⟩))
        go_wp2
        go_roundw
        case rel => exact ⟨i, m, hmi, by omega, rfl, rfl, HGR.out.trans hg5, A2.out⟩
        case measure => simp [RowKit.intOf]; omega
    · have hltz : ¬ (i : Int) < (j : Int) := by omega
      have hji : j = i := by omega
      subst hji
      by_cases hil : j < l.length
      · have hilz : (j : Int) < (l.length : Int) := by omega
        obtain ⟨y, hy⟩ : ∃ y, l[j]? = some y := ⟨l[j], by simp⟩
        obtain ⟨b1, o1, c1, e1, z1, x1, x2, x3⟩ := (HL.out.below hgr.below).at3 hy
        simp only [Value.slice.injEq] at e1
        obtain ⟨rfl, -, rfl⟩ := e1
        have S0 : (wr.drew.cell? ⟨b1, o1 + j * 3, none⟩ = some (.int .u64 y.1.1) ∧ wr.drew.cell? ⟨b1, o1 + j * 3 + 1, none⟩ = some (.int .u64 y.1.2.1) ∧ wr.drew.cell? ⟨b1, o1 + j * 3 + 2, none⟩ = some (.int .u64 y.1.2.2) ∧ wr.drew.cell? ⟨B0, 0, none⟩ = some (.int .u64 x.1.1) ∧ wr.drew.cell? ⟨B0, 1, none⟩ = some (.int .u64 x.1.2.1) ∧ wr.drew.cell? ⟨B0, 2, none⟩ = some (.int .u64 x.1.2.2) ∧ b1 < wr.drew.heap.size ∧ B0 < wr.drew.heap.size) := ⟨x1, x2, x3, (hgr.cell hB).trans q0, (hgr.cell hB).trans q1, (hgr.cell hB).trans q2, z1, Nat.lt_of_lt_of_le hB hgr.size⟩
        have keepG : ∀ W W' : World, (W.cell? ⟨b1, o1 + j * 3, none⟩ = some (.int .u64 y.1.1) ∧ W.cell? ⟨b1, o1 + j * 3 + 1, none⟩ = some (.int .u64 y.1.2.1) ∧ W.cell? ⟨b1, o1 + j * 3 + 2, none⟩ = some (.int .u64 y.1.2.2) ∧ W.cell? ⟨B0, 0, none⟩ = some (.int .u64 x.1.1) ∧ W.cell? ⟨B0, 1, none⟩ = some (.int .u64 x.1.2.1) ∧ W.cell? ⟨B0, 2, none⟩ = some (.int .u64 x.1.2.2) ∧ b1 < W.heap.size ∧ B0 < W.heap.size) → Gr W W' → (W'.cell? ⟨b1, o1 + j * 3, none⟩ = some (.int .u64 y.1.1) ∧ W'.cell? ⟨b1, o1 + j * 3 + 1, none⟩ = some (.int .u64 y.1.2.1) ∧ W'.cell? ⟨b1, o1 + j * 3 + 2, none⟩ = some (.int .u64 y.1.2.2) ∧ W'.cell? ⟨B0, 0, none⟩ = some (.int .u64 x.1.1) ∧ W'.cell? ⟨B0, 1, none⟩ = some (.int .u64 x.1.2.1) ∧ W'.cell? ⟨B0, 2, none⟩ = some (.int .u64 x.1.2.2) ∧ b1 < W'.heap.size ∧ B0 < W'.heap.size) := fun W W' h hg =>
        ⟨(hg.cell h.2.2.2.2.2.2.1).trans h.1, (hg.cell h.2.2.2.2.2.2.1).trans h.2.1, (hg.cell h.2.2.2.2.2.2.1).trans h.2.2.1, (hg.cell h.2.2.2.2.2.2.2).trans h.2.2.2.1, (hg.cell h.2.2.2.2.2.2.2).trans h.2.2.2.2.1, (hg.cell h.2.2.2.2.2.2.2).trans h.2.2.2.2.2.1, Nat.lt_of_lt_of_le h.2.2.2.2.2.2.1 hg.size, Nat.lt_of_lt_of_le h.2.2.2.2.2.2.2 hg.size⟩
        have hcm : ∀ W, Calls Tryz.prog fC #[tv y, tv x] W fun e w' => e = .returned (.int .i64 (tcm y x)) ∧ Gr W w' := fun W => Compare_any _ _ _ _ _ _ W
        have HGR : Hid (Gr W1 wr.drew) := hgr.drew
        have HE : Hid (decide (x ∈ l) = decide (tcm y x = 0)) := by
          show _ = _
          rw [decide_eq_decide, tcm_zero]
          constructor
          · intro hx
            obtain ⟨k, hk⟩ := List.mem_iff_getElem?.1 hx
            have h1 : ¬ k < j := fun h => by have := A.out.1 k x h hk; rw [ords.irr] at this; cases this
            by_cases hkj : k = j
            · subst hkj; rw [hk] at hy; cases hy; rfl
            · obtain ⟨hk1, hk2⟩ := List.getElem?_eq_some_iff.1 hk
              obtain ⟨hj1, hj2⟩ := List.getElem?_eq_some_iff.1 hy
              have := List.pairwise_iff_getElem.1 HS.out j k hj1 hk1 (by omega)
              rw [hj2, hk2, A.out.2 j y (Nat.le_refl _) hy] at this
              cases this
          · intro h
            rw [← h]
            exact List.mem_of_getElem? hy
        have hgd : decide ((j : Int) < (l.length : Int)) = true := by simpa using hilz
        clear hy hgr x1 x2 x3
        generalize tcm y x = r at hcm HE
        go_wp2_with fail
        go_region_held3 (fun w' => w'.cell? ⟨b1, o1 + j * 3, none⟩ = some (.int .u64 y.1.1) ∧ w'.cell? ⟨b1, o1 + j * 3 + 1, none⟩ = some (.int .u64 y.1.2.1) ∧ w'.cell? ⟨b1, o1 + j * 3 + 2, none⟩ = some (.int .u64 y.1.2.2) ∧ w'.cell? ⟨B0, 0, none⟩ = some (.int .u64 x.1.1) ∧ w'.cell? ⟨B0, 1, none⟩ = some (.int .u64 x.1.2.1) ∧ w'.cell? ⟨B0, 2, none⟩ = some (.int .u64 x.1.2.2) ∧ b1 < w'.heap.size ∧ B0 < w'.heap.size)
          (first | exact S0 | exact keepG _ _ (by assumption) (by assumption))
          (first | (go_at_fn fC; refine (hcm _).mono ?_; rintro e w5 ⟨rfl, hg5⟩))
        go_wp2
        go_ret2
        exact ⟨_, by rw [HE.out]; rfl, HG.out.trans (HGR.out.trans hg5)⟩
      · have hilz : ¬ (j : Int) < (l.length : Int) := by omega
        have HE : Hid (decide (x ∈ l) = false) := by
          show _ = _
          rw [decide_eq_false_iff_not]
          intro hx
          obtain ⟨k, hk⟩ := List.mem_iff_getElem?.1 hx
          have h1 := A.out.1 k x (by have := (List.getElem?_eq_some_iff.1 hk).1; omega) hk
          rw [ords.irr] at h1
          cases h1
        have hgd : decide ((j : Int) < (l.length : Int)) = false := by simpa using hilz
        go_wp2_with fail
        go_quiet (fail)
        go_wp2
        go_ret2
        exact ⟨_, by rw [HE.out]; rfl, (HG.out.trans hgr).drewN _⟩
end Go.Proofs.YtbdkjcfkocdhfaaGreat
