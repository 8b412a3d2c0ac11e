import Derived.Test.YtpcamjmfddnglaaHBaseT
namespace Go.Proofs.Ytpcamjmfddnglaa.Ht
open Go.RowKit Go.Sort Hp
attribute [local go_sem ↓] Go.wp_at_zero Go.wp_at_succ

set_option maxHeartbeats 2000000 in
set_option maxRecDepth 100000 in
theorem downTo_any {hb ff : Nat} {r : Th → Th → Bool} (u : Value) (M : List It) (x : It) (w : World) (kl : hb < w.heap.size) (k0 : w.cell? ⟨hb, 0, none⟩ = some (fv ff)) (hu : Ls EI w u M) (hl : M.length ≤ 140737488355328) (hF : FnOk ff r) :
    Calls Try.prog 35 #[.pointer (some ⟨hb, 0, none⟩), u, iv x] w fun e w' => ∃ at_ : Nat, e = .returned (.int .i64 at_) ∧ Dn (ahd r) M x at_ ∧ DnEnd (ahd r) M x at_ ∧ Gr w w' := by
  have hmx : Try.prog.follows .mixedOrders = true := by kernel_rfl
  obtain ⟨pl, cl, rfl⟩ := hu.form
  obtain ⟨B0, hB0⟩ : ∃ B0, B0 = w.heap.size := ⟨_, rfl⟩
  obtain ⟨W1, hW1⟩ : ∃ W1, W1 = w.alloc (.cells #[.int .i64 x.1.1, .int .i64 x.1.2, .int .u64 (x.2 : Nat)] 69) := ⟨_, rfl⟩
  have G1 : Gr w W1 := by rw [hW1]; exact (Gr.refl _).alloc _
  have HG : Hid (Gr w W1) := G1
  have hB : B0 < W1.heap.size := by rw [hW1, hB0]; simp
  obtain ⟨q0, q1, q2⟩ : W1.cell? ⟨B0, 0, none⟩ = some (.int .i64 x.1.1) ∧ W1.cell? ⟨B0, 1, none⟩ = some (.int .i64 x.1.2) ∧ W1.cell? ⟨B0, 2, none⟩ = some (.int .u64 (x.2 : Nat)) := by rw [hW1, hB0]; simp
  have HL : Hid (Ls EI W1 (.slice pl M.length cl) M) := hu.below G1.below
  have kl1 : hb < W1.heap.size := Nat.lt_of_lt_of_le kl G1.size
  have k01 := (G1.cell kl).trans k0
  have hah : ∀ (y z : It) (W : World), hb < W.heap.size → W.cell? ⟨hb, 0, none⟩ = some (fv ff) → Calls Try.prog 48 #[.pointer (some ⟨hb, 0, none⟩), iv y, iv z] W fun e w' => e = .returned (.bool (ahd r y z)) ∧ Gr W w' := fun y z W h1 h2 => ahead_any ff r hF y z hb W h1 h2
  have HAH : Hid (∀ (y z : It) (W : World), hb < W.heap.size → W.cell? ⟨hb, 0, none⟩ = some (fv ff) → Calls Try.prog 48 #[.pointer (some ⟨hb, 0, none⟩), iv y, iv z] W fun e w' => e = .returned (.bool (ahd r y z)) ∧ Gr W w') := hah
  clear hu G1 hF kl k0 hah
  go_enter Try.func35, Try.ntmps35
  go_wp2_with fail
  rw [← hW1, ← hB0]
  clear hW1 hB0
  go_loopw [7, 8, 9] (fun s7 s8 _ wr => ∃ a c : Nat, a ≤ M.length ∧ s7 = .int .i64 a ∧ s8 = .int .i64 c ∧ Hid (c = 2 * a + 1) ∧ Gr W1 wr ∧ Hid (Dn (ahd r) M x a)) (fun s7 _ _ _ => M.length - (RowKit.intOf s7).toNat)
  case atStart => exact ⟨0, 1, Nat.zero_le _, rfl, rfl, rfl, Gr.refl _, ⟨Or.inl rfl, .refl _⟩⟩
  case round =>
    obtain ⟨a, c, hal, rfl, rfl, HCA, hgr, AA⟩ := hrel
    by_cases hlt : c < M.length
    · have hltz : (c : Int) < (M.length : Int) := by omega
      obtain ⟨y, hy⟩ : ∃ y, M[c]? = some y := ⟨M[c]'hlt, by rw [List.getElem?_eq_getElem]⟩
      obtain ⟨b1, o1, c1, e1, z1, x0, x1, x2⟩ := ls_at (HL.out.below hgr.below) hy
      simp only [Value.slice.injEq] at e1
      obtain ⟨rfl, -, rfl⟩ := e1
      have HY : Hid (M[c]? = some y) := hy
      have kr0 := (hgr.cell kl1).trans k01
      have krl := Nat.lt_of_lt_of_le kl1 hgr.size
      have HGR : Hid (Gr W1 wr) := hgr
      have HX : Hid (wr.cell? ⟨b1, o1 + c * 3, none⟩ = some (.int .i64 y.1.1) ∧ wr.cell? ⟨b1, o1 + c * 3 + 1, none⟩ = some (.int .i64 y.1.2) ∧ wr.cell? ⟨b1, o1 + c * 3 + 2, none⟩ = some (.int .u64 (y.2 : Nat))) := ⟨x0, x1, x2⟩
      clear hy hgr x0 x1 x2
      by_cases hlt2 : c + 1 < M.length
      · have hlt2z : (c : Int) + 1 < (M.length : Int) := by omega
        have hd0 : (0 : Int) ≤ (c : Int) + 1 := by omega
        have hc0 : (0 : Int) ≤ (c : Int) := by omega
        obtain ⟨z, hz⟩ : ∃ z, M[c + 1]? = some z := ⟨M[c + 1]'hlt2, by rw [List.getElem?_eq_getElem]⟩
        obtain ⟨b2, o2, c2, e2, z2, y0, y1, y2⟩ := ls_at (HL.out.below HGR.out.below) hz
        simp only [Value.slice.injEq, Option.some.injEq, Addr.mk.injEq, and_true] at e2
        obtain ⟨⟨rfl, rfl⟩, -, rfl⟩ := e2
        have HZ : Hid (M[c + 1]? = some z) := hz
        obtain ⟨x0, x1, x2⟩ := HX.out
        have S0 : (wr.drew.cell? ⟨b1, o1 + (c + 1) * 3, none⟩ = some (.int .i64 z.1.1) ∧ wr.drew.cell? ⟨b1, o1 + (c + 1) * 3 + 1, none⟩ = some (.int .i64 z.1.2) ∧ wr.drew.cell? ⟨b1, o1 + (c + 1) * 3 + 2, none⟩ = some (.int .u64 (z.2 : Nat)) ∧ wr.drew.cell? ⟨b1, o1 + c * 3, none⟩ = some (.int .i64 y.1.1) ∧ wr.drew.cell? ⟨b1, o1 + c * 3 + 1, none⟩ = some (.int .i64 y.1.2) ∧ wr.drew.cell? ⟨b1, o1 + c * 3 + 2, none⟩ = some (.int .u64 (y.2 : Nat)) ∧ wr.drew.cell? ⟨hb, 0, none⟩ = some (fv ff) ∧ b1 < wr.drew.heap.size ∧ hb < wr.drew.heap.size) := ⟨y0, y1, y2, x0, x1, x2, kr0, z1, krl⟩
        have keepG : ∀ W W' : World, (W.cell? ⟨b1, o1 + (c + 1) * 3, none⟩ = some (.int .i64 z.1.1) ∧ W.cell? ⟨b1, o1 + (c + 1) * 3 + 1, none⟩ = some (.int .i64 z.1.2) ∧ W.cell? ⟨b1, o1 + (c + 1) * 3 + 2, none⟩ = some (.int .u64 (z.2 : Nat)) ∧ W.cell? ⟨b1, o1 + c * 3, none⟩ = some (.int .i64 y.1.1) ∧ W.cell? ⟨b1, o1 + c * 3 + 1, none⟩ = some (.int .i64 y.1.2) ∧ W.cell? ⟨b1, o1 + c * 3 + 2, none⟩ = some (.int .u64 (y.2 : Nat)) ∧ W.cell? ⟨hb, 0, none⟩ = some (fv ff) ∧ b1 < W.heap.size ∧ hb < W.heap.size) → Gr W W' → (W'.cell? ⟨b1, o1 + (c + 1) * 3, none⟩ = some (.int .i64 z.1.1) ∧ W'.cell? ⟨b1, o1 + (c + 1) * 3 + 1, none⟩ = some (.int .i64 z.1.2) ∧ W'.cell? ⟨b1, o1 + (c + 1) * 3 + 2, none⟩ = some (.int .u64 (z.2 : Nat)) ∧ W'.cell? ⟨b1, o1 + c * 3, none⟩ = some (.int .i64 y.1.1) ∧ W'.cell? ⟨b1, o1 + c * 3 + 1, none⟩ = some (.int .i64 y.1.2) ∧ W'.cell? ⟨b1, o1 + c * 3 + 2, none⟩ = some (.int .u64 (y.2 : Nat)) ∧ W'.cell? ⟨hb, 0, none⟩ = some (fv ff) ∧ b1 < W'.heap.size ∧ hb < W'.heap.size) := by
          rintro W W' ⟨a0, a1, a2, b0, b1, b2, d0, d1, d2⟩ hg
          exact ⟨(hg.cell d1).trans a0,(hg.cell d1).trans a1,(hg.cell d1).trans a2, (hg.cell d1).trans b0,(hg.cell d1).trans b1,(hg.cell d1).trans b2, (hg.cell d2).trans d0, Nat.lt_of_lt_of_le d1 hg.size, Nat.lt_of_lt_of_le d2 hg.size⟩
        have hah := HAH.out z y
        have hr : ahd r z y = true ∨ ahd r z y = false := by cases ahd r z y; exact Or.inr rfl; exact Or.inl rfl
        have HGD : Hid (Gr W1 wr.drew) := HGR.out.drew
        have kd0 : wr.drew.cell? ⟨hb, 0, none⟩ = some (fv ff) := kr0
        have kdl : hb < wr.drew.heap.size := krl
        clear hz x0 x1 x2 y0 y1 y2
        rcases hr with hr | hr
        · have HP : Hid (Pick (ahd r) M a (c + 1) z) := ⟨HZ.out, Or.inr ⟨by rw [HCA.out], y, by rw [← HCA.out]; exact HY.out, hr⟩⟩
          rw [hr] at hah
          clear hr
          go_upto_region 6 with fail
          go_region_held3 (fun w' => w'.cell? ⟨b1, o1 + (c + 1) * 3, none⟩ = some (.int .i64 z.1.1) ∧ w'.cell? ⟨b1, o1 + (c + 1) * 3 + 1, none⟩ = some (.int .i64 z.1.2) ∧ w'.cell? ⟨b1, o1 + (c + 1) * 3 + 2, none⟩ = some (.int .u64 (z.2 : Nat)) ∧ w'.cell? ⟨b1, o1 + c * 3, none⟩ = some (.int .i64 y.1.1) ∧ w'.cell? ⟨b1, o1 + c * 3 + 1, none⟩ = some (.int .i64 y.1.2) ∧ w'.cell? ⟨b1, o1 + c * 3 + 2, none⟩ = some (.int .u64 (y.2 : Nat)) ∧ w'.cell? ⟨hb, 0, none⟩ = some (fv ff) ∧ b1 < w'.heap.size ∧ hb < w'.heap.size)
            (first | exact S0 | exact keepG _ _ (by assumption) (by assumption) | assumption)
            (first | (go_at_call 48; refine (hah _ (by assumption) (by assumption)).mono ?_; rintro e w5 ⟨rfl, hg5⟩))
          have HGC : Hid (Gr W1 w5) := HGD.out.trans hg5
          clear z2
          obtain ⟨b2, o2, c2, e2, z2, y0, y1, y2⟩ := ls_at (HL.out.below HGC.out.below) HP.out.1
          simp only [Value.slice.injEq, Option.some.injEq, Addr.mk.injEq, and_true] at e2
          obtain ⟨⟨rfl, rfl⟩, -, rfl⟩ := e2
          have kc0 : w5.drew.cell? ⟨hb, 0, none⟩ = some (fv ff) := (HGC.out.cell kl1).trans k01
          have kcl : hb < w5.drew.heap.size := Nat.lt_of_lt_of_le kl1 HGC.out.size
          have S1 : (w5.drew.cell? ⟨b1, o1 + (c + 1) * 3, none⟩ = some (.int .i64 z.1.1) ∧ w5.drew.cell? ⟨b1, o1 + (c + 1) * 3 + 1, none⟩ = some (.int .i64 z.1.2) ∧ w5.drew.cell? ⟨b1, o1 + (c + 1) * 3 + 2, none⟩ = some (.int .u64 (z.2 : Nat)) ∧ w5.drew.cell? ⟨B0, 0, none⟩ = some (.int .i64 x.1.1) ∧ w5.drew.cell? ⟨B0, 1, none⟩ = some (.int .i64 x.1.2) ∧ w5.drew.cell? ⟨B0, 2, none⟩ = some (.int .u64 (x.2 : Nat)) ∧ w5.drew.cell? ⟨hb, 0, none⟩ = some (fv ff) ∧ b1 < w5.drew.heap.size ∧ B0 < w5.drew.heap.size ∧ hb < w5.drew.heap.size) := ⟨y0, y1, y2, (HGC.out.cell hB).trans q0,(HGC.out.cell hB).trans q1,(HGC.out.cell hB).trans q2, kc0, z2, Nat.lt_of_lt_of_le hB HGC.out.size, kcl⟩
          have keepG1 : ∀ W W' : World, (W.cell? ⟨b1, o1 + (c + 1) * 3, none⟩ = some (.int .i64 z.1.1) ∧ W.cell? ⟨b1, o1 + (c + 1) * 3 + 1, none⟩ = some (.int .i64 z.1.2) ∧ W.cell? ⟨b1, o1 + (c + 1) * 3 + 2, none⟩ = some (.int .u64 (z.2 : Nat)) ∧ W.cell? ⟨B0, 0, none⟩ = some (.int .i64 x.1.1) ∧ W.cell? ⟨B0, 1, none⟩ = some (.int .i64 x.1.2) ∧ W.cell? ⟨B0, 2, none⟩ = some (.int .u64 (x.2 : Nat)) ∧ W.cell? ⟨hb, 0, none⟩ = some (fv ff) ∧ b1 < W.heap.size ∧ B0 < W.heap.size ∧ hb < W.heap.size) → Gr W W' → (W'.cell? ⟨b1, o1 + (c + 1) * 3, none⟩ = some (.int .i64 z.1.1) ∧ W'.cell? ⟨b1, o1 + (c + 1) * 3 + 1, none⟩ = some (.int .i64 z.1.2) ∧ W'.cell? ⟨b1, o1 + (c + 1) * 3 + 2, none⟩ = some (.int .u64 (z.2 : Nat)) ∧ W'.cell? ⟨B0, 0, none⟩ = some (.int .i64 x.1.1) ∧ W'.cell? ⟨B0, 1, none⟩ = some (.int .i64 x.1.2) ∧ W'.cell? ⟨B0, 2, none⟩ = some (.int .u64 (x.2 : Nat)) ∧ W'.cell? ⟨hb, 0, none⟩ = some (fv ff) ∧ b1 < W'.heap.size ∧ B0 < W'.heap.size ∧ hb < W'.heap.size) := by
            rintro W W' ⟨a0, a1, a2, b0, b1, b2, d0, d1, d2, d3⟩ hg
            exact ⟨(hg.cell d1).trans a0,(hg.cell d1).trans a1,(hg.cell d1).trans a2, (hg.cell d2).trans b0,(hg.cell d2).trans b1,(hg.cell d2).trans b2, (hg.cell d3).trans d0, Nat.lt_of_lt_of_le d1 hg.size, Nat.lt_of_lt_of_le d2 hg.size, Nat.lt_of_lt_of_le d3 hg.size⟩
          have hah1 := HAH.out z x
          have hr1 : ahd r z x = true ∨ ahd r z x = false := by cases ahd r z x; exact Or.inr rfl; exact Or.inl rfl
          have HGD1 : Hid (Gr W1 w5.drew) := HGC.out.drew
          clear y0 y1 y2
          rcases hr1 with hr1 | hr1
          · have HR1 : Hid (Dn (ahd r) M x (c + 1)) := AA.out.step HP.out hr1
            rw [hr1] at hah1
            clear hr1
            go_upto_region 8 with fail
            go_region_held3 (fun w' => w'.cell? ⟨b1, o1 + (c + 1) * 3, none⟩ = some (.int .i64 z.1.1) ∧ w'.cell? ⟨b1, o1 + (c + 1) * 3 + 1, none⟩ = some (.int .i64 z.1.2) ∧ w'.cell? ⟨b1, o1 + (c + 1) * 3 + 2, none⟩ = some (.int .u64 (z.2 : Nat)) ∧ w'.cell? ⟨B0, 0, none⟩ = some (.int .i64 x.1.1) ∧ w'.cell? ⟨B0, 1, none⟩ = some (.int .i64 x.1.2) ∧ w'.cell? ⟨B0, 2, none⟩ = some (.int .u64 (x.2 : Nat)) ∧ w'.cell? ⟨hb, 0, none⟩ = some (fv ff) ∧ b1 < w'.heap.size ∧ B0 < w'.heap.size ∧ hb < w'.heap.size)
              (first | exact S1 | exact keepG1 _ _ (by assumption) (by assumption) | assumption)
              (first | (go_at_call 48; refine (hah1 _ (by assumption) (by assumption)).mono ?_; rintro e w7 ⟨rfl, hg7⟩))
            go_wp2
            go_roundw
            case rel => exact ⟨(c + 1), 2 * (c + 1) + 1, Nat.le_of_lt (List.getElem?_eq_some_iff.1 HP.out.1).1, by first | rfl | simp, by first | rfl | go_num | simp, rfl, HGD1.out.trans hg7, HR1.out⟩
            case measure => have := HCA.out; simp [RowKit.intOf]; omega
          · have HR1 : Hid (DnEnd (ahd r) M x a) := Dn.stop HP.out hr1
            rw [hr1] at hah1
            clear hr1
            go_upto_region 8 with fail
            go_region_held3 (fun w' => w'.cell? ⟨b1, o1 + (c + 1) * 3, none⟩ = some (.int .i64 z.1.1) ∧ w'.cell? ⟨b1, o1 + (c + 1) * 3 + 1, none⟩ = some (.int .i64 z.1.2) ∧ w'.cell? ⟨b1, o1 + (c + 1) * 3 + 2, none⟩ = some (.int .u64 (z.2 : Nat)) ∧ w'.cell? ⟨B0, 0, none⟩ = some (.int .i64 x.1.1) ∧ w'.cell? ⟨B0, 1, none⟩ = some (.int .i64 x.1.2) ∧ w'.cell? ⟨B0, 2, none⟩ = some (.int .u64 (x.2 : Nat)) ∧ w'.cell? ⟨hb, 0, none⟩ = some (fv ff) ∧ b1 < w'.heap.size ∧ B0 < w'.heap.size ∧ hb < w'.heap.size)
              (first | exact S1 | exact keepG1 _ _ (by assumption) (by assumption) | assumption)
              (first | (go_at_call 48; refine (hah1 _ (by assumption) (by assumption)).mono ?_; rintro e w7 ⟨rfl, hg7⟩))
            go_wp2
            go_ret
            exact ⟨a, rfl, AA.out, HR1.out, HG.out.trans (HGD1.out.trans hg7)⟩
        · have HP : Hid (Pick (ahd r) M a c y) := ⟨HY.out, Or.inl ⟨HCA.out, fun z' hz' => by
            have hzz := HZ.out
            rw [show c + 1 = 2 * a + 2 by have := HCA.out; omega, hz'] at hzz
            cases hzz
            exact hr⟩⟩
          rw [hr] at hah
          clear hr
          go_upto_region 6 with fail
          go_region_held3 (fun w' => w'.cell? ⟨b1, o1 + (c + 1) * 3, none⟩ = some (.int .i64 z.1.1) ∧ w'.cell? ⟨b1, o1 + (c + 1) * 3 + 1, none⟩ = some (.int .i64 z.1.2) ∧ w'.cell? ⟨b1, o1 + (c + 1) * 3 + 2, none⟩ = some (.int .u64 (z.2 : Nat)) ∧ w'.cell? ⟨b1, o1 + c * 3, none⟩ = some (.int .i64 y.1.1) ∧ w'.cell? ⟨b1, o1 + c * 3 + 1, none⟩ = some (.int .i64 y.1.2) ∧ w'.cell? ⟨b1, o1 + c * 3 + 2, none⟩ = some (.int .u64 (y.2 : Nat)) ∧ w'.cell? ⟨hb, 0, none⟩ = some (fv ff) ∧ b1 < w'.heap.size ∧ hb < w'.heap.size)
            (first | exact S0 | exact keepG _ _ (by assumption) (by assumption) | assumption)
            (first | (go_at_call 48; refine (hah _ (by assumption) (by assumption)).mono ?_; rintro e w5 ⟨rfl, hg5⟩))
          have HGC : Hid (Gr W1 w5) := HGD.out.trans hg5
          clear z2
          obtain ⟨b2, o2, c2, e2, z2, y0, y1, y2⟩ := ls_at (HL.out.below HGC.out.below) HP.out.1
          simp only [Value.slice.injEq, Option.some.injEq, Addr.mk.injEq, and_true] at e2
          obtain ⟨⟨rfl, rfl⟩, -, rfl⟩ := e2
          have kc0 : w5.drew.cell? ⟨hb, 0, none⟩ = some (fv ff) := (HGC.out.cell kl1).trans k01
          have kcl : hb < w5.drew.heap.size := Nat.lt_of_lt_of_le kl1 HGC.out.size
          have S1 : (w5.drew.cell? ⟨b1, o1 + c * 3, none⟩ = some (.int .i64 y.1.1) ∧ w5.drew.cell? ⟨b1, o1 + c * 3 + 1, none⟩ = some (.int .i64 y.1.2) ∧ w5.drew.cell? ⟨b1, o1 + c * 3 + 2, none⟩ = some (.int .u64 (y.2 : Nat)) ∧ w5.drew.cell? ⟨B0, 0, none⟩ = some (.int .i64 x.1.1) ∧ w5.drew.cell? ⟨B0, 1, none⟩ = some (.int .i64 x.1.2) ∧ w5.drew.cell? ⟨B0, 2, none⟩ = some (.int .u64 (x.2 : Nat)) ∧ w5.drew.cell? ⟨hb, 0, none⟩ = some (fv ff) ∧ b1 < w5.drew.heap.size ∧ B0 < w5.drew.heap.size ∧ hb < w5.drew.heap.size) := ⟨y0, y1, y2, (HGC.out.cell hB).trans q0,(HGC.out.cell hB).trans q1,(HGC.out.cell hB).trans q2, kc0, z2, Nat.lt_of_lt_of_le hB HGC.out.size, kcl⟩
          have keepG1 : ∀ W W' : World, (W.cell? ⟨b1, o1 + c * 3, none⟩ = some (.int .i64 y.1.1) ∧ W.cell? ⟨b1, o1 + c * 3 + 1, none⟩ = some (.int .i64 y.1.2) ∧ W.cell? ⟨b1, o1 + c * 3 + 2, none⟩ = some (.int .u64 (y.2 : Nat)) ∧ W.cell? ⟨B0, 0, none⟩ = some (.int .i64 x.1.1) ∧ W.cell? ⟨B0, 1, none⟩ = some (.int .i64 x.1.2) ∧ W.cell? ⟨B0, 2, none⟩ = some (.int .u64 (x.2 : Nat)) ∧ W.cell? ⟨hb, 0, none⟩ = some (fv ff) ∧ b1 < W.heap.size ∧ B0 < W.heap.size ∧ hb < W.heap.size) → Gr W W' → (W'.cell? ⟨b1, o1 + c * 3, none⟩ = some (.int .i64 y.1.1) ∧ W'.cell? ⟨b1, o1 + c * 3 + 1, none⟩ = some (.int .i64 y.1.2) ∧ W'.cell? ⟨b1, o1 + c * 3 + 2, none⟩ = some (.int .u64 (y.2 : Nat)) ∧ W'.cell? ⟨B0, 0, none⟩ = some (.int .i64 x.1.1) ∧ W'.cell? ⟨B0, 1, none⟩ = some (.int .i64 x.1.2) ∧ W'.cell? ⟨B0, 2, none⟩ = some (.int .u64 (x.2 : Nat)) ∧ W'.cell? ⟨hb, 0, none⟩ = some (fv ff) ∧ b1 < W'.heap.size ∧ B0 < W'.heap.size ∧ hb < W'.heap.size) := by
            rintro W W' ⟨a0, a1, a2, b0, b1, b2, d0, d1, d2, d3⟩ hg
            exact ⟨(hg.cell d1).trans a0,(hg.cell d1).trans a1,(hg.cell d1).trans a2, (hg.cell d2).trans b0,(hg.cell d2).trans b1,(hg.cell d2).trans b2, (hg.cell d3).trans d0, Nat.lt_of_lt_of_le d1 hg.size, Nat.lt_of_lt_of_le d2 hg.size, Nat.lt_of_lt_of_le d3 hg.size⟩
          have hah1 := HAH.out y x
          have hr1 : ahd r y x = true ∨ ahd r y x = false := by cases ahd r y x; exact Or.inr rfl; exact Or.inl rfl
          have HGD1 : Hid (Gr W1 w5.drew) := HGC.out.drew
          clear y0 y1 y2
          rcases hr1 with hr1 | hr1
          · have HR1 : Hid (Dn (ahd r) M x c) := AA.out.step HP.out hr1
            rw [hr1] at hah1
            clear hr1
            go_upto_region 8 with fail
            go_region_held3 (fun w' => w'.cell? ⟨b1, o1 + c * 3, none⟩ = some (.int .i64 y.1.1) ∧ w'.cell? ⟨b1, o1 + c * 3 + 1, none⟩ = some (.int .i64 y.1.2) ∧ w'.cell? ⟨b1, o1 + c * 3 + 2, none⟩ = some (.int .u64 (y.2 : Nat)) ∧ w'.cell? ⟨B0, 0, none⟩ = some (.int .i64 x.1.1) ∧ w'.cell? ⟨B0, 1, none⟩ = some (.int .i64 x.1.2) ∧ w'.cell? ⟨B0, 2, none⟩ = some (.int .u64 (x.2 : Nat)) ∧ w'.cell? ⟨hb, 0, none⟩ = some (fv ff) ∧ b1 < w'.heap.size ∧ B0 < w'.heap.size ∧ hb < w'.heap.size)
              (first | exact S1 | exact keepG1 _ _ (by assumption) (by assumption) | assumption)
              (first | (go_at_call 48; refine (hah1 _ (by assumption) (by assumption)).mono ?_; rintro e w7 ⟨rfl, hg7⟩))
            go_wp2
            go_roundw
            case rel => exact ⟨c, 2 * c + 1, Nat.le_of_lt (List.getElem?_eq_some_iff.1 HP.out.1).1, by first | rfl | simp, by first | rfl | go_num | simp, rfl, HGD1.out.trans hg7, HR1.out⟩
            case measure => have := HCA.out; simp [RowKit.intOf]; omega
          · have HR1 : Hid (DnEnd (ahd r) M x a) := Dn.stop HP.out hr1
            rw [hr1] at hah1
            clear hr1
            go_upto_region 8 with fail
            go_region_held3 (fun w' => w'.cell? ⟨b1, o1 + c * 3, none⟩ = some (.int .i64 y.1.1) ∧ w'.cell? ⟨b1, o1 + c * 3 + 1, none⟩ = some (.int .i64 y.1.2) ∧ w'.cell? ⟨b1, o1 + c * 3 + 2, none⟩ = some (.int .u64 (y.2 : Nat)) ∧ w'.cell? ⟨B0, 0, none⟩ = some (.int .i64 x.1.1) ∧ w'.cell? ⟨B0, 1, none⟩ = some (.int .i64 x.1.2) ∧ w'.cell? ⟨B0, 2, none⟩ = some (.int .u64 (x.2 : Nat)) ∧ w'.cell? ⟨hb, 0, none⟩ = some (fv ff) ∧ b1 < w'.heap.size ∧ B0 < w'.heap.size ∧ hb < w'.heap.size)
              (first | exact S1 | exact keepG1 _ _ (by assumption) (by assumption) | assumption)
              (first | (go_at_call 48; refine (hah1 _ (by assumption) (by assumption)).mono ?_; rintro e w7 ⟨rfl, hg7⟩))
            go_wp2
            go_ret
            exact ⟨a, rfl, AA.out, HR1.out, HG.out.trans (HGD1.out.trans hg7)⟩
      · have hlt2z : ¬ (c : Int) + 1 < (M.length : Int) := by omega
        have hc0 : (0 : Int) ≤ (c : Int) := by omega
        have HP : Hid (Pick (ahd r) M a c y) := ⟨HY.out, Or.inl ⟨HCA.out, fun z' hz' => by
          have := (List.getElem?_eq_some_iff.1 hz').1
          have := HCA.out
          omega⟩⟩
        go_upto_region 6 with fail
        go_quiet (fail)
        have HGC : Hid (Gr W1 (wr.drewN nq)) := HGR.out.drewN _
        generalize hwc : wr.drewN nq = wc at HGC ⊢
        clear hwc
        obtain ⟨b2, o2, c2, e2, z2, y0, y1, y2⟩ := ls_at (HL.out.below HGC.out.below) HP.out.1
        simp only [Value.slice.injEq, Option.some.injEq, Addr.mk.injEq, and_true] at e2
        obtain ⟨⟨rfl, rfl⟩, -, rfl⟩ := e2
        have kc0 : wc.drew.cell? ⟨hb, 0, none⟩ = some (fv ff) := (HGC.out.cell kl1).trans k01
        have kcl : hb < wc.drew.heap.size := Nat.lt_of_lt_of_le kl1 HGC.out.size
        have S1 : (wc.drew.cell? ⟨b1, o1 + c * 3, none⟩ = some (.int .i64 y.1.1) ∧ wc.drew.cell? ⟨b1, o1 + c * 3 + 1, none⟩ = some (.int .i64 y.1.2) ∧ wc.drew.cell? ⟨b1, o1 + c * 3 + 2, none⟩ = some (.int .u64 (y.2 : Nat)) ∧ wc.drew.cell? ⟨B0, 0, none⟩ = some (.int .i64 x.1.1) ∧ wc.drew.cell? ⟨B0, 1, none⟩ = some (.int .i64 x.1.2) ∧ wc.drew.cell? ⟨B0, 2, none⟩ = some (.int .u64 (x.2 : Nat)) ∧ wc.drew.cell? ⟨hb, 0, none⟩ = some (fv ff) ∧ b1 < wc.drew.heap.size ∧ B0 < wc.drew.heap.size ∧ hb < wc.drew.heap.size) := ⟨y0, y1, y2, (HGC.out.cell hB).trans q0,(HGC.out.cell hB).trans q1,(HGC.out.cell hB).trans q2, kc0, z2, Nat.lt_of_lt_of_le hB HGC.out.size, kcl⟩
        have keepG1 : ∀ W W' : World, (W.cell? ⟨b1, o1 + c * 3, none⟩ = some (.int .i64 y.1.1) ∧ W.cell? ⟨b1, o1 + c * 3 + 1, none⟩ = some (.int .i64 y.1.2) ∧ W.cell? ⟨b1, o1 + c * 3 + 2, none⟩ = some (.int .u64 (y.2 : Nat)) ∧ W.cell? ⟨B0, 0, none⟩ = some (.int .i64 x.1.1) ∧ W.cell? ⟨B0, 1, none⟩ = some (.int .i64 x.1.2) ∧ W.cell? ⟨B0, 2, none⟩ = some (.int .u64 (x.2 : Nat)) ∧ W.cell? ⟨hb, 0, none⟩ = some (fv ff) ∧ b1 < W.heap.size ∧ B0 < W.heap.size ∧ hb < W.heap.size) → Gr W W' → (W'.cell? ⟨b1, o1 + c * 3, none⟩ = some (.int .i64 y.1.1) ∧ W'.cell? ⟨b1, o1 + c * 3 + 1, none⟩ = some (.int .i64 y.1.2) ∧ W'.cell? ⟨b1, o1 + c * 3 + 2, none⟩ = some (.int .u64 (y.2 : Nat)) ∧ W'.cell? ⟨B0, 0, none⟩ = some (.int .i64 x.1.1) ∧ W'.cell? ⟨B0, 1, none⟩ = some (.int .i64 x.1.2) ∧ W'.cell? ⟨B0, 2, none⟩ = some (.int .u64 (x.2 : Nat)) ∧ W'.cell? ⟨hb, 0, none⟩ = some (fv ff) ∧ b1 < W'.heap.size ∧ B0 < W'.heap.size ∧ hb < W'.heap.size) := by
          rintro W W' ⟨a0, a1, a2, b0, b1, b2, d0, d1, d2, d3⟩ hg
          exact ⟨(hg.cell d1).trans a0,(hg.cell d1).trans a1,(hg.cell d1).trans a2, (hg.cell d2).trans b0,(hg.cell d2).trans b1,(hg.cell d2).trans b2, (hg.cell d3).trans d0, Nat.lt_of_lt_of_le d1 hg.size, Nat.lt_of_lt_of_le d2 hg.size, Nat.lt_of_lt_of_le d3 hg.size⟩
        have hah1 := HAH.out y x
        have hr1 : ahd r y x = true ∨ ahd r y x = false := by cases ahd r y x; exact Or.inr rfl; exact Or.inl rfl
        have HGD1 : Hid (Gr W1 wc.drew) := HGC.out.drew
        clear y0 y1 y2
        rcases hr1 with hr1 | hr1
        · have HR1 : Hid (Dn (ahd r) M x c) := AA.out.step HP.out hr1
          rw [hr1] at hah1
          clear hr1
          go_upto_region 8 with fail
          go_region_held3 (fun w' => w'.cell? ⟨b1, o1 + c * 3, none⟩ = some (.int .i64 y.1.1) ∧ w'.cell? ⟨b1, o1 + c * 3 + 1, none⟩ = some (.int .i64 y.1.2) ∧ w'.cell? ⟨b1, o1 + c * 3 + 2, none⟩ = some (.int .u64 (y.2 : Nat)) ∧ w'.cell? ⟨B0, 0, none⟩ = some (.int .i64 x.1.1) ∧ w'.cell? ⟨B0, 1, none⟩ = some (.int .i64 x.1.2) ∧ w'.cell? ⟨B0, 2, none⟩ = some (.int .u64 (x.2 : Nat)) ∧ w'.cell? ⟨hb, 0, none⟩ = some (fv ff) ∧ b1 < w'.heap.size ∧ B0 < w'.heap.size ∧ hb < w'.heap.size)
            (first | exact S1 | exact keepG1 _ _ (by assumption) (by assumption) | assumption)
            (first | (go_at_call 48; refine (hah1 _ (by assumption) (by assumption)).mono ?_; rintro e w7 ⟨rfl, hg7⟩))
          go_wp2
          go_roundw
          case rel => exact ⟨c, 2 * c + 1, Nat.le_of_lt (List.getElem?_eq_some_iff.1 HP.out.1).1, by first | rfl | simp, by first | rfl | go_num | simp, rfl, HGD1.out.trans hg7, HR1.out⟩
          case measure => have := HCA.out; simp [RowKit.intOf]; omega
        · have HR1 : Hid (DnEnd (ahd r) M x a) := Dn.stop HP.out hr1
          rw [hr1] at hah1
          clear hr1
          go_upto_region 8 with fail
          go_region_held3 (fun w' => w'.cell? ⟨b1, o1 + c * 3, none⟩ = some (.int .i64 y.1.1) ∧ w'.cell? ⟨b1, o1 + c * 3 + 1, none⟩ = some (.int .i64 y.1.2) ∧ w'.cell? ⟨b1, o1 + c * 3 + 2, none⟩ = some (.int .u64 (y.2 : Nat)) ∧ w'.cell? ⟨B0, 0, none⟩ = some (.int .i64 x.1.1) ∧ w'.cell? ⟨B0, 1, none⟩ = some (.int .i64 x.1.2) ∧ w'.cell? ⟨B0, 2, none⟩ = some (.int .u64 (x.2 : Nat)) ∧ w'.cell? ⟨hb, 0, none⟩ = some (fv ff) ∧ b1 < w'.heap.size ∧ B0 < w'.heap.size ∧ hb < w'.heap.size)
            (first | exact S1 | exact keepG1 _ _ (by assumption) (by assumption) | assumption)
            (first | (go_at_call 48; refine (hah1 _ (by assumption) (by assumption)).mono ?_; rintro e w7 ⟨rfl, hg7⟩))
          go_wp2
          go_ret
          exact ⟨a, rfl, AA.out, HR1.out, HG.out.trans (HGD1.out.trans hg7)⟩
    · have hltz : ¬ (c : Int) < (M.length : Int) := by omega
      have HE : Hid (DnEnd (ahd r) M x a) := Dn.none (by have := HCA.out; omega)
      go_wp2
      go_ret
      exact ⟨a, rfl, AA.out, HE.out, HG.out.trans hgr⟩
end Go.Proofs.Ytpcamjmfddnglaa.Ht
