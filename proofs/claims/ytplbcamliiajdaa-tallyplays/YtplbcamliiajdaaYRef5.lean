import Derived.Test.YtplbcamliiajdaaYRefP
namespace Go.Proofs.Ytplbcamliiajdaa
open Go.RowKit Go.Sort Go.Maps
attribute [local go_sem ↓] Go.wp_at_zero Go.wp_at_succ

/-- What Join leaves. -/
def RJoin (r : Rf) (kind : Int) (N No : List Rk) (C Co : List Int) (w : World) (e : Ending) (w' : World) : Prop :=
  (∃ y, byd (rget N C y + rget No Co y) = true) ∧ e = .returned (.int .i64 12) ∧ Below w.heap.size w w' ∨
  (∀ y, byd (rget N C y + rget No Co y) = false) ∧ e = .returned (.int .i64 0) ∧ ∃ (r' : Rf) (N' : List Rk) (C' : List Int), r'.b = r.b ∧ RT w' r' kind N' C' ∧ (∀ y, rget N' C' y = rget N C y + rget No Co y) ∧ (∀ y ∈ N', y ∈ N ∨ y ∈ No) ∧ Kp r.own w w' ∧ ∀ k, r'.own k → r.own k ∨ w.heap.size ≤ k

/-- What some keys were given. -/
def part (N No : List Rk) (C Co : List Int) (ks : List Rk) (y : Rk) : Int := rget N C y + (if ks.any (fun z => decide (z = y)) = true then rget No Co y else 0)

set_option maxHeartbeats 8000000 in
set_option maxRecDepth 100000 in
theorem rjoin_any {r ro : Rf} {kind ko : Int} {N No : List Rk} {C Co : List Int} (w : World) (h : RT w r kind N C) (ho : RT w ro ko No Co) (hko : ko = 0 ∨ ko = 1 ∨ ko = 2) (hfw : N.length + No.length < 80000) :
    Calls Try.prog 32 #[rp r, rp ro] w (RJoin r kind N No C Co w) := by
  have hmx : Try.prog.follows .mixedOrders = true := by kernel_rfl
  have HR : Hid (RT w r kind N C) := h
  have hcp := rcopy_any w ho
  have HLo : Hid (Co.length = No.length ∧ No.Nodup ∧ ∀ c ∈ Co, -2147483647 ≤ c ∧ c ≤ 2147483647) := ⟨ho.len, ho.nd, ho.bd⟩
  have HL : Hid (C.length = N.length ∧ N.Nodup ∧ ∀ c ∈ C, -2147483647 ≤ c ∧ c ≤ 2147483647) := ⟨h.len, h.nd, h.bd⟩
  clear h ho
  go_enter Try.func32, Try.ntmps32
  go_wp2_with fail
  refine hcp.mono ?_
  rintro e w1 ⟨rc, rfl, H1⟩
  have HR1 : Hid (RT w1 r kind N C) := HR.out.bel H1.out.2.1
  have hke := rkeys_any w1 H1.out.1
  go_wp2_with fail
  refine hke.mono ?_
  rintro e w2 ⟨vk, rfl, H2⟩
  have HR2 : Hid (RT w2 r kind N C) := HR1.out.bel H2.out.2.1
  have HC2 : Hid (RT w2 rc ko No Co) := H1.out.1.bel H2.out.2.1
  have HB2 : Hid (Below w.heap.size w w2) := H1.out.2.1.trans (H2.out.2.1.mono H1.out.2.1.size)
  have HCO : Hid (∀ k, rc.own k → w.heap.size ≤ k) := H1.out.2.2
  have HKO : Hid (∀ g, vk.ownBlock = some g → w.heap.size ≤ g) := fun g hg => Nat.le_trans H1.out.2.1.size (H2.out.2.2 g hg)
  obtain ⟨ks, hks⟩ : ∃ ks, ks = rkeys ko No Co No.length := ⟨_, rfl⟩
  have HK : Hid (Lk w2 vk ks) := by rw [hks]; exact H2.out.1
  have HKm : Hid (∀ y, y ∈ ks ↔ rget No Co y ≠ 0) := fun y => by rw [hks]; exact mem_rk HLo.out.1 HLo.out.2.1 y
  have HKn : Hid (ks.Nodup) := by
    rw [hks]
    exact (srt_rkeys ko hko HLo.out.1 HLo.out.2.1 _ (Nat.le_refl _)).imp fun {a b} hab e => by
      subst e
      rw [(ltk_swo ko hko).1] at hab
      cases hab
  have hkl : ks.length ≤ No.length := by rw [hks]; exact rkeys_len ko HLo.out.1 _ (Nat.le_refl _)
  obtain ⟨pk, ck, rfl, _⟩ := HK.out.form
  clear hcp hke H1 H2 HR1 hks
  go_wp2_with fail
  go_loopw [7] (fun s7 wr => ∃ i : Nat, i ≤ ks.length ∧ s7 = .int .i64 i ∧ Gr w2 wr ∧ Hid (∀ j y, j < i → ks[j]? = some y → byd (rget N C y + rget No Co y) = false)) (fun s7 _ => ks.length - (RowKit.intOf s7).toNat)
  case atStart => exact ⟨0, Nat.zero_le _, rfl, Gr.refl _, fun j y hj => by omega⟩
  case round =>
    obtain ⟨i, hi, rfl, hgr, HM⟩ := hrel
    by_cases hlt : i < ks.length
    · have hltz : (i : Int) < (ks.length : Int) := by omega
      obtain ⟨y, hy⟩ : ∃ y, ks[i]? = some y := ⟨ks[i], by simp⟩
      obtain ⟨b1, o1, c1, e1, z1, x1, x2⟩ := (HK.out.below hgr.below).at2 hy
      simp only [Value.slice.injEq] at e1
      obtain ⟨rfl, -, rfl⟩ := e1
      have HY : Hid (ks[i]? = some y) := hy
      have hga := rget_bd HL.out.2.2 (N := N) y
      have hgb := rget_bd HLo.out.2.2 (N := No) y
      have hG1 : ∀ W, Gr wr W → Calls Try.prog 36 #[rp r, rkv y] W fun e w' => e = .returned (.int .i64 (rget N C y)) ∧ Gr W w' := fun W hW => rget_any y W ((HR2.out.gr hgr).gr hW)
      have hG2 : ∀ W, Gr wr W → Calls Try.prog 36 #[rp rc, rkv y] W fun e w' => e = .returned (.int .i64 (rget No Co y)) ∧ Gr W w' := fun W hW => rget_any y W ((HC2.out.gr hgr).gr hW)
      have hBe : ∀ W, Calls Try.prog 42 #[.int .i64 (rget N C y + rget No Co y)] W fun e w' => e = .returned (.bool (byd (rget N C y + rget No Co y))) ∧ Gr W w' := fun W => (refBeyond_any _ W).mono fun e w' h => ⟨h.1, by rw [h.2]; exact Gr.refl _⟩
      obtain ⟨a, ha⟩ : ∃ a, a = rget N C y := ⟨_, rfl⟩
      obtain ⟨b, hb⟩ : ∃ b, b = rget No Co y := ⟨_, rfl⟩
      have HAB : Hid (a = rget N C y ∧ b = rget No Co y) := ⟨ha, hb⟩
      rw [← ha] at hG1 hBe hga
      rw [← hb] at hG2 hBe hgb
      clear hy ha hb
      have hwv : IntKind.i64.wrap (a + b) = a + b := by rw [IntKind.wrap_i64]; omega
      have S0 : wr.cell? ⟨b1, o1 + i * 2, none⟩ = some (.string y.1.1) ∧ wr.cell? ⟨b1, o1 + i * 2 + 1, none⟩ = some (.int .i64 y.2) ∧ b1 < wr.heap.size := ⟨x1, x2, z1⟩
      have keepB : ∀ W W' : World, (W.cell? ⟨b1, o1 + i * 2, none⟩ = some (.string y.1.1) ∧ W.cell? ⟨b1, o1 + i * 2 + 1, none⟩ = some (.int .i64 y.2) ∧ b1 < W.heap.size) → Gr W W' → (W'.cell? ⟨b1, o1 + i * 2, none⟩ = some (.string y.1.1) ∧ W'.cell? ⟨b1, o1 + i * 2 + 1, none⟩ = some (.int .i64 y.2) ∧ b1 < W'.heap.size) := fun W W' h hb =>
        ⟨(hb.cell h.2.2).trans h.1, (hb.cell h.2.2).trans h.2.1, Nat.lt_of_lt_of_le h.2.2 hb.size⟩
      have hG1c := hG1 wr.drew (Gr.refl _).drew
      have hG2 : ∀ W, Gr wr.drew W → Calls Try.prog 36 #[rp rc, rkv y] W fun e w' => e = .returned (.int .i64 b) ∧ Gr W w' := fun W hW => hG2 W ((Gr.refl wr).drew.trans hW)
      clear hG1
      cases hq : byd (a + b) with
      | true =>
        rw [hq] at hBe
        have HQ : Hid (byd (a + b) = true) := hq
        clear hq
        go_wp2_with fail
        go_region_held3 (fun w' => w'.cell? ⟨b1, o1 + i * 2, none⟩ = some (.string y.1.1) ∧ w'.cell? ⟨b1, o1 + i * 2 + 1, none⟩ = some (.int .i64 y.2) ∧ b1 < w'.heap.size)
          (first | exact S0 | exact keepB _ _ (by assumption) (Gr.refl _).drew | exact keepB _ _ (by assumption) (by assumption))
          (first | (go_at_call 36; refine (hG2 _ g5).mono ?_; rintro e w6 ⟨rfl, g6⟩) | (go_at_call 36; refine hG1c.mono ?_; rintro e w5 ⟨rfl, g5⟩) | (go_at_call 42; refine (hBe _).mono ?_; rintro e w7 ⟨rfl, g7⟩))
        have G9 : Gr wr w7 := (((Gr.refl wr).drew.trans g5).trans g6).trans g7
        go_wp2
        go_ret
        exact Or.inl ⟨⟨y, by rw [← HAB.out.1, ← HAB.out.2]; exact HQ.out⟩, rfl, HB2.out.trans ((hgr.trans G9).below.mono HB2.out.size)⟩
      | false =>
        rw [hq] at hBe
        have HQ : Hid (byd (a + b) = false) := hq
        clear hq
        go_wp2_with fail
        go_region_held3 (fun w' => w'.cell? ⟨b1, o1 + i * 2, none⟩ = some (.string y.1.1) ∧ w'.cell? ⟨b1, o1 + i * 2 + 1, none⟩ = some (.int .i64 y.2) ∧ b1 < w'.heap.size)
          (first | exact S0 | exact keepB _ _ (by assumption) (Gr.refl _).drew | exact keepB _ _ (by assumption) (by assumption))
          (first | (go_at_call 36; refine (hG2 _ g5).mono ?_; rintro e w6 ⟨rfl, g6⟩) | (go_at_call 36; refine hG1c.mono ?_; rintro e w5 ⟨rfl, g5⟩) | (go_at_call 42; refine (hBe _).mono ?_; rintro e w7 ⟨rfl, g7⟩))
        have G9 : Gr wr w7 := (((Gr.refl wr).drew.trans g5).trans g6).trans g7
        go_wp2
        refine ⟨⟨i + 1, by omega, by go_num, hgr.trans G9, fun j z hj hz => ?_⟩, by simp [RowKit.intOf]; omega⟩
        by_cases hji : j = i
        · subst hji
          rw [HY.out] at hz
          cases hz
          rw [← HAB.out.1, ← HAB.out.2]; exact HQ.out
        · exact HM.out j z (by omega) hz
    · have hltz : ¬ (i : Int) < (ks.length : Int) := by omega
      have HALL : Hid (∀ y, byd (rget N C y + rget No Co y) = false) := fun y => by
        by_cases hy : rget No Co y = 0
        · rw [hy, Int.add_zero, byd_f]; exact rget_bd HL.out.2.2 y
        · obtain ⟨j, hj⟩ := List.mem_iff_getElem?.1 ((HKm.out y).2 hy)
          exact HM.out j y (by have := (List.getElem?_eq_some_iff.1 hj).1; omega) hj
      have HRr : Hid (RT wr r kind N C) := HR2.out.gr hgr
      have HCr : Hid (RT wr rc ko No Co) := HC2.out.gr hgr
      have HKr : Hid (Lk wr (.slice pk ks.length ck) ks) := HK.out.below hgr.below
      have HBr : Hid (Below w.heap.size w wr) := HB2.out.trans (hgr.below.mono HB2.out.size)
      have HOWN : Hid (∀ k, r.own k → k < w.heap.size) := HR.out.own_lt
      clear HM HR2 HC2 HK HB2 hgr
      obtain ⟨wL, hwL⟩ : ∃ x, x = wr := ⟨wr, rfl⟩
      subst hwL
      go_wp2_with fail
      go_loopw [8] (fun s8 wr => ∃ (i : Nat) (r' : Rf) (N' : List Rk) (C' : List Int), i ≤ ks.length ∧ s8 = .int .i64 i ∧ Hid (r'.b = r.b ∧ RT wr r' kind N' C' ∧ (∀ y, rget N' C' y = part N No C Co (ks.take i) y) ∧ (∀ y ∈ N', y ∈ N ∨ y ∈ No) ∧ N'.length ≤ N.length + i ∧ Kp r.own wL wr ∧ ∀ k, r'.own k → r.own k ∨ wL.heap.size ≤ k)) (fun s8 _ => ks.length - (RowKit.intOf s8).toNat)
      case atStart => exact ⟨0, r, N, C, Nat.zero_le _, rfl, rfl, HRr.out, fun y => by simp [part], fun y hy => Or.inl hy, by omega, Kp.refl _ _, fun k hk => Or.inl hk⟩
      case round =>
        obtain ⟨i, r', N', C', hi, rfl, HI⟩ := hrel
        by_cases hlt : i < ks.length
        · have hltz : (i : Int) < (ks.length : Int) := by omega
          obtain ⟨y, hy⟩ : ∃ y, ks[i]? = some y := ⟨ks[i], by simp⟩
          have hk6 := HI.out.2.2.2.2.2.1
          have HKi : Hid (Lk wr (.slice pk ks.length ck) ks) := HKr.out.kp hk6 (fun g hg hr => by have := HKO.out g hg; have := HOWN.out g hr; omega)
          have HCi : Hid (RT wr rc ko No Co) := HCr.out.kp hk6 (fun g hg hr => by have := HCO.out g hg; have := HOWN.out g hr; omega)
          obtain ⟨b1, o1, c1, e1, z1, x1, x2⟩ := HKi.out.at2 hy
          simp only [Value.slice.injEq] at e1
          obtain ⟨rfl, -, rfl⟩ := e1
          have HY : Hid (ks[i]? = some y) := hy
          have hgb := rget_bd HLo.out.2.2 (N := No) y
          have HPY : Hid (rget N' C' y = rget N C y) := by
            have h0 : ¬ ((ks.take i).any (fun z => decide (z = y)) = true) := by
              rw [List.any_eq_true]
              rintro ⟨z, hz, hzy⟩
              have hzy := of_decide_eq_true hzy
              subst hzy
              obtain ⟨j, hj⟩ := List.mem_iff_getElem?.1 hz
              rw [List.getElem?_take] at hj
              split at hj
              · rename_i hji
                have := nodup_get HKn.out hj HY.out
                omega
              · cases hj
            show rget N' C' y = rget N C y
            rw [HI.out.2.2.1 y]
            unfold part
            rw [if_neg h0, Int.add_zero]
          have hG2 := rget_any y wr.drew (HCi.out.gr (Gr.refl _).drew)
          have hAdd := fun W (hW : RT W r' kind N' C') => radd_any y (rget No Co y) W hW (by have := HI.out.2.2.2.2.1; omega)
          have hnb1 : byd (rget No Co y) = false := byd_f.2 hgb
          have HNB : Hid (byd (rget No Co y) = false ∧ byd (rget N' C' y + rget No Co y) = false) := ⟨hnb1, by rw [HPY.out]; exact HALL.out y⟩
          have HRi : Hid (RT wr r' kind N' C') := HI.out.2.1
          have hrb := HI.out.1
          have S0 : wr.cell? ⟨b1, o1 + i * 2, none⟩ = some (.string y.1.1) ∧ wr.cell? ⟨b1, o1 + i * 2 + 1, none⟩ = some (.int .i64 y.2) ∧ b1 < wr.heap.size := ⟨x1, x2, z1⟩
          have keepB : ∀ W W' : World, (W.cell? ⟨b1, o1 + i * 2, none⟩ = some (.string y.1.1) ∧ W.cell? ⟨b1, o1 + i * 2 + 1, none⟩ = some (.int .i64 y.2) ∧ b1 < W.heap.size) → Gr W W' → (W'.cell? ⟨b1, o1 + i * 2, none⟩ = some (.string y.1.1) ∧ W'.cell? ⟨b1, o1 + i * 2 + 1, none⟩ = some (.int .i64 y.2) ∧ b1 < W'.heap.size) := fun W W' h hb =>
            ⟨(hb.cell h.2.2).trans h.1, (hb.cell h.2.2).trans h.2.1, Nat.lt_of_lt_of_le h.2.2 hb.size⟩
          have hb1r : ¬ r'.own b1 := fun hown => by
            rcases HI.out.2.2.2.2.2.2 b1 hown with h | h
            · have := HOWN.out b1 h; have := HKO.out b1 rfl; omega
            · have := HKr.out.blk b1 rfl; omega
          have keepK : ∀ W W' : World, (W.cell? ⟨b1, o1 + i * 2, none⟩ = some (.string y.1.1) ∧ W.cell? ⟨b1, o1 + i * 2 + 1, none⟩ = some (.int .i64 y.2) ∧ b1 < W.heap.size) → Kp r'.own W W' → (W'.cell? ⟨b1, o1 + i * 2, none⟩ = some (.string y.1.1) ∧ W'.cell? ⟨b1, o1 + i * 2 + 1, none⟩ = some (.int .i64 y.2) ∧ b1 < W'.heap.size) := fun W W' h hb =>
            ⟨(World.cell?_of_block (a := ⟨b1, o1 + i * 2, none⟩) (hb.block b1 h.2.2 hb1r)).trans h.1, (World.cell?_of_block (a := ⟨b1, o1 + i * 2 + 1, none⟩) (hb.block b1 h.2.2 hb1r)).trans h.2.1, Nat.lt_of_lt_of_le h.2.2 hb.size⟩
          obtain ⟨b, hb⟩ : ∃ b, b = rget No Co y := ⟨_, rfl⟩
          have HBB : Hid (b = rget No Co y) := hb
          rw [← hb] at hG2 hAdd hgb
          have hAdd2 : ∀ W, RT W r' kind N' C' → Calls Try.prog 30 #[rp r, rkv y, .int .i64 b] W fun e w' => e = .returned (.int .i64 0) ∧ ∃ r2 : Rf, Kp r'.own W w' ∧ Hid (r2.b = r'.b ∧ RT w' r2 kind (rN N' y) (rC N' C' y b) ∧ ∀ k, r2.own k → r'.own k ∨ W.heap.size ≤ k) := fun W hW => by
            have h1 := hAdd W hW
            rw [show rp r' = rp r by unfold rp; rw [hrb]] at h1
            refine h1.mono fun e w' h2 => ?_
            rcases h2 with ⟨h3, _⟩ | ⟨_, he, r2, q1, q2, q3, q4⟩
            · rw [HBB.out, HNB.out.1, HNB.out.2] at h3
              simp at h3
            · exact ⟨he, r2, q3, q1, q2, q4⟩
          clear hAdd hy hb hnb1 HKi x1 x2 hrb hk6
          go_wp2_with fail
          go_region_held3 (fun w' => w'.cell? ⟨b1, o1 + i * 2, none⟩ = some (.string y.1.1) ∧ w'.cell? ⟨b1, o1 + i * 2 + 1, none⟩ = some (.int .i64 y.2) ∧ b1 < w'.heap.size)
            (first | exact S0 | exact keepB _ _ (by assumption) (Gr.refl _).drew | exact keepB _ _ (by assumption) (by assumption) | exact keepK _ _ (by assumption) (by assumption))
            (first | (go_at_call 36; refine hG2.mono ?_; rintro e w5 ⟨rfl, g5⟩) | (go_at_call 30; refine (hAdd2 _ ((HRi.out.gr (Gr.refl _).drew).gr g5)).mono ?_; rintro e w6 ⟨rfl, r2, k6, H6⟩))
          have k5 : Kp r.own wL w6 := (HI.out.2.2.2.2.2.1.trans (Kp.of_gr (S := r.own) ((Gr.refl wr).drew.trans g5)) (fun _ _ h => h)).trans k6 (fun k hk ho => (HI.out.2.2.2.2.2.2 k ho).elim id (fun h => by omega))
          have gz := ((Gr.refl wr).drew.trans g5).size
          have HI6 : Hid (r2.b = r.b ∧ RT w6 r2 kind (rN N' y) (rC N' C' y b) ∧ (∀ z, rget (rN N' y) (rC N' C' y b) z = part N No C Co (ks.take (i + 1)) z) ∧ (∀ z ∈ rN N' y, z ∈ N ∨ z ∈ No) ∧ (rN N' y).length ≤ N.length + (i + 1) ∧ Kp r.own wL w6 ∧ ∀ k, r2.own k → r.own k ∨ wL.heap.size ≤ k) := by
            refine ⟨H6.out.1.trans HI.out.1, H6.out.2.1, fun z => ?_, fun z hz => ?_, ?_, k5, fun k hk => ?_⟩
            · rw [rget_add HRi.out.len HRi.out.nd]
              unfold part
              rw [List.take_add_one, HY.out, List.any_append]
              by_cases hzy : z = y
              · subst hzy
                rw [if_pos rfl, HPY.out, HBB.out]
                simp
              · rw [if_neg hzy, HI.out.2.2.1 z]
                unfold part
                have : (Option.some y).toList.any (fun q => decide (q = z)) = false := by simp; exact fun e => hzy e.symm
                rw [this, Bool.or_false]
            · rcases rN_sub hz with h | h
              · exact HI.out.2.2.2.1 z h
              · right
                subst h
                have : rget No Co z ≠ 0 := (HKm.out z).1 (List.mem_of_getElem? HY.out)
                exact Classical.byContradiction fun hm => this (rget_not HLo.out.1 hm)
            · have := HI.out.2.2.2.2.1
              unfold rN
              split
              · omega
              · simp; omega
            · rcases H6.out.2.2 k hk with h | h
              · exact HI.out.2.2.2.2.2.2 k h
              · right; have := HI.out.2.2.2.2.2.1.size; omega
          clear H6 k6 k5 g5 hG2 hAdd2 HI HRi HCi S0 keepB keepK
          go_wp2
          exact ⟨⟨i + 1, r2, _, _, by omega, by go_num, HI6.out⟩, by simp [RowKit.intOf]; omega⟩
        · have hltz : ¬ (i : Int) < (ks.length : Int) := by omega
          obtain rfl : i = ks.length := by omega
          go_wp2
          go_ret
          obtain ⟨q1, q2, q3, q4, _, q6, q7⟩ := HI.out
          refine Or.inr ⟨HALL.out, rfl, r', N', C', q1, q2, fun y => ?_, q4, (Kp.of_below HBr.out).trans q6 (fun _ _ h => h), fun k hk => (q7 k hk).imp id (fun h => Nat.le_trans HBr.out.size h)⟩
          rw [q3 y, List.take_length]
          unfold part
          by_cases hy : rget No Co y = 0
          · rw [hy]; simp
          · rw [if_pos]
            rw [List.any_eq_true]
            exact ⟨y, (HKm.out y).2 hy, by simp⟩
end Go.Proofs.Ytplbcamliiajdaa
