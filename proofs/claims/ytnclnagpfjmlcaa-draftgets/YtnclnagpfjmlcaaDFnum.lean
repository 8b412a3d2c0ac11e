import Derived.Test.YtnclnagpfjmlcaaDFront
namespace Go.Proofs.Ytnclnagpfjmlcaa.Wi
open Go.RowKit Go.Sort Df
attribute [local go_sem ↓] Go.wp_at_zero Go.wp_at_succ

/-- What a call on a front has taken: nothing behind an error; else what the reading says (z: the zero value). -/
def Took {α : Type} (p : Pa α) (L : List UInt8) (a e bd : Nat) (z x : α) (a' e' bd' : Nat) : Prop :=
  if e = 0 then match p L a with
    | .inr y => x = y.1 ∧ a' = y.2 ∧ e' = 0 ∧ bd' = bd
    | .inl y => x = z ∧ e' = y.1 ∧ bd' = y.2
  else x = z ∧ e' = e ∧ bd' = bd
theorem num_eq (most over : Nat) (L : List UInt8) (a : Nat) : num most over L a = if (scan most 0 0 (L.drop a)).2.2 = 0 then .inr ((scan most 0 0 (L.drop a)).1, a + (scan most 0 0 (L.drop a)).2.1) else .inl (if (scan most 0 0 (L.drop a)).2.2 = 12 then over else (scan most 0 0 (L.drop a)).2.2, a) := rfl
set_option maxHeartbeats 4000000 in
set_option maxRecDepth 100000 in
theorem fnumber_any {fb a e bd : Nat} {v : Value} {L : List UInt8} (most over : Nat) (w : World) (h : Ft w fb v L a e bd) :
    Calls Try.prog 31 #[.pointer (some ⟨fb, 0, none⟩), .int .u64 (most : Nat), .int .i64 (over : Nat)] w fun r w' => ∃ x a' e' bd', r = .returned (.int .u64 (x : Nat)) ∧ Ft w' fb v L a' e' bd' ∧ Kp (fun k => k = fb) w w' ∧ Took (num most over) L a e bd 0 x a' e' bd' := by
  have k0 := h.c0
  have k1 := h.c1
  have k2 := h.c2
  have kf := h.fz 1
  have kl := h.lt
  have HT := hid h
  by_cases h0 : e = 0
  · subst h0
    obtain ⟨pl, cl, rfl⟩ := h.ls.form
    have hbig := h.big
    have hle := h.le
    clear h k0 k1 k2 kf kl
    go_enter Try.func31, Try.ntmps31
    go_wp2_with fail
    go_loopw [7, 8, 9] (fun s7 s8 s9 wr => ∃ (i acc wt : Nat), Hid (Gr w wr) ∧ s7 = .int .u64 acc ∧ s8 = .int .u64 wt ∧ s9 = .int .i64 i ∧ Hid (a + i ≤ L.length ∧ i ≤ 9 ∧ acc < 128 ^ i ∧ wt = 128 ^ i ∧ scan most 0 0 (L.drop a) = scan most i acc (L.drop (a + i)))) (fun _ _ s9 _ => L.length - (RowKit.intOf s9).toNat)
    case atStart => exact ⟨0, 0, 1, Gr.refl _, rfl, rfl, rfl, hle, Nat.zero_le _, by decide, by decide, rfl⟩
    case round =>
      obtain ⟨i, acc, wt, HG, rfl, rfl, rfl, HI⟩ := hrel
      have HM : Hid (∀ m, Ft (wr.drewN m) fb (.slice pl L.length cl) L a 0 bd) := fun m => HT.out.below (HG.out.drewN m).below
      have hft := HT.out.below HG.out.below
      have k0 := hft.c0
      have k1 := hft.c1
      have k2 := hft.c2
      have kf := hft.fz 1
      have kl := hft.lt
      have HL := hid hft.ls
      have hf1 := fun m => fault_any a over _ (HM.out m)
      have hf2 := fun m => fault_any a 31 _ (HM.out m)
      have hf3 := fun m => fault_any a 30 _ (HM.out m)
      have HK : Hid (∀ m w5, Kp (fun k => k = fb) (wr.drewN m) w5 → Kp (fun k => k = fb) w w5) := fun m w5 h => (Kp.of_gr (HG.out.drewN m)).trans h (fun _ _ h => h)
      clear hft
      have hi9 := HI.out.2.1
      by_cases hlt : a + i < L.length
      · have hltz : ¬ (L.length : Int) ≤ (a : Int) + (i : Int) := by omega
        have hltz2 : (a : Int) + (i : Int) < (L.length : Int) := by omega
        obtain ⟨x, hx⟩ : ∃ x, L[a + i]? = some x := ⟨L[a + i], by rw [List.getElem?_eq_getElem]⟩
        obtain ⟨b1, o1, c1, e1, z1, x0⟩ := ls_at HL.out hx
        simp only [Value.slice.injEq, true_and] at e1
        obtain ⟨rfl, rfl⟩ := e1
        have HD : Hid (L.drop (a + i) = x :: L.drop (a + (i + 1))) := by
          rw [List.drop_eq_getElem_cons hlt]
          rw [List.getElem?_eq_getElem hlt] at hx
          simp at hx
          rw [hx]
          rfl
        have HI3 := HI.out.2.2.2.2
        have HWT := hid HI.out.2.2.2.1
        rw [HD.out, scan] at HI3
        have hxl := x.toNat_lt
        unfold bv at x0
        obtain ⟨n, hn⟩ : ∃ n, n = x.toNat := ⟨_, rfl⟩
        rw [← hn] at x0 HI3 hxl
        have HI2 := hid HI3
        have hac := HI.out.2.2.1
        clear hx HI3 hn HD
        go_wp2_with fail
        go_quiet (fail)
        go_wp2_with fail
        go_quiet (fail)
        by_cases hbad : may n i = false
        · have hE : Hid (scan most 0 0 (L.drop a) = (0, 0, 31)) := by rw [HI2.out, if_pos hbad]; rfl
          have hcase : (0 < i ∧ n = 0) ∨ (i = 9 ∧ ¬ n = 1 ∧ ¬ n = 0) := by
            unfold may at hbad
            by_cases h9 : i = 9
            · rw [if_pos h9] at hbad
              simp at hbad
              omega
            · rw [if_neg h9] at hbad
              simp at hbad
              omega
          clear HI2 HI hac HWT hbad
          rcases hcase with ⟨h1, h2⟩ | ⟨h1, h2, h3⟩
          · have h1z : (0 : Int) < (i : Int) := by omega
            subst h2
            go_wp2_with (go_at_call 34; refine (hf2 _).mono ?_; rintro r w5 ⟨rfl, h5, k5⟩; have H5 := hid h5; have K5 := hid (HK.out _ _ k5); clear h5 k5)
            go_ret
            exact ⟨0, a, _, a, rfl, H5.out, K5.out, by rw [Took, if_pos rfl, num_eq, hE.out]; exact ⟨rfl, rfl, rfl⟩⟩
          · subst h1
            have h2z : ¬ (n : Int) = 1 := by omega
            have h3z : ¬ (n : Int) = 0 := by omega
            have hb1 : ((n : Int) == 0) = false := by simpa using h3
            have hb2 : ((n : Int) != 1) = true := by simp; omega
            go_wp2_with (go_at_call 34; refine (hf2 _).mono ?_; rintro r w5 ⟨rfl, h5, k5⟩; have H5 := hid h5; have K5 := hid (HK.out _ _ k5); clear h5 k5)
            go_ret
            exact ⟨0, a, _, a, rfl, H5.out, K5.out, by rw [Took, if_pos rfl, num_eq, hE.out]; exact ⟨rfl, rfl, rfl⟩⟩
        · have hm : may n i = true := by simpa using hbad
          have hnz : ¬ (0 < i ∧ n = 0) ∧ (i = 9 → n = 1) := by
            unfold may at hm
            by_cases h9 : i = 9
            · rw [if_pos h9] at hm
              simp at hm
              omega
            · rw [if_neg h9] at hm
              refine ⟨fun h => ?_, fun h => absurd h h9⟩
              simp at hm
              rcases hm with hm | hm
              · omega
              · exact hm h.2
          have hwt := HWT.out
          have hK : Hid (acc + n % 128 * 128 ^ i < 18446744073709551616 ∧ (i < 9 → acc + n % 128 * 128 ^ i < 128 ^ (i + 1)) ∧ (i < 9 → wt * 128 < 18446744073709551616)) := by
            have h8 : i < 9 → (128 : Nat) ^ i ≤ 72057594037927936 := fun h9 => by
              have := Nat.pow_le_pow_right (n := 128) (by decide) (show i ≤ 8 by omega)
              have h3 : (128 : Nat) ^ 8 = 72057594037927936 := by decide
              omega
            refine ⟨?_, fun h => ?_, fun h => ?_⟩
            · by_cases h9 : i = 9
              · have hx2 := hnz.2 h9
                subst h9
                rw [hx2]
                have h3 : (128 : Nat) ^ 9 = 9223372036854775808 := by decide
                rw [h3] at hac ⊢
                omega
              · have := h8 (by omega)
                have : n % 128 * 128 ^ i ≤ 127 * 72057594037927936 := Nat.mul_le_mul (by omega) this
                omega
            · rw [Nat.pow_succ]
              have : n % 128 * 128 ^ i ≤ 127 * 128 ^ i := Nat.mul_le_mul_right _ (by omega)
              omega
            · have := h8 h
              rw [hwt]
              omega
          obtain ⟨G, hG⟩ : ∃ G, G = n % 128 * 128 ^ i := ⟨_, rfl⟩
          rw [← hG] at hK HI2
          obtain ⟨S, hS⟩ : ∃ S, S = acc + G := ⟨_, rfl⟩
          rw [← hS] at hK HI2
          have hmul : IntKind.u64.wrap (((n : Int) % 128) * (wt : Int)) = (G : Int) := by
            have e : ((n : Int) % 128) * (wt : Int) = (G : Int) := by
              rw [hG, hwt]
              push_cast
              rfl
            have := hK.out.1
            rw [e, IntKind.wrap_u64]
            omega
          have hmul1 : n = 1 → IntKind.u64.wrap (wt : Int) = (G : Int) := fun h => by
            rw [h] at hmul
            simpa using hmul
          have hadd : IntKind.u64.wrap ((acc : Int) + (G : Int)) = (S : Int) := by
            have := hK.out.1
            rw [IntKind.wrap_u64]
            omega
          obtain ⟨T, hT⟩ : ∃ T : Nat, IntKind.u64.wrap ((wt : Int) * 128) = (T : Int) := ⟨(wt * 128) % 18446744073709551616, by rw [IntKind.wrap_u64]; omega⟩
          have hTe : Hid (i < 9 → T = 128 ^ (i + 1)) := fun h => by
            have h1 := hK.out.2.2 h
            rw [IntKind.wrap_u64] at hT
            rw [Nat.pow_succ, ← hwt]
            omega
          have HNZ := hid hnz
          have hmf : ¬ may n i = false := hbad
          have HMF := hid hmf
          have HI9 := hid hi9
          clear hG hS hm hbad hac hwt HI hmf hnz hi9
          have hfin : (0 < i ∧ ¬ i = 9 ∧ ¬ (n : Int) = 0) ∨ (i = 0) ∨ (i = 9 ∧ n = 1) := by
            have := HNZ.out
            omega
          by_cases h128 : n < 128
          · have hz : (n : Int) < 128 := by omega
            by_cases hmo : most < S
            · have hmz : (most : Int) < (S : Int) := by omega
              have hE : Hid (scan most 0 0 (L.drop a) = (0, 0, 12)) := by rw [HI2.out, if_neg HMF.out, if_pos h128, if_pos hmo]; rfl
              clear HI2 HMF HNZ h128
              rcases hfin with ⟨g1, g2, g3⟩ | g1 | ⟨g1, g2⟩
              · have g1z : (0 : Int) < (i : Int) := by omega
                have g2z : ¬ (i : Int) = 9 := by omega
                have g3b : ((n : Int) == 0) = false := by simp; omega
                go_wp2_with (go_at_call 34; refine (hf1 _).mono ?_; rintro r w5 ⟨rfl, h5, k5⟩; have H5 := hid h5; have K5 := hid (HK.out _ _ k5); clear h5 k5)
                go_ret
                exact ⟨0, a, _, a, rfl, H5.out, K5.out, by rw [Took, if_pos rfl, num_eq, hE.out]; exact ⟨rfl, rfl, rfl⟩⟩
              · have g1z : ¬ (0 : Int) < (i : Int) := by omega
                have g2z : ¬ (i : Int) = 9 := by omega
                clear g1
                go_wp2_with (go_at_call 34; refine (hf1 _).mono ?_; rintro r w5 ⟨rfl, h5, k5⟩; have H5 := hid h5; have K5 := hid (HK.out _ _ k5); clear h5 k5)
                go_ret
                exact ⟨0, a, _, a, rfl, H5.out, K5.out, by rw [Took, if_pos rfl, num_eq, hE.out]; exact ⟨rfl, rfl, rfl⟩⟩
              · subst g1
                subst g2
                have hm1 := hmul1 rfl
                go_wp2_with (go_at_call 34; refine (hf1 _).mono ?_; rintro r w5 ⟨rfl, h5, k5⟩; have H5 := hid h5; have K5 := hid (HK.out _ _ k5); clear h5 k5)
                go_ret
                exact ⟨0, a, _, a, rfl, H5.out, K5.out, by rw [Took, if_pos rfl, num_eq, hE.out]; exact ⟨rfl, rfl, rfl⟩⟩
            · have hmz : ¬ (most : Int) < (S : Int) := by omega
              have hE : Hid (scan most 0 0 (L.drop a) = (S, i + 1, 0)) := by rw [HI2.out, if_neg HMF.out, if_pos h128, if_neg hmo]; rfl
              have HS : Hid (∀ m, Ft ((wr.drewN m).setCell ⟨fb, 1, none⟩ (.int .i64 ((a : Int) + (i : Int) + 1))) fb _ L (a + (i + 1)) 0 bd ∧ Kp (fun k => k = fb) w ((wr.drewN m).setCell ⟨fb, 1, none⟩ (.int .i64 ((a : Int) + (i : Int) + 1)))) := fun m => by
                have h1 := (HM.out m).setAt (a + (i + 1)) (by omega)
                rw [show ((a + (i + 1) : Nat) : Int) = (a : Int) + (i : Int) + 1 by omega] at h1
                exact ⟨h1.1, HK.out _ _ h1.2⟩
              clear HI2 HMF HNZ h128
              rcases hfin with ⟨g1, g2, g3⟩ | g1 | ⟨g1, g2⟩
              · have g1z : (0 : Int) < (i : Int) := by omega
                have g2z : ¬ (i : Int) = 9 := by omega
                have g3b : ((n : Int) == 0) = false := by simp; omega
                go_wp2_with fail
                go_ret
                exact ⟨S, rfl, _, 0, bd, (HS.out _).1, (HS.out _).2, by rw [Took, if_pos rfl, num_eq, hE.out]; exact ⟨rfl, rfl, rfl, rfl⟩⟩
              · have g1z : ¬ (0 : Int) < (i : Int) := by omega
                have g2z : ¬ (i : Int) = 9 := by omega
                clear g1
                go_wp2_with fail
                go_ret
                exact ⟨S, rfl, _, 0, bd, (HS.out _).1, (HS.out _).2, by rw [Took, if_pos rfl, num_eq, hE.out]; exact ⟨rfl, rfl, rfl, rfl⟩⟩
              · simp only [show (i : Int) = 9 by omega] at HS
                subst g1
                subst g2
                have hm1 := hmul1 rfl
                go_wp2_with fail
                go_ret
                exact ⟨S, rfl, _, 0, bd, (HS.out _).1, (HS.out _).2, by rw [Took, if_pos rfl, num_eq, hE.out]; exact ⟨rfl, rfl, rfl, rfl⟩⟩
          · have hz : ¬ (n : Int) < 128 := by omega
            have hN : Hid (i < 9 ∧ scan most 0 0 (L.drop a) = scan most (i + 1) S (L.drop (a + (i + 1)))) := by
              refine ⟨?_, by rw [HI2.out, if_neg HMF.out, if_neg h128]⟩
              have := HNZ.out.2
              have := HI9.out
              omega
            clear HI2 HMF
            rcases hfin with ⟨g1, g2, g3⟩ | g1 | ⟨g1, g2⟩
            · have g1z : (0 : Int) < (i : Int) := by omega
              have g2z : ¬ (i : Int) = 9 := by omega
              have g3b : ((n : Int) == 0) = false := by simp; omega
              go_wp2_with fail
              go_roundw
              case rel => exact ⟨i + 1, S, T, HG.out.drewN _, rfl, rfl, by go_num, by omega, by have := hN.out.1; omega, hK.out.2.1 hN.out.1, hTe.out hN.out.1, hN.out.2⟩
              case measure => simp [RowKit.intOf]; omega
            · have g1z : ¬ (0 : Int) < (i : Int) := by omega
              have g2z : ¬ (i : Int) = 9 := by omega
              clear g1
              go_wp2_with fail
              go_roundw
              case rel => exact ⟨i + 1, S, T, HG.out.drewN _, rfl, rfl, by go_num, by omega, by have := hN.out.1; omega, hK.out.2.1 hN.out.1, hTe.out hN.out.1, hN.out.2⟩
              case measure => simp [RowKit.intOf]; omega
            · omega
      · have hltz : (L.length : Int) ≤ (a : Int) + (i : Int) := by omega
        have hE : Hid (scan most 0 0 (L.drop a) = (0, 0, 30)) := by rw [HI.out.2.2.2.2, List.drop_of_length_le (by omega), scan]; rfl
        clear HI
        go_wp2_with fail
        go_quiet (fail)
        go_wp2_with (go_at_call 34; refine (hf3 _).mono ?_; rintro r w5 ⟨rfl, h5, k5⟩; have H5 := hid h5; have K5 := hid (HK.out _ _ k5); clear h5 k5)
        go_ret
        exact ⟨0, a, _, a, rfl, H5.out, K5.out, by rw [Took, if_pos rfl, num_eq, hE.out]; exact ⟨rfl, rfl, rfl⟩⟩
  · have hz : ¬ (e : Int) = 0 := by omega
    clear h
    go_enter Try.func31, Try.ntmps31
    go_wp2_with fail
    go_loopw [7, 8, 9] (fun _ _ s9 wr => wr = w ∧ s9 = .int .i64 0) (fun _ _ _ _ => 0)
    case atStart => exact ⟨rfl, rfl⟩
    case round =>
      obtain ⟨rfl, rfl⟩ := hrel
      go_wp2_with fail
      go_ret
      exact ⟨0, a, e, bd, rfl, HT.out, Kp.refl _ _, by rw [Took, if_neg h0]; exact ⟨rfl, rfl, rfl⟩⟩
end Go.Proofs.Ytnclnagpfjmlcaa.Wi
