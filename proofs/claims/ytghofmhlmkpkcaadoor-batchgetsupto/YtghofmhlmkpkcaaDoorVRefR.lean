import Derived.Test.YtghofmhlmkpkcaaDoorVRd3
namespace Go.Proofs.YtghofmhlmkpkcaaDoor.Wi
open Go.RowKit Go.Sort
attribute [local go_sem ↓] Go.wp_at_zero Go.wp_at_succ

set_option maxHeartbeats 2000000 in
set_option maxRecDepth 100000 in
theorem rnumber_any {v : Value} {l : List UInt8} (most : Nat) (w : World) (hL : Ls EB w v l) (hl : l.length < 9223372036854775807) :
    Calls Tryd.prog 76 #[v, .int .u64 most] w fun e w' => e = .returned (.tuple #[.int .u64 ((scan most 0 0 l).1 : Nat), .int .i64 ((scan most 0 0 l).2.1 : Nat), .int .i64 ((scan most 0 0 l).2.2 : Nat)]) ∧ w' = w := by
  have HL : Hid (Ls EB w v l) := hL
  obtain ⟨pl, cl, rfl⟩ := hL.form
  clear hL
  go_enter Tryd.func76, Tryd.ntmps76
  go_wp2_with fail
  go_loopw [7, 8, 9] (fun s7 s8 s9 wr => ∃ (i acc wt : Nat), wr = w ∧ s7 = .int .u64 acc ∧ s8 = .int .u64 wt ∧ s9 = .int .i64 i ∧ Hid (i ≤ l.length ∧ i ≤ 9 ∧ acc < 128 ^ i ∧ wt = 128 ^ i ∧ scan most 0 0 l = scan most i acc (l.drop i))) (fun _ _ s9 _ => l.length - (RowKit.intOf s9).toNat)
  case atStart => exact ⟨0, 0, 1, rfl, rfl, rfl, rfl, Nat.zero_le _, Nat.zero_le _, by decide, by decide, rfl⟩
  case round =>
    obtain ⟨i, acc, wt, rfl, rfl, rfl, rfl, HI⟩ := hrel
    have hi9 := HI.out.2.1
    have hi10 : (i : Int) < 10 := by omega
    by_cases hlt : i < l.length
    · have hltz : ¬ (l.length : Int) ≤ (i : Int) := by omega
      have hltz2 : (i : Int) < (l.length : Int) := by omega
      obtain ⟨x, hx⟩ : ∃ x, l[i]? = some x := ⟨l[i], by rw [List.getElem?_eq_getElem]⟩
      obtain ⟨b1, o1, c1, e1, z1, x0⟩ := ls_at HL.out hx
      simp only [Value.slice.injEq, true_and] at e1
      obtain ⟨rfl, rfl⟩ := e1
      have HD : Hid (l.drop i = x :: l.drop (i + 1)) := by
        rw [List.drop_eq_getElem_cons hlt]
        rw [List.getElem?_eq_getElem hlt] at hx
        simp at hx
        rw [hx]
        rfl
      have HI3 := HI.out.2.2.2.2
      have hwt := HI.out.2.2.2.1
      rw [HD.out, scan] at HI3
      have HI2 := hid HI3
      have hxl := x.toNat_lt
      have hac := HI.out.2.2.1
      clear hx HI3
      by_cases hbad : may x.toNat i = false
      · have hE : Hid (scan most 0 0 l = (0, 0, 31)) := by rw [HI2.out, if_pos hbad]; rfl
        have hcase : (0 < i ∧ x.toNat = 0) ∨ (i = 9 ∧ 1 < x.toNat) := by
          unfold may at hbad
          by_cases h9 : i = 9
          · rw [if_pos h9] at hbad
            simp at hbad
            omega
          · rw [if_neg h9] at hbad
            simp at hbad
            omega
        clear HI2 HD HI hac hwt hbad
        rcases hcase with ⟨h1, h2⟩ | ⟨h1, h2⟩
        · have h1z : (0 : Int) < (i : Int) := by omega
          have h2z : (x.toNat : Int) = 0 := by omega
          go_wp2_with fail
          go_ret3
          refine ⟨?_, rfl⟩
          rw [hE.out]
          rfl
        · subst h1
          have h2z : (1 : Int) < (x.toNat : Int) := by omega
          have h3z : ¬ (x.toNat : Int) = 0 := by omega
          go_wp2_with fail
          go_ret3
          refine ⟨?_, rfl⟩
          rw [hE.out]
          rfl
      · have hm : may x.toNat i = true := by simpa using hbad
        have hnz : ¬ (0 < i ∧ x.toNat = 0) ∧ ¬ (i = 9 ∧ 1 < x.toNat) ∧ (i = 9 → x.toNat = 1) := by
          unfold may at hm
          by_cases h9 : i = 9
          · rw [if_pos h9] at hm
            simp at hm
            omega
          · rw [if_neg h9] at hm
            refine ⟨fun h => ?_, fun h => h9 h.1, fun h => absurd h h9⟩
            simp at hm
            rcases hm with hm | hm
            · omega
            · exact hm h.2
        have hK : Hid (acc + x.toNat % 128 * 128 ^ i < 18446744073709551616 ∧ (i < 9 → acc + x.toNat % 128 * 128 ^ i < 128 ^ (i + 1)) ∧ (i < 9 → wt * 128 < 18446744073709551616)) := by
          have h8 : i < 9 → (128 : Nat) ^ i ≤ 72057594037927936 := fun h9 => by
            have := Nat.pow_le_pow_right (n := 128) (by decide) (show i ≤ 8 by omega)
            have h3 : (128 : Nat) ^ 8 = 72057594037927936 := by decide
            omega
          refine ⟨?_, fun h => ?_, fun h => ?_⟩
          · by_cases h9 : i = 9
            · have hx2 := hnz.2.2 h9
              subst h9
              rw [hx2]
              have h3 : (128 : Nat) ^ 9 = 9223372036854775808 := by decide
              rw [h3] at hac ⊢
              omega
            · have := h8 (by omega)
              have : x.toNat % 128 * 128 ^ i ≤ 127 * 72057594037927936 := Nat.mul_le_mul (by omega) this
              omega
          · rw [Nat.pow_succ]
            have : x.toNat % 128 * 128 ^ i ≤ 127 * 128 ^ i := Nat.mul_le_mul_right _ (by omega)
            omega
          · have := h8 h
            rw [hwt]
            omega
        obtain ⟨G, hG⟩ : ∃ G, G = x.toNat % 128 * 128 ^ i := ⟨_, rfl⟩
        rw [← hG] at hK HI2
        obtain ⟨S, hS⟩ : ∃ S, S = acc + G := ⟨_, rfl⟩
        rw [← hS] at hK HI2
        have hmul : IntKind.u64.wrap ((wt : Int) * ((x.toNat : Int) % 128)) = (G : Int) := by
          have e : (wt : Int) * ((x.toNat : Int) % 128) = (G : Int) := by
            rw [hG, hwt, Nat.mul_comm]
            push_cast
            rfl
          have := hK.out.1
          rw [e, IntKind.wrap_u64]
          omega
        have hadd : IntKind.u64.wrap ((acc : Int) + (G : Int)) = (S : Int) := by
          have := hK.out.1
          rw [IntKind.wrap_u64]
          omega
        obtain ⟨T, hT⟩ : ∃ T : Nat, IntKind.u64.wrap ((wt : Int) * 128) = (T : Int) := ⟨(wt * 128) % 18446744073709551616, by rw [IntKind.wrap_u64]; omega⟩
        have hTe : Hid (i < 9 → T = 128 ^ (i + 1)) := fun h => by
          have h1 := hK.out.2.2 h
          rw [IntKind.wrap_u64] at hT
          rw [Nat.pow_succ, ← hwt]
          omega
        have HNZ := hid hnz
        have hmf : ¬ may x.toNat i = false := hbad
        have HMF := hid hmf
        have HI9 := hid hi9
        clear hG hS hm hbad hac hwt HI hmf hnz hi9
        have hfin : (0 < i ∧ ¬ i = 9 ∧ ¬ (x.toNat : Int) = 0) ∨ (i = 0) ∨ (i = 9 ∧ x.toNat = 1) := by
          have := HNZ.out
          omega
        by_cases h128 : x.toNat < 128
        · have hz : (x.toNat : Int) < 128 := by omega
          by_cases hmo : most < S
          · have hmz : (most : Int) < (S : Int) := by omega
            have hE : Hid (scan most 0 0 l = (0, 0, 12)) := by rw [HI2.out, if_neg HMF.out, if_pos h128, if_pos hmo]; rfl
            clear HI2 HMF HNZ
            rcases hfin with ⟨g1, g2, g3⟩ | g1 | ⟨g1, g2⟩
            · have g1z : (0 : Int) < (i : Int) := by omega
              have g2z : ¬ (i : Int) = 9 := by omega
              go_wp2_with fail
              go_ret3
              exact ⟨by rw [hE.out]; rfl, rfl⟩
            · have g1z : ¬ (0 : Int) < (i : Int) := by omega
              have g2z : ¬ (i : Int) = 9 := by omega
              clear g1
              go_wp2_with fail
              go_ret3
              exact ⟨by rw [hE.out]; rfl, rfl⟩
            · subst g1
              have g2z : ¬ (1 : Int) < (x.toNat : Int) := by omega
              have g3z : ¬ (x.toNat : Int) = 0 := by omega
              clear g2
              go_wp2_with fail
              go_ret3
              exact ⟨by rw [hE.out]; rfl, rfl⟩
          · have hmz : ¬ (most : Int) < (S : Int) := by omega
            have hE : Hid (scan most 0 0 l = (S, i + 1, 0)) := by rw [HI2.out, if_neg HMF.out, if_pos h128, if_neg hmo]; rfl
            clear HI2 HMF HNZ
            rcases hfin with ⟨g1, g2, g3⟩ | g1 | ⟨g1, g2⟩
            · have g1z : (0 : Int) < (i : Int) := by omega
              have g2z : ¬ (i : Int) = 9 := by omega
              go_wp2_with fail
              go_ret3
              exact ⟨by rw [hE.out]; rfl, rfl⟩
            · have g1z : ¬ (0 : Int) < (i : Int) := by omega
              have g2z : ¬ (i : Int) = 9 := by omega
              clear g1
              go_wp2_with fail
              go_ret3
              exact ⟨by rw [hE.out]; rfl, rfl⟩
            · subst g1
              have g2z : ¬ (1 : Int) < (x.toNat : Int) := by omega
              have g3z : ¬ (x.toNat : Int) = 0 := by omega
              clear g2
              go_wp2_with fail
              go_ret3
              exact ⟨by rw [hE.out]; rfl, rfl⟩
        · have hz : ¬ (x.toNat : Int) < 128 := by omega
          have hN : Hid (i < 9 ∧ scan most 0 0 l = scan most (i + 1) S (l.drop (i + 1))) := by
            refine ⟨?_, by rw [HI2.out, if_neg HMF.out, if_neg h128]⟩
            have := HNZ.out.2.2
            have := HI9.out
            omega
          clear HI2 HMF
          rcases hfin with ⟨g1, g2, g3⟩ | g1 | ⟨g1, g2⟩
          · have g1z : (0 : Int) < (i : Int) := by omega
            have g2z : ¬ (i : Int) = 9 := by omega
            go_wp2_with fail
            go_roundw
            case rel => exact ⟨i + 1, S, T, trivial, rfl, rfl, by go_num, by omega, by have := hN.out.1; omega, hK.out.2.1 hN.out.1, hTe.out hN.out.1, hN.out.2⟩
            case measure => simp [RowKit.intOf]; omega
          · have g1z : ¬ (0 : Int) < (i : Int) := by omega
            have g2z : ¬ (i : Int) = 9 := by omega
            clear g1
            go_wp2_with fail
            go_roundw
            case rel => exact ⟨i + 1, S, T, trivial, rfl, rfl, by go_num, by omega, by have := hN.out.1; omega, hK.out.2.1 hN.out.1, hTe.out hN.out.1, hN.out.2⟩
            case measure => simp [RowKit.intOf]; omega
          · omega
    · have hltz : (l.length : Int) ≤ (i : Int) := by omega
      have hE : Hid (scan most 0 0 l = (0, 0, 30)) := by rw [HI.out.2.2.2.2, List.drop_of_length_le (by omega), scan]; rfl
      clear HI
      go_wp2_with fail
      go_ret3
      exact ⟨by rw [hE.out]; rfl, rfl⟩
end Go.Proofs.YtghofmhlmkpkcaaDoor.Wi
