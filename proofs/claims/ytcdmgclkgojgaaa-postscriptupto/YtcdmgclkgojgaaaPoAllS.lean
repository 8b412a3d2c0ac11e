import Derived.Test.YtcdmgclkgojgaaaPoLookS
namespace Go.Proofs.Ytcdmgclkgojgaaa.Ps
open Go.RowKit Go.Sort
attribute [local go_sem ↓] Go.wp_at_zero Go.wp_at_succ

/-- A sum of the first n. -/
def sumTo (g : Nat → Nat) : Nat → Nat
  | 0 => 0
  | n + 1 => sumTo g n + g n
theorem sumTo_le (g : Nat → Nat) (c : Nat) (h : ∀ i, g i ≤ c) (n : Nat) : sumTo g n ≤ n * c := by
  induction n with
  | zero => simp [sumTo]
  | succ n ih => have := h n; rw [sumTo, Nat.succ_mul]; omega
/-- How many are on all links. -/
def tot (W : Nat) (Q : Nat → List Th) : Nat := sumTo (fun f => sumTo (fun t => ln W Q f t) W) W
theorem Pq.le {w : World} {S : Nat → Prop} {hb W N : Nat} {Q : Nat → List Th} (h : Pq w S hb W N Q) {i : Nat} (hi : i < 64) : (Q i).length ≤ N := by
  obtain ⟨v, tk, X, hP, h1, h2, _⟩ := h
  rw [← h1 i hi, List.length_drop]
  exact Nat.le_trans (Nat.sub_le _ _) (h2 i hi)
theorem Pq.ln_le {w : World} {S : Nat → Prop} {hb W N : Nat} {Q : Nat → List Th} (h : Pq w S hb W N Q) (f t : Int) : ln W Q f t ≤ N := by
  unfold ln
  by_cases hk : Lnk W f t
  · rw [if_pos hk]; exact h.le (nm_lt hk h.w8)
  · rw [if_neg hk]; exact Nat.zero_le _
set_option maxHeartbeats 4000000 in
theorem total_any {S : Nat → Prop} {hb W N : Nat} {Q : Nat → List Th} (w : World) (h : Pq w S hb W N Q) (hN : N * 16 ≤ 140737488355328) : Calls Try.prog 15 #[.pointer (some ⟨hb, 0, none⟩)] w fun e w' => e = .returned (.int .i64 (tot W Q : Nat)) ∧ ∃ m, w' = w.drewN m := by
  have hwk : ∀ m, Calls Try.prog 32 #[.pointer (some ⟨hb, 0, none⟩)] (w.drewN m) fun e w' => e = .returned (.int .i64 (W : Nat)) ∧ w' = w.drewN m := fun m => workers_any _ (h.gr ((Gr.refl _).drewN m))
  have hln : ∀ m (f t : Int), Calls Try.prog 31 #[.pointer (some ⟨hb, 0, none⟩), .int .i64 f, .int .i64 t] (w.drewN m) fun e w' => e = .returned (.int .i64 (ln W Q f t : Nat)) ∧ ∃ m', w' = (w.drewN m).drewN m' := fun m f t => len_any f t _ (h.gr ((Gr.refl _).drewN m))
  have HL : Hid (∀ f t : Int, ln W Q f t ≤ N) := h.ln_le
  have h8 : W ≤ 8 := h.w8
  have HN : Hid (N ≤ 140737488355328) := by show _ ≤ _; omega
  have HR : ∀ F : Nat, sumTo (fun t : Nat => ln W Q F t) W ≤ 8 * N := fun F => Nat.le_trans (sumTo_le _ N (fun i => HL.out _ _) W) (Nat.mul_le_mul_right _ h8)
  have HS : ∀ F : Nat, F ≤ W → sumTo (fun f : Nat => sumTo (fun t : Nat => ln W Q f t) W) F ≤ 64 * N := fun F hF => by
    refine Nat.le_trans (sumTo_le _ (8 * N) HR F) ?_
    have : F * (8 * N) ≤ 8 * (8 * N) := Nat.mul_le_mul_right _ (by omega)
    omega
  have HR2 : ∀ F T : Nat, T ≤ W → sumTo (fun t : Nat => ln W Q F t) T ≤ 8 * N := fun F T hT => Nat.le_trans (sumTo_le _ N (fun i => HL.out _ _) T) (Nat.mul_le_mul_right _ (by omega))
  have HS := hid HS
  have HR2 := hid HR2
  clear h HR hN
  unfold tot
  go_enter Try.func15, Try.ntmps15
  go_wp2_with fail
  refine (hwk 0).mono ?_
  rintro e w1 ⟨rfl, rfl⟩
  go_wp2_with fail
  go_loopw [3, 8] (fun s3 s8 wr => ∃ F m : Nat, F ≤ W ∧ s8 = .int .i64 F ∧ s3 = .int .i64 (sumTo (fun f : Nat => sumTo (fun t : Nat => ln W Q f t) W) F : Nat) ∧ wr = w.drewN m) (fun _ s8 _ => W - (RowKit.intOf s8).toNat)
  case atStart => exact ⟨0, 0, Nat.zero_le _, rfl, rfl, rfl⟩
  case round =>
    obtain ⟨F, m, hF, rfl, rfl, rfl⟩ := hrel
    by_cases hlt : F < W
    · have hltz : (F : Int) < (W : Int) := by omega
      go_wp2_with fail
      refine (hwk m).mono ?_
      rintro e w1 ⟨rfl, rfl⟩
      go_wp2_with fail
      go_loopw [3, 13] (fun s3 s13 wr => ∃ T m : Nat, T ≤ W ∧ s13 = .int .i64 T ∧ s3 = .int .i64 (sumTo (fun f : Nat => sumTo (fun t : Nat => ln W Q f t) W) F + sumTo (fun t : Nat => ln W Q F t) T : Nat) ∧ wr = w.drewN m) (fun _ s13 _ => W - (RowKit.intOf s13).toNat)
      case atStart => exact ⟨0, m, Nat.zero_le _, rfl, rfl, rfl⟩
      case round =>
        obtain ⟨T, m2, hT, rfl, rfl, rfl⟩ := hrel
        by_cases hlt2 : T < W
        · have hlt2z : (T : Int) < (W : Int) := by omega
          have HE : Hid (sumTo (fun f : Nat => sumTo (fun t : Nat => ln W Q f t) W) F + sumTo (fun t : Nat => ln W Q F t) T + ln W Q F T = sumTo (fun f : Nat => sumTo (fun t : Nat => ln W Q f t) W) F + sumTo (fun t : Nat => ln W Q F t) (T + 1)) := by show _ = _; rw [Nat.add_assoc]; rfl
          have b1 := HS.out F hF
          have b2 := HR2.out F T hT
          have b3 := HL.out F T
          have b4 := HN.out
          obtain ⟨A, hA⟩ : ∃ A, A = sumTo (fun f : Nat => sumTo (fun t : Nat => ln W Q f t) W) F + sumTo (fun t : Nat => ln W Q F t) T := ⟨_, rfl⟩
          rw [← hA] at HE ⊢
          have hA2 : A ≤ 72 * N := by omega
          have hl2 := hln m2 F T
          obtain ⟨B, hB⟩ : ∃ B, B = ln W Q F T := ⟨_, rfl⟩
          rw [← hB] at hl2 HE b3
          have b5 : A + B ≤ 73 * 140737488355328 := by omega
          clear hA hB b1 b2 b3 b4 hA2
          go_wp2_with fail
          refine hl2.mono ?_
          rintro e w1 ⟨rfl, m3, rfl⟩
          go_wp2_with fail
          go_roundw
          case rel =>
            refine ⟨T + 1, m2 + m3, hlt2, by simp, ?_, rfl⟩
            rw [← HE.out]
            simp
          case measure => simp [RowKit.intOf]; omega
        · have hlt2z : ¬ (T : Int) < (W : Int) := by omega
          have hTW : T = W := by omega
          subst hTW
          go_wp2_with fail
          go_roundw
          case rel => exact ⟨F + 1, m2, hlt, by simp, rfl, rfl⟩
          case measure => simp [RowKit.intOf]; omega
    · have hltz : ¬ (F : Int) < (W : Int) := by omega
      have hFW : F = W := by omega
      subst hFW
      go_wp2
      go_ret
      exact ⟨rfl, _, rfl⟩
end Go.Proofs.Ytcdmgclkgojgaaa.Ps
