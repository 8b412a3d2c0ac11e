import Derived.Test.YtcdmgclkgojgaaaPoAllI
import Derived.Test.YtcdmgclkgojgaaaPoPair
namespace Go.Proofs.Ytcdmgclkgojgaaa.Pi
open Go.RowKit Go.Sort
attribute [local go_sem ↓] Go.wp_at_zero Go.wp_at_succ
/-- The links on which something is. -/
def bsy (W : Nat) (Q : Nat → List Th) : List (Int × Int) := bsA (fun f t => ln W Q f t) W W
set_option maxHeartbeats 4000000 in
theorem busy_any {S : Nat → Prop} {hb W N : Nat} {Q : Nat → List Th} (w : World) (h : Pq w S hb W N Q) : Calls Try.prog 23 #[.pointer (some ⟨hb, 0, none⟩)] w fun e w' => ∃ v, e = .returned v ∧ w'.ownsRow w.heap.size 81 2 v (bsy W Q).length (fl EP (bsy W Q)) ∧ Below w.heap.size w w' := by
  have hwk : ∀ w1, Below w.heap.size w w1 → Calls Try.prog 50 #[.pointer (some ⟨hb, 0, none⟩)] w1 fun e w' => e = .returned (.int .i64 (W : Nat)) ∧ w' = w1 := fun m h1 => workers_any _ (h.below h1)
  have hln : ∀ w1 (f t : Int), Below w.heap.size w w1 → Calls Try.prog 28 #[.pointer (some ⟨hb, 0, none⟩), .int .i64 f, .int .i64 t] w1 fun e w' => e = .returned (.int .i64 (ln W Q f t : Nat)) ∧ ∃ m', w' = w1.drewN m' := fun m f t h1 => len_any f t _ (h.below h1)
  have h8 : W ≤ 8 := h.w8
  unfold bsy
  obtain ⟨g, hg⟩ : ∃ g : Nat → Nat → Nat, g = fun f t => ln W Q (f : Nat) (t : Nat) := ⟨_, rfl⟩
  rw [← hg]
  have HG : Hid (∀ f t : Nat, ln W Q f t = g f t) := fun f t => by rw [hg]
  clear h hg
  go_enter Try.func23, Try.ntmps23
  go_wp2_with fail
  refine (hwk w (Gr.refl _).below).mono ?_
  rintro e w1 ⟨rfl, rfl⟩
  go_wp2_with fail
  go_loopw [3, 8] (fun s3 s8 wr => ∃ F : Nat, F ≤ W ∧ s8 = .int .i64 F ∧ Hid (wr.ownsRow w1.heap.size 81 2 s3 (bsA g W F).length (fl EP (bsA g W F))) ∧ Hid (Below w1.heap.size w1 wr)) (fun _ s8 _ => W - (RowKit.intOf s8).toNat)
  case atStart => exact ⟨0, Nat.zero_le _, rfl, owns_nil _ _ _ _, (Gr.refl _).below⟩
  case round =>
    obtain ⟨F, hF, rfl, HO, HB⟩ := hrel
    by_cases hlt : F < W
    · have hltz : (F : Int) < (W : Int) := by omega
      go_wp2_with fail
      refine (hwk wr HB.out).mono ?_
      rintro e w2 ⟨rfl, rfl⟩
      go_wp2_with fail
      go_loopw [3, 13] (fun s3 s13 wr => ∃ T : Nat, T ≤ W ∧ s13 = .int .i64 T ∧ Hid (wr.ownsRow w1.heap.size 81 2 s3 (bsA g W F ++ bsR g F T).length (fl EP (bsA g W F ++ bsR g F T))) ∧ Hid (Below w1.heap.size w1 wr)) (fun _ s13 _ => W - (RowKit.intOf s13).toNat)
      case atStart => exact ⟨0, Nat.zero_le _, rfl, by show World.ownsRow _ _ _ _ _ _ _; rw [bsR, List.append_nil]; exact HO.out, HB.out⟩
      case round =>
        obtain ⟨T, hT, rfl, HO2, HB2⟩ := hrel
        by_cases hlt2 : T < W
        · have hlt2z : (T : Int) < (W : Int) := by omega
          have hl2 := hln wr F T HB2.out
          rw [HG.out] at hl2
          have hbl : (bsA g W F ++ bsR g F T).length ≤ 64 := by
            rw [List.length_append]
            have h1 := bsA_le g W F
            have h2 := bsR_le g F T
            have h3 : F * W ≤ 7 * 8 := Nat.mul_le_mul (by omega) h8
            omega
          have HBL := hid hbl
          by_cases hp : 0 < g F T
          · have hpz : (0 : Int) < (g F T : Int) := by omega
            have HR : Hid (bsA g W F ++ bsR g F (T + 1) = bsA g W F ++ bsR g F T ++ [((F : Int), (T : Int))]) := by show _ = _; rw [bsR, if_pos hp, List.append_assoc]
            obtain ⟨l, hl⟩ : ∃ l, l = bsA g W F ++ bsR g F T := ⟨_, rfl⟩
            rw [← hl] at HR HO2 HBL
            generalize g F T = n at *
            clear hl hbl hp
            go_wp2_with fail
            refine hl2.mono ?_
            rintro e w3 ⟨rfl, m3, hm3⟩
            have HG3 : Hid (Gr wr w3) := by rw [hm3]; exact (Gr.refl _).drewN _
            have HO3 := hid (owns_below HO2.out HG3.out.below)
            have HB3 := hid (HB2.out.trans (HG3.out.below.mono HB2.out.size))
            clear hm3
            go_wp2_with (at_builtin; refine wpApp1 EP Try.underlying36 infoP rfl (by decide) rfl _ _ rfl w1.heap.size _ l.length _ rfl HO3.out ((F : Int), (T : Int)) (by first | rfl | (go_simp; done)) (by have := HBL.out; omega) (by have := HBL.out; unfold maxLen; omega) HB3.out.size _ rfl _ ?_)
            intro gg cap w4 ho4 hg4 hn4
            have HO4 : Hid (w4.ownsRow w1.heap.size 81 2 (.slice (some ⟨gg, 0, none⟩) (l.length + 1) cap) (bsA g W F ++ bsR g F (T + 1)).length (fl EP (bsA g W F ++ bsR g F (T + 1)))) := by
              rw [HR.out]
              exact owns_re ho4 (by simp) (by rw [fl_append, fl_one])
            have HB4 : Hid (Below w1.heap.size w1 w4) := HB3.out.trans ((Kp.grownBy (S := fun k => w1.heap.size ≤ k) hg4 (fun k hk => (HO3.out.lt k hk).1)).below HB3.out.size (fun _ h => h))
            clear ho4 hg4 hn4
            go_wp2_with fail
            go_roundw
            case rel => exact ⟨T + 1, hlt2, by simp, HO4, HB4⟩
            case measure => simp [RowKit.intOf]; omega
          · have hpz : ¬ (0 : Int) < (g F T : Int) := by omega
            have HR : Hid (bsA g W F ++ bsR g F (T + 1) = bsA g W F ++ bsR g F T) := by show _ = _; rw [bsR, if_neg hp, List.append_nil]
            generalize g F T = n at *
            go_wp2_with fail
            refine hl2.mono ?_
            rintro e w3 ⟨rfl, m3, hm3⟩
            have HG3 : Hid (Gr wr w3) := by rw [hm3]; exact (Gr.refl _).drewN _
            have HO3 := hid (owns_below HO2.out HG3.out.below)
            have HB3 := hid (HB2.out.trans (HG3.out.below.mono HB2.out.size))
            clear hm3
            go_wp2_with fail
            go_roundw
            case rel => exact ⟨T + 1, hlt2, by simp, by show World.ownsRow _ _ _ _ _ _ _; rw [HR.out]; exact HO3.out, HB3⟩
            case measure => simp [RowKit.intOf]; omega
        · have hlt2z : ¬ (T : Int) < (W : Int) := by omega
          have hTW : T = W := by omega
          subst hTW
          go_wp2_with fail
          go_roundw
          case rel => exact ⟨F + 1, hlt, by simp, HO2, HB2⟩
          case measure => simp [RowKit.intOf]; omega
    · have hltz : ¬ (F : Int) < (W : Int) := by omega
      have hFW : F = W := by omega
      subst hFW
      go_wp2
      go_ret
      exact ⟨_, rfl, HO.out, HB.out⟩
end Go.Proofs.Ytcdmgclkgojgaaa.Pi
