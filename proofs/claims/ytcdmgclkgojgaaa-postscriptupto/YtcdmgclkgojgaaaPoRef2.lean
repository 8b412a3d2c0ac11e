import Derived.Test.YtcdmgclkgojgaaaPoRef
import Derived.Test.YtcdmgclkgojgaaaPoPair
namespace Go.Proofs.Ytcdmgclkgojgaaa.Pi
open Go.RowKit Go.Sort
attribute [local go_sem ↓] Go.wp_at_zero Go.wp_at_succ

theorem ni_get {l : List Nat} {i j : Nat} (h : l[i]? = some j) : (ni l)[i]? = some (j : Int) := by simp [ni, h]
set_option maxHeartbeats 4000000 in
set_option maxRecDepth 100000 in
theorem rlook_any {rb W : Nat} {v : Value} {L : List Tg} {Q : Nat → List Int} (f t i : Int) (w : World) (h : Rv w rb W v L) (hR : Rel W Q L) (hL : L.length * 24 ≤ 140737488355328) : Calls Try.prog 49 #[.pointer (some ⟨rb, 0, none⟩), .int .i64 f, .int .i64 t, .int .i64 i] w fun e w' => e = .returned (.tuple #[.int .i64 (lk W Q f t i).1, .int .i64 ((lk W Q f t i).2 : Nat)]) ∧ Below w.heap.size w w' := by
  have hmx : Try.prog.follows .mixedOrders = true := by kernel_rfl
  have hlk := rlink_any f t w h.lt h.c0
  by_cases hk : Lnk W f t
  · rw [decide_eq_true hk] at hlk
    have hon := ron_any f t w h hL
    have HLK : Hid (lk W Q f t i = if 0 ≤ i then match (vals f t L)[i.toNat]? with | some x => (x, 0) | none => (tz, 43) else (tz, 43)) := by show _ = _; unfold lk; rw [if_pos hk, hR.q f t hk]; rfl
    have HRv := hid h
    have HOL : Hid ((vals f t L).length ≤ L.length) := by rw [← ons_length]; exact ons_le f t L L.length
    clear h hR hk
    by_cases h0 : 0 ≤ i
    · obtain ⟨I, rfl⟩ : ∃ I : Nat, i = I := ⟨i.toNat, by omega⟩
      by_cases h1 : I < (vals f t L).length
      · have hIl : (I : Int) < ((vals f t L).length : Int) := by omega
        have hIl2 : I < (ons f t L L.length).length := by rw [ons_length]; exact h1
        obtain ⟨x, hx, hv, _, _⟩ := ons_get (List.getElem?_eq_getElem hIl2)
        have HR : Hid (lk W Q f t I = (x.2.2, 0)) := by
          show _ = _
          rw [HLK.out, if_pos h0, Int.toNat_natCast, hv]
        obtain ⟨j, hj⟩ : ∃ j, j = (ons f t L L.length)[I] := ⟨_, rfl⟩
        have HJ : Hid ((ni (ons f t L L.length))[I]? = some (j : Int)) := ni_get (by rw [hj]; exact List.getElem?_eq_getElem hIl2)
        rw [← hj] at hx
        have hjl := (List.getElem?_eq_some_iff.1 hx).1
        have hjz : (j : Int) < (L.length : Int) := by omega
        have j0 : (0 : Int) ≤ (j : Int) := by omega
        have HXX := hid hx
        clear HLK hx hv h1 hIl2 hj hjl
        go_enter Try.func49, Try.ntmps49
        go_wp2_with fail
        refine hlk.mono ?_
        rintro e w1 ⟨rfl, rfl⟩
        go_wp2_with fail
        refine hon.mono ?_
        rintro e w2 ⟨p2, c2, rfl, hl2, hB2⟩
        have HB2 := hid hB2
        have hR2 := HRv.out.below hB2
        obtain ⟨b5, o5, c5, e5, z5, y0⟩ := ls_at hl2 HJ.out
        rw [List.length_map, ons_length] at e5
        simp only [Value.slice.injEq] at e5
        obtain ⟨rfl, -, rfl⟩ := e5
        obtain ⟨b6, o6, c6, e6, z6, -, -, x2⟩ := h_at hR2.lst HXX.out
        subst e6
        have d1 := hR2.c1
        have dl := hR2.lt
        generalize (vals f t L).length = n at *
        clear hl2 hB2 hR2 hon hlk
        go_wp2_with fail
        go_quiet (fail)
        go_wp2
        go_ret2
        refine ⟨?_, HB2.out.trans (((Gr.refl _).drewN _).below.mono HB2.out.size)⟩
        rw [HR.out]; rfl
      · have hIl : ¬ (I : Int) < ((vals f t L).length : Int) := by omega
        have hI2 : ((vals f t L).length : Int) ≤ (I : Int) := by omega
        have HR : Hid (lk W Q f t I = (tz, 43)) := by
          show _ = _
          rw [HLK.out, if_pos h0, Int.toNat_natCast, List.getElem?_eq_none (by omega)]
        clear HLK h1
        go_enter Try.func49, Try.ntmps49
        go_wp2_with fail
        refine hlk.mono ?_
        rintro e w1 ⟨rfl, rfl⟩
        go_wp2_with fail
        refine hon.mono ?_
        rintro e w2 ⟨p2, c2, rfl, hl2, hB2⟩
        have HB2 := hid hB2
        generalize (vals f t L).length = n at *
        clear hB2 hl2 hon
        go_wp2
        go_ret2
        refine ⟨?_, HB2.out⟩
        rw [HR.out]; rfl
    · have h0' : i < 0 := by omega
      have HR : Hid (lk W Q f t i = (tz, 43)) := by
        show _ = _
        rw [HLK.out, if_neg h0]
      clear HLK
      go_enter Try.func49, Try.ntmps49
      go_wp2_with fail
      refine hlk.mono ?_
      rintro e w1 ⟨rfl, rfl⟩
      go_wp2_with fail
      refine hon.mono ?_
      rintro e w2 ⟨p2, c2, rfl, hl2, hB2⟩
      have HB2 := hid hB2
      clear hB2 hl2 hon
      go_wp2
      go_ret2
      refine ⟨?_, HB2.out⟩
      rw [HR.out]; rfl
  · rw [decide_eq_false hk] at hlk
    have HR : Hid (lk W Q f t i = (tz, 40)) := by show _ = _; unfold lk; rw [if_neg hk]
    clear h hk hR
    go_enter Try.func49, Try.ntmps49
    go_wp2_with fail
    refine hlk.mono ?_
    rintro e w1 ⟨rfl, rfl⟩
    go_wp2
    go_ret2
    refine ⟨?_, (Gr.refl _).below⟩
    rw [HR.out]; rfl
/-- What a call may turn of the document's post. -/
def Rt (w : World) (rb : Nat) (v u : Value) (w' : World) : Prop := Kp (fun k => k = rb ∨ v.ownBlock = some k) w w' ∧ ∀ g, u.ownBlock = some g → v.ownBlock = some g ∨ w.heap.size ≤ g
set_option maxHeartbeats 4000000 in
theorem rput_any {rb W : Nat} {v : Value} {L : List Tg} {Q : Nat → List Int} (f t x : Int) (w : World) (h : Rv w rb W v L) (hR : Rel W Q L) (h8 : W ≤ 8) (hL : (L.length + 1) * 24 ≤ 140737488355328) : Calls Try.prog 45 #[.pointer (some ⟨rb, 0, none⟩), .int .i64 f, .int .i64 t, .int .i64 x] w fun e w' => e = .returned (.int .i64 (pe W f t : Nat)) ∧ Hid (∃ u L', Rv w' rb W u L' ∧ Rel W (ptn W Q f t x) L' ∧ L'.length ≤ L.length + 1 ∧ Rt w rb v u w') := by
  have hlk := rlink_any f t w h.lt h.c0
  by_cases hk : Lnk W f t
  · rw [decide_eq_true hk] at hlk
    have HPE : Hid (pe W f t = 0) := by show _ = _; unfold pe; rw [if_pos hk]
    have HREL := hid (hR.put h8 hk x)
    have HRv := hid h
    have HOW := hid h.own
    have c1 := h.c1
    have hl := h.lt
    have hvo := h.off
    have HL := hid hL
    rw [HPE.out]
    clear h hR hk hL
    go_enter Try.func45, Try.ntmps45
    go_wp2_with fail
    refine hlk.mono ?_
    rintro e w1 ⟨rfl, rfl⟩
    clear hlk
    go_wp2_with (at_builtin; refine wpApp1 EH Try.underlying66 infoH rfl (by decide) rfl _ _ rfl 0 v L.length _ rfl HOW.out (f, t, x) (by first | rfl | (go_simp; done)) HL.out (by have := HL.out; unfold maxLen; omega) (Nat.zero_le _) _ rfl _ ?_)
    intro g cap w3 ho3 hg3 hn3
    have hk3 : Kp (fun k => v.ownBlock = some k) w1 w3 := Kp.grownBy hg3 (fun _ h => h)
    have HG := hid (HRv.out.set (L' := L ++ [(f, t, x)]) (u := .slice (some ⟨g, 0, none⟩) (L.length + 1) cap) (owns_re ho3 (by simp) (by rw [fl_append, fl_one])) hk3 (fun k hk => by rw [← own_eq hk]; exact hn3))
    have HN3 := hid hn3
    have f0 : w3.frozen? ⟨rb, 1, none⟩ = false := by have := (hk3.block rb hl hvo).trans HRv.out.blk; simp [World.frozen?, this]
    have d0 : w3.cell? ⟨rb, 1, none⟩ = some v := (hk3.cell hl hvo).trans c1
    have l3 : rb < w3.heap.size := Nat.lt_of_lt_of_le hl hk3.size
    clear ho3 hg3 hn3 hk3 c1 hl hvo HOW
    go_wp2
    go_ret
    exact ⟨rfl, .slice (some ⟨g, 0, none⟩) (L.length + 1) cap, _, HG.out.1, HREL.out, by simp, HG.out.2, fun k hk => by rw [← own_eq hk]; exact HN3.out⟩
  · rw [decide_eq_false hk] at hlk
    have HPE : Hid (pe W f t = 40 ∧ ptn W Q f t x = Q) := ⟨by unfold pe; rw [if_neg hk], by unfold ptn; rw [if_neg hk]⟩
    rw [HPE.out.1, HPE.out.2]
    have HRv := hid (And.intro h hR)
    clear h hR hk hL
    go_enter Try.func45, Try.ntmps45
    go_wp2_with fail
    refine hlk.mono ?_
    rintro e w1 ⟨rfl, rfl⟩
    go_wp2
    go_ret
    exact ⟨rfl, v, L, HRv.out.1, HRv.out.2, Nat.le_succ _, Kp.refl _ _, fun g hg => Or.inl hg⟩
theorem rnew_any (n : Int) (w : World) (h1 : 1 ≤ n) (h8 : n ≤ 8) : Calls Try.prog 21 #[.int .i64 n] w fun e w' => e = .returned (.tuple #[.pointer (some ⟨w.heap.size, 0, none⟩), .int .i64 0]) ∧ Rv w' w.heap.size n.toNat (.slice none 0 0) [] ∧ Gr w w' := by
  obtain ⟨W, rfl⟩ : ∃ W : Nat, n = W := ⟨n.toNat, by omega⟩
  have h1' : ¬ (W : Int) < 1 := by omega
  have h8' : ¬ (8 : Int) < (W : Int) := by omega
  go_enter Try.func21, Try.ntmps21
  go_wp2
  go_ret2
  refine ⟨rfl, ⟨?_, owns_nil _ _ _ _, by simp [Value.ownBlock]⟩, (Gr.refl _).alloc _⟩
  exact heap_new' _ _
theorem rnew_bad (n : Int) (w : World) (h : n < 1 ∨ 8 < n) : Calls Try.prog 21 #[.int .i64 n] w fun e w' => e = .returned (.tuple #[.pointer none, .int .i64 1]) ∧ w' = w := by
  by_cases h1 : n < 1
  · clear h
    go_enter Try.func21, Try.ntmps21
    go_wp2
    go_ret2
    exact ⟨rfl, rfl⟩
  · have h8 : 8 < n := by omega
    clear h
    go_enter Try.func21, Try.ntmps21
    go_wp2
    go_ret2
    exact ⟨rfl, rfl⟩
set_option maxHeartbeats 4000000 in
theorem rcopy_any {rb W : Nat} {v : Value} {L : List Tg} (w : World) (h : Rv w rb W v L) (hL : L.length * 24 ≤ 140737488355328) : Calls Try.prog 26 #[.pointer (some ⟨rb, 0, none⟩)] w fun e w' => ∃ b u, e = .returned (.pointer (some ⟨b, 0, none⟩)) ∧ Hid (Rv w' b W u L ∧ w.heap.size ≤ b ∧ (∀ g, u.ownBlock = some g → w.heap.size ≤ g) ∧ Below w.heap.size w w') := by
  obtain ⟨pv, cv, rfl⟩ := h.form
  have c0 := h.c0
  have c1 := h.c1
  have hl := h.lt
  have HRv := hid h
  have HLs := hid h.lst
  have HBG : Hid ((0 + L.length) * 24 ≤ 140737488355328 ∧ 0 + L.length ≤ maxLen) := ⟨by omega, by unfold maxLen; omega⟩
  clear h hL
  go_enter Try.func26, Try.ntmps26
  go_wp2_with (at_builtin; refine wpAppL EH Try.underlying66 infoH rfl (by decide) rfl _ _ rfl w.heap.size _ 0 [] rfl (owns_nil _ _ _ _) _ L rfl HLs.out HBG.out.1 HBG.out.2 (Nat.le_refl _) ?_)
  intro v2 w2 ho2 hg2
  have hB2 : Below w.heap.size w w2 := (Kp.grownBy (S := fun _ => False) hg2 (fun k hk => by simp [Value.ownBlock] at hk)).below (Nat.le_refl _) (fun _ h => h.elim)
  have d0 : w2.cell? ⟨rb, 0, none⟩ = some (.int .i64 (W : Nat)) := (hB2.cell (p := ⟨rb, 0, none⟩) hl).trans c0
  have l2 : rb < w2.heap.size := Nat.lt_of_lt_of_le hl hB2.size
  have HO2 : Hid (w2.ownsRow w.heap.size 109 3 v2 L.length (fl EH L)) := owns_re ho2 (by simp) (by simp)
  have HB2 := hid hB2
  obtain ⟨p2, n2, c2, rfl⟩ : ∃ p2 n2 c2, v2 = .slice p2 n2 c2 := by
    rcases owns_form (owns_base ho2 (Nat.zero_le _)) with ⟨rfl, _⟩ | ⟨g, cap, rfl, _⟩
    · exact ⟨_, _, _, rfl⟩
    · exact ⟨_, _, _, rfl⟩
  clear ho2 hg2 hB2 c0 c1 hl
  go_wp2
  go_ret
  have hG : Gr w2 (w2.alloc (.cells #[.int .i64 (W : Nat), .slice p2 n2 c2] 68)) := (Gr.refl _).alloc _
  refine ⟨w2.heap.size, .slice p2 n2 c2, rfl, ⟨⟨heap_new' _ _, owns_base (owns_below HO2.out hG.below) (Nat.zero_le _), fun e => ?_⟩, HB2.out.size, fun g hg => (HO2.out.lt g hg).1, HB2.out.trans (hG.below.mono HB2.out.size)⟩⟩
  have := (HO2.out.lt _ e).2
  omega
set_option maxHeartbeats 4000000 in
theorem rbusy_any {rb W : Nat} {v : Value} {L : List Tg} (w : World) (h : Rv w rb W v L) (h8 : W ≤ 8) (hL : L.length * 24 ≤ 140737488355328) : Calls Try.prog 24 #[.pointer (some ⟨rb, 0, none⟩)] w fun e w' => ∃ u, e = .returned u ∧ w'.ownsRow w.heap.size 81 2 u (bsA (fun f t => (vals f t L).length) W W).length (fl EP (bsA (fun f t => (vals f t L).length) W W)) ∧ Below w.heap.size w w' := by
  have hon : ∀ w1 (f t : Int), Below w.heap.size w w1 → Calls Try.prog 27 #[.pointer (some ⟨rb, 0, none⟩), .int .i64 f, .int .i64 t] w1 fun e w' => ∃ p c, e = .returned (.slice p (vals f t L).length c) ∧ Ls ET w' (.slice p (vals f t L).length c) (ni (ons f t L L.length)) ∧ Below w1.heap.size w1 w' := fun w1 f t h1 => ron_any f t w1 (h.below h1) hL
  have HRv := hid h
  obtain ⟨g, hg⟩ : ∃ g : Nat → Nat → Nat, g = fun f t => (vals (f : Nat) (t : Nat) L).length := ⟨_, rfl⟩
  rw [← hg]
  have HG : Hid (∀ f t : Nat, (vals f t L).length = g f t) := fun f t => by rw [hg]
  clear h hg hL
  go_enter Try.func24, Try.ntmps24
  go_wp2_with fail
  go_loopw [3, 4] (fun s3 s4 wr => ∃ F : Nat, F ≤ W ∧ s4 = .int .i64 F ∧ Hid (wr.ownsRow w.heap.size 81 2 s3 (bsA g W F).length (fl EP (bsA g W F))) ∧ Hid (Below w.heap.size w wr)) (fun _ s4 _ => W - (RowKit.intOf s4).toNat)
  case atStart => exact ⟨0, Nat.zero_le _, rfl, owns_nil _ _ _ _, (Gr.refl _).below⟩
  case round =>
    obtain ⟨F, hF, rfl, HO, HB⟩ := hrel
    have c0 := (HRv.out.below HB.out).c0
    have hl := (HRv.out.below HB.out).lt
    by_cases hlt : F < W
    · have hltz : (F : Int) < (W : Int) := by omega
      go_wp2_with fail
      go_loopw [3, 5] (fun s3 s5 wr => ∃ T : Nat, T ≤ W ∧ s5 = .int .i64 T ∧ Hid (wr.ownsRow w.heap.size 81 2 s3 (bsA g W F ++ bsR g F T).length (fl EP (bsA g W F ++ bsR g F T))) ∧ Hid (Below w.heap.size w wr)) (fun _ s5 _ => W - (RowKit.intOf s5).toNat)
      case atStart => exact ⟨0, Nat.zero_le _, rfl, by show World.ownsRow _ _ _ _ _ _ _; rw [bsR, List.append_nil]; exact HO.out, HB.out⟩
      case round =>
        clear c0 hl
        obtain ⟨T, hT, rfl, HO2, HB2⟩ := hrel
        have c0 := (HRv.out.below HB2.out).c0
        have hl := (HRv.out.below HB2.out).lt
        by_cases hlt2 : T < W
        · have hlt2z : (T : Int) < (W : Int) := by omega
          have hl2 := hon wr F T HB2.out
          rw [HG.out] at hl2
          have hbl : (bsA g W F ++ bsR g F T).length ≤ 64 := by
            rw [List.length_append]
            have h1 := bsA_le g W F
            have h2 := bsR_le g F T
            have h3 : F * W ≤ 7 * 8 := Nat.mul_le_mul (by omega) h8
            omega
          have HBL := hid hbl
          by_cases hp : 0 < g F T
          · have hpz : (0 : Int) < (g F T : Int) := by omega
            have HR : Hid (bsA g W F ++ bsR g F (T + 1) = bsA g W F ++ bsR g F T ++ [((F : Int), (T : Int))]) := by show _ = _; rw [bsR, if_pos hp, List.append_assoc]
            obtain ⟨l, hl9⟩ : ∃ l, l = bsA g W F ++ bsR g F T := ⟨_, rfl⟩
            rw [← hl9] at HR HO2 HBL
            generalize g F T = n at *
            clear hl9 hbl hp
            go_wp2_with fail
            refine hl2.mono ?_
            rintro e w3 ⟨p3, c3, rfl, -, hB3⟩
            have HO3 := hid (owns_below HO2.out hB3)
            have HB3 := hid (HB2.out.trans (hB3.mono HB2.out.size))
            clear hB3 hl2
            go_wp2_with (at_builtin; refine wpApp1 EP Try.underlying36 infoP rfl (by decide) rfl _ _ rfl w.heap.size _ l.length _ rfl HO3.out ((F : Int), (T : Int)) (by first | rfl | (go_simp; done)) (by have := HBL.out; omega) (by have := HBL.out; unfold maxLen; omega) HB3.out.size _ rfl _ ?_)
            intro gg cap w4 ho4 hg4 hn4
            have HO4 : Hid (w4.ownsRow w.heap.size 81 2 (.slice (some ⟨gg, 0, none⟩) (l.length + 1) cap) (bsA g W F ++ bsR g F (T + 1)).length (fl EP (bsA g W F ++ bsR g F (T + 1)))) := by
              rw [HR.out]
              exact owns_re ho4 (by simp) (by rw [fl_append, fl_one])
            have HB4 : Hid (Below w.heap.size w w4) := HB3.out.trans ((Kp.grownBy (S := fun k => w.heap.size ≤ k) hg4 (fun k hk => (HO3.out.lt k hk).1)).below HB3.out.size (fun _ h => h))
            clear ho4 hg4 hn4
            go_wp2_with fail
            go_roundw
            case rel => exact ⟨T + 1, hlt2, by simp, HO4, HB4⟩
            case measure => simp [RowKit.intOf]; omega
          · have hpz : ¬ (0 : Int) < (g F T : Int) := by omega
            have HR : Hid (bsA g W F ++ bsR g F (T + 1) = bsA g W F ++ bsR g F T) := by show _ = _; rw [bsR, if_neg hp, List.append_nil]
            generalize g F T = n at *
            go_wp2_with fail
            refine hl2.mono ?_
            rintro e w3 ⟨p3, c3, rfl, -, hB3⟩
            have HO3 := hid (owns_below HO2.out hB3)
            have HB3 := hid (HB2.out.trans (hB3.mono HB2.out.size))
            clear hB3 hl2
            go_wp2_with fail
            go_roundw
            case rel => exact ⟨T + 1, hlt2, by simp, by show World.ownsRow _ _ _ _ _ _ _; rw [HR.out]; exact HO3.out, HB3⟩
            case measure => simp [RowKit.intOf]; omega
        · have hlt2z : ¬ (T : Int) < (W : Int) := by omega
          have hTW : T = W := by omega
          subst hTW
          go_wp2_with fail
          go_roundw
          case rel => exact ⟨F + 1, hlt, by simp, HO2, HB2⟩
          case measure => simp [RowKit.intOf]; omega
    · have hltz : ¬ (F : Int) < (W : Int) := by omega
      have hFW : F = W := by omega
      subst hFW
      go_wp2
      go_ret
      exact ⟨_, rfl, HO.out, HB.out⟩
end Go.Proofs.Ytcdmgclkgojgaaa.Pi
