import Derived.Test.YtcdmgclkgojgaaaPoRef2
namespace Go.Proofs.Ytcdmgclkgojgaaa.Pi
open Go.RowKit Go.Sort
attribute [local go_sem ↓] Go.wp_at_zero Go.wp_at_succ

/-- The rest of a list, as a slice of it. -/
theorem tail_form {w : World} {g n cap k : Nat} {L : List Tg} (h : Ls EH w (.slice (some ⟨g, 0, none⟩) n cap) L) (hk : k ≤ L.length) (hc : L.length ≤ cap) : Ls EH w (.slice (if cap = k then some ⟨g, 0, none⟩ else some ⟨g, k * 3, none⟩) (L.length - k) (cap - k)) (L.drop k) := by
  by_cases e : cap = k
  · rw [if_pos e]
    exact h.void (by omega) _
  · rw [if_neg e]
    have := h.tail (k := k) (cap - k)
    rw [show 0 + k * EH.k = k * 3 by simp [EH]] at this
    exact this
set_option maxHeartbeats 4000000 in
set_option maxRecDepth 100000 in
theorem rtake_any {rb W : Nat} {v : Value} {L : List Tg} {Q : Nat → List Int} (f t : Int) (w : World) (h : Rv w rb W v L) (hR : Rel W Q L) (h8 : W ≤ 8) (hL : L.length * 24 ≤ 140737488355328) : Calls Try.prog 47 #[.pointer (some ⟨rb, 0, none⟩), .int .i64 f, .int .i64 t] w fun e w' => e = .returned (.tuple #[.int .i64 (lk W Q f t 0).1, .int .i64 ((lk W Q f t 0).2 : Nat)]) ∧ Hid (∃ u L', Rv w' rb W u L' ∧ Rel W (tkn W Q f t) L' ∧ L'.length ≤ L.length ∧ Rt w rb v u w') := by
  have hlk := rlook_any f t 0 w h hR hL
  rcases lk_first (W := W) (Q := Q) (f := f) (t := t) with ⟨hk, x, l, hq, he⟩ | ⟨h1, h2, h3, h4⟩
  · have hvals : vals f t L = x :: l := by rw [← hR.q f t hk]; exact hq
    rw [he] at hlk ⊢
    have hol : 0 < (ons f t L L.length).length := by rw [ons_length, hvals]; simp
    obtain ⟨j, hj⟩ : ∃ j, (ons f t L L.length)[0]? = some j := ⟨_, List.getElem?_eq_getElem hol⟩
    have HREL := hid (hR.take h8 hk hj)
    obtain ⟨y, hy, -⟩ := ons_get hj
    have hjl := (List.getElem?_eq_some_iff.1 hy).1
    have HJ : Hid ((ni (ons f t L L.length))[0]? = some (j : Int)) := ni_get hj
    have HRv := hid h
    have hvl : (vals f t L).length = l.length + 1 := by rw [hvals]; rfl
    obtain ⟨g, cap, hv, hnc, hcm⟩ : ∃ g cap, v = .slice (some ⟨g, 0, none⟩) L.length cap ∧ L.length ≤ cap ∧ cap ≤ maxLen := by
      rcases owns_form h.own with ⟨_, h0⟩ | ⟨g, cap, hv, h1, h2, _⟩
      · omega
      · exact ⟨g, cap, hv, h1, h2⟩
    subst hv
    have hon : ∀ w1, Below w.heap.size w w1 → Calls Try.prog 27 #[.pointer (some ⟨rb, 0, none⟩), .int .i64 f, .int .i64 t] w1 fun e w' => ∃ p c, e = .returned (.slice p (l.length + 1) c) ∧ Ls ET w' (.slice p (l.length + 1) c) (ni (ons f t L L.length)) ∧ Below w1.heap.size w1 w' := fun w1 hb => by
      have := ron_any f t w1 (h.below hb) hL
      rw [hvl] at this
      exact this
    have HL := hid hL
    have HVL : Hid ((ons f t L L.length).length = l.length + 1) := by rw [ons_length]; exact hvl
    have HCM := hid hcm
    clear hcm
    clear h hR hk hq he hj hy hol hvals hvl hL
    go_enter Try.func47, Try.ntmps47
    go_wp2_with fail
    refine hlk.mono ?_
    rintro e w1 ⟨rfl, hB1⟩
    have hon1 := hon w1 hB1
    have HB1 := hid hB1
    clear hlk hon hB1
    go_wp2_with fail
    refine hon1.mono ?_
    rintro e w2 ⟨p2, c2, rfl, hl2, hB2⟩
    have HB2 := hid (HB1.out.trans (hB2.mono HB1.out.size))
    have R2 := hid (HRv.out.below HB2.out)
    obtain ⟨b5, o5, c5, e5, z5, y0⟩ := ls_at hl2 HJ.out
    rw [List.length_map, HVL.out] at e5
    simp only [Value.slice.injEq] at e5
    obtain ⟨rfl, -, rfl⟩ := e5
    rw [Nat.add_zero] at y0
    have d1 := R2.out.c1
    have dl := R2.out.lt
    have L2 := hid R2.out.lst
    have LT := hid (L2.out.cut (k := j) (by omega) cap)
    have LD := hid (tail_form L2.out (k := j + 1) (by omega) hnc)
    have j0 : (0 : Int) ≤ (j : Int) := by omega
    have jc : (j : Int) ≤ (cap : Int) := by omega
    have jl : (j : Int) + 1 ≤ (L.length : Int) := by omega
    have j1 : (0 : Int) ≤ (j : Int) + 1 := by omega
    have jcc : j ≤ 5864062014806 := by have := HL.out; omega
    have HBG : Hid ((0 + (L.take j).length) * 24 ≤ 140737488355328 ∧ 0 + (L.take j).length ≤ maxLen) := by
      have := HL.out
      rw [List.length_take, Nat.min_eq_left (by omega)]
      exact ⟨by omega, by unfold maxLen; omega⟩
    obtain ⟨n, hn⟩ : ∃ n, n = L.length := ⟨_, rfl⟩
    obtain ⟨T, hT⟩ : ∃ T, T = L.take j := ⟨_, rfl⟩
    obtain ⟨D, hD⟩ : ∃ D, D = L.drop (j + 1) := ⟨_, rfl⟩
    have HBG2 : Hid ((T.length + D.length) * 24 ≤ 140737488355328 ∧ T.length + D.length ≤ maxLen) := by
      have := HL.out
      rw [hT, hD, List.length_take, List.length_drop, Nat.min_eq_left (by omega)]
      exact ⟨by omega, by unfold maxLen; omega⟩
    have HTD := hid (And.intro hT hD)
    rw [← hT] at LT HBG
    rw [← hD] at LD
    have HN := hid hn
    rw [← hn] at LD d1 hnc jl
    have hcn : (n : Int) ≤ (cap : Int) := by omega
    have HJL := hid hjl
    clear hl2 hB2 hon1 hn hT hD L2 hjl
    go_wp2_with (at_builtin; refine wpAppL EH Try.underlying66 infoH rfl (by decide) rfl _ _ rfl w2.heap.size _ 0 [] rfl (owns_nil _ _ _ _) _ T rfl LT.out HBG.out.1 HBG.out.2 (Nat.le_refl _) ?_)
    intro v3 w3 ho3 hg3
    have hB3 : Below w2.heap.size w2 w3 := (Kp.grownBy (S := fun _ => False) hg3 (fun k hk => by simp [Value.ownBlock] at hk)).below (Nat.le_refl _) (fun _ h => h.elim)
    have HO3 : Hid (w3.ownsRow w2.heap.size 109 3 v3 T.length (fl EH T)) := owns_re ho3 (by simp) (by simp)
    have HB3 := hid hB3
    have d1 := (R2.out.below hB3).c1
    rw [← HN.out] at d1
    have dl := (R2.out.below hB3).lt
    have LD3 := hid (LD.out.below hB3)
    obtain ⟨p3, n3, c3, rfl⟩ : ∃ p3 n3 c3, v3 = .slice p3 n3 c3 := by
      rcases owns_form (owns_base HO3.out (Nat.zero_le _)) with ⟨rfl, _⟩ | ⟨g, cap, rfl, _⟩
      · exact ⟨_, _, _, rfl⟩
      · exact ⟨_, _, _, rfl⟩
    clear ho3 hg3 hB3 y0 z5
    go_wp2_with (at_builtin; refine wpAppL EH Try.underlying66 infoH rfl (by decide) rfl _ _ rfl w2.heap.size _ T.length _ rfl HO3.out _ D rfl LD3.out HBG2.out.1 HBG2.out.2 HB3.out.size ?_)
    all_goals (
      intro v4 w4 ho4 hg4
      have hB4 : Below w2.heap.size w2 w4 := HB3.out.trans ((Kp.grownBy (S := fun k => w2.heap.size ≤ k) hg4 (fun k hk => (HO3.out.lt k hk).1)).below HB3.out.size (fun _ h => h))
      have HO4 : Hid (w4.ownsRow w2.heap.size 109 3 v4 (T ++ D).length (fl EH (T ++ D))) := owns_re ho4 (by simp) (by rw [fl_append])
      have HG := hid (R2.out.set (owns_base HO4.out (Nat.zero_le _)) (Kp.of_below hB4) (fun k hk => Or.inr (HO4.out.lt k hk).1))
      have f4 := (R2.out.below hB4).fz 1
      have d4 := (R2.out.below hB4).c1
      rw [← HN.out] at d4
      have l4 := (R2.out.below hB4).lt
      obtain ⟨p4, n4, c4, rfl⟩ : ∃ p4 n4 c4, v4 = .slice p4 n4 c4 := by
        rcases owns_form (owns_base HO4.out (Nat.zero_le _)) with ⟨rfl, _⟩ | ⟨g, cap, rfl, _⟩
        · exact ⟨_, _, _, rfl⟩
        · exact ⟨_, _, _, rfl⟩
      clear ho4 hg4 hB4 d1 dl
      go_wp2
      go_ret2
      have hrel := HREL.out
      rw [← HTD.out.1, ← HTD.out.2] at hrel
      refine ⟨rfl, .slice p4 n4 c4, T ++ D, HG.out.1, hrel, ?_, (Kp.of_below HB2.out).trans HG.out.2 (fun _ _ h => h), fun k hk => Or.inr (Nat.le_trans HB2.out.size (HO4.out.lt k hk).1)⟩
      have := HJL.out
      rw [List.length_append, HTD.out.1, HTD.out.2, List.length_take, List.length_drop]
      omega)
  · have hne : ¬ ((lk W Q f t 0).2 = 0) := h1
    have hnz : ((lk W Q f t 0).2 : Int) ≠ 0 := by omega
    have HRv := hid (And.intro h hR)
    rw [h2]
    generalize lk W Q f t 0 = r at *
    obtain ⟨x, n⟩ := r
    dsimp only at h3
    subst h3
    have hnz : ((n : Int) == 0) = false := by simp at hnz ⊢; omega
    have hnz2 : ((n : Int) != 0) = true := by simp at hnz ⊢; omega
    clear h hR h1 h2 h4 hne
    go_enter Try.func47, Try.ntmps47
    go_wp2_with fail
    refine hlk.mono ?_
    rintro e w1 ⟨rfl, hB1⟩
    have HB1 := hid hB1
    clear hB1 hlk
    go_wp2
    go_ret2
    exact ⟨rfl, v, L, HRv.out.1.below HB1.out, HRv.out.2, Nat.le_refl _, Kp.of_below HB1.out, fun g hg => Or.inl hg⟩
end Go.Proofs.Ytcdmgclkgojgaaa.Pi
