import Derived.Test.YtcdmgclkgojgaaaPoFaceI
namespace Go.Proofs.Ytcdmgclkgojgaaa.Pi
open Go.RowKit Go.Sort
attribute [local go_sem ↓] Go.wp_at_zero Go.wp_at_succ

/-- What Look answers. -/
def lv (r : Th × Nat) : Value := .tuple #[tv r.1, .int .i64 (r.2 : Nat)]
theorem Pq.on {w : World} {S : Nat → Prop} {hb W N : Nat} {Q : Nat → List Th} (h : Pq w S hb W N Q) {f t : Int} (hk : Lnk W f t) :
    ∃ p c, Ls ET w (.slice p (Q (nm f t)).length c) (Q (nm f t)) ∧ Calls Try.prog 53 #[.pointer (some ⟨hb, 1 + 2 * nm f t, none⟩)] w fun e w' => e = .returned (.slice p (Q (nm f t)).length c) ∧ ∃ m, w' = w.drewN m := by
  have hi := nm_lt hk h.w8
  obtain ⟨v, tk, X, hP, h1, h2, h3, h4⟩ := h
  obtain ⟨p, c, hL, hon⟩ := on_any (hb := hb) (o := 1 + 2 * nm f t) w (hP.own _ hi) (hP.le _ hi)
  have hon := hon w hP.blk.lt (hP.blk.cv hi) (hP.blk.ct hi)
  have e : (X (nm f t)).length - tk (nm f t) = (Q (nm f t)).length := by rw [← h1 _ hi]; simp
  rw [e] at hon hL
  rw [h1 _ hi] at hL
  exact ⟨p, c, hL, hon⟩
set_option maxHeartbeats 4000000 in
set_option maxRecDepth 100000 in
theorem look_any {S : Nat → Prop} {hb W N : Nat} {Q : Nat → List Th} (f t i : Int) (w : World) (h : Pq w S hb W N Q) : Calls Try.prog 48 #[.pointer (some ⟨hb, 0, none⟩), .int .i64 f, .int .i64 t, .int .i64 i] w fun e w' => e = .returned (lv (lk W Q f t i)) ∧ Below w.heap.size w w' := by
  have c0 := h.c0
  have hl := h.lt
  by_cases hk : Lnk W f t
  · have hbt := between_yes hb W f t w hl c0 hk h.w8
    obtain ⟨p, c, hL, hon⟩ := h.on hk
    have HLK : Hid (lk W Q f t i = if 0 ≤ i then match (Q (nm f t))[i.toNat]? with | some x => (x, 0) | none => (tz, 43) else (tz, 43)) := by show _ = _; unfold lk; rw [if_pos hk]; rfl
    generalize Q (nm f t) = L at *
    clear h hk
    by_cases h0 : 0 ≤ i
    · obtain ⟨I, rfl⟩ : ∃ I : Nat, i = I := ⟨i.toNat, by omega⟩
      by_cases h1 : I < L.length
      · have hIl : (I : Int) < (L.length : Int) := by omega
        obtain ⟨x, hx⟩ : ∃ x, L[I]? = some x := ⟨L[I], by rw [List.getElem?_eq_getElem]⟩
        obtain ⟨b2, o2, c2, e2, z2, x1⟩ := ls_at hL hx
        simp only [Value.slice.injEq] at e2
        obtain ⟨rfl, -, rfl⟩ := e2
        have HR : Hid (lk W Q f t I = (x, 0)) := by
          show _ = _
          rw [HLK.out, if_pos h0, Int.toNat_natCast, hx]
        clear HLK hx hL h1
        go_enter Try.func48, Try.ntmps48
        go_wp2_with fail
        refine hbt.mono ?_
        rintro e w1 ⟨rfl, rfl⟩
        go_wp2_with fail
        refine hon.mono ?_
        rintro e w2 ⟨rfl, m, hm⟩
        have y1 : w2.cell? ⟨b2, o2 + I, none⟩ = some (tv x) := by rw [hm]; exact x1
        have z3 : b2 < w2.heap.size := by rw [hm]; exact z2
        have HB2 : Hid (Below w1.heap.size w1 w2) := by rw [hm]; exact ((Gr.refl _).drewN _).below
        clear hm x1 z2
        go_wp2
        go_ret2
        refine ⟨?_, HB2.out⟩
        rw [HR.out]; rfl
      · have hIl : ¬ (I : Int) < (L.length : Int) := by omega
        have hI2 : (L.length : Int) ≤ (I : Int) := by omega
        have HR : Hid (lk W Q f t I = (tz, 43)) := by
          show _ = _
          rw [HLK.out, if_pos h0, Int.toNat_natCast, List.getElem?_eq_none (by omega)]
        clear HLK hL h1
        go_enter Try.func48, Try.ntmps48
        go_wp2_with fail
        refine hbt.mono ?_
        rintro e w1 ⟨rfl, rfl⟩
        go_wp2_with fail
        refine hon.mono ?_
        rintro e w2 ⟨rfl, m, hm⟩
        have HB2 : Hid (Below w1.heap.size w1 w2) := by rw [hm]; exact ((Gr.refl _).drewN _).below
        clear hm
        go_wp2
        go_ret2
        refine ⟨?_, HB2.out⟩
        rw [HR.out]; rfl
    · have h0' : i < 0 := by omega
      have HR : Hid (lk W Q f t i = (tz, 43)) := by
        show _ = _
        rw [HLK.out, if_neg h0]
      clear HLK hL
      go_enter Try.func48, Try.ntmps48
      go_wp2_with fail
      refine hbt.mono ?_
      rintro e w1 ⟨rfl, rfl⟩
      go_wp2_with fail
      refine hon.mono ?_
      rintro e w2 ⟨rfl, m, hm⟩
      have HB2 : Hid (Below w1.heap.size w1 w2) := by rw [hm]; exact ((Gr.refl _).drewN _).below
      clear hm
      go_wp2
      go_ret2
      refine ⟨?_, HB2.out⟩
      rw [HR.out]; rfl
  · have hbt := between_no hb W f t w hl c0 hk
    have HR : Hid (lk W Q f t i = (tz, 40)) := by show _ = _; unfold lk; rw [if_neg hk]
    clear h hk
    go_enter Try.func48, Try.ntmps48
    go_wp2_with fail
    refine hbt.mono ?_
    rintro e w1 ⟨rfl, rfl⟩
    go_wp2
    go_ret2
    refine ⟨?_, (Gr.refl _).below⟩
    rw [HR.out]; rfl
/-- What is told of the first one. -/
theorem lk_first {W : Nat} {Q : Nat → List Th} {f t : Int} : (Lnk W f t ∧ ∃ x l, Q (nm f t) = x :: l ∧ lk W Q f t 0 = (x, 0)) ∨ ((lk W Q f t 0).2 ≠ 0 ∧ tkn W Q f t = Q ∧ (lk W Q f t 0).1 = tz ∧ (lk W Q f t 0).2 ≤ 43) := by
  by_cases hk : Lnk W f t
  · unfold lk tkn
    rw [if_pos hk, if_pos (Int.le_refl _), if_pos hk]
    cases hq : Q (nm f t) with
    | nil =>
      right
      refine ⟨by simp, ?_, rfl, by decide⟩
      have := upd_id Q (nm f t)
      rw [hq] at this
      exact this
    | cons x l => exact Or.inl ⟨hk, x, l, rfl, rfl⟩
  · right
    unfold lk tkn
    rw [if_neg hk, if_neg hk]
    exact ⟨by decide, rfl, rfl, by decide⟩
set_option maxHeartbeats 4000000 in
set_option maxRecDepth 100000 in
theorem take_any {S : Nat → Prop} {hb W N : Nat} {Q : Nat → List Th} (f t : Int) (w : World) (h : Pq w S hb W N Q) (hN : N * 8 ≤ 140737488355328) : Calls Try.prog 46 #[.pointer (some ⟨hb, 0, none⟩), .int .i64 f, .int .i64 t] w fun e w' => e = .returned (lv (lk W Q f t 0)) ∧ Pq w' (nx S w w') hb W N (tkn W Q f t) ∧ Kp S w w' := by
  have hlk := look_any f t 0 w h
  rcases lk_first (W := W) (Q := Q) (f := f) (t := t) with ⟨hk, x, l, hq, he⟩ | ⟨h1, h2, h3, h4⟩
  · rw [he] at hlk ⊢
    have HP0 := hid h
    have HTK : Hid (tkn W Q f t = upd Q (nm f t) l) := by show _ = _; unfold tkn; rw [if_pos hk, hq]; rfl
    have HK := hid hk
    have HQ := hid hq
    have HN := hid hN
    clear h hk hq he hN
    unfold lv at *
    go_enter Try.func46, Try.ntmps46
    go_wp2_with fail
    refine hlk.mono ?_
    rintro e w1 ⟨rfl, hB1⟩
    have HP1 := hid (HP0.out.below hB1)
    have HB1 := hid hB1
    have hbt := between_yes hb W f t w1 HP1.out.lt HP1.out.c0 HK.out HP1.out.w8
    clear hB1 hlk
    go_wp2_with fail
    refine hbt.mono ?_
    rintro e w2 ⟨rfl, rfl⟩
    clear hbt
    have hi := nm_lt HK.out HP1.out.w8
    obtain ⟨v, tk, X, hP, e1, e2, e3, e4⟩ := HP1.out
    have hdr := ldrop_any w2 hP hi (by have := e1 _ hi; rw [HQ.out] at this; by_cases hh : tk (nm f t) < (X (nm f t)).length; exact hh; rw [List.drop_of_length_le (by omega)] at this; cases this) (Nat.le_trans (Nat.mul_le_mul_right _ (e2 _ hi)) HN.out)
    have HE := hid (And.intro e1 (And.intro e2 (And.intro e3 e4)))
    have HI := hid hi
    clear hP e1 e2 e3 e4 hi
    go_wp2_with fail
    refine hdr.mono ?_
    rintro e w3 ⟨rfl, hd⟩
    have HD := hid hd
    clear hdr hd
    go_wp2
    go_ret2
    rw [HTK.out]
    obtain ⟨u, t', Y, d1, d2, d3, d4, d5⟩ := HD.out
    have hKS : Kp S w2 w3 := Kp.mono d4 (fun k hk => by
      rcases hk with rfl | hk
      · exact HE.out.2.2.1
      · exact HE.out.2.2.2 _ _ HI.out hk)
    refine ⟨rfl, ?_, (Kp.of_below HB1.out).trans hKS (fun _ _ h => h)⟩
    have hr := Pq.turn (N' := N) (L := l) HE.out.1 HE.out.2.1 HE.out.2.2.1 HE.out.2.2.2 hKS.size d1 HI.out ?_ (Nat.le_trans d3 (HE.out.2.1 _ HI.out)) (Nat.le_refl _) d5
    · exact hr.mono (fun k _ hk => hk.imp id (fun h => ⟨Nat.le_trans HB1.out.size h.1, h.2⟩)) (Nat.le_refl _)
    · rw [d2, ← List.drop_drop, HE.out.1 _ HI.out, HQ.out]
      rfl
  · have hne : ¬ ((lk W Q f t 0).2 = 0) := h1
    have hnz : ((lk W Q f t 0).2 : Int) ≠ 0 := by omega
    have HP0 := hid h
    rw [h2]
    generalize lk W Q f t 0 = r at *
    obtain ⟨x, n⟩ := r
    have hnz : ((n : Int) == 0) = false := by simp at hnz ⊢; omega
    clear h h1 h2 h3 h4 hN hne
    unfold lv at *
    go_enter Try.func46, Try.ntmps46
    go_wp2_with fail
    refine hlk.mono ?_
    rintro e w1 ⟨rfl, hB1⟩
    have HB1 := hid hB1
    clear hB1 hlk
    go_wp2
    go_ret2
    exact ⟨rfl, (HP0.out.below HB1.out).mono (fun k _ h => Or.inl h) (Nat.le_refl _), Kp.of_below HB1.out⟩
end Go.Proofs.Ytcdmgclkgojgaaa.Pi
