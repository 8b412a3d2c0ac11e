import Derived.Test.YtaaobchodbnkpaaQuCut
namespace Go.Proofs.Ytaaobchodbnkpaa.Qe
open Go.RowKit Go.Sort
attribute [local go_sem ↓] Go.wp_at_zero Go.wp_at_succ

theorem made_row {w w1 : World} {g s : Nat} (hrow : w1.ownsRow w.heap.size 36 6 (.slice (some ⟨g, 0, none⟩) s s) s (madeCells (mv mz).cells (s * 6)).toList) : w1.ownsRow w.heap.size 36 6 (.slice (some ⟨g, 0, none⟩) s s) s (fl EM (List.replicate s mz)) := by rw [made6] at hrow; exact hrow
theorem grown_below {w w1 : World} (h : w.grownBy w1 none) : Below w.heap.size w w1 := (Kp.grownBy (S := fun _ => False) h (fun _ h => by cases h)).below (Nat.le_refl _) (fun _ h => h.elim)
section
variable {rb N C : Nat} {v : Nat → Value} {f m : Nat → Nat} {X Q : Nat → List Ms}
/-- cut of a ring into a new list. -/
theorem Pb.cut {w w1 : World} (h : Pb w rb N C v f m X Q) {i g s : Nat} (hi : i < N) (hB : Below w.heap.size w w1) (hg : w.heap.size ≤ g) (hrow : w1.ownsRow w.heap.size 36 6 (.slice (some ⟨g, 0, none⟩) s s) s (fl EM (List.replicate s mz))) (hs : m i ≤ s) (hX : (X i).length ≤ 2000000000000000000) :
    Calls Try.prog 42 #[.pointer (some ⟨rb, i * 3, none⟩), .slice (some ⟨g, 0, none⟩) s s] w1 (Cut w1 g s w.heap.size (Q i ++ List.replicate (s - m i) mz)) := by
  have h1 := h.below hB
  have hc := cut_any (Y := List.replicate s mz) w1 h1.blk.lt (h1.blk.cv hi) (h1.blk.cf hi) (h1.blk.cm hi) (h1.own i hi) (h1.rn i hi) (fun p n c e => by rw [h.cap i hi p n c e]; exact hX) hrow (by simp) hs (fun e => by have := h.row hi g e; omega) (fun e => by have := h.blk.lt; omega)
  rw [List.drop_replicate] at hc
  exact hc
set_option maxHeartbeats 2000000 in
theorem list_any {i : Nat} (w : World) (h : Pb w rb N C v f m X Q) (hi : i < N) (hX : (X i).length ≤ 2000000000000000000) (hbig : (Q i).length * 48 ≤ 281474976710656) :
    Calls Try.prog 36 #[.pointer (some ⟨rb, i * 3, none⟩)] w fun e w' => ∃ c, e = .returned (.slice (some ⟨w.heap.size, 0, none⟩) (Q i).length c) ∧ Hid (w'.ownsRow w.heap.size 36 6 (.slice (some ⟨w.heap.size, 0, none⟩) (Q i).length c) (Q i).length (fl EM (Q i)) ∧ Below w.heap.size w w') := by
  obtain ⟨s, hs⟩ : ∃ s, s = m i := ⟨_, rfl⟩
  have hq : (Q i).length = s := by rw [hs]; exact (h.rn i hi).len
  rw [hq] at hbig ⊢
  have c2 := h.blk.cm hi
  rw [← hs] at c2
  have hl := h.blk.lt
  obtain ⟨o, ho⟩ : ∃ o, o = i * 3 := ⟨_, rfl⟩
  have HC := hid (fun (w1 : World) (g : Nat) (hB : Below w.heap.size w w1) (hg : w.heap.size ≤ g) hrow => h.cut (g := g) (s := s) hi hB hg hrow (by omega) hX)
  rw [← ho] at c2 ⊢
  have HO := hid ho
  have HS := hid hs
  obtain ⟨i0, hi0, hz0, hz1, hz2⟩ := info_parts infoM
  clear h hi hX hq ho hs
  go_enter Try.func36, Try.ntmps36
  go_upto_region 2 with (at_make; refine wpList_make_full _ rfl _ _ 22 rfl w.heap.size 36 i0 (mv mz) 6 Try.underlying22 hi0 hz0 hz1 _ _ _ _ s rfl rfl rfl rfl (by rw [hz2]; omega) (by unfold maxLen; omega) (Nat.le_refl _) ?_; intro w1 hrow hg1)
  have hB1 := grown_below hg1
  have hc := HC.out w1 w.heap.size hB1 (Nat.le_refl _) (made_row hrow)
  rw [← HO.out] at hc
  have HB1 := hid hB1
  obtain ⟨g, hg⟩ : ∃ g, g = w.heap.size := ⟨_, rfl⟩
  rw [← hg] at hc ⊢
  have HGG := hid hg
  clear hrow hg1 hB1 hi0 hz0 hz1 hz2 hg HC
  go_wp2_with fail
  refine hc.mono ?_
  rintro e w2 ⟨rfl, ho2, hk2⟩
  have HF := hid (And.intro ho2 hk2)
  clear ho2 hk2 hc
  go_wp2_with fail
  go_ret
  refine ⟨s, by rw [← HGG.out]; rfl, ?_, ?_⟩
  · have h1 := HF.out.1
    rw [show s - m i = 0 by have := HS.out; omega, List.replicate_zero, List.append_nil] at h1
    rw [← HGG.out]
    exact h1
  · rw [← HGG.out]
    have h2 : Kp (fun k => k = g) w w2 := (Kp.of_below HB1.out).trans (T := fun k => k = g) HF.out.2 (fun _ _ h => h)
    exact h2.below (by rw [HGG.out]; exact Nat.le_refl _) (fun k e => by omega)
set_option maxHeartbeats 2000000 in
theorem move_any {i : Nat} (s : Nat) (w : World) (h : Pb w rb N C v f m X Q) (hi : i < N) (hX : (X i).length ≤ 2000000000000000000) (hs : m i ≤ s) (hbig : s * 48 ≤ 281474976710656) :
    Calls Try.prog 34 #[.pointer (some ⟨rb, i * 3, none⟩), .int .i64 (s : Nat)] w fun e w' => e = .returned (.tuple #[]) ∧ Hid (∃ u, Pb w' rb N C (upd v i u) (upd f i 0) (upd m i (m i)) (upd X i (Q i ++ List.replicate (s - m i) mz)) (upd Q i (Q i)) ∧ Kp (fun k => k = rb) w w' ∧ ∀ g, u.ownBlock = some g → w.heap.size ≤ g) := by
  have HP := hid h
  have HI := hid hi
  have HSm := hid hs
  obtain ⟨o, ho⟩ : ∃ o, o = i * 3 := ⟨_, rfl⟩
  have HC := hid (fun (w1 : World) (g : Nat) (hB : Below w.heap.size w w1) (hg : w.heap.size ≤ g) hrow => h.cut (g := g) (s := s) hi hB hg hrow hs hX)
  rw [← ho]
  have HO := hid ho
  obtain ⟨i0, hi0, hz0, hz1, hz2⟩ := info_parts infoM
  clear h hi hX ho hs
  go_enter Try.func34, Try.ntmps34
  go_upto_region 1 with (at_make; refine wpList_make_full _ rfl _ _ 22 rfl w.heap.size 36 i0 (mv mz) 6 Try.underlying22 hi0 hz0 hz1 _ _ _ _ s rfl rfl rfl rfl (by rw [hz2]; omega) (by unfold maxLen; omega) (Nat.le_refl _) ?_; intro w1 hrow hg1)
  have hB1 := grown_below hg1
  have hc := HC.out w1 w.heap.size hB1 (Nat.le_refl _) (made_row hrow)
  rw [← HO.out] at hc
  have HB1 := hid hB1
  obtain ⟨g, hg⟩ : ∃ g, g = w.heap.size := ⟨_, rfl⟩
  rw [← hg] at hc ⊢
  have HGG := hid hg
  clear hrow hg1 hB1 hi0 hz0 hz1 hz2 hg HC
  go_wp2_with fail
  refine hc.mono ?_
  rintro e w2 ⟨rfl, ho2, hk2⟩
  have HF := hid (And.intro ho2 hk2)
  clear ho2 hk2 hc
  have hB2 : Below w.heap.size w w2 := by
    have h2 : Kp (fun k => k = g) w w2 := (Kp.of_below HB1.out).trans (T := fun k => k = g) HF.out.2 (fun _ _ h => h)
    exact h2.below (Nat.le_refl _) (fun k e => by have := HGG.out; omega)
  have HP2 := hid (HP.out.below hB2)
  have HB2 := hid hB2
  have l2 := HP2.out.blk.lt
  have f0 := HP2.out.blk.fz o
  have f1 := HP2.out.blk.fz (o + 1)
  have c0 := HP2.out.blk.cv HI.out
  have c1 := HP2.out.blk.cf HI.out
  rw [← HO.out] at c0 c1
  clear hB2
  go_wp2_with fail
  go_end0
  refine ⟨rfl, .slice (some ⟨g, 0, none⟩) s s, ?_⟩
  rw [HO.out]
  obtain ⟨b1, k1⟩ := HP2.out.blk.setV HI.out (.slice (some ⟨g, 0, none⟩) s s)
  obtain ⟨b2, k2⟩ := b1.setF HI.out 0
  have hk : Kp (fun k => k = rb) w2 _ := k1.trans k2 (fun _ _ h => h)
  have hkw : Kp (fun k => k = rb) w _ := (Kp.of_below HB2.out).trans (T := fun k => k = rb) hk (fun _ _ h => h)
  have hlen : (Q i ++ List.replicate (s - m i) mz).length = s := by
    rw [List.length_append, (HP.out.rn i HI.out).len, List.length_replicate]
    have := HSm.out
    omega
  have hgr : g ≠ rb := fun e => by have := HP.out.blk.lt; have := HGG.out; omega
  refine ⟨HP.out.turn HI.out (by rw [upd_id]; exact b2) ?_ ?_ ?_ (hkw.mono (fun _ h => Or.inl h)) (fun k hk => Or.inr ?_), hkw, fun k hk => ?_⟩
  · rw [hlen]
    exact owns_base (owns_kp hk HF.out.1 (fun k hk e => hgr ((own_eq hk).trans e))) (Nat.zero_le _)
  · have h1 := Rn.made (l := Q i) (Z := List.replicate (s - m i) mz)
    rw [(HP.out.rn i HI.out).len] at h1
    exact h1
  · intro p n c e
    rw [hlen]
    cases e
    rfl
  · rw [← own_eq hk, HGG.out]; exact Nat.le_refl _
  · rw [← own_eq hk, HGG.out]; exact Nat.le_refl _
end
end Go.Proofs.Ytaaobchodbnkpaa.Qe
