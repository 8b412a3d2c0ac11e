import Derived.Test.YtbomkeginbhhoaaCKnown
namespace Go.Proofs.Ytbomkeginbhhoaa
open Go.RowKit Go.Sort
attribute [local go_sem ↓] Go.wp_at_zero Go.wp_at_succ

theorem kn1 : ccov (rbel 0) [] (3, 5) = false ∧ cins (rbel 0) (rfst 0) [] (3, 5) = [(3, 5)] := by decide
theorem kn2 : ccov (rbel 0) [(3, 5)] (5, 3) = false ∧ cins (rbel 0) (rfst 0) [(3, 5)] (5, 3) = [(3, 5), (5, 3)] := by decide
theorem kn3 : ccov (rbel 0) [(3, 5), (5, 3)] (4, 5) = true ∧ cins (rbel 0) (rfst 0) [(3, 5), (5, 3)] (4, 5) = [(3, 5), (5, 3)] := by decide

/-- A chain anew, its block a letter. -/
theorem made_at (k : Int) (h0 : 0 ≤ k) (h5 : k ≤ 5) (w : World) : Calls Try.prog 8 #[.int .i64 k] w fun e w' => ∃ cb fb ff, e = .returned (.pointer (some ⟨cb, 0, none⟩)) ∧ w.heap.size ≤ cb ∧ Fns k fb ff ∧ Ch w' cb fb ff (.slice none 0 0) [] ∧ Gr w w' := by
  refine (made_any k h0 h5 w).mono ?_
  rintro e w1 ⟨rfl, fb, ff, hf, hc, hg⟩
  exact ⟨_, fb, ff, rfl, Nat.le_refl _, hf, hc, hg⟩

set_option maxHeartbeats 2000000 in
set_option maxRecDepth 100000 in
theorem known_any (w : World) : Calls Try.prog 9 #[] w fun e w' => e = .returned (.bool true) ∧ Below w.heap.size w w' := by
  have hm := made_at 0 (by decide) (by decide) w
  go_enter Try.func9, Try.ntmps9
  go_wp2_with fail
  refine hm.mono ?_
  rintro e w1 ⟨cb, fb, ff, rfl, hcb, hf, hc, hg⟩
  have h1 := insert_any (3, 5) w1 hc (by decide) hf.b hf.f
  rw [kn1.1, kn1.2] at h1
  go_wp2_with fail
  refine h1.mono ?_
  rintro e w2 ⟨v2, rfl, hc2, ht2⟩
  have h2 := insert_any (5, 3) w2 hc2 (by decide) hf.b hf.f
  rw [kn2.1, kn2.2] at h2
  clear h1 hm
  go_wp2_with fail
  refine h2.mono ?_
  rintro e w3 ⟨v3, rfl, hc3, ht3⟩
  have h3 := insert_any (4, 5) w3 hc3 (by decide) hf.b hf.f
  rw [kn3.1, kn3.2] at h3
  clear h2
  go_wp2_with fail
  refine h3.mono ?_
  rintro e w4 ⟨v4, rfl, hc4, ht4⟩
  clear h3
  have B4 : Below w.heap.size w w4 := hg.below.trans (((ht2.trans ht3).trans ht4).below hg.size hcb (fun g h => by simp [Value.ownBlock] at h)).1
  clear ht2 ht3 ht4 hc hc2 hc3
  have HB4 : Hid (Below w.heap.size w w4) := B4
  have HC4 : Hid (Ch w4 cb fb ff v4 [(3, 5), (5, 3)]) := hc4
  clear B4 hc4 hg
  go_wp2_with fail
  refine (clear_nil _).mono ?_
  rintro e w5 ⟨rfl, rfl⟩
  go_wp2_with fail
  refine (insert_nil (0, 0) _).mono ?_
  rintro e w6 ⟨rfl, hg6⟩
  go_wp2_with fail
  refine (join_nil (vs := [(0, 0)]) _ (Or.inr ⟨w6.heap.size, 0, 1, rfl, by simp, fun j u hj => ?_⟩) (by unfold maxLen; decide)).mono ?_
  · have hj2 : j < 2 := (List.getElem?_eq_some_iff.1 hj).1
    match j, hj2 with
    | 0, _ => simp [flatP, encP] at hj; subst hj; simp
    | 1, _ => simp [flatP, encP] at hj; subst hj; simp
  rintro e w7 ⟨rfl, hg7⟩
  go_wp2_with fail
  refine (covers_nil (0, 0) _).mono ?_
  rintro e w8 ⟨rfl, hg8⟩
  go_wp2_with fail
  refine (cut_nil (0, 0) _).mono ?_
  rintro e w9 ⟨rfl, hg9⟩
  go_wp2_with fail
  refine (list_nil _).mono ?_
  rintro e w10 ⟨rfl, rfl⟩
  go_wp2_with fail
  refine (len_nil _).mono ?_
  rintro e w11 ⟨rfl, rfl⟩
  go_wp2_with fail
  refine (copy_nil _).mono ?_
  rintro e w12 ⟨rfl, rfl⟩
  have G : Gr w5 w12 := ((hg6.trans (((Gr.refl _).alloc _).trans hg7)).trans hg8).trans hg9
  have hl := list_any w12 (HC4.out.below G.below) (by decide)
  clear hg6 hg7 hg8 hg9
  go_wp2_with fail
  refine hl.mono ?_
  rintro e w13 ⟨v13, rfl, ho13, hb13⟩
  have HL : Hid (Lst w13 v13 [(3, 5), (5, 3)]) := owns_lst ho13
  clear ho13 hl
  go_wp2_with fail
  refine (same_any v13 _ [(3, 5), (5, 3)] [(3, 5), (5, 3)] _ (HL.out.below ((Gr.refl _).alloc _).below) (Or.inr ⟨w13.heap.size, 0, 2, rfl, by simp, fun j u hj => ?_⟩) (by unfold maxLen; decide)).mono ?_
  · have hj2 : j < 4 := (List.getElem?_eq_some_iff.1 hj).1
    match j, hj2 with
    | 0, _ => simp [flatP, encP] at hj; subst hj; simp
    | 1, _ => simp [flatP, encP] at hj; subst hj; simp
    | 2, _ => simp [flatP, encP] at hj; subst hj; simp
    | 3, _ => simp [flatP, encP] at hj; subst hj; simp
  rintro e w14 ⟨rfl, hg14⟩
  go_wp2
  go_ret
  have z := HB4.out.size
  exact ⟨by first | rfl | simp, ((HB4.out.trans (G.below.mono z)).trans (hb13.mono (Nat.le_trans z G.size))).trans ((((Gr.refl _).alloc _).trans hg14).below.mono (Nat.le_trans z (Nat.le_trans G.size hb13.size)))⟩
end Go.Proofs.Ytbomkeginbhhoaa
