import Derived.Test.YtkopmkmfigenlaaDGive
namespace Go.Proofs.Ytkopmkmfigenlaa.Df
open Go.RowKit Go.Sort Wi
attribute [local go_sem ↓] Go.wp_at_zero Go.wp_at_succ

/-- The taker. -/
abbrev tv (rb : Nat) : Value := .agg #[.pointer (some ⟨rb, 0, none⟩)]
/-- What a taking call leaves: what p reads on from a. -/
def Tk {α : Type} (p : Pa α) (V : World → Value → α → Prop) (rb : Nat) (v : Value) (L : List UInt8) (a : Nat) (w : World) (r : Ending) (w' : World) : Prop :=
  Kp (fun k => k = rb) w w' ∧ match p L a with
    | .inl e => r = .panicked (flaw e.1 e.2)
    | .inr x => Rd w' rb v L x.2 0 ∧ ∃ u, r = .returned u ∧ V w' u x.1
section
variable {α : Type} {p : Pa α} {V : World → Value → α → Prop} {rb : Nat} {v : Value} {L : List UInt8} {a : Nat} {w w' : World}
theorem Tk.bad {r : Ending} (h : Tk p V rb v L a w r w') {e : Nat × Nat} (hp : p L a = .inl e) : r = .panicked (flaw e.1 e.2) ∧ Kp (fun k => k = rb) w w' := by
  obtain ⟨h1, h2⟩ := h
  rw [hp] at h2
  exact ⟨h2, h1⟩
theorem Tk.good {r : Ending} (h : Tk p V rb v L a w r w') {x : α × Nat} (hp : p L a = .inr x) : ∃ u, r = .returned u ∧ V w' u x.1 ∧ Rd w' rb v L x.2 0 ∧ Kp (fun k => k = rb) w w' := by
  obtain ⟨h1, h2⟩ := h
  rw [hp] at h2
  obtain ⟨h3, u, h4, h5⟩ := h2
  exact ⟨u, h4, h5, h3, h1⟩
theorem Tk.no {e t : Nat} (hp : p L a = .inl (e, t)) (hk : Kp (fun k => k = rb) w w') : Tk p V rb v L a w (.panicked (flaw e t)) w' := by
  refine ⟨hk, ?_⟩
  rw [hp]
theorem Tk.yes {x : α} {b : Nat} {u : Value} (hp : p L a = .inr (x, b)) (hk : Kp (fun k => k = rb) w w') (hr : Rd w' rb v L b 0) (hv : V w' u x) : Tk p V rb v L a w (.returned u) w' := by
  refine ⟨hk, ?_⟩
  rw [hp]
  exact ⟨hr, u, rfl, hv⟩
end
theorem kp_then {rb : Nat} {w W w' : World} (hg : Gr w W) (h : Kp (fun k => k = rb) W w') : Kp (fun k => k = rb) w w' := (Kp.of_gr hg).trans h (fun _ _ h => h)
theorem kp_gr {rb : Nat} {w W w' : World} (h : Kp (fun k => k = rb) w W) (hg : Gr W w') : Kp (fun k => k = rb) w w' := h.trans (Kp.of_gr hg) (fun _ _ h => h)
set_option maxHeartbeats 1000000 in
theorem look_ok {rb a : Nat} {v : Value} {L : List UInt8} (w : World) (hR : Rd w rb v L a 0) : Calls Try.prog 51 #[tv rb] w fun r w' => r = .returned (.tuple #[]) ∧ Gr w w' := by
  have her := fun W (hg : Gr w W) => rerr_any W (hR.gr hg)
  clear hR
  go_enter Try.func51, Try.ntmps51
  go_wp2_with (first | (go_at_call 81; refine (her _ ((Gr.refl _).alloc _)).mono ?_; rintro r w4 ⟨rfl, rfl⟩))
  go_end0
  exact ⟨rfl, (Gr.refl _).alloc _⟩
set_option maxHeartbeats 1000000 in
theorem look_bad {rb a e : Nat} {v : Value} {L : List UInt8} (w : World) (he : e ≠ 0) (hR : Rd w rb v L a e) : Calls Try.prog 51 #[tv rb] w fun r w' => r = .panicked (flaw e a) ∧ Gr w w' := by
  have her := fun W (hg : Gr w W) => rerr_any W (hR.gr hg)
  have hat := fun W (hg : Gr w W) => rat_any W (hR.gr hg)
  have hgu := fun W => giveup_any e a W
  have hz : ((e : Int) == 0) = false := by simp; omega
  have hz' : ¬ (e : Int) = 0 := by omega
  clear hR
  go_enter Try.func51, Try.ntmps51
  go_wp2_with (first | (go_at_call 81; refine (her _ ((Gr.refl _).alloc _)).mono ?_; rintro r w4 ⟨rfl, rfl⟩) | (go_at_call 82; refine (hat _ ((Gr.refl _).alloc _)).mono ?_; rintro r w5 ⟨rfl, rfl⟩) | (go_at_call 59; refine (hgu _).mono ?_; rintro r w6 ⟨rfl, rfl⟩))
  exact ⟨rfl, rfl, (Gr.refl _).alloc _⟩
/-- A number as a value. -/
abbrev Vu (_ : World) (u : Value) (x : Nat) : Prop := u = .int .u64 (x : Nat)
theorem scan_err (most : Nat) (l : List UInt8) (i v : Nat) : (scan most i v l).2.2 ≠ 0 → (scan most i v l).1 = 0 ∧ (scan most i v l).2.1 = 0 := by
  induction l generalizing i v with
  | nil => intro _; exact ⟨rfl, rfl⟩
  | cons x l ih =>
    unfold scan
    split
    · intro _; exact ⟨rfl, rfl⟩
    · split
      · split
        · intro _; exact ⟨rfl, rfl⟩
        · intro h; exact absurd rfl h
      · exact ih _ _
set_option maxHeartbeats 1000000 in
theorem upto_any {rb a : Nat} {v : Value} {L : List UInt8} (most over : Nat) (w : World) (hR : Rd w rb v L a 0) : Calls Try.prog 69 #[tv rb, .int .u64 (most : Nat), .int .i64 (over : Nat)] w (Tk (num most over) Vu rb v L a w) := by
  have hnu := fun W (hg : Gr w W) => rnum_any most W (hR.gr hg)
  have herr := scan_err most (L.drop a) 0 0
  have hnum : num most over L a = if (scan most 0 0 (L.drop a)).2.2 = 0 then .inr ((scan most 0 0 (L.drop a)).1, a + (scan most 0 0 (L.drop a)).2.1) else .inl (if (scan most 0 0 (L.drop a)).2.2 = 12 then over else (scan most 0 0 (L.drop a)).2.2, a) := rfl
  rw [show rn 0 most (L.drop a) = scan most 0 0 (L.drop a) from rfl] at hnu
  generalize scan most 0 0 (L.drop a) = S at hnu hnum herr
  obtain ⟨s1, s2, s3⟩ := S
  simp only at hnu hnum herr
  have hsz := hR.lt
  clear hR
  have HN := hid hnum
  clear hnum
  by_cases h0 : s3 = 0
  · subst h0
    go_enter Try.func69, Try.ntmps69
    go_wp2_with fail
    go_at_call 87
    refine (hnu _ ((Gr.refl _).alloc _)).mono ?_
    rintro r w4 ⟨rfl, h4, k4⟩
    have c0 : w4.cell? ⟨w.heap.size, 0, none⟩ = some (.pointer (some ⟨rb, 0, none⟩)) := by
      rw [k4.cell (by simp) (by omega)]
      simp [go_sem]
    have l0 : w.heap.size < w4.heap.size := Nat.lt_of_lt_of_le (by simp) k4.size
    have her := rerr_any w4 h4
    have hlo := look_ok w4 h4
    have H4 := hid h4
    have K4 := hid k4
    clear h4 k4
    go_wp2_with (first | (go_at_call 81; refine her.mono ?_; rintro r w5 ⟨rfl, rfl⟩) | (go_at_call 51; refine hlo.mono ?_; rintro r w6 ⟨rfl, g6⟩; have G6 := hid g6; clear g6))
    go_ret
    refine Tk.yes (by rw [HN.out, if_pos trivial]) ?_ (H4.out.gr G6.out) rfl
    exact kp_then ((Gr.refl w).alloc _) (kp_gr K4.out G6.out)
  · have hz : ((s3 : Int) == 0) = false := by simp; omega
    obtain ⟨e1, e2⟩ := herr h0
    subst e1 e2
    by_cases h12 : s3 = 12
    · subst h12
      have hgu := fun W => giveup_any over a W
      go_enter Try.func69, Try.ntmps69
      go_wp2_with fail
      go_at_call 87
      refine (hnu _ ((Gr.refl _).alloc _)).mono ?_
      rintro r w4 ⟨rfl, h4, k4⟩
      have c0 : w4.cell? ⟨w.heap.size, 0, none⟩ = some (.pointer (some ⟨rb, 0, none⟩)) := by
        rw [k4.cell (by simp) (by omega)]
        simp [go_sem]
      have l0 : w.heap.size < w4.heap.size := Nat.lt_of_lt_of_le (by simp) k4.size
      have her := rerr_any w4 h4
      have hat := rat_any w4 h4
      have K4 := hid k4
      clear h4 k4
      go_wp2_with (first | (go_at_call 81; refine her.mono ?_; rintro r w5 ⟨rfl, rfl⟩) | (go_at_call 82; refine hat.mono ?_; rintro r w6 ⟨rfl, rfl⟩) | (go_at_call 59; refine (hgu _).mono ?_; rintro r w7 ⟨rfl, rfl⟩))
      refine ⟨rfl, Tk.no (by rw [HN.out]; simp) (kp_then ((Gr.refl w).alloc _) K4.out)⟩
    · have hz2 : ((s3 : Int) == 12) = false := by simp; omega
      have hz3 : ¬ (s3 : Int) = 12 := by omega
      go_enter Try.func69, Try.ntmps69
      go_wp2_with fail
      go_at_call 87
      refine (hnu _ ((Gr.refl _).alloc _)).mono ?_
      rintro r w4 ⟨rfl, h4, k4⟩
      have c0 : w4.cell? ⟨w.heap.size, 0, none⟩ = some (.pointer (some ⟨rb, 0, none⟩)) := by
        rw [k4.cell (by simp) (by omega)]
        simp [go_sem]
      have l0 : w.heap.size < w4.heap.size := Nat.lt_of_lt_of_le (by simp) k4.size
      have her := rerr_any w4 h4
      have hlo := look_bad w4 h0 h4
      have K4 := hid k4
      clear h4 k4
      go_wp2_with (first | (go_at_call 81; refine her.mono ?_; rintro r w5 ⟨rfl, rfl⟩) | (go_at_call 51; refine hlo.mono ?_; rintro r w6 ⟨rfl, g6⟩; have G6 := hid g6; clear g6))
      refine ⟨rfl, Tk.no (by rw [HN.out, if_neg h0, if_neg h12]) (kp_then ((Gr.refl w).alloc _) (kp_gr K4.out G6.out))⟩
theorem num_back {most over : Nat} {L : List UInt8} {a x b : Nat} (hm : most < 18446744073709551616) (ha : a ≤ L.length) (h : num most over L a = .inr (x, b)) : x ≤ most ∧ b ≤ L.length := by
  by_cases ho : over = 0
  · have h2 : num most 1 L a = .inr (x, b) := by
      unfold num at h ⊢
      split at h
      · rw [if_pos (by assumption)]; exact h
      · cases h
    obtain ⟨h1, _, _, h4⟩ := (fits_num hm (by decide)).back L a x b ha h2
    exact ⟨h1, h4⟩
  · obtain ⟨h1, _, _, h4⟩ := (fits_num hm ho).back L a x b ha h
    exact ⟨h1, h4⟩
set_option maxHeartbeats 1000000 in
theorem tnum_any {rb a : Nat} {v : Value} {L : List UInt8} (w : World) (hR : Rd w rb v L a 0) : Calls Try.prog 74 #[tv rb] w (Tk any Vu rb v L a w) := by
  have hup := fun W (hg : Gr w W) => upto_any 18446744073709551615 12 W (hR.gr hg)
  clear hR
  go_enter Try.func74, Try.ntmps74
  go_wp2_with fail
  go_at_call 69
  refine (hup _ ((Gr.refl _).alloc _)).mono ?_
  intro r w4 h4
  cases e4 : num 18446744073709551615 12 L a with
  | inl x =>
    obtain ⟨rfl, k4⟩ := h4.bad e4
    go_wp2_with fail
    exact ⟨rfl, Tk.no e4 (kp_then ((Gr.refl w).alloc _) k4)⟩
  | inr x =>
    obtain ⟨u, rfl, rfl, r4, k4⟩ := h4.good e4
    have K4 := hid k4
    have R4 := hid r4
    clear h4 k4 r4
    go_wp2_with fail
    go_ret
    exact Tk.yes e4 (kp_then ((Gr.refl w).alloc _) K4.out) R4.out rfl
abbrev Vi (_ : World) (u : Value) (x : Int) : Prop := u = .int .i64 x
set_option maxHeartbeats 1000000 in
theorem tint_any {rb a : Nat} {v : Value} {L : List UInt8} (w : World) (hR : Rd w rb v L a 0) : Calls Try.prog 45 #[tv rb] w (Tk int Vi rb v L a w) := by
  have hup := fun W (hg : Gr w W) => upto_any 9223372036854775807 12 W (hR.gr hg)
  have hle := hR.le
  clear hR
  go_enter Try.func45, Try.ntmps45
  go_wp2_with fail
  go_at_call 69
  refine (hup _ ((Gr.refl _).alloc _)).mono ?_
  intro r w4 h4
  cases e4 : num 9223372036854775807 12 L a with
  | inl x =>
    obtain ⟨rfl, k4⟩ := h4.bad e4
    go_wp2_with fail
    exact ⟨rfl, Tk.no (by simp only [int, Pa.map, e4]) (kp_then ((Gr.refl w).alloc _) k4)⟩
  | inr x =>
    obtain ⟨u, rfl, rfl, r4, k4⟩ := h4.good e4
    have hx := (num_back (by decide) hle e4).1
    have hz : wrap64 (x.1 : Int) = (x.1 : Int) := by unfold wrap64; omega
    have K4 := hid k4
    have R4 := hid r4
    clear h4 k4 r4
    go_wp2_with fail
    go_ret
    exact Tk.yes (x := (x.1 : Int)) (by simp only [int, Pa.map, e4]; rfl) (kp_then ((Gr.refl w).alloc _) K4.out) R4.out rfl
end Go.Proofs.Ytkopmkmfigenlaa.Df
