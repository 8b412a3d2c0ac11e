import Derived.Test.YtgojhhdjpkilmaaVOp
namespace Go.Proofs.Ytgojhhdjpkilmaa.Wi
open Go.RowKit Go.Sort
attribute [local go_sem ↓] Go.wp_at_zero Go.wp_at_succ

theorem scan0 (most : Nat) (l : List UInt8) (u : Nat) (hu : u < 18446744073709551616) (hm : u ≤ most) : scan most 0 0 (form u ++ l) = (u, (form u).length, 0) := by
  rw [scan_form most l 0 0 u (by simpa using hu) (Or.inl rfl)]
  simp
  omega
theorem scan0_short (most u n : Nat) (hu : u < 18446744073709551616) (hn : n < (form u).length) : scan most 0 0 ((form u).take n) = (0, 0, 30) := scan_short most 0 0 u n (by simpa using hu) (Or.inl rfl) hn
theorem cnt0 (l t : List UInt8) (h : l.length ≤ 65536) : cnt (l.length : Nat) (form l.length ++ l ++ t) = (l, (form l.length ++ l).length, 0) := by
  have hl : lim (l.length : Nat) = l.length := by unfold lim; omega
  unfold cnt
  rw [hl, List.append_assoc, scan0 _ _ _ (by omega) (Nat.le_refl _)]
  rw [if_neg (by simp), if_neg (by omega), if_neg (by simp)]
  simp
theorem cnt0_short (l : List UInt8) (h : l.length ≤ 65536) (m : Nat) (hm : m < (form l.length ++ l).length) : cnt (l.length : Nat) ((form l.length ++ l).take m) = ([], 0, 30) := by
  have hl : lim (l.length : Nat) = l.length := by unfold lim; omega
  rw [List.length_append] at hm
  unfold cnt
  rw [hl]
  by_cases hf : m < (form l.length).length
  · rw [List.take_append_of_le_length (by omega), scan0_short _ _ _ (by omega) hf, if_pos (by simp)]
  · rw [List.take_append, List.take_of_length_le (by omega), scan0 _ _ _ (by omega) (Nat.le_refl _), if_neg (by simp), if_neg (by omega), if_pos (by simp; omega)]
/-- What a call takes of what stands there: whether it is the same, how many bytes, the error. -/
def Takes (o : Opw) (rest : List UInt8) (f : Bool) : Prop := (f = true ∧ ∃ t, rest = piece o ++ t) ∨ (f = false ∧ ∃ m, m < (piece o).length ∧ rest = (piece o).take m)
abbrev tkN (o : Opw) (f : Bool) : Nat := if f then (piece o).length else 0
abbrev tkE (f : Bool) : Nat := if f then 0 else 30
theorem takes1 {o : Opw} {rest : List UInt8} {f : Bool} (h : Takes o rest f) (hk : o.kind = 1) (hv : o.v < 18446744073709551616) : ∃ X, rn 0 o.v rest = (X, tkN o f, tkE f) ∧ (f = true → X = o.v) := by
  have hp : piece o = form o.v := by unfold piece; rw [if_pos hk]
  rcases h with ⟨rfl, t, h⟩ | ⟨rfl, m, hm, h⟩
  · refine ⟨o.v, ?_, fun _ => rfl⟩
    rw [h, hp, show rn 0 o.v (form o.v ++ t) = scan o.v 0 0 (form o.v ++ t) from rfl, scan0 _ _ _ hv (Nat.le_refl _)]
    simp [tkN, tkE, hp]
  · refine ⟨0, ?_, fun h => by cases h⟩
    rw [hp] at hm
    rw [h, hp, show rn 0 o.v ((form o.v).take m) = scan o.v 0 0 ((form o.v).take m) from rfl, scan0_short _ _ _ hv hm]
    rfl
theorem takes2 {o : Opw} {rest : List UInt8} {f : Bool} (h : Takes o rest f) (hk : o.kind = 2) (h0 : -9223372036854775808 ≤ o.n) (h1 : o.n ≤ 9223372036854775807) : ∃ X, rn 0 18446744073709551615 rest = (X, tkN o f, tkE f) ∧ (f = true → unfold X = o.n) := by
  have hp : piece o = form (fold o.n) := by unfold piece; rw [if_neg (by omega), if_pos hk]
  have hv := fold_lt h0 h1
  rcases h with ⟨rfl, t, h⟩ | ⟨rfl, m, hm, h⟩
  · refine ⟨fold o.n, ?_, fun _ => unfold_fold _⟩
    rw [h, hp, show rn 0 18446744073709551615 (form (fold o.n) ++ t) = scan 18446744073709551615 0 0 (form (fold o.n) ++ t) from rfl, scan0 _ _ _ hv (by omega)]
    simp [tkN, tkE, hp]
  · refine ⟨0, ?_, fun h => by cases h⟩
    rw [hp] at hm
    rw [h, hp, show rn 0 18446744073709551615 ((form (fold o.n)).take m) = scan 18446744073709551615 0 0 ((form (fold o.n)).take m) from rfl, scan0_short _ _ _ hv hm]
    rfl
theorem takes3 {o : Opw} {rest : List UInt8} {f : Bool} (h : Takes o rest f) (hk : o.kind = 3) : ∃ X, rb1 0 rest = (X, tkN o f, tkE f) ∧ (f = true → X = (byt o.n).toNat) := by
  have hp : piece o = [byt o.n] := by unfold piece; rw [if_neg (by omega), if_neg (by omega), if_pos hk]
  rcases h with ⟨rfl, t, h⟩ | ⟨rfl, m, hm, h⟩
  · refine ⟨(byt o.n).toNat, ?_, fun _ => rfl⟩
    rw [h, hp]
    simp [rb1, tkN, tkE, hp]
  · refine ⟨0, ?_, fun h => by cases h⟩
    rw [hp] at hm
    have hm0 : m = 0 := by simpa using hm
    rw [h, hm0]
    rfl
theorem takes4 {o : Opw} {rest : List UInt8} {f : Bool} (h : Takes o rest f) (hk : o.kind ≠ 1 ∧ o.kind ≠ 2 ∧ o.kind ≠ 3) : ∃ X, rbs 0 ((cutl o.l).length : Nat) rest = (X, tkN o f, tkE f) ∧ (f = true → X = cutl o.l) := by
  have hp : piece o = form (cutl o.l).length ++ cutl o.l := by unfold piece; rw [if_neg hk.1, if_neg hk.2.1, if_neg hk.2.2]
  have hl := (cutl_len o.l).1
  rcases h with ⟨rfl, t, h⟩ | ⟨rfl, m, hm, h⟩
  · refine ⟨cutl o.l, ?_, fun _ => rfl⟩
    rw [h, hp, show ∀ x, rbs 0 ((cutl o.l).length : Nat) x = cnt ((cutl o.l).length : Nat) x from fun _ => rfl, cnt0 _ _ hl]
    simp [tkN, tkE, hp]
  · refine ⟨[], ?_, fun h => by cases h⟩
    rw [hp] at hm
    rw [h, hp, show ∀ x, rbs 0 ((cutl o.l).length : Nat) x = cnt ((cutl o.l).length : Nat) x from fun _ => rfl, cnt0_short _ hl _ hm]
    rfl
set_option maxHeartbeats 2000000 in
theorem got_any {rb at_ : Nat} {dr : Value} {L : List UInt8} (o : Opw) (w : World) (hR : Rd w rb dr L at_ 0) (hO : ∀ W, Kp (fun k => k = rb) w W → OkOp W o) (f : Bool) (hf : Takes o (L.drop at_) f) :
    Calls Try.prog 22 #[.pointer (some ⟨rb, 0, none⟩), ov o] w fun r w' => ∃ b, r = .returned (.bool b) ∧ (f = true → b = true) ∧ Rd w' rb dr L (at_ + tkN o f) (tkE f) ∧ Kp (fun k => k = rb) w w' := by
  have hmx : Try.prog.follows .mixedOrders = true := by kernel_rfl
  obtain ⟨W1, hW1⟩ : ∃ W1, W1 = w.alloc (.cells #[.int .i64 o.kind, .bool o.two, .int .u64 (o.v : Nat), .int .i64 o.n, o.u] 47) := ⟨_, rfl⟩
  obtain ⟨B, hB⟩ : ∃ B, B = w.heap.size := ⟨_, rfl⟩
  have G1 : Gr w W1 := by rw [hW1]; exact (Gr.refl _).alloc _
  have hbl : W1.heap[B]? = some (.cells #[.int .i64 o.kind, .bool o.two, .int .u64 (o.v : Nat), .int .i64 o.n, o.u] 47 (0, 0)) := by rw [hW1, hB]; exact heap_new' _ _
  have hBl : B < W1.heap.size := (Array.getElem?_eq_some_iff.1 hbl).1
  have hBr : ¬ B = rb := fun e => by have := hR.lt; omega
  obtain ⟨c0, c1, c2, c3, c4⟩ : W1.cell? ⟨B, 0, none⟩ = some (.int .i64 o.kind) ∧ W1.cell? ⟨B, 1, none⟩ = some (.bool o.two) ∧ W1.cell? ⟨B, 2, none⟩ = some (.int .u64 (o.v : Nat)) ∧ W1.cell? ⟨B, 3, none⟩ = some (.int .i64 o.n) ∧ W1.cell? ⟨B, 4, none⟩ = some o.u := by simp [World.cell?, hbl]
  have hO1 := hO w (Kp.refl _ _)
  have HO := hid hO
  have R1 := hid (hR.gr G1)
  have GG := hid G1
  have HT := hid hf
  obtain ⟨kind, two, v, n, u, l⟩ := o
  simp only at c0 c1 c2 c3 c4 hW1
  clear hbl hO hR hf G1
  by_cases k1 : kind = 1
  · subst k1
    obtain ⟨X, hX, hXf⟩ := takes1 HT.out rfl hO1.hv
    have hc : ∀ W, Gr W1 W → Calls Try.prog 14 #[.pointer (some ⟨rb, 0, none⟩), .int .u64 v] W fun r w' => r = .returned (.int .u64 (X : Nat)) ∧ Rd w' rb dr L (at_ + tkN ⟨1, two, v, n, u, l⟩ f) (tkE f) ∧ Kp (fun k => k = rb) W w' := fun W hg => by
      have := rnum_any v W (R1.out.gr hg)
      rw [hX] at this
      exact this
    have HXF := hid hXf
    clear hX hXf hO1 HT HO
    generalize tkN ⟨1, two, v, n, u, l⟩ f = N at hc ⊢
    generalize tkE f = E at hc ⊢
    go_enter Try.func22, Try.ntmps22
    go_wp2_with fail
    rw [← hW1, ← hB]
    clear hW1 hB
    go_wp2_with fail
    go_region_with (go_at_call 14; refine (hc _ (Gr.refl W1).drew).mono ?_; rintro r w5 ⟨rfl, h5, k5⟩; have d2 := (k5.cell (b := B) (o := 2) hBl hBr).trans (((Gr.refl W1).drew.cell hBl).trans c2); have z5 := Nat.lt_of_lt_of_le hBl k5.size; have H5 := hid h5; have K5 := hid k5; clear h5 k5)
    all_goals (
      go_wp2_with fail
      go_ret
      exact ⟨_, rfl, fun h => by rw [HXF.out h]; simp, H5.out, (Kp.of_gr GG.out.drew).trans K5.out (fun _ _ h => h)⟩)
  · by_cases k2 : kind = 2
    · subst k2
      clear k1
      obtain ⟨X, hX, hXf⟩ := takes2 HT.out rfl hO1.n0 hO1.n1
      have hc : ∀ W, Gr W1 W → Calls Try.prog 12 #[.pointer (some ⟨rb, 0, none⟩)] W fun r w' => r = .returned (.int .i64 (unfold X)) ∧ Rd w' rb dr L (at_ + tkN ⟨2, two, v, n, u, l⟩ f) (tkE f) ∧ Kp (fun k => k = rb) W w' := fun W hg => by
        have := rint_any W (R1.out.gr hg)
        rw [hX] at this
        exact this
      have HXF := hid hXf
      clear hX hXf hO1 HT HO
      generalize tkN ⟨2, two, v, n, u, l⟩ f = N at hc ⊢
      generalize tkE f = E at hc ⊢
      generalize unfold X = Y at hc HXF
      go_enter Try.func22, Try.ntmps22
      go_wp2_with fail
      rw [← hW1, ← hB]
      clear hW1 hB
      go_wp2_with fail
      go_region_with (go_at_call 12; refine (hc _ (Gr.refl W1).drew).mono ?_; rintro r w5 ⟨rfl, h5, k5⟩; have d3 := (k5.cell (b := B) (o := 3) hBl hBr).trans (((Gr.refl W1).drew.cell hBl).trans c3); have z5 := Nat.lt_of_lt_of_le hBl k5.size; have H5 := hid h5; have K5 := hid k5; clear h5 k5)
      all_goals (
        go_wp2_with fail
        go_ret
        exact ⟨_, rfl, fun h => by rw [HXF.out h]; simp, H5.out, (Kp.of_gr GG.out.drew).trans K5.out (fun _ _ h => h)⟩)
    · by_cases k3 : kind = 3
      · subst k3
        clear k1 k2
        obtain ⟨X, hX, hXf⟩ := takes3 HT.out rfl
        have hc : ∀ W, Gr W1 W → Calls Try.prog 19 #[.pointer (some ⟨rb, 0, none⟩)] W fun r w' => r = .returned (.int .u8 (X : Nat)) ∧ Rd w' rb dr L (at_ + tkN ⟨3, two, v, n, u, l⟩ f) (tkE f) ∧ Kp (fun k => k = rb) W w' := fun W hg => by
          have := rbyte_any W (R1.out.gr hg)
          rw [hX] at this
          exact this
        have HXF : Hid (f = true → (X : Int) = n % 256) := fun h => by rw [hXf h]; exact byt_nat n
        clear hX hXf hO1 HT HO
        generalize tkN ⟨3, two, v, n, u, l⟩ f = N at hc ⊢
        generalize tkE f = E at hc ⊢
        go_enter Try.func22, Try.ntmps22
        go_wp2_with fail
        rw [← hW1, ← hB]
        clear hW1 hB
        go_wp2_with fail
        go_region_with (go_at_call 19; refine (hc _ (Gr.refl W1).drew).mono ?_; rintro r w5 ⟨rfl, h5, k5⟩; have d3 := (k5.cell (b := B) (o := 3) hBl hBr).trans (((Gr.refl W1).drew.cell hBl).trans c3); have z5 := Nat.lt_of_lt_of_le hBl k5.size; have H5 := hid h5; have K5 := hid k5; clear h5 k5)
        all_goals (
          go_wp2_with fail
          go_ret
          refine ⟨_, rfl, fun h => ?_, H5.out, (Kp.of_gr GG.out.drew).trans K5.out (fun _ _ h => h)⟩
          rw [HXF.out h, IntKind.wrap_u8]
          simp)
      · obtain ⟨X, hX, hXf⟩ := takes4 HT.out ⟨k1, k2, k3⟩
        obtain ⟨p, c, hu⟩ := hO1.lb.form
        simp only at hu
        subst hu
        have hcv : cutv (.slice p l.length c) = .slice p (cutl l).length c := by
          show Value.slice p (if 65536 < l.length then 65536 else l.length) c = Value.slice p (l.take 65536).length c
          rw [List.length_take, show (if 65536 < l.length then 65536 else l.length) = min 65536 l.length by split <;> omega]
        have hcap := hO1.cap
        have hcut : ∀ W, Lb W (.slice p l.length c) l → Calls Try.prog 42 #[.slice p l.length c] W fun r w' => r = .returned (.slice p (cutl l).length c) ∧ w' = W := fun W h => by
          have := cut_any W h hcap
          rw [hcv] at this
          exact this
        have ht : ∀ W, Lb W (.slice p l.length c) l → (convert 22 9 (.slice p (cutl l).length c)).run Try.prog W = .ok (tx (cutl l)) W := fun W h => by
          have := to_textB (cutv_lb h)
          rw [hcv] at this
          exact this
        have hc : ∀ W, Gr W1 W → Calls Try.prog 20 #[.pointer (some ⟨rb, 0, none⟩), .int .i64 ((cutl l).length : Nat)] W fun r w' => ∃ q k j, r = .returned (.slice q k j) ∧ (convert 22 9 (.slice q k j)).run Try.prog w' = .ok (tx X) w' ∧ Rd w' rb dr L (at_ + tkN ⟨kind, two, v, n, .slice p l.length c, l⟩ f) (tkE f) ∧ Kp (fun k => k = rb) W w' := fun W hg => by
          have := rbytes_any ((cutl l).length : Nat) W (R1.out.gr hg)
          rw [hX] at this
          refine this.mono ?_
          rintro r w' ⟨d, rfl, h1, h2, h3⟩
          have h4 := ow_ls (owns_base h1 (Nat.zero_le _))
          obtain ⟨q, j, rfl⟩ := h4.form
          exact ⟨q, _, j, rfl, to_text h4, h2, h3⟩
        have L0 : Lb W1.drew (.slice p l.length c) l := (HO.out _ (Kp.of_gr GG.out.drew)).lb
        have t0 := ht _ L0
        have hkp : ∀ w5, Kp (fun k => k = rb) W1.drew w5 → Lb w5 (.slice p l.length c) l := fun w5 hk => (HO.out _ ((Kp.of_gr GG.out.drew).trans hk (fun _ _ h => h))).lb
        have HXF := hid hXf
        clear hX hXf hO1 HT HO hcv hcap
        generalize tkN ⟨kind, two, v, n, .slice p l.length c, l⟩ f = N at hc ⊢
        generalize tkE f = E at hc ⊢
        generalize cutl l = C at hc HXF ht hcut t0
        go_enter Try.func22, Try.ntmps22
        go_wp2_with fail
        rw [← hW1, ← hB]
        clear hW1 hB
        go_wp2_with fail
        go_region_with (first | (go_at_call 42; refine (hcut _ (by first | exact L5 | exact L0)).mono ?_; rintro r w6 ⟨rfl, rfl⟩) | (go_at_call 20; refine (hc _ (Gr.refl W1).drew).mono ?_; rintro r w5 ⟨q, k, j, rfl, t5, h5, k5⟩; have d4 := (k5.cell (b := B) (o := 4) hBl hBr).trans (((Gr.refl W1).drew.cell hBl).trans c4); have z5 := Nat.lt_of_lt_of_le hBl k5.size; have L5 := hkp _ k5; have s5 := ht _ L5; have H5 := hid h5; have K5 := hid k5; clear h5 k5))
        all_goals (
          go_wp2_with fail
          go_ret
          refine ⟨_, rfl, fun h => ?_, H5.out, (Kp.of_gr GG.out.drew).trans K5.out (fun _ _ h => h)⟩
          rw [HXF.out h]
          simp)
end Go.Proofs.Ytgojhhdjpkilmaa.Wi
