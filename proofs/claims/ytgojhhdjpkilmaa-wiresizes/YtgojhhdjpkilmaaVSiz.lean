import Derived.Test.YtgojhhdjpkilmaaVTak
namespace Go.Proofs.Ytgojhhdjpkilmaa.Wi
open Go.RowKit Go.Sort
attribute [local go_sem ↓] Go.wp_at_zero Go.wp_at_succ

theorem Turn.nil {wb n c : Nat} {v' : Value} {w w' : World} (h : Turn wb (.slice none n c) v' w w') : Kp (fun k => k = wb) w w' ∧ ∀ g, v'.ownBlock = some g → w.heap.size ≤ g :=
  ⟨h.1.mono (fun k hk => by simpa [Value.ownBlock] using hk), fun g hg => by simpa [Value.ownBlock] using h.2 g hg⟩
theorem lt_of_div_zero {v : Nat} {k : Nat} (h : (v : Int) / (2 ^ 7) ^ k = 0) : v < 128 ^ k := by
  have hp : (0 : Int) < ((2 : Int) ^ 7) ^ k := Int.pow_pos (by decide)
  have h2 := Int.emod_add_mul_ediv (v : Int) ((2 ^ 7) ^ k)
  rw [h, Int.mul_zero, Int.add_zero] at h2
  have h3 := Int.emod_lt_of_pos (v : Int) hp
  rw [h2] at h3
  have h4 : ((v : Nat) : Int) < ((128 ^ k : Nat) : Int) := by simpa using h3
  exact Int.ofNat_lt.1 h4
set_option maxHeartbeats 4000000 in
theorem sizes_any (v u : Nat) (n : Int) (hv : v < 18446744073709551616) (hu : u < 18446744073709551616) (h0 : -9223372036854775808 ≤ n) (h1 : n ≤ 9223372036854775807) (w : World) :
    Calls Try.prog 4 #[.int .u64 v, .int .u64 u, .int .i64 n] w fun e w' => e = .returned (.bool true) ∧ Below w.heap.size w w' := by
  have HV := hid hv
  have HU := hid hu
  have H0 := hid h0
  have H1 := hid h1
  go_enter Try.func4, Try.ntmps4
  go_wp2_with fail
  refine (newwriter_any _).mono ?_
  rintro r w1 ⟨a, rfl, ha, hA, hg1⟩
  have A1 := hid hA
  have GA := hid ha
  have B1 := hid hg1.below
  clear hA hg1 ha
  go_wp2_with fail
  refine (newwriter_any _).mono ?_
  rintro r w2 ⟨b, rfl, hb, hB, hg2⟩
  have A2 := hid (A1.out.gr hg2)
  have X2 := hid hB
  have GB : Hid (a < b) := Nat.lt_of_lt_of_le A1.out.lt hb
  have GB0 : Hid (w.heap.size ≤ b) := Nat.le_trans B1.out.size hb
  have B2 : Hid (Below w.heap.size w w2) := B1.out.trans (hg2.below.mono B1.out.size)
  clear hB hg2 hb A1 B1
  go_wp2_with fail
  refine (newwriter_any _).mono ?_
  rintro r w3 ⟨c, rfl, hc, hC, hg3⟩
  have A3 := hid (A2.out.gr hg3)
  have X3 := hid (X2.out.gr hg3)
  have Y3 := hid hC
  have GC : Hid (b < c) := Nat.lt_of_lt_of_le X2.out.lt hc
  have GC0 : Hid (w.heap.size ≤ c) := Nat.le_trans B2.out.size hc
  have B3 : Hid (Below w.heap.size w w3) := B2.out.trans (hg3.below.mono B2.out.size)
  clear hC hg3 hc A2 X2 B2
  go_wp2_with fail
  refine (taken_any _).mono ?_
  rintro r w4 ⟨rfl, hb4⟩
  have A4 := hid (A3.out.below hb4)
  have X4 := hid (X3.out.below hb4)
  have Y4 := hid (Y3.out.below hb4)
  have B4 : Hid (Below w.heap.size w w4) := B3.out.trans (hb4.mono B3.out.size)
  clear hb4 A3 X3 Y3 B3
  go_wp2_with fail
  refine (wnum_any v HV.out _ A4.out (by simp)).mono ?_
  rintro r w5 ⟨va, rfl, h5, t5⟩
  rw [show put 0 [] (form v) = form v from rfl] at h5
  obtain ⟨k5, g5⟩ := t5.nil
  have A5 := hid h5
  have X5 := hid (X4.out.kp k5 (by have := GB.out; omega) (by simp [Value.ownBlock]))
  have Y5 := hid (Y4.out.kp k5 (by have := GB.out; have := GC.out; omega) (by simp [Value.ownBlock]))
  have B5 : Hid (Below w.heap.size w w5) := B4.out.trans (k5.below B4.out.size (fun k hk => by subst hk; exact GA.out))
  have VA : Hid (∀ g, va.ownBlock = some g → w4.heap.size ≤ g) := g5
  have LB4 : Hid (b < w4.heap.size ∧ c < w4.heap.size) := ⟨X4.out.lt, Y4.out.lt⟩
  clear h5 t5 k5 g5 A4 X4 Y4 B4
  go_wp2_with fail
  refine (wnum_any u HU.out _ X5.out (by simp)).mono ?_
  rintro r w6 ⟨vb, rfl, h6, t6⟩
  rw [show put 0 [] (form u) = form u from rfl] at h6
  obtain ⟨k6, g6⟩ := t6.nil
  have X6 := hid h6
  have A6 := hid (A5.out.kp k6 (by have := GB.out; omega) (fun k hk e => by have := VA.out k hk; have := LB4.out; omega))
  have Y6 := hid (Y5.out.kp k6 (by have := GC.out; omega) (by simp [Value.ownBlock]))
  have B6 : Hid (Below w.heap.size w w6) := B5.out.trans (k6.below B5.out.size (fun k hk => by subst hk; exact GB0.out))
  have VB : Hid (∀ g, vb.ownBlock = some g → w5.heap.size ≤ g) := g6
  have LC5 : Hid (c < w5.heap.size) := Y5.out.lt
  clear h6 t6 k6 g6 A5 X5 Y5 B5
  go_wp2_with fail
  refine (wint_any n H0.out H1.out _ Y6.out (by simp)).mono ?_
  rintro r w7 ⟨vc, rfl, h7, t7⟩
  rw [show put 0 [] (form (fold n)) = form (fold n) from rfl] at h7
  obtain ⟨k7, g7⟩ := t7.nil
  have Y7 := hid h7
  have A7 := hid (A6.out.kp k7 (by have := GB.out; have := GC.out; omega) (fun k hk e => by have := VA.out k hk; have := LB4.out; omega))
  have X7 := hid (X6.out.kp k7 (by have := GC.out; omega) (fun k hk e => by have := VB.out k hk; have := LC5.out; omega))
  have B7 : Hid (Below w.heap.size w w7) := B6.out.trans (k7.below B6.out.size (fun k hk => by subst hk; exact GC0.out))
  clear h7 t7 k7 g7 A6 X6 Y6 B6
  have fv := hid (form_ten HV.out)
  have fu := hid (form_ten HU.out)
  have fn := hid (form_ten (fold_lt H0.out H1.out))
  go_wp2_with fail
  refine (wdata_any _ A7.out (by have := fv.out; omega)).mono ?_
  rintro r w8 ⟨d8, rfl, h8, b8⟩
  have D8 := hid (ow_ls (owns_base h8 (Nat.zero_le _)))
  have X8 := hid (X7.out.below b8)
  have Y8 := hid (Y7.out.below b8)
  have B8 : Hid (Below w.heap.size w w8) := B7.out.trans (b8.mono B7.out.size)
  clear h8 b8 A7 X7 Y7 B7
  go_wp2_with fail
  refine (wdata_any _ X8.out (by have := fu.out; omega)).mono ?_
  rintro r w9 ⟨d9, rfl, h9, b9⟩
  have D9 := hid (ow_ls (owns_base h9 (Nat.zero_le _)))
  have E9 := hid (D8.out.below b9)
  have Y9 := hid (Y8.out.below b9)
  have B9 : Hid (Below w.heap.size w w9) := B8.out.trans (b9.mono B8.out.size)
  clear h9 b9 X8 Y8 B8 D8
  go_wp2_with fail
  refine (wdata_any _ Y9.out (by have := fn.out; omega)).mono ?_
  rintro r w10 ⟨dc, rfl, h10, b10⟩
  have FC := ow_ls (owns_base h10 (Nat.zero_le _))
  have FA := E9.out.below b10
  have FB := D9.out.below b10
  have B10 : Hid (Below w.heap.size w w10) := B9.out.trans (b10.mono B9.out.size)
  clear h10 b10 Y9 B9 D9 E9
  have ta := to_text FA
  have tb := to_text FB
  obtain ⟨pa, ca, rfl⟩ := FA.form
  obtain ⟨pb, cb, rfl⟩ := FB.form
  obtain ⟨pc, cc, rfl⟩ := FC.form
  clear FA FB FC
  have hla : 1 ≤ (form v).length ∧ (form v).length ≤ 10 := ⟨form_pos v, form_ten HV.out⟩
  have hlb : 1 ≤ (form u).length ∧ (form u).length ≤ 10 := ⟨form_pos u, form_ten HU.out⟩
  have hlc : 1 ≤ (form (fold n)).length ∧ (form (fold n)).length ≤ 10 := ⟨form_pos _, form_ten (fold_lt H0.out H1.out)⟩
  have hfe : (form v == form u) = ((v : Int) == (u : Int)) := by
    by_cases h : v = u
    · subst h; simp
    · have h2 : ¬ form v = form u := fun e => h (form_inj HV.out HU.out e)
      have h3 : ¬ (v : Int) = (u : Int) := by omega
      rw [beq_eq_false_iff_ne.2 h2, beq_eq_false_iff_ne.2 h3]
  have hcn : (form (fold n)).length = 1 ↔ -64 ≤ n ∧ n ≤ 63 := by
    have h2 : (form (fold n)).length ≤ 0 + 1 ↔ fold n < 128 := ⟨fun h => by simpa using form_ge 0 _ h, fun h => form_le 0 _ (by simpa using h)⟩
    have h3 : fold n < 128 ↔ -64 ≤ n ∧ n ≤ 63 := by unfold fold; split <;> omega
    omega
  have hs1 : 1 < (form v).length → ¬ v < 128 ^ ((form v).length - 1) := fun h hlt => by
    have := form_le ((form v).length - 2) v (by rw [show (form v).length - 2 + 1 = (form v).length - 1 by omega]; exact hlt)
    omega
  have hs2 : v < 128 ^ (form v).length := by
    have := form_ge ((form v).length - 1) v (by omega)
    rwa [show (form v).length - 1 + 1 = (form v).length by omega] at this
  generalize (form (fold n)).length = lc at hlc hcn ⊢
  generalize (form u).length = lb at hlb tb ⊢
  generalize (form v).length = la at hla hs1 hs2 ta ⊢
  clear fv fu fn VA VB LB4 LC5 GA GB GB0 GC GC0
  have C2 := hid hcn
  have C3 := hid hs1
  have C4 := hid hs2
  clear hcn hs1 hs2
  have hlaz : (1 : Int) ≤ (la : Int) ∧ (la : Int) ≤ 10 := by omega
  have hlcz : (1 : Int) ≤ (lc : Int) ∧ (lc : Int) ≤ 10 := by omega
  generalize form v = fv at hfe ta
  generalize form u = fu at hfe tb
  have z2 : (v : Int) / 2 ^ (7 * la) = 0 := by
    have := C4.out
    rw [Int.pow_mul]
    exact Int.ediv_eq_zero_of_lt (by omega) (by have h : ((v : Nat) : Int) < ((128 ^ la : Nat) : Int) := Int.ofNat_lt.2 this; simpa using h)
  have z1 : 1 < la → ¬ (v : Int) / 2 ^ (7 * (la - 1)) = 0 := fun h e => by
    refine C3.out h ?_
    rw [Int.pow_mul] at e
    have h2 := lt_of_div_zero e
    exact h2
  by_cases hl1 : 1 < la
  · have z3 := z1 hl1
    have z4 : (1 : Int) < (la : Int) := by omega
    clear z1
    by_cases n1 : -64 ≤ n <;> by_cases n2 : n ≤ 63
    all_goals (
      first | (have hc1 : (lc : Int) = 1 := by have := C2.out; omega) | (have hc1 : ¬ (lc : Int) = 1 := by have := C2.out; omega)
      go_wp2_with fail
      all_goals (go_ret; refine ⟨?_, B10.out⟩; first | (simp_all; done) | (simp_all; rw [beq_eq_false_iff_ne.2 hc1]; simp; omega) | (simp_all; omega)))
  · have z4 : ¬ (1 : Int) < (la : Int) := by omega
    clear z1
    by_cases n1 : -64 ≤ n <;> by_cases n2 : n ≤ 63
    all_goals (
      first | (have hc1 : (lc : Int) = 1 := by have := C2.out; omega) | (have hc1 : ¬ (lc : Int) = 1 := by have := C2.out; omega)
      go_wp2_with fail
      all_goals (go_ret; refine ⟨?_, B10.out⟩; first | (simp_all; done) | (simp_all; rw [beq_eq_false_iff_ne.2 hc1]; simp; omega) | (simp_all; omega)))
end Go.Proofs.Ytgojhhdjpkilmaa.Wi
