import Derived.Test.YtgojhhdjpkilmaaVRefR3
namespace Go.Proofs.Ytgojhhdjpkilmaa.Wi
open Go.RowKit Go.Sort
attribute [local go_sem ↓] Go.wp_at_zero Go.wp_at_succ

/-- A lesser most: the same number, or it is out of range. -/
theorem scan_lim (most : Nat) (l : List UInt8) (i v : Nat) (hv : v < 128 ^ i) (hi : i ≤ 9) :
    scan most i v l = if (scan 18446744073709551615 i v l).2.2 = 0 ∧ most < (scan 18446744073709551615 i v l).1 then (0, 0, 12) else scan 18446744073709551615 i v l := by
  induction l generalizing i v with
  | nil => simp [scan]
  | cons x l ih =>
    have hx : x.toNat < 256 := x.toNat_lt
    by_cases hb : may x.toNat i = false
    · rw [scan, scan, if_pos hb, if_pos hb]
      simp
    · rw [scan, scan, if_neg hb, if_neg hb]
      by_cases hs : x.toNat < 128
      · rw [if_pos hs, if_pos hs]
        have hlt : v + x.toNat % 128 * 128 ^ i < 18446744073709551616 := by
          by_cases h9 : i = 9
          · subst h9
            have hm1 : x.toNat = 1 := by
              unfold may at hb
              simpa using hb
            rw [hm1]
            have h3 : (128 : Nat) ^ 9 = 9223372036854775808 := by decide
            rw [h3] at hv ⊢
            omega
          · have h8 : (128 : Nat) ^ i ≤ 72057594037927936 := by
              have := Nat.pow_le_pow_right (n := 128) (by decide) (show i ≤ 8 by omega)
              have h3 : (128 : Nat) ^ 8 = 72057594037927936 := by decide
              omega
            have : x.toNat % 128 * 128 ^ i ≤ 127 * 72057594037927936 := Nat.mul_le_mul (by omega) h8
            omega
        rw [if_neg (show ¬ 18446744073709551615 < v + x.toNat % 128 * 128 ^ i by omega)]
        simp
      · rw [if_neg hs, if_neg hs]
        have h9 : i ≠ 9 := fun h => by
          subst h
          unfold may at hb
          have : x.toNat = 1 := by simpa using hb
          omega
        refine ih (i + 1) _ ?_ (by omega)
        rw [Nat.pow_succ]
        have : x.toNat % 128 * 128 ^ i ≤ 127 * 128 ^ i := Nat.mul_le_mul_right _ (by omega)
        omega
/-- As the document has it. -/
theorem cnt_doc (most : Int) (l : List UInt8) : cnt most l =
    if (scan 18446744073709551615 0 0 l).2.2 ≠ 0 then ([], 0, (scan 18446744073709551615 0 0 l).2.2)
    else if most < 0 ∨ most < ((scan 18446744073709551615 0 0 l).1 : Int) ∨ 65536 < (scan 18446744073709551615 0 0 l).1 then ([], 0, 12)
    else if l.length - (scan 18446744073709551615 0 0 l).2.1 < (scan 18446744073709551615 0 0 l).1 then ([], 0, 30)
    else ((l.drop (scan 18446744073709551615 0 0 l).2.1).take (scan 18446744073709551615 0 0 l).1, (scan 18446744073709551615 0 0 l).2.1 + (scan 18446744073709551615 0 0 l).1, 0) := by
  have hlim : (lim most : Int) = min (max most 0) 65536 := by unfold lim; omega
  unfold cnt
  rw [scan_lim (lim most) l 0 0 (by decide) (by decide)]
  generalize scan 18446744073709551615 0 0 l = S
  obtain ⟨s1, s2, s3⟩ := S
  simp only
  by_cases h3 : s3 = 0
  · subst h3
    by_cases hr : lim most < s1
    · have e : (if 0 = 0 ∧ lim most < s1 then ((0, 0, 12) : Nat × Nat × Nat) else (s1, s2, 0)) = (0, 0, 12) := if_pos ⟨rfl, hr⟩
      rw [e]
      rw [if_pos (by simp), if_neg (by simp), if_pos (show most < 0 ∨ most < (s1 : Int) ∨ 65536 < s1 by omega)]
    · have e : (if 0 = 0 ∧ lim most < s1 then ((0, 0, 12) : Nat × Nat × Nat) else (s1, s2, 0)) = (s1, s2, 0) := if_neg (fun h => hr h.2)
      rw [e]
      simp only [ne_eq, not_true_eq_false, if_false]
      by_cases hm : most < 0
      · rw [if_pos hm, if_pos (Or.inl hm)]
      · rw [if_neg hm, if_neg (show ¬ (most < 0 ∨ most < (s1 : Int) ∨ 65536 < s1) by omega)]
  · have e : (if s3 = 0 ∧ lim most < s1 then ((0, 0, 12) : Nat × Nat × Nat) else (s1, s2, s3)) = (s1, s2, s3) := if_neg (fun h => h3 h.1)
    rw [e]
    rw [if_pos (by simpa using h3), if_pos (by simpa using h3)]
set_option maxHeartbeats 2000000 in
theorem rrbytes_any {rb at_ e : Nat} {v : Value} {L : List UInt8} (most : Int) (h64 : most ≤ 9223372036854775807) (w : World) (hR : Rr w rb v L at_ e) : Calls Try.prog 52 #[.pointer (some ⟨rb, 0, none⟩), .int .i64 most] w fun r w' => ∃ d v', r = .returned d ∧ w'.ownsRow w.heap.size 5 1 d (rbs e most (L.drop at_)).1.length (fl EB (rbs e most (L.drop at_)).1) ∧ Rr w' rb v' L (at_ + (rbs e most (L.drop at_)).2.1) (rbs e most (L.drop at_)).2.2 ∧ (∀ k, v'.ownBlock = some k → v.ownBlock = some k) ∧ Kp (fun k => k = rb) w w' := by
  have k0 := hR.c0
  have k2 := hR.c2
  have f2 := hR.fz 2
  have kl := hR.lt
  have HR := hid hR
  have hle := hR.le
  have hbg := hR.big
  obtain ⟨p, c, hv⟩ := hR.ls.form
  by_cases h0 : e = 0
  · subst h0
    have hnu := number_len hR 18446744073709551615
    obtain ⟨h1, h2, h2b⟩ := scan_le 18446744073709551615 (L.drop at_)
    rw [List.length_drop] at h1
    rw [show rbs 0 most (L.drop at_) = cnt most (L.drop at_) from rfl, cnt_doc]
    have hdl : (L.drop at_).length = L.length - at_ := List.length_drop
    have HE := hid (fun s => hR.setE s)
    rw [hv] at k0 hnu
    generalize scan 18446744073709551615 0 0 (L.drop at_) = S at hnu h1 h2 h2b ⊢
    obtain ⟨s1, s2, s3⟩ := S
    simp only at hnu h1 h2 h2b ⊢
    clear hR
    by_cases h3 : s3 = 0
    · subst h3
      rw [if_neg (by simp)]
      by_cases hr : most < 0 ∨ most < (s1 : Int) ∨ 65536 < s1
      · rw [if_pos hr]
        obtain ⟨g1, g2⟩ := HE.out 12
        have G1 := hid g1
        have G2 := hid g2
        clear g1 g2 HE h2 hdl
        generalize hM : L.drop at_ = M at k0 hnu
        clear hM
        by_cases m0 : most < 0
        · go_enter Try.func52, Try.ntmps52
          go_wp2_with fail
          refine hnu.mono ?_
          rintro r w5 ⟨rfl, rfl⟩
          go_wp2_with fail
          go_ret
          exact ⟨_, _, rfl, World.ownsRow_nil _ _ _ _, G1.out, fun _ h => h, G2.out⟩
        · by_cases m1 : most < (s1 : Int)
          · go_enter Try.func52, Try.ntmps52
            go_wp2_with fail
            refine hnu.mono ?_
            rintro r w5 ⟨rfl, rfl⟩
            go_wp2_with fail
            go_ret
            exact ⟨_, _, rfl, World.ownsRow_nil _ _ _ _, G1.out, fun _ h => h, G2.out⟩
          · have m2 : (65536 : Int) < (s1 : Int) := by omega
            go_enter Try.func52, Try.ntmps52
            go_wp2_with fail
            refine hnu.mono ?_
            rintro r w5 ⟨rfl, rfl⟩
            go_wp2_with fail
            go_ret
            exact ⟨_, _, rfl, World.ownsRow_nil _ _ _ _, G1.out, fun _ h => h, G2.out⟩
      · rw [if_neg hr]
        have m0 : ¬ most < 0 := by omega
        have m1 : ¬ most < (s1 : Int) := by omega
        have m2 : ¬ (65536 : Int) < (s1 : Int) := by omega
        clear hr
        by_cases hs : (L.drop at_).length - s2 < s1
        · rw [if_pos hs]
          have hsz : ((L.drop at_).length : Int) - (s2 : Int) < (s1 : Int) := by omega
          have hs2 : s2 ≤ (L.drop at_).length := by omega
          obtain ⟨g1, g2⟩ := HE.out 30
          have G1 := hid g1
          have G2 := hid g2
          clear g1 g2 HE h2 hs
          have hml : (L.drop at_).length ≤ 140737488355328 := by omega
          clear hdl
          generalize L.drop at_ = M at k0 hnu hsz hs2 hml
          go_enter Try.func52, Try.ntmps52
          go_wp2_with fail
          refine hnu.mono ?_
          rintro r w5 ⟨rfl, rfl⟩
          go_wp2_with fail
          go_ret
          exact ⟨_, _, rfl, World.ownsRow_nil _ _ _ _, G1.out, fun _ h => h, G2.out⟩
        · rw [if_neg hs]
          have hsz : ¬ ((L.drop at_).length : Int) - (s2 : Int) < (s1 : Int) := by omega
          have hs2 : s2 ≤ (L.drop at_).length := by omega
          have hml : (L.drop at_).length ≤ 140737488355328 := by omega
          have hsum : at_ + s2 + s1 ≤ L.length := by omega
          have hta := rtake_any (n := s2) w HR.out (by omega)
          have HDD : Hid ((L.drop (at_ + s2)).take s1 = ((L.drop at_).drop s2).take s1) := by rw [List.drop_drop]; rfl
          clear HE h2 hs hdl
          rw [hv] at hta
          generalize hM : L.drop at_ = M at k0 hnu hsz hs2 hml HDD hta ⊢
          have HM := hid hM
          clear hM
          go_enter Try.func52, Try.ntmps52
          go_wp2_with fail
          refine hnu.mono ?_
          rintro r w5 ⟨rfl, rfl⟩
          go_wp2_with fail
          refine hta.mono ?_
          rintro r w6 ⟨d6, v6, rfl, _, h6, b6, k6⟩
          have hta2 := rtake_any (n := s1) w6 h6 hsum
          rw [HDD.out] at hta2
          have B6 := hid b6
          have K6 := hid k6
          clear h6 b6 k6 hta hnu
          go_wp2_with fail
          refine hta2.mono ?_
          rintro r w7 ⟨d7, v7, rfl, o7, h7, b7, k7⟩
          have O7 := hid (owns_base o7 K6.out.size)
          have H7 := hid h7
          have B7 : Hid (∀ k, v7.ownBlock = some k → v.ownBlock = some k) := fun k hk => by rw [hv, HM.out]; exact B6.out k (b7 k hk)
          have K7 := hid (K6.out.trans k7 (fun _ _ h => h))
          clear o7 h7 b7 k7 hta2
          go_wp2_with fail
          go_ret
          refine ⟨_, _, rfl, O7.out, ?_, B7.out, K7.out⟩
          rw [← Nat.add_assoc]
          exact H7.out
    · rw [if_pos (by simpa using h3)]
      have hz : ¬ (s3 : Int) = 0 := by omega
      obtain ⟨g1, g2⟩ := HE.out s3
      have G1 := hid g1
      have G2 := hid g2
      clear g1 g2 HE h2 hdl
      generalize L.drop at_ = M at k0 hnu
      go_enter Try.func52, Try.ntmps52
      go_wp2_with fail
      refine hnu.mono ?_
      rintro r w5 ⟨rfl, rfl⟩
      go_wp2_with fail
      go_ret
      exact ⟨_, _, rfl, World.ownsRow_nil _ _ _ _, G1.out, fun _ h => h, G2.out⟩
  · have hz : ¬ (e : Int) = 0 := by omega
    have hrn : rbs e most (L.drop at_) = ([], 0, e) := by unfold rbs; rw [if_neg h0]
    rw [hrn]
    clear hrn hR hv k0
    go_enter Try.func52, Try.ntmps52
    go_wp2_with fail
    go_ret
    exact ⟨_, _, rfl, World.ownsRow_nil _ _ _ _, HR.out, fun _ h => h, Kp.refl _ _⟩
end Go.Proofs.Ytgojhhdjpkilmaa.Wi
