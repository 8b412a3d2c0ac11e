import Derived.Test.YtkopmkmfigenlaaDTk
namespace Go.Proofs.Ytkopmkmfigenlaa.Df
open Go.RowKit Go.Sort Wi
attribute [local go_sem ↓] Go.wp_at_zero Go.wp_at_succ

/-- Another bound. -/
theorem scan_most (m M : Nat) (hm : m ≤ M) (l : List UInt8) (i v : Nat) : scan m i v l = if (scan M i v l).2.2 = 0 ∧ m < (scan M i v l).1 then (0, 0, 12) else scan M i v l := by
  induction l generalizing i v with
  | nil => simp [scan]
  | cons x l ih =>
    unfold scan
    split
    · simp
    · split
      · by_cases h1 : M < v + x.toNat % 128 * 128 ^ i
        · rw [if_pos (by omega), if_pos h1]
          simp
        · rw [if_neg h1]
          by_cases h2 : m < v + x.toNat % 128 * 128 ^ i
          · rw [if_pos h2, if_pos ⟨rfl, h2⟩]
          · rw [if_neg h2, if_neg (fun h => h2 h.2)]
      · exact ih _ _
/-- No form is above what an uint64 bears. -/
theorem scan_top (l : List UInt8) (i v : Nat) (hi : i ≤ 9) (hv : v < 128 ^ i) : (scan 18446744073709551615 i v l).2.2 ≠ 12 := by
  induction l generalizing i v with
  | nil => simp [scan]
  | cons x l ih =>
    have hx : x.toNat % 128 < 128 := Nat.mod_lt _ (by decide)
    have hnext : v + x.toNat % 128 * 128 ^ i < 128 ^ (i + 1) := by
      have h1 : (x.toNat % 128 + 1) * 128 ^ i ≤ 128 * 128 ^ i := Nat.mul_le_mul_right _ (by omega)
      rw [Nat.add_mul, Nat.one_mul] at h1
      rw [Nat.pow_succ]
      omega
    unfold scan
    split
    · simp
    · rename_i hmay
      have h9 : i = 9 → x.toNat = 1 := fun h => by
        subst h
        simpa [may] using hmay
      split
      · split
        · rename_i hbig
          exfalso
          by_cases e : i = 9
          · subst e
            rw [h9 rfl] at hbig
            have : (128 : Nat) ^ 9 = 9223372036854775808 := by decide
            rw [this] at hbig hv
            omega
          · have h2 : (128 : Nat) ^ (i + 1) ≤ 128 ^ 9 := Nat.pow_le_pow_right (by decide) (by omega)
            have : (128 : Nat) ^ 9 = 9223372036854775808 := by decide
            omega
        · simp
      · rename_i hge
        exact ih (i + 1) _ (by
          rcases Nat.lt_or_ge i 9 with h | h
          · omega
          · have := h9 (by omega); omega) hnext
/-- A kind is read as a number up to eight. -/
theorem pkind_eq (L : List UInt8) (a : Nat) : pkind L a = match num 8 20 L a with
  | .inl e => .inl e
  | .inr x => if 1 ≤ x.1 then .inr x else .inl (20, a) := by
  have h1 := scan_most 8 18446744073709551615 (by decide) (L.drop a) 0 0
  have h2 := scan_top (L.drop a) 0 0 (by decide) (by decide)
  unfold pkind Pa.guard any num
  rw [h1]
  generalize scan 18446744073709551615 0 0 (L.drop a) = S at h2
  obtain ⟨s1, s2, s3⟩ := S
  simp only at h2 ⊢
  by_cases h0 : s3 = 0
  · subst h0
    by_cases h8 : 8 < s1
    · simp [h8]
    · have h8' : ¬ 8 < s1 := h8
      by_cases h1' : 1 ≤ s1
      · simp [h8', h1']
      · simp [h8', h1']
  · simp [h0, h2]
abbrev Vk (_ : World) (u : Value) (x : Nat) : Prop := u = .int .i64 (x : Nat)
set_option maxHeartbeats 1000000 in
theorem tkind_any {rb a : Nat} {v : Value} {L : List UInt8} (w : World) (hR : Rd w rb v L a 0) : Calls Try.prog 70 #[tv rb] w (Tk pkind Vk rb v L a w) := by
  have hat := fun W (hg : Gr w W) => rat_any W (hR.gr hg)
  have hup := fun W (hg : Gr w W) => upto_any 8 20 W (hR.gr hg)
  have hle := hR.le
  have hpk := hid (pkind_eq L a)
  clear hR
  go_enter Try.func70, Try.ntmps70
  go_wp2_with (go_at_call 82; refine (hat _ ((Gr.refl _).alloc _)).mono ?_; rintro r w3 ⟨rfl, rfl⟩)
  go_at_call 69
  refine (hup _ ((Gr.refl _).alloc _)).mono ?_
  intro r w4 h4
  cases e4 : num 8 20 L a with
  | inl x =>
    obtain ⟨rfl, k4⟩ := h4.bad e4
    go_wp2_with fail
    exact ⟨rfl, Tk.no (by rw [hpk.out, e4]) (kp_then ((Gr.refl w).alloc _) k4)⟩
  | inr x =>
    obtain ⟨u, rfl, rfl, r4, k4⟩ := h4.good e4
    have hx := (num_back (by decide) hle e4).1
    have hz : wrap64 (x.1 : Int) = (x.1 : Int) := by unfold wrap64; omega
    have K4 := hid k4
    have R4 := hid r4
    have E4 := hid e4
    clear h4 k4 r4 e4
    by_cases h1 : 1 ≤ x.1
    · have hz1 : ¬ (x.1 : Int) < 1 := by omega
      go_wp2_with fail
      go_ret
      exact Tk.yes (x := x.1) (by rw [hpk.out, E4.out]; simp only [h1, if_true]) (kp_then ((Gr.refl w).alloc _) K4.out) R4.out rfl
    · have hz1 : (x.1 : Int) < 1 := by omega
      have hgu := fun W => giveup_any 20 a W
      go_wp2_with (go_at_call 59; refine (hgu _).mono ?_; rintro r w7 ⟨rfl, rfl⟩)
      exact ⟨rfl, Tk.no (by rw [hpk.out, E4.out]; simp only [h1, if_false]) (kp_then ((Gr.refl w).alloc _) K4.out)⟩
/-- The ports that a kind has by itself; -1: they are laid. -/
def own (k : Int) : Int × Int := if k = 1 then (0, 1) else if k = 7 then (1, 0) else if k = 4 then (-1, 1) else if k = 8 then (-1, -1) else (1, 1)
theorem own_any (k : Int) (w : World) : Calls Try.prog 71 #[.int .i64 k] w fun r w' => r = .returned (.tuple #[.int .i64 (own k).1, .int .i64 (own k).2]) ∧ w' = w := by
  unfold own
  by_cases h1 : k = 1
  · subst h1
    go_enter Try.func71, Try.ntmps71
    go_wp2
    go_ret2
    exact ⟨rfl, rfl⟩
  · by_cases h7 : k = 7
    · subst h7
      go_enter Try.func71, Try.ntmps71
      go_wp2
      go_ret2
      exact ⟨rfl, rfl⟩
    · by_cases h4 : k = 4
      · subst h4
        go_enter Try.func71, Try.ntmps71
        go_wp2
        go_ret2
        exact ⟨rfl, rfl⟩
      · by_cases h8 : k = 8
        · subst h8
          go_enter Try.func71, Try.ntmps71
          go_wp2
          go_ret2
          exact ⟨rfl, rfl⟩
        · rw [if_neg h1, if_neg h7, if_neg h4, if_neg h8]
          have z1 : (k == 1) = false := by simp [h1]
          have z7 : (k == 7) = false := by simp [h7]
          have z4 : (k == 4) = false := by simp [h4]
          have z8 : (k == 8) = false := by simp [h8]
          go_enter Try.func71, Try.ntmps71
          go_wp2
          go_ret2
          exact ⟨rfl, rfl⟩
end Go.Proofs.Ytkopmkmfigenlaa.Df
