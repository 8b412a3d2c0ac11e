import Derived.Test.YtghofmhlmkpkcaaDoorVBase
namespace Go.Proofs.YtghofmhlmkpkcaaDoor.Wi
open Go.RowKit Go.Sort
attribute [local go_sem ↓] Go.wp_at_zero Go.wp_at_succ

theorem may_any (x : UInt8) (i : Nat) (w : World) : Calls Tryd.prog 67 #[bv x, .int .i64 i] w fun e w' => e = .returned (.bool (may x.toNat i)) ∧ w' = w := by
  by_cases h9 : i = 9
  · subst h9
    have hr : may x.toNat 9 = ((x.toNat : Int) == 1) := by
      unfold may
      rw [if_pos rfl]
      by_cases h : x.toNat = 1
      · rw [h]; rfl
      · have h2 : ¬ (x.toNat : Int) = 1 := by omega
        rw [beq_eq_false_iff_ne.2 h, beq_eq_false_iff_ne.2 h2]
    rw [hr]
    clear hr
    go_enter Tryd.func67, Tryd.ntmps67
    go_wp2
    go_ret
    exact ⟨rfl, rfl⟩
  · have h9z : ¬ (i : Int) = 9 := by omega
    have hr : may x.toNat i = (decide ((i : Int) = 0) || decide (¬ (x.toNat : Int) = 0)) := by
      unfold may
      rw [if_neg h9]
      by_cases h0 : i = 0 <;> by_cases h1 : x.toNat = 0
      all_goals simp [h0, h1]
    rw [hr]
    by_cases h0 : (i : Int) = 0 <;> by_cases h1 : (x.toNat : Int) = 0
    all_goals (
      clear hr
      go_enter Tryd.func67, Tryd.ntmps67
      go_wp2
      go_ret
      refine ⟨?_, rfl⟩
      simp_all)
/-- One more group of seven bits. -/
theorem or_add {acc k i : Nat} (h : acc < 128 ^ i) (hs : acc + k * 128 ^ i < 18446744073709551616) : bits .or .u64 (acc : Int) ((k * 128 ^ i : Nat) : Int) = ((acc + k * 128 ^ i : Nat) : Int) := by
  have e : acc ||| k * 128 ^ i = acc + k * 128 ^ i := by
    have h2 : (128 : Nat) ^ i = 2 ^ (7 * i) := by rw [Nat.pow_mul]
    rw [h2] at h ⊢
    rw [Nat.or_comm, Nat.mul_comm k, ← Nat.two_pow_add_eq_or_of_lt h, Nat.add_comm]
  have h1 : ((BitVec.ofInt 64 (acc : Int) ||| BitVec.ofInt 64 ((k * 128 ^ i : Nat) : Int)).toNat) = acc + k * 128 ^ i := by
    rw [BitVec.toNat_or, BitVec.toNat_ofInt, BitVec.toNat_ofInt]
    rw [show ((acc : Int) % ((2 ^ 64 : Nat) : Int)).toNat = acc by omega, show (((k * 128 ^ i : Nat) : Int) % ((2 ^ 64 : Nat) : Int)).toNat = k * 128 ^ i by omega]
    exact e
  show IntKind.u64.wrap ((BitVec.ofInt 64 (acc : Int) ||| BitVec.ofInt 64 ((k * 128 ^ i : Nat) : Int)).toNat : Int) = _
  rw [h1, IntKind.wrap_u64]
  omega
theorem shl_grp {x i : Nat} (hi : i ≤ 9) (hs : x % 128 * 128 ^ i < 18446744073709551616) : Op.shift .shl .u64 ((x : Int) % 128) .i64 (wrap64 (7 * (i : Int))) = pure (.int .u64 ((x % 128 * 128 ^ i : Nat) : Int)) := by
  have hw : wrap64 (7 * (i : Int)) = ((7 * i : Nat) : Int) := by unfold wrap64; omega
  rw [hw, shift_shl .u64 .i64 _ _ (by omega) (by show ((7 * i : Nat) : Int) ≤ 64; omega)]
  have h2 : ((x : Int) % 128) * 2 ^ ((7 * i : Nat) : Int).toNat = ((x % 128 * 128 ^ i : Nat) : Int) := by
    rw [Int.toNat_natCast, Int.pow_mul]
    simp
  rw [h2, IntKind.wrap_u64]
  congr 2
  omega
set_option maxHeartbeats 1000000 in
set_option maxRecDepth 100000 in
theorem number_any {v : Value} {l : List UInt8} (most : Nat) (w : World) (hL : Ls EB w v l) (hl : l.length < 9223372036854775807) :
    Calls Tryd.prog 43 #[v, .int .u64 most] w fun e w' => e = .returned (.tuple #[.int .u64 ((scan most 0 0 l).1 : Nat), .int .i64 ((scan most 0 0 l).2.1 : Nat), .int .i64 ((scan most 0 0 l).2.2 : Nat)]) ∧ w' = w := by
  have HL : Hid (Ls EB w v l) := hL
  obtain ⟨pl, cl, rfl⟩ := hL.form
  clear hL
  go_enter Tryd.func43, Tryd.ntmps43
  go_wp2_with fail
  go_loopw [4, 11] (fun s4 s11 wr => ∃ (i acc : Nat), wr = w ∧ s4 = .int .u64 acc ∧ s11 = .int .i64 i ∧ Hid (i ≤ l.length ∧ i ≤ 9 ∧ acc < 128 ^ i ∧ scan most 0 0 l = scan most i acc (l.drop i))) (fun _ s11 _ => l.length - (RowKit.intOf s11).toNat)
  case atStart => exact ⟨0, 0, rfl, rfl, rfl, Nat.zero_le _, Nat.zero_le _, by decide, rfl⟩
  case round =>
    obtain ⟨i, acc, rfl, rfl, rfl, HI⟩ := hrel
    by_cases hlt : i < l.length
    · have hltz : (i : Int) < (l.length : Int) := by omega
      obtain ⟨x, hx⟩ : ∃ x, l[i]? = some x := ⟨l[i], by rw [List.getElem?_eq_getElem]⟩
      obtain ⟨b1, o1, c1, e1, z1, x0⟩ := ls_at HL.out hx
      simp only [Value.slice.injEq, true_and] at e1
      obtain ⟨rfl, rfl⟩ := e1
      have HX := hid hx
      have hmay := may_any x i
      generalize hmv : may x.toNat i = mv at hmay
      have HD : Hid (l.drop i = x :: l.drop (i + 1)) := by
        rw [List.drop_eq_getElem_cons hlt]
        rw [List.getElem?_eq_getElem hlt] at hx
        simp at hx
        rw [hx]
        rfl
      have HI3 := HI.out.2.2.2
      rw [HD.out, scan, hmv] at HI3
      have HI2 := hid HI3
      have HMV := hid hmv
      clear hx HI3 hmv
      cases mv
      · go_wp2_with (go_at_call 67; refine (hmay _).mono ?_; rintro e w4 ⟨rfl, rfl⟩)
        go_ret3
        refine ⟨?_, rfl⟩
        rw [HI2.out, if_pos trivial]
        rfl
      · have hx1 : i = 9 → x.toNat = 1 := fun h => by
          have := HMV.out
          rw [h] at this
          simpa [may] using this
        have hxl := x.toNat_lt
        have hi9 := HI.out.2.1
        have hK : Hid (acc + x.toNat % 128 * 128 ^ i < 18446744073709551616 ∧ (i < 9 → acc + x.toNat % 128 * 128 ^ i < 128 ^ (i + 1)) ∧ acc < 128 ^ i) := by
          have hac := HI.out.2.2.1
          refine ⟨?_, fun h => ?_, hac⟩
          · by_cases h9 : i = 9
            · have hx2 := hx1 h9
              subst h9
              rw [hx2]
              have h3 : (128 : Nat) ^ 9 = 9223372036854775808 := by decide
              rw [h3] at hac ⊢
              omega
            · have h8 : (128 : Nat) ^ i ≤ 72057594037927936 := by
                have := Nat.pow_le_pow_right (n := 128) (by decide) (show i ≤ 8 by omega)
                have h3 : (128 : Nat) ^ 8 = 72057594037927936 := by decide
                omega
              have : x.toNat % 128 * 128 ^ i ≤ 127 * 72057594037927936 := Nat.mul_le_mul (by omega) h8
              omega
          · rw [Nat.pow_succ]
            have : x.toNat % 128 * 128 ^ i ≤ 127 * 128 ^ i := Nat.mul_le_mul_right _ (by omega)
            omega
        have hsh := shl_grp (x := x.toNat) hi9 (by have := hK.out.1; omega)
        have hor := or_add (k := x.toNat % 128) hK.out.2.2 hK.out.1
        have HX9 := hid hx1
        have HI9 : Hid (i ≤ 9) := hi9
        obtain ⟨G, hG⟩ : ∃ G, G = x.toNat % 128 * 128 ^ i := ⟨_, rfl⟩
        rw [← hG] at hsh hor hK HI2
        obtain ⟨S, hS⟩ : ∃ S, S = acc + G := ⟨_, rfl⟩
        rw [← hS] at hor hK HI2
        clear hG hS hx1 hi9 hxl
        by_cases h128 : x.toNat < 128
        · have hz : ¬ (128 : Int) ≤ (x.toNat : Int) := by omega
          by_cases hm : most < S
          · have hmz : (most : Int) < (S : Int) := by omega
            go_wp2_with (go_at_call 67; refine (hmay _).mono ?_; rintro e w4 ⟨rfl, rfl⟩)
            go_ret3
            refine ⟨?_, rfl⟩
            rw [HI2.out, if_neg (by decide), if_pos h128, if_pos hm]
            rfl
          · have hmz : ¬ (most : Int) < (S : Int) := by omega
            go_wp2_with (go_at_call 67; refine (hmay _).mono ?_; rintro e w4 ⟨rfl, rfl⟩)
            go_ret3
            refine ⟨?_, rfl⟩
            rw [HI2.out, if_neg (by decide), if_pos h128, if_neg hm]
            rfl
        · have hz : (128 : Int) ≤ (x.toNat : Int) := by omega
          go_wp2_with (go_at_call 67; refine (hmay _).mono ?_; rintro e w4 ⟨rfl, rfl⟩)
          go_roundw
          case rel =>
            have h9 : i < 9 := by
              have := HX9.out
              have := HI9.out
              omega
            exact ⟨i + 1, S, trivial, rfl, by go_num, by omega, by omega, hK.out.2.1 h9, by rw [HI2.out, if_neg (by decide), if_neg h128]⟩
          case measure => simp [RowKit.intOf]; omega
    · have hltz : ¬ (i : Int) < (l.length : Int) := by omega
      go_wp2_with fail
      go_ret3
      refine ⟨?_, rfl⟩
      rw [HI.out.2.2.2, List.drop_of_length_le (by omega), scan]
      rfl
end Go.Proofs.YtghofmhlmkpkcaaDoor.Wi
