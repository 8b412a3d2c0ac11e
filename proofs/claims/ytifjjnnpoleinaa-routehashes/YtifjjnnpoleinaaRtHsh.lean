import Derived.Test.YtifjjnnpoleinaaRtTak
namespace Go.Proofs.Ytifjjnnpoleinaa.Df
open Go.RowKit Go.Sort
attribute [local go_sem ↓] Go.wp_at_zero Go.wp_at_succ

set_option maxRecDepth 100000 in
set_option maxHeartbeats 4000000 in
theorem routeHashes_any {a b : Nat} (ha : a < 18446744073709551616) (hb : b < 18446744073709551616) (m : Int) (w : World) : Calls Try.prog 4 #[.int .u64 (a : Nat), .int .u64 (b : Nat), .int .i64 m] w fun r w' => r = .returned (.bool true) ∧ Below w.heap.size w w' := by
  have htk := taken_any w
  have h1 := fun W => hash_any ha W
  have h2 := fun W => rhash_any ha W
  have h3 := fun W => hash_any hb W
  have h4 := fun W => rhash_any hb W
  have h5 := fun W => who_any ha m W
  have h6 := fun W => rwho_any ha m W
  have h7 := fun W => who_any hb m W
  have h8 := fun W => rwho_any hb m W
  have hiff : (((hsh a : Nat) : Int) == ((hsh b : Nat) : Int)) = ((a : Int) == (b : Int)) := by
    rw [Bool.eq_iff_iff, beq_iff_eq, beq_iff_eq]
    constructor
    · intro h
      have := hsh_inj ha hb (by omega)
      omega
    · intro h
      have : a = b := by omega
      rw [this]
  generalize hsh a = x at *
  generalize hsh b = y at *
  generalize tow a m = s at *
  generalize tow b m = t at *
  go_enter Try.func4, Try.ntmps4
  go_wp2_with fail
  refine htk.mono ?_
  rintro r w1 ⟨rfl, b1⟩
  go_wp2_with fail
  refine (h1 w1).mono ?_
  rintro r w2 ⟨rfl, hw2⟩
  subst hw2
  go_wp2_with fail
  refine (h2 w2).mono ?_
  rintro r w3 ⟨rfl, hw3⟩
  subst hw3
  go_wp2_with fail
  refine (h3 w3).mono ?_
  rintro r w4 ⟨rfl, hw4⟩
  subst hw4
  go_wp2_with fail
  refine (h4 w4).mono ?_
  rintro r w5 ⟨rfl, hw5⟩
  subst hw5
  go_wp2_with fail
  refine (h1 w5).mono ?_
  rintro r w6 ⟨rfl, hw6⟩
  subst hw6
  go_wp2_with fail
  refine (h3 w6).mono ?_
  rintro r w7 ⟨rfl, hw7⟩
  subst hw7
  go_wp2_with fail
  refine (h5 w7).mono ?_
  rintro r w8 ⟨rfl, hw8⟩
  subst hw8
  go_wp2_with fail
  refine (h6 w8).mono ?_
  rintro r w9 ⟨rfl, hw9⟩
  subst hw9
  go_wp2_with fail
  refine (h7 w9).mono ?_
  rintro r w10 ⟨rfl, hw10⟩
  subst hw10
  go_wp2_with fail
  refine (h8 w10).mono ?_
  rintro r w11 ⟨rfl, hw11⟩
  subst hw11
  go_wp2_with fail
  go_ret
  exact ⟨rfl, b1⟩
end Go.Proofs.Ytifjjnnpoleinaa.Df
