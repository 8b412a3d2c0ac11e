import Derived.Test.YtknejahmjfgmhaaGreatDoorPWalk1
import Derived.Test.YtknejahmjfgmhaaGreatDoorPKnown
namespace Go.Proofs.YtknejahmjfgmhaaGreatDoor
open Go.RowKit Go.Shelf Go.Lib
open Go.Sort hiding Below

theorem group_eq (a b c x y z p q r : Nat)
    (h : (pok (pon (pok a b c x y z) (a + x)) (pon (pok a b c x y z) (b + y)) (pon (pok a b c x y z) (c + z)) p q r && pok a b c x y z) = true) :
    teq (pon (pok (pon (pok a b c x y z) (a + x)) (pon (pok a b c x y z) (b + y)) (pon (pok a b c x y z) (c + z)) p q r) (pon (pok a b c x y z) (a + x) + p) : Nat)
      (pon (pok (pon (pok a b c x y z) (a + x)) (pon (pok a b c x y z) (b + y)) (pon (pok a b c x y z) (c + z)) p q r) (pon (pok a b c x y z) (b + y) + q) : Nat)
      (pon (pok (pon (pok a b c x y z) (a + x)) (pon (pok a b c x y z) (b + y)) (pon (pok a b c x y z) (c + z)) p q r) (pon (pok a b c x y z) (c + z) + r) : Nat)
      (pon (pok a b c (pon (pok x y z p q r) (x + p)) (pon (pok x y z p q r) (y + q)) (pon (pok x y z p q r) (z + r))) (a + pon (pok x y z p q r) (x + p)) : Nat)
      (pon (pok a b c (pon (pok x y z p q r) (x + p)) (pon (pok x y z p q r) (y + q)) (pon (pok x y z p q r) (z + r))) (b + pon (pok x y z p q r) (y + q)) : Nat)
      (pon (pok a b c (pon (pok x y z p q r) (x + p)) (pon (pok x y z p q r) (y + q)) (pon (pok x y z p q r) (z + r))) (c + pon (pok x y z p q r) (z + r)) : Nat) = true := by
  have h' := h
  rw [pok_group] at h'
  rw [Bool.and_eq_true] at h h'
  rw [h.1, h.2, h'.1, h'.2]
  simp only [pon_true]
  rw [teq_iff]
  omega

theorem pon_pok_lt (a b c x y z : Nat) : pon (pok a b c x y z) (a + x) < 18446744073709551616 ∧ pon (pok a b c x y z) (b + y) < 18446744073709551616 ∧ pon (pok a b c x y z) (c + z) < 18446744073709551616 :=
  ⟨pon_lt _ _ fun h => ((pok_iff ..).1 h).1, pon_lt _ _ fun h => ((pok_iff ..).1 h).2.1, pon_lt _ _ fun h => ((pok_iff ..).1 h).2.2⟩

theorem ways_any (a b c x y z p q r s t u s' t' u' : Nat) (n : Int) (w : World) (he : Env w)
    (ha : a < 18446744073709551616) (hb : b < 18446744073709551616) (hc : c < 18446744073709551616) (hx : x < 18446744073709551616) (hy : y < 18446744073709551616) (hz : z < 18446744073709551616)
    (hp : p < 18446744073709551616) (hq : q < 18446744073709551616) (hr : r < 18446744073709551616) (hs : s < 18446744073709551616) (ht : t < 18446744073709551616) (hu : u < 18446744073709551616) :
    Calls Tryz.prog 4 #[.agg #[.int .u64 a, .int .u64 b, .int .u64 c, .int .u64 x, .int .u64 y, .int .u64 z, .int .u64 p, .int .u64 q, .int .u64 r, .int .u64 s, .int .u64 t, .int .u64 u, .int .u64 s', .int .u64 t', .int .u64 u', .int .i64 n]] w fun e w' => e = .returned (.bool true) ∧ Below w.heap.size w w' := by
  obtain ⟨A1, A2, A3⟩ := pon_pok_lt a b c x y z
  obtain ⟨D1, D2, D3⟩ := pon_pok_lt x y z p q r
  obtain ⟨X1, X2, X3⟩ := pon_pok_lt a b c s t u
  refine ways_walk known_true a b c x y z p q r s t u _ _ _ _ _ _ _ _ _ _ _ _ _ _ _ _ _ _ _ _ _ s' t' u' _ _ _ _ _ _ _ n w he (fun W => Then_any a b c x y z W ha hb hc hx hy hz) ?_
    (fun W => Then_any _ _ _ p q r W A1 A2 A3 hp hq hr) (fun W => Then_any x y z p q r W hx hy hz hp hq hr) (fun W => Then_any a b c _ _ _ W ha hb hc D1 D2 D3) (pok_group a b c x y z p q r) (group_eq a b c x y z p q r)
    (fun W => On_any a b c s t u W ha hb hc hs ht hu) (fun W => On_any x y z _ _ _ W hx hy hz X1 X2 X3) (fun W => On_any _ _ _ s t u W A1 A2 A3 hs ht hu) ?_ ?_ ?_ ?_
  · intro W
    have := Then_any x y z a b c W hx hy hz ha hb hc
    rwa [pok_comm x y z a b c, Nat.add_comm x a, Nat.add_comm y b, Nat.add_comm z c] at this
  · have := pok_group x y z a b c s t u
    rw [pok_comm x y z a b c, Nat.add_comm x a, Nat.add_comm y b, Nat.add_comm z c] at this
    rw [Bool.and_comm, this, Bool.and_comm]
  · intro h
    have := group_eq x y z a b c s t u
    rw [pok_comm x y z a b c, Nat.add_comm x a, Nat.add_comm y b, Nat.add_comm z c, Bool.and_comm] at this
    have h2 := (teq_iff ..).1 (this h)
    exact (teq_iff ..).2 ⟨h2.1.symm, h2.2.1.symm, h2.2.2.symm⟩
  · intro W
    have := Then_any a b c 0 0 0 W ha hb hc (by omega) (by omega) (by omega)
    have e : pok a b c 0 0 0 = true := (pok_iff ..).2 ⟨ha, hb, hc⟩
    rw [e] at this
    exact this
  · intro W
    have := On_any 0 0 0 s t u W (by omega) (by omega) (by omega) hs ht hu
    have e : pok 0 0 0 s t u = true := (pok_iff ..).2 ⟨by omega, by omega, by omega⟩
    rw [e, pon_true, pon_true, pon_true, Nat.zero_add, Nat.zero_add, Nat.zero_add] at this
    exact this
end Go.Proofs.YtknejahmjfgmhaaGreatDoor
