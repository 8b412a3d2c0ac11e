import Derived.Test.YtknejahmjfgmhabGreatDoorPRParse
import Derived.Test.YtknejahmjfgmhabGreatDoorPParse
import Derived.Test.YtknejahmjfgmhabGreatDoorPKnown
namespace Go.Proofs.YtknejahmjfgmhabGreatDoor
open Go.RowKit Go.Shelf Go.Lib
open Go.Sort hiding Below

theorem ptext_both (u v x : Nat) (n : Int) (hu : u < 18446744073709551616) (hv : v < 18446744073709551616) (hx : x < 18446744073709551616) :
    ∃ (s : ByteArray) (k : Int), (∀ w, Env w → Calls Tryz.prog 5 #[.agg #[.int .u64 u, .int .u64 v, .int .u64 x], .int .i64 n] w fun e w' => e = .returned (.tuple #[.string s, .int .i64 k]) ∧ Below w.heap.size w w') ∧
      (∀ w, Calls Tryz.prog 6 #[.agg #[.int .u64 u, .int .u64 v, .int .u64 x], .int .i64 n] w fun e w' => e = .returned (.tuple #[.string s, .int .i64 k]) ∧ Below w.heap.size w w') := by
  rcases fits_two2 u v x n with hf | hf
  · have hn : 1 ≤ n ∧ n ≤ 3 := by
      unfold tfits at hf
      split at hf
      · cases hf
      · omega
    obtain ⟨m, rfl⟩ : ∃ m : Nat, n = m := ⟨n.toNat, by omega⟩
    exact ⟨_, _, fun w he => PText_ok u v x m w he hu hv hx (by omega) (by omega) hf, fun w => prefText_ok u v x m w hu hv hx (by omega) (by omega) hf⟩
  · exact ⟨_, _, fun w _ => PText_bad u v x n w hf, fun w => prefText_bad u v x n w hf⟩
theorem pparse_both (s : ByteArray) (n : Int) (hs : s.size ≤ 140737488355328) :
    ∃ (u v x : Nat) (k : Int), (∀ w, Env w → Calls Tryz.prog 7 #[.string s, .int .i64 n] w fun e w' => (e = .returned (.tuple #[.agg #[.int .u64 u, .int .u64 v, .int .u64 x], .int .i64 k])) ∧ Below w.heap.size w w') ∧
      (∀ w, Calls Tryz.prog 8 #[.string s, .int .i64 n] w fun e w' => (e = .returned (.tuple #[.agg #[.int .u64 u, .int .u64 v, .int .u64 x], .int .i64 k])) ∧ Below w.heap.size w w') := by
  by_cases hb : n < 1 ∨ 3 < n
  · have h : ∀ {e : Ending}, PParseEnd s.data.toList n e → e = .returned (.tuple #[.agg #[.int .u64 (0 : Nat), .int .u64 (0 : Nat), .int .u64 (0 : Nat)], .int .i64 10]) := fun h => by
      rcases h with ⟨_, h⟩ | ⟨h, _⟩
      · exact h
      · omega
    exact ⟨0, 0, 0, 10, fun w he => (PParse_any s n w he hs).mono fun e w' ⟨k, hb⟩ => ⟨h k, hb⟩, fun w => (prefParse_any s n w hs).mono fun e w' ⟨k, hb⟩ => ⟨h k, hb⟩⟩
  · obtain ⟨m, rfl⟩ : ∃ m : Nat, n = m := ⟨n.toNat, by omega⟩
    by_cases ht : ∃ u v x : Nat, IsPText s.data.toList m u v x
    · obtain ⟨u, v, x, ht⟩ := ht
      have h : ∀ {e : Ending}, PParseEnd s.data.toList m e → e = .returned (.tuple #[.agg #[.int .u64 u, .int .u64 v, .int .u64 x], .int .i64 0]) := fun h => by
        rcases h with ⟨h, _⟩ | ⟨_, ⟨a, b, c, hk, rfl⟩ | ⟨hno, _⟩⟩
        · omega
        · obtain ⟨rfl, rfl, rfl⟩ := ptext_unique (by omega) (by omega) hk ht
          rfl
        · exact absurd ht (hno u v x)
      exact ⟨u, v, x, 0, fun w he => (PParse_any s m w he hs).mono fun e w' ⟨k, hb⟩ => ⟨h k, hb⟩, fun w => (prefParse_any s m w hs).mono fun e w' ⟨k, hb⟩ => ⟨h k, hb⟩⟩
    · have h : ∀ {e : Ending}, PParseEnd s.data.toList m e → e = .returned (.tuple #[.agg #[.int .u64 (0 : Nat), .int .u64 (0 : Nat), .int .u64 (0 : Nat)], .int .i64 11]) := fun h => by
        rcases h with ⟨h, _⟩ | ⟨_, ⟨a, b, c, hk, rfl⟩ | ⟨_, h⟩⟩
        · omega
        · exact absurd ⟨a, b, c, hk⟩ ht
        · exact h
      exact ⟨0, 0, 0, 11, fun w he => (PParse_any s m w he hs).mono fun e w' ⟨k, hb⟩ => ⟨h k, hb⟩, fun w => (prefParse_any s m w hs).mono fun e w' ⟨k, hb⟩ => ⟨h k, hb⟩⟩

set_option maxHeartbeats 4000000 in
set_option maxRecDepth 100000 in
theorem ptxt_any (u v x : Nat) (n : Int) (s : ByteArray) (w : World) (he : Env w) (hu : u < 18446744073709551616) (hv : v < 18446744073709551616) (hx : x < 18446744073709551616) (hs : s.size ≤ 140737488355328) :
    Calls Tryz.prog 3 #[.agg #[.int .u64 u, .int .u64 v, .int .u64 x], .int .i64 n, .string s] w fun e w' => e = .returned (.bool true) ∧ Below w.heap.size w w' := by
  have heq := fun a b c x y z W => run_eqP a b c x y z W
  have hself : ∀ p q r, teq p q r p q r = true := fun p q r => by simp [teq]
  obtain ⟨T, kT, hT, hT'⟩ := ptext_both u v x n hu hv hx
  obtain ⟨p, q, r, kP, hP, hP'⟩ := pparse_both s n hs
  go_enter Tryz.func3, Tryz.ntmps3
  have BB := Below.refl w.heap.size w
  go_wp2_with fail
  refine (hT _ (he.below (by first | exact BB | exact BB.alloc BB.size _))).mono ?_
  rintro e v1 ⟨rfl, hb⟩
  have LP : At3 v1 (w.heap.size) (.int .u64 u) (.int .u64 v) (.int .u64 x) := At3.below hb (At3.new _ _ _ _ _)
  replace BB : Below w.heap.size w v1 := by first | exact BB.trans (hb.mono BB.size) | exact (BB.alloc BB.size _).trans (hb.mono (BB.alloc BB.size _).size)
  clear hb
  obtain ⟨lP, P0, P1, P2⟩ := id LP
  go_wp2_with fail
  refine (hT' _).mono ?_
  rintro e v2 ⟨rfl, hb⟩
  clear lP P0 P1 P2
  replace LP : At3 v2 (w.heap.size) (.int .u64 u) (.int .u64 v) (.int .u64 x) := At3.below hb (by first | exact LP | exact LP.alloc _ | exact At3.new _ _ _ _ _)
  replace BB : Below w.heap.size w v2 := by first | exact BB.trans (hb.mono BB.size) | exact (BB.alloc BB.size _).trans (hb.mono (BB.alloc BB.size _).size)
  clear hb
  obtain ⟨lP, P0, P1, P2⟩ := id LP
  go_wp2_with fail
  refine (hP _ (he.below (by first | exact BB | exact BB.alloc BB.size _))).mono ?_
  rintro e v3 ⟨rfl, hb⟩
  clear lP P0 P1 P2
  clear LP
  replace BB : Below w.heap.size w v3 := by first | exact BB.trans (hb.mono BB.size) | exact (BB.alloc BB.size _).trans (hb.mono (BB.alloc BB.size _).size)
  clear hb
  go_wp2_with fail
  refine (hP' _).mono ?_
  rintro e v4 ⟨rfl, hb⟩
  have LQ : At3 v4 (v3.heap.size) (.int .u64 p) (.int .u64 q) (.int .u64 r) := At3.below hb (At3.new _ _ _ _ _)
  replace BB : Below w.heap.size w v4 := by first | exact BB.trans (hb.mono BB.size) | exact (BB.alloc BB.size _).trans (hb.mono (BB.alloc BB.size _).size)
  clear hb
  obtain ⟨lQ, Q0, Q1, Q2⟩ := id LQ
  go_wp2_with fail
  refine (known_true _ (he.below (by first | exact BB | exact BB.alloc BB.size _))).mono ?_
  rintro e v5 ⟨rfl, hb⟩
  clear lQ Q0 Q1 Q2
  replace LQ : At3 v5 (v3.heap.size) (.int .u64 p) (.int .u64 q) (.int .u64 r) := At3.below hb (by first | exact LQ | exact LQ.alloc _ | exact At3.new _ _ _ _ _)
  have LR : At3 v5 (v4.heap.size) (.int .u64 p) (.int .u64 q) (.int .u64 r) := At3.below hb (At3.new _ _ _ _ _)
  replace BB : Below w.heap.size w v5 := by first | exact BB.trans (hb.mono BB.size) | exact (BB.alloc BB.size _).trans (hb.mono (BB.alloc BB.size _).size)
  clear hb
  obtain ⟨lQ, Q0, Q1, Q2⟩ := id LQ
  obtain ⟨lR, R0, R1, R2⟩ := id LR
  go_wp2
  go_ret
  exact ⟨rfl, BB⟩
end Go.Proofs.YtknejahmjfgmhabGreatDoor
