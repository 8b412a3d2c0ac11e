import Derived.Test.YtknejahmjfgmhaaGreatDoorPKnown
namespace Go.Proofs.YtknejahmjfgmhaaGreatDoor
open Go.RowKit Go.Shelf Go.Lib
open Go.Sort hiding Below

theorem dec_count' (u : Nat) : (decDigits u).count 46 = 0 := List.count_eq_zero.2 (dec_nopt u)
theorem text_count' (u v x n : Nat) (h1 : 1 ≤ n) (h3 : n ≤ 3) : (ttext u v x n).count 46 = n - 1 := by
  have : n = 1 ∨ n = 2 ∨ n = 3 := by omega
  rcases this with rfl | rfl | rfl <;> simp [ttext, dec_count']
theorem ptext_arity {u v x m k : Nat} (h1 : 1 ≤ m) (h3 : m ≤ 3) (k1 : 1 ≤ k) (k3 : k ≤ 3) {u' v' x' : Nat} (h : IsPText (ptext u v x m) k u' v' x') : k = m := by
  have e := congrArg inner h.ht
  rw [inner_ptext, inner_ptext] at e
  have e2 := congrArg (List.count 46) e
  rw [text_count' u v x m h1 h3, text_count' u' v' x' k k1 k3] at e2
  omega
theorem pparse_own {u v x m : Nat} (h1 : 1 ≤ m) (h3 : m ≤ 3) (hu : u < 18446744073709551616) (hv : v < 18446744073709551616) (hx : x < 18446744073709551616) (h2 : (m : Int) < 2 → v = 0) (h3' : (m : Int) < 3 → x = 0) {e : Ending} (h : PParseEnd (ptext u v x m) m e) :
    e = .returned (.tuple #[.agg #[.int .u64 u, .int .u64 v, .int .u64 x], .int .i64 0]) := by
  have ht : IsPText (ptext u v x m) m u v x := ⟨hu, hv, hx, h2, h3', rfl⟩
  rcases h with ⟨h, _⟩ | ⟨_, ⟨a, b, c, hk, rfl⟩ | ⟨hno, _⟩⟩
  · omega
  · obtain ⟨rfl, rfl, rfl⟩ := ptext_unique h1 h3 hk ht
    rfl
  · exact absurd ht (hno u v x)
theorem pparse_other {u v x m k : Nat} (h1 : 1 ≤ m) (h3 : m ≤ 3) (k1 : 1 ≤ k) (k3 : k ≤ 3) (hne : k ≠ m) {e : Ending} (h : PParseEnd (ptext u v x m) k e) :
    e = .returned (.tuple #[.agg #[.int .u64 0, .int .u64 0, .int .u64 0], .int .i64 11]) := by
  rcases h with ⟨h, _⟩ | ⟨_, ⟨a, b, c, hk, rfl⟩ | ⟨_, h⟩⟩
  · omega
  · exact absurd (ptext_arity h1 h3 k1 k3 hk) hne
  · exact h
theorem ok_arity' {u v x : Nat} {n : Int} (hf : tfits u v x n = 0) : ∃ m : Nat, n = m ∧ 1 ≤ m ∧ m ≤ 3 ∧ (n < 2 → v = 0) ∧ (n < 3 → x = 0) := by
  unfold tfits at hf
  split at hf
  · exact absurd hf (by decide)
  · split at hf
    · rename_i h1 h2
      exact ⟨n.toNat, by omega, by omega, by omega, fun h => by have := h2.1 h; omega, fun h => by have := h2.2 h; omega⟩
    · exact absurd hf (by decide)
theorem fits_two' (u v x : Nat) (n : Int) : tfits u v x n = 0 ∨ tfits u v x n = 10 := by
  unfold tfits
  split
  · exact Or.inr rfl
  · split
    · exact Or.inl rfl
    · exact Or.inr rfl

set_option maxHeartbeats 8000000 in
set_option maxRecDepth 100000 in
theorem pback_bad (u v x : Nat) (n : Int) (s : ByteArray) (w : World) (he : Env w) (hf : tfits u v x n = 10) (hs : s.size ≤ 140737488355328) :
    Calls Tryz.prog 5 #[.agg #[.int .u64 u, .int .u64 v, .int .u64 x], .int .i64 n, .string s] w fun e w' => e = .returned (.bool true) ∧ Below w.heap.size w w' := by
  have hK := fun W hW => known_true W hW
  have heq := fun a b c x y z W => run_eqP a b c x y z W
  have hz0 : teq 0 0 0 0 0 0 = true := rfl
  have hT := fun W => PText_bad u v x n W hf
  clear hf
  go_enter Tryz.func5, Tryz.ntmps5
  have BB := Below.refl w.heap.size w
  go_wp2_with fail
  refine (hT _).mono ?_
  rintro e w1 ⟨rfl, hb1⟩
  replace BB : Below w.heap.size w w1 := (BB.alloc BB.size _).trans (hb1.mono (BB.alloc BB.size _).size)
  clear hb1 hT
  go_wp2_with fail
  refine (PParse_any s n _ (he.below BB) hs).mono ?_
  rintro e w7 ⟨hpe, hb7⟩
  replace BB := BB.trans (hb7.mono BB.size)
  clear hb7
  rcases hpe with ⟨hn, rfl⟩ | ⟨hn, ⟨u1, v1, x1, ht1, rfl⟩ | ⟨hno, rfl⟩⟩
  · clear hn
    go_wp2_with fail
    refine (hK _ (he.below (BB.alloc BB.size _))).mono ?_
    rintro e w8 ⟨rfl, hb8⟩
    obtain ⟨lq, q0, q1, q2⟩ := At3.below hb8 (At3.new w7 (.int .u64 0) (.int .u64 0) (.int .u64 0) 33)
    replace BB := (BB.alloc BB.size (.cells #[.int .u64 0, .int .u64 0, .int .u64 0] 33)).trans (hb8.mono (BB.alloc BB.size _).size)
    clear hb8
    go_wp2
    go_ret
    exact ⟨rfl, BB⟩
  · obtain ⟨m1, hm1⟩ : ∃ m1 : Nat, (n : Int) = m1 := ⟨(n).toNat, by omega⟩
    subst hm1
    have hT1 := fun W hW => PText_ok u1 v1 x1 m1 W hW ht1.hu ht1.hv ht1.hx (by omega) (by omega) (fits_of (by omega) (by omega) ht1.h2 ht1.h3)
    have hst : (⟨(ptext u1 v1 x1 m1).toArray⟩ : ByteArray) = s := by rw [← ht1.ht]
    rw [hst] at hT1
    have hF1 := fun W => pFits_any u1 v1 x1 m1 W
    rw [fits_of (by omega) (by omega) ht1.h2 ht1.h3] at hF1
    clear hst ht1 hn
    go_wp2_with fail
    refine (hT1 _ (he.below (BB.alloc BB.size _))).mono ?_
    rintro e w8 ⟨rfl, hb8⟩
    have LQ := At3.below hb8 (At3.new w7 (.int .u64 u1) (.int .u64 v1) (.int .u64 x1) 33)
    replace BB := (BB.alloc BB.size (.cells #[.int .u64 u1, .int .u64 v1, .int .u64 x1] 33)).trans (hb8.mono (BB.alloc BB.size _).size)
    clear hb8
    obtain ⟨lq, q0, q1, q2⟩ := id LQ
    go_wp2_with fail
    refine (hK _ (he.below BB)).mono ?_
    rintro e w9 ⟨rfl, hb9⟩
    replace LQ := At3.below hb9 LQ
    replace BB := BB.trans (hb9.mono BB.size)
    clear hb9 lq q0 q1 q2
    obtain ⟨lq, q0, q1, q2⟩ := id LQ
    go_wp2_with fail
    refine (hF1 _).mono ?_
    rintro e w10 ⟨rfl, hg10⟩
    replace BB := BB.trans (hg10.below.mono BB.size)
    go_wp2
    go_ret
    exact ⟨rfl, BB⟩
  · clear hn hno
    go_wp2_with fail
    refine (hK _ (he.below (BB.alloc BB.size _))).mono ?_
    rintro e w8 ⟨rfl, hb8⟩
    obtain ⟨lq, q0, q1, q2⟩ := At3.below hb8 (At3.new w7 (.int .u64 0) (.int .u64 0) (.int .u64 0) 33)
    replace BB := (BB.alloc BB.size (.cells #[.int .u64 0, .int .u64 0, .int .u64 0] 33)).trans (hb8.mono (BB.alloc BB.size _).size)
    clear hb8
    go_wp2
    go_ret
    exact ⟨rfl, BB⟩

set_option maxHeartbeats 8000000 in
set_option maxRecDepth 100000 in
theorem pback_ok (u v x m : Nat) (s : ByteArray) (w : World) (he : Env w) (h1 : 1 ≤ m) (h3 : m ≤ 3) (hu : u < 18446744073709551616) (hv : v < 18446744073709551616) (hx : x < 18446744073709551616) (hv2 : (m : Int) < 2 → v = 0) (hx3 : (m : Int) < 3 → x = 0) (hf : tfits u v x m = 0) (hs : s.size ≤ 140737488355328) :
    Calls Tryz.prog 5 #[.agg #[.int .u64 u, .int .u64 v, .int .u64 x], .int .i64 m, .string s] w fun e w' => e = .returned (.bool true) ∧ Below w.heap.size w w' := by
  have hK := fun W hW => known_true W hW
  have heq := fun a b c x y z W => run_eqP a b c x y z W
  have hz0 : teq 0 0 0 0 0 0 = true := rfl
  have hT := fun W hW => PText_ok u v x m W hW hu hv hx h1 h3 hf
  have hl : (⟨(ptext u v x m).toArray⟩ : ByteArray).size ≤ 140737488355328 := by
    have := text_len u v x m hu hv hx
    show (ptext u v x m).toArray.size ≤ _
    rw [List.size_toArray, ptext, List.length_cons, swp_len]; omega
  have hP : ∀ W, Env W → Calls Tryz.prog 22 #[.string ⟨(ptext u v x m).toArray⟩, .int .i64 m] W fun e w' => e = .returned (.tuple #[.agg #[.int .u64 u, .int .u64 v, .int .u64 x], .int .i64 0]) ∧ Below W.heap.size W w' := fun W hW =>
    (PParse_any ⟨(ptext u v x m).toArray⟩ m W hW hl).mono fun e w' ⟨h, hb⟩ => ⟨pparse_own h1 h3 hu hv hx hv2 hx3 h, hb⟩
  have hO : ∀ W (k : Nat), Env W → 1 ≤ k → k ≤ 3 → k ≠ m → Calls Tryz.prog 22 #[.string ⟨(ptext u v x m).toArray⟩, .int .i64 k] W fun e w' => e = .returned (.tuple #[.agg #[.int .u64 0, .int .u64 0, .int .u64 0], .int .i64 11]) ∧ Below W.heap.size W w' := fun W k hW k1 k3 hne =>
    (PParse_any ⟨(ptext u v x m).toArray⟩ k W hW hl).mono fun e w' ⟨h, hb⟩ => ⟨pparse_other h1 h3 k1 k3 hne h, hb⟩
  have hself : teq u v x u v x = true := by simp [teq]
  generalize (⟨(ptext u v x m).toArray⟩ : ByteArray) = tx at *
  clear hf hl hu hv hx hv2 hx3
  go_enter Tryz.func5, Tryz.ntmps5
  have BB := Below.refl w.heap.size w
  go_wp2_with fail
  refine (hT _ (he.below (BB.alloc BB.size _))).mono ?_
  rintro e w1 ⟨rfl, hb1⟩
  have LP := At3.below hb1 (At3.new w (.int .u64 u) (.int .u64 v) (.int .u64 x) 33)
  replace BB : Below w.heap.size w w1 := (BB.alloc BB.size _).trans (hb1.mono (BB.alloc BB.size _).size)
  clear hb1 hT
  go_wp2_with fail
  go_loopw [9] (fun s9 wr => ∃ k : Nat, 1 ≤ k ∧ k ≤ 4 ∧ s9 = .int .i64 k ∧ At3 wr w.heap.size (.int .u64 u) (.int .u64 v) (.int .u64 x) ∧ Below w.heap.size w wr) (fun s9 _ => 4 - (RowKit.intOf s9).toNat)
  case atStart => exact ⟨1, by omega, by omega, rfl, LP, BB⟩
  case round =>
    clear BB LP
    obtain ⟨k, k1, k4, rfl, LP, BB⟩ := hrel
    by_cases hlt : k ≤ 3
    · have hltz : (k : Int) ≤ 3 := by omega
      by_cases hkm : k = m
      · subst hkm
        go_wp2_with fail
        refine (hP _ (he.below BB)).mono ?_
        rintro e w6 ⟨rfl, hb6⟩
        replace LP := At3.below hb6 LP
        replace BB := BB.trans (hb6.mono BB.size)
        obtain ⟨lp, p0, p1, p2⟩ := id LP
        clear hb6
        go_wp2
        go_roundw
        case rel => exact ⟨k + 1, by omega, by omega, by go_num, LP.alloc _, BB.alloc BB.size _⟩
        case measure => simp [RowKit.intOf]; omega
      · have hkz : ((k : Int) == (m : Int)) = false := beq_eq_false_iff_ne.2 (by omega)
        have hO' := fun W hW => hO W k hW k1 hlt hkm
        clear hkm
        go_wp2_with fail
        refine (hO' _ (he.below BB)).mono ?_
        rintro e w6 ⟨rfl, hb6⟩
        replace LP := At3.below hb6 LP
        replace BB := BB.trans (hb6.mono BB.size)
        obtain ⟨lp, p0, p1, p2⟩ := id LP
        clear hb6
        go_wp2
        go_roundw
        case rel => exact ⟨k + 1, by omega, by omega, by go_num, LP.alloc _, BB.alloc BB.size _⟩
        case measure => simp [RowKit.intOf]; omega
    · have hltz : ¬ (k : Int) ≤ 3 := by omega
      clear hP hO
      go_wp2_with fail
      refine (PParse_any s m _ (he.below BB) hs).mono ?_
      rintro e w7 ⟨hpe, hb7⟩
      replace BB := BB.trans (hb7.mono BB.size)
      clear hb7
      rcases hpe with ⟨hn, rfl⟩ | ⟨hn, ⟨u1, v1, x1, ht1, rfl⟩ | ⟨hno, rfl⟩⟩
      · clear hn
        go_wp2_with fail
        refine (hK _ (he.below (BB.alloc BB.size _))).mono ?_
        rintro e w8 ⟨rfl, hb8⟩
        obtain ⟨lq, q0, q1, q2⟩ := At3.below hb8 (At3.new w7 (.int .u64 0) (.int .u64 0) (.int .u64 0) 33)
        replace BB := (BB.alloc BB.size (.cells #[.int .u64 0, .int .u64 0, .int .u64 0] 33)).trans (hb8.mono (BB.alloc BB.size _).size)
        clear hb8
        go_wp2
        go_ret
        exact ⟨rfl, BB⟩
      · obtain ⟨m1, hm1⟩ : ∃ m1 : Nat, (m : Int) = m1 := ⟨m, by omega⟩
        have hm1 : m = m1 := by omega
        subst hm1
        have hT1 := fun W hW => PText_ok u1 v1 x1 m W hW ht1.hu ht1.hv ht1.hx (by omega) (by omega) (fits_of (by omega) (by omega) ht1.h2 ht1.h3)
        have hst : (⟨(ptext u1 v1 x1 m).toArray⟩ : ByteArray) = s := by rw [← ht1.ht]
        rw [hst] at hT1
        have hF1 := fun W => pFits_any u1 v1 x1 m W
        rw [fits_of (by omega) (by omega) ht1.h2 ht1.h3] at hF1
        clear hst ht1 hn
        go_wp2_with fail
        refine (hT1 _ (he.below (BB.alloc BB.size _))).mono ?_
        rintro e w8 ⟨rfl, hb8⟩
        have LQ := At3.below hb8 (At3.new w7 (.int .u64 u1) (.int .u64 v1) (.int .u64 x1) 33)
        replace BB := (BB.alloc BB.size (.cells #[.int .u64 u1, .int .u64 v1, .int .u64 x1] 33)).trans (hb8.mono (BB.alloc BB.size _).size)
        clear hb8
        obtain ⟨lq, q0, q1, q2⟩ := id LQ
        go_wp2_with fail
        refine (hK _ (he.below BB)).mono ?_
        rintro e w9 ⟨rfl, hb9⟩
        replace LQ := At3.below hb9 LQ
        replace BB := BB.trans (hb9.mono BB.size)
        clear hb9 lq q0 q1 q2
        obtain ⟨lq, q0, q1, q2⟩ := id LQ
        go_wp2_with fail
        refine (hF1 _).mono ?_
        rintro e w10 ⟨rfl, hg10⟩
        replace BB := BB.trans (hg10.below.mono BB.size)
        go_wp2
        go_ret
        exact ⟨rfl, BB⟩
      · clear hn hno
        go_wp2_with fail
        refine (hK _ (he.below (BB.alloc BB.size _))).mono ?_
        rintro e w8 ⟨rfl, hb8⟩
        obtain ⟨lq, q0, q1, q2⟩ := At3.below hb8 (At3.new w7 (.int .u64 0) (.int .u64 0) (.int .u64 0) 33)
        replace BB := (BB.alloc BB.size (.cells #[.int .u64 0, .int .u64 0, .int .u64 0] 33)).trans (hb8.mono (BB.alloc BB.size _).size)
        clear hb8
        go_wp2
        go_ret
        exact ⟨rfl, BB⟩

theorem pback_any (u v x : Nat) (n : Int) (s : ByteArray) (w : World) (he : Env w) (hu : u < 18446744073709551616) (hv : v < 18446744073709551616) (hx : x < 18446744073709551616) (hs : s.size ≤ 140737488355328) :
    Calls Tryz.prog 5 #[.agg #[.int .u64 u, .int .u64 v, .int .u64 x], .int .i64 n, .string s] w fun e w' => e = .returned (.bool true) ∧ Below w.heap.size w w' := by
  rcases fits_two' u v x n with hf | hf
  · obtain ⟨m, rfl, h1, h3, a2, a3⟩ := ok_arity' hf
    exact pback_ok u v x m s w he h1 h3 hu hv hx a2 a3 hf hs
  · exact pback_bad u v x n s w he hf hs
end Go.Proofs.YtknejahmjfgmhaaGreatDoor
