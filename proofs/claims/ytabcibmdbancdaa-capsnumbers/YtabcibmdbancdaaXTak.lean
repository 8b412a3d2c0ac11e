import Derived.Test.YtabcibmdbancdaaXAll
namespace Go.Proofs.Ytabcibmdbancdaa
open Go.RowKit Go.Sort Go.Maps
attribute [local go_sem ↓] Go.wp_at_zero Go.wp_at_succ

set_option maxRecDepth 100000 in
set_option maxHeartbeats 4000000 in
theorem taken_any (w : World) : Calls Try.prog 6 #[] w fun e w' => e = .returned (.bool true) ∧ Below w.heap.size w w' := by
  go_enter Try.func6, Try.ntmps6
  go_wp2_with fail
  refine (new_any 2 w).mono ?_
  rintro e w1 ⟨rfl, h1, g1⟩
  have H1 : Hid (Cs w1 (w.heap.size + 1) w.heap.size 2 0 [] ∧ Below w.heap.size w w1) := ⟨h1, g1.below⟩
  clear h1 g1
  have Htb : w.heap.size ≤ w.heap.size + 1 := Nat.le_succ _
  generalize w.heap.size + 1 = tb at *
  go_wp2_with fail
  refine (mint_nil (0, 0, 0, 0) w1).mono ?_
  rintro e w2 ⟨rfl, g2⟩
  go_wp2_with fail
  refine (get_nil _ _).mono ?_
  rintro e w3 ⟨rfl, g3⟩
  go_wp2_with fail
  refine (lower_nil _ _ _ _ _).mono ?_
  rintro e w4 ⟨rfl, g4⟩
  go_wp2_with fail
  refine (drop_nil _ _).mono ?_
  rintro e w5 ⟨rfl, rfl⟩
  go_wp2_with fail
  refine (all_nil _).mono ?_
  rintro e w5 ⟨rfl, rfl⟩
  go_wp2_with fail
  refine (copy_nil _).mono ?_
  rintro e w5 ⟨rfl, rfl⟩
  have H2 : Hid (Cs w5 tb w.heap.size 2 0 [] ∧ Below w.heap.size w w5) := ⟨H1.out.1.gr ((g2.trans (g3.alloc _)).trans g4), H1.out.2.trans (((g2.trans (g3.alloc _)).trans g4).below.mono H1.out.2.size)⟩
  clear g2 g3 g4
  have htb : Hid (w.heap.size ≤ tb) := Htb
  have m1 := mint_ok (3, 1, 0, 0) w5 H2.out.1 (by decide) (by decide)
  go_wp2_with fail
  refine m1.mono ?_
  rintro e v5 ⟨rfl, h5, k5⟩
  have H5 : Hid (Cs v5 tb w.heap.size 2 1 [(1, 3, 1, 0, 0)] ∧ Below w.heap.size w v5) := ⟨h5, H2.out.2.trans (k5.below H2.out.2.size (fun k hk => by rcases hk with rfl | rfl; exact htb.out; exact Nat.le_refl _))⟩
  clear h5 k5 m1
  have m2 := mint_ok (3, 1, 0, 0) v5 H5.out.1 (by decide) (by decide)
  go_wp2_with fail
  refine m2.mono ?_
  rintro e w6 ⟨rfl, h6, k6⟩
  have H6 : Hid (Cs w6 tb w.heap.size 2 2 [(1, 3, 1, 0, 0), (2, 3, 1, 0, 0)] ∧ Below w.heap.size w w6) := ⟨h6, H5.out.2.trans (k6.below H5.out.2.size (fun k hk => by rcases hk with rfl | rfl; exact htb.out; exact Nat.le_refl _))⟩
  clear h6 k6 m2
  have m3 := mint_full (0, 0, 0, 0) w6 H6.out.1 (by decide)
  go_wp2_with fail
  refine m3.mono ?_
  rintro e w7 ⟨rfl, g7⟩
  have m4 := lower_back 2 0 5 0 (3, 1, 0, 0) w7 (H6.out.1.gr g7) (by decide) (by decide) (by decide)
  go_wp2_with fail
  refine m4.mono ?_
  rintro e w8 ⟨rfl, g8⟩
  go_wp2
  go_ret
  exact ⟨rfl, H6.out.2.trans ((g7.trans g8).below.mono H6.out.2.size)⟩
end Go.Proofs.Ytabcibmdbancdaa
