import Derived.Test.YtghofmhlmkpkcaaDoorBPure
import Derived.Test.YtghofmhlmkpkcaaDoorVRd2
namespace Go.Proofs.YtghofmhlmkpkcaaDoor.Wi
open Go.RowKit Go.Sort
attribute [local go_sem ↓] Go.wp_at_zero Go.wp_at_succ

/-- Changes as elements. -/
abbrev gv (c : Cx) : Value := .agg #[.int .i64 c.pl, .int .u64 (c.A : Nat), .int .u64 (c.B : Nat), .int .u64 (c.C : Nat), .int .i64 c.N]
abbrev gs (c : Cx) : Value := .agg #[.int .i64 c.pl, .int .u64 (c.A : Nat), .int .u64 (c.B : Nat), .int .u64 (c.C : Nat)]
def EC : El Cx where
  k := 5
  enc c := [.int .i64 c.pl, .int .u64 (c.A : Nat), .int .u64 (c.B : Nat), .int .u64 (c.C : Nat), .int .i64 c.N]
  len _ := rfl
  one x u hu := by
    simp at hu
    rcases hu with rfl | rfl | rfl | rfl | rfl <;> rfl
theorem infoC : (Tryd.prog.info? 43).map (fun i => (i.zero, i.size, i.bytes)) = some (some (.agg #[.int .i64 0, .int .u64 0, .int .u64 0, .int .u64 0, .int .i64 0]), 5, 40) := by kernel_rfl
theorem ls_atC {w : World} {v : Value} {l : List Cx} (h : Ls EC w v l) {j : Nat} {p : Cx} (hj : l[j]? = some p) :
    ∃ b off c, v = .slice (some ⟨b, off, none⟩) l.length c ∧ b < w.heap.size ∧ w.cell? ⟨b, off + j * 5, none⟩ = some (.int .i64 p.pl) ∧ w.cell? ⟨b, off + j * 5 + 1, none⟩ = some (.int .u64 (p.A : Nat)) ∧ w.cell? ⟨b, off + j * 5 + 2, none⟩ = some (.int .u64 (p.B : Nat)) ∧ w.cell? ⟨b, off + j * 5 + 3, none⟩ = some (.int .u64 (p.C : Nat)) ∧ w.cell? ⟨b, off + j * 5 + 4, none⟩ = some (.int .i64 p.N) := by
  obtain ⟨b, off, c, hv, hb, hc⟩ := h.get hj
  exact ⟨b, off, c, hv, hb, hc 0 _ (by decide) rfl, hc 1 _ (by decide) rfl, hc 2 _ (by decide) rfl, hc 3 _ (by decide) rfl, hc 4 _ (by decide) rfl⟩
/-- The order of two numbers. -/
def c64 (x y : Int) : Int := if x < y then -1 else if y < x then 1 else 0
def or4 (p q r s : Int) : Int := if p = 0 then (if q = 0 then (if r = 0 then s else r) else q) else p
def scm (a b : Cx) : Int := or4 (c64 a.pl b.pl) (c64 (a.A : Nat) (b.A : Nat)) (c64 (a.B : Nat) (b.B : Nat)) (c64 (a.C : Nat) (b.C : Nat))
theorem scm_neg (a b : Cx) : scm a b < 0 ↔ lt4 a b := by
  unfold scm lt4 or4
  have h1 : c64 a.pl b.pl < 0 ↔ a.pl < b.pl := by unfold c64; (repeat split) <;> omega
  have h2 : c64 a.pl b.pl = 0 ↔ a.pl = b.pl := by unfold c64; (repeat split) <;> omega
  have h3 : c64 (a.A : Nat) (b.A : Nat) < 0 ↔ a.A < b.A := by unfold c64; (repeat split) <;> omega
  have h4 : c64 (a.A : Nat) (b.A : Nat) = 0 ↔ a.A = b.A := by unfold c64; (repeat split) <;> omega
  have h5 : c64 (a.B : Nat) (b.B : Nat) < 0 ↔ a.B < b.B := by unfold c64; (repeat split) <;> omega
  have h6 : c64 (a.B : Nat) (b.B : Nat) = 0 ↔ a.B = b.B := by unfold c64; (repeat split) <;> omega
  have h7 : c64 (a.C : Nat) (b.C : Nat) < 0 ↔ a.C < b.C := by unfold c64; (repeat split) <;> omega
  generalize c64 a.pl b.pl = p at *; generalize c64 (a.A : Nat) (b.A : Nat) = q at *; generalize c64 (a.B : Nat) (b.B : Nat) = r at *; generalize c64 (a.C : Nat) (b.C : Nat) = s at *
  (repeat split) <;> omega
theorem ret_int {k : IntKind} {a b : Int} (h : a = b) : Ending.returned (.int k a) = .returned (.int k b) := by rw [h]
theorem isNaNI_any (x : Int) (w : World) : Calls Tryd.prog 80 #[.int .i64 x] w fun e w' => e = .returned (.bool false) ∧ w' = w := by
  go_enter Tryd.func80, Tryd.ntmps80
  go_wp2
  go_ret
  exact ⟨rfl, rfl⟩
theorem isNaNU_any (x : Int) (w : World) : Calls Tryd.prog 81 #[.int .u64 x] w fun e w' => e = .returned (.bool false) ∧ w' = w := by
  go_enter Tryd.func81, Tryd.ntmps81
  go_wp2
  go_ret
  exact ⟨rfl, rfl⟩
set_option maxHeartbeats 1000000 in
theorem cmpI_any (x y : Int) (w : World) : Calls Tryd.prog 70 #[.int .i64 x, .int .i64 y] w fun e w' => e = .returned (.int .i64 (c64 x y)) ∧ w' = w := by
  have H := fun v W => isNaNI_any v W
  go_enter Tryd.func70, Tryd.ntmps70
  go_wp2_with (go_at_call 80; refine (H _ _).mono ?_; rintro e w1 ⟨rfl, rfl⟩)
  all_goals go_ret
  all_goals refine ⟨?_, rfl⟩
  all_goals refine ret_int ?_
  all_goals unfold c64
  all_goals (repeat split) <;> omega
set_option maxHeartbeats 1000000 in
theorem cmpU_any (x y : Int) (w : World) : Calls Tryd.prog 71 #[.int .u64 x, .int .u64 y] w fun e w' => e = .returned (.int .i64 (c64 x y)) ∧ w' = w := by
  have H := fun v W => isNaNU_any v W
  go_enter Tryd.func71, Tryd.ntmps71
  go_wp2_with (go_at_call 81; refine (H _ _).mono ?_; rintro e w1 ⟨rfl, rfl⟩)
  all_goals go_ret
  all_goals refine ⟨?_, rfl⟩
  all_goals refine ret_int ?_
  all_goals unfold c64
  all_goals (repeat split) <;> omega
set_option maxHeartbeats 1000000 in
theorem or4_any (p q r s : Int) (b : Nat) (w : World) (h0 : w.cell? ⟨b, 0, none⟩ = some (.int .i64 p)) (h1 : w.cell? ⟨b, 1, none⟩ = some (.int .i64 q)) (h2 : w.cell? ⟨b, 2, none⟩ = some (.int .i64 r)) (h3 : w.cell? ⟨b, 3, none⟩ = some (.int .i64 s)) :
    Calls Tryd.prog 69 #[.slice (some ⟨b, 0, none⟩) 4 4] w fun e w' => e = .returned (.int .i64 (or4 p q r s)) ∧ w' = w := by
  by_cases e0 : p = 0
  · subst e0
    by_cases e1 : q = 0
    · subst e1
      by_cases e2 : r = 0
      · subst e2
        by_cases e3 : s = 0
        · subst e3
          go_enter Tryd.func69, Tryd.ntmps69
          go_wp2
          refine wp_loop_rounds 5 ?_
          rw [rounds_succ]; go_wp2
          rw [rounds_succ]; go_wp2
          rw [rounds_succ]; go_wp2
          rw [rounds_succ]; go_wp2
          rw [rounds_succ]; go_wp2
          go_ret
          exact ⟨rfl, rfl⟩
        · have b3 : (s != 0) = true := by rw [bne_iff_ne]; exact e3
          have hr : or4 0 0 0 s = s := by simp [or4]
          rw [hr]
          clear hr
          go_enter Tryd.func69, Tryd.ntmps69
          go_wp2
          refine wp_loop_rounds 4 ?_
          rw [rounds_succ]; go_wp2
          rw [rounds_succ]; go_wp2
          rw [rounds_succ]; go_wp2
          rw [rounds_succ]; go_wp2
          go_ret
          exact ⟨rfl, rfl⟩
      · have b2 : (r != 0) = true := by rw [bne_iff_ne]; exact e2
        have hr : or4 0 0 r s = r := by simp [or4, e2]
        rw [hr]
        clear hr
        go_enter Tryd.func69, Tryd.ntmps69
        go_wp2
        refine wp_loop_rounds 3 ?_
        rw [rounds_succ]; go_wp2
        rw [rounds_succ]; go_wp2
        rw [rounds_succ]; go_wp2
        go_ret
        exact ⟨rfl, rfl⟩
    · have b1 : (q != 0) = true := by rw [bne_iff_ne]; exact e1
      have hr : or4 0 q r s = q := by simp [or4, e1]
      rw [hr]
      clear hr
      go_enter Tryd.func69, Tryd.ntmps69
      go_wp2
      refine wp_loop_rounds 2 ?_
      rw [rounds_succ]; go_wp2
      rw [rounds_succ]; go_wp2
      go_ret
      exact ⟨rfl, rfl⟩
  · have b0 : (p != 0) = true := by rw [bne_iff_ne]; exact e0
    have hr : or4 p q r s = p := by simp [or4, e0]
    rw [hr]
    clear hr
    go_enter Tryd.func69, Tryd.ntmps69
    go_wp2
    refine wp_loop_rounds 1 ?_
    rw [rounds_succ]; go_wp2
    go_ret
    exact ⟨rfl, rfl⟩
end Go.Proofs.YtghofmhlmkpkcaaDoor.Wi
