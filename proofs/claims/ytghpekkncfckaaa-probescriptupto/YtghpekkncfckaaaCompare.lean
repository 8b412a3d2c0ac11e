import Derived.Test.YtghpekkncfckaaaOrders
namespace Go.Proofs.Ytghpekkncfckaaa
open Go.RowKit Go.Sort
attribute [local go_sem ↓] Go.wp_at_zero Go.wp_at_succ

set_option maxHeartbeats 1000000 in
theorem overI_any (a b c x y z : Int) (w : World) :
    Calls Try.prog 64 #[.agg #[.int .u64 a, .int .u64 b, .int .u64 c], .agg #[.int .u64 x, .int .u64 y, .int .u64 z], .func (.func 52) #[] #[]] w fun e w' =>
      e = .returned (.agg #[.int .i64 (c64 a x), .int .i64 (c64 b y), .int .i64 (c64 c z)]) ∧ Gr w w' := by
  go_enter Try.func64, Try.ntmps64
  go_wp2
  go_region_held3 (fun w' => w'.cell? ⟨w.heap.size, 0, none⟩ = some (.int .u64 a) ∧ w'.cell? ⟨w.heap.size, 1, none⟩ = some (.int .u64 b) ∧ w'.cell? ⟨w.heap.size, 2, none⟩ = some (.int .u64 c) ∧ w'.cell? ⟨w.heap.size + 1, 0, none⟩ = some (.int .u64 x) ∧ w'.cell? ⟨w.heap.size + 1, 1, none⟩ = some (.int .u64 y) ∧ w'.cell? ⟨w.heap.size + 1, 2, none⟩ = some (.int .u64 z)) (go_keep)
    (first | (go_at_call 52; refine (cmp64_any _ _ _).mono ?_; rintro e w' ⟨rfl, rfl⟩))
  go_wp2
  exact bodyPost_ret (v := .agg #[.int .i64 (c64 a x), .int .i64 (c64 b y), .int .i64 (c64 c z)]) (by simp [results, Try.results64, go_sem]) rfl ⟨rfl, ((((Gr.refl _).alloc _).alloc _).alloc _).drew⟩

set_option maxHeartbeats 1000000 in
theorem orInt_any (p q r : Int) (b : Nat) (w : World) (h0 : w.cell? ⟨b, 0, none⟩ = some (.int .i64 p)) (h1 : w.cell? ⟨b, 1, none⟩ = some (.int .i64 q)) (h2 : w.cell? ⟨b, 2, none⟩ = some (.int .i64 r)) :
    Calls Try.prog 50 #[.slice (some ⟨b, 0, none⟩) 3 3] w fun e w' => e = .returned (.int .i64 (or3 p q r)) ∧ w' = w := by
  by_cases e0 : p = 0
  · subst e0
    by_cases e1 : q = 0
    · subst e1
      by_cases e2 : r = 0
      · subst e2
        go_enter Try.func50, Try.ntmps50
        go_wp2
        refine wp_loop_rounds 4 ?_
        rw [rounds_succ]; go_wp2
        rw [rounds_succ]; go_wp2
        rw [rounds_succ]; go_wp2
        rw [rounds_succ]; go_wp2
        go_ret
        exact ⟨rfl, rfl⟩
      · have b2 : (r != 0) = true := by rw [bne_iff_ne]; exact e2
        go_enter Try.func50, Try.ntmps50
        go_wp2
        refine wp_loop_rounds 3 ?_
        rw [rounds_succ]; go_wp2
        rw [rounds_succ]; go_wp2
        rw [rounds_succ]; go_wp2
        go_ret
        exact ⟨rfl, rfl⟩
    · have b1 : (q != 0) = true := by rw [bne_iff_ne]; exact e1
      have hr : or3 0 q r = q := by simp [or3, e1]
      rw [hr]
      clear hr
      go_enter Try.func50, Try.ntmps50
      go_wp2
      refine wp_loop_rounds 2 ?_
      rw [rounds_succ]; go_wp2
      rw [rounds_succ]; go_wp2
      go_ret
      exact ⟨rfl, rfl⟩
  · have b0 : (p != 0) = true := by rw [bne_iff_ne]; exact e0
    have hr : or3 p q r = p := by simp [or3, e0]
    rw [hr]
    clear hr
    go_enter Try.func50, Try.ntmps50
    go_wp2
    refine wp_loop_rounds 1 ?_
    rw [rounds_succ]; go_wp2
    go_ret
    exact ⟨rfl, rfl⟩

set_option maxHeartbeats 1000000 in
theorem Compare_any (a b c x y z : Int) (w : World) :
    Calls Try.prog 51 #[.agg #[.int .u64 a, .int .u64 b, .int .u64 c], .agg #[.int .u64 x, .int .u64 y, .int .u64 z]] w fun e w' =>
      e = .returned (.int .i64 (tcmp a b c x y z)) ∧ Gr w w' := by
  unfold tcmp
  have H := fun W => overI_any a b c x y z W
  generalize c64 a x = p at *
  generalize c64 b y = q at *
  generalize c64 c z = r at *
  go_enter Try.func51, Try.ntmps51
  go_wp2_with (first | (go_at_call 64; refine (H _).mono ?_; rintro e w1 ⟨rfl, hg⟩) | (go_at_call 50; refine (orInt_any p q r _ _ (by simp) (by simp) (by simp)).mono ?_; rintro e w2 ⟨rfl, rfl⟩))
  go_ret
  exact ⟨rfl, (((Gr.refl _).alloc _).alloc _ |>.trans hg).alloc _⟩

end Go.Proofs.Ytghpekkncfckaaa
