import Derived.Test.YtpcamjmfddnglaaHQT
namespace Go.Proofs.Ytpcamjmfddnglaa.Ht
open Go.RowKit Go.Sort Hp
attribute [local go_sem ↓] Go.wp_at_zero Go.wp_at_succ
/-- The number by which an order goes. -/
def okey (o : Int) (a : Th) : Int := if o = 0 then a.1 else if o = 1 then - a.1 else bits BinOp.and IntKind.i64 a.1 3
set_option maxHeartbeats 1000000 in
theorem first_any (o : Int) (a b : Th) (w : World) : Calls Try.prog 31 #[.int .i64 o, tv a, tv b] w fun e w' => e = .returned (.bool (decide (okey o a < okey o b))) ∧ Gr w w' := by
  by_cases ho : o = 0
  · subst ho
    go_enter Try.func31, Try.ntmps31
    go_wp2
    go_ret
    exact ⟨rfl, ((Gr.refl _).alloc _).alloc _⟩
  · by_cases ho1 : o = 1
    · subst ho1
      go_enter Try.func31, Try.ntmps31
      go_wp2
      go_ret
      refine ⟨?_, ((Gr.refl _).alloc _).alloc _⟩
      have e : decide (okey 1 a < okey 1 b) = decide (b.1 < a.1) := by
        unfold okey
        simp
      rw [e]
      rfl
    · go_enter Try.func31, Try.ntmps31
      go_wp2
      go_ret
      refine ⟨?_, ((Gr.refl _).alloc _).alloc _⟩
      have e : decide (okey o a < okey o b) = decide (bits BinOp.and IntKind.i64 a.1 3 < bits BinOp.and IntKind.i64 b.1 3) := by
        unfold okey
        rw [if_neg ho, if_neg ho1, if_neg ho, if_neg ho1]
      rw [e]
      rfl
theorem rising_ok : FnOk 8 (key (okey 0)) := by
  refine ⟨enters_of Try.func8 (by kernel_rfl) rfl, fun a b W => ?_⟩
  have h := fun W => first_any 0 a b W
  go_enter Try.func8, Try.ntmps8
  go_wp2_with fail
  refine (h _).mono ?_
  rintro e w1 ⟨rfl, hg⟩
  go_wp2
  go_ret
  exact ⟨rfl, (((Gr.refl _).alloc _).alloc _).trans hg⟩
theorem falling_ok : FnOk 39 (key (okey 1)) := by
  refine ⟨enters_of Try.func39 (by kernel_rfl) rfl, fun a b W => ?_⟩
  have h := fun W => first_any 1 a b W
  go_enter Try.func39, Try.ntmps39
  go_wp2_with fail
  refine (h _).mono ?_
  rintro e w1 ⟨rfl, hg⟩
  go_wp2
  go_ret
  exact ⟨rfl, (((Gr.refl _).alloc _).alloc _).trans hg⟩
theorem some_ok : FnOk 40 (key (okey 2)) := by
  refine ⟨enters_of Try.func40 (by kernel_rfl) rfl, fun a b W => ?_⟩
  have h := fun W => first_any 2 a b W
  go_enter Try.func40, Try.ntmps40
  go_wp2_with fail
  refine (h _).mono ?_
  rintro e w1 ⟨rfl, hg⟩
  go_wp2
  go_ret
  exact ⟨rfl, (((Gr.refl _).alloc _).alloc _).trans hg⟩
end Go.Proofs.Ytpcamjmfddnglaa.Ht
