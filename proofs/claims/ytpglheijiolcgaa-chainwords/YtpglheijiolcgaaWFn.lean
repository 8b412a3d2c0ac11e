import Derived.Test.YtpglheijiolcgaaCFn
import Derived.Sort.Walk0
import Derived.Laws.Strings
namespace Go.Proofs.Ytpglheijiolcgaa.Wd
open Go.RowKit Go.Sort
attribute [local go_sem ↓] Go.wp_at_zero Go.wp_at_succ

/-- A string as a value. -/
abbrev pv (x : ByteArray) : Value := .string x
/-- A function that answers r. -/
structure FnOk (f : Nat) (r : ByteArray → ByteArray → Bool) : Prop where
  enter : ∀ args w, (callFunc f args).run Try.prog w = .ok (.enter f args) w
  calls : ∀ (a b : ByteArray) (W : World), Calls Try.prog f #[pv a, pv b] W fun e w' => e = .returned (.bool (r a b)) ∧ Gr W w'

/-- The words' two functions. -/
def wbel (a b : ByteArray) : Bool := decide (a.size ≤ b.size) && (a.toList == (b.extract 0 a.size).toList)
def wfst (a b : ByteArray) : Bool := Op.bytesLess a.toList b.toList

set_option maxHeartbeats 400000 in
theorem ahead_ok : FnOk 23 wbel := by
  refine ⟨enters_of Try.func23 (by kernel_rfl) rfl, fun a b W => ?_⟩
  by_cases h : a.size ≤ b.size
  · have hz : (a.size : Int) ≤ (b.size : Int) := by omega
    have hz0 : (0 : Int) ≤ (a.size : Int) := by omega
    have HR : Hid (wbel a b = (a.toList == (b.extract 0 a.size).toList)) := by unfold wbel; simp [Hid, h]
    rw [HR.out]
    go_enter Try.func23, Try.ntmps23
    go_wp2
    go_ret
    exact ⟨rfl, Gr.refl _⟩
  · have hz : ¬ (a.size : Int) ≤ (b.size : Int) := by omega
    have HR : Hid (wbel a b = false) := by unfold wbel; simp [Hid, h]
    rw [HR.out]
    go_enter Try.func23, Try.ntmps23
    go_wp2
    go_ret
    exact ⟨rfl, Gr.refl _⟩
theorem before_ok : FnOk 24 wfst := by
  refine ⟨enters_of Try.func24 (by kernel_rfl) rfl, fun a b W => ?_⟩
  unfold wfst
  go_enter Try.func24, Try.ntmps24
  go_wp2
  go_ret
  exact ⟨rfl, Gr.refl _⟩

set_option maxHeartbeats 1000000 in
theorem covers1_any (fb : Nat) (bel : ByteArray → ByteArray → Bool) (hF : FnOk fb bel) (x v : ByteArray) (B1 B2 cb : Nat) (w : World) (h1 : B1 < w.heap.size) (h2 : B2 < w.heap.size) (hc : cb < w.heap.size)
    (c1 : w.cell? ⟨B1, 0, none⟩ = some (.pointer (some ⟨cb, 0, none⟩))) (c20 : w.cell? ⟨B2, 0, none⟩ = some (.string v)) (cf : w.cell? ⟨cb, 0, none⟩ = some (fv fb)) :
    Calls Try.prog 59 #[pv x, .pointer (some ⟨B1, 0, none⟩), .pointer (some ⟨B2, 0, none⟩)] w fun e w' => e = .returned (.bool (bel x v)) ∧ Gr w w' := by
  have he := hF.enter
  have hcall := hF.calls x v
  generalize bel x v = r at hcall ⊢
  have hm : Try.prog.follows .mixedOrders = true := by kernel_rfl
  have k1 := cell_grown (a := ⟨B1, 0, none⟩) h1 c1
  have k2 := cell_grown (a := ⟨B2, 0, none⟩) h2 c20
  have k4 := cell_grown (a := ⟨cb, 0, none⟩) hc cf
  go_enter Try.func59, Try.ntmps59
  go_wp2_with fail
  clear c1 c20 cf
  go_quiet_grown (first | (go_at_fn fb; refine Calls.grown_of (v := .bool r) (hcall _)))
  go_wp2
  go_ret
  exact ⟨rfl, ((Gr.refl _).drewN _).grown _⟩
set_option maxHeartbeats 1000000 in
theorem staying1_any (fb : Nat) (bel : ByteArray → ByteArray → Bool) (hF : FnOk fb bel) (x v : ByteArray) (B1 B2 cb : Nat) (w : World) (h1 : B1 < w.heap.size) (h2 : B2 < w.heap.size) (hc : cb < w.heap.size)
    (c1 : w.cell? ⟨B1, 0, none⟩ = some (.pointer (some ⟨cb, 0, none⟩))) (c20 : w.cell? ⟨B2, 0, none⟩ = some (.string v)) (cf : w.cell? ⟨cb, 0, none⟩ = some (fv fb)) :
    Calls Try.prog 64 #[pv x, .pointer (some ⟨B1, 0, none⟩), .pointer (some ⟨B2, 0, none⟩)] w fun e w' => e = .returned (.bool (bel v x)) ∧ Gr w w' := by
  have he := hF.enter
  have hcall := hF.calls v x
  generalize bel v x = r at hcall ⊢
  have hm : Try.prog.follows .mixedOrders = true := by kernel_rfl
  have k1 := cell_grown (a := ⟨B1, 0, none⟩) h1 c1
  have k2 := cell_grown (a := ⟨B2, 0, none⟩) h2 c20
  have k4 := cell_grown (a := ⟨cb, 0, none⟩) hc cf
  go_enter Try.func64, Try.ntmps64
  go_wp2_with fail
  clear c1 c20 cf
  go_quiet_grown (first | (go_at_fn fb; refine Calls.grown_of (v := .bool r) (hcall _)))
  go_wp2
  go_ret
  exact ⟨rfl, ((Gr.refl _).drewN _).grown _⟩
set_option maxHeartbeats 1000000 in
theorem place1_any (fb : Nat) (bel : ByteArray → ByteArray → Bool) (hF : FnOk fb bel) (x v : ByteArray) (B1 B2 cb : Nat) (w : World) (h1 : B1 < w.heap.size) (h2 : B2 < w.heap.size) (hc : cb < w.heap.size)
    (c1 : w.cell? ⟨B1, 0, none⟩ = some (.pointer (some ⟨cb, 0, none⟩))) (c20 : w.cell? ⟨B2, 0, none⟩ = some (.string v)) (cf : w.cell? ⟨cb, 1, none⟩ = some (fv fb)) :
    Calls Try.prog 66 #[pv x, .pointer (some ⟨B1, 0, none⟩), .pointer (some ⟨B2, 0, none⟩)] w fun e w' => e = .returned (.bool (bel v x)) ∧ Gr w w' := by
  have he := hF.enter
  have hcall := hF.calls v x
  generalize bel v x = r at hcall ⊢
  have hm : Try.prog.follows .mixedOrders = true := by kernel_rfl
  have k1 := cell_grown (a := ⟨B1, 0, none⟩) h1 c1
  have k2 := cell_grown (a := ⟨B2, 0, none⟩) h2 c20
  have k4 := cell_grown (a := ⟨cb, 1, none⟩) hc cf
  go_enter Try.func66, Try.ntmps66
  go_wp2_with fail
  clear c1 c20 cf
  go_quiet_grown (first | (go_at_fn fb; refine Calls.grown_of (v := .bool r) (hcall _)))
  go_wp2
  go_ret
  exact ⟨rfl, ((Gr.refl _).drewN _).grown _⟩
end Go.Proofs.Ytpglheijiolcgaa.Wd
