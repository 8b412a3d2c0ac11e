import Derived.Test.YtpnjpdnjapfjlaaRows
import Derived.Test.YtpnjpdnjapfjlaaLRow
import Derived.Test.YtpnjpdnjapfjlaaLHold
import Derived.WalkKit
import Derived.WalkSpells
import Derived.Deep.RegionHeld3
import Derived.Deep.DrawnRows
import Derived.Deep.DeepCutAuto
import Derived.Deep.LoopGhost
namespace Go.Proofs.Ytpnjpdnjapfjlaa.Cd
open Go.RowKit Go.Sort
attribute [local go_sem ↓] Go.wp_at_zero Go.wp_at_succ

/-- An instruction. -/
structure Op2 where
  kind : Int
  arg : Int
  deriving DecidableEq
instance : Inhabited Op2 := ⟨⟨0, 0⟩⟩
/-- A record. -/
structure Rc where
  key : Int
  val : Int
  deriving DecidableEq
def EO : El Op2 where
  k := 2
  enc o := [.int .i64 o.kind, .int .u64 o.arg]
  len _ := rfl
  one o u hu := by
    simp at hu
    rcases hu with rfl | rfl <;> rfl
theorem infoO : (Try.prog.info? 46).map (fun i => (i.zero, i.size, i.bytes)) = some (some (.agg #[.int .i64 0, .int .u64 0]), 2, 16) := by kernel_rfl
abbrev ov (o : Op2) : Value := .agg #[.int .i64 o.kind, .int .u64 o.arg]
abbrev rv (r : Rc) : Value := .agg #[.int .u64 r.key, .int .u64 r.val]
theorem ls_at {w : World} {v : Value} {ts : List Op2} (h : Ls EO w v ts) {j : Nat} {o : Op2} (hj : ts[j]? = some o) :
    ∃ b off c, v = .slice (some ⟨b, off, none⟩) ts.length c ∧ b < w.heap.size ∧ w.cell? ⟨b, off + j * 2, none⟩ = some (.int .i64 o.kind) ∧ w.cell? ⟨b, off + j * 2 + 1, none⟩ = some (.int .u64 o.arg) := by
  obtain ⟨b, off, c, hv, hb, hc⟩ := h.get hj
  exact ⟨b, off, c, hv, hb, hc 0 _ (by decide) rfl, hc 1 _ (by decide) rfl⟩
/-- May it be one of a map's, of a filter's? -/
def mayM (o : Op2) : Bool := if o.kind = 3 then o.arg != 0 else if o.kind = 7 ∨ o.kind = 8 then o.arg == 0 else decide (1 ≤ o.kind ∧ o.kind ≤ 10)
def mayF (o : Op2) : Bool := if o.kind = 28 then o.arg == 0 else decide (21 ≤ o.kind ∧ o.kind < 28)

set_option maxHeartbeats 1000000 in
theorem mayM_any (o : Op2) (w : World) : Calls Try.prog 21 #[ov o] w fun r w' => r = .returned (.bool (mayM o)) ∧ Gr w w' := by
  obtain ⟨k, a⟩ := o
  unfold mayM
  simp only
  by_cases h3 : k = 3
  · subst h3
    go_enter Try.func21, Try.ntmps21
    go_wp2_with fail
    go_ret
    exact ⟨by simp, (Gr.refl w).alloc _⟩
  by_cases h7 : k = 7
  · subst h7
    go_enter Try.func21, Try.ntmps21
    go_wp2_with fail
    go_ret
    exact ⟨by simp, (Gr.refl w).alloc _⟩
  by_cases h8 : k = 8
  · subst h8
    go_enter Try.func21, Try.ntmps21
    go_wp2_with fail
    go_ret
    exact ⟨by simp, (Gr.refl w).alloc _⟩
  rw [if_neg h3, if_neg (by omega)]
  have e3 : (k == 3) = false := by simpa using h3
  have e7 : (k == 7) = false := by simpa using h7
  have e8 : (k == 8) = false := by simpa using h8
  by_cases hg : 1 ≤ k
  · have hd : decide (1 ≤ k ∧ k ≤ 10) = decide (k ≤ 10) := by simp [hg]
    rw [hd]
    clear hd
    go_enter Try.func21, Try.ntmps21
    go_wp2_with fail
    go_ret
    exact ⟨by simp, (Gr.refl w).alloc _⟩
  · have hd : decide (1 ≤ k ∧ k ≤ 10) = false := by simp [hg]
    rw [hd]
    clear hd
    go_enter Try.func21, Try.ntmps21
    go_wp2_with fail
    go_ret
    exact ⟨by simp, (Gr.refl w).alloc _⟩
set_option maxHeartbeats 1000000 in
theorem mayF_any (o : Op2) (w : World) : Calls Try.prog 22 #[ov o] w fun r w' => r = .returned (.bool (mayF o)) ∧ Gr w w' := by
  obtain ⟨k, a⟩ := o
  unfold mayF
  simp only
  by_cases h3 : k = 28
  · subst h3
    go_enter Try.func22, Try.ntmps22
    go_wp2_with fail
    go_ret
    exact ⟨by simp, (Gr.refl w).alloc _⟩
  rw [if_neg h3]
  have e3 : (k == 28) = false := by simpa using h3
  by_cases hg : 21 ≤ k
  · have hd : decide (21 ≤ k ∧ k < 28) = decide (k < 28) := by simp [hg]
    rw [hd]
    clear hd
    go_enter Try.func22, Try.ntmps22
    go_wp2_with fail
    go_ret
    exact ⟨by simp, (Gr.refl w).alloc _⟩
  · have hd : decide (21 ≤ k ∧ k < 28) = false := by simp [hg]
    rw [hd]
    clear hd
    go_enter Try.func22, Try.ntmps22
    go_wp2_with fail
    go_ret
    exact ⟨by simp, (Gr.refl w).alloc _⟩
end Go.Proofs.Ytpnjpdnjapfjlaa.Cd
