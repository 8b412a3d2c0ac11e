import Derived.Test.YtpnjpdnjapfjlaaCoBase
namespace Go.Proofs.Ytpnjpdnjapfjlaa.Cd
open Go.RowKit Go.Sort
attribute [local go_sem ↓] Go.wp_at_zero Go.wp_at_succ

/-- What an instruction of a map makes of a record. -/
def mpd (o : Op2) (r : Rc) : Rc :=
  if o.kind = 1 then ⟨o.arg, r.val⟩ else if o.kind = 2 then ⟨IntKind.u64.wrap (r.key + o.arg), r.val⟩ else if o.kind = 3 then ⟨r.key % o.arg, r.val⟩ else
  if o.kind = 4 then ⟨r.key, o.arg⟩ else if o.kind = 5 then ⟨r.key, IntKind.u64.wrap (r.val + o.arg)⟩ else if o.kind = 6 then ⟨r.key, IntKind.u64.wrap (r.val * o.arg)⟩ else
  if o.kind = 7 then ⟨r.val, r.key⟩ else if o.kind = 8 then ⟨r.key, IntKind.u64.wrap (r.val + r.key)⟩ else if o.kind = 9 then ⟨IntKind.u64.wrap (r.key + o.arg), IntKind.u64.wrap (r.val + o.arg)⟩ else ⟨o.arg, o.arg⟩
/-- Does an instruction of a filter hold? -/
def hld (o : Op2) (r : Rc) : Bool :=
  if o.kind = 21 then r.key == o.arg else if o.kind = 22 then r.key != o.arg else if o.kind = 23 then decide (r.key < o.arg) else
  if o.kind = 24 then r.val == o.arg else if o.kind = 25 then r.val != o.arg else if o.kind = 26 then decide (r.val < o.arg) else
  if o.kind = 27 then decide (r.key < o.arg) && decide (r.val < o.arg) else r.key == r.val
theorem mayM_kinds {o : Op2} (h : mayM o = true) : (o.kind = 1 ∨ o.kind = 2 ∨ o.kind = 3 ∨ o.kind = 4 ∨ o.kind = 5 ∨ o.kind = 6 ∨ o.kind = 7 ∨ o.kind = 8 ∨ o.kind = 9 ∨ o.kind = 10) ∧ (o.kind = 3 → o.arg ≠ 0) := by
  unfold mayM at h
  split at h
  · rename_i h3; exact ⟨by omega, fun _ => by simpa using h⟩
  · split at h
    · exact ⟨by omega, fun e => by omega⟩
    · simp only [decide_eq_true_eq] at h
      exact ⟨by omega, fun e => by omega⟩
theorem mayF_kinds {o : Op2} (h : mayF o = true) : o.kind = 21 ∨ o.kind = 22 ∨ o.kind = 23 ∨ o.kind = 24 ∨ o.kind = 25 ∨ o.kind = 26 ∨ o.kind = 27 ∨ o.kind = 28 := by
  unfold mayF at h
  split at h
  · omega
  · simp only [decide_eq_true_eq] at h
    omega

end Go.Proofs.Ytpnjpdnjapfjlaa.Cd
