import Derived.Test.YtpnjpdnjapfjlaaCoFn
import Derived.Test.YtpnjpdnjapfjlaaCoOneA
import Derived.Test.YtpnjpdnjapfjlaaCoOneB
namespace Go.Proofs.Ytpnjpdnjapfjlaa.Cd
open Go.RowKit Go.Sort
attribute [local go_sem ↓] Go.wp_at_zero Go.wp_at_succ

/-- Map's and Pass's answers. -/
def mapL (l : List Op2) (r : Rc) : Rc := if chk 2 l = 0 then l.foldl (fun r o => mpd o r) r else r
def passL (l : List Op2) (r : Rc) : Bool := if chk 3 l = 0 then l.all (fun o => hld o r) else false
theorem chk_ok {k : Int} {l : List Op2} (h : chk k l = 0) : (k = 2 ∨ k = 3) ∧ l.length ≤ 16 ∧ ∀ o ∈ l, may k o = true := by
  unfold chk at h
  split at h
  · omega
  · split at h
    · omega
    · split at h
      · omega
      · rename_i h1 h2 h3
        refine ⟨by omega, by omega, fun o ho => ?_⟩
        simp only [List.any_eq_true, not_exists, not_and, Bool.not_eq_true', Bool.not_eq_false] at h3
        exact h3 o ho
/-- A record of two numbers of 64 bits. -/
def Rok (r : Rc) : Prop := 0 ≤ r.key ∧ r.key < 18446744073709551616 ∧ 0 ≤ r.val ∧ r.val < 18446744073709551616
def Ook (o : Op2) : Prop := 0 ≤ o.arg ∧ o.arg < 18446744073709551616
theorem wrap_bd (x : Int) : 0 ≤ IntKind.u64.wrap x ∧ IntKind.u64.wrap x < 18446744073709551616 := by
  have : IntKind.u64.wrap x = x % 18446744073709551616 := by
    simp [IntKind.wrap, IntKind.bits, IntKind.signed]
  rw [this]
  omega
theorem mpd_ok {o : Op2} {r : Rc} (ho : Ook o) (hr : Rok r) (hm : mayM o = true) : Rok (mpd o r) := by
  have hk := (mayM_kinds hm).2
  obtain ⟨a1, a2⟩ := ho
  obtain ⟨r1, r2, r3, r4⟩ := hr
  unfold mpd
  repeat' split
  all_goals first
    | exact ⟨a1, a2, r3, r4⟩
    | exact ⟨(wrap_bd _).1, (wrap_bd _).2, r3, r4⟩
    | exact ⟨r1, r2, a1, a2⟩
    | exact ⟨r1, r2, (wrap_bd _).1, (wrap_bd _).2⟩
    | exact ⟨r3, r4, r1, r2⟩
    | exact ⟨(wrap_bd _).1, (wrap_bd _).2, (wrap_bd _).1, (wrap_bd _).2⟩
    | exact ⟨a1, a2, a1, a2⟩
    | skip
  rename_i h3
  have h0 := hk h3
  have hp : 0 < o.arg := by omega
  have e1 := Int.emod_nonneg r.key h0
  have e2 := Int.emod_lt_of_pos r.key hp
  exact ⟨e1, by simp only; omega, r3, r4⟩
theorem fold_ok {l : List Op2} (hl : ∀ o ∈ l, mayM o = true ∧ Ook o) {r : Rc} (hr : Rok r) : Rok (l.foldl (fun r o => mpd o r) r) := by
  induction l generalizing r with
  | nil => exact hr
  | cons o l ih => exact ih (fun x hx => hl x (List.mem_cons_of_mem _ hx)) (mpd_ok (hl o (by simp)).2 hr (hl o (by simp)).1)
end Go.Proofs.Ytpnjpdnjapfjlaa.Cd
