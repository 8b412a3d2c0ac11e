import Derived.Test.YtcmgmgnmhhkdgaaLgKn
import Derived.Test.YtcmgmgnmhhkdgaaLgFil
namespace Go.Proofs.Ytcmgmgnmhhkdgaa
open Go.RowKit Go.Sort Go.Maps Go.Shelf
open Tt (Tl addc addf byd byd_f)

/-- What is taken back of a step. -/
def tk1 (o : Opx) : List Cg := if o.k.tmod 2 = 0 then [(o.s, -1)] else [(o.s, -1), (o.s, 1), (o.s, 1)]
def tk (l : List Opx) : List Cg := l.flatMap tk1
theorem tk1_ones (o : Opx) : Ones (tk1 o) := fun x hx => by
  unfold tk1 at hx
  split at hx <;> simp at hx
  · subst hx; exact Or.inr rfl
  · rcases hx with rfl | rfl
    · exact Or.inr rfl
    · exact Or.inl rfl
theorem tk_ones (l : List Opx) : Ones (tk l) := fun x hx => by
  obtain ⟨o, _, hx⟩ := List.mem_flatMap.1 hx
  exact tk1_ones o x hx
theorem tk1_len (o : Opx) : (tk1 o).length ≤ 3 := by unfold tk1; split <;> simp
theorem tk_len (l : List Opx) : (tk l).length ≤ 3 * l.length := by
  induction l with
  | nil => simp [tk]
  | cons o l ih =>
    have h := tk1_len o
    have e : tk (o :: l) = tk1 o ++ tk l := rfl
    rw [e, List.length_append, List.length_cons]
    omega
theorem tk_take_succ {l : List Opx} {i : Nat} {o : Opx} (h : l[i]? = some o) : tk (l.take (i + 1)) = tk (l.take i) ++ tk1 o := by
  rw [List.take_add_one, h]
  simp [tk]
theorem tk1_smf (o : Opx) (s : Sm) : smf (tk1 o) s = - smf (wr [o]) s := by
  unfold tk1 wr sg
  by_cases h : o.k.tmod 2 = 0
  · simp only [if_pos h, List.map_cons, List.map_nil, smf]
    split <;> omega
  · simp only [if_neg h, List.map_cons, List.map_nil, smf]
    split <;> omega
theorem tk_smf (l : List Opx) (s : Sm) : smf (tk l) s = - smf (wr l) s := by
  induction l with
  | nil => rfl
  | cons o l ih =>
    have e : tk (o :: l) = tk1 o ++ tk l := rfl
    have e2 : wr (o :: l) = wr [o] ++ wr l := rfl
    rw [e, e2, smf_append, smf_append, ih, tk1_smf]
    omega
theorem tk_zero (l : List Opx) : smf (wr l ++ tk l) = fun _ => 0 := by
  funext s
  rw [smf_append, tk_smf]
  omega
theorem sup_zero {ks : List Sm} (h : Sup (fun _ => 0) ks) : ks = [] := by
  cases ks with
  | nil => rfl
  | cons s ks => exact absurd rfl ((h.2 s).1 List.mem_cons_self)
theorem wr_halves (l : List Opx) (k : Nat) (s : Sm) : smf (wr l) s = smf (wr (l.take k)) s + smf (wr (l.drop k)) s := by
  rw [← smf_append, ← wr_append, List.take_append_drop]
theorem wr_bd {l : List Opx} (h : l.length ≤ 300) (s : Sm) : -300 ≤ smf (wr l) s ∧ smf (wr l) s ≤ 300 := by
  have := smf_bd (wr_ones l) s
  rw [wr_length] at this
  omega
end Go.Proofs.Ytcmgmgnmhhkdgaa
