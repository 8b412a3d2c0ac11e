import Derived.Deep.RegionHeld3
import Derived.Test.YtghpekkncfckaaaGr
namespace Go.Proofs.Ytghpekkncfckaaa
open Go.RowKit

section
variable {P : Program} {ops : Array Oper} {Q : Exit → Act → World → Prop} {md : Region.Mode} {S : World → Prop} {D : List Nat}
/-- Whatever order is picked: S holds behind every operation but those of D (which wait for all that reads by S). -/
def wpAnyD (P : Program) (md : Region.Mode) (ops : Array Oper) (Q : Exit → Act → World → Prop) (S : World → Prop) (D : List Nat) : Nat → Array Bool → Act → World → Prop
  | 0, ls, a, w => Region.ready md ops ls = [] ∧ Q .normal a w
  | n + 1, ls, a, w => (Region.ready md ops ls = [] → Q .normal a w) ∧ ∀ j ∈ Region.ready md ops ls, wpOp P ops Q j (fun b u => (j ∉ D → S u) ∧ wpAnyD P md ops Q S D n (ls.setIfInBounds j true) b u) a w
theorem wpAny_ofD (n : Nat) : ∀ (ls : Array Bool) (a : Act) (w : World), wpAnyD P md ops Q S D n ls a w → wpAny P md ops Q n ls a w := by
  induction n with
  | zero => intro _ _ _ h; exact h
  | succ n ih =>
    intro ls a w h
    exact ⟨h.1, fun j hj => wpOp_mono (fun b u x => ih _ b u x.2) (h.2 j hj)⟩
/-- Those of D wait for number i, or for another of D. -/
def Behind (md : Region.Mode) (ops : Array Oper) (i : Nat) (D : List Nat) : Bool := D.all fun j => match ops[j]? with
  | some o => o.after.toList.any fun e => Region.binds md e && (e.on == i || D.contains e.on)
  | none => true
theorem behind_not {i j : Nat} {ls : Array Bool} (hD : Behind md ops i D = true) (hi : ls.getD i false = false) (hl : ∀ k ∈ D, ls.getD k false = false) (hj : j ∈ Region.ready md ops ls) : j ∉ D := fun hjD => by
  obtain ⟨_, o, ho, hall⟩ := mem_ready.1 hj
  have h1 := List.all_eq_true.1 hD j hjD
  rw [ho] at h1
  obtain ⟨x, hx, h2⟩ := List.any_eq_true.1 h1
  rw [Bool.and_eq_true, Bool.or_eq_true] at h2
  have h3 := hall x (Array.mem_toList_iff.1 hx) h2.1
  rcases h2.2 with h4 | h4
  · rw [beq_iff_eq] at h4
    rw [h4, hi] at h3
    cases h3
  · rw [hl _ (by simpa using h4)] at h3
    cases h3
theorem wpAnyD_first {i : Nat} {oi : Oper} {v : Value} (hi : ops[i]? = some oi) (hs : Region.noSelect ops = true) (hQ : ∀ c a w, Q (.panic c) (a.put oi.dst v) w → Q (.panic c) a w) (hD : Behind md ops i D = true) (hiD : D.contains i = false) (n : Nat) :
    ∀ (ls : Array Bool) (a : Act) (w : World), (∀ j oj, ops[j]? = some oj → j ≠ i → ls.getD j true = false → (∀ e ∈ oj.after, Region.binds md e = true → e.on ≠ i) → oi.apart ops oj = true) → (∀ k ∈ D, ls.getD k false = false) → i ∈ Region.ready md ops ls → YieldsIf P ops S oi v a → S w →
      wpAnyD P md ops Q S D n (ls.setIfInBounds i true) (a.put oi.dst v) w → wpAnyD P md ops Q S D (n + 1) ls a w := by
  have hsel := Region.noSelect_spec hs
  have hin : i ∉ D := by simpa using hiD
  induction n with
  | zero =>
    intro ls a w _ _ hr hy hS H
    refine ⟨fun h0 => (by rw [h0] at hr; cases hr), fun j hj => ?_⟩
    by_cases e : j = i
    · rw [e]; exact hy.wpOp hi hS ⟨fun _ => hS, H⟩
    · have h1 := ready_mono hj e
      rw [H.1] at h1
      cases h1
  | succ n ih =>
    intro ls a w hfree hun hr hy hS H
    refine ⟨fun h0 => (by rw [h0] at hr; cases hr), fun j hj => ?_⟩
    by_cases e : j = i
    · rw [e]; exact hy.wpOp hi hS ⟨fun _ => hS, H⟩
    · obtain ⟨hju, oj, hoj, hall⟩ := mem_ready.1 hj
      have hi0 : ls.getD i false = false := by
        have := (mem_ready.1 hr).1
        rcases Nat.lt_or_ge i ls.size with h | h
        · simp [h] at this ⊢; exact this
        · simp [Array.getElem?_eq_none h]
      have hjD := behind_not hD hi0 hun hj
      have hno : ∀ x ∈ oj.after, Region.binds md x = true → x.on ≠ i := fun x hx hb e2 => by
        have := hall x hx hb
        rw [e2, hi0] at this
        cases this
      have h2 := wpOp_putIf hoj (hfree j oj hoj e hju hno) (fun cs b => hsel i oi cs b hi) (fun cs b => hsel j oj cs b hoj) hQ hy (H.2 j (ready_mono hj e))
      refine wpOp_mono (fun b u h3 => ⟨fun _ => h3.2.1 hjD, ih _ b u ?_ ?_ (ready_mono hr (Ne.symm e)) h3.1 (h3.2.1 hjD) ?_⟩) h2
      · intro k ok hk hki hku hkn
        refine hfree k ok hk hki ?_ hkn
        by_cases e3 : j = k
        · exact e3 ▸ hju
        · rw [getD_set_ne true e3] at hku; exact hku
      · intro k hk
        have hne : j ≠ k := fun e3 => hjD (by rw [e3]; exact hk)
        rw [getD_set_ne false hne]
        exact hun k hk
      · rw [Array.setIfInBounds_comm _ _ e]
        exact h3.2.2
theorem wpAnyD_take {i : Nat} {oi : Oper} {v : Value} {n : Nat} {ls : Array Bool} {a : Act} {w : World} (hi : ops[i]? = some oi) (hs : Region.noSelect ops = true) (hf : Region.free md ops ls i = true) (hr : (Region.ready md ops ls).contains i = true)
    (hQ : ∀ c a w, Q (.panic c) (a.put oi.dst v) w → Q (.panic c) a w) (hD : (Behind md ops i D && !D.contains i && D.all fun k => !ls.getD k false) = true) (hy : YieldsIf P ops S oi v a) (hS : S w)
    (h : wpAnyD P md ops Q S D n (ls.setIfInBounds i true) (a.put oi.dst v) w) : wpAnyD P md ops Q S D (n + 1) ls a w := by
  rw [Bool.and_eq_true, Bool.and_eq_true] at hD
  exact wpAnyD_first hi hs hQ hD.1.1 (by simpa using hD.1.2) n ls a w (Region.free_spec hi hf) (fun k hk => by simpa using List.all_eq_true.1 hD.2 k hk) (by simpa using hr) hy hS h
/-- The only one that may come up. -/
theorem wpAnyD_one {i : Nat} {o : Oper} {n : Nat} {ls : Array Bool} {a : Act} {w : World} (hr : Region.ready md ops ls = [i]) (ho : ops[i]? = some o)
    (h : ∀ K' : Act → World → Prop, Shut (∀ b u, (i ∉ D → S u) → wpAnyD P md ops Q S D n (ls.setIfInBounds i true) b u → K' b u) → if Region.wanted o (yielded ops a.tmps) = true then Oper.wp P o a w K' Q else K' (a.put o.dst undef) w) : wpAnyD P md ops Q S D (n + 1) ls a w := by
  refine ⟨fun h0 => (by rw [h0] at hr; cases hr), fun j hj => ?_⟩
  rw [hr, List.mem_singleton] at hj
  subst hj
  exact wpOp_step ho (fun K' hK => h K' (fun b u h1 h2 => hK b u ⟨h1, h2⟩))
theorem wpAnyD_done {ls : Array Bool} {a : Act} {w : World} (hr : Region.ready md ops ls = []) (h : Q .normal a w) (n : Nat) : wpAnyD P md ops Q S D n ls a w := by
  cases n with
  | zero => exact ⟨hr, h⟩
  | succ n => exact ⟨fun _ => h, fun j hj => by rw [hr] at hj; cases hj⟩
theorem wp_regionD {id : Nat} {a : Act} {w : World} (hm : P.follows .mixedOrders = true) (h : wpAnyD P .any ops Q S D ops.size (Array.replicate ops.size false) a w.drew) : (Code.region id ops true).wp P Q a w :=
  wp_region_any hm (wpAny_ofD _ _ _ _ h)
end
end Go.Proofs.Ytghpekkncfckaaa
