import Derived.Test.YtghpekkncfckaaaLHold
namespace Go.Proofs.Ytghpekkncfckaaa
open Go.RowKit

section
variable {P : Program} {ops : Array Oper} {Q : Exit → Act → World → Prop} {md : Region.Mode} {S : World → Prop} {D : List Nat}
/-- One of two may come up. -/
theorem wpAnyD_two {i j : Nat} {oi oj : Oper} {n : Nat} {ls : Array Bool} {a : Act} {w : World} (hr : Region.ready md ops ls = [i, j]) (hi : ops[i]? = some oi) (hj : ops[j]? = some oj)
    (h1 : ∀ K' : Act → World → Prop, Shut (∀ b u, (i ∉ D → S u) → wpAnyD P md ops Q S D n (ls.setIfInBounds i true) b u → K' b u) → if Region.wanted oi (yielded ops a.tmps) = true then Oper.wp P oi a w K' Q else K' (a.put oi.dst undef) w)
    (h2 : ∀ K' : Act → World → Prop, Shut (∀ b u, (j ∉ D → S u) → wpAnyD P md ops Q S D n (ls.setIfInBounds j true) b u → K' b u) → if Region.wanted oj (yielded ops a.tmps) = true then Oper.wp P oj a w K' Q else K' (a.put oj.dst undef) w) : wpAnyD P md ops Q S D (n + 1) ls a w := by
  refine ⟨fun h0 => (by rw [h0] at hr; cases hr), fun k hk => ?_⟩
  rw [hr] at hk
  simp only [List.mem_cons, List.not_mem_nil, or_false] at hk
  rcases hk with rfl | rfl
  · exact wpOp_step hi (fun K' hK => h1 K' (fun b u h1 h2 => hK b u ⟨h1, h2⟩))
  · exact wpOp_step hj (fun K' hK => h2 K' (fun b u h1 h2 => hK b u ⟨h1, h2⟩))
end
end Go.Proofs.Ytghpekkncfckaaa
