import Derived.Test.YtifjjnnpoleinaaGNil
namespace Go.Proofs.Ytifjjnnpoleinaa.Df
open Go.RowKit Go.Sort Go.Shelf
attribute [local go_sem] Oper.semAt_some

/-- No round at a nil graph. -/
theorem niledges_stops (n : Nat) (hn : 1 ≤ n) (Bp Bg : Nat) (n₀ : Nat) (w1 : World) (hBp : w1.cell? ⟨Bp, 0, none⟩ = some (.int .i64 0)) (hBg : w1.cell? ⟨Bg, 0, none⟩ = some (.pointer none)) (hbp : Bp < w1.heap.size) (hbg : Bg < w1.heap.size) :
    SeqStopsK Fence.wide n Try.prog 28 #[.pointer (some ⟨Bp, 0, none⟩), .pointer (some ⟨Bg, 0, none⟩)] (fun x : Int => #[Value.int .i64 x]) (Below n₀) (fun zs => zs = []) (fun _ => False) 0 w1 := fun l J Jx W hW hJ _ _ h0 => by
  have cp := (hW.cell (p := ⟨Bp, 0, none⟩) hbp).trans hBp
  have cg := (hW.cell (p := ⟨Bg, 0, none⟩) hbg).trans hBg
  have hP := fun (n : Nat) (W' : World) => callsIn_wide (n := n).2 (nilPlaces_any W')
  have hA := fun (n : Nat) (W' : World) => callsIn_wide (n := n).2 (among_any 0 0 W')
  rw [decide_eq_false (by decide)] at hA
  have HJ := hid hJ
  have H0 := hid h0
  refine callsIn_of_wp Try.func28 rfl trivial ?_ rfl
  simp only [Try.ntmps28, List.size_toArray, List.length_cons, List.length_nil, Nat.reduceAdd, Nat.reduceSub, Array.replicate_succ, Array.replicate_zero, List.push_toArray, List.append_toArray, List.nil_append, List.cons_append]
  have hmx : Try.prog.follows .mixedOrders = true := by kernel_rfl
  gi_wp2
  gi_region_with_o (first | (refine ⟨trivial, ?_⟩; gi_at_call 11; refine (hP _ W.drew).mono ?_; rintro e w' ⟨rfl, rfl⟩) | (refine ⟨trivial, ?_⟩; gi_at_call 23; refine (hA _ W.drew).mono ?_; rintro e w' ⟨rfl, rfl⟩))
  all_goals (
    go_simp
    gi_wp2
    refine bodyPost_ret (results_none rfl _ _ _) rfl ?_
    exact ⟨⟨_, rfl⟩, .inl ⟨[], rfl, abides_gr HJ.out (Gr.refl W).drew H0.out⟩⟩)
end Go.Proofs.Ytifjjnnpoleinaa.Df
