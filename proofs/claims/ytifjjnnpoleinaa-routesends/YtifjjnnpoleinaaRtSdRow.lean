import Derived.Test.YtifjjnnpoleinaaRows
import Derived.Test.YtifjjnnpoleinaaRtSd
import Derived.Test.YtifjjnnpoleinaaRtArgs
namespace Go.Proofs.Ytifjjnnpoleinaa
open Go.ChangeShapes Go.WideShapes Go.ChangeAt Go.RowKit

set_option maxRecDepth 100000 in
theorem routeSends_contract (H : Type) (enc : TypeId × Value → H) (W : World) (base : Nat) (args : Array Value) (ds gs : List (DataW H)) (before : List MemPlace)
    (hval : ∀ (j : Nat) t v, Try.f5.params[j]? = some t → args[j]? = some v → Value.okWide Try.prog W .any base t v)
    (hW : DataW.Whole enc Try.prog Try.f5.params.toList Rows.routeSendsSpec.vars false W args.toList ds gs before) (hR : (DataW.weightsEach Try.prog (Try.f5.params.toList ++ (OpenSpec.ofChange Rows.routeSendsSpec).bare.plain.varTypes Try.prog) (ds ++ gs)).all (· ≤ reachBytes) = true) :
    Calls Try.prog 5 args W fun e W' => ∃ v, e = .returned v ∧ Rows.routeSendsSpec.post enc Try.prog Try.f5 false true false false W args v W' := by
  have hW' := hW
  obtain ⟨p, q, hA0, hV, rfl, hfz, hnd⟩ := hW
  have hA : DataW.TrodAll enc Try.prog W 0 (fun _ => true) true Try.f5.params.toList args.toList ds p := hA0
  rw [Try.params5] at hA hval
  obtain ⟨v0, v1, d0, d1, p0, p1, rfl, rfl, rfl, h0, h1⟩ := trodAll_two hA
  obtain ⟨rfl, rfl⟩ := trodVars_none hV
  obtain ⟨hlt0, a0, nv0, ev0, xs0, es0, rfl, hT0, hG0, _, hC0⟩ := Df.open_graph2 (hval 0 25 v0 rfl rfl) h0 (fun n hn => by simpa using List.all_eq_true.1 hR n (DataW.weights_mem_each (j := 0) (by kernel_rfl) rfl n hn))
  obtain ⟨hlt1, ts1, hts1, hd1⟩ := open_list Df.EAk Try.underlying57 (by kernel_rfl) (by decide) (fun fuel cs y hl h => (Df.trod_ask fuel cs y hl h).imp fun _ h => h.1) (hval 1 57 v1 rfl rfl) h1
  have hz1 : ts1.length * 64 ≤ 140737488351232 := by
    rcases hd1 with ⟨rfl, rfl⟩ | ⟨elems, spare, rfl, hl⟩
    · simp
    · have h1 := sized_slice hR (j := 1) (t := 57) (e := 32) (elems := elems) (spare := spare) (by kernel_rfl) rfl Try.underlying57
      have : reachBytes ≤ 140737488351232 := by decide
      rw [show Try.prog.bytesOf 32 = 64 by kernel_rfl] at h1
      omega
  simp only [List.append_nil] at hW'
  refine (Df.routeSends_any W hG0 (Nat.le_refl _) hC0 hts1 hz1).mono fun e W' ⟨he, hB⟩ => ?_
  subst he
  exact ⟨_, rfl, _, _, _, [], _, [], hW', trodAll_mk1 (shut_bool Try.underlying4 _), trodAll_mk2 (Below.trod laidOut (by kernel_rfl) (of_decide_eq_true (by kernel_rfl)) h0 hB hlt0) (Below.trod laidOut (by kernel_rfl) (of_decide_eq_true (by kernel_rfl)) h1 hB hlt1), rfl, hB.frame _, fun h => by cases h⟩

set_option maxRecDepth 100000 in
theorem routeSends_lifted (os : Os) (started : os.Started) (H : Type) (enc : TypeId × Value → H) (F : Stop.Interp) :
    ReturnsInHanded {} Try.checked os 5 .any ((OpenSpec.ofChange Rows.routeSendsSpec).preRow enc Try.prog Try.f5 Rows.routeSendsRow.domain false Rows.routeSendsRow.laid) (((OpenSpec.ofChange Rows.routeSendsSpec).at F).post enc Try.prog Try.f5 false true false false) := by
  refine returnsInHanded_of_row (C := Try.checked) (s := OpenSpec.ofChange Rows.routeSendsSpec) own started (by kernel_rfl) Try.func5
    (witness (enc := enc) #[.agg #[.int .i64 0, .slice none 0 0, .slice none 0 0], .slice none 0 0] (World.shaped_of_ZipB (by kernel_rfl) (by kernel_rfl)) (by kernel_rfl)
      (OpenSpec.preRow_of_cond 8 (x := ([.agg [.lit (.int .i64 0), .nil, .nil], .nil], [], [])) (by kernel_rfl) (by kernel_rfl) (fun k hk => by cases hk) (by kernel_rfl) (laid_met os _))) ?_
  intro W base args ds gs before hval hW _ _ hR _ _ _
  exact routeSends_contract H enc W base args ds gs before hval hW hR

theorem routeSends_said : Rows.RouteSendsSaid :=
  OpenClaim.holds_of_cond 5 Try.f5 rfl rfl rfl rfl rfl rfl rfl ⟨rfl, rfl, rfl, rfl, rfl⟩ rfl rfl rfl rfl rfl (by kernel_rfl) Try.func5 (by kernel_rfl)
    (of_decide_eq_true (by kernel_rfl)) (by unfold Func.isWrapper; first | (rw [if_pos (by decide +kernel)]; kernel_rfl) | (rw [if_neg (by decide +kernel)]; exact ⟨rfl, rfl⟩))
    (fun os started H enc _ F => by rw [OpenClaim.pre_eq_preRow]; exact routeSends_lifted os started H enc F)
end Go.Proofs.Ytifjjnnpoleinaa
