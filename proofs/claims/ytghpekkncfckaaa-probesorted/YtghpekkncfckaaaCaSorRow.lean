import Derived.Test.YtghpekkncfckaaaRows
import Derived.Test.YtghpekkncfckaaaCaSor
import Derived.Test.YtghpekkncfckaaaCaArgs
namespace Go.Proofs.Ytghpekkncfckaaa
open Go.ChangeShapes Go.WideShapes Go.ChangeAt Go.RowKit

set_option maxRecDepth 100000 in
theorem probeSorted_contract (H : Type) (enc : TypeId × Value → H) (W : World) (base : Nat) (args : Array Value) (ds gs : List (DataW H)) (before : List MemPlace)
    (hval : ∀ (j : Nat) t v, Try.f3.params[j]? = some t → args[j]? = some v → Value.okWide Try.prog W .any base t v)
    (hW : DataW.Whole enc Try.prog Try.f3.params.toList Rows.probeSortedSpec.vars false W args.toList ds gs before) (hR : (DataW.weightsEach Try.prog (Try.f3.params.toList ++ (OpenSpec.ofChange Rows.probeSortedSpec).bare.plain.varTypes Try.prog) (ds ++ gs)).all (· ≤ reachBytes) = true) :
    Calls Try.prog 3 args W fun e W' => ∃ v, e = .returned v ∧ Rows.probeSortedSpec.post enc Try.prog Try.f3 false true false false W args v W' := by
  have hW' := hW
  obtain ⟨p, q, hA0, hV, rfl, hfz, hnd⟩ := hW
  have hA : DataW.TrodAll enc Try.prog W 0 (fun _ => true) true Try.f3.params.toList args.toList ds p := hA0
  rw [Try.params3] at hA hval
  obtain ⟨v0, v1, d0, d1, p0, p1, rfl, rfl, rfl, h0, h1⟩ := trodAll_two hA
  obtain ⟨rfl, rfl⟩ := trodVars_none hV
  obtain ⟨hlt0, ts0, hts0, hd0⟩ := open_list Ca.EC Try.underlying22 cellsCt (by decide) (fun fuel cs y hl h => trod_ct fuel cs y hl h) (hval 0 22 v0 rfl rfl) h0
  have hz0 : ts0.length * 40 ≤ 140737488351232 := by
    rcases hd0 with ⟨rfl, rfl⟩ | ⟨elems, spare, rfl, hl⟩
    · simp
    · have h1 := sized_slice hR (j := 0) (t := 22) (e := 36) (elems := elems) (spare := spare) (by kernel_rfl) rfl Try.underlying22
      have : reachBytes ≤ 140737488351232 := by decide
      rw [show Try.prog.bytesOf 36 = 40 by kernel_rfl] at h1
      omega
  obtain ⟨hlt1, x1, q1, n1, c1, l1, k1, rfl, hl1, hz1⟩ := open_look (hval 1 28 v1 rfl rfl) h1 (fun n hn => by simpa using List.all_eq_true.1 hR n (DataW.weights_mem_each (j := 1) (by kernel_rfl) rfl n hn))
  simp only [List.append_nil] at hW'
  refine (Ca.probeSorted_all x1 k1 W hts0 hl1 hz0 hz1).mono fun e W' ⟨he, hB⟩ => ?_
  subst he
  exact ⟨_, rfl, _, _, _, [], _, [], hW', trodAll_mk1 (shut_bool Try.underlying4 _), trodAll_mk2 (Below.trod laidOut (by kernel_rfl) (of_decide_eq_true (by kernel_rfl)) h0 hB hlt0) (Below.trod laidOut (by kernel_rfl) (of_decide_eq_true (by kernel_rfl)) h1 hB hlt1), rfl, hB.frame _, fun h => by cases h⟩

set_option maxRecDepth 100000 in
theorem probeSorted_lifted (os : Os) (started : os.Started) (H : Type) (enc : TypeId × Value → H) (F : Stop.Interp) :
    ReturnsInHanded {} Try.checked os 3 .any ((OpenSpec.ofChange Rows.probeSortedSpec).preRow enc Try.prog Try.f3 Rows.probeSortedRow.domain false Rows.probeSortedRow.laid) (((OpenSpec.ofChange Rows.probeSortedSpec).at F).post enc Try.prog Try.f3 false true false false) := by
  refine returnsInHanded_of_row (C := Try.checked) (s := OpenSpec.ofChange Rows.probeSortedSpec) own started (by kernel_rfl) Try.func3
    (witness (enc := enc) #[.slice none 0 0, .agg #[.int .u64 0, .int .u64 0, .int .u64 0, .slice none 0 0, .int .u64 0]] (World.shaped_of_ZipB (by kernel_rfl) (by kernel_rfl)) (by kernel_rfl)
      (OpenSpec.preRow_of_cond 8 (x := ([.nil, .agg [.agg [.lit (.int .u64 0), .lit (.int .u64 0), .lit (.int .u64 0)], .nil, .lit (.int .u64 0)]], [], [])) (by kernel_rfl) (by kernel_rfl) (fun k hk => by cases hk) (by kernel_rfl) (laid_met os _))) ?_
  intro W base args ds gs before hval hW _ _ hR _ _ _
  exact probeSorted_contract H enc W base args ds gs before hval hW hR

theorem probeSorted_said : Rows.ProbeSortedSaid :=
  OpenClaim.holds_of_cond 3 Try.f3 rfl rfl rfl rfl rfl rfl rfl ⟨rfl, rfl, rfl, rfl, rfl⟩ rfl rfl rfl rfl rfl (by kernel_rfl) Try.func3 (by kernel_rfl)
    (of_decide_eq_true (by kernel_rfl)) (by unfold Func.isWrapper; first | (rw [if_pos (by decide +kernel)]; kernel_rfl) | (rw [if_neg (by decide +kernel)]; exact ⟨rfl, rfl⟩))
    (fun os started H enc _ F => by rw [OpenClaim.pre_eq_preRow]; exact probeSorted_lifted os started H enc F)
end Go.Proofs.Ytghpekkncfckaaa
