import Derived.Test.YtijbmchgajhkeaaRows
import Derived.Test.YtijbmchgajhkeaaSuPl
import Derived.Test.YtijbmchgajhkeaaSuArgs2
import Derived.Test.YtijbmchgajhkeaaSuArgs
namespace Go.Proofs.Ytijbmchgajhkeaa
open Go.ChangeShapes Go.WideShapes Go.ChangeAt Go.RowKit

set_option maxRecDepth 100000 in
theorem sumsPlays_contract (H : Type) (enc : TypeId × Value → H) (W : World) (base : Nat) (args : Array Value) (ds gs : List (DataW H)) (before : List MemPlace)
    (hval : ∀ (j : Nat) t v, Try.f5.params[j]? = some t → args[j]? = some v → Value.okWide Try.prog W .any base t v)
    (hW : DataW.Whole enc Try.prog Try.f5.params.toList Rows.sumsPlaysSpec.vars false W args.toList ds gs before) (hR : (DataW.weightsEach Try.prog (Try.f5.params.toList ++ (OpenSpec.ofChange Rows.sumsPlaysSpec).bare.plain.varTypes Try.prog) (ds ++ gs)).all (· ≤ reachBytes) = true) :
    Calls Try.prog 5 args W fun e W' => ∃ v, e = .returned v ∧ Rows.sumsPlaysSpec.post enc Try.prog Try.f5 false true false false W args v W' := by
  have hW' := hW
  obtain ⟨p, q, hA0, hV, rfl, hfz, hnd⟩ := hW
  have hA : DataW.TrodAll enc Try.prog W 0 (fun _ => true) true Try.f5.params.toList args.toList ds p := hA0
  rw [Try.params5] at hA hval
  obtain ⟨v0, d0, rfl, rfl, h0⟩ := trodAll_one hA
  obtain ⟨rfl, rfl⟩ := trodVars_none hV
  obtain ⟨hlt0, q0, c0, sc0, rfl, hsc0, hft0, hn0⟩ := open_script (hval 0 48 v0 rfl rfl) h0 (fun n hn => by simpa using List.all_eq_true.1 hR n (DataW.weights_mem_each (j := 0) (by kernel_rfl) rfl n hn))
  simp only [List.append_nil] at hW'
  refine (sumsPlays_any W hsc0 rfl hn0 hft0).mono fun e W' ⟨he, hB⟩ => ?_
  subst he
  exact ⟨_, rfl, _, _, _, [], _, [], hW', trodAll_mk1 (shut_bool Try.underlying4 _), trodAll_mk1 (Below.trod laidOut (by kernel_rfl) (of_decide_eq_true (by kernel_rfl)) h0 hB hlt0), rfl, hB.frame _, fun h => by cases h⟩

set_option maxRecDepth 100000 in
theorem sumsPlays_lifted (os : Os) (started : os.Started) (H : Type) (enc : TypeId × Value → H) (F : Stop.Interp) :
    ReturnsInHanded {} Try.checked os 5 .any ((OpenSpec.ofChange Rows.sumsPlaysSpec).preRow enc Try.prog Try.f5 Rows.sumsPlaysRow.domain false Rows.sumsPlaysRow.laid) (((OpenSpec.ofChange Rows.sumsPlaysSpec).at F).post enc Try.prog Try.f5 false true false false) := by
  refine returnsInHanded_of_row (C := Try.checked) (s := OpenSpec.ofChange Rows.sumsPlaysSpec) own started (by kernel_rfl) Try.func5
    (witness (enc := enc) #[.slice none 0 0] (World.shaped_of_ZipB (by kernel_rfl) (by kernel_rfl)) (by kernel_rfl)
      (OpenSpec.preRow_of_cond 8 (x := ([.nil], [], [])) (by kernel_rfl) (by kernel_rfl) (fun k hk => by cases hk) (by kernel_rfl) (laid_met os _))) ?_
  intro W base args ds gs before hval hW _ _ hR _ _ _
  exact sumsPlays_contract H enc W base args ds gs before hval hW hR

theorem sumsPlays_said : Rows.SumsPlaysSaid :=
  OpenClaim.holds_of_cond 5 Try.f5 rfl rfl rfl rfl rfl rfl rfl ⟨rfl, rfl, rfl, rfl, rfl⟩ rfl rfl rfl rfl rfl (by kernel_rfl) Try.func5 (by kernel_rfl)
    (of_decide_eq_true (by kernel_rfl)) (by unfold Func.isWrapper; first | (rw [if_pos (by decide +kernel)]; kernel_rfl) | (rw [if_neg (by decide +kernel)]; exact ⟨rfl, rfl⟩))
    (fun os started H enc _ F => by rw [OpenClaim.pre_eq_preRow]; exact sumsPlays_lifted os started H enc F)
end Go.Proofs.Ytijbmchgajhkeaa
