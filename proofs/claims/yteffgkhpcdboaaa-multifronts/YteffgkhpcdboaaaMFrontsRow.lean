import Derived.Test.YteffgkhpcdboaaaRows
import Derived.Test.YteffgkhpcdboaaaMFronts
import Derived.Test.YteffgkhpcdboaaaMArgs
namespace Go.Proofs.Yteffgkhpcdboaaa
open Go.ChangeShapes Go.WideShapes Go.ChangeAt Go.RowKit

set_option maxRecDepth 100000 in
theorem multiFronts_contract (H : Type) (enc : TypeId × Value → H) (W : World) (base : Nat) (args : Array Value) (ds gs : List (DataW H)) (before : List MemPlace)
    (hval : ∀ (j : Nat) t v, Try.f5.params[j]? = some t → args[j]? = some v → Value.okWide Try.prog W .any base t v)
    (hW : DataW.Whole enc Try.prog Try.f5.params.toList Rows.multiFrontsSpec.vars false W args.toList ds gs before) (hR : (DataW.weightsEach Try.prog (Try.f5.params.toList ++ (OpenSpec.ofChange Rows.multiFrontsSpec).bare.plain.varTypes Try.prog) (ds ++ gs)).all (· ≤ reachBytes) = true) :
    Calls Try.prog 5 args W fun e W' => ∃ v, e = .returned v ∧ Rows.multiFrontsSpec.post enc Try.prog Try.f5 false true false false W args v W' := by
  have hW' := hW
  obtain ⟨p, q, hA0, hV, rfl, hfz, hnd⟩ := hW
  have hA : DataW.TrodAll enc Try.prog W 0 (fun _ => true) true Try.f5.params.toList args.toList ds p := hA0
  rw [Try.params5] at hA hval
  obtain ⟨v0, v1, d0, d1, p0, p1, rfl, rfl, rfl, h0, h1⟩ := trodAll_two hA
  obtain ⟨rfl, rfl⟩ := trodVars_none hV
  obtain ⟨hlt0, ts0, hts0, hd0⟩ := open_list ED Try.underlying28 cellsDl (by decide) (fun fuel cs y hl h => trod_dl fuel cs y hl h) (hval 0 28 v0 rfl rfl) h0
  have hz0 : ts0.length * 32 ≤ 140737488351232 := by
    rcases hd0 with ⟨rfl, rfl⟩ | ⟨elems, spare, rfl, hl⟩
    · simp
    · have h1 := sized_slice hR (j := 0) (t := 28) (e := 33) (elems := elems) (spare := spare) (by kernel_rfl) rfl Try.underlying28
      have : reachBytes ≤ 140737488351232 := by decide
      rw [show Try.prog.bytesOf 33 = 32 by kernel_rfl] at h1
      omega
  obtain ⟨hlt1, ts1, hts1, hd1⟩ := open_list ET Try.underlying38 cellsTm (by decide) (fun fuel cs y hl h => trod_tm fuel cs y hl h) (hval 1 38 v1 rfl rfl) h1
  have hz1 : ts1.length * 24 ≤ 140737488351232 := by
    rcases hd1 with ⟨rfl, rfl⟩ | ⟨elems, spare, rfl, hl⟩
    · simp
    · have h1 := sized_slice hR (j := 1) (t := 38) (e := 24) (elems := elems) (spare := spare) (by kernel_rfl) rfl Try.underlying38
      have : reachBytes ≤ 140737488351232 := by decide
      rw [show Try.prog.bytesOf 24 = 24 by kernel_rfl] at h1
      omega
  simp only [List.append_nil] at hW'
  refine (fronts_any v0 v1 ts0 ts1 W hts0 hts1 (by omega) (by omega)).mono fun e W' ⟨he, hB⟩ => ?_
  subst he
  exact ⟨_, rfl, _, _, _, [], _, [], hW', trodAll_mk1 (shut_bool Try.underlying4 _), trodAll_mk2 (Below.trod laidOut (by kernel_rfl) (of_decide_eq_true (by kernel_rfl)) h0 hB hlt0) (Below.trod laidOut (by kernel_rfl) (of_decide_eq_true (by kernel_rfl)) h1 hB hlt1), rfl, hB.frame _, fun h => by cases h⟩

set_option maxRecDepth 100000 in
theorem multiFronts_lifted (os : Os) (started : os.Started) (H : Type) (enc : TypeId × Value → H) (F : Stop.Interp) :
    ReturnsInHanded {} Try.checked os 5 .any ((OpenSpec.ofChange Rows.multiFrontsSpec).preRow enc Try.prog Try.f5 Rows.multiFrontsRow.domain false Rows.multiFrontsRow.laid) (((OpenSpec.ofChange Rows.multiFrontsSpec).at F).post enc Try.prog Try.f5 false true false false) := by
  refine returnsInHanded_of_row (C := Try.checked) (s := OpenSpec.ofChange Rows.multiFrontsSpec) own started (by kernel_rfl) Try.func5
    (witness (enc := enc) #[.slice none 0 0, .slice none 0 0] (World.shaped_of_ZipB (by kernel_rfl) (by kernel_rfl)) (by kernel_rfl)
      (OpenSpec.preRow_of_cond 8 (x := ([.nil, .nil], [], [])) (by kernel_rfl) (by kernel_rfl) (fun k hk => by cases hk) (by kernel_rfl) (laid_met os _))) ?_
  intro W base args ds gs before hval hW _ _ hR _ _ _
  exact multiFronts_contract H enc W base args ds gs before hval hW hR

theorem multiFronts_said : Rows.MultiFrontsSaid :=
  OpenClaim.holds_of_cond 5 Try.f5 rfl rfl rfl rfl rfl rfl rfl ⟨rfl, rfl, rfl, rfl, rfl⟩ rfl rfl rfl rfl rfl (by kernel_rfl) Try.func5 (by kernel_rfl)
    (of_decide_eq_true (by kernel_rfl)) (by unfold Func.isWrapper; first | (rw [if_pos (by decide +kernel)]; kernel_rfl) | (rw [if_neg (by decide +kernel)]; exact ⟨rfl, rfl⟩))
    (fun os started H enc _ F => by rw [OpenClaim.pre_eq_preRow]; exact multiFronts_lifted os started H enc F)
end Go.Proofs.Yteffgkhpcdboaaa
