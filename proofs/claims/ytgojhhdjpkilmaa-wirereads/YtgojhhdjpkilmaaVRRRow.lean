import Derived.Test.YtgojhhdjpkilmaaRows
import Derived.Test.YtgojhhdjpkilmaaVRR
import Derived.Test.YtgojhhdjpkilmaaVScrArgs
namespace Go.Proofs.Ytgojhhdjpkilmaa
open Go.ChangeShapes Go.WideShapes Go.ChangeAt Go.RowKit

set_option maxRecDepth 100000 in
theorem wireReads_contract (H : Type) (enc : TypeId × Value → H) (W : World) (base : Nat) (args : Array Value) (ds gs : List (DataW H)) (before : List MemPlace)
    (hval : ∀ (j : Nat) t v, Try.f7.params[j]? = some t → args[j]? = some v → Value.okWide Try.prog W .any base t v)
    (hW : DataW.Whole enc Try.prog Try.f7.params.toList Rows.wireReadsSpec.vars false W args.toList ds gs before) (hR : (DataW.weightsEach Try.prog (Try.f7.params.toList ++ (OpenSpec.ofChange Rows.wireReadsSpec).bare.plain.varTypes Try.prog) (ds ++ gs)).all (· ≤ reachBytes) = true) :
    Calls Try.prog 7 args W fun e W' => ∃ v, e = .returned v ∧ Rows.wireReadsSpec.post enc Try.prog Try.f7 false true false false W args v W' := by
  have hW' := hW
  obtain ⟨p, q, hA0, hV, rfl, hfz, hnd⟩ := hW
  have hA : DataW.TrodAll enc Try.prog W 0 (fun _ => true) true Try.f7.params.toList args.toList ds p := hA0
  rw [Try.params7] at hA hval
  obtain ⟨v0, v1, v2, d0, d1, d2, p0, p1, p2, rfl, rfl, rfl, h0, h1, h2⟩ := trodAll_three hA
  obtain ⟨rfl, rfl⟩ := trodVars_none hV
  obtain ⟨hlt0, ts0, hts0, hd0⟩ := open_list Wi.EB Try.underlying22 cellsB (by decide) (fun fuel cs y hl h => trod_b fuel cs y hl h) (hval 0 22 v0 rfl rfl) h0
  have hz0 : ts0.length * 1 ≤ 140737488351232 := by
    rcases hd0 with ⟨rfl, rfl⟩ | ⟨elems, spare, rfl, hl⟩
    · simp
    · have h1 := sized_slice hR (j := 0) (t := 22) (e := 5) (elems := elems) (spare := spare) (by kernel_rfl) rfl Try.underlying22
      have : reachBytes ≤ 140737488351232 := by decide
      rw [show Try.prog.bytesOf 5 = 1 by kernel_rfl] at h1
      omega
  obtain ⟨hlt1, ts1, hts1, hd1⟩ := open_list Wi.EB Try.underlying22 cellsB (by decide) (fun fuel cs y hl h => trod_b fuel cs y hl h) (hval 1 22 v1 rfl rfl) h1
  have hz1 : ts1.length * 1 ≤ 140737488351232 := by
    rcases hd1 with ⟨rfl, rfl⟩ | ⟨elems, spare, rfl, hl⟩
    · simp
    · have h1 := sized_slice hR (j := 1) (t := 22) (e := 5) (elems := elems) (spare := spare) (by kernel_rfl) rfl Try.underlying22
      have : reachBytes ≤ 140737488351232 := by decide
      rw [show Try.prog.bytesOf 5 = 1 by kernel_rfl] at h1
      omega
  obtain ⟨hlt2, os, hos, hd2, _, _⟩ := open_script (hval 2 41 v2 rfl rfl) h2
  have hz2 : os.length * 56 ≤ 140737488351232 := by
    rcases hd2 with ⟨rfl, rfl⟩ | ⟨elems, spare, rfl, hl⟩
    · simp
    · have h1 := sized_slice hR (j := 2) (t := 41) (e := 47) (elems := elems) (spare := spare) (by kernel_rfl) rfl Try.underlying41
      have : reachBytes ≤ 140737488351232 := by decide
      rw [show Try.prog.bytesOf 47 = 56 by kernel_rfl] at h1
      omega
  simp only [List.append_nil] at hW'
  refine (Wi.rr_any W hts0 hts1 hos (by omega) (by omega) hz2).mono fun e W' ⟨he, hB⟩ => ?_
  subst he
  exact ⟨_, rfl, _, _, _, [], _, [], hW', trodAll_mk1 (shut_bool Try.underlying4 _), trodAll_mk3 (Below.trod laidOut (by kernel_rfl) (of_decide_eq_true (by kernel_rfl)) h0 hB hlt0) (Below.trod laidOut (by kernel_rfl) (of_decide_eq_true (by kernel_rfl)) h1 hB hlt1) (Below.trod laidOut (by kernel_rfl) (of_decide_eq_true (by kernel_rfl)) h2 hB hlt2), rfl, hB.frame _, fun h => by cases h⟩

set_option maxRecDepth 100000 in
theorem wireReads_lifted (os : Os) (started : os.Started) (H : Type) (enc : TypeId × Value → H) (F : Stop.Interp) :
    ReturnsInHanded {} Try.checked os 7 .any ((OpenSpec.ofChange Rows.wireReadsSpec).preRow enc Try.prog Try.f7 Rows.wireReadsRow.domain false Rows.wireReadsRow.laid) (((OpenSpec.ofChange Rows.wireReadsSpec).at F).post enc Try.prog Try.f7 false true false false) := by
  refine returnsInHanded_of_row (C := Try.checked) (s := OpenSpec.ofChange Rows.wireReadsSpec) own started (by kernel_rfl) Try.func7
    (witness (enc := enc) #[.slice none 0 0, .slice none 0 0, .slice none 0 0] (World.shaped_of_ZipB (by kernel_rfl) (by kernel_rfl)) (by kernel_rfl)
      (OpenSpec.preRow_of_cond 8 (x := ([.nil, .nil, .nil], [], [])) (by kernel_rfl) (by kernel_rfl) (fun k hk => by cases hk) (by kernel_rfl) (laid_met os _))) ?_
  intro W base args ds gs before hval hW _ _ hR _ _ _
  exact wireReads_contract H enc W base args ds gs before hval hW hR

theorem wireReads_said : Rows.WireReadsSaid :=
  OpenClaim.holds_of_cond 7 Try.f7 rfl rfl rfl rfl rfl rfl rfl ⟨rfl, rfl, rfl, rfl, rfl⟩ rfl rfl rfl rfl rfl (by kernel_rfl) Try.func7 (by kernel_rfl)
    (of_decide_eq_true (by kernel_rfl)) (by unfold Func.isWrapper; first | (rw [if_pos (by decide +kernel)]; kernel_rfl) | (rw [if_neg (by decide +kernel)]; exact ⟨rfl, rfl⟩))
    (fun os started H enc _ F => by rw [OpenClaim.pre_eq_preRow]; exact wireReads_lifted os started H enc F)
end Go.Proofs.Ytgojhhdjpkilmaa
