import Derived.Test.YtghpekkncfckaaaRows
import Derived.Test.YtghpekkncfckaaaCaFro
import Derived.Test.YtghpekkncfckaaaCaArgs
namespace Go.Proofs.Ytghpekkncfckaaa
open Go.ChangeShapes Go.WideShapes Go.ChangeAt Go.RowKit

set_option maxRecDepth 100000 in
theorem probeFronts_contract (H : Type) (enc : TypeId × Value → H) (W : World) (base : Nat) (args : Array Value) (ds gs : List (DataW H)) (before : List MemPlace)
    (hval : ∀ (j : Nat) t v, Try.f4.params[j]? = some t → args[j]? = some v → Value.okWide Try.prog W .any base t v)
    (hW : DataW.Whole enc Try.prog Try.f4.params.toList Rows.probeFrontsSpec.vars false W args.toList ds gs before) (hR : (DataW.weightsEach Try.prog (Try.f4.params.toList ++ (OpenSpec.ofChange Rows.probeFrontsSpec).bare.plain.varTypes Try.prog) (ds ++ gs)).all (· ≤ reachBytes) = true) :
    Calls Try.prog 4 args W fun e W' => ∃ v, e = .returned v ∧ Rows.probeFrontsSpec.post enc Try.prog Try.f4 false true false false W args v W' := by
  have hW' := hW
  obtain ⟨p, q, hA0, hV, rfl, hfz, hnd⟩ := hW
  have hA : DataW.TrodAll enc Try.prog W 0 (fun _ => true) true Try.f4.params.toList args.toList ds p := hA0
  rw [Try.params4] at hA hval
  obtain ⟨v0, v1, v2, d0, d1, d2, p0, p1, p2, rfl, rfl, rfl, h0, h1, h2⟩ := trodAll_three hA
  obtain ⟨rfl, rfl⟩ := trodVars_none hV
  obtain ⟨hlt0, ts0, hts0, hd0⟩ := open_list Ca.EC Try.underlying22 cellsCt (by decide) (fun fuel cs y hl h => trod_ct fuel cs y hl h) (hval 0 22 v0 rfl rfl) h0
  have hz0 : ts0.length * 40 ≤ 140737488351232 := by
    rcases hd0 with ⟨rfl, rfl⟩ | ⟨elems, spare, rfl, hl⟩
    · simp
    · have h1 := sized_slice hR (j := 0) (t := 22) (e := 36) (elems := elems) (spare := spare) (by kernel_rfl) rfl Try.underlying22
      have : reachBytes ≤ 140737488351232 := by decide
      rw [show Try.prog.bytesOf 36 = 40 by kernel_rfl] at h1
      omega
  obtain ⟨hlt1, ts1, hts1, hd1⟩ := open_list Ca.ET Try.underlying26 cellsTm (by decide) (fun fuel cs y hl h => trod_t3 fuel cs y hl h) (hval 1 26 v1 rfl rfl) h1
  have hz1 : ts1.length * 24 ≤ 140737488351232 := by
    rcases hd1 with ⟨rfl, rfl⟩ | ⟨elems, spare, rfl, hl⟩
    · simp
    · have h1 := sized_slice hR (j := 1) (t := 26) (e := 25) (elems := elems) (spare := spare) (by kernel_rfl) rfl Try.underlying26
      have : reachBytes ≤ 140737488351232 := by decide
      rw [show Try.prog.bytesOf 25 = 24 by kernel_rfl] at h1
      omega
  obtain ⟨hlt2, x2, rfl⟩ := open_t3 (hval 2 25 v2 rfl rfl) h2
  simp only [List.append_nil] at hW'
  refine (Ca.probeFronts_all x2 W hts0 hts1 hz0 hz1).mono fun e W' ⟨he, hB⟩ => ?_
  subst he
  exact ⟨_, rfl, _, _, _, [], _, [], hW', trodAll_mk1 (shut_bool Try.underlying4 _), trodAll_mk3 (Below.trod laidOut (by kernel_rfl) (of_decide_eq_true (by kernel_rfl)) h0 hB hlt0) (Below.trod laidOut (by kernel_rfl) (of_decide_eq_true (by kernel_rfl)) h1 hB hlt1) (Below.trod laidOut (by kernel_rfl) (of_decide_eq_true (by kernel_rfl)) h2 hB hlt2), rfl, hB.frame _, fun h => by cases h⟩

set_option maxRecDepth 100000 in
theorem probeFronts_lifted (os : Os) (started : os.Started) (H : Type) (enc : TypeId × Value → H) (F : Stop.Interp) :
    ReturnsInHanded {} Try.checked os 4 .any ((OpenSpec.ofChange Rows.probeFrontsSpec).preRow enc Try.prog Try.f4 Rows.probeFrontsRow.domain false Rows.probeFrontsRow.laid) (((OpenSpec.ofChange Rows.probeFrontsSpec).at F).post enc Try.prog Try.f4 false true false false) := by
  refine returnsInHanded_of_row (C := Try.checked) (s := OpenSpec.ofChange Rows.probeFrontsSpec) own started (by kernel_rfl) Try.func4
    (witness (enc := enc) #[.slice none 0 0, .slice none 0 0, .agg #[.int .u64 0, .int .u64 0, .int .u64 0]] (World.shaped_of_ZipB (by kernel_rfl) (by kernel_rfl)) (by kernel_rfl)
      (OpenSpec.preRow_of_cond 8 (x := ([.nil, .nil, .agg [.lit (.int .u64 0), .lit (.int .u64 0), .lit (.int .u64 0)]], [], [])) (by kernel_rfl) (by kernel_rfl) (fun k hk => by cases hk) (by kernel_rfl) (laid_met os _))) ?_
  intro W base args ds gs before hval hW _ _ hR _ _ _
  exact probeFronts_contract H enc W base args ds gs before hval hW hR

theorem probeFronts_said : Rows.ProbeFrontsSaid :=
  OpenClaim.holds_of_cond 4 Try.f4 rfl rfl rfl rfl rfl rfl rfl ⟨rfl, rfl, rfl, rfl, rfl⟩ rfl rfl rfl rfl rfl (by kernel_rfl) Try.func4 (by kernel_rfl)
    (of_decide_eq_true (by kernel_rfl)) (by unfold Func.isWrapper; first | (rw [if_pos (by decide +kernel)]; kernel_rfl) | (rw [if_neg (by decide +kernel)]; exact ⟨rfl, rfl⟩))
    (fun os started H enc _ F => by rw [OpenClaim.pre_eq_preRow]; exact probeFronts_lifted os started H enc F)
end Go.Proofs.Ytghpekkncfckaaa
