import Derived.Test.YtpglheijiolcgaaRows
import Derived.Test.YtpglheijiolcgaaWWalk
import Derived.Test.YtpglheijiolcgaaWArgs
import Derived.Test.YtpglheijiolcgaaCArgs
namespace Go.Proofs.Ytpglheijiolcgaa
open Go.ChangeShapes Go.WideShapes Go.ChangeAt Go.RowKit

set_option maxRecDepth 100000 in
theorem chainWords_contract (H : Type) (enc : TypeId × Value → H) (W : World) (base : Nat) (args : Array Value) (ds gs : List (DataW H)) (before : List MemPlace)
    (hval : ∀ (j : Nat) t v, Try.f6.params[j]? = some t → args[j]? = some v → Value.okWide Try.prog W .any base t v)
    (hW : DataW.Whole enc Try.prog Try.f6.params.toList Rows.chainWordsSpec.vars false W args.toList ds gs before) (hR : (DataW.weightsEach Try.prog (Try.f6.params.toList ++ (OpenSpec.ofChange Rows.chainWordsSpec).bare.plain.varTypes Try.prog) (ds ++ gs)).all (· ≤ reachBytes) = true) :
    Calls Try.prog 6 args W fun e W' => ∃ v, e = .returned v ∧ Rows.chainWordsSpec.post enc Try.prog Try.f6 false true false false W args v W' := by
  have hW' := hW
  obtain ⟨p, q, hA0, hV, rfl, hfz, hnd⟩ := hW
  have hA : DataW.TrodAll enc Try.prog W 0 (fun _ => true) true Try.f6.params.toList args.toList ds p := hA0
  rw [Try.params6] at hA hval
  obtain ⟨v0, d0, rfl, rfl, h0⟩ := trodAll_one hA
  obtain ⟨rfl, rfl⟩ := trodVars_none hV
  obtain ⟨hlt0, ss0, hss0, hd0⟩ := open_words (hval 0 40 v0 rfl rfl) h0
  have hrb : reachBytes ≤ 140737488351232 := by decide
  have hz0 : ss0.length * 16 ≤ 140737488351232 := by
    rcases hd0 with ⟨rfl, rfl⟩ | ⟨spare, rfl⟩
    · simp
    · have h1 := sized_slice hR (j := 0) (t := 40) (e := 9) (elems := strs ss0) (spare := spare) (by kernel_rfl) rfl Try.underlying40
      rw [show Try.prog.bytesOf 9 = 16 by kernel_rfl] at h1
      simp [strs] at h1
      omega
  have hb0 : ∀ x ∈ ss0, x.size ≤ 140737488351232 := fun x hx => by
    rcases hd0 with ⟨rfl, rfl⟩ | ⟨spare, rfl⟩
    · simp at hx
    · have h1 := sized_words hR (j := 0) (t := 40) (e := 9) (elems := strs ss0) (spare := spare) (bytes := x.data.toList) (by kernel_rfl) rfl Try.underlying40 (List.mem_map.2 ⟨x, hx, rfl⟩)
      have h2 : x.data.toList.length = x.size := rfl
      omega
  simp only [List.append_nil] at hW'
  refine (Wd.chainWords_any v0 ss0 W hss0 hz0 hb0).mono fun e W' ⟨he, hB⟩ => ?_
  subst he
  exact ⟨_, rfl, _, _, _, [], _, [], hW', trodAll_mk1 (shut_bool Try.underlying4 _), trodAll_mk1 (Below.trod laidOut (by kernel_rfl) (of_decide_eq_true (by kernel_rfl)) h0 hB hlt0), rfl, hB.frame _, fun h => by cases h⟩

set_option maxRecDepth 100000 in
theorem chainWords_lifted (os : Os) (started : os.Started) (H : Type) (enc : TypeId × Value → H) (F : Stop.Interp) :
    ReturnsInHanded {} Try.checked os 6 .any ((OpenSpec.ofChange Rows.chainWordsSpec).preRow enc Try.prog Try.f6 Rows.chainWordsRow.domain false Rows.chainWordsRow.laid) (((OpenSpec.ofChange Rows.chainWordsSpec).at F).post enc Try.prog Try.f6 false true false false) := by
  refine returnsInHanded_of_row (C := Try.checked) (s := OpenSpec.ofChange Rows.chainWordsSpec) own started (by kernel_rfl) Try.func6
    (witness (enc := enc) #[.slice none 0 0] (World.shaped_of_ZipB (by kernel_rfl) (by kernel_rfl)) (by kernel_rfl)
      (OpenSpec.preRow_of_cond 8 (x := ([.nil], [], [])) (by kernel_rfl) (by kernel_rfl) (fun k hk => by cases hk) (by kernel_rfl) (laid_met os _))) ?_
  intro W base args ds gs before hval hW _ _ hR _ _ _
  exact chainWords_contract H enc W base args ds gs before hval hW hR

theorem chainWords_said : Rows.ChainWordsSaid :=
  OpenClaim.holds_of_cond 6 Try.f6 rfl rfl rfl rfl rfl rfl rfl ⟨rfl, rfl, rfl, rfl, rfl⟩ rfl rfl rfl rfl rfl (by kernel_rfl) Try.func6 (by kernel_rfl)
    (of_decide_eq_true (by kernel_rfl)) (by unfold Func.isWrapper; first | (rw [if_pos (by decide +kernel)]; kernel_rfl) | (rw [if_neg (by decide +kernel)]; exact ⟨rfl, rfl⟩))
    (fun os started H enc _ F => by rw [OpenClaim.pre_eq_preRow]; exact chainWords_lifted os started H enc F)
end Go.Proofs.Ytpglheijiolcgaa
