import Derived.Test.YtcdmgclkgojgaaaRows
import Derived.Test.YtcdmgclkgojgaaaPoOrd
import Derived.Test.YtcdmgclkgojgaaaPoArgs
namespace Go.Proofs.Ytcdmgclkgojgaaa
open Go.ChangeShapes Go.WideShapes Go.ChangeAt Go.RowKit

set_option maxRecDepth 100000 in
theorem postOrder_contract (H : Type) (enc : TypeId × Value → H) (W : World) (base : Nat) (args : Array Value) (ds gs : List (DataW H)) (before : List MemPlace)
    (hval : ∀ (j : Nat) t v, Try.f3.params[j]? = some t → args[j]? = some v → Value.okWide Try.prog W .any base t v)
    (hW : DataW.Whole enc Try.prog Try.f3.params.toList Rows.postOrderSpec.vars false W args.toList ds gs before) (hR : (DataW.weightsEach Try.prog (Try.f3.params.toList ++ (OpenSpec.ofChange Rows.postOrderSpec).bare.plain.varTypes Try.prog) (ds ++ gs)).all (· ≤ reachBytes) = true) :
    Calls Try.prog 3 args W fun e W' => ∃ v, e = .returned v ∧ Rows.postOrderSpec.post enc Try.prog Try.f3 false true false false W args v W' := by
  have hW' := hW
  obtain ⟨p, q, hA0, hV, rfl, hfz, hnd⟩ := hW
  have hA : DataW.TrodAll enc Try.prog W 0 (fun _ => true) true Try.f3.params.toList args.toList ds p := hA0
  rw [Try.params3] at hA hval
  obtain ⟨v0, v1, d0, d1, p0, p1, rfl, rfl, rfl, h0, h1⟩ := trodAll_two hA
  obtain ⟨rfl, rfl⟩ := trodVars_none hV
  obtain ⟨n0, rfl, rfl, rfl, wn0⟩ := open_int Try.underlying3 (hval 0 3 v0 rfl rfl) h0
  obtain ⟨hlt1, ts1, hts1, hd1⟩ := open_list Po.ET Try.underlying22 cellsOp (by decide) (fun fuel cs y hl h => trod_op fuel cs y hl h) (hval 1 22 v1 rfl rfl) h1
  have hz1 : ts1.length * 40 ≤ 140737488351232 := by
    rcases hd1 with ⟨rfl, rfl⟩ | ⟨elems, spare, rfl, hl⟩
    · simp
    · have h1 := sized_slice hR (j := 1) (t := 22) (e := 28) (elems := elems) (spare := spare) (by kernel_rfl) rfl Try.underlying22
      have : reachBytes ≤ 140737488351232 := by decide
      rw [show Try.prog.bytesOf 28 = 40 by kernel_rfl] at h1
      omega
  simp only [List.append_nil] at hW'
  refine (Po.postOrder_any n0 v1 ts1 W hts1 hz1).mono fun e W' ⟨he, hB⟩ => ?_
  subst he
  exact ⟨_, rfl, _, _, _, [], _, [], hW', trodAll_mk1 (shut_bool Try.underlying4 _), trodAll_mk2 (shut_int Try.underlying3 wn0) (Below.trod laidOut (by kernel_rfl) (of_decide_eq_true (by kernel_rfl)) h1 hB hlt1), rfl, hB.frame _, fun h => by cases h⟩

set_option maxRecDepth 100000 in
theorem postOrder_lifted (os : Os) (started : os.Started) (H : Type) (enc : TypeId × Value → H) (F : Stop.Interp) :
    ReturnsInHanded {} Try.checked os 3 .any ((OpenSpec.ofChange Rows.postOrderSpec).preRow enc Try.prog Try.f3 Rows.postOrderRow.domain false Rows.postOrderRow.laid) (((OpenSpec.ofChange Rows.postOrderSpec).at F).post enc Try.prog Try.f3 false true false false) := by
  refine returnsInHanded_of_row (C := Try.checked) (s := OpenSpec.ofChange Rows.postOrderSpec) own started (by kernel_rfl) Try.func3
    (witness (enc := enc) #[.int .i64 0, .slice none 0 0] (World.shaped_of_ZipB (by kernel_rfl) (by kernel_rfl)) (by kernel_rfl)
      (OpenSpec.preRow_of_cond 8 (x := ([.lit (.int .i64 0), .nil], [], [])) (by kernel_rfl) (by kernel_rfl) (fun k hk => by cases hk) (by kernel_rfl) (laid_met os _))) ?_
  intro W base args ds gs before hval hW _ _ hR _ _ _
  exact postOrder_contract H enc W base args ds gs before hval hW hR

theorem postOrder_said : Rows.PostOrderSaid :=
  OpenClaim.holds_of_cond 3 Try.f3 rfl rfl rfl rfl rfl rfl rfl ⟨rfl, rfl, rfl, rfl, rfl⟩ rfl rfl rfl rfl rfl (by kernel_rfl) Try.func3 (by kernel_rfl)
    (of_decide_eq_true (by kernel_rfl)) (by unfold Func.isWrapper; first | (rw [if_pos (by decide +kernel)]; kernel_rfl) | (rw [if_neg (by decide +kernel)]; exact ⟨rfl, rfl⟩))
    (fun os started H enc _ F => by rw [OpenClaim.pre_eq_preRow]; exact postOrder_lifted os started H enc F)
end Go.Proofs.Ytcdmgclkgojgaaa
