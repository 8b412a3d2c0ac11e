import Derived.Test.YtghofmhlmkpkcaaDoorCards
import Derived.Test.YtghofmhlmkpkcaaDoorTie
import Derived.Test.YtghofmhlmkpkcaaDoorBGets
import Derived.Test.YtghofmhlmkpkcaaDoorBArgs
import Derived.SevenTiedAt
namespace Go.Proofs.YtghofmhlmkpkcaaDoor
open Go.ChangeShapes Go.WideShapes Go.ChangeAt Go.RowKit

set_option maxRecDepth 100000 in
theorem batchGetsUpto_contract (H : Type) (enc : TypeId × Value → H) (W : World) (base : Nat) (args : Array Value) (ds gs : List (DataW H)) (before : List MemPlace)
    (hval : ∀ (j : Nat) t v, Tryd.f6.params[j]? = some t → args[j]? = some v → Value.okWide Tryd.prog W .any base t v)
    (hW : DataW.Whole enc Tryd.prog Tryd.f6.params.toList Rows.batchGetsSpec.vars false W args.toList ds gs before) (hk : Rows.uptoSmall H (ds ++ gs) = true) (hL : laidMetH Tryd.prog laidL W) :
    Calls Tryd.prog 6 args W fun e W' => ∃ v, e = .returned v ∧ Rows.batchGetsSpec.post enc Tryd.prog Tryd.f6 false true false false W args v W' := by
  have hW' := hW
  obtain ⟨p, q, hA0, hV, rfl, hfz, hnd⟩ := hW
  have hA : DataW.TrodAll enc Tryd.prog W 0 (fun _ => true) true Tryd.f6.params.toList args.toList ds p := hA0
  rw [Tryd.params6] at hA hval
  obtain ⟨v0, v1, v2, d0, d1, d2, p0, p1, p2, rfl, rfl, rfl, h0, h1, h2⟩ := trodAll_three hA
  obtain ⟨rfl, rfl⟩ := trodVars_none hV
  have hkk := of_decide_eq_true hk
  obtain ⟨hlt0, ts0, hts0, hd0⟩ := open_list Wi.EB Tryd.underlying22 cellsB (by decide) (fun fuel cs y hl h => trod_b fuel cs y hl h) (hval 0 22 v0 rfl rfl) h0
  have hz0 : ts0.length ≤ 1048576 := by
    rcases hd0 with ⟨rfl, rfl⟩ | ⟨elems, spare, rfl, hl⟩
    · simp
    · have h2 := bulk_mem (elems := elems) (spare := spare) (l := [.slice elems spare, d1, d2] ++ []) (by simp)
      rw [hl] at h2
      exact Nat.le_trans h2 hkk
  obtain ⟨hlt1, ts1, hts1, hd1⟩ := open_list Wi.EB Tryd.underlying22 cellsB (by decide) (fun fuel cs y hl h => trod_b fuel cs y hl h) (hval 1 22 v1 rfl rfl) h1
  have hz1 : ts1.length ≤ 1048576 := by
    rcases hd1 with ⟨rfl, rfl⟩ | ⟨elems, spare, rfl, hl⟩
    · simp
    · have h2 := bulk_mem (elems := elems) (spare := spare) (l := [d0, .slice elems spare, d2] ++ []) (by simp)
      rw [hl] at h2
      exact Nat.le_trans h2 hkk
  obtain ⟨n2, rfl, rfl, rfl, wn2⟩ := open_int Tryd.underlying3 (hval 2 3 v2 rfl rfl) h2
  simp only [List.append_nil] at hW'
  refine (Wi.batchGets_any n2 W (ety_of_laid hL) hts0 hts1 hz0 hz1).mono fun e W' ⟨he, hB⟩ => ?_
  subst he
  exact ⟨_, rfl, _, _, _, [], _, [], hW', trodAll_mk1 (shut_bool Tryd.underlying4 _), trodAll_mk3 (Below.trod laidOut (by kernel_rfl) (of_decide_eq_true (by kernel_rfl)) h0 hB hlt0) (Below.trod laidOut (by kernel_rfl) (of_decide_eq_true (by kernel_rfl)) h1 hB hlt1) (shut_int Tryd.underlying3 wn2), rfl, hB.frame _, fun h => by cases h⟩

set_option maxRecDepth 100000 in
theorem batchGetsUpto_lifted (os : Os) (started : os.Started) (H : Type) (enc : TypeId × Value → H) (F : Stop.Interp) :
    ReturnsInHanded {} Tryd.checked os 6 .any ((Rows.OpenSpec.upto Rows.batchGetsSpec).preRow enc Tryd.prog Tryd.f6 Rows.batchGetsUptoRow.domain false Rows.batchGetsUptoRow.laid) (((Rows.OpenSpec.upto Rows.batchGetsSpec).at F).post enc Tryd.prog Tryd.f6 false true false false) := by
  refine returnsInHanded_of_row (C := Tryd.checked) (s := (Rows.OpenSpec.upto Rows.batchGetsSpec)) own started (by kernel_rfl) Tryd.func6
    (witness (enc := enc) #[.slice none 0 0, .slice none 0 0, .int .i64 0] (World.shaped_of_ZipB (by kernel_rfl) (by kernel_rfl)) (by kernel_rfl)
      (OpenSpec.preRow_of_cond 8 (x := ([.nil, .nil, .lit (.int .i64 0)], [], [])) (by kernel_rfl) (by kernel_rfl) (fun k hk => by cases hk; kernel_rfl) (by kernel_rfl) (laid_met os _))) ?_
  intro W base args ds gs before hval hW _ hC _ hL _ _
  exact batchGetsUpto_contract H enc W base args ds gs before hval hW (hC _ rfl) hL

theorem batchGetsUpto_said : Rows.BatchGetsUptoSaid :=
  OpenClaim.holds_of_cond 6 Tryd.f6 rfl rfl rfl rfl rfl rfl rfl ⟨rfl, rfl, rfl, rfl, rfl⟩ rfl rfl rfl rfl rfl (by kernel_rfl) Tryd.func6 (by kernel_rfl)
    (of_decide_eq_true (by kernel_rfl)) (by unfold Func.isWrapper; first | (rw [if_pos (by decide +kernel)]; kernel_rfl) | (rw [if_neg (by decide +kernel)]; exact ⟨rfl, rfl⟩))
    (fun os started H enc _ F => by rw [OpenClaim.pre_eq_preRow]; exact batchGetsUpto_lifted os started H enc F)

theorem batchGetsUpto_plain (f : FuncId) (fn : Func) (hf : Tryd.pinned.checked.prog.funcNamed "sluice/sluicelaw15.BatchGets" = some f) (hfn : Tryd.pinned.checked.prog.funcs[f]? = some fn) :
    true = Tryd.pinned.checked.prog.looks [] ∧ ∀ (j : Nat) t, fn.params[j]? = some t → Tryd.pinned.checked.prog.wantsStandIn t = false := by
  obtain rfl : f = 6 := Option.some.inj ((show Tryd.prog.funcNamed "sluice/sluicelaw15.BatchGets" = some 6 by kernel_rfl).symm.trans hf) |>.symm
  obtain rfl : fn = Tryd.f6 := (Option.some.inj (Tryd.func6.symm.trans hfn)).symm
  refine ⟨by kernel_rfl, fun j t ht => ?_⟩
  rw [Tryd.params6] at ht
  have hm : t ∈ [22, 22, 3] := by
    have := Array.mem_of_getElem? ht
    simp at this ⊢
    omega
  have hall : ([22, 22, 3].all fun u => !Tryd.prog.wantsStandIn u) = true := by kernel_rfl
  exact (show Tryd.prog.wantsStandIn t = false by simpa using List.all_eq_true.1 hall t hm)

theorem batchGetsUpto_card : Rows.BatchGetsUptoCardSaid :=
  Claim7.holds_tied_plain_at .later [] _ _ _ _ batchGetsUpto_said (fun _ h => by cases h) (by kernel_rfl) (fun _ h => by cases h) batchGetsUpto_row_tie rfl ⟨rfl, rfl⟩ (by kernel_rfl) rfl batchGetsUpto_plain (by kernel_rfl)
end Go.Proofs.YtghofmhlmkpkcaaDoor
