import Derived.Test.YtmhbpelbkeclpaaGreatDoorCards
import Derived.Test.YtmhbpelbkeclpaaGreatDoorTie
import Derived.Test.YtmhbpelbkeclpaaGreatDoorSFrontsEnd
import Derived.Test.YtmhbpelbkeclpaaGreatDoorArgsS
import Derived.SevenTiedAt
import Derived.ShutString
namespace Go.Proofs.YtmhbpelbkeclpaaGreatDoor
open Go.ChangeShapes Go.WideShapes Go.ChangeAt Go.RowKit
open Go.ChangeMaps (open_string shut_string)

set_option maxRecDepth 100000 in
theorem stampFronts_contract (H : Type) (enc : TypeId × Value → H) (W : World) (base : Nat) (args : Array Value) (ds gs : List (DataW H)) (before : List MemPlace)
    (hval : ∀ (j : Nat) t v, Tryz.f3.params[j]? = some t → args[j]? = some v → Value.okWide Tryz.prog W .any base t v)
    (hW : DataW.Whole enc Tryz.prog Tryz.f3.params.toList Rows.stampFrontsSpec.vars false W args.toList ds gs before) (hR : (DataW.weightsEach Tryz.prog (Tryz.f3.params.toList ++ (OpenSpec.ofChange Rows.stampFrontsSpec).bare.plain.varTypes Tryz.prog) (ds ++ gs)).all (· ≤ reachBytes) = true) (hL : laidMetH Tryz.prog laidL W) :
    Calls Tryz.prog 3 args W fun e W' => ∃ v, e = .returned v ∧ Rows.stampFrontsSpec.post enc Tryz.prog Tryz.f3 false true false false W args v W' := by
  have hW' := hW
  obtain ⟨p, q, hA0, hV, rfl, hfz, hnd⟩ := hW
  have hA : DataW.TrodAll enc Tryz.prog W 0 (fun _ => true) true Tryz.f3.params.toList args.toList ds p := hA0
  rw [Tryz.params3] at hA hval
  obtain ⟨v0, v1, d0, d1, p0, p1, rfl, rfl, rfl, h0, h1⟩ := trodAll_two hA
  obtain ⟨rfl, rfl⟩ := trodVars_none hV
  obtain ⟨hlt0, ts0, hts0, hd0⟩ := open_times (hval 0 22 v0 rfl rfl) h0
  have hz0 : ts0.length * 24 ≤ 140737488351232 := by
    rcases hd0 with ⟨rfl, rfl⟩ | ⟨elems, spare, rfl, hl⟩
    · simp
    · have h1 := sized_slice hR (j := 0) (t := 22) (e := 25) (elems := elems) (spare := spare) (by kernel_rfl) rfl Tryz.underlying22
      have : reachBytes ≤ 140737488351232 := by decide
      rw [show Tryz.prog.bytesOf 25 = 24 by kernel_rfl] at h1
      omega
  obtain ⟨a1, b1, c1, rfl, rfl, ha1, hb1, hc1⟩ := open_time (hval 1 25 v1 rfl rfl) h1
  simp only [List.append_nil] at hW'
  refine (fronts_any v0 ts0 a1 b1 c1 W (env_of_laid hL) hts0 hz0).mono fun e W' ⟨he, hB⟩ => ?_
  subst he
  exact ⟨_, rfl, _, _, _, [], _, [], hW', trodAll_mk1 (shut_bool Tryz.underlying4 _), trodAll_mk2 (Below.trod laidOut (by kernel_rfl) (of_decide_eq_true (by kernel_rfl)) h0 hB hlt0) (Below.trod laidOut (by kernel_rfl) (of_decide_eq_true (by kernel_rfl)) h1 hB (fun x hx => by cases hx)), rfl, hB.frame _, fun h => by cases h⟩

set_option maxRecDepth 100000 in
theorem stampFronts_lifted (os : Os) (started : os.Started) (H : Type) (enc : TypeId × Value → H) (F : Stop.Interp) :
    ReturnsInHanded {} Tryz.checked os 3 .any ((OpenSpec.ofChange Rows.stampFrontsSpec).preRow enc Tryz.prog Tryz.f3 Rows.stampFrontsRow.domain false Rows.stampFrontsRow.laid) (((OpenSpec.ofChange Rows.stampFrontsSpec).at F).post enc Tryz.prog Tryz.f3 false true false false) := by
  refine returnsInHanded_of_row (C := Tryz.checked) (s := OpenSpec.ofChange Rows.stampFrontsSpec) own started (by kernel_rfl) Tryz.func3
    (witness (enc := enc) #[.slice none 0 0, .agg #[.int .u64 0, .int .u64 0, .int .u64 0]] (World.shaped_of_ZipB (by kernel_rfl) (by kernel_rfl)) (by kernel_rfl)
      (OpenSpec.preRow_of_cond 8 (x := ([.nil, .agg [.lit (.int .u64 0), .lit (.int .u64 0), .lit (.int .u64 0)]], [], [])) (by kernel_rfl) (by kernel_rfl) (fun k hk => by cases hk) (by kernel_rfl) (laid_met os _))) ?_
  intro W base args ds gs before hval hW _ _ hR hL _ _
  exact stampFronts_contract H enc W base args ds gs before hval hW hR hL

theorem stampFronts_said : Rows.StampFrontsSaid :=
  OpenClaim.holds_of_cond 3 Tryz.f3 rfl rfl rfl rfl rfl rfl rfl ⟨rfl, rfl, rfl, rfl, rfl⟩ rfl rfl rfl rfl rfl (by kernel_rfl) Tryz.func3 (by kernel_rfl)
    (of_decide_eq_true (by kernel_rfl)) (by unfold Func.isWrapper; first | (rw [if_pos (by decide +kernel)]; kernel_rfl) | (rw [if_neg (by decide +kernel)]; exact ⟨rfl, rfl⟩))
    (fun os started H enc _ F => by rw [OpenClaim.pre_eq_preRow]; exact stampFronts_lifted os started H enc F)

theorem stampFronts_plain (f : FuncId) (fn : Func) (hf : Tryz.pinned.checked.prog.funcNamed "sluice/sluicelaw01.StampFronts" = some f) (hfn : Tryz.pinned.checked.prog.funcs[f]? = some fn) :
    true = Tryz.pinned.checked.prog.looks [] ∧ ∀ (j : Nat) t, fn.params[j]? = some t → Tryz.pinned.checked.prog.wantsStandIn t = false := by
  obtain rfl : f = 3 := Option.some.inj ((show Tryz.prog.funcNamed "sluice/sluicelaw01.StampFronts" = some 3 by kernel_rfl).symm.trans hf) |>.symm
  obtain rfl : fn = Tryz.f3 := (Option.some.inj (Tryz.func3.symm.trans hfn)).symm
  refine ⟨by kernel_rfl, fun j t ht => ?_⟩
  rw [Tryz.params3] at ht
  have hm : t ∈ [22, 25] := by
    have := Array.mem_of_getElem? ht
    simp at this ⊢
    omega
  have hall : ([22, 25].all fun u => !Tryz.prog.wantsStandIn u) = true := by kernel_rfl
  exact (show Tryz.prog.wantsStandIn t = false by simpa using List.all_eq_true.1 hall t hm)

theorem stampFronts_card : Rows.StampFrontsCardSaid :=
  Claim7.holds_tied_plain_at .later [] _ _ _ _ stampFronts_said (fun _ h => by cases h) (by kernel_rfl) (fun _ h => by cases h) stampFronts_row_tie rfl ⟨rfl, rfl⟩ (by kernel_rfl) rfl stampFronts_plain (by kernel_rfl)
end Go.Proofs.YtmhbpelbkeclpaaGreatDoor
