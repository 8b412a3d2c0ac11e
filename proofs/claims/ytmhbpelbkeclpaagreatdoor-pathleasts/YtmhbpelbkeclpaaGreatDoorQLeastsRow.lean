import Derived.Test.YtmhbpelbkeclpaaGreatDoorCards
import Derived.Test.YtmhbpelbkeclpaaGreatDoorTie
import Derived.Test.YtmhbpelbkeclpaaGreatDoorQLeasts
import Derived.Test.YtmhbpelbkeclpaaGreatDoorPArgsT
import Derived.SevenTiedAt
import Derived.ShutString
namespace Go.Proofs.YtmhbpelbkeclpaaGreatDoor
open Go.ChangeShapes Go.WideShapes Go.ChangeAt Go.RowKit
open Go.ChangeMaps (open_string shut_string)

set_option maxRecDepth 100000 in
theorem pathLeasts_contract (H : Type) (enc : TypeId × Value → H) (W : World) (base : Nat) (args : Array Value) (ds gs : List (DataW H)) (before : List MemPlace)
    (hval : ∀ (j : Nat) t v, Tryz.f4.params[j]? = some t → args[j]? = some v → Value.okWide Tryz.prog W .any base t v)
    (hW : DataW.Whole enc Tryz.prog Tryz.f4.params.toList Rows.pathLeastsSpec.vars false W args.toList ds gs before) (hR : (DataW.weightsEach Tryz.prog (Tryz.f4.params.toList ++ (OpenSpec.ofChange Rows.pathLeastsSpec).bare.plain.varTypes Tryz.prog) (ds ++ gs)).all (· ≤ reachBytes) = true) (hL : laidMetH Tryz.prog laidL W) :
    Calls Tryz.prog 4 args W fun e W' => ∃ v, e = .returned v ∧ Rows.pathLeastsSpec.post enc Tryz.prog Tryz.f4 false true false false W args v W' := by
  have hW' := hW
  obtain ⟨p, q, hA0, hV, rfl, hfz, hnd⟩ := hW
  have hA : DataW.TrodAll enc Tryz.prog W 0 (fun _ => true) true Tryz.f4.params.toList args.toList ds p := hA0
  rw [Tryz.params4] at hA hval
  obtain ⟨v0, v1, d0, d1, p0, p1, rfl, rfl, rfl, h0, h1⟩ := trodAll_two hA
  obtain ⟨rfl, rfl⟩ := trodVars_none hV
  obtain ⟨hlt0, ts0, hts0, hd0⟩ := open_paths (hval 0 33 v0 rfl rfl) h0
  have hz0 : ts0.length * 24 ≤ 140737488351232 := by
    rcases hd0 with ⟨rfl, rfl⟩ | ⟨elems, spare, rfl, hl⟩
    · simp
    · have h1 := sized_slice hR (j := 0) (t := 33) (e := 34) (elems := elems) (spare := spare) (by kernel_rfl) rfl Tryz.underlying33
      have : reachBytes ≤ 140737488351232 := by decide
      rw [show Tryz.prog.bytesOf 34 = 24 by kernel_rfl] at h1
      omega
  obtain ⟨hlt1, ts1, hts1, hd1⟩ := open_paths (hval 1 33 v1 rfl rfl) h1
  have hz1 : ts1.length * 24 ≤ 140737488351232 := by
    rcases hd1 with ⟨rfl, rfl⟩ | ⟨elems, spare, rfl, hl⟩
    · simp
    · have h1 := sized_slice hR (j := 1) (t := 33) (e := 34) (elems := elems) (spare := spare) (by kernel_rfl) rfl Tryz.underlying33
      have : reachBytes ≤ 140737488351232 := by decide
      rw [show Tryz.prog.bytesOf 34 = 24 by kernel_rfl] at h1
      omega
  simp only [List.append_nil] at hW'
  refine (leasts_any v0 v1 ts0 ts1 W (env_of_laid hL) hts0 hts1 hz0 hz1).mono fun e W' ⟨he, hB⟩ => ?_
  subst he
  exact ⟨_, rfl, _, _, _, [], _, [], hW', trodAll_mk1 (shut_bool Tryz.underlying4 _), trodAll_mk2 (Below.trod laidOut (by kernel_rfl) (of_decide_eq_true (by kernel_rfl)) h0 hB hlt0) (Below.trod laidOut (by kernel_rfl) (of_decide_eq_true (by kernel_rfl)) h1 hB hlt1), rfl, hB.frame _, fun h => by cases h⟩

set_option maxRecDepth 100000 in
theorem pathLeasts_lifted (os : Os) (started : os.Started) (H : Type) (enc : TypeId × Value → H) (F : Stop.Interp) :
    ReturnsInHanded {} Tryz.checked os 4 .any ((OpenSpec.ofChange Rows.pathLeastsSpec).preRow enc Tryz.prog Tryz.f4 Rows.pathLeastsRow.domain false Rows.pathLeastsRow.laid) (((OpenSpec.ofChange Rows.pathLeastsSpec).at F).post enc Tryz.prog Tryz.f4 false true false false) := by
  refine returnsInHanded_of_row (C := Tryz.checked) (s := OpenSpec.ofChange Rows.pathLeastsSpec) own started (by kernel_rfl) Tryz.func4
    (witness (enc := enc) #[.slice none 0 0, .slice none 0 0] (World.shaped_of_ZipB (by kernel_rfl) (by kernel_rfl)) (by kernel_rfl)
      (OpenSpec.preRow_of_cond 8 (x := ([.nil, .nil], [], [])) (by kernel_rfl) (by kernel_rfl) (fun k hk => by cases hk) (by kernel_rfl) (laid_met os _))) ?_
  intro W base args ds gs before hval hW _ _ hR hL _ _
  exact pathLeasts_contract H enc W base args ds gs before hval hW hR hL

theorem pathLeasts_said : Rows.PathLeastsSaid :=
  OpenClaim.holds_of_cond 4 Tryz.f4 rfl rfl rfl rfl rfl rfl rfl ⟨rfl, rfl, rfl, rfl, rfl⟩ rfl rfl rfl rfl rfl (by kernel_rfl) Tryz.func4 (by kernel_rfl)
    (of_decide_eq_true (by kernel_rfl)) (by unfold Func.isWrapper; first | (rw [if_pos (by decide +kernel)]; kernel_rfl) | (rw [if_neg (by decide +kernel)]; exact ⟨rfl, rfl⟩))
    (fun os started H enc _ F => by rw [OpenClaim.pre_eq_preRow]; exact pathLeasts_lifted os started H enc F)

theorem pathLeasts_plain (f : FuncId) (fn : Func) (hf : Tryz.pinned.checked.prog.funcNamed "sluice/sluicelaw02.PathLeasts" = some f) (hfn : Tryz.pinned.checked.prog.funcs[f]? = some fn) :
    true = Tryz.pinned.checked.prog.looks [] ∧ ∀ (j : Nat) t, fn.params[j]? = some t → Tryz.pinned.checked.prog.wantsStandIn t = false := by
  obtain rfl : f = 4 := Option.some.inj ((show Tryz.prog.funcNamed "sluice/sluicelaw02.PathLeasts" = some 4 by kernel_rfl).symm.trans hf) |>.symm
  obtain rfl : fn = Tryz.f4 := (Option.some.inj (Tryz.func4.symm.trans hfn)).symm
  refine ⟨by kernel_rfl, fun j t ht => ?_⟩
  rw [Tryz.params4] at ht
  have hm : t ∈ [33] := by
    have := Array.mem_of_getElem? ht
    simp at this ⊢
    omega
  have hall : ([33].all fun u => !Tryz.prog.wantsStandIn u) = true := by kernel_rfl
  exact (show Tryz.prog.wantsStandIn t = false by simpa using List.all_eq_true.1 hall t hm)

theorem pathLeasts_card : Rows.PathLeastsCardSaid :=
  Claim7.holds_tied_plain_at .later [] _ _ _ _ pathLeasts_said (fun _ h => by cases h) (by kernel_rfl) (fun _ h => by cases h) pathLeasts_row_tie rfl ⟨rfl, rfl⟩ (by kernel_rfl) rfl pathLeasts_plain (by kernel_rfl)
end Go.Proofs.YtmhbpelbkeclpaaGreatDoor
