import Derived.Test.YtconceigfommeaaDoorCards
import Derived.Test.YtconceigfommeaaDoorTie
import Derived.Test.YtconceigfommeaaDoorLeast
import Derived.Test.YtconceigfommeaaDoorArgsS
import Derived.SevenTiedAt
namespace Go.Proofs.YtconceigfommeaaDoor
open Go.ChangeShapes Go.WideShapes Go.ChangeAt Go.RowKit

theorem bulk_one {H : Type} (d : DataW H) : 1 ≤ Rows.uptoBulk d := by
  cases d with
  | lit l => cases l <;> simp [Rows.uptoBulk]
  | nil => simp [Rows.uptoBulk]
  | ptr d => simp [Rows.uptoBulk]
  | slice elems spare => simp [Rows.uptoBulk]
  | agg parts => simp [Rows.uptoBulk]
  | iface t d => simp [Rows.uptoBulk]
  | map entries => simp [Rows.uptoBulk]
  | held h => simp [Rows.uptoBulk]
theorem bulk_len {H : Type} (l : List (DataW H)) : l.length ≤ Rows.uptoBulkAll l := by
  induction l with
  | nil => simp [Rows.uptoBulkAll]
  | cons x r ih => have := bulk_one x; simp only [Rows.uptoBulkAll, List.length_cons]; omega
theorem bulk_slice {H : Type} {elems spare r : List (DataW H)} : elems.length ≤ Rows.uptoBulkAll (.slice elems spare :: r) := by
  have h1 := bulk_len elems
  simp only [Rows.uptoBulkAll, Rows.uptoBulk]
  omega

set_option maxRecDepth 100000 in
theorem stampLeastUpto_contract (H : Type) (enc : TypeId × Value → H) (W : World) (base : Nat) (args : Array Value) (ds gs : List (DataW H)) (before : List MemPlace)
    (hval : ∀ (j : Nat) t v, Tryd.f4.params[j]? = some t → args[j]? = some v → Value.okWide Tryd.prog W .any base t v)
    (hW : DataW.Whole enc Tryd.prog Tryd.f4.params.toList Rows.stampLeastSpec.vars false W args.toList ds gs before) (hk : Rows.uptoSmall H (ds ++ gs) = true) (hL : laidMetH Tryd.prog laidL W) :
    Calls Tryd.prog 4 args W fun e W' => ∃ v, e = .returned v ∧ Rows.stampLeastSpec.post enc Tryd.prog Tryd.f4 false true false false W args v W' := by
  have hW' := hW
  obtain ⟨p, q, hA0, hV, rfl, hfz, hnd⟩ := hW
  have hA : DataW.TrodAll enc Tryd.prog W 0 (fun _ => true) true Tryd.f4.params.toList args.toList ds p := hA0
  rw [Tryd.params4] at hA hval
  obtain ⟨v0, v1, d0, d1, p0, p1, rfl, rfl, rfl, h0, h1⟩ := trodAll_two hA
  obtain ⟨rfl, rfl⟩ := trodVars_none hV
  obtain ⟨hlt, ts, hts, hd⟩ := open_times (hval 0 34 v0 rfl rfl) h0
  obtain ⟨a1, b1, c1, rfl, rfl, _, _, _⟩ := open_time (hval 1 24 v1 rfl rfl) h1
  have hk1 : ts.length ≤ 1048576 := by
    rcases hd with ⟨rfl, rfl⟩ | ⟨elems, spare, rfl, hl⟩
    · simp
    · have h1 := of_decide_eq_true hk
      have h2 := bulk_slice (elems := elems) (spare := spare) (r := [d1])
      simp only [List.append_nil] at h1
      omega
  simp only [List.append_nil] at hW'
  refine (least_any v0 ts a1 b1 c1 W (env_of_laid hL) hts hk1).mono fun e W' ⟨he, hB⟩ => ?_
  subst he
  exact ⟨_, rfl, _, _, _, [], _, [], hW', trodAll_mk1 (shut_bool Tryd.underlying4 _), trodAll_mk2 (Below.trod laidOut (by kernel_rfl) (of_decide_eq_true (by kernel_rfl)) h0 hB hlt) (Below.trod laidOut (by kernel_rfl) (of_decide_eq_true (by kernel_rfl)) h1 hB (fun x hx => by cases hx)), rfl, hB.frame _, fun h => by cases h⟩

set_option maxRecDepth 100000 in
theorem stampLeastUpto_lifted (os : Os) (started : os.Started) (H : Type) (enc : TypeId × Value → H) (F : Stop.Interp) :
    ReturnsInHanded {} Tryd.checked os 4 .any ((Rows.OpenSpec.upto Rows.stampLeastSpec).preRow enc Tryd.prog Tryd.f4 Rows.stampLeastUptoRow.domain false Rows.stampLeastUptoRow.laid) (((Rows.OpenSpec.upto Rows.stampLeastSpec).at F).post enc Tryd.prog Tryd.f4 false true false false) := by
  refine returnsInHanded_of_row (C := Tryd.checked) (s := (Rows.OpenSpec.upto Rows.stampLeastSpec)) own started (by kernel_rfl) Tryd.func4
    (witness (enc := enc) #[.slice none 0 0, .agg #[.int .u64 0, .int .u64 0, .int .u64 0]] (World.shaped_of_ZipB (by kernel_rfl) (by kernel_rfl)) (by kernel_rfl)
      (OpenSpec.preRow_of_cond 8 (x := ([.nil, .agg [.lit (.int .u64 0), .lit (.int .u64 0), .lit (.int .u64 0)]], [], [])) (by kernel_rfl) (by kernel_rfl) (fun k hk => by cases hk; kernel_rfl) (by kernel_rfl) (laid_met os _))) ?_
  intro W base args ds gs before hval hW _ hC _ hL _ _
  exact stampLeastUpto_contract H enc W base args ds gs before hval hW (hC _ rfl) hL

theorem stampLeastUpto_said : Rows.StampLeastUptoSaid :=
  OpenClaim.holds_of_cond 4 Tryd.f4 rfl rfl rfl rfl rfl rfl rfl ⟨rfl, rfl, rfl, rfl, rfl⟩ rfl rfl rfl rfl rfl (by kernel_rfl) Tryd.func4 (by kernel_rfl)
    (of_decide_eq_true (by kernel_rfl)) (by unfold Func.isWrapper; first | (rw [if_pos (by decide +kernel)]; kernel_rfl) | (rw [if_neg (by decide +kernel)]; exact ⟨rfl, rfl⟩))
    (fun os started H enc _ F => by rw [OpenClaim.pre_eq_preRow]; exact stampLeastUpto_lifted os started H enc F)

theorem stampLeastUpto_plain (f : FuncId) (fn : Func) (hf : Tryd.pinned.checked.prog.funcNamed "sluice/sluicelaw01.StampLeast" = some f) (hfn : Tryd.pinned.checked.prog.funcs[f]? = some fn) :
    true = Tryd.pinned.checked.prog.looks [] ∧ ∀ (j : Nat) t, fn.params[j]? = some t → Tryd.pinned.checked.prog.wantsStandIn t = false := by
  obtain rfl : f = 4 := Option.some.inj ((show Tryd.prog.funcNamed "sluice/sluicelaw01.StampLeast" = some 4 by kernel_rfl).symm.trans hf) |>.symm
  obtain rfl : fn = Tryd.f4 := (Option.some.inj (Tryd.func4.symm.trans hfn)).symm
  refine ⟨by kernel_rfl, fun j t ht => ?_⟩
  rw [Tryd.params4] at ht
  have hm : t ∈ [34, 24] := by
    have := Array.mem_of_getElem? ht
    simp at this ⊢
    omega
  have hall : ([34, 24].all fun u => !Tryd.prog.wantsStandIn u) = true := by kernel_rfl
  exact (show Tryd.prog.wantsStandIn t = false by simpa using List.all_eq_true.1 hall t hm)

theorem stampLeastUpto_card : Rows.StampLeastUptoCardSaid :=
  Claim7.holds_tied_plain_at .later [] _ _ _ _ stampLeastUpto_said (fun _ h => by cases h) (by kernel_rfl) (fun _ h => by cases h) stampLeastUpto_row_tie rfl ⟨rfl, rfl⟩ (by kernel_rfl) rfl stampLeastUpto_plain (by kernel_rfl)
end Go.Proofs.YtconceigfommeaaDoor
