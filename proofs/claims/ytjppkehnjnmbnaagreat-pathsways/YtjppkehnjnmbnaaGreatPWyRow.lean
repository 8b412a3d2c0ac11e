import Derived.Test.YtjppkehnjnmbnaaGreatRows
import Derived.Test.YtjppkehnjnmbnaaGreatJ21
namespace Go.Proofs.YtjppkehnjnmbnaaGreat.Lf
open Go.ChangeShapes Go.WideShapes Go.ChangeAt Go.RowKit Go.Joins Go.Sort Pt
theorem trod_int1 {H : Type} {enc : TypeId × Value → H} {W : World} {base : Nat} {sp : Nat → Bool} {held : Bool} (fuel : Nat) (cs : List Value) (y : DataW H × List MemPlace) (hl : cs.length = 1) (h : DataW.trod enc Tryz.prog W base sp held fuel 3 cs = some y) : ∃ x : Int, cs = Df.EI.enc x := by
 match cs, hl with
 | [c], _ =>
  obtain ⟨n, rfl, _⟩ := Df.trod_i h
  exact ⟨n, rfl⟩
set_option maxRecDepth 100000 in
theorem open_stamp {H : Type} {enc : TypeId × Value → H} {W : World} {r : Reach} {b0 base : Nat} {sp : Nat → Bool} {held : Bool} {v : Value} {d : DataW H} {p : List MemPlace} (hv : Value.okWide Tryz.prog W r b0 52 v) (h : DataW.Trod enc Tryz.prog W base sp held 52 v d p) :
    ∃ x : Hf.Th, v = .agg #[.int .i64 x.1, .int .u64 x.2.1.1, .int .u64 x.2.1.2.1, .int .u64 x.2.1.2.2] := by
 obtain ⟨cs, rfl, hsz⟩ := okWide_struct Tryz.underlying52 hv
 obtain ⟨fuel, hf⟩ := h
 have hl : cs.toList.length = 4 := by
  have : cs.size = 4 := hsz.trans (by kernel_rfl)
  simpa using this
 obtain ⟨x, hx, _⟩ := trod_stamp fuel cs.toList _ hl (by simpa [Value.cells] using hf)
 refine ⟨x, ?_⟩
 obtain ⟨l⟩ := cs
 have hx : l = EF.enc x := hx
 rw [hx]
 rfl
end Go.Proofs.YtjppkehnjnmbnaaGreat.Lf
namespace Go.Proofs.YtjppkehnjnmbnaaGreat
open Go.ChangeShapes Go.WideShapes Go.ChangeAt Go.RowKit
set_option maxRecDepth 100000 in
theorem pathsWays_contract (H : Type) (enc : TypeId × Value → H) (W : World) (base : Nat) (args : Array Value) (ds gs : List (DataW H)) (before : List MemPlace)
    (hval : ∀ (j : Nat) t v, Tryz.f5.params[j]? = some t → args[j]? = some v → Value.okWide Tryz.prog W .any base t v)
    (hW : DataW.Whole enc Tryz.prog Tryz.f5.params.toList Rows.pathsWaysSpec.vars false W args.toList ds gs before) (hR : (DataW.weightsEach Tryz.prog (Tryz.f5.params.toList ++ (OpenSpec.ofChange Rows.pathsWaysSpec).bare.plain.varTypes Tryz.prog) (ds ++ gs)).all (· ≤ reachBytes) = true) :
    Calls Tryz.prog 5 args W fun e W' => ∃ v, e = .returned v ∧ Rows.pathsWaysSpec.post enc Tryz.prog Tryz.f5 false true false false W args v W' := by
 have hW' := hW
 obtain ⟨p, q, hA0, hV, rfl, hfz, hnd⟩ := hW
 have hA : DataW.TrodAll enc Tryz.prog W 0 (fun _ => true) true Tryz.f5.params.toList args.toList ds p := hA0
 rw [Tryz.params5] at hA hval
 obtain ⟨v0, v1, v2, d0, d1, d2, p0, p1, p2, rfl, rfl, rfl, h0, h1, h2⟩ := trodAll_three hA
 obtain ⟨rfl, rfl⟩ := trodVars_none hV
 obtain ⟨hlt0, a0, nv0, ev0, xs0, es0, rfl, hT0, hG0, _, hC0⟩ := Df.open_graph2 (hval 0 25 v0 rfl rfl) h0 (fun n hn => by simpa using List.all_eq_true.1 hR n (DataW.weights_mem_each (j := 0) (by kernel_rfl) rfl n hn))
 have hlt1 : ∀ x ∈ p1, x.block < W.heap.size := by
  obtain ⟨fuel, hf⟩ := h1
  exact DataW.trod_lt fuel _ _ _ hf
 obtain ⟨s1, rfl⟩ := Lf.open_stamp (hval 1 52 v1 rfl rfl) h1
 obtain ⟨hlt2, ts2, hts2, hd2⟩ := open_list Df.EI Tryz.underlying59 (by kernel_rfl) (by decide) (fun fuel cs y hl h => Lf.trod_int1 fuel cs y hl h) (hval 2 59 v2 rfl rfl) h2
 have hz2 : ts2.length * 8 ≤ 140737488351232 := by
  rcases hd2 with ⟨rfl, rfl⟩ | ⟨elems, spare, rfl, hl⟩
  ·simp
  ·have h1 := sized_slice hR (j := 2) (t := 59) (e := 3) (elems := elems) (spare := spare) (by kernel_rfl) rfl Tryz.underlying59
   have : reachBytes ≤ 140737488351232 := by decide
   rw [show Tryz.prog.bytesOf 3 = 8 by kernel_rfl] at h1
   omega
 simp only [List.append_nil] at hW'
 refine (Lf.pathsWays_any s1 W hG0 (Nat.le_refl _) hC0 (Lf.GphT.gpt hT0) hts2 (by omega)).mono fun e W' ⟨he, hB⟩ => ?_
 subst he
 exact ⟨_, rfl, _, _, _, [], _, [], hW', trodAll_mk1 (shut_bool Tryz.underlying4 _), trodAll_mk3 (Below.trod laidOut (by kernel_rfl) (of_decide_eq_true (by kernel_rfl)) h0 hB hlt0) (Below.trod laidOut (by kernel_rfl) (of_decide_eq_true (by kernel_rfl)) h1 hB hlt1) (Below.trod laidOut (by kernel_rfl) (of_decide_eq_true (by kernel_rfl)) h2 hB hlt2), rfl, hB.frame _, fun h => by cases h⟩
set_option maxRecDepth 100000 in
theorem pathsWays_lifted (os : Os) (started : os.Started) (H : Type) (enc : TypeId × Value → H) (F : Stop.Interp) :
    ReturnsInHanded {} Tryz.checked os 5 .any ((OpenSpec.ofChange Rows.pathsWaysSpec).preRow enc Tryz.prog Tryz.f5 Rows.pathsWaysRow.domain false Rows.pathsWaysRow.laid) (((OpenSpec.ofChange Rows.pathsWaysSpec).at F).post enc Tryz.prog Tryz.f5 false true false false) := by
 refine returnsInHanded_of_row (C := Tryz.checked) (s := OpenSpec.ofChange Rows.pathsWaysSpec) own started (by kernel_rfl) Tryz.func5
  (witness (enc := enc) #[.agg #[.int .i64 0, .slice none 0 0, .slice none 0 0], .agg #[.int .i64 0, .int .u64 0, .int .u64 0, .int .u64 0], .slice none 0 0] (World.shaped_of_ZipB (by kernel_rfl) (by kernel_rfl)) (by kernel_rfl)
   (OpenSpec.preRow_of_cond 8 (x := ([.agg [.lit (.int .i64 0), .nil, .nil], .agg [.lit (.int .i64 0), .agg [.lit (.int .u64 0), .lit (.int .u64 0), .lit (.int .u64 0)]], .nil], [], [])) (by kernel_rfl) (by kernel_rfl) (fun k hk => by cases hk) (by kernel_rfl) (laid_met os _))) ?_
 intro W base args ds gs before hval hW _ _ hR _ _ _
 exact pathsWays_contract H enc W base args ds gs before hval hW hR
theorem pathsWays_said : Rows.PathsWaysSaid :=
 OpenClaim.holds_of_cond 5 Tryz.f5 rfl rfl rfl rfl rfl rfl rfl ⟨rfl, rfl, rfl, rfl, rfl⟩ rfl rfl rfl rfl rfl (by kernel_rfl) Tryz.func5 (by kernel_rfl)
  (of_decide_eq_true (by kernel_rfl)) (by unfold Func.isWrapper; first | (rw [if_pos (by decide +kernel)]; kernel_rfl) | (rw [if_neg (by decide +kernel)]; exact ⟨rfl, rfl⟩))
  (fun os started H enc _ F => by rw [OpenClaim.pre_eq_preRow]; exact pathsWays_lifted os started H enc F)
end Go.Proofs.YtjppkehnjnmbnaaGreat
