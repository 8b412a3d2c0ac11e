import Derived.Test.YtaaobchodbnkpaaRows
import Derived.Test.YtaaobchodbnkpaaQuScp
import Derived.Test.YtaaobchodbnkpaaQuArgs
namespace Go.Proofs.Ytaaobchodbnkpaa
open Go.ChangeShapes Go.WideShapes Go.ChangeAt Go.RowKit

theorem bulk_one {H : Type} (d : DataW H) : 1 ≤ Rows.uptoBulk d := by
  cases d with
  | lit l => cases l <;> simp [Rows.uptoBulk]
  | nil => simp [Rows.uptoBulk]
  | ptr d => simp [Rows.uptoBulk]
  | slice elems spare => simp [Rows.uptoBulk]
  | agg parts => simp [Rows.uptoBulk]
  | iface t d => simp [Rows.uptoBulk]
  | map entries => simp [Rows.uptoBulk]
  | held h => simp [Rows.uptoBulk]
theorem bulk_len {H : Type} (l : List (DataW H)) : l.length ≤ Rows.uptoBulkAll l := by
  induction l with
  | nil => simp [Rows.uptoBulkAll]
  | cons x r ih => have := bulk_one x; simp only [Rows.uptoBulkAll, List.length_cons]; omega

theorem bulk_four {H : Type} (l : List (DataW H)) (h : ∀ x ∈ l, 4 ≤ Rows.uptoBulk x) : 4 * l.length ≤ Rows.uptoBulkAll l := by
  induction l with
  | nil => simp [Rows.uptoBulkAll]
  | cons x r ih =>
    have h1 := h x (List.mem_cons_self ..)
    have h2 := ih (fun y hy => h y (List.mem_cons_of_mem _ hy))
    simp only [Rows.uptoBulkAll, List.length_cons]
    omega
theorem cellsOp19 : Try.prog.cellsOf 66 = 8 := by kernel_rfl
instance : Inhabited Qe.St3 := ⟨(0, 0, ⟨0, 0, 0, 0, 0, 0⟩)⟩
set_option maxRecDepth 100000 in
theorem trod_op19 {H : Type} {enc : TypeId × Value → H} {W : World} {base : Nat} {sp : Nat → Bool} {held : Bool} (fuel : Nat) (cs : List Value) (y : DataW H × List MemPlace) (hl : cs.length = 8) (h : DataW.trod enc Try.prog W base sp held fuel 66 cs = some y) : ∃ x : Qe.St3, cs = Qe.EOp.enc x := by
  obtain ⟨xs, k, hk, hxy, _, hxl, hff⟩ := DataW.trod_struct Try.underlying66 h
  have c1 : Try.prog.cellsOf 3 = 1 := by kernel_rfl
  have c6 : Try.prog.cellsOf 36 = 6 := by kernel_rfl
  match cs, hl, xs, hxl with
  | [c0, d1, d2, d3, d4, d5, d6, d7], _, [y0, y1, y2], _ =>
    have k0 : DataW.trod enc Try.prog W base sp held k 3 (([c0, d1, d2, d3, d4, d5, d6, d7].drop 0).take (Try.prog.cellsOf 3)) = some y0 := hff 0 _ rfl
    have k1 : DataW.trod enc Try.prog W base sp held k 3 (([c0, d1, d2, d3, d4, d5, d6, d7].drop 1).take (Try.prog.cellsOf 3)) = some y1 := hff 1 _ rfl
    have k2 : DataW.trod enc Try.prog W base sp held k 36 (([c0, d1, d2, d3, d4, d5, d6, d7].drop 2).take (Try.prog.cellsOf 36)) = some y2 := hff 2 _ rfl
    rw [c1] at k0 k1
    rw [c6] at k2
    obtain ⟨u0, e0, _, _⟩ := DataW.trod_int Try.underlying3 k0
    obtain ⟨u1, e1, _, _⟩ := DataW.trod_int Try.underlying3 k1
    obtain ⟨x, e2⟩ := trod_ms _ _ _ rfl k2
    simp [Qe.EM] at e0 e1 e2
    obtain ⟨f2, f3, f4, f5, f6, f7⟩ := e2
    subst e0 e1 f2 f3 f4 f5 f6 f7
    exact ⟨(u0, u1, x), rfl⟩
set_option maxRecDepth 100000 in
theorem ops_bulk {H : Type} {enc : TypeId × Value → H} {W : World} {r : Reach} {b0 base : Nat} {sp : Nat → Bool} {held : Bool} {v : Value} {d : DataW H} {p : List MemPlace} (hv : Value.okWide Try.prog W r b0 54 v) (h : DataW.Trod enc Try.prog W base sp held 54 v d p) (elems spare : List (DataW H)) (hd : d = .slice elems spare) : 4 * elems.length ≤ Rows.uptoBulkAll elems := by
  obtain ⟨a0, len, cap, rfl⟩ := okWide_slice Try.underlying54 hv
  obtain ⟨fuel, hf⟩ := h
  rcases Deep.open_slice Try.underlying54 hf with ⟨hcs, hx⟩ | ⟨a, len', cap', m, n, D, Pl, hcs, hb, hl, hm, hmm, hx, hall⟩
  · have h1 : d = .nil := congrArg Prod.fst hx
    rw [h1] at hd
    cases hd
  · have h1 : d = _ := congrArg Prod.fst hx
    rw [h1] at hd
    simp only [DataW.slice.injEq] at hd
    rw [← hd.1]
    have hlm : len' ≤ m := by rw [hmm]; split <;> omega
    refine bulk_four _ (fun x hx => ?_)
    obtain ⟨i, hi, rfl⟩ := List.mem_map.1 hx
    obtain ⟨cs', _, h2⟩ := hall i (Nat.lt_of_lt_of_le (List.mem_range.1 hi) hlm)
    obtain ⟨xs, k, hk, hxy, _, hxl, hff⟩ := DataW.trod_struct Try.underlying66 h2
    have h3 : D i = _ := congrArg Prod.fst hxy
    rw [h3]
    have h4 := bulk_len (xs.map Prod.fst)
    have h5 : xs.length = 3 := hxl
    rw [List.length_map, h5] at h4
    simp only [Rows.uptoBulk]
    exact Nat.succ_le_succ h4
set_option maxRecDepth 100000 in
theorem queueScriptUpto_contract (H : Type) (enc : TypeId × Value → H) (W : World) (base : Nat) (args : Array Value) (ds gs : List (DataW H)) (before : List MemPlace)
    (hval : ∀ (j : Nat) t v, Try.f5.params[j]? = some t → args[j]? = some v → Value.okWide Try.prog W .any base t v)
    (hW : DataW.Whole enc Try.prog Try.f5.params.toList Rows.queueScriptSpec.vars false W args.toList ds gs before) (hk : Rows.uptoSmall H (ds ++ gs) = true) :
    Calls Try.prog 5 args W fun e W' => ∃ v, e = .returned v ∧ Rows.queueScriptSpec.post enc Try.prog Try.f5 false true false false W args v W' := by
  have hW' := hW
  obtain ⟨p, q, hA0, hV, rfl, hfz, hnd⟩ := hW
  have hA : DataW.TrodAll enc Try.prog W 0 (fun _ => true) true Try.f5.params.toList args.toList ds p := hA0
  rw [Try.params5] at hA hval
  obtain ⟨v0, v1, d0, d1, p0, p1, rfl, rfl, rfl, h0, h1⟩ := trodAll_two hA
  obtain ⟨rfl, rfl⟩ := trodVars_none hV
  obtain ⟨n0, rfl, rfl, rfl, wn0⟩ := open_int Try.underlying3 (hval 0 3 v0 rfl rfl) h0
  obtain ⟨hlt1, ts1, hts1, hd1⟩ := open_list Qe.EOp Try.underlying54 cellsOp19 (by decide) (fun fuel cs y hl h => trod_op19 fuel cs y hl h) (hval 1 54 v1 rfl rfl) h1
  have hob := ops_bulk (hval 1 54 v1 rfl rfl) h1
  have hk1 : ts1.length ≤ 262144 := by
    have h1 := of_decide_eq_true hk
    simp only [List.append_nil, Rows.uptoBulkAll] at h1
    rcases hd1 with ⟨rfl, rfl⟩ | ⟨elems, spare, rfl, hl⟩
    · simp
    · have h2 := hob elems spare rfl
      simp only [Rows.uptoBulk] at h1
      omega
  simp only [List.append_nil] at hW'
  refine (Qe.queueScript_any n0 v1 ts1 W hts1 hk1).mono fun e W' ⟨he, hB⟩ => ?_
  subst he
  exact ⟨_, rfl, _, _, _, [], _, [], hW', trodAll_mk1 (shut_bool Try.underlying4 _), trodAll_mk2 (shut_int Try.underlying3 wn0) (Below.trod laidOut (by kernel_rfl) (of_decide_eq_true (by kernel_rfl)) h1 hB hlt1), rfl, hB.frame _, fun h => by cases h⟩

set_option maxRecDepth 100000 in
theorem queueScriptUpto_lifted (os : Os) (started : os.Started) (H : Type) (enc : TypeId × Value → H) (F : Stop.Interp) :
    ReturnsInHanded {} Try.checked os 5 .any ((Rows.OpenSpec.upto Rows.queueScriptSpec).preRow enc Try.prog Try.f5 Rows.queueScriptUptoRow.domain false Rows.queueScriptUptoRow.laid) (((Rows.OpenSpec.upto Rows.queueScriptSpec).at F).post enc Try.prog Try.f5 false true false false) := by
  refine returnsInHanded_of_row (C := Try.checked) (s := (Rows.OpenSpec.upto Rows.queueScriptSpec)) own started (by kernel_rfl) Try.func5
    (witness (enc := enc) #[.int .i64 0, .slice none 0 0] (World.shaped_of_ZipB (by kernel_rfl) (by kernel_rfl)) (by kernel_rfl)
      (OpenSpec.preRow_of_cond 8 (x := ([.lit (.int .i64 0), .nil], [], [])) (by kernel_rfl) (by kernel_rfl) (fun k hk => by cases hk; kernel_rfl) (by kernel_rfl) (laid_met os _))) ?_
  intro W base args ds gs before hval hW _ hC _ _ _ _
  exact queueScriptUpto_contract H enc W base args ds gs before hval hW (hC _ rfl)

theorem queueScriptUpto_said : Rows.QueueScriptUptoSaid :=
  OpenClaim.holds_of_cond 5 Try.f5 rfl rfl rfl rfl rfl rfl rfl ⟨rfl, rfl, rfl, rfl, rfl⟩ rfl rfl rfl rfl rfl (by kernel_rfl) Try.func5 (by kernel_rfl)
    (of_decide_eq_true (by kernel_rfl)) (by unfold Func.isWrapper; first | (rw [if_pos (by decide +kernel)]; kernel_rfl) | (rw [if_neg (by decide +kernel)]; exact ⟨rfl, rfl⟩))
    (fun os started H enc _ F => by rw [OpenClaim.pre_eq_preRow]; exact queueScriptUpto_lifted os started H enc F)
end Go.Proofs.Ytaaobchodbnkpaa
