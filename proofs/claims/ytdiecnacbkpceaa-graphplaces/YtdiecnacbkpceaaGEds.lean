import Derived.Test.YtdiecnacbkpceaaGEdg
namespace Go.Proofs.Ytdiecnacbkpceaa.Df
open Go.RowKit Go.Sort Go.Shelf
attribute [local go_sem] Oper.semAt_some

/-- What is left of a list that is left behind so many. -/
def cutL (L : List Int) (m : Int) : List Int := if 0 ≤ m then L.take m.toNat else L
theorem edN_len {B gb : Nat} {g : Gph} {w : World} (h : Gm B w gb g) (k : Int) : (edN g k).length ≤ 48 := by
  obtain ⟨nv, ev, fv, pv, ys, ss, h⟩ := h
  have h2 := h.ok.el
  unfold edN
  split
  · have h1 := edgesU_length g.nodes g.edges k.toNat g.edges.length
    omega
  · simp
theorem cutL_all {L : List Int} {m : Int} (h : m < 0 ∨ (L.length : Int) ≤ m) : cutL L m = L := by
  unfold cutL
  split
  · exact List.take_of_length_le (by omega)
  · rfl
theorem cutL_part {L qs : List Int} {m : Int} (h : qs <+: L) (hm : m = (qs.dropLast.length : Nat)) : cutL L m = qs.dropLast := by
  obtain ⟨r, rfl⟩ := h
  unfold cutL
  rw [if_pos (by omega), hm, Int.toNat_natCast]
  simp only [List.length_dropLast]
  rw [List.take_append_of_le_length (by omega), List.dropLast_eq_take]
theorem infoInt : (Try.prog.info? 3).map (fun i => (i.zero, i.size, i.bytes)) = some (some (.int .i64 0), 1, 8) := by kernel_rfl
set_option maxRecDepth 100000 in
set_option maxHeartbeats 2000000 in
theorem edges_any {B gb : Nat} {g : Gph} (k m : Int) (w : World) (hm : Gm B w gb g) : Calls Try.prog 13 #[.pointer (some ⟨gb, 0, none⟩), .int .i64 k, .int .i64 m] w fun e W' => ∃ v, e = .returned v ∧ W'.ownsRow w.heap.size 3 1 v (cutL (edN g k) m).length ((cutL (edN g k) m).map (Value.int .i64)) ∧ Below w.heap.size w W' := by
  obtain ⟨i0, hi, hz0, hz1, hz2⟩ := info_parts infoInt
  have HM := hid hm
  clear hm
  refine (callsIn_wide (n := 4)).1 ?_
  refine callsIn_of_wp_marks Try.func13 rfl trivial ?_ rfl
  simp only [Try.ntmps13, List.size_toArray, List.length_cons, List.length_nil, Nat.reduceAdd, Nat.reduceSub, Array.replicate_succ, Array.replicate_zero, List.push_toArray, List.append_toArray, List.nil_append, List.cons_append]
  gi_wp2_with (refine ⟨trivial, ?_⟩; gi_at_call 11; refine (edges_in _ _).mono ?_; rintro e w' ⟨rfl, rfl⟩)
  obtain ⟨W0, hW0⟩ : ∃ W, W = (((w.alloc (.cells #[.int .i64 m] 3)).alloc (.cells #[.slice none 0 0] 32)).alloc (.cells #[.pointer (some ⟨gb, 0, none⟩)] 26)).alloc (.cells #[.int .i64 k] 3) := ⟨_, rfl⟩
  rw [← hW0]
  have F0 : Hid (Boxed W0 w.heap.size 3 (.int .i64 m) ∧ Boxed W0 (w.heap.size + 1) 32 (.slice none 0 0) ∧ Boxed W0 (w.heap.size + 1 + 1) 26 (.pointer (some ⟨gb, 0, none⟩)) ∧ Boxed W0 (w.heap.size + 1 + 1 + 1) 3 (.int .i64 k) ∧ Below w.heap.size w W0 ∧ W0.heap.size = w.heap.size + 4) := by
    have b1 := Boxed.new w 3 (.int .i64 m)
    have b2 := Boxed.new (w.alloc (.cells #[.int .i64 m] 3)) 32 (.slice none 0 0)
    have b3 := Boxed.new ((w.alloc (.cells #[.int .i64 m] 3)).alloc (.cells #[.slice none 0 0] 32)) 26 (.pointer (some ⟨gb, 0, none⟩))
    have b4 := Boxed.new (((w.alloc (.cells #[.int .i64 m] 3)).alloc (.cells #[.slice none 0 0] 32)).alloc (.cells #[.pointer (some ⟨gb, 0, none⟩)] 26)) 3 (.int .i64 k)
    rw [World.size_alloc] at b2
    rw [World.size_alloc, World.size_alloc] at b3
    rw [World.size_alloc, World.size_alloc, World.size_alloc] at b4
    rw [hW0]
    exact ⟨((b1.alloc _).alloc _).alloc _, (b2.alloc _).alloc _, b3.alloc _, b4, ((((Gr.refl w).alloc _).alloc _).alloc _).alloc _ |>.below, by simp⟩
  have HL48 := hid (edN_len HM.out k)
  clear hW0
  refine wpIn_rangeFunc_ownG rfl (by decide) (gf := 34) (lb := #[.pointer (some ⟨w.heap.size + 1 + 1 + 1, 0, none⟩), .pointer (some ⟨w.heap.size + 1 + 1, 0, none⟩)]) rfl trivial (enters_of Try.func34 (by kernel_rfl) rfl)
    (edges_stops 3 (by decide) (w.heap.size + 1 + 1 + 1) (w.heap.size + 1 + 1) k w (w.heap.size + 1) HM.out (by omega) W0 F0.out.2.2.2.2.1 F0.out.2.2.2.1.cell F0.out.2.2.1.cell F0.out.2.2.2.1.lt F0.out.2.2.1.lt) belowK_t (belowK_b (by have := F0.out.2.2.2.2.2; omega)) (Below.refl _ _) (fun _ => rfl)
    (fun (pre : List Int) (W : World) => (∃ v, Boxed W (w.heap.size + 1) 32 v ∧ W.ownsRow (w.heap.size + 1) 3 1 v pre.length (pre.map (Value.int .i64)) ∧ (m < 0 ∨ (pre.length : Int) ≤ m)) ∧ Below (w.heap.size + 1) W0 W)
    (fun (c : Code) (qs : List Int) (W : World) => (∃ v, Boxed W (w.heap.size + 1) 32 v ∧ W.ownsRow (w.heap.size + 1) 3 1 v qs.dropLast.length (qs.dropLast.map (Value.int .i64)) ∧ (c = .exit 0 ∧ m = (qs.dropLast.length : Nat))) ∧ Below (w.heap.size + 1) W0 W)
    (OwnFrom.and (Own.from (holdsRow_own (w.heap.size + 1) (w.heap.size + 1) 32 3 1 (fun pre : List Int => pre.length) (fun pre : List Int => pre.map (Value.int .i64)) (fun (pre : List Int) _ => m < 0 ∨ (pre.length : Int) ≤ m)) _) (ownFrom_below (by have := F0.out.2.2.2.2.2; omega) (by have := F0.out.2.2.2.2.2; omega)))
    (fun c => OwnFrom.and (Own.from (holdsRow_own (w.heap.size + 1) (w.heap.size + 1) 32 3 1 (fun qs : List Int => qs.dropLast.length) (fun qs : List Int => qs.dropLast.map (Value.int .i64)) (fun (qs : List Int) _ => c = .exit 0 ∧ m = (qs.dropLast.length : Nat))) _) (ownFrom_below (by have := F0.out.2.2.2.2.2; omega) (by have := F0.out.2.2.2.2.2; omega)))
    ⟨⟨_, F0.out.2.1, World.ownsRow_nil _ _ _ _, by simp; omega⟩, Below.refl _ _⟩
    (fun x : Int => { tmps := #[.pointer (some ⟨gb, 0, none⟩), .int .i64 k, .int .i64 m, undef, undef, .pointer (some ⟨w.heap.size, 0, none⟩), .slice none 0 0, .pointer (some ⟨w.heap.size + 1, 0, none⟩), .int .i64 x, .pointer (some ⟨gb, 0, none⟩), .int .i64 k, .func (.func 34) #[] #[.pointer (some ⟨w.heap.size + 1 + 1 + 1, 0, none⟩), .pointer (some ⟨w.heap.size + 1 + 1, 0, none⟩)], .int .i64 x, undef, undef, undef, undef, undef, undef, undef, undef, undef], defers := [] }) ?assign ?body ?done ?stop
  case assign =>
    intro l x W K hK
    gi_wp2
    exact hK
  case body =>
    rintro l pre x W ⟨⟨v, hv, hrow, hG⟩, hB⟩ hlt
    obtain ⟨q, n', c, rfl⟩ := owns_form hrow
    have hn' := (owns_caps hrow _ _ _ rfl).1
    subst hn'
    have hc := hv.cell
    have hcm : W.cell? ⟨w.heap.size, 0, none⟩ = some (.int .i64 m) := (hB.cell (p := ⟨w.heap.size, 0, none⟩) (by simp)).trans F0.out.1.cell
    have h48 := HL48.out
    have hsz := hB.size
    have hs0 := F0.out.2.2.2.2.2
    by_cases he : (pre.length : Int) = m
    · gi_wp2
      exact ⟨KeepsFrom.refl _ _, ⟨_, hv, by simpa using hrow, rfl, by simp [he]⟩, hB⟩
    · gi_wp2_with (gi_at_builtin; refine wpListIn_append_own _ rfl _ _ 32 rfl (w.heap.size + 1) 3 i0 (.int .i64 0) 1 8 Try.underlying32 hi hz0 hz1 hz2 rfl (by decide) _ _ _ rfl (hrow.alloc _) ⟨W.heap.size, 0, none⟩ 1 1 [.int .i64 x] rfl rfl (cell_one_new _ _ _) (by simp [Value.oneCell']) (by unfold maxLen; omega) (by omega) (by simp; omega) ?_; intro v' w1 hown' hgrow _; obtain ⟨g', cap', rfl⟩ := ownsRow_succ hown'; obtain ⟨hv1, hv2, hr2, hk2, hb2⟩ := hv.appended (by decide) hrow (by omega) (Nat.le_refl _) hown' hgrow; have hc1 := hv1.cell; have hf1 := hv1.frozen)
      exact ⟨hk2.from _, hb2, ⟨_, hv2, by simpa using hr2, by simp; omega⟩, hB.trans hb2⟩
  case done =>
    rintro D ys W hD rfl ⟨⟨v, hv, hrow, hG⟩, hB⟩ hK
    have hc := hv.cell
    have hs0 := F0.out.2.2.2.2.2
    gi_wp2
    refine ⟨by simp, .inl ⟨_, _, rfl, run_takeDeferred hK, ?_⟩⟩
    refine ⟨_, results_tmp rfl _ _ _, v, rfl, ?_, ?_⟩
    · rw [cutL_all hG]
      exact owns_base (ownsRow_putObj hrow _ hK rfl) (by omega)
    · exact (F0.out.2.2.2.2.1.trans (hB.mono (by omega))).trans (belowK_b (w := w) (Nat.le_refl _) W D _ _ (by omega) hK rfl rfl)
  case stop =>
    rintro D c qs W hD hS ⟨⟨v, hv, hrow, rfl, hm⟩, hB⟩ hK
    have hc := hv.cell
    have hs0 := F0.out.2.2.2.2.2
    gi_wp2
    refine ⟨by simp, .inl ⟨_, _, rfl, run_takeDeferred hK, ?_⟩⟩
    refine ⟨_, results_tmp rfl _ _ _, v, rfl, ?_, ?_⟩
    · rw [cutL_part hS hm]
      exact owns_base (ownsRow_putObj hrow _ hK rfl) (by omega)
    · exact (F0.out.2.2.2.2.1.trans (hB.mono (by omega))).trans (belowK_b (w := w) (Nat.le_refl _) W D _ _ (by omega) hK rfl rfl)
end Go.Proofs.Ytdiecnacbkpceaa.Df
