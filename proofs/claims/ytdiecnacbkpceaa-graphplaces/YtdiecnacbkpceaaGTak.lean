import Derived.Test.YtdiecnacbkpceaaGSma
import Derived.Test.YtdiecnacbkpceaaGQs2
import Derived.Sort.CutIn
namespace Go.Proofs.Ytdiecnacbkpceaa.Df
open Go.RowKit Go.Sort Go.Shelf
attribute [local go_sem] Oper.semAt_some

theorem niledges_in {n : Nat} (k : Int) (w : World) : CallsIn Fence.wide n Try.prog 11 #[.pointer none, .int .i64 k] w fun e w' => e = .returned (.func (.func 34) #[] #[.pointer (some ⟨w.heap.size + 1, 0, none⟩), .pointer (some ⟨w.heap.size, 0, none⟩)]) ∧ w' = (w.alloc (.cells #[.pointer none] 26)).alloc (.cells #[.int .i64 k] 3) := by
  refine callsIn_wide.2 ?_
  go_enter Try.func11, Try.ntmps11
  go_wp2_with fail
  go_ret
  exact ⟨by simp, rfl⟩
theorem sm_cap (q : Option Addr) : Gcap (.slice q 2 2) smX := by
  refine ⟨fun p n c e => ?_, fun x hx => ?_⟩
  · simp only [Value.slice.injEq] at e
    omega
  · simp only [smX, List.mem_cons, List.not_mem_nil, or_false] at hx
    rcases hx with rfl | rfl | rfl <;> simp [smN]
/-- What stands while the law's own tests run. -/
structure TS (w W : World) (D : Nat) : Prop where
  low : w.heap.size ≤ D
  dfr : W.heap[D]? = some (.deferred (some []))
  bl : Below w.heap.size w W
theorem TS.below {w W W' : World} {D : Nat} (h : TS w W D) (hb : Below W.heap.size W W') : TS w W' D := ⟨h.low, (hb.block _ (Array.getElem?_eq_some_iff.1 h.dfr).1).trans h.dfr, h.bl.trans (hb.mono h.bl.size)⟩
theorem sm_set : (smD true).setIfInBounds 4 (.bool false) = smD false := rfl
theorem new_sm {w : World} {b1 b2 : Nat} (h1 : w.heap[b1]? = some (.cells smB 39 (0, 0))) (h2 : w.heap[b2]? = some (.cells (smD true) 47 (0, 0))) : Calls Try.prog 5 #[.agg (gvc 1 (.slice (some ⟨b1, 0, none⟩) 3 3) (.slice (some ⟨b2, 0, none⟩) 2 2))] w fun r w' => ∃ gb, r = .returned (.tuple #[.pointer (some ⟨gb, 0, none⟩), .int .i64 0, .int .i64 0]) ∧ Hid (Below w.heap.size w w' ∧ Gm w.heap.size w' gb (gof 1 smX (smE true))) := by
  refine (new_any w (sm_gr true h1 h2) (sm_cap _)).mono ?_
  rintro r w' ⟨hb, e, t, hf, h⟩
  obtain ⟨rfl, rfl⟩ := hf.same sm_fl
  rcases h with ⟨h, _⟩ | ⟨_, gb, rfl, hm⟩
  · exact absurd rfl h
  · exact ⟨gb, rfl, hb, hm⟩
theorem new_odd {w : World} {b1 b2 : Nat} (h1 : w.heap[b1]? = some (.cells smB 39 (0, 0))) (h2 : w.heap[b2]? = some (.cells (smD false) 47 (0, 0))) : Calls Try.prog 5 #[.agg (gvc 1 (.slice (some ⟨b1, 0, none⟩) 3 3) (.slice (some ⟨b2, 0, none⟩) 2 2))] w fun r w' => r = .returned (.tuple #[.pointer none, .int .i64 26, .int .i64 3]) ∧ Hid (Below w.heap.size w w') := by
  refine (new_any w (sm_gr false h1 h2) (sm_cap _)).mono ?_
  rintro r w' ⟨hb, e, t, hf, h⟩
  obtain ⟨rfl, rfl⟩ := hf.same sm_odd
  rcases h with ⟨_, rfl⟩ | ⟨h, _⟩
  · exact ⟨rfl, hb⟩
  · exact absurd h (by decide)
theorem fld1 (a b c : Value) (w : World) : Sem.run Try.prog (Instr.field 25 (.agg #[a, b, c]) 1) w = .ok b w := by kernel_rfl
attribute [local go_sem] fld1
set_option maxRecDepth 100000 in
set_option maxHeartbeats 4000000 in
theorem taken_any (w : World) : Calls Try.prog 7 #[] w fun e W' => e = .returned (.bool true) ∧ Below w.heap.size w W' := by
  have hmx : Try.prog.follows .mixedOrders = true := by kernel_rfl
  refine (callsIn_wide (n := 4)).1 ?_
  refine callsIn_of_wp_marks Try.func7 rfl trivial ?_ rfl
  simp only [Try.ntmps7, List.size_toArray, List.length_nil, Nat.reduceSub, Array.replicate_succ, Array.replicate_zero, List.push_toArray, List.append_toArray, List.nil_append, List.cons_append]
  gi_wp2_with (first | (refine ⟨trivial, ?_⟩; gi_at_call 10; refine (callsIn_wide.2 (nilOf_any _)).mono ?_; rintro e w ⟨rfl, rfl⟩) | (refine ⟨trivial, ?_⟩; gi_at_call 11; refine (niledges_in _ _).mono ?_; rintro e w' ⟨rfl, rfl⟩))
  obtain ⟨W0, hW0⟩ : ∃ W, W = ((w.alloc (.cells #[.int .i64 0] 3)).alloc (.cells #[.pointer none] 26)).alloc (.cells #[.int .i64 0] 3) := ⟨_, rfl⟩
  rw [← hW0]
  have F0 : Hid (Boxed W0 w.heap.size 3 (.int .i64 0) ∧ Boxed W0 (w.heap.size + 1) 26 (.pointer none) ∧ Boxed W0 (w.heap.size + 1 + 1) 3 (.int .i64 0) ∧ Below w.heap.size w W0 ∧ W0.heap.size = w.heap.size + 3) := by
    rw [hW0]
    exact ⟨(new3 w _ _ _).1, (new3 w _ _ _).2.1, (new3 w _ _ _).2.2, ((((Gr.refl w).alloc _).alloc _).alloc _).below, by simp⟩
  clear hW0
  refine wpIn_rangeFunc_ownG rfl (by decide) (gf := 34) (lb := #[.pointer (some ⟨w.heap.size + 1 + 1, 0, none⟩), .pointer (some ⟨w.heap.size + 1, 0, none⟩)]) rfl trivial (enters_of Try.func34 (by kernel_rfl) rfl)
    (niledges_stops 3 (by decide) (w.heap.size + 1 + 1) (w.heap.size + 1) w.heap.size W0 F0.out.2.2.1.cell F0.out.2.1.cell F0.out.2.2.1.lt F0.out.2.1.lt) belowK_t (belowK_b (by have := F0.out.2.2.2.2; omega)) (Below.refl _ _) (fun _ => rfl)
    (fun (_ : List Int) (W : World) => Boxed W w.heap.size 3 (.int .i64 0) ∧ Below w.heap.size w W)
    (fun _ _ _ => False)
    (OwnFrom.and (Own.from (boxed_own w.heap.size 3 (fun _ => .int .i64 0)) _) (ownFrom_below (Nat.le_refl _) (by have := F0.out.2.2.2.2; omega)))
    (fun _ _ _ _ _ hs _ _ => hs)
    ⟨F0.out.1, F0.out.2.2.2.1⟩
    ?a1 ?assign ?body ?done ?stop
  case assign =>
    intro l x W K hK
    gi_wp2
    exact hK
  case body =>
    rintro l pre x W _ hlt
    exact absurd hlt (by omega)
  case stop =>
    rintro D c pre W _ h _ _
    exact h.elim
  case done =>
    rintro D ys W hD _ ⟨hb, hB⟩ hK
    have hc := hb.cell
    have H1 : Hid (TS w W D) := ⟨by have := F0.out.2.2.2.2; omega, hK, hB⟩
    clear hD hb hB hK F0
    gi_wp2_with (first | (refine ⟨trivial, ?_⟩; gi_at_call 17; refine (callsIn_wide.2 (nilArity_any _)).mono ?_; rintro e W ⟨rfl, rfl⟩) | (refine ⟨trivial, ?_⟩; gi_at_call 18; refine (callsIn_wide.2 (nilNodes_any _)).mono ?_; rintro e W ⟨rfl, rfl⟩) | (refine ⟨trivial, ?_⟩; gi_at_call 12; refine (callsIn_wide.2 (nilPlaces_any _)).mono ?_; rintro e W ⟨rfl, rfl⟩) | (refine ⟨trivial, ?_⟩; gi_at_call 8; refine (callsIn_wide.2 (nilIn_any _)).mono ?_; rintro e W ⟨rfl, rfl⟩) | (refine ⟨trivial, ?_⟩; gi_at_call 9; refine (callsIn_wide.2 (nilOut_any _)).mono ?_; rintro e W ⟨rfl, rfl⟩) | (refine ⟨trivial, ?_⟩; gi_at_call 23; refine (callsIn_wide.2 (nilConns_any W)).mono ?_; rintro e w1 ⟨rfl, g1⟩))
    have H2 := hid (H1.out.below g1.below)
    clear H1 hc g1
    gi_wp2_with (refine ⟨trivial, ?_⟩; gi_at_call 21; refine (callsIn_wide.2 (nilRaw_any w1)).mono ?_; rintro e w2 ⟨rfl, b2⟩)
    have H3 := hid (H2.out.below b2)
    clear H2 b2
    gi_wp2_with (refine ⟨trivial, ?_⟩; gi_at_call 30; refine (callsIn_wide.2 (small_any w2)).mono ?_; rintro e w3 ⟨rfl, h3⟩)
    have H4 := hid (H3.out.below h3.out.1)
    clear H3
    gi_wp2_with (refine ⟨trivial, ?_⟩; gi_at_call 5; refine (callsIn_wide.2 (new_sm h3.out.2.1 h3.out.2.2.1)).mono ?_; rintro e w4 ⟨gb, rfl, h4⟩)
    have H5 := hid (H4.out.below h4.out.1)
    have hp := gplaces_any w4 h4.out.2
    rw [show plN (gof 1 smX (smE true)).nodes = 4 from sm_places.1] at hp
    have ho := gout_any 1 0 w4 h4.out.2
    rw [show outN (gof 1 smX (smE true)).nodes 1 0 = 2 from sm_places.2.1] at ho
    clear H4 h3
    gi_wp2_with (refine ⟨trivial, ?_⟩; gi_at_call 12; refine (callsIn_wide.2 (hp)).mono ?_; rintro e w5 ⟨rfl, hw5⟩; subst hw5)
    clear hp
    gi_wp2_with (refine ⟨trivial, ?_⟩; gi_at_call 9; refine (callsIn_wide.2 (ho)).mono ?_; rintro e w6 ⟨rfl, g6⟩)
    have H6 := hid (H5.out.below g6.below)
    have hn := gin_any 2 0 w6 (h4.out.2.below g6.below)
    rw [show inN (gof 1 smX (smE true)).nodes 2 0 = 3 from sm_places.2.2] at hn
    clear ho H5 g6 h4
    gi_wp2_with (refine ⟨trivial, ?_⟩; gi_at_call 8; refine (callsIn_wide.2 (hn)).mono ?_; rintro e w7 ⟨rfl, hw7⟩; subst hw7)
    clear hn
    gi_upto_region 12 with (refine ⟨trivial, ?_⟩; gi_at_call 30; refine (callsIn_wide.2 (small_any w7)).mono ?_; rintro e w8 ⟨rfl, h8⟩)
    have H8 := hid (H6.out.below h8.out.1)
    obtain ⟨W9, hW9⟩ : ∃ W, W = w8.alloc (.cells (gvc 1 (.slice (some ⟨w7.heap.size + 1, 0, none⟩) 3 3) (.slice (some ⟨w7.heap.size + 1 + 1, 0, none⟩) 2 2)) 25) := ⟨_, rfl⟩
    obtain ⟨xb, hxb⟩ : ∃ b, b = w8.heap.size := ⟨_, rfl⟩
    obtain ⟨eb, heb⟩ : ∃ b, b = w7.heap.size + 1 + 1 := ⟨_, rfl⟩
    have F9 : Hid ((TS w W9 D ∧ w.heap.size ≤ eb ∧ ¬ eb = D ∧ ¬ eb = xb) ∧ W9.heap[xb]? = some (.cells (gvc 1 (.slice (some ⟨w7.heap.size + 1, 0, none⟩) 3 3) (.slice (some ⟨w7.heap.size + 1 + 1, 0, none⟩) 2 2)) 25 (0, 0)) ∧ W9.heap[w7.heap.size + 1]? = some (.cells smB 39 (0, 0)) ∧ W9.heap[eb]? = some (.cells (smD true) 47 (0, 0))) := by
      have g9 := ((Gr.refl w8).alloc (.cells (gvc 1 (.slice (some ⟨w7.heap.size + 1, 0, none⟩) 3 3) (.slice (some ⟨w7.heap.size + 1 + 1, 0, none⟩) 2 2)) 25)).below
      have hz := h8.out.2.2.2
      have hd := (Array.getElem?_eq_some_iff.1 H6.out.dfr).1
      have hs := H6.out.bl.size
      rw [hW9, hxb, heb]
      exact ⟨⟨H8.out.below g9, by omega, by omega, by omega⟩, heap_new' _ _, (g9.block _ (tk_lt h8.out.2.1)).trans h8.out.2.1, (g9.block _ (tk_lt h8.out.2.2.1)).trans h8.out.2.2.1⟩
    have HW9 : Hid (w8.alloc (.cells #[.int .i64 1, .slice (some ⟨w7.heap.size + 1, 0, none⟩) 3 3, .slice (some ⟨w7.heap.size + 1 + 1, 0, none⟩) 2 2] 25) = W9 ∧ w8.heap.size = xb) := ⟨hW9.symm, hxb.symm⟩
    rw [HW9.out.1, HW9.out.2]
    have cx := (tk_store F9.out.2.1).1
    have lx := tk_lt F9.out.2.1
    rw [← heb] at cx ⊢
    have c4 : W9.cell? ⟨eb, 4, none⟩ = some (.bool true) := (tk_store F9.out.2.2.2).1 4
    have f4 : W9.frozen? ⟨eb, 4, none⟩ = false := (tk_store F9.out.2.2.2).2 4
    have l4 := tk_lt F9.out.2.2.2
    have HEB := hid heb
    clear hW9 hxb HW9 H8 H6 heb
    gi_upto_region 13 with fail
    obtain ⟨W10, hW10⟩ : ∃ W, W = W9.setCell ⟨eb, 4, none⟩ (.bool false) := ⟨_, rfl⟩
    have F10 : Hid (TS w W10 D ∧ W10.heap[xb]? = some (.cells (gvc 1 (.slice (some ⟨w7.heap.size + 1, 0, none⟩) 3 3) (.slice (some ⟨eb, 0, none⟩) 2 2)) 25 (0, 0)) ∧ W10.heap[w7.heap.size + 1]? = some (.cells smB 39 (0, 0)) ∧ W10.heap[eb]? = some (.cells (smD false) 47 (0, 0))) := by
      obtain ⟨s1, s2⟩ := tk_set F9.out.2.2.2 4 (.bool false)
      rw [sm_set, ← hW10] at s1
      rw [← hW10] at s2
      have n1 : ¬ w7.heap.size + 1 = eb := fun e => by
        have h1 := F9.out.2.2.1
        have h2 := F9.out.2.2.2
        rw [e, h2] at h1
        simp only [Option.some.injEq, Obj.cells.injEq] at h1
        exact absurd h1.2.1 (by decide)
      have lD := (Array.getElem?_eq_some_iff.1 F9.out.1.1.dfr).1
      refine ⟨⟨F9.out.1.1.low, (s2.block _ lD (fun e => F9.out.1.2.2.1 e.symm)).trans F9.out.1.1.dfr, F9.out.1.1.bl.trans (s2.below F9.out.1.1.bl.size (fun k e => by rw [e]; exact F9.out.1.2.1))⟩, ?_, (s2.block _ (tk_lt F9.out.2.2.1) n1).trans F9.out.2.2.1, s1⟩
      have h0 := F9.out.2.1
      rw [← HEB.out] at h0
      exact (s2.block _ (tk_lt h0) (fun e => F9.out.1.2.2.2 e.symm)).trans h0
    rw [← hW10]
    clear hW10 c4 f4 l4 cx lx F9
    have cx := (tk_store F10.out.2.1).1
    have lx := tk_lt F10.out.2.1
    gi_wp2_with (refine ⟨trivial, ?_⟩; gi_at_call 5; refine (callsIn_wide.2 (new_odd F10.out.2.2.1 F10.out.2.2.2)).mono ?_; rintro e w11 ⟨rfl, h11⟩)
    have H11 := hid (F10.out.1.below h11.out)
    refine ⟨by simp, .inl ⟨_, _, rfl, run_takeDeferred H11.out.dfr, ?_⟩⟩
    exact ⟨_, results_tmp rfl _ _ _, rfl, H11.out.bl.trans (belowK_b (w := w) (Nat.le_refl _) _ D _ _ H11.out.low H11.out.dfr rfl rfl)⟩
end Go.Proofs.Ytdiecnacbkpceaa.Df
