import Derived.Test.YtkopmkmfigenlaaDPut
namespace Go.Proofs.Ytkopmkmfigenlaa.Df
open Go.RowKit Go.Sort Wi
attribute [local go_sem ↓] Go.wp_at_zero Go.wp_at_succ

/-- What Put leaves. -/
def Laid (w : World) (g : Gph) (r : Ending) (w' : World) : Prop := Below w.heap.size w w' ∧ ∃ d, r = .returned (.tuple #[d, .int .i64 (egph g : Nat)]) ∧ ((egph g = 0 ∧ w'.ownsRow w.heap.size 5 1 d (bgph g).length (fl EB (bgph g))) ∨ (egph g ≠ 0 ∧ d = .slice none 0 0))
theorem bgph_len {a : Int} {xs : List NV} {es : List Edg} (hT : GphT (gof a xs es)) (h : egph (gof a xs es) = 0) : (bgph (gof a xs es)).length ≤ 70000 := by
  obtain ⟨h1, h2, _, h4, h5⟩ := (egph_ok _).1 h
  simp only [List.length_map] at h1
  have t1 := bint_len hT.1
  have t2 := bnods_len (xs := xs) (fun x hx => hT.2.1 x.n (List.mem_map.2 ⟨x, hx, rfl⟩)) (fun x hx => h4 x.n (List.mem_map.2 ⟨x, hx, rfl⟩))
  have t3 := flat_len bedg 50 es (fun x hx => bedg_len (hT.2.2 x hx))
  have t4 := form_ten (v := xs.length) (by omega)
  have t5 := form_ten (v := es.length) (by simp only at h2; omega)
  unfold bgph
  simp only [blst_map]
  unfold blst
  simp only [List.length_append]
  simp only at h2 t1
  omega
set_option maxHeartbeats 2000000 in
theorem put_any {nv ev : Value} {a : Int} {xs : List NV} {es : List Edg} (hT : GphT (gof a xs es)) (w : World) (hG : GR w.heap.size w nv ev xs es) : Calls Try.prog 8 #[.agg (gvc a nv ev)] w (Laid w (gof a xs es)) := by
  have hmf : ∀ (fn : Fn) (first cap : Array Value) (w : World), (Instr.makeFunc fn first cap).run Try.prog w = .ok (.func fn first cap) w := fun _ _ _ _ => rfl
  have HG := hid hG
  obtain ⟨pn, cn, rfl⟩ := hG.nodes.form
  obtain ⟨pe, ce, rfl⟩ := hG.edges.form
  clear hG
  obtain ⟨W1, hW1⟩ : ∃ W1, W1 = (w.alloc (.cells #[.int .i64 a, .slice pn xs.length cn, .slice pe es.length ce] 25)).alloc (.cells #[.int .i64 0] 27) := ⟨_, rfl⟩
  obtain ⟨b0, b1, hg1, hs1⟩ : W1.heap[w.heap.size]? = some (.cells #[.int .i64 a, .slice pn xs.length cn, .slice pe es.length ce] 25 (0, 0)) ∧ W1.heap[w.heap.size + 1]? = some (.cells #[.int .i64 0] 27 (0, 0)) ∧ Gr w W1 ∧ W1.heap.size = w.heap.size + 2 := by
    rw [hW1]
    exact ⟨new1 w _ _, new2 w _ _, ((Gr.refl w).alloc _).alloc _, by simp⟩
  have HW1 := hid hW1.symm
  clear hW1
  go_enter_defers Try.func8, Try.ntmps8
  go_wp2_with fail
  rw [HW1.out]
  go_at_call 22
  refine (newwriter_any _).mono ?_
  rintro r w2 ⟨wb, rfl, hwb, hW, hg2⟩
  have b0 := (hg2.below.block _ (tk_lt b0)).trans b0
  have b1 := (hg2.below.block _ (tk_lt b1)).trans b1
  have hlw := hW.lt
  have q0 := (tk_store b0).1
  have l0 := tk_lt b0
  clear HW1
  go_wp2_with fail
  have g3 := (Gr.refl w2).alloc (.cells #[.pointer (some ⟨wb, 0, none⟩)] 59)
  have hgw := hg1.trans (hg2.trans g3)
  have b0 := (g3.below.block _ (tk_lt b0)).trans b0
  have b1 := (g3.below.block _ (tk_lt b1)).trans b1
  have b2 := heap_new' w2 (.cells #[.pointer (some ⟨wb, 0, none⟩)] 59)
  have s3 : (w2.alloc (.cells #[.pointer (some ⟨wb, 0, none⟩)] 59)).heap.size = w2.heap.size + 1 := by simp
  refine (lgraph_any (M := w.heap.size) hT _ (hW.gr g3) ⟨by omega, fun k hk => by simp [Value.ownBlock] at hk⟩ (HG.out.below hgw.below) (by simp)).mono ?_
  intro r w4 h4
  by_cases e0 : egph (gof a xs es) = 0
  · obtain ⟨v4, rfl, k4, h4⟩ := h4.good e0
    have hk4 : Kp (fun k => k = wb) (w2.alloc (.cells #[.pointer (some ⟨wb, 0, none⟩)] 59)) w4 := k4.1.mono (fun k h => h.resolve_right (by simp [Value.ownBlock]))
    have b1 := (hk4.block _ (tk_lt b1) (by omega)).trans b1
    have b2 := (hk4.block _ (tk_lt b2) (by omega)).trans b2
    have c2 := tk_cell b2
    have l2 := tk_lt b2
    have hbw : Below w.heap.size w w4 := hgw.below.trans (hk4.below (by have := hg1.size; omega) (fun k e => by omega))
    rw [List.nil_append] at h4
    have hda := wdata_any w4 h4 (by have := bgph_len hT e0; omega)
    have B1 := hid b1
    have BW := hid hbw
    have E0 := hid e0
    clear h4 k4 hk4 hg1 hg2 g3 hgw s3 b0 b1 b2 hW q0 l0 hbw e0
    go_wp2_with fail
    go_at_call 24
    refine hda.mono ?_
    rintro r w5 ⟨d, rfl, hd, hb5⟩
    have b1 := (hb5.block _ (tk_lt B1.out)).trans B1.out
    obtain ⟨q1, f1⟩ := tk_store b1
    have l1 := tk_lt b1
    have DO := hid hd
    have BB := hid (BW.out.trans (hb5.mono BW.out.size))
    have s1 := hid (tk_set b1 0 (.int .i64 0))
    have hsz := BW.out.size
    have hs4 := tk_lt B1.out
    have S5 := hid hb5.size
    obtain ⟨qd, md, cd, rfl⟩ := owns_form hd
    clear hd hb5 b1 hda
    go_wp2_with fail
    refine leaves_cons (f := 20) (args := #[.pointer (some ⟨w.heap.size + 1, 0, none⟩)]) (by simp) (by simp [go_sem]) ?_
    refine (pcatch_idle _ _).mono ?_
    rintro e u' w6 ⟨rfl, rfl, rfl⟩
    have q6 := (tk_store s1.out.1).1
    simp [Leaves, settle, results, Try.results8, go_sem, q6]
    rw [Laid, E0.out]
    refine ⟨BB.out.trans (s1.out.2.below BB.out.size (fun k e => by omega)), _, rfl, Or.inl ⟨rfl, owns_base (owns_far DO.out s1.out.2 (by omega)) hsz⟩⟩
  · obtain ⟨v4, rfl, k4⟩ := h4.bad e0
    have hk4 : Kp (fun k => k = wb) (w2.alloc (.cells #[.pointer (some ⟨wb, 0, none⟩)] 59)) w4 := k4.1.mono (fun k h => h.resolve_right (by simp [Value.ownBlock]))
    have b1 := (hk4.block _ (tk_lt b1) (by omega)).trans b1
    have hbw : Hid (Below w.heap.size w w4) := hgw.below.trans (hk4.below (by have := hg1.size; omega) (fun k e => by omega))
    have E0 := hid e0
    clear h4 k4 hk4 hg1 hg2 g3 hgw b0 b2 hW q0 l0 e0
    go_wp2_with fail
    refine leaves_cons (f := 20) (args := #[.pointer (some ⟨w.heap.size + 1, 0, none⟩)]) (by simp) (by simp [go_sem]) ?_
    refine (pcatch_panicking (w.heap.size + 1) _ (egph (gof a xs es)) 0 [] w4 b1).mono ?_
    rintro e u' w6 ⟨rfl, rfl, d1, k6⟩
    have q6 := (tk_store d1).1
    have l6 := tk_lt d1
    simp [Leaves, settle, results, Try.results8, go_sem, q6]
    exact ⟨hbw.out.trans (k6.below hbw.out.size (fun k e => by omega)), _, rfl, Or.inr ⟨E0.out, rfl⟩⟩
end Go.Proofs.Ytkopmkmfigenlaa.Df
