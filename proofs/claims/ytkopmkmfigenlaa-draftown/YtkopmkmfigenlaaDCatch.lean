import Derived.Test.YtkopmkmfigenlaaDTk2
namespace Go.Proofs.Ytkopmkmfigenlaa.Df
open Go.RowKit Go.Sort Wi
attribute [local go_sem ↓] Go.wp_at_zero Go.wp_at_succ

theorem assert_any (e t : Nat) (w : World) : (Instr.typeAssert (fv e t) 20 54 false).run Try.prog w = .ok (.agg #[.int .i64 (e : Nat), .int .i64 (t : Nat)]) w := by kernel_rfl
theorem field_any (a b : Value) (w : World) : (Instr.field 54 (.agg #[a, b]) 0).run Try.prog w = .ok a w := by kernel_rfl
set_option maxRecDepth 100000 in
set_option maxHeartbeats 400000 in
theorem met_any (e t : Nat) (w : World) : Calls Try.prog 21 #[fv e t] w fun r w' => r = .returned (.agg #[.int .i64 (e : Nat), .int .i64 (t : Nat)]) ∧ Gr w w' := by
  have hta := assert_any e t
  go_enter Try.func21, Try.ntmps21
  go_wp2_with fail
  refine bodyPost_ret (v := .agg #[.int .i64 (e : Nat), .int .i64 (t : Nat)]) (by simp [results, Try.results21, go_sem]) rfl ?_
  exact ⟨rfl, (Gr.refl w).alloc _⟩
set_option maxRecDepth 100000 in
set_option maxHeartbeats 400000 in
theorem pcatch_panicking (pb : Nat) (x : Value) (e t : Nat) (older : List PanicEntry) (w : World) (hc : w.heap[pb]? = some (.cells #[x] 27 (0, 0))) :
    CallsD Try.prog 20 #[.pointer (some ⟨pb, 0, none⟩)] (.panicking ({ v := fv e t, recovered := false } :: older)) w fun r u' w' =>
      r = .returned (.tuple #[]) ∧ u' = .panicking ({ v := fv e t, recovered := true } :: older) ∧ w'.heap[pb]? = some (.cells #[.int .i64 (e : Nat)] 27 (0, 0)) ∧ Kp (fun k => k = pb) w w' := by
  have hme := met_any e t w
  have hfi := field_any
  have HC := hid hc
  refine callsD_of_wpS Try.func20 rfl fun c₀ cs hu => ?_
  apply wpS_seq
  apply wpS_region
  simp [wpOpsS, go_sem, recoverD, hu, Try.ntmps20, Exit.thenS]
  refine wpS_of_wp ?_
  go_wp2_with (go_at_call 21; refine hme.mono ?_; rintro r w4 ⟨rfl, g4⟩; have h4 := (g4.below.block pb (tk_lt HC.out)).trans HC.out; have c4 := (tk_store h4).1 0; have f4 := (tk_store h4).2 0; have l4 := tk_lt h4; have G4 := hid g4; have H4 := hid h4; clear g4 h4)
  have s0 := tk_set H4.out 0 (.int .i64 (e : Nat))
  simp [bodyPostS, results, Try.results20]
  exact ⟨s0.1, (Kp.of_gr G4.out).trans s0.2 (fun _ _ h => h)⟩
theorem pcatch_idle (p : Value) (w : World) : CallsD Try.prog 20 #[p] .returning w fun e u' w' => e = .returned (.tuple #[]) ∧ u' = .returning ∧ w' = w := by
  refine callsD_of_wpS Try.func20 rfl fun c₀ cs hu => ?_
  apply wpS_seq
  apply wpS_region
  simp [wpOpsS, go_sem, recoverD, hu, Try.ntmps20, Exit.thenS]
  refine wpS_of_wp ?_
  go_wp2_with fail
  cases c₀
  simp_all [bodyPostS, results, Try.results20]
theorem gcatch_idle (p q : Value) (w : World) : CallsD Try.prog 25 #[p, q] .returning w fun e u' w' => e = .returned (.tuple #[]) ∧ u' = .returning ∧ w' = w := by
  refine callsD_of_wpS Try.func25 rfl fun c₀ cs hu => ?_
  apply wpS_seq
  apply wpS_region
  simp [wpOpsS, go_sem, recoverD, hu, Try.ntmps25, Exit.thenS]
  refine wpS_of_wp ?_
  go_wp2_with fail
  cases c₀
  simp_all [bodyPostS, results, Try.results25]
set_option maxRecDepth 100000 in
set_option maxHeartbeats 1000000 in
theorem gcatch_panicking (pb qb : Nat) (hne : ¬ pb = qb) (x y : Value) (e t : Nat) (older : List PanicEntry) (w : World) (hc : w.heap[pb]? = some (.cells #[x] 27 (0, 0))) (hd : w.heap[qb]? = some (.cells #[y] 3 (0, 0))) :
    CallsD Try.prog 25 #[.pointer (some ⟨pb, 0, none⟩), .pointer (some ⟨qb, 0, none⟩)] (.panicking ({ v := fv e t, recovered := false } :: older)) w fun r u' w' =>
      r = .returned (.tuple #[]) ∧ u' = .panicking ({ v := fv e t, recovered := true } :: older) ∧ w'.heap[pb]? = some (.cells #[.int .i64 (e : Nat)] 27 (0, 0)) ∧ w'.heap[qb]? = some (.cells #[.int .i64 (t : Nat)] 3 (0, 0)) ∧ Kp (fun k => k = pb ∨ k = qb) w w' := by
  have hmx : Try.prog.follows .mixedOrders = true := by kernel_rfl
  have hme := met_any e t w
  have hfi := field_any
  have HC := hid hc
  have HD := hid hd
  clear hc hd
  refine callsD_of_wpS Try.func25 rfl fun c₀ cs hu => ?_
  apply wpS_seq
  apply wpS_region
  simp [wpOpsS, go_sem, recoverD, hu, Try.ntmps25, Exit.thenS]
  refine wpS_of_wp ?_
  go_wp2_with (go_at_call 21; refine hme.mono ?_; rintro r w4 ⟨rfl, g4⟩; have h4 := (g4.below.block pb (tk_lt HC.out)).trans HC.out; have c4 := (tk_store h4).1 0; have f4 := (tk_store h4).2 0; have l4 := tk_lt h4; have G4 := hid g4; have H4 := hid h4; have h5 := (g4.below.block qb (tk_lt HD.out)).trans HD.out; have c5 := (tk_store h5).1 0; have f5 := (tk_store h5).2 0; have l5 := tk_lt h5; have H5 := hid h5; clear g4 h4 h5)
  have hb := heap_new' w4 (.cells #[.int .i64 (e : Nat), .int .i64 (t : Nat)] 54)
  obtain ⟨W, hW⟩ : ∃ W, W = w4.alloc (.cells #[.int .i64 (e : Nat), .int .i64 (t : Nat)] 54) := ⟨_, rfl⟩
  have hp : W.heap[pb]? = some (.cells #[x] 27 (0, 0)) := by rw [hW]; exact (((Gr.refl w4).alloc _).below.block pb l4).trans H4.out
  have hq : W.heap[qb]? = some (.cells #[y] 3 (0, 0)) := by rw [hW]; exact (((Gr.refl w4).alloc _).below.block qb l5).trans H5.out
  have GW : Hid (Gr w W) := by rw [hW]; exact G4.out.alloc _
  rw [← hW] at hb ⊢
  obtain ⟨fb, hfb⟩ : ∃ fb, fb = w4.heap.size := ⟨_, rfl⟩
  rw [← hfb] at hb l4 l5 ⊢
  have np : ¬ pb = fb := by omega
  have nq : ¬ qb = fb := by omega
  clear hW c4 f4 c5 f5 H4 H5 G4 hfb l4 l5
  have HB3 : Hid (W.heap[pb]? = some (.cells #[x] 27 (0, 0)) ∧ W.heap[qb]? = some (.cells #[y] 3 (0, 0))) := ⟨hp, hq⟩
  obtain ⟨b0, b1⟩ : W.cell? ⟨fb, 0, none⟩ = some (.int .i64 (e : Nat)) ∧ W.cell? ⟨fb, 1, none⟩ = some (.int .i64 (t : Nat)) := ⟨(tk_store hb).1 0, (tk_store hb).1 1⟩
  have cp : W.cell? ⟨pb, 0, none⟩ = some x := (tk_store hp).1 0
  have fp := (tk_store hp).2 0
  have lp := tk_lt hp
  have cq : W.cell? ⟨qb, 0, none⟩ = some y := (tk_store hq).1 0
  have fq := (tk_store hq).2 0
  have lq := tk_lt hq
  have lb := tk_lt hb
  clear hp hq hb
  have ne' : ¬ qb = pb := fun h => hne h.symm
  go_region_held3 (fun W' => W'.cell? ⟨fb, 0, none⟩ = some (.int .i64 (e : Nat)) ∧ W'.cell? ⟨fb, 1, none⟩ = some (.int .i64 (t : Nat))) (first | (simp [go_sem, b0, b1]; done) | (simp [go_sem, b0, b1, np]; done) | (simp [go_sem, b0, b1, np, nq]; done)) (fail)
  have s0 := tk_set HB3.out.1 0 (.int .i64 (e : Nat))
  have s1 := tk_set ((s0.2.block qb lq ne').trans HB3.out.2) 0 (.int .i64 (t : Nat))
  have hk : Kp (fun k => k = pb ∨ k = qb) W ((W.setCell ⟨pb, 0, none⟩ (.int .i64 (e : Nat))).setCell ⟨qb, 0, none⟩ (.int .i64 (t : Nat))) := (s0.2.mono (fun _ h => Or.inl h)).trans (s1.2.mono (fun _ h => Or.inr h)) (fun _ _ h => h)
  have hp1 := (s1.2.block pb (Nat.lt_of_lt_of_le lp s0.2.size) hne).trans s0.1
  go_wp2_with fail
  simp [bodyPostS, results, Try.results25]
  refine ⟨hp1, s1.1, ?_⟩
  exact ((Kp.of_gr GW.out).trans hk (fun _ _ h => h)).trans (Kp.of_gr (S := fun _ => False) (Gr.refl _).drew) (fun _ _ h => h.elim)
end Go.Proofs.Ytkopmkmfigenlaa.Df
