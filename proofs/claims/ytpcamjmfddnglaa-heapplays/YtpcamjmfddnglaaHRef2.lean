import Derived.Test.YtpcamjmfddnglaaHRef
namespace Go.Proofs.Ytpcamjmfddnglaa.Ht
open Go.RowKit Go.Sort Hp
attribute [local go_sem ↓] Go.wp_at_zero Go.wp_at_succ

theorem infoV : (Try.prog.info? 26).map (fun i => (i.zero, i.size, i.bytes)) = some (some (.agg #[.int .i64 0, .int .i64 0]), 2, 16) := by kernel_rfl
/-- 'append(own, x)' where own is of things. -/
theorem wpAppV {w : World} {ops : Array Oper} {rest : List Oper} {o : Oper} {a : Act} {Q : Exit → Act → World → Prop} (hgd : o.guard = none) (s x : Operand)
    (ho : o.op = .call { callee := .builtin .append, args := #[s, x], argTypes := #[45, 45] })
    (base : Nat) (v : Value) (n : Nat) (xs : List Value) (hs : a.eval s = v) (hown : w.ownsRow base 26 2 v n xs)
    (t : Th) (hx : a.eval x = .slice (some ⟨w.heap.size, 0, none⟩) 1 1) (hbig : (n + 1) * 16 ≤ 140737488355328) (hbase : base ≤ w.heap.size)
    (h : ∀ g cap w', w'.ownsRow base 26 2 (.slice (some ⟨g, 0, none⟩) (n + 1) cap) (n + 1) (xs ++ EV.enc t) → w.grownBy w' v.ownBlock → (v.ownBlock = some g ∨ w.heap.size ≤ g) → wpList Try.prog ops Q rest (a.put o.dst (.slice (some ⟨g, 0, none⟩) (n + 1) cap)) w') :
    wpList Try.prog ops Q (o :: rest) a (w.alloc (.cells #[.int .i64 t.1, .int .i64 t.2] 26)) :=
  wpApp1 EV Try.underlying45 infoV rfl (by decide) hgd s x ho base v n xs hs hown t hx hbig (by unfold maxLen; omega) hbase _ rfl _ h

set_option maxHeartbeats 2000000 in
set_option maxRecDepth 100000 in
theorem rpush_any {rb : Nat} {o : Int} {v : Value} {R : List Th} (x : Th) (w : World) (hR : Rh w rb o v R) (hl : (R.length + 1) * 16 ≤ 140737488355328) :
    Calls Try.prog 42 #[.pointer (some ⟨rb, 0, none⟩), tv x] w fun e w' => ∃ v', e = .returned (.tuple #[]) ∧ Rh w' rb o v' (R ++ [x]) ∧ Turn rb v v' w w' := by
  have hmx : Try.prog.follows .mixedOrders = true := by kernel_rfl
  obtain ⟨pl, cl, rfl⟩ := hR.lst.form
  have HR0 : Hid (Rh w rb o (.slice pl R.length cl) R) := hR
  obtain ⟨w4, hw4⟩ : ∃ w4, w4 = w.alloc (.cells #[.int .i64 x.1, .int .i64 x.2] 26) := ⟨_, rfl⟩
  obtain ⟨B1, hB1⟩ : ∃ B1, B1 = w.heap.size := ⟨_, rfl⟩
  have G4 : Gr w w4 := by rw [hw4]; exact (Gr.refl _).alloc _
  have hBl4 : B1 < w4.heap.size := by rw [hw4, hB1]; simp
  obtain ⟨q0, q1⟩ : w4.cell? ⟨B1, 0, none⟩ = some (.int .i64 x.1) ∧ w4.cell? ⟨B1, 1, none⟩ = some (.int .i64 x.2) := by rw [hw4, hB1]; simp
  have HR : Hid (Rh w4 rb o (.slice pl R.length cl) R) := hR.gr G4
  obtain ⟨iK, hiK, hk0, hk1, hk2⟩ := info_parts infoV
  have r0 := HR.out.c1
  have k0f := HR.out.fz 1
  have hlr := HR.out.lt
  have hne1 : some rb ≠ (Value.slice pl R.length cl).ownBlock := fun e => HR.out.off e.symm
  have hnm : w4.ownsRow 0 26 2 (.slice pl R.length cl) R.length (fl EV R) := HR.out.own
  have HG4 : Hid (Gr w w4) := G4
  clear hR G4
  go_enter Try.func42, Try.ntmps42
  go_wp2_with fail
  rw [← hw4, ← hB1]
  clear hw4 hB1
  go_region_law (refine step_append_lies _ rfl _ _ 45 rfl 0 26 iK (.agg #[.int .i64 0, .int .i64 0]) 2 16 Try.underlying45 hiK hk0 hk1 hk2 rfl (by decide) (Value.slice pl R.length cl) R.length (fl EV R) rfl (World.ownsRow.alloc (w := w4.drew) hnm _) ⟨w4.heap.size, 0, none⟩ 1 1 [.int .i64 x.1, .int .i64 x.2] rfl rfl (World.news_of_block (heap_new' _ _)) (by simp [Value.oneCell']) (by decide) (by unfold maxLen; omega) (by omega) (Nat.zero_le _) _ rfl ?_
                 intro g cap w10 hown10 hgrow hat10 hlt10
                 have HB10 := hgrow.block rb (by simp; omega) hne1
                 have k10 : w10.cell? ⟨rb, 1, none⟩ = some (Value.slice pl R.length cl) := (World.cell?_of_block (a := ⟨rb, 1, none⟩) HB10).trans ((((Gr.refl w4).drew.alloc _).cell hlr).trans r0)
                 have k10f : w10.frozen? ⟨rb, 1, none⟩ = false := (frozen_of_block HB10).trans ((((Gr.refl w4).drew.alloc _).frozen hlr).trans k0f))
  all_goals (
    go_end0
    have HB10' : w10.heap[rb]? = some (.cells #[.int .i64 o, .slice pl R.length cl] 47 (0, 0)) := HB10.trans ((((Gr.refl w4).drew.alloc _).below.block rb hlr).trans HR.out.blk)
    obtain ⟨hs1, hs2⟩ := rset HB10' (.slice (some ⟨g, 0, none⟩) (R.length + 1) cap)
    have hz4 : w.heap.size ≤ w4.heap.size := HG4.out.size
    have hK10 : Kp (fun q => (Value.slice pl R.length cl).ownBlock = some q) w4 w10 := (Kp.of_gr ((Gr.refl w4).drew.alloc _)).trans (Kp.grownBy (S := fun q => (Value.slice pl R.length cl).ownBlock = some q) hgrow (fun _ h => h)) (fun _ _ h => h)
    have hg4 : (Value.slice pl R.length cl).ownBlock = some g ∨ w4.heap.size ≤ g := hat10.imp id (fun h => by rw [h]; simp)
    have hg : (Value.slice pl R.length cl).ownBlock = some g ∨ w.heap.size ≤ g := hg4.imp id (fun h => by omega)
    have hlw := HR0.out.lt
    have hgb : g ≠ rb := fun e => by
      rcases hg with h | h
      · exact HR0.out.off (by rw [h, e])
      · omega
    refine ⟨_, rfl, ⟨hs1, ?_, ?_⟩, ?_, fun q hq => ?_⟩
    · rw [List.length_append, fl_append]
      refine owns_kp hs2 (by rw [fl_one]; exact hown10) (fun k hk e => ?_)
      have := own_eq hk
      exact hgb (by rw [this, e])
    · simpa [Value.ownBlock] using hgb
    · exact (((Kp.of_gr HG4.out).trans (hK10.mono (fun _ h => Or.inr h)) (fun _ _ h => h)).trans (hs2.mono (fun _ h => Or.inl h)) (fun _ _ h => h))
    · have := own_eq hq
      rw [← this]; exact hg)

set_option maxHeartbeats 1000000 in
theorem rpeek_none {rb : Nat} {o : Int} {v : Value} (w : World) (hR : Rh w rb o v []) :
    Calls Try.prog 44 #[.pointer (some ⟨rb, 0, none⟩)] w fun e w' => e = .returned (ans zt false) ∧ Below w.heap.size w w' := by
  have hat : ∀ W : World, Gr w W → Calls Try.prog 50 #[.pointer (some ⟨rb, 0, none⟩)] W fun e w' => e = .returned (.int .i64 (-1)) ∧ Gr W w' := fun W h => (at_any W (hR.gr h) (by simp)).mono (by
    rintro e w' ⟨kk, rfl, h1, h2⟩
    rcases h1 with ⟨h1, _⟩ | ⟨k, x, _, h1, _⟩
    · exact ⟨by rw [h1], h2⟩
    · simp at h1)
  clear hR
  obtain ⟨W0, hW0⟩ : ∃ W0, W0 = w.alloc (.cells #[.int .i64 0, .int .i64 0] 26) := ⟨_, rfl⟩
  have G0 : Gr w W0 := by rw [hW0]; exact (Gr.refl _).alloc _
  obtain ⟨A0, hA0⟩ : ∃ A0, A0 = w.heap.size := ⟨_, rfl⟩
  have hA : W0.heap[A0]? = some (.cells #[.int .i64 0, .int .i64 0] 26 (0, 0)) := by rw [hW0, hA0]; exact heap_new' _ _
  have HAW : Hid (w.heap.size ≤ A0) := by rw [hA0]; exact Nat.le_refl _
  go_enter Try.func44, Try.ntmps44
  go_wp2_with fail
  rw [← hW0, ← hA0]
  clear hW0 hA0
  refine (hat _ G0).mono ?_
  rintro e w1 ⟨rfl, hg1⟩
  have HA1 := hid ((hg1.below.block A0 (Array.getElem?_eq_some_iff.1 hA).1).trans hA)
  have hAl : A0 < w1.heap.size := (Array.getElem?_eq_some_iff.1 HA1.out).1
  obtain ⟨a0, a1⟩ : w1.cell? ⟨A0, 0, none⟩ = some (.int .i64 0) ∧ w1.cell? ⟨A0, 1, none⟩ = some (.int .i64 0) := by simp [World.cell?, HA1.out]
  obtain ⟨b0, b1⟩ : w1.frozen? ⟨A0, 0, none⟩ = false ∧ w1.frozen? ⟨A0, 1, none⟩ = false := by simp [World.frozen?, HA1.out]
  clear hA
  go_wp2
  obtain ⟨s1, s2⟩ := two_set (c0 := .int .i64 0) (c1 := .int .i64 0) HA1.out
  generalize (w1.setCell ⟨A0, 0, none⟩ (.int .i64 0)).setCell ⟨A0, 1, none⟩ (.int .i64 0) = W5 at s1 s2 ⊢
  obtain ⟨q0, q1⟩ : W5.cell? ⟨A0, 0, none⟩ = some (.int .i64 0) ∧ W5.cell? ⟨A0, 1, none⟩ = some (.int .i64 0) := by simp [World.cell?, s1]
  refine bodyPost_ret (v := ans zt false) (by simp [results, Try.results44, go_sem, q0, q1]) rfl ?_
  exact ⟨rfl, ((Kp.of_gr (S := fun k => k = A0) (G0.trans hg1)).trans s2 (fun _ _ h => h)).below (Nat.le_refl _) (fun k hk => by subst hk; exact HAW.out)⟩
set_option maxHeartbeats 1000000 in
theorem rpeek_any {rb : Nat} {o : Int} {v : Value} {R : List Th} {k : Nat} {x : Th} (w : World) (hR : Rh w rb o v R) (hx : R[k]? = some x)
    (hat : ∀ W : World, Gr w W → Calls Try.prog 50 #[.pointer (some ⟨rb, 0, none⟩)] W fun e w' => e = .returned (.int .i64 (k : Nat)) ∧ Gr W w') :
    Calls Try.prog 44 #[.pointer (some ⟨rb, 0, none⟩)] w fun e w' => e = .returned (ans x true) ∧ Below w.heap.size w w' := by
  obtain ⟨pl, cl, rfl⟩ := hR.lst.form
  have HR : Hid (Rh w rb o (.slice pl R.length cl) R) := hR
  have HX := hid hx
  have hkl : k < R.length := (List.getElem?_eq_some_iff.1 hx).1
  have k0 : (0 : Int) ≤ (k : Int) := by omega
  have k1 : (k : Int) < (R.length : Int) := by omega
  have k2 : ¬ (k : Int) < 0 := by omega
  clear hR hx
  obtain ⟨W0, hW0⟩ : ∃ W0, W0 = w.alloc (.cells #[.int .i64 0, .int .i64 0] 26) := ⟨_, rfl⟩
  have G0 : Gr w W0 := by rw [hW0]; exact (Gr.refl _).alloc _
  obtain ⟨A0, hA0⟩ : ∃ A0, A0 = w.heap.size := ⟨_, rfl⟩
  have hA : W0.heap[A0]? = some (.cells #[.int .i64 0, .int .i64 0] 26 (0, 0)) := by rw [hW0, hA0]; exact heap_new' _ _
  have HAW : Hid (w.heap.size ≤ A0) := by rw [hA0]; exact Nat.le_refl _
  go_enter Try.func44, Try.ntmps44
  go_wp2_with fail
  rw [← hW0, ← hA0]
  clear hW0 hA0
  refine (hat _ G0).mono ?_
  rintro e w1 ⟨rfl, hg1⟩
  have HA1 := hid ((hg1.below.block A0 (Array.getElem?_eq_some_iff.1 hA).1).trans hA)
  have hAl : A0 < w1.heap.size := (Array.getElem?_eq_some_iff.1 HA1.out).1
  obtain ⟨a0, a1⟩ : w1.cell? ⟨A0, 0, none⟩ = some (.int .i64 0) ∧ w1.cell? ⟨A0, 1, none⟩ = some (.int .i64 0) := by simp [World.cell?, HA1.out]
  obtain ⟨b0, b1⟩ : w1.frozen? ⟨A0, 0, none⟩ = false ∧ w1.frozen? ⟨A0, 1, none⟩ = false := by simp [World.frozen?, HA1.out]
  have HR1 := hid (HR.out.gr (G0.trans hg1))
  have c1 := HR1.out.c1
  have cl1 := HR1.out.lt
  obtain ⟨b2, o2, c2, e2, z2, x0, x1⟩ := v_at HR1.out.lst HX.out
  simp only [Value.slice.injEq] at e2
  obtain ⟨rfl, -, rfl⟩ := e2
  clear hA
  go_wp2
  obtain ⟨s1, s2⟩ := two_set (c0 := .int .i64 x.1) (c1 := .int .i64 x.2) HA1.out
  generalize (w1.setCell ⟨A0, 0, none⟩ (.int .i64 x.1)).setCell ⟨A0, 1, none⟩ (.int .i64 x.2) = W5 at s1 s2 ⊢
  obtain ⟨q0, q1⟩ : W5.cell? ⟨A0, 0, none⟩ = some (.int .i64 x.1) ∧ W5.cell? ⟨A0, 1, none⟩ = some (.int .i64 x.2) := by simp [World.cell?, s1]
  refine bodyPost_ret (v := ans x true) (by simp [results, Try.results44, go_sem, q0, q1]) rfl ?_
  exact ⟨rfl, ((Kp.of_gr (S := fun k => k = A0) (G0.trans hg1)).trans s2 (fun _ _ h => h)).below (Nat.le_refl _) (fun k hk => by subst hk; exact HAW.out)⟩
/-- The place is one. -/
theorem Mk.same {o : Int} {R : List Th} {m : Nat} {a : Int} {k : Nat} (h1 : Mk o R m a) (h2 : Mk o R m (k : Nat)) : a = (k : Int) := by
  rcases h2 with ⟨h, _⟩ | ⟨k2, x2, e2, l2, r2, m2⟩
  · omega
  · rcases h1 with ⟨_, h⟩ | ⟨k1, x1, e1, l1, r1, m1⟩
    · omega
    · have a1 := m1 k2 x2 l2 r2
      have a2 := m2 k1 x1 l1 r1
      omega
theorem at_is {rb : Nat} {o : Int} {v : Value} {R : List Th} {k : Nat} (w : World) (hR : Rh w rb o v R) (hl : R.length ≤ 140737488355328) (hk : Mk o R R.length (k : Nat)) :
    ∀ W : World, Gr w W → Calls Try.prog 50 #[.pointer (some ⟨rb, 0, none⟩)] W fun e w' => e = .returned (.int .i64 (k : Nat)) ∧ Gr W w' := fun W h => (at_any W (hR.gr h) hl).mono (by
    rintro e w' ⟨kk, rfl, h1, h2⟩
    exact ⟨by rw [h1.same hk], h2⟩)
end Go.Proofs.Ytpcamjmfddnglaa.Ht
