import Derived.Test.YtnclnagpfjmlcaaDFp
namespace Go.Proofs.Ytnclnagpfjmlcaa.Df
open Go.RowKit Go.Sort Wi
attribute [local go_sem ↓] Go.wp_at_zero Go.wp_at_succ

section
variable {fb a e bd : Nat} {v : Value} {L : List UInt8}
set_option maxRecDepth 100000 in
set_option maxHeartbeats 2000000 in
theorem ftruth_k (w : World) (h : Ft w fb v L a e bd) : Calls Try.prog 33 #[.pointer (some ⟨fb, 0, none⟩)] w (Fk truth Vb fb v L a e bd w) := by
  have hmx : Try.prog.follows .mixedOrders = true := by kernel_rfl
  obtain ⟨p, c, rfl⟩ := h.ls.form
  have x0 := h.c0
  have x1 := h.c1
  have x2 := h.c2
  have hlt := h.lt
  have hle := h.le
  have hbg := h.big
  have f1 := h.fz 1
  have HF := hid h
  have hgc : ∀ (n b o : Nat), (w.drewN n).cell? ⟨b, o, none⟩ = w.cell? ⟨b, o, none⟩ := fun n b o => rfl
  clear h
  by_cases h0 : e = 0
  · subst h0
    by_cases hl : a < L.length
    · have hz : ¬ (L.length : Int) ≤ (a : Int) := by omega
      have hz2 : (a : Int) < (L.length : Int) := by omega
      obtain ⟨x, hx⟩ : ∃ x, L[a]? = some x := ⟨L[a], by simp⟩
      obtain ⟨b1, o1, c1, e1, z1, hc⟩ := ls_at HF.out.ls hx
      simp only [Value.slice.injEq] at e1
      obtain ⟨rfl, -, rfl⟩ := e1
      have hn1 : ¬ b1 = fb := fun e => HF.out.off (by rw [e]; rfl)
      have HD : Hid (L.drop a = x :: L.drop (a + 1)) := by
        show _ = _
        rw [List.drop_eq_getElem_cons hl]
        rw [List.getElem?_eq_getElem hl] at hx
        rw [Option.some.inj hx]
      clear hx
      by_cases hx1 : x.toNat ≤ 1
      · have hxz : ¬ (1 : Int) < (x.toNat : Int) := by omega
        have hw1 : wrap64 ((a : Int) + 1) = ((a + 1 : Nat) : Int) := by unfold wrap64; omega
        go_enter Try.func33, Try.ntmps33
        go_wp2_with fail
        go_quiet (fail)
        revert nq
        intro q1
        go_wp2_with fail
        go_quiet (fail)
        go_wp2_with fail
        have hs := (HF.out.below ((Gr.refl w).drewN (q1 + nq)).below).setAt (a + 1) (by omega)
        obtain ⟨W, hW⟩ : ∃ W, W = (w.drewN (q1 + nq)).setCell ⟨fb, 1, none⟩ (.int .i64 ((a : Int) + 1)) := ⟨_, rfl⟩
        rw [← hW]
        obtain ⟨s1, s2⟩ : Ft W fb (.slice (some ⟨b1, o1, none⟩) L.length c) L (a + 1) 0 bd ∧ Kp (fun k => k = fb) (w.drewN (q1 + nq)) W := by rw [hW]; exact hs
        have y0 := s1.c0
        have y1 : W.cell? ⟨fb, 1, none⟩ = some (.int .i64 ((a : Int) + 1)) := s1.c1
        have yc : W.cell? ⟨b1, o1 + a, none⟩ = some (bv x) := (s2.cell z1 hn1).trans hc
        have yl := s1.lt
        have yz : b1 < W.heap.size := Nat.lt_of_lt_of_le z1 s2.size
        have hw2 : wrap64 ((a : Int) + 1 - 1) = (a : Int) := by unfold wrap64; omega
        have S1 := hid s1
        have S2 := hid (kp_then ((Gr.refl w).drewN (q1 + nq)) s2)
        clear hs hW s1 s2 x0 x1 x2 hc f1 hgc
        go_quiet (fail)
        go_wp2_with fail
        go_ret
        refine ⟨x.toNat == 1, _, a + 1, 0, bd, rfl, ?_, S1.out.below ((Gr.refl W).drewN _).below, kp_gr S2.out ((Gr.refl W).drewN _), ?_⟩
        · show Value.bool _ = Value.bool _
          congr 1
          rw [Bool.eq_iff_iff]
          simp
          try omega
        · unfold Tf truth
          rw [if_pos rfl, HD.out]
          dsimp only
          rw [if_pos hx1]
          exact ⟨rfl, rfl, rfl⟩
      · have hxz : (1 : Int) < (x.toNat : Int) := by omega
        have hfa := fun m => fault_any (er := 31) a (w.drewN m) (HF.out.below ((Gr.refl w).drewN m).below)
        go_enter Try.func33, Try.ntmps33
        go_wp2_with fail
        go_quiet (fail)
        go_wp2_with fail
        go_quiet (fail)
        go_wp2_with fail
        refine (hfa _).mono ?_
        rintro r w1 ⟨rfl, t1, k1⟩
        have y2 := t1.c2
        have ylt := t1.lt
        have T1 := hid t1
        have K1 := hid (kp_then ((Gr.refl w).drewN _) k1)
        clear t1 k1 hfa
        go_wp2_with fail
        go_ret
        refine ⟨false, _, a, 31, a, rfl, rfl, T1.out, K1.out, ?_⟩
        unfold Tf truth
        rw [if_pos rfl, HD.out]
        dsimp only
        rw [if_neg hx1]
        exact ⟨rfl, rfl, by decide⟩
    · have hz : (L.length : Int) ≤ (a : Int) := by omega
      have hfa := fun m => fault_any (er := 30) a (w.drewN m) (HF.out.below ((Gr.refl w).drewN m).below)
      go_enter Try.func33, Try.ntmps33
      go_wp2_with fail
      go_quiet (fail)
      go_wp2_with fail
      refine (hfa _).mono ?_
      rintro r w1 ⟨rfl, t1, k1⟩
      have y2 := t1.c2
      have ylt := t1.lt
      have T1 := hid t1
      have K1 := hid (kp_then ((Gr.refl w).drewN _) k1)
      clear t1 k1 hfa
      go_wp2_with fail
      go_quiet (fail)
      go_wp2_with fail
      go_ret
      refine ⟨false, _, a, 30, a, rfl, rfl, T1.out.below ((Gr.refl w1).drewN _).below, kp_gr K1.out ((Gr.refl w1).drewN _), ?_⟩
      unfold Tf truth
      rw [if_pos rfl, List.drop_of_length_le (by omega)]
      exact ⟨rfl, rfl, by decide⟩
  · have hz : ((e : Int) == 0) = false := by simp; omega
    have hz' : ¬ (e : Int) = 0 := by omega
    go_enter Try.func33, Try.ntmps33
    go_wp2_with fail
    go_quiet (fail)
    go_wp2_with fail
    go_quiet (fail)
    go_wp2_with fail
    go_ret
    exact ⟨false, _, a, e, bd, rfl, rfl, HF.out.below ((Gr.refl w).drewN _).below, Kp.of_gr ((Gr.refl w).drewN _), by unfold Tf; rw [if_neg h0]; exact ⟨rfl, rfl⟩⟩
end
end Go.Proofs.Ytnclnagpfjmlcaa.Df
