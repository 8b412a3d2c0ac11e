import Derived.Test.YtpcamjmfddnglaaHRef2
namespace Go.Proofs.Ytpcamjmfddnglaa.Ht
open Go.RowKit Go.Sort Hp
attribute [local go_sem ↓] Go.wp_at_zero Go.wp_at_succ

theorem erase_take {R : List Th} {i k : Nat} {y : Th} (h : R[i]? = some y) : (R.take (i + 1)).eraseIdx k = if i = k then (R.take i).eraseIdx k else (R.take i).eraseIdx k ++ [y] := by
  have hl := (List.getElem?_eq_some_iff.1 h).1
  have hn : (R.take i).length = i := by rw [List.length_take]; omega
  rw [List.take_add_one, h, Option.toList_some, List.eraseIdx_append, hn]
  by_cases e : i = k
  · subst e
    rw [if_neg (by omega), if_pos rfl, Nat.sub_self, List.eraseIdx_of_length_le (l := R.take i) (by omega)]
    simp
  · rw [if_neg e]
    by_cases hk : k < i
    · rw [if_pos hk]
    · rw [if_neg hk, List.eraseIdx_of_length_le (l := [y]) (by simp; omega), List.eraseIdx_of_length_le (l := R.take i) (by omega)]
theorem erase_len {R : List Th} {i k : Nat} : ((R.take i).eraseIdx k).length ≤ R.length := Nat.le_trans (List.length_eraseIdx_le _ _) (by rw [List.length_take]; omega)

set_option maxHeartbeats 1000000 in
theorem rpop_none {rb : Nat} {o : Int} {v : Value} (w : World) (hR : Rh w rb o v []) :
    Calls Try.prog 43 #[.pointer (some ⟨rb, 0, none⟩)] w fun e w' => e = .returned (ans zt false) ∧ Below w.heap.size w w' := by
  have hat : ∀ W : World, Gr w W → Calls Try.prog 50 #[.pointer (some ⟨rb, 0, none⟩)] W fun e w' => e = .returned (.int .i64 (-1)) ∧ Gr W w' := fun W h => (at_any W (hR.gr h) (by simp)).mono (by
    rintro e w' ⟨kk, rfl, h1, h2⟩
    rcases h1 with ⟨h1, _⟩ | ⟨k, x, _, h1, _⟩
    · exact ⟨by rw [h1], h2⟩
    · simp at h1)
  clear hR
  obtain ⟨W0, hW0⟩ : ∃ W0, W0 = w.alloc (.cells #[.int .i64 0, .int .i64 0] 26) := ⟨_, rfl⟩
  have G0 : Gr w W0 := by rw [hW0]; exact (Gr.refl _).alloc _
  obtain ⟨A0, hA0⟩ : ∃ A0, A0 = w.heap.size := ⟨_, rfl⟩
  have hA : W0.heap[A0]? = some (.cells #[.int .i64 0, .int .i64 0] 26 (0, 0)) := by rw [hW0, hA0]; exact heap_new' _ _
  have HAW : Hid (w.heap.size ≤ A0) := by rw [hA0]; exact Nat.le_refl _
  go_enter Try.func43, Try.ntmps43
  go_wp2_with fail
  rw [← hW0, ← hA0]
  clear hW0 hA0
  refine (hat _ G0).mono ?_
  rintro e w1 ⟨rfl, hg1⟩
  have HA1 := hid ((hg1.below.block A0 (Array.getElem?_eq_some_iff.1 hA).1).trans hA)
  have hAl : A0 < w1.heap.size := (Array.getElem?_eq_some_iff.1 HA1.out).1
  obtain ⟨a0, a1⟩ : w1.cell? ⟨A0, 0, none⟩ = some (.int .i64 0) ∧ w1.cell? ⟨A0, 1, none⟩ = some (.int .i64 0) := by simp [World.cell?, HA1.out]
  obtain ⟨b0, b1⟩ : w1.frozen? ⟨A0, 0, none⟩ = false ∧ w1.frozen? ⟨A0, 1, none⟩ = false := by simp [World.frozen?, HA1.out]
  clear hA
  go_wp2
  obtain ⟨s1, s2⟩ := two_set (c0 := .int .i64 0) (c1 := .int .i64 0) HA1.out
  generalize (w1.setCell ⟨A0, 0, none⟩ (.int .i64 0)).setCell ⟨A0, 1, none⟩ (.int .i64 0) = W5 at s1 s2 ⊢
  obtain ⟨q0, q1⟩ : W5.cell? ⟨A0, 0, none⟩ = some (.int .i64 0) ∧ W5.cell? ⟨A0, 1, none⟩ = some (.int .i64 0) := by simp [World.cell?, s1]
  refine bodyPost_ret (v := ans zt false) (by simp [results, Try.results43, go_sem, q0, q1]) rfl ?_
  exact ⟨rfl, ((Kp.of_gr (S := fun k => k = A0) (G0.trans hg1)).trans s2 (fun _ _ h => h)).below (Nat.le_refl _) (fun k hk => by subst hk; exact HAW.out)⟩

set_option maxHeartbeats 2000000 in
set_option maxRecDepth 100000 in
theorem rpop_any {rb : Nat} {o : Int} {v : Value} {R : List Th} {k : Nat} {x : Th} (w : World) (hR : Rh w rb o v R) (hl : R.length * 16 ≤ 140737488355328) (hx : R[k]? = some x)
    (hat : ∀ W : World, Gr w W → Calls Try.prog 50 #[.pointer (some ⟨rb, 0, none⟩)] W fun e w' => e = .returned (.int .i64 (k : Nat)) ∧ Gr W w') :
    Calls Try.prog 43 #[.pointer (some ⟨rb, 0, none⟩)] w fun e w' => e = .returned (ans x true) ∧ ∃ v', Rh w' rb o v' (R.eraseIdx k) ∧ Turn rb v v' w w' := by
  obtain ⟨pl, cl, rfl⟩ := hR.lst.form
  have HR : Hid (Rh w rb o (.slice pl R.length cl) R) := hR
  have HX := hid hx
  have hkl : k < R.length := (List.getElem?_eq_some_iff.1 hx).1
  have k0 : (0 : Int) ≤ (k : Int) := by omega
  have k1 : (k : Int) < (R.length : Int) := by omega
  have k2 : ¬ (k : Int) < 0 := by omega
  clear hR hx
  obtain ⟨W0, hW0⟩ : ∃ W0, W0 = w.alloc (.cells #[.int .i64 0, .int .i64 0] 26) := ⟨_, rfl⟩
  have G0 : Gr w W0 := by rw [hW0]; exact (Gr.refl _).alloc _
  obtain ⟨A0, hA0⟩ : ∃ A0, A0 = w.heap.size := ⟨_, rfl⟩
  have hA : W0.heap[A0]? = some (.cells #[.int .i64 0, .int .i64 0] 26 (0, 0)) := by rw [hW0, hA0]; exact heap_new' _ _
  have HAW : Hid (w.heap.size ≤ A0) := by rw [hA0]; exact Nat.le_refl _
  go_enter Try.func43, Try.ntmps43
  go_wp2_with fail
  rw [← hW0, ← hA0]
  clear hW0 hA0
  refine (hat _ G0).mono ?_
  rintro e w1 ⟨rfl, hg1⟩
  clear hat
  have HA1 := hid ((hg1.below.block A0 (Array.getElem?_eq_some_iff.1 hA).1).trans hA)
  have hAl : A0 < w1.heap.size := (Array.getElem?_eq_some_iff.1 HA1.out).1
  have HG1 := hid (G0.trans hg1)
  have HR1 := hid (HR.out.gr HG1.out)
  have c1 := HR1.out.c1
  have cl1 := HR1.out.lt
  obtain ⟨b2, o2, c2, e2, z2, x0, x1⟩ := v_at HR1.out.lst HX.out
  simp only [Value.slice.injEq] at e2
  obtain ⟨rfl, -, rfl⟩ := e2
  obtain ⟨A1, hA1⟩ : ∃ A1, A1 = w1.heap.size := ⟨_, rfl⟩
  obtain ⟨W2, hW2⟩ : ∃ W2, W2 = w1.alloc (.cells #[.int .i64 x.1, .int .i64 x.2] 26) := ⟨_, rfl⟩
  have G2 : Gr w1 W2 := by rw [hW2]; exact (Gr.refl _).alloc _
  have HB2 : Hid (W2.heap[A1]? = some (.cells #[.int .i64 x.1, .int .i64 x.2] 26 (0, 0))) := by rw [hW2, hA1]; exact heap_new' _ _
  have HA2 : Hid (W2.heap[A0]? = some (.cells #[.int .i64 0, .int .i64 0] 26 (0, 0))) := (G2.below.block A0 hAl).trans HA1.out
  have HN2 : Hid (A0 < A1 ∧ A1 < W2.heap.size ∧ rb < A0 ∧ w.heap.size ≤ A0) := ⟨by omega, by rw [hW2, hA1]; simp, Nat.lt_of_lt_of_le HR.out.lt HAW.out, HAW.out⟩
  have HG2 := hid (HG1.out.trans G2)
  have HR2 := hid (HR1.out.gr G2)
  clear hA G0 hg1 G2
  go_wp2_with fail
  rw [← hW2, ← hA1]
  clear hW2 hA1 x0 x1 c1 cl1 z2
  go_loopw [6, 7] (fun s6 s7 wr => ∃ (i : Nat), i ≤ R.length ∧ s7 = .int .i64 i ∧ Hid (wr.ownsRow W2.heap.size 26 2 s6 ((R.take i).eraseIdx k).length (fl EV ((R.take i).eraseIdx k)) ∧ Below W2.heap.size W2 wr)) (fun _ s7 _ => R.length - (RowKit.intOf s7).toNat)
  case atStart => exact ⟨0, Nat.zero_le _, rfl, by rw [show (R.take 0).eraseIdx k = [] by simp]; exact World.ownsRow_nil _ _ _ _, Below.refl _ _⟩
  case round =>
    obtain ⟨i, hi, rfl, HO⟩ := hrel
    have HRr := hid (HR2.out.below HO.out.2)
    have r1 := HRr.out.c1
    have rl := HRr.out.lt
    have r1f := HRr.out.fz 1
    by_cases hlt : i < R.length
    · have hltz : (i : Int) < (R.length : Int) := by omega
      have i0 : (0 : Int) ≤ (i : Int) := by omega
      obtain ⟨y, hy⟩ : ∃ y, R[i]? = some y := ⟨R[i], by rw [List.getElem?_eq_getElem]⟩
      obtain ⟨b3, o3, c3, e3, z3, y0, y1⟩ := v_at HRr.out.lst hy
      simp only [Value.slice.injEq, Option.some.injEq, Addr.mk.injEq, and_true] at e3
      obtain ⟨⟨rfl, rfl⟩, -, rfl⟩ := e3
      have HE := hid (erase_take (k := k) hy)
      have hel := erase_len (R := R) (i := i) (k := k)
      generalize (R.take i).eraseIdx k = M at HE HO hel
      clear hy
      by_cases hik : i = k
      · rw [if_pos hik] at HE
        have hikz : ((i : Int) != (k : Int)) = false := by rw [hik]; simp
        have HIK := hid hik
        clear hik
        go_wp2
        go_roundw
        case rel => exact ⟨i + 1, by omega, by go_num, by rw [HE.out]; exact HO.out⟩
        case measure => simp [RowKit.intOf]; omega
      · rw [if_neg hik] at HE
        have hikz : ((i : Int) != (k : Int)) = true := by simp; omega
        have hel2 : M.length + 1 ≤ R.length := by
          have h := erase_len (R := R) (i := i + 1) (k := k)
          rw [HE.out, List.length_append] at h
          exact h
        clear hik
        go_wp2_with (at_builtin; refine wpAppV rfl _ _ rfl W2.heap.size u6 M.length (fl EV M) rfl HO.out.1 y rfl (by omega) HO.out.2.size ?_)
        intro g8 c8 w8 ho8 hg8 hl8
        have HO8 : Hid (w8.ownsRow W2.heap.size 26 2 (.slice (some ⟨g8, 0, none⟩) (M.length + 1) c8) (M.length + 1) (fl EV (M ++ [y])) ∧ Below W2.heap.size W2 w8) := by
          refine ⟨by rw [fl_append, fl_one]; exact ho8, HO.out.2.trans ((Kp.grownBy (S := fun q => u6.ownBlock = some q) hg8 (fun _ h => h)).below HO.out.2.size (fun q hq => (HO.out.1.lt q hq).1))⟩
        clear ho8 hg8 hl8
        go_wp2
        go_roundw
        case rel => exact ⟨i + 1, by omega, by go_num, by rw [HE.out, List.length_append]; exact HO8.out⟩
        case measure => simp [RowKit.intOf]; omega
    · have hltz : ¬ (i : Int) < (R.length : Int) := by omega
      have hil : i = R.length := by omega
      subst hil
      rw [List.take_length] at HO
      generalize hM : R.eraseIdx k = M at HO
      have HM := hid hM
      clear hM
      obtain ⟨p, c, rfl⟩ := (owns_ls (E := EV) HO.out.1).form
      have HBr := hid (HO.out.2)
      have hB1 := hid ((HBr.out.block A1 HN2.out.2.1).trans HB2.out)
      have hB0 := hid ((HBr.out.block A0 (Nat.lt_trans HN2.out.1 HN2.out.2.1)).trans HA2.out)
      have n1 : A0 ≠ rb := by have := HN2.out; omega
      have n2 : rb ≠ A0 := fun e => n1 e.symm
      have n3 : A1 ≠ rb := by have := HN2.out; omega
      have n4 : rb ≠ A1 := fun e => n3 e.symm
      have l0 : A0 < wr.heap.size := (Array.getElem?_eq_some_iff.1 hB0.out).1
      have l1 : A1 < wr.heap.size := (Array.getElem?_eq_some_iff.1 hB1.out).1
      obtain ⟨a0, a1⟩ : wr.cell? ⟨A0, 0, none⟩ = some (.int .i64 0) ∧ wr.cell? ⟨A0, 1, none⟩ = some (.int .i64 0) := by simp [World.cell?, hB0.out]
      obtain ⟨f0, f1⟩ : wr.frozen? ⟨A0, 0, none⟩ = false ∧ wr.frozen? ⟨A0, 1, none⟩ = false := by simp [World.frozen?, hB0.out]
      obtain ⟨d0, d1⟩ : wr.cell? ⟨A1, 0, none⟩ = some (.int .i64 x.1) ∧ wr.cell? ⟨A1, 1, none⟩ = some (.int .i64 x.2) := by simp [World.cell?, hB1.out]
      go_wp2
      obtain ⟨s1, s2⟩ := rset HRr.out.blk (.slice p M.length c)
      have hB10 := (s2.block A0 l0 n1).trans hB0.out
      have ho10 := owns_kp s2 HO.out.1 (fun q hq e => by
        have h1 := (HO.out.1.lt q hq).1
        have h2 := HR2.out.lt
        omega)
      have hK10 : Kp (fun q => q = rb) w (wr.setCell ⟨rb, 1, none⟩ (.slice p M.length c)) := ((Kp.of_gr HG2.out).trans (Kp.of_below (S := fun q => q = rb) HBr.out) (fun _ _ h => h)).trans s2 (fun _ _ h => h)
      generalize wr.setCell ⟨rb, 1, none⟩ (.slice p M.length c) = w10 at s1 s2 hB10 ho10 hK10 ⊢
      obtain ⟨t1, t2⟩ := two_set (c0 := .int .i64 x.1) (c1 := .int .i64 x.2) hB10
      have ho11 := owns_kp t2 ho10 (fun q hq e => by
        have h1 := (ho10.lt q hq).1
        have h2 := HN2.out
        omega)
      have hb11 := (t2.block rb (Array.getElem?_eq_some_iff.1 s1).1 n2).trans s1
      have hK11 := hK10.trans t2 (fun j hj e => by have := HN2.out; omega)
      generalize (w10.setCell ⟨A0, 0, none⟩ (.int .i64 x.1)).setCell ⟨A0, 1, none⟩ (.int .i64 x.2) = w11 at t1 t2 ho11 hb11 hK11 ⊢
      obtain ⟨v0, v1⟩ : w11.cell? ⟨A0, 0, none⟩ = some (.int .i64 x.1) ∧ w11.cell? ⟨A0, 1, none⟩ = some (.int .i64 x.2) := by simp [World.cell?, t1]
      refine bodyPost_ret (v := ans x true) (by simp [results, Try.results43, go_sem, v0, v1]) rfl ?_
      have hz2 := HG2.out.size
      refine ⟨rfl, _, ⟨hb11, by rw [HM.out]; exact owns_base ho11 (Nat.zero_le _), fun e => ?_⟩, hK11.mono (fun _ h => Or.inl h), fun q hq => Or.inr ?_⟩
      · have h1 := (ho11.lt rb e).1
        have h2 := HR2.out.lt
        omega
      · have h1 := (ho11.lt q hq).1
        omega
end Go.Proofs.Ytpcamjmfddnglaa.Ht
