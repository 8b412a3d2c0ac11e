import Derived.Test.YtgajnlhgndbhoaaDSole
namespace Go.Proofs.Ytgajnlhgndbhoaa.Df
open Go.RowKit Go.Sort Wi
attribute [local go_sem ↓] Go.wp_at_zero Go.wp_at_succ

/-- What stands while the beginnings are tried. -/
structure BkI (w W : World) (d : Value) (B : List UInt8) : Prop where
  bl : Below w.heap.size w W
  ls : Ls EB W d B
theorem BkI.go {w W W' : World} {d : Value} {B : List UInt8} (h : BkI w W d B) (hb : Below W.heap.size W W') : BkI w W' d B := ⟨h.bl.trans (hb.mono h.bl.size), h.ls.below hb⟩
/-- A copy: 'append([]byte{}, l...)'. -/
theorem copy_below {w w1 : World} {v1 : Value} (h2 : Tn (.slice (some ⟨w.heap.size, 0, none⟩) 0 0) v1 (w.alloc (.cells #[] 5)) w1) : Below w.heap.size w w1 := by
  have hg := ((Gr.refl w).alloc (.cells #[] 5)).below
  exact hg.trans (h2.1.below hg.size (fun k hk => by simp [Value.ownBlock] at hk; omega))
set_option maxRecDepth 100000 in
set_option maxHeartbeats 4000000 in
theorem back_any {nv ev : Value} {a : Int} {xs : List NV} {es : List Edg} (hT : GphT (gof a xs es)) (x : UInt8) (w : World) (hG : GR w.heap.size w nv ev xs es) : Calls Try.prog 3 #[.agg (gvc a nv ev), .int .u8 (x.toNat : Nat)] w fun r w' => r = .returned (.bool true) ∧ Below w.heap.size w w' := by
  have hmx : Try.prog.follows .mixedOrders = true := by kernel_rfl
  obtain ⟨pn, cn, rfl⟩ := hG.nodes.form
  obtain ⟨pe, ce, rfl⟩ := hG.edges.form
  have g1 := (Gr.refl w).alloc (.cells (gvc a (.slice pn xs.length cn) (.slice pe es.length ce)) 25)
  have HG := hid (hG.later (Nat.le_refl _) g1.below)
  have N1 := hid (heap_new' w (.cells (gvc a (.slice pn xs.length cn) (.slice pe es.length ce)) 25))
  have G1 := hid g1
  clear hG g1
  go_enter Try.func3, Try.ntmps3
  go_wp2_with fail
  refine (put_any hT _ HG.out).mono ?_
  rintro r w2 ⟨b2, d, rfl, hd⟩
  have hd' := hd
  have B2 := hid (G1.out.below.trans (b2.mono G1.out.size))
  have n2 := (b2.block _ (tk_lt N1.out)).trans N1.out
  have G2 := hid (HG.out.later (Nat.le_refl _) b2)
  obtain ⟨pd, md, cd, rfl⟩ : ∃ p m c, d = .slice p m c := by
    rcases hd with ⟨_, hd⟩ | ⟨_, rfl⟩
    · exact owns_form hd
    · exact ⟨_, _, _, rfl⟩
  clear b2 N1 G1 HG
  go_wp2_with fail
  go_at_call 9
  refine (known_any _).mono ?_
  rintro r w3 ⟨rfl, b3⟩
  have n3 := (b3.block _ (tk_lt n2)).trans n2
  have G3 := hid (G2.out.later (Nat.le_refl _) b3)
  have B3 := hid (B2.out.trans (b3.mono B2.out.size))
  by_cases e0 : egph (gof a xs es) = 0
  · have hd := (hd.resolve_right (fun h => h.1 e0)).2
    have hlen := bgph_len hT e0
    have hgp := hid (get_put hT e0)
    have hgs := hid (fun n => get_short hT e0 n)
    have hgr := hid (get_rest hT e0 x [])
    rw [e0]
    generalize bgph (gof a xs es) = B at hd hlen hgp hgs hgr
    obtain ⟨hmd, hcap⟩ : md = B.length ∧ B.length ≤ cd := by
      obtain ⟨p, c, h⟩ := (owns_ls (E := EB) hd).form
      simp only [Value.slice.injEq] at h
      exact ⟨h.2.1, (owns_cap hd).1⟩
    subst hmd
    have D3 := hid ((owns_ls (E := EB) hd).below b3)
    clear hd hd' b3 n2 G2 B2 e0
    go_wp2_with (at_builtin; refine wpBL rfl _ _ rfl w3.heap.size _ [] rfl (World.ownsRow_made w3 #[] 0 (Nat.le_refl _) (Nat.zero_le _) rfl) _ B rfl (Or.inl (D3.out.below ((Gr.refl _).alloc _).below)) (by simp; omega) (by simp) ?_)
    intro v4 w4 h4 k4
    have b4 := copy_below k4.out
    have L4 := owns_ls (E := EB) (owns_re (n' := B.length) (xs' := fl EB B) h4.out (by simp) (by simp))
    obtain ⟨p4, c4, rfl⟩ := L4.form
    clear h4 k4
    go_wp2_with fail
    refine (get_any _ L4 (by omega)).mono ?_
    rintro r w5 ⟨b5, u5, rfl, nv5, ev5, xs5, rfl, hx5, go5⟩
    have G5 := hid (vg_gr hx5 go5)
    obtain ⟨q5, m5, c5, rfl⟩ := owns_form go5.nodes.row
    obtain ⟨q6, m6, c6, rfl⟩ := owns_form go5.edges
    rw [hgp.out] at hx5 G5 ⊢
    have b5' := b4.trans (b5.mono b4.size)
    have g6 := (Gr.refl w5).alloc (.cells (gvc a (.slice q5 m5 c5) (.slice q6 m6 c6)) 25)
    have n6 := (g6.below.block _ (Nat.lt_of_lt_of_le (tk_lt n3) b5'.size)).trans ((b5'.block _ (tk_lt n3)).trans n3)
    have hsa := same_eq (a := a) hx5.symm _ ((G3.out.later (Nat.le_refl _) b5').later (Nat.le_refl _) g6.below) (G5.out.later (Nat.le_refl _) g6.below)
    have b6 := b5'.trans (g6.below.mono b5'.size)
    have I6 : Hid (BkI w (w5.alloc (.cells (gvc a (.slice q5 m5 c5) (.slice q6 m6 c6)) 25)) (.slice pd B.length cd) B) := BkI.go ⟨B3.out, D3.out⟩ b6
    have c6 := (tk_store n6).1
    have l6 := tk_lt n6
    have c3 := (tk_store n3).1
    clear b4 b5 L4 go5 hx5 G5 b5' g6 n6 b6 n3 G3 D3 B3
    go_wp2_with fail
    go_at_call 11
    refine hsa.mono ?_
    rintro r w7 ⟨rfl, g7⟩
    have I7 := hid (I6.out.go g7.below)
    clear g7 I6 c6 l6 c3 hsa hd
    go_wp2_with fail
    go_loopw [49] (fun s49 wr => ∃ i : Nat, i ≤ B.length ∧ s49 = .int .i64 (i : Nat) ∧ Hid (BkI w wr (.slice pd B.length cd) B)) (fun s49 _ => B.length - (RowKit.intOf s49).toNat)
    case atStart => exact ⟨0, Nat.zero_le _, rfl, I7.out⟩
    case round =>
      clear I7
      obtain ⟨i, hi, rfl, HI⟩ := hrel
      by_cases hlt : i < B.length
      · have hltz : (i : Int) < (B.length : Int) := by omega
        have hz0 : (0 : Int) ≤ (i : Int) := by omega
        have hzc : (i : Int) ≤ (cd : Int) := by omega
        obtain ⟨t, hgt, htl⟩ := hgs.out i hlt
        have HGT := hid hgt
        have htz : ¬ (i : Int) < (t : Int) := by omega
        have htz0 : ¬ (t : Int) < 0 := by omega
        obtain ⟨bb, off, rfl⟩ : ∃ b off, pd = some ⟨b, off, none⟩ := by
          rcases HI.out.ls with ⟨rfl, _⟩ | ⟨b, off, c, hv, _⟩
          · simp at hlt
          · simp only [Value.slice.injEq] at hv
            exact ⟨b, off, hv.1⟩
        have C8 := hid (HI.out.ls.cut (k := i) hi cd)
        have HCL : Hid ((B.take i).length = i) := by show _ = _; rw [List.length_take]; omega
        clear hgt
        generalize B.take i = C at HGT C8 HCL
        go_wp2_with (at_builtin; refine wpBL rfl _ _ rfl wr.heap.size _ [] rfl (World.ownsRow_made wr #[] 0 (Nat.le_refl _) (Nat.zero_le _) rfl) _ C rfl (Or.inl (C8.out.below ((Gr.refl _).alloc _).below)) (by have := HCL.out; simp; omega) (by simp) ?_)
        intro v8 w8 h8 k8
        have b8 := copy_below k8.out
        have L8 := owns_ls (E := EB) (owns_re (n' := C.length) (xs' := fl EB C) h8.out (by simp) (by simp))
        obtain ⟨p8, c8, rfl⟩ := L8.form
        clear h8 k8 C8
        go_wp2_with fail
        refine (get_any _ L8 (by have := HCL.out; omega)).mono ?_
        rintro r w9 ⟨b9, u9, rfl, nv9, ev9, xs9, rfl, hx9, go9⟩
        have G9 := vg_gr hx9 go9
        obtain ⟨q9, m9, c9, rfl⟩ := owns_form go9.nodes.row
        obtain ⟨q0, m0, c0, rfl⟩ := owns_form go9.edges
        rw [HGT.out] at hx9 G9 ⊢
        have g10 := (Gr.refl w9).alloc (.cells (gvc 0 (.slice q9 m9 c9) (.slice q0 m0 c0)) 25)
        have hsa := same_eq (a := 0) (gr_none (w9.alloc (.cells (gvc 0 (.slice q9 m9 c9) (.slice q0 m0 c0)) 25)) hx9).2 _ (G9.later (Nat.le_refl _) g10.below) (gr_none _ hx9).1
        have I10 := hid (((HI.out.go b8).go b9).go g10.below)
        have hna : none'.arity = 0 := rfl
        clear b8 b9 L8 go9 G9 g10 HI
        go_wp2_with fail
        go_at_call 11
        refine hsa.mono ?_
        rintro r w11 ⟨rfl, g11⟩
        have I11 := hid (I10.out.go g11.below)
        clear I10 g11 hsa
        go_wp2_with fail
        go_roundw
        case rel => exact ⟨i + 1, by omega, by go_num, I11.out⟩
        case measure => simp [RowKit.intOf]; omega
      · have hltz : ¬ (i : Int) < (B.length : Int) := by omega
        go_wp2_with (at_builtin; refine wpBL rfl _ _ rfl wr.heap.size _ [] rfl (World.ownsRow_made wr #[] 0 (Nat.le_refl _) (Nat.zero_le _) rfl) _ B rfl (Or.inl (HI.out.ls.below ((Gr.refl _).alloc _).below)) (by simp; omega) (by simp) ?_)
        intro v8 w8 h8 k8
        have b8 := copy_below k8.out
        have O8 : Hid (Ow w8 v8 B) := owns_base (owns_re (n' := B.length) (xs' := fl EB B) h8.out (by simp) (by simp)) (Nat.zero_le _)
        obtain ⟨p8, n8, c8, rfl⟩ := ow_form O8.out
        clear h8
        go_wp2_with (at_builtin; refine wpB1 rfl _ _ rfl _ B rfl O8.out x rfl (by omega) _ rfl _ ?_)
        intro v9 w9 h9 k9
        have b9 := copy_below (k8.out.trans k9.out)
        have L9 := ow_ls h9.out
        obtain ⟨p9, n9, c9, rfl⟩ := ow_form h9.out
        clear h9 k9 k8 O8
        go_wp2_with fail
        refine (get_any _ L9 (by rw [List.length_append, List.length_singleton]; omega)).mono ?_
        rintro r w10 ⟨b10, u10, rfl, nv10, ev10, xs10, rfl, hx10, go10⟩
        have G10 := vg_gr hx10 go10
        obtain ⟨q1, m1, c1, rfl⟩ := owns_form go10.nodes.row
        obtain ⟨q0, m0, c0, rfl⟩ := owns_form go10.edges
        rw [hgr.out] at hx10 G10 ⊢
        have g11 := (Gr.refl w10).alloc (.cells (gvc 0 (.slice q1 m1 c1) (.slice q0 m0 c0)) 25)
        have hsa := same_eq (a := 0) (gr_none (w10.alloc (.cells (gvc 0 (.slice q1 m1 c1) (.slice q0 m0 c0)) 25)) hx10).2 _ (G10.later (Nat.le_refl _) g11.below) (gr_none _ hx10).1
        have I11 := hid (((HI.out.go b9).go b10).go g11.below)
        have hna : none'.arity = 0 := rfl
        clear b8 b9 b10 L9 go10 G10 g11 HI
        go_wp2_with fail
        go_at_call 11
        refine hsa.mono ?_
        rintro r w12 ⟨rfl, g12⟩
        have I12 := hid (I11.out.go g12.below)
        clear I11 g12 hsa
        go_wp2_with fail
        go_ret
        exact ⟨rfl, I12.out.bl⟩
  · have hd := (hd.resolve_left (fun h => e0 h.1)).2
    simp only [Value.slice.injEq] at hd
    obtain ⟨rfl, rfl, rfl⟩ := hd
    have hz : ((egph (gof a xs es) : Int) == 0) = false := by simp; omega
    have hz' : ¬ (egph (gof a xs es) : Int) = 0 := by omega
    generalize egph (gof a xs es) = E at hz hz'
    clear hd' b3
    go_wp2_with fail
    go_ret
    exact ⟨rfl, B3.out⟩
end Go.Proofs.Ytgajnlhgndbhoaa.Df
