import Derived.Test.YtghpekkncfckaaaCaScp0
namespace Go.Proofs.Ytghpekkncfckaaa.Ca
open Go.RowKit Go.Sort
attribute [local go_sem ↓] Go.wp_at_zero Go.wp_at_succ
set_option maxHeartbeats 32000000 in
set_option maxRecDepth 100000 in
theorem probeScript_any (v : Value) (sc : List Opx) (w : World) (hL : Ls EO w v sc) (hF : ∀ o ∈ sc, Fits w o) (hlen : sc.length ≤ 1048576) (htot : tot sc ≤ 1048576) : Calls Try.prog 5 #[v] w fun e w' => e = .returned (.bool true) ∧ Below w.heap.size w w' := by
  have hmx : Try.prog.follows .mixedOrders = true := by kernel_rfl
  obtain ⟨ps, cs, rfl⟩ := hL.form
  have HL := hid hL
  have HF := hid hF
  have HTOT := hid htot
  obtain ⟨n, hn⟩ : ∃ n, n = sc.length := ⟨_, rfl⟩
  rw [← hn] at HL hlen
  rw [← hn]
  have HN := hid hn
  clear hL hF htot hn
  have h1 := known_any w
  go_enter Try.func5, Try.ntmps5
  go_wp2_with fail
  refine h1.mono ?_
  rintro e w1 ⟨rfl, hB1⟩
  have HB1 := hid hB1
  have h2 := new_any w1
  clear h1 hB1
  go_wp2_with fail
  refine h2.mono ?_
  rintro e w2 ⟨pb, rfl, H2⟩
  clear h2
  obtain ⟨w3, hw3⟩ : ∃ w3, w3 = ((w2.alloc (.cells #[.pointer (some ⟨pb, 0, none⟩)] 29)).alloc (.cells #[.slice none 0 0] 54)).alloc (.cells #[.pointer (some ⟨w2.heap.size + 1, 0, none⟩)] 52) := ⟨_, rfl⟩
  obtain ⟨z2, hz2⟩ : ∃ z, z = w2.heap.size := ⟨_, rfl⟩
  have I0 := hid (Iv.init HB1.out H2.out hw3)
  rw [← hz2] at I0
  rw [← hz2] at hw3
  go_upto_region 5 with fail
  rw [← hz2, ← hw3]
  clear hw3 hz2 H2 HB1
  have I0' : Hid (Iv w 0 (tot (sc.take 0)) 1 0 (.slice (some ⟨z2, 0, none⟩) 1 1) (.slice (some ⟨z2 + 2, 0, none⟩) 1 1) (.slice none 0 0) w3) := I0.out
  clear I0
  go_wp2_with fail
  go_loopw [3, 4, 5, 6] (fun s3 s4 s5 s6 wr => ∃ (i m nb : Nat) (pP pR pB : Option Addr) (cP cR cB : Nat), i ≤ n ∧ s6 = .int .i64 i ∧ s3 = .slice pP m cP ∧ s4 = .slice pR m cR ∧ s5 = .slice pB nb cB ∧ Hid (Iv w i (tot (sc.take i)) m nb (.slice pP m cP) (.slice pR m cR) (.slice pB nb cB) wr)) (fun _ _ _ s6 _ => n - (RowKit.intOf s6).toNat)
  case atStart => exact ⟨0, 1, 0, _, _, _, _, _, _, Nat.zero_le _, rfl, rfl, rfl, rfl, I0'⟩
  case round =>
    clear I0'
    obtain ⟨i, m, nb, pP, pR, pB, cP, cR, cB, hi, rfl, rfl, rfl, rfl, I⟩ := hrel
    have hm1 : 1 ≤ m := I.out.1
    have hm4 : m ≤ 4 := by obtain ⟨_, _, _, _, _, _, _, _, _, h⟩ := I.out; exact h.m4
    by_cases hlt : i < n
    · have hltz : (i : Int) < (n : Int) := by omega
      have i0 : (0 : Int) ≤ (i : Int) := by omega
      obtain ⟨tag, hbs, rbs, Q, V, Wv, D, hS⟩ := I.out.2.2
      have hnb : nb ≤ i := I.out.2.1
      obtain ⟨x, hx⟩ : ∃ x, sc[i]? = some x := ⟨sc[i]'(by have := HN.out; omega), by simp⟩
      have HTS := hid (tot_snoc hx)
      have HFX := hid (HF.out x (List.mem_of_getElem? hx))
      have HTL := hid (tot_le sc (i + 1))
      obtain ⟨N, hN⟩ : ∃ N, N = tot (sc.take i) := ⟨_, rfl⟩
      rw [← hN] at hS HTS
      have hbel := hS.bel
      obtain ⟨xa, xo, l, pl, cl, t, f, pf, cf, ky⟩ := x
      obtain ⟨b2, o2, c2, e2, z2, x0, x1, x2, x3, x4, x5, x6, x7⟩ := atO (HL.out.below hbel) hx
      dsimp only at x0 x1 x2 x3 x4 x5 x6 x7 HTS
      simp only [Value.slice.injEq] at e2
      obtain ⟨rfl, -, rfl⟩ := e2
      have HFl : Hid (Lw EC w (.slice pl l.length cl) l) := HFX.out.1
      have HFf : Hid (Lw ET w (.slice pf f.length cf) f ∧ f.length ≤ 1048576) := HFX.out.2
      obtain ⟨nl, hnl⟩ : ∃ k, k = l.length := ⟨_, rfl⟩
      obtain ⟨nf, hnf⟩ : ∃ k, k = f.length := ⟨_, rfl⟩
      rw [← hnl] at x2 HTS HFl
      rw [← hnf] at x6 HFf
      have HNL := hid hnl
      have HNF := hid hnf
      have hNl : N + nl ≤ 1048576 := by have h1 := HTS.out; have h2 := HTL.out; have h3 := HTOT.out; omega
      obtain ⟨b1, hb1⟩ : ∃ b1, b1 = wr.heap.size := ⟨_, rfl⟩
      obtain ⟨U, hU⟩ : ∃ W1, W1 = wr.alloc (.cells (bxc xa xo pl nl cl t pf nf cf ky) 58) := ⟨_, rfl⟩
      have G1 : Gr wr U := by rw [hU]; exact (Gr.refl _).alloc _
      have X1 : Hid (U.heap[b1]? = some (.cells (bxc xa xo pl nl cl t pf nf cf ky) 58 (0, 0))) := by rw [hU, hb1]; exact heap_new' _ _
      have H0 : Hid (tg tag wr 0 b1 = 0) := tg_new (Nat.le_of_eq hb1.symm)
      have S1 := hid (hS.below G1.below 0)
      obtain ⟨tag1, ht1⟩ : ∃ tag1, tag1 = tg tag wr 0 := ⟨_, rfl⟩
      rw [← ht1] at S1 H0
      clear hnl hnf
      have HU : Hid (wr.alloc (.cells #[.int .i64 xa, .int .i64 xo, .slice pl nl cl, .int .u64 t.1, .int .u64 t.2.1, .int .u64 t.2.2, .slice pf nf cf, .int .u64 ky] 58) = U) := hU.symm
      clear hU
      go_upto_region 10 with fail
      rw [← hb1, HU.out]
      clear HU hb1 G1 x0 x1 x2 x3 x4 x5 x6 x7 z2 ht1 hS I HFX hbel
      obtain ⟨q0, q1, q2, q3, q4, q5, q6, q7, q8⟩ := box_at X1.out
      have hmz : ((m : Int) == 0) = false := by simp; omega
      have hr1 : -(m : Int) < xo.tmod m := Int.lt_tmod_of_pos xo (by omega)
      have hr2 : xo.tmod m < (m : Int) := Int.tmod_lt_of_pos xo (by omega)
      have HX := hid hx
      have HNN := hid hN
      clear hx hN
      go_upto_if 40 with fail
      go_cut [8] (fun s8 w' => ∃ k : Nat, k < m ∧ s8 = .int .i64 k ∧ w' = U)
      case first =>
        by_cases hneg : xo.tmod m < 0
        · go_wp2_with fail
          go_meet
          refine ⟨(xo.tmod m + m).toNat, by omega, ?_, rfl⟩
          rw [Int.toNat_of_nonneg (by omega)]
        · go_wp2_with fail
          go_meet
          refine ⟨(xo.tmod m).toNat, by omega, ?_, rfl⟩
          rw [Int.toNat_of_nonneg (by omega)]
      case rest =>
        obtain ⟨k, hkm, rfl, hwc⟩ := hcut
        rw [hwc]
        clear hwc hr1 hr2 hmz
        have k0 : (0 : Int) ≤ (k : Int) := by omega
        have kmz : (k : Int) < (m : Int) := by omega
        obtain ⟨gP, cP', eP, lP, cellP, tP⟩ := S1.out.ps.pts_at hkm
        obtain ⟨gR, cR', eR, lR, cellR, tR⟩ := S1.out.rs.pts_at hkm
        simp only [Value.slice.injEq] at eP eR
        obtain ⟨rfl, -, rfl⟩ := eP
        obtain ⟨rfl, -, rfl⟩ := eR
        have HTG := hid (And.intro tP tR)
        have HCE := hid (And.intro cellP (And.intro cellR (And.intro lP lR)))
        have P1 : Hid (Pr U tag1 (4 + 2 * k) (5 + 2 * k) (hbs k) (rbs k) N (Q k)) := S1.out.pr k hkm
        obtain ⟨A, hA⟩ : ∃ A, A = Q k := ⟨_, rfl⟩
        rw [← hA] at P1
        have HAQ := hid hA
        have HAL : Hid (A.length ≤ 1048576 ∧ A.length * 40 ≤ 140737488355328 ∧ (srt A).length * 40 ≤ 140737488355328 ∧ (srt A).length ≤ 5864062014806) := by
          have h1 := P1.out.le
          rw [srt_len]
          exact ⟨by omega, by omega, by omega, by omega⟩
        have HLl : Hid (Lw EC U (.slice pl nl cl) l) := HFl.out.below S1.out.bel
        have HLf : Hid (Lw ET U (.slice pf nf cf) f ∧ nf ≤ 1048576) := ⟨HFf.out.1.below S1.out.bel, HFf.out.2⟩
        have HLT : Hid (l ≠ [] → ∀ q, (Value.slice pl nl cl).ownBlock = some q → tag1 q = 0) := fun hne q hq => by
          rcases HFl.out with h | ⟨e, _⟩
          · exact S1.out.old q (h.blk q hq)
          · exact absurd e hne
        clear tP tR hA HFl HFf
        by_cases e0 : xa = 0
        · as_aux_lemma =>
            subst e0
            obtain ⟨cellP, cellR, lP, lR⟩ := HCE.out
            have hc := caughtBy_any (a := 4 + 2 * k) (b := 5 + 2 * k) U (by omega) (by omega) (by omega) P1.out.p P1.out.r HLl.out (fun hne q hq => by
              have := HLT.out hne q hq
              omega) (by have h1 := HNL.out; have h2 := P1.out.le; omega)
            go_wp2_with fail
            refine hc.mono ?_
            clear hc
            rintro e w5 ⟨rfl, H5⟩
            have TE : Hid (∃ tag hb rb Q V Wv D, Sc w w5 tag m nb (tot (sc.take (i + 1))) hb rb Q V Wv D (.slice (some ⟨gP, 0, none⟩) m cP) (.slice (some ⟨gR, 0, none⟩) m cR) (.slice pB nb cB)) := by
              rw [HTS.out]
              obtain ⟨t5, n5, p5, r5⟩ := H5.out
              obtain ⟨tag5, Q5, h5⟩ := S1.out.ans (N' := N + nl) hkm (Nat.le_add_right N nl) ⟨t5, A ++ l, ⟨p5, r5, by rw [List.length_append, ← HNL.out]; exact Nat.add_le_add_right P1.out.le nl⟩, n5⟩
              exact ⟨_, _, _, _, _, _, _, h5⟩
            clear H5 q0 q1 q2 q3 q4 q5 q6 q7 q8 cellP cellR lP lR
            go_wp2_with fail
            go_roundw
            case rel => exact ⟨i + 1, m, nb, _, _, _, _, _, _, hlt, by go_num, rfl, rfl, rfl, ⟨by omega, by omega, TE.out⟩⟩
            case measure => simp [RowKit.intOf]; omega
        · have d0 : (xa == 0) = false := by simp [e0]
          clear e0
          by_cases e1 : xa = 1
          · as_aux_lemma =>
              subst e1
              have G0 : Below U.heap.size U U.drew := (Gr.refl U).drew.below
              have Sd : Hid (Sc w U.drew tag1 m nb N hbs rbs Q V Wv D (.slice (some ⟨gP, 0, none⟩) m cP) (.slice (some ⟨gR, 0, none⟩) m cR) (.slice pB nb cB)) := S1.out.nx (Nx.same (fun _ => False) tag1 G0)
              have Xd : Hid (U.drew.heap[b1]? = some (.cells (bxc 1 xo pl nl cl t pf nf cf ky) 58 (0, 0))) := X1.out
              obtain ⟨Ud, hUd⟩ : ∃ V, V = U.drew := ⟨_, rfl⟩
              have GU : Hid (Below U.heap.size U Ud) := by rw [hUd]; exact G0
              rw [← hUd] at Sd Xd
              have HUd := hid hUd
              clear hUd G0
              obtain ⟨M, hM⟩ : ∃ M, M = srt A := ⟨_, rfl⟩
              have HM : Hid (M.length ≤ 1048576) := by rw [hM]; exact (by rw [srt_len]; exact HAL.out.1)
              have hcP : ∀ W, Below Ud.heap.size Ud W → Calls Try.prog 9 #[.pointer (some ⟨hbs k, 0, none⟩)] W fun e w' => ∃ p n c, e = .returned (.slice p n c) ∧ Hid (Tld W M (.slice p n c) w' ∧ n = M.length) := fun W h => by
                rw [hM]
                refine (all_any W (P1.out.p.below (GU.out.trans (h.mono GU.out.size))) HAL.out.2.1).mono ?_
                rintro e w' ⟨p, c, rfl, H⟩
                exact ⟨p, _, c, rfl, H.out, (srt_len A).symm⟩
              have hcR : ∀ W, Below Ud.heap.size Ud W → ∃ pr nr cr, W.cell? ⟨rbs k, 0, none⟩ = some (.slice pr nr cr) ∧ rbs k < W.heap.size ∧ nr = M.length ∧ Ls EC W (.slice pr nr cr) M := fun W h => by
                rw [hM]
                obtain ⟨v, r1, -, r3, -, -⟩ := P1.out.r.below (GU.out.trans (h.mono GU.out.size))
                obtain ⟨pr, cr, rfl⟩ := own_form r3
                exact ⟨pr, _, cr, (tk_store r1).1 0, tk_lt r1, rfl, owns_ls (E := EC) r3⟩
              have HB1 : Hid (tag1 b1 = 0 ∧ b1 < Ud.heap.size) := ⟨H0.out, tk_lt Xd.out⟩
              have HSB : Hid ((Value.slice pB nb cB).ownBlock ≠ some b1) := fun e => by
                have h1 := S1.out.bk.2 b1 e
                have h2 := H0.out
                omega
              clear hM
              obtain ⟨pr, nr, cr, hrc, hrl, hrn, hrs⟩ := hcR Ud (Below.refl _ _)
              have HRC : Hid (∀ W, Below Ud.heap.size Ud W → W.cell? ⟨rbs k, 0, none⟩ = some (.slice pr nr cr) ∧ rbs k < W.heap.size ∧ Ls EC W (.slice pr nr cr) M) := fun W h => ⟨(h.cell (p := ⟨rbs k, 0, none⟩) hrl).trans hrc, Nat.lt_of_lt_of_le hrl h.size, hrs.below h⟩
              have HNR := hid hrn
              have HSR : Hid ((Value.slice pB nb cB).ownBlock ≠ some (rbs k) ∧ rbs k < Ud.heap.size) := ⟨fun e => by
                have h1 := S1.out.bk.2 (rbs k) e
                obtain ⟨_, _, h2, _⟩ := id P1.out.r
                omega, hrl⟩
              have hX0 := And.intro hrc hrl
              have BDM : Hid ((0 + M.length) * 40 ≤ 140737488355328 ∧ 0 + M.length ≤ maxLen) := by
                have h := HM.out
                exact ⟨by omega, by unfold maxLen; omega⟩
              clear hcR hrc hrl hrn hrs
              obtain ⟨cellP, cellR, lP, lR⟩ := HCE.out
              go_upto_region 20 with fail
              clear q0 q1 q2 q3 q4 q5 q6 q7 q8 cellP cellR lP lR
              refine wp_regionD (S := fun W' => W'.cell? ⟨rbs k, 0, none⟩ = some (.slice pr nr cr) ∧ rbs k < W'.heap.size) (D := []) hmx ?_
              rw [← HUd.out]
              refine' wpAnyD_take (i := 0) (oi := { dst := some 69, op := Go.Op.move (Go.Operand.tmp 5), type := 56, pos := "law.go:132", after := #[], guard := none }) (v := _) rfl (by kernel_rfl) (by kernel_rfl) (by kernel_rfl) (fun _ _ _ h => h) (by kernel_rfl) (Or.inl ⟨by rfl, ?hy1⟩) hX0 ?rest1
              case hy1 => (intro W hSw; go_simp; try (with_reducible rfl))
              try simp only [Act.put, List.setIfInBounds_toArray, List.set_cons_zero, List.set_cons_succ]
              refine' wpAnyD_take (i := 1) (oi := { dst := some 70, op := Go.Op.move (Go.Operand.tmp 9), type := 29, pos := "law.go:132", after := #[], guard := none }) (v := _) rfl (by kernel_rfl) (by kernel_rfl) (by kernel_rfl) (fun _ _ _ h => h) (by kernel_rfl) (Or.inl ⟨by rfl, ?hy2⟩) hX0 ?rest2
              case hy2 => (intro W hSw; go_simp; try (with_reducible rfl))
              try simp only [Act.put, List.setIfInBounds_toArray, List.set_cons_zero, List.set_cons_succ]
              refine' wpAnyD_take (i := 3) (oi := { dst := some 72, op := Go.Op.move (Go.Operand.tmp 9), type := 29, pos := "law.go:132", after := #[], guard := none }) (v := _) rfl (by kernel_rfl) (by kernel_rfl) (by kernel_rfl) (fun _ _ _ h => h) (by kernel_rfl) (Or.inl ⟨by rfl, ?hy3⟩) hX0 ?rest3
              case hy3 => (intro W hSw; go_simp; try (with_reducible rfl))
              try simp only [Act.put, List.setIfInBounds_toArray, List.set_cons_zero, List.set_cons_succ]
              refine' wpAnyD_take (i := 6) (oi := { dst := some 75, op := Go.Op.move (Go.Operand.tmp 10), type := 52, pos := "law.go:132", after := #[], guard := none }) (v := _) rfl (by kernel_rfl) (by kernel_rfl) (by kernel_rfl) (fun _ _ _ h => h) (by kernel_rfl) (Or.inl ⟨by rfl, ?hy4⟩) hX0 ?rest4
              case hy4 => (intro W hSw; go_simp; try (with_reducible rfl))
              try simp only [Act.put, List.setIfInBounds_toArray, List.set_cons_zero, List.set_cons_succ]
              refine' wpAnyD_take (i := 7) (oi := { dst := some 76, op := Go.Op.nilCheck (Go.Operand.tmp 75), type := 0, pos := "law.go:132", after := #[{ on := 6, ground := Go.Ground.data }], guard := none }) (v := _) rfl (by kernel_rfl) (by kernel_rfl) (by kernel_rfl) (fun _ _ _ h => h) (by kernel_rfl) (Or.inl ⟨by rfl, ?hy5⟩) hX0 ?rest5
              case hy5 => (intro W hSw; obtain ⟨s1, s2⟩ := hSw; go_simp; try (with_reducible rfl))
              try simp only [Act.put, List.setIfInBounds_toArray, List.set_cons_zero, List.set_cons_succ]
              refine' wpAnyD_take (i := 8) (oi := { dst := some 77, op := Go.Op.fieldAddr 54 (Go.Operand.tmp 76) 0, type := 0, pos := "law.go:132", after := #[{ on := 7, ground := Go.Ground.data }], guard := none }) (v := _) rfl (by kernel_rfl) (by kernel_rfl) (by kernel_rfl) (fun _ _ _ h => h) (by kernel_rfl) (Or.inl ⟨by rfl, ?hy6⟩) hX0 ?rest6
              case hy6 => (intro W hSw; go_simp; try (with_reducible rfl))
              try simp only [Act.put, List.setIfInBounds_toArray, List.set_cons_zero, List.set_cons_succ]
              refine' wpAnyD_take (i := 9) (oi := { dst := some 78, op := Go.Op.load 22 (Go.Operand.tmp 77), type := 22, pos := "law.go:132", after := #[{ on := 8, ground := Go.Ground.data }], guard := none }) (v := _) rfl (by kernel_rfl) (by kernel_rfl) (by kernel_rfl) (fun _ _ _ h => h) (by kernel_rfl) (Or.inl ⟨by rfl, ?hy7⟩) hX0 ?rest7
              case hy7 => (intro W hSw; obtain ⟨s1, s2⟩ := hSw; go_simp; try (with_reducible rfl))
              try simp only [Act.put, List.setIfInBounds_toArray, List.set_cons_zero, List.set_cons_succ]
              refine wpAnyD_two (i := 2) (j := 5) (oi := { dst := some 71, op := Go.Op.call { callee := Go.Callee.value (Go.Operand.func 9), args := #[Go.Operand.tmp 70], argTypes := #[29] }, type := 22, pos := "law.go:132", after := #[{ on := 1, ground := Go.Ground.data }], guard := none }) (oj := { dst := some 74, op := Go.Op.buildSlice 22 0 #[], type := 22, pos := "law.go:132", after := #[], guard := none }) (by kernel_rfl) rfl rfl (fun K hK => ?_) (fun K hK => ?_)
              · skip
                rw [if_pos (by kernel_rfl)]
                go_simp
                refine (hcP Ud (Below.refl _ _)).mono ?_
                rintro e w6 ⟨p6, n6, c6, rfl, H6⟩
                have N6 : Hid (n6 = M.length) := H6.out.2
                have R6 : Hid (w6.ownsRow Ud.heap.size 36 5 (.slice p6 n6 c6) M.length (fl EC M) ∧ ∀ q, (Value.slice p6 n6 c6).ownBlock = some q → Ud.heap.size ≤ q ∧ q < w6.heap.size) := ⟨H6.out.1.1, fun q hq => H6.out.1.1.lt q hq⟩
                have B6 : Hid (Below Ud.heap.size Ud w6) := H6.out.1.2
                clear H6
                have L6 : Hid (Below Ud.heap.size Ud w6) := (Below.refl Ud.heap.size Ud).trans (B6.out.mono (Below.refl Ud.heap.size Ud).size)
                have hX6 : w6.cell? ⟨rbs k, 0, none⟩ = some (.slice pr nr cr) ∧ rbs k < w6.heap.size := ⟨(HRC.out w6 L6.out).1, (HRC.out w6 L6.out).2.1⟩
                dsimp only
                refine hK.out _ _ (fun hD => hX6) ?_
                clear hK K
                try simp only [Act.put, List.setIfInBounds_toArray, List.set_cons_zero, List.set_cons_succ]
                refine wpAnyD_two (i := 4) (j := 5) (oi := { dst := some 73, op := Go.Op.call { callee := Go.Callee.value (Go.Operand.func 9), args := #[Go.Operand.tmp 72], argTypes := #[29] }, type := 22, pos := "law.go:132", after := #[{ on := 3, ground := Go.Ground.data }, { on := 2, ground := Go.Ground.chain }], guard := none }) (oj := { dst := some 74, op := Go.Op.buildSlice 22 0 #[], type := 22, pos := "law.go:132", after := #[], guard := none }) (by kernel_rfl) rfl rfl (fun K hK => ?_) (fun K hK => ?_)
                · skip
                  rw [if_pos (by kernel_rfl)]
                  go_simp
                  refine (hcP w6 L6.out).mono ?_
                  rintro e w7 ⟨p7, n7, c7, rfl, H7⟩
                  have N7 : Hid (n7 = M.length) := H7.out.2
                  have R7 : Hid (w7.ownsRow w6.heap.size 36 5 (.slice p7 n7 c7) M.length (fl EC M) ∧ ∀ q, (Value.slice p7 n7 c7).ownBlock = some q → w6.heap.size ≤ q ∧ q < w7.heap.size) := ⟨H7.out.1.1, fun q hq => H7.out.1.1.lt q hq⟩
                  have B7 : Hid (Below w6.heap.size w6 w7) := H7.out.1.2
                  clear H7
                  have R6' := hid (And.intro (owns_below R6.out.1 B7.out) R6.out.2)
                  clear R6
                  have R6 := R6'
                  clear R6'
                  have L7 : Hid (Below Ud.heap.size Ud w7) := L6.out.trans (B7.out.mono L6.out.size)
                  have hX7 : w7.cell? ⟨rbs k, 0, none⟩ = some (.slice pr nr cr) ∧ rbs k < w7.heap.size := ⟨(HRC.out w7 L7.out).1, (HRC.out w7 L7.out).2.1⟩
                  dsimp only
                  refine hK.out _ _ (fun hD => hX7) ?_
                  clear hK K
                  try simp only [Act.put, List.setIfInBounds_toArray, List.set_cons_zero, List.set_cons_succ]
                  refine wpAnyD_one (i := 5) (o := { dst := some 74, op := Go.Op.buildSlice 22 0 #[], type := 22, pos := "law.go:132", after := #[], guard := none }) (by kernel_rfl) rfl (fun K hK => ?_)
                  rw [if_pos (by kernel_rfl)]
                  go_simp
                  have g25 := (Gr.refl w7).alloc (.cells #[] 36)
                  obtain ⟨b25, hb25⟩ : ∃ b, b = w7.heap.size := ⟨_, rfl⟩
                  obtain ⟨w25, hw25⟩ : ∃ V, V = w7.alloc (.cells #[] 36) := ⟨_, rfl⟩
                  rw [← hw25, ← hb25]
                  rw [← hw25] at g25
                  have O25 : Hid (w25.ownsRow Ud.heap.size 36 5 (.slice (some ⟨b25, 0, none⟩) 0 0) 0 [] ∧ b25 = w7.heap.size) := by
                    refine ⟨?_, hb25⟩
                    rw [hw25, hb25]
                    exact World.ownsRow_made w7 #[] 0 L7.out.size (Nat.zero_le _) rfl
                  have L25 : Hid (Below Ud.heap.size Ud w25) := L7.out.trans (g25.below.mono L7.out.size)
                  have R6' := hid (And.intro (owns_below R6.out.1 g25.below) R6.out.2)
                  clear R6
                  have R6 := R6'
                  clear R6'
                  have R7' := hid (And.intro (owns_below R7.out.1 g25.below) R7.out.2)
                  clear R7
                  have R7 := R7'
                  clear R7'
                  have Z25 : Hid (w25.heap.size = w7.heap.size + 1) := show _ = _ by rw [hw25]; simp
                  have hX25 : w25.cell? ⟨rbs k, 0, none⟩ = some (.slice pr nr cr) ∧ rbs k < w25.heap.size := ⟨(HRC.out w25 L25.out).1, (HRC.out w25 L25.out).2.1⟩
                  clear g25 hw25 hb25
                  refine hK.out _ _ (fun hD => hX25) ?_
                  clear hK K
                  try simp only [Act.put, List.setIfInBounds_toArray, List.set_cons_zero, List.set_cons_succ]
                  refine wpAnyD_one (i := 10) (o := { dst := some 79, op := Go.Op.call { callee := Go.Callee.builtin Go.Builtin.append, args := #[Go.Operand.tmp 74, Go.Operand.tmp 78], argTypes := #[22, 22] }, type := 22, pos := "law.go:132", after := #[{ on := 5, ground := Go.Ground.data }, { on := 9, ground := Go.Ground.data }, { on := 4, ground := Go.Ground.chain }], guard := none }) (by kernel_rfl) rfl (fun K hK => ?_)
                  refine step_appLN EC Try.underlying22 infoC rfl (by decide) rfl _ _ rfl Ud.heap.size (.slice (some ⟨b25, 0, none⟩) 0 0) 0 [] rfl O25.out.1 L25.out.size (.slice pr nr cr) M rfl (HRC.out w25 L25.out).2.2 BDM.out.1 BDM.out.2 ?_
                  intro v8 w8 h8 k8 m8
                  have K8 : Hid (Kp (fun q => q = b25) w25 w8) := Kp.grownBy k8.out (fun q hq => by simpa [Value.ownBlock] using hq.symm)
                  have O8 : Hid (w8.ownsRow Ud.heap.size 36 5 v8 M.length (fl EC M)) := owns_re h8.out (by simp) (by simp)
                  have NB8 : Hid (∀ q, v8.ownBlock = some q → q = b25 ∨ w25.heap.size ≤ q) := fun q hq => (m8.out q hq).imp (fun e => by simpa [Value.ownBlock] using e.symm) id
                  have R6' := hid (And.intro (owns_kp K8.out R6.out.1 (fun q hq e => by have h1 := R6.out.2 q hq; have h2 := O25.out.2; have z1 := L6.out.size; have z2 := B7.out.size; have z3 := Z25.out; omega)) R6.out.2)
                  have R7' := hid (And.intro (owns_kp K8.out R7.out.1 (fun q hq e => by have h1 := R7.out.2 q hq; have h2 := O25.out.2; have z1 := L6.out.size; have z2 := B7.out.size; have z3 := Z25.out; omega)) R7.out.2)
                  have L8 : Hid (Below Ud.heap.size Ud w8) := L25.out.trans (K8.out.below L25.out.size (fun q e => by have h2 := O25.out.2; have z1 := L6.out.size; have z2 := B7.out.size; have z3 := Z25.out; omega))
                  have hX8 := And.intro (HRC.out w8 L8.out).1 (HRC.out w8 L8.out).2.1
                  obtain ⟨p8, c8, rfl⟩ := own_form O8.out
                  clear R6 R7 h8 k8 m8 K8
                  have T8 : Hid (∃ tag8, Sc w w8 tag8 m nb N hbs rbs Q V Wv D (.slice (some ⟨gP, 0, none⟩) m cP) (.slice (some ⟨gR, 0, none⟩) m cR) (.slice pB nb cB) ∧ Ow w8 tag8 (20 + 3 * nb) 36 5 (.slice p6 n6 c6) M.length (fl EC M) ∧ Ow w8 tag8 (20 + 3 * nb + 1) 36 5 (.slice p7 n7 c7) M.length (fl EC M) ∧ Ow w8 tag8 (20 + 3 * nb + 2) 36 5 (.slice p8 M.length c8) M.length (fl EC M)) := by
                    obtain ⟨t8, h1, h2, h3, h4⟩ := Sd.out.three L8.out (owns_base R6'.out.1 (Nat.le_refl _)) (owns_base R7'.out.1 L6.out.size) O8.out (fun q h1 h2 => by have := R6'.out.2 q h1; have := R7'.out.2 q h2; have z1 := L6.out.size; have z2 := B7.out.size; have z3 := Z25.out; omega) (fun q h1 h2 => by have := R7'.out.2 q h1; have h3 := NB8.out q h2; have h4 := O25.out.2; have z1 := L6.out.size; have z2 := B7.out.size; have z3 := Z25.out; omega) (fun q h1 h2 => by have := R6'.out.2 q h1; have h3 := NB8.out q h2; have h4 := O25.out.2; have z1 := L6.out.size; have z2 := B7.out.size; have z3 := Z25.out; omega) (20 + 3 * nb)
                    exact ⟨t8, h1, h2, h3, h4⟩
                  have BK8 : Hid (w8.ownsRow 0 61 3 (.slice pB nb cB) nb (pages nb V Wv)) := by
                    obtain ⟨tag8, hs, -⟩ := T8.out
                    exact hs.bk.1
                  dsimp only
                  refine hK.out _ _ (fun hD => hX8) ?_
                  clear hK K
                  try simp only [Act.put, List.setIfInBounds_toArray, List.set_cons_zero, List.set_cons_succ]
                  refine wpAnyD_one (i := 11) (o := { dst := some 80, op := Go.Op.build 61 #[(0, Go.Operand.tmp 71), (1, Go.Operand.tmp 73), (2, Go.Operand.tmp 79)], type := 61, pos := "law.go:132", after := #[{ on := 2, ground := Go.Ground.data }, { on := 4, ground := Go.Ground.data }, { on := 10, ground := Go.Ground.data }], guard := none }) (by kernel_rfl) rfl (fun K hK => ?_)
                  rw [if_pos (by kernel_rfl)]
                  go_simp
                  refine hK.out _ _ (fun hD => hX8) ?_
                  clear hK K
                  try simp only [Act.put, List.setIfInBounds_toArray, List.set_cons_zero, List.set_cons_succ]
                  refine wpAnyD_one (i := 12) (o := { dst := some 81, op := Go.Op.buildSlice 56 1 #[(0, Go.Operand.tmp 80)], type := 56, pos := "law.go:132", after := #[{ on := 11, ground := Go.Ground.data }], guard := none }) (by kernel_rfl) rfl (fun K hK => ?_)
                  rw [if_pos (by kernel_rfl)]
                  go_simp
                  have hX9 := And.intro (HRC.out _ (L8.out.trans (((Gr.refl w8).alloc (.cells #[.slice p6 n6 c6, .slice p7 n7 c7, .slice p8 M.length c8] 61)).below.mono L8.out.size))).1 (HRC.out _ (L8.out.trans (((Gr.refl w8).alloc (.cells #[.slice p6 n6 c6, .slice p7 n7 c7, .slice p8 M.length c8] 61)).below.mono L8.out.size))).2.1
                  refine hK.out _ _ (fun hD => hX9) ?_
                  clear hK K
                  try simp only [Act.put, List.setIfInBounds_toArray, List.set_cons_zero, List.set_cons_succ]
                  refine wpAnyD_one (i := 13) (o := { dst := some 82, op := Go.Op.call { callee := Go.Callee.builtin Go.Builtin.append, args := #[Go.Operand.tmp 69, Go.Operand.tmp 81], argTypes := #[56, 56] }, type := 56, pos := "law.go:132", after := #[{ on := 0, ground := Go.Ground.data }, { on := 12, ground := Go.Ground.data }, { on := 10, ground := Go.Ground.chain }], guard := none }) (by kernel_rfl) rfl (fun K hK => ?_)
                  refine step_app1 EG Try.underlying56 infoPg rfl (by decide) rfl _ _ rfl 0 (.slice pB nb cB) nb _ rfl BK8.out (⟨.slice p6 n6 c6, rfl⟩, ⟨.slice p7 n7 c7, rfl⟩, ⟨.slice p8 M.length c8, rfl⟩) (by first | rfl | (go_simp; done)) (by omega) (by unfold maxLen; omega) (Nat.zero_le _) _ rfl _ ?_
                  intro g10 cap10 w10 ho10 hg10 hn10
                  have hk10 : Kp (fun q => (Value.slice pB nb cB).ownBlock = some q) w8 w10 := Kp.grownBy hg10.out (fun _ h => h)
                  have TE : Hid (∃ tag hb rb Q V Wv D, Sc w w10 tag m (nb + 1) (tot (sc.take (i + 1))) hb rb Q V Wv D (.slice (some ⟨gP, 0, none⟩) m cP) (.slice (some ⟨gR, 0, none⟩) m cR) (.slice (some ⟨g10, 0, none⟩) (nb + 1) cap10)) := by
                    rw [HTS.out]
                    obtain ⟨tag8, hs, ha, hb, hc⟩ := T8.out
                    obtain ⟨tA, V2, W2, D2, h⟩ := hs.page ha hb hc HM.out ho10.out hk10 (fun q hq => by rw [← own_eq hq]; exact hn10.out)
                    exact ⟨_, _, _, _, _, _, _, h.mono (Nat.le_add_right N nl)⟩
                  have hX10 : w10.cell? ⟨rbs k, 0, none⟩ = some (.slice pr nr cr) ∧ rbs k < w10.heap.size := ⟨(hk10.cell hX8.2 HSR.out.1).trans hX8.1, Nat.lt_of_lt_of_le hX8.2 hk10.size⟩
                  clear ho10 hg10 hn10 hk10
                  refine hK.out _ _ (fun hD => hX10) ?_
                  clear hK K
                  try simp only [Act.put, List.setIfInBounds_toArray, List.set_cons_zero, List.set_cons_succ]
                  refine wpAnyD_one (i := 14) (o := { dst := some 5, op := Go.Op.assign (Go.Operand.tmp 82), type := 56, pos := "law.go:132", after := #[{ on := 13, ground := Go.Ground.data }, { on := 13, ground := Go.Ground.chain }, { on := 0, ground := Go.Ground.phase }, { on := 1, ground := Go.Ground.phase }, { on := 2, ground := Go.Ground.phase }, { on := 3, ground := Go.Ground.phase }, { on := 4, ground := Go.Ground.phase }, { on := 5, ground := Go.Ground.phase }, { on := 6, ground := Go.Ground.phase }, { on := 7, ground := Go.Ground.phase }, { on := 8, ground := Go.Ground.phase }, { on := 9, ground := Go.Ground.phase }, { on := 10, ground := Go.Ground.phase }, { on := 11, ground := Go.Ground.phase }, { on := 12, ground := Go.Ground.phase }, { on := 13, ground := Go.Ground.phase }], guard := none }) (by kernel_rfl) rfl (fun K hK => ?_)
                  rw [if_pos (by kernel_rfl)]
                  go_simp
                  refine hK.out _ _ (fun hD => hX10) ?_
                  clear hK K
                  try simp only [Act.put, List.setIfInBounds_toArray, List.set_cons_zero, List.set_cons_succ]
                  refine wpAnyD_done (by kernel_rfl) ?_ _
                  clear hX0 hX8 hX9 hX10 hcP
                  go_wp2_with fail
                  go_roundw
                  case rel => exact ⟨i + 1, m, nb + 1, _, _, _, _, _, _, hlt, by go_num, rfl, rfl, rfl, ⟨by omega, by omega, TE.out⟩⟩
                  case measure => simp [RowKit.intOf]; omega
                · skip
                  rw [if_pos (by kernel_rfl)]
                  go_simp
                  have g25 := (Gr.refl w6).alloc (.cells #[] 36)
                  obtain ⟨b25, hb25⟩ : ∃ b, b = w6.heap.size := ⟨_, rfl⟩
                  obtain ⟨w25, hw25⟩ : ∃ V, V = w6.alloc (.cells #[] 36) := ⟨_, rfl⟩
                  rw [← hw25, ← hb25]
                  rw [← hw25] at g25
                  have O25 : Hid (w25.ownsRow Ud.heap.size 36 5 (.slice (some ⟨b25, 0, none⟩) 0 0) 0 [] ∧ b25 = w6.heap.size) := by
                    refine ⟨?_, hb25⟩
                    rw [hw25, hb25]
                    exact World.ownsRow_made w6 #[] 0 L6.out.size (Nat.zero_le _) rfl
                  have L25 : Hid (Below Ud.heap.size Ud w25) := L6.out.trans (g25.below.mono L6.out.size)
                  have R6' := hid (And.intro (owns_below R6.out.1 g25.below) R6.out.2)
                  clear R6
                  have R6 := R6'
                  clear R6'
                  have Z25 : Hid (w25.heap.size = w6.heap.size + 1) := show _ = _ by rw [hw25]; simp
                  have hX25 : w25.cell? ⟨rbs k, 0, none⟩ = some (.slice pr nr cr) ∧ rbs k < w25.heap.size := ⟨(HRC.out w25 L25.out).1, (HRC.out w25 L25.out).2.1⟩
                  clear g25 hw25 hb25
                  refine hK.out _ _ (fun hD => hX25) ?_
                  clear hK K
                  try simp only [Act.put, List.setIfInBounds_toArray, List.set_cons_zero, List.set_cons_succ]
                  refine wpAnyD_one (i := 4) (o := { dst := some 73, op := Go.Op.call { callee := Go.Callee.value (Go.Operand.func 9), args := #[Go.Operand.tmp 72], argTypes := #[29] }, type := 22, pos := "law.go:132", after := #[{ on := 3, ground := Go.Ground.data }, { on := 2, ground := Go.Ground.chain }], guard := none }) (by kernel_rfl) rfl (fun K hK => ?_)
                  rw [if_pos (by kernel_rfl)]
                  go_simp
                  refine (hcP w25 L25.out).mono ?_
                  rintro e w7 ⟨p7, n7, c7, rfl, H7⟩
                  have N7 : Hid (n7 = M.length) := H7.out.2
                  have R7 : Hid (w7.ownsRow w25.heap.size 36 5 (.slice p7 n7 c7) M.length (fl EC M) ∧ ∀ q, (Value.slice p7 n7 c7).ownBlock = some q → w25.heap.size ≤ q ∧ q < w7.heap.size) := ⟨H7.out.1.1, fun q hq => H7.out.1.1.lt q hq⟩
                  have B7 : Hid (Below w25.heap.size w25 w7) := H7.out.1.2
                  clear H7
                  have R6' := hid (And.intro (owns_below R6.out.1 B7.out) R6.out.2)
                  clear R6
                  have R6 := R6'
                  clear R6'
                  have O25' := hid (And.intro (owns_below O25.out.1 B7.out) O25.out.2)
                  clear O25
                  have O25 := O25'
                  clear O25'
                  have L7 : Hid (Below Ud.heap.size Ud w7) := L25.out.trans (B7.out.mono L25.out.size)
                  have hX7 : w7.cell? ⟨rbs k, 0, none⟩ = some (.slice pr nr cr) ∧ rbs k < w7.heap.size := ⟨(HRC.out w7 L7.out).1, (HRC.out w7 L7.out).2.1⟩
                  dsimp only
                  refine hK.out _ _ (fun hD => hX7) ?_
                  clear hK K
                  try simp only [Act.put, List.setIfInBounds_toArray, List.set_cons_zero, List.set_cons_succ]
                  refine wpAnyD_one (i := 10) (o := { dst := some 79, op := Go.Op.call { callee := Go.Callee.builtin Go.Builtin.append, args := #[Go.Operand.tmp 74, Go.Operand.tmp 78], argTypes := #[22, 22] }, type := 22, pos := "law.go:132", after := #[{ on := 5, ground := Go.Ground.data }, { on := 9, ground := Go.Ground.data }, { on := 4, ground := Go.Ground.chain }], guard := none }) (by kernel_rfl) rfl (fun K hK => ?_)
                  refine step_appLN EC Try.underlying22 infoC rfl (by decide) rfl _ _ rfl Ud.heap.size (.slice (some ⟨b25, 0, none⟩) 0 0) 0 [] rfl O25.out.1 L7.out.size (.slice pr nr cr) M rfl (HRC.out w7 L7.out).2.2 BDM.out.1 BDM.out.2 ?_
                  intro v8 w8 h8 k8 m8
                  have K8 : Hid (Kp (fun q => q = b25) w7 w8) := Kp.grownBy k8.out (fun q hq => by simpa [Value.ownBlock] using hq.symm)
                  have O8 : Hid (w8.ownsRow Ud.heap.size 36 5 v8 M.length (fl EC M)) := owns_re h8.out (by simp) (by simp)
                  have NB8 : Hid (∀ q, v8.ownBlock = some q → q = b25 ∨ w7.heap.size ≤ q) := fun q hq => (m8.out q hq).imp (fun e => by simpa [Value.ownBlock] using e.symm) id
                  have R6' := hid (And.intro (owns_kp K8.out R6.out.1 (fun q hq e => by have h1 := R6.out.2 q hq; have h2 := O25.out.2; have z1 := L6.out.size; have z2 := B7.out.size; have z3 := Z25.out; omega)) R6.out.2)
                  have R7' := hid (And.intro (owns_kp K8.out R7.out.1 (fun q hq e => by have h1 := R7.out.2 q hq; have h2 := O25.out.2; have z1 := L6.out.size; have z2 := B7.out.size; have z3 := Z25.out; omega)) R7.out.2)
                  have L8 : Hid (Below Ud.heap.size Ud w8) := L7.out.trans (K8.out.below L7.out.size (fun q e => by have h2 := O25.out.2; have z1 := L6.out.size; have z2 := B7.out.size; have z3 := Z25.out; omega))
                  have hX8 := And.intro (HRC.out w8 L8.out).1 (HRC.out w8 L8.out).2.1
                  obtain ⟨p8, c8, rfl⟩ := own_form O8.out
                  clear R6 R7 h8 k8 m8 K8
                  have T8 : Hid (∃ tag8, Sc w w8 tag8 m nb N hbs rbs Q V Wv D (.slice (some ⟨gP, 0, none⟩) m cP) (.slice (some ⟨gR, 0, none⟩) m cR) (.slice pB nb cB) ∧ Ow w8 tag8 (20 + 3 * nb) 36 5 (.slice p6 n6 c6) M.length (fl EC M) ∧ Ow w8 tag8 (20 + 3 * nb + 1) 36 5 (.slice p7 n7 c7) M.length (fl EC M) ∧ Ow w8 tag8 (20 + 3 * nb + 2) 36 5 (.slice p8 M.length c8) M.length (fl EC M)) := by
                    obtain ⟨t8, h1, h2, h3, h4⟩ := Sd.out.three L8.out (owns_base R6'.out.1 (Nat.le_refl _)) (owns_base R7'.out.1 L25.out.size) O8.out (fun q h1 h2 => by have := R6'.out.2 q h1; have := R7'.out.2 q h2; have z1 := L6.out.size; have z2 := B7.out.size; have z3 := Z25.out; omega) (fun q h1 h2 => by have := R7'.out.2 q h1; have h3 := NB8.out q h2; have h4 := O25.out.2; have z1 := L6.out.size; have z2 := B7.out.size; have z3 := Z25.out; omega) (fun q h1 h2 => by have := R6'.out.2 q h1; have h3 := NB8.out q h2; have h4 := O25.out.2; have z1 := L6.out.size; have z2 := B7.out.size; have z3 := Z25.out; omega) (20 + 3 * nb)
                    exact ⟨t8, h1, h2, h3, h4⟩
                  have BK8 : Hid (w8.ownsRow 0 61 3 (.slice pB nb cB) nb (pages nb V Wv)) := by
                    obtain ⟨tag8, hs, -⟩ := T8.out
                    exact hs.bk.1
                  dsimp only
                  refine hK.out _ _ (fun hD => hX8) ?_
                  clear hK K
                  try simp only [Act.put, List.setIfInBounds_toArray, List.set_cons_zero, List.set_cons_succ]
                  refine wpAnyD_one (i := 11) (o := { dst := some 80, op := Go.Op.build 61 #[(0, Go.Operand.tmp 71), (1, Go.Operand.tmp 73), (2, Go.Operand.tmp 79)], type := 61, pos := "law.go:132", after := #[{ on := 2, ground := Go.Ground.data }, { on := 4, ground := Go.Ground.data }, { on := 10, ground := Go.Ground.data }], guard := none }) (by kernel_rfl) rfl (fun K hK => ?_)
                  rw [if_pos (by kernel_rfl)]
                  go_simp
                  refine hK.out _ _ (fun hD => hX8) ?_
                  clear hK K
                  try simp only [Act.put, List.setIfInBounds_toArray, List.set_cons_zero, List.set_cons_succ]
                  refine wpAnyD_one (i := 12) (o := { dst := some 81, op := Go.Op.buildSlice 56 1 #[(0, Go.Operand.tmp 80)], type := 56, pos := "law.go:132", after := #[{ on := 11, ground := Go.Ground.data }], guard := none }) (by kernel_rfl) rfl (fun K hK => ?_)
                  rw [if_pos (by kernel_rfl)]
                  go_simp
                  have hX9 := And.intro (HRC.out _ (L8.out.trans (((Gr.refl w8).alloc (.cells #[.slice p6 n6 c6, .slice p7 n7 c7, .slice p8 M.length c8] 61)).below.mono L8.out.size))).1 (HRC.out _ (L8.out.trans (((Gr.refl w8).alloc (.cells #[.slice p6 n6 c6, .slice p7 n7 c7, .slice p8 M.length c8] 61)).below.mono L8.out.size))).2.1
                  refine hK.out _ _ (fun hD => hX9) ?_
                  clear hK K
                  try simp only [Act.put, List.setIfInBounds_toArray, List.set_cons_zero, List.set_cons_succ]
                  refine wpAnyD_one (i := 13) (o := { dst := some 82, op := Go.Op.call { callee := Go.Callee.builtin Go.Builtin.append, args := #[Go.Operand.tmp 69, Go.Operand.tmp 81], argTypes := #[56, 56] }, type := 56, pos := "law.go:132", after := #[{ on := 0, ground := Go.Ground.data }, { on := 12, ground := Go.Ground.data }, { on := 10, ground := Go.Ground.chain }], guard := none }) (by kernel_rfl) rfl (fun K hK => ?_)
                  refine step_app1 EG Try.underlying56 infoPg rfl (by decide) rfl _ _ rfl 0 (.slice pB nb cB) nb _ rfl BK8.out (⟨.slice p6 n6 c6, rfl⟩, ⟨.slice p7 n7 c7, rfl⟩, ⟨.slice p8 M.length c8, rfl⟩) (by first | rfl | (go_simp; done)) (by omega) (by unfold maxLen; omega) (Nat.zero_le _) _ rfl _ ?_
                  intro g10 cap10 w10 ho10 hg10 hn10
                  have hk10 : Kp (fun q => (Value.slice pB nb cB).ownBlock = some q) w8 w10 := Kp.grownBy hg10.out (fun _ h => h)
                  have TE : Hid (∃ tag hb rb Q V Wv D, Sc w w10 tag m (nb + 1) (tot (sc.take (i + 1))) hb rb Q V Wv D (.slice (some ⟨gP, 0, none⟩) m cP) (.slice (some ⟨gR, 0, none⟩) m cR) (.slice (some ⟨g10, 0, none⟩) (nb + 1) cap10)) := by
                    rw [HTS.out]
                    obtain ⟨tag8, hs, ha, hb, hc⟩ := T8.out
                    obtain ⟨tA, V2, W2, D2, h⟩ := hs.page ha hb hc HM.out ho10.out hk10 (fun q hq => by rw [← own_eq hq]; exact hn10.out)
                    exact ⟨_, _, _, _, _, _, _, h.mono (Nat.le_add_right N nl)⟩
                  have hX10 : w10.cell? ⟨rbs k, 0, none⟩ = some (.slice pr nr cr) ∧ rbs k < w10.heap.size := ⟨(hk10.cell hX8.2 HSR.out.1).trans hX8.1, Nat.lt_of_lt_of_le hX8.2 hk10.size⟩
                  clear ho10 hg10 hn10 hk10
                  refine hK.out _ _ (fun hD => hX10) ?_
                  clear hK K
                  try simp only [Act.put, List.setIfInBounds_toArray, List.set_cons_zero, List.set_cons_succ]
                  refine wpAnyD_one (i := 14) (o := { dst := some 5, op := Go.Op.assign (Go.Operand.tmp 82), type := 56, pos := "law.go:132", after := #[{ on := 13, ground := Go.Ground.data }, { on := 13, ground := Go.Ground.chain }, { on := 0, ground := Go.Ground.phase }, { on := 1, ground := Go.Ground.phase }, { on := 2, ground := Go.Ground.phase }, { on := 3, ground := Go.Ground.phase }, { on := 4, ground := Go.Ground.phase }, { on := 5, ground := Go.Ground.phase }, { on := 6, ground := Go.Ground.phase }, { on := 7, ground := Go.Ground.phase }, { on := 8, ground := Go.Ground.phase }, { on := 9, ground := Go.Ground.phase }, { on := 10, ground := Go.Ground.phase }, { on := 11, ground := Go.Ground.phase }, { on := 12, ground := Go.Ground.phase }, { on := 13, ground := Go.Ground.phase }], guard := none }) (by kernel_rfl) rfl (fun K hK => ?_)
                  rw [if_pos (by kernel_rfl)]
                  go_simp
                  refine hK.out _ _ (fun hD => hX10) ?_
                  clear hK K
                  try simp only [Act.put, List.setIfInBounds_toArray, List.set_cons_zero, List.set_cons_succ]
                  refine wpAnyD_done (by kernel_rfl) ?_ _
                  clear hX0 hX8 hX9 hX10 hcP
                  go_wp2_with fail
                  go_roundw
                  case rel => exact ⟨i + 1, m, nb + 1, _, _, _, _, _, _, hlt, by go_num, rfl, rfl, rfl, ⟨by omega, by omega, TE.out⟩⟩
                  case measure => simp [RowKit.intOf]; omega
              · skip
                rw [if_pos (by kernel_rfl)]
                go_simp
                have g25 := (Gr.refl Ud).alloc (.cells #[] 36)
                obtain ⟨b25, hb25⟩ : ∃ b, b = Ud.heap.size := ⟨_, rfl⟩
                obtain ⟨w25, hw25⟩ : ∃ V, V = Ud.alloc (.cells #[] 36) := ⟨_, rfl⟩
                rw [← hw25, ← hb25]
                rw [← hw25] at g25
                have O25 : Hid (w25.ownsRow Ud.heap.size 36 5 (.slice (some ⟨b25, 0, none⟩) 0 0) 0 [] ∧ b25 = Ud.heap.size) := by
                  refine ⟨?_, hb25⟩
                  rw [hw25, hb25]
                  exact World.ownsRow_made Ud #[] 0 (Below.refl Ud.heap.size Ud).size (Nat.zero_le _) rfl
                have L25 : Hid (Below Ud.heap.size Ud w25) := (Below.refl Ud.heap.size Ud).trans (g25.below.mono (Below.refl Ud.heap.size Ud).size)
                have Z25 : Hid (w25.heap.size = Ud.heap.size + 1) := show _ = _ by rw [hw25]; simp
                have hX25 : w25.cell? ⟨rbs k, 0, none⟩ = some (.slice pr nr cr) ∧ rbs k < w25.heap.size := ⟨(HRC.out w25 L25.out).1, (HRC.out w25 L25.out).2.1⟩
                clear g25 hw25 hb25
                refine hK.out _ _ (fun hD => hX25) ?_
                clear hK K
                try simp only [Act.put, List.setIfInBounds_toArray, List.set_cons_zero, List.set_cons_succ]
                refine wpAnyD_one (i := 2) (o := { dst := some 71, op := Go.Op.call { callee := Go.Callee.value (Go.Operand.func 9), args := #[Go.Operand.tmp 70], argTypes := #[29] }, type := 22, pos := "law.go:132", after := #[{ on := 1, ground := Go.Ground.data }], guard := none }) (by kernel_rfl) rfl (fun K hK => ?_)
                rw [if_pos (by kernel_rfl)]
                go_simp
                refine (hcP w25 L25.out).mono ?_
                rintro e w6 ⟨p6, n6, c6, rfl, H6⟩
                have N6 : Hid (n6 = M.length) := H6.out.2
                have R6 : Hid (w6.ownsRow w25.heap.size 36 5 (.slice p6 n6 c6) M.length (fl EC M) ∧ ∀ q, (Value.slice p6 n6 c6).ownBlock = some q → w25.heap.size ≤ q ∧ q < w6.heap.size) := ⟨H6.out.1.1, fun q hq => H6.out.1.1.lt q hq⟩
                have B6 : Hid (Below w25.heap.size w25 w6) := H6.out.1.2
                clear H6
                have O25' := hid (And.intro (owns_below O25.out.1 B6.out) O25.out.2)
                clear O25
                have O25 := O25'
                clear O25'
                have L6 : Hid (Below Ud.heap.size Ud w6) := L25.out.trans (B6.out.mono L25.out.size)
                have hX6 : w6.cell? ⟨rbs k, 0, none⟩ = some (.slice pr nr cr) ∧ rbs k < w6.heap.size := ⟨(HRC.out w6 L6.out).1, (HRC.out w6 L6.out).2.1⟩
                dsimp only
                refine hK.out _ _ (fun hD => hX6) ?_
                clear hK K
                try simp only [Act.put, List.setIfInBounds_toArray, List.set_cons_zero, List.set_cons_succ]
                refine wpAnyD_one (i := 4) (o := { dst := some 73, op := Go.Op.call { callee := Go.Callee.value (Go.Operand.func 9), args := #[Go.Operand.tmp 72], argTypes := #[29] }, type := 22, pos := "law.go:132", after := #[{ on := 3, ground := Go.Ground.data }, { on := 2, ground := Go.Ground.chain }], guard := none }) (by kernel_rfl) rfl (fun K hK => ?_)
                rw [if_pos (by kernel_rfl)]
                go_simp
                refine (hcP w6 L6.out).mono ?_
                rintro e w7 ⟨p7, n7, c7, rfl, H7⟩
                have N7 : Hid (n7 = M.length) := H7.out.2
                have R7 : Hid (w7.ownsRow w6.heap.size 36 5 (.slice p7 n7 c7) M.length (fl EC M) ∧ ∀ q, (Value.slice p7 n7 c7).ownBlock = some q → w6.heap.size ≤ q ∧ q < w7.heap.size) := ⟨H7.out.1.1, fun q hq => H7.out.1.1.lt q hq⟩
                have B7 : Hid (Below w6.heap.size w6 w7) := H7.out.1.2
                clear H7
                have R6' := hid (And.intro (owns_below R6.out.1 B7.out) R6.out.2)
                clear R6
                have R6 := R6'
                clear R6'
                have O25' := hid (And.intro (owns_below O25.out.1 B7.out) O25.out.2)
                clear O25
                have O25 := O25'
                clear O25'
                have L7 : Hid (Below Ud.heap.size Ud w7) := L6.out.trans (B7.out.mono L6.out.size)
                have hX7 : w7.cell? ⟨rbs k, 0, none⟩ = some (.slice pr nr cr) ∧ rbs k < w7.heap.size := ⟨(HRC.out w7 L7.out).1, (HRC.out w7 L7.out).2.1⟩
                dsimp only
                refine hK.out _ _ (fun hD => hX7) ?_
                clear hK K
                try simp only [Act.put, List.setIfInBounds_toArray, List.set_cons_zero, List.set_cons_succ]
                refine wpAnyD_one (i := 10) (o := { dst := some 79, op := Go.Op.call { callee := Go.Callee.builtin Go.Builtin.append, args := #[Go.Operand.tmp 74, Go.Operand.tmp 78], argTypes := #[22, 22] }, type := 22, pos := "law.go:132", after := #[{ on := 5, ground := Go.Ground.data }, { on := 9, ground := Go.Ground.data }, { on := 4, ground := Go.Ground.chain }], guard := none }) (by kernel_rfl) rfl (fun K hK => ?_)
                refine step_appLN EC Try.underlying22 infoC rfl (by decide) rfl _ _ rfl Ud.heap.size (.slice (some ⟨b25, 0, none⟩) 0 0) 0 [] rfl O25.out.1 L7.out.size (.slice pr nr cr) M rfl (HRC.out w7 L7.out).2.2 BDM.out.1 BDM.out.2 ?_
                intro v8 w8 h8 k8 m8
                have K8 : Hid (Kp (fun q => q = b25) w7 w8) := Kp.grownBy k8.out (fun q hq => by simpa [Value.ownBlock] using hq.symm)
                have O8 : Hid (w8.ownsRow Ud.heap.size 36 5 v8 M.length (fl EC M)) := owns_re h8.out (by simp) (by simp)
                have NB8 : Hid (∀ q, v8.ownBlock = some q → q = b25 ∨ w7.heap.size ≤ q) := fun q hq => (m8.out q hq).imp (fun e => by simpa [Value.ownBlock] using e.symm) id
                have R6' := hid (And.intro (owns_kp K8.out R6.out.1 (fun q hq e => by have h1 := R6.out.2 q hq; have h2 := O25.out.2; have z1 := L25.out.size; have z2 := B6.out.size; have z3 := Z25.out; have z4 := B7.out.size; omega)) R6.out.2)
                have R7' := hid (And.intro (owns_kp K8.out R7.out.1 (fun q hq e => by have h1 := R7.out.2 q hq; have h2 := O25.out.2; have z1 := L25.out.size; have z2 := B6.out.size; have z3 := Z25.out; have z4 := B7.out.size; omega)) R7.out.2)
                have L8 : Hid (Below Ud.heap.size Ud w8) := L7.out.trans (K8.out.below L7.out.size (fun q e => by have h2 := O25.out.2; have z1 := L25.out.size; have z2 := B6.out.size; have z3 := Z25.out; have z4 := B7.out.size; omega))
                have hX8 := And.intro (HRC.out w8 L8.out).1 (HRC.out w8 L8.out).2.1
                obtain ⟨p8, c8, rfl⟩ := own_form O8.out
                clear R6 R7 h8 k8 m8 K8
                have T8 : Hid (∃ tag8, Sc w w8 tag8 m nb N hbs rbs Q V Wv D (.slice (some ⟨gP, 0, none⟩) m cP) (.slice (some ⟨gR, 0, none⟩) m cR) (.slice pB nb cB) ∧ Ow w8 tag8 (20 + 3 * nb) 36 5 (.slice p6 n6 c6) M.length (fl EC M) ∧ Ow w8 tag8 (20 + 3 * nb + 1) 36 5 (.slice p7 n7 c7) M.length (fl EC M) ∧ Ow w8 tag8 (20 + 3 * nb + 2) 36 5 (.slice p8 M.length c8) M.length (fl EC M)) := by
                  obtain ⟨t8, h1, h2, h3, h4⟩ := Sd.out.three L8.out (owns_base R6'.out.1 L25.out.size) (owns_base R7'.out.1 L6.out.size) O8.out (fun q h1 h2 => by have := R6'.out.2 q h1; have := R7'.out.2 q h2; have z1 := L25.out.size; have z2 := B6.out.size; have z3 := Z25.out; have z4 := B7.out.size; omega) (fun q h1 h2 => by have := R7'.out.2 q h1; have h3 := NB8.out q h2; have h4 := O25.out.2; have z1 := L25.out.size; have z2 := B6.out.size; have z3 := Z25.out; have z4 := B7.out.size; omega) (fun q h1 h2 => by have := R6'.out.2 q h1; have h3 := NB8.out q h2; have h4 := O25.out.2; have z1 := L25.out.size; have z2 := B6.out.size; have z3 := Z25.out; have z4 := B7.out.size; omega) (20 + 3 * nb)
                  exact ⟨t8, h1, h2, h3, h4⟩
                have BK8 : Hid (w8.ownsRow 0 61 3 (.slice pB nb cB) nb (pages nb V Wv)) := by
                  obtain ⟨tag8, hs, -⟩ := T8.out
                  exact hs.bk.1
                dsimp only
                refine hK.out _ _ (fun hD => hX8) ?_
                clear hK K
                try simp only [Act.put, List.setIfInBounds_toArray, List.set_cons_zero, List.set_cons_succ]
                refine wpAnyD_one (i := 11) (o := { dst := some 80, op := Go.Op.build 61 #[(0, Go.Operand.tmp 71), (1, Go.Operand.tmp 73), (2, Go.Operand.tmp 79)], type := 61, pos := "law.go:132", after := #[{ on := 2, ground := Go.Ground.data }, { on := 4, ground := Go.Ground.data }, { on := 10, ground := Go.Ground.data }], guard := none }) (by kernel_rfl) rfl (fun K hK => ?_)
                rw [if_pos (by kernel_rfl)]
                go_simp
                refine hK.out _ _ (fun hD => hX8) ?_
                clear hK K
                try simp only [Act.put, List.setIfInBounds_toArray, List.set_cons_zero, List.set_cons_succ]
                refine wpAnyD_one (i := 12) (o := { dst := some 81, op := Go.Op.buildSlice 56 1 #[(0, Go.Operand.tmp 80)], type := 56, pos := "law.go:132", after := #[{ on := 11, ground := Go.Ground.data }], guard := none }) (by kernel_rfl) rfl (fun K hK => ?_)
                rw [if_pos (by kernel_rfl)]
                go_simp
                have hX9 := And.intro (HRC.out _ (L8.out.trans (((Gr.refl w8).alloc (.cells #[.slice p6 n6 c6, .slice p7 n7 c7, .slice p8 M.length c8] 61)).below.mono L8.out.size))).1 (HRC.out _ (L8.out.trans (((Gr.refl w8).alloc (.cells #[.slice p6 n6 c6, .slice p7 n7 c7, .slice p8 M.length c8] 61)).below.mono L8.out.size))).2.1
                refine hK.out _ _ (fun hD => hX9) ?_
                clear hK K
                try simp only [Act.put, List.setIfInBounds_toArray, List.set_cons_zero, List.set_cons_succ]
                refine wpAnyD_one (i := 13) (o := { dst := some 82, op := Go.Op.call { callee := Go.Callee.builtin Go.Builtin.append, args := #[Go.Operand.tmp 69, Go.Operand.tmp 81], argTypes := #[56, 56] }, type := 56, pos := "law.go:132", after := #[{ on := 0, ground := Go.Ground.data }, { on := 12, ground := Go.Ground.data }, { on := 10, ground := Go.Ground.chain }], guard := none }) (by kernel_rfl) rfl (fun K hK => ?_)
                refine step_app1 EG Try.underlying56 infoPg rfl (by decide) rfl _ _ rfl 0 (.slice pB nb cB) nb _ rfl BK8.out (⟨.slice p6 n6 c6, rfl⟩, ⟨.slice p7 n7 c7, rfl⟩, ⟨.slice p8 M.length c8, rfl⟩) (by first | rfl | (go_simp; done)) (by omega) (by unfold maxLen; omega) (Nat.zero_le _) _ rfl _ ?_
                intro g10 cap10 w10 ho10 hg10 hn10
                have hk10 : Kp (fun q => (Value.slice pB nb cB).ownBlock = some q) w8 w10 := Kp.grownBy hg10.out (fun _ h => h)
                have TE : Hid (∃ tag hb rb Q V Wv D, Sc w w10 tag m (nb + 1) (tot (sc.take (i + 1))) hb rb Q V Wv D (.slice (some ⟨gP, 0, none⟩) m cP) (.slice (some ⟨gR, 0, none⟩) m cR) (.slice (some ⟨g10, 0, none⟩) (nb + 1) cap10)) := by
                  rw [HTS.out]
                  obtain ⟨tag8, hs, ha, hb, hc⟩ := T8.out
                  obtain ⟨tA, V2, W2, D2, h⟩ := hs.page ha hb hc HM.out ho10.out hk10 (fun q hq => by rw [← own_eq hq]; exact hn10.out)
                  exact ⟨_, _, _, _, _, _, _, h.mono (Nat.le_add_right N nl)⟩
                have hX10 : w10.cell? ⟨rbs k, 0, none⟩ = some (.slice pr nr cr) ∧ rbs k < w10.heap.size := ⟨(hk10.cell hX8.2 HSR.out.1).trans hX8.1, Nat.lt_of_lt_of_le hX8.2 hk10.size⟩
                clear ho10 hg10 hn10 hk10
                refine hK.out _ _ (fun hD => hX10) ?_
                clear hK K
                try simp only [Act.put, List.setIfInBounds_toArray, List.set_cons_zero, List.set_cons_succ]
                refine wpAnyD_one (i := 14) (o := { dst := some 5, op := Go.Op.assign (Go.Operand.tmp 82), type := 56, pos := "law.go:132", after := #[{ on := 13, ground := Go.Ground.data }, { on := 13, ground := Go.Ground.chain }, { on := 0, ground := Go.Ground.phase }, { on := 1, ground := Go.Ground.phase }, { on := 2, ground := Go.Ground.phase }, { on := 3, ground := Go.Ground.phase }, { on := 4, ground := Go.Ground.phase }, { on := 5, ground := Go.Ground.phase }, { on := 6, ground := Go.Ground.phase }, { on := 7, ground := Go.Ground.phase }, { on := 8, ground := Go.Ground.phase }, { on := 9, ground := Go.Ground.phase }, { on := 10, ground := Go.Ground.phase }, { on := 11, ground := Go.Ground.phase }, { on := 12, ground := Go.Ground.phase }, { on := 13, ground := Go.Ground.phase }], guard := none }) (by kernel_rfl) rfl (fun K hK => ?_)
                rw [if_pos (by kernel_rfl)]
                go_simp
                refine hK.out _ _ (fun hD => hX10) ?_
                clear hK K
                try simp only [Act.put, List.setIfInBounds_toArray, List.set_cons_zero, List.set_cons_succ]
                refine wpAnyD_done (by kernel_rfl) ?_ _
                clear hX0 hX8 hX9 hX10 hcP
                go_wp2_with fail
                go_roundw
                case rel => exact ⟨i + 1, m, nb + 1, _, _, _, _, _, _, hlt, by go_num, rfl, rfl, rfl, ⟨by omega, by omega, TE.out⟩⟩
                case measure => simp [RowKit.intOf]; omega
          · have d1 : (xa == 1) = false := by simp [e1]
            clear e1
            by_cases e2 : xa = 2
            · as_aux_lemma =>
                subst e2
                have G0 : Below U.heap.size U U.drew := (Gr.refl U).drew.below
                have Sd : Hid (Sc w U.drew tag1 m nb N hbs rbs Q V Wv D (.slice (some ⟨gP, 0, none⟩) m cP) (.slice (some ⟨gR, 0, none⟩) m cR) (.slice pB nb cB)) := S1.out.nx (Nx.same (fun _ => False) tag1 G0)
                have Xd : Hid (U.drew.heap[b1]? = some (.cells (bxc 2 xo pl nl cl t pf nf cf ky) 58 (0, 0))) := X1.out
                obtain ⟨Ud, hUd⟩ : ∃ V, V = U.drew := ⟨_, rfl⟩
                have GU : Hid (Below U.heap.size U Ud) := by rw [hUd]; exact G0
                rw [← hUd] at Sd Xd
                have HUd := hid hUd
                clear hUd G0
                obtain ⟨M, hM⟩ : ∃ M, M = (srt A).filter fun x => bel x.t t := ⟨_, rfl⟩
                have HM : Hid (M.length ≤ 1048576) := by rw [hM]; exact Nat.le_trans (List.length_filter_le _ _) (by rw [srt_len]; exact HAL.out.1)
                have hcP : ∀ W, Below Ud.heap.size Ud W → Calls Try.prog 16 #[.pointer (some ⟨hbs k, 0, none⟩), .agg #[.int .u64 t.1, .int .u64 t.2.1, .int .u64 t.2.2]] W fun e w' => ∃ p n c, e = .returned (.slice p n c) ∧ Hid (Tld W M (.slice p n c) w' ∧ n = M.length) := fun W h => by
                  rw [hM]
                  exact upto_any t W (P1.out.p.below (GU.out.trans (h.mono GU.out.size))) HAL.out.2.1
                have hcR : ∀ W, Below Ud.heap.size Ud W → Calls Try.prog 21 #[.pointer (some ⟨rbs k, 0, none⟩), .agg #[.int .u64 t.1, .int .u64 t.2.1, .int .u64 t.2.2]] W fun e w' => ∃ p n c, e = .returned (.slice p n c) ∧ Hid (Tld W M (.slice p n c) w' ∧ n = M.length) := fun W h => by
                  rw [hM]
                  exact rupto_any t W (P1.out.r.below (GU.out.trans (h.mono GU.out.size))) HAL.out.2.2.1
                have HB1 : Hid (tag1 b1 = 0 ∧ b1 < Ud.heap.size) := ⟨H0.out, tk_lt Xd.out⟩
                have HSB : Hid ((Value.slice pB nb cB).ownBlock ≠ some b1) := fun e => by
                  have h1 := S1.out.bk.2 b1 e
                  have h2 := H0.out
                  omega
                clear hM
                obtain ⟨cellP, cellR, lP, lR⟩ := HCE.out
                go_upto_region 22 with fail
                clear q0 q1 q2 q3 q4 q5 q6 q7 q8 cellP cellR lP lR
                have hX0 := Xd.out
                refine wp_regionD (S := fun W' => W'.heap[b1]? = some (.cells (bxc 2 xo pl nl cl t pf nf cf ky) 58 (0, 0))) (D := []) hmx ?_
                rw [← HUd.out]
                refine' wpAnyD_take (i := 0) (oi := { dst := some 85, op := Go.Op.move (Go.Operand.tmp 5), type := 56, pos := "law.go:134", after := #[], guard := none }) (v := _) rfl (by kernel_rfl) (by kernel_rfl) (by kernel_rfl) (fun _ _ _ h => h) (by kernel_rfl) (Or.inl ⟨by rfl, ?hy8⟩) hX0 ?rest8
                case hy8 => (intro W hSw; go_simp; try (with_reducible rfl))
                try simp only [Act.put, List.setIfInBounds_toArray, List.set_cons_zero, List.set_cons_succ]
                refine' wpAnyD_take (i := 1) (oi := { dst := some 86, op := Go.Op.move (Go.Operand.tmp 9), type := 29, pos := "law.go:134", after := #[], guard := none }) (v := _) rfl (by kernel_rfl) (by kernel_rfl) (by kernel_rfl) (fun _ _ _ h => h) (by kernel_rfl) (Or.inl ⟨by rfl, ?hy9⟩) hX0 ?rest9
                case hy9 => (intro W hSw; go_simp; try (with_reducible rfl))
                try simp only [Act.put, List.setIfInBounds_toArray, List.set_cons_zero, List.set_cons_succ]
                refine' wpAnyD_take (i := 2) (oi := { dst := some 87, op := Go.Op.fieldAddr 58 (Go.Operand.tmp 7) 3, type := 0, pos := "law.go:134", after := #[], guard := none }) (v := _) rfl (by kernel_rfl) (by kernel_rfl) (by kernel_rfl) (fun _ _ _ h => h) (by kernel_rfl) (Or.inl ⟨by rfl, ?hy10⟩) hX0 ?rest10
                case hy10 => (intro W hSw; go_simp; try (with_reducible rfl))
                try simp only [Act.put, List.setIfInBounds_toArray, List.set_cons_zero, List.set_cons_succ]
                refine' wpAnyD_take (i := 3) (oi := { dst := some 88, op := Go.Op.load 25 (Go.Operand.tmp 87), type := 25, pos := "law.go:134", after := #[{ on := 2, ground := Go.Ground.data }], guard := none }) (v := _) rfl (by kernel_rfl) (by kernel_rfl) (by kernel_rfl) (fun _ _ _ h => h) (by kernel_rfl) (Or.inl ⟨by rfl, ?hy11⟩) hX0 ?rest11
                case hy11 => (intro W hSw; obtain ⟨q0, q1, q2, q3, q4, q5, q6, q7, q8⟩ := box_at hSw; go_simp; try (with_reducible rfl))
                try simp only [Act.put, List.setIfInBounds_toArray, List.set_cons_zero, List.set_cons_succ]
                refine' wpAnyD_take (i := 5) (oi := { dst := some 90, op := Go.Op.move (Go.Operand.tmp 9), type := 29, pos := "law.go:134", after := #[], guard := none }) (v := _) rfl (by kernel_rfl) (by kernel_rfl) (by kernel_rfl) (fun _ _ _ h => h) (by kernel_rfl) (Or.inl ⟨by rfl, ?hy12⟩) hX0 ?rest12
                case hy12 => (intro W hSw; go_simp; try (with_reducible rfl))
                try simp only [Act.put, List.setIfInBounds_toArray, List.set_cons_zero, List.set_cons_succ]
                refine' wpAnyD_take (i := 6) (oi := { dst := some 91, op := Go.Op.fieldAddr 58 (Go.Operand.tmp 7) 3, type := 0, pos := "law.go:134", after := #[], guard := none }) (v := _) rfl (by kernel_rfl) (by kernel_rfl) (by kernel_rfl) (fun _ _ _ h => h) (by kernel_rfl) (Or.inl ⟨by rfl, ?hy13⟩) hX0 ?rest13
                case hy13 => (intro W hSw; go_simp; try (with_reducible rfl))
                try simp only [Act.put, List.setIfInBounds_toArray, List.set_cons_zero, List.set_cons_succ]
                refine' wpAnyD_take (i := 7) (oi := { dst := some 92, op := Go.Op.load 25 (Go.Operand.tmp 91), type := 25, pos := "law.go:134", after := #[{ on := 6, ground := Go.Ground.data }], guard := none }) (v := _) rfl (by kernel_rfl) (by kernel_rfl) (by kernel_rfl) (fun _ _ _ h => h) (by kernel_rfl) (Or.inl ⟨by rfl, ?hy14⟩) hX0 ?rest14
                case hy14 => (intro W hSw; obtain ⟨q0, q1, q2, q3, q4, q5, q6, q7, q8⟩ := box_at hSw; go_simp; try (with_reducible rfl))
                try simp only [Act.put, List.setIfInBounds_toArray, List.set_cons_zero, List.set_cons_succ]
                refine' wpAnyD_take (i := 9) (oi := { dst := some 94, op := Go.Op.move (Go.Operand.tmp 10), type := 52, pos := "law.go:134", after := #[], guard := none }) (v := _) rfl (by kernel_rfl) (by kernel_rfl) (by kernel_rfl) (fun _ _ _ h => h) (by kernel_rfl) (Or.inl ⟨by rfl, ?hy15⟩) hX0 ?rest15
                case hy15 => (intro W hSw; go_simp; try (with_reducible rfl))
                try simp only [Act.put, List.setIfInBounds_toArray, List.set_cons_zero, List.set_cons_succ]
                refine' wpAnyD_take (i := 10) (oi := { dst := some 95, op := Go.Op.fieldAddr 58 (Go.Operand.tmp 7) 3, type := 0, pos := "law.go:134", after := #[], guard := none }) (v := _) rfl (by kernel_rfl) (by kernel_rfl) (by kernel_rfl) (fun _ _ _ h => h) (by kernel_rfl) (Or.inl ⟨by rfl, ?hy16⟩) hX0 ?rest16
                case hy16 => (intro W hSw; go_simp; try (with_reducible rfl))
                try simp only [Act.put, List.setIfInBounds_toArray, List.set_cons_zero, List.set_cons_succ]
                refine' wpAnyD_take (i := 11) (oi := { dst := some 96, op := Go.Op.load 25 (Go.Operand.tmp 95), type := 25, pos := "law.go:134", after := #[{ on := 10, ground := Go.Ground.data }], guard := none }) (v := _) rfl (by kernel_rfl) (by kernel_rfl) (by kernel_rfl) (fun _ _ _ h => h) (by kernel_rfl) (Or.inl ⟨by rfl, ?hy17⟩) hX0 ?rest17
                case hy17 => (intro W hSw; obtain ⟨q0, q1, q2, q3, q4, q5, q6, q7, q8⟩ := box_at hSw; go_simp; try (with_reducible rfl))
                try simp only [Act.put, List.setIfInBounds_toArray, List.set_cons_zero, List.set_cons_succ]
                refine wpAnyD_one (i := 4) (o := { dst := some 89, op := Go.Op.call { callee := Go.Callee.value (Go.Operand.func 16), args := #[Go.Operand.tmp 86, Go.Operand.tmp 88], argTypes := #[29, 25] }, type := 22, pos := "law.go:134", after := #[{ on := 1, ground := Go.Ground.data }, { on := 3, ground := Go.Ground.data }], guard := none }) (by kernel_rfl) rfl (fun K hK => ?_)
                rw [if_pos (by kernel_rfl)]
                go_simp
                refine (hcP Ud (Below.refl _ _)).mono ?_
                rintro e w6 ⟨p6, n6, c6, rfl, H6⟩
                have N6 : Hid (n6 = M.length) := H6.out.2
                have R6 : Hid (w6.ownsRow Ud.heap.size 36 5 (.slice p6 n6 c6) M.length (fl EC M) ∧ ∀ q, (Value.slice p6 n6 c6).ownBlock = some q → Ud.heap.size ≤ q ∧ q < w6.heap.size) := ⟨H6.out.1.1, fun q hq => H6.out.1.1.lt q hq⟩
                have B6 : Hid (Below Ud.heap.size Ud w6) := H6.out.1.2
                clear H6
                have hX6 := (B6.out.block b1 HB1.out.2).trans Xd.out
                have L6 : Hid (Below Ud.heap.size Ud w6) := B6.out
                dsimp only
                refine hK.out _ _ (fun hD => hX6) ?_
                clear hK K
                try simp only [Act.put, List.setIfInBounds_toArray, List.set_cons_zero, List.set_cons_succ]
                refine wpAnyD_one (i := 8) (o := { dst := some 93, op := Go.Op.call { callee := Go.Callee.value (Go.Operand.func 16), args := #[Go.Operand.tmp 90, Go.Operand.tmp 92], argTypes := #[29, 25] }, type := 22, pos := "law.go:134", after := #[{ on := 5, ground := Go.Ground.data }, { on := 7, ground := Go.Ground.data }, { on := 4, ground := Go.Ground.chain }], guard := none }) (by kernel_rfl) rfl (fun K hK => ?_)
                rw [if_pos (by kernel_rfl)]
                go_simp
                refine (hcP w6 L6.out).mono ?_
                rintro e w7 ⟨p7, n7, c7, rfl, H7⟩
                have N7 : Hid (n7 = M.length) := H7.out.2
                have R7 : Hid (w7.ownsRow w6.heap.size 36 5 (.slice p7 n7 c7) M.length (fl EC M) ∧ ∀ q, (Value.slice p7 n7 c7).ownBlock = some q → w6.heap.size ≤ q ∧ q < w7.heap.size) := ⟨H7.out.1.1, fun q hq => H7.out.1.1.lt q hq⟩
                have B7 : Hid (Below w6.heap.size w6 w7) := H7.out.1.2
                clear H7
                have R6' := hid (And.intro (owns_below R6.out.1 B7.out) R6.out.2)
                clear R6
                have R6 := R6'
                clear R6'
                have L7 : Hid (Below Ud.heap.size Ud w7) := L6.out.trans (B7.out.mono L6.out.size)
                have hX7 := (L7.out.block b1 HB1.out.2).trans Xd.out
                dsimp only
                refine hK.out _ _ (fun hD => hX7) ?_
                clear hK K
                try simp only [Act.put, List.setIfInBounds_toArray, List.set_cons_zero, List.set_cons_succ]
                refine wpAnyD_one (i := 12) (o := { dst := some 97, op := Go.Op.call { callee := Go.Callee.value (Go.Operand.func 21), args := #[Go.Operand.tmp 94, Go.Operand.tmp 96], argTypes := #[52, 25] }, type := 22, pos := "law.go:134", after := #[{ on := 9, ground := Go.Ground.data }, { on := 11, ground := Go.Ground.data }, { on := 8, ground := Go.Ground.chain }], guard := none }) (by kernel_rfl) rfl (fun K hK => ?_)
                rw [if_pos (by kernel_rfl)]
                go_simp
                refine (hcR w7 L7.out).mono ?_
                rintro e w8 ⟨p8, n8, c8, rfl, H8⟩
                have N8 : Hid (n8 = M.length) := H8.out.2
                have R8 : Hid (w8.ownsRow w7.heap.size 36 5 (.slice p8 n8 c8) M.length (fl EC M) ∧ ∀ q, (Value.slice p8 n8 c8).ownBlock = some q → w7.heap.size ≤ q ∧ q < w8.heap.size) := ⟨H8.out.1.1, fun q hq => H8.out.1.1.lt q hq⟩
                have B8 : Hid (Below w7.heap.size w7 w8) := H8.out.1.2
                clear H8
                have R6' := hid (And.intro (owns_below R6.out.1 B8.out) R6.out.2)
                clear R6
                have R6 := R6'
                clear R6'
                have R7' := hid (And.intro (owns_below R7.out.1 B8.out) R7.out.2)
                clear R7
                have R7 := R7'
                clear R7'
                have L8 : Hid (Below Ud.heap.size Ud w8) := L7.out.trans (B8.out.mono L7.out.size)
                have hX8 := (L8.out.block b1 HB1.out.2).trans Xd.out
                have T8 : Hid (∃ tag8, Sc w w8 tag8 m nb N hbs rbs Q V Wv D (.slice (some ⟨gP, 0, none⟩) m cP) (.slice (some ⟨gR, 0, none⟩) m cR) (.slice pB nb cB) ∧ Ow w8 tag8 (20 + 3 * nb) 36 5 (.slice p6 n6 c6) M.length (fl EC M) ∧ Ow w8 tag8 (20 + 3 * nb + 1) 36 5 (.slice p7 n7 c7) M.length (fl EC M) ∧ Ow w8 tag8 (20 + 3 * nb + 2) 36 5 (.slice p8 n8 c8) M.length (fl EC M)) := by
                  obtain ⟨t8, h1, h2, h3, h4⟩ := Sd.out.three L8.out R6.out.1 (owns_base R7.out.1 L6.out.size) (owns_base R8.out.1 L7.out.size) (fun q h1 h2 => by have := (R6.out.2 q h1).2; have := (R7.out.2 q h2).1; omega) (fun q h1 h2 => by have := (R7.out.2 q h1).2; have := (R8.out.2 q h2).1; omega) (fun q h1 h2 => by have := (R6.out.2 q h1).2; have := (R8.out.2 q h2).1; have := B7.out.size; omega) (20 + 3 * nb)
                  exact ⟨t8, h1, h2, h3, h4⟩
                have BK8 : Hid (w8.ownsRow 0 61 3 (.slice pB nb cB) nb (pages nb V Wv)) := by
                  obtain ⟨tag8, hs, -⟩ := T8.out
                  exact hs.bk.1
                dsimp only
                refine hK.out _ _ (fun hD => hX8) ?_
                clear hK K
                try simp only [Act.put, List.setIfInBounds_toArray, List.set_cons_zero, List.set_cons_succ]
                refine wpAnyD_one (i := 13) (o := { dst := some 98, op := Go.Op.build 61 #[(0, Go.Operand.tmp 89), (1, Go.Operand.tmp 93), (2, Go.Operand.tmp 97)], type := 61, pos := "law.go:134", after := #[{ on := 4, ground := Go.Ground.data }, { on := 8, ground := Go.Ground.data }, { on := 12, ground := Go.Ground.data }], guard := none }) (by kernel_rfl) rfl (fun K hK => ?_)
                rw [if_pos (by kernel_rfl)]
                go_simp
                refine hK.out _ _ (fun hD => hX8) ?_
                clear hK K
                try simp only [Act.put, List.setIfInBounds_toArray, List.set_cons_zero, List.set_cons_succ]
                refine wpAnyD_one (i := 14) (o := { dst := some 99, op := Go.Op.buildSlice 56 1 #[(0, Go.Operand.tmp 98)], type := 56, pos := "law.go:134", after := #[{ on := 13, ground := Go.Ground.data }], guard := none }) (by kernel_rfl) rfl (fun K hK => ?_)
                rw [if_pos (by kernel_rfl)]
                go_simp
                have hX9 : (w8.alloc (.cells #[.slice p6 n6 c6, .slice p7 n7 c7, .slice p8 n8 c8] 61)).heap[b1]? = some (.cells (bxc 2 xo pl nl cl t pf nf cf ky) 58 (0, 0)) := (((Gr.refl w8).alloc (.cells #[.slice p6 n6 c6, .slice p7 n7 c7, .slice p8 n8 c8] 61)).below.block b1 (tk_lt hX8)).trans hX8
                refine hK.out _ _ (fun hD => hX9) ?_
                clear hK K
                try simp only [Act.put, List.setIfInBounds_toArray, List.set_cons_zero, List.set_cons_succ]
                refine wpAnyD_one (i := 15) (o := { dst := some 100, op := Go.Op.call { callee := Go.Callee.builtin Go.Builtin.append, args := #[Go.Operand.tmp 85, Go.Operand.tmp 99], argTypes := #[56, 56] }, type := 56, pos := "law.go:134", after := #[{ on := 0, ground := Go.Ground.data }, { on := 14, ground := Go.Ground.data }, { on := 12, ground := Go.Ground.chain }], guard := none }) (by kernel_rfl) rfl (fun K hK => ?_)
                refine step_app1 EG Try.underlying56 infoPg rfl (by decide) rfl _ _ rfl 0 (.slice pB nb cB) nb _ rfl BK8.out (⟨.slice p6 n6 c6, rfl⟩, ⟨.slice p7 n7 c7, rfl⟩, ⟨.slice p8 n8 c8, rfl⟩) (by first | rfl | (go_simp; done)) (by omega) (by unfold maxLen; omega) (Nat.zero_le _) _ rfl _ ?_
                intro g10 cap10 w10 ho10 hg10 hn10
                have hk10 : Kp (fun q => (Value.slice pB nb cB).ownBlock = some q) w8 w10 := Kp.grownBy hg10.out (fun _ h => h)
                have TE : Hid (∃ tag hb rb Q V Wv D, Sc w w10 tag m (nb + 1) (tot (sc.take (i + 1))) hb rb Q V Wv D (.slice (some ⟨gP, 0, none⟩) m cP) (.slice (some ⟨gR, 0, none⟩) m cR) (.slice (some ⟨g10, 0, none⟩) (nb + 1) cap10)) := by
                  rw [HTS.out]
                  obtain ⟨tag8, hs, ha, hb, hc⟩ := T8.out
                  obtain ⟨tA, V2, W2, D2, h⟩ := hs.page ha hb hc HM.out ho10.out hk10 (fun q hq => by rw [← own_eq hq]; exact hn10.out)
                  exact ⟨_, _, _, _, _, _, _, h.mono (Nat.le_add_right N nl)⟩
                have hX10 : w10.heap[b1]? = some (.cells (bxc 2 xo pl nl cl t pf nf cf ky) 58 (0, 0)) := (hk10.block b1 (tk_lt hX8) HSB.out).trans hX8
                clear ho10 hg10 hn10 hk10
                refine hK.out _ _ (fun hD => hX10) ?_
                clear hK K
                try simp only [Act.put, List.setIfInBounds_toArray, List.set_cons_zero, List.set_cons_succ]
                refine wpAnyD_one (i := 16) (o := { dst := some 5, op := Go.Op.assign (Go.Operand.tmp 100), type := 56, pos := "law.go:134", after := #[{ on := 15, ground := Go.Ground.data }, { on := 15, ground := Go.Ground.chain }, { on := 0, ground := Go.Ground.phase }, { on := 1, ground := Go.Ground.phase }, { on := 2, ground := Go.Ground.phase }, { on := 3, ground := Go.Ground.phase }, { on := 4, ground := Go.Ground.phase }, { on := 5, ground := Go.Ground.phase }, { on := 6, ground := Go.Ground.phase }, { on := 7, ground := Go.Ground.phase }, { on := 8, ground := Go.Ground.phase }, { on := 9, ground := Go.Ground.phase }, { on := 10, ground := Go.Ground.phase }, { on := 11, ground := Go.Ground.phase }, { on := 12, ground := Go.Ground.phase }, { on := 13, ground := Go.Ground.phase }, { on := 14, ground := Go.Ground.phase }, { on := 15, ground := Go.Ground.phase }], guard := none }) (by kernel_rfl) rfl (fun K hK => ?_)
                rw [if_pos (by kernel_rfl)]
                go_simp
                refine hK.out _ _ (fun hD => hX10) ?_
                clear hK K
                try simp only [Act.put, List.setIfInBounds_toArray, List.set_cons_zero, List.set_cons_succ]
                refine wpAnyD_done (by kernel_rfl) ?_ _
                clear hX0 hX6 hX7 hX8 hX9 hX10 hcP hcR
                go_wp2_with fail
                go_roundw
                case rel => exact ⟨i + 1, m, nb + 1, _, _, _, _, _, _, hlt, by go_num, rfl, rfl, rfl, ⟨by omega, by omega, TE.out⟩⟩
                case measure => simp [RowKit.intOf]; omega
            · have d2 : (xa == 2) = false := by simp [e2]
              clear e2
              by_cases e3 : xa = 3
              · as_aux_lemma =>
                  subst e3
                  obtain ⟨M, hM⟩ : ∃ M, M = (srt A).filter fun x => !opn f x.t := ⟨_, rfl⟩
                  have HM : Hid (M.length ≤ 1048576) := by rw [hM]; exact Nat.le_trans (List.length_filter_le _ _) (by rw [srt_len]; exact HAL.out.1)
                  have hbf : (f.length + 1) * 24 ≤ 140737488355328 := by
                    have h1 := HNF.out
                    have h2 := HLf.out.2
                    omega
                  have hc : ∀ W, Below U.heap.size U W → Calls Try.prog 22 #[.pointer (some ⟨hbs k, 0, none⟩), .slice pf nf cf] W fun e w' => ∃ p m c, e = .returned (.tuple #[.slice p m c, .bool true]) ∧ Hid (Tld W M (.slice p m c) w' ∧ m = M.length) := fun W h => by
                    rw [hM]
                    exact ldone_any W (P1.out.p.below h) HAL.out.2.1 (HLf.out.1.below h) hbf
                  have hcR : ∀ W, Below U.heap.size U W → Calls Try.prog 23 #[.pointer (some ⟨rbs k, 0, none⟩), .slice pf nf cf] W fun e w' => ∃ p n c, e = .returned (.slice p n c) ∧ Hid (Tld W M (.slice p n c) w' ∧ n = M.length) := fun W h => by
                    rw [hM]
                    exact rdone_any W (P1.out.r.below h) HAL.out.2.2.1 (fun W' x h' => r5openW_any _ f x W' ((HLf.out.1.below h).below h') (by have h1 := HNF.out; have h2 := HLf.out.2; omega))
                  have HSB : Hid ((Value.slice pB nb cB).ownBlock ≠ some b1) := fun e => by
                    have h1 := S1.out.bk.2 b1 e
                    have h2 := H0.out
                    omega
                  clear hM hbf
                  obtain ⟨cellP, cellR, lP, lR⟩ := HCE.out
                  have h1 := hc U (Below.refl _ _)
                  go_wp2_with fail
                  refine h1.mono ?_
                  clear h1 q0 q1 q2 q3 q4 q5 q6 q7 q8 cellP cellR lP lR
                  rintro e w6 ⟨p6, n6, c6, rfl, H6⟩
                  have N6 : Hid (n6 = M.length) := H6.out.2
                  have R6 : Hid (w6.ownsRow U.heap.size 36 5 (.slice p6 n6 c6) M.length (fl EC M) ∧ ∀ q, (Value.slice p6 n6 c6).ownBlock = some q → U.heap.size ≤ q ∧ q < w6.heap.size) := ⟨H6.out.1.1, fun q hq => H6.out.1.1.lt q hq⟩
                  have L6 : Hid (Below U.heap.size U w6) := H6.out.1.2
                  clear H6
                  obtain ⟨q0, q1, q2, q3, q4, q5, q6, q7, q8⟩ := box_at ((L6.out.block b1 (tk_lt X1.out)).trans X1.out)
                  have h1 := hc w6 L6.out
                  go_wp2_with fail
                  refine h1.mono ?_
                  clear h1 q0 q1 q2 q3 q4 q5 q6 q7 q8 hc
                  rintro e w7 ⟨p7, n7, c7, rfl, H7⟩
                  have N7 : Hid (n7 = M.length) := H7.out.2
                  have R7 : Hid (w7.ownsRow w6.heap.size 36 5 (.slice p7 n7 c7) M.length (fl EC M) ∧ ∀ q, (Value.slice p7 n7 c7).ownBlock = some q → w6.heap.size ≤ q ∧ q < w7.heap.size) := ⟨H7.out.1.1, fun q hq => H7.out.1.1.lt q hq⟩
                  have R6' := hid (And.intro (owns_below R6.out.1 H7.out.1.2) R6.out.2)
                  clear R6
                  have R6 := R6'
                  clear R6'
                  have Z7 : Hid (w6.heap.size ≤ w7.heap.size) := H7.out.1.2.size
                  have L7 : Hid (Below U.heap.size U w7) := L6.out.trans (H7.out.1.2.mono L6.out.size)
                  clear H7
                  obtain ⟨q0, q1, q2, q3, q4, q5, q6, q7, q8⟩ := box_at ((L7.out.block b1 (tk_lt X1.out)).trans X1.out)
                  have h1 := hcR w7 L7.out
                  go_wp2_with fail
                  refine h1.mono ?_
                  clear h1 q0 q1 q2 q3 q4 q5 q6 q7 q8 hcR
                  rintro e w8 ⟨p8, n8, c8, rfl, H8⟩
                  have N8 : Hid (n8 = M.length) := H8.out.2
                  have R8 : Hid (w8.ownsRow w7.heap.size 36 5 (.slice p8 n8 c8) M.length (fl EC M) ∧ ∀ q, (Value.slice p8 n8 c8).ownBlock = some q → w7.heap.size ≤ q ∧ q < w8.heap.size) := ⟨H8.out.1.1, fun q hq => H8.out.1.1.lt q hq⟩
                  have R6' := hid (And.intro (owns_below R6.out.1 H8.out.1.2) R6.out.2)
                  have R7' := hid (And.intro (owns_below R7.out.1 H8.out.1.2) R7.out.2)
                  clear R6 R7
                  have R6 := R6'
                  have R7 := R7'
                  clear R6' R7'
                  have L8 : Hid (Below U.heap.size U w8) := L7.out.trans (H8.out.1.2.mono L7.out.size)
                  have Z67 : Hid (w6.heap.size ≤ w7.heap.size) := by
                    rcases Nat.lt_or_ge w7.heap.size w6.heap.size with h | h
                    · exact absurd h (Nat.not_lt.2 (Z7.out))
                    · exact h
                  clear H8
                  have T8 : Hid (∃ tag8, Sc w w8 tag8 m nb N hbs rbs Q V Wv D (.slice (some ⟨gP, 0, none⟩) m cP) (.slice (some ⟨gR, 0, none⟩) m cR) (.slice pB nb cB) ∧ Ow w8 tag8 (20 + 3 * nb) 36 5 (.slice p6 n6 c6) M.length (fl EC M) ∧ Ow w8 tag8 (20 + 3 * nb + 1) 36 5 (.slice p7 n7 c7) M.length (fl EC M) ∧ Ow w8 tag8 (20 + 3 * nb + 2) 36 5 (.slice p8 n8 c8) M.length (fl EC M)) := by
                    obtain ⟨t8, h1, h2, h3, h4⟩ := S1.out.three L8.out R6.out.1 (owns_base R7.out.1 L6.out.size) (owns_base R8.out.1 L7.out.size) (fun q h1 h2 => by have := (R6.out.2 q h1).2; have := (R7.out.2 q h2).1; omega) (fun q h1 h2 => by have := (R7.out.2 q h1).2; have := (R8.out.2 q h2).1; omega) (fun q h1 h2 => by have := (R6.out.2 q h1).2; have := (R8.out.2 q h2).1; have := Z67.out; omega) (20 + 3 * nb)
                    exact ⟨t8, h1, h2, h3, h4⟩
                  have BK8 : Hid (w8.ownsRow 0 61 3 (.slice pB nb cB) nb (pages nb V Wv)) := by
                    obtain ⟨tag8, hs, -⟩ := T8.out
                    exact hs.bk.1
                  go_wp2_with (at_builtin; refine wpApp1 EG Try.underlying56 infoPg rfl (by decide) rfl _ _ rfl 0 (.slice pB nb cB) nb _ rfl BK8.out (⟨.slice p6 n6 c6, rfl⟩, ⟨.slice p7 n7 c7, rfl⟩, ⟨.slice p8 n8 c8, rfl⟩) (by first | rfl | (go_simp; done)) (by omega) (by unfold maxLen; omega) (Nat.zero_le _) _ rfl _ ?_)
                  intro g10 cap10 w10 ho10 hg10 hn10
                  have hk10 : Kp (fun q => (Value.slice pB nb cB).ownBlock = some q) w8 w10 := Kp.grownBy hg10 (fun _ h => h)
                  have TE : Hid (∃ tag hb rb Q V Wv D, Sc w w10 tag m (nb + 1) (tot (sc.take (i + 1))) hb rb Q V Wv D (.slice (some ⟨gP, 0, none⟩) m cP) (.slice (some ⟨gR, 0, none⟩) m cR) (.slice (some ⟨g10, 0, none⟩) (nb + 1) cap10)) := by
                    rw [HTS.out]
                    obtain ⟨tag8, hs, ha, hb, hc⟩ := T8.out
                    obtain ⟨tA, V2, W2, D2, h⟩ := hs.page ha hb hc HM.out ho10 hk10 (fun q hq => by rw [← own_eq hq]; exact hn10)
                    exact ⟨_, _, _, _, _, _, _, h.mono (Nat.le_add_right N nl)⟩
                  clear ho10 hg10 hn10 hk10 T8 BK8 R6 R7 R8
                  go_wp2_with fail
                  go_roundw
                  case rel => exact ⟨i + 1, m, nb + 1, _, _, _, _, _, _, hlt, by go_num, rfl, rfl, rfl, ⟨by omega, by omega, TE.out⟩⟩
                  case measure => simp [RowKit.intOf]; omega
              · have d3 : (xa == 3) = false := by simp [e3]
                clear e3
                by_cases e4 : xa = 4
                · as_aux_lemma =>
                    subst e4
                    have G0 : Below U.heap.size U U.drew := (Gr.refl U).drew.below
                    have Sd : Hid (Sc w U.drew tag1 m nb N hbs rbs Q V Wv D (.slice (some ⟨gP, 0, none⟩) m cP) (.slice (some ⟨gR, 0, none⟩) m cR) (.slice pB nb cB)) := S1.out.nx (Nx.same (fun _ => False) tag1 G0)
                    have Xd : Hid (U.drew.heap[b1]? = some (.cells (bxc 4 xo pl nl cl t pf nf cf ky) 58 (0, 0))) := X1.out
                    obtain ⟨Ud, hUd⟩ : ∃ V, V = U.drew := ⟨_, rfl⟩
                    have GU : Hid (Below U.heap.size U Ud) := by rw [hUd]; exact G0
                    rw [← hUd] at Sd Xd
                    have HUd := hid hUd
                    clear hUd G0
                    obtain ⟨M, hM⟩ : ∃ M, M = (srt A).filter fun x => decide (x.k = ky) := ⟨_, rfl⟩
                    have HM : Hid (M.length ≤ 1048576) := by rw [hM]; exact Nat.le_trans (List.length_filter_le _ _) (by rw [srt_len]; exact HAL.out.1)
                    have hcP : ∀ W, Below Ud.heap.size Ud W → Calls Try.prog 17 #[.pointer (some ⟨hbs k, 0, none⟩), .int .u64 ky] W fun e w' => ∃ p n c, e = .returned (.slice p n c) ∧ Hid (Tld W M (.slice p n c) w' ∧ n = M.length) := fun W h => by
                      rw [hM]
                      exact of_any ky W (P1.out.p.below (GU.out.trans (h.mono GU.out.size))) HAL.out.2.1
                    have hcR : ∀ W, Below Ud.heap.size Ud W → Calls Try.prog 24 #[.pointer (some ⟨rbs k, 0, none⟩), .int .u64 ky] W fun e w' => ∃ p n c, e = .returned (.slice p n c) ∧ Hid (Tld W M (.slice p n c) w' ∧ n = M.length) := fun W h => by
                      rw [hM]
                      exact rof_any ky W (P1.out.r.below (GU.out.trans (h.mono GU.out.size))) HAL.out.2.2.1
                    have HB1 : Hid (tag1 b1 = 0 ∧ b1 < Ud.heap.size) := ⟨H0.out, tk_lt Xd.out⟩
                    have HSB : Hid ((Value.slice pB nb cB).ownBlock ≠ some b1) := fun e => by
                      have h1 := S1.out.bk.2 b1 e
                      have h2 := H0.out
                      omega
                    clear hM
                    obtain ⟨cellP, cellR, lP, lR⟩ := HCE.out
                    go_upto_region 29 with fail
                    clear q0 q1 q2 q3 q4 q5 q6 q7 q8 cellP cellR lP lR
                    have hX0 := Xd.out
                    refine wp_regionD (S := fun W' => W'.heap[b1]? = some (.cells (bxc 4 xo pl nl cl t pf nf cf ky) 58 (0, 0))) (D := []) hmx ?_
                    rw [← HUd.out]
                    refine' wpAnyD_take (i := 0) (oi := { dst := some 136, op := Go.Op.move (Go.Operand.tmp 5), type := 56, pos := "law.go:141", after := #[], guard := none }) (v := _) rfl (by kernel_rfl) (by kernel_rfl) (by kernel_rfl) (fun _ _ _ h => h) (by kernel_rfl) (Or.inl ⟨by rfl, ?hy25⟩) hX0 ?rest25
                    case hy25 => (intro W hSw; go_simp; try (with_reducible rfl))
                    try simp only [Act.put, List.setIfInBounds_toArray, List.set_cons_zero, List.set_cons_succ]
                    refine' wpAnyD_take (i := 1) (oi := { dst := some 137, op := Go.Op.move (Go.Operand.tmp 9), type := 29, pos := "law.go:141", after := #[], guard := none }) (v := _) rfl (by kernel_rfl) (by kernel_rfl) (by kernel_rfl) (fun _ _ _ h => h) (by kernel_rfl) (Or.inl ⟨by rfl, ?hy26⟩) hX0 ?rest26
                    case hy26 => (intro W hSw; go_simp; try (with_reducible rfl))
                    try simp only [Act.put, List.setIfInBounds_toArray, List.set_cons_zero, List.set_cons_succ]
                    refine' wpAnyD_take (i := 2) (oi := { dst := some 138, op := Go.Op.fieldAddr 58 (Go.Operand.tmp 7) 5, type := 0, pos := "law.go:141", after := #[], guard := none }) (v := _) rfl (by kernel_rfl) (by kernel_rfl) (by kernel_rfl) (fun _ _ _ h => h) (by kernel_rfl) (Or.inl ⟨by rfl, ?hy27⟩) hX0 ?rest27
                    case hy27 => (intro W hSw; go_simp; try (with_reducible rfl))
                    try simp only [Act.put, List.setIfInBounds_toArray, List.set_cons_zero, List.set_cons_succ]
                    refine' wpAnyD_take (i := 3) (oi := { dst := some 139, op := Go.Op.load 23 (Go.Operand.tmp 138), type := 23, pos := "law.go:141", after := #[{ on := 2, ground := Go.Ground.data }], guard := none }) (v := _) rfl (by kernel_rfl) (by kernel_rfl) (by kernel_rfl) (fun _ _ _ h => h) (by kernel_rfl) (Or.inl ⟨by rfl, ?hy28⟩) hX0 ?rest28
                    case hy28 => (intro W hSw; obtain ⟨q0, q1, q2, q3, q4, q5, q6, q7, q8⟩ := box_at hSw; go_simp; try (with_reducible rfl))
                    try simp only [Act.put, List.setIfInBounds_toArray, List.set_cons_zero, List.set_cons_succ]
                    refine' wpAnyD_take (i := 5) (oi := { dst := some 141, op := Go.Op.move (Go.Operand.tmp 9), type := 29, pos := "law.go:141", after := #[], guard := none }) (v := _) rfl (by kernel_rfl) (by kernel_rfl) (by kernel_rfl) (fun _ _ _ h => h) (by kernel_rfl) (Or.inl ⟨by rfl, ?hy29⟩) hX0 ?rest29
                    case hy29 => (intro W hSw; go_simp; try (with_reducible rfl))
                    try simp only [Act.put, List.setIfInBounds_toArray, List.set_cons_zero, List.set_cons_succ]
                    refine' wpAnyD_take (i := 6) (oi := { dst := some 142, op := Go.Op.fieldAddr 58 (Go.Operand.tmp 7) 5, type := 0, pos := "law.go:141", after := #[], guard := none }) (v := _) rfl (by kernel_rfl) (by kernel_rfl) (by kernel_rfl) (fun _ _ _ h => h) (by kernel_rfl) (Or.inl ⟨by rfl, ?hy30⟩) hX0 ?rest30
                    case hy30 => (intro W hSw; go_simp; try (with_reducible rfl))
                    try simp only [Act.put, List.setIfInBounds_toArray, List.set_cons_zero, List.set_cons_succ]
                    refine' wpAnyD_take (i := 7) (oi := { dst := some 143, op := Go.Op.load 23 (Go.Operand.tmp 142), type := 23, pos := "law.go:141", after := #[{ on := 6, ground := Go.Ground.data }], guard := none }) (v := _) rfl (by kernel_rfl) (by kernel_rfl) (by kernel_rfl) (fun _ _ _ h => h) (by kernel_rfl) (Or.inl ⟨by rfl, ?hy31⟩) hX0 ?rest31
                    case hy31 => (intro W hSw; obtain ⟨q0, q1, q2, q3, q4, q5, q6, q7, q8⟩ := box_at hSw; go_simp; try (with_reducible rfl))
                    try simp only [Act.put, List.setIfInBounds_toArray, List.set_cons_zero, List.set_cons_succ]
                    refine' wpAnyD_take (i := 9) (oi := { dst := some 145, op := Go.Op.move (Go.Operand.tmp 10), type := 52, pos := "law.go:141", after := #[], guard := none }) (v := _) rfl (by kernel_rfl) (by kernel_rfl) (by kernel_rfl) (fun _ _ _ h => h) (by kernel_rfl) (Or.inl ⟨by rfl, ?hy32⟩) hX0 ?rest32
                    case hy32 => (intro W hSw; go_simp; try (with_reducible rfl))
                    try simp only [Act.put, List.setIfInBounds_toArray, List.set_cons_zero, List.set_cons_succ]
                    refine' wpAnyD_take (i := 10) (oi := { dst := some 146, op := Go.Op.fieldAddr 58 (Go.Operand.tmp 7) 5, type := 0, pos := "law.go:141", after := #[], guard := none }) (v := _) rfl (by kernel_rfl) (by kernel_rfl) (by kernel_rfl) (fun _ _ _ h => h) (by kernel_rfl) (Or.inl ⟨by rfl, ?hy33⟩) hX0 ?rest33
                    case hy33 => (intro W hSw; go_simp; try (with_reducible rfl))
                    try simp only [Act.put, List.setIfInBounds_toArray, List.set_cons_zero, List.set_cons_succ]
                    refine' wpAnyD_take (i := 11) (oi := { dst := some 147, op := Go.Op.load 23 (Go.Operand.tmp 146), type := 23, pos := "law.go:141", after := #[{ on := 10, ground := Go.Ground.data }], guard := none }) (v := _) rfl (by kernel_rfl) (by kernel_rfl) (by kernel_rfl) (fun _ _ _ h => h) (by kernel_rfl) (Or.inl ⟨by rfl, ?hy34⟩) hX0 ?rest34
                    case hy34 => (intro W hSw; obtain ⟨q0, q1, q2, q3, q4, q5, q6, q7, q8⟩ := box_at hSw; go_simp; try (with_reducible rfl))
                    try simp only [Act.put, List.setIfInBounds_toArray, List.set_cons_zero, List.set_cons_succ]
                    refine wpAnyD_one (i := 4) (o := { dst := some 140, op := Go.Op.call { callee := Go.Callee.value (Go.Operand.func 17), args := #[Go.Operand.tmp 137, Go.Operand.tmp 139], argTypes := #[29, 23] }, type := 22, pos := "law.go:141", after := #[{ on := 1, ground := Go.Ground.data }, { on := 3, ground := Go.Ground.data }], guard := none }) (by kernel_rfl) rfl (fun K hK => ?_)
                    rw [if_pos (by kernel_rfl)]
                    go_simp
                    refine (hcP Ud (Below.refl _ _)).mono ?_
                    rintro e w6 ⟨p6, n6, c6, rfl, H6⟩
                    have N6 : Hid (n6 = M.length) := H6.out.2
                    have R6 : Hid (w6.ownsRow Ud.heap.size 36 5 (.slice p6 n6 c6) M.length (fl EC M) ∧ ∀ q, (Value.slice p6 n6 c6).ownBlock = some q → Ud.heap.size ≤ q ∧ q < w6.heap.size) := ⟨H6.out.1.1, fun q hq => H6.out.1.1.lt q hq⟩
                    have B6 : Hid (Below Ud.heap.size Ud w6) := H6.out.1.2
                    clear H6
                    have hX6 := (B6.out.block b1 HB1.out.2).trans Xd.out
                    have L6 : Hid (Below Ud.heap.size Ud w6) := B6.out
                    dsimp only
                    refine hK.out _ _ (fun hD => hX6) ?_
                    clear hK K
                    try simp only [Act.put, List.setIfInBounds_toArray, List.set_cons_zero, List.set_cons_succ]
                    refine wpAnyD_one (i := 8) (o := { dst := some 144, op := Go.Op.call { callee := Go.Callee.value (Go.Operand.func 17), args := #[Go.Operand.tmp 141, Go.Operand.tmp 143], argTypes := #[29, 23] }, type := 22, pos := "law.go:141", after := #[{ on := 5, ground := Go.Ground.data }, { on := 7, ground := Go.Ground.data }, { on := 4, ground := Go.Ground.chain }], guard := none }) (by kernel_rfl) rfl (fun K hK => ?_)
                    rw [if_pos (by kernel_rfl)]
                    go_simp
                    refine (hcP w6 L6.out).mono ?_
                    rintro e w7 ⟨p7, n7, c7, rfl, H7⟩
                    have N7 : Hid (n7 = M.length) := H7.out.2
                    have R7 : Hid (w7.ownsRow w6.heap.size 36 5 (.slice p7 n7 c7) M.length (fl EC M) ∧ ∀ q, (Value.slice p7 n7 c7).ownBlock = some q → w6.heap.size ≤ q ∧ q < w7.heap.size) := ⟨H7.out.1.1, fun q hq => H7.out.1.1.lt q hq⟩
                    have B7 : Hid (Below w6.heap.size w6 w7) := H7.out.1.2
                    clear H7
                    have R6' := hid (And.intro (owns_below R6.out.1 B7.out) R6.out.2)
                    clear R6
                    have R6 := R6'
                    clear R6'
                    have L7 : Hid (Below Ud.heap.size Ud w7) := L6.out.trans (B7.out.mono L6.out.size)
                    have hX7 := (L7.out.block b1 HB1.out.2).trans Xd.out
                    dsimp only
                    refine hK.out _ _ (fun hD => hX7) ?_
                    clear hK K
                    try simp only [Act.put, List.setIfInBounds_toArray, List.set_cons_zero, List.set_cons_succ]
                    refine wpAnyD_one (i := 12) (o := { dst := some 148, op := Go.Op.call { callee := Go.Callee.value (Go.Operand.func 24), args := #[Go.Operand.tmp 145, Go.Operand.tmp 147], argTypes := #[52, 23] }, type := 22, pos := "law.go:141", after := #[{ on := 9, ground := Go.Ground.data }, { on := 11, ground := Go.Ground.data }, { on := 8, ground := Go.Ground.chain }], guard := none }) (by kernel_rfl) rfl (fun K hK => ?_)
                    rw [if_pos (by kernel_rfl)]
                    go_simp
                    refine (hcR w7 L7.out).mono ?_
                    rintro e w8 ⟨p8, n8, c8, rfl, H8⟩
                    have N8 : Hid (n8 = M.length) := H8.out.2
                    have R8 : Hid (w8.ownsRow w7.heap.size 36 5 (.slice p8 n8 c8) M.length (fl EC M) ∧ ∀ q, (Value.slice p8 n8 c8).ownBlock = some q → w7.heap.size ≤ q ∧ q < w8.heap.size) := ⟨H8.out.1.1, fun q hq => H8.out.1.1.lt q hq⟩
                    have B8 : Hid (Below w7.heap.size w7 w8) := H8.out.1.2
                    clear H8
                    have R6' := hid (And.intro (owns_below R6.out.1 B8.out) R6.out.2)
                    clear R6
                    have R6 := R6'
                    clear R6'
                    have R7' := hid (And.intro (owns_below R7.out.1 B8.out) R7.out.2)
                    clear R7
                    have R7 := R7'
                    clear R7'
                    have L8 : Hid (Below Ud.heap.size Ud w8) := L7.out.trans (B8.out.mono L7.out.size)
                    have hX8 := (L8.out.block b1 HB1.out.2).trans Xd.out
                    have T8 : Hid (∃ tag8, Sc w w8 tag8 m nb N hbs rbs Q V Wv D (.slice (some ⟨gP, 0, none⟩) m cP) (.slice (some ⟨gR, 0, none⟩) m cR) (.slice pB nb cB) ∧ Ow w8 tag8 (20 + 3 * nb) 36 5 (.slice p6 n6 c6) M.length (fl EC M) ∧ Ow w8 tag8 (20 + 3 * nb + 1) 36 5 (.slice p7 n7 c7) M.length (fl EC M) ∧ Ow w8 tag8 (20 + 3 * nb + 2) 36 5 (.slice p8 n8 c8) M.length (fl EC M)) := by
                      obtain ⟨t8, h1, h2, h3, h4⟩ := Sd.out.three L8.out R6.out.1 (owns_base R7.out.1 L6.out.size) (owns_base R8.out.1 L7.out.size) (fun q h1 h2 => by have := (R6.out.2 q h1).2; have := (R7.out.2 q h2).1; omega) (fun q h1 h2 => by have := (R7.out.2 q h1).2; have := (R8.out.2 q h2).1; omega) (fun q h1 h2 => by have := (R6.out.2 q h1).2; have := (R8.out.2 q h2).1; have := B7.out.size; omega) (20 + 3 * nb)
                      exact ⟨t8, h1, h2, h3, h4⟩
                    have BK8 : Hid (w8.ownsRow 0 61 3 (.slice pB nb cB) nb (pages nb V Wv)) := by
                      obtain ⟨tag8, hs, -⟩ := T8.out
                      exact hs.bk.1
                    dsimp only
                    refine hK.out _ _ (fun hD => hX8) ?_
                    clear hK K
                    try simp only [Act.put, List.setIfInBounds_toArray, List.set_cons_zero, List.set_cons_succ]
                    refine wpAnyD_one (i := 13) (o := { dst := some 149, op := Go.Op.build 61 #[(0, Go.Operand.tmp 140), (1, Go.Operand.tmp 144), (2, Go.Operand.tmp 148)], type := 61, pos := "law.go:141", after := #[{ on := 4, ground := Go.Ground.data }, { on := 8, ground := Go.Ground.data }, { on := 12, ground := Go.Ground.data }], guard := none }) (by kernel_rfl) rfl (fun K hK => ?_)
                    rw [if_pos (by kernel_rfl)]
                    go_simp
                    refine hK.out _ _ (fun hD => hX8) ?_
                    clear hK K
                    try simp only [Act.put, List.setIfInBounds_toArray, List.set_cons_zero, List.set_cons_succ]
                    refine wpAnyD_one (i := 14) (o := { dst := some 150, op := Go.Op.buildSlice 56 1 #[(0, Go.Operand.tmp 149)], type := 56, pos := "law.go:141", after := #[{ on := 13, ground := Go.Ground.data }], guard := none }) (by kernel_rfl) rfl (fun K hK => ?_)
                    rw [if_pos (by kernel_rfl)]
                    go_simp
                    have hX9 : (w8.alloc (.cells #[.slice p6 n6 c6, .slice p7 n7 c7, .slice p8 n8 c8] 61)).heap[b1]? = some (.cells (bxc 4 xo pl nl cl t pf nf cf ky) 58 (0, 0)) := (((Gr.refl w8).alloc (.cells #[.slice p6 n6 c6, .slice p7 n7 c7, .slice p8 n8 c8] 61)).below.block b1 (tk_lt hX8)).trans hX8
                    refine hK.out _ _ (fun hD => hX9) ?_
                    clear hK K
                    try simp only [Act.put, List.setIfInBounds_toArray, List.set_cons_zero, List.set_cons_succ]
                    refine wpAnyD_one (i := 15) (o := { dst := some 151, op := Go.Op.call { callee := Go.Callee.builtin Go.Builtin.append, args := #[Go.Operand.tmp 136, Go.Operand.tmp 150], argTypes := #[56, 56] }, type := 56, pos := "law.go:141", after := #[{ on := 0, ground := Go.Ground.data }, { on := 14, ground := Go.Ground.data }, { on := 12, ground := Go.Ground.chain }], guard := none }) (by kernel_rfl) rfl (fun K hK => ?_)
                    refine step_app1 EG Try.underlying56 infoPg rfl (by decide) rfl _ _ rfl 0 (.slice pB nb cB) nb _ rfl BK8.out (⟨.slice p6 n6 c6, rfl⟩, ⟨.slice p7 n7 c7, rfl⟩, ⟨.slice p8 n8 c8, rfl⟩) (by first | rfl | (go_simp; done)) (by omega) (by unfold maxLen; omega) (Nat.zero_le _) _ rfl _ ?_
                    intro g10 cap10 w10 ho10 hg10 hn10
                    have hk10 : Kp (fun q => (Value.slice pB nb cB).ownBlock = some q) w8 w10 := Kp.grownBy hg10.out (fun _ h => h)
                    have TE : Hid (∃ tag hb rb Q V Wv D, Sc w w10 tag m (nb + 1) (tot (sc.take (i + 1))) hb rb Q V Wv D (.slice (some ⟨gP, 0, none⟩) m cP) (.slice (some ⟨gR, 0, none⟩) m cR) (.slice (some ⟨g10, 0, none⟩) (nb + 1) cap10)) := by
                      rw [HTS.out]
                      obtain ⟨tag8, hs, ha, hb, hc⟩ := T8.out
                      obtain ⟨tA, V2, W2, D2, h⟩ := hs.page ha hb hc HM.out ho10.out hk10 (fun q hq => by rw [← own_eq hq]; exact hn10.out)
                      exact ⟨_, _, _, _, _, _, _, h.mono (Nat.le_add_right N nl)⟩
                    have hX10 : w10.heap[b1]? = some (.cells (bxc 4 xo pl nl cl t pf nf cf ky) 58 (0, 0)) := (hk10.block b1 (tk_lt hX8) HSB.out).trans hX8
                    clear ho10 hg10 hn10 hk10
                    refine hK.out _ _ (fun hD => hX10) ?_
                    clear hK K
                    try simp only [Act.put, List.setIfInBounds_toArray, List.set_cons_zero, List.set_cons_succ]
                    refine wpAnyD_one (i := 16) (o := { dst := some 5, op := Go.Op.assign (Go.Operand.tmp 151), type := 56, pos := "law.go:141", after := #[{ on := 15, ground := Go.Ground.data }, { on := 15, ground := Go.Ground.chain }, { on := 0, ground := Go.Ground.phase }, { on := 1, ground := Go.Ground.phase }, { on := 2, ground := Go.Ground.phase }, { on := 3, ground := Go.Ground.phase }, { on := 4, ground := Go.Ground.phase }, { on := 5, ground := Go.Ground.phase }, { on := 6, ground := Go.Ground.phase }, { on := 7, ground := Go.Ground.phase }, { on := 8, ground := Go.Ground.phase }, { on := 9, ground := Go.Ground.phase }, { on := 10, ground := Go.Ground.phase }, { on := 11, ground := Go.Ground.phase }, { on := 12, ground := Go.Ground.phase }, { on := 13, ground := Go.Ground.phase }, { on := 14, ground := Go.Ground.phase }, { on := 15, ground := Go.Ground.phase }], guard := none }) (by kernel_rfl) rfl (fun K hK => ?_)
                    rw [if_pos (by kernel_rfl)]
                    go_simp
                    refine hK.out _ _ (fun hD => hX10) ?_
                    clear hK K
                    try simp only [Act.put, List.setIfInBounds_toArray, List.set_cons_zero, List.set_cons_succ]
                    refine wpAnyD_done (by kernel_rfl) ?_ _
                    clear hX0 hX6 hX7 hX8 hX9 hX10 hcP hcR
                    go_wp2_with fail
                    go_roundw
                    case rel => exact ⟨i + 1, m, nb + 1, _, _, _, _, _, _, hlt, by go_num, rfl, rfl, rfl, ⟨by omega, by omega, TE.out⟩⟩
                    case measure => simp [RowKit.intOf]; omega
                · have d4 : (xa == 4) = false := by simp [e4]
                  clear e4
                  by_cases e5 : xa = 5
                  · as_aux_lemma =>
                      subst e5
                      by_cases hl0 : l = []
                      · have hnl0 : nl = 0 := by rw [HNL.out, hl0]; rfl
                        have hnz : ¬ (0 : Int) < (nl : Int) := by omega
                        clear hnl0 hl0
                        obtain ⟨cellP, cellR, lP, lR⟩ := HCE.out
                        have TE : Hid (∃ tag hb rb Q V Wv D, Sc w U tag m nb (tot (sc.take (i + 1))) hb rb Q V Wv D (.slice (some ⟨gP, 0, none⟩) m cP) (.slice (some ⟨gR, 0, none⟩) m cR) (.slice pB nb cB)) := by
                          rw [HTS.out]
                          exact ⟨_, _, _, _, _, _, _, (S1.out.below (Below.refl _ _) 0).mono (Nat.le_add_right N nl)⟩
                        go_wp2_with fail
                        go_roundw
                        case rel => exact ⟨i + 1, m, nb, _, _, _, _, _, _, hlt, by go_num, rfl, rfl, rfl, ⟨by omega, by omega, TE.out⟩⟩
                        case measure => simp [RowKit.intOf]; omega
                      · obtain ⟨x, hx⟩ : ∃ x, l[0]? = some x := by
                          cases l with
                          | nil => exact absurd rfl hl0
                          | cons x l => exact ⟨x, rfl⟩
                        have hnz : (0 : Int) < (nl : Int) := by
                          have h1 := (List.getElem?_eq_some_iff.1 hx).1
                          have h2 := HNL.out
                          omega
                        obtain ⟨b3, o3, hpl⟩ : ∃ b o, pl = some ⟨b, o, none⟩ := by
                          obtain ⟨b, o, q', e', -, -⟩ := atC (HLl.out.ls hx) hx
                          simp only [Value.slice.injEq] at e'
                          exact ⟨b, o, e'.1⟩
                        subst hpl
                        have HYA : Hid (∀ W, Below U.heap.size U W → b3 < W.heap.size ∧ Cc W b3 o3 x) := fun W h => by
                          obtain ⟨b, o, q', e', l', h'⟩ := atC ((HLl.out.ls hx).below h) hx
                          simp only [Value.slice.injEq, Option.some.injEq, Addr.mk.injEq, and_true] at e'
                          obtain ⟨⟨rfl, rfl⟩, -⟩ := e'
                          rw [Nat.zero_mul, Nat.add_zero] at h'
                          exact ⟨l', h'⟩
                        have HXB : Hid (∀ W, Below U.heap.size U W → W.heap[b1]? = some (.cells (bxc 5 xo (some ⟨b3, o3, none⟩) nl cl t pf nf cf ky) 58 (0, 0))) := fun W h => (h.block b1 (tk_lt X1.out)).trans X1.out
                        obtain ⟨cn, hcn⟩ : ∃ c, c = A.count x := ⟨_, rfl⟩
                        have hcP : ∀ W, Below U.heap.size U W → Calls Try.prog 12 #[.pointer (some ⟨hbs k, 0, none⟩), .agg #[.int .u64 x.a, .int .u64 x.b, .int .u64 x.c, .int .u64 x.k, .int .u64 x.v]] W fun e w' => e = .returned (.int .i64 (cn : Nat)) ∧ Gr W w' := fun W h => by
                          rw [hcn]
                          exact count_any x W (P1.out.p.below h) HAL.out.2.1
                        have hcR : ∀ W, Below U.heap.size U W → Calls Try.prog 25 #[.pointer (some ⟨rbs k, 0, none⟩), .agg #[.int .u64 x.a, .int .u64 x.b, .int .u64 x.c, .int .u64 x.k, .int .u64 x.v]] W fun e w' => e = .returned (.int .i64 (cn : Nat)) ∧ Gr W w' := fun W h => by
                          rw [hcn, ← srt_count]
                          exact rcount_any x W (P1.out.r.below h) HAL.out.2.2.1
                        have hX0 : Below U.heap.size U U.drew := (Gr.refl U).drew.below
                        clear hx hl0 hcn
                        obtain ⟨cellP, cellR, lP, lR⟩ := HCE.out
                        go_upto_region 32 with fail
                        clear q0 q1 q2 q3 q4 q5 q6 q7 q8 cellP cellR lP lR
                        refine wp_regionD (S := fun W' => Below U.heap.size U W') (D := []) hmx ?_
                        refine' wpAnyD_take (i := 0) (oi := { dst := some 158, op := Go.Op.move (Go.Operand.tmp 11), type := 4, pos := "law.go:144", after := #[], guard := none }) (v := _) rfl (by kernel_rfl) (by kernel_rfl) (by kernel_rfl) (fun _ _ _ h => h) (by kernel_rfl) (Or.inl ⟨by rfl, ?hy42⟩) hX0 ?rest42
                        case hy42 => (intro W hSw; go_simp; try (with_reducible rfl))
                        try simp only [Act.put, List.setIfInBounds_toArray, List.set_cons_zero, List.set_cons_succ]
                        refine' wpAnyD_take (i := 1) (oi := { dst := some 159, op := Go.Op.move (Go.Operand.tmp 158), type := 4, pos := "law.go:144", after := #[{ on := 0, ground := Go.Ground.data }], guard := none }) (v := .bool true) rfl (by kernel_rfl) (by kernel_rfl) (by kernel_rfl) (fun _ _ _ h => h) (by kernel_rfl) (Or.inl ⟨by rfl, ?hy43⟩) hX0 ?rest43
                        case hy43 => (intro W hSw; go_simp; try (with_reducible rfl))
                        try simp only [Act.put, List.setIfInBounds_toArray, List.set_cons_zero, List.set_cons_succ]
                        refine' wpAnyD_take (i := 2) (oi := { dst := some 160, op := Go.Op.move (Go.Operand.tmp 9), type := 29, pos := "law.go:144", after := #[{ on := 1, ground := Go.Ground.guard }], guard := some (1, true) }) (v := _) rfl (by kernel_rfl) (by kernel_rfl) (by kernel_rfl) (fun _ _ _ h => h) (by kernel_rfl) (Or.inl ⟨by rfl, ?hy44⟩) hX0 ?rest44
                        case hy44 => (intro W hSw; go_simp; try (with_reducible rfl))
                        try simp only [Act.put, List.setIfInBounds_toArray, List.set_cons_zero, List.set_cons_succ]
                        refine' wpAnyD_take (i := 3) (oi := { dst := some 161, op := Go.Op.fieldAddr 58 (Go.Operand.tmp 7) 2, type := 0, pos := "law.go:144", after := #[{ on := 1, ground := Go.Ground.guard }], guard := some (1, true) }) (v := _) rfl (by kernel_rfl) (by kernel_rfl) (by kernel_rfl) (fun _ _ _ h => h) (by kernel_rfl) (Or.inl ⟨by rfl, ?hy45⟩) hX0 ?rest45
                        case hy45 => (intro W hSw; go_simp; try (with_reducible rfl))
                        try simp only [Act.put, List.setIfInBounds_toArray, List.set_cons_zero, List.set_cons_succ]
                        refine' wpAnyD_take (i := 4) (oi := { dst := some 162, op := Go.Op.load 22 (Go.Operand.tmp 161), type := 22, pos := "law.go:144", after := #[{ on := 3, ground := Go.Ground.data }, { on := 1, ground := Go.Ground.guard }], guard := some (1, true) }) (v := _) rfl (by kernel_rfl) (by kernel_rfl) (by kernel_rfl) (fun _ _ _ h => h) (by kernel_rfl) (Or.inl ⟨by rfl, ?hy46⟩) hX0 ?rest46
                        case hy46 => (intro W hSw; obtain ⟨q0, q1, q2, q3, q4, q5, q6, q7, q8⟩ := box_at (HXB.out W hSw); go_simp; try (with_reducible rfl))
                        try simp only [Act.put, List.setIfInBounds_toArray, List.set_cons_zero, List.set_cons_succ]
                        refine' wpAnyD_take (i := 5) (oi := { dst := some 163, op := Go.Op.indexAddr 22 (Go.Operand.tmp 162) (Go.Operand.const (Go.Value.int Go.IntKind.i64 0)), type := 0, pos := "law.go:144", after := #[{ on := 4, ground := Go.Ground.data }, { on := 1, ground := Go.Ground.guard }], guard := some (1, true) }) (v := _) rfl (by kernel_rfl) (by kernel_rfl) (by kernel_rfl) (fun _ _ _ h => h) (by kernel_rfl) (Or.inl ⟨by rfl, ?hy47⟩) hX0 ?rest47
                        case hy47 => (intro W hSw; obtain ⟨s5, ⟨s6, s7, s8, s9, s10⟩⟩ := HYA.out W hSw; go_simp; try (with_reducible rfl))
                        try simp only [Act.put, List.setIfInBounds_toArray, List.set_cons_zero, List.set_cons_succ]
                        refine' wpAnyD_take (i := 6) (oi := { dst := some 164, op := Go.Op.load 36 (Go.Operand.tmp 163), type := 36, pos := "law.go:144", after := #[{ on := 5, ground := Go.Ground.data }, { on := 1, ground := Go.Ground.guard }], guard := some (1, true) }) (v := _) rfl (by kernel_rfl) (by kernel_rfl) (by kernel_rfl) (fun _ _ _ h => h) (by kernel_rfl) (Or.inl ⟨by rfl, ?hy48⟩) hX0 ?rest48
                        case hy48 => (intro W hSw; obtain ⟨s5, ⟨s6, s7, s8, s9, s10⟩⟩ := HYA.out W hSw; go_simp; try (with_reducible rfl))
                        try simp only [Act.put, List.setIfInBounds_toArray, List.set_cons_zero, List.set_cons_succ]
                        refine' wpAnyD_take (i := 8) (oi := { dst := some 166, op := Go.Op.move (Go.Operand.tmp 10), type := 52, pos := "law.go:144", after := #[{ on := 1, ground := Go.Ground.guard }], guard := some (1, true) }) (v := _) rfl (by kernel_rfl) (by kernel_rfl) (by kernel_rfl) (fun _ _ _ h => h) (by kernel_rfl) (Or.inl ⟨by rfl, ?hy49⟩) hX0 ?rest49
                        case hy49 => (intro W hSw; go_simp; try (with_reducible rfl))
                        try simp only [Act.put, List.setIfInBounds_toArray, List.set_cons_zero, List.set_cons_succ]
                        refine' wpAnyD_take (i := 9) (oi := { dst := some 167, op := Go.Op.fieldAddr 58 (Go.Operand.tmp 7) 2, type := 0, pos := "law.go:144", after := #[{ on := 1, ground := Go.Ground.guard }], guard := some (1, true) }) (v := _) rfl (by kernel_rfl) (by kernel_rfl) (by kernel_rfl) (fun _ _ _ h => h) (by kernel_rfl) (Or.inl ⟨by rfl, ?hy50⟩) hX0 ?rest50
                        case hy50 => (intro W hSw; go_simp; try (with_reducible rfl))
                        try simp only [Act.put, List.setIfInBounds_toArray, List.set_cons_zero, List.set_cons_succ]
                        refine' wpAnyD_take (i := 10) (oi := { dst := some 168, op := Go.Op.load 22 (Go.Operand.tmp 167), type := 22, pos := "law.go:144", after := #[{ on := 9, ground := Go.Ground.data }, { on := 1, ground := Go.Ground.guard }], guard := some (1, true) }) (v := _) rfl (by kernel_rfl) (by kernel_rfl) (by kernel_rfl) (fun _ _ _ h => h) (by kernel_rfl) (Or.inl ⟨by rfl, ?hy51⟩) hX0 ?rest51
                        case hy51 => (intro W hSw; obtain ⟨q0, q1, q2, q3, q4, q5, q6, q7, q8⟩ := box_at (HXB.out W hSw); go_simp; try (with_reducible rfl))
                        try simp only [Act.put, List.setIfInBounds_toArray, List.set_cons_zero, List.set_cons_succ]
                        refine' wpAnyD_take (i := 11) (oi := { dst := some 169, op := Go.Op.indexAddr 22 (Go.Operand.tmp 168) (Go.Operand.const (Go.Value.int Go.IntKind.i64 0)), type := 0, pos := "law.go:144", after := #[{ on := 10, ground := Go.Ground.data }, { on := 1, ground := Go.Ground.guard }], guard := some (1, true) }) (v := _) rfl (by kernel_rfl) (by kernel_rfl) (by kernel_rfl) (fun _ _ _ h => h) (by kernel_rfl) (Or.inl ⟨by rfl, ?hy52⟩) hX0 ?rest52
                        case hy52 => (intro W hSw; obtain ⟨s5, ⟨s6, s7, s8, s9, s10⟩⟩ := HYA.out W hSw; go_simp; try (with_reducible rfl))
                        try simp only [Act.put, List.setIfInBounds_toArray, List.set_cons_zero, List.set_cons_succ]
                        refine' wpAnyD_take (i := 12) (oi := { dst := some 170, op := Go.Op.load 36 (Go.Operand.tmp 169), type := 36, pos := "law.go:144", after := #[{ on := 11, ground := Go.Ground.data }, { on := 1, ground := Go.Ground.guard }], guard := some (1, true) }) (v := _) rfl (by kernel_rfl) (by kernel_rfl) (by kernel_rfl) (fun _ _ _ h => h) (by kernel_rfl) (Or.inl ⟨by rfl, ?hy53⟩) hX0 ?rest53
                        case hy53 => (intro W hSw; obtain ⟨s5, ⟨s6, s7, s8, s9, s10⟩⟩ := HYA.out W hSw; go_simp; try (with_reducible rfl))
                        try simp only [Act.put, List.setIfInBounds_toArray, List.set_cons_zero, List.set_cons_succ]
                        refine wpAnyD_one (i := 7) (o := { dst := some 165, op := Go.Op.call { callee := Go.Callee.value (Go.Operand.func 12), args := #[Go.Operand.tmp 160, Go.Operand.tmp 164], argTypes := #[29, 36] }, type := 3, pos := "law.go:144", after := #[{ on := 2, ground := Go.Ground.data }, { on := 6, ground := Go.Ground.data }, { on := 1, ground := Go.Ground.chain }, { on := 1, ground := Go.Ground.guard }], guard := some (1, true) }) (by kernel_rfl) rfl (fun K hK => ?_)
                        rw [if_pos (by kernel_rfl)]
                        go_simp
                        refine (hcP _ hX0).mono ?_
                        rintro e w5 ⟨rfl, g5⟩
                        have hX5 : Below U.heap.size U w5 := hX0.trans (g5.below.mono hX0.size)
                        clear g5
                        dsimp only
                        refine hK.out _ _ (fun hD => hX5) ?_
                        clear hK K
                        try simp only [Act.put, List.setIfInBounds_toArray, List.set_cons_zero, List.set_cons_succ]
                        refine wpAnyD_one (i := 13) (o := { dst := some 171, op := Go.Op.call { callee := Go.Callee.value (Go.Operand.func 25), args := #[Go.Operand.tmp 166, Go.Operand.tmp 170], argTypes := #[52, 36] }, type := 3, pos := "law.go:144", after := #[{ on := 8, ground := Go.Ground.data }, { on := 12, ground := Go.Ground.data }, { on := 7, ground := Go.Ground.chain }, { on := 1, ground := Go.Ground.guard }], guard := some (1, true) }) (by kernel_rfl) rfl (fun K hK => ?_)
                        rw [if_pos (by kernel_rfl)]
                        go_simp
                        refine (hcR _ hX5).mono ?_
                        rintro e w6 ⟨rfl, g6⟩
                        have hX6 : Below U.heap.size U w6 := hX5.trans (g6.below.mono hX5.size)
                        clear g6
                        dsimp only
                        refine hK.out _ _ (fun hD => hX6) ?_
                        clear hK K
                        try simp only [Act.put, List.setIfInBounds_toArray, List.set_cons_zero, List.set_cons_succ]
                        refine' wpAnyD_take (i := 14) (oi := { dst := some 172, op := Go.Op.binOp Go.BinOp.eql 3 (Go.Operand.tmp 165) (Go.Operand.tmp 171) 3, type := 4, pos := "law.go:144", after := #[{ on := 7, ground := Go.Ground.data }, { on := 13, ground := Go.Ground.data }, { on := 1, ground := Go.Ground.guard }], guard := some (1, true) }) (v := .bool true) rfl (by kernel_rfl) (by kernel_rfl) (by kernel_rfl) (fun _ _ _ h => h) (by kernel_rfl) (Or.inl ⟨by rfl, ?hy56⟩) hX6 ?rest56
                        case hy56 => (intro W hSw; go_simp; try (with_reducible rfl))
                        try simp only [Act.put, List.setIfInBounds_toArray, List.set_cons_zero, List.set_cons_succ]
                        refine' wpAnyD_take (i := 15) (oi := { dst := some 173, op := Go.Op.pick (Go.Operand.tmp 159) (Go.Operand.tmp 172) (Go.Operand.const (Go.Value.bool false)), type := 4, pos := "law.go:144", after := #[{ on := 1, ground := Go.Ground.data }, { on := 14, ground := Go.Ground.data }], guard := none }) (v := .bool true) rfl (by kernel_rfl) (by kernel_rfl) (by kernel_rfl) (fun _ _ _ h => h) (by kernel_rfl) (Or.inl ⟨by rfl, ?hy57⟩) hX6 ?rest57
                        case hy57 => (intro W hSw; go_simp; try (with_reducible rfl))
                        try simp only [Act.put, List.setIfInBounds_toArray, List.set_cons_zero, List.set_cons_succ]
                        refine wpAnyD_one (i := 16) (o := { dst := some 11, op := Go.Op.assign (Go.Operand.tmp 173), type := 4, pos := "law.go:144", after := #[{ on := 15, ground := Go.Ground.data }, { on := 13, ground := Go.Ground.chain }, { on := 0, ground := Go.Ground.phase }, { on := 1, ground := Go.Ground.phase }, { on := 2, ground := Go.Ground.phase }, { on := 3, ground := Go.Ground.phase }, { on := 4, ground := Go.Ground.phase }, { on := 5, ground := Go.Ground.phase }, { on := 6, ground := Go.Ground.phase }, { on := 7, ground := Go.Ground.phase }, { on := 8, ground := Go.Ground.phase }, { on := 9, ground := Go.Ground.phase }, { on := 10, ground := Go.Ground.phase }, { on := 11, ground := Go.Ground.phase }, { on := 12, ground := Go.Ground.phase }, { on := 13, ground := Go.Ground.phase }, { on := 14, ground := Go.Ground.phase }, { on := 15, ground := Go.Ground.phase }], guard := none }) (by kernel_rfl) rfl (fun K hK => ?_)
                        rw [if_pos (by kernel_rfl)]
                        go_simp
                        refine hK.out _ _ (fun hD => hX6) ?_
                        clear hK K
                        try simp only [Act.put, List.setIfInBounds_toArray, List.set_cons_zero, List.set_cons_succ]
                        refine wpAnyD_done (by kernel_rfl) ?_ _
                        have TE : Hid (∃ tag hb rb Q V Wv D, Sc w w6 tag m nb (tot (sc.take (i + 1))) hb rb Q V Wv D (.slice (some ⟨gP, 0, none⟩) m cP) (.slice (some ⟨gR, 0, none⟩) m cR) (.slice pB nb cB)) := by
                          rw [HTS.out]
                          exact ⟨_, _, _, _, _, _, _, (S1.out.below hX6 0).mono (Nat.le_add_right N nl)⟩
                        clear hX0 hX5 hX6 HYA HXB hcP hcR
                        go_wp2_with fail
                        go_roundw
                        case rel => exact ⟨i + 1, m, nb, _, _, _, _, _, _, hlt, by go_num, rfl, rfl, rfl, ⟨by omega, by omega, TE.out⟩⟩
                        case measure => simp [RowKit.intOf]; omega
                  · have d5 : (xa == 5) = false := by simp [e5]
                    clear e5
                    by_cases e6 : xa = 6
                    · as_aux_lemma =>
                        subst e6
                        obtain ⟨v, r1, -, r3, -, -⟩ := id P1.out.r
                        obtain ⟨pr, cr, rfl⟩ := own_form r3
                        have HRC : Hid (∀ W, Below U.heap.size U W → W.cell? ⟨rbs k, 0, none⟩ = some (.slice pr A.length cr) ∧ rbs k < W.heap.size) := fun W h => by
                          have h6 := (h.block (rbs k) (tk_lt r1)).trans r1
                          rw [srt_len] at h6
                          exact ⟨(tk_store h6).1 0, tk_lt h6⟩
                        have hln : ∀ W, Below U.heap.size U W → Calls Try.prog 10 #[.pointer (some ⟨hbs k, 0, none⟩)] W fun e w' => e = .returned (.int .i64 (A.length : Nat)) ∧ w' = W := fun W h => len_any W (P1.out.p.below h)
                        have hX0 : Below U.heap.size U U.drew := (Gr.refl U).drew.below
                        clear r1 r3
                        obtain ⟨cellP, cellR, lP, lR⟩ := HCE.out
                        go_upto_region 34 with fail
                        clear q0 q1 q2 q3 q4 q5 q6 q7 q8 cellP cellR lP lR
                        refine wp_regionD (S := fun W' => Below U.heap.size U W') (D := []) hmx ?_
                        refine' wpAnyD_take (i := 0) (oi := { dst := some 176, op := Go.Op.move (Go.Operand.tmp 11), type := 4, pos := "law.go:147", after := #[], guard := none }) (v := _) rfl (by kernel_rfl) (by kernel_rfl) (by kernel_rfl) (fun _ _ _ h => h) (by kernel_rfl) (Or.inl ⟨by rfl, ?hy59⟩) hX0 ?rest59
                        case hy59 => (intro W hSw; go_simp; try (with_reducible rfl))
                        try simp only [Act.put, List.setIfInBounds_toArray, List.set_cons_zero, List.set_cons_succ]
                        refine' wpAnyD_take (i := 1) (oi := { dst := some 177, op := Go.Op.move (Go.Operand.tmp 176), type := 4, pos := "law.go:147", after := #[{ on := 0, ground := Go.Ground.data }], guard := none }) (v := .bool true) rfl (by kernel_rfl) (by kernel_rfl) (by kernel_rfl) (fun _ _ _ h => h) (by kernel_rfl) (Or.inl ⟨by rfl, ?hy60⟩) hX0 ?rest60
                        case hy60 => (intro W hSw; go_simp; try (with_reducible rfl))
                        try simp only [Act.put, List.setIfInBounds_toArray, List.set_cons_zero, List.set_cons_succ]
                        refine' wpAnyD_take (i := 2) (oi := { dst := some 178, op := Go.Op.move (Go.Operand.tmp 9), type := 29, pos := "law.go:147", after := #[{ on := 1, ground := Go.Ground.guard }], guard := some (1, true) }) (v := _) rfl (by kernel_rfl) (by kernel_rfl) (by kernel_rfl) (fun _ _ _ h => h) (by kernel_rfl) (Or.inl ⟨by rfl, ?hy61⟩) hX0 ?rest61
                        case hy61 => (intro W hSw; go_simp; try (with_reducible rfl))
                        try simp only [Act.put, List.setIfInBounds_toArray, List.set_cons_zero, List.set_cons_succ]
                        refine' wpAnyD_take (i := 4) (oi := { dst := some 180, op := Go.Op.move (Go.Operand.tmp 10), type := 52, pos := "law.go:147", after := #[{ on := 1, ground := Go.Ground.guard }], guard := some (1, true) }) (v := _) rfl (by kernel_rfl) (by kernel_rfl) (by kernel_rfl) (fun _ _ _ h => h) (by kernel_rfl) (Or.inl ⟨by rfl, ?hy62⟩) hX0 ?rest62
                        case hy62 => (intro W hSw; go_simp; try (with_reducible rfl))
                        try simp only [Act.put, List.setIfInBounds_toArray, List.set_cons_zero, List.set_cons_succ]
                        refine' wpAnyD_take (i := 5) (oi := { dst := some 181, op := Go.Op.nilCheck (Go.Operand.tmp 180), type := 0, pos := "law.go:147", after := #[{ on := 4, ground := Go.Ground.data }, { on := 1, ground := Go.Ground.guard }], guard := some (1, true) }) (v := _) rfl (by kernel_rfl) (by kernel_rfl) (by kernel_rfl) (fun _ _ _ h => h) (by kernel_rfl) (Or.inl ⟨by rfl, ?hy63⟩) hX0 ?rest63
                        case hy63 => (intro W hSw; obtain ⟨s1, s2⟩ := HRC.out W hSw; go_simp; try (with_reducible rfl))
                        try simp only [Act.put, List.setIfInBounds_toArray, List.set_cons_zero, List.set_cons_succ]
                        refine' wpAnyD_take (i := 6) (oi := { dst := some 182, op := Go.Op.fieldAddr 54 (Go.Operand.tmp 181) 0, type := 0, pos := "law.go:147", after := #[{ on := 5, ground := Go.Ground.data }, { on := 1, ground := Go.Ground.guard }], guard := some (1, true) }) (v := _) rfl (by kernel_rfl) (by kernel_rfl) (by kernel_rfl) (fun _ _ _ h => h) (by kernel_rfl) (Or.inl ⟨by rfl, ?hy64⟩) hX0 ?rest64
                        case hy64 => (intro W hSw; go_simp; try (with_reducible rfl))
                        try simp only [Act.put, List.setIfInBounds_toArray, List.set_cons_zero, List.set_cons_succ]
                        refine' wpAnyD_take (i := 7) (oi := { dst := some 183, op := Go.Op.load 22 (Go.Operand.tmp 182), type := 22, pos := "law.go:147", after := #[{ on := 6, ground := Go.Ground.data }, { on := 1, ground := Go.Ground.guard }], guard := some (1, true) }) (v := _) rfl (by kernel_rfl) (by kernel_rfl) (by kernel_rfl) (fun _ _ _ h => h) (by kernel_rfl) (Or.inl ⟨by rfl, ?hy65⟩) hX0 ?rest65
                        case hy65 => (intro W hSw; obtain ⟨s1, s2⟩ := HRC.out W hSw; go_simp; try (with_reducible rfl))
                        try simp only [Act.put, List.setIfInBounds_toArray, List.set_cons_zero, List.set_cons_succ]
                        refine' wpAnyD_take (i := 8) (oi := { dst := some 184, op := Go.Op.call { callee := Go.Callee.builtin Go.Builtin.len, args := #[Go.Operand.tmp 183], argTypes := #[22] }, type := 3, pos := "law.go:147", after := #[{ on := 7, ground := Go.Ground.data }, { on := 1, ground := Go.Ground.guard }], guard := some (1, true) }) (v := _) rfl (by kernel_rfl) (by kernel_rfl) (by kernel_rfl) (fun _ _ _ h => h) (by kernel_rfl) (Or.inl ⟨by rfl, ?hy66⟩) hX0 ?rest66
                        case hy66 => (intro W hSw; go_simp; try (with_reducible rfl))
                        try simp only [Act.put, List.setIfInBounds_toArray, List.set_cons_zero, List.set_cons_succ]
                        refine wpAnyD_one (i := 3) (o := { dst := some 179, op := Go.Op.call { callee := Go.Callee.value (Go.Operand.func 10), args := #[Go.Operand.tmp 178], argTypes := #[29] }, type := 3, pos := "law.go:147", after := #[{ on := 2, ground := Go.Ground.data }, { on := 1, ground := Go.Ground.chain }, { on := 1, ground := Go.Ground.guard }], guard := some (1, true) }) (by kernel_rfl) rfl (fun K hK => ?_)
                        rw [if_pos (by kernel_rfl)]
                        go_simp
                        refine (hln _ hX0).mono ?_
                        rintro e w5 ⟨rfl, hw5⟩
                        rw [hw5]
                        clear hw5
                        dsimp only
                        refine hK.out _ _ (fun hD => hX0) ?_
                        clear hK K
                        try simp only [Act.put, List.setIfInBounds_toArray, List.set_cons_zero, List.set_cons_succ]
                        refine' wpAnyD_take (i := 9) (oi := { dst := some 185, op := Go.Op.binOp Go.BinOp.eql 3 (Go.Operand.tmp 179) (Go.Operand.tmp 184) 3, type := 4, pos := "law.go:147", after := #[{ on := 3, ground := Go.Ground.data }, { on := 8, ground := Go.Ground.data }, { on := 1, ground := Go.Ground.guard }], guard := some (1, true) }) (v := .bool true) rfl (by kernel_rfl) (by kernel_rfl) (by kernel_rfl) (fun _ _ _ h => h) (by kernel_rfl) (Or.inl ⟨by rfl, ?hy68⟩) hX0 ?rest68
                        case hy68 => (intro W hSw; go_simp; try (with_reducible rfl))
                        try simp only [Act.put, List.setIfInBounds_toArray, List.set_cons_zero, List.set_cons_succ]
                        refine' wpAnyD_take (i := 10) (oi := { dst := some 186, op := Go.Op.pick (Go.Operand.tmp 177) (Go.Operand.tmp 185) (Go.Operand.const (Go.Value.bool false)), type := 4, pos := "law.go:147", after := #[{ on := 1, ground := Go.Ground.data }, { on := 9, ground := Go.Ground.data }], guard := none }) (v := .bool true) rfl (by kernel_rfl) (by kernel_rfl) (by kernel_rfl) (fun _ _ _ h => h) (by kernel_rfl) (Or.inl ⟨by rfl, ?hy69⟩) hX0 ?rest69
                        case hy69 => (intro W hSw; go_simp; try (with_reducible rfl))
                        try simp only [Act.put, List.setIfInBounds_toArray, List.set_cons_zero, List.set_cons_succ]
                        refine wpAnyD_one (i := 11) (o := { dst := some 11, op := Go.Op.assign (Go.Operand.tmp 186), type := 4, pos := "law.go:147", after := #[{ on := 10, ground := Go.Ground.data }, { on := 3, ground := Go.Ground.chain }, { on := 0, ground := Go.Ground.phase }, { on := 1, ground := Go.Ground.phase }, { on := 2, ground := Go.Ground.phase }, { on := 3, ground := Go.Ground.phase }, { on := 4, ground := Go.Ground.phase }, { on := 5, ground := Go.Ground.phase }, { on := 6, ground := Go.Ground.phase }, { on := 7, ground := Go.Ground.phase }, { on := 8, ground := Go.Ground.phase }, { on := 9, ground := Go.Ground.phase }, { on := 10, ground := Go.Ground.phase }], guard := none }) (by kernel_rfl) rfl (fun K hK => ?_)
                        rw [if_pos (by kernel_rfl)]
                        go_simp
                        refine hK.out _ _ (fun hD => hX0) ?_
                        clear hK K
                        try simp only [Act.put, List.setIfInBounds_toArray, List.set_cons_zero, List.set_cons_succ]
                        refine wpAnyD_done (by kernel_rfl) ?_ _
                        have TE : Hid (∃ tag hb rb Q V Wv D, Sc w U.drew tag m nb (tot (sc.take (i + 1))) hb rb Q V Wv D (.slice (some ⟨gP, 0, none⟩) m cP) (.slice (some ⟨gR, 0, none⟩) m cR) (.slice pB nb cB)) := by
                          rw [HTS.out]
                          exact ⟨_, _, _, _, _, _, _, (S1.out.below hX0 0).mono (Nat.le_add_right N nl)⟩
                        clear hX0 HRC hln
                        go_wp2_with fail
                        go_roundw
                        case rel => exact ⟨i + 1, m, nb, _, _, _, _, _, _, hlt, by go_num, rfl, rfl, rfl, ⟨by omega, by omega, TE.out⟩⟩
                        case measure => simp [RowKit.intOf]; omega
                    · have d6 : (xa == 6) = false := by simp [e6]
                      clear e6
                      by_cases e7 : xa = 7
                      · as_aux_lemma =>
                          subst e7
                          by_cases hm : m < 4
                          · have hmz4 : (m : Int) < 4 := by omega
                            have hcp := copy_any U P1.out.p HAL.out.2.1
                            obtain ⟨cellP, cellR, lP, lR⟩ := HCE.out
                            go_wp2_with fail
                            refine hcp.mono ?_
                            clear hcp q0 q1 q2 q3 q4 q5 q6 q7 q8 cellP cellR lP lR
                            rintro e w6 ⟨hn, rfl, H6⟩
                            have T6 := hid (S1.out.below H6.out.2 (4 + 2 * m))
                            have P6 : Hid (Pb w6 (fun q => tg tag1 U (4 + 2 * m) q = 4 + 2 * m) hn A) := H6.out.1.mono (fun q _ h => tg_new h)
                            obtain ⟨t6, ht6⟩ : ∃ t6, t6 = tg tag1 U (4 + 2 * m) := ⟨_, rfl⟩
                            rw [← ht6] at T6 P6
                            clear H6 ht6
                            go_wp2_with (at_builtin; refine wpApp1 EQ Try.underlying51 infoPp rfl (by decide) rfl _ _ rfl 0 (.slice (some ⟨gP, 0, none⟩) m cP) m _ rfl T6.out.ps.1 hn (by first | rfl | (go_simp; done)) (by omega) (by unfold maxLen; omega) (Nat.zero_le _) _ rfl _ ?_)
                            intro g7 cap7 w7 ho7 hg7 hn7
                            have hk7 : Kp (fun q => (Value.slice (some ⟨gP, 0, none⟩) m cP).ownBlock = some q) w6 w7 := Kp.grownBy hg7 (fun _ h => h)
                            have T7 := hid (T6.out.psApp hm P6.out ho7 hk7 (fun q hq => by rw [← own_eq hq]; exact hn7))
                            obtain ⟨t7, ht7⟩ : ∃ t7, t7 = tg t6 w6 1 := ⟨_, rfl⟩
                            rw [← ht7] at T7
                            have hcr := rcopy_any w7 (by have := (T7.out.pr k hkm).r; rw [← HAQ.out] at this; exact this) HAL.out.2.2.1
                            clear ho7 hg7 hn7 hk7 ht7 T6 P6
                            go_wp2_with fail
                            refine hcr.mono ?_
                            clear hcr
                            rintro e w8 ⟨rn, rfl, H8⟩
                            have T8 := hid (T7.out.below H8.out.2 (5 + 2 * m))
                            have R8 : Hid (Rp w8 (fun q => tg t7 w7 (5 + 2 * m) q = 5 + 2 * m) rn (srt A)) := H8.out.1.mono (fun q _ h => tg_new h)
                            obtain ⟨t8, ht8⟩ : ∃ t8, t8 = tg t7 w7 (5 + 2 * m) := ⟨_, rfl⟩
                            rw [← ht8] at T8 R8
                            clear H8 ht8 T7
                            go_wp2_with (at_builtin; refine wpApp1 EQ Try.underlying55 infoRp rfl (by decide) rfl _ _ rfl 0 (.slice (some ⟨gR, 0, none⟩) m cR) m _ rfl T8.out.rs.1 rn (by first | rfl | (go_simp; done)) (by omega) (by unfold maxLen; omega) (Nat.zero_le _) _ rfl _ ?_)
                            intro g9 cap9 w9 ho9 hg9 hn9
                            have hk9 : Kp (fun q => (Value.slice (some ⟨gR, 0, none⟩) m cR).ownBlock = some q) w8 w9 := Kp.grownBy hg9 (fun _ h => h)
                            have TE : Hid (∃ tag hb rb Q V Wv D, Sc w w9 tag (m + 1) nb (tot (sc.take (i + 1))) hb rb Q V Wv D (.slice (some ⟨g7, 0, none⟩) (m + 1) cap7) (.slice (some ⟨g9, 0, none⟩) (m + 1) cap9) (.slice pB nb cB)) := by
                              rw [HTS.out]
                              obtain ⟨t9, hb9, rb9, Q9, h9⟩ := T8.out.done R8.out P1.out.le ho9 hk9 (fun q hq => by rw [← own_eq hq]; exact hn9)
                              exact ⟨_, _, _, _, _, _, _, h9.mono (Nat.le_add_right N nl)⟩
                            clear ho9 hg9 hn9 hk9 T8 R8
                            go_wp2_with fail
                            go_roundw
                            case rel => exact ⟨i + 1, m + 1, nb, _, _, _, _, _, _, hlt, by go_num, rfl, rfl, rfl, ⟨by omega, by omega, TE.out⟩⟩
                            case measure => simp [RowKit.intOf]; omega
                          · have hmz4 : ¬ (m : Int) < 4 := by omega
                            obtain ⟨cellP, cellR, lP, lR⟩ := HCE.out
                            have TE : Hid (∃ tag hb rb Q V Wv D, Sc w U tag m nb (tot (sc.take (i + 1))) hb rb Q V Wv D (.slice (some ⟨gP, 0, none⟩) m cP) (.slice (some ⟨gR, 0, none⟩) m cR) (.slice pB nb cB)) := by
                              rw [HTS.out]
                              exact ⟨_, _, _, _, _, _, _, (S1.out.below (Below.refl _ _) 0).mono (Nat.le_add_right N nl)⟩
                            go_wp2_with fail
                            go_roundw
                            case rel => exact ⟨i + 1, m, nb, _, _, _, _, _, _, hlt, by go_num, rfl, rfl, rfl, ⟨by omega, by omega, TE.out⟩⟩
                            case measure => simp [RowKit.intOf]; omega
                      · have d7 : (xa == 7) = false := by simp [e7]
                        clear e7
                        obtain ⟨cellP, cellR, lP, lR⟩ := HCE.out
                        have TE : Hid (∃ tag hb rb Q V Wv D, Sc w U tag m nb (tot (sc.take (i + 1))) hb rb Q V Wv D (.slice (some ⟨gP, 0, none⟩) m cP) (.slice (some ⟨gR, 0, none⟩) m cR) (.slice pB nb cB)) := by
                          rw [HTS.out]
                          exact ⟨_, _, _, _, _, _, _, (S1.out.below (Below.refl _ _) 0).mono (Nat.le_add_right N nl)⟩
                        go_wp2_with fail
                        go_roundw
                        case rel => exact ⟨i + 1, m, nb, _, _, _, _, _, _, hlt, by go_num, rfl, rfl, rfl, ⟨by omega, by omega, TE.out⟩⟩
                        case measure => simp [RowKit.intOf]; omega
    · have hltz : ¬ (i : Int) < (n : Int) := by omega
      have hin : i = n := by omega
      obtain ⟨tag0, hbs, rbs, Q, V, Wv, D, hS⟩ := I.out.2.2
      have hnb : nb ≤ 1048576 := by have := I.out.2.1; omega
      have HTL := hid (Nat.le_trans (tot_le sc i) HTOT.out)
      obtain ⟨N, hN⟩ : ∃ N, N = tot (sc.take i) := ⟨_, rfl⟩
      rw [← hN] at hS HTL
      have hNN : N ≤ 1048576 := HTL.out
      obtain ⟨gP, cP', eP, -, -, -⟩ := hS.ps.pts_at (i := 0) (by omega)
      obtain ⟨gR, cR', eR, -, -, -⟩ := hS.rs.pts_at (i := 0) (by omega)
      simp only [Value.slice.injEq] at eP eR
      obtain ⟨rfl, -, rfl⟩ := eP
      obtain ⟨rfl, -, rfl⟩ := eR
      have S0 : Hid (∃ tag, Sc w wr tag m nb N hbs rbs Q V Wv D (.slice (some ⟨gP, 0, none⟩) m cP) (.slice (some ⟨gR, 0, none⟩) m cR) (.slice pB nb cB)) := ⟨_, hS⟩
      clear hS I hN hin
      go_wp2_with fail
      clear hltz
      go_loopw [16] (fun s16 wr => ∃ k : Nat, k ≤ m ∧ s16 = .int .i64 k ∧ Hid (∃ tag, Sc w wr tag m nb N hbs rbs Q V Wv D (.slice (some ⟨gP, 0, none⟩) m cP) (.slice (some ⟨gR, 0, none⟩) m cR) (.slice pB nb cB))) (fun s16 _ => m - (RowKit.intOf s16).toNat)
      case atStart => exact ⟨0, Nat.zero_le _, rfl, S0⟩
      case round =>
        clear S0
        obtain ⟨k, hk, rfl, S⟩ := hrel
        by_cases hkm : k < m
        · have hkmz : (k : Int) < (m : Int) := by omega
          have k0 : (0 : Int) ≤ (k : Int) := by omega
          obtain ⟨tag, hS⟩ := S.out
          have T0 := hid (hS.nx (Nx.same (fun _ => False) tag (Gr.refl wr).drew.below))
          obtain ⟨Ud, hUd⟩ : ∃ V, V = wr.drew := ⟨_, rfl⟩
          rw [← hUd] at T0
          have HUd := hid hUd
          obtain ⟨A, hA⟩ : ∃ A, A = Q k := ⟨_, rfl⟩
          have P1 : Hid (Pr Ud tag (4 + 2 * k) (5 + 2 * k) (hbs k) (rbs k) N A) := by rw [hA]; exact T0.out.pr k hkm
          have HAL : Hid (A.length * 40 ≤ 140737488355328 ∧ (srt A).length ≤ 5864062014806) := by
            have h1 := P1.out.le
            rw [srt_len]
            exact ⟨by omega, by omega⟩
          obtain ⟨g1, c1, e1, l1, x1, -⟩ := T0.out.ps.pts_at hkm
          obtain ⟨g2, c2, e2, l2, x2, -⟩ := T0.out.rs.pts_at hkm
          simp only [Value.slice.injEq, Option.some.injEq, Addr.mk.injEq, and_true] at e1 e2
          obtain ⟨rfl, -⟩ := e1
          obtain ⟨rfl, -⟩ := e2
          obtain ⟨v, r1, -, r3, -, -⟩ := id P1.out.r
          obtain ⟨pr, cr, rfl⟩ := own_form r3
          have HRS : Hid (Ls EC Ud (.slice pr A.length cr) (srt A)) := by
            have h := owns_ls (E := EC) r3
            rw [srt_len] at h
            exact h
          have HSC : Hid (∀ W, Below Ud.heap.size Ud W → (W.cell? ⟨gP, k, none⟩ = some (.pointer (some ⟨hbs k, 0, none⟩)) ∧ gP < W.heap.size ∧ W.cell? ⟨gR, k, none⟩ = some (.pointer (some ⟨rbs k, 0, none⟩)) ∧ gR < W.heap.size) ∧ W.cell? ⟨rbs k, 0, none⟩ = some (.slice pr A.length cr) ∧ rbs k < W.heap.size) := fun W h => by
            have h6 := (h.block (rbs k) (tk_lt r1)).trans r1
            rw [srt_len] at h6
            exact ⟨⟨(h.cell (p := ⟨gP, k, none⟩) l1).trans x1, Nat.lt_of_lt_of_le l1 h.size, (h.cell (p := ⟨gR, k, none⟩) l2).trans x2, Nat.lt_of_lt_of_le l2 h.size⟩, (tk_store h6).1 0, tk_lt h6⟩
          have hX0 : Below Ud.heap.size Ud Ud := Below.refl _ _
          have hall := all_any Ud P1.out.p HAL.out.1
          clear S hS r1 r3 x1 x2 l1 l2 hA hUd
          obtain ⟨⟨s1, s2, s3, s4⟩, s5, s6⟩ := HSC.out Ud hX0
          go_upto_region 44 with fail
          clear s1 s2 s3 s4 s5 s6
          refine wp_regionD (S := fun W' => Below Ud.heap.size Ud W') (D := []) hmx ?_
          rw [← HUd.out]
          refine' wpAnyD_take (i := 0) (oi := { dst := some 210, op := Go.Op.move (Go.Operand.tmp 3), type := 51, pos := "law.go:159", after := #[], guard := none }) (v := _) rfl (by kernel_rfl) (by kernel_rfl) (by kernel_rfl) (fun _ _ _ h => h) (by kernel_rfl) (Or.inl ⟨by rfl, ?hy71⟩) hX0 ?rest71
          case hy71 => (intro W hSw; go_simp; try (with_reducible rfl))
          try simp only [Act.put, List.setIfInBounds_toArray, List.set_cons_zero, List.set_cons_succ]
          refine' wpAnyD_take (i := 1) (oi := { dst := some 211, op := Go.Op.move (Go.Operand.tmp 16), type := 3, pos := "law.go:159", after := #[], guard := none }) (v := _) rfl (by kernel_rfl) (by kernel_rfl) (by kernel_rfl) (fun _ _ _ h => h) (by kernel_rfl) (Or.inl ⟨by rfl, ?hy72⟩) hX0 ?rest72
          case hy72 => (intro W hSw; go_simp; try (with_reducible rfl))
          try simp only [Act.put, List.setIfInBounds_toArray, List.set_cons_zero, List.set_cons_succ]
          refine' wpAnyD_take (i := 2) (oi := { dst := some 212, op := Go.Op.indexAddr 51 (Go.Operand.tmp 210) (Go.Operand.tmp 211), type := 0, pos := "law.go:159", after := #[{ on := 0, ground := Go.Ground.data }, { on := 1, ground := Go.Ground.data }], guard := none }) (v := _) rfl (by kernel_rfl) (by kernel_rfl) (by kernel_rfl) (fun _ _ _ h => h) (by kernel_rfl) (Or.inl ⟨by rfl, ?hy73⟩) hX0 ?rest73
          case hy73 => (intro W hSw; obtain ⟨⟨s1, s2, s3, s4⟩, s5, s6⟩ := HSC.out W hSw; go_simp; try (with_reducible rfl))
          try simp only [Act.put, List.setIfInBounds_toArray, List.set_cons_zero, List.set_cons_succ]
          refine' wpAnyD_take (i := 3) (oi := { dst := some 213, op := Go.Op.load 29 (Go.Operand.tmp 212), type := 29, pos := "law.go:159", after := #[{ on := 2, ground := Go.Ground.data }], guard := none }) (v := _) rfl (by kernel_rfl) (by kernel_rfl) (by kernel_rfl) (fun _ _ _ h => h) (by kernel_rfl) (Or.inl ⟨by rfl, ?hy74⟩) hX0 ?rest74
          case hy74 => (intro W hSw; obtain ⟨⟨s1, s2, s3, s4⟩, s5, s6⟩ := HSC.out W hSw; go_simp; try (with_reducible rfl))
          try simp only [Act.put, List.setIfInBounds_toArray, List.set_cons_zero, List.set_cons_succ]
          refine' wpAnyD_take (i := 4) (oi := { dst := some 214, op := Go.Op.binOp Go.BinOp.eql 29 (Go.Operand.tmp 213) (Go.Operand.const (Go.Value.pointer none)) 29, type := 4, pos := "law.go:159", after := #[{ on := 3, ground := Go.Ground.data }], guard := none }) (v := .bool false) rfl (by kernel_rfl) (by kernel_rfl) (by kernel_rfl) (fun _ _ _ h => h) (by kernel_rfl) (Or.inl ⟨by rfl, ?hy75⟩) hX0 ?rest75
          case hy75 => (intro W hSw; go_simp; try (with_reducible rfl))
          try simp only [Act.put, List.setIfInBounds_toArray, List.set_cons_zero, List.set_cons_succ]
          refine' wpAnyD_take (i := 5) (oi := { dst := some 215, op := Go.Op.move (Go.Operand.tmp 214), type := 4, pos := "law.go:159", after := #[{ on := 4, ground := Go.Ground.data }], guard := none }) (v := .bool false) rfl (by kernel_rfl) (by kernel_rfl) (by kernel_rfl) (fun _ _ _ h => h) (by kernel_rfl) (Or.inl ⟨by rfl, ?hy76⟩) hX0 ?rest76
          case hy76 => (intro W hSw; go_simp; try (with_reducible rfl))
          try simp only [Act.put, List.setIfInBounds_toArray, List.set_cons_zero, List.set_cons_succ]
          refine' wpAnyD_take (i := 6) (oi := { dst := some 216, op := Go.Op.move (Go.Operand.tmp 3), type := 51, pos := "law.go:159", after := #[{ on := 5, ground := Go.Ground.guard }], guard := some (5, false) }) (v := _) rfl (by kernel_rfl) (by kernel_rfl) (by kernel_rfl) (fun _ _ _ h => h) (by kernel_rfl) (Or.inl ⟨by rfl, ?hy77⟩) hX0 ?rest77
          case hy77 => (intro W hSw; go_simp; try (with_reducible rfl))
          try simp only [Act.put, List.setIfInBounds_toArray, List.set_cons_zero, List.set_cons_succ]
          refine' wpAnyD_take (i := 7) (oi := { dst := some 217, op := Go.Op.move (Go.Operand.tmp 16), type := 3, pos := "law.go:159", after := #[{ on := 5, ground := Go.Ground.guard }], guard := some (5, false) }) (v := _) rfl (by kernel_rfl) (by kernel_rfl) (by kernel_rfl) (fun _ _ _ h => h) (by kernel_rfl) (Or.inl ⟨by rfl, ?hy78⟩) hX0 ?rest78
          case hy78 => (intro W hSw; go_simp; try (with_reducible rfl))
          try simp only [Act.put, List.setIfInBounds_toArray, List.set_cons_zero, List.set_cons_succ]
          refine' wpAnyD_take (i := 8) (oi := { dst := some 218, op := Go.Op.indexAddr 51 (Go.Operand.tmp 216) (Go.Operand.tmp 217), type := 0, pos := "law.go:159", after := #[{ on := 6, ground := Go.Ground.data }, { on := 7, ground := Go.Ground.data }, { on := 5, ground := Go.Ground.guard }], guard := some (5, false) }) (v := _) rfl (by kernel_rfl) (by kernel_rfl) (by kernel_rfl) (fun _ _ _ h => h) (by kernel_rfl) (Or.inl ⟨by rfl, ?hy79⟩) hX0 ?rest79
          case hy79 => (intro W hSw; obtain ⟨⟨s1, s2, s3, s4⟩, s5, s6⟩ := HSC.out W hSw; go_simp; try (with_reducible rfl))
          try simp only [Act.put, List.setIfInBounds_toArray, List.set_cons_zero, List.set_cons_succ]
          refine' wpAnyD_take (i := 9) (oi := { dst := some 219, op := Go.Op.load 29 (Go.Operand.tmp 218), type := 29, pos := "law.go:159", after := #[{ on := 8, ground := Go.Ground.data }, { on := 5, ground := Go.Ground.guard }], guard := some (5, false) }) (v := _) rfl (by kernel_rfl) (by kernel_rfl) (by kernel_rfl) (fun _ _ _ h => h) (by kernel_rfl) (Or.inl ⟨by rfl, ?hy80⟩) hX0 ?rest80
          case hy80 => (intro W hSw; obtain ⟨⟨s1, s2, s3, s4⟩, s5, s6⟩ := HSC.out W hSw; go_simp; try (with_reducible rfl))
          try simp only [Act.put, List.setIfInBounds_toArray, List.set_cons_zero, List.set_cons_succ]
          refine' wpAnyD_take (i := 11) (oi := { dst := some 221, op := Go.Op.move (Go.Operand.tmp 4), type := 55, pos := "law.go:159", after := #[{ on := 5, ground := Go.Ground.guard }], guard := some (5, false) }) (v := _) rfl (by kernel_rfl) (by kernel_rfl) (by kernel_rfl) (fun _ _ _ h => h) (by kernel_rfl) (Or.inl ⟨by rfl, ?hy81⟩) hX0 ?rest81
          case hy81 => (intro W hSw; go_simp; try (with_reducible rfl))
          try simp only [Act.put, List.setIfInBounds_toArray, List.set_cons_zero, List.set_cons_succ]
          refine' wpAnyD_take (i := 12) (oi := { dst := some 222, op := Go.Op.move (Go.Operand.tmp 16), type := 3, pos := "law.go:159", after := #[{ on := 5, ground := Go.Ground.guard }], guard := some (5, false) }) (v := _) rfl (by kernel_rfl) (by kernel_rfl) (by kernel_rfl) (fun _ _ _ h => h) (by kernel_rfl) (Or.inl ⟨by rfl, ?hy82⟩) hX0 ?rest82
          case hy82 => (intro W hSw; go_simp; try (with_reducible rfl))
          try simp only [Act.put, List.setIfInBounds_toArray, List.set_cons_zero, List.set_cons_succ]
          refine' wpAnyD_take (i := 13) (oi := { dst := some 223, op := Go.Op.indexAddr 55 (Go.Operand.tmp 221) (Go.Operand.tmp 222), type := 0, pos := "law.go:159", after := #[{ on := 11, ground := Go.Ground.data }, { on := 12, ground := Go.Ground.data }, { on := 5, ground := Go.Ground.guard }], guard := some (5, false) }) (v := _) rfl (by kernel_rfl) (by kernel_rfl) (by kernel_rfl) (fun _ _ _ h => h) (by kernel_rfl) (Or.inl ⟨by rfl, ?hy83⟩) hX0 ?rest83
          case hy83 => (intro W hSw; obtain ⟨⟨s1, s2, s3, s4⟩, s5, s6⟩ := HSC.out W hSw; go_simp; try (with_reducible rfl))
          try simp only [Act.put, List.setIfInBounds_toArray, List.set_cons_zero, List.set_cons_succ]
          refine' wpAnyD_take (i := 14) (oi := { dst := some 224, op := Go.Op.load 52 (Go.Operand.tmp 223), type := 52, pos := "law.go:159", after := #[{ on := 13, ground := Go.Ground.data }, { on := 5, ground := Go.Ground.guard }], guard := some (5, false) }) (v := _) rfl (by kernel_rfl) (by kernel_rfl) (by kernel_rfl) (fun _ _ _ h => h) (by kernel_rfl) (Or.inl ⟨by rfl, ?hy84⟩) hX0 ?rest84
          case hy84 => (intro W hSw; obtain ⟨⟨s1, s2, s3, s4⟩, s5, s6⟩ := HSC.out W hSw; go_simp; try (with_reducible rfl))
          try simp only [Act.put, List.setIfInBounds_toArray, List.set_cons_zero, List.set_cons_succ]
          refine' wpAnyD_take (i := 15) (oi := { dst := some 225, op := Go.Op.nilCheck (Go.Operand.tmp 224), type := 0, pos := "law.go:159", after := #[{ on := 14, ground := Go.Ground.data }, { on := 5, ground := Go.Ground.guard }], guard := some (5, false) }) (v := _) rfl (by kernel_rfl) (by kernel_rfl) (by kernel_rfl) (fun _ _ _ h => h) (by kernel_rfl) (Or.inl ⟨by rfl, ?hy85⟩) hX0 ?rest85
          case hy85 => (intro W hSw; obtain ⟨⟨s1, s2, s3, s4⟩, s5, s6⟩ := HSC.out W hSw; go_simp; try (with_reducible rfl))
          try simp only [Act.put, List.setIfInBounds_toArray, List.set_cons_zero, List.set_cons_succ]
          refine' wpAnyD_take (i := 16) (oi := { dst := some 226, op := Go.Op.fieldAddr 54 (Go.Operand.tmp 225) 0, type := 0, pos := "law.go:159", after := #[{ on := 15, ground := Go.Ground.data }, { on := 5, ground := Go.Ground.guard }], guard := some (5, false) }) (v := _) rfl (by kernel_rfl) (by kernel_rfl) (by kernel_rfl) (fun _ _ _ h => h) (by kernel_rfl) (Or.inl ⟨by rfl, ?hy86⟩) hX0 ?rest86
          case hy86 => (intro W hSw; go_simp; try (with_reducible rfl))
          try simp only [Act.put, List.setIfInBounds_toArray, List.set_cons_zero, List.set_cons_succ]
          refine' wpAnyD_take (i := 17) (oi := { dst := some 227, op := Go.Op.load 22 (Go.Operand.tmp 226), type := 22, pos := "law.go:159", after := #[{ on := 16, ground := Go.Ground.data }, { on := 5, ground := Go.Ground.guard }], guard := some (5, false) }) (v := _) rfl (by kernel_rfl) (by kernel_rfl) (by kernel_rfl) (fun _ _ _ h => h) (by kernel_rfl) (Or.inl ⟨by rfl, ?hy87⟩) hX0 ?rest87
          case hy87 => (intro W hSw; obtain ⟨⟨s1, s2, s3, s4⟩, s5, s6⟩ := HSC.out W hSw; go_simp; try (with_reducible rfl))
          try simp only [Act.put, List.setIfInBounds_toArray, List.set_cons_zero, List.set_cons_succ]
          refine wpAnyD_one (i := 10) (o := { dst := some 220, op := Go.Op.call { callee := Go.Callee.value (Go.Operand.func 9), args := #[Go.Operand.tmp 219], argTypes := #[29] }, type := 22, pos := "law.go:159", after := #[{ on := 9, ground := Go.Ground.data }, { on := 5, ground := Go.Ground.chain }, { on := 5, ground := Go.Ground.guard }], guard := some (5, false) }) (by kernel_rfl) rfl (fun K hK => ?_)
          rw [if_pos (by kernel_rfl)]
          go_simp
          refine hall.mono ?_
          rintro e w5 ⟨p5, c5, rfl, H5⟩
          have hX5 : Below Ud.heap.size Ud w5 := H5.out.2
          have L5 : Hid (Ls EC w5 (.slice p5 A.length c5) (srt A)) := Tld.ls H5.out
          have hsm := same_eq w5 L5.out (HRS.out.below hX5) HAL.out.2
          clear H5 hall
          dsimp only
          refine hK.out _ _ (fun hD => hX5) ?_
          clear hK K
          try simp only [Act.put, List.setIfInBounds_toArray, List.set_cons_zero, List.set_cons_succ]
          refine wpAnyD_one (i := 18) (o := { dst := some 228, op := Go.Op.call { callee := Go.Callee.value (Go.Operand.func 11), args := #[Go.Operand.tmp 220, Go.Operand.tmp 227], argTypes := #[22, 22] }, type := 4, pos := "law.go:159", after := #[{ on := 10, ground := Go.Ground.data }, { on := 17, ground := Go.Ground.data }, { on := 10, ground := Go.Ground.chain }, { on := 5, ground := Go.Ground.guard }], guard := some (5, false) }) (by kernel_rfl) rfl (fun K hK => ?_)
          rw [if_pos (by kernel_rfl)]
          go_simp
          refine hsm.mono ?_
          rintro e w6 ⟨rfl, g6⟩
          have hX6 : Below Ud.heap.size Ud w6 := hX5.trans (g6.below.mono hX5.size)
          have hln := len_any w6 (P1.out.p.below hX6)
          clear hsm g6
          dsimp only
          refine hK.out _ _ (fun hD => hX6) ?_
          clear hK K
          try simp only [Act.put, List.setIfInBounds_toArray, List.set_cons_zero, List.set_cons_succ]
          refine' wpAnyD_take (i := 19) (oi := { dst := some 229, op := Go.Op.unOp Go.UnOp.not 4 (Go.Operand.tmp 228), type := 4, pos := "law.go:159", after := #[{ on := 18, ground := Go.Ground.data }, { on := 5, ground := Go.Ground.guard }], guard := some (5, false) }) (v := .bool false) rfl (by kernel_rfl) (by kernel_rfl) (by kernel_rfl) (fun _ _ _ h => h) (by kernel_rfl) (Or.inl ⟨by rfl, ?hy90⟩) hX6 ?rest90
          case hy90 => (intro W hSw; go_simp; try (with_reducible rfl))
          try simp only [Act.put, List.setIfInBounds_toArray, List.set_cons_zero, List.set_cons_succ]
          refine' wpAnyD_take (i := 20) (oi := { dst := some 230, op := Go.Op.pick (Go.Operand.tmp 215) (Go.Operand.const (Go.Value.bool true)) (Go.Operand.tmp 229), type := 4, pos := "law.go:159", after := #[{ on := 5, ground := Go.Ground.data }, { on := 19, ground := Go.Ground.data }], guard := none }) (v := .bool false) rfl (by kernel_rfl) (by kernel_rfl) (by kernel_rfl) (fun _ _ _ h => h) (by kernel_rfl) (Or.inl ⟨by rfl, ?hy91⟩) hX6 ?rest91
          case hy91 => (intro W hSw; go_simp; try (with_reducible rfl))
          try simp only [Act.put, List.setIfInBounds_toArray, List.set_cons_zero, List.set_cons_succ]
          refine' wpAnyD_take (i := 21) (oi := { dst := some 231, op := Go.Op.move (Go.Operand.tmp 230), type := 4, pos := "law.go:159", after := #[{ on := 20, ground := Go.Ground.data }, { on := 18, ground := Go.Ground.chain }], guard := none }) (v := .bool false) rfl (by kernel_rfl) (by kernel_rfl) (by kernel_rfl) (fun _ _ _ h => h) (by kernel_rfl) (Or.inl ⟨by rfl, ?hy92⟩) hX6 ?rest92
          case hy92 => (intro W hSw; go_simp; try (with_reducible rfl))
          try simp only [Act.put, List.setIfInBounds_toArray, List.set_cons_zero, List.set_cons_succ]
          refine' wpAnyD_take (i := 22) (oi := { dst := some 232, op := Go.Op.move (Go.Operand.tmp 3), type := 51, pos := "law.go:159", after := #[{ on := 21, ground := Go.Ground.guard }], guard := some (21, false) }) (v := _) rfl (by kernel_rfl) (by kernel_rfl) (by kernel_rfl) (fun _ _ _ h => h) (by kernel_rfl) (Or.inl ⟨by rfl, ?hy93⟩) hX6 ?rest93
          case hy93 => (intro W hSw; go_simp; try (with_reducible rfl))
          try simp only [Act.put, List.setIfInBounds_toArray, List.set_cons_zero, List.set_cons_succ]
          refine' wpAnyD_take (i := 23) (oi := { dst := some 233, op := Go.Op.move (Go.Operand.tmp 16), type := 3, pos := "law.go:159", after := #[{ on := 21, ground := Go.Ground.guard }], guard := some (21, false) }) (v := _) rfl (by kernel_rfl) (by kernel_rfl) (by kernel_rfl) (fun _ _ _ h => h) (by kernel_rfl) (Or.inl ⟨by rfl, ?hy94⟩) hX6 ?rest94
          case hy94 => (intro W hSw; go_simp; try (with_reducible rfl))
          try simp only [Act.put, List.setIfInBounds_toArray, List.set_cons_zero, List.set_cons_succ]
          refine' wpAnyD_take (i := 24) (oi := { dst := some 234, op := Go.Op.indexAddr 51 (Go.Operand.tmp 232) (Go.Operand.tmp 233), type := 0, pos := "law.go:159", after := #[{ on := 22, ground := Go.Ground.data }, { on := 23, ground := Go.Ground.data }, { on := 21, ground := Go.Ground.guard }], guard := some (21, false) }) (v := _) rfl (by kernel_rfl) (by kernel_rfl) (by kernel_rfl) (fun _ _ _ h => h) (by kernel_rfl) (Or.inl ⟨by rfl, ?hy95⟩) hX6 ?rest95
          case hy95 => (intro W hSw; obtain ⟨⟨s1, s2, s3, s4⟩, s5, s6⟩ := HSC.out W hSw; go_simp; try (with_reducible rfl))
          try simp only [Act.put, List.setIfInBounds_toArray, List.set_cons_zero, List.set_cons_succ]
          refine' wpAnyD_take (i := 25) (oi := { dst := some 235, op := Go.Op.load 29 (Go.Operand.tmp 234), type := 29, pos := "law.go:159", after := #[{ on := 24, ground := Go.Ground.data }, { on := 21, ground := Go.Ground.guard }], guard := some (21, false) }) (v := _) rfl (by kernel_rfl) (by kernel_rfl) (by kernel_rfl) (fun _ _ _ h => h) (by kernel_rfl) (Or.inl ⟨by rfl, ?hy96⟩) hX6 ?rest96
          case hy96 => (intro W hSw; obtain ⟨⟨s1, s2, s3, s4⟩, s5, s6⟩ := HSC.out W hSw; go_simp; try (with_reducible rfl))
          try simp only [Act.put, List.setIfInBounds_toArray, List.set_cons_zero, List.set_cons_succ]
          refine' wpAnyD_take (i := 27) (oi := { dst := some 237, op := Go.Op.move (Go.Operand.tmp 4), type := 55, pos := "law.go:159", after := #[{ on := 21, ground := Go.Ground.guard }], guard := some (21, false) }) (v := _) rfl (by kernel_rfl) (by kernel_rfl) (by kernel_rfl) (fun _ _ _ h => h) (by kernel_rfl) (Or.inl ⟨by rfl, ?hy97⟩) hX6 ?rest97
          case hy97 => (intro W hSw; go_simp; try (with_reducible rfl))
          try simp only [Act.put, List.setIfInBounds_toArray, List.set_cons_zero, List.set_cons_succ]
          refine' wpAnyD_take (i := 28) (oi := { dst := some 238, op := Go.Op.move (Go.Operand.tmp 16), type := 3, pos := "law.go:159", after := #[{ on := 21, ground := Go.Ground.guard }], guard := some (21, false) }) (v := _) rfl (by kernel_rfl) (by kernel_rfl) (by kernel_rfl) (fun _ _ _ h => h) (by kernel_rfl) (Or.inl ⟨by rfl, ?hy98⟩) hX6 ?rest98
          case hy98 => (intro W hSw; go_simp; try (with_reducible rfl))
          try simp only [Act.put, List.setIfInBounds_toArray, List.set_cons_zero, List.set_cons_succ]
          refine' wpAnyD_take (i := 29) (oi := { dst := some 239, op := Go.Op.indexAddr 55 (Go.Operand.tmp 237) (Go.Operand.tmp 238), type := 0, pos := "law.go:159", after := #[{ on := 27, ground := Go.Ground.data }, { on := 28, ground := Go.Ground.data }, { on := 21, ground := Go.Ground.guard }], guard := some (21, false) }) (v := _) rfl (by kernel_rfl) (by kernel_rfl) (by kernel_rfl) (fun _ _ _ h => h) (by kernel_rfl) (Or.inl ⟨by rfl, ?hy99⟩) hX6 ?rest99
          case hy99 => (intro W hSw; obtain ⟨⟨s1, s2, s3, s4⟩, s5, s6⟩ := HSC.out W hSw; go_simp; try (with_reducible rfl))
          try simp only [Act.put, List.setIfInBounds_toArray, List.set_cons_zero, List.set_cons_succ]
          refine' wpAnyD_take (i := 30) (oi := { dst := some 240, op := Go.Op.load 52 (Go.Operand.tmp 239), type := 52, pos := "law.go:159", after := #[{ on := 29, ground := Go.Ground.data }, { on := 21, ground := Go.Ground.guard }], guard := some (21, false) }) (v := _) rfl (by kernel_rfl) (by kernel_rfl) (by kernel_rfl) (fun _ _ _ h => h) (by kernel_rfl) (Or.inl ⟨by rfl, ?hy100⟩) hX6 ?rest100
          case hy100 => (intro W hSw; obtain ⟨⟨s1, s2, s3, s4⟩, s5, s6⟩ := HSC.out W hSw; go_simp; try (with_reducible rfl))
          try simp only [Act.put, List.setIfInBounds_toArray, List.set_cons_zero, List.set_cons_succ]
          refine' wpAnyD_take (i := 31) (oi := { dst := some 241, op := Go.Op.nilCheck (Go.Operand.tmp 240), type := 0, pos := "law.go:159", after := #[{ on := 30, ground := Go.Ground.data }, { on := 21, ground := Go.Ground.guard }], guard := some (21, false) }) (v := _) rfl (by kernel_rfl) (by kernel_rfl) (by kernel_rfl) (fun _ _ _ h => h) (by kernel_rfl) (Or.inl ⟨by rfl, ?hy101⟩) hX6 ?rest101
          case hy101 => (intro W hSw; obtain ⟨⟨s1, s2, s3, s4⟩, s5, s6⟩ := HSC.out W hSw; go_simp; try (with_reducible rfl))
          try simp only [Act.put, List.setIfInBounds_toArray, List.set_cons_zero, List.set_cons_succ]
          refine' wpAnyD_take (i := 32) (oi := { dst := some 242, op := Go.Op.fieldAddr 54 (Go.Operand.tmp 241) 0, type := 0, pos := "law.go:159", after := #[{ on := 31, ground := Go.Ground.data }, { on := 21, ground := Go.Ground.guard }], guard := some (21, false) }) (v := _) rfl (by kernel_rfl) (by kernel_rfl) (by kernel_rfl) (fun _ _ _ h => h) (by kernel_rfl) (Or.inl ⟨by rfl, ?hy102⟩) hX6 ?rest102
          case hy102 => (intro W hSw; go_simp; try (with_reducible rfl))
          try simp only [Act.put, List.setIfInBounds_toArray, List.set_cons_zero, List.set_cons_succ]
          refine' wpAnyD_take (i := 33) (oi := { dst := some 243, op := Go.Op.load 22 (Go.Operand.tmp 242), type := 22, pos := "law.go:159", after := #[{ on := 32, ground := Go.Ground.data }, { on := 21, ground := Go.Ground.guard }], guard := some (21, false) }) (v := _) rfl (by kernel_rfl) (by kernel_rfl) (by kernel_rfl) (fun _ _ _ h => h) (by kernel_rfl) (Or.inl ⟨by rfl, ?hy103⟩) hX6 ?rest103
          case hy103 => (intro W hSw; obtain ⟨⟨s1, s2, s3, s4⟩, s5, s6⟩ := HSC.out W hSw; go_simp; try (with_reducible rfl))
          try simp only [Act.put, List.setIfInBounds_toArray, List.set_cons_zero, List.set_cons_succ]
          refine' wpAnyD_take (i := 34) (oi := { dst := some 244, op := Go.Op.call { callee := Go.Callee.builtin Go.Builtin.len, args := #[Go.Operand.tmp 243], argTypes := #[22] }, type := 3, pos := "law.go:159", after := #[{ on := 33, ground := Go.Ground.data }, { on := 21, ground := Go.Ground.guard }], guard := some (21, false) }) (v := _) rfl (by kernel_rfl) (by kernel_rfl) (by kernel_rfl) (fun _ _ _ h => h) (by kernel_rfl) (Or.inl ⟨by rfl, ?hy104⟩) hX6 ?rest104
          case hy104 => (intro W hSw; go_simp; try (with_reducible rfl))
          try simp only [Act.put, List.setIfInBounds_toArray, List.set_cons_zero, List.set_cons_succ]
          refine wpAnyD_one (i := 26) (o := { dst := some 236, op := Go.Op.call { callee := Go.Callee.value (Go.Operand.func 10), args := #[Go.Operand.tmp 235], argTypes := #[29] }, type := 3, pos := "law.go:159", after := #[{ on := 25, ground := Go.Ground.data }, { on := 21, ground := Go.Ground.chain }, { on := 21, ground := Go.Ground.guard }], guard := some (21, false) }) (by kernel_rfl) rfl (fun K hK => ?_)
          rw [if_pos (by kernel_rfl)]
          go_simp
          refine hln.mono ?_
          rintro e w7 ⟨rfl, hw7⟩
          rw [hw7]
          clear hw7 hln
          dsimp only
          refine hK.out _ _ (fun hD => hX6) ?_
          clear hK K
          try simp only [Act.put, List.setIfInBounds_toArray, List.set_cons_zero, List.set_cons_succ]
          refine' wpAnyD_take (i := 35) (oi := { dst := some 245, op := Go.Op.binOp Go.BinOp.neq 3 (Go.Operand.tmp 236) (Go.Operand.tmp 244) 3, type := 4, pos := "law.go:159", after := #[{ on := 26, ground := Go.Ground.data }, { on := 34, ground := Go.Ground.data }, { on := 21, ground := Go.Ground.guard }], guard := some (21, false) }) (v := .bool false) rfl (by kernel_rfl) (by kernel_rfl) (by kernel_rfl) (fun _ _ _ h => h) (by kernel_rfl) (Or.inl ⟨by rfl, ?hy106⟩) hX6 ?rest106
          case hy106 => (intro W hSw; go_simp; try (with_reducible rfl))
          try simp only [Act.put, List.setIfInBounds_toArray, List.set_cons_zero, List.set_cons_succ]
          refine' wpAnyD_take (i := 36) (oi := { dst := some 246, op := Go.Op.pick (Go.Operand.tmp 231) (Go.Operand.const (Go.Value.bool true)) (Go.Operand.tmp 245), type := 4, pos := "law.go:159", after := #[{ on := 21, ground := Go.Ground.data }, { on := 35, ground := Go.Ground.data }], guard := none }) (v := .bool false) rfl (by kernel_rfl) (by kernel_rfl) (by kernel_rfl) (fun _ _ _ h => h) (by kernel_rfl) (Or.inl ⟨by rfl, ?hy107⟩) hX6 ?rest107
          case hy107 => (intro W hSw; go_simp; try (with_reducible rfl))
          try simp only [Act.put, List.setIfInBounds_toArray, List.set_cons_zero, List.set_cons_succ]
          refine wpAnyD_done (by kernel_rfl) ?_ _
          have TE : Hid (∃ tag, Sc w w6 tag m nb N hbs rbs Q V Wv D (.slice (some ⟨gP, 0, none⟩) m cP) (.slice (some ⟨gR, 0, none⟩) m cR) (.slice pB nb cB)) := ⟨_, T0.out.below hX6 0⟩
          clear hX0 hX5 hX6 HSC HRS T0 P1 HAL
          go_wp2_with fail
          go_roundw
          case rel => exact ⟨k + 1, hkm, by go_num, TE.out⟩
          case measure => simp [RowKit.intOf]; omega
        · have hkmz : ¬ (k : Int) < (m : Int) := by omega
          obtain ⟨tag, hS⟩ := S.out
          obtain ⟨pb', bb, cb, eB, hbook, hB⟩ := hS.book hnb
          simp only [Value.slice.injEq] at eB
          obtain ⟨rfl, -, rfl⟩ := eB
          have hst := stay_any w.heap.size nb bb 0 cB pB V Wv D wr hbook hB hS.bel.size
          have HBW := hid hS.bel
          clear S hS hbook hB
          go_wp2_with fail
          refine hst.mono ?_
          rintro e w9 ⟨rfl, hB9⟩
          have HB9 := hid (HBW.out.trans hB9)
          clear hst hB9
          go_wp2
          go_ret
          exact ⟨rfl, HB9.out⟩
end Go.Proofs.Ytghpekkncfckaaa.Ca
