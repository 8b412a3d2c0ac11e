import Derived.Test.YtkopmkmfigenlaaDOw5
namespace Go.Proofs.Ytkopmkmfigenlaa.Df
open Go.RowKit Go.Sort Wi
attribute [local go_sem ↓] Go.wp_at_zero Go.wp_at_succ

set_option maxRecDepth 100000 in
set_option maxHeartbeats 8000000 in
theorem draftOwn_any {nv ev nv2 ev2 : Value} {a a2 : Int} {xs xs2 : List NV} {es es2 : List Edg} (hT : GphT (gof a xs es)) (hT2 : GphT (gof a2 xs2 es2)) (w : World) (hG : GR w.heap.size w nv ev xs es) (hG2 : GR w.heap.size w nv2 ev2 xs2 es2) : Calls Try.prog 5 #[.agg (gvc a nv ev), .agg (gvc a2 nv2 ev2)] w fun r w' => r = .returned (.bool true) ∧ Below w.heap.size w w' := by
  have hmx : Try.prog.follows .mixedOrders = true := by kernel_rfl
  obtain ⟨pn, cn, rfl⟩ := hG.nodes.form
  obtain ⟨pe, ce, rfl⟩ := hG.edges.form
  obtain ⟨pn2, cn2, rfl⟩ := hG2.nodes.form
  obtain ⟨pe2, ce2, rfl⟩ := hG2.edges.form
  have HT := hid (And.intro hT hT2)
  generalize xs.length = nl at *
  generalize es.length = el at *
  generalize xs2.length = nl2 at *
  generalize es2.length = el2 at *
  obtain ⟨W0, hW0⟩ : ∃ W, W = (w.alloc (.cells (gvc a (.slice pn nl cn) (.slice pe el ce)) 25)).alloc (.cells (gvc a2 (.slice pn2 nl2 cn2) (.slice pe2 el2 ce2)) 25) := ⟨_, rfl⟩
  have G0 : Hid (Below w.heap.size w W0 ∧ W0.heap[w.heap.size]? = some (.cells (gvc a (.slice pn nl cn) (.slice pe el ce)) 25 (0, 0)) ∧ W0.heap[w.heap.size + 1]? = some (.cells (gvc a2 (.slice pn2 nl2 cn2) (.slice pe2 el2 ce2)) 25 (0, 0))) := by
    rw [hW0]
    exact ⟨(((Gr.refl w).alloc _).alloc _).below, new1 w _ _, new2 w _ _⟩
  have HG := hid (And.intro (hG.later (Nat.le_refl _) G0.out.1) (hG2.later (Nat.le_refl _) G0.out.1))
  have HW : Hid ((w.alloc (.cells #[.int .i64 a, .slice pn nl cn, .slice pe el ce] 25)).alloc (.cells #[.int .i64 a2, .slice pn2 nl2 cn2, .slice pe2 el2 ce2] 25) = W0) := hW0.symm
  have c1 := (tk_store G0.out.2.1).1
  have l1 := tk_lt G0.out.2.1
  clear hG hG2 hT hT2 hW0
  go_enter Try.func5, Try.ntmps5
  go_upto_region 1 with fail
  rw [HW.out]
  clear HW
  go_wp2_with fail
  refine (put_any HT.out.1 _ HG.out.1).mono ?_
  rintro r w1 ⟨b1, d, rfl, hd⟩
  obtain ⟨pd, md, cd, rfl⟩ : ∃ p m c, d = .slice p m c := by
    rcases hd with ⟨_, hd⟩ | ⟨_, rfl⟩
    · exact owns_form hd
    · exact ⟨_, _, _, rfl⟩
  have n2 := (b1.block _ (tk_lt G0.out.2.2)).trans G0.out.2.2
  have c2 := (tk_store n2).1
  have l2 := tk_lt n2
  clear c1 l1
  go_wp2_with fail
  refine (put_any HT.out.2 _ (HG.out.2.later (Nat.le_refl _) b1)).mono ?_
  rintro r w2 ⟨b2, d2, rfl, hd2⟩
  obtain ⟨pd2, md2, cd2, rfl⟩ : ∃ p m c, d2 = .slice p m c := by
    rcases hd2 with ⟨_, hd2⟩ | ⟨_, rfl⟩
    · exact owns_form hd2
    · exact ⟨_, _, _, rfl⟩
  clear c2 l2 n2
  go_wp2_with fail
  go_at_call 9
  refine (known_any _).mono ?_
  rintro r w3 ⟨rfl, b3⟩
  have b12 := b1.trans (b2.mono b1.size)
  have b13 := b12.trans (b3.mono b12.size)
  have B3 := hid (G0.out.1.trans (b13.mono G0.out.1.size))
  by_cases e0 : egph (gof a xs es) = 0
  · by_cases e2 : egph (gof a2 xs2 es2) = 0
    · have hd := (hd.resolve_right (fun h => h.1 e0)).2
      have hd2 := (hd2.resolve_right (fun h => h.1 e2)).2
      have hgp := hid (get_put HT.out.1 e0)
      have hgp2 := hid (get_put HT.out.2 e2)
      have HLL := hid (And.intro (bgph_len HT.out.1 e0) (bgph_len HT.out.2 e2))
      rw [e0, e2]
      generalize bgph (gof a xs es) = L at hd hgp HLL
      generalize bgph (gof a2 xs2 es2) = L2 at hd2 hgp2 HLL
      have FS : Hid (w3.heap[w.heap.size]? = some (.cells (gvc a (.slice pn nl cn) (.slice pe el ce)) 25 (0, 0)) ∧ w3.heap[w.heap.size + 1]? = some (.cells (gvc a2 (.slice pn2 nl2 cn2) (.slice pe2 el2 ce2)) 25 (0, 0)) ∧ GR w3.heap.size w3 (.slice pn nl cn) (.slice pe el ce) xs es ∧ GR w3.heap.size w3 (.slice pn2 nl2 cn2) (.slice pe2 el2 ce2) xs2 es2 ∧ Ls EB w3 (.slice pd md cd) L ∧ Ls EB w3 (.slice pd2 md2 cd2) L2) := ⟨(b13.block _ (tk_lt G0.out.2.1)).trans G0.out.2.1, (b13.block _ (tk_lt G0.out.2.2)).trans G0.out.2.2, HG.out.1.later (Nat.le_refl _) b13, HG.out.2.later (Nat.le_refl _) b13, ((owns_ls (E := EB) hd).below b2).below b3, (owns_ls (E := EB) hd2).below b3⟩
      have I0 : Hid (Oi w3 w3 (gof a xs es) (gof a2 xs2 es2) [] (.slice none 0 0)) := ⟨Below.refl _ _, Gs.nil _ _ _ _, World.ownsRow_nil _ _ _ _⟩
      clear hd hd2 e0 e2 b1 b2 b3 b12 b13 G0 HG HT
      go_wp2_with fail
      go_loopw [9, 10] (fun s9 s10 wr => ∃ (i : Nat) (ps : List GX) (v9 : Value), i ≤ 4 ∧ ps.length = i ∧ s10 = .int .i64 (i : Nat) ∧ v9 = s9 ∧ Hid (Oi w3 wr (gof a xs es) (gof a2 xs2 es2) ps v9)) (fun _ s10 _ => 4 - (RowKit.intOf s10).toNat)
      case atStart => exact ⟨0, [], _, by omega, rfl, rfl, rfl, I0.out⟩
      case round =>
        clear I0
        obtain ⟨i, ps, v9, hi, hpl, rfl, rfl, HI⟩ := hrel
        by_cases hlt : i < 4
        · have hltz : (i : Int) < 4 := by omega
          by_cases h2 : i = 2
          · have hz2 : ((i : Int) == 2) = true := by simp; omega
            go_wp2_with fail
            refine (get_any _ (FS.out.2.2.2.2.2.below HI.out.bl) (by have := HLL.out.2; omega)).mono ?_
            rintro r w5 ⟨b5, u5, rfl, nv5, ev5, xs5, rfl, hx5, go5⟩
            obtain ⟨q5, m5, c5, rfl⟩ := owns_form go5.nodes.row
            obtain ⟨q6, m6, c6, rfl⟩ := owns_form go5.edges
            rw [hgp2.out] at hx5 go5 ⊢
            have P6 : Hid ((Oi w3 (w5.alloc (.cells (gvc a2 (.slice q5 m5 c5) (.slice q6 m6 c6)) 25)) (gof a xs es) (gof a2 xs2 es2) ps v9 ∧ Gx w3.heap.size (w5.alloc (.cells (gvc a2 (.slice q5 m5 c5) (.slice q6 m6 c6)) 25)) (gsel (gof a xs es) (gof a2 xs2 es2) ps.length) (⟨a2, ⟨q5, m5, c5⟩, ⟨q6, m6, c6⟩, xs5, es2, wr.heap.size, w5.heap.size⟩ : GX) ∧ ∀ q ∈ ps, q.T ≤ wr.heap.size) ∧ w3.heap.size ≤ (w5.alloc (.cells (gvc a2 (.slice q5 m5 c5) (.slice q6 m6 c6)) 25)).heap.size) := by
              have g6 := ((Gr.refl w5).alloc (.cells (gvc a2 (.slice q5 m5 c5) (.slice q6 m6 c6)) 25)).below
              have O6 := (HI.out.below b5).below g6
              have hx := gx_of (nv := ⟨q5, m5, c5⟩) (ev := ⟨q6, m6, c6⟩) (congrArg Prod.fst hgp2.out) go5 hx5 HI.out.bl.size
              refine ⟨⟨O6, ?_, fun q hq => ?_⟩, O6.bl.size⟩
              · have e : gsel (gof a xs es) (gof a2 xs2 es2) ps.length = (gof a2 xs2 es2) := by
                  rw [hpl]
                  exact by unfold gsel; rw [if_pos h2]
                rw [e]
                exact hx.k4 (K4.of_below g6)
              · obtain ⟨j, hj, rfl⟩ := List.mem_iff_getElem.1 hq
                exact (HI.out.gs.each j _ (by simp [hj])).hi
            have hna : ((gof a2 xs2 es2)).arity = a2 := rfl
            clear b5 go5 hx5 HI
            go_wp2_with (at_builtin; refine wpApp1 EX Try.underlying36 infoX rfl (by decide) rfl _ _ rfl w3.heap.size _ ps.length _ rfl P6.out.1.1.row (⟨a2, ⟨q5, m5, c5⟩, ⟨q6, m6, c6⟩, xs5, es2, wr.heap.size, w5.heap.size⟩ : GX) (by first | rfl | (go_simp; done)) (by omega) (by unfold maxLen; omega) P6.out.2 _ rfl _ ?_)
            intro gg cap w7 h1 h2 h3
            have I7 := hid (P6.out.1.1.snoc P6.out.1.2.1 P6.out.1.2.2 (owns_re h1 (by omega) rfl) h2)
            have HPL : Hid ((ps ++ [(⟨a2, ⟨q5, m5, c5⟩, ⟨q6, m6, c6⟩, xs5, es2, wr.heap.size, w5.heap.size⟩ : GX)]).length = i + 1) := by
              show _ = _
              simp [hpl]
            clear P6 h1 h2 h3
            generalize ps ++ [(⟨a2, ⟨q5, m5, c5⟩, ⟨q6, m6, c6⟩, xs5, es2, wr.heap.size, w5.heap.size⟩ : GX)] = ps2 at I7 HPL
            go_wp2_with fail
            go_roundw
            case rel => exact ⟨i + 1, ps2, _, by omega, HPL.out, by first | rfl | go_num, rfl, I7.out⟩
            case measure => simp [RowKit.intOf]; omega
          · have hz2 : ((i : Int) == 2) = false := by simp; omega
            have hz3 : ¬ (i : Int) = 2 := by omega
            go_wp2_with fail
            refine (get_any _ (FS.out.2.2.2.2.1.below HI.out.bl) (by have := HLL.out.1; omega)).mono ?_
            rintro r w5 ⟨b5, u5, rfl, nv5, ev5, xs5, rfl, hx5, go5⟩
            obtain ⟨q5, m5, c5, rfl⟩ := owns_form go5.nodes.row
            obtain ⟨q6, m6, c6, rfl⟩ := owns_form go5.edges
            rw [hgp.out] at hx5 go5 ⊢
            have P6 : Hid ((Oi w3 (w5.alloc (.cells (gvc a (.slice q5 m5 c5) (.slice q6 m6 c6)) 25)) (gof a xs es) (gof a2 xs2 es2) ps v9 ∧ Gx w3.heap.size (w5.alloc (.cells (gvc a (.slice q5 m5 c5) (.slice q6 m6 c6)) 25)) (gsel (gof a xs es) (gof a2 xs2 es2) ps.length) (⟨a, ⟨q5, m5, c5⟩, ⟨q6, m6, c6⟩, xs5, es, wr.heap.size, w5.heap.size⟩ : GX) ∧ ∀ q ∈ ps, q.T ≤ wr.heap.size) ∧ w3.heap.size ≤ (w5.alloc (.cells (gvc a (.slice q5 m5 c5) (.slice q6 m6 c6)) 25)).heap.size) := by
              have g6 := ((Gr.refl w5).alloc (.cells (gvc a (.slice q5 m5 c5) (.slice q6 m6 c6)) 25)).below
              have O6 := (HI.out.below b5).below g6
              have hx := gx_of (nv := ⟨q5, m5, c5⟩) (ev := ⟨q6, m6, c6⟩) (congrArg Prod.fst hgp.out) go5 hx5 HI.out.bl.size
              refine ⟨⟨O6, ?_, fun q hq => ?_⟩, O6.bl.size⟩
              · have e : gsel (gof a xs es) (gof a2 xs2 es2) ps.length = (gof a xs es) := by
                  rw [hpl]
                  exact by unfold gsel; rw [if_neg h2]
                rw [e]
                exact hx.k4 (K4.of_below g6)
              · obtain ⟨j, hj, rfl⟩ := List.mem_iff_getElem.1 hq
                exact (HI.out.gs.each j _ (by simp [hj])).hi
            have hna : ((gof a xs es)).arity = a := rfl
            clear b5 go5 hx5 HI
            go_wp2_with (at_builtin; refine wpApp1 EX Try.underlying36 infoX rfl (by decide) rfl _ _ rfl w3.heap.size _ ps.length _ rfl P6.out.1.1.row (⟨a, ⟨q5, m5, c5⟩, ⟨q6, m6, c6⟩, xs5, es, wr.heap.size, w5.heap.size⟩ : GX) (by first | rfl | (go_simp; done)) (by omega) (by unfold maxLen; omega) P6.out.2 _ rfl _ ?_)
            intro gg cap w7 h1 h2 h3
            have I7 := hid (P6.out.1.1.snoc P6.out.1.2.1 P6.out.1.2.2 (owns_re h1 (by omega) rfl) h2)
            have HPL : Hid ((ps ++ [(⟨a, ⟨q5, m5, c5⟩, ⟨q6, m6, c6⟩, xs5, es, wr.heap.size, w5.heap.size⟩ : GX)]).length = i + 1) := by
              show _ = _
              simp [hpl]
            clear P6 h1 h2 h3
            generalize ps ++ [(⟨a, ⟨q5, m5, c5⟩, ⟨q6, m6, c6⟩, xs5, es, wr.heap.size, w5.heap.size⟩ : GX)] = ps2 at I7 HPL
            go_wp2_with fail
            go_roundw
            case rel => exact ⟨i + 1, ps2, _, by omega, HPL.out, by first | rfl | go_num, rfl, I7.out⟩
            case measure => simp [RowKit.intOf]; omega
        · have hltz : ¬ (i : Int) < 4 := by omega
          have hi4 : i = 4 := by omega
          subst hi4
          obtain ⟨q9, m9, k9, rfl⟩ := owns_form HI.out.row
          have hm9 := (owns_caps HI.out.row _ _ _ rfl).1
          rw [hpl] at hm9
          subst hm9
          rw [show ((4 : Nat) : Int) = 4 from rfl]
          clear hltz hlt hi
          go_wp2_with fail
          go_loopw [63] (fun s wr => ∃ i : Nat, i ≤ 4 ∧ s = .int .i64 (i : Nat) ∧ Hid (Oi w3 wr (gof a xs es) (gof a2 xs2 es2) ps (.slice q9 4 k9))) (fun s _ => 4 - (RowKit.intOf s).toNat)
          case atStart => exact ⟨0, by omega, rfl, HI.out⟩
          case round =>
            clear HI
            obtain ⟨i, hi, rfl, HI⟩ := hrel
            by_cases hlt : i < 4
            · have hltz : (i : Int) < 4 := by omega
              have hj0 : (0 : Int) ≤ (i : Int) := by omega
              obtain ⟨p, hp⟩ : ∃ p, ps[i]? = some p := ⟨ps[i]'(by omega), List.getElem?_eq_getElem (by omega)⟩
              obtain ⟨b1, o1, q1, e1, zz1, x0, x1, x2⟩ := ls_atX (owns_ls (E := EX) HI.out.row) hp
              obtain ⟨pa, ⟨pq, pm, pc⟩, ⟨rq, rm, rc⟩, px, py, pH, pT⟩ := p
              simp only [LV.v] at x1 x2
              simp only [Value.slice.injEq] at e1
              have hq1 := e1.1
              have hq2 := e1.2.2
              obtain ⟨yb, hyb⟩ : ∃ b, b = wr.heap.size := ⟨_, rfl⟩
              obtain ⟨W5, hW5⟩ : ∃ W, W = wr.alloc (.cells (gvc pa (.slice pq pm pc) (.slice rq rm rc)) 25) := ⟨_, rfl⟩
              have HP := hid hp
              have P5 : Hid ((Oi w3 W5 (gof a xs es) (gof a2 xs2 es2) ps (.slice q9 4 k9)) ∧ W5.heap[yb]? = some (.cells (gvc pa (.slice pq pm pc) (.slice rq rm rc)) 25 (0, 0))) := by
                have g5 := ((Gr.refl wr).alloc (.cells (gvc pa (.slice pq pm pc) (.slice rq rm rc)) 25)).below
                rw [hW5, hyb]
                exact ⟨HI.out.below g5, heap_new' _ _⟩
              have HW5 : Hid (wr.alloc (.cells #[.int .i64 pa, .slice pq pm pc, .slice rq rm rc] 25) = W5 ∧ wr.heap.size = yb) := ⟨hW5.symm, hyb.symm⟩
              clear hW5 hyb hp e1 HI
              rw [hq1, hq2]
              go_upto_region 21 with fail
              rw [HW5.out.1, HW5.out.2]
              clear HW5 x0 x1 x2 zz1
              by_cases h2 : i = 2
              · have hz2 : ((i : Int) == 2) = true := by simp; omega
                have PX : Hid (pa = a2 ∧ px.map NV.n = xs2.map NV.n ∧ py = es2 ∧ GR W5.heap.size W5 (.slice pq pm pc) (.slice rq rm rc) px py) := by
                  have h := P5.out.1.gs.each i _ HP.out
                  have e : gsel (gof a xs es) (gof a2 xs2 es2) i = (gof a2 xs2 es2) := by
                    unfold gsel
                    rw [if_pos h2]
                  rw [e] at h
                  exact ⟨h.ar, h.ns, h.ed, h.gr⟩
                have hpa := PX.out.1
                have hpy := PX.out.2.2.1
                subst hpa hpy
                have hb := (P5.out.1.bl.block _ (tk_lt FS.out.2.1)).trans FS.out.2.1
                have c9 := (tk_store hb).1
                have l9 := tk_lt hb
                have c8 := (tk_store P5.out.2).1
                have l8 := tk_lt P5.out.2
                have hsa := same_eq PX.out.2.1 _ PX.out.2.2.2 ((FS.out.2.2.2.1.below P5.out.1.bl).up P5.out.1.bl.size) (a := pa)
                clear PX hb
                go_wp2_with fail
                go_at_call 11
                refine hsa.mono ?_
                rintro r w7 ⟨rfl, g7⟩
                have I7 := hid (P5.out.1.below g7.below)
                clear hsa g7 P5 c8 l8 c9 l9
                go_wp2_with fail
                go_roundw
                case rel =>
                  rw [← hq1, ← hq2]
                  exact ⟨i + 1, by omega, by first | rfl | go_num, I7.out⟩
                case measure => simp [RowKit.intOf]; omega
              · have hz2 : ((i : Int) == 2) = false := by simp; omega
                have hz3 : ¬ (i : Int) = 2 := by omega
                have PX : Hid (pa = a ∧ px.map NV.n = xs.map NV.n ∧ py = es ∧ GR W5.heap.size W5 (.slice pq pm pc) (.slice rq rm rc) px py) := by
                  have h := P5.out.1.gs.each i _ HP.out
                  have e : gsel (gof a xs es) (gof a2 xs2 es2) i = (gof a xs es) := by
                    unfold gsel
                    rw [if_neg h2]
                  rw [e] at h
                  exact ⟨h.ar, h.ns, h.ed, h.gr⟩
                have hpa := PX.out.1
                have hpy := PX.out.2.2.1
                subst hpa hpy
                have hb := (P5.out.1.bl.block _ (tk_lt FS.out.1)).trans FS.out.1
                have c9 := (tk_store hb).1
                have l9 := tk_lt hb
                have c8 := (tk_store P5.out.2).1
                have l8 := tk_lt P5.out.2
                have hsa := same_eq PX.out.2.1 _ PX.out.2.2.2 ((FS.out.2.2.1.below P5.out.1.bl).up P5.out.1.bl.size) (a := pa)
                clear PX hb
                go_wp2_with fail
                go_at_call 11
                refine hsa.mono ?_
                rintro r w7 ⟨rfl, g7⟩
                have I7 := hid (P5.out.1.below g7.below)
                clear hsa g7 P5 c8 l8 c9 l9
                go_wp2_with fail
                go_roundw
                case rel =>
                  rw [← hq1, ← hq2]
                  exact ⟨i + 1, by omega, by first | rfl | go_num, I7.out⟩
                case measure => simp [RowKit.intOf]; omega
            · have hltz : ¬ (i : Int) < 4 := by omega
              clear hlt hi
              obtain ⟨kb, hkb⟩ : ∃ b, b = wr.heap.size := ⟨_, rfl⟩
              obtain ⟨W6, hW6⟩ : ∃ W, W = wr.alloc (.cells #[.slice none 0 0, .slice none 0 0, .slice none 0 0, .slice none 0 0] 43) := ⟨_, rfl⟩
              have P6 : Hid ((Oi w3 W6 (gof a xs es) (gof a2 xs2 es2) ps (.slice q9 4 k9)) ∧ Bk w3.heap.size W6 kb ⟨none, 0, 0⟩ ⟨none, 0, 0⟩ ⟨none, 0, 0⟩ ⟨none, 0, 0⟩ [] [] [] [] [] [] [] []) := by
                have g6 := ((Gr.refl wr).alloc (.cells #[.slice none 0 0, .slice none 0 0, .slice none 0 0, .slice none 0 0] 43)).below
                rw [hW6, hkb]
                exact ⟨HI.out.below g6, heap_new' _ _, HI.out.bl.size, World.ownsRow_nil _ _ _ _, World.ownsRow_nil _ _ _ _, World.ownsRow_nil _ _ _ _, World.ownsRow_nil _ _ _ _, Fm.nil, Fm.nil, Fm.nil, Fm.nil⟩
              have HW6 : Hid (wr.alloc (.cells #[.slice none 0 0, .slice none 0 0, .slice none 0 0, .slice none 0 0] 43) = W6 ∧ wr.heap.size = kb) := ⟨hW6.symm, hkb.symm⟩
              clear hW6 hkb HI
              go_upto_region 25 with fail
              rw [HW6.out.1, HW6.out.2]
              clear HW6
              go_wp2_with fail
              go_loopw [91] (fun s wr => ∃ (i : Nat) (cO cC cN cD : LV), i ≤ 4 ∧ s = .int .i64 (i : Nat) ∧ Hid ((Oi w3 wr (gof a xs es) (gof a2 xs2 es2) ps (.slice q9 4 k9)) ∧ Bk w3.heap.size wr kb cO cC cN cD (cvs (ps.take i)) (cos (ps.take i)) (dvs (ps.take i)) (cns (ps.take i)) ((ps.take i).map GX.nv) ((ps.take i).map GX.xs) ((ps.take i).map GX.ev) ((ps.take i).map GX.es))) (fun s _ => 4 - (RowKit.intOf s).toNat)
              case atStart => exact ⟨0, _, _, _, _, by omega, rfl, P6.out⟩
              case round =>
                clear P6 hltz
                obtain ⟨i, cO, cC, cN, cD, hi, rfl, HI⟩ := hrel
                by_cases hlt : i < 4
                · have hltz : (i : Int) < 4 := by omega
                  have hj0 : (0 : Int) ≤ (i : Int) := by omega
                  obtain ⟨p, hp⟩ : ∃ p, ps[i]? = some p := ⟨ps[i]'(by omega), List.getElem?_eq_getElem (by omega)⟩
                  obtain ⟨b1, o1, q1, e1, zz1, x0, x1, x2⟩ := ls_atX (owns_ls (E := EX) HI.out.1.row) hp
                  obtain ⟨pa, ⟨pq, pm, pc⟩, ⟨rq, rm, rc⟩, px, py, pH, pT⟩ := p
                  simp only [LV.v] at x1 x2
                  simp only [Value.slice.injEq] at e1
                  have hq1 := e1.1
                  have hq2 := e1.2.2
                  obtain ⟨yb, hyb⟩ : ∃ b, b = wr.heap.size := ⟨_, rfl⟩
                  obtain ⟨W5, hW5⟩ : ∃ W, W = wr.alloc (.cells (gvc pa (.slice pq pm pc) (.slice rq rm rc)) 25) := ⟨_, rfl⟩
                  have HP := hid hp
                  have P5 : Hid (((Oi w3 W5 (gof a xs es) (gof a2 xs2 es2) ps (.slice q9 4 k9)) ∧ Bk w3.heap.size W5 kb cO cC cN cD (cvs (ps.take i)) (cos (ps.take i)) (dvs (ps.take i)) (cns (ps.take i)) ((ps.take i).map GX.nv) ((ps.take i).map GX.xs) ((ps.take i).map GX.ev) ((ps.take i).map GX.es)) ∧ W5.heap[yb]? = some (.cells (gvc pa (.slice pq pm pc) (.slice rq rm rc)) 25 (0, 0))) := by
                    have g5 := ((Gr.refl wr).alloc (.cells (gvc pa (.slice pq pm pc) (.slice rq rm rc)) 25)).below
                    rw [hW5, hyb]
                    exact ⟨⟨HI.out.1.below g5, HI.out.2.below g5⟩, heap_new' _ _⟩
                  have HW5 : Hid (wr.alloc (.cells #[.int .i64 pa, .slice pq pm pc, .slice rq rm rc] 25) = W5 ∧ wr.heap.size = yb) := ⟨hW5.symm, hyb.symm⟩
                  clear hW5 hyb hp e1 HI
                  rw [hq1, hq2]
                  go_upto_region 28 with fail
                  rw [HW5.out.1, HW5.out.2]
                  clear HW5 x0 x1 x2 zz1
                  have GX5 := hid (P5.out.1.1.gs.each i _ HP.out)
                  have hadd := add_any W5 P5.out.1.2 GX5.out.go GX5.out.low (P5.out.1.1.gs.lw HP.out).1 (P5.out.1.1.gs.lw HP.out).2.1 (P5.out.1.1.gs.lw HP.out).2.2.1 (P5.out.1.1.gs.lw HP.out).2.2.2 (by
                    have h := P5.out.1.1.gs.lens (by omega) i
                    exact ⟨h.1, h.2.1, h.2.2.1, h.2.2.2, GX5.out.sm.1⟩) (a := pa)
                  have c8 := (tk_store P5.out.2).1
                  have l8 := tk_lt P5.out.2
                  go_wp2_with fail
                  refine hadd.mono ?_
                  rintro r w7 ⟨rfl, c1, c2, c3, c4, k7, kp7, ot7⟩
                  have I7 : Hid ((Oi w3 w7 (gof a xs es) (gof a2 xs2 es2) ps (.slice q9 4 k9)) ∧ Bk w3.heap.size w7 kb c1 c2 c3 c4 (cvs (ps.take (i + 1))) (cos (ps.take (i + 1))) (dvs (ps.take (i + 1))) (cns (ps.take (i + 1))) ((ps.take (i + 1)).map GX.nv) ((ps.take (i + 1)).map GX.xs) ((ps.take (i + 1)).map GX.ev) ((ps.take (i + 1)).map GX.es)) := by
                    obtain ⟨t1, t2, t3, t4, t5, t6, t7, t8⟩ := take_more HP.out
                    rw [t1, t2, t3, t4, t5, t6, t7, t8] at k7
                    exact ⟨⟨P5.out.1.1.bl.trans (kp7.below P5.out.1.1.bl.size (fun k h => h)), P5.out.1.1.gs.k4 (K4.of_oth ot7 kp7.size), ot7.get P5.out.1.1.row (by decide) (by decide) (by decide) (by decide) (by decide)⟩, k7⟩
                  clear hadd k7 kp7 ot7 P5 c8 l8 GX5
                  go_wp2_with fail
                  go_roundw
                  case rel =>
                    rw [← hq1, ← hq2]
                    exact ⟨i + 1, _, _, _, _, by omega, by first | rfl | go_num, I7.out⟩
                  case measure => simp [RowKit.intOf]; omega
                · have hltz : ¬ (i : Int) < 4 := by omega
                  have hsm := hid (HI.out.1.gs.sms (by omega))
                  have BK : Hid (Bk w3.heap.size wr kb cO cC cN cD (cvs ps) (cos ps) (dvs ps) (cns ps) (ps.map GX.nv) (ps.map GX.xs) (ps.map GX.ev) (ps.map GX.es)) := by
                    have h := HI.out.2
                    rw [List.take_of_length_le (by omega)] at h
                    exact h
                  have hwr := write_any wr BK.out hsm.out.1 hsm.out.2.1 hsm.out.2.2.1 hsm.out.2.2.2
                  go_wp2_with fail
                  refine hwr.mono ?_
                  rintro r w7 ⟨rfl, u1, u2, u3, u4, k7, kp7⟩
                  have B7 := hid (HI.out.1.bl.trans (kp7.below HI.out.1.bl.size (fun k h => h)))
                  have hst := stands_any w7 k7 (md_of _ hsm.out.1) (md_of _ hsm.out.2.1) (md_of _ hsm.out.2.2.1) (md_of _ hsm.out.2.2.2)
                  clear hwr HI BK kp7 hsm k7
                  go_wp2_with fail
                  go_at_call 14
                  refine hst.mono ?_
                  rintro r w8 ⟨rfl, g8⟩
                  have B8 := hid (B7.out.trans (g8.below.mono B7.out.size))
                  clear hst g8 B7
                  go_wp2_with fail
                  refine (get_any _ (FS.out.2.2.2.2.1.below B8.out) (by have := HLL.out.1; omega)).mono ?_
                  rintro r w9 ⟨b9, u5, rfl, nv5, ev5, xs5, rfl, hx5, go5⟩
                  have G9 := hid (vg_gr hx5 go5)
                  obtain ⟨q5, m5, c5, rfl⟩ := owns_form go5.nodes.row
                  obtain ⟨q6, m6, c6, rfl⟩ := owns_form go5.edges
                  rw [hgp.out] at hx5 G9 ⊢
                  have g10 := ((Gr.refl w9).alloc (.cells (gvc a (.slice q5 m5 c5) (.slice q6 m6 c6)) 25)).below
                  have b10 := (B8.out.trans (b9.mono B8.out.size))
                  have B10 := hid (b10.trans (g10.mono b10.size))
                  have hb := (B10.out.block _ (tk_lt FS.out.1)).trans FS.out.1
                  have c9 := (tk_store hb).1
                  have l9 := tk_lt hb
                  have hsa := same_eq (a := a) hx5 _ (G9.out.later (Nat.le_refl _) g10) ((FS.out.2.2.1.below B10.out).up B10.out.size)
                  have hna : (gof a xs es).arity = a := rfl
                  clear hb g10 b10 b9 go5 hx5 G9 B8
                  go_wp2_with fail
                  go_at_call 11
                  refine hsa.mono ?_
                  rintro r w11 ⟨rfl, g11⟩
                  have B11 := hid (B3.out.trans ((B10.out.trans (g11.below.mono B10.out.size)).mono B3.out.size))
                  clear hsa g11 B10
                  go_wp2_with fail
                  go_ret
                  exact ⟨rfl, B11.out⟩
    · have hz : ((egph (gof a2 xs2 es2) : Int) == 0) = false := by simp; omega
      have hz' : ¬ (egph (gof a2 xs2 es2) : Int) = 0 := by omega
      rw [e0]
      generalize egph (gof a2 xs2 es2) = E at hz hz'
      clear hd hd2 b1 b2 b3 b12 b13
      go_wp2_with fail
      go_ret
      exact ⟨rfl, B3.out⟩
  · have hz : ((egph (gof a xs es) : Int) == 0) = false := by simp; omega
    have hz' : ¬ (egph (gof a xs es) : Int) = 0 := by omega
    generalize egph (gof a xs es) = E at hz hz'
    clear hd hd2 b1 b2 b3 b12 b13
    go_wp2_with fail
    go_ret
    exact ⟨rfl, B3.out⟩
end Go.Proofs.Ytkopmkmfigenlaa.Df
