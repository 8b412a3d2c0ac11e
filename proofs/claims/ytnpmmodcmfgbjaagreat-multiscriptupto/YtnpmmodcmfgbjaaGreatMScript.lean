import Derived.Test.YtnpmmodcmfgbjaaGreatMInv
namespace Go.Proofs.YtnpmmodcmfgbjaaGreat
open Go.RowKit Go.Sort
attribute [local go_sem ↓] Go.wp_at_zero Go.wp_at_succ

theorem infoMp : (Tryz.prog.info? 24).map (fun i => (i.zero, i.size, i.bytes)) = some (some (.pointer none), 1, 8) := by kernel_rfl
theorem infoRp : (Tryz.prog.info? 27).map (fun i => (i.zero, i.size, i.bytes)) = some (some (.pointer none), 1, 8) := by kernel_rfl
set_option maxHeartbeats 8000000 in
set_option maxRecDepth 100000 in
theorem multiScript_any (v : Value) (os : List Opm) (w : World) (hv : ScriptAt w v os) (hbig0 : tot (os.map Opm.l) ≤ 174763) :
    Calls Tryz.prog 3 #[v] w fun e w' => e = .returned (.bool true) ∧ Below w.heap.size w w' := by
  have hmx : Tryz.prog.follows .mixedOrders = true := by kernel_rfl
  have HV : Hid (ScriptAt w v os) := hv
  have hbig : os.length ≤ 174763 := by have := tot_len (os.map Opm.l); simp at this; omega
  obtain ⟨pv, cv, rfl, hcells⟩ := hv
  clear hcells
  go_enter Tryz.func3, Tryz.ntmps3
  go_wp2_with fail
  refine (known_any _).mono ?_
  rintro e w1 ⟨rfl, hb1⟩
  go_wp2_with fail
  refine (mnew_any _).mono ?_
  rintro e w2 ⟨mb, tb, b, cb, rfl, hM2, hz2, hb2⟩
  go_wp2_with fail
  refine (rnew_any _).mono ?_
  rintro e w3 ⟨r, rfl, hrb, hr3, hb3, hro⟩
  have z1 := hb1.size
  obtain ⟨ow0, hS0⟩ := Scr.init (w0 := w) (hb1.trans (hb2.mono z1)) hM2 ⟨by omega, by omega, by omega, by omega⟩ (by simpa using hb3) hr3 (fun k hk => by have := hro k hk; simpa using this)
  have HS0 : Hid (Inv w os 0 ((w3.alloc (.cells #[.pointer (some ⟨r.b, 0, none⟩)] 27)).alloc (.cells #[.slice none 0 0, .slice none 0 0, .slice none 0 0, .slice none 0 0] 34)) (.slice (some ⟨w2.heap.size, 0, none⟩) 1 1) (.slice (some ⟨w3.heap.size, 0, none⟩) 1 1) (w3.heap.size + 1)) :=
    ⟨1, 0, 0, _, _, _, _, _, _, _, _, _, _, _, _, _, _, ⟨Nat.le_refl _, Nat.zero_le _, Nat.zero_le _, fun i _ => Nat.zero_le _, fun i _ => Nat.zero_le _, fun p hp => absurd hp (Nat.not_lt_zero _), fun p hp => absurd hp (Nat.not_lt_zero _)⟩, hS0⟩
  clear hS0 hM2 hz2 hb2 hr3 hb3 hro hb1 hrb z1
  go_wp2_with fail
  obtain ⟨kb, hkb⟩ : ∃ kb, kb = w3.heap.size + 1 := ⟨_, rfl⟩
  rw [← hkb] at HS0 ⊢
  clear hkb
  go_loopw [3, 4, 6] (fun s3 s4 s6 wr => ∃ k : Nat, k ≤ os.length ∧ s6 = .int .i64 k ∧ Hid (Inv w os k wr s3 s4 kb)) (fun _ _ s6 _ => os.length - (RowKit.intOf s6).toNat)
  case atStart => exact ⟨0, Nat.zero_le _, rfl, HS0⟩
  case round =>
    clear HS0
    obtain ⟨k, hk, rfl, HI⟩ := hrel
    obtain ⟨m, nT, nD, M, R, VT, VU, VD, VX, CT, CU, CD, ow, sT, sU, sD, sX, hB, hS⟩ := HI.out
    clear HI
    by_cases hlt : k < os.length
    · have HS : Hid (Scr w wr m nT nT nD M R VT VU VD VX CT CU CD ow u3 u4 kb sT sU sD sX) := hS
      have HB : Hid (Bds (tot ((os.take k).map Opm.l)) k m nT nD M R CT CU CD) := hB
      have hm5 := hS.five
      have hm1 := hB.m1
      have hltz : (k : Int) < (os.length : Int) := by omega
      obtain ⟨o, ho⟩ : ∃ o, os[k]? = some o := ⟨os[k], by simp⟩
      obtain ⟨p', c', e', hcells⟩ := HV.out
      simp only [Value.slice.injEq] at e'
      obtain ⟨rfl, -, rfl⟩ := e'
      obtain ⟨b, off, rfl, hbl, x0, x1, x2, x3, x4, x5, x6⟩ := hcells k o ho
      have hbw := hS.below
      have y0 := (hbw.cell (p := ⟨b, off + k * 6, none⟩) hbl).trans x0
      have y1 := (hbw.cell (p := ⟨b, off + k * 6 + 1, none⟩) hbl).trans x1
      have y2 := (hbw.cell (p := ⟨b, off + k * 6 + 2, none⟩) hbl).trans x2
      have y3 := (hbw.cell (p := ⟨b, off + k * 6 + 3, none⟩) hbl).trans x3
      have y4 := (hbw.cell (p := ⟨b, off + k * 6 + 4, none⟩) hbl).trans x4
      have y5 := (hbw.cell (p := ⟨b, off + k * 6 + 5, none⟩) hbl).trans x5
      obtain ⟨po, co, eo⟩ := x6.form
      rw [eo] at y5 x6
      have HX6 : Hid (Lq w (.slice po o.l.length co) o.l) := x6
      obtain ⟨g3, c3, e3, h31, h32⟩ := owns_form0 hS.ms.1 hm1
      subst e3
      obtain ⟨g4, c4, e4, h41, h42⟩ := owns_form0 hS.rs.1 hm1
      subst e4
      have hmz : (0 : Int) < (m : Int) := by omega
      have hm0 : ¬ (m : Int) = 0 := by omega
      have t1 := Int.tmod_lt_of_pos o.on hmz
      have t2 := Int.lt_tmod_of_pos o.on hmz
      unfold maxLen at h32 h42
      have HTS : Hid (tot ((os.take (k + 1)).map Opm.l) = tot ((os.take k).map Opm.l) + (o.l.length + 1)) := tot_step ho
      have HTL : Hid (tot ((os.take (k + 1)).map Opm.l) ≤ 174763) := Nat.le_trans (tot_le os (k + 1)) hbig0
      clear hcells x0 x1 x2 x3 x4 x5 x6 ho hS eo hB
      go_upto_if 39 with fail
      have BO : Hid (Below wr.heap.size wr (wr.alloc (.cells #[.int .i64 o.kind, .int .i64 o.on, .int .u64 o.t.1.1, .int .u64 o.t.1.2.1, .int .u64 o.t.1.2.2, .slice po o.l.length co] 40))) := ((Gr.refl wr).alloc _).below
      go_cut [8] from 40 to 43 (fun s8 w' => ∃ i : Nat, i < m ∧ s8 = .int .i64 (i : Int) ∧ w' = wr.alloc (.cells #[.int .i64 o.kind, .int .i64 o.on, .int .u64 o.t.1.1, .int .u64 o.t.1.2.1, .int .u64 o.t.1.2.2, .slice po o.l.length co] 40))
      case first =>
        by_cases hneg : o.on.tmod (m : Int) < 0
        · go_wp2_with fail
          go_meet
          refine ⟨(o.on.tmod (m : Int) + m).toNat, by omega, ?_, rfl⟩
          rw [Int.toNat_of_nonneg (by omega)]
        · go_wp2_with fail
          go_meet
          refine ⟨(o.on.tmod (m : Int)).toNat, by omega, ?_, rfl⟩
          rw [Int.toNat_of_nonneg (by omega)]
      case rest =>
        obtain ⟨i, him, rfl, hwc⟩ := hcut
        have HS1 : Hid (Scr w wc m nT nT nD M R VT VU VD VX CT CU CD ow (.slice (some ⟨g3, 0, none⟩) m c3) (.slice (some ⟨g4, 0, none⟩) m c4) kb sT sU sD sX) := by rw [hwc]; exact HS.out.kept BO.out
        have ob : ∀ j x, [Value.int .i64 o.kind, .int .i64 o.on, .int .u64 o.t.1.1, .int .u64 o.t.1.2.1, .int .u64 o.t.1.2.2, .slice po o.l.length co][j]? = some x → wc.cell? ⟨wr.heap.size, j, none⟩ = some x := fun j x hj => by
          rw [hwc]
          have := World.news_of_block (heap_new' wr (.cells #[.int .i64 o.kind, .int .i64 o.on, .int .u64 o.t.1.1, .int .u64 o.t.1.2.1, .int .u64 o.t.1.2.2, .slice po o.l.length co] 40)) j x hj
          rw [addA, Nat.zero_add] at this
          exact this
        have o0 := ob 0 _ rfl
        have o2 := ob 2 _ rfl
        have o3 := ob 3 _ rfl
        have o4 := ob 4 _ rfl
        have o5 := ob 5 _ rfl
        have hob : wr.heap.size < wc.heap.size := by rw [hwc]; simp
        have p3 : wc.cell? ⟨g3, i, none⟩ = some (.pointer (some ⟨(M i).mb, 0, none⟩)) := by
          have := HS1.out.ms.1.cells (g := g3) rfl i _ (by simp [him]; rfl)
          rw [addA, Nat.zero_add] at this
          exact this
        have p4 : wc.cell? ⟨g4, i, none⟩ = some (.pointer (some ⟨(R i).r.b, 0, none⟩)) := by
          have := HS1.out.rs.1.cells (g := g4) rfl i _ (by simp [him]; rfl)
          rw [addA, Nat.zero_add] at this
          exact this
        have hiz : (i : Int) < (m : Int) := by omega
        obtain ⟨bo, hbo⟩ : ∃ bo, bo = wr.heap.size := ⟨_, rfl⟩
        rw [← hbo] at o0 o2 o3 o4 o5 hob
        rw [← hbo]
        have hni := HB.out.n i him
        have hTi := HB.out.T i him
        have hfri := HS1.out.mfr him
        have htl := HTL.out
        rw [HTS.out] at htl
        clear hwc ob y0 y1 y2 y3 y4 y5 BO HS t1 t2 hm0 hmz hbo hbw
        rcases Decidable.em (o.kind = 0) with hk0 | hk0
        · as_aux_lemma =>
            rw [hk0] at o0
            have hj := applied_any HS1.out him HX6.out (by omega) (by omega) (by have := HB.out.bD; omega)
            go_wp2_with fail
            refine hj.mono ?_
            rintro e w5 ⟨rfl, M', R', V1, V2, C', ow', sD', sX', H5⟩
            have HF : Hid (Inv w os (k + 1) w5 (.slice (some ⟨g3, 0, none⟩) m c3) (.slice (some ⟨g4, 0, none⟩) m c4) kb) := Inv.apply HB.out him HTS.out H5.out.1 H5.out.2.1 H5.out.2.2.1 H5.out.2.2.2.1 H5.out.2.2.2.2
            clear hj H5
            go_wp2
            exact ⟨⟨k + 1, by omega, by go_num, HF⟩, by simp [RowKit.intOf]; omega⟩
        rcases Decidable.em (o.kind = 1) with hk1 | hk1
        · as_aux_lemma =>
            rw [hk1] at o0
            obtain ⟨d, hd⟩ : ∃ d, d = (M i).fr := ⟨_, rfl⟩
            have hdl : d.length ≤ 1048576 := by rw [hd]; omega
            have HFX : Hid (∀ R' : List Tm, (R'.Pairwise fun p q => tol p q = true) → (∀ y, y ∈ R' ↔ 0 < (M i).f y ∧ ∀ z, 0 < (M i).f z → bel z y = true → z = y) → R' = d) := fun R' h1 h2 => by rw [hd]; exact isFr_same (HS1.out.mu i him).2.1 h1 h2
            have HDX : Hid (d = (M i).fr) := hd
            clear hd
            go_wp2_with fail
            clear o0 o2 o3 o4 o5 p3 p4 hk1
            go_cut [11] from 69 to 81 (fun s11 w' => s11 = .bool true ∧ Hid (∃ V1 C1 ow1 s1, (∀ p, p < nT → C1 p = CT p) ∧ C1 nT = d ∧ C1 (nT + 1) = d ∧ Scr w w' m (nT + 2) nT nD M R V1 VU VD VX C1 CU CD ow1 (.slice (some ⟨g3, 0, none⟩) m c3) (.slice (some ⟨g4, 0, none⟩) m c4) kb s1 sU sD sX))
            case first =>
              have KS : Hid (∀ W, Below wc.heap.size wc W → W.cell? ⟨kb, 0, none⟩ = some sT ∧ W.frozen? ⟨kb, 0, none⟩ = false ∧ kb < W.heap.size ∧ W.ownsRow 0 42 1 sT nT ((List.range nT).map VT)) := fun W hb => by
                have h2 := HS1.out.kept hb
                exact ⟨by simp [World.cell?, h2.bk.1], by simp [World.frozen?, h2.bk.1], h2.kbl, h2.bT.1⟩
              have HC : Hid (∀ W, Below wc.heap.size wc W → Calls Tryz.prog 8 #[.pointer (some ⟨(M i).mb, 0, none⟩)] W fun e w' => ∃ p c, e = .returned (.slice p d.length c) ∧ w'.ownsRow W.heap.size 37 3 (.slice p d.length c) d.length (flT d) ∧ Below W.heap.size W w') := fun W hb => (front_any W ((HS1.out.kept hb).mu i him).1 (by omega)).mono fun e w' ⟨v', h1, h2, h3⟩ => by
                rw [← HDX.out] at h2
                obtain ⟨p, c, rfl⟩ := (owns_ls (E := ET) h2).form
                exact ⟨p, c, h1, h2, h3⟩
              have B0 : Below wc.heap.size wc wc.drew := (Gr.refl _).drew.below
              obtain ⟨kx0, kf0, ky0, -⟩ := KS.out _ B0
              have hone : ∀ (p5 p6 : Option Addr) (c5 c6 : Nat), ∀ u ∈ [Value.slice p5 d.length c5, Value.slice p6 d.length c6], u.oneCell' = true := fun p5 p6 c5 c6 u hu => by
                simp at hu
                rcases hu with rfl | rfl <;> rfl
              obtain ⟨iT, hiT, ht0, ht1, ht2⟩ := info_parts infoLt
              have IT : Hid (Tryz.prog.info? 42 = some iT ∧ iT.zero = some (.slice none 0 0) ∧ iT.size = 1 ∧ iT.bytes = 24) := ⟨hiT, ht0, ht1, ht2⟩
              have hne : some kb ≠ sT.ownBlock := fun e => by have := HS1.out.bT.2 kb e.symm; rw [HS1.out.bk.2] at this; omega
              have hnT : nT ≤ 349526 := by have := HB.out.bT; omega
              have CL : Hid (∀ (w5 w6 w7 : World) (p5 p6 : Option Addr) (c5 c6 g7 c7 : Nat), Below wc.drew.heap.size wc.drew w5 → Below w5.heap.size w5 w6 → w5.ownsRow wc.drew.heap.size 37 3 (.slice p5 d.length c5) d.length (flT d) → w6.ownsRow w5.heap.size 37 3 (.slice p6 d.length c6) d.length (flT d) →
                (w6.alloc (.cells #[.slice p5 d.length c5, .slice p6 d.length c6] 42)).grownBy w7 sT.ownBlock → w7.ownsRow 0 42 1 (.slice (some ⟨g7, 0, none⟩) (nT + 2) c7) (nT + 2) ((List.range nT).map VT ++ [.slice p5 d.length c5, .slice p6 d.length c6]) → (sT.ownBlock = some g7 ∨ g7 = (w6.alloc (.cells #[.slice p5 d.length c5, .slice p6 d.length c6] 42)).heap.size) →
                Hid (∃ V1 C1 ow1 s1, (∀ p, p < nT → C1 p = CT p) ∧ C1 nT = d ∧ C1 (nT + 1) = d ∧ Scr w (w7.setCell ⟨kb, 0, none⟩ (.slice (some ⟨g7, 0, none⟩) (nT + 2) c7)) m (nT + 2) nT nD M R V1 VU VD VX C1 CU CD ow1 (.slice (some ⟨g3, 0, none⟩) m c3) (.slice (some ⟨g4, 0, none⟩) m c4) kb s1 sU sD sX)) := fun w5 w6 w7 p5 p6 c5 c6 g7 c7 b5 b6 ho5 ho6 hg7 ho7 hl7 => by
                have K7 : Kp (fun q => sT.ownBlock = some q) w6 w7 := (Kp.of_below ((Gr.refl w6).alloc _).below).trans (Kp.grownBy (S := fun q => sT.ownBlock = some q) hg7 (fun _ h => h)) (fun _ _ h => h)
                obtain ⟨V', C', ow', r1, r2, r3, r4⟩ := (HS1.out.kept B0).putT b5 b6 ho5 ho6 K7 ho7 (fun q hq => by rw [own_one hq]; exact hl7.imp id (fun e => by rw [e]; simp))
                exact ⟨V', C', ow', _, r1, r2, r3, r4⟩
              clear hiT ht0 ht1 ht2
              refine wp_region_held_drew (S := fun _ => True) (by kernel_rfl) trivial (fun _ => ?_)
              refine' wpAnyH_take (i := 0) (oi := { dst := some 69, op := Op.move (Operand.tmp 5), type := 30, pos := "law.go:150", after := #[], guard := none }) (v := _) rfl (by kernel_rfl) (by kernel_rfl) (by kernel_rfl) (fun _ _ _ h => h) (Or.inl ⟨by rfl, ?hy1⟩) trivial ?rest1
              case hy1 => (intro w hSw; (try dsimp only at hSw); go_simp; try (with_reducible rfl))
              try simp only [Act.put, List.setIfInBounds_toArray, List.set_cons_zero, List.set_cons_succ]
              refine' wpAnyH_take (i := 1) (oi := { dst := some 70, op := Op.move (Operand.tmp 5), type := 30, pos := "law.go:150", after := #[], guard := none }) (v := _) rfl (by kernel_rfl) (by kernel_rfl) (by kernel_rfl) (fun _ _ _ h => h) (Or.inl ⟨by rfl, ?hy2⟩) trivial ?rest2
              case hy2 => (intro w hSw; (try dsimp only at hSw); go_simp; try (with_reducible rfl))
              try simp only [Act.put, List.setIfInBounds_toArray, List.set_cons_zero, List.set_cons_succ]
              refine' wpAnyH_take (i := 2) (oi := { dst := some 71, op := Op.nilCheck (Operand.tmp 70), type := 0, pos := "law.go:150", after := #[{ on := 1, ground := Ground.data }], guard := none }) (v := _) rfl (by kernel_rfl) (by kernel_rfl) (by kernel_rfl) (fun _ _ _ h => h) (Or.inl ⟨by rfl, ?hy3⟩) trivial ?rest3
              case hy3 => (intro w hSw; (try dsimp only at hSw); go_simp; try (with_reducible rfl))
              try simp only [Act.put, List.setIfInBounds_toArray, List.set_cons_zero, List.set_cons_succ]
              refine' wpAnyH_take (i := 3) (oi := { dst := some 72, op := Op.fieldAddr 34 (Operand.tmp 71) 0, type := 0, pos := "law.go:150", after := #[{ on := 2, ground := Ground.data }], guard := none }) (v := _) rfl (by kernel_rfl) (by kernel_rfl) (by kernel_rfl) (fun _ _ _ h => h) (Or.inl ⟨by rfl, ?hy4⟩) trivial ?rest4
              case hy4 => (intro w hSw; (try dsimp only at hSw); go_simp; try (with_reducible rfl))
              try simp only [Act.put, List.setIfInBounds_toArray, List.set_cons_zero, List.set_cons_succ]
              refine' wpAnyH_take (i := 5) (oi := { dst := some 74, op := Op.move (Operand.tmp 9), type := 24, pos := "law.go:150", after := #[], guard := none }) (v := _) rfl (by kernel_rfl) (by kernel_rfl) (by kernel_rfl) (fun _ _ _ h => h) (Or.inl ⟨by rfl, ?hy5⟩) trivial ?rest5
              case hy5 => (intro w hSw; (try dsimp only at hSw); go_simp; try (with_reducible rfl))
              try simp only [Act.put, List.setIfInBounds_toArray, List.set_cons_zero, List.set_cons_succ]
              refine' wpAnyH_take (i := 7) (oi := { dst := some 76, op := Op.move (Operand.tmp 9), type := 24, pos := "law.go:150", after := #[], guard := none }) (v := _) rfl (by kernel_rfl) (by kernel_rfl) (by kernel_rfl) (fun _ _ _ h => h) (Or.inl ⟨by rfl, ?hy6⟩) trivial ?rest6
              case hy6 => (intro w hSw; (try dsimp only at hSw); go_simp; try (with_reducible rfl))
              try simp only [Act.put, List.setIfInBounds_toArray, List.set_cons_zero, List.set_cons_succ]
              refine wpAnyH_ready (rs := [4, 6]) (by kernel_rfl) (by simp) ?_
              refine AllReadyH.cons (o := { dst := some 73, op := Op.load 31 (Operand.tmp 72), type := 31, pos := "law.go:150", after := #[{ on := 3, ground := Ground.data }], guard := none }) rfl (fun K hK => ?_) (AllReadyH.cons (o := { dst := some 75, op := Op.call { callee := Callee.value (Operand.func 8), args := #[Operand.tmp 74], argTypes := #[24] }, type := 42, pos := "law.go:150", after := #[{ on := 5, ground := Ground.data }], guard := none }) rfl (fun K hK => ?_) AllReadyH.nil)
              · go_simp
                refine hK.out _ _ trivial (fun _ => ?_)
                clear hK K
                try simp only [Act.put, List.setIfInBounds_toArray, List.set_cons_zero, List.set_cons_succ]
                refine wpAnyH_ready (rs := [6]) (by kernel_rfl) (by simp) ?_
                refine AllReadyH.cons (o := { dst := some 75, op := Op.call { callee := Callee.value (Operand.func 8), args := #[Operand.tmp 74], argTypes := #[24] }, type := 42, pos := "law.go:150", after := #[{ on := 5, ground := Ground.data }], guard := none }) rfl (fun K hK => ?_) AllReadyH.nil
                go_simp
                refine (HC.out _ B0).mono ?_
                rintro e w5 ⟨p5, c5, rfl, ho5, b5⟩
                have BB5 := B0.trans (b5.mono B0.size)
                obtain ⟨kx5, kf5, ky5, -⟩ := KS.out _ BB5
                go_wp2_with fail
                refine hK.out _ _ trivial (fun _ => ?_)
                clear hK K
                try simp only [Act.put, List.setIfInBounds_toArray, List.set_cons_zero, List.set_cons_succ]
                refine wpAnyH_ready (rs := [8]) (by kernel_rfl) (by simp) ?_
                refine AllReadyH.cons (o := { dst := some 77, op := Op.call { callee := Callee.value (Operand.func 8), args := #[Operand.tmp 76], argTypes := #[24] }, type := 42, pos := "law.go:150", after := #[{ on := 7, ground := Ground.data }, { on := 6, ground := Ground.chain }], guard := none }) rfl (fun K hK => ?_) AllReadyH.nil
                go_simp
                refine (HC.out _ BB5).mono ?_
                rintro e w6 ⟨p6, c6, rfl, ho6, b6⟩
                have BB6 := BB5.trans (b6.mono BB5.size)
                obtain ⟨kx6, kf6, ky6, kr6⟩ := KS.out _ BB6
                go_wp2_with fail
                refine hK.out _ _ trivial (fun _ => ?_)
                clear hK K
                try simp only [Act.put, List.setIfInBounds_toArray, List.set_cons_zero, List.set_cons_succ]
                refine wpAnyH_ready (rs := [9]) (by kernel_rfl) (by simp) ?_
                refine AllReadyH.cons (o := { dst := some 78, op := Op.buildSlice 31 2 #[(0, Operand.tmp 75), (1, Operand.tmp 77)], type := 31, pos := "law.go:150", after := #[{ on := 6, ground := Ground.data }, { on := 8, ground := Ground.data }], guard := none }) rfl (fun K hK => ?_) AllReadyH.nil
                go_simp
                refine hK.out _ _ trivial (fun _ => ?_)
                clear hK K
                try simp only [Act.put, List.setIfInBounds_toArray, List.set_cons_zero, List.set_cons_succ]
                refine wpAnyH_ready (rs := [10]) (by kernel_rfl) (by simp) ?_
                refine AllReadyH.cons (o := { dst := some 79, op := Op.call { callee := Callee.builtin Builtin.append, args := #[Operand.tmp 73, Operand.tmp 78], argTypes := #[31, 31] }, type := 31, pos := "law.go:150", after := #[{ on := 4, ground := Ground.data }, { on := 9, ground := Ground.data }, { on := 8, ground := Ground.chain }], guard := none }) rfl (fun K hK => ?_) AllReadyH.nil
                refine step_append_lies _ rfl _ _ 31 rfl 0 42 iT (.slice none 0 0) 1 24 Tryz.underlying31 IT.out.1 IT.out.2.1 IT.out.2.2.1 IT.out.2.2.2 rfl (by decide) sT nT _ rfl (World.ownsRow.alloc kr6 _) ⟨w6.heap.size, 0, none⟩ 2 2 [.slice p5 d.length c5, .slice p6 d.length c6] rfl rfl (World.news_of_block (heap_new' _ _)) (hone _ _ _ _) (by decide) (by unfold maxLen; omega) (by omega) (Nat.zero_le _) _ rfl ?_
                intro g7 c7 w7 ho7 hg7 hl7 hlt7
                have kb7 := hg7.block kb (by simp; omega) hne
                have kx7 : w7.cell? ⟨kb, 0, none⟩ = some sT := (World.cell?_of_block (a := ⟨kb, 0, none⟩) kb7).trans ((((Gr.refl w6).alloc _).cell ky6).trans kx6)
                have ky7 : w7.frozen? ⟨kb, 0, none⟩ = false := (frozen_of_block kb7).trans ((((Gr.refl w6).alloc _).frozen ky6).trans kf6)
                have kz7 : kb < w7.heap.size := Nat.lt_of_lt_of_le ky6 (Nat.le_trans ((Gr.refl w6).alloc _).size hg7.size)
                refine hK.out _ _ trivial (fun _ => ?_)
                clear hK K
                try simp only [Act.put, List.setIfInBounds_toArray, List.set_cons_zero, List.set_cons_succ]
                refine' wpAnyH_take (i := 11) (oi := { dst := some 80, op := Op.nilCheck (Operand.tmp 69), type := 0, pos := "law.go:150", after := #[{ on := 0, ground := Ground.data }, { on := 0, ground := Ground.phase }, { on := 1, ground := Ground.phase }, { on := 2, ground := Ground.phase }, { on := 3, ground := Ground.phase }, { on := 4, ground := Ground.phase }, { on := 5, ground := Ground.phase }, { on := 6, ground := Ground.phase }, { on := 7, ground := Ground.phase }, { on := 8, ground := Ground.phase }, { on := 9, ground := Ground.phase }, { on := 10, ground := Ground.phase }], guard := none }) (v := _) rfl (by kernel_rfl) (by kernel_rfl) (by kernel_rfl) (fun _ _ _ h => h) (Or.inl ⟨by rfl, ?hy7⟩) trivial ?rest7
                case hy7 => (intro w hSw; (try dsimp only at hSw); go_simp; try (with_reducible rfl))
                try simp only [Act.put, List.setIfInBounds_toArray, List.set_cons_zero, List.set_cons_succ]
                refine' wpAnyH_take (i := 12) (oi := { dst := some 81, op := Op.fieldAddr 34 (Operand.tmp 80) 0, type := 0, pos := "law.go:150", after := #[{ on := 11, ground := Ground.data }, { on := 0, ground := Ground.phase }, { on := 1, ground := Ground.phase }, { on := 2, ground := Ground.phase }, { on := 3, ground := Ground.phase }, { on := 4, ground := Ground.phase }, { on := 5, ground := Ground.phase }, { on := 6, ground := Ground.phase }, { on := 7, ground := Ground.phase }, { on := 8, ground := Ground.phase }, { on := 9, ground := Ground.phase }, { on := 10, ground := Ground.phase }], guard := none }) (v := _) rfl (by kernel_rfl) (by kernel_rfl) (by kernel_rfl) (fun _ _ _ h => h) (Or.inl ⟨by rfl, ?hy8⟩) trivial ?rest8
                case hy8 => (intro w hSw; (try dsimp only at hSw); go_simp; try (with_reducible rfl))
                try simp only [Act.put, List.setIfInBounds_toArray, List.set_cons_zero, List.set_cons_succ]
                refine wpAnyH_ready (rs := [13]) (by kernel_rfl) (by simp) ?_
                refine AllReadyH.cons (o := { dst := none, op := Op.store 31 (Operand.tmp 81) (Operand.tmp 79), type := 0, pos := "law.go:150", after := #[{ on := 12, ground := Ground.data }, { on := 10, ground := Ground.data }, { on := 10, ground := Ground.chain }, { on := 0, ground := Ground.phase }, { on := 1, ground := Ground.phase }, { on := 2, ground := Ground.phase }, { on := 3, ground := Ground.phase }, { on := 4, ground := Ground.phase }, { on := 5, ground := Ground.phase }, { on := 6, ground := Ground.phase }, { on := 7, ground := Ground.phase }, { on := 8, ground := Ground.phase }, { on := 9, ground := Ground.phase }, { on := 10, ground := Ground.phase }], guard := none }) rfl (fun K hK => ?_) AllReadyH.nil
                go_simp
                refine hK.out _ _ trivial (fun _ => ?_)
                clear hK K
                try simp only [Act.put, List.setIfInBounds_toArray, List.set_cons_zero, List.set_cons_succ]
                refine wpAnyH_done (by kernel_rfl) ?_ _
                go_wp2_with fail
                go_meet
                refine ⟨rfl, CL.out _ _ _ _ _ _ _ _ _ b5 b6 ho5 ho6 hg7 ho7 hl7⟩
              · go_simp
                refine (HC.out _ B0).mono ?_
                rintro e w5 ⟨p5, c5, rfl, ho5, b5⟩
                have BB5 := B0.trans (b5.mono B0.size)
                obtain ⟨kx5, kf5, ky5, -⟩ := KS.out _ BB5
                go_wp2_with fail
                refine hK.out _ _ trivial (fun _ => ?_)
                clear hK K
                try simp only [Act.put, List.setIfInBounds_toArray, List.set_cons_zero, List.set_cons_succ]
                refine wpAnyH_ready (rs := [4, 8]) (by kernel_rfl) (by simp) ?_
                refine AllReadyH.cons (o := { dst := some 73, op := Op.load 31 (Operand.tmp 72), type := 31, pos := "law.go:150", after := #[{ on := 3, ground := Ground.data }], guard := none }) rfl (fun K hK => ?_) (AllReadyH.cons (o := { dst := some 77, op := Op.call { callee := Callee.value (Operand.func 8), args := #[Operand.tmp 76], argTypes := #[24] }, type := 42, pos := "law.go:150", after := #[{ on := 7, ground := Ground.data }, { on := 6, ground := Ground.chain }], guard := none }) rfl (fun K hK => ?_) AllReadyH.nil)
                · go_simp
                  refine hK.out _ _ trivial (fun _ => ?_)
                  clear hK K
                  try simp only [Act.put, List.setIfInBounds_toArray, List.set_cons_zero, List.set_cons_succ]
                  refine wpAnyH_ready (rs := [8]) (by kernel_rfl) (by simp) ?_
                  refine AllReadyH.cons (o := { dst := some 77, op := Op.call { callee := Callee.value (Operand.func 8), args := #[Operand.tmp 76], argTypes := #[24] }, type := 42, pos := "law.go:150", after := #[{ on := 7, ground := Ground.data }, { on := 6, ground := Ground.chain }], guard := none }) rfl (fun K hK => ?_) AllReadyH.nil
                  go_simp
                  refine (HC.out _ BB5).mono ?_
                  rintro e w6 ⟨p6, c6, rfl, ho6, b6⟩
                  have BB6 := BB5.trans (b6.mono BB5.size)
                  obtain ⟨kx6, kf6, ky6, kr6⟩ := KS.out _ BB6
                  go_wp2_with fail
                  refine hK.out _ _ trivial (fun _ => ?_)
                  clear hK K
                  try simp only [Act.put, List.setIfInBounds_toArray, List.set_cons_zero, List.set_cons_succ]
                  refine wpAnyH_ready (rs := [9]) (by kernel_rfl) (by simp) ?_
                  refine AllReadyH.cons (o := { dst := some 78, op := Op.buildSlice 31 2 #[(0, Operand.tmp 75), (1, Operand.tmp 77)], type := 31, pos := "law.go:150", after := #[{ on := 6, ground := Ground.data }, { on := 8, ground := Ground.data }], guard := none }) rfl (fun K hK => ?_) AllReadyH.nil
                  go_simp
                  refine hK.out _ _ trivial (fun _ => ?_)
                  clear hK K
                  try simp only [Act.put, List.setIfInBounds_toArray, List.set_cons_zero, List.set_cons_succ]
                  refine wpAnyH_ready (rs := [10]) (by kernel_rfl) (by simp) ?_
                  refine AllReadyH.cons (o := { dst := some 79, op := Op.call { callee := Callee.builtin Builtin.append, args := #[Operand.tmp 73, Operand.tmp 78], argTypes := #[31, 31] }, type := 31, pos := "law.go:150", after := #[{ on := 4, ground := Ground.data }, { on := 9, ground := Ground.data }, { on := 8, ground := Ground.chain }], guard := none }) rfl (fun K hK => ?_) AllReadyH.nil
                  refine step_append_lies _ rfl _ _ 31 rfl 0 42 iT (.slice none 0 0) 1 24 Tryz.underlying31 IT.out.1 IT.out.2.1 IT.out.2.2.1 IT.out.2.2.2 rfl (by decide) sT nT _ rfl (World.ownsRow.alloc kr6 _) ⟨w6.heap.size, 0, none⟩ 2 2 [.slice p5 d.length c5, .slice p6 d.length c6] rfl rfl (World.news_of_block (heap_new' _ _)) (hone _ _ _ _) (by decide) (by unfold maxLen; omega) (by omega) (Nat.zero_le _) _ rfl ?_
                  intro g7 c7 w7 ho7 hg7 hl7 hlt7
                  have kb7 := hg7.block kb (by simp; omega) hne
                  have kx7 : w7.cell? ⟨kb, 0, none⟩ = some sT := (World.cell?_of_block (a := ⟨kb, 0, none⟩) kb7).trans ((((Gr.refl w6).alloc _).cell ky6).trans kx6)
                  have ky7 : w7.frozen? ⟨kb, 0, none⟩ = false := (frozen_of_block kb7).trans ((((Gr.refl w6).alloc _).frozen ky6).trans kf6)
                  have kz7 : kb < w7.heap.size := Nat.lt_of_lt_of_le ky6 (Nat.le_trans ((Gr.refl w6).alloc _).size hg7.size)
                  refine hK.out _ _ trivial (fun _ => ?_)
                  clear hK K
                  try simp only [Act.put, List.setIfInBounds_toArray, List.set_cons_zero, List.set_cons_succ]
                  refine' wpAnyH_take (i := 11) (oi := { dst := some 80, op := Op.nilCheck (Operand.tmp 69), type := 0, pos := "law.go:150", after := #[{ on := 0, ground := Ground.data }, { on := 0, ground := Ground.phase }, { on := 1, ground := Ground.phase }, { on := 2, ground := Ground.phase }, { on := 3, ground := Ground.phase }, { on := 4, ground := Ground.phase }, { on := 5, ground := Ground.phase }, { on := 6, ground := Ground.phase }, { on := 7, ground := Ground.phase }, { on := 8, ground := Ground.phase }, { on := 9, ground := Ground.phase }, { on := 10, ground := Ground.phase }], guard := none }) (v := _) rfl (by kernel_rfl) (by kernel_rfl) (by kernel_rfl) (fun _ _ _ h => h) (Or.inl ⟨by rfl, ?hy9⟩) trivial ?rest9
                  case hy9 => (intro w hSw; (try dsimp only at hSw); go_simp; try (with_reducible rfl))
                  try simp only [Act.put, List.setIfInBounds_toArray, List.set_cons_zero, List.set_cons_succ]
                  refine' wpAnyH_take (i := 12) (oi := { dst := some 81, op := Op.fieldAddr 34 (Operand.tmp 80) 0, type := 0, pos := "law.go:150", after := #[{ on := 11, ground := Ground.data }, { on := 0, ground := Ground.phase }, { on := 1, ground := Ground.phase }, { on := 2, ground := Ground.phase }, { on := 3, ground := Ground.phase }, { on := 4, ground := Ground.phase }, { on := 5, ground := Ground.phase }, { on := 6, ground := Ground.phase }, { on := 7, ground := Ground.phase }, { on := 8, ground := Ground.phase }, { on := 9, ground := Ground.phase }, { on := 10, ground := Ground.phase }], guard := none }) (v := _) rfl (by kernel_rfl) (by kernel_rfl) (by kernel_rfl) (fun _ _ _ h => h) (Or.inl ⟨by rfl, ?hy10⟩) trivial ?rest10
                  case hy10 => (intro w hSw; (try dsimp only at hSw); go_simp; try (with_reducible rfl))
                  try simp only [Act.put, List.setIfInBounds_toArray, List.set_cons_zero, List.set_cons_succ]
                  refine wpAnyH_ready (rs := [13]) (by kernel_rfl) (by simp) ?_
                  refine AllReadyH.cons (o := { dst := none, op := Op.store 31 (Operand.tmp 81) (Operand.tmp 79), type := 0, pos := "law.go:150", after := #[{ on := 12, ground := Ground.data }, { on := 10, ground := Ground.data }, { on := 10, ground := Ground.chain }, { on := 0, ground := Ground.phase }, { on := 1, ground := Ground.phase }, { on := 2, ground := Ground.phase }, { on := 3, ground := Ground.phase }, { on := 4, ground := Ground.phase }, { on := 5, ground := Ground.phase }, { on := 6, ground := Ground.phase }, { on := 7, ground := Ground.phase }, { on := 8, ground := Ground.phase }, { on := 9, ground := Ground.phase }, { on := 10, ground := Ground.phase }], guard := none }) rfl (fun K hK => ?_) AllReadyH.nil
                  go_simp
                  refine hK.out _ _ trivial (fun _ => ?_)
                  clear hK K
                  try simp only [Act.put, List.setIfInBounds_toArray, List.set_cons_zero, List.set_cons_succ]
                  refine wpAnyH_done (by kernel_rfl) ?_ _
                  go_wp2_with fail
                  go_meet
                  refine ⟨rfl, CL.out _ _ _ _ _ _ _ _ _ b5 b6 ho5 ho6 hg7 ho7 hl7⟩
                · go_simp
                  refine (HC.out _ BB5).mono ?_
                  rintro e w6 ⟨p6, c6, rfl, ho6, b6⟩
                  have BB6 := BB5.trans (b6.mono BB5.size)
                  obtain ⟨kx6, kf6, ky6, kr6⟩ := KS.out _ BB6
                  go_wp2_with fail
                  refine hK.out _ _ trivial (fun _ => ?_)
                  clear hK K
                  try simp only [Act.put, List.setIfInBounds_toArray, List.set_cons_zero, List.set_cons_succ]
                  refine wpAnyH_ready (rs := [4, 9]) (by kernel_rfl) (by simp) ?_
                  refine AllReadyH.cons (o := { dst := some 73, op := Op.load 31 (Operand.tmp 72), type := 31, pos := "law.go:150", after := #[{ on := 3, ground := Ground.data }], guard := none }) rfl (fun K hK => ?_) (AllReadyH.cons (o := { dst := some 78, op := Op.buildSlice 31 2 #[(0, Operand.tmp 75), (1, Operand.tmp 77)], type := 31, pos := "law.go:150", after := #[{ on := 6, ground := Ground.data }, { on := 8, ground := Ground.data }], guard := none }) rfl (fun K hK => ?_) AllReadyH.nil)
                  · go_simp
                    refine hK.out _ _ trivial (fun _ => ?_)
                    clear hK K
                    try simp only [Act.put, List.setIfInBounds_toArray, List.set_cons_zero, List.set_cons_succ]
                    refine wpAnyH_ready (rs := [9]) (by kernel_rfl) (by simp) ?_
                    refine AllReadyH.cons (o := { dst := some 78, op := Op.buildSlice 31 2 #[(0, Operand.tmp 75), (1, Operand.tmp 77)], type := 31, pos := "law.go:150", after := #[{ on := 6, ground := Ground.data }, { on := 8, ground := Ground.data }], guard := none }) rfl (fun K hK => ?_) AllReadyH.nil
                    go_simp
                    refine hK.out _ _ trivial (fun _ => ?_)
                    clear hK K
                    try simp only [Act.put, List.setIfInBounds_toArray, List.set_cons_zero, List.set_cons_succ]
                    refine wpAnyH_ready (rs := [10]) (by kernel_rfl) (by simp) ?_
                    refine AllReadyH.cons (o := { dst := some 79, op := Op.call { callee := Callee.builtin Builtin.append, args := #[Operand.tmp 73, Operand.tmp 78], argTypes := #[31, 31] }, type := 31, pos := "law.go:150", after := #[{ on := 4, ground := Ground.data }, { on := 9, ground := Ground.data }, { on := 8, ground := Ground.chain }], guard := none }) rfl (fun K hK => ?_) AllReadyH.nil
                    refine step_append_lies _ rfl _ _ 31 rfl 0 42 iT (.slice none 0 0) 1 24 Tryz.underlying31 IT.out.1 IT.out.2.1 IT.out.2.2.1 IT.out.2.2.2 rfl (by decide) sT nT _ rfl (World.ownsRow.alloc kr6 _) ⟨w6.heap.size, 0, none⟩ 2 2 [.slice p5 d.length c5, .slice p6 d.length c6] rfl rfl (World.news_of_block (heap_new' _ _)) (hone _ _ _ _) (by decide) (by unfold maxLen; omega) (by omega) (Nat.zero_le _) _ rfl ?_
                    intro g7 c7 w7 ho7 hg7 hl7 hlt7
                    have kb7 := hg7.block kb (by simp; omega) hne
                    have kx7 : w7.cell? ⟨kb, 0, none⟩ = some sT := (World.cell?_of_block (a := ⟨kb, 0, none⟩) kb7).trans ((((Gr.refl w6).alloc _).cell ky6).trans kx6)
                    have ky7 : w7.frozen? ⟨kb, 0, none⟩ = false := (frozen_of_block kb7).trans ((((Gr.refl w6).alloc _).frozen ky6).trans kf6)
                    have kz7 : kb < w7.heap.size := Nat.lt_of_lt_of_le ky6 (Nat.le_trans ((Gr.refl w6).alloc _).size hg7.size)
                    refine hK.out _ _ trivial (fun _ => ?_)
                    clear hK K
                    try simp only [Act.put, List.setIfInBounds_toArray, List.set_cons_zero, List.set_cons_succ]
                    refine' wpAnyH_take (i := 11) (oi := { dst := some 80, op := Op.nilCheck (Operand.tmp 69), type := 0, pos := "law.go:150", after := #[{ on := 0, ground := Ground.data }, { on := 0, ground := Ground.phase }, { on := 1, ground := Ground.phase }, { on := 2, ground := Ground.phase }, { on := 3, ground := Ground.phase }, { on := 4, ground := Ground.phase }, { on := 5, ground := Ground.phase }, { on := 6, ground := Ground.phase }, { on := 7, ground := Ground.phase }, { on := 8, ground := Ground.phase }, { on := 9, ground := Ground.phase }, { on := 10, ground := Ground.phase }], guard := none }) (v := _) rfl (by kernel_rfl) (by kernel_rfl) (by kernel_rfl) (fun _ _ _ h => h) (Or.inl ⟨by rfl, ?hy11⟩) trivial ?rest11
                    case hy11 => (intro w hSw; (try dsimp only at hSw); go_simp; try (with_reducible rfl))
                    try simp only [Act.put, List.setIfInBounds_toArray, List.set_cons_zero, List.set_cons_succ]
                    refine' wpAnyH_take (i := 12) (oi := { dst := some 81, op := Op.fieldAddr 34 (Operand.tmp 80) 0, type := 0, pos := "law.go:150", after := #[{ on := 11, ground := Ground.data }, { on := 0, ground := Ground.phase }, { on := 1, ground := Ground.phase }, { on := 2, ground := Ground.phase }, { on := 3, ground := Ground.phase }, { on := 4, ground := Ground.phase }, { on := 5, ground := Ground.phase }, { on := 6, ground := Ground.phase }, { on := 7, ground := Ground.phase }, { on := 8, ground := Ground.phase }, { on := 9, ground := Ground.phase }, { on := 10, ground := Ground.phase }], guard := none }) (v := _) rfl (by kernel_rfl) (by kernel_rfl) (by kernel_rfl) (fun _ _ _ h => h) (Or.inl ⟨by rfl, ?hy12⟩) trivial ?rest12
                    case hy12 => (intro w hSw; (try dsimp only at hSw); go_simp; try (with_reducible rfl))
                    try simp only [Act.put, List.setIfInBounds_toArray, List.set_cons_zero, List.set_cons_succ]
                    refine wpAnyH_ready (rs := [13]) (by kernel_rfl) (by simp) ?_
                    refine AllReadyH.cons (o := { dst := none, op := Op.store 31 (Operand.tmp 81) (Operand.tmp 79), type := 0, pos := "law.go:150", after := #[{ on := 12, ground := Ground.data }, { on := 10, ground := Ground.data }, { on := 10, ground := Ground.chain }, { on := 0, ground := Ground.phase }, { on := 1, ground := Ground.phase }, { on := 2, ground := Ground.phase }, { on := 3, ground := Ground.phase }, { on := 4, ground := Ground.phase }, { on := 5, ground := Ground.phase }, { on := 6, ground := Ground.phase }, { on := 7, ground := Ground.phase }, { on := 8, ground := Ground.phase }, { on := 9, ground := Ground.phase }, { on := 10, ground := Ground.phase }], guard := none }) rfl (fun K hK => ?_) AllReadyH.nil
                    go_simp
                    refine hK.out _ _ trivial (fun _ => ?_)
                    clear hK K
                    try simp only [Act.put, List.setIfInBounds_toArray, List.set_cons_zero, List.set_cons_succ]
                    refine wpAnyH_done (by kernel_rfl) ?_ _
                    go_wp2_with fail
                    go_meet
                    refine ⟨rfl, CL.out _ _ _ _ _ _ _ _ _ b5 b6 ho5 ho6 hg7 ho7 hl7⟩
                  · go_simp
                    refine hK.out _ _ trivial (fun _ => ?_)
                    clear hK K
                    try simp only [Act.put, List.setIfInBounds_toArray, List.set_cons_zero, List.set_cons_succ]
                    refine wpAnyH_ready (rs := [4]) (by kernel_rfl) (by simp) ?_
                    refine AllReadyH.cons (o := { dst := some 73, op := Op.load 31 (Operand.tmp 72), type := 31, pos := "law.go:150", after := #[{ on := 3, ground := Ground.data }], guard := none }) rfl (fun K hK => ?_) AllReadyH.nil
                    go_simp
                    refine hK.out _ _ trivial (fun _ => ?_)
                    clear hK K
                    try simp only [Act.put, List.setIfInBounds_toArray, List.set_cons_zero, List.set_cons_succ]
                    refine wpAnyH_ready (rs := [10]) (by kernel_rfl) (by simp) ?_
                    refine AllReadyH.cons (o := { dst := some 79, op := Op.call { callee := Callee.builtin Builtin.append, args := #[Operand.tmp 73, Operand.tmp 78], argTypes := #[31, 31] }, type := 31, pos := "law.go:150", after := #[{ on := 4, ground := Ground.data }, { on := 9, ground := Ground.data }, { on := 8, ground := Ground.chain }], guard := none }) rfl (fun K hK => ?_) AllReadyH.nil
                    refine step_append_lies _ rfl _ _ 31 rfl 0 42 iT (.slice none 0 0) 1 24 Tryz.underlying31 IT.out.1 IT.out.2.1 IT.out.2.2.1 IT.out.2.2.2 rfl (by decide) sT nT _ rfl (World.ownsRow.alloc kr6 _) ⟨w6.heap.size, 0, none⟩ 2 2 [.slice p5 d.length c5, .slice p6 d.length c6] rfl rfl (World.news_of_block (heap_new' _ _)) (hone _ _ _ _) (by decide) (by unfold maxLen; omega) (by omega) (Nat.zero_le _) _ rfl ?_
                    intro g7 c7 w7 ho7 hg7 hl7 hlt7
                    have kb7 := hg7.block kb (by simp; omega) hne
                    have kx7 : w7.cell? ⟨kb, 0, none⟩ = some sT := (World.cell?_of_block (a := ⟨kb, 0, none⟩) kb7).trans ((((Gr.refl w6).alloc _).cell ky6).trans kx6)
                    have ky7 : w7.frozen? ⟨kb, 0, none⟩ = false := (frozen_of_block kb7).trans ((((Gr.refl w6).alloc _).frozen ky6).trans kf6)
                    have kz7 : kb < w7.heap.size := Nat.lt_of_lt_of_le ky6 (Nat.le_trans ((Gr.refl w6).alloc _).size hg7.size)
                    refine hK.out _ _ trivial (fun _ => ?_)
                    clear hK K
                    try simp only [Act.put, List.setIfInBounds_toArray, List.set_cons_zero, List.set_cons_succ]
                    refine' wpAnyH_take (i := 11) (oi := { dst := some 80, op := Op.nilCheck (Operand.tmp 69), type := 0, pos := "law.go:150", after := #[{ on := 0, ground := Ground.data }, { on := 0, ground := Ground.phase }, { on := 1, ground := Ground.phase }, { on := 2, ground := Ground.phase }, { on := 3, ground := Ground.phase }, { on := 4, ground := Ground.phase }, { on := 5, ground := Ground.phase }, { on := 6, ground := Ground.phase }, { on := 7, ground := Ground.phase }, { on := 8, ground := Ground.phase }, { on := 9, ground := Ground.phase }, { on := 10, ground := Ground.phase }], guard := none }) (v := _) rfl (by kernel_rfl) (by kernel_rfl) (by kernel_rfl) (fun _ _ _ h => h) (Or.inl ⟨by rfl, ?hy13⟩) trivial ?rest13
                    case hy13 => (intro w hSw; (try dsimp only at hSw); go_simp; try (with_reducible rfl))
                    try simp only [Act.put, List.setIfInBounds_toArray, List.set_cons_zero, List.set_cons_succ]
                    refine' wpAnyH_take (i := 12) (oi := { dst := some 81, op := Op.fieldAddr 34 (Operand.tmp 80) 0, type := 0, pos := "law.go:150", after := #[{ on := 11, ground := Ground.data }, { on := 0, ground := Ground.phase }, { on := 1, ground := Ground.phase }, { on := 2, ground := Ground.phase }, { on := 3, ground := Ground.phase }, { on := 4, ground := Ground.phase }, { on := 5, ground := Ground.phase }, { on := 6, ground := Ground.phase }, { on := 7, ground := Ground.phase }, { on := 8, ground := Ground.phase }, { on := 9, ground := Ground.phase }, { on := 10, ground := Ground.phase }], guard := none }) (v := _) rfl (by kernel_rfl) (by kernel_rfl) (by kernel_rfl) (fun _ _ _ h => h) (Or.inl ⟨by rfl, ?hy14⟩) trivial ?rest14
                    case hy14 => (intro w hSw; (try dsimp only at hSw); go_simp; try (with_reducible rfl))
                    try simp only [Act.put, List.setIfInBounds_toArray, List.set_cons_zero, List.set_cons_succ]
                    refine wpAnyH_ready (rs := [13]) (by kernel_rfl) (by simp) ?_
                    refine AllReadyH.cons (o := { dst := none, op := Op.store 31 (Operand.tmp 81) (Operand.tmp 79), type := 0, pos := "law.go:150", after := #[{ on := 12, ground := Ground.data }, { on := 10, ground := Ground.data }, { on := 10, ground := Ground.chain }, { on := 0, ground := Ground.phase }, { on := 1, ground := Ground.phase }, { on := 2, ground := Ground.phase }, { on := 3, ground := Ground.phase }, { on := 4, ground := Ground.phase }, { on := 5, ground := Ground.phase }, { on := 6, ground := Ground.phase }, { on := 7, ground := Ground.phase }, { on := 8, ground := Ground.phase }, { on := 9, ground := Ground.phase }, { on := 10, ground := Ground.phase }], guard := none }) rfl (fun K hK => ?_) AllReadyH.nil
                    go_simp
                    refine hK.out _ _ trivial (fun _ => ?_)
                    clear hK K
                    try simp only [Act.put, List.setIfInBounds_toArray, List.set_cons_zero, List.set_cons_succ]
                    refine wpAnyH_done (by kernel_rfl) ?_ _
                    go_wp2_with fail
                    go_meet
                    refine ⟨rfl, CL.out _ _ _ _ _ _ _ _ _ b5 b6 ho5 ho6 hg7 ho7 hl7⟩
            case rest =>
              obtain ⟨rfl, HP⟩ := hcut
              obtain ⟨V1, C1, ow1, s1, q1, q2, q3, hS2⟩ := HP.out
              have HS2 : Hid (Scr w wc m (nT + 2) nT nD M R V1 VU VD VX C1 CU CD ow1 (.slice (some ⟨g3, 0, none⟩) m c3) (.slice (some ⟨g4, 0, none⟩) m c4) kb s1 sU sD sX) := hS2
              have HQ1 : Hid ((∀ p, p < nT → C1 p = CT p) ∧ C1 nT = d ∧ C1 (nT + 1) = d) := ⟨q1, q2, q3⟩
              clear HP q1 q2 q3 hS2
              go_wp2_with fail
              have KS : Hid (∀ W, Below wc.heap.size wc W → W.cell? ⟨kb, 1, none⟩ = some sU ∧ W.frozen? ⟨kb, 1, none⟩ = false ∧ kb < W.heap.size ∧ W.ownsRow 0 42 1 sU nT ((List.range nT).map VU)) := fun W hb => by
                have h2 := HS2.out.kept hb
                exact ⟨by simp [World.cell?, h2.bk.1], by simp [World.frozen?, h2.bk.1], h2.kbl, h2.bU.1⟩
              have HC : Hid (∀ W, Below wc.heap.size wc W → Calls Tryz.prog 9 #[.pointer (some ⟨(R i).r.b, 0, none⟩)] W fun e w' => ∃ p c, e = .returned (.slice p d.length c) ∧ w'.ownsRow W.heap.size 37 3 (.slice p d.length c) d.length (flT d) ∧ Below W.heap.size W w') := fun W hb => (rmfront_any W _ _ _ ((HS2.out.kept hb).rm i him).1).mono fun e w' ⟨v', R', h1, h2, h3, h4, h5⟩ => by
                rw [(HS2.out.rm i him).2.2] at h4
                have e1 : R' = d := HFX.out R' h3 h4
                subst e1
                obtain ⟨p, c, rfl⟩ := (owns_ls (E := ET) h2.owns).form
                exact ⟨p, c, h1, h2.owns, h5⟩
              have B0 : Below wc.heap.size wc wc.drew := (Gr.refl _).drew.below
              obtain ⟨kx0, kf0, ky0, -⟩ := KS.out _ B0
              have hone : ∀ (p5 p6 : Option Addr) (c5 c6 : Nat), ∀ u ∈ [Value.slice p5 d.length c5, Value.slice p6 d.length c6], u.oneCell' = true := fun p5 p6 c5 c6 u hu => by
                simp at hu
                rcases hu with rfl | rfl <;> rfl
              obtain ⟨iT, hiT, ht0, ht1, ht2⟩ := info_parts infoLt
              have IT : Hid (Tryz.prog.info? 42 = some iT ∧ iT.zero = some (.slice none 0 0) ∧ iT.size = 1 ∧ iT.bytes = 24) := ⟨hiT, ht0, ht1, ht2⟩
              have hne : some kb ≠ sU.ownBlock := fun e => by have := HS2.out.bU.2 kb e.symm; rw [HS2.out.bk.2] at this; omega
              have hnT : nT ≤ 349526 := by have := HB.out.bT; omega
              have CL : Hid (∀ (w5 w6 w7 : World) (p5 p6 : Option Addr) (c5 c6 g7 c7 : Nat), Below wc.drew.heap.size wc.drew w5 → Below w5.heap.size w5 w6 → w5.ownsRow wc.drew.heap.size 37 3 (.slice p5 d.length c5) d.length (flT d) → w6.ownsRow w5.heap.size 37 3 (.slice p6 d.length c6) d.length (flT d) →
                (w6.alloc (.cells #[.slice p5 d.length c5, .slice p6 d.length c6] 42)).grownBy w7 sU.ownBlock → w7.ownsRow 0 42 1 (.slice (some ⟨g7, 0, none⟩) (nT + 2) c7) (nT + 2) ((List.range nT).map VU ++ [.slice p5 d.length c5, .slice p6 d.length c6]) → (sU.ownBlock = some g7 ∨ g7 = (w6.alloc (.cells #[.slice p5 d.length c5, .slice p6 d.length c6] 42)).heap.size) →
                Hid (∃ V2 C2 ow2 s2, (∀ p, p < nT → C2 p = CU p) ∧ C2 nT = d ∧ C2 (nT + 1) = d ∧ Scr w (w7.setCell ⟨kb, 1, none⟩ (.slice (some ⟨g7, 0, none⟩) (nT + 2) c7)) m (nT + 2) (nT + 2) nD M R V1 V2 VD VX C1 C2 CD ow2 (.slice (some ⟨g3, 0, none⟩) m c3) (.slice (some ⟨g4, 0, none⟩) m c4) kb s1 s2 sD sX)) := fun w5 w6 w7 p5 p6 c5 c6 g7 c7 b5 b6 ho5 ho6 hg7 ho7 hl7 => by
                have K7 : Kp (fun q => sU.ownBlock = some q) w6 w7 := (Kp.of_below ((Gr.refl w6).alloc _).below).trans (Kp.grownBy (S := fun q => sU.ownBlock = some q) hg7 (fun _ h => h)) (fun _ _ h => h)
                obtain ⟨V', C', ow', r1, r2, r3, r4⟩ := (HS2.out.kept B0).putU b5 b6 ho5 ho6 K7 ho7 (fun q hq => by rw [own_one hq]; exact hl7.imp id (fun e => by rw [e]; simp))
                exact ⟨V', C', ow', _, r1, r2, r3, r4⟩
              clear hiT ht0 ht1 ht2
              refine wp_region_held_drew (S := fun _ => True) (by kernel_rfl) trivial (fun _ => ?_)
              refine' wpAnyH_take (i := 0) (oi := { dst := some 82, op := Op.move (Operand.tmp 5), type := 30, pos := "law.go:151", after := #[], guard := none }) (v := _) rfl (by kernel_rfl) (by kernel_rfl) (by kernel_rfl) (fun _ _ _ h => h) (Or.inl ⟨by rfl, ?hy15⟩) trivial ?rest15
              case hy15 => (intro w hSw; (try dsimp only at hSw); go_simp; try (with_reducible rfl))
              try simp only [Act.put, List.setIfInBounds_toArray, List.set_cons_zero, List.set_cons_succ]
              refine' wpAnyH_take (i := 1) (oi := { dst := some 83, op := Op.move (Operand.tmp 5), type := 30, pos := "law.go:151", after := #[], guard := none }) (v := _) rfl (by kernel_rfl) (by kernel_rfl) (by kernel_rfl) (fun _ _ _ h => h) (Or.inl ⟨by rfl, ?hy16⟩) trivial ?rest16
              case hy16 => (intro w hSw; (try dsimp only at hSw); go_simp; try (with_reducible rfl))
              try simp only [Act.put, List.setIfInBounds_toArray, List.set_cons_zero, List.set_cons_succ]
              refine' wpAnyH_take (i := 2) (oi := { dst := some 84, op := Op.nilCheck (Operand.tmp 83), type := 0, pos := "law.go:151", after := #[{ on := 1, ground := Ground.data }], guard := none }) (v := _) rfl (by kernel_rfl) (by kernel_rfl) (by kernel_rfl) (fun _ _ _ h => h) (Or.inl ⟨by rfl, ?hy17⟩) trivial ?rest17
              case hy17 => (intro w hSw; (try dsimp only at hSw); go_simp; try (with_reducible rfl))
              try simp only [Act.put, List.setIfInBounds_toArray, List.set_cons_zero, List.set_cons_succ]
              refine' wpAnyH_take (i := 3) (oi := { dst := some 85, op := Op.fieldAddr 34 (Operand.tmp 84) 1, type := 0, pos := "law.go:151", after := #[{ on := 2, ground := Ground.data }], guard := none }) (v := _) rfl (by kernel_rfl) (by kernel_rfl) (by kernel_rfl) (fun _ _ _ h => h) (Or.inl ⟨by rfl, ?hy18⟩) trivial ?rest18
              case hy18 => (intro w hSw; (try dsimp only at hSw); go_simp; try (with_reducible rfl))
              try simp only [Act.put, List.setIfInBounds_toArray, List.set_cons_zero, List.set_cons_succ]
              refine' wpAnyH_take (i := 5) (oi := { dst := some 87, op := Op.move (Operand.tmp 10), type := 27, pos := "law.go:151", after := #[], guard := none }) (v := _) rfl (by kernel_rfl) (by kernel_rfl) (by kernel_rfl) (fun _ _ _ h => h) (Or.inl ⟨by rfl, ?hy19⟩) trivial ?rest19
              case hy19 => (intro w hSw; (try dsimp only at hSw); go_simp; try (with_reducible rfl))
              try simp only [Act.put, List.setIfInBounds_toArray, List.set_cons_zero, List.set_cons_succ]
              refine' wpAnyH_take (i := 7) (oi := { dst := some 89, op := Op.move (Operand.tmp 10), type := 27, pos := "law.go:151", after := #[], guard := none }) (v := _) rfl (by kernel_rfl) (by kernel_rfl) (by kernel_rfl) (fun _ _ _ h => h) (Or.inl ⟨by rfl, ?hy20⟩) trivial ?rest20
              case hy20 => (intro w hSw; (try dsimp only at hSw); go_simp; try (with_reducible rfl))
              try simp only [Act.put, List.setIfInBounds_toArray, List.set_cons_zero, List.set_cons_succ]
              refine wpAnyH_ready (rs := [4, 6]) (by kernel_rfl) (by simp) ?_
              refine AllReadyH.cons (o := { dst := some 86, op := Op.load 31 (Operand.tmp 85), type := 31, pos := "law.go:151", after := #[{ on := 3, ground := Ground.data }], guard := none }) rfl (fun K hK => ?_) (AllReadyH.cons (o := { dst := some 88, op := Op.call { callee := Callee.value (Operand.func 9), args := #[Operand.tmp 87], argTypes := #[27] }, type := 42, pos := "law.go:151", after := #[{ on := 5, ground := Ground.data }], guard := none }) rfl (fun K hK => ?_) AllReadyH.nil)
              · go_simp
                refine hK.out _ _ trivial (fun _ => ?_)
                clear hK K
                try simp only [Act.put, List.setIfInBounds_toArray, List.set_cons_zero, List.set_cons_succ]
                refine wpAnyH_ready (rs := [6]) (by kernel_rfl) (by simp) ?_
                refine AllReadyH.cons (o := { dst := some 88, op := Op.call { callee := Callee.value (Operand.func 9), args := #[Operand.tmp 87], argTypes := #[27] }, type := 42, pos := "law.go:151", after := #[{ on := 5, ground := Ground.data }], guard := none }) rfl (fun K hK => ?_) AllReadyH.nil
                go_simp
                refine (HC.out _ B0).mono ?_
                rintro e w5 ⟨p5, c5, rfl, ho5, b5⟩
                have BB5 := B0.trans (b5.mono B0.size)
                obtain ⟨kx5, kf5, ky5, -⟩ := KS.out _ BB5
                go_wp2_with fail
                refine hK.out _ _ trivial (fun _ => ?_)
                clear hK K
                try simp only [Act.put, List.setIfInBounds_toArray, List.set_cons_zero, List.set_cons_succ]
                refine wpAnyH_ready (rs := [8]) (by kernel_rfl) (by simp) ?_
                refine AllReadyH.cons (o := { dst := some 90, op := Op.call { callee := Callee.value (Operand.func 9), args := #[Operand.tmp 89], argTypes := #[27] }, type := 42, pos := "law.go:151", after := #[{ on := 7, ground := Ground.data }, { on := 6, ground := Ground.chain }], guard := none }) rfl (fun K hK => ?_) AllReadyH.nil
                go_simp
                refine (HC.out _ BB5).mono ?_
                rintro e w6 ⟨p6, c6, rfl, ho6, b6⟩
                have BB6 := BB5.trans (b6.mono BB5.size)
                obtain ⟨kx6, kf6, ky6, kr6⟩ := KS.out _ BB6
                go_wp2_with fail
                refine hK.out _ _ trivial (fun _ => ?_)
                clear hK K
                try simp only [Act.put, List.setIfInBounds_toArray, List.set_cons_zero, List.set_cons_succ]
                refine wpAnyH_ready (rs := [9]) (by kernel_rfl) (by simp) ?_
                refine AllReadyH.cons (o := { dst := some 91, op := Op.buildSlice 31 2 #[(0, Operand.tmp 88), (1, Operand.tmp 90)], type := 31, pos := "law.go:151", after := #[{ on := 6, ground := Ground.data }, { on := 8, ground := Ground.data }], guard := none }) rfl (fun K hK => ?_) AllReadyH.nil
                go_simp
                refine hK.out _ _ trivial (fun _ => ?_)
                clear hK K
                try simp only [Act.put, List.setIfInBounds_toArray, List.set_cons_zero, List.set_cons_succ]
                refine wpAnyH_ready (rs := [10]) (by kernel_rfl) (by simp) ?_
                refine AllReadyH.cons (o := { dst := some 92, op := Op.call { callee := Callee.builtin Builtin.append, args := #[Operand.tmp 86, Operand.tmp 91], argTypes := #[31, 31] }, type := 31, pos := "law.go:151", after := #[{ on := 4, ground := Ground.data }, { on := 9, ground := Ground.data }, { on := 8, ground := Ground.chain }], guard := none }) rfl (fun K hK => ?_) AllReadyH.nil
                refine step_append_lies _ rfl _ _ 31 rfl 0 42 iT (.slice none 0 0) 1 24 Tryz.underlying31 IT.out.1 IT.out.2.1 IT.out.2.2.1 IT.out.2.2.2 rfl (by decide) sU nT _ rfl (World.ownsRow.alloc kr6 _) ⟨w6.heap.size, 0, none⟩ 2 2 [.slice p5 d.length c5, .slice p6 d.length c6] rfl rfl (World.news_of_block (heap_new' _ _)) (hone _ _ _ _) (by decide) (by unfold maxLen; omega) (by omega) (Nat.zero_le _) _ rfl ?_
                intro g7 c7 w7 ho7 hg7 hl7 hlt7
                have kb7 := hg7.block kb (by simp; omega) hne
                have kx7 : w7.cell? ⟨kb, 1, none⟩ = some sU := (World.cell?_of_block (a := ⟨kb, 1, none⟩) kb7).trans ((((Gr.refl w6).alloc _).cell ky6).trans kx6)
                have ky7 : w7.frozen? ⟨kb, 1, none⟩ = false := (frozen_of_block kb7).trans ((((Gr.refl w6).alloc _).frozen ky6).trans kf6)
                have kz7 : kb < w7.heap.size := Nat.lt_of_lt_of_le ky6 (Nat.le_trans ((Gr.refl w6).alloc _).size hg7.size)
                refine hK.out _ _ trivial (fun _ => ?_)
                clear hK K
                try simp only [Act.put, List.setIfInBounds_toArray, List.set_cons_zero, List.set_cons_succ]
                refine' wpAnyH_take (i := 11) (oi := { dst := some 93, op := Op.nilCheck (Operand.tmp 82), type := 0, pos := "law.go:151", after := #[{ on := 0, ground := Ground.data }, { on := 0, ground := Ground.phase }, { on := 1, ground := Ground.phase }, { on := 2, ground := Ground.phase }, { on := 3, ground := Ground.phase }, { on := 4, ground := Ground.phase }, { on := 5, ground := Ground.phase }, { on := 6, ground := Ground.phase }, { on := 7, ground := Ground.phase }, { on := 8, ground := Ground.phase }, { on := 9, ground := Ground.phase }, { on := 10, ground := Ground.phase }], guard := none }) (v := _) rfl (by kernel_rfl) (by kernel_rfl) (by kernel_rfl) (fun _ _ _ h => h) (Or.inl ⟨by rfl, ?hy21⟩) trivial ?rest21
                case hy21 => (intro w hSw; (try dsimp only at hSw); go_simp; try (with_reducible rfl))
                try simp only [Act.put, List.setIfInBounds_toArray, List.set_cons_zero, List.set_cons_succ]
                refine' wpAnyH_take (i := 12) (oi := { dst := some 94, op := Op.fieldAddr 34 (Operand.tmp 93) 1, type := 0, pos := "law.go:151", after := #[{ on := 11, ground := Ground.data }, { on := 0, ground := Ground.phase }, { on := 1, ground := Ground.phase }, { on := 2, ground := Ground.phase }, { on := 3, ground := Ground.phase }, { on := 4, ground := Ground.phase }, { on := 5, ground := Ground.phase }, { on := 6, ground := Ground.phase }, { on := 7, ground := Ground.phase }, { on := 8, ground := Ground.phase }, { on := 9, ground := Ground.phase }, { on := 10, ground := Ground.phase }], guard := none }) (v := _) rfl (by kernel_rfl) (by kernel_rfl) (by kernel_rfl) (fun _ _ _ h => h) (Or.inl ⟨by rfl, ?hy22⟩) trivial ?rest22
                case hy22 => (intro w hSw; (try dsimp only at hSw); go_simp; try (with_reducible rfl))
                try simp only [Act.put, List.setIfInBounds_toArray, List.set_cons_zero, List.set_cons_succ]
                refine wpAnyH_ready (rs := [13]) (by kernel_rfl) (by simp) ?_
                refine AllReadyH.cons (o := { dst := none, op := Op.store 31 (Operand.tmp 94) (Operand.tmp 92), type := 0, pos := "law.go:151", after := #[{ on := 12, ground := Ground.data }, { on := 10, ground := Ground.data }, { on := 10, ground := Ground.chain }, { on := 0, ground := Ground.phase }, { on := 1, ground := Ground.phase }, { on := 2, ground := Ground.phase }, { on := 3, ground := Ground.phase }, { on := 4, ground := Ground.phase }, { on := 5, ground := Ground.phase }, { on := 6, ground := Ground.phase }, { on := 7, ground := Ground.phase }, { on := 8, ground := Ground.phase }, { on := 9, ground := Ground.phase }, { on := 10, ground := Ground.phase }], guard := none }) rfl (fun K hK => ?_) AllReadyH.nil
                go_simp
                refine hK.out _ _ trivial (fun _ => ?_)
                clear hK K
                try simp only [Act.put, List.setIfInBounds_toArray, List.set_cons_zero, List.set_cons_succ]
                refine wpAnyH_done (by kernel_rfl) ?_ _
                obtain ⟨V2, C2, ow2, s2, q1, q2, q3, hS3⟩ := (CL.out _ _ _ _ _ _ _ _ _ b5 b6 ho5 ho6 hg7 ho7 hl7).out
                have HF : Hid (Inv w os (k + 1) (w7.setCell ⟨kb, 1, none⟩ (.slice (some ⟨g7, 0, none⟩) (nT + 2) c7)) (.slice (some ⟨g3, 0, none⟩) m c3) (.slice (some ⟨g4, 0, none⟩) m c4) kb) := Inv.pages HB.out HTS.out hdl HQ1.out ⟨q1, q2, q3⟩ hS3
                clear q1 q2 q3 hS3 HS2 HQ1 CL KS HC ho5 ho6 hg7 ho7 hl7 b5 b6
                go_wp2
                exact ⟨⟨k + 1, by omega, by go_num, HF⟩, by simp [RowKit.intOf]; omega⟩
              · go_simp
                refine (HC.out _ B0).mono ?_
                rintro e w5 ⟨p5, c5, rfl, ho5, b5⟩
                have BB5 := B0.trans (b5.mono B0.size)
                obtain ⟨kx5, kf5, ky5, -⟩ := KS.out _ BB5
                go_wp2_with fail
                refine hK.out _ _ trivial (fun _ => ?_)
                clear hK K
                try simp only [Act.put, List.setIfInBounds_toArray, List.set_cons_zero, List.set_cons_succ]
                refine wpAnyH_ready (rs := [4, 8]) (by kernel_rfl) (by simp) ?_
                refine AllReadyH.cons (o := { dst := some 86, op := Op.load 31 (Operand.tmp 85), type := 31, pos := "law.go:151", after := #[{ on := 3, ground := Ground.data }], guard := none }) rfl (fun K hK => ?_) (AllReadyH.cons (o := { dst := some 90, op := Op.call { callee := Callee.value (Operand.func 9), args := #[Operand.tmp 89], argTypes := #[27] }, type := 42, pos := "law.go:151", after := #[{ on := 7, ground := Ground.data }, { on := 6, ground := Ground.chain }], guard := none }) rfl (fun K hK => ?_) AllReadyH.nil)
                · go_simp
                  refine hK.out _ _ trivial (fun _ => ?_)
                  clear hK K
                  try simp only [Act.put, List.setIfInBounds_toArray, List.set_cons_zero, List.set_cons_succ]
                  refine wpAnyH_ready (rs := [8]) (by kernel_rfl) (by simp) ?_
                  refine AllReadyH.cons (o := { dst := some 90, op := Op.call { callee := Callee.value (Operand.func 9), args := #[Operand.tmp 89], argTypes := #[27] }, type := 42, pos := "law.go:151", after := #[{ on := 7, ground := Ground.data }, { on := 6, ground := Ground.chain }], guard := none }) rfl (fun K hK => ?_) AllReadyH.nil
                  go_simp
                  refine (HC.out _ BB5).mono ?_
                  rintro e w6 ⟨p6, c6, rfl, ho6, b6⟩
                  have BB6 := BB5.trans (b6.mono BB5.size)
                  obtain ⟨kx6, kf6, ky6, kr6⟩ := KS.out _ BB6
                  go_wp2_with fail
                  refine hK.out _ _ trivial (fun _ => ?_)
                  clear hK K
                  try simp only [Act.put, List.setIfInBounds_toArray, List.set_cons_zero, List.set_cons_succ]
                  refine wpAnyH_ready (rs := [9]) (by kernel_rfl) (by simp) ?_
                  refine AllReadyH.cons (o := { dst := some 91, op := Op.buildSlice 31 2 #[(0, Operand.tmp 88), (1, Operand.tmp 90)], type := 31, pos := "law.go:151", after := #[{ on := 6, ground := Ground.data }, { on := 8, ground := Ground.data }], guard := none }) rfl (fun K hK => ?_) AllReadyH.nil
                  go_simp
                  refine hK.out _ _ trivial (fun _ => ?_)
                  clear hK K
                  try simp only [Act.put, List.setIfInBounds_toArray, List.set_cons_zero, List.set_cons_succ]
                  refine wpAnyH_ready (rs := [10]) (by kernel_rfl) (by simp) ?_
                  refine AllReadyH.cons (o := { dst := some 92, op := Op.call { callee := Callee.builtin Builtin.append, args := #[Operand.tmp 86, Operand.tmp 91], argTypes := #[31, 31] }, type := 31, pos := "law.go:151", after := #[{ on := 4, ground := Ground.data }, { on := 9, ground := Ground.data }, { on := 8, ground := Ground.chain }], guard := none }) rfl (fun K hK => ?_) AllReadyH.nil
                  refine step_append_lies _ rfl _ _ 31 rfl 0 42 iT (.slice none 0 0) 1 24 Tryz.underlying31 IT.out.1 IT.out.2.1 IT.out.2.2.1 IT.out.2.2.2 rfl (by decide) sU nT _ rfl (World.ownsRow.alloc kr6 _) ⟨w6.heap.size, 0, none⟩ 2 2 [.slice p5 d.length c5, .slice p6 d.length c6] rfl rfl (World.news_of_block (heap_new' _ _)) (hone _ _ _ _) (by decide) (by unfold maxLen; omega) (by omega) (Nat.zero_le _) _ rfl ?_
                  intro g7 c7 w7 ho7 hg7 hl7 hlt7
                  have kb7 := hg7.block kb (by simp; omega) hne
                  have kx7 : w7.cell? ⟨kb, 1, none⟩ = some sU := (World.cell?_of_block (a := ⟨kb, 1, none⟩) kb7).trans ((((Gr.refl w6).alloc _).cell ky6).trans kx6)
                  have ky7 : w7.frozen? ⟨kb, 1, none⟩ = false := (frozen_of_block kb7).trans ((((Gr.refl w6).alloc _).frozen ky6).trans kf6)
                  have kz7 : kb < w7.heap.size := Nat.lt_of_lt_of_le ky6 (Nat.le_trans ((Gr.refl w6).alloc _).size hg7.size)
                  refine hK.out _ _ trivial (fun _ => ?_)
                  clear hK K
                  try simp only [Act.put, List.setIfInBounds_toArray, List.set_cons_zero, List.set_cons_succ]
                  refine' wpAnyH_take (i := 11) (oi := { dst := some 93, op := Op.nilCheck (Operand.tmp 82), type := 0, pos := "law.go:151", after := #[{ on := 0, ground := Ground.data }, { on := 0, ground := Ground.phase }, { on := 1, ground := Ground.phase }, { on := 2, ground := Ground.phase }, { on := 3, ground := Ground.phase }, { on := 4, ground := Ground.phase }, { on := 5, ground := Ground.phase }, { on := 6, ground := Ground.phase }, { on := 7, ground := Ground.phase }, { on := 8, ground := Ground.phase }, { on := 9, ground := Ground.phase }, { on := 10, ground := Ground.phase }], guard := none }) (v := _) rfl (by kernel_rfl) (by kernel_rfl) (by kernel_rfl) (fun _ _ _ h => h) (Or.inl ⟨by rfl, ?hy23⟩) trivial ?rest23
                  case hy23 => (intro w hSw; (try dsimp only at hSw); go_simp; try (with_reducible rfl))
                  try simp only [Act.put, List.setIfInBounds_toArray, List.set_cons_zero, List.set_cons_succ]
                  refine' wpAnyH_take (i := 12) (oi := { dst := some 94, op := Op.fieldAddr 34 (Operand.tmp 93) 1, type := 0, pos := "law.go:151", after := #[{ on := 11, ground := Ground.data }, { on := 0, ground := Ground.phase }, { on := 1, ground := Ground.phase }, { on := 2, ground := Ground.phase }, { on := 3, ground := Ground.phase }, { on := 4, ground := Ground.phase }, { on := 5, ground := Ground.phase }, { on := 6, ground := Ground.phase }, { on := 7, ground := Ground.phase }, { on := 8, ground := Ground.phase }, { on := 9, ground := Ground.phase }, { on := 10, ground := Ground.phase }], guard := none }) (v := _) rfl (by kernel_rfl) (by kernel_rfl) (by kernel_rfl) (fun _ _ _ h => h) (Or.inl ⟨by rfl, ?hy24⟩) trivial ?rest24
                  case hy24 => (intro w hSw; (try dsimp only at hSw); go_simp; try (with_reducible rfl))
                  try simp only [Act.put, List.setIfInBounds_toArray, List.set_cons_zero, List.set_cons_succ]
                  refine wpAnyH_ready (rs := [13]) (by kernel_rfl) (by simp) ?_
                  refine AllReadyH.cons (o := { dst := none, op := Op.store 31 (Operand.tmp 94) (Operand.tmp 92), type := 0, pos := "law.go:151", after := #[{ on := 12, ground := Ground.data }, { on := 10, ground := Ground.data }, { on := 10, ground := Ground.chain }, { on := 0, ground := Ground.phase }, { on := 1, ground := Ground.phase }, { on := 2, ground := Ground.phase }, { on := 3, ground := Ground.phase }, { on := 4, ground := Ground.phase }, { on := 5, ground := Ground.phase }, { on := 6, ground := Ground.phase }, { on := 7, ground := Ground.phase }, { on := 8, ground := Ground.phase }, { on := 9, ground := Ground.phase }, { on := 10, ground := Ground.phase }], guard := none }) rfl (fun K hK => ?_) AllReadyH.nil
                  go_simp
                  refine hK.out _ _ trivial (fun _ => ?_)
                  clear hK K
                  try simp only [Act.put, List.setIfInBounds_toArray, List.set_cons_zero, List.set_cons_succ]
                  refine wpAnyH_done (by kernel_rfl) ?_ _
                  obtain ⟨V2, C2, ow2, s2, q1, q2, q3, hS3⟩ := (CL.out _ _ _ _ _ _ _ _ _ b5 b6 ho5 ho6 hg7 ho7 hl7).out
                  have HF : Hid (Inv w os (k + 1) (w7.setCell ⟨kb, 1, none⟩ (.slice (some ⟨g7, 0, none⟩) (nT + 2) c7)) (.slice (some ⟨g3, 0, none⟩) m c3) (.slice (some ⟨g4, 0, none⟩) m c4) kb) := Inv.pages HB.out HTS.out hdl HQ1.out ⟨q1, q2, q3⟩ hS3
                  clear q1 q2 q3 hS3 HS2 HQ1 CL KS HC ho5 ho6 hg7 ho7 hl7 b5 b6
                  go_wp2
                  exact ⟨⟨k + 1, by omega, by go_num, HF⟩, by simp [RowKit.intOf]; omega⟩
                · go_simp
                  refine (HC.out _ BB5).mono ?_
                  rintro e w6 ⟨p6, c6, rfl, ho6, b6⟩
                  have BB6 := BB5.trans (b6.mono BB5.size)
                  obtain ⟨kx6, kf6, ky6, kr6⟩ := KS.out _ BB6
                  go_wp2_with fail
                  refine hK.out _ _ trivial (fun _ => ?_)
                  clear hK K
                  try simp only [Act.put, List.setIfInBounds_toArray, List.set_cons_zero, List.set_cons_succ]
                  refine wpAnyH_ready (rs := [4, 9]) (by kernel_rfl) (by simp) ?_
                  refine AllReadyH.cons (o := { dst := some 86, op := Op.load 31 (Operand.tmp 85), type := 31, pos := "law.go:151", after := #[{ on := 3, ground := Ground.data }], guard := none }) rfl (fun K hK => ?_) (AllReadyH.cons (o := { dst := some 91, op := Op.buildSlice 31 2 #[(0, Operand.tmp 88), (1, Operand.tmp 90)], type := 31, pos := "law.go:151", after := #[{ on := 6, ground := Ground.data }, { on := 8, ground := Ground.data }], guard := none }) rfl (fun K hK => ?_) AllReadyH.nil)
                  · go_simp
                    refine hK.out _ _ trivial (fun _ => ?_)
                    clear hK K
                    try simp only [Act.put, List.setIfInBounds_toArray, List.set_cons_zero, List.set_cons_succ]
                    refine wpAnyH_ready (rs := [9]) (by kernel_rfl) (by simp) ?_
                    refine AllReadyH.cons (o := { dst := some 91, op := Op.buildSlice 31 2 #[(0, Operand.tmp 88), (1, Operand.tmp 90)], type := 31, pos := "law.go:151", after := #[{ on := 6, ground := Ground.data }, { on := 8, ground := Ground.data }], guard := none }) rfl (fun K hK => ?_) AllReadyH.nil
                    go_simp
                    refine hK.out _ _ trivial (fun _ => ?_)
                    clear hK K
                    try simp only [Act.put, List.setIfInBounds_toArray, List.set_cons_zero, List.set_cons_succ]
                    refine wpAnyH_ready (rs := [10]) (by kernel_rfl) (by simp) ?_
                    refine AllReadyH.cons (o := { dst := some 92, op := Op.call { callee := Callee.builtin Builtin.append, args := #[Operand.tmp 86, Operand.tmp 91], argTypes := #[31, 31] }, type := 31, pos := "law.go:151", after := #[{ on := 4, ground := Ground.data }, { on := 9, ground := Ground.data }, { on := 8, ground := Ground.chain }], guard := none }) rfl (fun K hK => ?_) AllReadyH.nil
                    refine step_append_lies _ rfl _ _ 31 rfl 0 42 iT (.slice none 0 0) 1 24 Tryz.underlying31 IT.out.1 IT.out.2.1 IT.out.2.2.1 IT.out.2.2.2 rfl (by decide) sU nT _ rfl (World.ownsRow.alloc kr6 _) ⟨w6.heap.size, 0, none⟩ 2 2 [.slice p5 d.length c5, .slice p6 d.length c6] rfl rfl (World.news_of_block (heap_new' _ _)) (hone _ _ _ _) (by decide) (by unfold maxLen; omega) (by omega) (Nat.zero_le _) _ rfl ?_
                    intro g7 c7 w7 ho7 hg7 hl7 hlt7
                    have kb7 := hg7.block kb (by simp; omega) hne
                    have kx7 : w7.cell? ⟨kb, 1, none⟩ = some sU := (World.cell?_of_block (a := ⟨kb, 1, none⟩) kb7).trans ((((Gr.refl w6).alloc _).cell ky6).trans kx6)
                    have ky7 : w7.frozen? ⟨kb, 1, none⟩ = false := (frozen_of_block kb7).trans ((((Gr.refl w6).alloc _).frozen ky6).trans kf6)
                    have kz7 : kb < w7.heap.size := Nat.lt_of_lt_of_le ky6 (Nat.le_trans ((Gr.refl w6).alloc _).size hg7.size)
                    refine hK.out _ _ trivial (fun _ => ?_)
                    clear hK K
                    try simp only [Act.put, List.setIfInBounds_toArray, List.set_cons_zero, List.set_cons_succ]
                    refine' wpAnyH_take (i := 11) (oi := { dst := some 93, op := Op.nilCheck (Operand.tmp 82), type := 0, pos := "law.go:151", after := #[{ on := 0, ground := Ground.data }, { on := 0, ground := Ground.phase }, { on := 1, ground := Ground.phase }, { on := 2, ground := Ground.phase }, { on := 3, ground := Ground.phase }, { on := 4, ground := Ground.phase }, { on := 5, ground := Ground.phase }, { on := 6, ground := Ground.phase }, { on := 7, ground := Ground.phase }, { on := 8, ground := Ground.phase }, { on := 9, ground := Ground.phase }, { on := 10, ground := Ground.phase }], guard := none }) (v := _) rfl (by kernel_rfl) (by kernel_rfl) (by kernel_rfl) (fun _ _ _ h => h) (Or.inl ⟨by rfl, ?hy25⟩) trivial ?rest25
                    case hy25 => (intro w hSw; (try dsimp only at hSw); go_simp; try (with_reducible rfl))
                    try simp only [Act.put, List.setIfInBounds_toArray, List.set_cons_zero, List.set_cons_succ]
                    refine' wpAnyH_take (i := 12) (oi := { dst := some 94, op := Op.fieldAddr 34 (Operand.tmp 93) 1, type := 0, pos := "law.go:151", after := #[{ on := 11, ground := Ground.data }, { on := 0, ground := Ground.phase }, { on := 1, ground := Ground.phase }, { on := 2, ground := Ground.phase }, { on := 3, ground := Ground.phase }, { on := 4, ground := Ground.phase }, { on := 5, ground := Ground.phase }, { on := 6, ground := Ground.phase }, { on := 7, ground := Ground.phase }, { on := 8, ground := Ground.phase }, { on := 9, ground := Ground.phase }, { on := 10, ground := Ground.phase }], guard := none }) (v := _) rfl (by kernel_rfl) (by kernel_rfl) (by kernel_rfl) (fun _ _ _ h => h) (Or.inl ⟨by rfl, ?hy26⟩) trivial ?rest26
                    case hy26 => (intro w hSw; (try dsimp only at hSw); go_simp; try (with_reducible rfl))
                    try simp only [Act.put, List.setIfInBounds_toArray, List.set_cons_zero, List.set_cons_succ]
                    refine wpAnyH_ready (rs := [13]) (by kernel_rfl) (by simp) ?_
                    refine AllReadyH.cons (o := { dst := none, op := Op.store 31 (Operand.tmp 94) (Operand.tmp 92), type := 0, pos := "law.go:151", after := #[{ on := 12, ground := Ground.data }, { on := 10, ground := Ground.data }, { on := 10, ground := Ground.chain }, { on := 0, ground := Ground.phase }, { on := 1, ground := Ground.phase }, { on := 2, ground := Ground.phase }, { on := 3, ground := Ground.phase }, { on := 4, ground := Ground.phase }, { on := 5, ground := Ground.phase }, { on := 6, ground := Ground.phase }, { on := 7, ground := Ground.phase }, { on := 8, ground := Ground.phase }, { on := 9, ground := Ground.phase }, { on := 10, ground := Ground.phase }], guard := none }) rfl (fun K hK => ?_) AllReadyH.nil
                    go_simp
                    refine hK.out _ _ trivial (fun _ => ?_)
                    clear hK K
                    try simp only [Act.put, List.setIfInBounds_toArray, List.set_cons_zero, List.set_cons_succ]
                    refine wpAnyH_done (by kernel_rfl) ?_ _
                    obtain ⟨V2, C2, ow2, s2, q1, q2, q3, hS3⟩ := (CL.out _ _ _ _ _ _ _ _ _ b5 b6 ho5 ho6 hg7 ho7 hl7).out
                    have HF : Hid (Inv w os (k + 1) (w7.setCell ⟨kb, 1, none⟩ (.slice (some ⟨g7, 0, none⟩) (nT + 2) c7)) (.slice (some ⟨g3, 0, none⟩) m c3) (.slice (some ⟨g4, 0, none⟩) m c4) kb) := Inv.pages HB.out HTS.out hdl HQ1.out ⟨q1, q2, q3⟩ hS3
                    clear q1 q2 q3 hS3 HS2 HQ1 CL KS HC ho5 ho6 hg7 ho7 hl7 b5 b6
                    go_wp2
                    exact ⟨⟨k + 1, by omega, by go_num, HF⟩, by simp [RowKit.intOf]; omega⟩
                  · go_simp
                    refine hK.out _ _ trivial (fun _ => ?_)
                    clear hK K
                    try simp only [Act.put, List.setIfInBounds_toArray, List.set_cons_zero, List.set_cons_succ]
                    refine wpAnyH_ready (rs := [4]) (by kernel_rfl) (by simp) ?_
                    refine AllReadyH.cons (o := { dst := some 86, op := Op.load 31 (Operand.tmp 85), type := 31, pos := "law.go:151", after := #[{ on := 3, ground := Ground.data }], guard := none }) rfl (fun K hK => ?_) AllReadyH.nil
                    go_simp
                    refine hK.out _ _ trivial (fun _ => ?_)
                    clear hK K
                    try simp only [Act.put, List.setIfInBounds_toArray, List.set_cons_zero, List.set_cons_succ]
                    refine wpAnyH_ready (rs := [10]) (by kernel_rfl) (by simp) ?_
                    refine AllReadyH.cons (o := { dst := some 92, op := Op.call { callee := Callee.builtin Builtin.append, args := #[Operand.tmp 86, Operand.tmp 91], argTypes := #[31, 31] }, type := 31, pos := "law.go:151", after := #[{ on := 4, ground := Ground.data }, { on := 9, ground := Ground.data }, { on := 8, ground := Ground.chain }], guard := none }) rfl (fun K hK => ?_) AllReadyH.nil
                    refine step_append_lies _ rfl _ _ 31 rfl 0 42 iT (.slice none 0 0) 1 24 Tryz.underlying31 IT.out.1 IT.out.2.1 IT.out.2.2.1 IT.out.2.2.2 rfl (by decide) sU nT _ rfl (World.ownsRow.alloc kr6 _) ⟨w6.heap.size, 0, none⟩ 2 2 [.slice p5 d.length c5, .slice p6 d.length c6] rfl rfl (World.news_of_block (heap_new' _ _)) (hone _ _ _ _) (by decide) (by unfold maxLen; omega) (by omega) (Nat.zero_le _) _ rfl ?_
                    intro g7 c7 w7 ho7 hg7 hl7 hlt7
                    have kb7 := hg7.block kb (by simp; omega) hne
                    have kx7 : w7.cell? ⟨kb, 1, none⟩ = some sU := (World.cell?_of_block (a := ⟨kb, 1, none⟩) kb7).trans ((((Gr.refl w6).alloc _).cell ky6).trans kx6)
                    have ky7 : w7.frozen? ⟨kb, 1, none⟩ = false := (frozen_of_block kb7).trans ((((Gr.refl w6).alloc _).frozen ky6).trans kf6)
                    have kz7 : kb < w7.heap.size := Nat.lt_of_lt_of_le ky6 (Nat.le_trans ((Gr.refl w6).alloc _).size hg7.size)
                    refine hK.out _ _ trivial (fun _ => ?_)
                    clear hK K
                    try simp only [Act.put, List.setIfInBounds_toArray, List.set_cons_zero, List.set_cons_succ]
                    refine' wpAnyH_take (i := 11) (oi := { dst := some 93, op := Op.nilCheck (Operand.tmp 82), type := 0, pos := "law.go:151", after := #[{ on := 0, ground := Ground.data }, { on := 0, ground := Ground.phase }, { on := 1, ground := Ground.phase }, { on := 2, ground := Ground.phase }, { on := 3, ground := Ground.phase }, { on := 4, ground := Ground.phase }, { on := 5, ground := Ground.phase }, { on := 6, ground := Ground.phase }, { on := 7, ground := Ground.phase }, { on := 8, ground := Ground.phase }, { on := 9, ground := Ground.phase }, { on := 10, ground := Ground.phase }], guard := none }) (v := _) rfl (by kernel_rfl) (by kernel_rfl) (by kernel_rfl) (fun _ _ _ h => h) (Or.inl ⟨by rfl, ?hy27⟩) trivial ?rest27
                    case hy27 => (intro w hSw; (try dsimp only at hSw); go_simp; try (with_reducible rfl))
                    try simp only [Act.put, List.setIfInBounds_toArray, List.set_cons_zero, List.set_cons_succ]
                    refine' wpAnyH_take (i := 12) (oi := { dst := some 94, op := Op.fieldAddr 34 (Operand.tmp 93) 1, type := 0, pos := "law.go:151", after := #[{ on := 11, ground := Ground.data }, { on := 0, ground := Ground.phase }, { on := 1, ground := Ground.phase }, { on := 2, ground := Ground.phase }, { on := 3, ground := Ground.phase }, { on := 4, ground := Ground.phase }, { on := 5, ground := Ground.phase }, { on := 6, ground := Ground.phase }, { on := 7, ground := Ground.phase }, { on := 8, ground := Ground.phase }, { on := 9, ground := Ground.phase }, { on := 10, ground := Ground.phase }], guard := none }) (v := _) rfl (by kernel_rfl) (by kernel_rfl) (by kernel_rfl) (fun _ _ _ h => h) (Or.inl ⟨by rfl, ?hy28⟩) trivial ?rest28
                    case hy28 => (intro w hSw; (try dsimp only at hSw); go_simp; try (with_reducible rfl))
                    try simp only [Act.put, List.setIfInBounds_toArray, List.set_cons_zero, List.set_cons_succ]
                    refine wpAnyH_ready (rs := [13]) (by kernel_rfl) (by simp) ?_
                    refine AllReadyH.cons (o := { dst := none, op := Op.store 31 (Operand.tmp 94) (Operand.tmp 92), type := 0, pos := "law.go:151", after := #[{ on := 12, ground := Ground.data }, { on := 10, ground := Ground.data }, { on := 10, ground := Ground.chain }, { on := 0, ground := Ground.phase }, { on := 1, ground := Ground.phase }, { on := 2, ground := Ground.phase }, { on := 3, ground := Ground.phase }, { on := 4, ground := Ground.phase }, { on := 5, ground := Ground.phase }, { on := 6, ground := Ground.phase }, { on := 7, ground := Ground.phase }, { on := 8, ground := Ground.phase }, { on := 9, ground := Ground.phase }, { on := 10, ground := Ground.phase }], guard := none }) rfl (fun K hK => ?_) AllReadyH.nil
                    go_simp
                    refine hK.out _ _ trivial (fun _ => ?_)
                    clear hK K
                    try simp only [Act.put, List.setIfInBounds_toArray, List.set_cons_zero, List.set_cons_succ]
                    refine wpAnyH_done (by kernel_rfl) ?_ _
                    obtain ⟨V2, C2, ow2, s2, q1, q2, q3, hS3⟩ := (CL.out _ _ _ _ _ _ _ _ _ b5 b6 ho5 ho6 hg7 ho7 hl7).out
                    have HF : Hid (Inv w os (k + 1) (w7.setCell ⟨kb, 1, none⟩ (.slice (some ⟨g7, 0, none⟩) (nT + 2) c7)) (.slice (some ⟨g3, 0, none⟩) m c3) (.slice (some ⟨g4, 0, none⟩) m c4) kb) := Inv.pages HB.out HTS.out hdl HQ1.out ⟨q1, q2, q3⟩ hS3
                    clear q1 q2 q3 hS3 HS2 HQ1 CL KS HC ho5 ho6 hg7 ho7 hl7 b5 b6
                    go_wp2
                    exact ⟨⟨k + 1, by omega, by go_num, HF⟩, by simp [RowKit.intOf]; omega⟩
        rcases Decidable.em (o.kind = 2) with hk2 | hk2
        · as_aux_lemma =>
            rw [hk2] at o0
            have S0 : wc.cell? ⟨bo, 2, none⟩ = some (.int .u64 o.t.1.1) ∧ wc.cell? ⟨bo, 3, none⟩ = some (.int .u64 o.t.1.2.1) ∧ wc.cell? ⟨bo, 4, none⟩ = some (.int .u64 o.t.1.2.2) ∧ bo < wc.heap.size ∧ Below wc.heap.size wc wc := ⟨o2, o3, o4, hob, Below.refl _ _⟩
            have keepB : ∀ W W' : World, (W.cell? ⟨bo, 2, none⟩ = some (.int .u64 o.t.1.1) ∧ W.cell? ⟨bo, 3, none⟩ = some (.int .u64 o.t.1.2.1) ∧ W.cell? ⟨bo, 4, none⟩ = some (.int .u64 o.t.1.2.2) ∧ bo < W.heap.size ∧ Below wc.heap.size wc W) → Below W.heap.size W W' → (W'.cell? ⟨bo, 2, none⟩ = some (.int .u64 o.t.1.1) ∧ W'.cell? ⟨bo, 3, none⟩ = some (.int .u64 o.t.1.2.1) ∧ W'.cell? ⟨bo, 4, none⟩ = some (.int .u64 o.t.1.2.2) ∧ bo < W'.heap.size ∧ Below wc.heap.size wc W') := fun W W' h hb =>
              ⟨(hb.cell (p := ⟨bo, 2, none⟩) h.2.2.2.1).trans h.1, (hb.cell (p := ⟨bo, 3, none⟩) h.2.2.2.1).trans h.2.1, (hb.cell (p := ⟨bo, 4, none⟩) h.2.2.2.1).trans h.2.2.1, Nat.lt_of_lt_of_le h.2.2.2.1 hb.size, h.2.2.2.2.trans (hb.mono h.2.2.2.2.size)⟩
            have hse : ∀ q : Bool, (q == q) = true := fun q => by simp
            have hF := (HS1.out.mu i him).2.1
            have hcnf := (HS1.out.rm i him).2.2
            have ho1 : ∀ W, Below wc.heap.size wc W → _ := fun W hb => open_any o.t W ((HS1.out.kept hb).mu i him).1 (by omega)
            have ho2 : ∀ W, Below wc.heap.size wc W → _ := fun W hb => rmfront_any W _ _ _ ((HS1.out.kept hb).rm i him).1
            have ho2' : ∀ W, Below wc.heap.size wc W → Calls Tryz.prog 9 #[rmp (R i).r] W fun e w' => ∃ v', e = .returned v' ∧ Lst w' v' (M i).fr ∧ Below W.heap.size W w' := fun W hb => (ho2 W hb).mono fun e w' ⟨v', R', h1, h2, h3, h4, h5⟩ => ⟨v', h1, by
              rw [hcnf] at h4
              rw [← isFr_same hF h3 h4]
              exact owns_ls (E := ET) h2.owns, h5⟩
            have ho3 : ∀ W v', Lst W v' (M i).fr → _ := fun W v' hv => ropen_any v' (M i).fr o.t W hv (by omega)
            clear ho2 hF hcnf
            go_wp2_with fail
            clear o0 o2 o3 o4 o5 p3 p4
            go_region_held3 (fun W => W.cell? ⟨bo, 2, none⟩ = some (.int .u64 o.t.1.1) ∧ W.cell? ⟨bo, 3, none⟩ = some (.int .u64 o.t.1.2.1) ∧ W.cell? ⟨bo, 4, none⟩ = some (.int .u64 o.t.1.2.2) ∧ bo < W.heap.size ∧ Below wc.heap.size wc W)
              (first | exact S0 | exact keepB _ _ (by assumption) (Gr.refl _).drew.below | exact keepB _ _ (by assumption) (by assumption) | exact keepB _ _ (by assumption) (Gr.below (by assumption)))
              (first | (go_at_call 10; refine (ho1 _ (And.right (And.right (And.right (And.right (by assumption)))))).mono ?_; rintro e w5 ⟨rfl, g5⟩) | (go_at_call 9; refine (ho2' _ (And.right (And.right (And.right (And.right (by assumption)))))).mono ?_; rintro e w6 ⟨v6, rfl, hl6, b6⟩) | (go_at_call 11; refine (ho3 _ _ hl6).mono ?_; rintro e w7 ⟨rfl, g7⟩))
            have HF : Hid (Inv w os (k + 1) w7 (.slice (some ⟨g3, 0, none⟩) m c3) (.slice (some ⟨g4, 0, none⟩) m c4) kb) := Inv.same HB.out HTS.out (HS1.out.kept (((Gr.refl wc).drew.below.trans (g5.below.mono (Nat.le_refl _))).trans ((b6.mono g5.size).trans (g7.below.mono (Nat.le_trans g5.size b6.size)))))
            clear g5 b6 g7 hl6 ho1 ho2' ho3 keepB S0
            go_wp2
            exact ⟨⟨k + 1, by omega, by go_num, HF⟩, by simp [RowKit.intOf]; omega⟩
        rcases Decidable.em (o.kind = 3) with hk3 | hk3
        · as_aux_lemma =>
            rw [hk3] at o0
            have S0 : wc.cell? ⟨bo, 2, none⟩ = some (.int .u64 o.t.1.1) ∧ wc.cell? ⟨bo, 3, none⟩ = some (.int .u64 o.t.1.2.1) ∧ wc.cell? ⟨bo, 4, none⟩ = some (.int .u64 o.t.1.2.2) ∧ bo < wc.heap.size ∧ Below wc.heap.size wc wc := ⟨o2, o3, o4, hob, Below.refl _ _⟩
            have keepB : ∀ W W' : World, (W.cell? ⟨bo, 2, none⟩ = some (.int .u64 o.t.1.1) ∧ W.cell? ⟨bo, 3, none⟩ = some (.int .u64 o.t.1.2.1) ∧ W.cell? ⟨bo, 4, none⟩ = some (.int .u64 o.t.1.2.2) ∧ bo < W.heap.size ∧ Below wc.heap.size wc W) → Below W.heap.size W W' → (W'.cell? ⟨bo, 2, none⟩ = some (.int .u64 o.t.1.1) ∧ W'.cell? ⟨bo, 3, none⟩ = some (.int .u64 o.t.1.2.1) ∧ W'.cell? ⟨bo, 4, none⟩ = some (.int .u64 o.t.1.2.2) ∧ bo < W'.heap.size ∧ Below wc.heap.size wc W') := fun W W' h hb =>
              ⟨(hb.cell (p := ⟨bo, 2, none⟩) h.2.2.2.1).trans h.1, (hb.cell (p := ⟨bo, 3, none⟩) h.2.2.2.1).trans h.2.1, (hb.cell (p := ⟨bo, 4, none⟩) h.2.2.2.1).trans h.2.2.1, Nat.lt_of_lt_of_le h.2.2.2.1 hb.size, h.2.2.2.2.trans (hb.mono h.2.2.2.2.size)⟩
            have hse : ∀ q : Int, (q == q) = true := fun q => by simp
            have hcnf := (HS1.out.rm i him).2.2
            have ho1 : ∀ W, Below wc.heap.size wc W → _ := fun W hb => count_any o.t W ((HS1.out.kept hb).mu i him).1
            have ho2 : ∀ W, Below wc.heap.size wc W → _ := fun W hb => rcount_any W _ _ _ ((HS1.out.kept hb).rm i him).1 o.t
            simp only [hcnf] at ho2
            obtain ⟨q, hq⟩ : ∃ q, q = (M i).f o.t := ⟨_, rfl⟩
            simp only [← hq] at ho1 ho2
            clear hcnf hq
            go_wp2_with fail
            clear o0 o2 o3 o4 o5 p3 p4
            go_region_held3 (fun W => W.cell? ⟨bo, 2, none⟩ = some (.int .u64 o.t.1.1) ∧ W.cell? ⟨bo, 3, none⟩ = some (.int .u64 o.t.1.2.1) ∧ W.cell? ⟨bo, 4, none⟩ = some (.int .u64 o.t.1.2.2) ∧ bo < W.heap.size ∧ Below wc.heap.size wc W)
              (first | exact S0 | exact keepB _ _ (by assumption) (Gr.refl _).drew.below | exact keepB _ _ (by assumption) (Gr.below (by assumption)))
              (first | (go_at_call 12; refine (ho1 _ (And.right (And.right (And.right (And.right (by assumption)))))).mono ?_; rintro e w5 ⟨rfl, g5⟩) | (go_at_call 13; refine (ho2 _ (And.right (And.right (And.right (And.right (by assumption)))))).mono ?_; rintro e w6 ⟨rfl, g6⟩))
            have HF : Hid (Inv w os (k + 1) w6 (.slice (some ⟨g3, 0, none⟩) m c3) (.slice (some ⟨g4, 0, none⟩) m c4) kb) := Inv.same HB.out HTS.out (HS1.out.kept ((Gr.refl wc).drew.trans (g5.trans g6)).below)
            clear g5 g6 ho1 ho2 keepB S0
            go_wp2
            exact ⟨⟨k + 1, by omega, by go_num, HF⟩, by simp [RowKit.intOf]; omega⟩
        rcases Decidable.em (o.kind = 4) with hk4 | hk4
        · as_aux_lemma =>
            rw [hk4] at o0
            have hse : ∀ q : Int, (q == q) = true := fun q => by simp
            have hcnf := (HS1.out.rm i him).2.2
            have hl1 := len_any wc (HS1.out.mu i him).1
            go_wp2_with fail
            refine hl1.mono ?_
            rintro e w5 ⟨ks, hks, rfl, g5⟩
            have hl2 := rtimes_any w5 _ _ _ ((HS1.out.kept g5.below).rm i him).1
            clear hl1
            go_wp2_with fail
            refine hl2.mono ?_
            rintro e w6 ⟨v6, R6, rfl, ho6, hp6, hm6, b6⟩
            rw [hcnf] at hm6
            have e6 : R6.length = ks.length := by rw [times_same hks hp6 hm6, srtBy_length]
            obtain ⟨p6, c6, ev6⟩ := (owns_ls (E := ET) ho6.owns).form
            subst ev6
            rw [e6]
            have HF : Hid (Inv w os (k + 1) w6 (.slice (some ⟨g3, 0, none⟩) m c3) (.slice (some ⟨g4, 0, none⟩) m c4) kb) := Inv.same HB.out HTS.out (HS1.out.kept (g5.below.trans (b6.mono g5.size)))
            clear hl2 hks ho6 hp6 hm6 b6 g5 e6 hcnf o2 o3 o4 o5
            go_wp2
            exact ⟨⟨k + 1, by omega, by go_num, HF⟩, by simp [RowKit.intOf]; omega⟩
        rcases Decidable.em (o.kind = 5) with hk5 | hk5
        · as_aux_lemma =>
            rw [hk5] at o0
            obtain ⟨ks0, hks0, hkl0⟩ := Ml.sup (HS1.out.mu i him).1
            obtain ⟨d, hd⟩ : ∃ d, d = stT ks0 := ⟨_, rfl⟩
            have hdl : d.length ≤ 1048576 := by rw [hd, srtBy_length]; omega
            have HK0 : Hid (Sup (M i).f ks0) := hks0
            have HDX : Hid (d = stT ks0) := hd
            clear hd hks0
            go_wp2_with fail
            clear o0 o2 o3 o4 o5 p3 p4 hk5
            go_cut [11] from 137 to 149 (fun s11 w' => s11 = .bool true ∧ Hid (∃ V1 C1 ow1 s1, (∀ p, p < nT → C1 p = CT p) ∧ C1 nT = d ∧ C1 (nT + 1) = d ∧ Scr w w' m (nT + 2) nT nD M R V1 VU VD VX C1 CU CD ow1 (.slice (some ⟨g3, 0, none⟩) m c3) (.slice (some ⟨g4, 0, none⟩) m c4) kb s1 sU sD sX))
            case first =>
              have KS : Hid (∀ W, Below wc.heap.size wc W → W.cell? ⟨kb, 0, none⟩ = some sT ∧ W.frozen? ⟨kb, 0, none⟩ = false ∧ kb < W.heap.size ∧ W.ownsRow 0 42 1 sT nT ((List.range nT).map VT)) := fun W hb => by
                have h2 := HS1.out.kept hb
                exact ⟨by simp [World.cell?, h2.bk.1], by simp [World.frozen?, h2.bk.1], h2.kbl, h2.bT.1⟩
              have HC : Hid (∀ W, Below wc.heap.size wc W → Calls Tryz.prog 16 #[.pointer (some ⟨(M i).mb, 0, none⟩)] W fun e w' => ∃ p c, e = .returned (.slice p d.length c) ∧ w'.ownsRow W.heap.size 37 3 (.slice p d.length c) d.length (flT d) ∧ Below W.heap.size W w') := fun W hb => (times_any W ((HS1.out.kept hb).mu i him).1 (by omega)).mono fun e w' ⟨v', ks, hs, h1, h2, h3⟩ => by
                have e1 : stT ks = d := by rw [HDX.out]; exact srtBy_of_perm swoT totT (hs.perm HK0.out)
                rw [e1] at h2
                obtain ⟨p, c, rfl⟩ := (owns_ls (E := ET) h2).form
                exact ⟨p, c, h1, h2, h3⟩
              have B0 : Below wc.heap.size wc wc.drew := (Gr.refl _).drew.below
              obtain ⟨kx0, kf0, ky0, -⟩ := KS.out _ B0
              have hone : ∀ (p5 p6 : Option Addr) (c5 c6 : Nat), ∀ u ∈ [Value.slice p5 d.length c5, Value.slice p6 d.length c6], u.oneCell' = true := fun p5 p6 c5 c6 u hu => by
                simp at hu
                rcases hu with rfl | rfl <;> rfl
              obtain ⟨iT, hiT, ht0, ht1, ht2⟩ := info_parts infoLt
              have IT : Hid (Tryz.prog.info? 42 = some iT ∧ iT.zero = some (.slice none 0 0) ∧ iT.size = 1 ∧ iT.bytes = 24) := ⟨hiT, ht0, ht1, ht2⟩
              have hne : some kb ≠ sT.ownBlock := fun e => by have := HS1.out.bT.2 kb e.symm; rw [HS1.out.bk.2] at this; omega
              have hnT : nT ≤ 349526 := by have := HB.out.bT; omega
              have CL : Hid (∀ (w5 w6 w7 : World) (p5 p6 : Option Addr) (c5 c6 g7 c7 : Nat), Below wc.drew.heap.size wc.drew w5 → Below w5.heap.size w5 w6 → w5.ownsRow wc.drew.heap.size 37 3 (.slice p5 d.length c5) d.length (flT d) → w6.ownsRow w5.heap.size 37 3 (.slice p6 d.length c6) d.length (flT d) →
                (w6.alloc (.cells #[.slice p5 d.length c5, .slice p6 d.length c6] 42)).grownBy w7 sT.ownBlock → w7.ownsRow 0 42 1 (.slice (some ⟨g7, 0, none⟩) (nT + 2) c7) (nT + 2) ((List.range nT).map VT ++ [.slice p5 d.length c5, .slice p6 d.length c6]) → (sT.ownBlock = some g7 ∨ g7 = (w6.alloc (.cells #[.slice p5 d.length c5, .slice p6 d.length c6] 42)).heap.size) →
                Hid (∃ V1 C1 ow1 s1, (∀ p, p < nT → C1 p = CT p) ∧ C1 nT = d ∧ C1 (nT + 1) = d ∧ Scr w (w7.setCell ⟨kb, 0, none⟩ (.slice (some ⟨g7, 0, none⟩) (nT + 2) c7)) m (nT + 2) nT nD M R V1 VU VD VX C1 CU CD ow1 (.slice (some ⟨g3, 0, none⟩) m c3) (.slice (some ⟨g4, 0, none⟩) m c4) kb s1 sU sD sX)) := fun w5 w6 w7 p5 p6 c5 c6 g7 c7 b5 b6 ho5 ho6 hg7 ho7 hl7 => by
                have K7 : Kp (fun q => sT.ownBlock = some q) w6 w7 := (Kp.of_below ((Gr.refl w6).alloc _).below).trans (Kp.grownBy (S := fun q => sT.ownBlock = some q) hg7 (fun _ h => h)) (fun _ _ h => h)
                obtain ⟨V', C', ow', r1, r2, r3, r4⟩ := (HS1.out.kept B0).putT b5 b6 ho5 ho6 K7 ho7 (fun q hq => by rw [own_one hq]; exact hl7.imp id (fun e => by rw [e]; simp))
                exact ⟨V', C', ow', _, r1, r2, r3, r4⟩
              clear hiT ht0 ht1 ht2
              refine wp_region_held_drew (S := fun _ => True) (by kernel_rfl) trivial (fun _ => ?_)
              refine' wpAnyH_take (i := 0) (oi := { dst := some 137, op := Op.move (Operand.tmp 5), type := 30, pos := "law.go:159", after := #[], guard := none }) (v := _) rfl (by kernel_rfl) (by kernel_rfl) (by kernel_rfl) (fun _ _ _ h => h) (Or.inl ⟨by rfl, ?hy29⟩) trivial ?rest29
              case hy29 => (intro w hSw; (try dsimp only at hSw); go_simp; try (with_reducible rfl))
              try simp only [Act.put, List.setIfInBounds_toArray, List.set_cons_zero, List.set_cons_succ]
              refine' wpAnyH_take (i := 1) (oi := { dst := some 138, op := Op.move (Operand.tmp 5), type := 30, pos := "law.go:159", after := #[], guard := none }) (v := _) rfl (by kernel_rfl) (by kernel_rfl) (by kernel_rfl) (fun _ _ _ h => h) (Or.inl ⟨by rfl, ?hy30⟩) trivial ?rest30
              case hy30 => (intro w hSw; (try dsimp only at hSw); go_simp; try (with_reducible rfl))
              try simp only [Act.put, List.setIfInBounds_toArray, List.set_cons_zero, List.set_cons_succ]
              refine' wpAnyH_take (i := 2) (oi := { dst := some 139, op := Op.nilCheck (Operand.tmp 138), type := 0, pos := "law.go:159", after := #[{ on := 1, ground := Ground.data }], guard := none }) (v := _) rfl (by kernel_rfl) (by kernel_rfl) (by kernel_rfl) (fun _ _ _ h => h) (Or.inl ⟨by rfl, ?hy31⟩) trivial ?rest31
              case hy31 => (intro w hSw; (try dsimp only at hSw); go_simp; try (with_reducible rfl))
              try simp only [Act.put, List.setIfInBounds_toArray, List.set_cons_zero, List.set_cons_succ]
              refine' wpAnyH_take (i := 3) (oi := { dst := some 140, op := Op.fieldAddr 34 (Operand.tmp 139) 0, type := 0, pos := "law.go:159", after := #[{ on := 2, ground := Ground.data }], guard := none }) (v := _) rfl (by kernel_rfl) (by kernel_rfl) (by kernel_rfl) (fun _ _ _ h => h) (Or.inl ⟨by rfl, ?hy32⟩) trivial ?rest32
              case hy32 => (intro w hSw; (try dsimp only at hSw); go_simp; try (with_reducible rfl))
              try simp only [Act.put, List.setIfInBounds_toArray, List.set_cons_zero, List.set_cons_succ]
              refine' wpAnyH_take (i := 5) (oi := { dst := some 142, op := Op.move (Operand.tmp 9), type := 24, pos := "law.go:159", after := #[], guard := none }) (v := _) rfl (by kernel_rfl) (by kernel_rfl) (by kernel_rfl) (fun _ _ _ h => h) (Or.inl ⟨by rfl, ?hy33⟩) trivial ?rest33
              case hy33 => (intro w hSw; (try dsimp only at hSw); go_simp; try (with_reducible rfl))
              try simp only [Act.put, List.setIfInBounds_toArray, List.set_cons_zero, List.set_cons_succ]
              refine' wpAnyH_take (i := 7) (oi := { dst := some 144, op := Op.move (Operand.tmp 9), type := 24, pos := "law.go:159", after := #[], guard := none }) (v := _) rfl (by kernel_rfl) (by kernel_rfl) (by kernel_rfl) (fun _ _ _ h => h) (Or.inl ⟨by rfl, ?hy34⟩) trivial ?rest34
              case hy34 => (intro w hSw; (try dsimp only at hSw); go_simp; try (with_reducible rfl))
              try simp only [Act.put, List.setIfInBounds_toArray, List.set_cons_zero, List.set_cons_succ]
              refine wpAnyH_ready (rs := [4, 6]) (by kernel_rfl) (by simp) ?_
              refine AllReadyH.cons (o := { dst := some 141, op := Op.load 31 (Operand.tmp 140), type := 31, pos := "law.go:159", after := #[{ on := 3, ground := Ground.data }], guard := none }) rfl (fun K hK => ?_) (AllReadyH.cons (o := { dst := some 143, op := Op.call { callee := Callee.value (Operand.func 16), args := #[Operand.tmp 142], argTypes := #[24] }, type := 42, pos := "law.go:159", after := #[{ on := 5, ground := Ground.data }], guard := none }) rfl (fun K hK => ?_) AllReadyH.nil)
              · go_simp
                refine hK.out _ _ trivial (fun _ => ?_)
                clear hK K
                try simp only [Act.put, List.setIfInBounds_toArray, List.set_cons_zero, List.set_cons_succ]
                refine wpAnyH_ready (rs := [6]) (by kernel_rfl) (by simp) ?_
                refine AllReadyH.cons (o := { dst := some 143, op := Op.call { callee := Callee.value (Operand.func 16), args := #[Operand.tmp 142], argTypes := #[24] }, type := 42, pos := "law.go:159", after := #[{ on := 5, ground := Ground.data }], guard := none }) rfl (fun K hK => ?_) AllReadyH.nil
                go_simp
                refine (HC.out _ B0).mono ?_
                rintro e w5 ⟨p5, c5, rfl, ho5, b5⟩
                have BB5 := B0.trans (b5.mono B0.size)
                obtain ⟨kx5, kf5, ky5, -⟩ := KS.out _ BB5
                go_wp2_with fail
                refine hK.out _ _ trivial (fun _ => ?_)
                clear hK K
                try simp only [Act.put, List.setIfInBounds_toArray, List.set_cons_zero, List.set_cons_succ]
                refine wpAnyH_ready (rs := [8]) (by kernel_rfl) (by simp) ?_
                refine AllReadyH.cons (o := { dst := some 145, op := Op.call { callee := Callee.value (Operand.func 16), args := #[Operand.tmp 144], argTypes := #[24] }, type := 42, pos := "law.go:159", after := #[{ on := 7, ground := Ground.data }, { on := 6, ground := Ground.chain }], guard := none }) rfl (fun K hK => ?_) AllReadyH.nil
                go_simp
                refine (HC.out _ BB5).mono ?_
                rintro e w6 ⟨p6, c6, rfl, ho6, b6⟩
                have BB6 := BB5.trans (b6.mono BB5.size)
                obtain ⟨kx6, kf6, ky6, kr6⟩ := KS.out _ BB6
                go_wp2_with fail
                refine hK.out _ _ trivial (fun _ => ?_)
                clear hK K
                try simp only [Act.put, List.setIfInBounds_toArray, List.set_cons_zero, List.set_cons_succ]
                refine wpAnyH_ready (rs := [9]) (by kernel_rfl) (by simp) ?_
                refine AllReadyH.cons (o := { dst := some 146, op := Op.buildSlice 31 2 #[(0, Operand.tmp 143), (1, Operand.tmp 145)], type := 31, pos := "law.go:159", after := #[{ on := 6, ground := Ground.data }, { on := 8, ground := Ground.data }], guard := none }) rfl (fun K hK => ?_) AllReadyH.nil
                go_simp
                refine hK.out _ _ trivial (fun _ => ?_)
                clear hK K
                try simp only [Act.put, List.setIfInBounds_toArray, List.set_cons_zero, List.set_cons_succ]
                refine wpAnyH_ready (rs := [10]) (by kernel_rfl) (by simp) ?_
                refine AllReadyH.cons (o := { dst := some 147, op := Op.call { callee := Callee.builtin Builtin.append, args := #[Operand.tmp 141, Operand.tmp 146], argTypes := #[31, 31] }, type := 31, pos := "law.go:159", after := #[{ on := 4, ground := Ground.data }, { on := 9, ground := Ground.data }, { on := 8, ground := Ground.chain }], guard := none }) rfl (fun K hK => ?_) AllReadyH.nil
                refine step_append_lies _ rfl _ _ 31 rfl 0 42 iT (.slice none 0 0) 1 24 Tryz.underlying31 IT.out.1 IT.out.2.1 IT.out.2.2.1 IT.out.2.2.2 rfl (by decide) sT nT _ rfl (World.ownsRow.alloc kr6 _) ⟨w6.heap.size, 0, none⟩ 2 2 [.slice p5 d.length c5, .slice p6 d.length c6] rfl rfl (World.news_of_block (heap_new' _ _)) (hone _ _ _ _) (by decide) (by unfold maxLen; omega) (by omega) (Nat.zero_le _) _ rfl ?_
                intro g7 c7 w7 ho7 hg7 hl7 hlt7
                have kb7 := hg7.block kb (by simp; omega) hne
                have kx7 : w7.cell? ⟨kb, 0, none⟩ = some sT := (World.cell?_of_block (a := ⟨kb, 0, none⟩) kb7).trans ((((Gr.refl w6).alloc _).cell ky6).trans kx6)
                have ky7 : w7.frozen? ⟨kb, 0, none⟩ = false := (frozen_of_block kb7).trans ((((Gr.refl w6).alloc _).frozen ky6).trans kf6)
                have kz7 : kb < w7.heap.size := Nat.lt_of_lt_of_le ky6 (Nat.le_trans ((Gr.refl w6).alloc _).size hg7.size)
                refine hK.out _ _ trivial (fun _ => ?_)
                clear hK K
                try simp only [Act.put, List.setIfInBounds_toArray, List.set_cons_zero, List.set_cons_succ]
                refine' wpAnyH_take (i := 11) (oi := { dst := some 148, op := Op.nilCheck (Operand.tmp 137), type := 0, pos := "law.go:159", after := #[{ on := 0, ground := Ground.data }, { on := 0, ground := Ground.phase }, { on := 1, ground := Ground.phase }, { on := 2, ground := Ground.phase }, { on := 3, ground := Ground.phase }, { on := 4, ground := Ground.phase }, { on := 5, ground := Ground.phase }, { on := 6, ground := Ground.phase }, { on := 7, ground := Ground.phase }, { on := 8, ground := Ground.phase }, { on := 9, ground := Ground.phase }, { on := 10, ground := Ground.phase }], guard := none }) (v := _) rfl (by kernel_rfl) (by kernel_rfl) (by kernel_rfl) (fun _ _ _ h => h) (Or.inl ⟨by rfl, ?hy35⟩) trivial ?rest35
                case hy35 => (intro w hSw; (try dsimp only at hSw); go_simp; try (with_reducible rfl))
                try simp only [Act.put, List.setIfInBounds_toArray, List.set_cons_zero, List.set_cons_succ]
                refine' wpAnyH_take (i := 12) (oi := { dst := some 149, op := Op.fieldAddr 34 (Operand.tmp 148) 0, type := 0, pos := "law.go:159", after := #[{ on := 11, ground := Ground.data }, { on := 0, ground := Ground.phase }, { on := 1, ground := Ground.phase }, { on := 2, ground := Ground.phase }, { on := 3, ground := Ground.phase }, { on := 4, ground := Ground.phase }, { on := 5, ground := Ground.phase }, { on := 6, ground := Ground.phase }, { on := 7, ground := Ground.phase }, { on := 8, ground := Ground.phase }, { on := 9, ground := Ground.phase }, { on := 10, ground := Ground.phase }], guard := none }) (v := _) rfl (by kernel_rfl) (by kernel_rfl) (by kernel_rfl) (fun _ _ _ h => h) (Or.inl ⟨by rfl, ?hy36⟩) trivial ?rest36
                case hy36 => (intro w hSw; (try dsimp only at hSw); go_simp; try (with_reducible rfl))
                try simp only [Act.put, List.setIfInBounds_toArray, List.set_cons_zero, List.set_cons_succ]
                refine wpAnyH_ready (rs := [13]) (by kernel_rfl) (by simp) ?_
                refine AllReadyH.cons (o := { dst := none, op := Op.store 31 (Operand.tmp 149) (Operand.tmp 147), type := 0, pos := "law.go:159", after := #[{ on := 12, ground := Ground.data }, { on := 10, ground := Ground.data }, { on := 10, ground := Ground.chain }, { on := 0, ground := Ground.phase }, { on := 1, ground := Ground.phase }, { on := 2, ground := Ground.phase }, { on := 3, ground := Ground.phase }, { on := 4, ground := Ground.phase }, { on := 5, ground := Ground.phase }, { on := 6, ground := Ground.phase }, { on := 7, ground := Ground.phase }, { on := 8, ground := Ground.phase }, { on := 9, ground := Ground.phase }, { on := 10, ground := Ground.phase }], guard := none }) rfl (fun K hK => ?_) AllReadyH.nil
                go_simp
                refine hK.out _ _ trivial (fun _ => ?_)
                clear hK K
                try simp only [Act.put, List.setIfInBounds_toArray, List.set_cons_zero, List.set_cons_succ]
                refine wpAnyH_done (by kernel_rfl) ?_ _
                go_wp2_with fail
                go_meet
                refine ⟨rfl, CL.out _ _ _ _ _ _ _ _ _ b5 b6 ho5 ho6 hg7 ho7 hl7⟩
              · go_simp
                refine (HC.out _ B0).mono ?_
                rintro e w5 ⟨p5, c5, rfl, ho5, b5⟩
                have BB5 := B0.trans (b5.mono B0.size)
                obtain ⟨kx5, kf5, ky5, -⟩ := KS.out _ BB5
                go_wp2_with fail
                refine hK.out _ _ trivial (fun _ => ?_)
                clear hK K
                try simp only [Act.put, List.setIfInBounds_toArray, List.set_cons_zero, List.set_cons_succ]
                refine wpAnyH_ready (rs := [4, 8]) (by kernel_rfl) (by simp) ?_
                refine AllReadyH.cons (o := { dst := some 141, op := Op.load 31 (Operand.tmp 140), type := 31, pos := "law.go:159", after := #[{ on := 3, ground := Ground.data }], guard := none }) rfl (fun K hK => ?_) (AllReadyH.cons (o := { dst := some 145, op := Op.call { callee := Callee.value (Operand.func 16), args := #[Operand.tmp 144], argTypes := #[24] }, type := 42, pos := "law.go:159", after := #[{ on := 7, ground := Ground.data }, { on := 6, ground := Ground.chain }], guard := none }) rfl (fun K hK => ?_) AllReadyH.nil)
                · go_simp
                  refine hK.out _ _ trivial (fun _ => ?_)
                  clear hK K
                  try simp only [Act.put, List.setIfInBounds_toArray, List.set_cons_zero, List.set_cons_succ]
                  refine wpAnyH_ready (rs := [8]) (by kernel_rfl) (by simp) ?_
                  refine AllReadyH.cons (o := { dst := some 145, op := Op.call { callee := Callee.value (Operand.func 16), args := #[Operand.tmp 144], argTypes := #[24] }, type := 42, pos := "law.go:159", after := #[{ on := 7, ground := Ground.data }, { on := 6, ground := Ground.chain }], guard := none }) rfl (fun K hK => ?_) AllReadyH.nil
                  go_simp
                  refine (HC.out _ BB5).mono ?_
                  rintro e w6 ⟨p6, c6, rfl, ho6, b6⟩
                  have BB6 := BB5.trans (b6.mono BB5.size)
                  obtain ⟨kx6, kf6, ky6, kr6⟩ := KS.out _ BB6
                  go_wp2_with fail
                  refine hK.out _ _ trivial (fun _ => ?_)
                  clear hK K
                  try simp only [Act.put, List.setIfInBounds_toArray, List.set_cons_zero, List.set_cons_succ]
                  refine wpAnyH_ready (rs := [9]) (by kernel_rfl) (by simp) ?_
                  refine AllReadyH.cons (o := { dst := some 146, op := Op.buildSlice 31 2 #[(0, Operand.tmp 143), (1, Operand.tmp 145)], type := 31, pos := "law.go:159", after := #[{ on := 6, ground := Ground.data }, { on := 8, ground := Ground.data }], guard := none }) rfl (fun K hK => ?_) AllReadyH.nil
                  go_simp
                  refine hK.out _ _ trivial (fun _ => ?_)
                  clear hK K
                  try simp only [Act.put, List.setIfInBounds_toArray, List.set_cons_zero, List.set_cons_succ]
                  refine wpAnyH_ready (rs := [10]) (by kernel_rfl) (by simp) ?_
                  refine AllReadyH.cons (o := { dst := some 147, op := Op.call { callee := Callee.builtin Builtin.append, args := #[Operand.tmp 141, Operand.tmp 146], argTypes := #[31, 31] }, type := 31, pos := "law.go:159", after := #[{ on := 4, ground := Ground.data }, { on := 9, ground := Ground.data }, { on := 8, ground := Ground.chain }], guard := none }) rfl (fun K hK => ?_) AllReadyH.nil
                  refine step_append_lies _ rfl _ _ 31 rfl 0 42 iT (.slice none 0 0) 1 24 Tryz.underlying31 IT.out.1 IT.out.2.1 IT.out.2.2.1 IT.out.2.2.2 rfl (by decide) sT nT _ rfl (World.ownsRow.alloc kr6 _) ⟨w6.heap.size, 0, none⟩ 2 2 [.slice p5 d.length c5, .slice p6 d.length c6] rfl rfl (World.news_of_block (heap_new' _ _)) (hone _ _ _ _) (by decide) (by unfold maxLen; omega) (by omega) (Nat.zero_le _) _ rfl ?_
                  intro g7 c7 w7 ho7 hg7 hl7 hlt7
                  have kb7 := hg7.block kb (by simp; omega) hne
                  have kx7 : w7.cell? ⟨kb, 0, none⟩ = some sT := (World.cell?_of_block (a := ⟨kb, 0, none⟩) kb7).trans ((((Gr.refl w6).alloc _).cell ky6).trans kx6)
                  have ky7 : w7.frozen? ⟨kb, 0, none⟩ = false := (frozen_of_block kb7).trans ((((Gr.refl w6).alloc _).frozen ky6).trans kf6)
                  have kz7 : kb < w7.heap.size := Nat.lt_of_lt_of_le ky6 (Nat.le_trans ((Gr.refl w6).alloc _).size hg7.size)
                  refine hK.out _ _ trivial (fun _ => ?_)
                  clear hK K
                  try simp only [Act.put, List.setIfInBounds_toArray, List.set_cons_zero, List.set_cons_succ]
                  refine' wpAnyH_take (i := 11) (oi := { dst := some 148, op := Op.nilCheck (Operand.tmp 137), type := 0, pos := "law.go:159", after := #[{ on := 0, ground := Ground.data }, { on := 0, ground := Ground.phase }, { on := 1, ground := Ground.phase }, { on := 2, ground := Ground.phase }, { on := 3, ground := Ground.phase }, { on := 4, ground := Ground.phase }, { on := 5, ground := Ground.phase }, { on := 6, ground := Ground.phase }, { on := 7, ground := Ground.phase }, { on := 8, ground := Ground.phase }, { on := 9, ground := Ground.phase }, { on := 10, ground := Ground.phase }], guard := none }) (v := _) rfl (by kernel_rfl) (by kernel_rfl) (by kernel_rfl) (fun _ _ _ h => h) (Or.inl ⟨by rfl, ?hy37⟩) trivial ?rest37
                  case hy37 => (intro w hSw; (try dsimp only at hSw); go_simp; try (with_reducible rfl))
                  try simp only [Act.put, List.setIfInBounds_toArray, List.set_cons_zero, List.set_cons_succ]
                  refine' wpAnyH_take (i := 12) (oi := { dst := some 149, op := Op.fieldAddr 34 (Operand.tmp 148) 0, type := 0, pos := "law.go:159", after := #[{ on := 11, ground := Ground.data }, { on := 0, ground := Ground.phase }, { on := 1, ground := Ground.phase }, { on := 2, ground := Ground.phase }, { on := 3, ground := Ground.phase }, { on := 4, ground := Ground.phase }, { on := 5, ground := Ground.phase }, { on := 6, ground := Ground.phase }, { on := 7, ground := Ground.phase }, { on := 8, ground := Ground.phase }, { on := 9, ground := Ground.phase }, { on := 10, ground := Ground.phase }], guard := none }) (v := _) rfl (by kernel_rfl) (by kernel_rfl) (by kernel_rfl) (fun _ _ _ h => h) (Or.inl ⟨by rfl, ?hy38⟩) trivial ?rest38
                  case hy38 => (intro w hSw; (try dsimp only at hSw); go_simp; try (with_reducible rfl))
                  try simp only [Act.put, List.setIfInBounds_toArray, List.set_cons_zero, List.set_cons_succ]
                  refine wpAnyH_ready (rs := [13]) (by kernel_rfl) (by simp) ?_
                  refine AllReadyH.cons (o := { dst := none, op := Op.store 31 (Operand.tmp 149) (Operand.tmp 147), type := 0, pos := "law.go:159", after := #[{ on := 12, ground := Ground.data }, { on := 10, ground := Ground.data }, { on := 10, ground := Ground.chain }, { on := 0, ground := Ground.phase }, { on := 1, ground := Ground.phase }, { on := 2, ground := Ground.phase }, { on := 3, ground := Ground.phase }, { on := 4, ground := Ground.phase }, { on := 5, ground := Ground.phase }, { on := 6, ground := Ground.phase }, { on := 7, ground := Ground.phase }, { on := 8, ground := Ground.phase }, { on := 9, ground := Ground.phase }, { on := 10, ground := Ground.phase }], guard := none }) rfl (fun K hK => ?_) AllReadyH.nil
                  go_simp
                  refine hK.out _ _ trivial (fun _ => ?_)
                  clear hK K
                  try simp only [Act.put, List.setIfInBounds_toArray, List.set_cons_zero, List.set_cons_succ]
                  refine wpAnyH_done (by kernel_rfl) ?_ _
                  go_wp2_with fail
                  go_meet
                  refine ⟨rfl, CL.out _ _ _ _ _ _ _ _ _ b5 b6 ho5 ho6 hg7 ho7 hl7⟩
                · go_simp
                  refine (HC.out _ BB5).mono ?_
                  rintro e w6 ⟨p6, c6, rfl, ho6, b6⟩
                  have BB6 := BB5.trans (b6.mono BB5.size)
                  obtain ⟨kx6, kf6, ky6, kr6⟩ := KS.out _ BB6
                  go_wp2_with fail
                  refine hK.out _ _ trivial (fun _ => ?_)
                  clear hK K
                  try simp only [Act.put, List.setIfInBounds_toArray, List.set_cons_zero, List.set_cons_succ]
                  refine wpAnyH_ready (rs := [4, 9]) (by kernel_rfl) (by simp) ?_
                  refine AllReadyH.cons (o := { dst := some 141, op := Op.load 31 (Operand.tmp 140), type := 31, pos := "law.go:159", after := #[{ on := 3, ground := Ground.data }], guard := none }) rfl (fun K hK => ?_) (AllReadyH.cons (o := { dst := some 146, op := Op.buildSlice 31 2 #[(0, Operand.tmp 143), (1, Operand.tmp 145)], type := 31, pos := "law.go:159", after := #[{ on := 6, ground := Ground.data }, { on := 8, ground := Ground.data }], guard := none }) rfl (fun K hK => ?_) AllReadyH.nil)
                  · go_simp
                    refine hK.out _ _ trivial (fun _ => ?_)
                    clear hK K
                    try simp only [Act.put, List.setIfInBounds_toArray, List.set_cons_zero, List.set_cons_succ]
                    refine wpAnyH_ready (rs := [9]) (by kernel_rfl) (by simp) ?_
                    refine AllReadyH.cons (o := { dst := some 146, op := Op.buildSlice 31 2 #[(0, Operand.tmp 143), (1, Operand.tmp 145)], type := 31, pos := "law.go:159", after := #[{ on := 6, ground := Ground.data }, { on := 8, ground := Ground.data }], guard := none }) rfl (fun K hK => ?_) AllReadyH.nil
                    go_simp
                    refine hK.out _ _ trivial (fun _ => ?_)
                    clear hK K
                    try simp only [Act.put, List.setIfInBounds_toArray, List.set_cons_zero, List.set_cons_succ]
                    refine wpAnyH_ready (rs := [10]) (by kernel_rfl) (by simp) ?_
                    refine AllReadyH.cons (o := { dst := some 147, op := Op.call { callee := Callee.builtin Builtin.append, args := #[Operand.tmp 141, Operand.tmp 146], argTypes := #[31, 31] }, type := 31, pos := "law.go:159", after := #[{ on := 4, ground := Ground.data }, { on := 9, ground := Ground.data }, { on := 8, ground := Ground.chain }], guard := none }) rfl (fun K hK => ?_) AllReadyH.nil
                    refine step_append_lies _ rfl _ _ 31 rfl 0 42 iT (.slice none 0 0) 1 24 Tryz.underlying31 IT.out.1 IT.out.2.1 IT.out.2.2.1 IT.out.2.2.2 rfl (by decide) sT nT _ rfl (World.ownsRow.alloc kr6 _) ⟨w6.heap.size, 0, none⟩ 2 2 [.slice p5 d.length c5, .slice p6 d.length c6] rfl rfl (World.news_of_block (heap_new' _ _)) (hone _ _ _ _) (by decide) (by unfold maxLen; omega) (by omega) (Nat.zero_le _) _ rfl ?_
                    intro g7 c7 w7 ho7 hg7 hl7 hlt7
                    have kb7 := hg7.block kb (by simp; omega) hne
                    have kx7 : w7.cell? ⟨kb, 0, none⟩ = some sT := (World.cell?_of_block (a := ⟨kb, 0, none⟩) kb7).trans ((((Gr.refl w6).alloc _).cell ky6).trans kx6)
                    have ky7 : w7.frozen? ⟨kb, 0, none⟩ = false := (frozen_of_block kb7).trans ((((Gr.refl w6).alloc _).frozen ky6).trans kf6)
                    have kz7 : kb < w7.heap.size := Nat.lt_of_lt_of_le ky6 (Nat.le_trans ((Gr.refl w6).alloc _).size hg7.size)
                    refine hK.out _ _ trivial (fun _ => ?_)
                    clear hK K
                    try simp only [Act.put, List.setIfInBounds_toArray, List.set_cons_zero, List.set_cons_succ]
                    refine' wpAnyH_take (i := 11) (oi := { dst := some 148, op := Op.nilCheck (Operand.tmp 137), type := 0, pos := "law.go:159", after := #[{ on := 0, ground := Ground.data }, { on := 0, ground := Ground.phase }, { on := 1, ground := Ground.phase }, { on := 2, ground := Ground.phase }, { on := 3, ground := Ground.phase }, { on := 4, ground := Ground.phase }, { on := 5, ground := Ground.phase }, { on := 6, ground := Ground.phase }, { on := 7, ground := Ground.phase }, { on := 8, ground := Ground.phase }, { on := 9, ground := Ground.phase }, { on := 10, ground := Ground.phase }], guard := none }) (v := _) rfl (by kernel_rfl) (by kernel_rfl) (by kernel_rfl) (fun _ _ _ h => h) (Or.inl ⟨by rfl, ?hy39⟩) trivial ?rest39
                    case hy39 => (intro w hSw; (try dsimp only at hSw); go_simp; try (with_reducible rfl))
                    try simp only [Act.put, List.setIfInBounds_toArray, List.set_cons_zero, List.set_cons_succ]
                    refine' wpAnyH_take (i := 12) (oi := { dst := some 149, op := Op.fieldAddr 34 (Operand.tmp 148) 0, type := 0, pos := "law.go:159", after := #[{ on := 11, ground := Ground.data }, { on := 0, ground := Ground.phase }, { on := 1, ground := Ground.phase }, { on := 2, ground := Ground.phase }, { on := 3, ground := Ground.phase }, { on := 4, ground := Ground.phase }, { on := 5, ground := Ground.phase }, { on := 6, ground := Ground.phase }, { on := 7, ground := Ground.phase }, { on := 8, ground := Ground.phase }, { on := 9, ground := Ground.phase }, { on := 10, ground := Ground.phase }], guard := none }) (v := _) rfl (by kernel_rfl) (by kernel_rfl) (by kernel_rfl) (fun _ _ _ h => h) (Or.inl ⟨by rfl, ?hy40⟩) trivial ?rest40
                    case hy40 => (intro w hSw; (try dsimp only at hSw); go_simp; try (with_reducible rfl))
                    try simp only [Act.put, List.setIfInBounds_toArray, List.set_cons_zero, List.set_cons_succ]
                    refine wpAnyH_ready (rs := [13]) (by kernel_rfl) (by simp) ?_
                    refine AllReadyH.cons (o := { dst := none, op := Op.store 31 (Operand.tmp 149) (Operand.tmp 147), type := 0, pos := "law.go:159", after := #[{ on := 12, ground := Ground.data }, { on := 10, ground := Ground.data }, { on := 10, ground := Ground.chain }, { on := 0, ground := Ground.phase }, { on := 1, ground := Ground.phase }, { on := 2, ground := Ground.phase }, { on := 3, ground := Ground.phase }, { on := 4, ground := Ground.phase }, { on := 5, ground := Ground.phase }, { on := 6, ground := Ground.phase }, { on := 7, ground := Ground.phase }, { on := 8, ground := Ground.phase }, { on := 9, ground := Ground.phase }, { on := 10, ground := Ground.phase }], guard := none }) rfl (fun K hK => ?_) AllReadyH.nil
                    go_simp
                    refine hK.out _ _ trivial (fun _ => ?_)
                    clear hK K
                    try simp only [Act.put, List.setIfInBounds_toArray, List.set_cons_zero, List.set_cons_succ]
                    refine wpAnyH_done (by kernel_rfl) ?_ _
                    go_wp2_with fail
                    go_meet
                    refine ⟨rfl, CL.out _ _ _ _ _ _ _ _ _ b5 b6 ho5 ho6 hg7 ho7 hl7⟩
                  · go_simp
                    refine hK.out _ _ trivial (fun _ => ?_)
                    clear hK K
                    try simp only [Act.put, List.setIfInBounds_toArray, List.set_cons_zero, List.set_cons_succ]
                    refine wpAnyH_ready (rs := [4]) (by kernel_rfl) (by simp) ?_
                    refine AllReadyH.cons (o := { dst := some 141, op := Op.load 31 (Operand.tmp 140), type := 31, pos := "law.go:159", after := #[{ on := 3, ground := Ground.data }], guard := none }) rfl (fun K hK => ?_) AllReadyH.nil
                    go_simp
                    refine hK.out _ _ trivial (fun _ => ?_)
                    clear hK K
                    try simp only [Act.put, List.setIfInBounds_toArray, List.set_cons_zero, List.set_cons_succ]
                    refine wpAnyH_ready (rs := [10]) (by kernel_rfl) (by simp) ?_
                    refine AllReadyH.cons (o := { dst := some 147, op := Op.call { callee := Callee.builtin Builtin.append, args := #[Operand.tmp 141, Operand.tmp 146], argTypes := #[31, 31] }, type := 31, pos := "law.go:159", after := #[{ on := 4, ground := Ground.data }, { on := 9, ground := Ground.data }, { on := 8, ground := Ground.chain }], guard := none }) rfl (fun K hK => ?_) AllReadyH.nil
                    refine step_append_lies _ rfl _ _ 31 rfl 0 42 iT (.slice none 0 0) 1 24 Tryz.underlying31 IT.out.1 IT.out.2.1 IT.out.2.2.1 IT.out.2.2.2 rfl (by decide) sT nT _ rfl (World.ownsRow.alloc kr6 _) ⟨w6.heap.size, 0, none⟩ 2 2 [.slice p5 d.length c5, .slice p6 d.length c6] rfl rfl (World.news_of_block (heap_new' _ _)) (hone _ _ _ _) (by decide) (by unfold maxLen; omega) (by omega) (Nat.zero_le _) _ rfl ?_
                    intro g7 c7 w7 ho7 hg7 hl7 hlt7
                    have kb7 := hg7.block kb (by simp; omega) hne
                    have kx7 : w7.cell? ⟨kb, 0, none⟩ = some sT := (World.cell?_of_block (a := ⟨kb, 0, none⟩) kb7).trans ((((Gr.refl w6).alloc _).cell ky6).trans kx6)
                    have ky7 : w7.frozen? ⟨kb, 0, none⟩ = false := (frozen_of_block kb7).trans ((((Gr.refl w6).alloc _).frozen ky6).trans kf6)
                    have kz7 : kb < w7.heap.size := Nat.lt_of_lt_of_le ky6 (Nat.le_trans ((Gr.refl w6).alloc _).size hg7.size)
                    refine hK.out _ _ trivial (fun _ => ?_)
                    clear hK K
                    try simp only [Act.put, List.setIfInBounds_toArray, List.set_cons_zero, List.set_cons_succ]
                    refine' wpAnyH_take (i := 11) (oi := { dst := some 148, op := Op.nilCheck (Operand.tmp 137), type := 0, pos := "law.go:159", after := #[{ on := 0, ground := Ground.data }, { on := 0, ground := Ground.phase }, { on := 1, ground := Ground.phase }, { on := 2, ground := Ground.phase }, { on := 3, ground := Ground.phase }, { on := 4, ground := Ground.phase }, { on := 5, ground := Ground.phase }, { on := 6, ground := Ground.phase }, { on := 7, ground := Ground.phase }, { on := 8, ground := Ground.phase }, { on := 9, ground := Ground.phase }, { on := 10, ground := Ground.phase }], guard := none }) (v := _) rfl (by kernel_rfl) (by kernel_rfl) (by kernel_rfl) (fun _ _ _ h => h) (Or.inl ⟨by rfl, ?hy41⟩) trivial ?rest41
                    case hy41 => (intro w hSw; (try dsimp only at hSw); go_simp; try (with_reducible rfl))
                    try simp only [Act.put, List.setIfInBounds_toArray, List.set_cons_zero, List.set_cons_succ]
                    refine' wpAnyH_take (i := 12) (oi := { dst := some 149, op := Op.fieldAddr 34 (Operand.tmp 148) 0, type := 0, pos := "law.go:159", after := #[{ on := 11, ground := Ground.data }, { on := 0, ground := Ground.phase }, { on := 1, ground := Ground.phase }, { on := 2, ground := Ground.phase }, { on := 3, ground := Ground.phase }, { on := 4, ground := Ground.phase }, { on := 5, ground := Ground.phase }, { on := 6, ground := Ground.phase }, { on := 7, ground := Ground.phase }, { on := 8, ground := Ground.phase }, { on := 9, ground := Ground.phase }, { on := 10, ground := Ground.phase }], guard := none }) (v := _) rfl (by kernel_rfl) (by kernel_rfl) (by kernel_rfl) (fun _ _ _ h => h) (Or.inl ⟨by rfl, ?hy42⟩) trivial ?rest42
                    case hy42 => (intro w hSw; (try dsimp only at hSw); go_simp; try (with_reducible rfl))
                    try simp only [Act.put, List.setIfInBounds_toArray, List.set_cons_zero, List.set_cons_succ]
                    refine wpAnyH_ready (rs := [13]) (by kernel_rfl) (by simp) ?_
                    refine AllReadyH.cons (o := { dst := none, op := Op.store 31 (Operand.tmp 149) (Operand.tmp 147), type := 0, pos := "law.go:159", after := #[{ on := 12, ground := Ground.data }, { on := 10, ground := Ground.data }, { on := 10, ground := Ground.chain }, { on := 0, ground := Ground.phase }, { on := 1, ground := Ground.phase }, { on := 2, ground := Ground.phase }, { on := 3, ground := Ground.phase }, { on := 4, ground := Ground.phase }, { on := 5, ground := Ground.phase }, { on := 6, ground := Ground.phase }, { on := 7, ground := Ground.phase }, { on := 8, ground := Ground.phase }, { on := 9, ground := Ground.phase }, { on := 10, ground := Ground.phase }], guard := none }) rfl (fun K hK => ?_) AllReadyH.nil
                    go_simp
                    refine hK.out _ _ trivial (fun _ => ?_)
                    clear hK K
                    try simp only [Act.put, List.setIfInBounds_toArray, List.set_cons_zero, List.set_cons_succ]
                    refine wpAnyH_done (by kernel_rfl) ?_ _
                    go_wp2_with fail
                    go_meet
                    refine ⟨rfl, CL.out _ _ _ _ _ _ _ _ _ b5 b6 ho5 ho6 hg7 ho7 hl7⟩
            case rest =>
              obtain ⟨rfl, HP⟩ := hcut
              obtain ⟨V1, C1, ow1, s1, q1, q2, q3, hS2⟩ := HP.out
              have HS2 : Hid (Scr w wc m (nT + 2) nT nD M R V1 VU VD VX C1 CU CD ow1 (.slice (some ⟨g3, 0, none⟩) m c3) (.slice (some ⟨g4, 0, none⟩) m c4) kb s1 sU sD sX) := hS2
              have HQ1 : Hid ((∀ p, p < nT → C1 p = CT p) ∧ C1 nT = d ∧ C1 (nT + 1) = d) := ⟨q1, q2, q3⟩
              clear HP q1 q2 q3 hS2
              go_wp2_with fail
              have KS : Hid (∀ W, Below wc.heap.size wc W → W.cell? ⟨kb, 1, none⟩ = some sU ∧ W.frozen? ⟨kb, 1, none⟩ = false ∧ kb < W.heap.size ∧ W.ownsRow 0 42 1 sU nT ((List.range nT).map VU)) := fun W hb => by
                have h2 := HS2.out.kept hb
                exact ⟨by simp [World.cell?, h2.bk.1], by simp [World.frozen?, h2.bk.1], h2.kbl, h2.bU.1⟩
              have HC : Hid (∀ W, Below wc.heap.size wc W → Calls Tryz.prog 15 #[.pointer (some ⟨(R i).r.b, 0, none⟩)] W fun e w' => ∃ p c, e = .returned (.slice p d.length c) ∧ w'.ownsRow W.heap.size 37 3 (.slice p d.length c) d.length (flT d) ∧ Below W.heap.size W w') := fun W hb => (rtimes_any W _ _ _ ((HS2.out.kept hb).rm i him).1).mono fun e w' ⟨v', R', h1, h2, h3, h4, h5⟩ => by
                rw [(HS2.out.rm i him).2.2] at h4
                have e1 : R' = d := by rw [HDX.out]; exact times_same HK0.out h3 h4
                subst e1
                obtain ⟨p, c, rfl⟩ := (owns_ls (E := ET) h2.owns).form
                exact ⟨p, c, h1, h2.owns, h5⟩
              have B0 : Below wc.heap.size wc wc.drew := (Gr.refl _).drew.below
              obtain ⟨kx0, kf0, ky0, -⟩ := KS.out _ B0
              have hone : ∀ (p5 p6 : Option Addr) (c5 c6 : Nat), ∀ u ∈ [Value.slice p5 d.length c5, Value.slice p6 d.length c6], u.oneCell' = true := fun p5 p6 c5 c6 u hu => by
                simp at hu
                rcases hu with rfl | rfl <;> rfl
              obtain ⟨iT, hiT, ht0, ht1, ht2⟩ := info_parts infoLt
              have IT : Hid (Tryz.prog.info? 42 = some iT ∧ iT.zero = some (.slice none 0 0) ∧ iT.size = 1 ∧ iT.bytes = 24) := ⟨hiT, ht0, ht1, ht2⟩
              have hne : some kb ≠ sU.ownBlock := fun e => by have := HS2.out.bU.2 kb e.symm; rw [HS2.out.bk.2] at this; omega
              have hnT : nT ≤ 349526 := by have := HB.out.bT; omega
              have CL : Hid (∀ (w5 w6 w7 : World) (p5 p6 : Option Addr) (c5 c6 g7 c7 : Nat), Below wc.drew.heap.size wc.drew w5 → Below w5.heap.size w5 w6 → w5.ownsRow wc.drew.heap.size 37 3 (.slice p5 d.length c5) d.length (flT d) → w6.ownsRow w5.heap.size 37 3 (.slice p6 d.length c6) d.length (flT d) →
                (w6.alloc (.cells #[.slice p5 d.length c5, .slice p6 d.length c6] 42)).grownBy w7 sU.ownBlock → w7.ownsRow 0 42 1 (.slice (some ⟨g7, 0, none⟩) (nT + 2) c7) (nT + 2) ((List.range nT).map VU ++ [.slice p5 d.length c5, .slice p6 d.length c6]) → (sU.ownBlock = some g7 ∨ g7 = (w6.alloc (.cells #[.slice p5 d.length c5, .slice p6 d.length c6] 42)).heap.size) →
                Hid (∃ V2 C2 ow2 s2, (∀ p, p < nT → C2 p = CU p) ∧ C2 nT = d ∧ C2 (nT + 1) = d ∧ Scr w (w7.setCell ⟨kb, 1, none⟩ (.slice (some ⟨g7, 0, none⟩) (nT + 2) c7)) m (nT + 2) (nT + 2) nD M R V1 V2 VD VX C1 C2 CD ow2 (.slice (some ⟨g3, 0, none⟩) m c3) (.slice (some ⟨g4, 0, none⟩) m c4) kb s1 s2 sD sX)) := fun w5 w6 w7 p5 p6 c5 c6 g7 c7 b5 b6 ho5 ho6 hg7 ho7 hl7 => by
                have K7 : Kp (fun q => sU.ownBlock = some q) w6 w7 := (Kp.of_below ((Gr.refl w6).alloc _).below).trans (Kp.grownBy (S := fun q => sU.ownBlock = some q) hg7 (fun _ h => h)) (fun _ _ h => h)
                obtain ⟨V', C', ow', r1, r2, r3, r4⟩ := (HS2.out.kept B0).putU b5 b6 ho5 ho6 K7 ho7 (fun q hq => by rw [own_one hq]; exact hl7.imp id (fun e => by rw [e]; simp))
                exact ⟨V', C', ow', _, r1, r2, r3, r4⟩
              clear hiT ht0 ht1 ht2
              refine wp_region_held_drew (S := fun _ => True) (by kernel_rfl) trivial (fun _ => ?_)
              refine' wpAnyH_take (i := 0) (oi := { dst := some 150, op := Op.move (Operand.tmp 5), type := 30, pos := "law.go:160", after := #[], guard := none }) (v := _) rfl (by kernel_rfl) (by kernel_rfl) (by kernel_rfl) (fun _ _ _ h => h) (Or.inl ⟨by rfl, ?hy43⟩) trivial ?rest43
              case hy43 => (intro w hSw; (try dsimp only at hSw); go_simp; try (with_reducible rfl))
              try simp only [Act.put, List.setIfInBounds_toArray, List.set_cons_zero, List.set_cons_succ]
              refine' wpAnyH_take (i := 1) (oi := { dst := some 151, op := Op.move (Operand.tmp 5), type := 30, pos := "law.go:160", after := #[], guard := none }) (v := _) rfl (by kernel_rfl) (by kernel_rfl) (by kernel_rfl) (fun _ _ _ h => h) (Or.inl ⟨by rfl, ?hy44⟩) trivial ?rest44
              case hy44 => (intro w hSw; (try dsimp only at hSw); go_simp; try (with_reducible rfl))
              try simp only [Act.put, List.setIfInBounds_toArray, List.set_cons_zero, List.set_cons_succ]
              refine' wpAnyH_take (i := 2) (oi := { dst := some 152, op := Op.nilCheck (Operand.tmp 151), type := 0, pos := "law.go:160", after := #[{ on := 1, ground := Ground.data }], guard := none }) (v := _) rfl (by kernel_rfl) (by kernel_rfl) (by kernel_rfl) (fun _ _ _ h => h) (Or.inl ⟨by rfl, ?hy45⟩) trivial ?rest45
              case hy45 => (intro w hSw; (try dsimp only at hSw); go_simp; try (with_reducible rfl))
              try simp only [Act.put, List.setIfInBounds_toArray, List.set_cons_zero, List.set_cons_succ]
              refine' wpAnyH_take (i := 3) (oi := { dst := some 153, op := Op.fieldAddr 34 (Operand.tmp 152) 1, type := 0, pos := "law.go:160", after := #[{ on := 2, ground := Ground.data }], guard := none }) (v := _) rfl (by kernel_rfl) (by kernel_rfl) (by kernel_rfl) (fun _ _ _ h => h) (Or.inl ⟨by rfl, ?hy46⟩) trivial ?rest46
              case hy46 => (intro w hSw; (try dsimp only at hSw); go_simp; try (with_reducible rfl))
              try simp only [Act.put, List.setIfInBounds_toArray, List.set_cons_zero, List.set_cons_succ]
              refine' wpAnyH_take (i := 5) (oi := { dst := some 155, op := Op.move (Operand.tmp 10), type := 27, pos := "law.go:160", after := #[], guard := none }) (v := _) rfl (by kernel_rfl) (by kernel_rfl) (by kernel_rfl) (fun _ _ _ h => h) (Or.inl ⟨by rfl, ?hy47⟩) trivial ?rest47
              case hy47 => (intro w hSw; (try dsimp only at hSw); go_simp; try (with_reducible rfl))
              try simp only [Act.put, List.setIfInBounds_toArray, List.set_cons_zero, List.set_cons_succ]
              refine' wpAnyH_take (i := 7) (oi := { dst := some 157, op := Op.move (Operand.tmp 10), type := 27, pos := "law.go:160", after := #[], guard := none }) (v := _) rfl (by kernel_rfl) (by kernel_rfl) (by kernel_rfl) (fun _ _ _ h => h) (Or.inl ⟨by rfl, ?hy48⟩) trivial ?rest48
              case hy48 => (intro w hSw; (try dsimp only at hSw); go_simp; try (with_reducible rfl))
              try simp only [Act.put, List.setIfInBounds_toArray, List.set_cons_zero, List.set_cons_succ]
              refine wpAnyH_ready (rs := [4, 6]) (by kernel_rfl) (by simp) ?_
              refine AllReadyH.cons (o := { dst := some 154, op := Op.load 31 (Operand.tmp 153), type := 31, pos := "law.go:160", after := #[{ on := 3, ground := Ground.data }], guard := none }) rfl (fun K hK => ?_) (AllReadyH.cons (o := { dst := some 156, op := Op.call { callee := Callee.value (Operand.func 15), args := #[Operand.tmp 155], argTypes := #[27] }, type := 42, pos := "law.go:160", after := #[{ on := 5, ground := Ground.data }], guard := none }) rfl (fun K hK => ?_) AllReadyH.nil)
              · go_simp
                refine hK.out _ _ trivial (fun _ => ?_)
                clear hK K
                try simp only [Act.put, List.setIfInBounds_toArray, List.set_cons_zero, List.set_cons_succ]
                refine wpAnyH_ready (rs := [6]) (by kernel_rfl) (by simp) ?_
                refine AllReadyH.cons (o := { dst := some 156, op := Op.call { callee := Callee.value (Operand.func 15), args := #[Operand.tmp 155], argTypes := #[27] }, type := 42, pos := "law.go:160", after := #[{ on := 5, ground := Ground.data }], guard := none }) rfl (fun K hK => ?_) AllReadyH.nil
                go_simp
                refine (HC.out _ B0).mono ?_
                rintro e w5 ⟨p5, c5, rfl, ho5, b5⟩
                have BB5 := B0.trans (b5.mono B0.size)
                obtain ⟨kx5, kf5, ky5, -⟩ := KS.out _ BB5
                go_wp2_with fail
                refine hK.out _ _ trivial (fun _ => ?_)
                clear hK K
                try simp only [Act.put, List.setIfInBounds_toArray, List.set_cons_zero, List.set_cons_succ]
                refine wpAnyH_ready (rs := [8]) (by kernel_rfl) (by simp) ?_
                refine AllReadyH.cons (o := { dst := some 158, op := Op.call { callee := Callee.value (Operand.func 15), args := #[Operand.tmp 157], argTypes := #[27] }, type := 42, pos := "law.go:160", after := #[{ on := 7, ground := Ground.data }, { on := 6, ground := Ground.chain }], guard := none }) rfl (fun K hK => ?_) AllReadyH.nil
                go_simp
                refine (HC.out _ BB5).mono ?_
                rintro e w6 ⟨p6, c6, rfl, ho6, b6⟩
                have BB6 := BB5.trans (b6.mono BB5.size)
                obtain ⟨kx6, kf6, ky6, kr6⟩ := KS.out _ BB6
                go_wp2_with fail
                refine hK.out _ _ trivial (fun _ => ?_)
                clear hK K
                try simp only [Act.put, List.setIfInBounds_toArray, List.set_cons_zero, List.set_cons_succ]
                refine wpAnyH_ready (rs := [9]) (by kernel_rfl) (by simp) ?_
                refine AllReadyH.cons (o := { dst := some 159, op := Op.buildSlice 31 2 #[(0, Operand.tmp 156), (1, Operand.tmp 158)], type := 31, pos := "law.go:160", after := #[{ on := 6, ground := Ground.data }, { on := 8, ground := Ground.data }], guard := none }) rfl (fun K hK => ?_) AllReadyH.nil
                go_simp
                refine hK.out _ _ trivial (fun _ => ?_)
                clear hK K
                try simp only [Act.put, List.setIfInBounds_toArray, List.set_cons_zero, List.set_cons_succ]
                refine wpAnyH_ready (rs := [10]) (by kernel_rfl) (by simp) ?_
                refine AllReadyH.cons (o := { dst := some 160, op := Op.call { callee := Callee.builtin Builtin.append, args := #[Operand.tmp 154, Operand.tmp 159], argTypes := #[31, 31] }, type := 31, pos := "law.go:160", after := #[{ on := 4, ground := Ground.data }, { on := 9, ground := Ground.data }, { on := 8, ground := Ground.chain }], guard := none }) rfl (fun K hK => ?_) AllReadyH.nil
                refine step_append_lies _ rfl _ _ 31 rfl 0 42 iT (.slice none 0 0) 1 24 Tryz.underlying31 IT.out.1 IT.out.2.1 IT.out.2.2.1 IT.out.2.2.2 rfl (by decide) sU nT _ rfl (World.ownsRow.alloc kr6 _) ⟨w6.heap.size, 0, none⟩ 2 2 [.slice p5 d.length c5, .slice p6 d.length c6] rfl rfl (World.news_of_block (heap_new' _ _)) (hone _ _ _ _) (by decide) (by unfold maxLen; omega) (by omega) (Nat.zero_le _) _ rfl ?_
                intro g7 c7 w7 ho7 hg7 hl7 hlt7
                have kb7 := hg7.block kb (by simp; omega) hne
                have kx7 : w7.cell? ⟨kb, 1, none⟩ = some sU := (World.cell?_of_block (a := ⟨kb, 1, none⟩) kb7).trans ((((Gr.refl w6).alloc _).cell ky6).trans kx6)
                have ky7 : w7.frozen? ⟨kb, 1, none⟩ = false := (frozen_of_block kb7).trans ((((Gr.refl w6).alloc _).frozen ky6).trans kf6)
                have kz7 : kb < w7.heap.size := Nat.lt_of_lt_of_le ky6 (Nat.le_trans ((Gr.refl w6).alloc _).size hg7.size)
                refine hK.out _ _ trivial (fun _ => ?_)
                clear hK K
                try simp only [Act.put, List.setIfInBounds_toArray, List.set_cons_zero, List.set_cons_succ]
                refine' wpAnyH_take (i := 11) (oi := { dst := some 161, op := Op.nilCheck (Operand.tmp 150), type := 0, pos := "law.go:160", after := #[{ on := 0, ground := Ground.data }, { on := 0, ground := Ground.phase }, { on := 1, ground := Ground.phase }, { on := 2, ground := Ground.phase }, { on := 3, ground := Ground.phase }, { on := 4, ground := Ground.phase }, { on := 5, ground := Ground.phase }, { on := 6, ground := Ground.phase }, { on := 7, ground := Ground.phase }, { on := 8, ground := Ground.phase }, { on := 9, ground := Ground.phase }, { on := 10, ground := Ground.phase }], guard := none }) (v := _) rfl (by kernel_rfl) (by kernel_rfl) (by kernel_rfl) (fun _ _ _ h => h) (Or.inl ⟨by rfl, ?hy49⟩) trivial ?rest49
                case hy49 => (intro w hSw; (try dsimp only at hSw); go_simp; try (with_reducible rfl))
                try simp only [Act.put, List.setIfInBounds_toArray, List.set_cons_zero, List.set_cons_succ]
                refine' wpAnyH_take (i := 12) (oi := { dst := some 162, op := Op.fieldAddr 34 (Operand.tmp 161) 1, type := 0, pos := "law.go:160", after := #[{ on := 11, ground := Ground.data }, { on := 0, ground := Ground.phase }, { on := 1, ground := Ground.phase }, { on := 2, ground := Ground.phase }, { on := 3, ground := Ground.phase }, { on := 4, ground := Ground.phase }, { on := 5, ground := Ground.phase }, { on := 6, ground := Ground.phase }, { on := 7, ground := Ground.phase }, { on := 8, ground := Ground.phase }, { on := 9, ground := Ground.phase }, { on := 10, ground := Ground.phase }], guard := none }) (v := _) rfl (by kernel_rfl) (by kernel_rfl) (by kernel_rfl) (fun _ _ _ h => h) (Or.inl ⟨by rfl, ?hy50⟩) trivial ?rest50
                case hy50 => (intro w hSw; (try dsimp only at hSw); go_simp; try (with_reducible rfl))
                try simp only [Act.put, List.setIfInBounds_toArray, List.set_cons_zero, List.set_cons_succ]
                refine wpAnyH_ready (rs := [13]) (by kernel_rfl) (by simp) ?_
                refine AllReadyH.cons (o := { dst := none, op := Op.store 31 (Operand.tmp 162) (Operand.tmp 160), type := 0, pos := "law.go:160", after := #[{ on := 12, ground := Ground.data }, { on := 10, ground := Ground.data }, { on := 10, ground := Ground.chain }, { on := 0, ground := Ground.phase }, { on := 1, ground := Ground.phase }, { on := 2, ground := Ground.phase }, { on := 3, ground := Ground.phase }, { on := 4, ground := Ground.phase }, { on := 5, ground := Ground.phase }, { on := 6, ground := Ground.phase }, { on := 7, ground := Ground.phase }, { on := 8, ground := Ground.phase }, { on := 9, ground := Ground.phase }, { on := 10, ground := Ground.phase }], guard := none }) rfl (fun K hK => ?_) AllReadyH.nil
                go_simp
                refine hK.out _ _ trivial (fun _ => ?_)
                clear hK K
                try simp only [Act.put, List.setIfInBounds_toArray, List.set_cons_zero, List.set_cons_succ]
                refine wpAnyH_done (by kernel_rfl) ?_ _
                obtain ⟨V2, C2, ow2, s2, q1, q2, q3, hS3⟩ := (CL.out _ _ _ _ _ _ _ _ _ b5 b6 ho5 ho6 hg7 ho7 hl7).out
                have HF : Hid (Inv w os (k + 1) (w7.setCell ⟨kb, 1, none⟩ (.slice (some ⟨g7, 0, none⟩) (nT + 2) c7)) (.slice (some ⟨g3, 0, none⟩) m c3) (.slice (some ⟨g4, 0, none⟩) m c4) kb) := Inv.pages HB.out HTS.out hdl HQ1.out ⟨q1, q2, q3⟩ hS3
                clear q1 q2 q3 hS3 HS2 HQ1 CL KS HC ho5 ho6 hg7 ho7 hl7 b5 b6
                go_wp2
                exact ⟨⟨k + 1, by omega, by go_num, HF⟩, by simp [RowKit.intOf]; omega⟩
              · go_simp
                refine (HC.out _ B0).mono ?_
                rintro e w5 ⟨p5, c5, rfl, ho5, b5⟩
                have BB5 := B0.trans (b5.mono B0.size)
                obtain ⟨kx5, kf5, ky5, -⟩ := KS.out _ BB5
                go_wp2_with fail
                refine hK.out _ _ trivial (fun _ => ?_)
                clear hK K
                try simp only [Act.put, List.setIfInBounds_toArray, List.set_cons_zero, List.set_cons_succ]
                refine wpAnyH_ready (rs := [4, 8]) (by kernel_rfl) (by simp) ?_
                refine AllReadyH.cons (o := { dst := some 154, op := Op.load 31 (Operand.tmp 153), type := 31, pos := "law.go:160", after := #[{ on := 3, ground := Ground.data }], guard := none }) rfl (fun K hK => ?_) (AllReadyH.cons (o := { dst := some 158, op := Op.call { callee := Callee.value (Operand.func 15), args := #[Operand.tmp 157], argTypes := #[27] }, type := 42, pos := "law.go:160", after := #[{ on := 7, ground := Ground.data }, { on := 6, ground := Ground.chain }], guard := none }) rfl (fun K hK => ?_) AllReadyH.nil)
                · go_simp
                  refine hK.out _ _ trivial (fun _ => ?_)
                  clear hK K
                  try simp only [Act.put, List.setIfInBounds_toArray, List.set_cons_zero, List.set_cons_succ]
                  refine wpAnyH_ready (rs := [8]) (by kernel_rfl) (by simp) ?_
                  refine AllReadyH.cons (o := { dst := some 158, op := Op.call { callee := Callee.value (Operand.func 15), args := #[Operand.tmp 157], argTypes := #[27] }, type := 42, pos := "law.go:160", after := #[{ on := 7, ground := Ground.data }, { on := 6, ground := Ground.chain }], guard := none }) rfl (fun K hK => ?_) AllReadyH.nil
                  go_simp
                  refine (HC.out _ BB5).mono ?_
                  rintro e w6 ⟨p6, c6, rfl, ho6, b6⟩
                  have BB6 := BB5.trans (b6.mono BB5.size)
                  obtain ⟨kx6, kf6, ky6, kr6⟩ := KS.out _ BB6
                  go_wp2_with fail
                  refine hK.out _ _ trivial (fun _ => ?_)
                  clear hK K
                  try simp only [Act.put, List.setIfInBounds_toArray, List.set_cons_zero, List.set_cons_succ]
                  refine wpAnyH_ready (rs := [9]) (by kernel_rfl) (by simp) ?_
                  refine AllReadyH.cons (o := { dst := some 159, op := Op.buildSlice 31 2 #[(0, Operand.tmp 156), (1, Operand.tmp 158)], type := 31, pos := "law.go:160", after := #[{ on := 6, ground := Ground.data }, { on := 8, ground := Ground.data }], guard := none }) rfl (fun K hK => ?_) AllReadyH.nil
                  go_simp
                  refine hK.out _ _ trivial (fun _ => ?_)
                  clear hK K
                  try simp only [Act.put, List.setIfInBounds_toArray, List.set_cons_zero, List.set_cons_succ]
                  refine wpAnyH_ready (rs := [10]) (by kernel_rfl) (by simp) ?_
                  refine AllReadyH.cons (o := { dst := some 160, op := Op.call { callee := Callee.builtin Builtin.append, args := #[Operand.tmp 154, Operand.tmp 159], argTypes := #[31, 31] }, type := 31, pos := "law.go:160", after := #[{ on := 4, ground := Ground.data }, { on := 9, ground := Ground.data }, { on := 8, ground := Ground.chain }], guard := none }) rfl (fun K hK => ?_) AllReadyH.nil
                  refine step_append_lies _ rfl _ _ 31 rfl 0 42 iT (.slice none 0 0) 1 24 Tryz.underlying31 IT.out.1 IT.out.2.1 IT.out.2.2.1 IT.out.2.2.2 rfl (by decide) sU nT _ rfl (World.ownsRow.alloc kr6 _) ⟨w6.heap.size, 0, none⟩ 2 2 [.slice p5 d.length c5, .slice p6 d.length c6] rfl rfl (World.news_of_block (heap_new' _ _)) (hone _ _ _ _) (by decide) (by unfold maxLen; omega) (by omega) (Nat.zero_le _) _ rfl ?_
                  intro g7 c7 w7 ho7 hg7 hl7 hlt7
                  have kb7 := hg7.block kb (by simp; omega) hne
                  have kx7 : w7.cell? ⟨kb, 1, none⟩ = some sU := (World.cell?_of_block (a := ⟨kb, 1, none⟩) kb7).trans ((((Gr.refl w6).alloc _).cell ky6).trans kx6)
                  have ky7 : w7.frozen? ⟨kb, 1, none⟩ = false := (frozen_of_block kb7).trans ((((Gr.refl w6).alloc _).frozen ky6).trans kf6)
                  have kz7 : kb < w7.heap.size := Nat.lt_of_lt_of_le ky6 (Nat.le_trans ((Gr.refl w6).alloc _).size hg7.size)
                  refine hK.out _ _ trivial (fun _ => ?_)
                  clear hK K
                  try simp only [Act.put, List.setIfInBounds_toArray, List.set_cons_zero, List.set_cons_succ]
                  refine' wpAnyH_take (i := 11) (oi := { dst := some 161, op := Op.nilCheck (Operand.tmp 150), type := 0, pos := "law.go:160", after := #[{ on := 0, ground := Ground.data }, { on := 0, ground := Ground.phase }, { on := 1, ground := Ground.phase }, { on := 2, ground := Ground.phase }, { on := 3, ground := Ground.phase }, { on := 4, ground := Ground.phase }, { on := 5, ground := Ground.phase }, { on := 6, ground := Ground.phase }, { on := 7, ground := Ground.phase }, { on := 8, ground := Ground.phase }, { on := 9, ground := Ground.phase }, { on := 10, ground := Ground.phase }], guard := none }) (v := _) rfl (by kernel_rfl) (by kernel_rfl) (by kernel_rfl) (fun _ _ _ h => h) (Or.inl ⟨by rfl, ?hy51⟩) trivial ?rest51
                  case hy51 => (intro w hSw; (try dsimp only at hSw); go_simp; try (with_reducible rfl))
                  try simp only [Act.put, List.setIfInBounds_toArray, List.set_cons_zero, List.set_cons_succ]
                  refine' wpAnyH_take (i := 12) (oi := { dst := some 162, op := Op.fieldAddr 34 (Operand.tmp 161) 1, type := 0, pos := "law.go:160", after := #[{ on := 11, ground := Ground.data }, { on := 0, ground := Ground.phase }, { on := 1, ground := Ground.phase }, { on := 2, ground := Ground.phase }, { on := 3, ground := Ground.phase }, { on := 4, ground := Ground.phase }, { on := 5, ground := Ground.phase }, { on := 6, ground := Ground.phase }, { on := 7, ground := Ground.phase }, { on := 8, ground := Ground.phase }, { on := 9, ground := Ground.phase }, { on := 10, ground := Ground.phase }], guard := none }) (v := _) rfl (by kernel_rfl) (by kernel_rfl) (by kernel_rfl) (fun _ _ _ h => h) (Or.inl ⟨by rfl, ?hy52⟩) trivial ?rest52
                  case hy52 => (intro w hSw; (try dsimp only at hSw); go_simp; try (with_reducible rfl))
                  try simp only [Act.put, List.setIfInBounds_toArray, List.set_cons_zero, List.set_cons_succ]
                  refine wpAnyH_ready (rs := [13]) (by kernel_rfl) (by simp) ?_
                  refine AllReadyH.cons (o := { dst := none, op := Op.store 31 (Operand.tmp 162) (Operand.tmp 160), type := 0, pos := "law.go:160", after := #[{ on := 12, ground := Ground.data }, { on := 10, ground := Ground.data }, { on := 10, ground := Ground.chain }, { on := 0, ground := Ground.phase }, { on := 1, ground := Ground.phase }, { on := 2, ground := Ground.phase }, { on := 3, ground := Ground.phase }, { on := 4, ground := Ground.phase }, { on := 5, ground := Ground.phase }, { on := 6, ground := Ground.phase }, { on := 7, ground := Ground.phase }, { on := 8, ground := Ground.phase }, { on := 9, ground := Ground.phase }, { on := 10, ground := Ground.phase }], guard := none }) rfl (fun K hK => ?_) AllReadyH.nil
                  go_simp
                  refine hK.out _ _ trivial (fun _ => ?_)
                  clear hK K
                  try simp only [Act.put, List.setIfInBounds_toArray, List.set_cons_zero, List.set_cons_succ]
                  refine wpAnyH_done (by kernel_rfl) ?_ _
                  obtain ⟨V2, C2, ow2, s2, q1, q2, q3, hS3⟩ := (CL.out _ _ _ _ _ _ _ _ _ b5 b6 ho5 ho6 hg7 ho7 hl7).out
                  have HF : Hid (Inv w os (k + 1) (w7.setCell ⟨kb, 1, none⟩ (.slice (some ⟨g7, 0, none⟩) (nT + 2) c7)) (.slice (some ⟨g3, 0, none⟩) m c3) (.slice (some ⟨g4, 0, none⟩) m c4) kb) := Inv.pages HB.out HTS.out hdl HQ1.out ⟨q1, q2, q3⟩ hS3
                  clear q1 q2 q3 hS3 HS2 HQ1 CL KS HC ho5 ho6 hg7 ho7 hl7 b5 b6
                  go_wp2
                  exact ⟨⟨k + 1, by omega, by go_num, HF⟩, by simp [RowKit.intOf]; omega⟩
                · go_simp
                  refine (HC.out _ BB5).mono ?_
                  rintro e w6 ⟨p6, c6, rfl, ho6, b6⟩
                  have BB6 := BB5.trans (b6.mono BB5.size)
                  obtain ⟨kx6, kf6, ky6, kr6⟩ := KS.out _ BB6
                  go_wp2_with fail
                  refine hK.out _ _ trivial (fun _ => ?_)
                  clear hK K
                  try simp only [Act.put, List.setIfInBounds_toArray, List.set_cons_zero, List.set_cons_succ]
                  refine wpAnyH_ready (rs := [4, 9]) (by kernel_rfl) (by simp) ?_
                  refine AllReadyH.cons (o := { dst := some 154, op := Op.load 31 (Operand.tmp 153), type := 31, pos := "law.go:160", after := #[{ on := 3, ground := Ground.data }], guard := none }) rfl (fun K hK => ?_) (AllReadyH.cons (o := { dst := some 159, op := Op.buildSlice 31 2 #[(0, Operand.tmp 156), (1, Operand.tmp 158)], type := 31, pos := "law.go:160", after := #[{ on := 6, ground := Ground.data }, { on := 8, ground := Ground.data }], guard := none }) rfl (fun K hK => ?_) AllReadyH.nil)
                  · go_simp
                    refine hK.out _ _ trivial (fun _ => ?_)
                    clear hK K
                    try simp only [Act.put, List.setIfInBounds_toArray, List.set_cons_zero, List.set_cons_succ]
                    refine wpAnyH_ready (rs := [9]) (by kernel_rfl) (by simp) ?_
                    refine AllReadyH.cons (o := { dst := some 159, op := Op.buildSlice 31 2 #[(0, Operand.tmp 156), (1, Operand.tmp 158)], type := 31, pos := "law.go:160", after := #[{ on := 6, ground := Ground.data }, { on := 8, ground := Ground.data }], guard := none }) rfl (fun K hK => ?_) AllReadyH.nil
                    go_simp
                    refine hK.out _ _ trivial (fun _ => ?_)
                    clear hK K
                    try simp only [Act.put, List.setIfInBounds_toArray, List.set_cons_zero, List.set_cons_succ]
                    refine wpAnyH_ready (rs := [10]) (by kernel_rfl) (by simp) ?_
                    refine AllReadyH.cons (o := { dst := some 160, op := Op.call { callee := Callee.builtin Builtin.append, args := #[Operand.tmp 154, Operand.tmp 159], argTypes := #[31, 31] }, type := 31, pos := "law.go:160", after := #[{ on := 4, ground := Ground.data }, { on := 9, ground := Ground.data }, { on := 8, ground := Ground.chain }], guard := none }) rfl (fun K hK => ?_) AllReadyH.nil
                    refine step_append_lies _ rfl _ _ 31 rfl 0 42 iT (.slice none 0 0) 1 24 Tryz.underlying31 IT.out.1 IT.out.2.1 IT.out.2.2.1 IT.out.2.2.2 rfl (by decide) sU nT _ rfl (World.ownsRow.alloc kr6 _) ⟨w6.heap.size, 0, none⟩ 2 2 [.slice p5 d.length c5, .slice p6 d.length c6] rfl rfl (World.news_of_block (heap_new' _ _)) (hone _ _ _ _) (by decide) (by unfold maxLen; omega) (by omega) (Nat.zero_le _) _ rfl ?_
                    intro g7 c7 w7 ho7 hg7 hl7 hlt7
                    have kb7 := hg7.block kb (by simp; omega) hne
                    have kx7 : w7.cell? ⟨kb, 1, none⟩ = some sU := (World.cell?_of_block (a := ⟨kb, 1, none⟩) kb7).trans ((((Gr.refl w6).alloc _).cell ky6).trans kx6)
                    have ky7 : w7.frozen? ⟨kb, 1, none⟩ = false := (frozen_of_block kb7).trans ((((Gr.refl w6).alloc _).frozen ky6).trans kf6)
                    have kz7 : kb < w7.heap.size := Nat.lt_of_lt_of_le ky6 (Nat.le_trans ((Gr.refl w6).alloc _).size hg7.size)
                    refine hK.out _ _ trivial (fun _ => ?_)
                    clear hK K
                    try simp only [Act.put, List.setIfInBounds_toArray, List.set_cons_zero, List.set_cons_succ]
                    refine' wpAnyH_take (i := 11) (oi := { dst := some 161, op := Op.nilCheck (Operand.tmp 150), type := 0, pos := "law.go:160", after := #[{ on := 0, ground := Ground.data }, { on := 0, ground := Ground.phase }, { on := 1, ground := Ground.phase }, { on := 2, ground := Ground.phase }, { on := 3, ground := Ground.phase }, { on := 4, ground := Ground.phase }, { on := 5, ground := Ground.phase }, { on := 6, ground := Ground.phase }, { on := 7, ground := Ground.phase }, { on := 8, ground := Ground.phase }, { on := 9, ground := Ground.phase }, { on := 10, ground := Ground.phase }], guard := none }) (v := _) rfl (by kernel_rfl) (by kernel_rfl) (by kernel_rfl) (fun _ _ _ h => h) (Or.inl ⟨by rfl, ?hy53⟩) trivial ?rest53
                    case hy53 => (intro w hSw; (try dsimp only at hSw); go_simp; try (with_reducible rfl))
                    try simp only [Act.put, List.setIfInBounds_toArray, List.set_cons_zero, List.set_cons_succ]
                    refine' wpAnyH_take (i := 12) (oi := { dst := some 162, op := Op.fieldAddr 34 (Operand.tmp 161) 1, type := 0, pos := "law.go:160", after := #[{ on := 11, ground := Ground.data }, { on := 0, ground := Ground.phase }, { on := 1, ground := Ground.phase }, { on := 2, ground := Ground.phase }, { on := 3, ground := Ground.phase }, { on := 4, ground := Ground.phase }, { on := 5, ground := Ground.phase }, { on := 6, ground := Ground.phase }, { on := 7, ground := Ground.phase }, { on := 8, ground := Ground.phase }, { on := 9, ground := Ground.phase }, { on := 10, ground := Ground.phase }], guard := none }) (v := _) rfl (by kernel_rfl) (by kernel_rfl) (by kernel_rfl) (fun _ _ _ h => h) (Or.inl ⟨by rfl, ?hy54⟩) trivial ?rest54
                    case hy54 => (intro w hSw; (try dsimp only at hSw); go_simp; try (with_reducible rfl))
                    try simp only [Act.put, List.setIfInBounds_toArray, List.set_cons_zero, List.set_cons_succ]
                    refine wpAnyH_ready (rs := [13]) (by kernel_rfl) (by simp) ?_
                    refine AllReadyH.cons (o := { dst := none, op := Op.store 31 (Operand.tmp 162) (Operand.tmp 160), type := 0, pos := "law.go:160", after := #[{ on := 12, ground := Ground.data }, { on := 10, ground := Ground.data }, { on := 10, ground := Ground.chain }, { on := 0, ground := Ground.phase }, { on := 1, ground := Ground.phase }, { on := 2, ground := Ground.phase }, { on := 3, ground := Ground.phase }, { on := 4, ground := Ground.phase }, { on := 5, ground := Ground.phase }, { on := 6, ground := Ground.phase }, { on := 7, ground := Ground.phase }, { on := 8, ground := Ground.phase }, { on := 9, ground := Ground.phase }, { on := 10, ground := Ground.phase }], guard := none }) rfl (fun K hK => ?_) AllReadyH.nil
                    go_simp
                    refine hK.out _ _ trivial (fun _ => ?_)
                    clear hK K
                    try simp only [Act.put, List.setIfInBounds_toArray, List.set_cons_zero, List.set_cons_succ]
                    refine wpAnyH_done (by kernel_rfl) ?_ _
                    obtain ⟨V2, C2, ow2, s2, q1, q2, q3, hS3⟩ := (CL.out _ _ _ _ _ _ _ _ _ b5 b6 ho5 ho6 hg7 ho7 hl7).out
                    have HF : Hid (Inv w os (k + 1) (w7.setCell ⟨kb, 1, none⟩ (.slice (some ⟨g7, 0, none⟩) (nT + 2) c7)) (.slice (some ⟨g3, 0, none⟩) m c3) (.slice (some ⟨g4, 0, none⟩) m c4) kb) := Inv.pages HB.out HTS.out hdl HQ1.out ⟨q1, q2, q3⟩ hS3
                    clear q1 q2 q3 hS3 HS2 HQ1 CL KS HC ho5 ho6 hg7 ho7 hl7 b5 b6
                    go_wp2
                    exact ⟨⟨k + 1, by omega, by go_num, HF⟩, by simp [RowKit.intOf]; omega⟩
                  · go_simp
                    refine hK.out _ _ trivial (fun _ => ?_)
                    clear hK K
                    try simp only [Act.put, List.setIfInBounds_toArray, List.set_cons_zero, List.set_cons_succ]
                    refine wpAnyH_ready (rs := [4]) (by kernel_rfl) (by simp) ?_
                    refine AllReadyH.cons (o := { dst := some 154, op := Op.load 31 (Operand.tmp 153), type := 31, pos := "law.go:160", after := #[{ on := 3, ground := Ground.data }], guard := none }) rfl (fun K hK => ?_) AllReadyH.nil
                    go_simp
                    refine hK.out _ _ trivial (fun _ => ?_)
                    clear hK K
                    try simp only [Act.put, List.setIfInBounds_toArray, List.set_cons_zero, List.set_cons_succ]
                    refine wpAnyH_ready (rs := [10]) (by kernel_rfl) (by simp) ?_
                    refine AllReadyH.cons (o := { dst := some 160, op := Op.call { callee := Callee.builtin Builtin.append, args := #[Operand.tmp 154, Operand.tmp 159], argTypes := #[31, 31] }, type := 31, pos := "law.go:160", after := #[{ on := 4, ground := Ground.data }, { on := 9, ground := Ground.data }, { on := 8, ground := Ground.chain }], guard := none }) rfl (fun K hK => ?_) AllReadyH.nil
                    refine step_append_lies _ rfl _ _ 31 rfl 0 42 iT (.slice none 0 0) 1 24 Tryz.underlying31 IT.out.1 IT.out.2.1 IT.out.2.2.1 IT.out.2.2.2 rfl (by decide) sU nT _ rfl (World.ownsRow.alloc kr6 _) ⟨w6.heap.size, 0, none⟩ 2 2 [.slice p5 d.length c5, .slice p6 d.length c6] rfl rfl (World.news_of_block (heap_new' _ _)) (hone _ _ _ _) (by decide) (by unfold maxLen; omega) (by omega) (Nat.zero_le _) _ rfl ?_
                    intro g7 c7 w7 ho7 hg7 hl7 hlt7
                    have kb7 := hg7.block kb (by simp; omega) hne
                    have kx7 : w7.cell? ⟨kb, 1, none⟩ = some sU := (World.cell?_of_block (a := ⟨kb, 1, none⟩) kb7).trans ((((Gr.refl w6).alloc _).cell ky6).trans kx6)
                    have ky7 : w7.frozen? ⟨kb, 1, none⟩ = false := (frozen_of_block kb7).trans ((((Gr.refl w6).alloc _).frozen ky6).trans kf6)
                    have kz7 : kb < w7.heap.size := Nat.lt_of_lt_of_le ky6 (Nat.le_trans ((Gr.refl w6).alloc _).size hg7.size)
                    refine hK.out _ _ trivial (fun _ => ?_)
                    clear hK K
                    try simp only [Act.put, List.setIfInBounds_toArray, List.set_cons_zero, List.set_cons_succ]
                    refine' wpAnyH_take (i := 11) (oi := { dst := some 161, op := Op.nilCheck (Operand.tmp 150), type := 0, pos := "law.go:160", after := #[{ on := 0, ground := Ground.data }, { on := 0, ground := Ground.phase }, { on := 1, ground := Ground.phase }, { on := 2, ground := Ground.phase }, { on := 3, ground := Ground.phase }, { on := 4, ground := Ground.phase }, { on := 5, ground := Ground.phase }, { on := 6, ground := Ground.phase }, { on := 7, ground := Ground.phase }, { on := 8, ground := Ground.phase }, { on := 9, ground := Ground.phase }, { on := 10, ground := Ground.phase }], guard := none }) (v := _) rfl (by kernel_rfl) (by kernel_rfl) (by kernel_rfl) (fun _ _ _ h => h) (Or.inl ⟨by rfl, ?hy55⟩) trivial ?rest55
                    case hy55 => (intro w hSw; (try dsimp only at hSw); go_simp; try (with_reducible rfl))
                    try simp only [Act.put, List.setIfInBounds_toArray, List.set_cons_zero, List.set_cons_succ]
                    refine' wpAnyH_take (i := 12) (oi := { dst := some 162, op := Op.fieldAddr 34 (Operand.tmp 161) 1, type := 0, pos := "law.go:160", after := #[{ on := 11, ground := Ground.data }, { on := 0, ground := Ground.phase }, { on := 1, ground := Ground.phase }, { on := 2, ground := Ground.phase }, { on := 3, ground := Ground.phase }, { on := 4, ground := Ground.phase }, { on := 5, ground := Ground.phase }, { on := 6, ground := Ground.phase }, { on := 7, ground := Ground.phase }, { on := 8, ground := Ground.phase }, { on := 9, ground := Ground.phase }, { on := 10, ground := Ground.phase }], guard := none }) (v := _) rfl (by kernel_rfl) (by kernel_rfl) (by kernel_rfl) (fun _ _ _ h => h) (Or.inl ⟨by rfl, ?hy56⟩) trivial ?rest56
                    case hy56 => (intro w hSw; (try dsimp only at hSw); go_simp; try (with_reducible rfl))
                    try simp only [Act.put, List.setIfInBounds_toArray, List.set_cons_zero, List.set_cons_succ]
                    refine wpAnyH_ready (rs := [13]) (by kernel_rfl) (by simp) ?_
                    refine AllReadyH.cons (o := { dst := none, op := Op.store 31 (Operand.tmp 162) (Operand.tmp 160), type := 0, pos := "law.go:160", after := #[{ on := 12, ground := Ground.data }, { on := 10, ground := Ground.data }, { on := 10, ground := Ground.chain }, { on := 0, ground := Ground.phase }, { on := 1, ground := Ground.phase }, { on := 2, ground := Ground.phase }, { on := 3, ground := Ground.phase }, { on := 4, ground := Ground.phase }, { on := 5, ground := Ground.phase }, { on := 6, ground := Ground.phase }, { on := 7, ground := Ground.phase }, { on := 8, ground := Ground.phase }, { on := 9, ground := Ground.phase }, { on := 10, ground := Ground.phase }], guard := none }) rfl (fun K hK => ?_) AllReadyH.nil
                    go_simp
                    refine hK.out _ _ trivial (fun _ => ?_)
                    clear hK K
                    try simp only [Act.put, List.setIfInBounds_toArray, List.set_cons_zero, List.set_cons_succ]
                    refine wpAnyH_done (by kernel_rfl) ?_ _
                    obtain ⟨V2, C2, ow2, s2, q1, q2, q3, hS3⟩ := (CL.out _ _ _ _ _ _ _ _ _ b5 b6 ho5 ho6 hg7 ho7 hl7).out
                    have HF : Hid (Inv w os (k + 1) (w7.setCell ⟨kb, 1, none⟩ (.slice (some ⟨g7, 0, none⟩) (nT + 2) c7)) (.slice (some ⟨g3, 0, none⟩) m c3) (.slice (some ⟨g4, 0, none⟩) m c4) kb) := Inv.pages HB.out HTS.out hdl HQ1.out ⟨q1, q2, q3⟩ hS3
                    clear q1 q2 q3 hS3 HS2 HQ1 CL KS HC ho5 ho6 hg7 ho7 hl7 b5 b6
                    go_wp2
                    exact ⟨⟨k + 1, by omega, by go_num, HF⟩, by simp [RowKit.intOf]; omega⟩
        rcases Decidable.em (o.kind = 6) with hk6 | hk6
        · as_aux_lemma =>
            rw [hk6] at o0
            by_cases h5 : m < 5
            · have h5z : (m : Int) < 5 := by omega
              have hcp := mcopy_any wc (HS1.out.mu i him).1 (by omega)
              go_wp2_with fail
              refine hcp.mono ?_
              rintro e w3' ⟨mb', tb', b', cb', v', rfl, H3⟩
              have HCS : Hid (w3'.ownsRow 0 24 1 (.slice (some ⟨g3, 0, none⟩) m c3) m ((List.range m).map fun i => .pointer (some ⟨(M i).mb, 0, none⟩))) := (HS1.out.kept H3.out.2.1).ms.1
              clear hcp o0 o2 o3 o4 o5 p3 p4
              go_wp2_with (at_builtin; refine wpAppV rfl _ _ 26 24 rfl Tryz.underlying26 infoMp rfl (by decide) (.slice (some ⟨g3, 0, none⟩) m c3) m _ rfl HCS.out #[.pointer (some ⟨mb', 0, none⟩)] 1 (by decide) rfl (by intro u hu; simp at hu; rcases hu with rfl; rfl) (by first | rfl | simp) (by omega) (by unfold maxLen; omega) _ ?_)
              intro g7 c7 w4 ho4 hk4 hg4
              have HO4 : Hid (w4.ownsRow 0 24 1 (.slice (some ⟨g7, 0, none⟩) (m + 1) c7) (m + 1) (((List.range m).map fun i => .pointer (some ⟨(M i).mb, 0, none⟩)) ++ [.pointer (some ⟨mb', 0, none⟩)])) := ho4
              have HK4 : Hid (Kp (fun q => (Value.slice (some ⟨g3, 0, none⟩) m c3).ownBlock = some q) w3' w4) := hk4
              have HG4 : Hid ((Value.slice (some ⟨g3, 0, none⟩) m c3).ownBlock = some g7 ∨ w3'.heap.size ≤ g7) := hg4
              have r4 : (R i).ok w4 := ((HS1.out.kept H3.out.2.1).rm i him).1.kp hk4 (fun k' hk' e => by
                have a1 := HS1.out.ms.2 _ e
                have a2 := (HS1.out.rm i him).2.1 k' hk'
                omega)
              have hrc := rcopy_any w4 _ _ _ r4
              clear ho4 hk4 hg4 HCS r4
              go_wp2_with fail
              refine hrc.mono ?_
              rintro e w5 ⟨r', rfl, H5⟩
              have HRS : Hid (w5.ownsRow 0 27 1 (.slice (some ⟨g4, 0, none⟩) m c4) m ((List.range m).map fun i => .pointer (some ⟨(R i).r.b, 0, none⟩))) :=
                owns_below (owns_kp HK4.out (HS1.out.kept H3.out.2.1).rs.1 (fun q hq e => by have a1 := HS1.out.ms.2 _ e; have a2 := HS1.out.rs.2 q hq; omega)) H5.out.2.1
              clear hrc
              go_wp2_with (at_builtin; refine wpAppV rfl _ _ 29 27 rfl Tryz.underlying29 infoRp rfl (by decide) (.slice (some ⟨g4, 0, none⟩) m c4) m _ rfl HRS.out #[.pointer (some ⟨r'.b, 0, none⟩)] 1 (by decide) rfl (by intro u hu; simp at hu; rcases hu with rfl; rfl) (by first | rfl | simp) (by omega) (by unfold maxLen; omega) _ ?_)
              intro g8 c8 w6 ho6 hk6 hg6
              obtain ⟨ow', hS6⟩ := HS1.out.copy h5 him (M' := ⟨mb', tb', b', cb', (M i).n, v', (M i).f, (M i).fr⟩) (R' := ⟨r', (R i).T, (R i).N⟩) rfl rfl rfl rfl H3.out.2.1 H3.out.1 (fun k' hk' => by
                obtain ⟨-, -, a1, a2, a3, a4, a5⟩ := H3.out
                rcases hk' with e | e | e | e | e
                · rw [e]; exact a1
                · rw [e]; exact a2
                · rw [e]; exact a3
                · rw [e]; exact a4
                · exact a5 k' e) HK4.out HO4.out (fun g hg => by rw [own_one hg]; exact HG4.out) H5.out.2.1 H5.out.1 H5.out.2.2 hk6 ho6 (fun g hg => by rw [own_one hg]; exact hg6)
              have HF : Hid (Inv w os (k + 1) w6 (.slice (some ⟨g7, 0, none⟩) (m + 1) c7) (.slice (some ⟨g8, 0, none⟩) (m + 1) c8) kb) := Inv.copy (M' := ⟨mb', tb', b', cb', (M i).n, v', (M i).f, (M i).fr⟩) (R' := ⟨r', (R i).T, (R i).N⟩) HB.out him HTS.out rfl rfl hS6
              clear ho6 hk6 hg6 HRS HO4 HK4 HG4 hS6 H3 H5
              go_wp2
              exact ⟨⟨k + 1, by omega, by go_num, HF⟩, by simp [RowKit.intOf]; omega⟩
            · have h5z : ¬ (m : Int) < 5 := by omega
              have HF : Hid (Inv w os (k + 1) wc (.slice (some ⟨g3, 0, none⟩) m c3) (.slice (some ⟨g4, 0, none⟩) m c4) kb) := Inv.same HB.out HTS.out HS1.out
              clear o2 o3 o4 o5
              go_wp2
              exact ⟨⟨k + 1, by omega, by go_num, HF⟩, by simp [RowKit.intOf]; omega⟩
        have HF : Hid (Inv w os (k + 1) wc (.slice (some ⟨g3, 0, none⟩) m c3) (.slice (some ⟨g4, 0, none⟩) m c4) kb) := Inv.same HB.out HTS.out HS1.out
        clear o2 o3 o4 o5
        go_wp2
        exact ⟨⟨k + 1, by omega, by go_num, HF⟩, by simp [RowKit.intOf]; omega⟩
    · as_aux_lemma =>
        have hltz : ¬ (k : Int) < (os.length : Int) := by omega
        have HS : Hid (Scr w wr m nT nT nD M R VT VU VD VX CT CU CD ow u3 u4 kb sT sU sD sX) := hS
        have hm5 := hS.five
        have hm1 := hB.m1
        have htl := Nat.le_trans (tot_le os k) hbig0
        have HB : Hid (Bds (tot ((os.take k).map Opm.l)) k m nT nD M R CT CU CD) := hB
        have HN : Hid (∀ i, i < m → (M i).n ≤ 349526 ∧ (R i).T.length ≤ 174763) := fun i hi => by have := hB.n i hi; have := hB.T i hi; omega
        obtain ⟨g3, c3, e3, h31, h32⟩ := owns_form0 hS.ms.1 hm1
        subst e3
        obtain ⟨g4, c4, e4, h41, h42⟩ := owns_form0 hS.rs.1 hm1
        subst e4
        unfold maxLen at h32 h42
        clear hS hB
        go_wp2_with fail
        clear hltz
        go_loopw [12] (fun s12 w' => ∃ j : Nat, j ≤ m ∧ s12 = .int .i64 j ∧ Hid (Scr w w' m nT nT nD M R VT VU VD VX CT CU CD ow (.slice (some ⟨g3, 0, none⟩) m c3) (.slice (some ⟨g4, 0, none⟩) m c4) kb sT sU sD sX)) (fun s12 _ => m - (RowKit.intOf s12).toNat)
        case atStart => exact ⟨0, Nat.zero_le _, rfl, HS⟩
        case round =>
          clear HS
          obtain ⟨j, hj, rfl, HS⟩ := hrel
          generalize wr = wq at *
          by_cases hjm : j < m
          · have hjz : (j : Int) < (m : Int) := by omega
            obtain ⟨hnj, hTj⟩ := HN.out j hjm
            have hfrj := HS.out.mfr hjm
            have p3 : wq.cell? ⟨g3, j, none⟩ = some (.pointer (some ⟨(M j).mb, 0, none⟩)) := by
              have := HS.out.ms.1.cells (g := g3) rfl j _ (by simp [hjm]; rfl)
              rw [addA, Nat.zero_add] at this
              exact this
            have p4 : wq.cell? ⟨g4, j, none⟩ = some (.pointer (some ⟨(R j).r.b, 0, none⟩)) := by
              have := HS.out.rs.1.cells (g := g4) rfl j _ (by simp [hjm]; rfl)
              rw [addA, Nat.zero_add] at this
              exact this
            have z3 : g3 < wq.heap.size := owns_lt HS.out.ms.1 g3 rfl
            have z4 : g4 < wq.heap.size := owns_lt HS.out.rs.1 g4 rfl
            obtain ⟨ks0, hks0, hkl0⟩ := Ml.sup (HS.out.mu j hjm).1
            obtain ⟨dT, hdT⟩ : ∃ dT, dT = stT ks0 := ⟨_, rfl⟩
            have hdl : dT.length ≤ 349526 := by rw [hdT, srtBy_length]; omega
            obtain ⟨dF, hdF⟩ : ∃ dF, dF = (M j).fr := ⟨_, rfl⟩
            have hdl2 : dF.length ≤ 349526 := by rw [hdF]; omega
            have cT : ∀ W, Below wq.heap.size wq W → Calls Tryz.prog 16 #[.pointer (some ⟨(M j).mb, 0, none⟩)] W fun e w' => ∃ p c, e = .returned (.slice p dT.length c) ∧ Ls ET w' (.slice p dT.length c) dT ∧ Below W.heap.size W w' := fun W hb => (times_any W ((HS.out.kept hb).mu j hjm).1 (by omega)).mono fun e w' ⟨v', ks, hs, h1, h2, h3⟩ => by
              have e1 : stT ks = dT := by rw [hdT]; exact srtBy_of_perm swoT totT (hs.perm hks0)
              rw [e1] at h2
              obtain ⟨p, c, rfl⟩ := (owns_ls (E := ET) h2).form
              exact ⟨p, c, h1, owns_ls (E := ET) h2, h3⟩
            have cRT : ∀ W, Below wq.heap.size wq W → Calls Tryz.prog 15 #[.pointer (some ⟨(R j).r.b, 0, none⟩)] W fun e w' => ∃ p c, e = .returned (.slice p dT.length c) ∧ Ls ET w' (.slice p dT.length c) dT ∧ Below W.heap.size W w' := fun W hb => (rtimes_any W _ _ _ ((HS.out.kept hb).rm j hjm).1).mono fun e w' ⟨v', R', h1, h2, h3, h4, h5⟩ => by
              rw [(HS.out.rm j hjm).2.2] at h4
              have e1 : R' = dT := by rw [hdT]; exact times_same hks0 h3 h4
              subst e1
              obtain ⟨p, c, rfl⟩ := (owns_ls (E := ET) h2.owns).form
              exact ⟨p, c, h1, owns_ls (E := ET) h2.owns, h5⟩
            have cF : ∀ W, Below wq.heap.size wq W → Calls Tryz.prog 8 #[.pointer (some ⟨(M j).mb, 0, none⟩)] W fun e w' => ∃ p c, e = .returned (.slice p dF.length c) ∧ Ls ET w' (.slice p dF.length c) dF ∧ Below W.heap.size W w' := fun W hb => (front_any W ((HS.out.kept hb).mu j hjm).1 (by omega)).mono fun e w' ⟨v', h1, h2, h3⟩ => by
              rw [← hdF] at h2
              obtain ⟨p, c, rfl⟩ := (owns_ls (E := ET) h2).form
              exact ⟨p, c, h1, owns_ls (E := ET) h2, h3⟩
            have cRF : ∀ W, Below wq.heap.size wq W → Calls Tryz.prog 9 #[.pointer (some ⟨(R j).r.b, 0, none⟩)] W fun e w' => ∃ p c, e = .returned (.slice p dF.length c) ∧ Ls ET w' (.slice p dF.length c) dF ∧ Below W.heap.size W w' := fun W hb => (rmfront_any W _ _ _ ((HS.out.kept hb).rm j hjm).1).mono fun e w' ⟨v', R', h1, h2, h3, h4, h5⟩ => by
              rw [(HS.out.rm j hjm).2.2] at h4
              have e1 : R' = dF := by rw [hdF]; exact isFr_same (HS.out.mu j hjm).2.1 h3 h4
              subst e1
              obtain ⟨p, c, rfl⟩ := (owns_ls (E := ET) h2.owns).form
              exact ⟨p, c, h1, owns_ls (E := ET) h2.owns, h5⟩
            have cS : ∀ (W : World) (va vb : Value) (d : List Tm), d.length ≤ 349526 → Ls ET W va d → Ls ET W vb d → Calls Tryz.prog 19 #[va, vb] W fun e w' => e = .returned (.bool true) ∧ Gr W w' := fun W va vb d hd ha hb => by
              have := tms_any va vb d d W ha hb (by unfold maxLen; omega)
              rw [decide_eq_true rfl] at this
              exact this
            have S0 : wq.cell? ⟨g3, j, none⟩ = some (.pointer (some ⟨(M j).mb, 0, none⟩)) ∧ wq.cell? ⟨g4, j, none⟩ = some (.pointer (some ⟨(R j).r.b, 0, none⟩)) ∧ Below wq.heap.size wq wq := ⟨p3, p4, Below.refl _ _⟩
            have keepB : ∀ W W' : World, (W.cell? ⟨g3, j, none⟩ = some (.pointer (some ⟨(M j).mb, 0, none⟩)) ∧ W.cell? ⟨g4, j, none⟩ = some (.pointer (some ⟨(R j).r.b, 0, none⟩)) ∧ Below wq.heap.size wq W) → Below W.heap.size W W' → (W'.cell? ⟨g3, j, none⟩ = some (.pointer (some ⟨(M j).mb, 0, none⟩)) ∧ W'.cell? ⟨g4, j, none⟩ = some (.pointer (some ⟨(R j).r.b, 0, none⟩)) ∧ Below wq.heap.size wq W') := fun W W' h hb => by
              have hs := h.2.2.size
              exact ⟨(hb.cell (p := ⟨g3, j, none⟩) (by show g3 < W.heap.size; omega)).trans h.1, (hb.cell (p := ⟨g4, j, none⟩) (by show g4 < W.heap.size; omega)).trans h.2.1, h.2.2.trans (hb.mono hs)⟩
            clear hdT hdF hks0 hkl0 hfrj
            go_wp2_with fail
            clear p3 p4
            go_region_held3 (fun W => W.cell? ⟨g3, j, none⟩ = some (.pointer (some ⟨(M j).mb, 0, none⟩)) ∧ W.cell? ⟨g4, j, none⟩ = some (.pointer (some ⟨(R j).r.b, 0, none⟩)) ∧ Below wq.heap.size wq W)
              (first | exact S0 | exact keepB _ _ (by assumption) (Gr.refl _).drew.below | exact keepB _ _ (by assumption) (by assumption) | exact keepB _ _ (by assumption) (Gr.below (by assumption)))
              (first | (go_at_call 16; refine (cT _ (And.right (And.right (by assumption)))).mono ?_; rintro e w5 ⟨p5, c5, rfl, l5, b5⟩) | (go_at_call 15; refine (cRT _ (And.right (And.right (by assumption)))).mono ?_; rintro e w6 ⟨p6, c6, rfl, l6, b6⟩) | (go_at_call 19; refine (cS _ _ _ dF hdl2 (l8.below b9) l9).mono ?_; rintro e w10 ⟨rfl, g10⟩) | (go_at_call 19; refine (cS _ _ _ dT hdl (l5.below b6) l6).mono ?_; rintro e w7 ⟨rfl, g7⟩) | (go_at_call 8; refine (cF _ (And.right (And.right (by assumption)))).mono ?_; rintro e w8 ⟨p8, c8, rfl, l8, b8⟩) | (go_at_call 9; refine (cRF _ (And.right (And.right (by assumption)))).mono ?_; rintro e w9 ⟨p9, c9, rfl, l9, b9⟩))
            have BT : Below wq.heap.size wq w10 := by
              have a1 : Below wq.heap.size wq w5 := (Gr.refl wq).drew.below.trans b5
              have a2 := a1.trans (b6.mono a1.size)
              have a3 := a2.trans (g7.below.mono a2.size)
              have a4 := a3.trans (b8.mono a3.size)
              have a5 := a4.trans (b9.mono a4.size)
              exact a5.trans (g10.below.mono a5.size)
            obtain ⟨t3, t4, -⟩ := keepB _ _ S0 BT
            have hc11 := cRT w10 BT
            clear l5 l6 l8 l9 b5 b6 b8 b9 g7 g10 cT cF cRF cS keepB S0
            go_wp2_with fail
            refine hc11.mono ?_
            rintro e w11 ⟨p11, c11, rfl, l11, b11⟩
            have B11 : Below wq.heap.size wq w11 := BT.trans (b11.mono BT.size)
            have HS11 : Hid (Scr w w11 m nT nT nD M R VT VU VD VX CT CU CD ow (.slice (some ⟨g3, 0, none⟩) m c3) (.slice (some ⟨g4, 0, none⟩) m c4) kb sT sU sD sX) := HS.out.kept B11
            have HL11 : Hid (Ls ET w11 (.slice p11 dT.length c11) dT) := l11
            have T3 : Hid (w11.cell? ⟨g3, j, none⟩ = some (.pointer (some ⟨(M j).mb, 0, none⟩)) ∧ w11.cell? ⟨g4, j, none⟩ = some (.pointer (some ⟨(R j).r.b, 0, none⟩)) ∧ g3 < w11.heap.size ∧ g4 < w11.heap.size) := by
              have a1 := BT.size
              have a2 := B11.size
              exact ⟨(b11.cell (p := ⟨g3, j, none⟩) (by show g3 < w10.heap.size; omega)).trans t3, (b11.cell (p := ⟨g4, j, none⟩) (by show g4 < w10.heap.size; omega)).trans t4, by omega, by omega⟩
            clear hc11 cRT l11 b11 B11 BT t3 t4 HS z3 z4
            go_wp2_with fail
            go_loopw [14] (fun s14 w' => ∃ q : Nat, q ≤ dT.length ∧ s14 = .int .i64 q ∧ Gr w11 w') (fun s14 _ => dT.length - (RowKit.intOf s14).toNat)
            case atStart => exact ⟨0, Nat.zero_le _, rfl, Gr.refl _⟩
            case round =>
              obtain ⟨q, hq, rfl, hgr⟩ := hrel
              by_cases hqd : q < dT.length
              · have hqz : (q : Int) < (dT.length : Int) := by omega
                obtain ⟨y, hy⟩ : ∃ y, dT[q]? = some y := ⟨dT[q], by simp⟩
                obtain ⟨ba, oa, ca, ea, za, x1, x2, x3⟩ := (HL11.out.below hgr.below).at3 hy
                simp only [Value.slice.injEq] at ea
                obtain ⟨rfl, -, rfl⟩ := ea
                obtain ⟨t3, t4, z3, z4⟩ := T3.out
                have T3' := (hgr.cell (o := j) z3).trans t3
                have T4' := (hgr.cell (o := j) z4).trans t4
                have Z3 : g3 < wr.heap.size := Nat.lt_of_lt_of_le z3 hgr.size
                have Z4 : g4 < wr.heap.size := Nat.lt_of_lt_of_le z4 hgr.size
                have HSr : Hid (Scr w wr m nT nT nD M R VT VU VD VX CT CU CD ow (.slice (some ⟨g3, 0, none⟩) m c3) (.slice (some ⟨g4, 0, none⟩) m c4) kb sT sU sD sX) := HS11.out.kept hgr.below
                have c1 := fun W (hW : Gr wr W) => count_any y W ((HSr.out.kept hW.below).mu j hjm).1
                have c2 := fun W (hW : Gr wr W) => rcount_any W _ _ _ ((HSr.out.kept hW.below).rm j hjm).1 y
                simp only [(HSr.out.rm j hjm).2.2] at c2
                obtain ⟨n, hn⟩ : ∃ n, n = (M j).f y := ⟨_, rfl⟩
                simp only [← hn] at c1 c2
                have hse : (n != n) = false := by simp
                have S0 : wr.cell? ⟨g3, j, none⟩ = some (.pointer (some ⟨(M j).mb, 0, none⟩)) ∧ wr.cell? ⟨g4, j, none⟩ = some (.pointer (some ⟨(R j).r.b, 0, none⟩)) ∧ wr.cell? ⟨ba, oa + q * 3, none⟩ = some (.int .u64 y.1.1) ∧ wr.cell? ⟨ba, oa + q * 3 + 1, none⟩ = some (.int .u64 y.1.2.1) ∧ wr.cell? ⟨ba, oa + q * 3 + 2, none⟩ = some (.int .u64 y.1.2.2) ∧ Gr wr wr := ⟨T3', T4', x1, x2, x3, Gr.refl _⟩
                have keepG : ∀ W W' : World, (W.cell? ⟨g3, j, none⟩ = some (.pointer (some ⟨(M j).mb, 0, none⟩)) ∧ W.cell? ⟨g4, j, none⟩ = some (.pointer (some ⟨(R j).r.b, 0, none⟩)) ∧ W.cell? ⟨ba, oa + q * 3, none⟩ = some (.int .u64 y.1.1) ∧ W.cell? ⟨ba, oa + q * 3 + 1, none⟩ = some (.int .u64 y.1.2.1) ∧ W.cell? ⟨ba, oa + q * 3 + 2, none⟩ = some (.int .u64 y.1.2.2) ∧ Gr wr W) → Gr W W' → (W'.cell? ⟨g3, j, none⟩ = some (.pointer (some ⟨(M j).mb, 0, none⟩)) ∧ W'.cell? ⟨g4, j, none⟩ = some (.pointer (some ⟨(R j).r.b, 0, none⟩)) ∧ W'.cell? ⟨ba, oa + q * 3, none⟩ = some (.int .u64 y.1.1) ∧ W'.cell? ⟨ba, oa + q * 3 + 1, none⟩ = some (.int .u64 y.1.2.1) ∧ W'.cell? ⟨ba, oa + q * 3 + 2, none⟩ = some (.int .u64 y.1.2.2) ∧ Gr wr W') := fun W W' h hg => by
                  have hs := h.2.2.2.2.2.size
                  exact ⟨(hg.cell (b := g3) (by omega)).trans h.1, (hg.cell (b := g4) (by omega)).trans h.2.1, (hg.cell (b := ba) (by omega)).trans h.2.2.1, (hg.cell (b := ba) (by omega)).trans h.2.2.2.1, (hg.cell (b := ba) (by omega)).trans h.2.2.2.2.1, h.2.2.2.2.2.trans hg⟩
                clear hy hn t3 t4 z3 z4 HSr
                go_wp2_with fail
                clear T3' T4' x1 x2 x3
                go_region_held3 (fun W => W.cell? ⟨g3, j, none⟩ = some (.pointer (some ⟨(M j).mb, 0, none⟩)) ∧ W.cell? ⟨g4, j, none⟩ = some (.pointer (some ⟨(R j).r.b, 0, none⟩)) ∧ W.cell? ⟨ba, oa + q * 3, none⟩ = some (.int .u64 y.1.1) ∧ W.cell? ⟨ba, oa + q * 3 + 1, none⟩ = some (.int .u64 y.1.2.1) ∧ W.cell? ⟨ba, oa + q * 3 + 2, none⟩ = some (.int .u64 y.1.2.2) ∧ Gr wr W)
                  (first | exact S0 | exact keepG _ _ (by assumption) (Gr.refl _).drew | exact keepG _ _ (by assumption) (by assumption))
                  (first | (go_at_call 12; refine (c1 _ (And.right (And.right (And.right (And.right (And.right (by assumption))))))).mono ?_; rintro e w15 ⟨rfl, g15⟩) | (go_at_call 13; refine (c2 _ (And.right (And.right (And.right (And.right (And.right (by assumption))))))).mono ?_; rintro e w16 ⟨rfl, g16⟩))
                have G16 : Gr w11 w16 := hgr.trans ((Gr.refl wr).drew.trans (g15.trans g16))
                clear g15 g16 c1 c2 keepG S0 hgr
                go_wp2
                exact ⟨⟨q + 1, by omega, by go_num, G16⟩, by simp [RowKit.intOf]; omega⟩
              · have hqz : ¬ (q : Int) < (dT.length : Int) := by omega
                have HF : Hid (Scr w wr m nT nT nD M R VT VU VD VX CT CU CD ow (.slice (some ⟨g3, 0, none⟩) m c3) (.slice (some ⟨g4, 0, none⟩) m c4) kb sT sU sD sX) := HS11.out.kept hgr.below
                clear hgr HS11 HL11 T3
                go_wp2
                exact ⟨⟨j + 1, by omega, by go_num, HF⟩, by simp [RowKit.intOf]; omega⟩
          · have hjz : ¬ (j : Int) < (m : Int) := by omega
            obtain ⟨hbk, hBq⟩ := HS.out.book (fun p hp => (HB.out.C p hp).1) (by have := HB.out.bT; omega) (by have := HB.out.bD; omega) (fun p hp => (HB.out.C p hp).2) HB.out.D
            have hbl := HS.out.below
            have hst := stay_any w.heap.size kb nT nD sT sU sD sX VT VU VD VX CT CD wq hbk hBq hbl.size
            clear hbk hBq HS HB HN
            go_wp2_with fail
            refine hst.mono ?_
            rintro e w9 ⟨rfl, hb9⟩
            go_wp2
            go_ret
            exact ⟨rfl, hbl.trans hb9⟩
end Go.Proofs.YtnpmmodcmfgbjaaGreat
