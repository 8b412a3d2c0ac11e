import Derived.Test.YthbdbmbdfhbeiaaGreatYRef1U
namespace Go.Proofs.YthbdbmbdfhbeiaaGreat
open Go.RowKit Go.Sort Go.Maps
attribute [local go_sem ↓] Go.wp_at_zero Go.wp_at_succ

/-- A key's count, as the document has it. -/
def rget (N : List Rk) (C : List Int) (x : Rk) : Int := (C[fi N x]?).getD 0
def rN (N : List Rk) (x : Rk) : List Rk := if fi N x < N.length then N else N ++ [x]
def rC (N : List Rk) (C : List Int) (x : Rk) (v : Int) : List Int := if fi N x < N.length then C.set (fi N x) (rget N C x + v) else C ++ [v]
theorem rget_bd {N : List Rk} {C : List Int} (h : ∀ c ∈ C, -2147483647 ≤ c ∧ c ≤ 2147483647) (x : Rk) : -2147483647 ≤ rget N C x ∧ rget N C x ≤ 2147483647 := by
  unfold rget
  cases hq : C[fi N x]? with
  | none => simp
  | some c => exact h c (List.mem_of_getElem? hq)
theorem refBeyond_any (n : Int) (w : World) : Calls Tryz.prog 31 #[.int .i64 n] w fun e w' => e = .returned (.bool (byd n)) ∧ w' = w := by
  unfold byd
  go_enter Tryz.func31, Tryz.ntmps31
  go_wp2
  all_goals (go_ret; refine ⟨?_, rfl⟩; simp_all)

set_option maxHeartbeats 1000000 in
theorem rget_any {r : Rf} {kind : Int} {N : List Rk} {C : List Int} (x : Rk) (w : World) (h : RT w r kind N C) :
    Calls Tryz.prog 13 #[rp r, rkv x] w fun e w' => e = .returned (.int .i64 (rget N C x)) ∧ Gr w w' := by
  have hat := fun W (hW : RT W r kind N C) => at_any x W hW
  have HR : Hid (RT w r kind N C) := h
  have hfew := h.few
  have hle := h.len
  have hlt := h.lt
  clear h
  by_cases hf : fi N x < N.length
  · obtain ⟨c, hc⟩ : ∃ c, C[fi N x]? = some c := ⟨C[fi N x]'(by omega), by simp⟩
    have e1 : rget N C x = c := by unfold rget; rw [hc]; rfl
    have e2 : idk N x = (fi N x : Int) := by unfold idk; rw [if_pos hf]
    rw [e1]
    rw [e2] at hat
    generalize fi N x = q at *
    have hqz : ¬ (q : Int) < 0 := by omega
    have hqc : (q : Int) < (C.length : Int) := by omega
    go_enter Tryz.func13, Tryz.ntmps13
    go_wp2_with fail
    refine (hat _ (HR.out.gr ((Gr.refl _).alloc _))).mono ?_
    rintro e w1 ⟨rfl, hg⟩
    have hg1 : Gr w w1 := ((Gr.refl w).alloc _).trans hg
    have R1 := HR.out.gr hg1
    have c2 := R1.c2
    have hl1 := R1.lt
    obtain ⟨b1, o1, cc, e3, z1, y1⟩ := R1.lc.at1 hc
    rw [e3] at c2
    clear R1 hat hc
    go_wp2
    go_ret
    exact ⟨rfl, hg1⟩
  · have e1 : rget N C x = 0 := by
      unfold rget
      rw [List.getElem?_eq_none (by omega)]; rfl
    have e2 : idk N x = -1 := by unfold idk; rw [if_neg hf]
    rw [e1]
    rw [e2] at hat
    go_enter Tryz.func13, Tryz.ntmps13
    go_wp2_with fail
    refine (hat _ (HR.out.gr ((Gr.refl _).alloc _))).mono ?_
    rintro e w1 ⟨rfl, hg⟩
    have hg1 : Gr w w1 := ((Gr.refl w).alloc _).trans hg
    clear hat
    go_wp2
    go_ret
    exact ⟨rfl, hg1⟩

theorem infoK : (Tryz.prog.info? 49).map (fun i => (i.zero, i.size, i.bytes)) = some (some (.agg #[.string ⟨#[]⟩, .int .i64 0]), 2, 24) := by kernel_rfl
theorem infoI : (Tryz.prog.info? 2).map (fun i => (i.zero, i.size, i.bytes)) = some (some (.int .i64 0), 1, 8) := by kernel_rfl
theorem fi_not {N : List Rk} {x : Rk} (h : ¬ fi N x < N.length) : x ∉ N := fun hx => h (List.findIdx_lt_length.2 ⟨x, hx, by simp⟩)

/-- What Add leaves. -/
def RAdd (r : Rf) (kind : Int) (N : List Rk) (C : List Int) (x : Rk) (v : Int) (w : World) (e : Ending) (w' : World) : Prop :=
  (byd v = true ∨ byd (rget N C x + v) = true) ∧ e = .returned (.int .i64 12) ∧ Gr w w' ∨
  (byd v = false ∧ byd (rget N C x + v) = false) ∧ e = .returned (.int .i64 0) ∧ ∃ r' : Rf, r'.b = r.b ∧ RT w' r' kind (rN N x) (rC N C x v) ∧ Kp r.own w w' ∧ ∀ k, r'.own k → r.own k ∨ w.heap.size ≤ k
theorem frozen_of_block {w w' : World} {b o : Nat} (h : w'.heap[b]? = w.heap[b]?) : w'.frozen? ⟨b, o, none⟩ = w.frozen? ⟨b, o, none⟩ := by simp [World.frozen?, h]
/-- The names are set anew. -/
theorem RT.setN {w : World} {r : Rf} {kind : Int} {n0 c0 : Value} (h : w.heap[r.b]? = some (.cells #[.int .i64 kind, n0, c0] 33 (0, 0))) (v2 : Value) :
    (w.setCell ⟨r.b, 1, none⟩ v2).heap[r.b]? = some (.cells #[.int .i64 kind, v2, c0] 33 (0, 0)) ∧ Kp (fun k => k = r.b) w (w.setCell ⟨r.b, 1, none⟩ v2) := by
  have e := setCell_eq_setRow w r.b 1 _ _ _ v2 h
  refine ⟨?_, ?_⟩
  · rw [e, setRow_heap w r.b _ _ _ _ h]; simp
  · rw [e]
    exact ⟨rfl, rfl, rfl, by simp [World.setRow], fun k _ hne => setRow_other w r.b k _ (by omega)⟩
theorem RT.setC {w : World} {r : Rf} {kind : Int} {n0 c0 : Value} (h : w.heap[r.b]? = some (.cells #[.int .i64 kind, n0, c0] 33 (0, 0))) (v2 : Value) :
    (w.setCell ⟨r.b, 2, none⟩ v2).heap[r.b]? = some (.cells #[.int .i64 kind, n0, v2] 33 (0, 0)) ∧ Kp (fun k => k = r.b) w (w.setCell ⟨r.b, 2, none⟩ v2) := by
  have e := setCell_eq_setRow w r.b 2 _ _ _ v2 h
  refine ⟨?_, ?_⟩
  · rw [e, setRow_heap w r.b _ _ _ _ h]; simp
  · rw [e]
    exact ⟨rfl, rfl, rfl, by simp [World.setRow], fun k _ hne => setRow_other w r.b k _ (by omega)⟩

theorem owns_setv {w : World} {e : TypeId} {g n cap k : Nat} {xs : List Value} (u : Value) (h : w.ownsRow 0 e 1 (.slice (some ⟨g, 0, none⟩) n cap) n xs) :
    (w.setCell ⟨g, k, none⟩ u).ownsRow 0 e 1 (.slice (some ⟨g, 0, none⟩) n cap) n (xs.set k u) ∧ Kp (fun q => q = g) w (w.setCell ⟨g, k, none⟩ u) := by
  obtain ⟨h1, ⟨h0, _⟩ | ⟨g', cap', cur, hv, hg, hh, h2, h3, h4, h5⟩⟩ := h
  · cases h0
  · cases hv
    have e1 := setCell_eq_setRow w g k _ _ _ u hh
    have hk1 : Kp (fun q => q = g) w (w.setCell ⟨g, k, none⟩ u) := by
      rw [e1]
      exact ⟨rfl, rfl, rfl, by simp [World.setRow], fun q _ hne => setRow_other _ g q _ (by omega)⟩
    refine ⟨⟨by simpa using h1, Or.inr ⟨g, cap, _, rfl, hg, by rw [e1]; exact setRow_heap _ g _ _ _ _ hh, h2, h3, ?_, ?_⟩⟩, hk1⟩
    · simp [h4]
    · rw [Nat.mul_one] at h5 ⊢
      rw [Array.toList_setIfInBounds, List.take_set, h5]
set_option maxHeartbeats 4000000 in
set_option maxRecDepth 100000 in
theorem radd_any {r : Rf} {kind : Int} {N : List Rk} {C : List Int} (x : Rk) (v : Int) (w : World) (h : RT w r kind N C) (hfw : N.length < 90000) :
    Calls Tryz.prog 10 #[rp r, rkv x, .int .i64 v] w (RAdd r kind N C x v w) := by
  have hmx : Tryz.prog.follows .mixedOrders = true := by kernel_rfl
  have hat := fun W (hW : RT W r kind N C) => at_any x W hW
  have hge := fun W (hW : RT W r kind N C) => rget_any x W hW
  have hb1 := fun W => refBeyond_any v W
  have hb2 := fun W => refBeyond_any (rget N C x + v) W
  have hgb := rget_bd h.bd (N := N) x
  have HR : Hid (RT w r kind N C) := h
  have HG : Hid (∃ q, q = rget N C x) := ⟨_, rfl⟩
  clear h HG
  obtain ⟨q, hq⟩ : ∃ q, q = rget N C x := ⟨_, rfl⟩
  have HQ : Hid (q = rget N C x) := hq
  rw [← hq] at hge hb2 hgb
  clear hq
  cases hv : byd v with
  | true =>
    rw [hv] at hb1
    have HV : Hid (byd v = true) := hv
    clear hv
    go_enter Tryz.func10, Tryz.ntmps10
    go_wp2_with fail
    refine (hb1 _).mono ?_
    rintro e w1 ⟨rfl, rfl⟩
    go_wp2
    go_ret
    exact Or.inl ⟨Or.inl HV.out, rfl, (Gr.refl _).alloc _⟩
  | false =>
    have hv' := byd_f.1 hv
    rw [hv] at hb1
    have HV : Hid (byd v = false) := hv
    clear hv
    cases hv2 : byd (q + v) with
    | true =>
      rw [hv2] at hb2
      have HV2 : Hid (byd (rget N C x + v) = true) := by rw [← HQ.out]; exact hv2
      clear hv2
      go_enter Tryz.func10, Tryz.ntmps10
      go_wp2_with fail
      refine (hb1 _).mono ?_
      rintro e w1 ⟨rfl, rfl⟩
      go_wp2_with fail
      refine (hge _ (HR.out.gr ((Gr.refl _).alloc _))).mono ?_
      rintro e w2 ⟨rfl, g2⟩
      go_wp2_with fail
      refine (hb2 _).mono ?_
      rintro e w3 ⟨rfl, rfl⟩
      go_wp2
      go_ret
      exact Or.inl ⟨Or.inr HV2.out, rfl, ((Gr.refl _).alloc _).trans g2⟩
    | false =>
      have hv3 := byd_f.1 hv2
      rw [hv2] at hb2
      have HV2 : Hid (byd (rget N C x + v) = false) := by rw [← HQ.out]; exact hv2
      clear hv2
      by_cases hf : fi N x < N.length
      · have e2 : idk N x = (fi N x : Int) := by unfold idk; rw [if_pos hf]
        rw [e2] at hat
        have hlen := HR.out.len
        obtain ⟨c, hc⟩ : ∃ c, C[fi N x]? = some c := ⟨C[fi N x]'(by omega), by simp⟩
        have hcq : c = q := by rw [HQ.out]; unfold rget; rw [hc]; rfl
        subst hcq
        have HFX : Hid (fi N x < N.length) := hf
        obtain ⟨p, hp⟩ : ∃ p, p = fi N x := ⟨_, rfl⟩
        have HP : Hid (p = fi N x) := hp
        rw [← hp] at hat hc hf
        clear hp e2
        obtain ⟨g, cap, erc⟩ : ∃ g cap, r.c = .slice (some ⟨g, 0, none⟩) C.length cap := by
          obtain ⟨_, ⟨h0, h1⟩ | ⟨g', cap', cur, hv, _⟩⟩ := id HR.out.ct
          · omega
          · exact ⟨g', cap', hv⟩
        have hpz : ¬ (p : Int) < 0 := by omega
        have hpc : (p : Int) < (C.length : Int) := by omega
        have hpn : (p : Int) < (N.length : Int) := by omega
        have hwv : IntKind.i64.wrap (c + v) = c + v := by rw [IntKind.wrap_i64]; omega
        go_enter Tryz.func10, Tryz.ntmps10
        go_wp2_with fail
        refine (hb1 _).mono ?_
        rintro e w1 ⟨rfl, rfl⟩
        go_wp2_with fail
        refine (hge _ (HR.out.gr ((Gr.refl _).alloc _))).mono ?_
        rintro e w2 ⟨rfl, g2⟩
        have x1 : w2.cell? ⟨w.heap.size, 0, none⟩ = some (.string x.1.1) := (g2.cell (by simp)).trans (by simp)
        have x2 : w2.cell? ⟨w.heap.size, 1, none⟩ = some (.int .i64 x.2) := (g2.cell (by simp)).trans (by simp)
        have HR2 : Hid (RT w2 r kind N C) := (HR.out.gr ((Gr.refl _).alloc _)).gr g2
        go_wp2_with fail
        refine (hb2 _).mono ?_
        rintro e w3 ⟨rfl, rfl⟩
        have hat3 := hat w3 HR2.out
        go_wp2_with fail
        refine hat3.mono ?_
        rintro e w4 ⟨rfl, g4⟩
        have HR4 : Hid (RT w4 r kind N C) := HR2.out.gr g4
        have HG4 : Hid (Gr w w4) := (((Gr.refl w).alloc _).trans g2).trans g4
        have k2 := HR4.out.c2
        have hrb4 := HR4.out.lt
        have hct := HR4.out.ct
        rw [erc] at k2 hct
        have hgl : g < w4.heap.size := (hct.lt g rfl).2
        have y1 : w4.cell? ⟨g, p, none⟩ = some (.int .i64 c) := by
          have := hct.cells (g := g) rfl p (.int .i64 c) (by simp [hc])
          rw [addP, Nat.zero_add] at this
          exact this
        have y1f : w4.frozen? ⟨g, p, none⟩ = false := by
          obtain ⟨_, ⟨h0, _⟩ | ⟨g'', cap', cur, hv, _, hgg, _⟩⟩ := id hct
          · cases h0
          · cases hv
            simp [World.frozen?, hgg]
        have HCT : Hid (w4.ownsRow 0 2 1 (.slice (some ⟨g, 0, none⟩) C.length cap) C.length (C.map (Value.int .i64))) := hct
        clear g2 g4 HR2 hat hat3 hge hct
        go_wp2_with fail
        go_region
        all_goals go_wp2
        all_goals (
          go_ret
          obtain ⟨hs1, hs2⟩ := owns_setv (k := p) (.int .i64 (c + v)) HCT.out
          have e1 : rN N x = N := by unfold rN; rw [if_pos HFX.out]
          have e3 : rC N C x v = C.set p (c + v) := by unfold rC; rw [if_pos HFX.out, HP.out, ← HQ.out]
          have hgr : r.c.ownBlock = some g := by rw [erc]; rfl
          have hk : Kp r.own w (w4.setCell ⟨g, p, none⟩ (.int .i64 (c + v))).drew := ((Kp.of_gr HG4.out).trans (hs2.mono (T := r.own) (fun q hq => Or.inr (Or.inr (by rw [hq]; exact hgr)))) (fun _ _ h => h)).trans (Kp.of_gr (S := r.own) (Gr.refl _).drew) (fun _ _ h => h)
          refine Or.inr ⟨⟨HV.out, HV2.out⟩, rfl, r, rfl, ?_, hk, fun k hk => Or.inl hk⟩
          rw [e1, e3]
          have HS : RT (w4.setCell ⟨g, p, none⟩ (.int .i64 (c + v))) r kind N (C.set p (c + v)) := ⟨(hs2.block r.b hrb4 (fun e => HR.out.o2 (by rw [hgr, e]))).trans HR4.out.blk, owns_kp hs2 HR4.out.nm (fun q hq e => HR.out.o3 q hq (by rw [hgr, e])), by rw [erc, List.length_set, List.map_set]; exact hs1, by simp [hlen], HR.out.o1, HR.out.o2, HR.out.o3, HR.out.nd, fun d hd => by
            rcases List.mem_or_eq_of_mem_set hd with h | h
            · exact HR.out.bd d h
            · rw [h]; exact hv3, HR.out.few⟩
          exact HS.gr (Gr.refl _).drew)
      · have e2 : idk N x = -1 := by unfold idk; rw [if_neg hf]
        rw [e2] at hat
        go_enter Tryz.func10, Tryz.ntmps10
        go_wp2_with fail
        refine (hb1 _).mono ?_
        rintro e w1 ⟨rfl, rfl⟩
        go_wp2_with fail
        refine (hge _ (HR.out.gr ((Gr.refl _).alloc _))).mono ?_
        rintro e w2 ⟨rfl, g2⟩
        have HR2 : Hid (RT w2 r kind N C) := (HR.out.gr ((Gr.refl _).alloc _)).gr g2
        have x1 : w2.cell? ⟨w.heap.size, 0, none⟩ = some (.string x.1.1) := (g2.cell (by simp)).trans (by simp)
        have x2 : w2.cell? ⟨w.heap.size, 1, none⟩ = some (.int .i64 x.2) := (g2.cell (by simp)).trans (by simp)
        have hws : w.heap.size < w2.heap.size := Nat.lt_of_lt_of_le (by simp) g2.size
        go_wp2_with fail
        refine (hb2 _).mono ?_
        rintro e w3 ⟨rfl, rfl⟩
        have hat3 := hat w3 HR2.out
        go_wp2_with fail
        refine hat3.mono ?_
        rintro e w4 ⟨rfl, g4⟩
        have HR4 : Hid (RT w4 r kind N C) := HR2.out.gr g4
        have x1' := (g4.cell hws).trans x1
        have x2' := (g4.cell hws).trans x2
        have hws4 := Nat.lt_of_lt_of_le hws g4.size
        have HG4 : Hid (Gr w w4) := (((Gr.refl w).alloc _).trans g2).trans g4
        clear x1 x2 hws g2 g4 HR2 hat hat3 hge
        obtain ⟨iK, hiK, hk0, hk1, hk2⟩ := info_parts infoK
        obtain ⟨iI, hiI, hi0, hi1, hi2⟩ := info_parts infoI
        have hlen := HR.out.len
        have hrb4 : r.b < w4.heap.size := HR4.out.lt
        have k1 := HR4.out.c1
        have k1f := HR4.out.f1
        have hne1 : some r.b ≠ r.n.ownBlock := fun e => HR.out.o1 e.symm
        have hne2 : some w.heap.size ≠ r.n.ownBlock := fun e => by have := (HR.out.nm.lt _ e.symm).2; omega
        have hnm := HR4.out.nm
        go_wp2_with fail
        go_region_law (refine step_append_lies _ rfl _ _ 30 rfl 0 49 iK (.agg #[.string ⟨#[]⟩, .int .i64 0]) 2 24 Tryz.underlying30 hiK hk0 hk1 hk2 rfl (by decide) r.n N.length (flatU N) rfl (World.ownsRow.alloc (w := w4.drew) hnm _) ⟨w4.heap.size, 0, none⟩ 1 1 [.string x.1.1, .int .i64 x.2] rfl rfl (World.news_of_block (heap_alloc_new _ _)) (by simp [Value.oneCell']) (by decide) (by unfold maxLen; omega) (by omega) (Nat.zero_le _) _ rfl ?_
                       intro g cap w10 hown10 hgrow hat10 hlt10
                       have HB10 := hgrow.block r.b (by simp; omega) hne1
                       have k10 : w10.cell? ⟨r.b, 1, none⟩ = some r.n := (World.cell?_of_block (a := ⟨r.b, 1, none⟩) HB10).trans ((((Gr.refl w4).drew.alloc _).cell hrb4).trans k1)
                       have k10f : w10.frozen? ⟨r.b, 1, none⟩ = false := (frozen_of_block HB10).trans ((((Gr.refl w4).drew.alloc _).frozen hrb4).trans k1f))
        all_goals (
          have HB10' : w10.heap[r.b]? = some (.cells #[.int .i64 kind, r.n, r.c] 33 (0, 0)) := HB10.trans ((((Gr.refl w4).drew.alloc _).below.block r.b hrb4).trans HR4.out.blk)
          obtain ⟨hs1, hs2⟩ := RT.setN HB10' (.slice (some ⟨g, 0, none⟩) (N.length + 1) cap)
          have HK10 : Hid (Kp (fun q => r.n.ownBlock = some q) w4 w10) := (Kp.of_gr ((Gr.refl w4).drew.alloc _)).trans (Kp.grownBy (S := fun q => r.n.ownBlock = some q) hgrow (fun _ h => h)) (fun _ _ h => h)
          have HK11 : Hid (Kp (fun q => r.n.ownBlock = some q ∨ q = r.b) w4 (w10.setCell ⟨r.b, 1, none⟩ (.slice (some ⟨g, 0, none⟩) (N.length + 1) cap))) := (HK10.out.mono (fun _ h => Or.inl h)).trans hs2 (fun _ _ h => Or.inr h)
          have hct : (w10.setCell ⟨r.b, 1, none⟩ (.slice (some ⟨g, 0, none⟩) (N.length + 1) cap)).ownsRow 0 2 1 r.c C.length (C.map (Value.int .i64)) := owns_kp HK11.out HR4.out.ct (fun k hk h => h.elim (fun h => HR.out.o3 k h hk) (fun h => HR.out.o2 (h ▸ hk)))
          have HNM : Hid ((w10.setCell ⟨r.b, 1, none⟩ (.slice (some ⟨g, 0, none⟩) (N.length + 1) cap)).ownsRow 0 49 2 (.slice (some ⟨g, 0, none⟩) (N.length + 1) cap) (N.length + 1) (flatU (N ++ [x]))) := by
            rw [flatU_append]
            refine owns_kp hs2 hown10 (fun k hk e => ?_)
            have hkg : k = g := by simpa [Value.ownBlock] using hk.symm
            rcases hat10 with h | h
            · exact HR.out.o1 (by rw [h, ← hkg, e])
            · simp at h; omega
          have k2 : (w10.setCell ⟨r.b, 1, none⟩ (.slice (some ⟨g, 0, none⟩) (N.length + 1) cap)).cell? ⟨r.b, 2, none⟩ = some r.c := by simp [World.cell?, hs1]
          have k2f : (w10.setCell ⟨r.b, 1, none⟩ (.slice (some ⟨g, 0, none⟩) (N.length + 1) cap)).frozen? ⟨r.b, 2, none⟩ = false := by simp [World.frozen?, hs1]
          have HBK : Hid ((w10.setCell ⟨r.b, 1, none⟩ (.slice (some ⟨g, 0, none⟩) (N.length + 1) cap)).heap[r.b]? = some (.cells #[.int .i64 kind, .slice (some ⟨g, 0, none⟩) (N.length + 1) cap, r.c] 33 (0, 0))) := hs1
          have HGL : Hid ((r.n.ownBlock = some g ∨ w4.heap.size ≤ g) ∧ g < w10.heap.size) := ⟨hat10.imp id (fun h => by rw [h]; simp), hlt10⟩
          have hrb10 : r.b < (w10.setCell ⟨r.b, 1, none⟩ (.slice (some ⟨g, 0, none⟩) (N.length + 1) cap)).heap.size := Nat.lt_of_lt_of_le hrb4 HK11.out.size
          clear hs1 hs2 HB10 HB10' k10 k10f hgrow hown10 hat10 hlt10 k1 k1f x1' x2' hnm
          generalize w10.setCell ⟨r.b, 1, none⟩ (.slice (some ⟨g, 0, none⟩) (N.length + 1) cap) = w11 at *
          go_wp2_with (at_builtin; refine wpList_append_lies _ rfl _ _ 31 rfl 0 2 iI (.int .i64 0) 1 8 Tryz.underlying31 hiI hi0 hi1 hi2 rfl (by decide) r.c C.length (C.map (Value.int .i64)) rfl (hct.alloc _) ⟨w11.heap.size, 0, none⟩ 1 1 [.int .i64 v] rfl rfl (World.news_of_block (heap_alloc_new _ _)) (by simp [Value.oneCell']) (by decide) (by unfold maxLen; omega) (by omega) (Nat.zero_le _) _ rfl ?_; intro g2 cap2 w12 hown12 hgrow12 hat12 hlt12; have HB12 := hgrow12.block r.b (by simp; omega) (fun e => HR.out.o2 e.symm); have k12 : w12.cell? ⟨r.b, 2, none⟩ = some r.c := (World.cell?_of_block (a := ⟨r.b, 2, none⟩) HB12).trans ((((Gr.refl w11).alloc _).cell hrb10).trans k2); have k12f : w12.frozen? ⟨r.b, 2, none⟩ = false := (frozen_of_block HB12).trans ((((Gr.refl w11).alloc _).frozen hrb10).trans k2f))
          go_ret
          have HB12' : w12.heap[r.b]? = some (.cells #[.int .i64 kind, .slice (some ⟨g, 0, none⟩) (N.length + 1) cap, r.c] 33 (0, 0)) := HB12.trans ((((Gr.refl w11).alloc _).below.block r.b hrb10).trans HBK.out)
          obtain ⟨hs1, hs2⟩ := RT.setC HB12' (.slice (some ⟨g2, 0, none⟩) (N.length + 1) cap2)
          have hK12 : Kp (fun q => r.c.ownBlock = some q) w11 w12 := (Kp.of_gr ((Gr.refl w11).alloc _)).trans (Kp.grownBy (S := fun q => r.c.ownBlock = some q) hgrow12 (fun _ h => h)) (fun _ _ h => h)
          have hg2 : r.c.ownBlock = some g2 ∨ w11.heap.size ≤ g2 := hat12.imp id (fun h => by rw [h]; simp)
          have hz := HK11.out.size
          have hz4 := HG4.out.size
          have hg1 := HGL.out
          have e1 : rN N x = N ++ [x] := by unfold rN; rw [if_neg hf]
          have e3 : rC N C x v = C ++ [v] := by unfold rC; rw [if_neg hf]
          have ng : ∀ q, r.c.ownBlock = some q → q < w.heap.size := fun q hq => (HR.out.ct.lt q hq).2
          have nn : ∀ q, r.n.ownBlock = some q → q < w.heap.size := fun q hq => (HR.out.nm.lt q hq).2
          have hrbw := HR.out.lt
          have hgb : g ≠ r.b := fun e => by
            rcases hg1.1 with h | h
            · exact HR.out.o1 (by rw [h, e])
            · omega
          have hgc : r.c.ownBlock ≠ some g := fun e => by
            rcases hg1.1 with h | h
            · exact HR.out.o3 g h e
            · have := ng g e; omega
          have hg2b : g2 ≠ r.b := fun e => by
            rcases hg2 with h | h
            · exact HR.out.o2 (by rw [h, e])
            · omega
          have hgl11 : g < w11.heap.size := (HNM.out.lt g rfl).2
          have hgg : g2 ≠ g := fun e => by
            rcases hg2 with h | h
            · exact hgc (by rw [h, e])
            · omega
          refine Or.inr ⟨⟨HV.out, HV2.out⟩, rfl, ⟨r.b, .slice (some ⟨g, 0, none⟩) (N.length + 1) cap, .slice (some ⟨g2, 0, none⟩) (N.length + 1) cap2⟩, rfl, ?_, ?_, ?_⟩
          · rw [e1, e3]
            refine ⟨hs1, ?_, ?_, by simp; omega, ?_, ?_, ?_, ?_, ?_, ?_⟩
            · refine owns_kp hs2 (owns_kp hK12 (by simpa using HNM.out) (fun k hk e => ?_)) (fun k hk e => ?_)
              · have : k = g := by simpa [Value.ownBlock] using hk.symm
                exact hgc (by rw [e, this])
              · have : k = g := by simpa [Value.ownBlock] using hk.symm
                exact hgb (by rw [← this, e])
            · refine owns_kp hs2 (by rw [hlen] at hown12; simpa [hlen] using hown12) (fun k hk e => ?_)
              have : k = g2 := by simpa [Value.ownBlock] using hk.symm
              exact hg2b (by rw [← this, e])
            · simpa [Value.ownBlock] using hgb
            · simpa [Value.ownBlock] using hg2b
            · intro q hq hq'
              simp [Value.ownBlock] at hq hq'
              exact hgg (by omega)
            · refine List.nodup_append.2 ⟨HR.out.nd, by simp, fun a ha b hb => ?_⟩
              simp at hb
              subst hb
              exact fun e => fi_not hf (e ▸ ha)
            · intro c hc
              rcases List.mem_append.1 hc with hc | hc
              · exact HR.out.bd c hc
              · simp at hc; subst hc; exact hv'
            · simp; omega
          · refine (((Kp.of_gr HG4.out).trans (HK11.out.mono (T := r.own) (fun q hq => ?_)) (fun _ _ h => h)).trans (hK12.mono (T := r.own) (fun q hq => Or.inr (Or.inr hq))) (fun _ _ h => h)).trans (hs2.mono (T := r.own) (fun q hq => Or.inl hq)) (fun _ _ h => h)
            rcases hq with h | h
            · exact Or.inr (Or.inl h)
            · exact Or.inl h
          · intro q hq
            rcases hq with h | h | h
            · exact Or.inl (Or.inl h)
            · have : q = g := by simpa [Value.ownBlock] using h.symm
              subst this
              rcases hg1.1 with h' | h'
              · exact Or.inl (Or.inr (Or.inl h'))
              · right; omega
            · have : q = g2 := by simpa [Value.ownBlock] using h.symm
              subst this
              rcases hg2 with h' | h'
              · exact Or.inl (Or.inr (Or.inr h'))
              · right; omega)
end Go.Proofs.YthbdbmbdfhbeiaaGreat
