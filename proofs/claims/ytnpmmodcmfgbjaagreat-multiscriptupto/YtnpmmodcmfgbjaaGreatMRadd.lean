import Derived.Test.YtnpmmodcmfgbjaaGreatMRm
import Derived.Deep.RegionLaw
namespace Go.Proofs.YtnpmmodcmfgbjaaGreat
open Go.RowKit Go.Sort Go.Maps
attribute [local go_sem ↓] Go.wp_at_zero Go.wp_at_succ

theorem infoI : (Tryz.prog.info? 2).map (fun i => (i.zero, i.size, i.bytes)) = some (some (.int .i64 0), 1, 8) := by kernel_rfl
theorem frozen_of_block {w w' : World} {b o : Nat} (h : w'.heap[b]? = w.heap[b]?) : w'.frozen? ⟨b, o, none⟩ = w.frozen? ⟨b, o, none⟩ := by simp [World.frozen?, h]
theorem flI (N : List Int) : fl EI N = N.map (Value.int .i64) := by
  induction N with
  | nil => rfl
  | cons n N ih => rw [fl_cons, ih]; rfl
/-- One list is set anew. -/
theorem setT {w : World} {rb : Nat} {t0 n0 : Value} (h : w.heap[rb]? = some (.cells #[t0, n0] 68 (0, 0))) (v2 : Value) :
    (w.setCell ⟨rb, 0, none⟩ v2).heap[rb]? = some (.cells #[v2, n0] 68 (0, 0)) ∧ Kp (fun k => k = rb) w (w.setCell ⟨rb, 0, none⟩ v2) := by
  have e := setCell_eq_setRow w rb 0 _ _ _ v2 h
  refine ⟨?_, ?_⟩
  · rw [e, setRow_heap w rb _ _ _ _ h]; simp
  · rw [e]
    exact ⟨rfl, rfl, rfl, by simp [World.setRow], fun k _ hne => setRow_other w rb k _ (by omega)⟩
theorem setN {w : World} {rb : Nat} {t0 n0 : Value} (h : w.heap[rb]? = some (.cells #[t0, n0] 68 (0, 0))) (v2 : Value) :
    (w.setCell ⟨rb, 1, none⟩ v2).heap[rb]? = some (.cells #[t0, v2] 68 (0, 0)) ∧ Kp (fun k => k = rb) w (w.setCell ⟨rb, 1, none⟩ v2) := by
  have e := setCell_eq_setRow w rb 1 _ _ _ v2 h
  refine ⟨?_, ?_⟩
  · rw [e, setRow_heap w rb _ _ _ _ h]; simp
  · rw [e]
    exact ⟨rfl, rfl, rfl, by simp [World.setRow], fun k _ hne => setRow_other w rb k _ (by omega)⟩
theorem owns_setv {w : World} {e : TypeId} {g n cap k : Nat} {xs : List Value} (u : Value) (h : w.ownsRow 0 e 1 (.slice (some ⟨g, 0, none⟩) n cap) n xs) :
    (w.setCell ⟨g, k, none⟩ u).ownsRow 0 e 1 (.slice (some ⟨g, 0, none⟩) n cap) n (xs.set k u) ∧ Kp (fun q => q = g) w (w.setCell ⟨g, k, none⟩ u) := by
  obtain ⟨h1, ⟨h0, _⟩ | ⟨g', cap', cur, hv, hg, hh, h2, h3, h4, h5⟩⟩ := h
  · cases h0
  · cases hv
    have e1 := setCell_eq_setRow w g k _ _ _ u hh
    have hk1 : Kp (fun q => q = g) w (w.setCell ⟨g, k, none⟩ u) := by
      rw [e1]
      exact ⟨rfl, rfl, rfl, by simp [World.setRow], fun q _ hne => setRow_other _ g q _ (by omega)⟩
    refine ⟨⟨by simpa using h1, Or.inr ⟨g, cap, _, rfl, hg, by rw [e1]; exact setRow_heap _ g _ _ _ _ hh, h2, h3, ?_, ?_⟩⟩, hk1⟩
    · simp [h4]
    · rw [Nat.mul_one] at h5 ⊢
      rw [Array.toList_setIfInBounds, List.take_set, h5]
theorem findIdx_at {T : List Tm} {k : Nat} {t : Tm} (h : T[k]? = some t) (hn : t ∉ T.take k) : (T.findIdx fun y => decide (y = t)) = k := by
  obtain ⟨h1, h2⟩ := List.getElem?_eq_some_iff.1 h
  rw [List.findIdx_eq h1]
  refine ⟨by simp [h2], fun j hj => ?_⟩
  have : T[j] ≠ t := fun e => hn (by rw [← e]; exact List.mem_take_iff_getElem.2 ⟨j, by omega, rfl⟩)
  simpa using this
theorem cn_set {T : List Tm} {N : List Int} {k : Nat} {x : Tm} (m : Int) (h : T[k]? = some x) (hn : T.Nodup) (hl : N.length = T.length) : cn T (N.set k m) = fun t => if t = x then m else cn T N t := by
  funext t
  by_cases e : t = x
  · subst e
    rw [if_pos rfl, cn_at h (nodup_take h hn) (List.getElem?_set_self (by have := (List.getElem?_eq_some_iff.1 h).1; omega))]
  · rw [if_neg e]
    unfold cn
    rw [List.getElem?_set_ne]
    intro hk
    have hkl := (List.getElem?_eq_some_iff.1 h).1
    have := List.findIdx_getElem (xs := T) (p := fun y => decide (y = t)) (w := by omega)
    simp only [← hk, (List.getElem?_eq_some_iff.1 h).2] at this
    exact e (of_decide_eq_true this).symm
theorem cn_app {T : List Tm} {N : List Int} {x : Tm} (n : Int) (h : x ∉ T) (hl : N.length = T.length) : cn (T ++ [x]) (N ++ [n]) = fun t => if t = x then n else cn T N t := by
  funext t
  by_cases e : t = x
  · subst e
    rw [if_pos rfl]
    exact cn_at (k := T.length) (by simp) (by rw [List.take_left' rfl]; exact h) (by rw [← hl]; simp)
  · rw [if_neg e]
    by_cases ht : t ∈ T
    · obtain ⟨k, hk⟩ := List.getElem?_of_mem ht
      have hi : (T.findIdx fun y => decide (y = t)) < T.length := List.findIdx_lt_length.2 ⟨t, ht, by simp⟩
      unfold cn
      rw [List.findIdx_append, if_pos hi, List.getElem?_append_left (by omega)]
    · rw [cn_out ht hl]
      refine cn_out ?_ (by simp [hl])
      simp [ht, e]
/-- What add leaves. -/
def RAdd (r : Rm) (T : List Tm) (N : List Int) (x : Tm) (n : Int) (w w' : World) : Prop :=
  ∃ (r' : Rm) (T' : List Tm) (N' : List Int), r'.b = r.b ∧ RM w' r' T' N' ∧ T'.length ≤ T.length + 1 ∧ cn T' N' = (fun t => if t = x then wrap64 (cn T N x + n) else cn T N t) ∧ Kp r.own w w' ∧ ∀ k, r'.own k → r.own k ∨ w.heap.size ≤ k

set_option maxHeartbeats 4000000 in
set_option maxRecDepth 100000 in
theorem radd_any (w : World) (r : Rm) (T : List Tm) (N : List Int) (h : RM w r T N) (hfw : T.length < 1000000) (x : Tm) (n : Int) (hn : -2147483647 ≤ n ∧ n ≤ 2147483647) :
    Calls Tryz.prog 50 #[rmp r, tv x, .int .i64 n] w fun e w' => e = .returned (.tuple #[]) ∧ RAdd r T N x n w w' := by
  have hmx : Tryz.prog.follows .mixedOrders = true := by kernel_rfl
  have heq := fun a b c x y z W => run_eqT a b c x y z W
  obtain ⟨rb, vt, vn⟩ := r
  change Calls Tryz.prog 50 #[.pointer (some ⟨rb, 0, none⟩), tv x, .int .i64 n] w _
  obtain ⟨W1, hW1⟩ : ∃ W1, W1 = w.alloc (.cells #[.int .u64 x.1.1, .int .u64 x.1.2.1, .int .u64 x.1.2.2] 37) := ⟨_, rfl⟩
  obtain ⟨B0, hB0⟩ : ∃ B0, B0 = w.heap.size := ⟨_, rfl⟩
  have G1 : Gr w W1 := by rw [hW1]; exact (Gr.refl _).alloc _
  have HG : Hid (Gr w W1) := G1
  have HBW : Hid (B0 = w.heap.size) := hB0
  have h1 := h.bel G1.below
  have HR0 : Hid (RM w ⟨rb, vt, vn⟩ T N) := h
  have HR : Hid (RM W1 ⟨rb, vt, vn⟩ T N) := h1
  have HLN : Hid (N.length = T.length) := h1.len
  have hNb : N.length < 1000000 := by rw [h1.len]; exact hfw
  have hlt : rb < W1.heap.size := h1.lt
  obtain ⟨pl, cl, hft⟩ : ∃ p c, vt = .slice p T.length c := h1.lsT.form
  obtain ⟨pn, cc, hfn⟩ : ∃ p c, vn = .slice p N.length c := h1.lsN.form
  subst hft hfn
  clear h1 h
  have hblk : W1.heap[B0]? = some (.cells #[.int .u64 x.1.1, .int .u64 x.1.2.1, .int .u64 x.1.2.2] 37 (0, 0)) := by rw [hW1, hB0]; exact heap_new' _ _
  have hB : B0 < W1.heap.size := (Array.getElem?_eq_some_iff.1 hblk).1
  have q0 : W1.cell? ⟨B0, 0, none⟩ = some (.int .u64 x.1.1) := by simp only [World.cell?]; rw [hblk]; rfl
  have q1 : W1.cell? ⟨B0, 1, none⟩ = some (.int .u64 x.1.2.1) := by simp only [World.cell?]; rw [hblk]; rfl
  have q2 : W1.cell? ⟨B0, 2, none⟩ = some (.int .u64 x.1.2.2) := by simp only [World.cell?]; rw [hblk]; rfl
  clear hblk G1
  go_enter Tryz.func50, Tryz.ntmps50
  go_wp2_with fail
  rw [← hW1, ← hB0]
  clear hW1 hB0
  go_loopw [6] (fun s6 wr => ∃ k : Nat, k ≤ T.length ∧ s6 = .int .i64 k ∧ Gr W1 wr ∧ Hid (x ∉ T.take k)) (fun s6 _ => T.length - (RowKit.intOf s6).toNat)
  case atStart => exact ⟨0, Nat.zero_le _, rfl, Gr.refl _, by simp [Hid]⟩
  case round =>
    obtain ⟨k, hk, rfl, hgr, A⟩ := hrel
    have hRr := HR.out.bel hgr.below
    have HRR : Hid (RM wr ⟨rb, .slice pl T.length cl, .slice pn N.length cc⟩ T N) := hRr
    have r0 : wr.cell? ⟨rb, 0, none⟩ = some (.slice pl T.length cl) := hRr.c0
    have r1 : wr.cell? ⟨rb, 1, none⟩ = some (.slice pn N.length cc) := hRr.c1
    have hlr : rb < wr.heap.size := hRr.lt
    have HT : Hid (Lst wr (.slice pl T.length cl) T) := hRr.lsT
    have s0 := (hgr.cell hB).trans q0
    have s1 := (hgr.cell hB).trans q1
    have s2 := (hgr.cell hB).trans q2
    have hBr := Nat.lt_of_lt_of_le hB hgr.size
    have HGW : Hid (Gr w wr) := HG.out.trans hgr
    clear hRr
    by_cases hkl : k < T.length
    · have hkz : (k : Int) < (T.length : Int) := by omega
      have hnz : (k : Int) < (N.length : Int) := by have := HLN.out; omega
      obtain ⟨y, hy⟩ : ∃ y, T[k]? = some y := ⟨T[k], by simp⟩
      obtain ⟨m, hm⟩ : ∃ m, N[k]? = some m := ⟨N[k]'(by omega), by simp⟩
      have HY : Hid (T[k]? = some y) := hy
      have HMK : Hid (N[k]? = some m) := hm
      obtain ⟨b1, o1, c1', e1, z1, x1, x2, x3⟩ := HT.out.at3 hy
      simp only [Value.slice.injEq] at e1
      obtain ⟨rfl, -, rfl⟩ := e1
      clear hy
      by_cases hxy : y = x
      · have hq := teq_t hxy
        have HXT : Hid (T[k]? = some x) := HY.out.trans (congrArg some hxy)
        have HCN : Hid (cn T N x = m) := cn_at HXT.out A.out HMK.out
        obtain ⟨g, hpn⟩ : ∃ g, pn = some ⟨g, 0, none⟩ := by
          obtain ⟨_, ⟨h0, h1⟩ | ⟨g', cap', cur, hv, _⟩⟩ := id HRR.out.ct
          · omega
          · simp only [Value.slice.injEq] at hv
            exact ⟨g', hv.1⟩
        subst hpn
        have hct : wr.ownsRow 0 2 1 (.slice (some ⟨g, 0, none⟩) N.length cc) N.length (fl EI N) := HRR.out.ct
        have hgl : g < wr.heap.size := (hct.lt g rfl).2
        have y1 : wr.cell? ⟨g, k, none⟩ = some (.int .i64 m) := by
          have := hct.cells (g := g) rfl k (.int .i64 m) (by rw [flI]; simp [hm])
          rw [addA, Nat.zero_add] at this
          exact this
        have y1f : wr.frozen? ⟨g, k, none⟩ = false := by
          obtain ⟨_, ⟨h0, _⟩ | ⟨g'', cap', cur, hv, _, hgg, _⟩⟩ := id hct
          · cases h0
          · cases hv
            simp [World.frozen?, hgg]
        have HCT : Hid (wr.ownsRow 0 2 1 (.slice (some ⟨g, 0, none⟩) N.length cc) N.length (fl EI N)) := hct
        clear hxy hct hm
        go_wp2_with fail
        go_quiet (fail)
        have G8 : Gr wr (wr.drewN nq) := (Gr.refl wr).drewN nq
        have t0 := (G8.cell hlr).trans r0
        have t1 := (G8.cell hlr).trans r1
        have u1 := (G8.cell hgl).trans y1
        have u1f := (G8.frozen hgl).trans y1f
        have HRG : Hid (RM (wr.drewN nq) ⟨rb, .slice (some ⟨b1, o1, none⟩) T.length cl, .slice (some ⟨g, 0, none⟩) N.length cc⟩ T N) := HRR.out.bel G8.below
        have HG9 : Hid (Gr w (wr.drewN nq)) := HGW.out.trans G8
        have HCT9 : Hid ((wr.drewN nq).ownsRow 0 2 1 (.slice (some ⟨g, 0, none⟩) N.length cc) N.length (fl EI N)) := owns_below HCT.out G8.below
        clear r0 r1 y1 y1f s0 s1 s2 x1 x2 x3 G8 HCT HRR
        generalize wr.drewN nq = w4 at *
        go_wp2_with fail
        go_region
        all_goals go_wp2
        all_goals (
          refine bodyPost_ret (results_none rfl _ _ _) rfl ?_
          obtain ⟨hs1, hs2⟩ := owns_setv (k := k) (.int .i64 (wrap64 (m + n))) HCT9.out
          have hgr : (Value.slice (some ⟨g, 0, none⟩) N.length cc).ownBlock = some g := rfl
          have hk : Kp (Rm.own ⟨rb, .slice (some ⟨b1, o1, none⟩) T.length cl, .slice (some ⟨g, 0, none⟩) N.length cc⟩) w (w4.setCell ⟨g, k, none⟩ (.int .i64 (wrap64 (m + n)))).drew := ((Kp.of_gr HG9.out).trans (hs2.mono (fun q hq => Or.inr (Or.inr (by rw [hq]; exact hgr)))) (fun _ _ h => h)).trans (Kp.of_gr (Gr.refl _).drew) (fun _ _ h => h)
          have HS : RM (w4.setCell ⟨g, k, none⟩ (.int .i64 (wrap64 (m + n)))) ⟨rb, .slice (some ⟨b1, o1, none⟩) T.length cl, .slice (some ⟨g, 0, none⟩) N.length cc⟩ T (N.set k (wrap64 (m + n))) :=
            ⟨(hs2.block rb HRG.out.lt (fun e => HRG.out.o2 (by rw [e]; exact hgr))).trans HRG.out.blk, owns_kp hs2 HRG.out.tm (fun q hq e => HRG.out.o3 q hq (by rw [e]; exact hgr)), by rw [List.length_set, flI, List.map_set, ← flI]; exact hs1, by rw [List.length_set]; exact HLN.out, HRG.out.o1, HRG.out.o2, HRG.out.o3, HRG.out.nd, HRG.out.few⟩
          refine ⟨rfl, _, _, _, rfl, HS.bel (Gr.refl _).drew.below, by omega, ?_, hk, fun k hk => Or.inl hk⟩
          rw [cn_set _ HXT.out HRG.out.nd HLN.out, HCN.out])
      · have hq := teq_f hxy
        have HXY : Hid (y ≠ x) := hxy
        clear hxy
        go_wp2_with fail
        go_quiet (fail)
        go_wp2
        go_roundw
        case rel =>
          refine ⟨k + 1, by omega, by go_num, hgr.drewN _, fun hx => ?_⟩
          rw [List.take_add_one, HY.out] at hx
          rcases List.mem_append.1 hx with h | h
          · exact A.out h
          · simp at h
            exact HXY.out h.symm
        case measure => simp [RowKit.intOf]; omega
    · have hkz : ¬ (k : Int) < (T.length : Int) := by omega
      have hkl : k = T.length := by omega
      subst hkl
      rw [List.take_length] at A
      obtain ⟨iK, hiK, hk0, hk1, hk2⟩ := info_parts infoTm
      obtain ⟨iI, hiI, hi0, hi1, hi2⟩ := info_parts infoI
      have k0f : wr.frozen? ⟨rb, 0, none⟩ = false := HRR.out.f0
      have hne1 : some rb ≠ (Value.slice pl T.length cl).ownBlock := fun e => HRR.out.o1 e.symm
      have hnm : wr.ownsRow 0 37 3 (Value.slice pl T.length cl) T.length (flT T) := HRR.out.tm
      clear hgr HT q0 q1 q2 HG HR
      go_wp2_with fail
      go_region_law (refine step_append_lies _ rfl _ _ 42 rfl 0 37 iK (.agg #[.int .u64 0, .int .u64 0, .int .u64 0]) 3 24 Tryz.underlying42 hiK hk0 hk1 hk2 rfl (by decide) (Value.slice pl T.length cl) T.length (flT T) rfl (World.ownsRow.alloc (w := wr.drew) hnm _) ⟨wr.heap.size, 0, none⟩ 1 1 [.int .u64 x.1.1, .int .u64 x.1.2.1, .int .u64 x.1.2.2] rfl rfl (World.news_of_block (heap_new' _ _)) (by simp [Value.oneCell']) (by decide) (by unfold maxLen; omega) (by omega) (Nat.zero_le _) _ rfl ?_
                     intro g cap w10 hown10 hgrow hat10 hlt10
                     have HB10 := hgrow.block rb (by simp; omega) hne1
                     have k10 : w10.cell? ⟨rb, 0, none⟩ = some (Value.slice pl T.length cl) := (World.cell?_of_block (a := ⟨rb, 0, none⟩) HB10).trans ((((Gr.refl wr).drew.alloc _).cell hlr).trans r0)
                     have k10f : w10.frozen? ⟨rb, 0, none⟩ = false := (frozen_of_block HB10).trans ((((Gr.refl wr).drew.alloc _).frozen hlr).trans k0f))
      all_goals (
        have HB10' : w10.heap[rb]? = some (.cells #[(Value.slice pl T.length cl), (Value.slice pn N.length cc)] 68 (0, 0)) := HB10.trans ((((Gr.refl wr).drew.alloc _).below.block rb hlr).trans HRR.out.blk)
        obtain ⟨hs1, hs2⟩ := setT HB10' (.slice (some ⟨g, 0, none⟩) (T.length + 1) cap)
        have HK10 : Hid (Kp (fun q => (Value.slice pl T.length cl).ownBlock = some q) wr w10) := (Kp.of_gr ((Gr.refl wr).drew.alloc _)).trans (Kp.grownBy (S := fun q => (Value.slice pl T.length cl).ownBlock = some q) hgrow (fun _ h => h)) (fun _ _ h => h)
        have HK11 : Hid (Kp (fun q => (Value.slice pl T.length cl).ownBlock = some q ∨ q = rb) wr (w10.setCell ⟨rb, 0, none⟩ (.slice (some ⟨g, 0, none⟩) (T.length + 1) cap))) := (HK10.out.mono (fun _ h => Or.inl h)).trans hs2 (fun _ _ h => Or.inr h)
        have hct : (w10.setCell ⟨rb, 0, none⟩ (.slice (some ⟨g, 0, none⟩) (T.length + 1) cap)).ownsRow 0 2 1 (Value.slice pn N.length cc) N.length (fl EI N) := owns_kp HK11.out HRR.out.ct (fun k hk h => h.elim (fun h => HRR.out.o3 k h hk) (fun h => HRR.out.o2 (h ▸ hk)))
        have HNM : Hid ((w10.setCell ⟨rb, 0, none⟩ (.slice (some ⟨g, 0, none⟩) (T.length + 1) cap)).ownsRow 0 37 3 (.slice (some ⟨g, 0, none⟩) (T.length + 1) cap) (T.length + 1) (flT (T ++ [x]))) := by
          rw [flT_append]
          refine owns_kp hs2 hown10 (fun k hk e => ?_)
          have hkg : k = g := by simpa [Value.ownBlock] using hk.symm
          rcases hat10 with h | h
          · exact HRR.out.o1 (h.trans (by rw [← hkg, e]))
          · simp at h; omega
        have k2 : (w10.setCell ⟨rb, 0, none⟩ (.slice (some ⟨g, 0, none⟩) (T.length + 1) cap)).cell? ⟨rb, 1, none⟩ = some (Value.slice pn N.length cc) := by simp [World.cell?, hs1]
        have k2f : (w10.setCell ⟨rb, 0, none⟩ (.slice (some ⟨g, 0, none⟩) (T.length + 1) cap)).frozen? ⟨rb, 1, none⟩ = false := by simp [World.frozen?, hs1]
        have HBK : Hid ((w10.setCell ⟨rb, 0, none⟩ (.slice (some ⟨g, 0, none⟩) (T.length + 1) cap)).heap[rb]? = some (.cells #[(.slice (some ⟨g, 0, none⟩) (T.length + 1) cap), (Value.slice pn N.length cc)] 68 (0, 0))) := hs1
        have HGL : Hid (((Value.slice pl T.length cl).ownBlock = some g ∨ wr.heap.size ≤ g) ∧ g < w10.heap.size) := ⟨hat10.imp id (fun h => by rw [h]; simp), hlt10⟩
        have hrb10 : rb < (w10.setCell ⟨rb, 0, none⟩ (.slice (some ⟨g, 0, none⟩) (T.length + 1) cap)).heap.size := Nat.lt_of_lt_of_le hlr HK11.out.size
        clear hs1 hs2 HB10 HB10' k10 k10f hgrow hown10 hat10 hlt10 r0 k0f s0 s1 s2 hnm
        generalize w10.setCell ⟨rb, 0, none⟩ (.slice (some ⟨g, 0, none⟩) (T.length + 1) cap) = w11 at *
        go_wp2_with (at_builtin; refine wpList_append_lies _ rfl _ _ 66 rfl 0 2 iI (.int .i64 0) 1 8 Tryz.underlying66 hiI hi0 hi1 hi2 rfl (by decide) (Value.slice pn N.length cc) N.length (fl EI N) rfl (hct.alloc _) ⟨w11.heap.size, 0, none⟩ 1 1 [.int .i64 n] rfl rfl (World.news_of_block (heap_new' _ _)) (by simp [Value.oneCell']) (by decide) (by unfold maxLen; omega) (by omega) (Nat.zero_le _) _ rfl ?_; intro g2 cap2 w12 hown12 hgrow12 hat12 hlt12; have HB12 := hgrow12.block rb (by simp; omega) (fun e => HRR.out.o2 e.symm); have k12 : w12.cell? ⟨rb, 1, none⟩ = some (Value.slice pn N.length cc) := (World.cell?_of_block (a := ⟨rb, 1, none⟩) HB12).trans ((((Gr.refl w11).alloc _).cell hrb10).trans k2); have k12f : w12.frozen? ⟨rb, 1, none⟩ = false := (frozen_of_block HB12).trans ((((Gr.refl w11).alloc _).frozen hrb10).trans k2f))
        go_end0
        have HB12' : w12.heap[rb]? = some (.cells #[(.slice (some ⟨g, 0, none⟩) (T.length + 1) cap), (Value.slice pn N.length cc)] 68 (0, 0)) := HB12.trans ((((Gr.refl w11).alloc _).below.block rb hrb10).trans HBK.out)
        obtain ⟨hs1, hs2⟩ := setN HB12' (.slice (some ⟨g2, 0, none⟩) (N.length + 1) cap2)
        have hK12 : Kp (fun q => (Value.slice pn N.length cc).ownBlock = some q) w11 w12 := (Kp.of_gr ((Gr.refl w11).alloc _)).trans (Kp.grownBy (S := fun q => (Value.slice pn N.length cc).ownBlock = some q) hgrow12 (fun _ h => h)) (fun _ _ h => h)
        have hg2 : (Value.slice pn N.length cc).ownBlock = some g2 ∨ w11.heap.size ≤ g2 := hat12.imp id (fun h => by rw [h]; simp)
        have hz := HK11.out.size
        have hz4 := HGW.out.size
        have hg1 := HGL.out
        have ng : ∀ q, (Value.slice pn N.length cc).ownBlock = some q → q < w.heap.size := fun q hq => (HR0.out.ct.lt q hq).2
        have nn : ∀ q, (Value.slice pl T.length cl).ownBlock = some q → q < w.heap.size := fun q hq => (HR0.out.tm.lt q hq).2
        have hrbw : rb < w.heap.size := HR0.out.lt
        have hgb : g ≠ rb := fun e => by
          rcases hg1.1 with h | h
          · exact HRR.out.o1 (h.trans (by rw [e]))
          · omega
        have hgc : (Value.slice pn N.length cc).ownBlock ≠ some g := fun e => by
          rcases hg1.1 with h | h
          · exact HRR.out.o3 g h e
          · have := ng g e; omega
        have hg2b : g2 ≠ rb := fun e => by
          rcases hg2 with h | h
          · exact HRR.out.o2 (h.trans (by rw [e]))
          · omega
        have hgl11 : g < w11.heap.size := (HNM.out.lt g rfl).2
        have hgg : g2 ≠ g := fun e => by
          rcases hg2 with h | h
          · exact hgc (h.trans (by rw [e]))
          · omega
        refine ⟨rfl, ⟨rb, (.slice (some ⟨g, 0, none⟩) (T.length + 1) cap), .slice (some ⟨g2, 0, none⟩) (N.length + 1) cap2⟩, T ++ [x], N ++ [n], rfl, ?_, by simp, ?_, ?_, ?_⟩
        · refine ⟨hs1, ?_, ?_, by rw [List.length_append, List.length_append, HLN.out]; rfl, ?_, ?_, ?_, ?_, by simp; omega⟩
          · refine owns_kp hs2 (owns_kp hK12 (by simpa using HNM.out) (fun k hk e => ?_)) (fun k hk e => ?_)
            · have : k = g := by simpa [Value.ownBlock] using hk.symm
              exact hgc (by rw [e, this])
            · have : k = g := by simpa [Value.ownBlock] using hk.symm
              exact hgb (by rw [← this, e])
          · refine owns_kp hs2 (by rw [flI] at hown12 ⊢; simpa using hown12) (fun k hk e => ?_)
            have : k = g2 := by simpa [Value.ownBlock] using hk.symm
            exact hg2b (by rw [← this, e])
          · simpa [Value.ownBlock] using hgb
          · simpa [Value.ownBlock] using hg2b
          · intro q hq hq'
            simp [Value.ownBlock] at hq hq'
            exact hgg (by omega)
          · refine List.nodup_append.2 ⟨HRR.out.nd, by simp, fun a ha b hb => ?_⟩
            simp at hb
            subst hb
            exact fun e => A.out (e ▸ ha)
        · rw [cn_app n A.out HLN.out, cn_out A.out HLN.out]
          funext t
          rw [show wrap64 (0 + n) = n by unfold wrap64; omega]
        · refine (((Kp.of_gr HGW.out).trans (HK11.out.mono (fun q hq => ?_)) (fun _ _ h => h)).trans (hK12.mono (fun q hq => Or.inr (Or.inr hq))) (fun _ _ h => h)).trans (hs2.mono (fun q hq => Or.inl hq)) (fun _ _ h => h)
          rcases hq with h | h
          · exact Or.inr (Or.inl h)
          · exact Or.inl h
        · intro q hq
          rcases hq with h | h | h
          · exact Or.inl (Or.inl h)
          · have : q = g := by simpa [Value.ownBlock] using h.symm
            subst this
            rcases hg1.1 with h' | h'
            · exact Or.inl (Or.inr (Or.inl h'))
            · right; omega
          · have : q = g2 := by simpa [Value.ownBlock] using h.symm
            subst this
            rcases hg2 with h' | h'
            · exact Or.inl (Or.inr (Or.inr h'))
            · right; omega)
end Go.Proofs.YtnpmmodcmfgbjaaGreat
