import Derived.Test.YtnpmmodcmfgbjaaGreatMDel
import Derived.Maps.AppendAt
import Derived.Maps.RangeWalk
import Derived.Sort.OwnSorted
namespace Go.Proofs.YtnpmmodcmfgbjaaGreat
open Go.RowKit Go.Sort Go.Maps
open Tt (Tl byd byd_f byd_t)
attribute [local go_sem ↓] Go.wp_at_zero Go.wp_at_succ

/-- The sums of deltas, time by time, as int64 adds. -/
def sm (ds : List Dl) : Tm → Int := ds.foldl (fun g d => upd g d.1 (wrap64 (g d.1 + d.2))) (fun _ => 0)
theorem sm_take_succ {ds : List Dl} {k : Nat} {d : Dl} (h : ds[k]? = some d) : sm (ds.take (k + 1)) = upd (sm (ds.take k)) d.1 (wrap64 (sm (ds.take k) d.1 + d.2)) := by
  unfold sm
  rw [List.take_add_one, h, List.foldl_append]
  rfl
/-- What a count will be. -/
def newc (f : Tm → Int) (ds : List Dl) (t : Tm) : Int := wrap64 (sm ds t + f t)
/-- Is the list refused? -/
def bad (f : Tm → Int) (ds : List Dl) : Bool := ds.any (fun d => byd d.2) || ds.any (fun d => byd (newc f ds d.1))
theorem wf_wrap (z : Int) : (Lit.int .i64 (wrap64 z)).wf = true := WalkArith.wf_i64 (by unfold wrap64; omega)
theorem Coll.all {P : Program} {k : TypeId} {K : Type} [DecidableEq K] {Z : KK P k K} {D : DataW Unit} {left : Lit → Bool} {ss ks : List K} (h : Coll Z D left ss) (h2 : ∀ s, Maps.has D (Z.lit s) = true ↔ s ∈ ks) (hl : ∀ kl, left kl = false) : ss.Nodup ∧ ∀ s, s ∈ ss ↔ s ∈ ks :=
  ⟨h.1, fun s => by rw [h.2 s, hl, h2]; simp⟩
theorem tv_inv {key : Value} {kl : Lit} (h : keyOf Tryz.prog 37 key = some kl) : ∃ x, key = tv x := by
  obtain ⟨x, hx, _⟩ := ZT.inv _ _ h
  exact ⟨x, hx⟩

set_option maxHeartbeats 4000000 in
set_option maxRecDepth 100000 in
theorem behind_any {tb b g n : Nat} {f : Tm → Int} (ds : List Dl) (v : Value) (w : World) (h : Tl w tb b g n f) (hv : Ls ED w v ds) (hl : ds.length * 32 ≤ 140737488355328) :
    Calls Tryz.prog 39 #[cv tb, v] w fun e w' => Below w.heap.size w w' ∧
      ((bad f ds = true ∧ e = .returned (.tuple #[.slice none 0 0, .bool false])) ∨
       (bad f ds = false ∧ ∃ (ks : List Tm) (v' : Value), (ks.Nodup ∧ ∀ t, t ∈ ks ↔ t ∈ ds.map Prod.fst) ∧ e = .returned (.tuple #[v', .bool true]) ∧ w'.ownsRow w.heap.size 54 4 v' ks.length (fl ED (ks.map fun t => (t, newc f ds t))))) := by
  have hmx : Tryz.prog.follows .mixedOrders = true := by kernel_rfl
  have hmm := @run_makeMap Tryz.prog
  obtain ⟨pl, cl, rfl⟩ := hv.form
  obtain ⟨W1, hW1⟩ : ∃ W1, W1 = (w.alloc (.cells #[.pointer (some ⟨tb, 0, none⟩)] 60)).alloc (.map #[] 0) := ⟨_, rfl⟩
  have G1 : Gr w W1 := by rw [hW1]; exact ((Gr.refl _).alloc _).alloc _
  obtain ⟨B0, hB0⟩ : ∃ B0, B0 = w.heap.size := ⟨_, rfl⟩
  obtain ⟨mb, hmb⟩ : ∃ mb, mb = w.heap.size + 1 := ⟨_, rfl⟩
  have hz : B0 < W1.heap.size := by rw [hW1]; simp; omega
  have c0 : W1.cell? ⟨B0, 0, none⟩ = some (.pointer (some ⟨tb, 0, none⟩)) := by rw [hW1, hB0]; simp
  have HM0 : Hid (Mq ZT 2 W1 mb 0 (fun _ => 0) []) := by
    have := Mq.made (Z := ZT) (e := 2) (w.alloc (.cells #[.pointer (some ⟨tb, 0, none⟩)] 60))
    rw [hW1, hmb]
    simpa [Hid] using this
  have HL : Hid (Ls ED W1 (.slice pl ds.length cl) ds) := hv.below G1.below
  have HLB : Hid (∀ k, (Value.slice pl ds.length cl).ownBlock = some k → k < w.heap.size) := hv.blk
  have HT : Hid (Tl w tb b g n f) := h
  have HG : Hid (Gr w W1) := G1
  have hbm : B0 ≠ mb := by omega
  have hbw : w.heap.size ≤ mb := by omega
  have HBB : Hid (B0 = w.heap.size) := hB0
  clear h hv G1
  go_enter Tryz.func39, Tryz.ntmps39
  go_wp2_with fail
  rw [← hW1, ← hmb, ← hB0]
  clear hW1 hmb hB0
  go_loopw [8, 15] (fun _ s15 wr => ∃ k : Nat, k ≤ ds.length ∧ s15 = .int .i64 k ∧ Hid (Mq ZT 2 wr mb k (sm (ds.take k)) ((ds.take k).map Prod.fst) ∧ Kp (fun j => j = mb) W1 wr ∧ ∀ d ∈ ds.take k, byd d.2 = false)) (fun _ s15 _ => ds.length - (RowKit.intOf s15).toNat)
  case atStart => exact ⟨0, Nat.zero_le _, rfl, by simpa [sm] using HM0.out, Kp.refl _ _, by simp⟩
  case round =>
    obtain ⟨k, hk, rfl, HI⟩ := hrel
    have HBW : Hid (Below w.heap.size w wr) := HG.out.below.trans (HI.out.2.1.below HG.out.size (fun j hj => by omega))
    by_cases hlt : k < ds.length
    · have hltz : (k : Int) < (ds.length : Int) := by omega
      obtain ⟨d, hd⟩ : ∃ d, ds[k]? = some d := ⟨ds[k], by simp⟩
      have hdm : d ∈ ds := List.mem_of_getElem? hd
      obtain ⟨b1, o1, c1, e1, z1, x1, x2, x3, x4⟩ := (HI.out.2.1.ls HL.out (fun j hj hs => by have := HLB.out j hj; omega)).at4 hd
      simp only [Value.slice.injEq] at e1
      obtain ⟨rfl, -, rfl⟩ := e1
      have HS : Hid (sm (ds.take (k + 1)) = upd (sm (ds.take k)) d.1 (wrap64 (sm (ds.take k) d.1 + d.2))) := sm_take_succ hd
      have HTK : Hid (ds.take (k + 1) = ds.take k ++ [d]) := by rw [List.take_add_one, hd]; rfl
      have hbe := mbeyond_any d.2
      have HD : Hid (ds[k]? = some d) := hd
      have HDM : Hid (d ∈ ds) := hdm
      clear hd hdm
      cases hq : byd d.2 with
      | true =>
        rw [hq] at hbe
        go_wp2_with (go_at_call 60; refine (hbe _).mono ?_; rintro e w2 ⟨rfl, rfl⟩)
        go_ret2
        refine ⟨HBW.out.trans (((Gr.refl _).alloc _).below.mono HBW.out.size), Or.inl ⟨?_, rfl⟩⟩
        unfold bad
        rw [Bool.or_eq_true]
        exact Or.inl (List.any_eq_true.2 ⟨d, HDM.out, hq⟩)
      | false =>
        rw [hq] at hbe
        obtain ⟨W2, hW2⟩ : ∃ W2, W2 = wr.alloc (.cells #[.int .u64 d.1.1.1, .int .u64 d.1.1.2.1, .int .u64 d.1.1.2.2, .int .i64 d.2] 54) := ⟨_, rfl⟩
        obtain ⟨nb, hnb⟩ : ∃ nb, nb = wr.heap.size := ⟨_, rfl⟩
        have G2 : Gr wr W2 := by rw [hW2]; exact (Gr.refl _).alloc _
        have hmbw : mb < wr.heap.size := HI.out.1.lt
        have hM2 : Mq ZT 2 W2.drew mb k (sm (ds.take k)) ((ds.take k).map Prod.fst) := HI.out.1.kept (G2.drew.below.block mb hmbw)
        obtain ⟨v0, st, w1, w2, hL0, hE, hL1, hSt, hM3, hg1, hg2⟩ := hM2.bump (t := 92) lawTm Tryz.underlying92 Tryz.underlying2 Tt.zeroE (by unfold maxLen; omega) d.1 (wrap64 (sm (ds.take k) d.1 + d.2)) (wf_wrap _)
        have HW2 : Hid (Mq ZT 2 w2 mb (k + 1) (sm (ds.take (k + 1))) ((ds.take (k + 1)).map Prod.fst) ∧ Kp (fun j => j = mb) W1 w2 ∧ ∀ d ∈ ds.take (k + 1), byd d.2 = false) := by
          refine ⟨?_, HI.out.2.1.trans ((Kp.of_gr (S := fun j => j = mb) G2.drew).trans (Kp.grownBy (S := fun j => j = mb) hg2 (fun j hj => by simpa using hj.symm)) (fun _ _ h => h)) (fun _ _ h => h), ?_⟩
          · rw [HS.out, HTK.out]
            simpa using hM3
          · rw [HTK.out]
            intro e he
            rcases List.mem_append.1 he with he | he
            · exact HI.out.2.2 e he
            · simp at he; subst he; exact hq
        have hblk : W2.heap[nb]? = some (.cells #[.int .u64 d.1.1.1, .int .u64 d.1.1.2.1, .int .u64 d.1.1.2.2, .int .i64 d.2] 54 (0, 0)) := by rw [hW2, hnb]; exact heap_new' _ _
        have hnl : nb < W2.drew.heap.size := (Array.getElem?_eq_some_iff.1 hblk).1
        have y0 : ∀ q, w1.cell? ⟨nb, q, none⟩ = W2.drew.cell? ⟨nb, q, none⟩ := fun q => World.cell?_of_block (a := ⟨nb, q, none⟩) (hg1.block nb hnl (by simp; omega))
        have q0 : W2.cell? ⟨nb, 0, none⟩ = some (.int .u64 d.1.1.1) := by simp only [World.cell?]; rw [hblk]; rfl
        have q1 : W2.cell? ⟨nb, 1, none⟩ = some (.int .u64 d.1.1.2.1) := by simp only [World.cell?]; rw [hblk]; rfl
        have q2 : W2.cell? ⟨nb, 2, none⟩ = some (.int .u64 d.1.1.2.2) := by simp only [World.cell?]; rw [hblk]; rfl
        have q3 : W2.cell? ⟨nb, 3, none⟩ = some (.int .i64 d.2) := by simp only [World.cell?]; rw [hblk]; rfl
        have r0 := (y0 0).trans q0
        have r1 := (y0 1).trans q1
        have r2 := (y0 2).trans q2
        have r3 := (y0 3).trans q3
        have hL0 : (Instr.lookup 92 (.map (some mb)) (tv d.1) false).run Tryz.prog W2.drew = .ok (.int .i64 (sm (ds.take k) d.1)) W2.drew := hL0
        have hL1 : (Instr.lookup 92 (.map (some mb)) (tv d.1) false).run Tryz.prog w1 = .ok (.int .i64 (sm (ds.take k) d.1)) w1 := hL1
        have hE : (Instr.mapEntry 92 (.map (some mb)) (tv d.1)).run Tryz.prog W2.drew = .ok (.tuple #[v0, .int .i64 st]) w1 := hE
        have hSt : (Instr.entryStore 92 (.map (some mb)) (.int .i64 st) (.int .i64 (wrap64 (sm (ds.take k) d.1 + d.2)))).run Tryz.prog w1 = .ok () w2 := hSt
        generalize sm (ds.take k) d.1 = c at hL0 hL1 hSt
        go_wp2_with (go_at_call 60; refine (hbe _).mono ?_; rintro e w2 ⟨rfl, rfl⟩)
        rw [← hW2, ← hnb]
        clear hW2 hnb x1 x2 x3 x4 hblk y0 hM2 hM3 hg1 hg2 G2
        go_region
        all_goals go_wp2
        all_goals exact ⟨⟨k + 1, by omega, by go_num, HW2.out⟩, by simp [RowKit.intOf]; omega⟩
    · have hltz : ¬ (k : Int) < (ds.length : Int) := by omega
      have hk' : k = ds.length := by omega
      subst hk'
      have hD := HI.out.1
      have HBD : Hid (∀ d ∈ ds, byd d.2 = false) := by have := HI.out.2.2; rw [List.take_length] at this; exact this
      rw [List.take_length] at hD
      obtain ⟨D, hown, h1, h2⟩ := hD
      have h1' : Hid (∀ s, D.atKey (ZT.lit s) (nd 0) = nd (sm ds s)) := h1
      have hsz := hown.size_le
      have hlen := fun ty => hown.len Tryz.underlying92 ty
      have H2 : Hid (∀ s, Maps.has D (ZT.lit s) = true ↔ s ∈ ds.map Prod.fst) := h2
      have c0r : wr.cell? ⟨B0, 0, none⟩ = some (.pointer (some ⟨tb, 0, none⟩)) := (HI.out.2.1.cell hz hbm).trans c0
      have hzr : B0 < wr.heap.size := Nat.lt_of_lt_of_le hz HI.out.2.1.size
      have hbl : mb < wr.heap.size := hown.lt
      clear HI h1 h2 hltz hlt hk HM0 c0 hz HL HLB HG
      obtain ⟨i0, hi, hz0, hz1, hz2⟩ := info_parts infoDl
      obtain ⟨wL, hwL⟩ : ∃ x, x = wr := ⟨wr, rfl⟩
      subst hwL
      go_wp2_with (first
        | (at_make; refine wpList_make_own _ rfl _ _ 38 rfl wL.heap.size 54 i0 (.agg #[.int .u64 0, .int .u64 0, .int .u64 0, .int .i64 0]) 4 Tryz.underlying38 hi hz0 hz1 _ _ _ (Maps.size D) rfl rfl rfl (by rw [hz2]; omega) (by unfold maxLen; omega) (Nat.le_refl _) ?_; intro w1 hrow1 hg1)
        | (at_range; refine wpList_range_own _ rfl _ 92 rfl 37 2 ZT.law Tryz.underlying92 _ mb ds.length _ rfl (hown.kept hg1 (by simp)) ?_; intro w0 hrg0 hg0 hs0)
        | go_in)
      go_frame
      go_loopw [9, 10, 11] (fun v _ _ wr => ∃ (left : Lit → Bool) (cnt : Nat) (ss : List Tm), wr.ranges Tryz.prog 37 (plainElem Tryz.prog 2) mb w1.heap.size ds.length D left cnt ∧ ss.length + cnt ≤ Maps.size D ∧
          wr.ownsRow wL.heap.size 54 4 v ss.length (fl ED (ss.map fun t => (t, newc f ds t))) ∧ v ≠ .slice none 0 0 ∧ Coll ZT D left ss ∧ Below wL.heap.size wL wr ∧ Hid (∀ t ∈ ss, byd (newc f ds t) = false))
        (fun _ _ _ wr => wr.rangeLeft mb w1.heap.size)
      case atStart =>
        exact ⟨_, _, [], hrg0, by simp, hrow1.kept hg0 (Or.inr (by simp [Value.ownBlock])), by simp, Coll.start D,
          ((Below.refl _ _).grown hg1 (Nat.le_refl _) (fun j hj => by cases hj)).grown hg0 hg1.size (fun j hj => by cases hj), by simp [Hid]⟩
      case round =>
        obtain ⟨left, cnt, ss, hrg, hcs, hrow, hnn, hC, hnx, HB⟩ := hrel
        go_wp2_with (first
          | (at_next; refine wpList_next_ranges _ rfl _ rfl 37 ZT.law (plainElem Tryz.prog 2) tv (Value.int .i64) (fun key kl hk => tv_inv hk) (fun v y hv => by obtain ⟨c, rfl, _⟩ := plainElem_int_inv Tryz.underlying2 hv; exact ⟨c, rfl⟩) mb w1.heap.size ds.length _ _ _ rfl hrg ?_ ?_)
          | go_in)
        · intro hc0 hl0
          have hA := hC.all H2.out hl0
          go_wp2
          go_ret2
          refine ⟨HBW.out.trans (hnx.mono HBW.out.size), Or.inr ⟨?_, ss, _, hA, rfl, owns_base hrow HBW.out.size⟩⟩
          unfold bad
          rw [Bool.or_eq_false_iff, List.any_eq_false, List.any_eq_false]
          refine ⟨fun d hd => by rw [HBD.out d hd]; simp, fun d hd => by rw [HB.out d.1 ((hA.2 d.1).2 (List.mem_map_of_mem hd))]; simp⟩
        · intro ta tb' tc tp c kl yd yp w2 cnt2 hkey hlk hv hat hrg2 hlt2 hg2 hs2 hen
          obtain ⟨x, hx⟩ : ∃ x : Tm, x = ⟨(ta, tb', tc), tp⟩ := ⟨_, rfl⟩
          rw [← hx] at hkey hen ⊢
          clear hx tp ta tb' tc
          obtain rfl : kl = ZT.lit x := by
            have h7 := (ZT.key x).symm.trans hkey
            exact (Option.some.inj h7).symm
          obtain rfl : c = sm ds x := by
            obtain ⟨c', e1, e2, _⟩ := plainElem_int_inv Tryz.underlying2 hv
            have e3 := (h1'.out x).symm.trans (hat _)
            cases e1
            cases e2
            simpa using e3.symm
          have HXM : Hid (x ∈ ds.map Prod.fst) := (H2.out x).1 (has_true_of_atKey hat)
          have hrow2 := hrow.kept hg2 (Or.inr (row_ne_iter hrow hrg).symm)
          have B2 : Below wL.heap.size wL w2 := hnx.grown hg2 hnx.size (fun j hj => by cases hj; exact hg1.size)
          have HC2 := hC.step hlk hat
          have c02 : w2.cell? ⟨B0, 0, none⟩ = some (.pointer (some ⟨tb, 0, none⟩)) := (B2.cell (p := ⟨B0, 0, none⟩) hzr).trans c0r
          have hz2' : B0 < w2.heap.size := Nat.lt_of_lt_of_le hzr B2.size
          obtain ⟨W3, hW3⟩ : ∃ W3, W3 = w2.alloc (.cells #[.int .u64 x.1.1, .int .u64 x.1.2.1, .int .u64 x.1.2.2] 37) := ⟨_, rfl⟩
          obtain ⟨nb, hnb⟩ : ∃ nb, nb = w2.heap.size := ⟨_, rfl⟩
          have G3 : Gr w2 W3 := by rw [hW3]; exact (Gr.refl _).alloc _
          have B3 : Below wL.heap.size wL W3 := B2.trans (G3.below.mono B2.size)
          have hco := mcount_any x W3 ((HT.out.below HBW.out).below B3)
          have hblk : W3.heap[nb]? = some (.cells #[.int .u64 x.1.1, .int .u64 x.1.2.1, .int .u64 x.1.2.2] 37 (0, 0)) := by rw [hW3, hnb]; exact heap_new' _ _
          have hnl : nb < W3.heap.size := (Array.getElem?_eq_some_iff.1 hblk).1
          have q0 : W3.cell? ⟨nb, 0, none⟩ = some (.int .u64 x.1.1) := by simp only [World.cell?]; rw [hblk]; rfl
          have q1 : W3.cell? ⟨nb, 1, none⟩ = some (.int .u64 x.1.2.1) := by simp only [World.cell?]; rw [hblk]; rfl
          have q2 : W3.cell? ⟨nb, 2, none⟩ = some (.int .u64 x.1.2.2) := by simp only [World.cell?]; rw [hblk]; rfl
          have c03 := (G3.cell hz2').trans c02
          have hrow3 := owns_below hrow2 G3.below
          have hrg3 := hrg2.kept (row := none) ⟨G3.below.os, G3.below.tape, G3.below.output, G3.below.size, fun k hk _ => G3.below.block k hk⟩ (by simp) (by simp)
          have hbe := mbeyond_any (newc f ds x)
          have hnc : newc f ds x = wrap64 (sm ds x + f x) := rfl
          rw [hnc] at hbe
          have HSS : Hid (fl ED ((ss ++ [x]).map fun t => (t, newc f ds t)) = fl ED (ss.map fun t => (t, newc f ds t)) ++ ED.enc (x, wrap64 (sm ds x + f x))) := by
            rw [List.map_append, fl_append, ← hnc]
            simp [Hid, fl]
          have HNC : Hid (newc f ds x = wrap64 (sm ds x + f x)) := hnc
          clear hnc
          generalize sm ds x = sx at *
          generalize f x = fx at *
          clear hs2 hblk hrow2 hrg2 hv hat hkey hlk
          cases hq : byd (wrap64 (sx + fx)) with
          | true =>
            rw [hq] at hbe
            go_wp2_with fail
            rw [← hW3]
            refine hco.mono ?_
            rintro e w4 ⟨rfl, hg4⟩
            go_wp2_with (go_at_call 60; refine (hbe _).mono ?_; rintro e w5 ⟨rfl, rfl⟩)
            go_ret2
            refine ⟨HBW.out.trans ((B3.trans (hg4.below.mono B3.size)).mono HBW.out.size), Or.inl ⟨?_, rfl⟩⟩
            unfold bad
            rw [Bool.or_eq_true]
            obtain ⟨d, hd, hdx⟩ := List.mem_map.1 HXM.out
            exact Or.inr (List.any_eq_true.2 ⟨d, hd, by rw [hdx, HNC.out]; exact hq⟩)
          | false =>
            rw [hq] at hbe
            go_wp2_with fail
            rw [← hW3]
            refine hco.mono ?_
            rintro e w4 ⟨rfl, hg4⟩
            have r0 := (hg4.cell hnl).trans q0
            have r1 := (hg4.cell hnl).trans q1
            have r2 := (hg4.cell hnl).trans q2
            have hnl4 := Nat.lt_of_lt_of_le hnl hg4.size
            rw [hnb] at r0 r1 r2 hnl4
            have B4 : Below wL.heap.size wL w4 := B3.trans (hg4.below.mono B3.size)
            have hrow4 := owns_below hrow3 hg4.below
            have hrg4 := hrg3.kept (row := none) ⟨hg4.below.os, hg4.below.tape, hg4.below.output, hg4.below.size, fun k hk _ => hg4.below.block k hk⟩ (by simp) (by simp)
            clear q0 q1 q2 hrow3 hrg3 hco hg4
            go_wp2_with (first
              | (go_at_call 60; refine (hbe _).mono ?_; rintro e w5 ⟨rfl, rfl⟩)
              | (at_builtin; refine wpApp1D rfl _ _ rfl wL.heap.size _ ss.length _ rfl hrow4 (x, wrap64 (sx + fx)) rfl (by omega) B4.size ?_; intro g' cap' w6 ho6 hg6 hl6)
              | go_in)
            have hrg6 := hrg4.kept hg6 (row_ne_low hrow4 hbl) (row_ne_iter hrow4 hrg4)
            go_roundw
            case rel =>
              refine ⟨_, cnt2, ss ++ [x], hrg6, by simp; omega, ?_, by simp, HC2, ?_, fun t ht => ?_⟩
              · rw [HSS.out, List.length_append]
                exact ho6
              · exact B4.trans ((Kp.grownBy (S := fun k => wL.heap.size ≤ k) hg6 (fun k hk => (hrow4.lt k hk).1)).below B4.size (fun _ h => h))
              · rcases List.mem_append.1 ht with h | h
                · exact HB.out t h
                · simp at h; subst h; rw [HNC.out]; exact hq
            case measure => rw [hrg6.left_eq, hrg.left_eq]; exact hlt2
end Go.Proofs.YtnpmmodcmfgbjaaGreat
