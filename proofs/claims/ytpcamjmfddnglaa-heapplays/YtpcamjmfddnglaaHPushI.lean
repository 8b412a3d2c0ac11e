import Derived.Test.YtpcamjmfddnglaaHUpI
import Derived.Deep.RegionLaw
import Derived.Deep.RegionWith
namespace Go.Proofs.Ytpcamjmfddnglaa.Hi
open Go.RowKit Go.Sort Hp
attribute [local go_sem ↓] Go.wp_at_zero Go.wp_at_succ

theorem hid {p : Prop} (h : p) : Hid p := h
theorem infoI : (Try.prog.info? 86).map (fun i => (i.zero, i.size, i.bytes)) = some (some (.agg #[.int .i64 0, .int .u64 0]), 2, 16) := by kernel_rfl
theorem frozen_of_block {w w' : World} {b o : Nat} (h : w'.heap[b]? = w.heap[b]?) : w'.frozen? ⟨b, o, none⟩ = w.frozen? ⟨b, o, none⟩ := by simp [World.frozen?, h]
theorem owns_fz {w : World} {e : TypeId} {s g n n' cap : Nat} {xs : List Value} (h : w.ownsRow 0 e s (.slice (some ⟨g, 0, none⟩) n' cap) n xs) (q : Nat) : w.frozen? ⟨g, q, none⟩ = false := by
  obtain ⟨_, ⟨h0, _⟩ | ⟨g', cap', cur, hv, _, hgg, _⟩⟩ := h
  · cases h0
  · cases hv
    simp [World.frozen?, hgg]
/-- What Push holds as it moves items down. -/
structure Pu (w : World) (hb ff np B1 g cap : Nat) (v : Value) (L : List It) (x : It) (r : Th → Th → Bool) (at_ : Nat) (M : List It) (i : Nat) (wr : World) : Prop where
  inv : PushInv (ahd r) L x at_ M i
  hp : Hb wr hb ff (.slice (some ⟨g, 0, none⟩) (L.length + 1) cap) M (np + 1)
  box : wr.heap[B1]? = some (.cells #[.int .i64 x.1, .int .u64 (x.2 : Nat)] 86 (0, 0))
  turn : Turn hb v (.slice (some ⟨g, 0, none⟩) (L.length + 1) cap) w wr
  bne : B1 ≠ g ∧ B1 ≠ hb
theorem Pu.row {w wr : World} {hb ff np B1 g cap at_ i : Nat} {v : Value} {L M : List It} {x : It} {r : Th → Th → Bool} (h : Pu w hb ff np B1 g cap v L x r at_ M i wr) : wr.ownsRow 0 86 2 (.slice (some ⟨g, 0, none⟩) (L.length + 1) cap) (L.length + 1) (fl EI M) := by
  have := h.hp.own
  rw [h.inv.len] at this
  exact this
/-- One item is stored. -/
theorem Pu.set {w wr w' : World} {hb ff np B1 g cap at_ i j : Nat} {v : Value} {L M : List It} {x : It} {r : Th → Th → Bool} (h : Pu w hb ff np B1 g cap v L x r at_ M i wr) {y : It} {k : Nat} (hi : PushInv (ahd r) L x at_ (M.set k y) j)
    (ho : w'.ownsRow 0 86 2 (.slice (some ⟨g, 0, none⟩) (L.length + 1) cap) (L.length + 1) (fl EI (M.set k y))) (hk : Kp (fun q => q = g) wr w') (hg : v.ownBlock = some g ∨ w.heap.size ≤ g) : Pu w hb ff np B1 g cap v L x r at_ (M.set k y) j w' := by
  have hgb : hb ≠ g := fun e => h.hp.off (by rw [e]; rfl)
  refine ⟨hi, ⟨(hk.block hb h.hp.lt hgb).trans h.hp.blk, by rw [hi.len]; exact ho, h.hp.off⟩, (hk.block B1 (Array.getElem?_eq_some_iff.1 h.box).1 h.bne.1).trans h.box, ⟨h.turn.1.trans hk (fun q _ hq => ?_), h.turn.2⟩, h.bne⟩
  subst hq
  rcases hg with hg | hg
  · exact Or.inr hg
  · omega

set_option maxHeartbeats 2000000 in
set_option maxRecDepth 100000 in
theorem push_any {hb ff np : Nat} {v : Value} {L : List It} {r : Th → Th → Bool} (x : Th) (w : World) (hH : Hb w hb ff v L np) (hl : (L.length + 1) * 16 ≤ 140737488355328) (hnp : np + 1 < 18446744073709551616) (hF : FnOk ff r) :
    Calls Try.prog 26 #[.pointer (some ⟨hb, 0, none⟩), tv x] w fun e w' => ∃ v' L', e = .returned (.tuple #[]) ∧ Hb w' hb ff v' L' (np + 1) ∧ L'.Perm (L ++ [(x, np)]) ∧ (Tot (ahd r) → Heapy (ahd r) L → Heapy (ahd r) L') ∧ Turn hb v v' w w' := by
  have hmx : Try.prog.follows .mixedOrders = true := by kernel_rfl
  have k0 := hH.c0
  have k1 := hH.c1
  have k2 := hH.c2
  have kl := hH.lt
  have k2f := hH.fz 2
  obtain ⟨pl, cl, rfl⟩ := hH.lst.form
  obtain ⟨B1, hB1⟩ : ∃ B1, B1 = w.heap.size := ⟨_, rfl⟩
  obtain ⟨W2, hW2⟩ : ∃ W2, W2 = w.alloc (.cells #[.int .i64 (x, np).1, .int .u64 ((x, np).2 : Nat)] 86) := ⟨_, rfl⟩
  have G2 : Gr w W2 := by rw [hW2]; exact (Gr.refl _).alloc _
  have hBX : W2.heap[B1]? = some (.cells #[.int .i64 (x, np).1, .int .u64 ((x, np).2 : Nat)] 86 (0, 0)) := by rw [hW2, hB1]; exact heap_new' _ _
  have HH2 : Hid (Hb W2 hb ff (.slice pl L.length cl) L np) := hH.gr G2
  have hup := upTo_any (r := r) (x, np) W2 HH2.out (by omega) hF
  have HG2 : Hid (Gr w W2) := G2
  have HBW : Hid (w.heap.size ≤ B1 ∧ B1 < W2.heap.size) := ⟨by omega, (Array.getElem?_eq_some_iff.1 hBX).1⟩
  have hBl : B1 < W2.heap.size := (Array.getElem?_eq_some_iff.1 hBX).1
  obtain ⟨q0, q1⟩ : W2.cell? ⟨B1, 0, none⟩ = some (.int .i64 (x, np).1) ∧ W2.cell? ⟨B1, 1, none⟩ = some (.int .u64 ((x, np).2 : Nat)) := by simp [World.cell?, hBX]
  have HBX : Hid (W2.heap[B1]? = some (.cells #[.int .i64 (x, np).1, .int .u64 ((x, np).2 : Nat)] 86 (0, 0))) := hBX
  have HH0 : Hid (Hb w hb ff (.slice pl L.length cl) L np) := hH
  clear hH G2 hBX
  go_enter Try.func26, Try.ntmps26
  go_wp2_with fail
  rw [← hW2, ← hB1]
  clear hW2 hB1 k0 k1 k2 kl k2f
  refine hup.mono ?_
  rintro e w3 ⟨at_, rfl, hway, hend, hg3⟩
  clear hup
  have HH3 : Hid (Hb w3 hb ff (.slice pl L.length cl) L np) := HH2.out.gr hg3
  have k2 := HH3.out.c2
  have kl := HH3.out.lt
  have k2f := HH3.out.fz 2
  have HWY : Hid (Wy (QU (ahd r) L (x, np)) L.length at_) := hway
  have HEN : Hid (at_ = 0 ∨ ∃ y, L[par at_]? = some y ∧ ahd r (x, np) y = false) := hend
  have HAL : Hid (at_ ≤ L.length) := hway.le
  have HG3 : Hid (Gr w w3) := HG2.out.trans hg3
  have HBX3 : Hid (w3.heap[B1]? = some (.cells #[.int .i64 (x, np).1, .int .u64 ((x, np).2 : Nat)] 86 (0, 0))) := (hg3.below.block B1 hBl).trans HBX.out
  clear hway hend hg3 q0 q1 HBX HH2
  go_upto_region 4 with fail
  have HH4 : Hid (Hb (w3.setCell ⟨hb, 2, none⟩ (.int .u64 ((np : Int) + 1))) hb ff (.slice pl L.length cl) L (np + 1)) := (HH3.out.setNp (np + 1)).1
  have HK4 : Hid (Kp (fun k => k = hb) w3 (w3.setCell ⟨hb, 2, none⟩ (.int .u64 ((np : Int) + 1)))) := (HH3.out.setNp (np + 1)).2
  generalize w3.setCell ⟨hb, 2, none⟩ (.int .u64 ((np : Int) + 1)) = w4 at HH4 HK4 ⊢
  have hBne : B1 ≠ hb := fun e => by have := HH0.out.lt; have := HBW.out.1; omega
  have HB4 : Hid (w4.heap[B1]? = some (.cells #[.int .i64 (x, np).1, .int .u64 ((x, np).2 : Nat)] 86 (0, 0))) := (HK4.out.block B1 (Array.getElem?_eq_some_iff.1 HBX3.out).1 hBne).trans HBX3.out
  have hBl4 : B1 < w4.heap.size := (Array.getElem?_eq_some_iff.1 HB4.out).1
  obtain ⟨q0, q1⟩ : w4.cell? ⟨B1, 0, none⟩ = some (.int .i64 (x, np).1) ∧ w4.cell? ⟨B1, 1, none⟩ = some (.int .u64 ((x, np).2 : Nat)) := by simp [World.cell?, HB4.out]
  obtain ⟨iK, hiK, hk0, hk1, hk2⟩ := info_parts infoI
  have r0 := HH4.out.c1
  have k0f := HH4.out.fz 1
  have hlr := HH4.out.lt
  have hne1 : some hb ≠ (Value.slice pl L.length cl).ownBlock := fun e => HH4.out.off e.symm
  have hnm : w4.ownsRow 0 86 2 (.slice pl L.length cl) L.length (fl EI L) := HH4.out.own
  clear k2 kl k2f hBl
  go_cut [32] from 25 to 34 (fun _ w' => ∃ g cap, Hid (Pu w hb ff np B1 g cap (.slice pl L.length cl) L (x, np) r at_ (L ++ [(x, np)]) L.length w' ∧ ((Value.slice pl L.length cl).ownBlock = some g ∨ w.heap.size ≤ g)))
  case first =>
    go_region_law (refine step_append_lies _ rfl _ _ 82 rfl 0 86 iK (.agg #[.int .i64 0, .int .u64 0]) 2 16 Try.underlying82 hiK hk0 hk1 hk2 rfl (by decide) (Value.slice pl L.length cl) L.length (fl EI L) rfl (World.ownsRow.alloc (w := w4.drew) hnm _) ⟨w4.heap.size, 0, none⟩ 1 1 [.int .i64 (x, np).1, .int .u64 ((x, np).2 : Nat)] rfl rfl (World.news_of_block (heap_new' _ _)) (by simp [Value.oneCell']) (by decide) (by unfold maxLen; omega) (by omega) (Nat.zero_le _) _ rfl ?_
                   intro g cap w10 hown10 hgrow hat10 hlt10
                   have HB10 := hgrow.block hb (by simp; omega) hne1
                   have k10 : w10.cell? ⟨hb, 1, none⟩ = some (Value.slice pl L.length cl) := (World.cell?_of_block (a := ⟨hb, 1, none⟩) HB10).trans ((((Gr.refl w4).drew.alloc _).cell hlr).trans r0)
                   have k10f : w10.frozen? ⟨hb, 1, none⟩ = false := (frozen_of_block HB10).trans ((((Gr.refl w4).drew.alloc _).frozen hlr).trans k0f))
    all_goals (
      go_wp2_with fail
      go_meet
      have HB10' : w10.heap[hb]? = some (.cells #[fv ff, .slice pl L.length cl, .int .u64 ((np + 1 : Nat) : Int)] 84 (0, 0)) := HB10.trans ((((Gr.refl w4).drew.alloc _).below.block hb hlr).trans HH4.out.blk)
      obtain ⟨hs1, hs2⟩ := (blk_set HB10').1 (.slice (some ⟨g, 0, none⟩) (L.length + 1) cap)
      have hz4 : w.heap.size ≤ w4.heap.size := Nat.le_trans HG3.out.size HK4.out.size
      have hK10 : Kp (fun q => (Value.slice pl L.length cl).ownBlock = some q) w4 w10 := (Kp.of_gr ((Gr.refl w4).drew.alloc _)).trans (Kp.grownBy (S := fun q => (Value.slice pl L.length cl).ownBlock = some q) hgrow (fun _ h => h)) (fun _ _ h => h)
      have hg4 : (Value.slice pl L.length cl).ownBlock = some g ∨ w4.heap.size ≤ g := hat10.imp id (fun h => by rw [h]; simp)
      have hg : (Value.slice pl L.length cl).ownBlock = some g ∨ w.heap.size ≤ g := hg4.imp id (fun h => by omega)
      have hlw := HH0.out.lt
      have hrw := HH0.out.row
      have hgb : g ≠ hb := fun e => by
        rcases hg with h | h
        · exact HH0.out.off (by rw [h, e])
        · omega
      have hBg : B1 ≠ g := fun e => by
        have hB := HBW.out.1
        have hB4 : B1 < w4.heap.size := hBl4
        rcases hg4 with h | h
        · have := hrw g h; omega
        · omega
      refine ⟨g, cap, ⟨PushInv.init HWY.out, ⟨hs1, ?_, ?_⟩, ?_, ⟨?_, fun q hq => ?_⟩, hBg, hBne⟩, hg⟩
      · rw [List.length_append, fl_append]
        refine owns_kp hs2 (by rw [fl_one]; exact hown10) (fun k hk e => ?_)
        have : k = g := by simpa [Value.ownBlock] using hk.symm
        exact hgb (by rw [← this, e])
      · simpa [Value.ownBlock] using hgb
      · refine (hs2.block B1 (Nat.lt_of_lt_of_le hBl4 hK10.size) hBne).trans ((hK10.block B1 hBl4 (fun h => ?_)).trans HB4.out)
        have := hrw B1 h
        have := HBW.out.1
        omega
      · refine (((Kp.of_gr HG3.out).trans (HK4.out.mono (fun _ h => Or.inl h)) (fun _ _ h => h)).trans (hK10.mono (fun _ h => Or.inr h)) (fun _ _ h => h)).trans (hs2.mono (fun _ h => Or.inl h)) (fun _ _ h => h)
      · have : q = g := by simpa [Value.ownBlock] using hq.symm
        rw [this]; exact hg)
  case rest =>
    obtain ⟨g, cap, HPG⟩ := hcut
    have r1 := HPG.out.1.hp.c1
    have hlr1 := HPG.out.1.hp.lt
    have HGO : Hid ((Value.slice pl L.length cl).ownBlock = some g ∨ w.heap.size ≤ g) := HPG.out.2
    have HP0 : Hid (Pu w hb ff np B1 g cap (.slice pl L.length cl) L (x, np) r at_ (L ++ [(x, np)]) L.length wc) := HPG.out.1
    clear HPG HB4 hBl4 q0 q1 r0 k0f hlr hne1 hnm HH4 HK4 HH3 HG3 HBX3 hiK hk0 hk1 hk2
    go_wp2_with fail
    clear r1 hlr1
    go_loopw [6] (fun s6 wr => ∃ (i : Nat) (M : List It), i ≤ L.length ∧ s6 = .int .i64 i ∧ Hid (Pu w hb ff np B1 g cap (.slice pl L.length cl) L (x, np) r at_ M i wr)) (fun s6 _ => (RowKit.intOf s6).toNat)
    case atStart => exact ⟨L.length, _, Nat.le_refl _, by first | rfl | simp, HP0.out⟩
    case round =>
      clear HP0
      obtain ⟨i, M, hil, rfl, HP⟩ := hrel
      have HRO : Hid (wr.ownsRow 0 86 2 (.slice (some ⟨g, 0, none⟩) (L.length + 1) cap) (L.length + 1) (fl EI M)) := HP.out.row
      have hfz := owns_fz HRO.out
      have r1 := HP.out.hp.c1
      have hlr := HP.out.hp.lt
      have hgl : g < wr.heap.size := (HRO.out.lt g rfl).2
      have hil1 : (i : Int) < (L.length : Int) + 1 := by omega
      have hi0 : (0 : Int) ≤ (i : Int) := by omega
      obtain ⟨z, hz⟩ : ∃ z, M[i]? = some z := ⟨M[i]'(by rw [HP.out.inv.len]; omega), by rw [List.getElem?_eq_getElem]⟩
      obtain ⟨b1, o1, c1, e1, z1, y0, y1⟩ := ls_at HP.out.hp.lst hz
      simp only [Value.slice.injEq, Option.some.injEq, Addr.mk.injEq, and_true] at e1
      obtain ⟨⟨rfl, rfl⟩, -, rfl⟩ := e1
      rw [Nat.zero_add] at y0 y1
      have f0 := hfz (i * 2 + 0)
      have f1 := hfz (i * 2 + 1)
      rw [Nat.add_zero] at f0
      clear hz z1 hfz
      by_cases hlt : at_ < i
      · have hltz : (at_ : Int) < (i : Int) := by omega
        obtain ⟨y, hy, hpi⟩ := HP.out.inv.step hlt
        have hipos : 0 < i := by omega
        have hpa := par_lt hipos
        have HPI : Hid (PushInv (ahd r) L (x, np) at_ (M.set i y) (par i)) := hpi
        have hpz : (par i : Int) < (L.length : Int) + 1 := by omega
        have hp0 : (0 : Int) ≤ (par i : Int) := by omega
        obtain ⟨b1, o1, c1, e1, z1, x0, x1⟩ := ls_at HP.out.hp.lst hy
        clear z1
        simp only [Value.slice.injEq, Option.some.injEq, Addr.mk.injEq, and_true] at e1
        obtain ⟨⟨rfl, rfl⟩, -, rfl⟩ := e1
        rw [Nat.zero_add] at x0 x1
        have hpar : ∀ W, Calls Try.prog 33 #[.int .i64 i] W fun e w' => e = .returned (.int .i64 (par i : Nat)) ∧ w' = W := fun W => parent_any i hipos (by omega) W
        have HPA : Hid (par i < i) := hpa
        clear hy hpi hpa
        go_wp2_with fail
        go_region_with (go_at_call 33; refine (hpar _).mono ?_; rintro e w4 ⟨rfl, rfl⟩)
        all_goals (
          obtain ⟨ho, hk⟩ := owns_item (i := i) y HRO.out
          have HP2 := hid (HP.out.set HPI.out (owns_below ho (Gr.refl _).drew.below) (hk.trans (Kp.of_gr (Gr.refl _).drew) (fun _ _ h => h)) HGO.out)
          clear ho hk r1 x0 x1 y0 y1 f0 f1
          go_wp2_with (go_at_call 33; refine (hpar _).mono ?_; rintro e w4 ⟨rfl, rfl⟩)
          go_roundw
          case rel => exact ⟨par i, _, by have := HPA.out; omega, rfl, HP2.out⟩
          case measure => simp [RowKit.intOf]; exact HPA.out)
      · have hltz : ¬ (at_ : Int) < (i : Int) := by omega
        have hie : i = at_ := by have := HP.out.inv.way.le; omega
        subst hie
        obtain ⟨q0, q1⟩ : wr.cell? ⟨B1, 0, none⟩ = some (.int .i64 (x, np).1) ∧ wr.cell? ⟨B1, 1, none⟩ = some (.int .u64 ((x, np).2 : Nat)) := by simp [World.cell?, HP.out.box]
        have hBl : B1 < wr.heap.size := (Array.getElem?_eq_some_iff.1 HP.out.box).1
        go_wp2_with fail
        go_region
        all_goals (
          go_end0
          obtain ⟨ho, hk⟩ := owns_item (i := i) (x, np) HRO.out
          obtain ⟨d1, d2⟩ := HP.out.inv.done HEN.out
          have hgb : hb ≠ g := fun e => HP.out.hp.off (by rw [e]; rfl)
          have hk2 := hk.trans (Kp.of_gr (S := fun q => q = g) (Gr.refl _).drew) (fun _ _ h => h)
          refine ⟨_, _, rfl, ⟨(hk2.block hb HP.out.hp.lt hgb).trans HP.out.hp.blk, ?_, HP.out.hp.off⟩, d1, d2, HP.out.turn.1.trans hk2 (fun q _ hq => ?_), HP.out.turn.2⟩
          · rw [List.length_set, HP.out.inv.len]
            exact owns_below ho (Gr.refl _).drew.below
          · subst hq
            rcases HGO.out with hg | hg
            · exact Or.inr hg
            · omega)
end Go.Proofs.Ytpcamjmfddnglaa.Hi
