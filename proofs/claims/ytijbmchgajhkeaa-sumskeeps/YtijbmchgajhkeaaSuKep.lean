import Derived.Test.YtijbmchgajhkeaaSuKp0
import Derived.Test.YtijbmchgajhkeaaSuKn
import Derived.Test.YtijbmchgajhkeaaLHold2
import Derived.Deep.DeepCutAuto
import Derived.Deep.CutBlock
namespace Go.Proofs.Ytijbmchgajhkeaa
open Go.RowKit Go.Sort Go.Maps Go.Shelf
attribute [local go_sem ↓] Go.wp_at_zero Go.wp_at_succ
theorem b900 {n : Nat} (h : n ≤ 1800) : (0 + n) * 24 ≤ 140737488355328 ∧ 0 + n ≤ maxLen ∧ (0 + n) * 16 ≤ 140737488355328 := by unfold maxLen; omega
set_option maxHeartbeats 32000000 in
set_option maxRecDepth 100000 in
theorem sumsKeeps_any {p q : Option Addr} {n c m d : Nat} {L M : List Ct} (w : World) (hL : Ls EC w (.slice p n c) L) (hn : n = L.length) (hc : n ≤ c) (hM : Ls EC w (.slice q m d) M) (hm : m = M.length) (hnb : n ≤ 5864062014806) (hmb : m ≤ 5864062014806) :
    Calls Try.prog 4 #[.slice p n c, .slice q m d] w fun e w' => e = .returned (.bool true) ∧ Below w.heap.size w w' := by
  have hmx : Try.prog.follows .mixedOrders = true := by kernel_rfl
  have HM := hid hM
  have HMm := hid hm
  have hf := fillB_any w hL hn hc hnb
  obtain ⟨A, hA⟩ : ∃ A, A = L.take 300 := ⟨_, rfl⟩
  rw [← hA] at hf
  clear hL hn hM hm hA hc hnb
  go_enter Try.func4, Try.ntmps4
  go_wp2_with fail
  refine hf.mono ?_
  rintro e wa ⟨sa, rfl, HMa⟩
  clear hf
  have hkn := known_any wa
  go_wp2_with fail
  refine hkn.mono ?_
  rintro e w1 ⟨rfl, hb1⟩
  obtain ⟨Sa, hSa⟩ : ∃ Sa : Nat → Prop, Sa = fun k => w.heap.size ≤ k ∧ k < wa.heap.size := ⟨_, rfl⟩
  have SA : Hid (Su w1 Sa 900 sa A) := by rw [hSa]; exact HMa.out.1.cut.below hb1
  have BW : Hid (Below w.heap.size w w1) := HMa.out.2.trans (hb1.mono HMa.out.2.size)
  have HSA : Hid (∀ k, Sa k → w.heap.size ≤ k ∧ k < w1.heap.size) := fun k h => by
    rw [hSa] at h
    exact ⟨h.1, Nat.lt_of_lt_of_le h.2 hb1.size⟩
  have ZW : Hid (w.heap.size ≤ w1.heap.size) := BW.out.size
  have hcp := scopy_any w1 SA.out (by decide)
  clear hkn hb1 HMa hSa
  go_wp2_with fail
  refine hcp.mono ?_
  rintro e w2 ⟨sb, rfl, hS2⟩
  clear hcp
  obtain ⟨Sb, hSb⟩ : ∃ Sb : Nat → Prop, Sb = fun k => w1.heap.size ≤ k ∧ k < w2.heap.size := ⟨_, rfl⟩
  have SB : Hid (Su w2 Sb 900 sb A) := by rw [hSb]; exact hS2.out.1.cut
  have HSB : Hid (∀ k, Sb k → w1.heap.size ≤ k ∧ k < w2.heap.size) := fun k h => by rw [hSb] at h; exact h
  have hb := hS2.out.2
  have Z12 : Hid (w1.heap.size ≤ w2.heap.size) := hb.size
  clear hSb hS2
  have SA' := hid (SA.out.below hb)
  clear SA
  have SA := SA'
  clear SA'
  have BW' := hid (BW.out.trans (hb.mono BW.out.size))
  clear BW
  have BW := BW'
  clear BW'
  clear hb
  obtain ⟨W3, hW3⟩ : ∃ W3, W3 = w2.alloc (.cells #[] 32) := ⟨_, rfl⟩
  obtain ⟨b3, hb3⟩ : ∃ b3, b3 = w2.heap.size := ⟨_, rfl⟩
  have hb : Below w2.heap.size w2 W3 := by rw [hW3]; exact ((Gr.refl _).alloc _).below
  have HO0 : Hid (W3.ownsRow b3 32 3 (.slice (some ⟨b3, 0, none⟩) 0 0) 0 []) := by rw [hW3, hb3]; exact World.ownsRow_made w2 #[] 0 (Nat.le_refl _) (by unfold maxLen; omega) rfl
  have HB3 : Hid (b3 = w2.heap.size) := hb3
  have Z23 : Hid (w2.heap.size ≤ W3.heap.size) := hb.size
  have SA' := hid (SA.out.below hb)
  clear SA
  have SA := SA'
  clear SA'
  have SB' := hid (SB.out.below hb)
  clear SB
  have SB := SB'
  clear SB'
  have BW' := hid (BW.out.trans (hb.mono BW.out.size))
  clear BW
  have BW := BW'
  clear BW'
  have ht := times_any W3 SA.out (by decide)
  clear hb
  go_wp2_with fail
  rw [← hb3, ← hW3]
  clear hb3 hW3
  refine ht.mono ?_
  rintro e w4 ⟨v4, rfl, hr4, hb, hl4⟩
  have HLS : Hid (Ls ET w4 v4 (tms A)) := owns_lst hr4
  obtain ⟨pv4, cv4, hv4⟩ := HLS.out.form
  subst hv4
  have HO4 : Hid (w4.ownsRow b3 32 3 (.slice (some ⟨b3, 0, none⟩) 0 0) 0 []) := owns_below HO0.out hb
  obtain ⟨nk, hnk⟩ : ∃ nk, nk = (tms A).length := ⟨_, rfl⟩
  have HNK := hid hnk
  have hnk9 : nk ≤ 900 := by rw [hnk]; exact hl4
  have hbd := b900 (n := (tms A).length) (by omega)
  have Z34 : Hid (W3.heap.size ≤ w4.heap.size) := hb.size
  have hbs : b3 ≤ w4.heap.size := by
    have h1 := HB3.out
    have h2 := Z23.out
    have h3 := Z34.out
    omega
  have SA' := hid (SA.out.below hb)
  clear SA
  have SA := SA'
  clear SA'
  have SB' := hid (SB.out.below hb)
  clear SB
  have SB := SB'
  clear SB'
  have BW' := hid (BW.out.trans (hb.mono BW.out.size))
  clear BW
  have BW := BW'
  clear BW'
  rw [← hnk] at HLS ⊢
  clear hb hr4 ht hl4 HO0 hnk
  go_wp2_with (at_builtin; refine wpAppL ET Try.underlying23 infoTm rfl (by decide) rfl _ _ rfl b3 (.slice (some ⟨b3, 0, none⟩) 0 0) 0 [] rfl HO4.out _ (tms A) rfl HLS.out hbd.1 hbd.2.1 hbs ?_)
  intro v5 w5 ho5 hg5
  have hb : Below w2.heap.size w4 w5 := (Kp.grownBy (S := fun k => k = b3) hg5 (fun k hk => by simpa [Value.ownBlock] using hk.symm)).below (Nat.le_trans Z23.out Z34.out) (fun k hk => by rw [hk]; exact Nat.le_of_eq HB3.out.symm)
  have OW : Hid (Own w5 32 3 v5 nk (fl ET (tms A)) w2.heap.size w5.heap.size) := Own.mk' (by rw [HB3.out] at ho5; exact owns_re ho5 (by have := HNK.out; omega) (List.nil_append _))
  obtain ⟨pw, cw, hv5⟩ := owns_form OW.out.row
  subst hv5
  have Z45 : Hid (w4.heap.size ≤ w5.heap.size) := hb.size
  have SA' : Hid (Su w5 Sa 900 sa A) := SA.out.kp (S' := fun k => w2.heap.size ≤ k) ⟨hb.os, hb.tape, hb.output, hb.size, fun k _ hn => hb.block k (Nat.lt_of_not_le hn)⟩ (fun k hk h2 => by have h1 := HSA.out k hk; have h3 := Z12.out; omega)
  have SB' : Hid (Su w5 Sb 900 sb A) := SB.out.kp (S' := fun k => w2.heap.size ≤ k) ⟨hb.os, hb.tape, hb.output, hb.size, fun k _ hn => hb.block k (Nat.lt_of_not_le hn)⟩ (fun k hk h2 => by have h1 := HSB.out k hk; omega)
  have BW' : Hid (Below w.heap.size w w5) := BW.out.trans (hb.mono (by have h1 := ZW.out; have h2 := Z12.out; omega))
  clear SA SB BW hb ho5 hg5 HLS HO4 hbs hbd
  have SA := SA'
  have SB := SB'
  have BW := BW'
  clear SA' SB' BW' 
  have ht := times_any w5 SA.out (by decide)
  go_wp2_with fail
  refine ht.mono ?_
  rintro e w6 ⟨v, rfl, hr, hb, -⟩
  clear ht
  obtain ⟨p0, c0, hv⟩ := owns_form hr
  subst hv
  rw [← HNK.out] at hr ⊢
  have Z6 : Hid (w5.heap.size ≤ w6.heap.size) := hb.size
  have SA' := hid (SA.out.below hb)
  clear SA
  have SA := SA'
  clear SA'
  have SB' := hid (SB.out.below hb)
  clear SB
  have SB := SB'
  clear SB'
  have BW' := hid (BW.out.trans (hb.mono BW.out.size))
  clear BW
  have BW := BW'
  clear BW'
  have OW' := hid (OW.out.below hb)
  clear OW
  have OW := OW'
  clear OW'
  have OV0 : Hid (Own w6 32 3 (.slice p0 nk c0) nk (fl ET (tms A)) w5.heap.size w6.heap.size) := Own.mk' hr
  clear hr hb
  have ht := ready_any (.slice none 0 0) [] w6 SA.out (by decide) (Ls.nil _) (Nat.zero_le _)
  rw [rdy_nil] at ht
  go_wp2_with fail
  refine ht.mono ?_
  rintro e w7 ⟨v, rfl, hr, hb, -⟩
  clear ht
  obtain ⟨p1, c1, hv⟩ := owns_form hr
  subst hv
  rw [← HNK.out] at hr ⊢
  have Z7 : Hid (w6.heap.size ≤ w7.heap.size) := hb.size
  have SA' := hid (SA.out.below hb)
  clear SA
  have SA := SA'
  clear SA'
  have SB' := hid (SB.out.below hb)
  clear SB
  have SB := SB'
  clear SB'
  have BW' := hid (BW.out.trans (hb.mono BW.out.size))
  clear BW
  have BW := BW'
  clear BW'
  have OW' := hid (OW.out.below hb)
  clear OW
  have OW := OW'
  clear OW'
  have OV0' := hid (OV0.out.below hb)
  clear OV0
  have OV0 := OV0'
  clear OV0'
  have OV1 : Hid (Own w7 32 3 (.slice p1 nk c1) nk (fl ET (tms A)) w6.heap.size w7.heap.size) := Own.mk' hr
  clear hr hb
  have ht := times_any w7 SB.out (by decide)
  go_wp2_with fail
  refine ht.mono ?_
  rintro e w8 ⟨v, rfl, hr, hb, -⟩
  clear ht
  obtain ⟨p2, c2, hv⟩ := owns_form hr
  subst hv
  rw [← HNK.out] at hr ⊢
  have Z8 : Hid (w7.heap.size ≤ w8.heap.size) := hb.size
  have SA' := hid (SA.out.below hb)
  clear SA
  have SA := SA'
  clear SA'
  have SB' := hid (SB.out.below hb)
  clear SB
  have SB := SB'
  clear SB'
  have BW' := hid (BW.out.trans (hb.mono BW.out.size))
  clear BW
  have BW := BW'
  clear BW'
  have OW' := hid (OW.out.below hb)
  clear OW
  have OW := OW'
  clear OW'
  have OV0' := hid (OV0.out.below hb)
  clear OV0
  have OV0 := OV0'
  clear OV0'
  have OV1' := hid (OV1.out.below hb)
  clear OV1
  have OV1 := OV1'
  clear OV1'
  have OV2 : Hid (Own w8 32 3 (.slice p2 nk c2) nk (fl ET (tms A)) w7.heap.size w8.heap.size) := Own.mk' hr
  clear hr hb
  have ht := times_any w8 SA.out (by decide)
  go_wp2_with fail
  refine ht.mono ?_
  rintro e w9 ⟨v, rfl, hr, hb, -⟩
  clear ht
  obtain ⟨p3, c3, hv⟩ := owns_form hr
  subst hv
  rw [← HNK.out] at hr ⊢
  have Z9 : Hid (w8.heap.size ≤ w9.heap.size) := hb.size
  have SA' := hid (SA.out.below hb)
  clear SA
  have SA := SA'
  clear SA'
  have SB' := hid (SB.out.below hb)
  clear SB
  have SB := SB'
  clear SB'
  have BW' := hid (BW.out.trans (hb.mono BW.out.size))
  clear BW
  have BW := BW'
  clear BW'
  have OW' := hid (OW.out.below hb)
  clear OW
  have OW := OW'
  clear OW'
  have OV0' := hid (OV0.out.below hb)
  clear OV0
  have OV0 := OV0'
  clear OV0'
  have OV1' := hid (OV1.out.below hb)
  clear OV1
  have OV1 := OV1'
  clear OV1'
  have OV2' := hid (OV2.out.below hb)
  clear OV2
  have OV2 := OV2'
  clear OV2'
  have OV3 : Hid (Own w9 32 3 (.slice p3 nk c3) nk (fl ET (tms A)) w8.heap.size w9.heap.size) := Own.mk' hr
  clear hr hb
  obtain ⟨w10, hw10⟩ : ∃ w10, w10 = w9.alloc (.cells #[.slice p0 nk c0, .slice p1 nk c1, .slice p2 nk c2, .slice p3 nk c3] 23) := ⟨_, rfl⟩
  obtain ⟨b10, hb10⟩ : ∃ b10, b10 = w9.heap.size := ⟨_, rfl⟩
  have hb : Below w9.heap.size w9 w10 := by rw [hw10]; exact ((Gr.refl _).alloc _).below
  have HB10 : Hid (b10 = w9.heap.size) := hb10
  have Z10 : Hid (w10.heap.size = w9.heap.size + 1) := by show _ = _; rw [hw10]; simp
  have ROW : Hid (Own w10 23 1 (.slice (some ⟨b10, 0, none⟩) 4 4) 4 [.slice p0 nk c0, .slice p1 nk c1, .slice p2 nk c2, .slice p3 nk c3] w9.heap.size w10.heap.size) := Own.mk' (by rw [hw10, hb10]; exact ⟨rfl, .inr ⟨w9.heap.size, 4, #[.slice p0 nk c0, .slice p1 nk c1, .slice p2 nk c2, .slice p3 nk c3], rfl, Nat.le_refl _, heap_new' _ _, Nat.le_refl _, (by unfold maxLen; omega), rfl, rfl⟩⟩)
  have SA' := hid (SA.out.below hb)
  clear SA
  have SA := SA'
  clear SA'
  have SB' := hid (SB.out.below hb)
  clear SB
  have SB := SB'
  clear SB'
  have BW' := hid (BW.out.trans (hb.mono BW.out.size))
  clear BW
  have BW := BW'
  clear BW'
  have OW' := hid (OW.out.below hb)
  clear OW
  have OW := OW'
  clear OW'
  have OV0' := hid (OV0.out.below hb)
  clear OV0
  have OV0 := OV0'
  clear OV0'
  have OV1' := hid (OV1.out.below hb)
  clear OV1
  have OV1 := OV1'
  clear OV1'
  have OV2' := hid (OV2.out.below hb)
  clear OV2
  have OV2 := OV2'
  clear OV2'
  have OV3' := hid (OV3.out.below hb)
  clear OV3
  have OV3 := OV3'
  clear OV3'
  clear hb
  go_upto_region 7 with fail
  rw [← hb10, ← hw10]
  clear hb10 hw10
  obtain ⟨S2, hS2⟩ : ∃ S2 : Nat → Prop, S2 = fun k => Sb k ∨ w10.heap.size ≤ k := ⟨_, rfl⟩
  have HS2 : Hid (∀ k, S2 k → (w1.heap.size ≤ k ∧ k < w2.heap.size) ∨ w10.heap.size ≤ k) := fun k h => by rw [hS2] at h; exact h.imp (HSB.out k) id
  have HS2' : Hid (∀ k, w10.heap.size ≤ k → S2 k) := fun k h => by rw [hS2]; exact .inr h
  have SB2 : Hid (Su w10 S2 900 sb A) := SB.out.wide fun k h => by rw [hS2]; exact .inl h
  clear SB HSB hS2
  go_upto_block 0 with fail
  go_cut [4] (fun _ w' => Hid (∃ B N, N ≤ 1800 ∧ Su w' S2 N sb B ∧ Kp S2 w10 w'))
  case first =>
    go_wp2_with fail
    go_loopw [9, 10, 46] (fun _ _ s46 wr => ∃ i : Nat, i ≤ m ∧ s46 = .int .i64 (i : Nat) ∧ Hid (∃ B N, N ≤ 900 + 3 * min i 300 ∧ Su wr S2 N sb B ∧ Kp S2 w10 wr)) (fun _ _ s46 _ => m - (RowKit.intOf s46).toNat)
    case atStart => exact ⟨0, Nat.zero_le _, rfl, A, 900, by omega, SB2.out, Kp.refl _ _⟩
    case round =>
      obtain ⟨i, him, rfl, HI⟩ := hrel
      by_cases hlt : i < m
      · have hz : (i : Int) < (m : Int) := by omega
        have hi0 : (0 : Int) ≤ (i : Int) := by omega
        obtain ⟨B, N, hN, hSu, hKp⟩ := HI.out
        have hBw : Below w.heap.size w wr := BW.out.trans (hKp.below BW.out.size (fun k hk => by
          have h1 := HS2.out k hk
          have h2 := ZW.out
          have h3 := BW.out.size
          omega))
        have hMr : Ls EC wr (.slice q m d) M := HM.out.kept hBw.size fun g hg => hBw.block g (HM.out.blk g hg)
        obtain ⟨x, hx⟩ : ∃ x, M[i]? = some x := ⟨M[i]'(by have := HMm.out; omega), by simp⟩
        obtain ⟨b1, o1, c1', e1, l1, x0, x1, x2, x3, x4⟩ := hMr.atC hx
        simp only [Value.slice.injEq] at e1
        obtain ⟨rfl, -, rfl⟩ := e1
        obtain ⟨W2, hW2⟩ : ∃ W2, W2 = wr.alloc (.cells #[.int .u64 x.1.1.1, .int .u64 x.1.1.2.1, .int .u64 x.1.1.2.2, .int .u64 x.2.1.1, .int .u64 x.2.2.1] 39) := ⟨_, rfl⟩
        obtain ⟨bx, hbx⟩ : ∃ bx, bx = wr.heap.size := ⟨_, rfl⟩
        have G2 : Gr wr W2 := by rw [hW2]; exact (Gr.refl _).alloc _
        have hx3 : W2.heap[bx]? = some (.cells #[.int .u64 x.1.1.1, .int .u64 x.1.1.2.1, .int .u64 x.1.1.2.2, .int .u64 x.2.1.1, .int .u64 x.2.2.1] 39 (0, 0)) := by rw [hW2, hbx]; exact heap_new' _ _
        have HS3 := hid (hSu.below G2.below)
        have HK3 : Hid (Kp S2 w10 W2) := hKp.trans (Kp.of_gr (S := S2) G2) (fun _ _ h => h)
        obtain ⟨m0, m1, m2, m3, m4, m5⟩ := cg_cell hx3
        clear hx hBw hMr hx3 G2 hSu hKp HI
        by_cases h3 : i < 300
        · have h3z : (i : Int) < 300 := by omega
          have hadd := sadd_any x.1 x.2 W2 HS3.out (by omega)
          go_upto_region 10 with fail
          rw [← hW2, ← hbx]
          clear hW2 hbx x0 x1 x2 x3 x4 l1
          go_wp2_with fail
          refine hadd.mono ?_
          rintro e W3' ⟨rfl, hS4⟩
          have HE : Hid (∃ B N, N ≤ 900 + 3 * min (i + 1) 300 ∧ Su W3' S2 N sb B ∧ Kp S2 w10 W3') := ⟨_, N + 3, by omega, hS4.out.1.wide (fun k hk => hk.elim (·.1) (fun e => HS2'.out k (Nat.le_trans HK3.out.size e))), HK3.out.trans hS4.out.2 (fun _ _ h => h)⟩
          clear hadd hS4
          go_wp2_with fail
          go_roundw
          case rel => exact ⟨i + 1, by omega, by simp, HE.out⟩
          case measure => simp [RowKit.intOf]; omega
        · have h3z : ¬ (i : Int) < 300 := by omega
          have HE : Hid (∃ B N, N ≤ 900 + 3 * min (i + 1) 300 ∧ Su W2 S2 N sb B ∧ Kp S2 w10 W2) := ⟨_, N, by omega, HS3.out, HK3.out⟩
          go_upto_region 10 with fail
          rw [← hW2, ← hbx]
          clear hW2 hbx x0 x1 x2 x3 x4 l1
          go_wp2_with fail
          go_roundw
          case rel => exact ⟨i + 1, by omega, by simp, HE.out⟩
          case measure => simp [RowKit.intOf]; omega
      · have hz : ¬ (i : Int) < (m : Int) := by omega
        have HE : Hid (∃ B N, N ≤ 1800 ∧ Su wr S2 N sb B ∧ Kp S2 w10 wr) := by
          obtain ⟨B, N, h1, h2, h3⟩ := HI.out
          exact ⟨B, N, by omega, h2, h3⟩
        go_wp2_with fail
        go_meet
        exact HE.out
  case rest =>
    obtain ⟨w11, hw11⟩ : ∃ w11, w11 = wc := ⟨_, rfl⟩
    rw [← hw11] at hcut ⊢
    clear hw11
    obtain ⟨B, NB, hNB, hSB, hKB⟩ := hcut.out
    have ZZ : Hid (w.heap.size ≤ w1.heap.size ∧ w1.heap.size ≤ w2.heap.size ∧ w2.heap.size ≤ w5.heap.size ∧ w5.heap.size ≤ w6.heap.size ∧ w6.heap.size ≤ w7.heap.size ∧ w7.heap.size ≤ w8.heap.size ∧ w8.heap.size ≤ w9.heap.size ∧ w10.heap.size = w9.heap.size + 1 ∧ w10.heap.size ≤ w11.heap.size) := by
      have h1 := ZW.out; have h2 := Z12.out; have h3 := Z23.out; have h4 := Z34.out; have h5 := Z45.out; have h6 := Z6.out; have h7 := Z7.out; have h8 := Z8.out; have h9 := Z9.out; have h10 := Z10.out; have h11 := hKB.size
      exact ⟨h1, h2, by omega, h6, h7, h8, h9, h10, h11⟩
    clear ZW Z12 Z23 Z34 Z45 Z6 Z7 Z8 Z9 Z10 hcut SB2 HM HMm hmb HB3
    have SA' := hid (SA.out.kp hKB (fun k hk e => by have h1 := HS2.out k e; have h2 := HSA.out k hk; have h3 := ZZ.out; omega))
    clear SA
    have SA := SA'
    clear SA'
    have BW' := hid (BW.out.trans (hKB.below BW.out.size (fun k hk => by have h1 := HS2.out k hk; have h2 := ZZ.out; have h3 := BW.out.size; omega)))
    clear BW
    have BW := BW'
    clear BW'
    have OW' := hid (OW.out.kp hKB (fun k hk => by have h1 := HS2.out k hk; have h2 := ZZ.out; omega))
    clear OW
    have OW := OW'
    clear OW'
    have OV0' := hid (OV0.out.kp hKB (fun k hk => by have h1 := HS2.out k hk; have h2 := ZZ.out; omega))
    clear OV0
    have OV0 := OV0'
    clear OV0'
    have OV1' := hid (OV1.out.kp hKB (fun k hk => by have h1 := HS2.out k hk; have h2 := ZZ.out; omega))
    clear OV1
    have OV1 := OV1'
    clear OV1'
    have OV2' := hid (OV2.out.kp hKB (fun k hk => by have h1 := HS2.out k hk; have h2 := ZZ.out; omega))
    clear OV2
    have OV2 := OV2'
    clear OV2'
    have OV3' := hid (OV3.out.kp hKB (fun k hk => by have h1 := HS2.out k hk; have h2 := ZZ.out; omega))
    clear OV3
    have OV3 := OV3'
    clear OV3'
    have ROW' := hid (ROW.out.kp hKB (fun k hk => by have h1 := HS2.out k hk; have h2 := ZZ.out; omega))
    clear ROW
    have ROW := ROW'
    clear ROW'
    have hrd := ready_any (.slice none 0 0) [] w11 hSB (by omega) (Ls.nil _) (Nat.zero_le _)
    clear hSB hKB HS2 HS2'
    go_wp2_with fail
    refine hrd.mono ?_
    rintro e w12 ⟨v, rfl, hr, hb, hl⟩
    clear hrd
    obtain ⟨p4, c4, hv⟩ := owns_form hr
    subst hv
    obtain ⟨R4, hR4⟩ : ∃ R4, R4 = rdy B [] := ⟨_, rfl⟩
    obtain ⟨n4, hn4⟩ : ∃ n4, n4 = R4.length := ⟨_, rfl⟩
    rw [← hR4, ← hn4] at hr hl ⊢
    have hl4 : n4 ≤ 1800 := by omega
    have Z12 : Hid (w11.heap.size ≤ w12.heap.size) := hb.size
    have SA' := hid (SA.out.below hb)
    clear SA
    have SA := SA'
    clear SA'
    have BW' := hid (BW.out.trans (hb.mono BW.out.size))
    clear BW
    have BW := BW'
    clear BW'
    have OW' := hid (OW.out.below hb)
    clear OW
    have OW := OW'
    clear OW'
    have OV0' := hid (OV0.out.below hb)
    clear OV0
    have OV0 := OV0'
    clear OV0'
    have OV1' := hid (OV1.out.below hb)
    clear OV1
    have OV1 := OV1'
    clear OV1'
    have OV2' := hid (OV2.out.below hb)
    clear OV2
    have OV2 := OV2'
    clear OV2'
    have OV3' := hid (OV3.out.below hb)
    clear OV3
    have OV3 := OV3'
    clear OV3'
    have ROW' := hid (ROW.out.below hb)
    clear ROW
    have ROW := ROW'
    clear ROW'
    have OV4 : Hid (Own w12 32 3 (.slice p4 n4 c4) n4 (fl ET R4) w11.heap.size w12.heap.size) := Own.mk' hr
    have HN4 := hid hn4
    clear hr hb hl hR4 hNB hn4
    have hbs : w9.heap.size ≤ w12.heap.size := by have h1 := ZZ.out; have h2 := Z12.out; omega
    go_wp2_with (at_builtin; refine wpApp1 EV Try.underlying42 infoLT rfl (by decide) rfl _ _ rfl w9.heap.size (.slice (some ⟨b10, 0, none⟩) 4 4) 4 _ rfl ROW.out.row (vw p4 n4 c4) rfl (by decide) (by unfold maxLen; decide) hbs _ rfl _ ?_)
    intro g13 c13 w13 ho13 hg13 hl13
    have hk := Kp.grownBy (S := fun k => k = b10) hg13 (fun k hk => by simpa [Value.ownBlock] using hk.symm)
    have HG13 : Hid (g13 = w9.heap.size ∨ w12.heap.size ≤ g13) := hl13.imp (fun e => by rw [← HB10.out]; simpa [Value.ownBlock] using e.symm) id
    have Z13 : Hid (w12.heap.size ≤ w13.heap.size) := hk.size
    have ROW5 : Hid (w13.ownsRow w9.heap.size 23 1 (.slice (some ⟨g13, 0, none⟩) 5 c13) 5 [.slice p0 nk c0, .slice p1 nk c1, .slice p2 nk c2, .slice p3 nk c3, .slice p4 n4 c4]) := ho13
    have SA' := hid (SA.out.kp hk (fun k hk e => by have h1 := HB10.out; have h2 := HSA.out k hk; have h3 := ZZ.out; omega))
    clear SA
    have SA := SA'
    clear SA'
    have BW' := hid (BW.out.trans (hk.below BW.out.size (fun k hk => by have h1 := HB10.out; have h3 := ZZ.out; omega)))
    clear BW
    have BW := BW'
    clear BW'
    have OW' := hid (OW.out.kp hk (fun k hk => by have h1 := HB10.out; have h2 := ZZ.out; omega))
    clear OW
    have OW := OW'
    clear OW'
    have OV0' := hid (OV0.out.kp hk (fun k hk => by have h1 := HB10.out; have h2 := ZZ.out; omega))
    clear OV0
    have OV0 := OV0'
    clear OV0'
    have OV1' := hid (OV1.out.kp hk (fun k hk => by have h1 := HB10.out; have h2 := ZZ.out; omega))
    clear OV1
    have OV1 := OV1'
    clear OV1'
    have OV2' := hid (OV2.out.kp hk (fun k hk => by have h1 := HB10.out; have h2 := ZZ.out; omega))
    clear OV2
    have OV2 := OV2'
    clear OV2'
    have OV3' := hid (OV3.out.kp hk (fun k hk => by have h1 := HB10.out; have h2 := ZZ.out; omega))
    clear OV3
    have OV3 := OV3'
    clear OV3'
    have OV4' := hid (OV4.out.kp hk (fun k hk => by have h1 := HB10.out; have h2 := ZZ.out; omega))
    clear OV4
    have OV4 := OV4'
    clear OV4'
    clear hk ho13 hg13 hl13 ROW hbs
    obtain ⟨V, hV⟩ : ∃ V : Nat → Value, V = pick5 (.slice p0 nk c0) (.slice p1 nk c1) (.slice p2 nk c2) (.slice p3 nk c3) (.slice p4 n4 c4) := ⟨_, rfl⟩
    obtain ⟨gg, hrg, zg, _, hcl⟩ := rows_at ROW5.out (by decide)
    simp only [Option.some.injEq, Addr.mk.injEq, and_true] at hrg
    rw [← hrg] at zg hcl
    have HCL : Hid (∀ i, i < 5 → w13.cell? ⟨g13, i, none⟩ = some (V i)) := by
      rw [hV]
      exact five (hcl 0 _ rfl) (hcl 1 _ rfl) (hcl 2 _ rfl) (hcl 3 _ rfl) (hcl 4 _ rfl)
    have HV4 : Hid (∀ i, i < 4 → ∃ p c, V i = .slice p nk c ∧ Ls ET w13 (.slice p nk c) (tms A)) := fun i hi => by
      have e : i = 0 ∨ i = 1 ∨ i = 2 ∨ i = 3 := by omega
      rw [hV]
      rcases e with rfl | rfl | rfl | rfl
      · exact ⟨_, _, rfl, owns_lst (owns_re OV0.out.row HNK.out rfl)⟩
      · exact ⟨_, _, rfl, owns_lst (owns_re OV1.out.row HNK.out rfl)⟩
      · exact ⟨_, _, rfl, owns_lst (owns_re OV2.out.row HNK.out rfl)⟩
      · exact ⟨_, _, rfl, owns_lst (owns_re OV3.out.row HNK.out rfl)⟩
    have HV5 : Hid (V 4 = .slice p4 n4 c4) := by subst hV; show _ = _; rfl
    have HWA : Hid (Ls ET w13 (.slice pw nk cw) (tms A)) := owns_lst (owns_re OW.out.row HNK.out rfl)
    have HZG : Hid (g13 < w13.heap.size) := zg
    clear hcl hrg zg
    go_wp2_with fail
    go_loopw [11, 12, 67] (fun _ _ s67 wr => ∃ i : Nat, i ≤ 5 ∧ s67 = .int .i64 (i : Nat) ∧ Hid (Gr w13 wr)) (fun _ _ s67 _ => 5 - (RowKit.intOf s67).toNat)
    case atStart => exact ⟨0, Nat.zero_le _, rfl, Gr.refl _⟩
    case round =>
      obtain ⟨i, hi5, rfl, HG⟩ := hrel
      by_cases hlt : i < 5
      · have hz : (i : Int) < 5 := by omega
        have hi0 : (0 : Int) ≤ (i : Int) := by omega
        have x0 := (HG.out.cell HZG.out).trans (HCL.out i hlt)
        have zg := Nat.lt_of_lt_of_le HZG.out HG.out.size
        by_cases h4 : i < 4
        · have h4z : (i : Int) < 4 := by omega
          obtain ⟨pv, cv, ev, hls⟩ := HV4.out i h4
          rw [ev] at x0
          have hte := times_eq wr (hls.below HG.out.below) (HWA.out.below HG.out.below) (by have := HNK.out; omega)
          clear ev hls
          go_wp2_with fail
          refine hte.mono ?_
          rintro e w14 ⟨rfl, hg14⟩
          have HGE := hid (HG.out.trans hg14)
          clear hte hg14
          go_wp2_with fail
          go_roundw
          case rel => exact ⟨i + 1, by omega, by simp, HGE.out⟩
          case measure => simp [RowKit.intOf]; omega
        · have h4z : ¬ (i : Int) < 4 := by omega
          obtain rfl : i = 4 := by omega
          rw [HV5.out] at x0
          go_wp2_with fail
          go_roundw
          case rel => exact ⟨5, by omega, by simp, HG.out⟩
          case measure => simp [RowKit.intOf]
      · have hz : ¬ (i : Int) < 5 := by omega
        obtain ⟨w14, hw14⟩ : ∃ w14, w14 = wr := ⟨_, rfl⟩
        rw [← hw14] at HG ⊢
        have hb := HG.out.below
        clear hw14 hlt hi5
        have SA' := hid (SA.out.below hb)
        clear SA
        have SA := SA'
        clear SA'
        have BW' := hid (BW.out.trans (hb.mono BW.out.size))
        clear BW
        have BW := BW'
        clear BW'
        have OW' := hid (OW.out.below hb)
        clear OW
        have OW := OW'
        clear OW'
        have OV0' := hid (OV0.out.below hb)
        clear OV0
        have OV0 := OV0'
        clear OV0'
        have OV1' := hid (OV1.out.below hb)
        clear OV1
        have OV1 := OV1'
        clear OV1'
        have OV2' := hid (OV2.out.below hb)
        clear OV2
        have OV2 := OV2'
        clear OV2'
        have OV3' := hid (OV3.out.below hb)
        clear OV3
        have OV3 := OV3'
        clear OV3'
        have OV4' := hid (OV4.out.below hb)
        clear OV4
        have OV4 := OV4'
        clear OV4'
        have Z14 : Hid (w13.heap.size ≤ w14.heap.size) := hb.size
        obtain ⟨C, hC⟩ : ∃ C : Nat → List (Int × Int × Int), C = pick5 ((tms A).map (·.1)) ((tms A).map (·.1)) ((tms A).map (·.1)) ((tms A).map (·.1)) (R4.map (·.1)) := ⟨_, rfl⟩
        have hOwn : ∀ i, i < 5 → w14.ownsRow 0 32 3 (V i) (C i).length (fl KT (C i)) := by
          rw [hV, hC]
          refine five ?_ ?_ ?_ ?_ ?_
          · exact owns_re OV0.out.z (by show nk = ((tms A).map _).length; rw [List.length_map]; exact HNK.out) (fl_KT _)
          · exact owns_re OV1.out.z (by show nk = ((tms A).map _).length; rw [List.length_map]; exact HNK.out) (fl_KT _)
          · exact owns_re OV2.out.z (by show nk = ((tms A).map _).length; rw [List.length_map]; exact HNK.out) (fl_KT _)
          · exact owns_re OV3.out.z (by show nk = ((tms A).map _).length; rw [List.length_map]; exact HNK.out) (fl_KT _)
          · exact owns_re OV4.out.z (by show n4 = (R4.map _).length; rw [List.length_map]; exact HN4.out) (fl_KT _)
        have hBd : ∀ i, i < 5 → ∀ g, (V i).ownBlock = some g → pick5 w5.heap.size w6.heap.size w7.heap.size w8.heap.size w11.heap.size i ≤ g ∧ g < pick5 w6.heap.size w7.heap.size w8.heap.size w9.heap.size w12.heap.size i := by
          rw [hV]
          exact five (fun g hg => OV0.out.bd hg) (fun g hg => OV1.out.bd hg) (fun g hg => OV2.out.bd hg) (fun g hg => OV3.out.bd hg) (fun g hg => OV4.out.bd hg)
        have hFar := far_of hBd (fun i hi j hj hij => by
          have h1 := ZZ.out
          have e1 : i = 0 ∨ i = 1 ∨ i = 2 ∨ i = 3 ∨ i = 4 := by omega
          have e2 : j = 0 ∨ j = 1 ∨ j = 2 ∨ j = 3 ∨ j = 4 := by omega
          rcases e1 with rfl | rfl | rfl | rfl | rfl <;> rcases e2 with rfl | rfl | rfl | rfl | rfl <;> first | omega | (simp only [pick5]; omega))
        have hRng : ∀ i, i < 5 → ∀ g, (V i).ownBlock = some g → w5.heap.size ≤ g ∧ g < w12.heap.size ∧ g ≠ w9.heap.size := fun i hi g hg => by
          have h1 := ZZ.out
          have h2 := hBd i hi g hg
          have h3 := Z12.out
          have e1 : i = 0 ∨ i = 1 ∨ i = 2 ∨ i = 3 ∨ i = 4 := by omega
          rcases e1 with rfl | rfl | rfl | rfl | rfl <;> simp only [pick5] at h2 <;> omega
        have hap := apart_any 5 g13 c13 (some ⟨g13, 0, none⟩) V C w14 (by decide) (fun _ => rfl) (fun k hk => (HG.out.cell HZG.out).trans (HCL.out k hk)) (fun _ => Nat.lt_of_lt_of_le HZG.out HG.out.size) (fun k hk e => by
            have h1 := hRng k hk _ e
            have h2 := HG13.out
            omega) ⟨hOwn, hFar⟩ (by
            rw [hC]
            have h1 := HN4.out
            have h2 := HNK.out
            have h3 : ((tms A).map (fun t : Tm => t.1)).length ≤ 2000 := by rw [List.length_map]; omega
            have h4 : (R4.map (fun t : Tm => t.1)).length ≤ 2000 := by rw [List.length_map]; omega
            exact five h3 h3 h3 h3 h4)
        have HR := hid hRng
        clear hb hC hOwn hBd hFar hRng HV4 HV5 HCL OV0 OV1 OV2 OV3 OV4 HG HWA
        go_wp2_with fail
        refine hap.mono ?_
        rintro e w15 ⟨rfl, hk15⟩
        clear hap
        have Z15 : Hid (w14.heap.size ≤ w15.heap.size) := hk15.size
        have HSQ : Hid (∀ k, SqN 5 V k → w5.heap.size ≤ k) := fun k ⟨i, hi, e⟩ => (HR.out i hi k e).1
        have SA' := hid (SA.out.kp hk15 (fun k hk e => by have h1 := HSQ.out k e; have h2 := HSA.out k hk; have h3 := ZZ.out; omega))
        clear SA
        have SA := SA'
        clear SA'
        have BW' := hid (BW.out.trans (hk15.below BW.out.size (fun k hk => by have h1 := HSQ.out k hk; have h3 := ZZ.out; omega)))
        clear BW
        have BW := BW'
        clear BW'
        have OW' := hid (OW.out.kp hk15 (fun k hk => .inr (HSQ.out k hk)))
        clear OW
        have OW := OW'
        clear OW'
        have ht := times_any w15 SA.out (by decide)
        clear hk15 HR HSQ hV HG13 HZG ROW5 HN4 hl4
        go_wp2_with fail
        refine ht.mono ?_
        rintro e w16 ⟨v, rfl, hr, hb, -⟩
        clear ht
        have Z16 : Hid (w15.heap.size ≤ w16.heap.size) := hb.size
        obtain ⟨p6, c6, hv⟩ := owns_form hr
        subst hv
        have SA' := hid (SA.out.below hb)
        clear SA
        have SA := SA'
        clear SA'
        have BW' := hid (BW.out.trans (hb.mono BW.out.size))
        clear BW
        have BW := BW'
        clear BW'
        have OW' := hid (OW.out.below hb)
        clear OW
        have OW := OW'
        clear OW'
        have hte := times_eq w16 (owns_lst hr) (owns_lst (owns_re OW.out.row HNK.out rfl)) (by have := HNK.out; omega)
        rw [← HNK.out] at hte ⊢
        clear hr hb
        go_wp2_with fail
        refine hte.mono ?_
        rintro e w17 ⟨rfl, hg17⟩
        have hb := hg17.below
        have Z17 : Hid (w16.heap.size ≤ w17.heap.size) := hb.size
        clear hte hg17
        have SA' := hid (SA.out.below hb)
        clear SA
        have SA := SA'
        clear SA'
        have BW' := hid (BW.out.trans (hb.mono BW.out.size))
        clear BW
        have BW := BW'
        clear BW'
        have OW' := hid (OW.out.below hb)
        clear OW
        have OW := OW'
        clear OW'
        have hcp := scopy_any w17 SA.out (by decide)
        clear hb
        go_wp2_with fail
        refine hcp.mono ?_
        rintro e w18 ⟨sc, rfl, hS3⟩
        clear hcp
        have hb := hS3.out.2
        have SA' := hid (SA.out.below hb)
        clear SA
        have SA := SA'
        clear SA'
        have BW' := hid (BW.out.trans (hb.mono BW.out.size))
        clear BW
        have BW := BW'
        clear BW'
        have OW' := hid (OW.out.below hb)
        clear OW
        have OW := OW'
        clear OW'
        obtain ⟨Sc, hSc⟩ : ∃ Sc : Nat → Prop, Sc = fun k => w17.heap.size ≤ k ∧ k < w18.heap.size := ⟨_, rfl⟩
        have hz17 : w1.heap.size ≤ w17.heap.size ∧ w5.heap.size ≤ w17.heap.size := by
          have h1 := ZZ.out; have h2 := Z12.out; have h3 := Z13.out; have h4 := Z14.out; have h5 := Z15.out; have h6 := Z16.out; have h7 := Z17.out
          omega
        have HWw : Hid (w.heap.size ≤ w18.heap.size) := BW.out.size
        have HT : Hid (Two w Sa Sc w18.heap.size 900 sa sc A A w18) := by
          rw [hSc]
          refine ⟨SA.out, hS3.out.1.cut, BW.out, fun k h1 h2 => ?_, fun k h => ?_, fun k h => ?_, Nat.le_refl _⟩
          · have h3 := HSA.out k h1; have h4 := h2.1; omega
          · rcases h with h | h
            · exact (HSA.out k h).1
            · have h3 := ZZ.out; have h4 := h.1; omega
          · have h5 := hb.size
            rcases h with h | h
            · have h3 := (HSA.out k h).2; omega
            · exact h.2
        have HFr : Hid (Free Sa Sc (.slice pw nk cw)) := fun k hk => by
          have h1 := OW.out.bd hk
          rw [hSc]
          exact ⟨fun h => by have h2 := HSA.out k h; have h3 := ZZ.out; omega, fun h => by have h2 := h.1; omega⟩
        have HLW : Hid (Ls ET w18 (.slice pw nk cw) (tms A)) := owns_lst (owns_re OW.out.row HNK.out rfl)
        have HWZ : Hid (∀ g, (Value.slice pw nk cw).ownBlock = some g → g < w18.heap.size) := fun g hg => HLW.out.blk g hg
        obtain ⟨Z, hZ⟩ : ∃ Z, Z = w18.heap.size := ⟨_, rfl⟩
        rw [← hZ] at HT HWZ HWw
        have HTW : Hid (∃ V U D, Tw Z w18 0 (.slice none 0 0) (.slice none 0 0) V U D) := ⟨fun _ => .slice none 0 0, fun _ => .slice none 0 0, fun _ => [], Tw.nil _ _ _ _ _⟩
        clear hSc hS3 hb hz17 SA BW OW HSA ZZ Z12 Z13 Z14 Z15 Z16 Z17 hZ HB10
        go_wp2_with fail
        go_loopw [14, 15, 17, 18, 19, 95] (fun s14 s15 _ _ _ s95 wr => ∃ j : Nat, j ≤ nk ∧ s95 = .int .i64 (j : Nat) ∧ Hid (Two w Sa Sc Z 900 sa sc (lfs A ((tms A).take j)) (lfs A ((tms A).take j)) wr ∧ Ls ET wr (.slice pw nk cw) (tms A) ∧ ∃ V U D, Tw Z wr (2 * j) s14 s15 V U D)) (fun _ _ _ _ _ s95 _ => nk - (RowKit.intOf s95).toNat)
        case atStart => exact ⟨0, Nat.zero_le _, rfl, HT.out, HLW.out, HTW.out⟩
        case round =>
          clear HT HLW HTW
          obtain ⟨j, hj, rfl, HI⟩ := hrel
          by_cases hlt : j < nk
          · have hz : (j : Int) < (nk : Int) := by omega
            have hj0 : (0 : Int) ≤ (j : Int) := by omega
            obtain ⟨hTwo, hLs, V, U, D, hTw⟩ := HI.out
            obtain ⟨t, ht⟩ : ∃ t, (tms A)[j]? = some t := ⟨(tms A)[j]'(by have := HNK.out; omega), by simp⟩
            obtain ⟨b1, o1, c1', e1, l1, x0, x1, x2⟩ := hLs.at3 ht
            simp only [Value.slice.injEq] at e1
            obtain ⟨rfl, -, rfl⟩ := e1
            have HNt : Hid (t ∉ (tms A).take j) := not_take (tms_nodup A) ht
            have HTt : Hid ((tms A).take (j + 1) = (tms A).take j ++ [t]) := (take_snoc ht).symm
            obtain ⟨pt, ct, ht14⟩ := owns_form hTw.r1
            obtain ⟨pu, cu, ht15⟩ := owns_form hTw.r2
            subst ht14
            subst ht15
            obtain ⟨W2, hW2⟩ : ∃ W2, W2 = wr.alloc (.cells #[.int .u64 t.1.1, .int .u64 t.1.2.1, .int .u64 t.1.2.2] 32) := ⟨_, rfl⟩
            obtain ⟨b2, hb2⟩ : ∃ b2, b2 = wr.heap.size := ⟨_, rfl⟩
            have G2 : Gr wr W2 := by rw [hW2]; exact (Gr.refl _).alloc _
            have HX2 : Hid (W2.heap[b2]? = some (.cells #[.int .u64 t.1.1, .int .u64 t.1.2.1, .int .u64 t.1.2.2] 32 (0, 0))) := by rw [hW2, hb2]; exact heap_new' _ _
            have HNb : Hid (¬ Sa b2 ∧ ¬ Sc b2) := hTwo.new (by omega)
            have HT2 := hid (hTwo.below G2.below)
            have HLS2 := hid (hLs.below G2.below)
            have HTW2 := hid (hTw.below G2.below)
            have hta := tell_any t W2 HT2.out.a (by decide)
            obtain ⟨k0, k1, k2, k3⟩ := bx_cell HX2.out
            clear ht HI G2 hTwo hLs hTw
            go_upto_region 28 with fail
            rw [← hW2, ← hb2]
            clear hW2 hb2 x0 x1 x2 l1
            go_wp2_with fail
            refine hta.mono ?_
            rintro e w3 ⟨v3, rfl, hTd⟩
            obtain ⟨HT3, hk3⟩ := HT2.out.tellA hTd.out
            have HT3 := hid HT3
            have hr3 := hTd.out.1
            rw [rcs_lfs HNt.out] at hr3
            have HX3 : Hid (w3.heap[b2]? = some (.cells #[.int .u64 t.1.1, .int .u64 t.1.2.1, .int .u64 t.1.2.2] 32 (0, 0))) := (hk3.block b2 k3 HNb.out.1).trans HX2.out
            have HLS3 := hid (Free.a HLS2.out HFr.out hk3)
            have HTW3 := hid (HTW2.out.kp hk3 (fun k hk => HT2.out.up k (.inl hk)))
            obtain ⟨px, cx, hv3⟩ := owns_form hr3
            subst hv3
            obtain ⟨R, hR⟩ : ∃ R, R = rcs A t := ⟨_, rfl⟩
            obtain ⟨nx, hnx⟩ : ∃ nx, nx = R.length := ⟨_, rfl⟩
            have hnx9 : nx ≤ 900 := by
              have := HT2.out.a.len t
              rw [rcs_lfs HNt.out, ← hR, ← hnx] at this
              exact this
            rw [← hR, ← hnx] at hr3 ⊢
            have HNX := hid hnx
            have HRR := hid hR
            have HX : Hid (Own w3 37 2 (.slice px nx cx) nx (fl ER R) W2.heap.size w3.heap.size) := Own.mk' hr3
            have htb := tell_any t w3 HT3.out.b (by decide)
            have ZW2 : Hid (W2.heap.size ≤ w3.heap.size) := hk3.size
            have HZW : Hid (Z ≤ W2.heap.size) := HT2.out.hz
            clear k0 k1 k2 k3 hta hTd hk3 hr3 HT2 HX2 HLS2 hnx hR
            obtain ⟨k0, k1, k2, k3⟩ := bx_cell HX3.out
            go_wp2_with fail
            refine htb.mono ?_
            rintro e w4' ⟨v4, rfl, hTd⟩
            obtain ⟨HT4, hk4⟩ := HT3.out.tellB hTd.out
            have HT4 := hid HT4
            have hr4 := hTd.out.1
            rw [rcs_lfs HNt.out, ← HRR.out] at hr4
            have HLS4 := hid (Free.b HLS3.out HFr.out hk4)
            have HTW4 := hid (HTW3.out.kp hk4 (fun k hk => HT3.out.up k (.inr hk)))
            have HX4 : Hid (Own w4' 37 2 (.slice px nx cx) nx (fl ER R) W2.heap.size w3.heap.size) := HX.out.kp hk4 (fun k hk => by
              have h1 := HT3.out.up k (.inr hk)
              have h2 := HZW.out
              omega)
            have ZW4 : Hid (w3.heap.size ≤ w4'.heap.size) := hk4.size
            obtain ⟨py, cy, hv4⟩ := owns_form hr4
            subst hv4
            rw [← HNX.out] at hr4 ⊢
            have HY4 : Hid (Own w4' 37 2 (.slice py nx cy) nx (fl ER R) w3.heap.size w4'.heap.size) := Own.mk' hr4
            clear k0 k1 k2 k3 htb hTd hk4 hr4 HT3 HX3 HLS3 HTW3 HX
            have hjb : 2 * j ≤ 1800 := by omega
            have hJ : (2 * j + 2) * 24 ≤ 140737488355328 ∧ 2 * j + 2 ≤ maxLen ∧ nx ≤ maxLen := by unfold maxLen; omega
            obtain ⟨i0, hi0', hz0', hz1', hz2'⟩ := info_parts infoLR
            go_wp2_with (at_builtin; refine wpList_append_lies _ rfl _ _ 45 rfl Z 33 i0 (.slice none 0 0) 1 24 Try.underlying45 hi0' hz0' hz1' hz2' rfl (by decide) (.slice pt (2 * j) ct) (2 * j) _ rfl (World.ownsRow.alloc HTW4.out.r1 _) ⟨w4'.heap.size, 0, none⟩ 2 2 [.slice px nx cx, .slice py nx cy] (by first | rfl | simp) rfl (World.news_of_block (heap_new' _ _)) (fun u hu => by simp at hu; rcases hu with rfl | rfl <;> rfl) (by decide) hJ.2.1 hJ.1 (by have h1 := HZW.out; have h2 := ZW2.out; have h3 := ZW4.out; simp; omega) _ rfl ?_)
            intro g5 c5 w5' ho5 hg5 hl5 _
            have hk5 : Kp (fun k => (Value.slice pt (2 * j) ct).ownBlock = some k) w4' w5' := (Kp.of_below ((Gr.refl w4').alloc _).below).trans (Kp.grownBy (S := fun k => (Value.slice pt (2 * j) ct).ownBlock = some k) hg5 (fun _ h => h)) (fun _ _ h => h)
            have HL5 : Hid (∀ g, (Value.slice (some ⟨g5, 0, none⟩) (2 * j + 2) c5).ownBlock = some g → (Value.slice pt (2 * j) ct).ownBlock = some g ∨ w4'.heap.size ≤ g) := fun g hg => by
              have : g5 = g := by simpa [Value.ownBlock] using hg
              subst this
              exact hl5.imp id (fun e => by rw [e]; simp)
            have HR5 : Hid (w5'.ownsRow Z 33 1 (.slice (some ⟨g5, 0, none⟩) (2 * j + 2) c5) (2 * j + 2) ((List.range (2 * j)).map V ++ [.slice px nx cx, .slice py nx cy])) := ho5
            have HK5 := hid hk5
            have HBT : Hid (∀ k, (Value.slice pt (2 * j) ct).ownBlock = some k → Z ≤ k ∧ k < W2.heap.size) := fun k hk => HTW2.out.r1.lt k hk
            have HBU : Hid (∀ k, (Value.slice pu (2 * j) cu).ownBlock = some k → Z ≤ k ∧ k < W2.heap.size) := fun k hk => HTW2.out.r2.lt k hk
            have HT5 := hid (HT4.out.kp hk5 (fun k hk => (HBT.out k hk).1) HWw.out)
            have HLS5 : Hid (Ls ET w5' (.slice (some ⟨b1, o1, none⟩) nk cw) (tms A)) := hk5.ls HLS4.out (fun k hk e => by have h1 := HWZ.out k hk; have h2 := (HBT.out k e).1; omega)
            have HX5 : Hid (Ls ER w5' (.slice px nx cx) R) := hk5.ls (owns_ls (E := ER) (owns_re HX4.out.row HNX.out rfl)) (fun k hk e => by have h1 := HX4.out.bd hk; have h2 := (HBT.out k e).2; omega)
            have HU5 : Hid (w5'.ownsRow Z 33 1 (.slice pu (2 * j) cu) (2 * j) ((List.range (2 * j)).map U)) := owns_kp hk5 HTW4.out.r2 (fun k hk e => HTW4.out.tu k e hk)
            have ZW5 : Hid (w4'.heap.size ≤ w5'.heap.size) := hk5.size
            have hbd := b900 (n := R.length) (by have := HNX.out; omega)
            have HO6 : Hid ((w5'.alloc (.cells #[] 37)).ownsRow w5'.heap.size 37 2 (.slice (some ⟨w5'.heap.size, 0, none⟩) 0 0) 0 []) := World.ownsRow_made w5' #[] 0 (Nat.le_refl _) (by unfold maxLen; omega) rfl
            have HX6 : Hid (Ls ER (w5'.alloc (.cells #[] 37)) (.slice px nx cx) R) := HX5.out.below ((Gr.refl _).alloc _).below
            clear ho5 hg5 hl5 hk5 HT4 HLS4
            go_wp2_with (at_builtin; refine wpAppL ER Try.underlying33 infoR rfl (by decide) rfl _ _ rfl w5'.heap.size (.slice (some ⟨w5'.heap.size, 0, none⟩) 0 0) 0 [] rfl HO6.out (.slice px nx cx) R rfl HX6.out hbd.2.2 hbd.2.1 (by simp) ?_)
            intro v6 w6 ho6 hg6
            have hb6 : Below w5'.heap.size w5' w6 := ((Gr.refl w5').alloc _).below.trans ((Kp.grownBy (S := fun k => k = w5'.heap.size) hg6 (fun k hk => by simpa [Value.ownBlock] using hk.symm)).below (by simp) (fun k hk => by rw [hk]; exact Nat.le_refl _))
            have HV6 : Hid (Own w6 37 2 v6 R.length (fl ER R) w5'.heap.size w6.heap.size) := Own.mk' (owns_re ho6 (by first | rfl | omega) (by first | rfl | simp))
            obtain ⟨p6, c6, hv6⟩ := owns_form HV6.out.row
            subst hv6
            have HB6 := hid hb6
            have HX6' := hid (HX5.out.below hb6)
            clear ho6 hg6 hb6 HO6 HX6 HX5
            have HO7 : Hid ((w6.alloc (.cells #[] 37)).ownsRow w6.heap.size 37 2 (.slice (some ⟨w6.heap.size, 0, none⟩) 0 0) 0 []) := World.ownsRow_made w6 #[] 0 (Nat.le_refl _) (by unfold maxLen; omega) rfl
            have HX7 : Hid (Ls ER (w6.alloc (.cells #[] 37)) (.slice px nx cx) R) := HX6'.out.below ((Gr.refl _).alloc _).below
            go_wp2_with (at_builtin; refine wpAppL ER Try.underlying33 infoR rfl (by decide) rfl _ _ rfl w6.heap.size (.slice (some ⟨w6.heap.size, 0, none⟩) 0 0) 0 [] rfl HO7.out (.slice px nx cx) R rfl HX7.out hbd.2.2 hbd.2.1 (by simp) ?_)
            intro v7 w7 ho7 hg7
            have hb7 : Below w6.heap.size w6 w7 := ((Gr.refl w6).alloc _).below.trans ((Kp.grownBy (S := fun k => k = w6.heap.size) hg7 (fun k hk => by simpa [Value.ownBlock] using hk.symm)).below (by simp) (fun k hk => by rw [hk]; exact Nat.le_refl _))
            have HV7 : Hid (Own w7 37 2 v7 R.length (fl ER R) w6.heap.size w7.heap.size) := Own.mk' (owns_re ho7 (by first | rfl | omega) (by first | rfl | simp))
            obtain ⟨p7, c7, hv7⟩ := owns_form HV7.out.row
            subst hv7
            have HB7 : Hid (Below w5'.heap.size w5' w7) := HB6.out.trans (hb7.mono HB6.out.size)
            have HV6' := hid (HV6.out.below hb7)
            have HU7 := hid (owns_below HU5.out HB7.out)
            have ZW7 : Hid (w5'.heap.size ≤ w6.heap.size ∧ w6.heap.size ≤ w7.heap.size) := ⟨HB6.out.size, hb7.size⟩
            have hsz7 : Z ≤ (w7.alloc (.cells #[.slice p6 R.length c6, .slice p7 R.length c7] 33)).heap.size := by
              have h1 := HZW.out; have h2 := ZW2.out; have h3 := ZW4.out; have h4 := ZW5.out; have h5 := ZW7.out
              simp
              omega
            clear ho7 hg7 hb7 HO7 HX7 HX6' HV6 HU5 hbd
            go_wp2_with (at_builtin; refine wpList_append_lies _ rfl _ _ 45 rfl Z 33 i0 (.slice none 0 0) 1 24 Try.underlying45 hi0' hz0' hz1' hz2' rfl (by decide) (.slice pu (2 * j) cu) (2 * j) _ rfl (World.ownsRow.alloc HU7.out _) ⟨w7.heap.size, 0, none⟩ 2 2 [.slice p6 R.length c6, .slice p7 R.length c7] (by first | rfl | simp) rfl (World.news_of_block (heap_new' _ _)) (fun u hu => by simp at hu; rcases hu with rfl | rfl <;> rfl) (by decide) hJ.2.1 hJ.1 hsz7 _ rfl ?_)
            intro g8 c8 w8' ho8 hg8 hl8 _
            have hk8 : Kp (fun k => (Value.slice pu (2 * j) cu).ownBlock = some k) w7 w8' := (Kp.of_below ((Gr.refl w7).alloc _).below).trans (Kp.grownBy (S := fun k => (Value.slice pu (2 * j) cu).ownBlock = some k) hg8 (fun _ h => h)) (fun _ _ h => h)
            have hL8 : ∀ g, (Value.slice (some ⟨g8, 0, none⟩) (2 * j + 2) c8).ownBlock = some g → (Value.slice pu (2 * j) cu).ownBlock = some g ∨ w7.heap.size ≤ g := fun g hg => by
              have : g8 = g := by simpa [Value.ownBlock] using hg
              subst this
              exact hl8.imp id (fun e => by rw [e]; simp)
            have HTE : Hid (∃ V U D, Tw Z w8' (2 * (j + 1)) (.slice (some ⟨g5, 0, none⟩) (2 * j + 2) c5) (.slice (some ⟨g8, 0, none⟩) (2 * j + 2) c8) V U D) :=
              ⟨_, _, _, HTW2.out.told HTW4.out HZW.out (Nat.le_trans ZW2.out ZW4.out) (owns_re HX4.out.row HNX.out rfl) (owns_re (owns_base HY4.out.row ZW2.out) HNX.out rfl) (fun g h1 h2 => by have h3 := HX4.out.bd h1; have h4 := HY4.out.bd h2; omega) HR5.out HK5.out HL5.out HB7.out (owns_ls (E := ER) HV6'.out.row) (fun g hg => (HV6'.out.bd hg).1) (owns_ls (E := ER) HV7.out.row) (fun g hg => Nat.le_trans ZW7.out.1 (HV7.out.bd hg).1) ho8 hk8 hL8 (by have := HNX.out; omega)⟩
            have HT8 : Hid (Two w Sa Sc Z 900 sa sc (lfs A ((tms A).take (j + 1))) (lfs A ((tms A).take (j + 1))) w8') := by
              have h := (HT5.out.below HB7.out).kp hk8 (fun k hk => (HBU.out k hk).1) HWw.out
              rw [HTt.out, lfs_snoc]
              exact h
            have HLS8 : Hid (Ls ET w8' (.slice (some ⟨b1, o1, none⟩) nk cw) (tms A)) := hk8.ls (HLS5.out.below HB7.out) (fun k hk e => by have h1 := HWZ.out k hk; have h2 := (HBU.out k e).1; omega)
            clear ho8 hg8 hl8 hk8 hL8 HTW2 HTW4 HX4 HY4 HR5 HK5 HL5 HB7 HB6 HV6' HV7 HT5 HLS5 HU7 hi0' hz0' hz1' hz2'
            go_wp2_with fail
            go_roundw
            case rel => exact ⟨j + 1, by omega, by simp, HT8.out, HLS8.out, HTE.out⟩
            case measure => simp [RowKit.intOf]; omega
          · have hz : ¬ (j : Int) < (nk : Int) := by omega
            obtain rfl : j = nk := by omega
            obtain ⟨hTwo, -, V, U, D, hTw⟩ := HI.out
            have hA0 : lfs A ((tms A).take j) = [] := by rw [HNK.out, List.take_length]; exact lfs_all A
            rw [hA0] at hTwo
            have HT := hid hTwo
            obtain ⟨n2, hn2⟩ : ∃ n2, n2 = 2 * j := ⟨_, rfl⟩
            rw [← hn2] at hTw
            have hn2b : n2 ≤ 1800 := by omega
            obtain ⟨pt, ct, h14⟩ := owns_form hTw.r1
            obtain ⟨pu, cu, h15⟩ := owns_form hTw.r2
            subst h14
            subst h15
            have HTW := hid hTw
            obtain ⟨w19, hw19⟩ : ∃ w19, w19 = wr := ⟨_, rfl⟩
            rw [← hw19] at HT HTW ⊢
            clear hw19 hA0 hTwo hTw HI hn2 hlt hj hz
            have HG1 : Hid (0 < n2 → ∃ g, pt = some ⟨g, 0, none⟩ ∧ g < w19.heap.size ∧ ∀ i, i < n2 → w19.cell? ⟨g, i, none⟩ = some (V i)) := fun h => by
              obtain ⟨g, h1, h2, -, h3⟩ := rows_at HTW.out.r1 h
              exact ⟨g, h1, h2, fun i hi => h3 i _ (by simp [hi])⟩
            have HG2 : Hid (0 < n2 → ∃ g, pu = some ⟨g, 0, none⟩ ∧ g < w19.heap.size ∧ ∀ i, i < n2 → w19.cell? ⟨g, i, none⟩ = some (U i)) := fun h => by
              obtain ⟨g, h1, h2, -, h3⟩ := rows_at HTW.out.r2 h
              exact ⟨g, h1, h2, fun i hi => h3 i _ (by simp [hi])⟩
            go_wp2_with fail
            go_loopw [20, 122] (fun _ s122 wr => ∃ i : Nat, i ≤ n2 ∧ s122 = .int .i64 (i : Nat) ∧ Hid (Gr w19 wr)) (fun _ s122 _ => n2 - (RowKit.intOf s122).toNat)
            case atStart => exact ⟨0, Nat.zero_le _, rfl, Gr.refl _⟩
            case round =>
              obtain ⟨i, hi, rfl, HG⟩ := hrel
              by_cases hlt : i < n2
              · have hz : (i : Int) < (n2 : Int) := by omega
                have hi0 : (0 : Int) ≤ (i : Int) := by omega
                obtain ⟨gt, hpt, zt, hct⟩ := HG1.out (by omega)
                obtain ⟨gu, hpu, zu, hcu⟩ := HG2.out (by omega)
                have x0 := (HG.out.cell zt).trans (hct i hlt)
                have y0 := (HG.out.cell zu).trans (hcu i hlt)
                have zt' := Nat.lt_of_lt_of_le zt HG.out.size
                have zu' := Nat.lt_of_lt_of_le zu HG.out.size
                obtain ⟨px, cx, ex⟩ := owns_form (HTW.out.own i hlt)
                obtain ⟨py, cy, ey⟩ := (HTW.out.ls i hlt).1.form
                have hrc : ∀ W, Gr wr W → Calls Try.prog 13 #[.slice px (D i).length cx, .slice py (D i).length cy] W fun e w' => e = .returned (.bool true) ∧ Gr W w' := fun W hW => by
                  have hb := (HG.out.trans hW).below
                  refine records_eq (l := D i) W ?_ ?_ (by have := HTW.out.bd i hlt; omega)
                  · rw [← ex]; exact (owns_ls (E := ER) (HTW.out.own i hlt)).below hb
                  · rw [← ey]; exact (HTW.out.ls i hlt).1.below hb
                rw [ex] at x0
                rw [ey] at y0
                have HGI := hid HG.out
                generalize (D i).length = nd at *
                clear ex ey hct hcu zt zu HG
                subst hpt
                subst hpu
                have hS0 : Gr wr wr.drew := (Gr.refl wr).drew
                go_upto_region 36 with fail
                refine wp_regionD (S := fun W => Gr wr W) (D := []) hmx ?_
                refine' wpAnyD_take (i := 0) (oi := { dst := some 125, op := Go.Op.move (Go.Operand.tmp 14), type := 45, pos := "outright.go:112", after := #[], guard := none }) (v := _) rfl (by kernel_rfl) (by kernel_rfl) (by kernel_rfl) (fun _ _ _ h => h) (by kernel_rfl) (Or.inl ⟨by rfl, ?hy1⟩) hS0 ?rest1
                case hy1 => (intro W hSw; go_simp; try (with_reducible rfl))
                try simp only [Act.put, List.setIfInBounds_toArray, List.set_cons_zero, List.set_cons_succ]
                refine' wpAnyD_take (i := 1) (oi := { dst := some 126, op := Go.Op.move (Go.Operand.tmp 20), type := 3, pos := "outright.go:112", after := #[], guard := none }) (v := _) rfl (by kernel_rfl) (by kernel_rfl) (by kernel_rfl) (fun _ _ _ h => h) (by kernel_rfl) (Or.inl ⟨by rfl, ?hy2⟩) hS0 ?rest2
                case hy2 => (intro W hSw; go_simp; try (with_reducible rfl))
                try simp only [Act.put, List.setIfInBounds_toArray, List.set_cons_zero, List.set_cons_succ]
                refine' wpAnyD_take (i := 2) (oi := { dst := some 127, op := Go.Op.indexAddr 45 (Go.Operand.tmp 125) (Go.Operand.tmp 126), type := 0, pos := "outright.go:112", after := #[{ on := 0, ground := Go.Ground.data }, { on := 1, ground := Go.Ground.data }], guard := none }) (v := _) rfl (by kernel_rfl) (by kernel_rfl) (by kernel_rfl) (fun _ _ _ h => h) (by kernel_rfl) (Or.inl ⟨by rfl, ?hy3⟩) hS0 ?rest3
                case hy3 => (intro W hSw; go_simp; try (with_reducible rfl))
                try simp only [Act.put, List.setIfInBounds_toArray, List.set_cons_zero, List.set_cons_succ]
                refine' wpAnyD_take (i := 3) (oi := { dst := some 128, op := Go.Op.load 33 (Go.Operand.tmp 127), type := 33, pos := "outright.go:112", after := #[{ on := 2, ground := Go.Ground.data }], guard := none }) (v := _) rfl (by kernel_rfl) (by kernel_rfl) (by kernel_rfl) (fun _ _ _ h => h) (by kernel_rfl) (Or.inl ⟨by rfl, ?hy4⟩) hS0 ?rest4
                case hy4 => (intro W hSw; have h0 := (hSw.cell zt').trans x0; go_simp; try (with_reducible rfl))
                try simp only [Act.put, List.setIfInBounds_toArray, List.set_cons_zero, List.set_cons_succ]
                refine' wpAnyD_take (i := 4) (oi := { dst := some 129, op := Go.Op.move (Go.Operand.tmp 15), type := 45, pos := "outright.go:112", after := #[], guard := none }) (v := _) rfl (by kernel_rfl) (by kernel_rfl) (by kernel_rfl) (fun _ _ _ h => h) (by kernel_rfl) (Or.inl ⟨by rfl, ?hy5⟩) hS0 ?rest5
                case hy5 => (intro W hSw; go_simp; try (with_reducible rfl))
                try simp only [Act.put, List.setIfInBounds_toArray, List.set_cons_zero, List.set_cons_succ]
                refine' wpAnyD_take (i := 5) (oi := { dst := some 130, op := Go.Op.move (Go.Operand.tmp 20), type := 3, pos := "outright.go:112", after := #[], guard := none }) (v := _) rfl (by kernel_rfl) (by kernel_rfl) (by kernel_rfl) (fun _ _ _ h => h) (by kernel_rfl) (Or.inl ⟨by rfl, ?hy6⟩) hS0 ?rest6
                case hy6 => (intro W hSw; go_simp; try (with_reducible rfl))
                try simp only [Act.put, List.setIfInBounds_toArray, List.set_cons_zero, List.set_cons_succ]
                refine' wpAnyD_take (i := 6) (oi := { dst := some 131, op := Go.Op.indexAddr 45 (Go.Operand.tmp 129) (Go.Operand.tmp 130), type := 0, pos := "outright.go:112", after := #[{ on := 4, ground := Go.Ground.data }, { on := 5, ground := Go.Ground.data }], guard := none }) (v := _) rfl (by kernel_rfl) (by kernel_rfl) (by kernel_rfl) (fun _ _ _ h => h) (by kernel_rfl) (Or.inl ⟨by rfl, ?hy7⟩) hS0 ?rest7
                case hy7 => (intro W hSw; go_simp; try (with_reducible rfl))
                try simp only [Act.put, List.setIfInBounds_toArray, List.set_cons_zero, List.set_cons_succ]
                refine' wpAnyD_take (i := 7) (oi := { dst := some 132, op := Go.Op.load 33 (Go.Operand.tmp 131), type := 33, pos := "outright.go:112", after := #[{ on := 6, ground := Go.Ground.data }], guard := none }) (v := _) rfl (by kernel_rfl) (by kernel_rfl) (by kernel_rfl) (fun _ _ _ h => h) (by kernel_rfl) (Or.inl ⟨by rfl, ?hy8⟩) hS0 ?rest8
                case hy8 => (intro W hSw; have h0 := (hSw.cell zu').trans y0; go_simp; try (with_reducible rfl))
                try simp only [Act.put, List.setIfInBounds_toArray, List.set_cons_zero, List.set_cons_succ]
                refine wpAnyD_one (i := 8) (o := { dst := some 133, op := Go.Op.call { callee := Go.Callee.value (Go.Operand.func 13), args := #[Go.Operand.tmp 128, Go.Operand.tmp 132], argTypes := #[33, 33] }, type := 4, pos := "outright.go:112", after := #[{ on := 3, ground := Go.Ground.data }, { on := 7, ground := Go.Ground.data }], guard := none }) (by kernel_rfl) rfl (fun K hK => ?_)
                go_simp
                refine (hrc _ hS0).mono ?_
                rintro e w20 ⟨rfl, hg20⟩
                have hS8 : Gr wr w20 := hS0.trans hg20
                clear hg20
                go_wp2_with fail
                refine hK.out _ _ (fun hD => hS8) ?_
                clear hK K
                try simp only [Act.put, List.setIfInBounds_toArray, List.set_cons_zero, List.set_cons_succ]
                refine' wpAnyD_take (i := 9) (oi := { dst := some 134, op := Go.Op.unOp Go.UnOp.not 4 (Go.Operand.tmp 133), type := 4, pos := "outright.go:112", after := #[{ on := 8, ground := Go.Ground.data }], guard := none }) (v := _) rfl (by kernel_rfl) (by kernel_rfl) (by kernel_rfl) (fun _ _ _ h => h) (by kernel_rfl) (Or.inl ⟨by rfl, ?hy10⟩) hS8 ?rest10
                case hy10 => (intro W hSw; go_simp; try (with_reducible rfl))
                try simp only [Act.put, List.setIfInBounds_toArray, List.set_cons_zero, List.set_cons_succ]
                refine wpAnyD_done (by kernel_rfl) ?_ _
                go_wp2_with fail
                go_roundw
                case rel => exact ⟨i + 1, by omega, by simp, HGI.out.trans hS8⟩
                case measure => simp [RowKit.intOf]; omega
              · have hz : ¬ (i : Int) < (n2 : Int) := by omega
                obtain ⟨w20, hw20⟩ : ∃ w20, w20 = wr := ⟨_, rfl⟩
                rw [← hw20] at HG ⊢
                have hT20 := HT.out.below HG.out.below
                have hW20 := HTW.out.below HG.out.below
                obtain ⟨gt, hgt⟩ : ∃ gt, 0 < n2 → (pt = some ⟨gt, 0, none⟩ ∧ gt < w20.heap.size ∧ Z ≤ gt ∧ ∀ i, i < n2 → w20.cell? ⟨gt, i, none⟩ = some (V i)) := by
                  by_cases h : 0 < n2
                  · obtain ⟨g, h1, h2, h3, h4⟩ := rows_at hW20.r1 h
                    exact ⟨g, fun _ => ⟨h1, h2, h3, fun i hi => h4 i _ (by simp [hi])⟩⟩
                  · exact ⟨0, fun h' => absurd h' h⟩
                have hal := alone_any n2 gt ct pt V (fun i => (D i).map rw2) w20 (by omega) (fun h => (hgt h).1) (fun k hk => (hgt (by omega)).2.2.2 k hk) (fun h => (hgt h).2.1) (fun k hk e => by
                    have h1 := (hgt (by omega)).1
                    exact (hW20.nt k hk gt e).1 (by rw [h1]; rfl)) ⟨fun i hi => owns_re (owns_base (hW20.own i hi) (Nat.zero_le _)) (by rw [List.length_map]) (fl_KR _), hW20.far⟩ (fun k hk => by
                    rw [List.length_map]
                    have := hW20.bd k hk
                    omega)
                have HVZ : Hid (∀ k, SqN n2 V k → Z ≤ k) := fun k ⟨i, hi, e⟩ => ((hW20.own i hi).lt k e).1
                have HT20 := hid hT20
                clear hgt hT20 hW20 HG hw20 HG1 HG2 HTW HT hi hlt
                go_wp2_with fail
                refine hal.mono ?_
                rintro e w21 ⟨rfl, hk21⟩
                have HT21 := hid (HT20.out.kp hk21 HVZ.out HWw.out)
                have ht := times_any w21 HT21.out.a (by decide)
                clear hal hk21 HT20
                go_wp2_with fail
                refine ht.mono ?_
                rintro e w22 ⟨v, rfl, hr, hb, -⟩
                obtain ⟨p22, c22, hv⟩ := owns_form hr
                subst hv
                have HT22 := hid (HT21.out.below hb)
                clear ht hr hb HT21
                go_wp2_with fail
                go_ret
                exact ⟨by simp [tms], HT22.out.bl⟩
theorem sumsKeeps_all {v u : Value} {L M : List Ct} (w : World) (hL : Ls EC w v L) (hc : ∀ p n c, v = .slice p n c → n ≤ c) (hz : L.length * 40 ≤ 140737488351232) (hM : Ls EC w u M) (hz2 : M.length * 40 ≤ 140737488351232) :
    Calls Try.prog 4 #[v, u] w fun e w' => e = .returned (.bool true) ∧ Below w.heap.size w w' := by
  obtain ⟨p, c, rfl⟩ := hL.form
  obtain ⟨q, d, rfl⟩ := hM.form
  exact sumsKeeps_any w hL rfl (hc _ _ _ rfl) hM rfl (by omega) (by omega)
end Go.Proofs.Ytijbmchgajhkeaa
