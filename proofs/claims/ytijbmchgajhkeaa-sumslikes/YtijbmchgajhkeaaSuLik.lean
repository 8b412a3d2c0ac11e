import Derived.Test.YtijbmchgajhkeaaSuLk0
import Derived.Test.YtijbmchgajhkeaaLHold2
import Derived.Deep.DeepCutAuto
import Derived.Deep.CutBlock
namespace Go.Proofs.Ytijbmchgajhkeaa
open Go.RowKit Go.Sort Go.Maps Go.Shelf
attribute [local go_sem ↓] Go.wp_at_zero Go.wp_at_succ

set_option maxHeartbeats 16000000 in
set_option maxRecDepth 100000 in
theorem sumsLikes_any {p q : Option Addr} {n c m d : Nat} {L : List Ct} {F : List Tm} (w : World) (hL : Ls EC w (.slice p n c) L) (hn : n = L.length) (hc : n ≤ c) (hF : Ls ET w (.slice q m d) F) (hm : m = F.length) (hd : m ≤ d) (hnb : n ≤ 5864062014806) (hmb : m ≤ 5864062014806) :
    Calls Try.prog 3 #[.slice p n c, .slice q m d] w fun e w' => e = .returned (.bool true) ∧ Below w.heap.size w w' := by
  have hmx : Try.prog.follows .mixedOrders = true := by kernel_rfl
  have HL := hid hL
  have HN := hid hn
  have HF := hid hF
  have HMm := hid hm
  clear hL hn hF hm
  go_enter Try.func3, Try.ntmps3
  go_upto_if 21 with fail
  go_cut [0] (fun s0 wx => ∃ p c, s0 = .slice p (L.take 300).length c ∧ Hid (Ls EC w (.slice p (L.take 300).length c) (L.take 300)) ∧ wx = w)
  case first =>
    by_cases h300 : 300 < n
    · have z1 : (300 : Int) < (n : Int) := by omega
      have z2 : 300 ≤ c := by omega
      have z3 : (300 : Int) ≤ (c : Int) := by omega
      have e3 : (L.take 300).length = 300 := by rw [List.length_take, Nat.min_eq_left (by have := HN.out; omega)]
      obtain ⟨b0, o0, hp⟩ : ∃ b o, p = some ⟨b, o, none⟩ := by
        rcases HL.out with ⟨h1, h2⟩ | ⟨b, o, c', h1, _⟩
        · cases h2; omega
        · cases h1; exact ⟨b, o, rfl⟩
      subst hp
      have HLc : Hid (Ls EC w (.slice (some ⟨b0, o0, none⟩) 300 c) (L.take 300)) := HL.out.cut (by have := HN.out; omega) c
      have HE3 := hid e3
      clear e3
      go_wp2_with fail
      go_meet
      exact ⟨some ⟨b0, o0, none⟩, c, by rw [HE3.out], by rw [HE3.out]; exact HLc.out, rfl⟩
    · have z1 : ¬ (300 : Int) < (n : Int) := by omega
      have z2 : L.take 300 = L := List.take_of_length_le (by have := HN.out; omega)
      have HZ2 := hid z2
      clear z2
      go_wp2_with fail
      all_goals go_meet
      all_goals exact ⟨p, c, by rw [HZ2.out, ← HN.out], by rw [HZ2.out, ← HN.out]; exact HL.out, rfl⟩
  case rest =>
    obtain ⟨p3, c3, rfl, HL3, hwc⟩ := hcut
    rw [hwc]
    clear hwc
    have h300 : (L.take 300).length ≤ 300 := by rw [List.length_take]; omega
    clear HL HN hc hnb
    generalize L.take 300 = A at *
    obtain ⟨n3, hn3⟩ : ∃ n3, n3 = A.length := ⟨_, rfl⟩
    rw [← hn3] at HL3 h300
    rw [← hn3]
    have HN := hid hn3
    have hf1 := fill_any false w HL3.out (by rw [← hn3]; exact h300)
    rw [← hn3] at hf1
    clear hn3
    go_wp2_with fail
    refine hf1.mono ?_
    rintro e wa ⟨sa, rfl, hMa⟩
    have HMa := hMa
    have HLa : Hid (Ls EC wa (.slice p3 n3 c3) A) := HL3.out.kept HMa.out.2.size fun g hg => HMa.out.2.block g (HL3.out.blk g hg)
    have hf2 := fill_any true wa HLa.out (by rw [← HN.out]; exact h300)
    rw [← HN.out] at hf2
    clear hf1 hMa
    go_wp2_with fail
    refine hf2.mono ?_
    rintro e wb ⟨sb, rfl, HMb⟩
    clear hf2
    obtain ⟨Sa, hSa⟩ : ∃ Sa : Nat → Prop, Sa = fun k => w.heap.size ≤ k ∧ k < wa.heap.size := ⟨_, rfl⟩
    obtain ⟨Sb, hSb⟩ : ∃ Sb : Nat → Prop, Sb = fun k => wa.heap.size ≤ k ∧ k < wb.heap.size := ⟨_, rfl⟩
    have HT : Hid (Two w Sa Sb wb.heap.size 900 sa sb A A.reverse wb) := by
      rw [hSa, hSb]
      refine ⟨(HMa.out.1.cut.below HMb.out.2).mono (by omega), (HMb.out.1.cut).mono (by omega), HMa.out.2.trans (HMb.out.2.mono HMa.out.2.size), fun k h1 h2 => ?_, fun k h => ?_, fun k h => ?_, Nat.le_refl _⟩
      · have := h1.2; have := h2.1; omega
      · rcases h with h | h
        · exact h.1
        · exact Nat.le_trans HMa.out.2.size h.1
      · rcases h with h | h
        · exact Nat.lt_of_lt_of_le h.2 HMb.out.2.size
        · exact h.2
    have HPm : Hid (A.Perm A.reverse) := (List.reverse_perm A).symm
    clear hSa hSb HMa HMb HLa
    have hkn := known_any wb
    go_wp2_with fail
    refine hkn.mono ?_
    rintro e w1 ⟨rfl, hb1⟩
    have HT1 := hid (HT.out.below hb1)
    have ht1 := times_any w1 HT1.out.a (by decide)
    clear hkn hb1 HT
    go_wp2_with fail
    refine ht1.mono ?_
    rintro e w2 ⟨v2, rfl, hr2, hb2, hl2⟩
    have HT2 := hid (HT1.out.below hb2)
    have hls2 := owns_lst hr2
    have HK : Hid ((tms A).length ≤ 900) := hl2
    obtain ⟨p2, c2, hv2⟩ := hls2.form
    subst hv2
    obtain ⟨nk, hnk⟩ : ∃ nk, nk = (tms A).length := ⟨_, rfl⟩
    rw [← hnk] at hls2
    rw [← hnk]
    have HNK := hid hnk
    have HLS2 := hid hls2
    have ht2 := times_any w2 HT2.out.b (by decide)
    rw [← tms_perm HPm.out] at ht2
    clear ht1 hr2 hl2 hb2 hnk hls2
    go_wp2_with fail
    refine ht2.mono ?_
    rintro e w3 ⟨v3, rfl, hr3, hb3, -⟩
    have HT3 := hid (HT2.out.below hb3)
    have hls3 := owns_lst hr3
    obtain ⟨pp3, cc3, hv3⟩ := hls3.form
    subst hv3
    have heq3 := times_eq w3 (HLS2.out.below hb3) (by rw [← HNK.out] at hls3; exact hls3) (by have := HK.out; omega)
    rw [← HNK.out]
    clear ht2 hr3 hls3 hb3
    go_wp2_with fail
    refine heq3.mono ?_
    rintro e w4 ⟨rfl, hg4⟩
    have HT4 := hid (HT3.out.below hg4.below)
    have hr4 := ready_any (.slice none 0 0) [] w4 HT4.out.a (by decide) (Ls.nil _) (Nat.zero_le _)
    rw [rdy_nil] at hr4
    clear heq3 hg4 HT1 HT2 HT3 HLS2
    go_wp2_with fail
    refine hr4.mono ?_
    rintro e w5 ⟨v5, rfl, hr5, hb5, -⟩
    have HT5 := hid (HT4.out.below hb5)
    have hls5 := owns_lst hr5
    obtain ⟨p5, c5, hv5⟩ := hls5.form
    subst hv5
    rw [← HNK.out] at hls5
    rw [← HNK.out]
    have HLS5 := hid hls5
    have ht5 := times_any w5 HT5.out.a (by decide)
    clear hr4 hr5 hb5 hls5
    go_wp2_with fail
    refine ht5.mono ?_
    rintro e w6 ⟨v6, rfl, hr6, hb6, -⟩
    have HT6 := hid (HT5.out.below hb6)
    have hls6 := owns_lst hr6
    obtain ⟨p6, c6, hv6⟩ := hls6.form
    subst hv6
    rw [← HNK.out] at hls6
    rw [← HNK.out]
    have heq6 := times_eq w6 (HLS5.out.below hb6) hls6 (by have := HK.out; omega)
    clear ht5 hr6 hls6 hb6
    go_wp2_with fail
    refine heq6.mono ?_
    rintro e w7 ⟨rfl, hg7⟩
    have HT7 := hid (HT6.out.below hg7.below)
    have ht7 := times_any w7 HT7.out.a (by decide)
    clear heq6 hg7 HT4 HT5 HT6 HLS5
    go_wp2_with fail
    refine ht7.mono ?_
    rintro e w8 ⟨v8, rfl, hr8, hb8, -⟩
    have HT8 := hid (HT7.out.below hb8)
    have hls8 := owns_lst hr8
    obtain ⟨p8, c8, hv8⟩ := hls8.form
    subst hv8
    have HLS8 := hid hls8
    clear ht7 hr8 hls8 hb8 HT7
    go_upto_block 0 with fail
    go_cut [4] (fun _ w' => Hid (Two w Sa Sb wb.heap.size 900 sa sb A A.reverse w'))
    case first =>
      go_wp2_with fail
      go_loopw [7, 8, 9, 58] (fun s7 _ _ s58 wr => ∃ (i : Nat) (p7 : Option Addr) (c7 : Nat), i ≤ m ∧ i ≤ 20 ∧ s58 = .int .i64 (i : Nat) ∧ s7 = .slice p7 (rdy A (F.take i)).length c7 ∧ Hid (Two w Sa Sb wb.heap.size 900 sa sb A A.reverse wr ∧ Ls ET wr (.slice p7 (rdy A (F.take i)).length c7) (rdy A (F.take i)) ∧ (rdy A (F.take i)).length ≤ 900)) (fun _ _ _ s58 _ => m - (RowKit.intOf s58).toNat)
      case atStart => exact ⟨0, p8, c8, Nat.zero_le _, Nat.zero_le _, rfl, by rw [List.take_zero, rdy_nil], HT8.out, by rw [List.take_zero, rdy_nil]; exact HLS8.out, by rw [List.take_zero, rdy_nil]; exact HK.out⟩
      case round =>
        obtain ⟨i, p7, c7, him, hi20, rfl, rfl, HI⟩ := hrel
        by_cases hlt : i < m
        · have hz : (i : Int) < (m : Int) := by omega
          by_cases h20 : i = 20
          · have hb20 : ((i : Int) == 20) = true := by simp [h20]
            go_wp2_with fail
            go_meet
            exact HI.out.1
          · have hb20 : ((i : Int) == 20) = false := by
              rw [beq_eq_false_iff_ne]
              omega
            obtain ⟨x, hx⟩ : ∃ x, F[i]? = some x := ⟨F[i]'(by have := HMm.out; omega), by simp⟩
            have HX : Hid (F.take (i + 1) = F.take i ++ [x]) := (take_snoc hx).symm
            have hFr : Ls ET wr (.slice q m d) F := HF.out.kept HI.out.1.bl.size fun g hg => HI.out.1.bl.block g (HF.out.blk g hg)
            obtain ⟨b0, o0, hq⟩ : ∃ b o, q = some ⟨b, o, none⟩ := by
              rcases hFr with ⟨h1, h2⟩ | ⟨b, o, c', h1, _⟩
              · cases h2; omega
              · cases h1; exact ⟨b, o, rfl⟩
            subst hq
            have hcut := hFr.cut (k := i + 1) (by have := HMm.out; omega) d
            have hrd := ready_any _ (F.take (i + 1)) wr HI.out.1.a (by decide) hcut (by rw [List.length_take]; unfold maxLen; have := HMm.out; omega)
            have hi1 : ((i : Int) + 1) ≤ (d : Int) := by omega
            have hd0 : ¬ d = 0 := by omega
            clear hx hFr hcut
            go_wp2_with fail
            refine hrd.mono ?_
            rintro e u1 ⟨v9, rfl, hr9, hb9, hl9⟩
            have hls9 := owns_lst hr9
            obtain ⟨p9, c9, hv9⟩ := hls9.form
            subst hv9
            have HT9 := hid (HI.out.1.below hb9)
            have HLS9 := hid hls9
            have HL9 := hid hl9
            have hwi := within_any u1 hls9 (HI.out.2.1.below hb9) (by omega) (by have := HI.out.2.2; omega) (by rw [HX.out]; exact rdy_sub A (F.take i) x)
            clear hrd hr9 hb9 hls9 hl9
            go_wp2_with fail
            refine hwi.mono ?_
            rintro e u2 ⟨rfl, hg2⟩
            have HT10 := hid (HT9.out.below hg2.below)
            have HLS10 := hid (HLS9.out.below hg2.below)
            clear hwi hg2 HT9 HLS9
            go_wp2_with fail
            go_roundw
            case rel => exact ⟨i + 1, p9, c9, by omega, by omega, by simp, rfl, HT10.out, HLS10.out, HL9.out⟩
            case measure => simp [RowKit.intOf]; omega
        · have hz : ¬ (i : Int) < (m : Int) := by omega
          go_wp2_with fail
          go_meet
          exact HI.out.1
    case rest =>
      have HT9 := hcut
      obtain ⟨w9, hw9⟩ : ∃ w9, w9 = wc := ⟨_, rfl⟩
      rw [← hw9] at HT9
      rw [← hw9]
      clear hw9 hcut
      have ht9 := times_any w9 HT9.out.a (by decide)
      go_wp2_with fail
      refine ht9.mono ?_
      rintro e w10 ⟨v10, rfl, hr10, hb10, -⟩
      have hls10 := owns_lst hr10
      have HFr : Hid (Free Sa Sb v10) := HT9.out.free hr10
      obtain ⟨p10, c10, hv10⟩ := hls10.form
      subst hv10
      rw [← HNK.out] at hls10 HFr
      rw [← HNK.out]
      have HT10 := hid (HT9.out.below hb10)
      have HLS10 := hid hls10
      clear ht9 hr10 hb10 hls10 HT9 HT8 HLS8
      have hnkb : nk ≤ 900 := by have := HK.out; have := HNK.out; omega
      go_wp2_with fail
      go_loopw [11, 12, 13, 14, 15, 16, 18, 78] (fun _ _ _ _ _ _ _ s78 wr => ∃ j : Nat, j ≤ nk ∧ s78 = .int .i64 (j : Nat) ∧ Hid (Two w Sa Sb wb.heap.size 900 sa sb (lfs A ((tms A).take j)) (lfs A.reverse ((tms A).take j)) wr ∧ Ls ET wr (.slice p10 nk c10) (tms A))) (fun _ _ _ _ _ _ _ s78 _ => nk - (RowKit.intOf s78).toNat)
      case atStart => exact ⟨0, Nat.zero_le _, rfl, HT10.out, HLS10.out⟩
      case round =>
        obtain ⟨j, hj, rfl, HI⟩ := hrel
        by_cases hlt : j < nk
        · have hz : (j : Int) < (nk : Int) := by omega
          have hj0 : (0 : Int) ≤ (j : Int) := by omega
          obtain ⟨t, ht⟩ : ∃ t, (tms A)[j]? = some t := ⟨(tms A)[j]'(by have := HNK.out; omega), by simp⟩
          obtain ⟨b1, o1, c1, e1, l1, x0, x1, x2⟩ := HI.out.2.at3 ht
          simp only [Value.slice.injEq] at e1
          obtain ⟨rfl, -, rfl⟩ := e1
          have HNt : Hid (t ∉ (tms A).take j) := not_take (tms_nodup A) ht
          have HTt : Hid ((tms A).take (j + 1) = (tms A).take j ++ [t]) := (take_snoc ht).symm
          have HHl : Hid (Hld A t) := (mem_tms A t).1 (List.mem_of_getElem? ht)
          obtain ⟨W2, hW2⟩ : ∃ W2, W2 = wr.alloc (.cells #[.int .u64 t.1.1, .int .u64 t.1.2.1, .int .u64 t.1.2.2] 32) := ⟨_, rfl⟩
          obtain ⟨b2, hb2⟩ : ∃ b2, b2 = wr.heap.size := ⟨_, rfl⟩
          have G2 : Gr wr W2 := by rw [hW2]; exact (Gr.refl _).alloc _
          have HX2 : Hid (W2.heap[b2]? = some (.cells #[.int .u64 t.1.1, .int .u64 t.1.2.1, .int .u64 t.1.2.2] 32 (0, 0))) := by rw [hW2, hb2]; exact heap_new' _ _
          have HNb : Hid (¬ Sa b2 ∧ ¬ Sb b2) := HI.out.1.new (by omega)
          have HT2 := hid (HI.out.1.below G2.below)
          have HLS2 := hid (HI.out.2.below G2.below)
          have hta := tell_any t W2 HT2.out.a (by decide)
          obtain ⟨k0, k1, k2, k3⟩ := bx_cell HX2.out
          clear ht HI G2
          go_upto_region 20 with fail
          rw [← hW2, ← hb2]
          clear hW2 hb2 x0 x1 x2 l1
          go_wp2_with fail
          refine hta.mono ?_
          rintro e w3 ⟨v3, rfl, hTd⟩
          obtain ⟨HT3, hk3⟩ := HT2.out.tellA hTd.out
          have HT3 := hid HT3
          have hr3 := hTd.out.1
          rw [rcs_lfs HNt.out] at hr3
          have HF3 : Hid (Free Sa Sb v3) := HT2.out.free hr3
          have hls3 := owns_ls (E := ER) hr3
          have HX3 : Hid (w3.heap[b2]? = some (.cells #[.int .u64 t.1.1, .int .u64 t.1.2.1, .int .u64 t.1.2.2] 32 (0, 0))) := (hk3.block b2 k3 HNb.out.1).trans HX2.out
          have HLS3 := hid (Free.a HLS2.out HFr.out hk3)
          have HNx : Hid ((rcs A t).length ≤ 900) := by
            have := HT2.out.a.len t
            rw [rcs_lfs HNt.out] at this
            exact this
          obtain ⟨p3x, c3x, hv3⟩ := hls3.form
          subst hv3
          obtain ⟨nx, hnx⟩ : ∃ nx, nx = (rcs A t).length := ⟨_, rfl⟩
          rw [← hnx] at hls3 HF3 HNx
          rw [← hnx]
          have HX := hid hls3
          have HNX := hid hnx
          have hnxb : nx ≤ 900 := HNx.out
          have hnx0 : ((nx : Int) == 0) = false := by
            rw [beq_eq_false_iff_ne]
            have h1 := rcs_some HHl.out
            have h2 := List.length_pos_iff.2 h1
            omega
          have htb := tell_any t w3 HT3.out.b (by decide)
          clear k0 k1 k2 k3 hta hTd hk3 hr3 hls3 HT2 HX2 HLS2 hnx
          obtain ⟨k0, k1, k2, k3⟩ := bx_cell HX3.out
          go_wp2_with fail
          refine htb.mono ?_
          rintro e w4 ⟨v4, rfl, hTd⟩
          obtain ⟨HT4, hk4⟩ := HT3.out.tellB hTd.out
          have HT4 := hid HT4
          have hr4 := hTd.out.1
          rw [rcs_lfs HNt.out, ← rcs_perm HPm.out] at hr4
          have hls4 := owns_ls (E := ER) hr4
          have HX4 : Hid (w4.heap[b2]? = some (.cells #[.int .u64 t.1.1, .int .u64 t.1.2.1, .int .u64 t.1.2.2] 32 (0, 0))) := (hk4.block b2 k3 HNb.out.2).trans HX3.out
          have HLS4 := hid (Free.b HLS3.out HFr.out hk4)
          have HXx := hid (Free.b HX.out HF3.out hk4)
          obtain ⟨p4x, c4x, hv4⟩ := hls4.form
          subst hv4
          rw [← HNX.out] at hls4
          rw [← HNX.out]
          have hre := records_eq w4 HXx.out hls4 (by rw [← HNX.out]; have := HNx.out; omega)
          clear k0 k1 k2 k3 htb hTd hk4 hr4 hls4 HT3 HX3 HLS3 HX
          go_wp2_with fail
          refine hre.mono ?_
          rintro e w5 ⟨rfl, hg5⟩
          have HT5 : Hid (Two w Sa Sb wb.heap.size 900 sa sb (lfs A ((tms A).take (j + 1))) (lfs A.reverse ((tms A).take (j + 1))) w5) := by
            have h := HT4.out.below hg5.below
            rw [← lfs_snoc, ← lfs_snoc, ← HTt.out] at h
            exact h
          have HX5 : Hid (w5.heap[b2]? = some (.cells #[.int .u64 t.1.1, .int .u64 t.1.2.1, .int .u64 t.1.2.2] 32 (0, 0))) := (hg5.below.block b2 (Array.getElem?_eq_some_iff.1 HX4.out).1).trans HX4.out
          have HLS5 := hid (HLS4.out.below hg5.below)
          have HXy := hid (HXx.out.below hg5.below)
          have HL5 : Hid (Ls EC w5 (.slice p3 n3 c3) A) := HL3.out.kept HT5.out.bl.size fun g hg => HT5.out.bl.block g (HL3.out.blk g hg)
          clear hre hg5 HT4 HX4 HLS4 HXx
          go_wp2_with fail
          have heqt : ∀ (x y : Tm) (W : World), Sem.run Try.prog (Op.equalIn 10000 32 (tv x) (tv y)) W = .ok (decide (x = y)) W := fun x y W => by
            rw [← teq_dec]
            exact run_eqT _ _ _ _ _ _ W
          have HEQ := hid heqt
          clear heqt
          go_loopw [14, 15, 16, 18, 99] (fun _ _ _ _ s99 wr3 => ∃ i : Nat, i ≤ nx ∧ s99 = .int .i64 (i : Nat) ∧ Hid (Gr w5 wr3)) (fun _ _ _ _ s99 _ => nx - (RowKit.intOf s99).toNat)
          case atStart => exact ⟨0, Nat.zero_le _, rfl, Gr.refl _⟩
          case round =>
            obtain ⟨i, hi, rfl, HG⟩ := hrel
            by_cases hil : i < nx
            · have hiz : (i : Int) < (nx : Int) := by omega
              have hi0 : (0 : Int) ≤ (i : Int) := by omega
              obtain ⟨r, hr⟩ : ∃ r, (rcs A t)[i]? = some r := ⟨(rcs A t)[i]'(by have := HNX.out; omega), by simp⟩
              obtain ⟨bx, ox, cx, ex, lx, y0, y1⟩ := (HXy.out.below HG.out.below).atR hr
              simp only [Value.slice.injEq] at ex
              obtain ⟨rfl, -, rfl⟩ := ex
              have HR := hid hr
              obtain ⟨W6, hW6⟩ : ∃ W6, W6 = wr.alloc (.cells #[.int .u64 r.1.1, .int .u64 r.2.1] 37) := ⟨_, rfl⟩
              obtain ⟨b6, hb6⟩ : ∃ b6, b6 = wr.heap.size := ⟨_, rfl⟩
              have G6 : Gr wr W6 := by rw [hW6]; exact (Gr.refl _).alloc _
              have HX6 : Hid (W6.heap[b6]? = some (.cells #[.int .u64 r.1.1, .int .u64 r.2.1] 37 (0, 0))) := by rw [hW6, hb6]; exact heap_new' _ _
              have HG6 : Hid (Gr w5 W6) := HG.out.trans G6
              clear hr G6
              go_upto_region 27 with fail
              rw [← hW6, ← hb6]
              clear hW6 hb6 y0 y1 lx
              go_wp2_with fail
              go_loopw [16, 18, 106] (fun s16 _ s106 wr4 => ∃ q4 : Nat, q4 ≤ n3 ∧ s106 = .int .i64 (q4 : Nat) ∧ s16 = .int .u64 (sm (A.take q4) (t, r.1)).1 ∧ Hid (Gr W6 wr4)) (fun _ _ s106 _ => n3 - (RowKit.intOf s106).toNat)
              case atStart => exact ⟨0, Nat.zero_le _, rfl, rfl, Gr.refl _⟩
              case round =>
                obtain ⟨q4, hq4, rfl, rfl, HG4⟩ := hrel
                by_cases hql : q4 < n3
                · have hqz : (q4 : Int) < (n3 : Int) := by omega
                  have hq0 : (0 : Int) ≤ (q4 : Int) := by omega
                  obtain ⟨g, hg⟩ : ∃ g, A[q4]? = some g := ⟨A[q4]'(by have := HN.out; omega), by simp⟩
                  obtain ⟨bg, og, cg, eg, lg, y0, y1, y2, y3, y4⟩ := (HL5.out.below (HG6.out.trans HG4.out).below).atC hg
                  simp only [Value.slice.injEq] at eg
                  obtain ⟨rfl, -, rfl⟩ := eg
                  obtain ⟨W7, hW7⟩ : ∃ W7, W7 = wr.alloc (.cells #[.int .u64 g.1.1.1, .int .u64 g.1.1.2.1, .int .u64 g.1.1.2.2, .int .u64 g.2.1.1, .int .u64 g.2.2.1] 39) := ⟨_, rfl⟩
                  obtain ⟨b7, hb7⟩ : ∃ b7, b7 = wr.heap.size := ⟨_, rfl⟩
                  have G7 : Gr wr W7 := by rw [hW7]; exact (Gr.refl _).alloc _
                  have hX7 : W7.heap[b7]? = some (.cells #[.int .u64 g.1.1.1, .int .u64 g.1.1.2.1, .int .u64 g.1.1.2.2, .int .u64 g.2.1.1, .int .u64 g.2.2.1] 39 (0, 0)) := by rw [hW7, hb7]; exact heap_new' _ _
                  have G67 := HG4.out.trans G7
                  obtain ⟨m0, m1, m2, m3, m4, m5⟩ := cg_cell hX7
                  obtain ⟨u0, u1, u2⟩ := rc_cell ((G67.below.block b6 (Array.getElem?_eq_some_iff.1 HX6.out).1).trans HX6.out)
                  obtain ⟨k0, k1, k2, k3⟩ := bx_cell (((HG6.out.trans G67).below.block b2 (Array.getElem?_eq_some_iff.1 HX5.out).1).trans HX5.out)
                  have HSM := hid (sm_take hg (t, r.1))
                  have HG7 : Hid (Gr W6 W7) := G67
                  have heq2 := HEQ.out g.1 t
                  clear hg hX7 G7 G67
                  by_cases h1 : g.1 = t
                  · by_cases h2 : g.2.1.1 = r.1.1
                    · have hb2' : ((g.2.1.1 : Int) == r.1.1) = true := by simp [h2]
                      have HS2 : Hid (sm (A.take (q4 + 1)) (t, r.1) = addU (sm (A.take q4) (t, r.1)) g.2.2) := by
                        show _ = _
                        rw [HSM.out, if_pos ⟨h1, Subtype.ext h2⟩]
                      rw [decide_eq_true h1] at heq2
                      clear h1 h2
                      go_upto_region 31 with fail
                      rw [← hW7, ← hb7]
                      clear hW7 hb7 y0 y1 y2 y3 y4 lg
                      go_wp2_with fail
                      go_roundw
                      case rel => exact ⟨q4 + 1, by omega, by simp, by rw [HS2.out]; rfl, HG7.out⟩
                      case measure => simp [RowKit.intOf]; omega
                    · have hb2' : ((g.2.1.1 : Int) == r.1.1) = false := by simp [h2]
                      have HS2 : Hid (sm (A.take (q4 + 1)) (t, r.1) = sm (A.take q4) (t, r.1)) := by
                        show _ = _
                        rw [HSM.out, if_neg fun h => h2 (congrArg Subtype.val h.2)]
                      rw [decide_eq_true h1] at heq2
                      clear h1 h2
                      go_upto_region 31 with fail
                      rw [← hW7, ← hb7]
                      clear hW7 hb7 y0 y1 y2 y3 y4 lg
                      go_wp2_with fail
                      go_roundw
                      case rel => exact ⟨q4 + 1, by omega, by simp, by rw [HS2.out], HG7.out⟩
                      case measure => simp [RowKit.intOf]; omega
                  · have HS2 : Hid (sm (A.take (q4 + 1)) (t, r.1) = sm (A.take q4) (t, r.1)) := by
                      show _ = _
                      rw [HSM.out, if_neg fun h => h1 h.1]
                    rw [decide_eq_false h1] at heq2
                    clear h1
                    go_upto_region 31 with fail
                    rw [← hW7, ← hb7]
                    clear hW7 hb7 y0 y1 y2 y3 y4 lg
                    go_wp2_with fail
                    go_roundw
                    case rel => exact ⟨q4 + 1, by omega, by simp, by rw [HS2.out], HG7.out⟩
                    case measure => simp [RowKit.intOf]; omega
                · have hqz : ¬ (q4 : Int) < (n3 : Int) := by omega
                  have HSE : Hid ((sm (A.take q4) (t, r.1)).1 = r.2.1) := by
                    show _ = _
                    rw [List.take_of_length_le (by have := HN.out; omega), rcs_at HR.out]
                  rw [HSE.out]
                  obtain ⟨u0, u1, u2⟩ := rc_cell ((HG4.out.below.block b6 (Array.getElem?_eq_some_iff.1 HX6.out).1).trans HX6.out)
                  have HGE : Hid (Gr w5 wr) := HG6.out.trans HG4.out
                  by_cases hi1 : 0 < i
                  · have hiz0 : (0 : Int) < (i : Int) := by omega
                    obtain ⟨ii, hii⟩ : ∃ ii, ii = i - 1 := ⟨_, rfl⟩
                    have hiq : (i : Int) - 1 = (ii : Int) := by omega
                    have hi2 : (ii : Int) < (nx : Int) := by omega
                    have hi3 : (0 : Int) ≤ (ii : Int) := by omega
                    obtain ⟨r0, hr0⟩ : ∃ r0, (rcs A t)[ii]? = some r0 := ⟨(rcs A t)[ii]'(by have := HNX.out; omega), by simp⟩
                    obtain ⟨bx2, ox2, cx2, ex2, lx2, y0, y1⟩ := (HXy.out.below HGE.out.below).atR hr0
                    simp only [Value.slice.injEq, Option.some.injEq, Addr.mk.injEq, and_true] at ex2
                    obtain ⟨⟨rfl, rfl⟩, -, rfl⟩ := ex2
                    have hup : ¬ r.1.1 ≤ r0.1.1 := by
                      have := rcs_up hr0 (by rw [show ii + 1 = i by omega]; exact HR.out)
                      omega
                    clear hr0 hii
                    go_upto_region 34 with fail
                    go_quiet (fail)
                    go_wp2_with fail
                    go_roundw
                    case rel => exact ⟨i + 1, by omega, by simp, HGE.out.drewN _⟩
                    case measure => simp [RowKit.intOf]; omega
                  · have hiz0 : ¬ (0 : Int) < (i : Int) := by omega
                    go_upto_region 34 with fail
                    go_quiet (fail)
                    go_wp2_with fail
                    go_roundw
                    case rel => exact ⟨i + 1, by omega, by simp, HGE.out.drewN _⟩
                    case measure => simp [RowKit.intOf]; omega
            · have hiz : ¬ (i : Int) < (nx : Int) := by omega
              go_wp2_with fail
              go_roundw
              case rel => exact ⟨j + 1, by omega, by simp, HT5.out.below HG.out.below, HLS5.out.below HG.out.below⟩
              case measure => simp [RowKit.intOf]; omega
        · have hz : ¬ (j : Int) < (nk : Int) := by omega
          obtain rfl : j = nk := by omega
          have hA0 : lfs A ((tms A).take j) = [] := by rw [HNK.out, List.take_length]; exact lfs_all A
          have hB0 : lfs A.reverse ((tms A).take j) = [] := by
            rw [HNK.out, List.take_length, tms_perm HPm.out]
            exact lfs_all A.reverse
          have HT11 := HI.out.1
          rw [hA0, hB0] at HT11
          have HT11 := hid HT11
          have ht11 := times_any wr HT11.out.a (by decide)
          clear HI hA0 hB0
          go_wp2_with fail
          refine ht11.mono ?_
          rintro e w12 ⟨v12, rfl, hr12, hb12, -⟩
          have HT12 := hid (HT11.out.below hb12)
          obtain ⟨p12, c12, hv12⟩ := (owns_lst hr12).form
          subst hv12
          have ht12 := times_any w12 HT12.out.b (by decide)
          clear ht11 hr12 hb12 HT11
          go_wp2_with fail
          refine ht12.mono ?_
          rintro e w13 ⟨v13, rfl, hr13, hb13, -⟩
          have HT13 := hid (HT12.out.below hb13)
          obtain ⟨p13, c13, hv13⟩ := (owns_lst hr13).form
          subst hv13
          clear ht12 hr13 hb13 HT12
          go_wp2_with fail
          go_ret
          exact ⟨by simp, HT13.out.bl⟩
theorem sumsLikes_all {v u : Value} {L : List Ct} {F : List Tm} (w : World) (hL : Ls EC w v L) (hc : ∀ p n c, v = .slice p n c → n ≤ c) (hz : L.length * 40 ≤ 140737488351232) (hF : Ls ET w u F) (hd : ∀ p n c, u = .slice p n c → n ≤ c) (hz2 : F.length * 24 ≤ 140737488351232) :
    Calls Try.prog 3 #[v, u] w fun e w' => e = .returned (.bool true) ∧ Below w.heap.size w w' := by
  obtain ⟨p, c, rfl⟩ := hL.form
  obtain ⟨q, d, rfl⟩ := hF.form
  exact sumsLikes_any w hL rfl (hc _ _ _ rfl) hF rfl (hd _ _ _ rfl) (by omega) (by omega)
end Go.Proofs.Ytijbmchgajhkeaa
