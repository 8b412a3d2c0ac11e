import Derived.Test.YtgojhhdjpkilmaaVBack0
namespace Go.Proofs.Ytgojhhdjpkilmaa.Wi
open Go.RowKit Go.Sort
attribute [local go_sem ↓] Go.wp_at_zero Go.wp_at_succ

theorem ln_cell {w : World} {b off n c : Nat} {ts : List Nat} (h : Ls EN w (.slice (some ⟨b, off, none⟩) n c) ts) {j x : Nat} (hj : ts[j]? = some x) : w.cell? ⟨b, off + j, none⟩ = some (.int .i64 (x : Nat)) ∧ b < w.heap.size := by
  obtain ⟨b', off', c', e, h1, h2⟩ := ln_at h hj
  simp only [Value.slice.injEq, Option.some.injEq, Addr.mk.injEq, and_true] at e
  obtain ⟨⟨rfl, rfl⟩, _⟩ := e
  exact ⟨h2, h1⟩
theorem cut_lsB {w : World} {p : Option Addr} {c n : Nat} {l : List UInt8} (h : Ls EB w (.slice p l.length c) l) (hn : n ≤ l.length) : Ls EB w (.slice p n c) (l.take n) := by
  rcases h with ⟨rfl, h⟩ | ⟨b, off, c', hv, hb, ht⟩
  · simp only [Value.slice.injEq] at h
    obtain ⟨rfl, -, rfl⟩ := h
    have hn0 : n = 0 := by simpa using hn
    subst hn0
    exact Or.inl ⟨rfl, rfl⟩
  · simp only [Value.slice.injEq, true_and] at hv
    obtain ⟨rfl, rfl⟩ := hv
    have hL : Ls EB w (.slice (some ⟨b, off, none⟩) l.length c) l := Or.inr ⟨b, off, c, rfl, hb, ht⟩
    exact hL.cut hn _
set_option maxHeartbeats 8000000 in
theorem back_any {v : Value} {os : List Opw} (short : Int) (w : World) (hS : ScrAt w v os) (hbig : (os.map (fun o => 10 + o.l.length)).sum ≤ 4194304) (hlen : os.length ≤ 4194304) :
    Calls Try.prog 5 #[v, .int .i64 short] w fun e w' => e = .returned (.bool true) ∧ Below w.heap.size w w' := by
  have hmx : Try.prog.follows .mixedOrders = true := by kernel_rfl
  have HS := hid hS
  obtain ⟨p, c, rfl, hcell⟩ := hS
  have HC := hid hcell
  have AL : Hid ((pre os os.length).length ≤ 4194304) := Nat.le_trans (pre_len (fun i o h => (hcell i o h).1) os.length) hbig
  clear hcell
  go_enter Try.func5, Try.ntmps5
  go_wp2_with fail
  refine (taken_any _).mono ?_
  rintro r w1 ⟨rfl, hb1⟩
  have B1 := hid hb1
  have hpu := puts_any w1 (HS.out.below hb1) hbig hlen
  clear hb1
  go_wp2_with fail
  refine hpu.mono ?_
  rintro r w2 ⟨d, ve, rfl, hd, hve, hb2⟩
  have B2 : Hid (Below w.heap.size w w2) := B1.out.trans (hb2.mono B1.out.size)
  have D2 := hid hd
  have E2 := hid hve
  obtain ⟨pd, cd, rfl⟩ := (ow_ls hd).form
  obtain ⟨pe, ce, he⟩ := hve.form
  rw [endl_len] at he
  subst he
  have hcd := (owns_cap hd).1
  have hnr := newreader_any w2 (ow_ls hd) (by have := AL.out; omega)
  clear hpu hd hve hb2 B1
  go_wp2_with fail
  refine hnr.mono ?_
  rintro r w3 ⟨rb, dr, rfl, hge, hR, hdr, hb3⟩
  have I3 : Hid (BackI w w3 rb dr (.slice pd (pre os os.length).length cd) (.slice pe os.length ce) (pre os os.length) (pre os os.length) os (pre os 0).length 0) := by
    refine ⟨hR, (ow_ls D2.out).below hb3, E2.out.below hb3, fun e => ?_, fun e => ?_, Nat.le_trans B2.out.size hge, B2.out.trans (hb3.mono B2.out.size)⟩
    · have := (ow_ls D2.out).blk rb e; omega
    · have := E2.out.blk rb e; omega
  clear hnr hge hR hdr hb3 B2 D2 E2
  generalize hA : pre os os.length = A at I3 AL hcd
  have HA := hid hA
  clear hA
  go_wp2_with fail
  go_loopw [8] (fun s8 wr => ∃ (i : Nat), i ≤ os.length ∧ s8 = .int .i64 i ∧ Hid (BackI w wr rb dr (.slice pd A.length cd) (.slice pe os.length ce) A A os (pre os i).length 0)) (fun s8 _ => os.length - (RowKit.intOf s8).toNat)
  case atStart => exact ⟨0, Nat.zero_le _, rfl, I3.out⟩
  case round =>
    clear I3
    obtain ⟨i, hi, rfl, HI⟩ := hrel
    by_cases hlt : i < os.length
    · have hltz : (i : Int) < (os.length : Int) := by omega
      obtain ⟨o, ho⟩ : ∃ o, os[i]? = some o := ⟨os[i], by rw [List.getElem?_eq_getElem]⟩
      obtain ⟨hok, b, off, rfl, hb, c0, c1, c2, c3, c4⟩ := HC.out i o ho
      have e : ∀ j, wr.cell? ⟨b, j, none⟩ = w.cell? ⟨b, j, none⟩ := fun j => HI.out.bl.cell (p := ⟨b, j, none⟩) hb
      rw [← e] at c0 c1 c2 c3 c4
      have hb' : b < wr.heap.size := Nat.lt_of_lt_of_le hb HI.out.bl.size
      have htk : Takes o (A.drop (pre os i).length) true := by rw [← HA.out]; exact takes_full ho
      have hgo0 := fun W hg => HI.out.got hok htk W hg
      have hat : (pre os i).length + tkN o true = (pre os (i + 1)).length := by rw [pre_succ ho, List.length_append]; rfl
      rw [hat] at hgo0
      have hgo : ∀ W, Gr wr W → Calls Try.prog 22 #[.pointer (some ⟨rb, 0, none⟩), ov o] W fun r w' => r = .returned (.bool true) ∧ Hid (BackI w w' rb dr (.slice pd A.length cd) (.slice pe os.length ce) A A os (pre os (i + 1)).length 0) := fun W hg => by
        refine (hgo0 W hg).mono ?_
        rintro r w' ⟨b, rfl, h1, h2⟩
        rw [h1 rfl]
        exact ⟨rfl, h2⟩
      have hen := endl_get os hlt
      obtain ⟨be, oe, ce', ee, ze, xe⟩ := ln_at HI.out.le hen
      simp only [endl_len, Value.slice.injEq, true_and] at ee
      obtain ⟨rfl, rfl⟩ := ee
      have HEN := hid hen
      clear e hok ho htk hat HI hen ze xe hgo0
      go_wp2_with fail
      go_region_with (first | (go_at_call 22; refine (hgo _ (Gr.refl wr).drew).mono ?_; rintro r w5 ⟨rfl, H5⟩; obtain ⟨xe, ze⟩ := ln_cell H5.out.le HEN.out; have her := rerr_any w5 H5.out.rd; have hra := rat_any w5 H5.out.rd) | (go_at_call 15; refine her.mono ?_; rintro r w6 ⟨rfl, rfl⟩) | (go_at_call 16; refine hra.mono ?_; rintro r w7 ⟨rfl, rfl⟩))
      all_goals (
        go_wp2_with fail
        go_roundw
        case rel => exact ⟨i + 1, by omega, by go_num, H5.out⟩
        case measure => simp [RowKit.intOf]; omega)
    · have hltz : ¬ (i : Int) < (os.length : Int) := by omega
      have hie : i = os.length := by omega
      subst hie
      have hen := rend_any wr HI.out.rd
      rw [show re1 0 (A.drop (pre os os.length).length) = 0 by rw [HA.out, List.drop_length]; rfl] at hen
      go_wp2_with fail
      refine hen.mono ?_
      rintro r w4 ⟨rfl, h4, k4⟩
      have I4 := hid (HI.out.kp h4 k4)
      have her := rerr_any w4 h4
      clear h4 k4 HI hen
      go_wp2_with fail
      refine her.mono ?_
      rintro r w4 ⟨rfl, rfl⟩
      clear her
      by_cases hsh : short < 0 ∨ (A.length : Int) ≤ short
      · by_cases hs1 : short < 0
        · go_wp2_with fail
          go_ret
          exact ⟨rfl, I4.out.bl⟩
        · have hs2 : (A.length : Int) ≤ short := by omega
          go_wp2_with fail
          go_ret
          exact ⟨rfl, I4.out.bl⟩
      · have hs1 : ¬ short < 0 := by omega
        have hs2 : ¬ (A.length : Int) ≤ short := by omega
        obtain ⟨sh, rfl⟩ : ∃ sh : Nat, short = (sh : Int) := ⟨short.toNat, by omega⟩
        have hshl : sh < A.length := by omega
        have hz1 : (sh : Int) ≤ (cd : Int) := by omega
        have hz2 : sh ≤ cd := by omega
        have hnr := newreader_any w4 (cut_lsB I4.out.ld (Nat.le_of_lt hshl)) (by rw [List.length_take]; have := AL.out; omega)
        go_wp2_with fail
        refine hnr.mono ?_
        rintro r w5 ⟨pb, dp, rfl, hge, hR, hdr, hb5⟩
        have I5 : Hid (BackI w w5 pb dp (.slice pd A.length cd) (.slice pe os.length ce) A (A.take sh) os (pre os 0).length 0) := by
          refine ⟨hR, I4.out.ld.below hb5, I4.out.le.below hb5, fun e => ?_, fun e => ?_, Nat.le_trans I4.out.bl.size hge, I4.out.bl.trans (hb5.mono I4.out.bl.size)⟩
          · have := I4.out.ld.blk pb e; omega
          · have := I4.out.le.blk pb e; omega
        clear hnr hge hR hdr hb5 I4 hsh hs1 hs2
        go_wp2_with fail
        go_loopw [10] (fun s10 wr => ∃ (j : Nat), j ≤ os.length ∧ s10 = .int .i64 j ∧ Hid ((pre os j).length ≤ sh ∧ BackI w wr pb dp (.slice pd A.length cd) (.slice pe os.length ce) A (A.take sh) os (pre os j).length 0)) (fun s10 _ => os.length - (RowKit.intOf s10).toNat)
        case atStart => exact ⟨0, Nat.zero_le _, rfl, by simp [pre], I5.out⟩
        case round =>
          clear I5
          obtain ⟨j, hj, rfl, HJ⟩ := hrel
          have hjn : j < os.length := by
            by_cases h : j < os.length
            · exact h
            · have h2 : j = os.length := by omega
              have h3 := HJ.out.1
              rw [h2, HA.out] at h3
              omega
          have hjz : (j : Int) < (os.length : Int) := by omega
          obtain ⟨o, ho⟩ : ∃ o, os[j]? = some o := ⟨os[j], by rw [List.getElem?_eq_getElem]⟩
          have hen := endl_get os hjn
          obtain ⟨be, oe, ce', ee, ze, xe⟩ := ln_at HJ.out.2.le hen
          simp only [endl_len, Value.slice.injEq, true_and] at ee
          obtain ⟨rfl, rfl⟩ := ee
          by_cases hle : (pre os (j + 1)).length ≤ sh
          · have hlz : ((pre os (j + 1)).length : Int) ≤ (sh : Int) := by omega
            obtain ⟨hok, b, off, rfl, hb, c0, c1, c2, c3, c4⟩ := HC.out j o ho
            have e : ∀ k, wr.cell? ⟨b, k, none⟩ = w.cell? ⟨b, k, none⟩ := fun k => HJ.out.2.bl.cell (p := ⟨b, k, none⟩) hb
            rw [← e] at c0 c1 c2 c3 c4
            have hb' : b < wr.heap.size := Nat.lt_of_lt_of_le hb HJ.out.2.bl.size
            have htk : Takes o ((A.take sh).drop (pre os j).length) true := by rw [← HA.out]; exact takes_cut ho hle
            have hgo0 := fun W hg => HJ.out.2.got hok htk W hg
            have hat : (pre os j).length + tkN o true = (pre os (j + 1)).length := by rw [pre_succ ho, List.length_append]; rfl
            rw [hat] at hgo0
            have hgo : ∀ W, Gr wr W → Calls Try.prog 22 #[.pointer (some ⟨pb, 0, none⟩), ov o] W fun r w' => r = .returned (.bool true) ∧ Hid (BackI w w' pb dp (.slice pd A.length cd) (.slice (some ⟨be, oe, none⟩) os.length ce) A (A.take sh) os (pre os (j + 1)).length 0) := fun W hg => by
              refine (hgo0 W hg).mono ?_
              rintro r w' ⟨b, rfl, h1, h2⟩
              rw [h1 rfl]
              exact ⟨rfl, h2⟩
            have HLE := hid hle
            clear e hok ho htk hat HJ hen hle hgo0
            go_wp2_with fail
            refine (hgo _ (Gr.refl _)).mono ?_
            rintro r w6 ⟨rfl, H6⟩
            have her := rerr_any w6 H6.out.rd
            go_wp2_with fail
            refine her.mono ?_
            rintro r w7 ⟨rfl, rfl⟩
            clear her hgo
            go_wp2_with fail
            go_roundw
            case rel => exact ⟨j + 1, by omega, by go_num, HLE.out, H6.out⟩
            case measure => simp [RowKit.intOf]; omega
          · have hlz : ¬ ((pre os (j + 1)).length : Int) ≤ (sh : Int) := by omega
            have HGT := hid hle
            clear hle
            go_wp2_with fail
            clear xe ze hlz
            go_loopw [11] (fun s11 wq => ∃ (i : Nat), i ≤ j ∧ s11 = .int .i64 i ∧ wq = wr) (fun s11 _ => os.length - (RowKit.intOf s11).toNat)
            case atStart => exact ⟨0, Nat.zero_le _, rfl, rfl⟩
            case round =>
              obtain ⟨i, hij, rfl, rfl⟩ := hrel
              have hin : i < os.length := by omega
              have hiz : (i : Int) < (os.length : Int) := by omega
              have hen := endl_get os hin
              obtain ⟨be', oe', ce2, ee, ze, xe⟩ := ln_at HJ.out.2.le hen
              simp only [endl_len, Value.slice.injEq, Option.some.injEq, Addr.mk.injEq, and_true, true_and] at ee
              obtain ⟨⟨rfl, rfl⟩, rfl⟩ := ee
              by_cases hije : i < j
              · have hle : ¬ (sh : Int) < ((pre os (i + 1)).length : Int) := by
                  have h1 := pre_mono os (show i + 1 ≤ j by omega)
                  have h2 := HJ.out.1
                  omega
                clear hen
                go_wp2_with fail
                go_roundw
                case rel => exact ⟨i + 1, by omega, by go_num, trivial⟩
                case measure => simp [RowKit.intOf]; omega
              · have hie : i = j := by omega
                subst hie
                have hle : (sh : Int) < ((pre os (i + 1)).length : Int) := by have := HGT.out; omega
                obtain ⟨hok, b, off, rfl, hb, c0, c1, c2, c3, c4⟩ := HC.out i o ho
                have e : ∀ k, wr.cell? ⟨b, k, none⟩ = w.cell? ⟨b, k, none⟩ := fun k => HJ.out.2.bl.cell (p := ⟨b, k, none⟩) hb
                rw [← e] at c0 c1 c2 c3 c4
                have hb' : b < wr.heap.size := Nat.lt_of_lt_of_le hb HJ.out.2.bl.size
                have htk : Takes o ((A.take sh).drop (pre os i).length) false := by rw [← HA.out]; exact takes_short ho HJ.out.1 (by have := HGT.out; omega)
                have hgo := fun W hg => HJ.out.2.got hok htk W hg
                clear e hok ho htk HJ hen
                go_wp2_with fail
                refine (hgo _ (Gr.refl _)).mono ?_
                rintro r w6 ⟨bb, rfl, _, h6⟩
                have H6 := hid h6
                have her := rerr_any w6 h6.rd
                clear h6
                go_wp2_with fail
                refine her.mono ?_
                rintro r w7 ⟨rfl, rfl⟩
                go_wp2_with fail
                go_ret
                exact ⟨rfl, H6.out.bl⟩
end Go.Proofs.Ytgojhhdjpkilmaa.Wi
