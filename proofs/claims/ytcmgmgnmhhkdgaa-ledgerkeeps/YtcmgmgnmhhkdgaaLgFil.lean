import Derived.Test.YtcmgmgnmhhkdgaaLgPur
import Derived.Deep.DeepCutAuto
namespace Go.Proofs.Ytcmgmgnmhhkdgaa
open Go.RowKit Go.Sort Go.Maps
open Tt (Tl addc addf byd byd_f)
attribute [local go_sem ↓] Go.wp_at_zero Go.wp_at_succ

/-- A box of a step. -/
abbrev ob (o : Opx) : Array Value := #[.int .i64 o.k, .int .i64 o.i, .int .i64 o.s.1.1, .int .u64 o.s.1.2.1, .int .u64 o.s.1.2.2.1, .int .u64 o.s.1.2.2.2]
theorem ob_cells {w : World} {B : Nat} {o : Opx} {T : TypeId} (h : w.heap[B]? = some (.cells (ob o) T (0, 0))) : w.cell? ⟨B, 0, none⟩ = some (.int .i64 o.k) ∧ w.cell? ⟨B, 1, none⟩ = some (.int .i64 o.i) ∧ w.cell? ⟨B, 2, none⟩ = some (.int .i64 o.s.1.1) ∧ w.cell? ⟨B, 3, none⟩ = some (.int .u64 o.s.1.2.1) ∧ w.cell? ⟨B, 4, none⟩ = some (.int .u64 o.s.1.2.2.1) ∧ w.cell? ⟨B, 5, none⟩ = some (.int .u64 o.s.1.2.2.2) := by
  refine ⟨?_, ?_, ?_, ?_, ?_, ?_⟩ <;> (simp only [World.cell?, h]; rfl)
theorem ord_get (back : Bool) {l : List Opx} {i : Nat} (hi : i < l.length) {o : Opx} (h : l[if back then l.length - 1 - i else i]? = some o) : (ord back l)[i]? = some o := by
  unfold ord
  cases back with
  | false => simpa using h
  | true =>
    simp only [if_true] at h ⊢
    rw [List.getElem?_reverse hi]
    exact h
set_option maxHeartbeats 8000000 in
set_option maxRecDepth 100000 in
theorem filled_any (vs : Value) (sc : List Opx) (back : Bool) (w : World) (hs : Ls EO w vs sc) (hcap : ∀ p n c, vs = .slice p n c → n ≤ c) (hn : sc.length * 48 ≤ 140737488355328) :
    Calls Try.prog 7 #[vs, .bool back] w fun e w' => ∃ lb tb b, e = .returned (lp lb) ∧ (∀ k, Lo lb tb b k → w.heap.size ≤ k) ∧ Lg w' lb tb b (sc.take 300).length (smf (wr (ord back (sc.take 300)))) ∧ Below w.heap.size w w' := by
  have hnw := new_any w
  obtain ⟨ps0, cs0, rfl⟩ := hs.form
  have hc0 : sc.length ≤ cs0 := hcap _ _ _ rfl
  have HS := hid hs
  clear hs hcap
  obtain ⟨l, hl⟩ : ∃ l, l = sc.take 300 := ⟨_, rfl⟩
  have hll : l.length ≤ 300 := by rw [hl, List.length_take]; omega
  rw [← hl]
  go_enter Try.func7, Try.ntmps7
  go_wp2_with fail
  refine hnw.mono ?_
  rintro e w1 ⟨lb, tb, b, rfl, HLo, hlg, hb1⟩
  have HL1 := hid hlg
  have HB1 := hid hb1
  have HLO := hid HLo
  clear hnw hlg hb1 HLo
  go_upto_if 11 with fail
  go_cut [0] (fun s0 w' => ∃ p c, s0 = .slice p l.length c ∧ Hid (Ls EO w (.slice p l.length c) l) ∧ w' = w1)
  case first =>
    by_cases h3 : 300 < sc.length
    · have h3z : (300 : Int) < (sc.length : Int) := by omega
      have hlen : l.length = 300 := by rw [hl, List.length_take]; omega
      have hls := HS.out
      obtain ⟨b1, o1, c1, e1, z1, x0⟩ := hls.atO (j := 0) (t := sc[0]) (by simp)
      simp only [Value.slice.injEq] at e1
      obtain ⟨rfl, -, rfl⟩ := e1
      have hcut := hls.cut (k := 300) (by omega) cs0
      rw [← hl] at hcut
      have HC : Hid (Ls EO w (.slice (some ⟨b1, o1, none⟩) l.length cs0) l) := by rw [hlen]; exact hcut
      clear hls hcut x0
      go_wp2_with fail
      go_meet
      exact ⟨_, cs0, by rw [hlen], HC.out, rfl⟩
    · have h3z : ¬ (300 : Int) < (sc.length : Int) := by omega
      have hle : sc = l := by rw [hl, List.take_of_length_le (by omega)]
      have HC : Hid (Ls EO w (.slice ps0 l.length cs0) l) := by rw [← hle]; exact HS.out
      have HE := hid hle
      clear hle hl
      go_wp2_with fail
      go_meet
      exact ⟨_, _, by rw [HE.out], HC.out, rfl⟩
  case rest =>
    obtain ⟨p, c, rfl, HL, hwc⟩ := hcut
    rw [hwc]
    clear HS hl hc0 hwc
    go_wp2_with fail
    go_loopw [16] (fun s16 wq => ∃ i : Nat, i ≤ l.length ∧ s16 = .int .i64 (i : Nat) ∧ Hid (Lg wq lb tb b i (smf (wr ((ord back l).take i)))) ∧ Hid (Below w.heap.size w wq)) (fun s16 _ => l.length - (RowKit.intOf s16).toNat)
    case atStart => exact ⟨0, Nat.zero_le _, rfl, HL1.out, HB1.out⟩
    case round =>
      clear HL1 HB1
      obtain ⟨i, hi, rfl, HG, HB⟩ := hrel
      by_cases hlt : i < l.length
      · have hltz : (i : Int) < (l.length : Int) := by omega
        have hi0 : (0 : Int) ≤ (i : Int) := by omega
        obtain ⟨⟨k, j, ⟨⟨q, x, y, z⟩, hs1⟩, hkw⟩, ho⟩ : ∃ o, l[i]? = some o := ⟨l[i], by simp⟩
        obtain ⟨b1, o1, c1, e1, z1, x0, x1, x2, x3, x4, x5⟩ := (HL.out.below HB.out).atO ho
        simp only [Value.slice.injEq] at e1
        obtain ⟨rfl, -, rfl⟩ := e1
        simp only at x0 x1 x2 x3 x4 x5
        go_upto_if 23 with fail
        go_cut [7] (fun s7 w' => ∃ o : Opx, s7 = .pointer (some ⟨wr.heap.size, 0, none⟩) ∧ Hid ((ord back l)[i]? = some o) ∧ Hid (w'.heap[wr.heap.size]? = some (.cells (ob o) 38 (0, 0))) ∧ Hid (Below wr.heap.size wr w'))
        case first =>
          cases back with
          | false =>
            have HO := hid (ord_get false hlt (o := ⟨k, j, ⟨⟨q, x, y, z⟩, hs1⟩, hkw⟩) (by simpa using ho))
            clear ho
            go_wp2_with fail
            go_meet
            exact ⟨⟨k, j, ⟨⟨q, x, y, z⟩, hs1⟩, hkw⟩, rfl, HO.out, heap_new' _ _, ((Gr.refl _).alloc _).below⟩
          | true =>
            obtain ⟨m, hm⟩ : ∃ m, m = l.length - 1 - i := ⟨_, rfl⟩
            have hmz : (l.length : Int) - 1 - (i : Int) = (m : Int) := by omega
            have hml : m < l.length := by omega
            have hmlz : (m : Int) < (l.length : Int) := by omega
            have hm0 : (0 : Int) ≤ (m : Int) := by omega
            obtain ⟨⟨k', j', ⟨⟨q', x', y', z'⟩, hs1'⟩, hkw'⟩, ho'⟩ : ∃ o, l[m]? = some o := ⟨l[m], by simp⟩
            obtain ⟨b2, o2, c2, e2, z2, y0, y1, y2, y3, y4, y5⟩ := (HL.out.below HB.out).atO ho'
            simp only [Value.slice.injEq, Option.some.injEq, Addr.mk.injEq, and_true] at e2
            obtain ⟨⟨rfl, rfl⟩, -, rfl⟩ := e2
            simp only at y0 y1 y2 y3 y4 y5
            have HO := hid (ord_get true hlt (o := ⟨k', j', ⟨⟨q', x', y', z'⟩, hs1'⟩, hkw'⟩) (by rw [if_pos rfl, ← hm]; exact ho'))
            clear ho ho' hm
            go_wp2_with fail
            go_meet
            exact ⟨⟨k', j', ⟨⟨q', x', y', z'⟩, hs1'⟩, hkw'⟩, rfl, HO.out, heap_new' _ _, ((Gr.refl _).alloc _).below⟩
        case rest =>
          obtain ⟨o, rfl, HO, HBK, HBL⟩ := hcut
          clear x0 x1 x2 x3 x4 x5 ho z1
          have Lw := HG.out.below HBL.out
          have hz := (Array.getElem?_eq_some_iff.1 HBK.out).1
          obtain ⟨t0, t1, t2, t3, t4, t5⟩ := ob_cells HBK.out
          have hon : Ones (Go.Proofs.Ytcmgmgnmhhkdgaa.wr ((ord back l).take i)) := wr_ones _
          have hln : (Go.Proofs.Ytcmgmgnmhhkdgaa.wr ((ord back l).take i)).length ≤ 2147483000 := by rw [wr_length, List.length_take]; omega
          have hin : i < maxLen := by unfold maxLen; omega
          have hmk := make_any o.s wc Lw hin
          have hus := use_any o.s wc Lw hin
          have HBw := hid (HB.out.trans (HBL.out.mono HB.out.size))
          have HFIN : Hid (∀ W v, (v = 1 ∨ v = -1) → sg o.k = v → Lg W lb tb b (i + 1) (addf (smf (Go.Proofs.Ytcmgmgnmhhkdgaa.wr ((ord back l).take i))) o.s v) → Kp (fun k => k = b) wc W → Hid (Lg W lb tb b (i + 1) (smf (Go.Proofs.Ytcmgmgnmhhkdgaa.wr ((ord back l).take (i + 1))))) ∧ Hid (Below w.heap.size w W)) := fun W v hv hsv hW hk => by
            rw [wr_take_succ HO.out, hsv, ← (add_smf hon hln (x := o.s) hv).2]
            have hb0 := HLO.out b (Or.inr (Or.inr rfl))
            exact ⟨hW, HBw.out.trans (hk.below HBw.out.size (fun k hk => by omega))⟩
          rw [(add_smf hon hln (x := o.s) (Or.inl rfl)).1] at hmk
          rw [(add_smf hon hln (x := o.s) (Or.inr rfl)).1] at hus
          clear hon hln Lw HG HB HL HBK HBL
          by_cases hk : o.k.tmod 2 = 0
          · have hkb : (o.k.tmod 2 == 0) = true := by simp [hk]
            clear hus
            go_wp2_with fail
            refine hmk.mono ?_
            rintro e w5 ⟨rfl, hg5, hk5⟩
            obtain ⟨R1, R2⟩ := HFIN.out w5 1 (Or.inl rfl) (by unfold sg; rw [if_pos hk]) hg5 hk5
            clear hg5 hk5 HFIN
            go_wp2
            go_roundw
            case rel => exact ⟨i + 1, by omega, by go_num, R1.out, R2.out⟩
            case measure => simp [RowKit.intOf]; omega
          · have hkb : (o.k.tmod 2 == 0) = false := by simp [hk]
            clear hmk
            go_wp2_with fail
            refine hus.mono ?_
            rintro e w5 ⟨rfl, hg5, hk5⟩
            obtain ⟨R1, R2⟩ := HFIN.out w5 (-1) (Or.inr rfl) (by unfold sg; rw [if_neg hk]) hg5 hk5
            clear hg5 hk5 HFIN
            go_wp2
            go_roundw
            case rel => exact ⟨i + 1, by omega, by go_num, R1.out, R2.out⟩
            case measure => simp [RowKit.intOf]; omega
      · have hltz : ¬ (i : Int) < (l.length : Int) := by omega
        have hie : i = l.length := by omega
        subst hie
        have HG' : Hid (Lg wr lb tb b l.length (smf (Go.Proofs.Ytcmgmgnmhhkdgaa.wr (ord back l)))) := by
          have h := HG.out
          rw [List.take_of_length_le (by rw [ord_length]; omega)] at h
          exact h
        go_wp2
        go_ret
        exact ⟨lb, rfl, tb, b, HLO.out, HG'.out, HB.out⟩
end Go.Proofs.Ytcmgmgnmhhkdgaa
