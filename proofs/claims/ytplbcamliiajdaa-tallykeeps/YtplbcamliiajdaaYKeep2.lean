import Derived.Test.YtplbcamliiajdaaYKeeps
namespace Go.Proofs.Ytplbcamliiajdaa
open Go.RowKit Go.Sort Go.Maps
attribute [local go_sem ↓] Go.wp_at_zero Go.wp_at_succ

theorem fam_of {W : World} {n : Nat} {V : Nat → Value} {C : Nat → List BS} {lo hi : Nat → Nat} (h : ∀ i, i < n → Rw W (lo i) (hi i) (V i) (C i)) (hlt : ∀ i j, i < j → j < n → hi i ≤ lo j) : Fam W n V C := by
  have key : ∀ i, i < n → ∀ g, (V i).ownBlock = some g → lo i ≤ g ∧ g < hi i := fun i hi g hg => by
    obtain ⟨g', cap, hv, h1, h2⟩ := (h i hi).at_
    rw [hv] at hg
    have : g = g' := by simpa [Value.ownBlock] using hg.symm
    omega
  refine ⟨fun i hi => (h i hi).own, fun i j hi hj hne g hg hg' => ?_⟩
  have h1 := key i hi g hg
  have h2 := key j hj g hg'
  rcases Nat.lt_or_gt_of_ne hne with h3 | h3
  · have := hlt i j h3 hj; omega
  · have := hlt j i h3 hi; omega
theorem Rw.blk {W : World} {lo hi : Nat} {v : Value} {l : List BS} (h : Rw W lo hi v l) : ∀ g, v.ownBlock = some g → lo ≤ g ∧ g < hi := fun g hg => by
  obtain ⟨g', cap, hv, h1, h2⟩ := h.at_
  rw [hv] at hg
  have : g = g' := by simpa [Value.ownBlock] using hg.symm
  omega
def five {α : Type} (a b c d e : α) (i : Nat) : α := match i with | 0 => a | 1 => b | 2 => c | 3 => d | _ => e
theorem five_all {p : Nat → Prop} (h0 : p 0) (h1 : p 1) (h2 : p 2) (h3 : p 3) (h4 : p 4) : ∀ i, i < 5 → p i := fun i hi => by
  match i, hi with
  | 0, _ => exact h0
  | 1, _ => exact h1
  | 2, _ => exact h2
  | 3, _ => exact h3
  | 4, _ => exact h4

set_option maxHeartbeats 8000000 in
set_option maxRecDepth 100000 in
theorem tallyKeeps_any (v0 v1 : Value) (ops ms : List Opx) (w : World) (hl : Lo w v0 ops) (hlen : ops.length ≤ 9223372036854775807) (hl1 : Lo w v1 ms) (hlen1 : ms.length ≤ 9223372036854775807) :
    Calls Try.prog 4 #[v0, v1] w fun e w' => e = .returned (.bool true) ∧ Below w.heap.size w w' := by
  obtain ⟨i0, hi, hz0, hz1, hz2⟩ := info_parts infoS
  have hfi := filled_any v0 ops w hl hlen
  obtain ⟨p1, c1, rfl, hc1⟩ := hl1.form
  have HL1 : Hid (Lo w (.slice p1 ms.length c1) ms) := hl1
  clear hl hl1 hlen
  go_enter Try.func4, Try.ntmps4
  go_wp2_with fail
  refine hfi.mono ?_
  rintro e w1 ⟨x, f, rfl, ax, bx, ox, tx, gb1⟩
  clear hfi
  go_wp2_with fail
  refine (known_any _).mono ?_
  rintro e w2 ⟨rfl, gb2⟩
  have HB2 : Hid (Below w.heap.size w w2) := gb1.trans (gb2.mono gb1.size)
  have HT2 : Hid (Tl w2 x.t x.b x.g 200 f) := tx.below gb2
  clear gb1 gb2 tx
  have hka := keys_rw w2 HT2.out ox (by decide)
  go_wp2_with fail
  refine hka.mono ?_
  rintro e w3 ⟨pa, ca, K, hKl, rfl, HA⟩
  have HB3 : Hid (Below w.heap.size w w3) := HB2.out.trans (HA.out.2.2.mono HB2.out.size)
  have HT3 : Hid (Tl w3 x.t x.b x.g 200 f) := HT2.out.below HA.out.2.2
  have HKK : Hid (∃ ks, Sup f ks ∧ K = srt (cf 0) ks) := HA.out.1
  have HA3 : Hid (Rw w3 w2.heap.size w3.heap.size (.slice pa K.length ca) K) := HA.out.2.1
  have HZ23 : Hid (w2.heap.size ≤ w3.heap.size ∧ w.heap.size ≤ w2.heap.size) := ⟨HA.out.2.2.size, HB2.out.size⟩
  have HX : Hid (x.b < w2.heap.size ∧ x.t < w2.heap.size) := ⟨HT2.out.ta.lt, HT2.out.lt⟩
  clear hka HA HT2 HB2
  go_wp2_with (at_builtin; refine wpClone rfl _ _ rfl rfl _ _ _ K rfl HA3.out (by omega) ?_)
  intro pw cw w4 HW
  have HB4 : Hid (Below w.heap.size w w4) := HB3.out.trans (HW.out.2.mono HB3.out.size)
  have HT4 : Hid (Tl w4 x.t x.b x.g 200 f) := HT3.out.below HW.out.2
  have HA4 : Hid (Rw w4 w2.heap.size w3.heap.size (.slice pa K.length ca) K) := HA3.out.bel HW.out.2
  have HW4 : Hid (Rw w4 w3.heap.size w4.heap.size (.slice pw K.length cw) K) := HW.out.1
  have HZ34 : Hid (w3.heap.size ≤ w4.heap.size) := HW.out.2.size
  have hco := copy_tb w4 HT4.out
  clear HW HA3 HT3 HB3
  go_wp2_with fail
  refine hco.mono ?_
  rintro e w5 ⟨y, rfl, ay, by_, oy, ty, g5⟩
  have HB5 : Hid (Below w.heap.size w w5) := HB4.out.trans (g5.below.mono HB4.out.size)
  have HT5 : Hid (Tl w5 x.t x.b x.g 200 f) := HT4.out.gr g5
  have HU5 : Hid (Tl w5 y.t y.b y.g 200 f) := ty
  have HA5 : Hid (Rw w5 w2.heap.size w3.heap.size (.slice pa K.length ca) K) := HA4.out.bel g5.below
  have HW5 : Hid (Rw w5 w3.heap.size w4.heap.size (.slice pw K.length cw) K) := HW4.out.bel g5.below
  have HZ45 : Hid (w4.heap.size ≤ w5.heap.size ∧ w4.heap.size ≤ y.b ∧ y.b < w5.heap.size ∧ w4.heap.size ≤ y.t ∧ y.t < w5.heap.size) := ⟨g5.size, by_, ty.ta.lt, ay, ty.lt⟩
  have oyy : OrdOk y.g (cf 0) := by rw [oy]; exact ox
  have hkb := keys_rw w5 HT5.out ox (by decide)
  clear hco HA4 HW4 HT4 HB4 ty g5 ay by_ oy
  go_wp2_with fail
  refine hkb.mono ?_
  rintro e w6 ⟨pb, cb, Kb, hKb, rfl, HB⟩
  obtain rfl : Kb = K := srt_same ox HB.out.1 HKK.out
  have HB6 : Hid (Below w.heap.size w w6) := HB5.out.trans (HB.out.2.2.mono HB5.out.size)
  have HT6 : Hid (Tl w6 x.t x.b x.g 200 f) := HT5.out.below HB.out.2.2
  have HU6 : Hid (Tl w6 y.t y.b y.g 200 f) := HU5.out.below HB.out.2.2
  have HA6 : Hid (Rw w6 w2.heap.size w3.heap.size (.slice pa Kb.length ca) Kb) := HA5.out.bel HB.out.2.2
  have HW6 : Hid (Rw w6 w3.heap.size w4.heap.size (.slice pw Kb.length cw) Kb) := HW5.out.bel HB.out.2.2
  have HRB6 : Hid (Rw w6 w5.heap.size w6.heap.size (.slice pb Kb.length cb) Kb) := HB.out.2.1
  have HZ56 : Hid (w5.heap.size ≤ w6.heap.size) := HB.out.2.2.size
  have hkc := keys_rw w6 HU6.out oyy (by decide)
  clear hkb HB HA5 HW5 HT5 HB5 HU5
  go_wp2_with fail
  refine hkc.mono ?_
  rintro e w7 ⟨pc, cc, Kc, hKc, rfl, HB⟩
  obtain rfl : Kc = Kb := srt_same ox HB.out.1 HKK.out
  have HB7 : Hid (Below w.heap.size w w7) := HB6.out.trans (HB.out.2.2.mono HB6.out.size)
  have HT7 : Hid (Tl w7 x.t x.b x.g 200 f) := HT6.out.below HB.out.2.2
  have HU7 : Hid (Tl w7 y.t y.b y.g 200 f) := HU6.out.below HB.out.2.2
  have HA7 : Hid (Rw w7 w2.heap.size w3.heap.size (.slice pa Kc.length ca) Kc) := HA6.out.bel HB.out.2.2
  have HW7 : Hid (Rw w7 w3.heap.size w4.heap.size (.slice pw Kc.length cw) Kc) := HW6.out.bel HB.out.2.2
  have HRB7 : Hid (Rw w7 w5.heap.size w6.heap.size (.slice pb Kc.length cb) Kc) := HRB6.out.bel HB.out.2.2
  have HRC7 : Hid (Rw w7 w6.heap.size w7.heap.size (.slice pc Kc.length cc) Kc) := HB.out.2.1
  have HZ67 : Hid (w6.heap.size ≤ w7.heap.size) := HB.out.2.2.size
  clear hkc HB HA6 HW6 HT6 HB6 HU6 HRB6
  go_wp2_with fail
  go_loopw [11, 12, 38] (fun _ _ s38 wr => ∃ (k : Nat) (f2 : BS → Int), k ≤ ms.length ∧ s38 = .int .i64 k ∧ Hid (Tl wr y.t y.b y.g (200 + min k 200) f2 ∧ Kp (fun q => q = y.b) w7 wr)) (fun _ _ s38 _ => ms.length - (RowKit.intOf s38).toNat)
  case atStart => exact ⟨0, _, Nat.zero_le _, rfl, HU7.out, Kp.refl _ _⟩
  case round =>
    clear HU7
    obtain ⟨k, f2, hk, rfl, HR⟩ := hrel
    have HBr : Hid (Below w.heap.size w wr) := HB7.out.trans (HR.out.2.below HB7.out.size (fun q hq => by rw [hq]; have := HZ45.out; have := HZ34.out; have := HZ23.out; omega))
    by_cases hlt : k < ms.length
    · have hltz : (k : Int) < (ms.length : Int) := by omega
      obtain ⟨o, ho⟩ : ∃ o, ms[k]? = some o := ⟨ms[k], by simp⟩
      obtain ⟨bb, off, cc', e1, zb, y0, y1, y2, y3, y4⟩ := (HL1.out.below (Nat.le_refl _) HBr.out).at5 ho
      simp only [Value.slice.injEq] at e1
      obtain ⟨rfl, -, rfl⟩ := e1
      by_cases h2 : k < 200
      · have h2z : (k : Int) < 200 := by omega
        have hadd := fun W (hW : Tl W y.t y.b y.g (200 + min k 200) f2) => add_any o.key o.n W hW (by unfold maxLen; omega)
        generalize addc f2 o.key o.n = ec at hadd
        generalize addf f2 o.key o.n = f' at hadd
        go_wp2_with fail
        refine (hadd _ (HR.out.1.gr ((Gr.refl _).alloc _))).mono ?_
        rintro e w8 ⟨rfl, ht8, hk8⟩
        have HR8 : Hid (Tl w8 y.t y.b y.g (200 + min (k + 1) 200) f' ∧ Kp (fun q => q = y.b) w7 w8) := by
          refine ⟨?_, ?_⟩
          · rw [show 200 + min (k + 1) 200 = 200 + min k 200 + 1 by omega]; exact ht8
          · exact (HR.out.2.trans (Kp.of_gr (S := fun q => q = y.b) ((Gr.refl _).alloc _)) (fun _ _ h => h)).trans hk8 (fun _ _ h => h)
        clear ht8 hk8 hadd HR
        go_wp2
        exact ⟨⟨k + 1, f', by omega, by go_num, HR8⟩, by simp [RowKit.intOf]; omega⟩
      · have h2z : ¬ (k : Int) < 200 := by omega
        go_wp2
        refine ⟨⟨k + 1, f2, by omega, by go_num, ⟨?_, HR.out.2.trans (Kp.of_gr (S := fun q => q = y.b) ((Gr.refl _).alloc _)) (fun _ _ h => h)⟩⟩, by simp [RowKit.intOf]; omega⟩
        rw [show 200 + min (k + 1) 200 = 200 + min k 200 by omega]
        exact HR.out.1.gr ((Gr.refl _).alloc _)
    · have hltz : ¬ (k : Int) < (ms.length : Int) := by omega
      have HZ78 : Hid (w7.heap.size ≤ wr.heap.size) := HR.out.2.size
      have HT8 : Hid (Tl wr x.t x.b x.g 200 f) := HT7.out.kp HR.out.2 (by have := HX.out; have := HZ23.out; have := HZ34.out; have := HZ45.out; omega) (by have := HX.out; have := HZ23.out; have := HZ34.out; have := HZ45.out; omega)
      have HU8 : Hid (Tl wr y.t y.b y.g 400 f2) := ⟨HR.out.1.blk, HR.out.1.ta.mono (by omega), HR.out.1.bd⟩
      have HA8 : Hid (Rw wr w2.heap.size w3.heap.size (.slice pa Kc.length ca) Kc) := HA7.out.kp HR.out.2 (fun q h1 h2 => by have := HZ34.out; have := HZ45.out; omega)
      have HW8 : Hid (Rw wr w3.heap.size w4.heap.size (.slice pw Kc.length cw) Kc) := HW7.out.kp HR.out.2 (fun q h1 h2 => by have := HZ45.out; omega)
      have HRB8 : Hid (Rw wr w5.heap.size w6.heap.size (.slice pb Kc.length cb) Kc) := HRB7.out.kp HR.out.2 (fun q h1 h2 => by have := HZ45.out; omega)
      have HRC8 : Hid (Rw wr w6.heap.size w7.heap.size (.slice pc Kc.length cc) Kc) := HRC7.out.kp HR.out.2 (fun q h1 h2 => by have := HZ45.out; have := HZ56.out; omega)
      have hkd := keys_rw wr HU8.out oyy (by decide)
      clear HR HT7 HA7 HW7 HRB7 HRC7 HB7
      generalize wr = w8 at *
      go_wp2_with fail
      refine hkd.mono ?_
      rintro e w9 ⟨pd, cd, Kd, hKd, rfl, HB⟩
      have HB9 : Hid (Below w.heap.size w w9) := HBr.out.trans (HB.out.2.2.mono HBr.out.size)
      have HT9 : Hid (Tl w9 x.t x.b x.g 200 f) := HT8.out.below HB.out.2.2
      have HU9 : Hid (Tl w9 y.t y.b y.g 400 f2) := HU8.out.below HB.out.2.2
      have HA9 : Hid (Rw w9 w2.heap.size w3.heap.size (.slice pa Kc.length ca) Kc) := HA8.out.bel HB.out.2.2
      have HW9 : Hid (Rw w9 w3.heap.size w4.heap.size (.slice pw Kc.length cw) Kc) := HW8.out.bel HB.out.2.2
      have HRB9 : Hid (Rw w9 w5.heap.size w6.heap.size (.slice pb Kc.length cb) Kc) := HRB8.out.bel HB.out.2.2
      have HRC9 : Hid (Rw w9 w6.heap.size w7.heap.size (.slice pc Kc.length cc) Kc) := HRC8.out.bel HB.out.2.2
      have HRD9 : Hid (Rw w9 w8.heap.size w9.heap.size (.slice pd Kd.length cd) Kd) := HB.out.2.1
      have HZ89 : Hid (w8.heap.size ≤ w9.heap.size) := HB.out.2.2.size
      have HKD : Hid (∃ ks, Sup f2 ks ∧ Kd = srt (cf 0) ks) := HB.out.1
      clear hkd HB HT8 HU8 HA8 HW8 HRB8 HRC8 HBr
      go_wp2_with (at_builtin; refine wpClone rfl _ _ rfl rfl _ _ _ Kd rfl HRD9.out (by omega) ?_)
      intro pn cn w10 HW
      have HB10 : Hid (Below w.heap.size w w10) := HB9.out.trans (HW.out.2.mono HB9.out.size)
      have HT10 : Hid (Tl w10 x.t x.b x.g 200 f) := HT9.out.below HW.out.2
      have HU10 : Hid (Tl w10 y.t y.b y.g 400 f2) := HU9.out.below HW.out.2
      have HA10 : Hid (Rw w10 w2.heap.size w3.heap.size (.slice pa Kc.length ca) Kc) := HA9.out.bel HW.out.2
      have HW10 : Hid (Rw w10 w3.heap.size w4.heap.size (.slice pw Kc.length cw) Kc) := HW9.out.bel HW.out.2
      have HRB10 : Hid (Rw w10 w5.heap.size w6.heap.size (.slice pb Kc.length cb) Kc) := HRB9.out.bel HW.out.2
      have HRC10 : Hid (Rw w10 w6.heap.size w7.heap.size (.slice pc Kc.length cc) Kc) := HRC9.out.bel HW.out.2
      have HRD10 : Hid (Rw w10 w8.heap.size w9.heap.size (.slice pd Kd.length cd) Kd) := HRD9.out.bel HW.out.2
      have HN10 : Hid (Rw w10 w9.heap.size w10.heap.size (.slice pn Kd.length cn) Kd) := HW.out.1
      have HZ910 : Hid (w9.heap.size ≤ w10.heap.size) := HW.out.2.size
      have hke := keys_rw w10 HT10.out ox (by decide)
      clear HW HT9 HU9 HA9 HW9 HRB9 HRC9 HRD9 HB9
      go_wp2_with fail
      refine hke.mono ?_
      rintro e w11 ⟨pe, ce, Ke, hKe, rfl, HB⟩
      obtain rfl : Ke = Kc := srt_same ox HB.out.1 HKK.out
      have HB11 : Hid (Below w.heap.size w w11) := HB10.out.trans (HB.out.2.2.mono HB10.out.size)
      have HT11 : Hid (Tl w11 x.t x.b x.g 200 f) := HT10.out.below HB.out.2.2
      have HU11 : Hid (Tl w11 y.t y.b y.g 400 f2) := HU10.out.below HB.out.2.2
      have HA11 : Hid (Rw w11 w2.heap.size w3.heap.size (.slice pa Ke.length ca) Ke) := HA10.out.bel HB.out.2.2
      have HW11 : Hid (Rw w11 w3.heap.size w4.heap.size (.slice pw Ke.length cw) Ke) := HW10.out.bel HB.out.2.2
      have HRB11 : Hid (Rw w11 w5.heap.size w6.heap.size (.slice pb Ke.length cb) Ke) := HRB10.out.bel HB.out.2.2
      have HRC11 : Hid (Rw w11 w6.heap.size w7.heap.size (.slice pc Ke.length cc) Ke) := HRC10.out.bel HB.out.2.2
      have HRD11 : Hid (Rw w11 w8.heap.size w9.heap.size (.slice pd Kd.length cd) Kd) := HRD10.out.bel HB.out.2.2
      have HN11 : Hid (Rw w11 w9.heap.size w10.heap.size (.slice pn Kd.length cn) Kd) := HN10.out.bel HB.out.2.2
      have HRE11 : Hid (Rw w11 w10.heap.size w11.heap.size (.slice pe Ke.length ce) Ke) := HB.out.2.1
      have HZ1011 : Hid (w10.heap.size ≤ w11.heap.size) := HB.out.2.2.size
      have hS : ∀ W v, Gr w11 W → Rw w11 0 w11.heap.size v Ke → Calls Try.prog 10 #[v, .slice pw Ke.length cw] W fun e w' => e = .returned (.bool true) ∧ Gr W w' := fun W v hg hv => by
        have := same_any v (.slice pw Ke.length cw) Ke Ke W (hv.ls.below hg.below) (HW11.out.ls.below hg.below) (by unfold maxLen; omega)
        rw [decide_eq_true rfl] at this
        exact this
      clear hke HB HT10 HU10 HA10 HW10 HRB10 HRC10 HRD10 HN10 HB10
      go_wp2_with fail
      refine (hS _ _ (Gr.refl _) ⟨HA11.out.own, by obtain ⟨g, cap, e, h1, h2⟩ := HA11.out.at_; exact ⟨g, cap, e, Nat.zero_le _, (HA11.out.own.lt g (by rw [e]; rfl)).2⟩⟩).mono ?_
      rintro e w12 ⟨rfl, g12⟩
      go_wp2_with fail
      refine (hS _ _ g12 ⟨HRB11.out.own, by obtain ⟨g, cap, e, h1, h2⟩ := HRB11.out.at_; exact ⟨g, cap, e, Nat.zero_le _, (HRB11.out.own.lt g (by rw [e]; rfl)).2⟩⟩).mono ?_
      rintro e w13 ⟨rfl, g13⟩
      go_wp2_with fail
      refine (hS _ _ (g12.trans g13) ⟨HRC11.out.own, by obtain ⟨g, cap, e, h1, h2⟩ := HRC11.out.at_; exact ⟨g, cap, e, Nat.zero_le _, (HRC11.out.own.lt g (by rw [e]; rfl)).2⟩⟩).mono ?_
      rintro e w14 ⟨rfl, g14⟩
      go_wp2_with fail
      refine (hS _ _ ((g12.trans g13).trans g14) ⟨HRE11.out.own, by obtain ⟨g, cap, e, h1, h2⟩ := HRE11.out.at_; exact ⟨g, cap, e, Nat.zero_le _, (HRE11.out.own.lt g (by rw [e]; rfl)).2⟩⟩).mono ?_
      rintro e w15 ⟨rfl, g15⟩
      have HG : Hid (Gr w11 w15) := ((g12.trans g13).trans g14).trans g15
      clear g12 g13 g14 g15 hS
      obtain ⟨WA, hWA⟩ : ∃ WA, WA = w15.alloc (.cells #[.slice pa Ke.length ca, .slice pb Ke.length cb, .slice pc Ke.length cc, .slice pd Kd.length cd, .slice pe Ke.length ce] 32) := ⟨_, rfl⟩
      have GA : Gr w11 WA := by rw [hWA]; exact HG.out.alloc _
      have hord : w2.heap.size ≤ w3.heap.size ∧ w3.heap.size ≤ w4.heap.size ∧ w4.heap.size ≤ w5.heap.size ∧ w5.heap.size ≤ w6.heap.size ∧ w6.heap.size ≤ w7.heap.size ∧ w7.heap.size ≤ w8.heap.size ∧ w8.heap.size ≤ w9.heap.size ∧ w9.heap.size ≤ w10.heap.size ∧ w10.heap.size ≤ w11.heap.size ∧ w11.heap.size ≤ w15.heap.size :=
        ⟨HZ23.out.1, HZ34.out, HZ45.out.1, HZ56.out, HZ67.out, HZ78.out, HZ89.out, HZ910.out, HZ1011.out, HG.out.size⟩
      have RW : ∀ i, i < 5 → Rw WA (five w2.heap.size w5.heap.size w6.heap.size w8.heap.size w10.heap.size i) (five w3.heap.size w6.heap.size w7.heap.size w9.heap.size w11.heap.size i) (five (.slice pa Ke.length ca) (.slice pb Ke.length cb) (.slice pc Ke.length cc) (.slice pd Kd.length cd) (.slice pe Ke.length ce) i) (five Ke Ke Ke Kd Ke i) :=
        five_all (HA11.out.bel GA.below) (HRB11.out.bel GA.below) (HRC11.out.bel GA.below) (HRD11.out.bel GA.below) (HRE11.out.bel GA.below)
      have FM := fam_of RW (fun i j hij hj => by
        match i, j, hij, hj with
        | 0, 1, _, _ => show w3.heap.size ≤ w5.heap.size; omega
        | 0, 2, _, _ => show w3.heap.size ≤ w6.heap.size; omega
        | 0, 3, _, _ => show w3.heap.size ≤ w8.heap.size; omega
        | 0, 4, _, _ => show w3.heap.size ≤ w10.heap.size; omega
        | 1, 2, _, _ => show w6.heap.size ≤ w6.heap.size; omega
        | 1, 3, _, _ => show w6.heap.size ≤ w8.heap.size; omega
        | 1, 4, _, _ => show w6.heap.size ≤ w10.heap.size; omega
        | 2, 3, _, _ => show w7.heap.size ≤ w8.heap.size; omega
        | 2, 4, _, _ => show w7.heap.size ≤ w10.heap.size; omega
        | 3, 4, _, _ => show w9.heap.size ≤ w10.heap.size; omega
        | i + 4, j, h1, h2 => omega)
      have hcl : ∀ i, i < 5 → (five Ke Ke Ke Kd Ke i).length ≤ 1000 := five_all (by show Ke.length ≤ 1000; omega) (by show Ke.length ≤ 1000; omega) (by show Ke.length ≤ 1000; omega) (by show Kd.length ≤ 1000; omega) (by show Ke.length ≤ 1000; omega)
      have hin : ∀ q, (∃ i, i < 5 ∧ (five (.slice pa Ke.length ca) (.slice pb Ke.length cb) (.slice pc Ke.length cc) (.slice pd Kd.length cd) (.slice pe Ke.length ce) i : Value).ownBlock = some q) → (w2.heap.size ≤ q ∧ q < w3.heap.size) ∨ (w5.heap.size ≤ q ∧ q < w7.heap.size) ∨ (w8.heap.size ≤ q ∧ q < w9.heap.size) ∨ (w10.heap.size ≤ q ∧ q < w11.heap.size) := fun q ⟨i, hi, hq⟩ => by
        have h := (RW i hi).blk q hq
        match i, hi with
        | 0, _ => exact Or.inl h
        | 1, _ => have h' : w5.heap.size ≤ q ∧ q < w6.heap.size := h; omega
        | 2, _ => have h' : w6.heap.size ≤ q ∧ q < w7.heap.size := h; omega
        | 3, _ => exact Or.inr (Or.inr (Or.inl h))
        | 4, _ => exact Or.inr (Or.inr (Or.inr h))
      have hap := apart_any 5 w15.heap.size 5 _ _ WA FM (by decide) hcl (by rw [hWA]; simp) (five_all ⟨by rw [hWA]; simp [five], fun e => by have := hin _ ⟨0, by decide, e⟩; omega⟩ ⟨by rw [hWA]; simp [five], fun e => by have := hin _ ⟨1, by decide, e⟩; omega⟩ ⟨by rw [hWA]; simp [five], fun e => by have := hin _ ⟨2, by decide, e⟩; omega⟩ ⟨by rw [hWA]; simp [five], fun e => by have := hin _ ⟨3, by decide, e⟩; omega⟩ ⟨by rw [hWA]; simp [five], fun e => by have := hin _ ⟨4, by decide, e⟩; omega⟩)
      have hap2 : Calls Try.prog 16 #[.slice (some ⟨w15.heap.size, 0, none⟩) 5 5] WA fun e w' => e = .returned (.bool true) ∧ Hid (Kp (fun q => (w2.heap.size ≤ q ∧ q < w3.heap.size) ∨ (w5.heap.size ≤ q ∧ q < w7.heap.size) ∨ (w8.heap.size ≤ q ∧ q < w9.heap.size) ∨ (w10.heap.size ≤ q ∧ q < w11.heap.size)) w11 w') :=
        hap.mono fun e w' h => ⟨h.1, (Kp.of_gr GA).trans (h.2.mono hin) (fun _ _ h => h)⟩
      have HO : Hid (w2.heap.size ≤ w3.heap.size ∧ w3.heap.size ≤ w4.heap.size ∧ w4.heap.size ≤ w5.heap.size ∧ w5.heap.size ≤ w6.heap.size ∧ w6.heap.size ≤ w7.heap.size ∧ w7.heap.size ≤ w8.heap.size ∧ w8.heap.size ≤ w9.heap.size ∧ w9.heap.size ≤ w10.heap.size ∧ w10.heap.size ≤ w11.heap.size ∧ w11.heap.size ≤ w15.heap.size) := hord
      clear hap FM RW hin hcl GA HA11 HRB11 HRC11 HRD11 HRE11 hord
      subst hWA
      go_wp2_with fail
      refine hap2.mono ?_
      rintro e w16 ⟨rfl, HK⟩
      have hx := HX.out
      have hy := HZ45.out
      have h0 := HZ23.out
      have HB16 : Hid (Below w.heap.size w w16) := HB11.out.trans (HK.out.below HB11.out.size (fun q hq => by have := HO.out; omega))
      have HT16 : Hid (Tl w16 x.t x.b x.g 200 f) := HT11.out.kp HK.out (by have := HO.out; omega) (by have := HO.out; omega)
      have HU16 : Hid (Tl w16 y.t y.b y.g 400 f2) := HU11.out.kp HK.out (by have := HO.out; omega) (by have := HO.out; omega)
      have HW16 : Hid (Rw w16 w3.heap.size w4.heap.size (.slice pw Ke.length cw) Ke) := HW11.out.kp HK.out (fun q h1 h2 => by have := HO.out; omega)
      have HN16 : Hid (Rw w16 w9.heap.size w10.heap.size (.slice pn Kd.length cn) Kd) := HN11.out.kp HK.out (fun q h1 h2 => by have := HO.out; omega)
      have HY : Hid (y.t < w9.heap.size ∧ w4.heap.size ≤ y.t ∧ x.t < w2.heap.size ∧ x.b < w2.heap.size ∧ w.heap.size ≤ y.t) := by have := HO.out; exact ⟨by omega, by omega, by omega, by omega, by omega⟩
      have HZ16 : Hid (w11.heap.size ≤ w16.heap.size) := HK.out.size
      clear hx hy h0 HT11 HU11 HW11 HN11 HB11 HK hap2 HG HX HZ45 HZ23 HZ34 HZ56 HZ67 HZ78 HZ89 HZ910 HZ1011
      have hco := copy_tb w16 HU16.out
      go_wp2_with fail
      refine hco.mono ?_
      rintro e w17 ⟨z, rfl, az, bz, oz, tz, g17⟩
      have HZ17 : Hid (w16.heap.size ≤ z.t ∧ w16.heap.size ≤ z.b) := ⟨az, bz⟩
      have ozz : OrdOk z.g (cf 0) := by rw [oz]; exact oyy
      have hcl := clear_any w17 (HU16.out.gr g17)
      have HB17 : Hid (Below w.heap.size w w17) := HB16.out.trans (g17.below.mono HB16.out.size)
      have HT17 : Hid (Tl w17 x.t x.b x.g 200 f) := HT16.out.gr g17
      have HV17 : Hid (Tl w17 z.t z.b z.g 400 f2) := tz
      have HW17 : Hid (Rw w17 w3.heap.size w4.heap.size (.slice pw Ke.length cw) Ke) := HW16.out.bel g17.below
      have HN17 : Hid (Rw w17 w9.heap.size w10.heap.size (.slice pn Kd.length cn) Kd) := HN16.out.bel g17.below
      clear hco tz az bz oz g17 HT16 HU16 HW16 HN16 HB16
      go_wp2_with fail
      refine hcl.mono ?_
      rintro e w18 ⟨rfl, tu, k18⟩
      have hyy := HY.out
      have hoo := HO.out
      have hzz := HZ17.out
      have hz16 := HZ16.out
      have HU18 : Hid (Tl w18 y.t w17.heap.size y.g 0 (fun _ => 0)) := tu
      have HB18 : Hid (Below w.heap.size w w18) := HB17.out.trans (k18.below HB17.out.size (fun q hq => by omega))
      have HT18 : Hid (Tl w18 x.t x.b x.g 200 f) := HT17.out.kp k18 (by omega) (by omega)
      have HV18 : Hid (Tl w18 z.t z.b z.g 400 f2) := HV17.out.kp k18 (by omega) (by omega)
      have HW18 : Hid (Rw w18 w3.heap.size w4.heap.size (.slice pw Ke.length cw) Ke) := HW17.out.kp k18 (fun q h1 h2 => by omega)
      have HN18 : Hid (Rw w18 w9.heap.size w10.heap.size (.slice pn Kd.length cn) Kd) := HN17.out.kp k18 (fun q h1 h2 => by omega)
      have hk1 := keys_rw w18 HT18.out ox (by decide)
      clear hyy hoo hzz hz16 tu k18 hcl HT17 HV17 HW17 HN17 HB17
      go_wp2_with fail
      refine hk1.mono ?_
      rintro e w19 ⟨pf, cf', Kf, hKf, rfl, HB⟩
      obtain rfl : Kf = Ke := srt_same ox HB.out.1 HKK.out
      have hs1 := same_any (.slice pf Kf.length cf') (.slice pw Kf.length cw) Kf Kf w19 HB.out.2.1.ls (HW18.out.ls.below HB.out.2.2) (by unfold maxLen; omega)
      rw [decide_eq_true rfl] at hs1
      have HB19 : Hid (Below w18.heap.size w18 w19) := HB.out.2.2
      clear hk1 HB
      go_wp2_with fail
      refine hs1.mono ?_
      rintro e w20 ⟨rfl, g20⟩
      have HB20 : Hid (Below w18.heap.size w18 w20) := HB19.out.trans (g20.below.mono HB19.out.size)
      have hk2 := keys_rw w20 (HV18.out.below HB20.out) ozz (by decide)
      clear hs1 HB19 g20
      go_wp2_with fail
      refine hk2.mono ?_
      rintro e w21 ⟨pg, cg, Kg, hKg, rfl, HB⟩
      obtain rfl : Kg = Kd := srt_same ox HB.out.1 HKD.out
      have HB21 : Hid (Below w18.heap.size w18 w21) := HB20.out.trans (HB.out.2.2.mono HB20.out.size)
      have hs2 := same_any (.slice pg Kg.length cg) (.slice pn Kg.length cn) Kg Kg w21 HB.out.2.1.ls (HN18.out.ls.below HB21.out) (by unfold maxLen; omega)
      rw [decide_eq_true rfl] at hs2
      clear hk2 HB HB20
      go_wp2_with fail
      refine hs2.mono ?_
      rintro e w22 ⟨rfl, g22⟩
      have HB22 : Hid (Below w18.heap.size w18 w22) := HB21.out.trans (g22.below.mono HB21.out.size)
      have hln := len_any w22 (HU18.out.below HB22.out)
      clear hs2 HB21 g22
      go_wp2_with fail
      refine hln.mono ?_
      rintro e w23 ⟨k0, hs0, rfl, rfl⟩
      obtain rfl := sup_zero hs0
      have HB23 : Hid (Below w.heap.size w w23) := HB18.out.trans (HB22.out.mono HB18.out.size)
      clear hs0 hln HB22
      go_wp2
      go_ret
      exact ⟨rfl, HB23.out⟩
end Go.Proofs.Ytplbcamliiajdaa
