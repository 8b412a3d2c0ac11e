import Derived.Test.YteffgkhpcdboaaaMRef
namespace Go.Proofs.Yteffgkhpcdboaaa
open Go.RowKit Go.Sort Go.Maps
open Tt (Tl byd byd_f byd_t)
attribute [local go_sem ↓] Go.wp_at_zero Go.wp_at_succ

theorem Sn.rebase {W0 W w : World} {mb tb b cb n : Nat} {v : Value} {f : Tm → Int} {fr : List Tm} (h : Sn W w mb tb b cb n v f fr) (hb : Below W0.heap.size W0 W) : Sn W0 w mb tb b cb n v f fr :=
  ⟨h.mu, h.fr, hb.trans (h.bl.mono hb.size), Nat.le_trans hb.size h.zm, Nat.le_trans hb.size h.zt, Nat.le_trans hb.size h.zb, Nat.le_trans hb.size h.zc, fun g hg => Nat.le_trans hb.size (h.zv g hg)⟩
/-- Two Multis and a list, none of whose blocks the second one's Apply turns. -/
structure Two (w : World) (m1 t1 b1 c1 : Nat) (v1 : Value) (b2 c2 : Nat) (v2 : Value) (gd : Value) : Prop where
  m : m1 ≠ b2 ∧ m1 ≠ c2 ∧ t1 ≠ b2 ∧ t1 ≠ c2 ∧ b1 ≠ b2 ∧ b1 ≠ c2 ∧ c1 ≠ b2 ∧ c1 ≠ c2
  v : v1.ownBlock ≠ some b2 ∧ v1.ownBlock ≠ some c2
  d : gd.ownBlock ≠ some b2 ∧ gd.ownBlock ≠ some c2
  l : m1 < w.heap.size ∧ t1 < w.heap.size ∧ b1 < w.heap.size ∧ c1 < w.heap.size ∧ (∀ g, v1.ownBlock = some g → g < w.heap.size) ∧ ∀ g, gd.ownBlock = some g → g < w.heap.size
  z : ∀ g, v2.ownBlock = some g → w.heap.size ≤ g
theorem Two.mu {w wr w' : World} {m1 t1 b1 c1 b2 c2 n : Nat} {v1 v2 gd : Value} {f : Tm → Int} {fr : List Tm} (h : Two w m1 t1 b1 c1 v1 b2 c2 v2 gd) (hm : Mu wr m1 t1 b1 c1 n v1 f fr) (hk : Kp (Tb b2 c2 v2) wr w') : Mu w' m1 t1 b1 c1 n v1 f fr := by
  refine hm.kp hk (fun e => ?_) (fun e => ?_) (fun e => ?_) (fun e => ?_) (fun k hk e => ?_)
  · rcases e with e | e | e
    · exact h.m.1 e
    · exact h.m.2.1 e
    · exact nlt (h.z _ e) h.l.1
  · rcases e with e | e | e
    · exact h.m.2.2.1 e
    · exact h.m.2.2.2.1 e
    · exact nlt (h.z _ e) h.l.2.1
  · rcases e with e | e | e
    · exact h.m.2.2.2.2.1 e
    · exact h.m.2.2.2.2.2.1 e
    · exact nlt (h.z _ e) h.l.2.2.1
  · rcases e with e | e | e
    · exact h.m.2.2.2.2.2.2.1 e
    · exact h.m.2.2.2.2.2.2.2 e
    · exact nlt (h.z _ e) h.l.2.2.2.1
  · rcases e with e | e | e
    · exact h.v.1 (e ▸ hk)
    · exact h.v.2 (e ▸ hk)
    · exact nlt (h.z _ e) (h.l.2.2.2.2.1 _ hk)
theorem Two.ls {α : Type} {E : El α} {w wr w' : World} {m1 t1 b1 c1 b2 c2 : Nat} {v1 v2 gd : Value} {l : List α} (h : Two w m1 t1 b1 c1 v1 b2 c2 v2 gd) (hm : Ls E wr gd l) (hk : Kp (Tb b2 c2 v2) wr w') : Ls E w' gd l := by
  refine hk.ls hm (fun k hk e => ?_)
  rcases e with e | e | e
  · exact h.d.1 (e ▸ hk)
  · exact h.d.2 (e ▸ hk)
  · exact nlt (h.z _ e) (h.l.2.2.2.2.2 _ hk)
theorem isum_drop {d : List Dl} {i : Nat} {x : Dl} (h : d[i]? = some x) : isum (d.drop i) = fun t => isum [x] t + isum (d.drop (i + 1)) t := by
  obtain ⟨hi, rfl⟩ := List.getElem?_eq_some_iff.1 h
  funext t
  rw [List.drop_eq_getElem_cons hi, isum_cons, isum_cons, isum_nil]
  omega

set_option maxHeartbeats 2000000 in
set_option maxRecDepth 100000 in
theorem split_any (v : Value) (l : List Dl) (w : World) (hv : Ls ED w v l) (hl : l.length ≤ 9223372036854775807) :
    Calls Try.prog 4 #[v] w fun e w' => e = .returned (.bool true) ∧ Below w.heap.size w w' := by
  have hmx : Try.prog.follows .mixedOrders = true := by kernel_rfl
  have hne := fun W => Sn.new W
  have hkn := fun W => known_any W
  have HV : Hid (Ls ED w v l) := hv
  have hsl := sml_length l
  have HLO : Hid (Lo9 (sml l)) := sml_lo l
  clear hv
  go_enter Try.func4, Try.ntmps4
  go_wp2_with fail
  refine (hne _).mono ?_
  rintro e w1 ⟨ma, ta, ba, ca, rfl, S1⟩
  have HS1 : Hid (Sn w w1 ma ta ba ca 0 (.slice none 0 0) (fun _ => 0) []) := S1
  clear S1
  go_wp2_with fail
  refine (hne _).mono ?_
  rintro e w2 ⟨mb, tb, bb, cb, rfl, S2⟩
  have HT2 : Hid (Sn w1 w2 mb tb bb cb 0 (.slice none 0 0) (fun _ => 0) []) := S2
  have HS2 : Hid (Sn w w2 ma ta ba ca 0 (.slice none 0 0) (fun _ => 0) []) := HS1.out.below S2.bl
  clear hne S2
  go_wp2_with fail
  refine (hkn _).mono ?_
  rintro e w3 ⟨rfl, hb3⟩
  have HS3 : Hid (Sn w w3 ma ta ba ca 0 (.slice none 0 0) (fun _ => 0) []) := HS2.out.below hb3
  have HT3 : Hid (Sn w w3 mb tb bb cb 0 (.slice none 0 0) (fun _ => 0) []) := (HT2.out.below hb3).rebase HS1.out.bl
  have z12 := HT2.out.bl.size
  have z23 := hb3.size
  have hsm := small_any v l w3 (HV.out.below HS3.out.bl) hl
  clear hkn hb3
  go_wp2_with fail
  refine hsm.mono ?_
  rintro e w4 ⟨v4, rfl, ho4, hb4⟩
  have HO4 : Hid (w4.ownsRow w3.heap.size 33 4 v4 (sml l).length (fl ED (sml l))) := ho4
  have HL4 : Hid (Ls ED w4 v4 (sml l)) := owns_ls (E := ED) ho4
  have HS4 : Hid (Sn w w4 ma ta ba ca 0 (.slice none 0 0) (fun _ => 0) []) := HS3.out.below hb4
  have HT4 : Hid (Sn w w4 mb tb bb cb 0 (.slice none 0 0) (fun _ => 0) []) := HT3.out.below hb4
  obtain ⟨p4, d4, rfl⟩ := HL4.out.form
  have z34 := hb4.size
  clear hsm ho4 hb4
  go_wp2_with (at_builtin; refine wpAppLD rfl _ _ rfl w4.heap.size (.slice (some ⟨w4.heap.size, 0, none⟩) 0 0) 0 [] rfl (World.ownsRow_made w4 #[] 0 (Nat.le_refl _) (by unfold maxLen; omega) rfl) (.slice p4 (sml l).length d4) (sml l) rfl (HL4.out.below ((Gr.refl w4).alloc _).below) (by omega) (by simp) ?_; intro v5 w5 ho5 hg5)
  have B5 : Below w4.heap.size w4 w5 := ((Gr.refl w4).alloc _).below.trans ((Kp.grownBy (S := fun k => w4.heap.size ≤ k) hg5 (fun k hk => by simp [Value.ownBlock] at hk; omega)).below (by simp) (fun _ h => h))
  have HS5 : Hid (Sn w w5 ma ta ba ca 0 (.slice none 0 0) (fun _ => 0) []) := HS4.out.below B5
  have HT5 : Hid (Sn w w5 mb tb bb cb 0 (.slice none 0 0) (fun _ => 0) []) := HT4.out.below B5
  have HL5 : Hid (Ls ED w5 (.slice p4 (sml l).length d4) (sml l)) := HL4.out.below B5
  have hap := HS5.out.small (owns_ls (E := ED) (ts := sml l) (owns_re ho5 (by simp) (by simp))) (by omega) HLO.out (by omega) (fun _ => by omega) (f' := isum (sml l)) (by funext t; omega)
  have z45 := B5.size
  clear hg5 ho5 B5
  go_wp2_with fail
  refine hap.mono ?_
  rintro e w6 ⟨vo6, va, fra, rfl, _, S6, K6, V6, _⟩
  have hba : ba < w1.heap.size := HS1.out.mu.tl.ta.lt
  have hca : ca < w1.heap.size := HS1.out.mu.ch.lt
  have hma : ma < w1.heap.size := HS1.out.mu.lt
  have hta : ta < w1.heap.size := HS1.out.mu.tl.lt
  have hbb : bb < w2.heap.size := HT2.out.mu.tl.ta.lt
  have hcb : cb < w2.heap.size := HT2.out.mu.ch.lt
  have z56 := K6.size
  have hd1 : ∀ g, (Value.slice p4 (sml l).length d4).ownBlock = some g → w3.heap.size ≤ g ∧ g < w4.heap.size := fun g hg => HO4.out.lt g hg
  have hv1 : ∀ g, va.ownBlock = some g → w5.heap.size ≤ g := fun g hg => (V6 g hg).elim (fun h => by simp [Value.ownBlock] at h) (fun h => h)
  have HTW : Hid (Two w6 ma ta ba ca va bb cb (.slice none 0 0) (.slice p4 (sml l).length d4)) := by
    have h1 := HT2.out.zb
    have h2 := HT2.out.zc
    refine ⟨⟨by omega, by omega, by omega, by omega, by omega, by omega, by omega, by omega⟩, ⟨fun e => by have := hv1 _ e; omega, fun e => by have := hv1 _ e; omega⟩, ⟨fun e => by have := hd1 _ e; omega, fun e => by have := hd1 _ e; omega⟩, ⟨by omega, by omega, by omega, by omega, S6.mu.ch.row, fun g hg => by have := hd1 _ hg; omega⟩, fun g hg => by simp [Value.ownBlock] at hg⟩
  have HMA : Hid (Mu w6 ma ta ba ca (0 + 2 * (sml l).length) va (isum (sml l)) fra) := S6.mu
  have HFA : Hid (IsFr (isum (sml l)) fra) := S6.fr
  have HT6 : Hid (Sn w w6 mb tb bb cb 0 (.slice none 0 0) (fun _ => 0) []) := HT5.out.kp K6 (fun k hk => by
    rcases hk with rfl | rfl | hk
    · exact HS1.out.zb
    · exact HS1.out.zc
    · simp [Value.ownBlock] at hk) (fun e => by
    have h1 := HT2.out.zm
    rcases e with e | e | e
    · omega
    · omega
    · simp [Value.ownBlock] at e) (fun e => by
    have h1 := HT2.out.zt
    rcases e with e | e | e
    · omega
    · omega
    · simp [Value.ownBlock] at e) (fun e => by
    have h1 := HT2.out.zb
    rcases e with e | e | e
    · omega
    · omega
    · simp [Value.ownBlock] at e) (fun e => by
    have h1 := HT2.out.zc
    rcases e with e | e | e
    · omega
    · omega
    · simp [Value.ownBlock] at e) (fun k hk => by simp [Value.ownBlock] at hk)
  have HL6 : Hid (Ls ED w6 (.slice p4 (sml l).length d4) (sml l)) := K6.ls HL5.out (fun k hk e => by
    have h1 := hd1 _ hk
    rcases e with e | e | e
    · omega
    · omega
    · simp [Value.ownBlock] at e)
  clear hap S6 K6 V6 hv1 hd1 hba hca hma hta hbb hcb z12 z23 z34 z45 z56 HS1 HS2 HS3 HS4 HS5 HT2 HT3 HT4 HT5 HL4 HL5 HO4
  generalize hdd : sml l = d at *
  clear hdd
  go_wp2_with fail
  go_loopw [8, 9, 10] (fun s8 _ _ wr => ∃ (j : Nat) (vb : Value) (frb : List Tm), j ≤ d.length ∧ s8 = .int .i64 ((j : Int) - 1) ∧ Hid (Sn w wr mb tb bb cb (2 * (d.length - j)) vb (isum (d.drop j)) frb ∧ Two w6 ma ta ba ca va bb cb vb (.slice p4 d.length d4) ∧ Mu wr ma ta ba ca (0 + 2 * d.length) va (isum d) fra ∧ Ls ED wr (.slice p4 d.length d4) d ∧ w6.heap.size ≤ wr.heap.size)) (fun s8 _ _ _ => (RowKit.intOf s8 + 1).toNat)
  case atStart =>
    refine ⟨d.length, _, [], Nat.le_refl _, by go_num, ?_, HTW.out, HMA.out, HL6.out, Nat.le_refl _⟩
    rw [List.drop_length, Nat.sub_self]
    exact HT6.out
  case round =>
    obtain ⟨j, vb, frb, hj, rfl, HI⟩ := hrel
    cases j with
    | succ i =>
      have hi1 : ((i + 1 : Nat) : Int) - 1 = (i : Int) := by omega
      have hil : (i : Int) < (d.length : Int) := by omega
      have hi0 : (0 : Int) ≤ (i : Int) := by omega
      rw [hi1]
      obtain ⟨x, hx⟩ : ∃ x, d[i]? = some x := ⟨d[i], by simp⟩
      obtain ⟨b1, o1, c1, e1, z1, x1, x2, x3, x4⟩ := HI.out.2.2.2.1.at4 hx
      simp only [Value.slice.injEq] at e1
      obtain ⟨rfl, -, rfl⟩ := e1
      obtain ⟨W7, hW7⟩ : ∃ W7, W7 = wr.alloc (.cells #[.int .u64 x.1.1.1, .int .u64 x.1.1.2.1, .int .u64 x.1.1.2.2, .int .i64 x.2] 33) := ⟨_, rfl⟩
      have G7 : Gr wr W7 := by rw [hW7]; exact (Gr.refl _).alloc _
      have L7 : Ls ED W7 (.slice (some ⟨wr.heap.size, 0, none⟩) 1 1) [x] := by rw [hW7]; exact ls_new (E := ED) wr [x] _ _ 1 rfl
      have hbd : ∀ t, -1000000000 ≤ isum (d.drop (i + 1)) t ∧ isum (d.drop (i + 1)) t ≤ 1000000000 := fun t => by
        have h1 := isum_bd (ds := d.drop (i + 1)) (fun e he => HLO.out e (List.mem_of_mem_drop he)) t
        have h2 : (d.drop (i + 1)).length ≤ 1000 := by rw [List.length_drop]; omega
        omega
      have hap := (HI.out.1.below G7.below).small L7 (by simp only [List.length_cons, List.length_nil]; omega) (fun e he => by simp at he; subst he; exact HLO.out _ (List.mem_of_getElem? hx)) (by simp) hbd (f' := isum (d.drop i)) (isum_drop hx)
      have hnn : 2 * (d.length - (i + 1)) + 2 * [x].length = 2 * (d.length - i) := by simp only [List.length_cons, List.length_nil]; omega
      rw [hnn] at hap
      clear hbd hx hnn L7
      go_wp2_with fail
      rw [← hW7]
      refine hap.mono ?_
      rintro e w8 ⟨vo8, v8, fr8, rfl, _, S8, K8, V8, _⟩
      have z7 := G7.size
      have hTW := HI.out.2.1
      have hsz := HI.out.2.2.2.2
      have HN : Hid (Sn w w8 mb tb bb cb (2 * (d.length - i)) v8 (isum (d.drop i)) fr8 ∧ Two w6 ma ta ba ca va bb cb v8 (.slice (some ⟨b1, o1, none⟩) d.length d4) ∧ Mu w8 ma ta ba ca (0 + 2 * d.length) va (isum d) fra ∧ Ls ED w8 (.slice (some ⟨b1, o1, none⟩) d.length d4) d ∧ w6.heap.size ≤ w8.heap.size) := by
        refine ⟨S8, ⟨hTW.m, hTW.v, hTW.d, hTW.l, fun g hg => ?_⟩, hTW.mu (HI.out.2.2.1.below G7.below) K8, hTW.ls (HI.out.2.2.2.1.below G7.below) K8, Nat.le_trans hsz (Nat.le_trans z7 K8.size)⟩
        rcases V8 g hg with h1 | h1
        · exact hTW.z _ h1
        · exact Nat.le_trans hsz (Nat.le_trans z7 h1)
      clear hap S8 K8 V8 hTW x1 x2 x3 x4 z1 hW7
      go_wp2
      go_roundw
      case rel => exact ⟨i, v8, fr8, by omega, by go_num, HN.out⟩
      case measure => first | (simp [RowKit.intOf]; done) | (simp [RowKit.intOf]; omega)
    | zero =>
      have hz0 : ¬ (0 : Int) ≤ ((0 : Nat) : Int) - 1 := by omega
      obtain ⟨hSB, _, hMA, _, _⟩ := HI.out
      rw [List.drop_zero, Nat.sub_zero] at hSB
      obtain rfl := hSB.fr.same HFA.out
      have HMB : Hid (Mu wr mb tb bb cb (2 * d.length) vb (isum d) frb) := hSB.mu
      have HMA7 : Hid (Mu wr ma ta ba ca (0 + 2 * d.length) va (isum d) frb) := hMA
      have HBL : Hid (Below w.heap.size w wr) := hSB.bl
      have hfl := hSB.fr.le hSB.mu.tl.ta
      have hta := times_any wr hMA (by omega)
      clear hSB hMA HI HTW HMA HL6 HT6
      go_wp2_with fail
      refine hta.mono ?_
      rintro e w9 ⟨vt, ks, hks, rfl, ho9, hb9⟩
      have HKS : Hid (Sup (isum d) ks) := hks
      have HSA : Hid (∀ ks' : List Tm, Sup (isum d) ks' → stT ks' = stT ks ∧ ks'.length = (stT ks).length) := fun ks' h => ⟨srtBy_of_perm swoT totT (h.perm hks), by rw [srtBy_length]; exact (h.perm hks).length_eq⟩
      have HL9 : Hid (Lst w9 vt (stT ks)) := owns_lst ho9
      obtain ⟨pt, ct, rfl⟩ := HL9.out.form
      have HA9 : Hid (Mu w9 ma ta ba ca (0 + 2 * d.length) va (isum d) frb) := HMA7.out.below hb9
      have HB9 : Hid (Mu w9 mb tb bb cb (2 * d.length) vb (isum d) frb) := HMB.out.below hb9
      have HW9 : Hid (Below w.heap.size w w9) := HBL.out.trans (hb9.mono HBL.out.size)
      have hktl : (stT ks).length ≤ 2000 := by
        obtain ⟨D, hown, _, h3⟩ := HB9.out.tl.ta
        obtain ⟨ks', hk', hl'⟩ := owns_sup hown h3
        have h1 := (HSA.out ks' hk').2
        have h2 := hown.size_le
        omega
      have htb := times_any w9 HB9.out (by omega)
      clear hta hks ho9 hb9 HMA7 HMB HBL
      go_wp2_with fail
      refine htb.mono ?_
      rintro e w10 ⟨vt2, ks2, hks2, rfl, ho10, hb10⟩
      rw [(HSA.out ks2 hks2).1] at ho10
      have htm := tms_any _ vt2 (stT ks) (stT ks) w10 (HL9.out.below hb10) (owns_lst ho10) (by unfold maxLen; omega)
      rw [decide_eq_true rfl] at htm
      have HA10 : Hid (Mu w10 ma ta ba ca (0 + 2 * d.length) va (isum d) frb) := HA9.out.below hb10
      have HB10 : Hid (Mu w10 mb tb bb cb (2 * d.length) vb (isum d) frb) := HB9.out.below hb10
      have HW10 : Hid (Below w.heap.size w w10) := HW9.out.trans (hb10.mono HW9.out.size)
      have HL10 : Hid (Lst w10 (.slice pt (stT ks).length ct) (stT ks)) := HL9.out.below hb10
      clear htb hks2 ho10 hb10 HA9 HB9 HW9 HL9
      go_wp2_with fail
      refine htm.mono ?_
      rintro e w11 ⟨rfl, hg11⟩
      have HA11 : Hid (Mu w11 ma ta ba ca (0 + 2 * d.length) va (isum d) frb) := HA10.out.below hg11.below
      have HB11 : Hid (Mu w11 mb tb bb cb (2 * d.length) vb (isum d) frb) := HB10.out.below hg11.below
      have HW11 : Hid (Below w.heap.size w w11) := HW10.out.trans (hg11.below.mono HW10.out.size)
      have HL11 : Hid (Lst w11 (.slice pt (stT ks).length ct) (stT ks)) := HL10.out.below hg11.below
      have hfa := front_any w11 HA11.out (by omega)
      clear htm hg11 HA10 HB10 HW10 HL10
      go_wp2_with fail
      refine hfa.mono ?_
      rintro e w12 ⟨vf1, rfl, ho12, hb12⟩
      have HA12 : Hid (Mu w12 ma ta ba ca (0 + 2 * d.length) va (isum d) frb) := HA11.out.below hb12
      have HB12 : Hid (Mu w12 mb tb bb cb (2 * d.length) vb (isum d) frb) := HB11.out.below hb12
      have HW12 : Hid (Below w.heap.size w w12) := HW11.out.trans (hb12.mono HW11.out.size)
      have HL12 : Hid (Lst w12 (.slice pt (stT ks).length ct) (stT ks)) := HL11.out.below hb12
      have HF12 : Hid (Lst w12 vf1 frb) := owns_lst ho12
      have hfb := front_any w12 HB12.out (by omega)
      clear hfa ho12 hb12 HA11 HB11 HW11 HL11
      go_wp2_with fail
      refine hfb.mono ?_
      rintro e w13 ⟨vf2, rfl, ho13, hb13⟩
      have htm2 := tms_any vf1 vf2 frb frb w13 (HF12.out.below hb13) (owns_lst ho13) (by unfold maxLen; omega)
      rw [decide_eq_true rfl] at htm2
      have HA13 : Hid (Mu w13 ma ta ba ca (0 + 2 * d.length) va (isum d) frb) := HA12.out.below hb13
      have HB13 : Hid (Mu w13 mb tb bb cb (2 * d.length) vb (isum d) frb) := HB12.out.below hb13
      have HW13 : Hid (Below w.heap.size w w13) := HW12.out.trans (hb13.mono HW12.out.size)
      have HL13 : Hid (Lst w13 (.slice pt (stT ks).length ct) (stT ks)) := HL12.out.below hb13
      clear hfb ho13 hb13 HA12 HB12 HW12 HL12 HF12
      go_wp2_with fail
      refine htm2.mono ?_
      rintro e w14 ⟨rfl, hg14⟩
      have HG14 : Hid (Gr w13 w14) := hg14
      have hla := len_any w14 (HA13.out.below hg14.below)
      clear htm2 hg14
      go_wp2_with fail
      refine hla.mono ?_
      rintro e w15 ⟨ks3, hks3, rfl, hg15⟩
      rw [(HSA.out ks3 hks3).2]
      have HG15 : Hid (Gr w13 w15) := HG14.out.trans hg15
      have hlb := len_any w15 (HB13.out.below HG15.out.below)
      clear hla hg15 hks3
      go_wp2_with fail
      refine hlb.mono ?_
      rintro e w16 ⟨ks4, hks4, rfl, hg16⟩
      rw [(HSA.out ks4 hks4).2]
      obtain ⟨wz, hwz⟩ : ∃ wz, wz = w13 := ⟨_, rfl⟩
      subst hwz
      have HG16 : Hid (Gr wz w16) := HG15.out.trans hg16
      have HCT : Hid (∀ (p : Nat) (y : Tm) (W : World), (p = ma ∨ p = mb) → Gr wz W → Calls Try.prog 10 #[.pointer (some ⟨p, 0, none⟩), tv y] W fun e w' => e = .returned (.int .i64 (isum d y)) ∧ Gr W w') := fun p y W hp h => by
        rcases hp with rfl | rfl
        · exact count_any y W (HA13.out.below h.below)
        · exact count_any y W (HB13.out.below h.below)
      have HNZ : Hid (∀ y ∈ stT ks, isum d y ≠ 0) := fun y hy => (HKS.out.2 y).1 (srtBy_mem.1 hy)
      clear hlb hg16 hks4 HG14 HG15 HSA
      go_wp2_with fail
      go_loopw [12] (fun s12 wr => ∃ k : Nat, k ≤ (stT ks).length ∧ s12 = .int .i64 k ∧ Gr wz wr) (fun s12 _ => (stT ks).length - (RowKit.intOf s12).toNat)
      case atStart => exact ⟨0, Nat.zero_le _, rfl, HG16.out⟩
      case round =>
        obtain ⟨k, hk, rfl, hgr⟩ := hrel
        by_cases hlt : k < (stT ks).length
        · have hltz : (k : Int) < ((stT ks).length : Int) := by omega
          obtain ⟨y, hy⟩ : ∃ y, (stT ks)[k]? = some y := ⟨(stT ks)[k], by simp⟩
          obtain ⟨b1, o1, c1, e1, z1, x1, x2, x3⟩ := (HL13.out.below hgr.below).at3 hy
          simp only [Value.slice.injEq] at e1
          obtain ⟨rfl, -, rfl⟩ := e1
          have S0 : (wr.drew.cell? ⟨b1, o1 + k * 3, none⟩ = some (.int .u64 y.1.1) ∧ wr.drew.cell? ⟨b1, o1 + k * 3 + 1, none⟩ = some (.int .u64 y.1.2.1) ∧ wr.drew.cell? ⟨b1, o1 + k * 3 + 2, none⟩ = some (.int .u64 y.1.2.2) ∧ b1 < wr.drew.heap.size ∧ Gr wz wr.drew) := ⟨x1, x2, x3, z1, hgr.drew⟩
          have keepG : ∀ W W' : World, (W.cell? ⟨b1, o1 + k * 3, none⟩ = some (.int .u64 y.1.1) ∧ W.cell? ⟨b1, o1 + k * 3 + 1, none⟩ = some (.int .u64 y.1.2.1) ∧ W.cell? ⟨b1, o1 + k * 3 + 2, none⟩ = some (.int .u64 y.1.2.2) ∧ b1 < W.heap.size ∧ Gr wz W) → Gr W W' → (W'.cell? ⟨b1, o1 + k * 3, none⟩ = some (.int .u64 y.1.1) ∧ W'.cell? ⟨b1, o1 + k * 3 + 1, none⟩ = some (.int .u64 y.1.2.1) ∧ W'.cell? ⟨b1, o1 + k * 3 + 2, none⟩ = some (.int .u64 y.1.2.2) ∧ b1 < W'.heap.size ∧ Gr wz W') := fun W W' h hg =>
            ⟨(hg.cell h.2.2.2.1).trans h.1, (hg.cell h.2.2.2.1).trans h.2.1, (hg.cell h.2.2.2.1).trans h.2.2.1, Nat.lt_of_lt_of_le h.2.2.2.1 hg.size, h.2.2.2.2.trans hg⟩
          have hct : ∀ p W, (p = ma ∨ p = mb) → (W.cell? ⟨b1, o1 + k * 3, none⟩ = some (.int .u64 y.1.1) ∧ W.cell? ⟨b1, o1 + k * 3 + 1, none⟩ = some (.int .u64 y.1.2.1) ∧ W.cell? ⟨b1, o1 + k * 3 + 2, none⟩ = some (.int .u64 y.1.2.2) ∧ b1 < W.heap.size ∧ Gr wz W) → _ := fun p W hp h => HCT.out p y W hp h.2.2.2.2
          have hnz := HNZ.out y (List.mem_of_getElem? hy)
          generalize isum d y = c at hct hnz
          have hq1 : (c != c) = false := by simp
          have hq2 : (c == 0) = false := by simpa using hnz
          have KG : Hid (∀ W, (W.cell? ⟨b1, o1 + k * 3, none⟩ = some (.int .u64 y.1.1) ∧ W.cell? ⟨b1, o1 + k * 3 + 1, none⟩ = some (.int .u64 y.1.2.1) ∧ W.cell? ⟨b1, o1 + k * 3 + 2, none⟩ = some (.int .u64 y.1.2.2) ∧ b1 < W.heap.size ∧ Gr wz W) → Gr wz W) := fun W h => h.2.2.2.2
          clear hy hgr x1 x2 x3 z1
          go_wp2_with fail
          go_region_held3 (fun w' => w'.cell? ⟨b1, o1 + k * 3, none⟩ = some (.int .u64 y.1.1) ∧ w'.cell? ⟨b1, o1 + k * 3 + 1, none⟩ = some (.int .u64 y.1.2.1) ∧ w'.cell? ⟨b1, o1 + k * 3 + 2, none⟩ = some (.int .u64 y.1.2.2) ∧ b1 < w'.heap.size ∧ Gr wz w')
            (first | exact S0 | exact keepG _ _ (by assumption) (by assumption))
            (first | (go_at_call 10; refine (hct _ _ (by first | exact Or.inl rfl | exact Or.inr rfl) (by assumption)).mono ?_; rintro e w18 ⟨rfl, hg18⟩))
          go_wp2
          go_roundw
          case rel => exact ⟨k + 1, by omega, by go_num, KG.out _ (by first | assumption | exact keepG _ _ (by assumption) (by assumption))⟩
          case measure => simp [RowKit.intOf]; omega
        · have hltz : ¬ (k : Int) < ((stT ks).length : Int) := by omega
          go_wp2
          go_ret
          exact ⟨rfl, HW13.out.trans (hgr.below.mono HW13.out.size)⟩
end Go.Proofs.Yteffgkhpcdboaaa
