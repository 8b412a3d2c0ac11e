import Derived.Test.YtghofmhlmkpkcaaDoorBPuts0
import Derived.Test.YtghofmhlmkpkcaaDoorBRefP
import Derived.Test.YtghofmhlmkpkcaaDoorBOne
namespace Go.Proofs.YtghofmhlmkpkcaaDoor.Wi
open Go.RowKit Go.Sort
attribute [local go_sem ↓] Go.wp_at_zero Go.wp_at_succ
abbrev f3 {α : Type} (a b c : α) (i : Nat) : α := if i = 0 then a else if i = 1 then b else c
/-- A row between two blocks. -/
structure Rb (lo hi : Nat) (W : World) (d : Value) (L : List UInt8) : Prop where
  own : W.ownsRow 0 5 1 d L.length (fl EB L)
  rng : ∀ g, d.ownBlock = some g → lo ≤ g ∧ g < hi
theorem Rb.mk' {lo : Nat} {W : World} {d : Value} {L : List UInt8} (h : W.ownsRow lo 5 1 d L.length (fl EB L)) : Rb lo W.heap.size W d L := ⟨owns_base h (Nat.zero_le _), fun g hg => h.lt g hg⟩
theorem Rb.below {lo hi : Nat} {W W' : World} {d : Value} {L : List UInt8} (h : Rb lo hi W d L) (hb : Below W.heap.size W W') : Rb lo hi W' d L := ⟨owns_below h.own hb, h.rng⟩
theorem fam3 {l1 h1 l2 h2 l3 h3 : Nat} {W : World} {d1 d2 d3 : Value} {L1 L2 L3 : List UInt8} (r1 : Rb l1 h1 W d1 L1) (r2 : Rb l2 h2 W d2 L2) (r3 : Rb l3 h3 W d3 L3) (e1 : h1 ≤ l2) (e2 : h2 ≤ l3) (o2 : l2 ≤ h2) : Fam EB 5 W 3 (f3 d1 d2 d3) (f3 L1 L2 L3) := by
  refine ⟨fun i hi => ?_, fun i j hi hj hne g hgi hgj => ?_⟩
  · rcases (by omega : i = 0 ∨ i = 1 ∨ i = 2) with rfl | rfl | rfl
    · exact r1.own
    · exact r2.own
    · exact r3.own
  · have key : ∀ k, k < 3 → (f3 d1 d2 d3 k).ownBlock = some g → f3 l1 l2 l3 k ≤ g ∧ g < f3 h1 h2 h3 k := fun k hk e => by
      rcases (by omega : k = 0 ∨ k = 1 ∨ k = 2) with rfl | rfl | rfl
      · exact r1.rng g e
      · exact r2.rng g e
      · exact r3.rng g e
    have k1 := key i hi hgi
    have k2 := key j hj hgj
    rcases (by omega : i = 0 ∨ i = 1 ∨ i = 2) with rfl | rfl | rfl <;> rcases (by omega : j = 0 ∨ j = 1 ∨ j = 2) with rfl | rfl | rfl <;> simp [f3] at k1 k2 hne <;> omega
/-- The list while it is turned. -/
def lk (l : List Cx) (k : Nat) : List Cx := (l.take k).map trn ++ l.drop k
theorem lk_len (l : List Cx) (k : Nat) : (lk l k).length = l.length := by unfold lk; simp; omega
theorem lk_zero (l : List Cx) : lk l 0 = l := by simp [lk]
theorem lk_at {l : List Cx} {k : Nat} {c : Cx} (h : l[k]? = some c) : (lk l k)[k]? = some c := by
  have hk := (List.getElem?_eq_some_iff.1 h).1
  unfold lk
  rw [List.getElem?_append_right (by simp; omega)]
  simp only [List.length_map, List.length_take, List.getElem?_drop]
  rw [show k + (k - min k l.length) = k by omega]
  exact h
theorem lk_set {l : List Cx} {k : Nat} {c : Cx} (h : l[k]? = some c) : (lk l k ++ [mk7]).set k (trn c) = lk l (k + 1) ++ [mk7] := by
  have hk := (List.getElem?_eq_some_iff.1 h).1
  have he : l[k] = c := (List.getElem?_eq_some_iff.1 h).2
  unfold lk
  rw [List.append_assoc, List.set_append_right _ _ (by simp; omega)]
  simp only [List.length_map, List.length_take]
  rw [show k - min k l.length = 0 by omega, List.drop_eq_getElem_cons hk, he, List.take_add_one, h]
  simp
theorem bput_le {l : List Cx} (h : l.length ≤ 1048576) : (bput l).1.length ≤ 52428810 := by
  unfold bput
  split
  · rename_i h0
    have := bts_le h0 (by omega)
    simp only
    omega
  · simp
set_option maxHeartbeats 16000000 in
set_option maxRecDepth 100000 in
theorem batchPuts_any {v0 v1 : Value} {l m : List Cx} (w : World) (hg : Ety w) (h0 : Ls EC w v0 l) (h1 : Ls EC w v1 m) (hl0 : l.length ≤ 1048576) (hl1 : m.length ≤ 1048576) :
    Calls Tryd.prog 5 #[v0, v1] w fun e w' => e = .returned (.bool true) ∧ Below w.heap.size w w' := by
  have hst := @to_text
  have htk := taken_any w hg
  have H0 := hid h0
  have H1 := hid h1
  have HL0 := hid hl0
  have HL1 := hid hl1
  have hbl := bput_le hl0
  have hbm := bput_le hl1
  obtain ⟨X, hX⟩ : ∃ X, (bput l).1 = X := ⟨_, rfl⟩
  obtain ⟨ex, hex⟩ : ∃ e, (bput l).2 = e := ⟨_, rfl⟩
  obtain ⟨Y, hY⟩ : ∃ Y, (bput m).1 = Y := ⟨_, rfl⟩
  obtain ⟨ey, hey⟩ : ∃ e, (bput m).2 = e := ⟨_, rfl⟩
  rw [hX] at hbl
  rw [hY] at hbm
  have HXY := hid (⟨hX, hex, hY, hey⟩ : (bput l).1 = X ∧ (bput l).2 = ex ∧ (bput m).1 = Y ∧ (bput m).2 = ey)
  have HBL : Hid (X.length ≤ 52428810 ∧ Y.length ≤ 52428810) := ⟨hbl, hbm⟩
  clear hg h0 h1 hl0 hl1 hX hex hY hey hbl hbm
  go_enter Tryd.func5, Tryd.ntmps5
  go_wp2_with fail
  refine htk.mono ?_
  rintro r w1 ⟨rfl, b1⟩
  have B1 := hid b1
  have hle := lent_any w1 (H0.out.below b1) HL0.out
  clear htk b1
  go_wp2_with fail
  refine hle.mono ?_
  rintro r w2 ⟨g, cap, rfl, hlt, b2⟩
  have LT2 := hid hlt
  have BW2 := hid (B1.out.trans (b2.mono B1.out.size))
  have hp0 := put_any w2 LT2.out.ls (fun p n c h => by cases h; have := LT2.out.cap; omega) (by have := HL0.out; omega)
  rw [HXY.out.1, HXY.out.2.1] at hp0
  clear hle hlt b2
  go_wp2_with fail
  refine hp0.mono ?_
  rintro r w3 ⟨dx, rfl, hdx, b3⟩
  have RX3 := hid (Rb.mk' (owns_base hdx (Nat.le_refl _)))
  have HZ3 : Hid (w2.heap.size ≤ w3.heap.size) := b3.size
  have BW3 := hid (BW2.out.trans (b3.mono BW2.out.size))
  have LT3 := hid (LT2.out.below b3)
  have L13 := hid (H1.out.below BW3.out)
  clear hp0 hdx b3
  go_wp2_with (at_builtin; refine wpCL (w := w3) rfl _ _ rfl rfl _ m rfl L13.out HL1.out ?_)
  intro vm w4 hm4 b4
  have hp1 := put_any w4 (owns_ls (E := EC) hm4.out) (owned_cap hm4.out) (by have := HL1.out; omega)
  rw [HXY.out.2.2.1, HXY.out.2.2.2] at hp1
  have B34 := hid b4.out
  clear hm4 b4
  go_wp2_with fail
  refine hp1.mono ?_
  rintro r w5 ⟨dy, rfl, hdy, b5⟩
  have B35 := hid (B34.out.trans (b5.mono B34.out.size))
  have HZ5 : Hid (w3.heap.size ≤ w4.heap.size ∧ w4.heap.size ≤ w5.heap.size) := ⟨B34.out.size, b5.size⟩
  have RX5 := hid (RX3.out.below B35.out)
  have RY5 := hid (Rb.mk' (owns_base hdy (Nat.le_refl _)))
  have LT5 := hid (LT3.out.below B35.out)
  have BW5 := hid (BW3.out.trans (B35.out.mono BW3.out.size))
  have hp2 := put_any w5 LT5.out.ls (fun p n c h => by cases h; have := LT5.out.cap; omega) (by have := HL0.out; omega)
  rw [HXY.out.1, HXY.out.2.1] at hp2
  clear hp1 hdy b5
  go_wp2_with fail
  refine hp2.mono ?_
  rintro r w6 ⟨dz, rfl, hdz, b6⟩
  have RX6 := hid (RX5.out.below b6)
  have RY6 := hid (RY5.out.below b6)
  have RZ6 := hid (Rb.mk' (owns_base hdz (Nat.le_refl _)))
  have LT6 := hid (LT5.out.below b6)
  have BW6 := hid (BW5.out.trans (b6.mono BW5.out.size))
  have hr0 := rput15_any w6 (H0.out.below BW6.out) (by have := HL0.out; omega)
  rw [HXY.out.1, HXY.out.2.1] at hr0
  clear hp2 hdz b6
  go_wp2_with fail
  refine hr0.mono ?_
  rintro r w7 ⟨da, rfl, hda, b7⟩
  have BW7 := hid (BW6.out.trans (b7.mono BW6.out.size))
  have hr1 := rput15_any w7 (H1.out.below BW7.out) (by have := HL1.out; omega)
  rw [HXY.out.2.2.1, HXY.out.2.2.2] at hr1
  have LA7 := hid (owns_ls (E := EB) hda)
  have B67 := hid b7
  clear hr0 hda b7
  go_wp2_with fail
  refine hr1.mono ?_
  rintro r w8 ⟨db, rfl, hdb, b8⟩
  have B68 := hid (B67.out.trans (b8.mono B67.out.size))
  have BW8 := hid (BW6.out.trans (B68.out.mono BW6.out.size))
  have RX8 := hid (RX6.out.below B68.out)
  have RY8 := hid (RY6.out.below B68.out)
  have RZ8 := hid (RZ6.out.below B68.out)
  have LT8 := hid (LT6.out.below B68.out)
  have hca := hst (LA7.out.below b8)
  have hcb := hst (owns_ls (E := EB) hdb)
  have hcx := hst (ow_ls RX8.out.own)
  have hcy := hst (ow_ls RY8.out.own)
  have hcz := hst (ow_ls RZ8.out.own)
  obtain ⟨px, cx, hfx⟩ := (ow_ls RX8.out.own).form
  obtain ⟨py, cy, hfy⟩ := (ow_ls RY8.out.own).form
  obtain ⟨pz, cz, hfz⟩ := (ow_ls RZ8.out.own).form
  obtain ⟨pa, ca, hfa⟩ := LA7.out.form
  obtain ⟨pb, cb, hfb⟩ := (owns_ls (E := EB) hdb).form
  subst hfx hfy hfz hfa hfb
  have hk0 := kept_any w8 LT8.out (H0.out.below BW8.out) HL0.out
  have HST : Hid (∀ {w : World} {v : Value} {l : List UInt8}, Ls EB w v l → (convert 22 9 v).run Tryd.prog w = .ok (tx l) w) := hst
  clear hr1 hdb b8 hst
  go_wp2_with fail
  refine hk0.mono ?_
  rintro r w9 ⟨rfl, g9⟩
  clear hk0 hca hcb hcx hcy hcz
  obtain ⟨W9, hW9⟩ : ∃ W, W = w9.alloc (.cells #[.slice px X.length cx, .slice py Y.length cy, .slice pz X.length cz] 22) := ⟨_, rfl⟩
  obtain ⟨sb, hsb⟩ : ∃ b, b = w9.heap.size := ⟨_, rfl⟩
  have G9 : Gr w8 W9 := by rw [hW9]; exact g9.alloc _
  have FA : Hid (Fam EB 5 W9 3 (f3 (.slice px X.length cx) (.slice py Y.length cy) (.slice pz X.length cz)) (f3 X Y X) ∧ W9.ownsRow 0 22 1 (.slice (some ⟨sb, 0, none⟩) 3 3) 3 ((List.range 3).map (f3 (.slice px X.length cx) (.slice py Y.length cy) (.slice pz X.length cz))) ∧ (∀ q, SqF 3 (f3 (.slice px X.length cx) (.slice py Y.length cy) (.slice pz X.length cz)) q → w2.heap.size ≤ q ∧ q < sb)) := by
    refine ⟨fam3 (RX8.out.below G9.below) (RY8.out.below G9.below) (RZ8.out.below G9.below) HZ5.out.1 (Nat.le_refl _) HZ5.out.2, ?_, fun q hq => ?_⟩
    · rw [hW9, hsb]
      exact ⟨by simp, .inr ⟨w9.heap.size, 3, #[.slice px X.length cx, .slice py Y.length cy, .slice pz X.length cz], rfl, Nat.zero_le _, heap_alloc_new w9 _, Nat.le_refl _, by decide, rfl, by simp [f3, List.range, List.range.loop]⟩⟩
    · obtain ⟨i, hi, hq⟩ := hq
      have z3 := HZ3.out
      have z5 := HZ5.out
      have z9 : w8.heap.size ≤ sb := by rw [hsb]; exact g9.size
      rcases (by omega : i = 0 ∨ i = 1 ∨ i = 2) with rfl | rfl | rfl
      · have h1 := RX8.out.rng q hq
        have h2 := (RX8.out.own.lt q hq).2
        omega
      · have h1 := RY8.out.rng q hq
        have h2 := (RY8.out.own.lt q hq).2
        omega
      · have h1 := RZ8.out.rng q hq
        have h2 := (RZ8.out.own.lt q hq).2
        omega
  have LT9 := hid (LT8.out.below G9.below)
  have BW9 := hid (BW8.out.trans (G9.below.mono BW8.out.size))
  have hgl : Hid (g < w2.heap.size) := LT2.out.cap.2.2
  have hap := apart_any 3 _ (f3 (.slice px X.length cx) (.slice py Y.length cy) (.slice pz X.length cz)) (f3 X Y X) W9 FA.out.2.1 FA.out.1 (fun q hq e => by have := FA.out.2.2 q hq; simp [Value.ownBlock] at e; omega) (by decide) (fun i hi => by
    have h1 := HBL.out
    rcases (by omega : i = 0 ∨ i = 1 ∨ i = 2) with rfl | rfl | rfl <;> simp [f3] <;> omega)
  clear g9 G9
  go_wp2_with fail
  rw [← hW9, ← hsb]
  clear hW9 hsb
  refine hap.mono ?_
  rintro r w10 ⟨rfl, k10⟩
  have LT10 := hid (LT9.out.kp k10 (fun h => by have h1 := FA.out.2.2 g h; have h2 := hgl.out; omega))
  have BW10 := hid (BW9.out.trans (k10.below (B := w.heap.size) BW9.out.size (fun k hk => Nat.le_trans BW2.out.size (FA.out.2.2 k hk).1)))
  have hk1 := kept_any w10 LT10.out (H0.out.below BW10.out) HL0.out
  clear hap k10
  go_wp2_with fail
  refine hk1.mono ?_
  rintro r w11 ⟨rfl, g11⟩
  have LT11 := hid (LT10.out.below g11.below)
  have BW11 := hid (BW10.out.trans (g11.below.mono BW10.out.size))
  have hgw : Hid (w.heap.size ≤ g) := Nat.le_trans B1.out.size LT2.out.cap.2.1
  obtain ⟨n, hn⟩ : ∃ n, l.length = n := ⟨_, rfl⟩
  have HN := hid hn
  have hnl : n ≤ 1048576 := by rw [← hn]; exact HL0.out
  rw [hn]
  clear hk1 g11 hn
  go_wp2_with fail
  go_loopw [16] (fun s16 wr => ∃ k : Nat, k ≤ n ∧ s16 = .int .i64 k ∧ Hid (Lt w1.heap.size wr g cap (lk l k) ∧ Below w.heap.size w wr)) (fun s16 _ => n - (RowKit.intOf s16).toNat)
  case atStart => exact ⟨0, Nat.zero_le _, rfl, by rw [lk_zero]; exact LT11.out, BW11.out⟩
  case round =>
    obtain ⟨k, hk, rfl, HI⟩ := hrel
    by_cases hlt : k < n
    · have hltz : (k : Int) < (n : Int) := by omega
      have hk0 : (0 : Int) ≤ (k : Int) := by omega
      obtain ⟨c, hc⟩ : ∃ c, l[k]? = some c := ⟨l[k]'(by rw [HN.out]; exact hlt), by simp⟩
      obtain ⟨b1, o1, c1, e1, z1, x0, x1, x2, x3, x4⟩ := ls_atC HI.out.1.ls (lk_at hc)
      simp only [Value.slice.injEq, Option.some.injEq, Addr.mk.injEq] at e1
      obtain ⟨⟨rfl, rfl, -⟩, -, rfl⟩ := e1
      rw [Nat.zero_add] at x3 x4
      have HC := hid hc
      have ho := owns_base HI.out.1.ro (Nat.zero_le _)
      obtain ⟨hs1, hs2⟩ := owns_cell0 (q := k * 5 + 4) (.int .i64 (trn c).N) ho
      obtain ⟨ht1, ht2⟩ := owns_cell0 (q := k * 5 + 3) (.int .u64 ((trn c).C : Nat)) hs1
      rw [flC_trn _ k c (by rw [List.getElem?_append_left (by rw [lk_len, HN.out]; exact hlt)]; exact lk_at hc), lk_set hc] at ht1
      have f4 : wr.frozen? ⟨g, k * 5 + 4, none⟩ = false := by
        obtain ⟨_, ⟨h, _⟩ | ⟨g', cap', cur, hv, _, hh, _⟩⟩ := ho
        · cases h
        · cases hv
          exact (tk_store hh).2 _
      obtain ⟨W6, hW6⟩ : ∃ W, W = wr.setCell ⟨g, k * 5 + 4, none⟩ (.int .i64 (trn c).N) := ⟨_, rfl⟩
      rw [← hW6] at hs1 hs2 ht1 ht2
      have y3 : W6.cell? ⟨g, k * 5 + 3, none⟩ = some (.int .u64 (c.C : Nat)) := by
        obtain ⟨_, ⟨h, _⟩ | ⟨g', cap', cur, hv, _, hh, _⟩⟩ := ho
        · cases h
        · cases hv
          rw [hW6, (tk_store (tk_set hh _ _).1).1]
          rw [(tk_store hh).1] at x3
          rw [Array.getElem?_setIfInBounds, if_neg (by omega)]
          exact x3
      have f3' : W6.frozen? ⟨g, k * 5 + 3, none⟩ = false := by
        obtain ⟨_, ⟨h, _⟩ | ⟨g', cap', cur, hv, _, hh, _⟩⟩ := hs1
        · cases h
        · cases hv
          exact (tk_store hh).2 _
      have yl : g < W6.heap.size := Nat.lt_of_lt_of_le z1 hs2.size
      have hN : IntKind.i64.wrap (-c.N) = (trn c).N := rfl
      have hC : IntKind.u64.wrap ((c.C : Int) + 1) = (((trn c).C : Nat) : Int) := by
        have h1 := c.ok
        have h2 : (trn c).C = (c.C + 1) % 18446744073709551616 := rfl
        rw [IntKind.wrap_u64, h2]
        omega
      have YY := hid (⟨y3, f3', yl⟩ : W6.cell? ⟨g, k * 5 + 3, none⟩ = some (.int .u64 (c.C : Nat)) ∧ W6.frozen? ⟨g, k * 5 + 3, none⟩ = false ∧ g < W6.heap.size)
      have HT1 := hid ht1
      have HKP := hid (hs2.trans ht2 (fun _ _ h => h))
      have hwk : wrap64 ((k : Int) + 1) = ((k + 1 : Nat) : Int) := by unfold wrap64; omega
      clear hc ho hs1 hs2 ht1 ht2 y3 f3' yl x0 x1 x2 x3
      go_upto_region 17 with fail
      rw [← hW6]
      obtain ⟨y3, f3', yl⟩ := YY.out
      clear hW6 x4 f4 z1
      go_wp2_with fail
      go_roundw
      case rel =>
        refine ⟨k + 1, by omega, by first | go_num | rw [hwk] | rfl, ⟨?_⟩, HI.out.2.trans (HKP.out.below (B := w.heap.size) HI.out.2.size (fun j hj => hj ▸ hgw.out))⟩
        have h1 := HT1.out
        refine owns_hi (b := 0) ?_ (fun j hj => by simp [Value.ownBlock] at hj; rw [← hj]; exact HI.out.1.cap.2.1)
        have e : (lk l k ++ [mk7]).length = (lk l (k + 1) ++ [mk7]).length := by simp [lk_len]
        rw [e] at h1
        exact h1
      case measure =>
        (try rw [hwk])
        simp [RowKit.intOf]
        omega
    · have hltz : ¬ (k : Int) < (n : Int) := by omega
      have HLS : Hid (Ls EC wr (.slice (some ⟨g, 0, none⟩) n cap) (lk l k)) := by
        have h := HI.out.1.ls
        rw [lk_len, HN.out] at h
        exact h
      have HLN : Hid ((lk l k).length = n) := by show _ = _; rw [lk_len]; exact HN.out
      obtain ⟨P, hP⟩ : ∃ P, lk l k = P := ⟨_, rfl⟩
      rw [hP] at HLS HLN
      have hcap : Hid (n ≤ cap) := by have h := HI.out.1.cap; rw [lk_len, HN.out] at h; show _ ≤ _; omega
      clear hP
      go_wp2_with (at_builtin; refine wpCL (w := wr) rfl _ _ rfl rfl _ P rfl HLS.out (by rw [HLN.out]; exact hnl) ?_)
      intro vt w20 ht20 b20
      have hp3 := put_any w20 (HLS.out.below b20.out) (fun p n' c h => by cases h; exact hcap.out) (by rw [HLN.out]; omega)
      have OT := hid ht20.out
      have B20 := hid b20.out
      obtain ⟨U, hU⟩ : ∃ U, (bput P).1 = U := ⟨_, rfl⟩
      obtain ⟨eu, heu⟩ : ∃ e, (bput P).2 = e := ⟨_, rfl⟩
      rw [hU, heu] at hp3
      have HU := hid (⟨hU, heu⟩ : (bput P).1 = U ∧ (bput P).2 = eu)
      clear ht20 b20 hU heu
      go_wp2_with fail
      refine hp3.mono ?_
      rintro r w21 ⟨du, rfl, hdu, b21⟩
      have LU := hid (owns_ls (E := EB) hdu)
      have B21 := hid (B20.out.trans (b21.mono B20.out.size))
      have hr3 := rput15_any w21 ((owns_ls (E := EC) OT.out).below b21) (by rw [HLN.out]; omega)
      rw [HU.out.1, HU.out.2] at hr3
      clear hp3 hdu b21
      go_wp2_with fail
      refine hr3.mono ?_
      rintro r w22 ⟨dv, rfl, hdv, b22⟩
      have hc1 := HST.out (LU.out.below b22)
      have hc2 := HST.out (owns_ls (E := EB) hdv)
      obtain ⟨pu, cu, hfu⟩ := LU.out.form
      obtain ⟨pw, cw, hfw⟩ := (owns_ls (E := EB) hdv).form
      subst hfu hfw
      have B22 := hid (B21.out.trans (b22.mono B21.out.size))
      clear hr3 hdv b22
      go_wp2_with fail
      go_ret
      exact ⟨by simp, HI.out.2.trans (B22.out.mono HI.out.2.size)⟩
end Go.Proofs.YtghofmhlmkpkcaaDoor.Wi
