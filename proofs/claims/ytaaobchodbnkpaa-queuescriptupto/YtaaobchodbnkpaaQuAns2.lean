import Derived.Test.YtaaobchodbnkpaaQuAppV
namespace Go.Proofs.Ytaaobchodbnkpaa.Qe
open Go.RowKit Go.Sort
attribute [local go_sem ↓] Go.wp_at_zero Go.wp_at_succ

set_option maxHeartbeats 4000000 in
set_option maxRecDepth 100000 in
theorem ans2 {w : World} {tag : Nat → Nat} {a b qb rb N K kb nT nD : Nat} {Q : Nat → List Ms} {L : List Ms} {sT sU sD sX : Value} {VT VU VD VX : Nat → Value} {CT : Nat → List Ms} {CD : Nat → List Cg} (h : Pr w tag a b qb rb N K Q L) (hbo : Bo w tag kb nT nT nD nD sT sU sD sX VT VU VD VX CT CT CD CD) (hab : a ≠ b) (ha : a ≠ 0 ∧ a ≠ 3 ∧ a < 15) (hb : b ≠ 0 ∧ b ≠ 3 ∧ b < 15) (hK : K ≤ 900000) (hnT : nT ≤ 1000000) (on : Int) (x : Ms) (hl : (∀ i, i < nT → (CT i).length ≤ K) ∧ ∀ i, i < nD → (CD i).length ≤ K) : Calls Try.prog 17 #[.pointer (some ⟨qb, 0, none⟩), .pointer (some ⟨rb, 0, none⟩), opv 2 on x, .pointer (some ⟨kb, 0, none⟩)] w fun e w' => e = .returned (.bool true) ∧ Hid (Ab w tag a b qb rb N K kb (nT + 1) nD w') := by
  obtain ⟨W1, hW1⟩ : ∃ W, W = w.alloc (.cells #[.int .i64 2, .int .i64 on, .int .i64 x.at_, .int .u64 x.a, .int .u64 x.b, .int .u64 x.c, .int .u64 x.k, .int .u64 x.v] 66) := ⟨_, rfl⟩
  obtain ⟨ob, hob⟩ : ∃ o, o = w.heap.size := ⟨_, rfl⟩
  have hB : Below w.heap.size w W1 := by rw [hW1]; exact ((Gr.refl w).alloc _).below
  have hbk : W1.heap[ob]? = some (.cells #[.int .i64 2, .int .i64 on, .int .i64 x.at_, .int .u64 x.a, .int .u64 x.b, .int .u64 x.c, .int .u64 x.k, .int .u64 x.v] 66 (0, 0)) := by rw [hW1, hob]; exact heap_new' _ _
  have HP := hid (h.below hB 0)
  have HBO := hid (hbo.below hB 0)
  have HN0 : Hid (Nx (fun k => k = a ∨ k = b ∨ k = 3 ∨ (15 ≤ k ∧ k < 19)) tag (tg tag w 0) w W1) := Nx.below _ tag 0 hB
  have HOB := hid hbk
  have HT : Hid (tg tag w 0 ob = 0) := tg_new (by rw [hob]; exact Nat.le_refl _)
  have HW : Hid (w.alloc (.cells #[.int .i64 2, .int .i64 on, .int .i64 x.at_, .int .u64 x.a, .int .u64 x.b, .int .u64 x.c, .int .u64 x.k, .int .u64 x.v] 66) = W1 ∧ w.heap.size = ob) := ⟨hW1.symm, hob.symm⟩
  have HAB : Hid (a ≠ b ∧ (a ≠ 0 ∧ a ≠ 3 ∧ a < 15) ∧ b ≠ 0 ∧ b ≠ 3 ∧ b < 15) := ⟨hab, ha, hb⟩
  have HL := hid hl
  generalize htg : tg tag w 0 = tag1 at HP HN0 HT HBO
  clear htg hW1 hob hB hbk h hab ha hb hbo hl
  go_enter Try.func17, Try.ntmps17
  have htk := HP.out.drainP x.at_ (20 + 4 * nT) (by omega)
  obtain ⟨l0, c0, _⟩ := blk8 HOB.out
  go_upto_region 9 with fail
  rw [HW.out.1, HW.out.2]
  go_wp2_with fail
  refine htk.mono ?_
  rintro e w2 ⟨u, rfl, ⟨p2, c2, rfl⟩, H2⟩
  have hb2 : w2.heap[ob]? = some (.cells #[.int .i64 2, .int .i64 on, .int .i64 x.at_, .int .u64 x.a, .int .u64 x.b, .int .u64 x.c, .int .u64 x.k, .int .u64 x.v] 66 (0, 0)) := (H2.out.2.2.kp.block ob l0 (fun e => HAB.out.2.1.1 (e.symm.trans HT.out))).trans HOB.out
  clear htk c0 l0
  go_upto_region 10 with fail
  have htr := HP.out.drainR HAB.out.1 x.at_ (21 + 4 * nT) (by omega) H2.out.2.1 H2.out.2.2
  obtain ⟨l0, c0, _⟩ := blk8 hb2
  go_wp2_with fail
  refine htr.mono ?_
  rintro e w3 ⟨u', rfl, ⟨p3, c3, rfl⟩, H3⟩
  clear htr c0 l0 hb2
  obtain ⟨tag3, H3⟩ := H3.out
  obtain ⟨l, hll⟩ : ∃ l, l = atp L x.at_ := ⟨_, rfl⟩
  obtain ⟨m, hm⟩ : ∃ m, m = l.length := ⟨_, rfl⟩
  rw [← hll] at H2 H3 ⊢
  rw [← hm]
  have HM := hid hm
  have HU : Hid (Lm w3 tag3 (20 + 4 * nT) (.slice p2 m c2) l) := by
    have := H2.out.1
    rw [← hm] at this
    exact this.nx H3.2.2 (by have := HAB.out.2.2; omega)
  have HV : Hid (Lm w3 tag3 (21 + 4 * nT) (.slice p3 m c3) l) := by
    have := H3.1
    rw [← hm] at this
    exact this
  have hBO3 : Bo w3 tag3 kb nT nT nD nD sT sU sD sX VT VU VD VX CT CT CD CD := (HBO.out.nx H2.out.2.2 (by have := HAB.out.2.1; omega) (fun k e => by have := HAB.out.2.1; omega)).nx H3.2.2 (by have := HAB.out.2.2; omega) (fun k e => by have := HAB.out.2.2; omega)
  have HN3 : Hid (Nx (fun k => k = a ∨ k = b ∨ k = 3 ∨ (15 ≤ k ∧ k < 19)) tag tag3 w w3) := HN0.out.trans ((H2.out.2.2.mono (fun _ e => Or.inl e)).trans (H3.2.2.mono (fun _ e => Or.inr (Or.inl e))))
  have HP3 := hid H3.2.1
  have HLL : Hid (l.length ≤ K) := by
    show _ ≤ _
    rw [hll]
    exact Nat.le_trans (List.length_filter_le _ _) HP.out.le
  have HB3 := hid hBO3
  have HRT := hid hBO3.cT.row.1
  have kk0 : w3.cell? ⟨kb, 0, none⟩ = some sT := by simp [World.cell?, hBO3.blk]
  have kbl := hBO3.lt
  clear hBO3 H2 H3 hll hm HBO HN0 HOB HT HP
  go_upto_region 11 with fail
  go_wp2_with (at_builtin; refine wpAppV rfl _ _ 61 22 rfl Try.underlying61 Qs.infoLt rfl (by decide) sT nT _ rfl HRT.out #[.slice p2 m c2] 1 (by decide) rfl (by intro u hu; simp at hu; rcases hu with rfl; rfl) (by first | rfl | simp) (by omega) (by unfold maxLen; omega) _ ?_)
  intro g4 c4 w4 ho4 hk4 hg4
  have hx4 := HB3.out.cT.turn hk4
  obtain ⟨hb4, hset4⟩ := HB3.out.setT hx4 (HB3.out.cT.push HU.out ho4 hx4 (fun g hg => by rw [own_one hg]; exact hg4) (by omega))
  obtain ⟨b5, k5, _⟩ := setCell_blk (k := 0) (v := .slice (some ⟨g4, 0, none⟩) (nT + 1) c4) hb4
  obtain ⟨n5, B5⟩ := hset4 _ k5 (by simpa using b5)
  have f40 : w4.frozen? ⟨kb, 0, none⟩ = false := by simp [World.frozen?, hb4]
  have c40 : w4.cell? ⟨kb, 0, none⟩ = some sT := by simp [World.cell?, hb4]
  have kbl4 : kb < w4.heap.size := (Array.getElem?_eq_some_iff.1 hb4).1
  have HB5 := hid B5
  have HX5 := hid n5
  clear hx4 ho4 hk4 hg4 hb4 hset4 b5 k5 n5 B5 kk0 kbl HRT
  go_upto_region 12 with fail
  generalize w4.setCell ⟨kb, 0, none⟩ (.slice (some ⟨g4, 0, none⟩) (nT + 1) c4) = w5 at HB5 HX5 ⊢
  clear f40 c40 kbl4
  generalize tg tag3 w3 15 = tag5 at HB5 HX5
  have HU5 := hid (Ow.nx HU.out HX5.out (by omega))
  have HV5 := hid (Ow.nx HV.out HX5.out (by omega))
  have HN5 := hid (HN3.out.trans (HX5.out.mono (B := fun k => k = a ∨ k = b ∨ k = 3 ∨ (15 ≤ k ∧ k < 19)) (fun k e => by omega)))
  have HP5 := hid (HP3.out.nx HX5.out (by have := HAB.out.2.1; omega) (by have := HAB.out.2.2; omega))
  have HRU := hid HB5.out.cU.row.1
  have kk1 : w5.cell? ⟨kb, 1, none⟩ = some sU := by simp [World.cell?, HB5.out.blk]
  have kbl := HB5.out.lt
  clear HU HV HN3 HP3 HX5 HB3
  go_wp2_with (at_builtin; refine wpAppV rfl _ _ 61 22 rfl Try.underlying61 Qs.infoLt rfl (by decide) sU nT _ rfl HRU.out #[.slice p3 m c3] 1 (by decide) rfl (by intro u hu; simp at hu; rcases hu with rfl; rfl) (by first | rfl | simp) (by omega) (by unfold maxLen; omega) _ ?_)
  intro g6 c6 w6 ho6 hk6 hg6
  have hx6 := HB5.out.cU.turn hk6
  obtain ⟨hb6, hset6⟩ := HB5.out.setU hx6 (HB5.out.cU.push HV5.out ho6 hx6 (fun g hg => by rw [own_one hg]; exact hg6) (by omega))
  obtain ⟨b7, k7, _⟩ := setCell_blk (k := 1) (v := .slice (some ⟨g6, 0, none⟩) (nT + 1) c6) hb6
  obtain ⟨n7, B7⟩ := hset6 _ k7 (by simpa using b7)
  have f60 : w6.frozen? ⟨kb, 1, none⟩ = false := by simp [World.frozen?, hb6]
  have c60 : w6.cell? ⟨kb, 1, none⟩ = some sU := by simp [World.cell?, hb6]
  have kbl6 : kb < w6.heap.size := (Array.getElem?_eq_some_iff.1 hb6).1
  have HB7 := hid B7
  have HX7 := hid n7
  clear hx6 ho6 hk6 hg6 hb6 hset6 b7 k7 n7 B7 kk1 kbl HRU
  go_upto_region 13 with fail
  generalize w6.setCell ⟨kb, 1, none⟩ (.slice (some ⟨g6, 0, none⟩) (nT + 1) c6) = w7 at HB7 HX7 ⊢
  clear f60 c60 kbl6
  generalize tg tag5 w5 16 = tag7 at HB7 HX7
  have HN7 := hid (HN5.out.trans (HX7.out.mono (B := fun k => k = a ∨ k = b ∨ k = 3 ∨ (15 ≤ k ∧ k < 19)) (fun k e => by omega)))
  have HP7 := hid (HP5.out.nx HX7.out (by have := HAB.out.2.1; omega) (by have := HAB.out.2.2; omega))
  have heq := messages_eq w7 (owns_ls (E := EM) (Ow.nx HU5.out HX7.out (by omega)).1) (owns_ls (E := EM) (Ow.nx HV5.out HX7.out (by omega)).1) (by have := HLL.out; omega)
  clear HU5 HV5 HN5 HP5 HX7 HB5
  go_wp2_with fail
  refine heq.mono ?_
  rintro e w8 ⟨rfl, g8⟩
  clear heq
  have G8 := hid g8
  clear g8
  go_wp2_with fail
  go_ret
  refine ⟨by simp, tg tag7 w7 0, _, _, nT + 1, nD, _, _, _, _, _, _, _, _, fun i => if i = nT then l else CT i, _, HP7.out.below G8.out.below 0, HB7.out.below G8.out.below 0, Nat.le_refl _, Nat.le_refl _, fun i hi => ?_, HL.out.2, HN7.out.trans (Nx.below _ _ 0 G8.out.below)⟩
  by_cases e : i = nT <;> dsimp only
  · rw [if_pos e]; exact HLL.out
  · rw [if_neg e]; exact HL.out.1 i (by omega)
end Go.Proofs.Ytaaobchodbnkpaa.Qe
