import Derived.Test.YtnpmmodcmfgbjaaGreatMScr3
namespace Go.Proofs.YtnpmmodcmfgbjaaGreat
open Go.RowKit Go.Sort
attribute [local go_sem ↓] Go.wp_at_zero Go.wp_at_succ

/-- 'append(own, x)' of one element of several cells, any type. -/
theorem wpAppV {w : World} {ops : Array Oper} {rest : List Oper} {o : Oper} {a : Act} {Q : Exit → Act → World → Prop} (hgd : o.guard = none) (s x : Operand) (t e : TypeId)
    (ho : o.op = .call { callee := .builtin .append, args := #[s, x], argTypes := #[t, t] }) (hu : Tryz.prog.underlying t = some (.slice e)) {z : Value} {sz bt : Nat} (hI : (Tryz.prog.info? e).map (fun i => (i.zero, i.size, i.bytes)) = some (some z, sz, bt)) (hzs : z.cells.size = sz) (hsz : 0 < sz)
    (v : Value) (n : Nat) (xs : List Value) (hs : a.eval s = v) (hown : w.ownsRow 0 e sz v n xs) (cs : Array Value) (k : Nat) (hk0 : 0 < k) (hcs : cs.toList.length = k * sz) (h1 : ∀ u ∈ cs.toList, u.oneCell' = true)
    (hx : a.eval x = .slice (some ⟨w.heap.size, 0, none⟩) k k) (hbig : (n + k) * bt ≤ 140737488355328) (hmx : n + k ≤ maxLen) (te : TypeId)
    (h : ∀ g cap w', w'.ownsRow 0 e sz (.slice (some ⟨g, 0, none⟩) (n + k) cap) (n + k) (xs ++ cs.toList) → Kp (fun q => v.ownBlock = some q) w w' → (v.ownBlock = some g ∨ w.heap.size ≤ g) → wpList Tryz.prog ops Q rest (a.put o.dst (.slice (some ⟨g, 0, none⟩) (n + k) cap)) w') :
    wpList Tryz.prog ops Q (o :: rest) a (w.alloc (.cells cs te)) := by
  obtain ⟨i0, hi, hz0, hz1, hz2⟩ := info_parts hI
  refine wpList_append_lies _ hgd s x _ ho 0 e i0 _ sz bt hu hi hz0 hz1 hz2 hzs hsz v n xs hs (hown.alloc _) ⟨w.heap.size, 0, none⟩ k k cs.toList hx hcs (World.news_of_block (heap_new' w (.cells cs te))) h1 hk0 hmx hbig (Nat.zero_le _) _ rfl ?_
  intro g cap w' h1 h2 h3 _
  refine h g cap w' h1 ⟨h2.os, h2.tape, h2.output, Nat.le_trans (by simp) h2.size, fun k hk hne => (h2.block k (by simp; omega) (fun e => hne e.symm)).trans ((World.grownBy_alloc w _ none).block k hk (by simp))⟩ ?_
  rcases h3 with h3 | h3
  · exact Or.inl h3
  · right; rw [h3]; simp
theorem wf3 : (Lit.int .u64 3).wf = true := by decide
/-- What full is written over with. -/
def t339 : Dl := (⟨(3, 3, 0), wf3, wf3, wf0⟩, 9)
theorem own_one {g g7 n c : Nat} (h : (Value.slice (some ⟨g7, 0, none⟩) n c).ownBlock = some g) : g = g7 := by simpa [Value.ownBlock] using h.symm

set_option maxHeartbeats 8000000 in
set_option maxRecDepth 100000 in
theorem applied_any {w0 W : World} {m nT nU nD : Nat} {M : Nat → Ml} {R : Nat → Rd} {VT VU VD VX : Nat → Value} {CT CU : Nat → List Tm} {CD : Nat → List Dl} {ow : Nat → Nat} {sM sR : Value} {kb : Nat} {sT sU sD sX : Value} (h : Scr w0 W m nT nU nD M R VT VU VD VX CT CU CD ow sM sR kb sT sU sD sX) {i : Nat} (hi : i < m) {u : Value} {l : List Dl} (hu : Lq w0 u l)
    (hn : (M i).n + 2 * l.length ≤ 500000) (hT : (R i).T.length + l.length ≤ 400000) (hnD : nD ≤ 1048576) :
    Calls Tryz.prog 7 #[.pointer (some ⟨(M i).mb, 0, none⟩), rmp (R i).r, u, .pointer (some ⟨kb, 0, none⟩)] W fun e w' => e = .returned (.bool true) ∧ ∃ M' R' V1 V2 C' ow' sD' sX', Hid (M'.n ≤ (M i).n + 2 * l.length ∧ R'.T.length ≤ (R i).T.length + l.length ∧ (∀ p, p < nD → C' p = CD p) ∧ (C' nD).length ≤ 1000000 ∧
      Scr w0 w' m nT nU (nD + 1) (fun j => if j = i then M' else M j) (fun j => if j = i then R' else R j) VT VU V1 V2 CT CU C' ow' sM sR kb sT sU sD' sX') := by
  obtain ⟨hmu, hF, hMt⟩ := h.mu i hi
  obtain ⟨hrm, hRt, hcn⟩ := h.rm i hi
  have h5 := h.five
  have HH : Hid (Scr w0 W m nT nU nD M R VT VU VD VX CT CU CD ow sM sR kb sT sU sD sX) := h
  have HU0 : Hid (Lq w0 u l) := hu
  have HU : Hid (Lq W u l) := hu.below h.below
  have HM : Hid ((M i).ok W) := hmu
  have HRM : Hid ((R i).ok W) := hrm
  have HMT : Hid (∀ k, (M i).own k → ow k = 3 + 2 * i) := hMt
  have HRT : Hid (∀ k, (R i).r.own k → ow k = 4 + 2 * i) := hRt
  have HBD : Hid (∀ t, -2147483647 ≤ (M i).f t ∧ (M i).f t ≤ 2147483647) := hmu.tl.bd
  obtain ⟨pu, cu, rfl⟩ := hu.form
  clear hu h hmu hrm hMt hRt
  go_enter Tryz.func7, Tryz.ntmps7
  go_wp2_with (at_builtin; refine wpAppQ rfl _ _ rfl W.heap.size (.slice none 0 0) 0 [] rfl (World.ownsRow_nil _ _ _ _) (.slice pu l.length cu) l rfl HU.out (by omega) (Nat.le_refl _) ?_)
  intro v1 w1 ho1 hg1
  have b1 : Below W.heap.size W w1 := (Kp.grownBy (S := fun _ => False) hg1 (fun k hk => by simp [Value.ownBlock] at hk)).below (Nat.le_refl _) (fun _ h => h.elim)
  have HO1 : Hid (w1.ownsRow W.heap.size 54 4 v1 l.length (fl ED l)) := owns_re ho1 (by simp) (by simp)
  have z1 := b1.size
  clear ho1 hg1
  go_wp2_with (at_builtin; refine wpApp1 (E := ED) Tryz.underlying38 infoDl rfl (by decide) rfl _ _ rfl W.heap.size v1 l.length _ rfl HO1.out (tz, -77) (by first | rfl | simp) (by omega) (by unfold maxLen; omega) z1 _ rfl _ ?_)
  intro g cap w2 ho2 hg2 hl2
  have b2 : Below W.heap.size W w2 := b1.trans ((Kp.grownBy (S := fun k => W.heap.size ≤ k) hg2 (fun k hk => (HO1.out.lt k hk).1)).below z1 (fun _ h => h))
  have HO2 : Hid (w2.ownsRow W.heap.size 54 4 (.slice (some ⟨g, 0, none⟩) (l.length + 1) cap) (l.length + 1) (fl ED (l ++ [(tz, -77)]))) := owns_re ho2 rfl (by rw [fl_append, fl_one])
  obtain ⟨hcp1, hcp2⟩ := owns_cap HO2.out
  unfold maxLen at hcp2
  have hgw : W.heap.size ≤ g := (HO2.out.lt g rfl).1
  have hgl : g < w2.heap.size := (HO2.out.lt g rfl).2
  have LF2 : Ls ED w2 (.slice (some ⟨g, 0, none⟩) (l.length + 1) cap) (l ++ [(tz, -77)]) := owns_ls (E := ED) (ts := l ++ [(tz, -77)]) (by rw [List.length_append]; exact HO2.out)
  have LC2 : Ls ED w2 (.slice (some ⟨g, 0, none⟩) l.length cap) l := by
    have h := LF2.cut (k := l.length) (by simp) cap
    rw [List.take_left' rfl] at h
    exact h
  have y1 : (l.length : Int) ≤ (cap : Int) := by omega
  have y2 : (0 : Int) ≤ (l.length : Int) := by omega
  have y3 : ¬ cap = 0 := by omega
  have hj := apply_uni (M i) l _ w2 (Mu.below HM.out b2) hF LC2 (by omega)
  have B2 : Hid (Below W.heap.size W w2) := b2
  obtain ⟨cd, hcd⟩ : ∃ cd : Int, cd = if bad (M i).f l = true then 12 else 0 := ⟨_, rfl⟩
  have HCD : Hid (cd = if bad (M i).f l = true then 12 else 0) := hcd
  rw [← hcd] at hj
  clear hcd
  clear ho2 hg2 hl2 LF2 LC2 b1 z1 HO1 b2
  go_wp2_with fail
  refine hj.mono ?_
  rintro e w3 ⟨vo, M', d, rfl, H3⟩
  obtain ⟨hsame, hm3, hF3, hn3, hf3, hd3, hvo3, k3, hv3, hvv3⟩ := H3.out
  have HR3 : (R i).ok w3 := (HRM.out.bel B2.out).kp k3 (fun k hk e => by
    have a1 := HRT.out k hk
    have a2 : ow k = 3 + 2 * i := HMT.out k (by
      rcases e with e | e | e
      · exact Or.inr (Or.inr (Or.inl e))
      · exact Or.inr (Or.inr (Or.inr (Or.inl e)))
      · exact Or.inr (Or.inr (Or.inr (Or.inr e))))
    omega)
  have HU3 : Lq w3 (.slice pu l.length cu) l := by
    rcases HU0.out with h0 | h0
    · refine Or.inl (k3.ls ((h0.below HH.out.below).below B2.out) (fun k hk e => ?_))
      have a1 := HH.out.old k (h0.blk k hk)
      have a2 : ow k = 3 + 2 * i := HMT.out k (by
        rcases e with e | e | e
        · exact Or.inr (Or.inr (Or.inl e))
        · exact Or.inr (Or.inr (Or.inr (Or.inl e)))
        · exact Or.inr (Or.inr (Or.inr (Or.inr e))))
      omega
    · exact Or.inr h0
  have hrj := rapply_uni (R i) l _ w3 HR3 hcn HBD.out hF hf3 hF3 HU3 hT
  rw [← HCD.out] at hrj
  have HU3' : Hid (Lq w3 (.slice pu l.length cu) l) := HU3
  have HO3 : Hid (w3.ownsRow W.heap.size 54 4 (.slice (some ⟨g, 0, none⟩) (l.length + 1) cap) (l.length + 1) (fl ED (l ++ [(tz, -77)]))) := owns_kp k3 HO2.out (fun k hk e => by
    have hk' : k = g := own_one hk
    have a3 : (M i).own k := by
      rcases e with e | e | e
      · exact Or.inr (Or.inr (Or.inl e))
      · exact Or.inr (Or.inr (Or.inr (Or.inl e)))
      · exact Or.inr (Or.inr (Or.inr (Or.inr e)))
    have := Ml.lt HM.out k a3
    omega)
  have z23 := k3.size
  obtain ⟨po, co, eo⟩ := (owns_ls (E := ED) hvo3).form
  subst eo
  have HD3 : Hid (d = if bad (M i).f l = true then [] else dlt (M i).fr M'.fr) := hd3
  have HFL : Hid ((M i).fr.length ≤ (M i).n ∧ M'.fr.length ≤ M'.n) := ⟨hF.le HM.out.tl.ta, hF3.le hm3.tl.ta⟩
  clear hj HR3 HU3 hm3 hF3 hf3 hd3 hvo3 k3 hv3 hvv3 hsame HU HO2
  go_wp2_with fail
  refine hrj.mono ?_
  rintro e w4 ⟨wt, R', d', rfl, H4⟩
  obtain ⟨hd4, hrb4, hr4, hcn4, hT4, hwt4, k4, hR4, hrw4⟩ := H4.out
  have hdd : d' = d := hd4.trans HD3.out.symm
  subst hdd
  have hdl : d'.length ≤ 1000000 := by
    obtain ⟨hf1, hf2⟩ := HFL.out
    have h0 := dlt_length (M i).fr M'.fr
    have h1 : (if bad (M i).f l = true then [] else dlt (M i).fr M'.fr).length ≤ (dlt (M i).fr M'.fr).length := by split; (simp); (exact Nat.le_refl _)
    rw [← HD3.out] at h1
    omega
  obtain ⟨pt, ct, et⟩ := (owns_ls (E := ED) hwt4).form
  subst et
  have hrbW : (R i).r.b < W.heap.size := HRM.out.lt
  have LV4 : Ls ED w4 (.slice po d'.length co) d' := owns_ls (E := ED) (owns_kp k4 H3.out.2.2.2.2.2.2.1 (fun q hq e => by have := (H3.out.2.2.2.2.2.2.1.lt q hq).1; have := B2.out.size; omega))
  have LW4 : Ls ED w4 (.slice pt d'.length ct) d' := owns_ls (E := ED) hwt4
  have HO4 : Hid (w4.ownsRow W.heap.size 54 4 (.slice (some ⟨g, 0, none⟩) (l.length + 1) cap) (l.length + 1) (fl ED (l ++ [(tz, -77)]))) := owns_kp k4 HO3.out (fun k hk e => by have := own_one hk; omega)
  have HU4 : Hid (Lq w4 (.slice pu l.length cu) l) := by
    rcases HU0.out with h0 | h0
    · rcases HU3'.out with h3 | h3
      · exact Or.inl (k4.ls h3 (fun k hk e => by
          have a1 := HH.out.old k (h0.blk k hk)
          have a2 := HRT.out k (Or.inl e)
          omega))
      · exact Or.inr h3
    · exact Or.inr h0
  have hse : ((cd == cd) = true) := by simp
  have hsm := deltas_any _ _ d' d' w4 LV4 LW4 (by unfold maxLen; omega)
  rw [decide_eq_true rfl] at hsm
  clear hrj hd4 hrb4 hr4 hcn4 hwt4 k4 hR4 hrw4 LV4 LW4 HU3' HO3 HCD
  go_wp2_with fail
  refine hsm.mono ?_
  rintro e w5 ⟨rfl, g5⟩
  have HO5 : Hid (w5.ownsRow W.heap.size 54 4 (.slice (some ⟨g, 0, none⟩) (l.length + 1) cap) (l.length + 1) (fl ED (l ++ [(tz, -77)]))) := owns_below HO4.out g5.below
  have LF5 : Ls ED w5 (.slice (some ⟨g, 0, none⟩) (l.length + 1) cap) (l ++ [(tz, -77)]) := owns_ls (E := ED) (ts := l ++ [(tz, -77)]) (by rw [List.length_append]; exact HO5.out)
  have LC5 : Ls ED w5 (.slice (some ⟨g, 0, none⟩) l.length cap) l := by
    have h := LF5.cut (k := l.length) (by simp) cap
    rw [List.take_left' rfl] at h
    exact h
  have hsm2 := deltas_lq w5 LC5 (HU4.out.below g5.below) (by unfold maxLen; omega)
  have G5 : Hid (Gr w4 w5) := g5
  clear hsm LF5 LC5 HO4 HU4 g5
  go_wp2_with fail
  refine hsm2.mono ?_
  rintro e w6 ⟨rfl, g6⟩
  have HO6 : Hid (w6.ownsRow W.heap.size 54 4 (.slice (some ⟨g, 0, none⟩) (l.length + 1) cap) (l.length + 1) (fl ED (l ++ [(tz, -77)]))) := owns_below HO5.out g6.below
  have LF6 : Ls ED w6 (.slice (some ⟨g, 0, none⟩) (l.length + 1) cap) (l ++ [(tz, -77)]) := owns_ls (E := ED) (ts := l ++ [(tz, -77)]) (by rw [List.length_append]; exact HO6.out)
  obtain ⟨bb, oo, cc, e2, zz, -, -, -, x4⟩ := LF6.at4 (j := l.length) (t := (tz, -77)) (by simp)
  simp only [List.length_append, List.length_cons, List.length_nil, Nat.zero_add, Value.slice.injEq, Option.some.injEq, Addr.mk.injEq, and_true] at e2
  obtain ⟨⟨rfl, rfl⟩, -⟩ := e2
  rw [Nat.zero_add] at x4
  have y5 : (l.length : Int) < (l.length : Int) + 1 := by omega
  have y6 : (l.length : Int) < ((l.length + 1 : Nat) : Int) := by omega
  have G6 : Hid (Gr w4 w6) := G5.out.trans g6
  clear hsm2 LF6 HO5 G5 g6
  go_wp2_with fail
  go_loopw [15] (fun s15 wr => ∃ (j : Nat) (L : List Dl), j ≤ l.length + 1 ∧ s15 = .int .i64 j ∧ L.length = l.length + 1 ∧ Hid (wr.ownsRow 0 54 4 (.slice (some ⟨g, 0, none⟩) (l.length + 1) cap) (l.length + 1) (fl ED L) ∧ Kp (fun k => k = g) w6 wr)) (fun s15 _ => l.length + 1 - (RowKit.intOf s15).toNat)
  case atStart => exact ⟨0, l ++ [(tz, -77)], Nat.zero_le _, rfl, by simp, owns_base HO6.out (Nat.zero_le _), Kp.refl _ _⟩
  case round =>
    clear x4 y5 y6
    obtain ⟨j, L, hj, rfl, hL, HI⟩ := hrel
    by_cases hlt : j < l.length + 1
    · have hltz : (j : Int) < (l.length : Int) + 1 := by omega
      have hltz2 : (j : Int) < ((l.length + 1 : Nat) : Int) := by omega
      obtain ⟨y, hy⟩ : ∃ y, L[j]? = some y := ⟨L[j]'(by omega), by simp⟩
      obtain ⟨b3, o3, c3, e3, z3', q1, q2, q3, q4⟩ := (owns_ls (E := ED) (ts := L) (by rw [hL]; exact HI.out.1)).at4 hy
      simp only [Value.slice.injEq, Option.some.injEq, Addr.mk.injEq, and_true] at e3
      obtain ⟨⟨rfl, rfl⟩, -, rfl⟩ := e3
      rw [Nat.zero_add] at q1 q2 q3 q4
      have f1 := owns_frozen0 HI.out.1 (j * 4)
      have f2 := owns_frozen0 HI.out.1 (j * 4 + 1)
      have f3 := owns_frozen0 HI.out.1 (j * 4 + 2)
      have f4 := owns_frozen0 HI.out.1 (j * 4 + 3)
      clear hy
      go_wp2
      obtain ⟨ho3, hk3⟩ := owns_set4 (k := j) t339 HI.out.1
      exact ⟨⟨j + 1, L.set j t339, by omega, by go_num, by simp [hL], ho3, HI.out.2.trans hk3 (fun _ _ h => h)⟩, by simp [RowKit.intOf]; omega⟩
    · have hltz : ¬ (j : Int) < (l.length : Int) + 1 := by omega
      have hltz2 : ¬ (j : Int) < ((l.length + 1 : Nat) : Int) := by omega
      have K7 : Hid (Kp (fun k => k = g) w4 wr) := (Kp.of_gr G6.out).trans HI.out.2 (fun _ _ h => h)
      have KM : Hid (Kp (fun k => ow k = 3 + 2 * i ∨ ow k = 4 + 2 * i) W wr) := HH.out.mid hi B2.out hgw H3.out.2.2.2.2.2.2.2.1 H4.out.2.2.2.2.2.2.1 K7.out
      obtain ⟨bk7, rD7, rX7⟩ := HH.out.mid_bk hi KM.out
      have kk2 : wr.cell? ⟨kb, 2, none⟩ = some sD := by simp [World.cell?, bk7]
      have kbl : kb < wr.heap.size := (Array.getElem?_eq_some_iff.1 bk7).1
      have RD7 : Hid (wr.ownsRow 0 38 1 sD nD ((List.range nD).map VD)) := rD7
      clear bk7 rD7 rX7 HI hL G6 HO6
      go_wp2_with (at_builtin; refine wpAppV rfl _ _ 32 38 rfl Tryz.underlying32 infoLd rfl (by decide) sD nD _ rfl RD7.out #[.slice po d'.length co] 1 (by decide) rfl (by intro u hu; simp at hu; rcases hu with rfl; rfl) (by first | rfl | simp) (by omega) (by unfold maxLen; omega) _ ?_)
      intro g8 c8 w8 ho8 hk8 hg8
      obtain ⟨bk8, rX9⟩ := HH.out.mid_bk2 hi KM.out hk8 (.slice (some ⟨g8, 0, none⟩) (nD + 1) c8)
      have BK8 : Hid (w8.heap[kb]? = some (.cells #[sT, sU, sD, sX] 34 (0, 0))) := bk8
      have RX9 : Hid ((w8.setCell ⟨kb, 2, none⟩ (.slice (some ⟨g8, 0, none⟩) (nD + 1) c8)).ownsRow 0 38 1 sX nD ((List.range nD).map VX)) := rX9
      have HO8 : Hid (w8.ownsRow 0 38 1 (.slice (some ⟨g8, 0, none⟩) (nD + 1) c8) (nD + 1) ((List.range nD).map VD ++ [.slice po d'.length co])) := ho8
      have K8 : Hid (Kp (fun q => sD.ownBlock = some q) wr w8) := hk8
      have G8 : Hid (sD.ownBlock = some g8 ∨ wr.heap.size ≤ g8) := hg8
      have c82 : w8.cell? ⟨kb, 2, none⟩ = some sD := by simp [World.cell?, bk8]
      have c83 : w8.cell? ⟨kb, 3, none⟩ = some sX := by simp [World.cell?, bk8]
      have f82 : w8.frozen? ⟨kb, 2, none⟩ = false := by simp [World.frozen?, bk8]
      have kbl8 : kb < w8.heap.size := (Array.getElem?_eq_some_iff.1 bk8).1
      clear ho8 hk8 hg8 bk8 rX9 RD7 kk2
      go_wp2_with (at_builtin; refine wpAppV rfl _ _ 32 38 rfl Tryz.underlying32 infoLd rfl (by decide) sX nD _ rfl RX9.out #[.slice pt d'.length ct] 1 (by decide) rfl (by intro u hu; simp at hu; rcases hu with rfl; rfl) (by first | rfl | (simp; rfl)) (by omega) (by unfold maxLen; omega) _ ?_)
      intro g10 c10 w10 ho10 hk10 hg10
      have bk10 := HH.out.mid_bk3 BK8.out hk10
      have c103 : w10.cell? ⟨kb, 3, none⟩ = some sX := by simp [World.cell?, bk10]
      have f103 : w10.frozen? ⟨kb, 3, none⟩ = false := by simp [World.frozen?, bk10]
      have kbl10 : kb < w10.heap.size := (Array.getElem?_eq_some_iff.1 bk10).1
      have HF := hideM (HH.out.applied hi B2.out hgw hgl H3.out.1 H3.out.2.1 H3.out.2.2.1 H3.out.2.2.2.2.2.2.1 H3.out.2.2.2.2.2.2.2.1 H3.out.2.2.2.2.2.2.2.2.1 H3.out.2.2.2.2.2.2.2.2.2 H4.out.2.1 H4.out.2.2.1 H4.out.2.2.2.1 H4.out.2.2.2.2.2.1 H4.out.2.2.2.2.2.2.1 H4.out.2.2.2.2.2.2.2.1 H4.out.2.2.2.2.2.2.2.2 K7.out K8.out HO8.out (fun q hq => by rw [own_one hq]; exact G8.out) hk10 ho10 (fun q hq => by rw [own_one hq]; refine hg10.imp id (fun e => ?_); simpa using e))
      clear ho10 hk10 hg10 bk10 HO8 K8 G8 BK8 RX9 K7 KM
      go_wp2
      go_ret
      obtain ⟨V1, V2, C', ow', hC1, hC2, hS⟩ := HF.out
      exact ⟨rfl, M', R', V1, V2, C', ow', _, _, hn3, hT4, hC1, by rw [hC2]; exact hdl, hS⟩
end Go.Proofs.YtnpmmodcmfgbjaaGreat
