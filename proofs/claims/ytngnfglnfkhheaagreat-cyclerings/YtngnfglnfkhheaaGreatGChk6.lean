import Derived.Test.YtngnfglnfkhheaaGreatGChk5
import Derived.Test.YtngnfglnfkhheaaGreatLHold
import Derived.BigQuiet
namespace Go.Proofs.YtngnfglnfkhheaaGreat.Df
open Go.RowKit Go.Sort
attribute [local go_sem ↓] Go.wp_at_zero Go.wp_at_succ

theorem outN_neg {ns : List Nod} {i p : Int} (hp : Pok ns) : outN ns i p < 0 ↔ hasON ns i p = false := by
  unfold outN
  constructor
  · intro h
    cases e : hasON ns i p with
    | false => rfl
    | true =>
      obtain ⟨n, hn, _, _, h1, _⟩ := has_out e
      have := hp n (List.mem_of_getElem? hn)
      rw [if_pos e, hn] at h
      simp only at h
      omega
  · intro h
    rw [if_neg (by rw [h]; decide)]
    decide
theorem inN_neg {ns : List Nod} {i p : Int} : inN ns i p < 0 ↔ hasIN ns i p = false := by
  unfold inN
  constructor
  · intro h
    cases e : hasIN ns i p with
    | false => rfl
    | true =>
      obtain ⟨n, hn, _, _, h1, _⟩ := has_in e
      rw [if_pos e] at h
      omega
  · intro h
    rw [if_neg (by rw [h]; decide)]
    decide
theorem anyw_false {l : List Edg} {j : Nat} {y : Edg} (h : ∀ m c, m < j → l[m]? = some c → way c y = false) : anyw (l.take j) y = false := by
  unfold anyw
  rw [List.any_eq_false]
  intro c hc
  obtain ⟨m, hm, rfl⟩ := List.mem_iff_getElem.1 hc
  have hm2 : m < j ∧ m < l.length := by simp at hm; omega
  have := h m l[m] hm2.1 (by simp [hm2.2])
  simp only [List.getElem_take]
  rw [this]
  decide
theorem anyw_true {l : List Edg} {j m : Nat} {c y : Edg} (hm : m < j) (h : l[m]? = some c) (hw : way c y = true) : anyw (l.take j) y = true := by
  unfold anyw
  rw [List.any_eq_true]
  exact ⟨c, List.mem_of_getElem? (i := m) (by rw [List.getElem?_take, if_pos hm]; exact h), hw⟩
set_option maxRecDepth 100000 in
set_option maxHeartbeats 8000000 in
theorem redge_any {M : Nat} {nv ev : Value} {a : Int} {xs : List NV} {es : List Edg} (i : Nat) (y : Edg) (hi : es[i]? = some y) (hel : es.length ≤ 48) (w : World) (h : Nr w nv xs) (hE : Lz ED M w ev es) : Calls Tryz.prog 23 #[.agg (gvc a nv ev), .int .i64 (i : Nat)] w fun r w' => r = .returned (.int .i64 (eflawN (xs.map NV.n) (es.take i) y)) ∧ Below w.heap.size w w' := by
  have g0 := (Gr.refl w).alloc (.cells (gvc a nv ev) 25)
  have HB := hid (heap_new' w (.cells (gvc a nv ev) 25))
  have HN := hid (h.below g0.below)
  have HE := hid (hE.below g0.below)
  obtain ⟨W0, hW0⟩ : ∃ W, W = w.alloc (.cells (gvc a nv ev) 25) := ⟨_, rfl⟩
  have HW : Hid (w.alloc (.cells #[.int .i64 a, nv, ev] 25) = W0) := hW0.symm
  rw [← hW0] at g0 HB HN HE
  have B0 := hid g0.below
  obtain ⟨qn, cn, rfl⟩ := h.nodes.form
  obtain ⟨qe, ce, rfl⟩ := hE.form
  have HP := hid h.pok
  obtain ⟨ns, hns⟩ : ∃ ns, ns = xs.map NV.n := ⟨_, rfl⟩
  rw [← hns] at HP ⊢
  have HNS := hid hns
  have hil := (List.getElem?_eq_some_iff.1 hi).1
  have HY := hid hi
  generalize hxl : xs.length = nl at *
  generalize hes : es.length = el at *
  have HXL := hid hxl
  have HES := hid hes
  have hiz : (i : Int) < (el : Int) := by omega
  have hi0 : (0 : Int) ≤ (i : Int) := by omega
  obtain ⟨b1, o1, q1, ev1, zz1, x0, x1, x2, x3, x4⟩ := ls_atD (HE.out.ls hi) hi
  simp only [Value.slice.injEq] at ev1
  obtain ⟨rfl, -, rfl⟩ := ev1
  clear h hE hW0 g0 hns hxl hes hi
  have c0 := (tk_store HB.out).1
  have l0 := tk_lt HB.out
  obtain ⟨yb, hyb⟩ : ∃ b, b = W0.heap.size := ⟨_, rfl⟩
  obtain ⟨W5, hW5⟩ : ∃ W, W = W0.alloc (.cells (ecells y) 74) := ⟨_, rfl⟩
  have P5 : Hid (Below W0.heap.size W0 W5 ∧ W5.heap[yb]? = some (.cells (ecells y) 74 (0, 0)) ∧ W5.heap[w.heap.size]? = some (.cells (gvc a (.slice qn nl cn) (.slice (some ⟨b1, o1, none⟩) el ce)) 25 (0, 0))) := by
    have g5 := ((Gr.refl W0).alloc (.cells (ecells y) 74)).below
    rw [hW5, hyb]
    exact ⟨g5, heap_new' _ _, (g5.block _ (tk_lt HB.out)).trans HB.out⟩
  have HW5 : Hid (W0.alloc (.cells #[.int .i64 y.src, .int .i64 y.out, .int .i64 y.dst, .int .i64 y.inn, .bool y.keyed] 74) = W5 ∧ W0.heap.size = yb) := ⟨hW5.symm, hyb.symm⟩
  clear hW5 hyb
  go_enter Tryz.func23, Tryz.ntmps23
  go_upto_region 1 with fail
  rw [HW.out]
  clear HW
  go_upto_region 2 with fail
  rw [HW5.out.1, HW5.out.2]
  clear HW5 x0 x1 x2 x3 x4 zz1 c0 l0
  have cy := (tk_store P5.out.2.1).1
  have ly := tk_lt P5.out.2.1
  have cg := (tk_store P5.out.2.2).1
  have lg := tk_lt P5.out.2.2
  have ho := rout_any (a := a) (qe := some ⟨b1, o1, none⟩) (me := el) (ce := ce) y.src y.out W5 (HN.out.below P5.out.1)
  rw [← HNS.out] at ho
  by_cases h1 : outN ns y.src y.out < 0
  · have HR : Hid (eflawN ns (es.take i) y = 25) := if_pos (Or.inl ((outN_neg HP.out).1 h1))
    generalize outN ns y.src y.out = z1 at ho h1
    go_wp2_with fail
    refine ho.mono ?_
    rintro r w6 ⟨rfl, g6⟩
    have B6 := hid (B0.out.trans ((P5.out.1.trans (g6.below.mono P5.out.1.size)).mono B0.out.size))
    clear g6 ho
    go_wp2_with fail
    go_ret
    exact ⟨by rw [HR.out]; rfl, B6.out⟩
  · have HO : Hid (hasON ns y.src y.out = true) := by
      show _ = _
      cases e : hasON ns y.src y.out with
      | true => rfl
      | false => exact absurd ((outN_neg HP.out).2 e) h1
    generalize outN ns y.src y.out = z1 at ho h1
    go_wp2_with fail
    refine ho.mono ?_
    rintro r w6 ⟨rfl, g6⟩
    have P6 : Hid (Below W0.heap.size W0 w6 ∧ w6.heap[yb]? = some (.cells (ecells y) 74 (0, 0)) ∧ w6.heap[w.heap.size]? = some (.cells (gvc a (.slice qn nl cn) (.slice (some ⟨b1, o1, none⟩) el ce)) 25 (0, 0))) := ⟨P5.out.1.trans (g6.below.mono P5.out.1.size), (g6.below.block _ (tk_lt P5.out.2.1)).trans P5.out.2.1, (g6.below.block _ (tk_lt P5.out.2.2)).trans P5.out.2.2⟩
    clear g6 ho cy ly cg lg
    have cy := (tk_store P6.out.2.1).1
    have ly := tk_lt P6.out.2.1
    have cg := (tk_store P6.out.2.2).1
    have lg := tk_lt P6.out.2.2
    have hn := rin_any (a := a) (qe := some ⟨b1, o1, none⟩) (me := el) (ce := ce) y.dst y.inn w6 (HN.out.below P6.out.1)
    rw [← HNS.out] at hn
    by_cases h2 : inN ns y.dst y.inn < 0
    · have HR : Hid (eflawN ns (es.take i) y = 25) := if_pos (Or.inr (Or.inl (inN_neg.1 h2)))
      generalize inN ns y.dst y.inn = z2 at hn h2
      go_wp2_with fail
      refine hn.mono ?_
      rintro r w7 ⟨rfl, g7⟩
      have B7 := hid (B0.out.trans ((P6.out.1.trans (g7.below.mono P6.out.1.size)).mono B0.out.size))
      clear g7 hn
      go_wp2_with fail
      go_ret
      exact ⟨by rw [HR.out]; rfl, B7.out⟩
    · have HI2 : Hid (hasIN ns y.dst y.inn = true) := by
        show _ = _
        cases e : hasIN ns y.dst y.inn with
        | true => rfl
        | false => exact absurd (inN_neg.2 e) h2
      generalize inN ns y.dst y.inn = z2 at hn h2
      go_wp2_with fail
      refine hn.mono ?_
      rintro r w7 ⟨rfl, g7⟩
      have P7 : Hid (Below W0.heap.size W0 w7 ∧ w7.heap[yb]? = some (.cells (ecells y) 74 (0, 0)) ∧ w7.heap[w.heap.size]? = some (.cells (gvc a (.slice qn nl cn) (.slice (some ⟨b1, o1, none⟩) el ce)) 25 (0, 0))) := ⟨P6.out.1.trans (g7.below.mono P6.out.1.size), (g7.below.block _ (tk_lt P6.out.2.1)).trans P6.out.2.1, (g7.below.block _ (tk_lt P6.out.2.2)).trans P6.out.2.2⟩
      clear g7 hn cy ly cg lg
      go_wp2_with fail
      clear h1 h2
      go_loopw [6] (fun s6 wr => ∃ p : Nat, p ≤ i ∧ s6 = .int .i64 (p : Nat) ∧ Hid ((Below W0.heap.size W0 wr ∧ wr.heap[yb]? = some (.cells (ecells y) 74 (0, 0)) ∧ wr.heap[w.heap.size]? = some (.cells (gvc a (.slice qn nl cn) (.slice (some ⟨b1, o1, none⟩) el ce)) 25 (0, 0))) ∧ ∀ m c, m < p → es[m]? = some c → way c y = false)) (fun s6 _ => i - (RowKit.intOf s6).toNat)
      case atStart => exact ⟨0, Nat.zero_le _, rfl, P7.out, fun m c hm => by omega⟩
      case round =>
        clear P7
        obtain ⟨p, hp, rfl, HI⟩ := hrel
        have cy := (tk_store HI.out.1.2.1).1
        have ly := tk_lt HI.out.1.2.1
        have cg := (tk_store HI.out.1.2.2).1
        have lg := tk_lt HI.out.1.2.2
        by_cases hpl : p < i
        · have hplz : (p : Int) < (i : Int) := by omega
          have hp0 : (0 : Int) ≤ (p : Int) := by omega
          have hpe : (p : Int) < (el : Int) := by omega
          obtain ⟨z, hz⟩ : ∃ z, es[p]? = some z := ⟨es[p]'(by have := HES.out; omega), by simp⟩
          obtain ⟨b2, o2, q2, ev2, zz2, x0, x1, x2, x3, x4⟩ := ls_atD ((HE.out.below HI.out.1.1).ls hz) hz
          simp only [Value.slice.injEq, Option.some.injEq, Addr.mk.injEq] at ev2
          obtain ⟨⟨rfl, rfl, -⟩, -, rfl⟩ := ev2
          have HZ := hid hz
          clear hz
          obtain ⟨zb, hzb⟩ : ∃ b, b = wr.heap.size := ⟨_, rfl⟩
          obtain ⟨W8, hW8⟩ : ∃ W, W = wr.alloc (.cells (ecells z) 74) := ⟨_, rfl⟩
          have P8 : Hid ((Below W0.heap.size W0 W8 ∧ W8.heap[yb]? = some (.cells (ecells y) 74 (0, 0)) ∧ W8.heap[w.heap.size]? = some (.cells (gvc a (.slice qn nl cn) (.slice (some ⟨b1, o1, none⟩) el ce)) 25 (0, 0))) ∧ W8.heap[zb]? = some (.cells (ecells z) 74 (0, 0))) := by
            have g8 := ((Gr.refl wr).alloc (.cells (ecells z) 74)).below
            rw [hW8, hzb]
            exact ⟨⟨HI.out.1.1.trans (g8.mono HI.out.1.1.size), (g8.block _ (tk_lt HI.out.1.2.1)).trans HI.out.1.2.1, (g8.block _ (tk_lt HI.out.1.2.2)).trans HI.out.1.2.2⟩, heap_new' _ _⟩
          have HW8 : Hid (wr.alloc (.cells #[.int .i64 z.src, .int .i64 z.out, .int .i64 z.dst, .int .i64 z.inn, .bool z.keyed] 74) = W8 ∧ wr.heap.size = zb) := ⟨hW8.symm, hzb.symm⟩
          clear hW8 hzb
          go_upto_region 8 with fail
          rw [HW8.out.1, HW8.out.2]
          clear HW8 x0 x1 x2 x3 x4 zz2 cy ly cg lg
          have cz := (tk_store P8.out.2).1
          have lz := tk_lt P8.out.2
          have cy := (tk_store P8.out.1.2.1).1
          have ly := tk_lt P8.out.1.2.1
          by_cases h0 : z.src = y.src
          · have hb0 : (z.src == y.src) = true := by simp [h0]
            by_cases h1 : z.out = y.out
            · have hb1 : (z.out == y.out) = true := by simp [h1]
              by_cases h2 : z.dst = y.dst
              · have hb2 : (z.dst == y.dst) = true := by simp [h2]
                by_cases h3 : z.inn = y.inn
                · have hb3 : (z.inn == y.inn) = true := by simp [h3]
                  have HR : Hid (eflawN ns (es.take i) y = 25) := if_pos (Or.inr (Or.inr (anyw_true hpl HZ.out ((way_iff z y).2 ⟨h0, h1, h2, h3⟩))))
                  clear h0 h1 h2 h3
                  go_wp2_with fail
                  go_ret
                  exact ⟨by rw [HR.out]; rfl, B0.out.trans (P8.out.1.1.mono B0.out.size)⟩
                · have hb3 : (z.inn == y.inn) = false := by simp [h3]
                  have HWY : Hid (way z y = false) := by
                    show _ = _
                    rw [Bool.eq_false_iff]
                    intro e
                    exact h3 ((way_iff z y).1 e).2.2.2
                  clear h0 h1 h2 h3
                  go_wp2_with fail
                  go_roundw
                  case rel => exact ⟨p + 1, by omega, by go_num, P8.out.1, fun m c hm hc => by
                    by_cases e : m = p
                    · subst e
                      rw [HZ.out] at hc
                      cases hc
                      exact HWY.out
                    · exact HI.out.2 m c (by omega) hc⟩
                  case measure => simp [RowKit.intOf]; omega
              · have hb2 : (z.dst == y.dst) = false := by simp [h2]
                have HWY : Hid (way z y = false) := by
                  show _ = _
                  rw [Bool.eq_false_iff]
                  intro e
                  exact h2 ((way_iff z y).1 e).2.2.1
                clear h0 h1 h2
                go_wp2_with fail
                go_roundw
                case rel => exact ⟨p + 1, by omega, by go_num, P8.out.1, fun m c hm hc => by
                  by_cases e : m = p
                  · subst e
                    rw [HZ.out] at hc
                    cases hc
                    exact HWY.out
                  · exact HI.out.2 m c (by omega) hc⟩
                case measure => simp [RowKit.intOf]; omega
            · have hb1 : (z.out == y.out) = false := by simp [h1]
              have HWY : Hid (way z y = false) := by
                show _ = _
                rw [Bool.eq_false_iff]
                intro e
                exact h1 ((way_iff z y).1 e).2.1
              clear h0 h1
              go_wp2_with fail
              go_roundw
              case rel => exact ⟨p + 1, by omega, by go_num, P8.out.1, fun m c hm hc => by
                by_cases e : m = p
                · subst e
                  rw [HZ.out] at hc
                  cases hc
                  exact HWY.out
                · exact HI.out.2 m c (by omega) hc⟩
              case measure => simp [RowKit.intOf]; omega
          · have hb0 : (z.src == y.src) = false := by simp [h0]
            have HWY : Hid (way z y = false) := by
              show _ = _
              rw [Bool.eq_false_iff]
              intro e
              exact h0 ((way_iff z y).1 e).1
            clear h0
            go_wp2_with fail
            go_roundw
            case rel => exact ⟨p + 1, by omega, by go_num, P8.out.1, fun m c hm hc => by
              by_cases e : m = p
              · subst e
                rw [HZ.out] at hc
                cases hc
                exact HWY.out
              · exact HI.out.2 m c (by omega) hc⟩
            case measure => simp [RowKit.intOf]; omega
        · have hplz : ¬ (p : Int) < (i : Int) := by omega
          obtain rfl : p = i := by omega
          have HA := hid (anyw_false HI.out.2)
          obtain ⟨n, hn, hd0, hdl, -, -⟩ := has_in HI2.out
          obtain ⟨j, hj⟩ : ∃ j : Nat, y.dst = (j : Int) := ⟨y.dst.toNat, by omega⟩
          rw [hj, Int.toNat_natCast] at hn hdl
          rw [HNS.out] at hn
          obtain ⟨v, hv, hvn⟩ := nd_get hn
          have hjl : (j : Int) < (nl : Int) := by
            have := (List.getElem?_eq_some_iff.1 hv).1
            have := HXL.out
            omega
          have HR : Hid (eflawN ns (es.take p) y = if v.n.kind = 6 ∧ y.keyed = false then 26 else 0) := by
            show _ = _
            unfold eflawN
            rw [if_neg (by rw [HO.out, HI2.out, HA.out]; simp)]
            unfold natN?
            rw [if_pos hd0, hj, Int.toNat_natCast, HNS.out, hn, hvn]
          obtain ⟨b4, o4, c4, e4, z4, x0, -⟩ := ls_atV ((HN.out.nodes.below HI.out.1.1).ls hv) hv
          simp only [Value.slice.injEq] at e4
          obtain ⟨rfl, -, rfl⟩ := e4
          have hj0 : (0 : Int) ≤ (j : Int) := by omega
          obtain ⟨ds, dt, dd, di, dk⟩ := y
          simp only at hj
          subst hj
          clear hn hv hvn hdl hd0
          by_cases k6 : v.n.kind = 6
          · cases dk with
            | true =>
              go_wp2_with fail
              go_ret
              exact ⟨by rw [HR.out]; simp, B0.out.trans (HI.out.1.1.mono B0.out.size)⟩
            | false =>
              go_wp2_with fail
              go_ret
              exact ⟨by rw [HR.out]; simp [k6], B0.out.trans (HI.out.1.1.mono B0.out.size)⟩
          · have kb : (v.n.kind == 6) = false := by simp [k6]
            go_wp2_with fail
            go_ret
            exact ⟨by rw [HR.out]; simp [k6], B0.out.trans (HI.out.1.1.mono B0.out.size)⟩
set_option maxRecDepth 100000 in
set_option maxHeartbeats 8000000 in
/-- The document's Check says what flawOf says. -/
theorem rcheck_any {M : Nat} {nv ev : Value} {a : Int} {xs : List NV} {es : List Edg} (w : World) (hG : GR M w nv ev xs es) (hM : M ≤ w.heap.size) : Calls Tryz.prog 7 #[.agg (gvc a nv ev)] w fun r w' => ∃ e t : Int, r = .returned (.tuple #[.int .i64 e, .int .i64 t]) ∧ Fl (gof a xs es) e t ∧ Below w.heap.size w w' := by
  have hmx : Tryz.prog.follows .mixedOrders = true := by kernel_rfl
  obtain ⟨pn, cn, hnv⟩ := hG.nodes.form
  obtain ⟨pe, ce, hev⟩ := hG.edges.form
  obtain ⟨nl, hnl⟩ : ∃ n, n = xs.length := ⟨_, rfl⟩
  obtain ⟨el, hel⟩ : ∃ n, n = es.length := ⟨_, rfl⟩
  rw [← hnl] at hnv
  rw [← hel] at hev
  subst hnv
  subst hev
  have HNL : Hid (nl = (gof a xs es).nodes.length ∧ nl = xs.length) := ⟨by simp [hnl], hnl⟩
  have HEL : Hid (el = (gof a xs es).edges.length ∧ el = es.length) := ⟨by simp [hel], hel⟩
  have g0 := (Gr.refl w).alloc (.cells (gvc a (.slice pn nl cn) (.slice pe el ce)) 25)
  have HG := hid ((hG.up hM).later (Nat.le_refl _) g0.below)
  have HB := hid (heap_new' w (.cells (gvc a (.slice pn nl cn) (.slice pe el ce)) 25))
  have B0 := hid g0.below
  obtain ⟨W0, hW0⟩ : ∃ W, W = w.alloc (.cells (gvc a (.slice pn nl cn) (.slice pe el ce)) 25) := ⟨_, rfl⟩
  have HW : Hid (w.alloc (.cells #[.int .i64 a, .slice pn nl cn, .slice pe el ce] 25) = W0) := hW0.symm
  rw [← hW0] at HG HB B0
  have c0 := (tk_store HB.out).1
  have l0 := tk_lt HB.out
  clear hG g0 hW0 hnl hel hM
  by_cases ha : a < 1
  · have HF : Hid (Fl (gof a xs es) 10 0) := .arity (Or.inl ha)
    go_enter Tryz.func7, Tryz.ntmps7
    go_upto_region 1 with fail
    rw [HW.out]
    go_wp2_with fail
    go_ret2
    exact ⟨10, 0, rfl, HF.out, B0.out⟩
  · by_cases ha3 : 3 < a
    · have HF : Hid (Fl (gof a xs es) 10 0) := .arity (Or.inr ha3)
      go_enter Tryz.func7, Tryz.ntmps7
      go_upto_region 1 with fail
      rw [HW.out]
      go_wp2_with fail
      go_ret2
      exact ⟨10, 0, rfl, HF.out, B0.out⟩
    · by_cases hn : 24 < nl
      · have hnz : (24 : Int) < (nl : Int) := by omega
        have HF : Hid (Fl (gof a xs es) 2 0) := .long (show 1 ≤ a by omega) (show a ≤ 3 by omega) (Or.inl (by rw [← HNL.out.1]; exact hn))
        clear hn
        go_enter Tryz.func7, Tryz.ntmps7
        go_upto_region 1 with fail
        rw [HW.out]
        go_wp2_with fail
        go_ret2
        exact ⟨2, 0, rfl, HF.out, B0.out⟩
      · have hnz : ¬ (24 : Int) < (nl : Int) := by omega
        by_cases he : 48 < el
        · have hez : (48 : Int) < (el : Int) := by omega
          have HF : Hid (Fl (gof a xs es) 2 0) := .long (show 1 ≤ a by omega) (show a ≤ 3 by omega) (Or.inr (by rw [← HEL.out.1]; exact he))
          clear hn he
          go_enter Tryz.func7, Tryz.ntmps7
          go_upto_region 1 with fail
          rw [HW.out]
          go_wp2_with fail
          go_ret2
          exact ⟨2, 0, rfl, HF.out, B0.out⟩
        · have hez : ¬ (48 : Int) < (el : Int) := by omega
          have HA : Hid (1 ≤ (gof a xs es).arity ∧ (gof a xs es).arity ≤ 3 ∧ (gof a xs es).nodes.length ≤ 24 ∧ (gof a xs es).edges.length ≤ 48) := ⟨show 1 ≤ a by omega, show a ≤ 3 by omega, by rw [← HNL.out.1]; omega, by rw [← HEL.out.1]; omega⟩
          have h24 : nl ≤ 24 := by omega
          have h48 : el ≤ 48 := by omega
          have HAA : Hid (1 ≤ a ∧ a ≤ 3) := ⟨by omega, by omega⟩
          clear hn he
          go_enter Tryz.func7, Tryz.ntmps7
          go_upto_region 1 with fail
          rw [HW.out]
          clear HW
          go_wp2_with fail
          clear hnz hez ha ha3
          go_loopw [4] (fun s4 wr => ∃ j : Nat, j ≤ nl ∧ s4 = .int .i64 (j : Nat) ∧ Hid (Below W0.heap.size W0 wr ∧ NG (gof a xs es) j)) (fun s4 _ => nl - (RowKit.intOf s4).toNat)
          case atStart => exact ⟨0, Nat.zero_le _, rfl, Below.refl _ _, fun _ _ h => absurd h (Nat.not_lt_zero _)⟩
          case round =>
            clear c0 l0
            obtain ⟨j, hj, rfl, HI⟩ := hrel
            have hb0 := (HI.out.1.block _ (tk_lt HB.out)).trans HB.out
            have c1 := (tk_store hb0).1
            have l1 := tk_lt hb0
            have HB1 := hid hb0
            clear hb0
            by_cases hlt : j < nl
            · have hltz : (j : Int) < (nl : Int) := by omega
              have hj0 : (0 : Int) ≤ (j : Int) := by omega
              obtain ⟨y, hy⟩ : ∃ y, xs[j]? = some y := ⟨xs[j]'(by have := HNL.out.2; omega), by simp⟩
              have hym := List.mem_of_getElem? hy
              have HYN : Hid ((gof a xs es).nodes[j]? = some y.n) := by show _ = _; simp [hy]
              have HY := hid hy
              obtain ⟨b1, o1, q1, ev1, -⟩ := ls_atV ((HG.out.nodes.below HI.out.1).ls hy) hy
              simp only [Value.slice.injEq] at ev1
              obtain ⟨rfl, -, rfl⟩ := ev1
              have hcall : ∀ W, Below wr.heap.size wr W → Calls Tryz.prog 22 #[.agg y.cells, .int .i64 a] W fun r w' => r = .returned (.int .i64 (nflaw a y.n)) ∧ Below W.heap.size W w' := fun W hb => rnode_any y a HAA.out W ((HG.out.each y hym).below (HI.out.1.trans (hb.mono HI.out.1.size)))
              clear hy hym
              go_upto_region 8 with fail
              have hS0 : Below wr.heap.size wr wr.drew := (Gr.refl wr).drew.below
              refine wp_regionD (S := fun W => Below wr.heap.size wr W) (D := []) hmx ?_
              refine' wpAnyD_take (i := 0) (oi := { dst := some 33, op := Go.Op.fieldAddr 25 (Go.Operand.tmp 1) 1, type := 0, pos := "ref.go:135", after := #[], guard := none }) (v := _) rfl (by kernel_rfl) (by kernel_rfl) (by kernel_rfl) (fun _ _ _ h => h) (by kernel_rfl) (Or.inl ⟨by rfl, ?hy1⟩) hS0 ?rest1
              case hy1 => (intro W hSw; go_simp; try (with_reducible rfl))
              try simp only [Act.put, List.setIfInBounds_toArray, List.set_cons_zero, List.set_cons_succ]
              refine' wpAnyD_take (i := 1) (oi := { dst := some 34, op := Go.Op.load 22 (Go.Operand.tmp 33), type := 22, pos := "ref.go:135", after := #[{ on := 0, ground := Go.Ground.data }], guard := none }) (v := _) rfl (by kernel_rfl) (by kernel_rfl) (by kernel_rfl) (fun _ _ _ h => h) (by kernel_rfl) (Or.inl ⟨by rfl, ?hy2⟩) hS0 ?rest2
              case hy2 => (intro W hSw; have hb := (hSw.block _ (tk_lt HB1.out)).trans HB1.out; have hc := (tk_store hb).1; have hl := tk_lt hb; go_simp; try (with_reducible rfl))
              try simp only [Act.put, List.setIfInBounds_toArray, List.set_cons_zero, List.set_cons_succ]
              refine' wpAnyD_take (i := 2) (oi := { dst := some 35, op := Go.Op.move (Go.Operand.tmp 4), type := 3, pos := "ref.go:135", after := #[], guard := none }) (v := _) rfl (by kernel_rfl) (by kernel_rfl) (by kernel_rfl) (fun _ _ _ h => h) (by kernel_rfl) (Or.inl ⟨by rfl, ?hy3⟩) hS0 ?rest3
              case hy3 => (intro W hSw; go_simp; try (with_reducible rfl))
              try simp only [Act.put, List.setIfInBounds_toArray, List.set_cons_zero, List.set_cons_succ]
              refine' wpAnyD_take (i := 3) (oi := { dst := some 36, op := Go.Op.indexAddr 22 (Go.Operand.tmp 34) (Go.Operand.tmp 35), type := 0, pos := "ref.go:135", after := #[{ on := 1, ground := Go.Ground.data }, { on := 2, ground := Go.Ground.data }], guard := none }) (v := _) rfl (by kernel_rfl) (by kernel_rfl) (by kernel_rfl) (fun _ _ _ h => h) (by kernel_rfl) (Or.inl ⟨by rfl, ?hy4⟩) hS0 ?rest4
              case hy4 => (intro W hSw; go_simp; try (with_reducible rfl))
              try simp only [Act.put, List.setIfInBounds_toArray, List.set_cons_zero, List.set_cons_succ]
              refine' wpAnyD_take (i := 4) (oi := { dst := some 37, op := Go.Op.load 58 (Go.Operand.tmp 36), type := 58, pos := "ref.go:135", after := #[{ on := 3, ground := Go.Ground.data }], guard := none }) (v := _) rfl (by kernel_rfl) (by kernel_rfl) (by kernel_rfl) (fun _ _ _ h => h) (by kernel_rfl) (Or.inl ⟨by rfl, ?hy5⟩) hS0 ?rest5
              case hy5 => (intro W hSw; obtain ⟨b9, o9, q9, e9, z9, x0, x1, x2, x3, x4, x5, x6, x7, x8, x9⟩ := ls_atV ((HG.out.nodes.below (HI.out.1.trans (hSw.mono HI.out.1.size))).ls HY.out) HY.out; simp only [Value.slice.injEq, Option.some.injEq, Addr.mk.injEq] at e9; obtain ⟨⟨rfl, rfl, -⟩, -, rfl⟩ := e9; go_simp; try (with_reducible rfl))
              try simp only [Act.put, List.setIfInBounds_toArray, List.set_cons_zero, List.set_cons_succ]
              refine' wpAnyD_take (i := 5) (oi := { dst := some 38, op := Go.Op.fieldAddr 25 (Go.Operand.tmp 1) 0, type := 0, pos := "ref.go:135", after := #[], guard := none }) (v := _) rfl (by kernel_rfl) (by kernel_rfl) (by kernel_rfl) (fun _ _ _ h => h) (by kernel_rfl) (Or.inl ⟨by rfl, ?hy6⟩) hS0 ?rest6
              case hy6 => (intro W hSw; go_simp; try (with_reducible rfl))
              try simp only [Act.put, List.setIfInBounds_toArray, List.set_cons_zero, List.set_cons_succ]
              refine' wpAnyD_take (i := 6) (oi := { dst := some 39, op := Go.Op.load 3 (Go.Operand.tmp 38), type := 3, pos := "ref.go:135", after := #[{ on := 5, ground := Go.Ground.data }], guard := none }) (v := _) rfl (by kernel_rfl) (by kernel_rfl) (by kernel_rfl) (fun _ _ _ h => h) (by kernel_rfl) (Or.inl ⟨by rfl, ?hy7⟩) hS0 ?rest7
              case hy7 => (intro W hSw; have hb := (hSw.block _ (tk_lt HB1.out)).trans HB1.out; have hc := (tk_store hb).1; have hl := tk_lt hb; go_simp; try (with_reducible rfl))
              try simp only [Act.put, List.setIfInBounds_toArray, List.set_cons_zero, List.set_cons_succ]
              refine wpAnyD_one (i := 7) (o := { dst := some 40, op := Go.Op.call { callee := Go.Callee.value (Go.Operand.func 22), args := #[Go.Operand.tmp 37, Go.Operand.tmp 39], argTypes := #[58, 3] }, type := 3, pos := "ref.go:135", after := #[{ on := 4, ground := Go.Ground.data }, { on := 6, ground := Go.Ground.data }], guard := none }) (by kernel_rfl) rfl (fun K hK => ?_)
              go_simp
              refine (hcall _ hS0).mono ?_
              rintro r w6 ⟨rfl, b6⟩
              have hS6 : Below wr.heap.size wr w6 := hS0.trans (b6.mono hS0.size)
              clear b6
              go_wp2_with fail
              refine hK.out _ _ (fun hD => hS6) ?_
              clear hK K
              try simp only [Act.put, List.setIfInBounds_toArray, List.set_cons_zero, List.set_cons_succ]
              refine' wpAnyD_take (i := 8) (oi := { dst := some 5, op := Go.Op.assign (Go.Operand.tmp 40), type := 3, pos := "ref.go:135", after := #[{ on := 7, ground := Go.Ground.data }, { on := 7, ground := Go.Ground.chain }, { on := 0, ground := Go.Ground.phase }, { on := 1, ground := Go.Ground.phase }, { on := 2, ground := Go.Ground.phase }, { on := 3, ground := Go.Ground.phase }, { on := 4, ground := Go.Ground.phase }, { on := 5, ground := Go.Ground.phase }, { on := 6, ground := Go.Ground.phase }, { on := 7, ground := Go.Ground.phase }], guard := none }) (v := _) rfl (by kernel_rfl) (by kernel_rfl) (by kernel_rfl) (fun _ _ _ h => h) (by kernel_rfl) (Or.inl ⟨by rfl, ?hy9⟩) hS6 ?rest9
              case hy9 => (intro W hSw; go_simp; try (with_reducible rfl))
              try simp only [Act.put, List.setIfInBounds_toArray, List.set_cons_zero, List.set_cons_succ]
              refine wpAnyD_done (by kernel_rfl) ?_ _
              have B6 := hid (HI.out.1.trans (hS6.mono HI.out.1.size))
              clear hS0 hS6 hcall c1 l1
              by_cases hz : nflaw a y.n = 0
              · have HZ := hid hz
                rw [hz]
                clear hz
                go_wp2_with fail
                go_roundw
                case rel => exact ⟨j + 1, by omega, by go_num, B6.out, ng_step HI.out.2 HYN.out HZ.out⟩
                case measure => simp [RowKit.intOf]; omega
              · have HF : Hid (Fl (gof a xs es) (nflaw a y.n) j) := .node j y.n HA.out.1 HA.out.2.1 HA.out.2.2.1 HA.out.2.2.2 HYN.out HI.out.2 hz
                generalize nflaw a y.n = zz at HF hz ⊢
                have hb : (zz == 0) = false := by simp [hz]
                have hb' : (zz != 0) = true := by simp [hz]
                go_wp2_with fail
                go_ret2
                exact ⟨zz, j, rfl, HF.out, B0.out.trans (B6.out.mono B0.out.size)⟩
            · have hltz : ¬ (j : Int) < (nl : Int) := by omega
              have HNG : Hid (NG (gof a xs es) (gof a xs es).nodes.length) := by
                have h := HI.out.2
                rw [show j = nl by omega, HNL.out.1] at h
                exact h
              have HNR : Hid (Pok (xs.map NV.n)) := fun n hn => by
                obtain ⟨q, hq, rfl⟩ := List.mem_iff_getElem.1 hn
                exact nflaw_ports (HNG.out q _ hq (List.getElem?_eq_getElem hq))
              go_wp2_with fail
              have BI := hid HI.out.1
              clear c1 l1 HI hltz hlt HB1
              go_loopw [6] (fun s6 wr => ∃ j : Nat, j ≤ el ∧ s6 = .int .i64 (j : Nat) ∧ Hid (Below W0.heap.size W0 wr ∧ EG (gof a xs es) j)) (fun s6 _ => el - (RowKit.intOf s6).toNat)
              case atStart => exact ⟨0, Nat.zero_le _, rfl, BI.out, fun _ _ h => absurd h (Nat.not_lt_zero _)⟩
              case round =>
                obtain ⟨i, hi, rfl, HI⟩ := hrel
                clear BI
                have hb0 := (HI.out.1.block _ (tk_lt HB.out)).trans HB.out
                have c1 := (tk_store hb0).1
                have l1 := tk_lt hb0
                clear hb0
                by_cases hlt : i < el
                · have hltz : (i : Int) < (el : Int) := by omega
                  obtain ⟨y, hy⟩ : ∃ y, es[i]? = some y := ⟨es[i]'(by have := HEL.out.2; omega), by simp⟩
                  have HYN : Hid ((gof a xs es).edges[i]? = some y) := hy
                  have hcall := redge_any (a := a) (nv := .slice pn nl cn) (ev := .slice pe el ce) i y hy (by have := HEL.out.2; omega) wr ⟨(HG.out.nodes.below HI.out.1).up HI.out.1.size, by have := HNL.out.2; omega, HNR.out⟩ (HG.out.edges.below HI.out.1)
                  generalize hzz : eflawN (xs.map NV.n) (es.take i) y = zz at hcall
                  have HZZ : Hid (eflawN (gof a xs es).nodes ((gof a xs es).edges.take i) y = zz) := hzz
                  clear hzz hy
                  by_cases hz : zz = 0
                  · subst hz
                    go_wp2_with fail
                    refine hcall.mono ?_
                    rintro r w6 ⟨rfl, b6⟩
                    have B6 := hid (HI.out.1.trans (b6.mono HI.out.1.size))
                    clear b6 hcall c1 l1
                    go_wp2_with fail
                    go_roundw
                    case rel => exact ⟨i + 1, by omega, by go_num, B6.out, eg_step HI.out.2 HYN.out HZZ.out⟩
                    case measure => simp [RowKit.intOf]; omega
                  · have hb : (zz == 0) = false := by simp [hz]
                    have hb' : (zz != 0) = true := by simp [hz]
                    have HF : Hid (Fl (gof a xs es) zz (nl + i : Nat)) := by
                      have h := Fl.edge (g := gof a xs es) i y HA.out.1 HA.out.2.1 HA.out.2.2.1 HA.out.2.2.2 HNG.out HYN.out HI.out.2 (by rw [HZZ.out]; exact hz)
                      rw [HZZ.out, ← HNL.out.1] at h
                      exact h
                    go_wp2_with fail
                    refine hcall.mono ?_
                    rintro r w6 ⟨rfl, b6⟩
                    have B6 := hid (HI.out.1.trans (b6.mono HI.out.1.size))
                    clear b6 hcall c1 l1
                    have hb9 := (B6.out.block _ (tk_lt HB.out)).trans HB.out
                    have c9 := (tk_store hb9).1
                    have l9 := tk_lt hb9
                    have hnn : (nl : Int) ≤ 24 := by omega
                    have hii : (i : Int) ≤ 48 := by omega
                    clear hb9
                    go_upto_region 16 with fail
                    go_quiet (fail)
                    go_wp2_with fail
                    go_ret2
                    exact ⟨zz, (nl + i : Nat), by push_cast; rfl, HF.out, B0.out.trans ((B6.out.trans (((Gr.refl _).drewN _).below.mono B6.out.size)).mono B0.out.size)⟩
                · have hltz : ¬ (i : Int) < (el : Int) := by omega
                  have HF : Hid (Fl (gof a xs es) 0 0) := .none HA.out.1 HA.out.2.1 HA.out.2.2.1 HA.out.2.2.2 HNG.out (by
                    have h := HI.out.2
                    rw [show i = el by omega, HEL.out.1] at h
                    exact h)
                  go_wp2_with fail
                  go_ret2
                  exact ⟨0, 0, rfl, HF.out, B0.out.trans (HI.out.1.mono B0.out.size)⟩
end Go.Proofs.YtngnfglnfkhheaaGreat.Df
