import Derived.Test.YtjppkehnjnmbnaaGreatJ11
import Derived.Test.YtjppkehnjnmbnaaGreatLHold
import Derived.BigQuiet
import Derived.Test.YtjppkehnjnmbnaaGreatJ10
import Derived.Test.YtjppkehnjnmbnaaGreatJ8
namespace Go.Proofs.YtjppkehnjnmbnaaGreat.Df
open Go.RowKit Go.Sort
attribute [local go_sem ↓] Go.wp_at_zero Go.wp_at_succ
theorem outN_neg {ns : List Nod} {i p : Int} (hp : Pok ns) : outN ns i p < 0 ↔ hasON ns i p = false := by
 unfold outN
 constructor
 ·intro h
  cases e : hasON ns i p with
  | false => rfl
  | true =>
   obtain ⟨n, hn, _, _, h1, _⟩ := has_out e
   have := hp n (List.mem_of_getElem? hn)
   rw [if_pos e, hn] at h
   simp only at h
   omega
 ·intro h
  rw [if_neg (by rw [h]; decide)]
  decide
theorem inN_neg {ns : List Nod} {i p : Int} : inN ns i p < 0 ↔ hasIN ns i p = false := by
 unfold inN
 constructor
 ·intro h
  cases e : hasIN ns i p with
  | false => rfl
  | true =>
   obtain ⟨n, hn, _, _, h1, _⟩ := has_in e
   rw [if_pos e] at h
   omega
 ·intro h
  rw [if_neg (by rw [h]; decide)]
  decide
theorem anyw_false {l : List Edg} {j : Nat} {y : Edg} (h : ∀ m c, m < j → l[m]? = some c → way c y = false) : anyw (l.take j) y = false := by
 unfold anyw
 rw [List.any_eq_false]
 intro c hc
 obtain ⟨m, hm, rfl⟩ := List.mem_iff_getElem.1 hc
 have hm2 : m < j ∧ m < l.length := by simp at hm; omega
 have := h m l[m] hm2.1 (by simp [hm2.2])
 simp only [List.getElem_take]
 rw [this]
 decide
theorem anyw_true {l : List Edg} {j m : Nat} {c y : Edg} (hm : m < j) (h : l[m]? = some c) (hw : way c y = true) : anyw (l.take j) y = true := by
 unfold anyw
 rw [List.any_eq_true]
 exact ⟨c, List.mem_of_getElem? (i := m) (by rw [List.getElem?_take, if_pos hm]; exact h), hw⟩
set_option maxRecDepth 100000 in
set_option maxHeartbeats 8000000 in
theorem redge_any {M : Nat} {nv ev : Value} {a : Int} {xs : List NV} {es : List Edg} (i : Nat) (y : Edg) (hi : es[i]? = some y) (hel : es.length ≤ 48) (w : World) (h : Nr w nv xs) (hE : Lz ED M w ev es) : Calls Tryz.prog 52 #[.agg (gvc a nv ev), .int .i64 (i : Nat)] w fun r w' => r = .returned (.int .i64 (eflawN (xs.map NV.n) (es.take i) y)) ∧ Below w.heap.size w w' := by
 have g0 := (Gr.refl w).alloc (.cells (gvc a nv ev) 25)
 have HB := hid (heap_new' w (.cells (gvc a nv ev) 25))
 have HN := hid (h.below g0.below)
 have HE := hid (hE.below g0.below)
 obtain ⟨W0, hW0⟩ : ∃ W, W = w.alloc (.cells (gvc a nv ev) 25) := ⟨_, rfl⟩
 have HW : Hid (w.alloc (.cells #[.int .i64 a, nv, ev] 25) = W0) := hW0.symm
 rw [← hW0] at g0 HB HN HE
 have B0 := hid g0.below
 obtain ⟨qn, cn, rfl⟩ := h.nodes.form
 obtain ⟨qe, ce, rfl⟩ := hE.form
 have HP := hid h.pok
 obtain ⟨ns, hns⟩ : ∃ ns, ns = xs.map NV.n := ⟨_, rfl⟩
 rw [← hns] at HP ⊢
 have HNS := hid hns
 have hil := (List.getElem?_eq_some_iff.1 hi).1
 have HY := hid hi
 generalize hxl : xs.length = nl at *
 generalize hes : es.length = el at *
 have HXL := hid hxl
 have HES := hid hes
 have hiz : (i : Int) < (el : Int) := by omega
 have hi0 : (0 : Int) ≤ (i : Int) := by omega
 obtain ⟨b1, o1, q1, ev1, zz1, x0, x1, x2, x3, x4⟩ := ls_atD (HE.out.ls hi) hi
 simp only [Value.slice.injEq] at ev1
 obtain ⟨rfl, -, rfl⟩ := ev1
 clear h hE hW0 g0 hns hxl hes hi
 have c0 := (tk_store HB.out).1
 have l0 := tk_lt HB.out
 obtain ⟨yb, hyb⟩ : ∃ b, b = W0.heap.size := ⟨_, rfl⟩
 obtain ⟨W5, hW5⟩ : ∃ W, W = W0.alloc (.cells (ecells y) 94) := ⟨_, rfl⟩
 have P5 : Hid (Below W0.heap.size W0 W5 ∧ W5.heap[yb]? = some (.cells (ecells y) 94 (0, 0)) ∧ W5.heap[w.heap.size]? = some (.cells (gvc a (.slice qn nl cn) (.slice (some ⟨b1, o1, none⟩) el ce)) 25 (0, 0))) := by
  have g5 := ((Gr.refl W0).alloc (.cells (ecells y) 94)).below
  rw [hW5, hyb]
  exact ⟨g5, heap_new' _ _, (g5.block _ (tk_lt HB.out)).trans HB.out⟩
 have HW5 : Hid (W0.alloc (.cells #[.int .i64 y.src, .int .i64 y.out, .int .i64 y.dst, .int .i64 y.inn, .bool y.keyed] 94) = W5 ∧ W0.heap.size = yb) := ⟨hW5.symm, hyb.symm⟩
 clear hW5 hyb
 go_enter Tryz.func52, Tryz.ntmps52
 go_upto_region 1 with fail
 rw [HW.out]
 clear HW
 go_upto_region 2 with fail
 rw [HW5.out.1, HW5.out.2]
 clear HW5 x0 x1 x2 x3 x4 zz1 c0 l0
 have cy := (tk_store P5.out.2.1).1
 have ly := tk_lt P5.out.2.1
 have cg := (tk_store P5.out.2.2).1
 have lg := tk_lt P5.out.2.2
 have ho := rout_any (a := a) (qe := some ⟨b1, o1, none⟩) (me := el) (ce := ce) y.src y.out W5 (HN.out.below P5.out.1)
 rw [← HNS.out] at ho
 by_cases h1 : outN ns y.src y.out < 0
 ·have HR : Hid (eflawN ns (es.take i) y = 25) := if_pos (Or.inl ((outN_neg HP.out).1 h1))
  generalize outN ns y.src y.out = z1 at ho h1
  go_wp2_with fail
  refine ho.mono ?_
  rintro r w6 ⟨rfl, g6⟩
  have B6 := hid (B0.out.trans ((P5.out.1.trans (g6.below.mono P5.out.1.size)).mono B0.out.size))
  clear g6 ho
  go_wp2_with fail
  go_ret
  exact ⟨by rw [HR.out]; rfl, B6.out⟩
 ·have HO : Hid (hasON ns y.src y.out = true) := by
    show _ = _
    cases e : hasON ns y.src y.out with
    | true => rfl
    | false => exact absurd ((outN_neg HP.out).2 e) h1
  generalize outN ns y.src y.out = z1 at ho h1
  go_wp2_with fail
  refine ho.mono ?_
  rintro r w6 ⟨rfl, g6⟩
  have P6 : Hid (Below W0.heap.size W0 w6 ∧ w6.heap[yb]? = some (.cells (ecells y) 94 (0, 0)) ∧ w6.heap[w.heap.size]? = some (.cells (gvc a (.slice qn nl cn) (.slice (some ⟨b1, o1, none⟩) el ce)) 25 (0, 0))) := ⟨P5.out.1.trans (g6.below.mono P5.out.1.size), (g6.below.block _ (tk_lt P5.out.2.1)).trans P5.out.2.1, (g6.below.block _ (tk_lt P5.out.2.2)).trans P5.out.2.2⟩
  clear g6 ho cy ly cg lg
  have cy := (tk_store P6.out.2.1).1
  have ly := tk_lt P6.out.2.1
  have cg := (tk_store P6.out.2.2).1
  have lg := tk_lt P6.out.2.2
  have hn := rin_any (a := a) (qe := some ⟨b1, o1, none⟩) (me := el) (ce := ce) y.dst y.inn w6 (HN.out.below P6.out.1)
  rw [← HNS.out] at hn
  by_cases h2 : inN ns y.dst y.inn < 0
  ·have HR : Hid (eflawN ns (es.take i) y = 25) := if_pos (Or.inr (Or.inl (inN_neg.1 h2)))
   generalize inN ns y.dst y.inn = z2 at hn h2
   go_wp2_with fail
   refine hn.mono ?_
   rintro r w7 ⟨rfl, g7⟩
   have B7 := hid (B0.out.trans ((P6.out.1.trans (g7.below.mono P6.out.1.size)).mono B0.out.size))
   clear g7 hn
   go_wp2_with fail
   go_ret
   exact ⟨by rw [HR.out]; rfl, B7.out⟩
  ·have HI2 : Hid (hasIN ns y.dst y.inn = true) := by
     show _ = _
     cases e : hasIN ns y.dst y.inn with
     | true => rfl
     | false => exact absurd (inN_neg.2 e) h2
   generalize inN ns y.dst y.inn = z2 at hn h2
   go_wp2_with fail
   refine hn.mono ?_
   rintro r w7 ⟨rfl, g7⟩
   have P7 : Hid (Below W0.heap.size W0 w7 ∧ w7.heap[yb]? = some (.cells (ecells y) 94 (0, 0)) ∧ w7.heap[w.heap.size]? = some (.cells (gvc a (.slice qn nl cn) (.slice (some ⟨b1, o1, none⟩) el ce)) 25 (0, 0))) := ⟨P6.out.1.trans (g7.below.mono P6.out.1.size), (g7.below.block _ (tk_lt P6.out.2.1)).trans P6.out.2.1, (g7.below.block _ (tk_lt P6.out.2.2)).trans P6.out.2.2⟩
   clear g7 hn cy ly cg lg
   go_wp2_with fail
   clear h1 h2
   go_loopw [6] (fun s6 wr => ∃ p : Nat, p ≤ i ∧ s6 = .int .i64 (p : Nat) ∧ Hid ((Below W0.heap.size W0 wr ∧ wr.heap[yb]? = some (.cells (ecells y) 94 (0, 0)) ∧ wr.heap[w.heap.size]? = some (.cells (gvc a (.slice qn nl cn) (.slice (some ⟨b1, o1, none⟩) el ce)) 25 (0, 0))) ∧ ∀ m c, m < p → es[m]? = some c → way c y = false)) (fun s6 _ => i - (RowKit.intOf s6).toNat)
   case atStart => exact ⟨0, Nat.zero_le _, rfl, P7.out, fun m c hm => by omega⟩
   case round =>
    clear P7
    obtain ⟨p, hp, rfl, HI⟩ := hrel
    have cy := (tk_store HI.out.1.2.1).1
    have ly := tk_lt HI.out.1.2.1
    have cg := (tk_store HI.out.1.2.2).1
    have lg := tk_lt HI.out.1.2.2
    by_cases hpl : p < i
    ·have hplz : (p : Int) < (i : Int) := by omega
     have hp0 : (0 : Int) ≤ (p : Int) := by omega
     have hpe : (p : Int) < (el : Int) := by omega
     obtain ⟨z, hz⟩ : ∃ z, es[p]? = some z := ⟨es[p]'(by have := HES.out; omega), by simp⟩
     obtain ⟨b2, o2, q2, ev2, zz2, x0, x1, x2, x3, x4⟩ := ls_atD ((HE.out.below HI.out.1.1).ls hz) hz
     simp only [Value.slice.injEq, Option.some.injEq, Addr.mk.injEq] at ev2
     obtain ⟨⟨rfl, rfl, -⟩, -, rfl⟩ := ev2
     have HZ := hid hz
     clear hz
     obtain ⟨zb, hzb⟩ : ∃ b, b = wr.heap.size := ⟨_, rfl⟩
     obtain ⟨W8, hW8⟩ : ∃ W, W = wr.alloc (.cells (ecells z) 94) := ⟨_, rfl⟩
     have P8 : Hid ((Below W0.heap.size W0 W8 ∧ W8.heap[yb]? = some (.cells (ecells y) 94 (0, 0)) ∧ W8.heap[w.heap.size]? = some (.cells (gvc a (.slice qn nl cn) (.slice (some ⟨b1, o1, none⟩) el ce)) 25 (0, 0))) ∧ W8.heap[zb]? = some (.cells (ecells z) 94 (0, 0))) := by
      have g8 := ((Gr.refl wr).alloc (.cells (ecells z) 94)).below
      rw [hW8, hzb]
      exact ⟨⟨HI.out.1.1.trans (g8.mono HI.out.1.1.size), (g8.block _ (tk_lt HI.out.1.2.1)).trans HI.out.1.2.1, (g8.block _ (tk_lt HI.out.1.2.2)).trans HI.out.1.2.2⟩, heap_new' _ _⟩
     have HW8 : Hid (wr.alloc (.cells #[.int .i64 z.src, .int .i64 z.out, .int .i64 z.dst, .int .i64 z.inn, .bool z.keyed] 94) = W8 ∧ wr.heap.size = zb) := ⟨hW8.symm, hzb.symm⟩
     clear hW8 hzb
     go_upto_region 8 with fail
     rw [HW8.out.1, HW8.out.2]
     clear HW8 x0 x1 x2 x3 x4 zz2 cy ly cg lg
     have cz := (tk_store P8.out.2).1
     have lz := tk_lt P8.out.2
     have cy := (tk_store P8.out.1.2.1).1
     have ly := tk_lt P8.out.1.2.1
     by_cases h0 : z.src = y.src
     ·have hb0 : (z.src == y.src) = true := by simp [h0]
      by_cases h1 : z.out = y.out
      ·have hb1 : (z.out == y.out) = true := by simp [h1]
       by_cases h2 : z.dst = y.dst
       ·have hb2 : (z.dst == y.dst) = true := by simp [h2]
        by_cases h3 : z.inn = y.inn
        ·have hb3 : (z.inn == y.inn) = true := by simp [h3]
         have HR : Hid (eflawN ns (es.take i) y = 25) := if_pos (Or.inr (Or.inr (anyw_true hpl HZ.out ((way_iff z y).2 ⟨h0, h1, h2, h3⟩))))
         clear h0 h1 h2 h3
         go_wp2_with fail
         go_ret
         exact ⟨by rw [HR.out]; rfl, B0.out.trans (P8.out.1.1.mono B0.out.size)⟩
        ·have hb3 : (z.inn == y.inn) = false := by simp [h3]
         have HWY : Hid (way z y = false) := by
          show _ = _
          rw [Bool.eq_false_iff]
          intro e
          exact h3 ((way_iff z y).1 e).2.2.2
         clear h0 h1 h2 h3
         go_wp2_with fail
         go_roundw
         case rel => exact ⟨p + 1, by omega, by go_num, P8.out.1, fun m c hm hc => by
          by_cases e : m = p
          ·subst e
           rw [HZ.out] at hc
           cases hc
           exact HWY.out
          ·exact HI.out.2 m c (by omega) hc⟩
         case measure => simp [RowKit.intOf]; omega
       ·have hb2 : (z.dst == y.dst) = false := by simp [h2]
        have HWY : Hid (way z y = false) := by
         show _ = _
         rw [Bool.eq_false_iff]
         intro e
         exact h2 ((way_iff z y).1 e).2.2.1
        clear h0 h1 h2
        go_wp2_with fail
        go_roundw
        case rel => exact ⟨p + 1, by omega, by go_num, P8.out.1, fun m c hm hc => by
         by_cases e : m = p
         ·subst e
          rw [HZ.out] at hc
          cases hc
          exact HWY.out
         ·exact HI.out.2 m c (by omega) hc⟩
        case measure => simp [RowKit.intOf]; omega
      ·have hb1 : (z.out == y.out) = false := by simp [h1]
       have HWY : Hid (way z y = false) := by
        show _ = _
        rw [Bool.eq_false_iff]
        intro e
        exact h1 ((way_iff z y).1 e).2.1
       clear h0 h1
       go_wp2_with fail
       go_roundw
       case rel => exact ⟨p + 1, by omega, by go_num, P8.out.1, fun m c hm hc => by
        by_cases e : m = p
        ·subst e
         rw [HZ.out] at hc
         cases hc
         exact HWY.out
        ·exact HI.out.2 m c (by omega) hc⟩
       case measure => simp [RowKit.intOf]; omega
     ·have hb0 : (z.src == y.src) = false := by simp [h0]
      have HWY : Hid (way z y = false) := by
       show _ = _
       rw [Bool.eq_false_iff]
       intro e
       exact h0 ((way_iff z y).1 e).1
      clear h0
      go_wp2_with fail
      go_roundw
      case rel => exact ⟨p + 1, by omega, by go_num, P8.out.1, fun m c hm hc => by
       by_cases e : m = p
       ·subst e
        rw [HZ.out] at hc
        cases hc
        exact HWY.out
       ·exact HI.out.2 m c (by omega) hc⟩
      case measure => simp [RowKit.intOf]; omega
    ·have hplz : ¬ (p : Int) < (i : Int) := by omega
     obtain rfl : p = i := by omega
     have HA := hid (anyw_false HI.out.2)
     obtain ⟨n, hn, hd0, hdl, -, -⟩ := has_in HI2.out
     obtain ⟨j, hj⟩ : ∃ j : Nat, y.dst = (j : Int) := ⟨y.dst.toNat, by omega⟩
     rw [hj, Int.toNat_natCast] at hn hdl
     rw [HNS.out] at hn
     obtain ⟨v, hv, hvn⟩ := nd_get hn
     have hjl : (j : Int) < (nl : Int) := by
      have := (List.getElem?_eq_some_iff.1 hv).1
      have := HXL.out
      omega
     have HR : Hid (eflawN ns (es.take p) y = if v.n.kind = 6 ∧ y.keyed = false then 26 else 0) := by
      show _ = _
      unfold eflawN
      rw [if_neg (by rw [HO.out, HI2.out, HA.out]; simp)]
      unfold natN?
      rw [if_pos hd0, hj, Int.toNat_natCast, HNS.out, hn, hvn]
     obtain ⟨b4, o4, c4, e4, z4, x0, -⟩ := ls_atV ((HN.out.nodes.below HI.out.1.1).ls hv) hv
     simp only [Value.slice.injEq] at e4
     obtain ⟨rfl, -, rfl⟩ := e4
     have hj0 : (0 : Int) ≤ (j : Int) := by omega
     obtain ⟨ds, dt, dd, di, dk⟩ := y
     simp only at hj
     subst hj
     clear hn hv hvn hdl hd0
     by_cases k6 : v.n.kind = 6
     ·cases dk with
      | true =>
       go_wp2_with fail
       go_ret
       exact ⟨by rw [HR.out]; simp, B0.out.trans (HI.out.1.1.mono B0.out.size)⟩
      | false =>
       go_wp2_with fail
       go_ret
       exact ⟨by rw [HR.out]; simp [k6], B0.out.trans (HI.out.1.1.mono B0.out.size)⟩
     ·have kb : (v.n.kind == 6) = false := by simp [k6]
      go_wp2_with fail
      go_ret
      exact ⟨by rw [HR.out]; simp [k6], B0.out.trans (HI.out.1.1.mono B0.out.size)⟩
set_option maxRecDepth 100000 in
set_option maxHeartbeats 8000000 in
theorem rcheck_any {M : Nat} {nv ev : Value} {a : Int} {xs : List NV} {es : List Edg} (w : World) (hG : GR M w nv ev xs es) (hM : M ≤ w.heap.size) : Calls Tryz.prog 31 #[.agg (gvc a nv ev)] w fun r w' => ∃ e t : Int, r = .returned (.tuple #[.int .i64 e, .int .i64 t]) ∧ Fl (gof a xs es) e t ∧ Below w.heap.size w w' := by
 have hmx : Tryz.prog.follows .mixedOrders = true := by kernel_rfl
 obtain ⟨pn, cn, hnv⟩ := hG.nodes.form
 obtain ⟨pe, ce, hev⟩ := hG.edges.form
 obtain ⟨nl, hnl⟩ : ∃ n, n = xs.length := ⟨_, rfl⟩
 obtain ⟨el, hel⟩ : ∃ n, n = es.length := ⟨_, rfl⟩
 rw [← hnl] at hnv
 rw [← hel] at hev
 subst hnv
 subst hev
 have HNL : Hid (nl = (gof a xs es).nodes.length ∧ nl = xs.length) := ⟨by simp [hnl], hnl⟩
 have HEL : Hid (el = (gof a xs es).edges.length ∧ el = es.length) := ⟨by simp [hel], hel⟩
 have g0 := (Gr.refl w).alloc (.cells (gvc a (.slice pn nl cn) (.slice pe el ce)) 25)
 have HG := hid ((hG.up hM).later (Nat.le_refl _) g0.below)
 have HB := hid (heap_new' w (.cells (gvc a (.slice pn nl cn) (.slice pe el ce)) 25))
 have B0 := hid g0.below
 obtain ⟨W0, hW0⟩ : ∃ W, W = w.alloc (.cells (gvc a (.slice pn nl cn) (.slice pe el ce)) 25) := ⟨_, rfl⟩
 have HW : Hid (w.alloc (.cells #[.int .i64 a, .slice pn nl cn, .slice pe el ce] 25) = W0) := hW0.symm
 rw [← hW0] at HG HB B0
 have c0 := (tk_store HB.out).1
 have l0 := tk_lt HB.out
 clear hG g0 hW0 hnl hel hM
 by_cases ha : a < 1
 ·have HF : Hid (Fl (gof a xs es) 10 0) := .arity (Or.inl ha)
  go_enter Tryz.func31, Tryz.ntmps31
  go_upto_region 1 with fail
  rw [HW.out]
  go_wp2_with fail
  go_ret2
  exact ⟨10, 0, rfl, HF.out, B0.out⟩
 ·by_cases ha3 : 3 < a
  ·have HF : Hid (Fl (gof a xs es) 10 0) := .arity (Or.inr ha3)
   go_enter Tryz.func31, Tryz.ntmps31
   go_upto_region 1 with fail
   rw [HW.out]
   go_wp2_with fail
   go_ret2
   exact ⟨10, 0, rfl, HF.out, B0.out⟩
  ·by_cases hn : 24 < nl
   ·have hnz : (24 : Int) < (nl : Int) := by omega
    have HF : Hid (Fl (gof a xs es) 2 0) := .long (show 1 ≤ a by omega) (show a ≤ 3 by omega) (Or.inl (by rw [← HNL.out.1]; exact hn))
    clear hn
    go_enter Tryz.func31, Tryz.ntmps31
    go_upto_region 1 with fail
    rw [HW.out]
    go_wp2_with fail
    go_ret2
    exact ⟨2, 0, rfl, HF.out, B0.out⟩
   ·have hnz : ¬ (24 : Int) < (nl : Int) := by omega
    by_cases he : 48 < el
    ·have hez : (48 : Int) < (el : Int) := by omega
     have HF : Hid (Fl (gof a xs es) 2 0) := .long (show 1 ≤ a by omega) (show a ≤ 3 by omega) (Or.inr (by rw [← HEL.out.1]; exact he))
     clear hn he
     go_enter Tryz.func31, Tryz.ntmps31
     go_upto_region 1 with fail
     rw [HW.out]
     go_wp2_with fail
     go_ret2
     exact ⟨2, 0, rfl, HF.out, B0.out⟩
    ·have hez : ¬ (48 : Int) < (el : Int) := by omega
     have HA : Hid (1 ≤ (gof a xs es).arity ∧ (gof a xs es).arity ≤ 3 ∧ (gof a xs es).nodes.length ≤ 24 ∧ (gof a xs es).edges.length ≤ 48) := ⟨show 1 ≤ a by omega, show a ≤ 3 by omega, by rw [← HNL.out.1]; omega, by rw [← HEL.out.1]; omega⟩
     have h24 : nl ≤ 24 := by omega
     have h48 : el ≤ 48 := by omega
     have HAA : Hid (1 ≤ a ∧ a ≤ 3) := ⟨by omega, by omega⟩
     clear hn he
     go_enter Tryz.func31, Tryz.ntmps31
     go_upto_region 1 with fail
     rw [HW.out]
     clear HW
     go_wp2_with fail
     clear hnz hez ha ha3
     go_loopw [4] (fun s4 wr => ∃ j : Nat, j ≤ nl ∧ s4 = .int .i64 (j : Nat) ∧ Hid (Below W0.heap.size W0 wr ∧ NG (gof a xs es) j)) (fun s4 _ => nl - (RowKit.intOf s4).toNat)
     case atStart => exact ⟨0, Nat.zero_le _, rfl, Below.refl _ _, fun _ _ h => absurd h (Nat.not_lt_zero _)⟩
     case round =>
      clear c0 l0
      obtain ⟨j, hj, rfl, HI⟩ := hrel
      have hb0 := (HI.out.1.block _ (tk_lt HB.out)).trans HB.out
      have c1 := (tk_store hb0).1
      have l1 := tk_lt hb0
      have HB1 := hid hb0
      clear hb0
      by_cases hlt : j < nl
      ·have hltz : (j : Int) < (nl : Int) := by omega
       have hj0 : (0 : Int) ≤ (j : Int) := by omega
       obtain ⟨y, hy⟩ : ∃ y, xs[j]? = some y := ⟨xs[j]'(by have := HNL.out.2; omega), by simp⟩
       have hym := List.mem_of_getElem? hy
       have HYN : Hid ((gof a xs es).nodes[j]? = some y.n) := by show _ = _; simp [hy]
       have HY := hid hy
       obtain ⟨b1, o1, q1, ev1, -⟩ := ls_atV ((HG.out.nodes.below HI.out.1).ls hy) hy
       simp only [Value.slice.injEq] at ev1
       obtain ⟨rfl, -, rfl⟩ := ev1
       have hcall : ∀ W, Below wr.heap.size wr W → Calls Tryz.prog 51 #[.agg y.cells, .int .i64 a] W fun r w' => r = .returned (.int .i64 (nflaw a y.n)) ∧ Below W.heap.size W w' := fun W hb => rnode_any y a HAA.out W ((HG.out.each y hym).below (HI.out.1.trans (hb.mono HI.out.1.size)))
       clear hy hym
       go_upto_region 8 with fail
       have hS0 : Below wr.heap.size wr wr.drew := (Gr.refl wr).drew.below
       refine wp_regionD (S := fun W => Below wr.heap.size wr W) (D := []) hmx ?_
       refine' wpAnyD_take (i := 0) (oi := {dst := some 33, op := .fieldAddr 25 (.tmp 1) 1, type := 0, pos := "ref.go:135", after := #[], guard := none}) (v := _) rfl (by kernel_rfl) (by kernel_rfl) (by kernel_rfl) (fun _ _ _ h => h) (by kernel_rfl) (Or.inl ⟨by rfl, ?hy1⟩) hS0 ?rest1
       case hy1 => (intro W hSw; go_simp; try (with_reducible rfl))
       try simp only [Act.put, List.setIfInBounds_toArray, List.set_cons_zero, List.set_cons_succ]
       refine' wpAnyD_take (i := 1) (oi := {dst := some 34, op := .load 22 (.tmp 33), type := 22, pos := "ref.go:135", after := #[{on := 0, ground := .data}], guard := none}) (v := _) rfl (by kernel_rfl) (by kernel_rfl) (by kernel_rfl) (fun _ _ _ h => h) (by kernel_rfl) (Or.inl ⟨by rfl, ?hy2⟩) hS0 ?rest2
       case hy2 => (intro W hSw; have hb := (hSw.block _ (tk_lt HB1.out)).trans HB1.out; have hc := (tk_store hb).1; have hl := tk_lt hb; go_simp; try (with_reducible rfl))
       try simp only [Act.put, List.setIfInBounds_toArray, List.set_cons_zero, List.set_cons_succ]
       refine' wpAnyD_take (i := 2) (oi := {dst := some 35, op := .move (.tmp 4), type := 3, pos := "ref.go:135", after := #[], guard := none}) (v := _) rfl (by kernel_rfl) (by kernel_rfl) (by kernel_rfl) (fun _ _ _ h => h) (by kernel_rfl) (Or.inl ⟨by rfl, ?hy3⟩) hS0 ?rest3
       case hy3 => (intro W hSw; go_simp; try (with_reducible rfl))
       try simp only [Act.put, List.setIfInBounds_toArray, List.set_cons_zero, List.set_cons_succ]
       refine' wpAnyD_take (i := 3) (oi := {dst := some 36, op := .indexAddr 22 (.tmp 34) (.tmp 35), type := 0, pos := "ref.go:135", after := #[{on := 1, ground := .data}, {on := 2, ground := .data}], guard := none}) (v := _) rfl (by kernel_rfl) (by kernel_rfl) (by kernel_rfl) (fun _ _ _ h => h) (by kernel_rfl) (Or.inl ⟨by rfl, ?hy4⟩) hS0 ?rest4
       case hy4 => (intro W hSw; go_simp; try (with_reducible rfl))
       try simp only [Act.put, List.setIfInBounds_toArray, List.set_cons_zero, List.set_cons_succ]
       refine' wpAnyD_take (i := 4) (oi := {dst := some 37, op := .load 89 (.tmp 36), type := 89, pos := "ref.go:135", after := #[{on := 3, ground := .data}], guard := none}) (v := _) rfl (by kernel_rfl) (by kernel_rfl) (by kernel_rfl) (fun _ _ _ h => h) (by kernel_rfl) (Or.inl ⟨by rfl, ?hy5⟩) hS0 ?rest5
       case hy5 => (intro W hSw; obtain ⟨b9, o9, q9, e9, z9, x0, x1, x2, x3, x4, x5, x6, x7, x8, x9⟩ := ls_atV ((HG.out.nodes.below (HI.out.1.trans (hSw.mono HI.out.1.size))).ls HY.out) HY.out; simp only [Value.slice.injEq, Option.some.injEq, Addr.mk.injEq] at e9; obtain ⟨⟨rfl, rfl, -⟩, -, rfl⟩ := e9; go_simp; try (with_reducible rfl))
       try simp only [Act.put, List.setIfInBounds_toArray, List.set_cons_zero, List.set_cons_succ]
       refine' wpAnyD_take (i := 5) (oi := {dst := some 38, op := .fieldAddr 25 (.tmp 1) 0, type := 0, pos := "ref.go:135", after := #[], guard := none}) (v := _) rfl (by kernel_rfl) (by kernel_rfl) (by kernel_rfl) (fun _ _ _ h => h) (by kernel_rfl) (Or.inl ⟨by rfl, ?hy6⟩) hS0 ?rest6
       case hy6 => (intro W hSw; go_simp; try (with_reducible rfl))
       try simp only [Act.put, List.setIfInBounds_toArray, List.set_cons_zero, List.set_cons_succ]
       refine' wpAnyD_take (i := 6) (oi := {dst := some 39, op := .load 3 (.tmp 38), type := 3, pos := "ref.go:135", after := #[{on := 5, ground := .data}], guard := none}) (v := _) rfl (by kernel_rfl) (by kernel_rfl) (by kernel_rfl) (fun _ _ _ h => h) (by kernel_rfl) (Or.inl ⟨by rfl, ?hy7⟩) hS0 ?rest7
       case hy7 => (intro W hSw; have hb := (hSw.block _ (tk_lt HB1.out)).trans HB1.out; have hc := (tk_store hb).1; have hl := tk_lt hb; go_simp; try (with_reducible rfl))
       try simp only [Act.put, List.setIfInBounds_toArray, List.set_cons_zero, List.set_cons_succ]
       refine wpAnyD_one (i := 7) (o := {dst := some 40, op := .call {callee := .value (.func 51), args := #[.tmp 37, .tmp 39], argTypes := #[89, 3]}, type := 3, pos := "ref.go:135", after := #[{on := 4, ground := .data}, {on := 6, ground := .data}], guard := none}) (by kernel_rfl) rfl (fun K hK => ?_)
       go_simp
       refine (hcall _ hS0).mono ?_
       rintro r w6 ⟨rfl, b6⟩
       have hS6 : Below wr.heap.size wr w6 := hS0.trans (b6.mono hS0.size)
       clear b6
       go_wp2_with fail
       refine hK.out _ _ (fun hD => hS6) ?_
       clear hK K
       try simp only [Act.put, List.setIfInBounds_toArray, List.set_cons_zero, List.set_cons_succ]
       refine' wpAnyD_take (i := 8) (oi := {dst := some 5, op := .assign (.tmp 40), type := 3, pos := "ref.go:135", after := #[{on := 7, ground := .data}, {on := 7, ground := .chain}, {on := 0, ground := .phase}, {on := 1, ground := .phase}, {on := 2, ground := .phase}, {on := 3, ground := .phase}, {on := 4, ground := .phase}, {on := 5, ground := .phase}, {on := 6, ground := .phase}, {on := 7, ground := .phase}], guard := none}) (v := _) rfl (by kernel_rfl) (by kernel_rfl) (by kernel_rfl) (fun _ _ _ h => h) (by kernel_rfl) (Or.inl ⟨by rfl, ?hy9⟩) hS6 ?rest9
       case hy9 => (intro W hSw; go_simp; try (with_reducible rfl))
       try simp only [Act.put, List.setIfInBounds_toArray, List.set_cons_zero, List.set_cons_succ]
       refine wpAnyD_done (by kernel_rfl) ?_ _
       have B6 := hid (HI.out.1.trans (hS6.mono HI.out.1.size))
       clear hS0 hS6 hcall c1 l1
       by_cases hz : nflaw a y.n = 0
       ·have HZ := hid hz
        rw [hz]
        clear hz
        go_wp2_with fail
        go_roundw
        case rel => exact ⟨j + 1, by omega, by go_num, B6.out, ng_step HI.out.2 HYN.out HZ.out⟩
        case measure => simp [RowKit.intOf]; omega
       ·have HF : Hid (Fl (gof a xs es) (nflaw a y.n) j) := .node j y.n HA.out.1 HA.out.2.1 HA.out.2.2.1 HA.out.2.2.2 HYN.out HI.out.2 hz
        generalize nflaw a y.n = zz at HF hz ⊢
        have hb : (zz == 0) = false := by simp [hz]
        have hb' : (zz != 0) = true := by simp [hz]
        go_wp2_with fail
        go_ret2
        exact ⟨zz, j, rfl, HF.out, B0.out.trans (B6.out.mono B0.out.size)⟩
      ·have hltz : ¬ (j : Int) < (nl : Int) := by omega
       have HNG : Hid (NG (gof a xs es) (gof a xs es).nodes.length) := by
        have h := HI.out.2
        rw [show j = nl by omega, HNL.out.1] at h
        exact h
       have HNR : Hid (Pok (xs.map NV.n)) := fun n hn => by
        obtain ⟨q, hq, rfl⟩ := List.mem_iff_getElem.1 hn
        exact nflaw_ports (HNG.out q _ hq (List.getElem?_eq_getElem hq))
       go_wp2_with fail
       have BI := hid HI.out.1
       clear c1 l1 HI hltz hlt HB1
       go_loopw [6] (fun s6 wr => ∃ j : Nat, j ≤ el ∧ s6 = .int .i64 (j : Nat) ∧ Hid (Below W0.heap.size W0 wr ∧ EG (gof a xs es) j)) (fun s6 _ => el - (RowKit.intOf s6).toNat)
       case atStart => exact ⟨0, Nat.zero_le _, rfl, BI.out, fun _ _ h => absurd h (Nat.not_lt_zero _)⟩
       case round =>
        obtain ⟨i, hi, rfl, HI⟩ := hrel
        clear BI
        have hb0 := (HI.out.1.block _ (tk_lt HB.out)).trans HB.out
        have c1 := (tk_store hb0).1
        have l1 := tk_lt hb0
        clear hb0
        by_cases hlt : i < el
        ·have hltz : (i : Int) < (el : Int) := by omega
         obtain ⟨y, hy⟩ : ∃ y, es[i]? = some y := ⟨es[i]'(by have := HEL.out.2; omega), by simp⟩
         have HYN : Hid ((gof a xs es).edges[i]? = some y) := hy
         have hcall := redge_any (a := a) (nv := .slice pn nl cn) (ev := .slice pe el ce) i y hy (by have := HEL.out.2; omega) wr ⟨(HG.out.nodes.below HI.out.1).up HI.out.1.size, by have := HNL.out.2; omega, HNR.out⟩ (HG.out.edges.below HI.out.1)
         generalize hzz : eflawN (xs.map NV.n) (es.take i) y = zz at hcall
         have HZZ : Hid (eflawN (gof a xs es).nodes ((gof a xs es).edges.take i) y = zz) := hzz
         clear hzz hy
         by_cases hz : zz = 0
         ·subst hz
          go_wp2_with fail
          refine hcall.mono ?_
          rintro r w6 ⟨rfl, b6⟩
          have B6 := hid (HI.out.1.trans (b6.mono HI.out.1.size))
          clear b6 hcall c1 l1
          go_wp2_with fail
          go_roundw
          case rel => exact ⟨i + 1, by omega, by go_num, B6.out, eg_step HI.out.2 HYN.out HZZ.out⟩
          case measure => simp [RowKit.intOf]; omega
         ·have hb : (zz == 0) = false := by simp [hz]
          have hb' : (zz != 0) = true := by simp [hz]
          have HF : Hid (Fl (gof a xs es) zz (nl + i : Nat)) := by
           have h := Fl.edge (g := gof a xs es) i y HA.out.1 HA.out.2.1 HA.out.2.2.1 HA.out.2.2.2 HNG.out HYN.out HI.out.2 (by rw [HZZ.out]; exact hz)
           rw [HZZ.out, ← HNL.out.1] at h
           exact h
          go_wp2_with fail
          refine hcall.mono ?_
          rintro r w6 ⟨rfl, b6⟩
          have B6 := hid (HI.out.1.trans (b6.mono HI.out.1.size))
          clear b6 hcall c1 l1
          have hb9 := (B6.out.block _ (tk_lt HB.out)).trans HB.out
          have c9 := (tk_store hb9).1
          have l9 := tk_lt hb9
          have hnn : (nl : Int) ≤ 24 := by omega
          have hii : (i : Int) ≤ 48 := by omega
          clear hb9
          go_upto_region 16 with fail
          go_quiet (fail)
          go_wp2_with fail
          go_ret2
          exact ⟨zz, (nl + i : Nat), by push_cast; rfl, HF.out, B0.out.trans ((B6.out.trans (((Gr.refl _).drewN _).below.mono B6.out.size)).mono B0.out.size)⟩
        ·have hltz : ¬ (i : Int) < (el : Int) := by omega
         have HF : Hid (Fl (gof a xs es) 0 0) := .none HA.out.1 HA.out.2.1 HA.out.2.2.1 HA.out.2.2.2 HNG.out (by
          have h := HI.out.2
          rw [show i = el by omega, HEL.out.1] at h
          exact h)
         go_wp2_with fail
         go_ret2
         exact ⟨0, 0, rfl, HF.out, B0.out.trans (HI.out.1.mono B0.out.size)⟩
end Go.Proofs.YtjppkehnjnmbnaaGreat.Df

namespace Go.Proofs.YtjppkehnjnmbnaaGreat.Df
open Go.RowKit Go.Sort
attribute [local go_sem ↓] Go.wp_at_zero Go.wp_at_succ
set_option maxHeartbeats 4000000 in
theorem kin_any {nv ev : Value} {a : Int} {xs : List NV} (j : Nat) (p : Int) (hp0 : 0 ≤ p) (hp9 : p ≤ 1000) (hj : j ≤ xs.length) (w : World) (h : Nr w nv xs) : Calls Tryz.prog 39 #[.agg (gvc a nv ev), .int .i64 (j : Nat), .int .i64 p] w fun r w' => r = .returned (.int .i64 ((firstN (xs.map NV.n) j : Nat) + p)) ∧ Gr w w' := by
 have g0 := (Gr.refl w).alloc (.cells (gvc a nv ev) 25)
 have HB := hid (heap_new' w (.cells (gvc a nv ev) 25))
 have HN := hid (h.below g0.below)
 obtain ⟨W0, hW0⟩ : ∃ W, W = w.alloc (.cells (gvc a nv ev) 25) := ⟨_, rfl⟩
 have HW : Hid (w.alloc (.cells #[.int .i64 a, nv, ev] 25) = W0) := hW0.symm
 rw [← hW0] at g0 HB HN
 have G0 := hid g0
 obtain ⟨qn, cn, rfl⟩ := h.nodes.form
 have hnl := h.nl
 have HP := hid h.pok
 obtain ⟨ns, hns⟩ : ∃ ns, ns = xs.map NV.n := ⟨_, rfl⟩
 rw [← hns] at HP ⊢
 have HNS := hid hns
 generalize hxl : xs.length = nl at *
 have HXL := hid hxl
 clear h hW0 g0 hns hxl
 have c0 := (tk_store HB.out).1
 have l0 := tk_lt HB.out
 go_enter Tryz.func39, Tryz.ntmps39
 go_upto_region 1 with fail
 rw [HW.out]
 clear HW
 go_wp2_with fail
 clear c0 l0
 go_loopw [7, 8] (fun sn si wr => ∃ i : Nat, i ≤ j ∧ si = .int .i64 (i : Nat) ∧ sn = .int .i64 (firstN ns i : Nat) ∧ Hid (Gr W0 wr)) (fun _ si _ => j - (RowKit.intOf si).toNat)
 case atStart => exact ⟨0, Nat.zero_le _, rfl, rfl, Gr.refl _⟩
 case round =>
  obtain ⟨i, hi, rfl, rfl, HI⟩ := hrel
  have hb0 := (HI.out.below.block _ (tk_lt HB.out)).trans HB.out
  have c1 := (tk_store hb0).1
  have l1 := tk_lt hb0
  clear hb0
  by_cases hlt : i < j
  ·have hltz : (i : Int) < (j : Int) := by omega
   have hi0 : (0 : Int) ≤ (i : Int) := by omega
   have hil : (i : Int) < (nl : Int) := by omega
   obtain ⟨y, hy⟩ : ∃ y, xs[i]? = some y := ⟨xs[i]'(by have := HXL.out; omega), by simp⟩
   have HYN : Hid (ns[i]? = some y.n) := by show _ = _; rw [HNS.out]; simp [hy]
   obtain ⟨b1, o1, q1, ev1, zz1, x0, x1, x2, -⟩ := ls_atV ((HN.out.nodes.below HI.out.below).ls hy) hy
   simp only [Value.slice.injEq] at ev1
   obtain ⟨rfl, -, rfl⟩ := ev1
   have HFS := hid (fn_pos HYN.out HP.out)
   have hf1 := firstN_le HP.out i
   have hq := HP.out y.n (List.mem_of_getElem? HYN.out)
   obtain ⟨m, hm⟩ : ∃ m, m = firstN ns i := ⟨_, rfl⟩
   rw [← hm] at HFS hf1 ⊢
   have hm9 : (m : Int) ≤ 192 := by omega
   have q1 : 0 ≤ y.n.ins := hq.1
   have q2 : y.n.ins ≤ 4 := hq.2.1
   have q3 : 0 ≤ y.n.outs := hq.2.2.1
   have q4 : y.n.outs ≤ 4 := hq.2.2.2
   clear hy hm hq hf1
   go_upto_region 5 with fail
   go_quiet (fail)
   have G1 := hid (HI.out.drewN nq)
   clear x0 x1 x2 zz1 c1 l1
   go_wp2_with fail
   go_roundw
   case rel => exact ⟨i + 1, by omega, by go_num, by rw [← HFS.out], G1.out⟩
   case measure => simp [RowKit.intOf]; omega
  ·have hltz : ¬ (i : Int) < (j : Int) := by omega
   obtain rfl : i = j := by omega
   have hf1 := firstN_le HP.out i
   obtain ⟨m, hm⟩ : ∃ m, m = firstN ns i := ⟨_, rfl⟩
   rw [← hm] at hf1 ⊢
   have hm9 : (m : Int) ≤ 192 := by omega
   have HM := hid hm
   clear hm hf1
   go_wp2_with fail
   go_ret
   exact ⟨by rw [show firstN ns i = m from HM.out.symm]; first | rfl | (congr 2; go_num), G0.out.trans HI.out⟩
set_option maxHeartbeats 4000000 in
theorem kout_any {nv ev : Value} {a : Int} {xs : List NV} (j : Nat) (p : Int) (y : NV) (hy : xs[j]? = some y) (hp0 : 0 ≤ p) (hp9 : p ≤ 900) (w : World) (h : Nr w nv xs) : Calls Tryz.prog 40 #[.agg (gvc a nv ev), .int .i64 (j : Nat), .int .i64 p] w fun r w' => r = .returned (.int .i64 ((firstN (xs.map NV.n) j : Nat) + (y.n.ins + p))) ∧ Gr w w' := by
 have hmx : Tryz.prog.follows .mixedOrders = true := by kernel_rfl
 have hq := h.pok y.n (List.mem_map_of_mem (List.mem_of_getElem? hy))
 have g0 := (Gr.refl w).alloc (.cells (gvc a nv ev) 25)
 have HB := hid (heap_new' w (.cells (gvc a nv ev) 25))
 have HN := hid (h.below g0.below)
 obtain ⟨W0, hW0⟩ : ∃ W, W = w.alloc (.cells (gvc a nv ev) 25) := ⟨_, rfl⟩
 obtain ⟨gb, hgb⟩ : ∃ b, b = w.heap.size := ⟨_, rfl⟩
 have HW : Hid (w.alloc (.cells #[.int .i64 a, nv, ev] 25) = W0 ∧ w.heap.size = gb) := ⟨hW0.symm, hgb.symm⟩
 rw [← hW0] at g0 HB HN
 rw [← hgb] at HB
 have G0 := hid g0
 have hjl := (List.getElem?_eq_some_iff.1 hy).1
 have hcall := fun (W : World) (hb : Below W0.heap.size W0 W) => kin_any (nv := nv) (ev := ev) (a := a) j (y.n.ins + p) (by omega) (by omega) (Nat.le_of_lt hjl) W (HN.out.below hb)
 obtain ⟨b1, o1, q1, ev1, zz1, x0, x1, x2, -⟩ := ls_atV (HN.out.nodes.ls hy) hy
 subst ev1
 have HX : Hid (W0.cell? ⟨b1, o1 + j * 10 + 1, none⟩ = some (.int .i64 y.n.ins) ∧ b1 < W0.heap.size) := ⟨x1, zz1⟩
 have hjz : (j : Int) < (xs.length : Int) := by omega
 have hj0 : (0 : Int) ≤ (j : Int) := by omega
 have hwr : IntKind.i64.wrap (y.n.ins + p) = y.n.ins + p := by rw [IntKind.wrap_i64]; omega
 generalize (firstN (xs.map NV.n) j) = m at hcall
 generalize xs.length = nl at hjz HB HW hcall
 clear h hW0 g0 hgb x0 x1 x2 zz1 hy hq hjl HN
 go_enter Tryz.func40, Tryz.ntmps40
 go_upto_region 1 with fail
 rw [HW.out.1, HW.out.2]
 clear HW
 have hS0 : Below W0.heap.size W0 W0.drew := (Gr.refl W0).drew.below
 refine wp_regionD (S := fun W => Below W0.heap.size W0 W) (D := []) hmx ?_
 refine' wpAnyD_take (i := 0) (oi := {dst := some 7, op := .load 25 (.tmp 3), type := 25, pos := "ref.go:22", after := #[], guard := none}) (v := _) rfl (by kernel_rfl) (by kernel_rfl) (by kernel_rfl) (fun _ _ _ h => h) (by kernel_rfl) (Or.inl ⟨by rfl, ?hy1⟩) hS0 ?rest1
 case hy1 => (intro W hSw; have hb := (hSw.block _ (tk_lt HB.out)).trans HB.out; have hc := (tk_store hb).1; have hl := tk_lt hb; go_simp; try (with_reducible rfl))
 try simp only [Act.put, List.setIfInBounds_toArray, List.set_cons_zero, List.set_cons_succ]
 refine' wpAnyD_take (i := 1) (oi := {dst := some 8, op := .move (.tmp 1), type := 3, pos := "ref.go:22", after := #[], guard := none}) (v := _) rfl (by kernel_rfl) (by kernel_rfl) (by kernel_rfl) (fun _ _ _ h => h) (by kernel_rfl) (Or.inl ⟨by rfl, ?hy2⟩) hS0 ?rest2
 case hy2 => (intro W hSw; go_simp; try (with_reducible rfl))
 try simp only [Act.put, List.setIfInBounds_toArray, List.set_cons_zero, List.set_cons_succ]
 refine' wpAnyD_take (i := 2) (oi := {dst := some 9, op := .fieldAddr 25 (.tmp 3) 1, type := 0, pos := "ref.go:22", after := #[], guard := none}) (v := _) rfl (by kernel_rfl) (by kernel_rfl) (by kernel_rfl) (fun _ _ _ h => h) (by kernel_rfl) (Or.inl ⟨by rfl, ?hy3⟩) hS0 ?rest3
 case hy3 => (intro W hSw; have hb := (hSw.block _ (tk_lt HB.out)).trans HB.out; have hc := (tk_store hb).1; have hl := tk_lt hb; go_simp; try (with_reducible rfl))
 try simp only [Act.put, List.setIfInBounds_toArray, List.set_cons_zero, List.set_cons_succ]
 refine' wpAnyD_take (i := 3) (oi := {dst := some 10, op := .load 22 (.tmp 9), type := 22, pos := "ref.go:22", after := #[{on := 2, ground := .data}], guard := none}) (v := _) rfl (by kernel_rfl) (by kernel_rfl) (by kernel_rfl) (fun _ _ _ h => h) (by kernel_rfl) (Or.inl ⟨by rfl, ?hy4⟩) hS0 ?rest4
 case hy4 => (intro W hSw; have hb := (hSw.block _ (tk_lt HB.out)).trans HB.out; have hc := (tk_store hb).1; have hl := tk_lt hb; go_simp; try (with_reducible rfl))
 try simp only [Act.put, List.setIfInBounds_toArray, List.set_cons_zero, List.set_cons_succ]
 refine' wpAnyD_take (i := 4) (oi := {dst := some 11, op := .move (.tmp 1), type := 3, pos := "ref.go:22", after := #[], guard := none}) (v := _) rfl (by kernel_rfl) (by kernel_rfl) (by kernel_rfl) (fun _ _ _ h => h) (by kernel_rfl) (Or.inl ⟨by rfl, ?hy5⟩) hS0 ?rest5
 case hy5 => (intro W hSw; go_simp; try (with_reducible rfl))
 try simp only [Act.put, List.setIfInBounds_toArray, List.set_cons_zero, List.set_cons_succ]
 refine' wpAnyD_take (i := 5) (oi := {dst := some 12, op := .indexAddr 22 (.tmp 10) (.tmp 11), type := 0, pos := "ref.go:22", after := #[{on := 3, ground := .data}, {on := 4, ground := .data}], guard := none}) (v := _) rfl (by kernel_rfl) (by kernel_rfl) (by kernel_rfl) (fun _ _ _ h => h) (by kernel_rfl) (Or.inl ⟨by rfl, ?hy6⟩) hS0 ?rest6
 case hy6 => (intro W hSw; go_simp; try (with_reducible rfl))
 try simp only [Act.put, List.setIfInBounds_toArray, List.set_cons_zero, List.set_cons_succ]
 refine' wpAnyD_take (i := 6) (oi := {dst := some 13, op := .fieldAddr 89 (.tmp 12) 1, type := 0, pos := "ref.go:22", after := #[{on := 5, ground := .data}], guard := none}) (v := _) rfl (by kernel_rfl) (by kernel_rfl) (by kernel_rfl) (fun _ _ _ h => h) (by kernel_rfl) (Or.inl ⟨by rfl, ?hy7⟩) hS0 ?rest7
 case hy7 => (intro W hSw; go_simp; try (with_reducible rfl))
 try simp only [Act.put, List.setIfInBounds_toArray, List.set_cons_zero, List.set_cons_succ]
 refine' wpAnyD_take (i := 7) (oi := {dst := some 14, op := .load 3 (.tmp 13), type := 3, pos := "ref.go:22", after := #[{on := 6, ground := .data}], guard := none}) (v := _) rfl (by kernel_rfl) (by kernel_rfl) (by kernel_rfl) (fun _ _ _ h => h) (by kernel_rfl) (Or.inl ⟨by rfl, ?hy8⟩) hS0 ?rest8
 case hy8 => (intro W hSw; have hc := (hSw.cell (p := ⟨b1, o1 + j * 10 + 1, none⟩) HX.out.2).trans HX.out.1; have hl := Nat.lt_of_lt_of_le HX.out.2 hSw.size; go_simp; try (with_reducible rfl))
 try simp only [Act.put, List.setIfInBounds_toArray, List.set_cons_zero, List.set_cons_succ]
 refine' wpAnyD_take (i := 8) (oi := {dst := some 15, op := .move (.tmp 2), type := 3, pos := "ref.go:22", after := #[], guard := none}) (v := _) rfl (by kernel_rfl) (by kernel_rfl) (by kernel_rfl) (fun _ _ _ h => h) (by kernel_rfl) (Or.inl ⟨by rfl, ?hy9⟩) hS0 ?rest9
 case hy9 => (intro W hSw; go_simp; try (with_reducible rfl))
 try simp only [Act.put, List.setIfInBounds_toArray, List.set_cons_zero, List.set_cons_succ]
 refine' wpAnyD_take (i := 9) (oi := {dst := some 16, op := .binOp .add 3 (.tmp 14) (.tmp 15) 3, type := 3, pos := "ref.go:22", after := #[{on := 7, ground := .data}, {on := 8, ground := .data}], guard := none}) (v := _) rfl (by kernel_rfl) (by kernel_rfl) (by kernel_rfl) (fun _ _ _ h => h) (by kernel_rfl) (Or.inl ⟨by rfl, ?hy10⟩) hS0 ?rest10
 case hy10 => (intro W hSw; go_simp; try (with_reducible rfl))
 try simp only [Act.put, List.setIfInBounds_toArray, List.set_cons_zero, List.set_cons_succ]
 refine wpAnyD_one (i := 10) (o := {dst := some 17, op := .call {callee := .value (.func 39), args := #[.tmp 7, .tmp 8, .tmp 16], argTypes := #[25, 3, 3]}, type := 3, pos := "ref.go:22", after := #[{on := 0, ground := .data}, {on := 1, ground := .data}, {on := 9, ground := .data}], guard := none}) (by kernel_rfl) rfl (fun K hK => ?_)
 go_simp
 refine (hcall _ hS0).mono ?_
 rintro r w7 ⟨rfl, g7⟩
 have G7 := hid g7
 have hS7 : Below W0.heap.size W0 w7 := hS0.trans (g7.below.mono hS0.size)
 clear g7
 go_wp2_with fail
 refine hK.out _ _ (fun hD => hS7) ?_
 clear hK K
 try simp only [Act.put, List.setIfInBounds_toArray, List.set_cons_zero, List.set_cons_succ]
 refine' wpAnyD_take (i := 11) (oi := {dst := some 6, op := .assign (.tmp 17), type := 3, pos := "ref.go:22", after := #[{on := 10, ground := .data}, {on := 10, ground := .chain}, {on := 0, ground := .phase}, {on := 1, ground := .phase}, {on := 2, ground := .phase}, {on := 3, ground := .phase}, {on := 4, ground := .phase}, {on := 5, ground := .phase}, {on := 6, ground := .phase}, {on := 7, ground := .phase}, {on := 8, ground := .phase}, {on := 9, ground := .phase}, {on := 10, ground := .phase}], guard := none}) (v := _) rfl (by kernel_rfl) (by kernel_rfl) (by kernel_rfl) (fun _ _ _ h => h) (by kernel_rfl) (Or.inl ⟨by rfl, ?hy12⟩) hS7 ?rest12
 case hy12 => (intro W hSw; go_simp; try (with_reducible rfl))
 try simp only [Act.put, List.setIfInBounds_toArray, List.set_cons_zero, List.set_cons_succ]
 refine wpAnyD_done (by kernel_rfl) ?_ _
 go_wp2_with fail
 go_ret
 exact ⟨rfl, (G0.out.trans (Gr.refl W0).drew).trans G7.out⟩
def Rs (w0 : Nat) (W : World) (v : Value) (l : List Con) : Prop := Lz EC W.heap.size W v l ∧ (l = [] ∨ ∀ k, v.ownBlock = some k → k < w0 ∨ ∃ cs z, W.heap[k]? = some (.cells cs 92 z))
theorem Rs.kp {w0 : Nat} {S : Nat → Prop} {W W' : World} {v : Value} {l : List Con} (h : Rs w0 W v l) (hk : Kp S W W') (hS : ∀ k, S k → w0 ≤ k ∧ ∀ cs z, W.heap[k]? ≠ some (.cells cs 92 z)) : Rs w0 W' v l := by
 rcases h.2 with rfl | h2
 ·obtain ⟨p, c, rfl⟩ := h.1.form
  exact ⟨Or.inr ⟨rfl, p, c, rfl⟩, Or.inl rfl⟩
 have hn : ∀ k, v.ownBlock = some k → ¬ S k := fun k e e2 => by
  obtain ⟨h1, h4⟩ := hS k e2
  rcases h2 k e with h3 | ⟨cs, z, h3⟩
  ·omega
  ·exact h4 cs z h3
 refine ⟨?_, Or.inr fun k e => ?_⟩
 ·rcases h.1 with ⟨h1, h2⟩ | h1
  ·exact Or.inl ⟨hk.ls h1 hn, fun k e => Nat.lt_of_lt_of_le (h2 k e) hk.size⟩
  ·exact Or.inr h1
 ·rcases h2 k e with h3 | ⟨cs, z, h3⟩
  ·exact Or.inl h3
  ·exact Or.inr ⟨cs, z, (hk.block _ (tk_lt h3) (hn k e)).trans h3⟩
theorem Rs.below {w0 : Nat} {W W' : World} {v : Value} {l : List Con} (h : Rs w0 W v l) (hb : Below W.heap.size W W') : Rs w0 W' v l := h.kp (S := fun _ => False) (Kp.of_below hb) (fun _ h => h.elim)
theorem rs_own {w0 B : Nat} {W : World} {v : Value} {l : List Con} (h : W.ownsRow B 92 5 v l.length (fl EC l)) : Rs w0 W v l := ⟨owns_lz (E := EC) h, Or.inr fun k e => Or.inr (by obtain ⟨c, f, hc⟩ := Lib.ownsRow_kind h k e; exact ⟨c, f, hc⟩)⟩
theorem con1_own (w : World) (c : Con) : ((w.alloc (.cells (ccells c) 92))).ownsRow w.heap.size 92 5 (.slice (some ⟨w.heap.size, 0, none⟩) 1 1) 1 (fl EC [c]) :=
 ⟨by rw [fl_one]; rfl, Or.inr ⟨w.heap.size, 1, ccells c, rfl, Nat.le_refl _, heap_new' _ _, Nat.le_refl _, by unfold maxLen; omega, rfl, by rw [fl_one]; rfl⟩⟩
def Kc (w0 : Nat) (w : World) (l : List Con) (r : Ending) (w' : World) : Prop := ∃ v, r = .returned v ∧ Below w.heap.size w w' ∧ Rs w0 w' v l
theorem acr1 (i : Nat) : acrL 1 i = (List.range i).map fun (k : Nat) => (⟨(k : Int), 0, (0, 0, 0)⟩ : Con) := by
 induction i with
 | zero => rfl
 | succ i ih =>
  rw [acrL, ih, List.range_succ, List.map_append]
  rfl
set_option maxRecDepth 100000 in
set_option maxHeartbeats 8000000 in
theorem kconns_any {y : NV} {a : Int} {w0 : Nat} (w : World) (hR : Lz EC w0 w y.dv y.n.conns) (hw0 : w0 ≤ w.heap.size) (hf : nflaw a y.n = 0) : Calls Tryz.prog 38 #[.agg y.cells] w (Kc w0 w (connsN y.n)) := by
 obtain ⟨g0, hW0⟩ : ∃ b, b = w.heap.size := ⟨_, rfl⟩
 obtain ⟨W0, hW⟩ : ∃ W, W = w.alloc (.cells y.cells 89) := ⟨_, rfl⟩
 have HB : Hid (W0.heap[g0]? = some (.cells y.cells 89 (0, 0)) ∧ Below w.heap.size w W0) := by rw [hW, hW0]; exact ⟨heap_new' _ _, ((Gr.refl w).alloc _).below⟩
 have HW : Hid (w.alloc (.cells #[.int .i64 y.n.kind, .int .i64 y.n.ins, .int .i64 y.n.outs, y.cv, .int .u64 (y.n.via.1 : Nat), .int .u64 (y.n.via.2.1 : Nat), .int .u64 (y.n.via.2.2 : Nat), .int .u64 (y.n.bound : Nat), y.dv, .bool y.n.start] 89) = W0 ∧ w.heap.size = g0) := ⟨hW.symm, hW0.symm⟩
 have hk := nflaw_kind hf
 obtain ⟨⟨p1, p2⟩, _⟩ := nflaw_rest hf
 have HR := hid hR
 have c0 := (tk_store HB.out.1).1
 have l0 := tk_lt HB.out.1
 have HONE : Hid (∀ c : Con, connsN y.n = [c] → Kc w0 w (connsN y.n) (.returned (.slice (some ⟨W0.heap.size, 0, none⟩) 1 1)) (W0.alloc (.cells (ccells c) 92))) := fun c hc => by
  rw [hc]
  exact ⟨_, rfl, HB.out.2.trans (((Gr.refl W0).alloc _).below.mono HB.out.2.size), rs_own (con1_own W0 c)⟩
 clear hR hW hW0 hf
 have hk8 : y.n.kind = 1 ∨ y.n.kind = 2 ∨ y.n.kind = 3 ∨ y.n.kind = 4 ∨ y.n.kind = 5 ∨ y.n.kind = 6 ∨ y.n.kind = 7 ∨ y.n.kind = 8 := by omega
 obtain ⟨⟨kind, ins, outs, code, via, bound, conns, start⟩, cq, cm, cc, dq, dm, dc⟩ := y
 dsimp only at hk8 hk p1 p2 HW HR HONE c0 HB ⊢
 rcases hk8 with rfl | rfl | rfl | rfl | rfl | rfl | rfl | rfl
 ·have e1 : connsN ⟨1, ins, outs, code, via, bound, conns, start⟩ = [] := by
    simp [pIn] at p1
    simp [pOut] at p2
    subst p1
    unfold connsN
    simp [acrL]
  rw [e1]
  clear HONE p1 p2 e1
  go_enter Tryz.func38, Tryz.ntmps38
  go_upto_region 1 with fail
  rw [HW.out.1, HW.out.2]
  clear HW
  go_wp2_with fail
  go_ret
  exact ⟨_, rfl, HB.out.2, Lz.nil _ _ _, Or.inl rfl⟩
 ·have e1 : connsN ⟨2, ins, outs, code, via, bound, conns, start⟩ = [⟨0, 0, (0, 0, 0)⟩] := by
    simp [pIn] at p1
    simp [pOut] at p2
    subst p1
    subst p2
    rfl
  have FIN := HONE.out _ e1
  rw [e1] at FIN ⊢
  have FIN := hid FIN
  clear HONE p1 p2 e1
  go_enter Tryz.func38, Tryz.ntmps38
  go_upto_region 1 with fail
  rw [HW.out.1, HW.out.2]
  clear HW
  go_wp2_with fail
  go_ret
  exact FIN.out
 ·have e1 : connsN ⟨3, ins, outs, code, via, bound, conns, start⟩ = [⟨0, 0, (0, 0, 0)⟩] := by
    simp [pIn] at p1
    simp [pOut] at p2
    subst p1
    subst p2
    rfl
  have FIN := HONE.out _ e1
  rw [e1] at FIN ⊢
  have FIN := hid FIN
  clear HONE p1 p2 e1
  go_enter Tryz.func38, Tryz.ntmps38
  go_upto_region 1 with fail
  rw [HW.out.1, HW.out.2]
  clear HW
  go_wp2_with fail
  go_ret
  exact FIN.out
 ·simp [pIn] at p1
  simp [pOut] at p2
  subst p2
  obtain ⟨m, rfl⟩ : ∃ m : Nat, ins = (m : Int) := ⟨ins.toNat, by omega⟩
  have e1 : connsN ⟨4, (m : Int), 1, code, via, bound, conns, start⟩ = (List.range m).map fun (k : Nat) => (⟨(k : Int), 0, (0, 0, 0)⟩ : Con) := by
   rw [← acr1]
   simp [connsN]
  rw [e1]
  have hm4 : m ≤ 4 := by omega
  have HBW := hid HB.out.2.size
  clear HONE e1 p1
  go_enter Tryz.func38, Tryz.ntmps38
  go_upto_region 1 with fail
  rw [HW.out.1, HW.out.2]
  clear HW
  go_wp2_with fail
  go_loopw [3, 4] (fun s3 s4 wr => ∃ (i : Nat) (lv : Value), i ≤ m ∧ s4 = .int .i64 (i : Nat) ∧ lv = s3 ∧ Hid (Below W0.heap.size W0 wr ∧ wr.ownsRow W0.heap.size 92 5 lv i (fl EC ((List.range i).map fun (k : Nat) => (⟨(k : Int), 0, (0, 0, 0)⟩ : Con))))) (fun _ s4 _ => m - (RowKit.intOf s4).toNat)
  case atStart => exact ⟨0, _, Nat.zero_le _, rfl, rfl, Below.refl _ _, World.ownsRow_nil _ _ _ _⟩
  case round =>
   obtain ⟨i, lv, hi, rfl, rfl, HI⟩ := hrel
   have c1 := (tk_store ((HI.out.1.block _ (tk_lt HB.out.1)).trans HB.out.1)).1
   have l1 := Nat.lt_of_lt_of_le (tk_lt HB.out.1) HI.out.1.size
   by_cases hlt : i < m
   ·have hltz : (i : Int) < (m : Int) := by omega
    have HSZ := hid HI.out.1.size
    go_wp2_with (at_builtin; refine wpApp1 EC Tryz.underlying85 infoC rfl (by decide) rfl _ _ rfl W0.heap.size _ i _ rfl HI.out.2 ⟨(i : Int), 0, (0, 0, 0)⟩ rfl (by omega) (by unfold maxLen; omega) HSZ.out _ rfl _ ?_; intro g9 c9 w9 r1 r2 r3)
    have FIN : Hid (Below W0.heap.size W0 w9 ∧ w9.ownsRow W0.heap.size 92 5 (.slice (some ⟨g9, 0, none⟩) (i + 1) c9) (i + 1) (fl EC ((List.range (i + 1)).map fun (k : Nat) => (⟨(k : Int), 0, (0, 0, 0)⟩ : Con)))) := by
     have k2 := Kp.grownBy (S := fun j => lv.ownBlock = some j) r2 (fun _ h => h)
     refine ⟨HI.out.1.trans (k2.below HI.out.1.size (fun j e => (owns_rd HI.out.2 j e).1)), ?_⟩
     rw [List.range_succ, List.map_append, fl_append]
     exact owns_re r1 rfl (by rw [List.map_singleton, fl_one])
    clear r1 r2 r3 c1 l1
    go_roundw
    case rel => exact ⟨i + 1, _, by omega, by go_num, rfl, FIN.out⟩
    case measure => simp [RowKit.intOf]; omega
   ·have hltz : ¬ (i : Int) < (m : Int) := by omega
    obtain rfl : i = m := by omega
    go_wp2_with fail
    go_ret
    exact ⟨_, rfl, HB.out.2.trans (HI.out.1.mono HB.out.2.size), rs_own (owns_re HI.out.2 (by simp) rfl)⟩
 ·have e1 : connsN ⟨5, ins, outs, code, via, bound, conns, start⟩ = [⟨0, 0, via⟩] := by
    simp [connsN]
  have FIN := HONE.out _ e1
  rw [e1] at FIN ⊢
  have FIN := hid FIN
  clear HONE p1 p2 e1
  go_enter Tryz.func38, Tryz.ntmps38
  go_upto_region 1 with fail
  rw [HW.out.1, HW.out.2]
  clear HW
  go_wp2_with fail
  go_ret
  exact FIN.out
 ·have e1 : connsN ⟨6, ins, outs, code, via, bound, conns, start⟩ = [⟨0, 0, (0, 0, 0)⟩] := by
    simp [pIn] at p1
    simp [pOut] at p2
    subst p1
    subst p2
    rfl
  have FIN := HONE.out _ e1
  rw [e1] at FIN ⊢
  have FIN := hid FIN
  clear HONE p1 p2 e1
  go_enter Tryz.func38, Tryz.ntmps38
  go_upto_region 1 with fail
  rw [HW.out.1, HW.out.2]
  clear HW
  go_wp2_with fail
  go_ret
  exact FIN.out
 ·have e1 : connsN ⟨7, ins, outs, code, via, bound, conns, start⟩ = [] := by
    simp [pIn] at p1
    simp [pOut] at p2
    subst p2
    subst p1
    unfold connsN
    simp [acrL, rowL]
  rw [e1]
  clear HONE p1 p2 e1
  go_enter Tryz.func38, Tryz.ntmps38
  go_upto_region 1 with fail
  rw [HW.out.1, HW.out.2]
  clear HW
  go_wp2_with fail
  go_ret
  exact ⟨_, rfl, HB.out.2, Lz.nil _ _ _, Or.inl rfl⟩
 ·have e1 : connsN ⟨8, ins, outs, code, via, bound, conns, start⟩ = conns := by simp [connsN]
  rw [e1]
  clear HONE p1 p2 e1
  go_enter Tryz.func38, Tryz.ntmps38
  go_upto_region 1 with fail
  rw [HW.out.1, HW.out.2]
  clear HW
  go_wp2_with fail
  go_ret
  refine ⟨_, rfl, HB.out.2, ((HR.out.up hw0).below HB.out.2).up HB.out.2.size, ?_⟩
  rcases HR.out with ⟨_, h2⟩ | ⟨h2, _⟩
  ·exact Or.inr fun k e => Or.inl (h2 k e)
  ·exact Or.inl h2
end Go.Proofs.YtjppkehnjnmbnaaGreat.Df

namespace Go.Proofs.YtjppkehnjnmbnaaGreat.Df
open Go.RowKit Go.Sort
attribute [local go_sem ↓] Go.wp_at_zero Go.wp_at_succ
theorem infoSt : (Tryz.prog.info? 44).map (fun i => (i.zero, i.size, i.bytes)) = some (some (.agg #[.int .i64 0, .int .i64 0, .int .u64 0, .int .u64 0, .int .u64 0]), 5, 40) := by kernel_rfl
def sC (ns : List Nod) (i : Nat) (c : Con) : Con := ⟨((cIn ns i c : Nat) : Int), ((cOut ns i c : Nat) : Int), c.via⟩
def nodR (ns : List Nod) : Nat → List Con
 | 0 => []
 | i + 1 => nodR ns i ++ (connsAt ns (i : Int)).map (sC ns i)
def sE (ns : List Nod) (d : Edg) : Con := ⟨((outPl ns d : Nat) : Int), ((inPl ns d : Nat) : Int), (0, 0, 0)⟩
def stR (g : Gph) : List Con := nodR g.nodes g.nodes.length ++ g.edges.map (sE g.nodes)
def emR (g : Gph) : List Con := (stR g).filter isE
theorem nodR_len {g : Gph} (h : Gok g) (m : Nat) : (nodR g.nodes m).length ≤ 16 * m := by
 induction m with
 | zero => simp [nodR]
 | succ m ih =>
  unfold nodR
  rw [List.length_append, List.length_map]
  have h2 := h.conLen m
  omega
theorem stR_len {g : Gph} (h : Gok g) : (stR g).length ≤ 432 := by
 unfold stR
 rw [List.length_append, List.length_map]
 have h1 := nodR_len h g.nodes.length
 have h2 := h.nl
 have h3 := h.el
 omega
theorem nodR_mem {ns : List Nod} {m : Nat} {x : Con} : x ∈ nodR ns m ↔ ∃ i c, i < m ∧ c ∈ connsAt ns ((i : Nat) : Int) ∧ x = sC ns i c := by
 induction m with
 | zero => simp [nodR]
 | succ m ih =>
  unfold nodR
  rw [List.mem_append, ih]
  constructor
  ·rintro (⟨i, c, h1, h2⟩ | h)
   ·exact ⟨i, c, by omega, h2⟩
   ·obtain ⟨c, hc, rfl⟩ := List.mem_map.1 h
    exact ⟨m, c, by omega, hc, rfl⟩
  ·rintro ⟨i, c, h1, h2, rfl⟩
   by_cases e : i = m
   ·subst e
    exact Or.inr (List.mem_map.2 ⟨c, h2, rfl⟩)
   ·exact Or.inl ⟨i, c, by omega, h2, rfl⟩
theorem emR_mem {g : Gph} {x : Con} : x ∈ emR g ↔ ∃ p q : Nat, x = ⟨(p : Int), (q : Int), (0, 0, 0)⟩ ∧ (p, q) ∈ stS g := by
 unfold emR stR stS
 rw [List.mem_filter, List.mem_append, nodR_mem]
 constructor
 ·rintro ⟨⟨i, c, h1, h2, rfl⟩ | h, he⟩
  ·have hv : c.via = (0, 0, 0) := of_decide_eq_true he
   exact ⟨cIn g.nodes i c, cOut g.nodes i c, by simp [sC, hv], List.mem_append.2 (Or.inr (nodU_mem.2 ⟨i, c, h1, h2, by simp [isE, hv], rfl⟩))⟩
  ·obtain ⟨d, hd, rfl⟩ := List.mem_map.1 h
   exact ⟨outPl g.nodes d, inPl g.nodes d, rfl, List.mem_append.2 (Or.inl (List.mem_map.2 ⟨d, hd, rfl⟩))⟩
 ·rintro ⟨p, q, rfl, h⟩
  refine ⟨?_, by simp [isE]⟩
  rcases List.mem_append.1 h with h | h
  ·obtain ⟨d, hd, e⟩ := List.mem_map.1 h
   unfold edgP at e
   simp only [Prod.mk.injEq] at e
   exact Or.inr (List.mem_map.2 ⟨d, hd, by unfold sE; rw [e.1, e.2]⟩)
  ·obtain ⟨i, c, h1, h2, h3, e⟩ := nodU_mem.1 h
   unfold conS at e
   simp only [Prod.mk.injEq] at e
   have hv : c.via = (0, 0, 0) := of_decide_eq_true h3
   exact Or.inl ⟨i, c, h1, h2, by unfold sC; rw [← e.1, ← e.2, hv]⟩
theorem nr_of {M : Nat} {nv ev : Value} {a : Int} {xs : List NV} {es : List Edg} {W : World} (h : GR M W nv ev xs es) (hM : M ≤ W.heap.size) (hOK : Gok (gof a xs es)) : Nr W nv xs := ⟨h.nodes.up hM, by have := hOK.nl; simpa using this, hOK.pok⟩
set_option maxRecDepth 100000 in
set_option maxHeartbeats 8000000 in
theorem ksteps_any {M : Nat} {nv ev : Value} {a : Int} {xs : List NV} {es : List Edg} (w : World) (hG : GR M w nv ev xs es) (hM : M ≤ w.heap.size) (hOK : Gok (gof a xs es)) : Calls Tryz.prog 13 #[.agg (gvc a nv ev)] w (Cp EC 44 w (stR (gof a xs es))) := by
 have hmx : Tryz.prog.follows .mixedOrders = true := by kernel_rfl
 obtain ⟨W0, hW0⟩ : ∃ W, W = w.alloc (.cells (gvc a nv ev) 25) := ⟨_, rfl⟩
 obtain ⟨gb, hgb⟩ : ∃ b, b = w.heap.size := ⟨_, rfl⟩
 have g0 : Gr w W0 := by rw [hW0]; exact (Gr.refl w).alloc _
 have HB : Hid (W0.heap[gb]? = some (.cells (gvc a nv ev) 25 (0, 0)) ∧ Below w.heap.size w W0) := ⟨by rw [hW0, hgb]; exact heap_new' _ _, g0.below⟩
 have HW : Hid (w.alloc (.cells #[.int .i64 a, nv, ev] 25) = W0 ∧ w.heap.size = gb) := ⟨hW0.symm, hgb.symm⟩
 have HG : Hid (∀ W, Below W0.heap.size W0 W → GR M W nv ev xs es ∧ Nr W nv xs) := fun W hb => ⟨(hG.below g0.below).below hb, nr_of ((hG.below g0.below).below hb) (Nat.le_trans (Nat.le_trans hM g0.below.size) hb.size) hOK⟩
 have HMM : Hid (M ≤ W0.heap.size) := Nat.le_trans hM g0.below.size
 obtain ⟨qn, cn, hnv⟩ := hG.nodes.form
 obtain ⟨qe, ce, hev⟩ := hG.edges.form
 subst hnv
 subst hev
 obtain ⟨nl, hnl⟩ : ∃ n, n = xs.length := ⟨_, rfl⟩
 obtain ⟨el, hel⟩ : ∃ n, n = es.length := ⟨_, rfl⟩
 obtain ⟨ns, hns⟩ : ∃ ns, ns = xs.map NV.n := ⟨_, rfl⟩
 have hnsl : ns.length = nl := by rw [hns, hnl]; simp
 have h24 : nl ≤ 24 := by have := hOK.nl; rw [hnl]; simpa using this
 have h48 : el ≤ 48 := by have := hOK.el; rw [hel]; exact this
 have HNL : Hid (nl = xs.length ∧ el = es.length ∧ ns = xs.map NV.n ∧ ns.length = nl) := ⟨hnl, hel, hns, hnsl⟩
 have HOK := hid hOK
 have HSR : Hid (stR (gof a xs es) = nodR ns nl ++ es.map (sE ns)) := by show nodR (xs.map NV.n) (xs.map NV.n).length ++ es.map (sE (xs.map NV.n)) = _; rw [← hns, hnsl]
 rw [← hnl] at HB HW HG ⊢
 rw [← hel] at HB HW HG ⊢
 have c0 := (tk_store HB.out.1).1
 have l0 := tk_lt HB.out.1
 clear hG hM hW0 hgb g0 hOK hnl hel hns hnsl
 go_enter Tryz.func13, Tryz.ntmps13
 go_upto_region 1 with fail
 rw [HW.out.1, HW.out.2]
 clear HW
 go_wp2_with fail
 clear c0 l0
 go_loopw [3, 4] (fun s3 s4 wr => ∃ (i : Nat) (lv : Value), i ≤ nl ∧ s4 = .int .i64 (i : Nat) ∧ lv = s3 ∧ Hid (Below W0.heap.size W0 wr ∧ wr.ownsRow W0.heap.size 44 5 lv (nodR ns i).length (fl EC (nodR ns i)))) (fun _ s4 _ => nl - (RowKit.intOf s4).toNat)
 case atStart => exact ⟨0, _, Nat.zero_le _, rfl, rfl, Below.refl _ _, World.ownsRow_nil _ _ _ _⟩
 case round =>
  obtain ⟨i, lv, hi, rfl, rfl, HI⟩ := hrel
  have hb0 := (HI.out.1.block _ (tk_lt HB.out.1)).trans HB.out.1
  have c1 := (tk_store hb0).1
  have l1 := tk_lt hb0
  clear hb0
  by_cases hlt : i < nl
  ·have hltz : (i : Int) < (nl : Int) := by omega
   have hi0 : (0 : Int) ≤ (i : Int) := by omega
   obtain ⟨y, hy⟩ : ∃ y, xs[i]? = some y := ⟨xs[i]'(by have := HNL.out.1; omega), by simp⟩
   have HYN : Hid (xs[i]? = some y ∧ ns[i]? = some y.n ∧ connsAt ns (i : Int) = connsN y.n) := by
    have e1 : ns[i]? = some y.n := by rw [HNL.out.2.2.1]; simp [hy]
    exact ⟨hy, e1, by rw [connsAt_nat, e1]⟩
   have hfl : nflaw a y.n = 0 := HOK.out.ng i y.n (by have := HNL.out.1; simpa using (by omega : i < xs.length)) (by simp [hy])
   have hcon := kconns_any wr ((HG.out wr HI.out.1).1.each y (List.mem_of_getElem? hy)).conns (Nat.le_trans HMM.out HI.out.1.size) hfl
   obtain ⟨b1, o1, q1, ev1, zz1, x0, x1, x2, x3, x4, x5, x6, x7, x8, x9⟩ := ls_atV ((HG.out wr HI.out.1).1.nodes.ls hy) hy
   simp only [Value.slice.injEq] at ev1
   obtain ⟨rfl, -, rfl⟩ := ev1
   have HCL : Hid ((connsN y.n).length ≤ 16) := connsN_len hfl
   obtain ⟨cs, hcs⟩ : ∃ l, l = connsN y.n := ⟨_, rfl⟩
   rw [← hcs] at hcon HCL
   have HCS := hid hcs
   have hcl9 := HCL.out
   clear hy hfl hcs
   go_wp2_with fail
   refine hcon.mono ?_
   clear hcon c1 l1 x0 x1 x2 x3 x4 x5 x6 x7 x8 x9 zz1
   rintro r w5 ⟨cv, rfl, hb5, hrs⟩
   obtain ⟨pc, cc, rfl⟩ := hrs.1.form
   have S5 : Hid (Below W0.heap.size W0 w5 ∧ w5.ownsRow W0.heap.size 44 5 lv (nodR ns i).length (fl EC (nodR ns i)) ∧ Rs M w5 (.slice pc cs.length cc) cs) := ⟨HI.out.1.trans (hb5.mono HI.out.1.size), owns_below HI.out.2 hb5, hrs⟩
   obtain ⟨cl, hcl⟩ : ∃ n, n = cs.length := ⟨_, rfl⟩
   rw [← hcl] at S5 hcl9 ⊢
   have HCLN := hid hcl
   clear hb5 hrs HI hcl
   go_wp2_with fail
   go_loopw [3, 6] (fun s3 s6 wr => ∃ (k : Nat) (lv : Value), k ≤ cl ∧ s6 = .int .i64 (k : Nat) ∧ lv = s3 ∧ Hid (Below W0.heap.size W0 wr ∧ wr.ownsRow W0.heap.size 44 5 lv (nodR ns i ++ (cs.take k).map (sC ns i)).length (fl EC (nodR ns i ++ (cs.take k).map (sC ns i))) ∧ Rs M wr (.slice pc cl cc) cs)) (fun _ s6 _ => cl - (RowKit.intOf s6).toNat)
   case atStart => exact ⟨0, _, Nat.zero_le _, rfl, rfl, by have h := S5.out; show _ ∧ _ ∧ _; simpa using h⟩
   case round =>
    clear S5
    obtain ⟨k, lv, hk, rfl, rfl, HI⟩ := hrel
    by_cases hlk : k < cl
    ·have hlkz : (k : Int) < (cl : Int) := by omega
     have hk0 : (0 : Int) ≤ (k : Int) := by omega
     obtain ⟨z, hz⟩ : ∃ z, cs[k]? = some z := ⟨cs[k]'(by have := HCLN.out; omega), by simp⟩
     have hhas := HOK.out.con (g := gof a xs es) (i := i) (c := z) (by rw [show (gof a xs es).nodes = ns from HNL.out.2.2.1.symm, HYN.out.2.2, ← HCS.out]; exact List.mem_of_getElem? hz)
     rw [show (gof a xs es).nodes = ns from HNL.out.2.2.1.symm] at hhas
     obtain ⟨b2, o2, q2, ev2, zz2, y0, y1, y2, y3, y4⟩ := ls_atC (HI.out.2.2.1.ls hz) hz
     simp only [Value.slice.injEq] at ev2
     obtain ⟨rfl, -, rfl⟩ := ev2
     obtain ⟨_, hn1, _, _, hz1, hz2⟩ := has_in hhas.1
     obtain ⟨_, hn2, _, _, hz3, hz4⟩ := has_out hhas.2
     have hp2 := HOK.out.pok
     rw [show (gof a xs es).nodes = ns from HNL.out.2.2.1.symm] at hp2
     rw [show ((i : Nat) : Int).toNat = i by omega, HYN.out.2.1] at hn1 hn2
     obtain rfl := Option.some.inj hn1
     obtain rfl := Option.some.inj hn2
     have hpy := hp2 y.n (List.mem_of_getElem? HYN.out.2.1)
     have HCALL : Hid (∀ W, Below wr.heap.size wr W → Calls Tryz.prog 39 #[.agg (gvc a (.slice (some ⟨b1, o1, none⟩) nl cn) (.slice qe el ce)), .int .i64 (i : Nat), .int .i64 z.inn] W fun r w' => r = .returned (.int .i64 ((cIn ns i z : Nat) : Int)) ∧ Gr W w') := fun W hb => by
      have h := kin_any (ev := .slice qe el ce) (a := a) i z.inn hz1 (by omega) (by have := HNL.out.1; omega) W (HG.out W (HI.out.1.trans (hb.mono HI.out.1.size))).2
      rw [← HNL.out.2.2.1] at h
      refine h.mono (fun r w' hr => ⟨hr.1.trans ?_, hr.2⟩)
      congr 2
      unfold cIn
      push_cast
      omega
     have HCALL2 : Hid (∀ W, Below wr.heap.size wr W → Calls Tryz.prog 40 #[.agg (gvc a (.slice (some ⟨b1, o1, none⟩) nl cn) (.slice qe el ce)), .int .i64 (i : Nat), .int .i64 z.out] W fun r w' => r = .returned (.int .i64 ((cOut ns i z : Nat) : Int)) ∧ Gr W w') := fun W hb => by
      have h := kout_any (ev := .slice qe el ce) (a := a) i z.out y HYN.out.1 hz3 (by omega) W (HG.out W (HI.out.1.trans (hb.mono HI.out.1.size))).2
      rw [← HNL.out.2.2.1] at h
      refine h.mono (fun r w' hr => ⟨hr.1.trans ?_, hr.2⟩)
      congr 2
      unfold cOut
      rw [HYN.out.2.1]
      push_cast
      omega
     obtain ⟨ln, hln⟩ : ∃ l, l = nodR ns i ++ (cs.take k).map (sC ns i) := ⟨_, rfl⟩
     have HNX : Hid (ln ++ [sC ns i z] = nodR ns i ++ (cs.take (k + 1)).map (sC ns i)) := by
      show _ = _
      rw [hln, List.take_add_one, hz]
      simp
     have HLE : Hid (ln.length ≤ 500) := by
      have h1 := nodR_len HOK.out i
      rw [show (gof a xs es).nodes = ns from HNL.out.2.2.1.symm] at h1
      show _ ≤ _
      rw [hln, List.length_append, List.length_map, List.length_take]
      omega
     have hI := HI.out
     rw [← hln] at hI
     have HRW := hid hI.2.1
     have HRS := hid hI.2.2
     have HBL := hid hI.1
     have HBW := hid hI.1.size
     have HD : Hid ((wr.heap[gb]? = some (.cells (gvc a (.slice (some ⟨b1, o1, none⟩) nl cn) (.slice qe el ce)) 25 (0, 0))) ∧ b2 < wr.heap.size ∧ wr.cell? ⟨b2, o2 + k * 5, none⟩ = some (.int .i64 z.inn) ∧ wr.cell? ⟨b2, o2 + k * 5 + 1, none⟩ = some (.int .i64 z.out) ∧ wr.cell? ⟨b2, o2 + k * 5 + 2, none⟩ = some (.int .u64 (z.via.1 : Nat)) ∧ wr.cell? ⟨b2, o2 + k * 5 + 3, none⟩ = some (.int .u64 (z.via.2.1 : Nat)) ∧ wr.cell? ⟨b2, o2 + k * 5 + 4, none⟩ = some (.int .u64 (z.via.2.2 : Nat))) := ⟨(HI.out.1.block _ (tk_lt HB.out.1)).trans HB.out.1, zz2, y0, y1, y2, y3, y4⟩
     obtain ⟨ci, hci⟩ : ∃ k, k = cIn ns i z := ⟨_, rfl⟩
     obtain ⟨co, hco⟩ : ∃ k, k = cOut ns i z := ⟨_, rfl⟩
     rw [← hci] at HCALL
     rw [← hco] at HCALL2
     have HEL : Hid (sC ns i z = ⟨(ci : Int), (co : Int), z.via⟩) := by show _ = _; unfold sC; rw [hci, hco]
     clear HI hI hz hhas hz1 hz2 hz3 hz4 hpy hp2 hn1 hn2 hln y0 y1 y2 y3 y4 zz2 hci hco
     go_upto_region 9 with fail
     obtain ⟨W6, hW6⟩ : ∃ W, W = wr := ⟨_, rfl⟩
     rw [← hW6] at HCALL HCALL2 HRW HRS HBL HBW HD ⊢
     clear hW6
     have hB0 : Below W6.heap.size W6 W6.drew := (Gr.refl W6).drew.below
     have HSK : Hid (∀ (S : Nat → Prop) (W1 W : World), Below W6.heap.size W6 W1 → Kp S W1 W → ¬ S gb → ¬ S b2 → W.heap[gb]? = some (.cells (gvc a (.slice (some ⟨b1, o1, none⟩) nl cn) (.slice qe el ce)) 25 (0, 0)) ∧ b2 < W.heap.size ∧ W.cell? ⟨b2, o2 + k * 5, none⟩ = some (.int .i64 z.inn) ∧ W.cell? ⟨b2, o2 + k * 5 + 1, none⟩ = some (.int .i64 z.out) ∧ W.cell? ⟨b2, o2 + k * 5 + 2, none⟩ = some (.int .u64 (z.via.1 : Nat)) ∧ W.cell? ⟨b2, o2 + k * 5 + 3, none⟩ = some (.int .u64 (z.via.2.1 : Nat)) ∧ W.cell? ⟨b2, o2 + k * 5 + 4, none⟩ = some (.int .u64 (z.via.2.2 : Nat))) := fun S W1 W hb hk h1 h2 => by
      have hc : ∀ (o : Nat) (x : Value), W6.cell? ⟨b2, o, none⟩ = some x → W.cell? ⟨b2, o, none⟩ = some x := fun o x hx => (hk.cell (b := b2) (o := o) (Nat.lt_of_lt_of_le HD.out.2.1 hb.size) h2).trans ((hb.cell (p := ⟨b2, o, none⟩) HD.out.2.1).trans hx)
      exact ⟨(hk.block _ (Nat.lt_of_lt_of_le (tk_lt HD.out.1) hb.size) h1).trans ((hb.block _ (tk_lt HD.out.1)).trans HD.out.1), Nat.lt_of_lt_of_le HD.out.2.1 (Nat.le_trans hb.size hk.size), hc _ _ HD.out.2.2.1, hc _ _ HD.out.2.2.2.1, hc _ _ HD.out.2.2.2.2.1, hc _ _ HD.out.2.2.2.2.2.1, hc _ _ HD.out.2.2.2.2.2.2⟩
     have HSB : Hid (∀ W, Below W6.heap.size W6 W → W.heap[gb]? = some (.cells (gvc a (.slice (some ⟨b1, o1, none⟩) nl cn) (.slice qe el ce)) 25 (0, 0)) ∧ b2 < W.heap.size ∧ W.cell? ⟨b2, o2 + k * 5, none⟩ = some (.int .i64 z.inn) ∧ W.cell? ⟨b2, o2 + k * 5 + 1, none⟩ = some (.int .i64 z.out) ∧ W.cell? ⟨b2, o2 + k * 5 + 2, none⟩ = some (.int .u64 (z.via.1 : Nat)) ∧ W.cell? ⟨b2, o2 + k * 5 + 3, none⟩ = some (.int .u64 (z.via.2.1 : Nat)) ∧ W.cell? ⟨b2, o2 + k * 5 + 4, none⟩ = some (.int .u64 (z.via.2.2 : Nat))) := fun W hb => HSK.out (fun _ => False) W W hb (Kp.refl _ _) id id
     have HNB : Hid (∀ j, lv.ownBlock = some j → j ≠ gb ∧ j ≠ b2) := fun j e => ⟨fun e2 => owns_ne_blk HRW.out HD.out.1 (by decide) j e e2, fun e2 => by
      rcases HRS.out.2 with e3 | h3
      ·have := HCLN.out
       rw [e3] at this
       simp at this
       omega
      ·rcases h3 b2 rfl with h4 | ⟨csx, zx, h4⟩
       ·have h5 := (owns_rd HRW.out j e).1
        have h6 := HMM.out
        omega
       ·exact owns_ne_blk HRW.out h4 (by decide) j e e2⟩
     have hS0 := HSB.out _ hB0
     refine wp_regionD (S := fun W => W.heap[gb]? = some (.cells (gvc a (.slice (some ⟨b1, o1, none⟩) nl cn) (.slice qe el ce)) 25 (0, 0)) ∧ b2 < W.heap.size ∧ W.cell? ⟨b2, o2 + k * 5, none⟩ = some (.int .i64 z.inn) ∧ W.cell? ⟨b2, o2 + k * 5 + 1, none⟩ = some (.int .i64 z.out) ∧ W.cell? ⟨b2, o2 + k * 5 + 2, none⟩ = some (.int .u64 (z.via.1 : Nat)) ∧ W.cell? ⟨b2, o2 + k * 5 + 3, none⟩ = some (.int .u64 (z.via.2.1 : Nat)) ∧ W.cell? ⟨b2, o2 + k * 5 + 4, none⟩ = some (.int .u64 (z.via.2.2 : Nat))) (D := []) hmx ?_
     refine' wpAnyD_take (i := 0) (oi := {dst := some 28, op := .move (.tmp 3), type := 40, pos := "ref.go:58", after := #[], guard := none}) (v := _) rfl (by kernel_rfl) (by kernel_rfl) (by kernel_rfl) (fun _ _ _ h => h) (by kernel_rfl) (Or.inl ⟨by rfl, ?hy1⟩) hS0 ?rest1
     case hy1 => (intro W hSw; go_simp; try (with_reducible rfl))
     try simp only [Act.put, List.setIfInBounds_toArray, List.set_cons_zero, List.set_cons_succ]
     refine' wpAnyD_take (i := 1) (oi := {dst := some 29, op := .load 25 (.tmp 1), type := 25, pos := "ref.go:58", after := #[], guard := none}) (v := _) rfl (by kernel_rfl) (by kernel_rfl) (by kernel_rfl) (fun _ _ _ h => h) (by kernel_rfl) (Or.inl ⟨by rfl, ?hy2⟩) hS0 ?rest2
     case hy2 => (intro W hSw; have hc := (tk_store hSw.1).1; have hl := tk_lt hSw.1; go_simp; try (with_reducible rfl))
     try simp only [Act.put, List.setIfInBounds_toArray, List.set_cons_zero, List.set_cons_succ]
     refine' wpAnyD_take (i := 2) (oi := {dst := some 30, op := .move (.tmp 4), type := 3, pos := "ref.go:58", after := #[], guard := none}) (v := _) rfl (by kernel_rfl) (by kernel_rfl) (by kernel_rfl) (fun _ _ _ h => h) (by kernel_rfl) (Or.inl ⟨by rfl, ?hy3⟩) hS0 ?rest3
     case hy3 => (intro W hSw; go_simp; try (with_reducible rfl))
     try simp only [Act.put, List.setIfInBounds_toArray, List.set_cons_zero, List.set_cons_succ]
     refine' wpAnyD_take (i := 3) (oi := {dst := some 31, op := .move (.tmp 5), type := 85, pos := "ref.go:58", after := #[], guard := none}) (v := _) rfl (by kernel_rfl) (by kernel_rfl) (by kernel_rfl) (fun _ _ _ h => h) (by kernel_rfl) (Or.inl ⟨by rfl, ?hy4⟩) hS0 ?rest4
     case hy4 => (intro W hSw; go_simp; try (with_reducible rfl))
     try simp only [Act.put, List.setIfInBounds_toArray, List.set_cons_zero, List.set_cons_succ]
     refine' wpAnyD_take (i := 4) (oi := {dst := some 32, op := .move (.tmp 6), type := 3, pos := "ref.go:58", after := #[], guard := none}) (v := _) rfl (by kernel_rfl) (by kernel_rfl) (by kernel_rfl) (fun _ _ _ h => h) (by kernel_rfl) (Or.inl ⟨by rfl, ?hy5⟩) hS0 ?rest5
     case hy5 => (intro W hSw; go_simp; try (with_reducible rfl))
     try simp only [Act.put, List.setIfInBounds_toArray, List.set_cons_zero, List.set_cons_succ]
     refine' wpAnyD_take (i := 5) (oi := {dst := some 33, op := .indexAddr 85 (.tmp 31) (.tmp 32), type := 0, pos := "ref.go:58", after := #[{on := 3, ground := .data}, {on := 4, ground := .data}], guard := none}) (v := _) rfl (by kernel_rfl) (by kernel_rfl) (by kernel_rfl) (fun _ _ _ h => h) (by kernel_rfl) (Or.inl ⟨by rfl, ?hy6⟩) hS0 ?rest6
     case hy6 => (intro W hSw; go_simp; try (with_reducible rfl))
     try simp only [Act.put, List.setIfInBounds_toArray, List.set_cons_zero, List.set_cons_succ]
     refine' wpAnyD_take (i := 6) (oi := {dst := some 34, op := .fieldAddr 92 (.tmp 33) 0, type := 0, pos := "ref.go:58", after := #[{on := 5, ground := .data}], guard := none}) (v := _) rfl (by kernel_rfl) (by kernel_rfl) (by kernel_rfl) (fun _ _ _ h => h) (by kernel_rfl) (Or.inl ⟨by rfl, ?hy7⟩) hS0 ?rest7
     case hy7 => (intro W hSw; go_simp; try (with_reducible rfl))
     try simp only [Act.put, List.setIfInBounds_toArray, List.set_cons_zero, List.set_cons_succ]
     refine' wpAnyD_take (i := 7) (oi := {dst := some 35, op := .load 3 (.tmp 34), type := 3, pos := "ref.go:58", after := #[{on := 6, ground := .data}], guard := none}) (v := _) rfl (by kernel_rfl) (by kernel_rfl) (by kernel_rfl) (fun _ _ _ h => h) (by kernel_rfl) (Or.inl ⟨by rfl, ?hy8⟩) hS0 ?rest8
     case hy8 => (intro W hSw; have hc := hSw.2.2.1; have hl := hSw.2.1; go_simp; try (with_reducible rfl))
     try simp only [Act.put, List.setIfInBounds_toArray, List.set_cons_zero, List.set_cons_succ]
     refine' wpAnyD_take (i := 9) (oi := {dst := some 37, op := .load 25 (.tmp 1), type := 25, pos := "ref.go:58", after := #[], guard := none}) (v := _) rfl (by kernel_rfl) (by kernel_rfl) (by kernel_rfl) (fun _ _ _ h => h) (by kernel_rfl) (Or.inl ⟨by rfl, ?hy9⟩) hS0 ?rest9
     case hy9 => (intro W hSw; have hc := (tk_store hSw.1).1; have hl := tk_lt hSw.1; go_simp; try (with_reducible rfl))
     try simp only [Act.put, List.setIfInBounds_toArray, List.set_cons_zero, List.set_cons_succ]
     refine' wpAnyD_take (i := 10) (oi := {dst := some 38, op := .move (.tmp 4), type := 3, pos := "ref.go:58", after := #[], guard := none}) (v := _) rfl (by kernel_rfl) (by kernel_rfl) (by kernel_rfl) (fun _ _ _ h => h) (by kernel_rfl) (Or.inl ⟨by rfl, ?hy10⟩) hS0 ?rest10
     case hy10 => (intro W hSw; go_simp; try (with_reducible rfl))
     try simp only [Act.put, List.setIfInBounds_toArray, List.set_cons_zero, List.set_cons_succ]
     refine' wpAnyD_take (i := 11) (oi := {dst := some 39, op := .move (.tmp 5), type := 85, pos := "ref.go:58", after := #[], guard := none}) (v := _) rfl (by kernel_rfl) (by kernel_rfl) (by kernel_rfl) (fun _ _ _ h => h) (by kernel_rfl) (Or.inl ⟨by rfl, ?hy11⟩) hS0 ?rest11
     case hy11 => (intro W hSw; go_simp; try (with_reducible rfl))
     try simp only [Act.put, List.setIfInBounds_toArray, List.set_cons_zero, List.set_cons_succ]
     refine' wpAnyD_take (i := 12) (oi := {dst := some 40, op := .move (.tmp 6), type := 3, pos := "ref.go:58", after := #[], guard := none}) (v := _) rfl (by kernel_rfl) (by kernel_rfl) (by kernel_rfl) (fun _ _ _ h => h) (by kernel_rfl) (Or.inl ⟨by rfl, ?hy12⟩) hS0 ?rest12
     case hy12 => (intro W hSw; go_simp; try (with_reducible rfl))
     try simp only [Act.put, List.setIfInBounds_toArray, List.set_cons_zero, List.set_cons_succ]
     refine' wpAnyD_take (i := 13) (oi := {dst := some 41, op := .indexAddr 85 (.tmp 39) (.tmp 40), type := 0, pos := "ref.go:58", after := #[{on := 11, ground := .data}, {on := 12, ground := .data}], guard := none}) (v := _) rfl (by kernel_rfl) (by kernel_rfl) (by kernel_rfl) (fun _ _ _ h => h) (by kernel_rfl) (Or.inl ⟨by rfl, ?hy13⟩) hS0 ?rest13
     case hy13 => (intro W hSw; go_simp; try (with_reducible rfl))
     try simp only [Act.put, List.setIfInBounds_toArray, List.set_cons_zero, List.set_cons_succ]
     refine' wpAnyD_take (i := 14) (oi := {dst := some 42, op := .fieldAddr 92 (.tmp 41) 1, type := 0, pos := "ref.go:58", after := #[{on := 13, ground := .data}], guard := none}) (v := _) rfl (by kernel_rfl) (by kernel_rfl) (by kernel_rfl) (fun _ _ _ h => h) (by kernel_rfl) (Or.inl ⟨by rfl, ?hy14⟩) hS0 ?rest14
     case hy14 => (intro W hSw; go_simp; try (with_reducible rfl))
     try simp only [Act.put, List.setIfInBounds_toArray, List.set_cons_zero, List.set_cons_succ]
     refine' wpAnyD_take (i := 15) (oi := {dst := some 43, op := .load 3 (.tmp 42), type := 3, pos := "ref.go:58", after := #[{on := 14, ground := .data}], guard := none}) (v := _) rfl (by kernel_rfl) (by kernel_rfl) (by kernel_rfl) (fun _ _ _ h => h) (by kernel_rfl) (Or.inl ⟨by rfl, ?hy15⟩) hS0 ?rest15
     case hy15 => (intro W hSw; have hc := hSw.2.2.2.1; have hl := hSw.2.1; go_simp; try (with_reducible rfl))
     try simp only [Act.put, List.setIfInBounds_toArray, List.set_cons_zero, List.set_cons_succ]
     refine' wpAnyD_take (i := 17) (oi := {dst := some 45, op := .move (.tmp 5), type := 85, pos := "ref.go:58", after := #[], guard := none}) (v := _) rfl (by kernel_rfl) (by kernel_rfl) (by kernel_rfl) (fun _ _ _ h => h) (by kernel_rfl) (Or.inl ⟨by rfl, ?hy16⟩) hS0 ?rest16
     case hy16 => (intro W hSw; go_simp; try (with_reducible rfl))
     try simp only [Act.put, List.setIfInBounds_toArray, List.set_cons_zero, List.set_cons_succ]
     refine' wpAnyD_take (i := 18) (oi := {dst := some 46, op := .move (.tmp 6), type := 3, pos := "ref.go:58", after := #[], guard := none}) (v := _) rfl (by kernel_rfl) (by kernel_rfl) (by kernel_rfl) (fun _ _ _ h => h) (by kernel_rfl) (Or.inl ⟨by rfl, ?hy17⟩) hS0 ?rest17
     case hy17 => (intro W hSw; go_simp; try (with_reducible rfl))
     try simp only [Act.put, List.setIfInBounds_toArray, List.set_cons_zero, List.set_cons_succ]
     refine' wpAnyD_take (i := 19) (oi := {dst := some 47, op := .indexAddr 85 (.tmp 45) (.tmp 46), type := 0, pos := "ref.go:58", after := #[{on := 17, ground := .data}, {on := 18, ground := .data}], guard := none}) (v := _) rfl (by kernel_rfl) (by kernel_rfl) (by kernel_rfl) (fun _ _ _ h => h) (by kernel_rfl) (Or.inl ⟨by rfl, ?hy18⟩) hS0 ?rest18
     case hy18 => (intro W hSw; go_simp; try (with_reducible rfl))
     try simp only [Act.put, List.setIfInBounds_toArray, List.set_cons_zero, List.set_cons_succ]
     refine' wpAnyD_take (i := 20) (oi := {dst := some 48, op := .fieldAddr 92 (.tmp 47) 2, type := 0, pos := "ref.go:58", after := #[{on := 19, ground := .data}], guard := none}) (v := _) rfl (by kernel_rfl) (by kernel_rfl) (by kernel_rfl) (fun _ _ _ h => h) (by kernel_rfl) (Or.inl ⟨by rfl, ?hy19⟩) hS0 ?rest19
     case hy19 => (intro W hSw; go_simp; try (with_reducible rfl))
     try simp only [Act.put, List.setIfInBounds_toArray, List.set_cons_zero, List.set_cons_succ]
     refine' wpAnyD_take (i := 21) (oi := {dst := some 49, op := .load 39 (.tmp 48), type := 39, pos := "ref.go:58", after := #[{on := 20, ground := .data}], guard := none}) (v := _) rfl (by kernel_rfl) (by kernel_rfl) (by kernel_rfl) (fun _ _ _ h => h) (by kernel_rfl) (Or.inl ⟨by rfl, ?hy20⟩) hS0 ?rest20
     case hy20 => (intro W hSw; have hc1 := hSw.2.2.2.2.1; have hc2 := hSw.2.2.2.2.2.1; have hc3 := hSw.2.2.2.2.2.2; have hl := hSw.2.1; go_simp; try (with_reducible rfl))
     try simp only [Act.put, List.setIfInBounds_toArray, List.set_cons_zero, List.set_cons_succ]
     refine wpAnyD_one (i := 8) (o := {dst := some 36, op := .call {callee := .value (.func 39), args := #[.tmp 29, .tmp 30, .tmp 35], argTypes := #[25, 3, 3]}, type := 3, pos := "ref.go:58", after := #[{on := 1, ground := .data}, {on := 2, ground := .data}, {on := 7, ground := .data}], guard := none}) (by kernel_rfl) rfl (fun K hK => ?_)
     go_simp
     refine (HCALL.out _ hB0).mono ?_
     rintro r w7 ⟨rfl, g7⟩
     have hS7 : Below W6.heap.size W6 w7 := hB0.trans (g7.below.mono hB0.size)
     clear g7
     go_wp2_with fail
     refine hK.out _ _ (fun hD => (HSB.out _ hS7)) ?_
     clear hK K
     try simp only [Act.put, List.setIfInBounds_toArray, List.set_cons_zero, List.set_cons_succ]
     refine wpAnyD_one (i := 16) (o := {dst := some 44, op := .call {callee := .value (.func 40), args := #[.tmp 37, .tmp 38, .tmp 43], argTypes := #[25, 3, 3]}, type := 3, pos := "ref.go:58", after := #[{on := 9, ground := .data}, {on := 10, ground := .data}, {on := 15, ground := .data}, {on := 8, ground := .chain}], guard := none}) (by kernel_rfl) rfl (fun K hK => ?_)
     go_simp
     refine (HCALL2.out _ hS7).mono ?_
     rintro r w8 ⟨rfl, g8⟩
     have hS8 : Below W6.heap.size W6 w8 := hS7.trans (g8.below.mono hS7.size)
     clear g8
     go_wp2_with fail
     refine hK.out _ _ (fun hD => (HSB.out _ hS8)) ?_
     clear hK K
     try simp only [Act.put, List.setIfInBounds_toArray, List.set_cons_zero, List.set_cons_succ]
     refine' wpAnyD_take (i := 22) (oi := {dst := some 50, op := .build 44 #[(0, .tmp 36), (1, .tmp 44), (2, .tmp 49)], type := 44, pos := "ref.go:58", after := #[{on := 8, ground := .data}, {on := 16, ground := .data}, {on := 21, ground := .data}], guard := none}) (v := _) rfl (by kernel_rfl) (by kernel_rfl) (by kernel_rfl) (fun _ _ _ h => h) (by kernel_rfl) (Or.inl ⟨by rfl, ?hy23⟩) (HSB.out _ hS8) ?rest23
     case hy23 => (intro W hSw; go_simp; try (with_reducible rfl))
     try simp only [Act.put, List.setIfInBounds_toArray, List.set_cons_zero, List.set_cons_succ]
     refine wpAnyD_one (i := 23) (o := {dst := some 51, op := .buildSlice 40 1 #[(0, .tmp 50)], type := 40, pos := "ref.go:58", after := #[{on := 22, ground := .data}], guard := none}) (by kernel_rfl) rfl (fun K hK => ?_)
     go_simp
     have hS9 : Below W6.heap.size W6 (w8.alloc (.cells #[.int .i64 ((ci : Nat) : Int), .int .i64 ((co : Nat) : Int), .int .u64 (z.via.1 : Nat), .int .u64 (z.via.2.1 : Nat), .int .u64 (z.via.2.2 : Nat)] 44)) := hS8.trans (((Gr.refl w8).alloc _).below.mono hS8.size)
     refine hK.out _ _ (fun hD => (HSB.out _ hS9)) ?_
     clear hK K
     try simp only [Act.put, List.setIfInBounds_toArray, List.set_cons_zero, List.set_cons_succ]
     refine wpAnyD_one (i := 24) (o := {dst := some 52, op := .call {callee := .builtin .append, args := #[.tmp 28, .tmp 51], argTypes := #[40, 40]}, type := 40, pos := "ref.go:58", after := #[{on := 0, ground := .data}, {on := 23, ground := .data}, {on := 16, ground := .chain}], guard := none}) (by kernel_rfl) rfl (fun K hK => ?_)
     refine step_app1 EC Tryz.underlying40 infoSt rfl (by decide) rfl _ _ rfl W0.heap.size lv ln.length (fl EC ln) rfl (owns_below HRW.out hS8) (⟨((ci : Nat) : Int), ((co : Nat) : Int), z.via⟩ : Con) (by first | rfl | simp) (by have := HLE.out; omega) (by have := HLE.out; unfold maxLen; omega) (Nat.le_trans HBW.out hS8.size) _ rfl _ ?_
     intro g9 c9 w9 h9 k9 n9
     have K9 := Kp.grownBy (S := fun j => lv.ownBlock = some j) k9.out (fun _ h => h)
     have ST : Hid (Below W0.heap.size W0 w9 ∧ w9.ownsRow W0.heap.size 44 5 (.slice (some ⟨g9, 0, none⟩) (ln.length + 1) c9) (ln ++ [(⟨((ci : Nat) : Int), ((co : Nat) : Int), z.via⟩ : Con)]).length (fl EC (ln ++ [(⟨((ci : Nat) : Int), ((co : Nat) : Int), z.via⟩ : Con)])) ∧ Kp (fun j => lv.ownBlock = some j) w8 w9) := ⟨(HBL.out.trans (hS8.mono HBL.out.size)).trans (K9.below (Nat.le_trans HBL.out.size hS8.size) (fun j e => (owns_rd HRW.out j e).1)), owns_re h9.out (by simp) (by rw [fl_append, fl_one]), K9⟩
     have SQ := HSK.out _ w8 w9 hS8 K9 (fun e => (HNB.out _ e).1 rfl) (fun e => (HNB.out _ e).2 rfl)
     clear h9 k9 n9 K9
     refine hK.out _ _ (fun hD => SQ) ?_
     clear hK K
     try simp only [Act.put, List.setIfInBounds_toArray, List.set_cons_zero, List.set_cons_succ]
     refine' wpAnyD_take (i := 25) (oi := {dst := some 3, op := .assign (.tmp 52), type := 40, pos := "ref.go:58", after := #[{on := 24, ground := .data}, {on := 24, ground := .chain}, {on := 0, ground := .phase}, {on := 1, ground := .phase}, {on := 2, ground := .phase}, {on := 3, ground := .phase}, {on := 4, ground := .phase}, {on := 5, ground := .phase}, {on := 6, ground := .phase}, {on := 7, ground := .phase}, {on := 8, ground := .phase}, {on := 9, ground := .phase}, {on := 10, ground := .phase}, {on := 11, ground := .phase}, {on := 12, ground := .phase}, {on := 13, ground := .phase}, {on := 14, ground := .phase}, {on := 15, ground := .phase}, {on := 16, ground := .phase}, {on := 17, ground := .phase}, {on := 18, ground := .phase}, {on := 19, ground := .phase}, {on := 20, ground := .phase}, {on := 21, ground := .phase}, {on := 22, ground := .phase}, {on := 23, ground := .phase}, {on := 24, ground := .phase}], guard := none}) (v := _) rfl (by kernel_rfl) (by kernel_rfl) (by kernel_rfl) (fun _ _ _ h => h) (by kernel_rfl) (Or.inl ⟨by rfl, ?hy26⟩) SQ ?rest26
     case hy26 => (intro W hSw; go_simp; try (with_reducible rfl))
     try simp only [Act.put, List.setIfInBounds_toArray, List.set_cons_zero, List.set_cons_succ]
     refine wpAnyD_done (by kernel_rfl) ?_ _
     have FIN : Hid (Below W0.heap.size W0 w9 ∧ w9.ownsRow W0.heap.size 44 5 (.slice (some ⟨g9, 0, none⟩) (ln.length + 1) c9) (nodR ns i ++ (cs.take (k + 1)).map (sC ns i)).length (fl EC (nodR ns i ++ (cs.take (k + 1)).map (sC ns i))) ∧ Rs M w9 (.slice (some ⟨b2, o2, none⟩) cl cc) cs) := by
      rw [← HNX.out, HEL.out]
      have hr8 := HRS.out.below hS8
      refine ⟨ST.out.1, ST.out.2.1, hr8.kp ST.out.2.2 (fun j e => ⟨Nat.le_trans HMM.out (owns_rd HRW.out j e).1, fun csx zx hx => ?_⟩)⟩
      obtain ⟨c, f, hc⟩ := Lib.ownsRow_kind (owns_below HRW.out hS8) j e
      rw [hc] at hx
      simp only [Option.some.injEq, Obj.cells.injEq] at hx
      exact absurd hx.2.1 (by decide)
     clear ST hS0 hS7 hS8 hS9 HNX HEL HRW HRS HBL HBW HD HCALL HCALL2 HSK HSB HNB hB0 SQ
     generalize ln.length + 1 = lm at FIN ⊢
     go_wp2_with fail
     go_roundw
     case rel => exact ⟨k + 1, _, by omega, by go_num, rfl, FIN.out⟩
     case measure => simp [RowKit.intOf]; omega
    ·have hlkz : ¬ (k : Int) < (cl : Int) := by omega
     have FIN : Hid (Below W0.heap.size W0 wr ∧ wr.ownsRow W0.heap.size 44 5 lv (nodR ns (i + 1)).length (fl EC (nodR ns (i + 1)))) := by
      have h := HI.out
      rw [List.take_of_length_le (by have := HCLN.out; omega)] at h
      unfold nodR
      rw [HYN.out.2.2, ← HCS.out]
      exact ⟨h.1, h.2.1⟩
     clear HI
     go_wp2_with fail
     go_roundw
     case rel => exact ⟨i + 1, _, by omega, by go_num, rfl, FIN.out⟩
     case measure => simp [RowKit.intOf]; omega
  ·have hltz : ¬ (i : Int) < (nl : Int) := by omega
   obtain rfl : i = nl := by omega
   have S9 := hid HI.out
   clear HI
   go_wp2_with fail
   clear c1 l1
   go_loopw [3, 7] (fun s3 s7 wr => ∃ (k : Nat) (lv : Value), k ≤ el ∧ s7 = .int .i64 (k : Nat) ∧ lv = s3 ∧ Hid (Below W0.heap.size W0 wr ∧ wr.ownsRow W0.heap.size 44 5 lv (nodR ns i ++ (es.take k).map (sE ns)).length (fl EC (nodR ns i ++ (es.take k).map (sE ns))))) (fun _ s7 _ => el - (RowKit.intOf s7).toNat)
   case atStart => exact ⟨0, _, Nat.zero_le _, rfl, rfl, by have h := S9.out; show _ ∧ _; simpa using h⟩
   case round =>
    clear S9
    obtain ⟨k, lv, hk, rfl, rfl, HI⟩ := hrel
    have hb0 := (HI.out.1.block _ (tk_lt HB.out.1)).trans HB.out.1
    have c1 := (tk_store hb0).1
    have l1 := tk_lt hb0
    by_cases hlk : k < el
    ·have hlkz : (k : Int) < (el : Int) := by omega
     have hk0 : (0 : Int) ≤ (k : Int) := by omega
     obtain ⟨z, hz⟩ : ∃ z, es[k]? = some z := ⟨es[k]'(by have := HNL.out.2.1; omega), by simp⟩
     have hhas := HOK.out.ends (g := gof a xs es) (j := k) (d := z) hz
     rw [show (gof a xs es).nodes = ns from HNL.out.2.2.1.symm] at hhas
     obtain ⟨b2, o2, q2, ev2, zz2, y0, y1, y2, y3, y4⟩ := ls_atD ((HG.out wr HI.out.1).1.edges.ls hz) hz
     simp only [Value.slice.injEq] at ev2
     obtain ⟨rfl, -, rfl⟩ := ev2
     obtain ⟨yi, hn1, hz0, hzl, hz1, hz2⟩ := has_in hhas.2
     obtain ⟨yo, hn2, hz3, hzm, hz4, hz5⟩ := has_out hhas.1
     have hp2 := HOK.out.pok
     rw [show (gof a xs es).nodes = ns from HNL.out.2.2.1.symm] at hp2
     have hpi := hp2 yi (List.mem_of_getElem? hn1)
     have hpo := hp2 yo (List.mem_of_getElem? hn2)
     obtain ⟨Y, hY1, hY2⟩ := nd_get (xs := xs) (j := z.src.toNat) (n := yo) (by rw [← HNL.out.2.2.1]; exact hn2)
     obtain ⟨yb, hyb⟩ : ∃ b, b = wr.heap.size := ⟨_, rfl⟩
     obtain ⟨W6, hW6⟩ : ∃ W, W = wr.alloc (.cells (ecells z) 94) := ⟨_, rfl⟩
     have hb6 : Below wr.heap.size wr W6 := by rw [hW6]; exact ((Gr.refl wr).alloc _).below
     have HW6 : Hid (wr.alloc (.cells #[.int .i64 z.src, .int .i64 z.out, .int .i64 z.dst, .int .i64 z.inn, .bool z.keyed] 94) = W6 ∧ wr.heap.size = yb) := ⟨hW6.symm, hyb.symm⟩
     have hbl : Below W0.heap.size W0 W6 := HI.out.1.trans (hb6.mono HI.out.1.size)
     have HD : Hid (W6.heap[gb]? = some (.cells (gvc a (.slice qn i cn) (.slice (some ⟨b2, o2, none⟩) el ce)) 25 (0, 0)) ∧ W6.heap[yb]? = some (.cells (ecells z) 94 (0, 0))) := ⟨(hb6.block _ (tk_lt hb0)).trans hb0, by rw [hW6, hyb]; exact heap_new' _ _⟩
     have HCALL : Hid (∀ W, Below W6.heap.size W6 W → Calls Tryz.prog 40 #[.agg (gvc a (.slice qn i cn) (.slice (some ⟨b2, o2, none⟩) el ce)), .int .i64 z.src, .int .i64 z.out] W fun r w' => r = .returned (.int .i64 ((outPl ns z : Nat) : Int)) ∧ Gr W w') := fun W hb => by
      have h := kout_any (ev := .slice (some ⟨b2, o2, none⟩) el ce) (a := a) z.src.toNat z.out Y hY1 hz4 (by omega) W (HG.out W (hbl.trans (hb.mono hbl.size))).2
      rw [← HNL.out.2.2.1, show ((z.src.toNat : Nat) : Int) = z.src by omega] at h
      refine h.mono (fun r w' hr => ⟨hr.1.trans ?_, hr.2⟩)
      congr 2
      unfold outPl
      rw [hn2, hY2]
      push_cast
      omega
     have HCALL2 : Hid (∀ W, Below W6.heap.size W6 W → Calls Tryz.prog 39 #[.agg (gvc a (.slice qn i cn) (.slice (some ⟨b2, o2, none⟩) el ce)), .int .i64 z.dst, .int .i64 z.inn] W fun r w' => r = .returned (.int .i64 ((inPl ns z : Nat) : Int)) ∧ Gr W w') := fun W hb => by
      have h := kin_any (ev := .slice (some ⟨b2, o2, none⟩) el ce) (a := a) z.dst.toNat z.inn hz1 (by omega) (by have h1 := HNL.out.1; have h2 := HNL.out.2.2.2; omega) W (HG.out W (hbl.trans (hb.mono hbl.size))).2
      rw [← HNL.out.2.2.1, show ((z.dst.toNat : Nat) : Int) = z.dst by omega] at h
      refine h.mono (fun r w' hr => ⟨hr.1.trans ?_, hr.2⟩)
      congr 2
      unfold inPl
      push_cast
      omega
     obtain ⟨ln, hln⟩ : ∃ l, l = nodR ns i ++ (es.take k).map (sE ns) := ⟨_, rfl⟩
     have HNX : Hid (ln ++ [sE ns z] = nodR ns i ++ (es.take (k + 1)).map (sE ns)) := by
      show _ = _
      rw [hln, List.take_add_one, hz]
      simp
     have HLE : Hid (ln.length ≤ 500) := by
      have h1 := nodR_len HOK.out i
      rw [show (gof a xs es).nodes = ns from HNL.out.2.2.1.symm] at h1
      show _ ≤ _
      rw [hln, List.length_append, List.length_map, List.length_take]
      omega
     have hI := HI.out
     rw [← hln] at hI
     have HRW := hid (owns_below hI.2 hb6)
     have HBL := hid hbl
     have HBW := hid hbl.size
     obtain ⟨ci, hci⟩ : ∃ k, k = outPl ns z := ⟨_, rfl⟩
     obtain ⟨co, hco⟩ : ∃ k, k = inPl ns z := ⟨_, rfl⟩
     rw [← hci] at HCALL
     rw [← hco] at HCALL2
     have HEL : Hid (sE ns z = ⟨(ci : Int), (co : Int), (0, 0, 0)⟩) := by show _ = _; unfold sE; rw [hci, hco]
     clear HI hI hz hhas hz0 hzl hz1 hz2 hz3 hzm hz4 hz5 hpi hpo hp2 hn1 hn2 hln hci hco hY1 hY2 hbl hb6 hW6 hyb hb0
     go_upto_region 14 with fail
     rw [HW6.out.1, HW6.out.2]
     clear HW6 y0 y1 y2 y3 y4 zz2 c1 l1
     have hB0 : Below W6.heap.size W6 W6.drew := (Gr.refl W6).drew.below
     have HSB : Hid (∀ W, Below W6.heap.size W6 W → W.heap[gb]? = some (.cells (gvc a (.slice qn i cn) (.slice (some ⟨b2, o2, none⟩) el ce)) 25 (0, 0)) ∧ W.heap[yb]? = some (.cells (ecells z) 94 (0, 0))) := fun W hb => ⟨(hb.block _ (tk_lt HD.out.1)).trans HD.out.1, (hb.block _ (tk_lt HD.out.2)).trans HD.out.2⟩
     have HNB : Hid (∀ j, lv.ownBlock = some j → j ≠ gb ∧ j ≠ yb) := fun j e => ⟨fun e2 => owns_ne_blk HRW.out HD.out.1 (by decide) j e e2, fun e2 => owns_ne_blk HRW.out HD.out.2 (by decide) j e e2⟩
     have hS0 := HSB.out _ hB0
     refine wp_regionD (S := fun W => W.heap[gb]? = some (.cells (gvc a (.slice qn i cn) (.slice (some ⟨b2, o2, none⟩) el ce)) 25 (0, 0)) ∧ W.heap[yb]? = some (.cells (ecells z) 94 (0, 0))) (D := []) hmx ?_
     refine' wpAnyD_take (i := 0) (oi := {dst := some 65, op := .move (.tmp 3), type := 40, pos := "ref.go:63", after := #[], guard := none}) (v := _) rfl (by kernel_rfl) (by kernel_rfl) (by kernel_rfl) (fun _ _ _ h => h) (by kernel_rfl) (Or.inl ⟨by rfl, ?hy27⟩) hS0 ?rest27
     case hy27 => (intro W hSw; go_simp; try (with_reducible rfl))
     try simp only [Act.put, List.setIfInBounds_toArray, List.set_cons_zero, List.set_cons_succ]
     refine' wpAnyD_take (i := 1) (oi := {dst := some 66, op := .load 25 (.tmp 1), type := 25, pos := "ref.go:63", after := #[], guard := none}) (v := _) rfl (by kernel_rfl) (by kernel_rfl) (by kernel_rfl) (fun _ _ _ h => h) (by kernel_rfl) (Or.inl ⟨by rfl, ?hy28⟩) hS0 ?rest28
     case hy28 => (intro W hSw; have hc := (tk_store hSw.1).1; have hl := tk_lt hSw.1; go_simp; try (with_reducible rfl))
     try simp only [Act.put, List.setIfInBounds_toArray, List.set_cons_zero, List.set_cons_succ]
     refine' wpAnyD_take (i := 2) (oi := {dst := some 67, op := .fieldAddr 94 (.tmp 8) 0, type := 0, pos := "ref.go:63", after := #[], guard := none}) (v := _) rfl (by kernel_rfl) (by kernel_rfl) (by kernel_rfl) (fun _ _ _ h => h) (by kernel_rfl) (Or.inl ⟨by rfl, ?hy29⟩) hS0 ?rest29
     case hy29 => (intro W hSw; have hc := (tk_store hSw.2).1; have hl := tk_lt hSw.2; go_simp; try (with_reducible rfl))
     try simp only [Act.put, List.setIfInBounds_toArray, List.set_cons_zero, List.set_cons_succ]
     refine' wpAnyD_take (i := 3) (oi := {dst := some 68, op := .load 3 (.tmp 67), type := 3, pos := "ref.go:63", after := #[{on := 2, ground := .data}], guard := none}) (v := _) rfl (by kernel_rfl) (by kernel_rfl) (by kernel_rfl) (fun _ _ _ h => h) (by kernel_rfl) (Or.inl ⟨by rfl, ?hy30⟩) hS0 ?rest30
     case hy30 => (intro W hSw; have hc := (tk_store hSw.2).1; have hl := tk_lt hSw.2; go_simp; try (with_reducible rfl))
     try simp only [Act.put, List.setIfInBounds_toArray, List.set_cons_zero, List.set_cons_succ]
     refine' wpAnyD_take (i := 4) (oi := {dst := some 69, op := .fieldAddr 94 (.tmp 8) 1, type := 0, pos := "ref.go:63", after := #[], guard := none}) (v := _) rfl (by kernel_rfl) (by kernel_rfl) (by kernel_rfl) (fun _ _ _ h => h) (by kernel_rfl) (Or.inl ⟨by rfl, ?hy31⟩) hS0 ?rest31
     case hy31 => (intro W hSw; have hc := (tk_store hSw.2).1; have hl := tk_lt hSw.2; go_simp; try (with_reducible rfl))
     try simp only [Act.put, List.setIfInBounds_toArray, List.set_cons_zero, List.set_cons_succ]
     refine' wpAnyD_take (i := 5) (oi := {dst := some 70, op := .load 3 (.tmp 69), type := 3, pos := "ref.go:63", after := #[{on := 4, ground := .data}], guard := none}) (v := _) rfl (by kernel_rfl) (by kernel_rfl) (by kernel_rfl) (fun _ _ _ h => h) (by kernel_rfl) (Or.inl ⟨by rfl, ?hy32⟩) hS0 ?rest32
     case hy32 => (intro W hSw; have hc := (tk_store hSw.2).1; have hl := tk_lt hSw.2; go_simp; try (with_reducible rfl))
     try simp only [Act.put, List.setIfInBounds_toArray, List.set_cons_zero, List.set_cons_succ]
     refine' wpAnyD_take (i := 7) (oi := {dst := some 72, op := .load 25 (.tmp 1), type := 25, pos := "ref.go:63", after := #[], guard := none}) (v := _) rfl (by kernel_rfl) (by kernel_rfl) (by kernel_rfl) (fun _ _ _ h => h) (by kernel_rfl) (Or.inl ⟨by rfl, ?hy33⟩) hS0 ?rest33
     case hy33 => (intro W hSw; have hc := (tk_store hSw.1).1; have hl := tk_lt hSw.1; go_simp; try (with_reducible rfl))
     try simp only [Act.put, List.setIfInBounds_toArray, List.set_cons_zero, List.set_cons_succ]
     refine' wpAnyD_take (i := 8) (oi := {dst := some 73, op := .fieldAddr 94 (.tmp 8) 2, type := 0, pos := "ref.go:63", after := #[], guard := none}) (v := _) rfl (by kernel_rfl) (by kernel_rfl) (by kernel_rfl) (fun _ _ _ h => h) (by kernel_rfl) (Or.inl ⟨by rfl, ?hy34⟩) hS0 ?rest34
     case hy34 => (intro W hSw; have hc := (tk_store hSw.2).1; have hl := tk_lt hSw.2; go_simp; try (with_reducible rfl))
     try simp only [Act.put, List.setIfInBounds_toArray, List.set_cons_zero, List.set_cons_succ]
     refine' wpAnyD_take (i := 9) (oi := {dst := some 74, op := .load 3 (.tmp 73), type := 3, pos := "ref.go:63", after := #[{on := 8, ground := .data}], guard := none}) (v := _) rfl (by kernel_rfl) (by kernel_rfl) (by kernel_rfl) (fun _ _ _ h => h) (by kernel_rfl) (Or.inl ⟨by rfl, ?hy35⟩) hS0 ?rest35
     case hy35 => (intro W hSw; have hc := (tk_store hSw.2).1; have hl := tk_lt hSw.2; go_simp; try (with_reducible rfl))
     try simp only [Act.put, List.setIfInBounds_toArray, List.set_cons_zero, List.set_cons_succ]
     refine' wpAnyD_take (i := 10) (oi := {dst := some 75, op := .fieldAddr 94 (.tmp 8) 3, type := 0, pos := "ref.go:63", after := #[], guard := none}) (v := _) rfl (by kernel_rfl) (by kernel_rfl) (by kernel_rfl) (fun _ _ _ h => h) (by kernel_rfl) (Or.inl ⟨by rfl, ?hy36⟩) hS0 ?rest36
     case hy36 => (intro W hSw; have hc := (tk_store hSw.2).1; have hl := tk_lt hSw.2; go_simp; try (with_reducible rfl))
     try simp only [Act.put, List.setIfInBounds_toArray, List.set_cons_zero, List.set_cons_succ]
     refine' wpAnyD_take (i := 11) (oi := {dst := some 76, op := .load 3 (.tmp 75), type := 3, pos := "ref.go:63", after := #[{on := 10, ground := .data}], guard := none}) (v := _) rfl (by kernel_rfl) (by kernel_rfl) (by kernel_rfl) (fun _ _ _ h => h) (by kernel_rfl) (Or.inl ⟨by rfl, ?hy37⟩) hS0 ?rest37
     case hy37 => (intro W hSw; have hc := (tk_store hSw.2).1; have hl := tk_lt hSw.2; go_simp; try (with_reducible rfl))
     try simp only [Act.put, List.setIfInBounds_toArray, List.set_cons_zero, List.set_cons_succ]
     refine wpAnyD_one (i := 6) (o := {dst := some 71, op := .call {callee := .value (.func 40), args := #[.tmp 66, .tmp 68, .tmp 70], argTypes := #[25, 3, 3]}, type := 3, pos := "ref.go:63", after := #[{on := 1, ground := .data}, {on := 3, ground := .data}, {on := 5, ground := .data}], guard := none}) (by kernel_rfl) rfl (fun K hK => ?_)
     go_simp
     refine (HCALL.out _ hB0).mono ?_
     rintro r w7 ⟨rfl, g7⟩
     have hS7 : Below W6.heap.size W6 w7 := hB0.trans (g7.below.mono hB0.size)
     clear g7
     go_wp2_with fail
     refine hK.out _ _ (fun hD => (HSB.out _ hS7)) ?_
     clear hK K
     try simp only [Act.put, List.setIfInBounds_toArray, List.set_cons_zero, List.set_cons_succ]
     refine wpAnyD_one (i := 12) (o := {dst := some 77, op := .call {callee := .value (.func 39), args := #[.tmp 72, .tmp 74, .tmp 76], argTypes := #[25, 3, 3]}, type := 3, pos := "ref.go:63", after := #[{on := 7, ground := .data}, {on := 9, ground := .data}, {on := 11, ground := .data}, {on := 6, ground := .chain}], guard := none}) (by kernel_rfl) rfl (fun K hK => ?_)
     go_simp
     refine (HCALL2.out _ hS7).mono ?_
     rintro r w8 ⟨rfl, g8⟩
     have hS8 : Below W6.heap.size W6 w8 := hS7.trans (g8.below.mono hS7.size)
     clear g8
     go_wp2_with fail
     refine hK.out _ _ (fun hD => (HSB.out _ hS8)) ?_
     clear hK K
     try simp only [Act.put, List.setIfInBounds_toArray, List.set_cons_zero, List.set_cons_succ]
     refine' wpAnyD_take (i := 13) (oi := {dst := some 78, op := .build 44 #[(0, .tmp 71), (1, .tmp 77)], type := 44, pos := "ref.go:63", after := #[{on := 6, ground := .data}, {on := 12, ground := .data}], guard := none}) (v := _) rfl (by kernel_rfl) (by kernel_rfl) (by kernel_rfl) (fun _ _ _ h => h) (by kernel_rfl) (Or.inl ⟨by rfl, ?hy40⟩) (HSB.out _ hS8) ?rest40
     case hy40 => (intro W hSw; go_simp; try (with_reducible rfl))
     try simp only [Act.put, List.setIfInBounds_toArray, List.set_cons_zero, List.set_cons_succ]
     refine wpAnyD_one (i := 14) (o := {dst := some 79, op := .buildSlice 40 1 #[(0, .tmp 78)], type := 40, pos := "ref.go:63", after := #[{on := 13, ground := .data}], guard := none}) (by kernel_rfl) rfl (fun K hK => ?_)
     go_simp
     have hS9 : Below W6.heap.size W6 (w8.alloc (.cells #[.int .i64 ((ci : Nat) : Int), .int .i64 ((co : Nat) : Int), .int .u64 0, .int .u64 0, .int .u64 0] 44)) := hS8.trans (((Gr.refl w8).alloc _).below.mono hS8.size)
     refine hK.out _ _ (fun hD => (HSB.out _ hS9)) ?_
     clear hK K
     try simp only [Act.put, List.setIfInBounds_toArray, List.set_cons_zero, List.set_cons_succ]
     refine wpAnyD_one (i := 15) (o := {dst := some 80, op := .call {callee := .builtin .append, args := #[.tmp 65, .tmp 79], argTypes := #[40, 40]}, type := 40, pos := "ref.go:63", after := #[{on := 0, ground := .data}, {on := 14, ground := .data}, {on := 12, ground := .chain}], guard := none}) (by kernel_rfl) rfl (fun K hK => ?_)
     refine step_app1 EC Tryz.underlying40 infoSt rfl (by decide) rfl _ _ rfl W0.heap.size lv ln.length (fl EC ln) rfl (owns_below HRW.out hS8) (⟨((ci : Nat) : Int), ((co : Nat) : Int), (0, 0, 0)⟩ : Con) (by first | rfl | simp) (by have := HLE.out; omega) (by have := HLE.out; unfold maxLen; omega) (Nat.le_trans HBW.out hS8.size) _ rfl _ ?_
     intro g9 c9 w9 h9 k9 n9
     have K9 := Kp.grownBy (S := fun j => lv.ownBlock = some j) k9.out (fun _ h => h)
     have ST : Hid (Below W0.heap.size W0 w9 ∧ w9.ownsRow W0.heap.size 44 5 (.slice (some ⟨g9, 0, none⟩) (ln.length + 1) c9) (ln ++ [(⟨((ci : Nat) : Int), ((co : Nat) : Int), (0, 0, 0)⟩ : Con)]).length (fl EC (ln ++ [(⟨((ci : Nat) : Int), ((co : Nat) : Int), (0, 0, 0)⟩ : Con)])) ∧ Kp (fun j => lv.ownBlock = some j) w8 w9) := ⟨(HBL.out.trans (hS8.mono HBL.out.size)).trans (K9.below (Nat.le_trans HBL.out.size hS8.size) (fun j e => (owns_rd HRW.out j e).1)), owns_re h9.out (by simp) (by rw [fl_append, fl_one]), K9⟩
     have SQ := (show _ ∧ _ from ⟨(K9.block _ (tk_lt (HSB.out _ hS8).1) (fun e => (HNB.out _ e).1 rfl)).trans (HSB.out _ hS8).1, (K9.block _ (tk_lt (HSB.out _ hS8).2) (fun e => (HNB.out _ e).2 rfl)).trans (HSB.out _ hS8).2⟩)
     clear h9 k9 n9 K9
     refine hK.out _ _ (fun hD => SQ) ?_
     clear hK K
     try simp only [Act.put, List.setIfInBounds_toArray, List.set_cons_zero, List.set_cons_succ]
     refine' wpAnyD_take (i := 16) (oi := {dst := some 3, op := .assign (.tmp 80), type := 40, pos := "ref.go:63", after := #[{on := 15, ground := .data}, {on := 15, ground := .chain}, {on := 0, ground := .phase}, {on := 1, ground := .phase}, {on := 2, ground := .phase}, {on := 3, ground := .phase}, {on := 4, ground := .phase}, {on := 5, ground := .phase}, {on := 6, ground := .phase}, {on := 7, ground := .phase}, {on := 8, ground := .phase}, {on := 9, ground := .phase}, {on := 10, ground := .phase}, {on := 11, ground := .phase}, {on := 12, ground := .phase}, {on := 13, ground := .phase}, {on := 14, ground := .phase}, {on := 15, ground := .phase}], guard := none}) (v := _) rfl (by kernel_rfl) (by kernel_rfl) (by kernel_rfl) (fun _ _ _ h => h) (by kernel_rfl) (Or.inl ⟨by rfl, ?hy43⟩) SQ ?rest43
     case hy43 => (intro W hSw; go_simp; try (with_reducible rfl))
     try simp only [Act.put, List.setIfInBounds_toArray, List.set_cons_zero, List.set_cons_succ]
     refine wpAnyD_done (by kernel_rfl) ?_ _
     have FIN : Hid (Below W0.heap.size W0 w9 ∧ w9.ownsRow W0.heap.size 44 5 (.slice (some ⟨g9, 0, none⟩) (ln.length + 1) c9) (nodR ns i ++ (es.take (k + 1)).map (sE ns)).length (fl EC (nodR ns i ++ (es.take (k + 1)).map (sE ns)))) := by
      rw [← HNX.out, HEL.out]
      exact ⟨ST.out.1, ST.out.2.1⟩
     clear ST hS0 hS7 hS8 hS9 HNX HEL HRW HBL HBW HD HCALL HCALL2 HSB HNB hB0 SQ
     generalize ln.length + 1 = lm at FIN ⊢
     go_wp2_with fail
     go_roundw
     case rel => exact ⟨k + 1, _, by omega, by go_num, rfl, FIN.out⟩
     case measure => simp [RowKit.intOf]; omega
    ·have hlkz : ¬ (k : Int) < (el : Int) := by omega
     have FIN : Hid (Cp EC 44 w (stR (gof a xs es)) (.returned lv) wr) := by
      have h := HI.out
      rw [List.take_of_length_le (by have := HNL.out.2.1; omega), ← HSR.out] at h
      exact ⟨lv, rfl, HB.out.2.trans (h.1.mono HB.out.2.size), owns_base h.2 HB.out.2.size⟩
     clear HI hb0
     go_wp2_with fail
     go_ret
     exact FIN.out
end Go.Proofs.YtjppkehnjnmbnaaGreat.Df

namespace Go.Proofs.YtjppkehnjnmbnaaGreat.Lf
open Go.RowKit Go.Sort Pt
open Df (Con Gph Nod Edg Pth PthT plN stR nodR sE sC cIn cOut outPl inPl Gok connsAt connsN)
instance (p : Pth) : Decidable (PthT p) := by unfold Df.PthT Df.U64; infer_instance
def tri (p : Pth) : Tri := if h : PthT p then ⟨((p.1 : Int), (p.2.1 : Int), (p.2.2 : Int)), by
 obtain ⟨h1, h2, h3⟩ := h
 unfold Df.U64 at h1 h2 h3
 exact ⟨(wf_iff _).2 ⟨by simp only; omega, by simp only; omega⟩, (wf_iff _).2 ⟨by simp only; omega, by simp only; omega⟩, (wf_iff _).2 ⟨by simp only; omega, by simp only; omega⟩⟩⟩ else PX.z
theorem tri_val {p : Pth} (h : PthT p) : (tri p).1.1 = (p.1 : Int) ∧ (tri p).1.2.1 = (p.2.1 : Int) ∧ (tri p).1.2.2 = (p.2.2 : Int) := by
 unfold tri
 rw [dif_pos h]
 exact ⟨rfl, rfl, rfl⟩
theorem tri_z : tri (0, 0, 0) = PX.z := by
 have h : PthT (0, 0, 0) := ⟨by unfold Df.U64; simp, by unfold Df.U64; simp, by unfold Df.U64; simp⟩
 obtain ⟨h1, h2, h3⟩ := tri_val h
 exact tri_ext (by rw [h1]; rfl) (by rw [h2]; rfl) (by rw [h3]; rfl)
def th (c : Con) : Hf.Th := (c.out, tri c.via)
def sfl (l : List Con) (q : Nat) : List Hf.Th := (l.filter (fun c => c.inn == (q : Int))).map th
theorem sfl_app (l m : List Con) (q : Nat) : sfl (l ++ m) q = sfl l q ++ sfl m q := by simp [sfl]
theorem sfl_one (c : Con) (q : Nat) : sfl [c] q = if c.inn = (q : Int) then [th c] else [] := by
 unfold sfl
 by_cases h : c.inn = (q : Int)
 ·simp [h]
 ·simp [h]
theorem sfl_mem {l : List Con} {q : Nat} {x : Hf.Th} : x ∈ sfl l q ↔ ∃ c ∈ l, c.inn = (q : Int) ∧ x = th c := by
 unfold sfl
 rw [List.mem_map]
 constructor
 ·rintro ⟨c, hc, rfl⟩
  obtain ⟨h1, h2⟩ := List.mem_filter.1 hc
  exact ⟨c, h1, by simpa using h2, rfl⟩
 ·rintro ⟨c, h1, h2, rfl⟩
  exact ⟨c, List.mem_filter.2 ⟨h1, by simpa using h2⟩, rfl⟩
theorem sfl_len (l : List Con) (q : Nat) : (sfl l q).length ≤ l.length := by
 unfold sfl
 rw [List.length_map]
 exact List.length_filter_le _ _
theorem sfl_take {l : List Con} {i q : Nat} {c : Con} (h : l[i]? = some c) : sfl (l.take (i + 1)) q = sfl (l.take i) q ++ if c.inn = (q : Int) then [th c] else [] := by
 rw [List.take_add_one, h, sfl_app]
 exact congrArg _ (sfl_one c q)
theorem sfl_get {l : List Con} {i q : Nat} {c : Con} (h : l[i]? = some c) (hc : c.inn = (q : Int)) : (sfl l q)[(sfl (l.take i) q).length]? = some (th c) := by
 have e : l = l.take i ++ c :: l.drop (i + 1) := by
  obtain ⟨hk, rfl⟩ := List.getElem?_eq_some_iff.1 h
  rw [← List.drop_eq_getElem_cons hk, List.take_append_drop]
 have e2 : sfl l q = sfl (l.take i) q ++ (th c :: sfl (l.drop (i + 1)) q) := by
  conv => lhs; rw [e]
  rw [sfl_app]
  have : c :: l.drop (i + 1) = [c] ++ l.drop (i + 1) := rfl
  rw [this, sfl_app, sfl_one, if_pos hc]
  rfl
 rw [e2, List.getElem?_append_right (Nat.le_refl _), Nat.sub_self]
 rfl
def ssL (n : Nat) (l : List Con) : List (List Hf.Th) := (List.range n).map (sfl l)
theorem ssL_len (n : Nat) (l : List Con) : (ssL n l).length = n := by simp [ssL]
theorem ssL_get {n q : Nat} (l : List Con) (h : q < n) : (ssL n l)[q]? = some (sfl l q) := by simp [ssL, h]
theorem sts_ssL {n : Nat} {l : List Con} {q q' : Nat} {b : Tri} : Sts (ssL n l) q q' b ↔ q < n ∧ ∃ c ∈ l, c.inn = (q : Int) ∧ c.out = (q' : Int) ∧ tri c.via = b := by
 unfold Sts
 constructor
 ·rintro ⟨s, hs, hm⟩
  have hq : q < n := by
   have := (List.getElem?_eq_some_iff.1 hs).1
   rwa [ssL_len] at this
  rw [ssL_get l hq] at hs
  cases hs
  obtain ⟨c, h1, h2, h3⟩ := sfl_mem.1 hm
  simp only [th, Prod.mk.injEq] at h3
  exact ⟨hq, c, h1, h2, h3.1.symm, h3.2.symm⟩
 ·rintro ⟨hq, c, h1, h2, h3, h4⟩
  exact ⟨_, ssL_get l hq, sfl_mem.2 ⟨c, h1, h2, by simp [th, h3, h4]⟩⟩
def stQ (g : Gph) : List Con := g.edges.map (sE g.nodes) ++ nodR g.nodes g.nodes.length
theorem stQ_mem {g : Gph} {c : Con} : c ∈ stQ g ↔ c ∈ stR g := by
 unfold stQ stR
 rw [List.mem_append, List.mem_append]
 exact Or.comm
theorem sts_same (g : Gph) (n : Nat) : Sts (ssL n (stQ g)) = Sts (ssL n (stR g)) := by
 funext q q' b
 refine propext ?_
 rw [sts_ssL, sts_ssL]
 exact and_congr_right fun _ => exists_congr fun c => and_congr_left fun _ => stQ_mem
theorem stQ_len {g : Gph} (h : Gok g) : (stQ g).length ≤ 432 := by
 have := Df.stR_len h
 unfold stR at this
 unfold stQ
 rw [List.length_append] at this ⊢
 omega
def Gpt (g : Gph) : Prop := ∀ n ∈ g.nodes, PthT n.via ∧ ∀ c ∈ n.conns, PthT c.via
theorem z_pth : PthT (0, 0, 0) := ⟨by unfold Df.U64; simp, by unfold Df.U64; simp, by unfold Df.U64; simp⟩
theorem Gpt.con {g : Gph} (h : Gpt g) {i : Nat} {c : Con} (hc : c ∈ connsAt g.nodes (i : Int)) : PthT c.via := by
 rw [Df.connsAt_nat] at hc
 cases e : g.nodes[i]? with
 | none => rw [e] at hc; simp at hc
 | some n =>
  rw [e] at hc
  have hn := h n (List.mem_of_getElem? e)
  have hc : c ∈ connsN n := hc
  unfold connsN at hc
  split at hc
  ·simp only [List.mem_singleton] at hc
   subst hc
   exact hn.1
  ·split at hc
   ·exact hn.2 c hc
   ·have : c.via = (0, 0, 0) := by
      clear hn e
      generalize n.ins.toNat = ii at hc
      induction ii with
      | zero => simp [Df.acrL] at hc
      | succ k ih =>
       simp only [Df.acrL, List.mem_append] at hc
       rcases hc with hc | hc
       ·exact ih hc
       ·simp only [Df.rowL, List.mem_map] at hc
        obtain ⟨o, _, rfl⟩ := hc
        rfl
    rw [this]
    exact z_pth
theorem stR_pth {g : Gph} (h : Gpt g) {c : Con} (hc : c ∈ stR g) : PthT c.via := by
 unfold stR at hc
 rcases List.mem_append.1 hc with k | k
 ·obtain ⟨i, d, _, h2, rfl⟩ := Df.nodR_mem.1 k
  exact (h.con h2 : PthT d.via)
 ·obtain ⟨d, _, rfl⟩ := List.mem_map.1 k
  exact z_pth
theorem stR_lt {g : Gph} (h : Gok g) {c : Con} (hc : c ∈ stR g) : (∃ p : Nat, p < plN g.nodes ∧ c.inn = (p : Int)) ∧ ∃ q : Nat, q < plN g.nodes ∧ c.out = (q : Int) := by
 unfold stR at hc
 rcases List.mem_append.1 hc with k | k
 ·obtain ⟨i, d, _, h2, rfl⟩ := Df.nodR_mem.1 k
  obtain ⟨h3, h4⟩ := h.con h2
  exact ⟨⟨_, Df.cIn_lt h3, rfl⟩, _, Df.cOut_lt h4, rfl⟩
 ·obtain ⟨d, h1, rfl⟩ := List.mem_map.1 k
  obtain ⟨j, hj⟩ := List.mem_iff_getElem?.1 h1
  obtain ⟨h3, h4⟩ := h.ends hj
  exact ⟨⟨_, Df.outPl_lt h3, rfl⟩, _, Df.inPl_lt h4, rfl⟩
theorem ssL_rg {g : Gph} (h : Gok g) {l : List Con} (hl : ∀ c ∈ l, c ∈ stR g) : ∀ s ∈ ssL (plN g.nodes) l, ∀ x ∈ s, ∃ q : Nat, q < (ssL (plN g.nodes) l).length ∧ x.1 = (q : Int) := fun s hs x hx => by
 obtain ⟨k, _, rfl⟩ := List.mem_map.1 hs
 obtain ⟨c, h1, _, rfl⟩ := sfl_mem.1 hx
 rw [ssL_len]
 exact (stR_lt h (hl c h1)).2
theorem ssL_bd {n m : Nat} {l : List Con} (h : l.length ≤ m) : ∀ s ∈ ssL n l, s.length ≤ m := fun s hs => by
 obtain ⟨k, _, rfl⟩ := List.mem_map.1 hs
 exact Nat.le_trans (sfl_len l k) h
section
variable {ss : List (List Hf.Th)} {s : List Hf.Th} {p d q0 k np np' : Nat} {w : Tri} {rows : Nat → List Tri} {R L L' : List Hf.It}
theorem Pu.takeR (h : Pu ss p d rows L np) (hp : ((((q0 : Int), w), k) :: R).Perm L) (hf : ∀ q b, (q, b) ∈ opn L → ¬ PX.tld b w) (hc : ¬ Cov PX (rows q0) w) (hs : ss[q0]? = some s) (hd : s.length ≤ d) (h64 : (rows q0).length + 1 ≤ 64)
    (hi : Inn s ss.length w (put1 rows q0 w) R L' s.length) (hn1 : np' ≤ np + s.length) (hn2 : L'.length ≤ np') : Pu ss p d (put1 rows q0 w) L' np' ∧ mes ss.length d (put1 rows q0 w) L'.length < mes ss.length d rows L.length := by
 have hq : q0 < ss.length := (List.getElem?_eq_some_iff.1 hs).1
 have hl : R.length + 1 = L.length := by simpa using hp.length_eq
 have hsm : ∀ q, (put1 rows q0 w q).length ≤ 64 := fun q => by
  unfold put1
  split
  ·rename_i e
   subst e
   simpa using h64
  ·exact h.sm q
 refine ⟨⟨hi.fin h.iv hp hf hc hs, hi.rg, hsm, ?_, hn2⟩, ?_⟩
 ·rw [tot_put1, if_pos hq, Nat.add_mul, Nat.one_mul]
  have := h.nb
  omega
 ·exact mes_take hq (fun q _ => hsm q) (by omega) (by have := hi.cnt; omega)
theorem Pu.wideR (h : Pu ss p d rows L np) (hp : ((((q0 : Int), w), k) :: R).Perm L) (hf : ∀ q b, (q, b) ∈ opn L → ¬ PX.tld b w) (hc : ¬ Cov PX (rows q0) w) (h64 : 64 < (rows q0).length + 1) : Res PX (Sts ss) p none := by
 obtain ⟨o, ho⟩ := take_all h.iv hp hf hc
 exact ho.wide PX_ok (q := q0) (by unfold put1; rw [if_pos rfl]; simpa using h64)
end
end Go.Proofs.YtjppkehnjnmbnaaGreat.Lf
