import Derived.Test.YtdnnfgabdkkdjaaGreatJ13
import Derived.BigQuiet
import Derived.Test.YtdnnfgabdkkdjaaGreatJ15
import Derived.Test.YtdnnfgabdkkdjaaGreatJ10
namespace Go.Proofs.YtdnnfgabdkkdjaaGreat.Df
open Go.RowKit Go.Sort
attribute [local go_sem ↓] Go.wp_at_zero Go.wp_at_succ
theorem order_any {B gb : Nat} {g : Gph} (w : World) (h : Gm B w gb g) (hOK : Gok g) : Calls Tryz.prog 57 #[.pointer (some ⟨gb, 0, none⟩)] w (Od w (stL g).length (stL g)) := by
 have hs := stepsOf_any w h hOK
 have HOK := hid hOK
 clear h hOK
 go_enter Tryz.func57, Tryz.ntmps57
 go_wp2_with fail
 refine hs.mono ?_
 clear hs
 rintro r w1 ⟨v, rfl, H1⟩
 have ho := ordered_any w1 H1.out.2 (stL_good HOK.out).1 (stL_good HOK.out).2
 go_wp2_with fail
 refine ho.mono ?_
 clear ho
 rintro r w2 ⟨hb, hr⟩
 have hbb := H1.out.1.trans (hb.mono H1.out.1.size)
 rcases hr with ⟨e, rfl⟩ | ⟨o, f, d, e, rfl, hrow⟩
 ·have FIN : Hid (Od w (stL g).length (stL g) (.returned (.tuple #[.slice none 0 0, .int .i64 27])) w2) := ⟨hbb, Or.inl ⟨e, rfl⟩⟩
  clear e hb hbb
  go_wp2_with fail
  refine bodyPost_ret (v := .tuple #[.slice none 0 0, .int .i64 27]) (by simp [results, Tryz.results57, go_sem]) rfl ?_
  exact FIN.out
 ·obtain ⟨q, m, c, rfl⟩ := owns_form hrow
  have FIN : Hid (Od w (stL g).length (stL g) (.returned (.tuple #[.slice q m c, .int .i64 0])) w2) := ⟨hbb, Or.inr ⟨o, f, _, e, rfl, owns_base hrow H1.out.1.size⟩⟩
  clear e hb hbb hrow
  go_wp2_with fail
  refine bodyPost_ret (v := .tuple #[.slice q m c, .int .i64 0]) (by simp [results, Tryz.results57, go_sem]) rfl ?_
  exact FIN.out
theorem orderNil_any (w : World) : Calls Tryz.prog 57 #[.pointer none] w fun r w' => r = .returned (.tuple #[.slice none 0 0, .int .i64 1]) ∧ w' = w := by
 go_enter Tryz.func57, Tryz.ntmps57
 go_wp2_with fail
 refine bodyPost_ret (v := .tuple #[.slice none 0 0, .int .i64 1]) (by simp [results, Tryz.results57, go_sem]) rfl ?_
 exact ⟨rfl, rfl⟩
end Go.Proofs.YtdnnfgabdkkdjaaGreat.Df

namespace Go.Proofs.YtdnnfgabdkkdjaaGreat.Lf
open Go.RowKit Go.Sort Pt
open Df (hid Con Gph Pth PthT plN stR stL Gok LV EL owns_form owns_caps owns_ne_own owns_ne_blk tk_store tk_lt tk_set ordN Gm order_any)
attribute [local go_sem ↓] Go.wp_at_zero Go.wp_at_succ
def NwP (w : World) (g : Gph) (e : Ending) (w' : World) : Prop := Below w.heap.size w w' ∧ ∃ a, Tab g a ∧ ((a = none ∧ e = .returned (.tuple #[.pointer none, .int .i64 27])) ∨ (a = some none ∧ e = .returned (.tuple #[.pointer none, .int .i64 28])) ∨ ∃ R tb, a = some (some R) ∧ e = .returned (.tuple #[.pointer (some ⟨tb, 0, none⟩), .int .i64 0]) ∧ TP w'.heap.size w' tb (plN g.nodes) R)
set_option maxRecDepth 100000 in
set_option maxHeartbeats 8000000 in
theorem new_any {B gb : Nat} {g : Gph} (w : World) (h : Gm B w gb g) (hOK : Gok g) (hP : Gpt g) : Calls Tryz.prog 33 #[.pointer (some ⟨gb, 0, none⟩)] w (NwP w g) := by
 have hord := order_any w h hOK
 have HM : Hid (∀ W, Below w.heap.size w W → Gm B W gb g) := fun W hb => h.below hb
 have HOK := hid hOK
 have HPT := hid hP
 have hpl := Df.plN_le hOK
 clear h hOK hP
 go_enter Tryz.func33, Tryz.ntmps33
 go_wp2_with fail
 refine hord.mono ?_
 clear hord
 rintro r w1 ⟨hb1, hr⟩
 rcases hr with ⟨hno, rfl⟩ | ⟨o, f, d, hso, rfl, _⟩
 ·have FIN : Hid (NwP w g (.returned (.tuple #[.pointer none, .int .i64 27])) w1) := ⟨hb1, none, .cyc hno, Or.inl ⟨rfl, rfl⟩⟩
  go_wp2
  refine bodyPost_ret (v := .tuple #[.pointer none, .int .i64 27]) (by simp [results, Tryz.results33, go_sem]) rfl ?_
  exact FIN.out
 ·have HNO : Hid (ordN (stL g).length (stL g) (stL g).length ≠ none) := fun e => by rw [hso] at e; cases e
  clear hso
  have hst := stepsOf_any w1 (HM.out w1 hb1) HOK.out HPT.out
  have HB1 := hid hb1
  clear hb1
  go_wp2_with fail
  refine hst.mono ?_
  clear hst
  rintro r w2 ⟨gs, vs, rfl, hb2, hvl, hfw⟩
  obtain ⟨n, hn⟩ : ∃ n, n = plN g.nodes := ⟨_, rfl⟩
  rw [← hn] at hfw hvl hpl ⊢
  have HN := hid hn
  have HSP : Hid (Sp w2 (.slice (some ⟨gs, 0, none⟩) n n) (ssL n (stQ g))) := by
   have h1 := hfw.sp
   rw [hvl] at h1
   exact h1
  have HB2 := hid (HB1.out.trans (hb2.mono HB1.out.size))
  clear hb2 hfw hvl hn HB1
  obtain ⟨tb, htb⟩ : ∃ b, b = w2.heap.size := ⟨_, rfl⟩
  obtain ⟨W3, hW3⟩ : ∃ W, W = w2.alloc (.cells #[.slice none 0 0] 102) := ⟨_, rfl⟩
  have P3 : Hid (Below w2.heap.size w2 W3 ∧ W3.heap[tb]? = some (.cells #[.slice none 0 0] 102 (0, 0)) ∧ w2.heap.size ≤ tb) := by
   rw [hW3, htb]
   exact ⟨((Gr.refl w2).alloc _).below, heap_new' _ _, Nat.le_refl _⟩
  have HW3 : Hid (w2.alloc (.cells #[.slice none 0 0] 102) = W3 ∧ w2.heap.size = tb) := ⟨hW3.symm, htb.symm⟩
  clear hW3 htb
  go_upto_region 6 with fail
  rw [HW3.out.1, HW3.out.2]
  clear HW3
  go_wp2_with fail
  go_loopw [8, 9, 10, 25] (fun _ _ _ s25 wr => ∃ (i : Nat) (v : Value) (us : List LV) (R : Nat → Nat → List Tri), i ≤ n ∧ s25 = .int .i64 i ∧ Hid (us.length = i ∧ Below w2.heap.size w2 wr ∧ wr.heap[tb]? = some (.cells #[v] 102 (0, 0)) ∧ T3 w2.heap.size wr v us n R ∧ ∀ p, p < i → Res PX (StG g) p (some (R p)))) (fun _ _ _ s25 _ => n - (RowKit.intOf s25).toNat)
  case atStart => exact ⟨0, _, [], fun _ _ => [], Nat.zero_le _, rfl, rfl, P3.out.1, P3.out.2.1, T3.nil _ _ _ _, fun p hp => absurd hp (Nat.not_lt_zero _)⟩
  case round =>
   obtain ⟨i, v, us, R, hi, rfl, HI⟩ := hrel
   by_cases hlt : i < n
   ·have hltz : (i : Int) < (n : Int) := by omega
    have hi0 : (0 : Int) ≤ (i : Int) := by omega
    have hlf := leastFrom_any i n 432 (.slice (some ⟨gs, 0, none⟩) n n) (ssL n (stQ g)) wr (HSP.out.below HI.out.2.1) (ssL_len _ _) hlt (by
     have h := ssL_rg HOK.out (l := stQ g) (fun c hc => stQ_mem.1 hc)
     rw [← HN.out] at h
     rw [ssL_len] at h
     exact h) (ssL_bd (stQ_len HOK.out)) (by
     have : 64 * n * (432 + 1) ≤ 64 * 192 * (432 + 1) := Nat.mul_le_mul (Nat.mul_le_mul (Nat.le_refl _) hpl) (Nat.le_refl _)
     omega)
    go_wp2_with fail
    refine hlf.mono ?_
    clear hlf
    rintro r w5 ⟨hb5, a, hres, hcase⟩
    have HRES : Hid (Res PX (StG g) i a) := by
     rw [HN.out, sts_same] at hres
     exact hres
    clear hres
    rcases hcase with ⟨rfl, rfl⟩ | ⟨rows, v5, vs5, rfl, rfl, htb5⟩
    ·have FIN : Hid (NwP w g (.returned (.tuple #[.pointer none, .int .i64 28])) w5) := ⟨HB2.out.trans ((HI.out.2.1.trans (hb5.mono HI.out.2.1.size)).mono HB2.out.size), some none, .wide HNO.out i (by rw [← HN.out]; exact hlt) HRES.out, Or.inr (Or.inl ⟨rfl, rfl⟩)⟩
     clear hb5
     go_wp2
     refine bodyPost_ret (v := .tuple #[.pointer none, .int .i64 28]) (by simp [results, Tryz.results33, go_sem]) rfl ?_
     exact FIN.out
    ·have hrw : Rw2 wr.heap.size w5 v5 n rows := by
       rw [ssL_len] at htb5
       exact htb5.rw2
     obtain ⟨u, hu⟩ : ∃ u : LV, u.v = v5 := by
      obtain ⟨vs, h1, _⟩ := hrw
      obtain ⟨q, m, c, e⟩ := owns_form h1
      exact ⟨⟨q, m, c⟩, e.symm⟩
     subst hu
     clear htb5
     have hbx := (hb5.block _ (tk_lt HI.out.2.2.1)).trans HI.out.2.2.1
     have cx := (tk_store hbx).1
     have lx := tk_lt hbx
     have HT5 := hid (HI.out.2.2.2.1.below hb5)
     have HR5 : Hid (Rw2 w2.heap.size w5 u.v n rows ∧ w5.heap[tb]? = some (.cells #[v] 102 (0, 0)) ∧ Below w2.heap.size w2 w5) := ⟨hrw.base HI.out.2.1.size, hbx, HI.out.2.1.trans (hb5.mono HI.out.2.1.size)⟩
     have HOW : Hid (w5.ownsRow w2.heap.size 42 1 v i (fl EL us)) := owns_re HT5.out.row HI.out.1 rfl
     have hz5 : w2.heap.size ≤ w5.heap.size := HR5.out.2.2.size
     obtain ⟨uq, um, uc⟩ := u
     clear hrw hbx hb5
     go_wp2_with (at_builtin; refine wpApp1 EL Tryz.underlying31 infoPll rfl (by decide) rfl _ _ rfl w2.heap.size _ i _ rfl HOW.out ⟨uq, um, uc⟩ rfl (by omega) (by unfold maxLen; omega) hz5 _ rfl _ ?_)
     intro g6 c6 w6 ho6 hg6 hl6
     have hK6 : Kp (fun k => v.ownBlock = some k) w5 w6 := Kp.grownBy hg6 (fun _ h => h)
     have hbx6 : w6.heap[tb]? = some (.cells #[v] 102 (0, 0)) := (hK6.block _ (tk_lt HR5.out.2.1) (fun e => owns_ne_blk HOW.out HR5.out.2.1 (by decide) tb e rfl)).trans HR5.out.2.1
     have HT6 : Hid (T3 w2.heap.size w6 (.slice (some ⟨g6, 0, none⟩) (i + 1) c6) (us ++ [⟨uq, um, uc⟩]) n (fun p => if p = i then rows else R p)) := by
      have e := HI.out.1
      have h1 := HT5.out.app (g := g6) (cap := c6) (w1 := w6) HR5.out.1 (by rw [e]; exact ho6) hg6
      rw [e] at h1
      exact h1
     have HB6 : Hid (Below w2.heap.size w2 w6) := HR5.out.2.2.trans (hK6.below HR5.out.2.2.size (fun k hk => (HOW.out.lt k hk).1))
     have cx6 := (tk_store hbx6).1
     have fx6 := (tk_store hbx6).2
     have lx6 := tk_lt hbx6
     obtain ⟨b7, k7⟩ := tk_set hbx6 0 (.slice (some ⟨g6, 0, none⟩) (i + 1) c6)
     have P7 : Hid ((w6.setCell ⟨tb, 0, none⟩ (.slice (some ⟨g6, 0, none⟩) (i + 1) c6)).heap[tb]? = some (.cells #[.slice (some ⟨g6, 0, none⟩) (i + 1) c6] 102 (0, 0)) ∧ Below w2.heap.size w2 (w6.setCell ⟨tb, 0, none⟩ (.slice (some ⟨g6, 0, none⟩) (i + 1) c6)) ∧ T3 w2.heap.size (w6.setCell ⟨tb, 0, none⟩ (.slice (some ⟨g6, 0, none⟩) (i + 1) c6)) (.slice (some ⟨g6, 0, none⟩) (i + 1) c6) (us ++ [⟨uq, um, uc⟩]) n (fun p => if p = i then rows else R p)) := ⟨b7, HB6.out.trans (k7.below HB6.out.size (fun k hk => by rw [hk]; exact P3.out.2.2)), HT6.out.block hbx6 (by decide) (by decide) (by decide) k7⟩
     clear b7 k7 hbx6 ho6 hg6 hl6 hK6 cx lx
     go_wp2_with fail
     go_roundw
     case rel =>
      refine ⟨i + 1, _, us ++ [⟨uq, um, uc⟩], fun p => if p = i then rows else R p, by omega, by first | rfl | go_num, by rw [List.length_append, HI.out.1]; rfl, P7.out.2.1, P7.out.1, P7.out.2.2, fun p hp => ?_⟩
      by_cases e : p = i
      ·subst e
       simp only [if_true]
       exact HRES.out
      ·simp only [if_neg e]
       exact HI.out.2.2.2.2 p (by omega)
     case measure => simp [RowKit.intOf]; omega
   ·have hltz : ¬ (i : Int) < (n : Int) := by omega
    have hie : i = n := by omega
    subst hie
    have FIN : Hid (NwP w g (.returned (.tuple #[.pointer (some ⟨tb, 0, none⟩), .int .i64 0])) wr) := ⟨HB2.out.trans (HI.out.2.1.mono HB2.out.size), some (some R), .tab R HNO.out (by rw [← HN.out]; exact HI.out.2.2.2.2), Or.inr (Or.inr ⟨R, tb, rfl, rfl, by
     rw [← HN.out]
     exact ⟨v, HI.out.2.2.1, tk_lt HI.out.2.2.1, HI.out.2.2.2.1.tq HI.out.1⟩⟩)⟩
    go_wp2
    refine bodyPost_ret (v := .tuple #[.pointer (some ⟨tb, 0, none⟩), .int .i64 0]) (by simp [results, Tryz.results33, go_sem]) rfl ?_
    exact FIN.out
end Go.Proofs.YtdnnfgabdkkdjaaGreat.Lf

namespace Go.Proofs.YtdnnfgabdkkdjaaGreat.Df
open Go.RowKit Go.Sort
attribute [local go_sem ↓] Go.wp_at_zero Go.wp_at_succ
set_option maxRecDepth 100000 in
set_option maxHeartbeats 8000000 in
theorem kempty_any {M : Nat} {nv ev : Value} {a : Int} {xs : List NV} {es : List Edg} (w : World) (hG : GR M w nv ev xs es) (hM : M ≤ w.heap.size) (hOK : Gok (gof a xs es)) : Calls Tryz.prog 98 #[.agg (gvc a nv ev)] w (Cp EC 44 w (emR (gof a xs es))) := by
 obtain ⟨W0, hW0⟩ : ∃ W, W = w.alloc (.cells (gvc a nv ev) 25) := ⟨_, rfl⟩
 obtain ⟨gb, hgb⟩ : ∃ b, b = w.heap.size := ⟨_, rfl⟩
 have g0 : Gr w W0 := by rw [hW0]; exact (Gr.refl w).alloc _
 have HB : Hid (W0.heap[gb]? = some (.cells (gvc a nv ev) 25 (0, 0)) ∧ Below w.heap.size w W0) := ⟨by rw [hW0, hgb]; exact heap_new' _ _, g0.below⟩
 have HW : Hid (w.alloc (.cells #[.int .i64 a, nv, ev] 25) = W0 ∧ w.heap.size = gb) := ⟨hW0.symm, hgb.symm⟩
 have hst := ksteps_any (a := a) W0 (hG.below g0.below) (Nat.le_trans hM g0.below.size) hOK
 have hsl := stR_len hOK
 obtain ⟨ss, hss⟩ : ∃ l, l = stR (gof a xs es) := ⟨_, rfl⟩
 have HSS : Hid (emR (gof a xs es) = ss.filter isE) := by show _ = _; rw [hss]; rfl
 rw [← hss] at hst hsl
 obtain ⟨qn, cn, hnv⟩ := hG.nodes.form
 obtain ⟨qe, ce, hev⟩ := hG.edges.form
 subst hnv
 subst hev
 have c0 := (tk_store HB.out.1).1
 have l0 := tk_lt HB.out.1
 generalize xs.length = nl at *
 generalize es.length = el at *
 clear hG hM hW0 hgb g0 hOK hss
 go_enter Tryz.func98, Tryz.ntmps98
 go_upto_region 1 with fail
 rw [HW.out.1, HW.out.2]
 clear HW
 go_wp2_with fail
 refine hst.mono ?_
 clear hst c0 l0
 rintro r w1 ⟨d, rfl, hb1, hrow⟩
 obtain ⟨q, m, c, rfl⟩ := owns_form hrow
 obtain ⟨rfl, hcap⟩ := owns_caps hrow _ _ _ rfl
 have HL : Hid (Lz EC w1.heap.size w1 (.slice q ss.length c) ss) := owns_lz (E := EC) hrow
 have H1 : Hid (Below w.heap.size w w1) := HB.out.2.trans (hb1.mono HB.out.2.size)
 obtain ⟨sl, hsl2⟩ : ∃ n, n = ss.length := ⟨_, rfl⟩
 rw [← hsl2] at HL hsl ⊢
 have HSL := hid hsl2
 clear hb1 hrow hcap hsl2
 go_wp2_with fail
 go_loopw [3, 5] (fun s3 s5 wr => ∃ (k : Nat) (lv : Value), k ≤ sl ∧ s5 = .int .i64 (k : Nat) ∧ lv = s3 ∧ Hid (Below w1.heap.size w1 wr ∧ wr.ownsRow w1.heap.size 44 5 lv ((ss.take k).filter isE).length (fl EC ((ss.take k).filter isE)))) (fun _ s5 _ => sl - (RowKit.intOf s5).toNat)
 case atStart => exact ⟨0, _, Nat.zero_le _, rfl, rfl, Below.refl _ _, World.ownsRow_nil _ _ _ _⟩
 case round =>
  obtain ⟨k, lv, hk, rfl, rfl, HI⟩ := hrel
  by_cases hlk : k < sl
  ·have hlkz : (k : Int) < (sl : Int) := by omega
   have hk0 : (0 : Int) ≤ (k : Int) := by omega
   obtain ⟨z, hz⟩ : ∃ z, ss[k]? = some z := ⟨ss[k]'(by have := HSL.out; omega), by simp⟩
   obtain ⟨b2, o2, q2, ev2, zz2, y0, y1, y2, y3, y4⟩ := ls_atC ((HL.out.below HI.out.1).ls hz) hz
   simp only [Value.slice.injEq] at ev2
   obtain ⟨rfl, -, rfl⟩ := ev2
   have HT : Hid ((ss.take (k + 1)).filter isE = (ss.take k).filter isE ++ if isE z = true then [z] else []) := by
    show _ = _
    rw [List.take_add_one, hz, List.filter_append]
    simp only [Option.toList_some, List.filter_cons, List.filter_nil]
   obtain ⟨ln, hln⟩ : ∃ l, l = (ss.take k).filter isE := ⟨_, rfl⟩
   rw [← hln] at HI HT
   have HLE : Hid (ln.length ≤ 500) := by
    show _ ≤ _
    rw [hln]
    exact Nat.le_trans (List.length_filter_le _ _) (by rw [List.length_take]; omega)
   have HBW := hid HI.out.1.size
   clear hz hln
   by_cases hE : z.via = (0, 0, 0)
   ·obtain ⟨hE1, hE2, hE3⟩ : z.via.1 = 0 ∧ z.via.2.1 = 0 ∧ z.via.2.2 = 0 := by rw [hE]; exact ⟨rfl, rfl, rfl⟩
    have hie : isE z = true := decide_eq_true hE
    have HZ : Hid (z = ⟨z.inn, z.out, (0, 0, 0)⟩) := by
     show _ = _
     obtain ⟨zi, zo, zv⟩ := z
     dsimp only at hE
     rw [hE]
    have HIE := hid hie
    clear hE hie
    go_wp2_with (at_builtin; refine wpApp1 EC Tryz.underlying40 infoSt rfl (by decide) rfl _ _ rfl w1.heap.size _ ln.length _ rfl HI.out.2 ⟨z.inn, z.out, (0, 0, 0)⟩ (by first | rfl | simp) (by have := HLE.out; omega) (by have := HLE.out; unfold maxLen; omega) HBW.out _ (by first | rfl | (simp; rfl)) _ ?_; intro g9 c9 w9 r1 r2 r3)
    have FIN : Hid (Below w1.heap.size w1 w9 ∧ w9.ownsRow w1.heap.size 44 5 (.slice (some ⟨g9, 0, none⟩) (ln.length + 1) c9) ((ss.take (k + 1)).filter isE).length (fl EC ((ss.take (k + 1)).filter isE))) := by
     have k2 := Kp.grownBy (S := fun j => lv.ownBlock = some j) r2 (fun _ h => h)
     refine ⟨HI.out.1.trans (k2.below HI.out.1.size (fun j e => (owns_rd HI.out.2 j e).1)), ?_⟩
     rw [HT.out, if_pos HIE.out, HZ.out]
     exact owns_re r1 (by simp) (by rw [fl_append, fl_one])
    clear r1 r2 r3
    generalize ln.length + 1 = lm at FIN ⊢
    go_roundw
    case rel => exact ⟨k + 1, _, by omega, by go_num, rfl, FIN.out⟩
    case measure => simp [RowKit.intOf]; omega
   ·have FIN : Hid (Below w1.heap.size w1 wr ∧ wr.ownsRow w1.heap.size 44 5 lv ((ss.take (k + 1)).filter isE).length (fl EC ((ss.take (k + 1)).filter isE))) := by
      rw [HT.out, if_neg (by simp [isE, hE]), List.append_nil]
      exact HI.out
    have hne : ¬ (z.via.1 = 0 ∧ z.via.2.1 = 0 ∧ z.via.2.2 = 0) := fun e => hE (Prod.ext e.1 (Prod.ext e.2.1 e.2.2))
    have hne3 : z.via.1 ≠ 0 ∨ (z.via.1 = 0 ∧ z.via.2.1 ≠ 0) ∨ (z.via.1 = 0 ∧ z.via.2.1 = 0 ∧ z.via.2.2 ≠ 0) := by omega
    clear hE hne HT HI
    rcases hne3 with h1 | ⟨h1, h2⟩ | ⟨h1, h2, h3⟩
    ·go_wp2_with fail
     go_roundw
     case rel => exact ⟨k + 1, _, by omega, by go_num, rfl, FIN.out⟩
     case measure => simp [RowKit.intOf]; omega
    ·go_wp2_with fail
     go_roundw
     case rel => exact ⟨k + 1, _, by omega, by go_num, rfl, FIN.out⟩
     case measure => simp [RowKit.intOf]; omega
    ·go_wp2_with fail
     go_roundw
     case rel => exact ⟨k + 1, _, by omega, by go_num, rfl, FIN.out⟩
     case measure => simp [RowKit.intOf]; omega
  ·have hlkz : ¬ (k : Int) < (sl : Int) := by omega
   have FIN : Hid (Cp EC 44 w (emR (gof a xs es)) (.returned lv) wr) := by
    have h := HI.out
    rw [List.take_of_length_le (by have := HSL.out; omega), ← HSS.out] at h
    exact ⟨lv, rfl, H1.out.trans (h.1.mono H1.out.size), owns_base h.2 H1.out.size⟩
   clear HI
   go_wp2_with fail
   go_ret
   exact FIN.out
end Go.Proofs.YtdnnfgabdkkdjaaGreat.Df

namespace Go.Proofs.YtdnnfgabdkkdjaaGreat.Df
open Go.RowKit Go.Sort
theorem Oi.free {ls : List (List Int)} {us : List Nat} {f : Nat → Int} (h : Oi ls us f) (k : Nat) : f k = 0 ↔ k ∉ us ∧ ∀ p, Sp ls p k → p ∈ us := by
 constructor
 ·intro hf
  have hk : k ∉ us := fun e => by have := h.lo k e; omega
  refine ⟨hk, fun p hp => ?_⟩
  by_cases e : p ∈ us
  ·exact e
  ·have h3 := sum_le (cAt ls k) (p :: us) (List.range ls.length) (List.nodup_cons.2 ⟨e, h.nd⟩) (fun x hx => by
     rcases List.mem_cons.1 hx with rfl | hx
     ·exact List.mem_range.2 hp.lt
     ·exact List.mem_range.2 (h.bd x hx))
   rw [← cntL_range, List.map_cons, List.sum_cons] at h3
   have h4 := h.hi k hk
   have h5 := cAt_pos.2 hp
   omega
 ·rintro ⟨hk, hall⟩
  have h4 := h.hi k hk
  have h5 := sum_ge (cAt ls k) (List.range ls.length) us List.nodup_range (fun x _ hx => hall x (cAt_pos.1 hx))
  have h6 := sum_le (cAt ls k) us (List.range ls.length) h.nd (fun x hx => List.mem_range.2 (h.bd x hx))
  rw [← cntL_range] at h5 h6
  omega
theorem Oi.next {ls : List (List Int)} {us : List Nat} {f : Nat → Int} (h : Oi ls us f) : match zeroN ls.length f with
    | some p => p < ls.length ∧ (p ∉ us ∧ ∀ r, Sp ls r p → r ∈ us) ∧ ∀ k, k < p → ¬ (k ∉ us ∧ ∀ r, Sp ls r k → r ∈ us)
    | none => ∀ k, k < ls.length → ¬ (k ∉ us ∧ ∀ r, Sp ls r k → r ∈ us) := by
 cases e : zeroN ls.length f with
 | none =>
  intro k hk hf
  have := List.find?_eq_none.1 e k (List.mem_range.2 hk)
  simp [(h.free k).2 hf] at this
 | some p =>
  unfold zeroN at e
  rw [List.find?_range_eq_some] at e
  obtain ⟨h1, h2, h3⟩ := e
  have hp : p < ls.length := by simpa using h2
  refine ⟨hp, (h.free p).1 (by simpa using h1), fun k hk hf => ?_⟩
  have := h3 k hk
  simp [(h.free k).2 hf] at this
end Go.Proofs.YtdnnfgabdkkdjaaGreat.Df
