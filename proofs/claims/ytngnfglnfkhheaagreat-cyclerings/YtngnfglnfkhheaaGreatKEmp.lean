import Derived.Test.YtngnfglnfkhheaaGreatKStp
import Derived.BigQuiet
namespace Go.Proofs.YtngnfglnfkhheaaGreat.Df
open Go.RowKit Go.Sort
attribute [local go_sem ↓] Go.wp_at_zero Go.wp_at_succ

set_option maxRecDepth 100000 in
set_option maxHeartbeats 8000000 in
/-- The document's empty steps. -/
theorem kempty_any {M : Nat} {nv ev : Value} {a : Int} {xs : List NV} {es : List Edg} (w : World) (hG : GR M w nv ev xs es) (hM : M ≤ w.heap.size) (hOK : Gok (gof a xs es)) : Calls Tryz.prog 13 #[.agg (gvc a nv ev)] w (Cp EC 45 w (emR (gof a xs es))) := by
  obtain ⟨W0, hW0⟩ : ∃ W, W = w.alloc (.cells (gvc a nv ev) 25) := ⟨_, rfl⟩
  obtain ⟨gb, hgb⟩ : ∃ b, b = w.heap.size := ⟨_, rfl⟩
  have g0 : Gr w W0 := by rw [hW0]; exact (Gr.refl w).alloc _
  have HB : Hid (W0.heap[gb]? = some (.cells (gvc a nv ev) 25 (0, 0)) ∧ Below w.heap.size w W0) := ⟨by rw [hW0, hgb]; exact heap_new' _ _, g0.below⟩
  have HW : Hid (w.alloc (.cells #[.int .i64 a, nv, ev] 25) = W0 ∧ w.heap.size = gb) := ⟨hW0.symm, hgb.symm⟩
  have hst := ksteps_any (a := a) W0 (hG.below g0.below) (Nat.le_trans hM g0.below.size) hOK
  have hsl := stR_len hOK
  obtain ⟨ss, hss⟩ : ∃ l, l = stR (gof a xs es) := ⟨_, rfl⟩
  have HSS : Hid (emR (gof a xs es) = ss.filter isE) := by show _ = _; rw [hss]; rfl
  rw [← hss] at hst hsl
  obtain ⟨qn, cn, hnv⟩ := hG.nodes.form
  obtain ⟨qe, ce, hev⟩ := hG.edges.form
  subst hnv
  subst hev
  have c0 := (tk_store HB.out.1).1
  have l0 := tk_lt HB.out.1
  generalize xs.length = nl at *
  generalize es.length = el at *
  clear hG hM hW0 hgb g0 hOK hss
  go_enter Tryz.func13, Tryz.ntmps13
  go_upto_region 1 with fail
  rw [HW.out.1, HW.out.2]
  clear HW
  go_wp2_with fail
  refine hst.mono ?_
  clear hst c0 l0
  rintro r w1 ⟨d, rfl, hb1, hrow⟩
  obtain ⟨q, m, c, rfl⟩ := owns_form hrow
  obtain ⟨rfl, hcap⟩ := owns_caps hrow _ _ _ rfl
  have HL : Hid (Lz EC w1.heap.size w1 (.slice q ss.length c) ss) := owns_lz (E := EC) hrow
  have H1 : Hid (Below w.heap.size w w1) := HB.out.2.trans (hb1.mono HB.out.2.size)
  obtain ⟨sl, hsl2⟩ : ∃ n, n = ss.length := ⟨_, rfl⟩
  rw [← hsl2] at HL hsl ⊢
  have HSL := hid hsl2
  clear hb1 hrow hcap hsl2
  go_wp2_with fail
  go_loopw [3, 5] (fun s3 s5 wr => ∃ (k : Nat) (lv : Value), k ≤ sl ∧ s5 = .int .i64 (k : Nat) ∧ lv = s3 ∧ Hid (Below w1.heap.size w1 wr ∧ wr.ownsRow w1.heap.size 45 5 lv ((ss.take k).filter isE).length (fl EC ((ss.take k).filter isE)))) (fun _ s5 _ => sl - (RowKit.intOf s5).toNat)
  case atStart => exact ⟨0, _, Nat.zero_le _, rfl, rfl, Below.refl _ _, World.ownsRow_nil _ _ _ _⟩
  case round =>
    obtain ⟨k, lv, hk, rfl, rfl, HI⟩ := hrel
    by_cases hlk : k < sl
    · have hlkz : (k : Int) < (sl : Int) := by omega
      have hk0 : (0 : Int) ≤ (k : Int) := by omega
      obtain ⟨z, hz⟩ : ∃ z, ss[k]? = some z := ⟨ss[k]'(by have := HSL.out; omega), by simp⟩
      obtain ⟨b2, o2, q2, ev2, zz2, y0, y1, y2, y3, y4⟩ := ls_atC ((HL.out.below HI.out.1).ls hz) hz
      simp only [Value.slice.injEq] at ev2
      obtain ⟨rfl, -, rfl⟩ := ev2
      have HT : Hid ((ss.take (k + 1)).filter isE = (ss.take k).filter isE ++ if isE z = true then [z] else []) := by
        show _ = _
        rw [List.take_add_one, hz, List.filter_append]
        simp only [Option.toList_some, List.filter_cons, List.filter_nil]
      obtain ⟨ln, hln⟩ : ∃ l, l = (ss.take k).filter isE := ⟨_, rfl⟩
      rw [← hln] at HI HT
      have HLE : Hid (ln.length ≤ 500) := by
        show _ ≤ _
        rw [hln]
        exact Nat.le_trans (List.length_filter_le _ _) (by rw [List.length_take]; omega)
      have HBW := hid HI.out.1.size
      clear hz hln
      by_cases hE : z.via = (0, 0, 0)
      · obtain ⟨hE1, hE2, hE3⟩ : z.via.1 = 0 ∧ z.via.2.1 = 0 ∧ z.via.2.2 = 0 := by rw [hE]; exact ⟨rfl, rfl, rfl⟩
        have hie : isE z = true := decide_eq_true hE
        have HZ : Hid (z = ⟨z.inn, z.out, (0, 0, 0)⟩) := by
          show _ = _
          obtain ⟨zi, zo, zv⟩ := z
          dsimp only at hE
          rw [hE]
        have HIE := hid hie
        clear hE hie
        go_wp2_with (at_builtin; refine wpApp1 EC Tryz.underlying38 infoSt rfl (by decide) rfl _ _ rfl w1.heap.size _ ln.length _ rfl HI.out.2 ⟨z.inn, z.out, (0, 0, 0)⟩ (by first | rfl | simp) (by have := HLE.out; omega) (by have := HLE.out; unfold maxLen; omega) HBW.out _ (by first | rfl | (simp; rfl)) _ ?_; intro g9 c9 w9 r1 r2 r3)
        have FIN : Hid (Below w1.heap.size w1 w9 ∧ w9.ownsRow w1.heap.size 45 5 (.slice (some ⟨g9, 0, none⟩) (ln.length + 1) c9) ((ss.take (k + 1)).filter isE).length (fl EC ((ss.take (k + 1)).filter isE))) := by
          have k2 := Kp.grownBy (S := fun j => lv.ownBlock = some j) r2 (fun _ h => h)
          refine ⟨HI.out.1.trans (k2.below HI.out.1.size (fun j e => (owns_rd HI.out.2 j e).1)), ?_⟩
          rw [HT.out, if_pos HIE.out, HZ.out]
          exact owns_re r1 (by simp) (by rw [fl_append, fl_one])
        clear r1 r2 r3
        generalize ln.length + 1 = lm at FIN ⊢
        go_roundw
        case rel => exact ⟨k + 1, _, by omega, by go_num, rfl, FIN.out⟩
        case measure => simp [RowKit.intOf]; omega
      · have FIN : Hid (Below w1.heap.size w1 wr ∧ wr.ownsRow w1.heap.size 45 5 lv ((ss.take (k + 1)).filter isE).length (fl EC ((ss.take (k + 1)).filter isE))) := by
          rw [HT.out, if_neg (by simp [isE, hE]), List.append_nil]
          exact HI.out
        have hne : ¬ (z.via.1 = 0 ∧ z.via.2.1 = 0 ∧ z.via.2.2 = 0) := fun e => hE (Prod.ext e.1 (Prod.ext e.2.1 e.2.2))
        have hne3 : z.via.1 ≠ 0 ∨ (z.via.1 = 0 ∧ z.via.2.1 ≠ 0) ∨ (z.via.1 = 0 ∧ z.via.2.1 = 0 ∧ z.via.2.2 ≠ 0) := by omega
        clear hE hne HT HI
        rcases hne3 with h1 | ⟨h1, h2⟩ | ⟨h1, h2, h3⟩
        · go_wp2_with fail
          go_roundw
          case rel => exact ⟨k + 1, _, by omega, by go_num, rfl, FIN.out⟩
          case measure => simp [RowKit.intOf]; omega
        · go_wp2_with fail
          go_roundw
          case rel => exact ⟨k + 1, _, by omega, by go_num, rfl, FIN.out⟩
          case measure => simp [RowKit.intOf]; omega
        · go_wp2_with fail
          go_roundw
          case rel => exact ⟨k + 1, _, by omega, by go_num, rfl, FIN.out⟩
          case measure => simp [RowKit.intOf]; omega
    · have hlkz : ¬ (k : Int) < (sl : Int) := by omega
      have FIN : Hid (Cp EC 45 w (emR (gof a xs es)) (.returned lv) wr) := by
        have h := HI.out
        rw [List.take_of_length_le (by have := HSL.out; omega), ← HSS.out] at h
        exact ⟨lv, rfl, H1.out.trans (h.1.mono H1.out.size), owns_base h.2 H1.out.size⟩
      clear HI
      go_wp2_with fail
      go_ret
      exact FIN.out
end Go.Proofs.YtngnfglnfkhheaaGreat.Df
