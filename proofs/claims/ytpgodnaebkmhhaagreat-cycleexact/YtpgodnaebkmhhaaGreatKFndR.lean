import Derived.Test.YtpgodnaebkmhhaaGreatJ6
import Derived.Test.YtpgodnaebkmhhaaGreatJ7
import Derived.Test.YtpgodnaebkmhhaaGreatJ8
namespace Go.Proofs.YtpgodnaebkmhhaaGreat.Df
open Go.RowKit Go.Sort
attribute [local go_sem ↓] Go.wp_at_zero Go.wp_at_succ

theorem stL_up (g : Gph) : ∀ l ∈ stL g, l.Pairwise (· ≤ ·) := by
  intro l hl
  unfold stL at hl
  obtain ⟨k, _, rfl⟩ := List.mem_map.1 hl
  have h := List.pairwise_mergeSort (le := fun x y : Int => decide (x ≤ y)) (fun a b c h1 h2 => by simp at *; omega) (fun a b => by simp; omega) (fromS (stS g) k)
  exact h.imp fun {a b} hab => by simpa using hab
/-- A list in the making. -/
structure Mg (ls : List (List Int)) (p k y : Nat) (j y2 : Nat) (pre : List Nat) : Prop where
  at_ : At ls p j y2
  pth : ∀ l, Gwy ls p j y2 l → Gwy ls p k y (pre ++ l)
  len : pre.length + j = k
theorem Mg.step {ls : List (List Int)} {p k y j y2 y3 : Nat} {pre : List Nat} (h : Mg ls p k y (j + 1) y2 pre) (hl : Lst ls p j y2 y3) : Mg ls p k y j y3 (pre ++ [y2]) :=
  ⟨hl.at_, fun l hp => by
    have := h.pth (y2 :: l) ⟨y3, l, hl, hp, rfl⟩
    rw [List.append_assoc]
    exact this, by have := h.len; simp; omega⟩
set_option maxRecDepth 100000 in
set_option maxHeartbeats 16000000 in
/-- The document's Find. -/
theorem kfind_any {M : Nat} {nv ev : Value} {a : Int} {xs : List NV} {es : List Edg} (w : World) (hG : GR M w nv ev xs es) (hM : M ≤ w.heap.size) (hOK : Gok (gof a xs es)) : Calls Tryz.prog 18 #[.agg (gvc a nv ev)] w (Fn w (stL (gof a xs es))) := by
  obtain ⟨W0, hW0⟩ : ∃ W, W = w.alloc (.cells (gvc a nv ev) 25) := ⟨_, rfl⟩
  obtain ⟨gb, hgb⟩ : ∃ b, b = w.heap.size := ⟨_, rfl⟩
  have g0 : Gr w W0 := by rw [hW0]; exact (Gr.refl w).alloc _
  have HB : Hid (W0.heap[gb]? = some (.cells (gvc a nv ev) 25 (0, 0)) ∧ Below w.heap.size w W0) := ⟨by rw [hW0, hgb]; exact heap_new' _ _, g0.below⟩
  have HW : Hid (w.alloc (.cells #[.int .i64 a, nv, ev] 25) = W0 ∧ w.heap.size = gb) := ⟨hW0.symm, hgb.symm⟩
  have hst := kempty_any (a := a) W0 (hG.below g0.below) (Nat.le_trans hM g0.below.size) hOK
  have hpl : ∀ W, Below W0.heap.size W0 W → Calls Tryz.prog 33 #[.agg (gvc a nv ev)] W fun r w' => r = .returned (.int .i64 (plN (xs.map NV.n) : Nat)) ∧ Gr W w' := fun W hb => kplaces_any W (nr_of ((hG.below g0.below).below hb) (Nat.le_trans (Nat.le_trans hM g0.below.size) hb.size) hOK)
  have hsl : (emR (gof a xs es)).length ≤ 1000 := Nat.le_trans (List.length_filter_le _ _) (Nat.le_trans (stR_len hOK) (by decide))
  have hne : plN (xs.map NV.n) = (stL (gof a xs es)).length := by rw [stL_len]
  have hn9 : (stL (gof a xs es)).length ≤ 1000 := (stL_good hOK).1
  have HZ : Hid ((∀ l ∈ stL (gof a xs es), ∀ x ∈ l, (0 : Int) ≤ x) ∧ ∀ l ∈ stL (gof a xs es), l.Pairwise (· ≤ ·)) := ⟨fun l hl x hx => (((stL_good hOK).2 l hl).2 x hx).1, stL_up _⟩
  have HSS := hid (ss_of hOK)
  rw [hne] at hpl
  obtain ⟨ls, hls⟩ : ∃ l, l = stL (gof a xs es) := ⟨_, rfl⟩
  obtain ⟨S, hSe⟩ : ∃ S, S = emR (gof a xs es) := ⟨_, rfl⟩
  rw [← hls] at hpl hn9 HZ HSS ⊢
  rw [← hSe] at hst hsl HSS
  obtain ⟨qn, cn, hnv⟩ := hG.nodes.form
  obtain ⟨qe, ce, hev⟩ := hG.edges.form
  subst hnv
  subst hev
  have c0 := (tk_store HB.out.1).1
  have l0 := tk_lt HB.out.1
  generalize xs.length = nl at *
  generalize es.length = el at *
  clear hG hM hW0 hgb g0 hOK hls hSe hne
  go_enter Tryz.func18, Tryz.ntmps18
  go_upto_region 1 with fail
  rw [HW.out.1, HW.out.2]
  go_wp2_with fail
  refine hst.mono ?_
  clear hst c0 l0
  rintro r w1 ⟨d, rfl, hb1, hrow⟩
  obtain ⟨q, m, c, rfl⟩ := owns_form hrow
  obtain ⟨rfl, hcap⟩ := owns_caps hrow _ _ _ rfl
  have HL : Hid (Lz EC w1.heap.size w1 (.slice q S.length c) S) := owns_lz (E := EC) hrow
  have hb' := (hb1.block _ (tk_lt HB.out.1)).trans HB.out.1
  have c1 := (tk_store hb').1
  have l1 := tk_lt hb'
  have HB1 := hid hb1
  have hp1 := hpl w1 hb1
  clear hrow hb1 hb' hpl
  go_wp2_with fail
  refine hp1.mono ?_
  clear hp1 c1 l1
  rintro r w2 ⟨rfl, g2⟩
  have HB2 := hid (HB.out.2.trans ((HB1.out.trans (g2.below.mono HB1.out.size)).mono HB.out.2.size))
  have HL2 := hid (HL.out.below g2.below)
  clear g2 HL HB1
  obtain ⟨n, hnn⟩ : ∃ n, n = ls.length := ⟨_, rfl⟩
  rw [← hnn]
  have HN := hid hnn
  rw [← hnn] at hn9
  clear hnn
  go_wp2_with fail
  go_loopw [5, 6, 7, 8, 9, 10] (fun s5 _ _ _ _ _ wr => ∃ (p : Nat), s5 = .int .i64 (p : Nat) ∧ p ≤ n ∧ Hid ((∀ q', q' < p → ∀ k, ¬ ∃ y, Sp ls q' y ∧ At ls q' k y) ∧ Below w2.heap.size w2 wr)) (fun s5 _ _ _ _ _ _ => n - (RowKit.intOf s5).toNat)
  case atStart => exact ⟨0, rfl, Nat.zero_le _, fun q' h => absurd h (Nat.not_lt_zero _), Below.refl _ _⟩
  case round =>
    obtain ⟨p, rfl, hp, HI⟩ := hrel
    by_cases hlt : p < n
    · have hltz : (p : Int) < (n : Int) := by omega
      have hfar := kfar_any (ls := ls) (S := S) p wr (HL2.out.below HI.out.2) HSS.out (by rw [← HN.out]; exact hlt) (by rw [← HN.out]; exact hn9) hsl
      rw [← HN.out] at hfar
      go_wp2_with fail
      refine hfar.mono ?_
      clear hfar
      rintro e w3 ⟨g, f, rfl, hwt, hdv⟩
      have HB3 := hid (HI.out.2.trans (hwt.bl.mono HI.out.2.size))
      have HD3 : Hid (Lz EI w3.heap.size w3 (.slice (some ⟨g, 0, none⟩) n n) (fnL n f)) := owns_lz (E := EI) (by rw [fnL_len]; exact hwt.row)
      have HDV := hid hdv
      have HNO := hid HI.out.1
      clear hwt hdv HI
      have hle : Hid (∀ (W : World) (pp kk : Nat), Below w3.heap.size w3 W → Calls Tryz.prog 37 #[.slice q S.length c, .slice (some ⟨g, 0, none⟩) n n, .int .i64 (pp : Nat), .int .i64 (kk : Nat)] W fun e w' => ∃ v, e = .returned (.int .i64 v) ∧ Lv ls p kk pp v ∧ w' = W) := fun W pp kk hb => by
        have h := kleast_any (g := g) (f := f) (ls := ls) (S := S) p pp kk W ((HL2.out.below HB3.out).below hb) HSS.out (by rw [← HN.out]; exact HD3.out.below hb) (by have h := HDV.out; rw [HN.out] at h; exact h) (by rw [← HN.out]; exact hn9) hsl
        rw [← HN.out] at h
        exact h
      go_wp2_with fail
      go_loopw [7, 8, 9, 10] (fun s7 _ _ _ wr => ∃ (k : Nat), s7 = .int .i64 (k : Nat) ∧ k ≤ n ∧ Hid (∀ j, j < k → ¬ ∃ y, Sp ls p y ∧ At ls p j y) ∧ wr = w3) (fun s7 _ _ _ _ => n - (RowKit.intOf s7).toNat)
      case atStart => exact ⟨0, rfl, Nat.zero_le _, fun j h => absurd h (Nat.not_lt_zero _), rfl⟩
      case round =>
        obtain ⟨k, rfl, hk, HK, hwr⟩ := hrel
        rw [hwr]
        clear hwr
        by_cases hkl : k < n
        · have hkz : (k : Int) < (n : Int) := by omega
          have hl := hle.out w3 p k (Below.refl _ _)
          go_wp2_with fail
          refine hl.mono ?_
          clear hl
          rintro e w4 ⟨v, rfl, hv, hw4⟩
          rw [hw4]
          clear hw4
          rcases hv with ⟨rfl, hno⟩ | ⟨y, rfl, hy⟩
          · have FIN : Hid (∀ j, j < k + 1 → ¬ ∃ y, Sp ls p y ∧ At ls p j y) := fun j hj => by
              by_cases e : j = k
              · exact e ▸ hno
              · exact HK.out j (by omega)
            clear hno
            go_wp2_with fail
            go_roundw
            case rel => exact ⟨k + 1, by go_num, by omega, FIN.out, by first | rfl | trivial⟩
            case measure => simp [RowKit.intOf]; omega
          · have hy0 : ¬ (y : Int) < 0 := by omega
            have HY := hid hy
            have HM0 : Hid (Mg ls p k y k y []) := ⟨hy.at_, fun l hp => hp, by simp⟩
            have hgz : w.heap.size ≤ w3.heap.size := Nat.le_trans HB2.out.size HB3.out.size
            have R5 : Hid ((w3.alloc (.cells #[.int .i64 (p : Nat)] 3)).ownsRow w3.heap.size 3 1 (.slice (some ⟨w3.heap.size, 0, none⟩) 1 1) 1 (fl EI (ints [p]))) := ⟨rfl, Or.inr ⟨w3.heap.size, 1, _, rfl, Nat.le_refl _, heap_new' _ _, Nat.le_refl _, by unfold maxLen; omega, rfl, rfl⟩⟩
            have B5 := hid ((Gr.refl w3).alloc (.cells #[.int .i64 (p : Nat)] 3)).below
            clear hy
            go_wp2_with fail
            generalize (w3.alloc (.cells #[.int .i64 (p : Nat)] 3)) = w5 at *
            go_loopw [8, 9, 10] (fun s8 s9 s10 wr => ∃ (j y2 : Nat) (pre : List Nat) (vl : Value), s10 = .int .i64 (j : Nat) ∧ s8 = .int .i64 (y2 : Nat) ∧ s9 = vl ∧ j ≤ k ∧ Hid (Mg ls p k y j y2 pre ∧ wr.ownsRow w3.heap.size 3 1 vl (pre.length + 1) (fl EI (ints (p :: pre))) ∧ Below w3.heap.size w3 wr)) (fun _ _ s10 _ => (RowKit.intOf s10).toNat)
            case atStart => exact ⟨k, y, [], _, rfl, rfl, rfl, Nat.le_refl _, HM0.out, R5.out, B5.out⟩
            case round =>
              clear HM0 R5 B5
              obtain ⟨j, y2, pre, vl, rfl, rfl, rfl, hj, HI⟩ := hrel
              obtain ⟨pl, ml, cl, hvl⟩ := owns_form HI.out.2.1
              obtain ⟨hml, _⟩ := owns_caps HI.out.2.1 _ _ _ hvl
              subst hvl
              subst hml
              have hws := HI.out.2.2.size
              have hln := HI.out.1.len
              by_cases hj0 : 0 < j
              · obtain ⟨j', hjj⟩ : ∃ j', j = j' + 1 := ⟨j - 1, by omega⟩
                subst hjj
                have hjz : (0 : Int) < ((j' + 1 : Nat) : Int) := by omega
                have hwj : IntKind.i64.wrap (((j' + 1 : Nat) : Int) - 1) = (j' : Int) := by rw [IntKind.wrap_i64]; omega
                go_wp2_with (at_builtin; refine wpApp1 EI Tryz.underlying33 infoIK rfl (by decide) rfl _ _ rfl w3.heap.size (.slice pl (pre.length + 1) cl) (pre.length + 1) _ rfl HI.out.2.1 (y2 : Int) (by first | rfl | simp) (by omega) (by unfold maxLen; omega) hws _ rfl _ ?_; intro g' cap' w' hown' hg' hgb; go_frame)
                have HB9 := hid (HI.out.2.2.grown hg' hws (fun j hj => (HI.out.2.1.lt j hj).1))
                have HO9 : Hid (w'.ownsRow w3.heap.size 3 1 (.slice (some ⟨g', 0, none⟩) (pre.length + 1 + 1) cap') ((pre ++ [y2]).length + 1) (fl EI (ints (p :: (pre ++ [y2]))))) := by
                  show World.ownsRow _ _ _ _ _ _ _
                  rw [show ints (p :: (pre ++ [y2])) = ints (p :: pre) ++ [(y2 : Int)] by simp, fl_append, List.length_append, List.length_singleton]
                  exact hown'
                have hl2 := hle.out w' y2 j' HB9.out
                clear hown' hg' hgb
                refine hl2.mono ?_
                clear hl2
                rintro e w6 ⟨v, rfl, hv, hw6⟩
                rw [hw6]
                clear hw6
                rcases hv with ⟨rfl, hno⟩ | ⟨y3, rfl, hy3⟩
                · exact absurd ((at_succ.1 HI.out.1.at_).2.2) hno
                · have HM9 := hid (HI.out.1.step hy3)
                  clear hy3
                  go_wp2_with fail
                  go_roundw
                  case rel => exact ⟨j', y3, pre ++ [y2], _, by go_num, rfl, rfl, by omega, HM9.out, HO9.out, HB9.out⟩
                  case measure => simp [RowKit.intOf]
              · have hj1 : j = 0 := by omega
                subst hj1
                have hjz : ¬ (0 : Int) < ((0 : Nat) : Int) := by omega
                have FIN : Hid (findN ls ls.length = some (p :: pre)) := find_eq HZ.out.1 HZ.out.2 (by rw [← HN.out]; exact hlt) HNO.out ⟨k, y, pre, by rw [← HN.out]; exact hkl, HK.out, HY.out, by have := HI.out.1.pth [] rfl; simpa using this, rfl⟩
                go_wp2_with fail
                go_ret
                refine ⟨_, rfl, HB2.out.trans ((HB3.out.trans (HI.out.2.2.mono HB3.out.size)).mono HB2.out.size), ?_⟩
                rw [FIN.out]
                exact owns_base HI.out.2.1 hgz
        · have hkz : ¬ (k : Int) < (n : Int) := by omega
          have FIN : Hid ((∀ q', q' < p + 1 → ∀ k, ¬ ∃ y, Sp ls q' y ∧ At ls q' k y) ∧ Below w2.heap.size w2 w3) := ⟨fun q' hq' k' => by
            by_cases e : q' = p
            · subst e
              rintro ⟨y, hs, ha⟩
              have := ha.few (by rw [← HN.out]; exact hlt)
              have h2 := HN.out
              exact HK.out k' (by omega) ⟨y, hs, ha⟩
            · exact HNO.out q' (by omega) k', HB3.out⟩
          go_wp2_with fail
          go_roundw
          case rel => exact ⟨p + 1, by go_num, by omega, FIN.out⟩
          case measure => simp [RowKit.intOf]; omega
    · have hltz : ¬ (p : Int) < (n : Int) := by omega
      have e : p = n := by omega
      subst e
      have FIN : Hid (findN ls ls.length = none) := find_none HZ.out.1 HZ.out.2 (by rw [← HN.out]; exact HI.out.1)
      go_wp2_with fail
      go_ret
      refine ⟨_, rfl, HB2.out.trans (HI.out.2.mono HB2.out.size), ?_⟩
      rw [FIN.out]
      exact World.ownsRow_nil _ _ _ _
end Go.Proofs.YtpgodnaebkmhhaaGreat.Df
