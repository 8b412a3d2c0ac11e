import Derived.Test.YtpgodnaebkmhhaaGreatKAl0
namespace Go.Proofs.YtpgodnaebkmhhaaGreat.Df
open Go.RowKit Go.Sort
attribute [local go_sem ↓] Go.wp_at_zero Go.wp_at_succ

set_option maxHeartbeats 8000000 in
set_option maxRecDepth 100000 in
theorem alone_any (V : Nat → Value) (C : Nat → List Int) (w : World) (hF : Fam EI 3 w 3 V C) (hsm : ∀ i, i < 3 → (C i).length ≤ 1000) :
    Calls Tryz.prog 20 #[V 0, V 1, V 2] w fun e w' => e = .returned (.bool true) ∧ Kp (SqI 3 V) w w' := by
  obtain ⟨p0, c0, e0⟩ := (owns_ls (hF.own 0 (by decide))).form
  obtain ⟨p1, c1, e1⟩ := (owns_ls (hF.own 1 (by decide))).form
  obtain ⟨p2, c2, e2⟩ := (owns_ls (hF.own 2 (by decide))).form
  obtain ⟨gT, hgT⟩ : ∃ g, g = w.heap.size := ⟨_, rfl⟩
  obtain ⟨W0, hW0⟩ : ∃ W, W = w.alloc (.cells #[V 0, V 1, V 2] 33) := ⟨_, rfl⟩
  have hb0 : Below w.heap.size w W0 := by rw [hW0]; exact ((Gr.refl w).alloc _).below
  have FM : Hid (Fam EI 3 W0 3 V C) := hF.below hb0
  have KW : Hid (Kp (SqI 3 V) w W0) := (Kp.of_below hb0)
  have hcell : ∀ i, i < 3 → W0.cell? ⟨gT, i, none⟩ = some (V i) := fun i hi => by
    have h1 : W0.heap[gT]? = some (.cells #[V 0, V 1, V 2] 33 (0, 0)) := by rw [hW0, hgT]; exact heap_new' _ _
    match i, hi with
    | 0, _ => exact (tk_store h1).1 0
    | 1, _ => exact (tk_store h1).1 1
    | 2, _ => exact (tk_store h1).1 2
  have hgl : gT < W0.heap.size := by rw [hW0, hgT]; simp
  have KA : Hid (∀ W, Kp (SqI 3 V) W0 W → ∀ i, i < 3 → gT < W.heap.size ∧ W.cell? ⟨gT, i, none⟩ = some (V i)) := fun W hk i hi =>
    ⟨Nat.lt_of_lt_of_le hgl hk.size, (hk.cell hgl (fun ⟨j, hj, e⟩ => by have := (hF.lt hj gT e); omega)).trans (hcell i hi)⟩
  have HSM := hid hsm
  have HW : Hid (w.alloc (.cells #[.slice p0 (C 0).length c0, .slice p1 (C 1).length c1, .slice p2 (C 2).length c2] 33) = W0 ∧ w.heap.size = gT) := ⟨by rw [hW0, e0, e1, e2], hgT.symm⟩
  obtain ⟨iT, hiT, hT0, hT1, hT2⟩ := info_parts infoLI
  have IT := hid (show Tryz.prog.info? 33 = some iT ∧ iT.zero = some (.slice none 0 0) ∧ iT.size = 1 ∧ iT.bytes = 24 from ⟨hiT, hT0, hT1, hT2⟩)
  rw [e0, e1, e2]
  clear hF hsm hiT hT0 hT1 hT2 hgT hW0 hb0 hcell hgl e0 e1 e2
  go_enter Tryz.func20, Tryz.ntmps20
  go_upto_region 2 with fail
  rw [HW.out.1, HW.out.2]
  clear HW
  go_wp2_with fail
  go_loopw [8, 9] (fun s _ wr => ∃ i : Nat, i ≤ 3 ∧ s = .int .i64 i ∧ Hid (Fam EI 3 wr 3 V (stage mkI C i 0) ∧ Kp (SqI 3 V) W0 wr)) (fun s _ _ => 3 - (RowKit.intOf s).toNat)
  case atStart => exact ⟨0, Nat.zero_le _, rfl, by rw [stage_zero]; exact FM.out, Kp.refl _ _⟩
  case round =>
    obtain ⟨i, hi, rfl, HI⟩ := hrel
    by_cases hlt : i < 3
    · have hltz : (i : Int) < 3 := by omega
      have hi0 : (0 : Int) ≤ (i : Int) := by omega
      obtain ⟨pk, ck, ek⟩ := (owns_ls (FM.out.own i hlt)).form
      have HE : Hid (V i = .slice pk (C i).length ck) := ek
      have hsl := HSM.out i hlt
      clear ek
      have hcv : IntKind.i64.wrap (-10 - (i : Int)) = mkI i := by rw [IntKind.wrap_i64]; unfold mkI; omega
      go_wp2_with fail
      go_loopw [9] (fun s wr => ∃ j : Nat, j ≤ (C i).length ∧ s = .int .i64 j ∧ Hid (Fam EI 3 wr 3 V (stage mkI C i j) ∧ Kp (SqI 3 V) W0 wr)) (fun s _ => (C i).length - (RowKit.intOf s).toNat)
      case atStart => exact ⟨0, Nat.zero_le _, rfl, HI.out⟩
      case round =>
        clear HI
        obtain ⟨j, hj, rfl, HI⟩ := hrel
        obtain ⟨gl1, c1⟩ := KA.out wr HI.out.2 i hlt
        rw [HE.out] at c1
        by_cases hjl : j < (C i).length
        · have hjz : (j : Int) < ((C i).length : Int) := by omega
          have hj0 : (0 : Int) ≤ (j : Int) := by omega
          have hlen := stage_len mkI C i j i hj
          have hown : wr.ownsRow 0 3 1 (.slice pk (C i).length ck) (C i).length (fl EI (stage mkI C i j i)) := by
            have := HI.out.1.own i hlt
            rw [hlen, HE.out] at this
            exact this
          obtain ⟨g, cap, hV, -, -⟩ := owns_form0 hown (by omega)
          simp only [Value.slice.injEq] at hV
          obtain ⟨rfl, -, rfl⟩ := hV
          have gl2 : g < wr.heap.size := (hown.lt g rfl).2
          obtain ⟨y, hy⟩ : ∃ y, (stage mkI C i j i)[j]? = some y := ⟨(stage mkI C i j i)[j]'(by omega), by simp⟩
          have q1 : wr.cell? ⟨g, j, none⟩ = some (.int .i64 y) := by
            have := hown.cells (g := g) rfl j (.int .i64 y) (by rw [fl_I, List.getElem?_map, hy]; rfl)
            rw [addA, Nat.zero_add] at this
            exact this
          have f1 := owns_frozen0 hown j
          have HS := hid (fam_markI HI.out.1 hlt HE.out rfl hjl)
          have HK : Hid (Kp (SqI 3 V) W0 _) := HI.out.2.trans HS.out.2 (fun q _ h => ⟨i, hlt, h⟩)
          clear hown hy hlen
          go_wp2_with fail
          go_roundw
          case rel => exact ⟨j + 1, by omega, by go_num, HS.out.1, HK.out⟩
          case measure => simp [RowKit.intOf]; omega
        · have hjz : ¬ (j : Int) < ((C i).length : Int) := by omega
          have hje : j = (C i).length := by omega
          have HI2 : Hid (Fam EI 3 wr 3 V (stage mkI C (i + 1) 0) ∧ Kp (SqI 3 V) W0 wr) := by
            have := HI.out
            rw [hje, stage_next] at this
            exact this
          clear hje
          go_wp2_with fail
          go_roundw
          case rel => exact ⟨i + 1, by omega, by go_num, HI2.out⟩
          case measure => simp [RowKit.intOf]; omega
    · have hltz : ¬ (i : Int) < 3 := by omega
      have hie : i = 3 := by omega
      have FE : Hid (Fam EI 3 wr 3 V (stage mkI C 3 0)) := by have := HI.out.1; rw [hie] at this; exact this
      have KE : Hid (Kp (SqI 3 V) W0 wr) := HI.out.2
      have FAR : Hid (∀ i j, i < 3 → j < 3 → i ≠ j → ∀ g, (V i).ownBlock = some g → (V j).ownBlock ≠ some g) := FE.out.far
      have LOW : Hid (∀ i, i < 3 → ∀ g, (V i).ownBlock = some g → g < wr.heap.size) := fun i hi g hg => FE.out.lt hi g hg
      have G2 : Hid (Grw EI 3 33 mkI 2 wr 3 V (fun i => (C i).length) wr 0 V (.slice none 0 0)) := ⟨fun i hi => by omega, fun i hi => by omega, fun i _ hi => by
        have := FE.out.own i hi
        rw [stage_full mkI C 3 i hi, List.length_replicate] at this
        exact this, fun i hi => by omega, World.ownsRow_nil _ _ _ _, fun g hg => by simp [Value.ownBlock] at hg, Kp.refl _ _⟩
      clear hie HI FM FE hlt hi
      go_upto_region 10 with fail
      generalize wr = w3 at *
      clear hltz
      go_wp2_with fail
      go_loopw [10, 11] (fun s5 s6 wr => ∃ (k : Nat) (X : Nat → Value), k ≤ 3 ∧ s6 = .int .i64 k ∧ Hid (Grw EI 3 33 mkI 2 w3 3 V (fun i => (C i).length) wr k X s5)) (fun _ s6 _ => 3 - (RowKit.intOf s6).toNat)
      case atStart => exact ⟨0, V, Nat.zero_le _, rfl, G2.out⟩
      case round =>
        clear G2
        obtain ⟨k, X, hk, rfl, HG⟩ := hrel
        obtain ⟨pu, mu, cu, hu10⟩ := owns_form HG.out.more
        obtain ⟨hmu, _⟩ := owns_caps HG.out.more _ _ _ hu10
        subst hu10
        subst hmu
        have hbk := KA.out wr (KE.out.trans HG.out.kp (fun q _ h => h))
        by_cases hlt : mu < 3
        · have hltz : (mu : Int) < 3 := by omega
          have hk0 : (0 : Int) ≤ (mu : Int) := by omega
          obtain ⟨gl1, c1⟩ := hbk mu hlt
          have hsl := HSM.out mu hlt
          have hOk := HG.out.rest mu (Nat.le_refl _) hlt
          obtain ⟨pk, ck, ek⟩ := (owns_ls (E := EI) (ts := List.replicate (C mu).length (mkI mu)) (by rw [List.length_replicate]; exact hOk)).form
          rw [List.length_replicate] at ek
          have HOR : Hid (wr.ownsRow 0 3 1 (.slice pk (C mu).length ck) (C mu).length (fl EI (List.replicate (C mu).length (mkI mu)))) := by rw [← ek]; exact hOk
          have HEK : Hid (V mu = .slice pk (C mu).length ck) := ek
          rw [ek] at c1
          have hsw := HG.out.kp.size
          clear hOk ek hbk
          have hcv : IntKind.i64.wrap (-10 - (mu : Int)) = mkI mu := by rw [IntKind.wrap_i64]; unfold mkI; omega
          generalize hcl : (C mu).length = cl at *
          have HCL := hid hcl
          clear hcl
          go_wp2_with (at_builtin; refine wpAppKeep2 EI Tryz.underlying33 infoIK rfl (by decide) rfl _ _ rfl (.slice pk cl ck) cl (List.replicate cl (mkI mu)) rfl HOR.out [mkI mu, mkI mu] 2 rfl (by decide) rfl (by omega) (by unfold maxLen; omega) _ (by first | rfl | (simp [EI, fl]; done)) _ ?_)
          intro gx cx W1 ho1 hk1 hl1 hold
          have HN := hid (inn_two ho1 hk1 hl1 hold)
          clear ho1 hk1 hl1 hold
          obtain ⟨hx1, hv1⟩ := HN.out.ls HOR.out
          have HX1 : Hid (Ls EI W1 (.slice (some ⟨gx, 0, none⟩) (cl + 2) cx) (List.replicate ((fun i => (C i).length) mu + 2) (mkI mu))) := by show Ls EI W1 _ (List.replicate ((C mu).length + 2) (mkI mu)); rw [HCL.out]; exact hx1
          have HOLD : Hid (Ls EI W1 (V mu) (List.replicate ((fun i => (C i).length) mu) (mkI mu))) := by show Ls EI W1 _ (List.replicate (C mu).length (mkI mu)); rw [HCL.out, HEK.out]; exact hv1
          have HK1 : Hid (Kp (fun q => (V mu).ownBlock = some q) wr W1) := by unfold Hid; rw [HEK.out]; exact HN.out.kp
          have HL1 : Hid (∀ q, (Value.slice (some ⟨gx, 0, none⟩) (cl + 2) cx).ownBlock = some q → (V mu).ownBlock = some q ∨ wr.heap.size ≤ q) := fun q hq => by rw [HEK.out]; exact HN.out.lie q hq
          have HM1 : Hid (W1.ownsRow w3.heap.size 33 1 (.slice pu mu cu) mu ((List.range mu).map X)) := owns_kp HK1.out HG.out.more (fun q hq e => by
            have h1 := (HG.out.more.lt q hq).1
            have h2 := LOW.out mu hlt q e
            omega)
          have hz1 := HK1.out.size
          clear hx1 hv1 HN
          go_wp2_with (at_builtin; refine wpList_append_lies _ rfl _ _ 67 rfl w3.heap.size 33 iT (.slice none 0 0) 1 24 Tryz.underlying67 IT.out.1 IT.out.2.1 IT.out.2.2.1 IT.out.2.2.2 rfl (by decide) (.slice pu mu cu) mu _ rfl (World.ownsRow.alloc HM1.out _) ⟨W1.heap.size, 0, none⟩ 1 1 [.slice (some ⟨gx, 0, none⟩) (cl + 2) cx] rfl rfl (World.news_of_block (heap_new' _ _)) (fun u hu => by simp at hu; subst hu; rfl) (by decide) (by unfold maxLen; omega) (by omega) (by simp; omega) _ rfl ?_)
          intro g7 c7 W3 ho3 hg3 hl3 _
          have HSS := hid (HG.out.step hlt FAR.out LOW.out HX1.out HL1.out HOLD.out HK1.out ho3 ((Kp.of_below ((Gr.refl W1).alloc _).below).trans (Kp.grownBy (S := fun q => (Value.slice pu mu cu).ownBlock = some q) hg3 (fun _ h => h)) (fun _ _ h => h)) (fun q hq => by
            have : q = g7 := by simpa [Value.ownBlock] using hq.symm
            rw [this]
            exact hl3.imp id (fun e => by rw [e]; simp)))
          clear ho3 hg3 hl3
          go_wp2_with fail
          go_roundw
          case rel => exact ⟨mu + 1, _, by omega, by go_num, HSS.out⟩
          case measure => simp [RowKit.intOf]; omega
        · have hltz : ¬ (mu : Int) < 3 := by omega
          have hke : mu = 3 := by omega
          subst hke
          have HXT : Hid (∀ i, i < 3 → Ls EI wr (X i) (List.replicate ((C i).length + 2) (mkI i))) := HG.out.big
          have HVT : Hid (∀ i, i < 3 → Ls EI wr (V i) (List.replicate (C i).length (mkI i))) := HG.out.old
          obtain ⟨pL, gL, cL, hu5, flt⟩ := row_formI (owns_base HG.out.more (Nat.zero_le _))
          simp only [Value.slice.injEq] at hu5
          obtain ⟨rfl, -, rfl⟩ := hu5
          have FL := hid flt
          have KV := hid (KE.out.trans HG.out.kp (fun q _ h => h))
          have BV := hid (KA.out wr KV.out)
          clear HG hbk flt KA
          go_upto_region 14 with fail
          generalize wr = wv at *
          clear hltz
          go_wp2_with fail
          go_loopw [12, 13] (fun s9 _ wr => ∃ i : Nat, i ≤ 3 ∧ s9 = .int .i64 i ∧ wr = wv) (fun s9 _ _ => 3 - (RowKit.intOf s9).toNat)
          case atStart => exact ⟨0, Nat.zero_le _, rfl, rfl⟩
          case round =>
            obtain ⟨i, hi, rfl, rfl⟩ := hrel
            by_cases hlt2 : i < 3
            · have hltz : (i : Int) < 3 := by omega
              have hi0 : (0 : Int) ≤ (i : Int) := by omega
              obtain ⟨el, gll, cl1, -⟩ := FL.out i hlt2
              obtain ⟨gl1, c1⟩ := BV.out i hlt2
              subst el
              have hsl := HSM.out i hlt2
              obtain ⟨px, cx, ex⟩ := (HXT.out i hlt2).form
              obtain ⟨pv, cv, ev⟩ := (HVT.out i hlt2).form
              rw [List.length_replicate] at ex ev
              have HLX : Hid (Ls EI wr (.slice px ((C i).length + 2) cx) (List.replicate ((C i).length + 2) (mkI i))) := by rw [← ex]; exact HXT.out i hlt2
              have HLV : Hid (Ls EI wr (.slice pv (C i).length cv) (List.replicate (C i).length (mkI i))) := by rw [← ev]; exact HVT.out i hlt2
              rw [ex] at cl1
              rw [ev] at c1
              have hcv : IntKind.i64.wrap (-10 - (i : Int)) = mkI i := by rw [IntKind.wrap_i64]; unfold mkI; omega
              clear ex ev
              generalize (C i).length = cl at *
              go_wp2_with fail
              go_loopw [13] (fun s10 W => ∃ j : Nat, j ≤ cl + 2 ∧ s10 = .int .i64 j ∧ W = wr) (fun s10 _ => cl + 2 - (RowKit.intOf s10).toNat)
              case atStart => exact ⟨0, Nat.zero_le _, rfl, rfl⟩
              case round =>
                obtain ⟨j, hj, rfl, rfl⟩ := hrel
                by_cases hjl : j < cl + 2
                · have hjz : (j : Int) < (cl : Int) + 2 := by omega
                  have hjz2 : (j : Int) < ((cl + 2 : Nat) : Int) := by omega
                  have hj0 : (0 : Int) ≤ (j : Int) := by omega
                  obtain ⟨b1, o1, c1', e1', z1, x1⟩ := ls_atI HLX.out (j := j) (x := mkI i) (by simp [hjl])
                  rw [List.length_replicate] at e1'
                  simp only [Value.slice.injEq] at e1'
                  obtain ⟨rfl, -, rfl⟩ := e1'
                  by_cases hjn : j < cl
                  · have hjnz : (j : Int) < (cl : Int) := by omega
                    obtain ⟨b2, o2, c2', e2', z2, y1⟩ := ls_atI HLV.out (j := j) (x := mkI i) (by simp [hjn])
                    rw [List.length_replicate] at e2'
                    simp only [Value.slice.injEq] at e2'
                    obtain ⟨rfl, -, rfl⟩ := e2'
                    go_wp2_with fail
                    go_roundw
                    case rel => exact ⟨j + 1, by omega, by go_num, by first | rfl | trivial⟩
                    case measure => simp [RowKit.intOf]; omega
                  · have hjnz : ¬ (j : Int) < (cl : Int) := by omega
                    go_wp2_with fail
                    go_roundw
                    case rel => exact ⟨j + 1, by omega, by go_num, by first | rfl | trivial⟩
                    case measure => simp [RowKit.intOf]; omega
                · have hjz : ¬ (j : Int) < (cl : Int) + 2 := by omega
                  have hjz2 : ¬ (j : Int) < ((cl + 2 : Nat) : Int) := by omega
                  go_wp2_with fail
                  go_roundw
                  case rel => exact ⟨i + 1, by omega, by go_num⟩
                  case measure => simp [RowKit.intOf]; omega
            · have hltz : ¬ (i : Int) < 3 := by omega
              go_wp2_with fail
              go_ret
              exact ⟨rfl, KW.out.trans KV.out (fun _ _ h => h)⟩
end Go.Proofs.YtpgodnaebkmhhaaGreat.Df
