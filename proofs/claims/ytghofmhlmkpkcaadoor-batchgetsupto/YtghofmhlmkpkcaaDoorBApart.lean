import Derived.Test.YtghofmhlmkpkcaaDoorVApart0
namespace Go.Proofs.YtghofmhlmkpkcaaDoor.Wi
open Go.RowKit Go.Sort
attribute [local go_sem ↓] Go.wp_at_zero Go.wp_at_succ

set_option maxHeartbeats 8000000 in
set_option maxRecDepth 100000 in
theorem apart_any (n : Nat) (s : Value) (V : Nat → Value) (C : Nat → List UInt8) (w : World) (hrow : w.ownsRow 0 22 1 s n ((List.range n).map V)) (hF : Fam EB 5 w n V C) (hs : ∀ q, SqF n V q → s.ownBlock ≠ some q) (hn : n * 24 ≤ 140737488355328) (hsm : ∀ i, i < n → (C i).length + 70 ≤ 140737488355328) :
    Calls Tryd.prog 16 #[s] w fun e w' => e = .returned (.bool true) ∧ Kp (SqF n V) w w' := by
  have hmx : Tryd.prog.follows .mixedOrders = true := by kernel_rfl
  obtain ⟨pT, gT, cT, rfl, hfT⟩ := row_form hrow
  have KA : Hid (∀ W, Kp (SqF n V) w W → ∀ i, i < n → pT = some ⟨gT, 0, none⟩ ∧ gT < W.heap.size ∧ W.cell? ⟨gT, i, none⟩ = some (V i)) := fun W hk i hi => by
    obtain ⟨h1, h2, h3, h4⟩ := hfT i hi
    exact ⟨h1, Nat.lt_of_lt_of_le h2 hk.size, (hk.cell h2 (fun e => hs gT e h4)).trans h3⟩
  have FM : Hid (Fam EB 5 w n V C) := hF
  have HSM := hid hsm
  obtain ⟨iT, hiT, hT0, hT1, hT2⟩ := info_parts infoL
  have IT := hid (show Tryd.prog.info? 22 = some iT ∧ iT.zero = some (.slice none 0 0) ∧ iT.size = 1 ∧ iT.bytes = 24 from ⟨hiT, hT0, hT1, hT2⟩)
  clear hrow hF hs hfT hsm hiT hT0 hT1 hT2
  go_enter Tryd.func16, Tryd.ntmps16
  go_wp2_with fail
  go_loopw [3, 4] (fun s _ wr => ∃ i : Nat, i ≤ n ∧ s = .int .i64 i ∧ Hid (Fam EB 5 wr n V (stage mkB C i 0) ∧ Kp (SqF n V) w wr)) (fun s _ _ => n - (RowKit.intOf s).toNat)
  case atStart => exact ⟨0, Nat.zero_le _, rfl, by rw [stage_zero]; exact FM.out, Kp.refl _ _⟩
  case round =>
    obtain ⟨i, hi, rfl, HI⟩ := hrel
    by_cases hlt : i < n
    · have hltz : (i : Int) < (n : Int) := by omega
      obtain ⟨pk, ck, ek⟩ := (owns_ls (FM.out.own i hlt)).form
      have HE : Hid (V i = .slice pk (C i).length ck) := ek
      have hsl := HSM.out i hlt
      clear ek
      go_wp2_with fail
      go_loopw [4] (fun s wr => ∃ j : Nat, j ≤ (C i).length ∧ s = .int .i64 j ∧ Hid (Fam EB 5 wr n V (stage mkB C i j) ∧ Kp (SqF n V) w wr)) (fun s _ => (C i).length - (RowKit.intOf s).toNat)
      case atStart => exact ⟨0, Nat.zero_le _, rfl, HI.out⟩
      case round =>
        clear HI
        obtain ⟨j, hj, rfl, HI⟩ := hrel
        obtain ⟨e1, gl1, c1⟩ := KA.out wr HI.out.2 i hlt
        subst e1
        rw [HE.out] at c1
        by_cases hjl : j < (C i).length
        · have hjz : (j : Int) < ((C i).length : Int) := by omega
          have hlen := stage_len mkB C i j i hj
          have hown : wr.ownsRow 0 5 1 (.slice pk (C i).length ck) (C i).length (fl EB (stage mkB C i j i)) := by
            have := HI.out.1.own i hlt
            rw [hlen, HE.out] at this
            exact this
          obtain ⟨g, cap, hV, -, -⟩ := owns_form0 hown (by omega)
          simp only [Value.slice.injEq] at hV
          obtain ⟨rfl, -, rfl⟩ := hV
          have gl2 : g < wr.heap.size := (hown.lt g rfl).2
          obtain ⟨y, hy⟩ : ∃ y, (stage mkB C i j i)[j]? = some y := ⟨(stage mkB C i j i)[j]'(by omega), by simp⟩
          have q1 : wr.cell? ⟨g, j, none⟩ = some (bv y) := by
            have := hown.cells (g := g) rfl j _ (fl_eb _ j y hy)
            rw [addA, Nat.zero_add] at this
            exact this
          have f1 := owns_frozen0 hown j
          have hcv := mkB_wrap i
          have HS := hid (fam_markB HI.out.1 hlt HE.out rfl hjl)
          have HK : Hid (Kp (SqF n V) w _) := HI.out.2.trans HS.out.2 (fun q _ h => ⟨i, hlt, h⟩)
          clear hown hy hlen
          go_wp2_with fail
          go_roundw
          case rel => exact ⟨j + 1, by omega, by go_num, HS.out.1, HK.out⟩
          case measure => simp [RowKit.intOf]; omega
        · have hjz : ¬ (j : Int) < ((C i).length : Int) := by omega
          have hje : j = (C i).length := by omega
          have HI2 : Hid (Fam EB 5 wr n V (stage mkB C (i + 1) 0) ∧ Kp (SqF n V) w wr) := by
            have := HI.out
            rw [hje, stage_next] at this
            exact this
          clear hje
          go_wp2_with fail
          go_roundw
          case rel => exact ⟨i + 1, by omega, by go_num, HI2.out⟩
          case measure => simp [RowKit.intOf]; omega
    · have hltz : ¬ (i : Int) < (n : Int) := by omega
      have hie : i = n := by omega
      have FE : Hid (Fam EB 5 wr n V (stage mkB C n 0)) := by have := HI.out.1; rw [hie] at this; exact this
      have KE : Hid (Kp (SqF n V) w wr) := HI.out.2
      have FAR : Hid (∀ i j, i < n → j < n → i ≠ j → ∀ g, (V i).ownBlock = some g → (V j).ownBlock ≠ some g) := FE.out.far
      have LOW : Hid (∀ i, i < n → ∀ g, (V i).ownBlock = some g → g < wr.heap.size) := fun i hi g hg => FE.out.lt hi g hg
      have G2 : Hid (Grw EB 5 22 mkB 70 wr n V (fun i => (C i).length) wr 0 V (.slice none 0 0)) := ⟨fun i hi => by omega, fun i hi => by omega, fun i _ hi => by
        have := FE.out.own i hi
        rw [stage_full mkB C n i hi, List.length_replicate] at this
        exact this, fun i hi => by omega, World.ownsRow_nil _ _ _ _, fun g hg => by simp [Value.ownBlock] at hg, Kp.refl _ _⟩
      clear hie HI FM FE hlt hi
      generalize wr = w3 at *
      go_wp2_with fail
      clear hltz
      go_loopw [5, 6, 7, 8] (fun s5 s6 _ _ wr => ∃ (k : Nat) (X : Nat → Value), k ≤ n ∧ s6 = .int .i64 k ∧ Hid (Grw EB 5 22 mkB 70 w3 n V (fun i => (C i).length) wr k X s5)) (fun _ s6 _ _ _ => n - (RowKit.intOf s6).toNat)
      case atStart => exact ⟨0, V, Nat.zero_le _, rfl, G2.out⟩
      case round =>
        clear G2
        obtain ⟨k, X, hk, rfl, HG⟩ := hrel
        have hbk := KA.out wr (KE.out.trans HG.out.kp (fun q _ h => h))
        by_cases hlt : k < n
        · have hltz : (k : Int) < (n : Int) := by omega
          obtain ⟨e1, gl1, c1⟩ := hbk k hlt
          subst e1
          have hsl := HSM.out k hlt
          have hOk := HG.out.rest k (Nat.le_refl _) hlt
          obtain ⟨pk, ck, ek⟩ := (owns_ls (E := EB) (ts := List.replicate (C k).length (mkB k)) (by rw [List.length_replicate]; exact hOk)).form
          rw [List.length_replicate] at ek
          have HOR : Hid (wr.ownsRow 0 5 1 (.slice pk (C k).length ck) (C k).length (fl EB (List.replicate (C k).length (mkB k)))) := by rw [← ek]; exact hOk
          have HEK : Hid (V k = .slice pk (C k).length ck) := ek
          have VLT : Hid (∀ q, (Value.slice pk (C k).length ck).ownBlock = some q → q < wr.heap.size) := fun q hq => (HOR.out.lt q hq).2
          rw [ek] at c1
          have hsw := HG.out.kp.size
          have HI0 : Hid (Inn EB 5 wr (.slice pk (C k).length ck) (C k).length (mkB k) wr (.slice pk (C k).length ck) 0) := Inn.init HOR.out
          clear hOk ek hbk
          have hcv := mkB_wrap k
          generalize hcl : (C k).length = cl at *
          have HCL := hid hcl
          clear hcl
          go_wp2_with fail
          clear c1 gl1
          generalize wr = w5 at *
          go_loopw [7, 8] (fun s7 s8 W => ∃ m : Nat, m ≤ 70 ∧ s8 = .int .i64 m ∧ Hid (Inn EB 5 w5 (.slice pk cl ck) cl (mkB k) W s7 m)) (fun _ s8 _ => 70 - (RowKit.intOf s8).toNat)
          case atStart => exact ⟨0, Nat.zero_le _, rfl, HI0.out⟩
          case round =>
            clear HI0
            obtain ⟨m, hm, rfl, HI⟩ := hrel
            by_cases hlt7 : m < 70
            · have h7z : (m : Int) < 70 := by omega
              go_wp2_with (at_builtin; refine wpAppKeep1 EB Tryd.underlying22 infoB rfl (by decide) rfl _ _ rfl u7 (cl + m) (List.replicate (cl + m) (mkB k)) rfl HI.out.ox (mkB k) rfl (by omega) (by unfold maxLen; omega) _ (by first | rfl | (simp [EB]; done)) _ ?_)
              intro g cap W1 ho1 hk1 hl1 hold
              have HN := hid (HI.out.app VLT.out ho1 hk1 hl1 hold)
              clear ho1 hk1 hl1 hold
              go_wp2_with fail
              go_roundw
              case rel => exact ⟨m + 1, by omega, by go_num, HN.out⟩
              case measure => simp [RowKit.intOf]; omega
            · have h7z : ¬ (m : Int) < 70 := by omega
              have hm7 : m = 70 := by omega
              subst hm7
              obtain ⟨hx1, hv1⟩ := HI.out.ls HOR.out
              obtain ⟨gx, cx, hux, -, -⟩ := owns_form0 HI.out.ox (by omega)
              subst hux
              have HX1 : Hid (Ls EB wr (.slice (some ⟨gx, 0, none⟩) (cl + 70) cx) (List.replicate ((fun i => (C i).length) k + 70) (mkB k))) := by show Ls EB wr _ (List.replicate ((C k).length + 70) (mkB k)); rw [HCL.out]; exact hx1
              have HOLD : Hid (Ls EB wr (V k) (List.replicate ((fun i => (C i).length) k) (mkB k))) := by show Ls EB wr _ (List.replicate (C k).length (mkB k)); rw [HCL.out, HEK.out]; exact hv1
              have HK1 : Hid (Kp (fun q => (V k).ownBlock = some q) w5 wr) := by unfold Hid; rw [HEK.out]; exact HI.out.kp
              have HL1 : Hid (∀ q, (Value.slice (some ⟨gx, 0, none⟩) (cl + 70) cx).ownBlock = some q → (V k).ownBlock = some q ∨ w5.heap.size ≤ q) := fun q hq => by rw [HEK.out]; exact HI.out.lie q hq
              have HM1 : Hid (wr.ownsRow w3.heap.size 22 1 u5 k ((List.range k).map X)) := owns_kp HK1.out HG.out.more (fun q hq e => by
                have h1 := (HG.out.more.lt q hq).1
                have h2 := LOW.out k hlt q e
                omega)
              have hz1 := HK1.out.size
              clear hx1 hv1 HI
              go_wp2_with (at_builtin; refine wpList_append_lies _ rfl _ _ 48 rfl w3.heap.size 22 iT (.slice none 0 0) 1 24 Tryd.underlying48 IT.out.1 IT.out.2.1 IT.out.2.2.1 IT.out.2.2.2 rfl (by decide) u5 k _ rfl (World.ownsRow.alloc HM1.out _) ⟨wr.heap.size, 0, none⟩ 1 1 [.slice (some ⟨gx, 0, none⟩) (cl + 70) cx] rfl rfl (World.news_of_block (heap_new' _ _)) (fun u hu => by simp at hu; subst hu; rfl) (by decide) (by unfold maxLen; omega) (by omega) (by simp; omega) _ rfl ?_)
              intro g7 c7 W3 ho3 hg3 hl3 _
              have HSS := hid (HG.out.step hlt FAR.out LOW.out HX1.out HL1.out HOLD.out HK1.out ho3 ((Kp.of_below ((Gr.refl wr).alloc _).below).trans (Kp.grownBy (S := fun q => u5.ownBlock = some q) hg3 (fun _ h => h)) (fun _ _ h => h)) (fun q hq => by
                have : q = g7 := by simpa [Value.ownBlock] using hq.symm
                rw [this]
                exact hl3.imp id (fun e => by rw [e]; simp)))
              clear ho3 hg3 hl3
              go_wp2_with fail
              go_roundw
              case rel => exact ⟨k + 1, _, by omega, by go_num, HSS.out⟩
              case measure => simp [RowKit.intOf]; omega
        · have hltz : ¬ (k : Int) < (n : Int) := by omega
          have hke : k = n := by omega
          subst hke
          have HXT : Hid (∀ i, i < k → Ls EB wr (X i) (List.replicate ((C i).length + 70) (mkB i))) := HG.out.big
          have HVT : Hid (∀ i, i < k → Ls EB wr (V i) (List.replicate (C i).length (mkB i))) := HG.out.old
          obtain ⟨pL, gL, cL, hu5, flt⟩ := row_form (owns_base HG.out.more (Nat.zero_le _))
          subst hu5
          have FL := hid flt
          have KV := hid (KE.out.trans HG.out.kp (fun q _ h => h))
          have BV := hid (KA.out wr KV.out)
          clear HG hbk flt KA
          generalize wr = wv at *
          go_wp2_with fail
          clear hltz
          go_loopw [9, 10] (fun s9 _ wr => ∃ i : Nat, i ≤ k ∧ s9 = .int .i64 i ∧ wr = wv) (fun s9 _ _ => k - (RowKit.intOf s9).toNat)
          case atStart => exact ⟨0, Nat.zero_le _, rfl, rfl⟩
          case round =>
            obtain ⟨i, hi, rfl, rfl⟩ := hrel
            by_cases hlt2 : i < k
            · have hltz : (i : Int) < (k : Int) := by omega
              obtain ⟨el, gll, cl1, -⟩ := FL.out i hlt2
              obtain ⟨e1, gl1, c1⟩ := BV.out i hlt2
              subst el e1
              have hsl := HSM.out i hlt2
              obtain ⟨px, cx, ex⟩ := (HXT.out i hlt2).form
              obtain ⟨pv, cv, ev⟩ := (HVT.out i hlt2).form
              rw [List.length_replicate] at ex ev
              have HLX : Hid (Ls EB wr (.slice px ((C i).length + 70) cx) (List.replicate ((C i).length + 70) (mkB i))) := by rw [← ex]; exact HXT.out i hlt2
              have HLV : Hid (Ls EB wr (.slice pv (C i).length cv) (List.replicate (C i).length (mkB i))) := by rw [← ev]; exact HVT.out i hlt2
              rw [ex] at cl1
              rw [ev] at c1
              have hcv := mkB_wrap i
              clear ex ev
              generalize (C i).length = cl at *
              go_wp2_with fail
              go_loopw [10] (fun s10 W => ∃ j : Nat, j ≤ cl + 70 ∧ s10 = .int .i64 j ∧ W = wr) (fun s10 _ => cl + 70 - (RowKit.intOf s10).toNat)
              case atStart => exact ⟨0, Nat.zero_le _, rfl, rfl⟩
              case round =>
                obtain ⟨j, hj, rfl, rfl⟩ := hrel
                by_cases hjl : j < cl + 70
                · have hjz : (j : Int) < (cl : Int) + 70 := by omega
                  have hjz2 : (j : Int) < ((cl + 70 : Nat) : Int) := by omega
                  obtain ⟨b1, o1, c1', e1', z1, x1⟩ := ls_at HLX.out (j := j) (x := mkB i) (by simp [hjl])
                  rw [List.length_replicate] at e1'
                  simp only [Value.slice.injEq] at e1'
                  obtain ⟨rfl, -, rfl⟩ := e1'
                  by_cases hjn : j < cl
                  · have hjnz : (j : Int) < (cl : Int) := by omega
                    obtain ⟨b2, o2, c2', e2', z2, y1⟩ := ls_at HLV.out (j := j) (x := mkB i) (by simp [hjn])
                    rw [List.length_replicate] at e2'
                    simp only [Value.slice.injEq] at e2'
                    obtain ⟨rfl, -, rfl⟩ := e2'
                    go_wp2_with fail
                    go_roundw
                    case rel => exact ⟨j + 1, by omega, by go_num, trivial⟩
                    case measure => simp [RowKit.intOf]; omega
                  · have hjnz : ¬ (j : Int) < (cl : Int) := by omega
                    go_wp2_with fail
                    go_roundw
                    case rel => exact ⟨j + 1, by omega, by go_num, trivial⟩
                    case measure => simp [RowKit.intOf]; omega
                · have hjz : ¬ (j : Int) < (cl : Int) + 70 := by omega
                  have hjz2 : ¬ (j : Int) < ((cl + 70 : Nat) : Int) := by omega
                  go_wp2_with fail
                  go_roundw
                  case rel => exact ⟨i + 1, by omega, by go_num, trivial⟩
                  case measure => simp [RowKit.intOf]; omega
            · have hltz : ¬ (i : Int) < (k : Int) := by omega
              go_wp2_with fail
              go_ret
              exact ⟨rfl, KV.out⟩
end Go.Proofs.YtghofmhlmkpkcaaDoor.Wi
