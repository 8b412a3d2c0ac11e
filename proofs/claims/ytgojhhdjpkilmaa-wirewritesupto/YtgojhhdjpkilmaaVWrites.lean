import Derived.Test.YtgojhhdjpkilmaaVWrt0
namespace Go.Proofs.Ytgojhhdjpkilmaa.Wi
open Go.RowKit Go.Sort
attribute [local go_sem ↓] Go.wp_at_zero Go.wp_at_succ

theorem put_len (e : Nat) (L l : List UInt8) (m : Nat) (h : l.length ≤ m) : (put e L l).length ≤ L.length + m := by
  unfold put
  split
  · rw [List.length_append]; omega
  · omega
theorem putB_len (e : Nat) (L l : List UInt8) : (putB e L l).length ≤ L.length + (10 + l.length) := by
  unfold putB
  split
  · split
    · omega
    · rw [List.length_append, List.length_append]
      have := form_ten (v := l.length) (by omega)
      omega
  · omega
set_option maxHeartbeats 8000000 in
set_option maxRecDepth 100000 in
theorem writes_any {wb rb e kb n : Nat} {vw vr sl sw : Value} {L : List UInt8} {V : Nat → Value} {C : Nat → List UInt8} (o : Opw) (w : World) (hW : Wk w wb rb vw vr L e kb sl sw n V C) (hO : ∀ W, Kp (fun q => PS wb rb vw vr q ∨ KS kb sl sw n V q) w W → OkOp W o) (hl : L.length + 65546 ≤ 140737488355328) (hol : o.l.length + 2 ≤ 140737488355328) (hn : (n + 2) * 24 ≤ 140737488355328) :
    Calls Try.prog 23 #[.pointer (some ⟨wb, 0, none⟩), .pointer (some ⟨rb, 0, none⟩), ov o, .pointer (some ⟨kb, 0, none⟩)] w fun r w' => r = .returned (.bool true) ∧ ∃ vw' vr' L' e' sl' sw' n' V' C', Ws w w' wb rb vw vr L kb sl sw n V C (10 + o.l.length) vw' vr' L' e' sl' sw' n' V' C' := by
  have hmx : Try.prog.follows .mixedOrders = true := by kernel_rfl
  obtain ⟨kind, two, v, z, u, l⟩ := o
  obtain ⟨pu, cu, hu⟩ := (hO w (Kp.refl _ _)).lb.form
  simp only at hu hol
  subst hu
  obtain ⟨W1, hW1⟩ : ∃ W1, W1 = w.alloc (.cells #[.int .i64 kind, .bool two, .int .u64 (v : Nat), .int .i64 z, .slice pu l.length cu] 47) := ⟨_, rfl⟩
  obtain ⟨B, hB⟩ : ∃ B, B = w.heap.size := ⟨_, rfl⟩
  have G1 : Hid (Gr w W1) := by rw [hW1]; exact (Gr.refl _).alloc _
  have hbl : W1.heap[B]? = some (.cells #[.int .i64 kind, .bool two, .int .u64 (v : Nat), .int .i64 z, .slice pu l.length cu] 47 (0, 0)) := by rw [hW1, hB]; exact heap_new' _ _
  have hBl : B < W1.heap.size := (Array.getElem?_eq_some_iff.1 hbl).1
  obtain ⟨d0, d2, d3, d4⟩ : W1.cell? ⟨B, 0, none⟩ = some (.int .i64 kind) ∧ W1.cell? ⟨B, 2, none⟩ = some (.int .u64 (v : Nat)) ∧ W1.cell? ⟨B, 3, none⟩ = some (.int .i64 z) ∧ W1.cell? ⟨B, 4, none⟩ = some (.slice pu l.length cu) := by simp [World.cell?, hbl]
  have HBX := hid hbl
  have HW := hid hW
  have HO := hid hO
  have OK := hid (hO w (Kp.refl _ _))
  have WK1 := hid (hW.below G1.out.below)
  have BN : Hid (¬ PS wb rb vw vr B ∧ ¬ KS kb sl sw n V B) := ⟨fun h => by have := hW.pr.in B h; omega, fun h => by have := hW.bk.in B h; omega⟩
  have BGE : Hid (w.heap.size ≤ B) := Nat.le_of_eq hB.symm
  clear hW hO hbl
  by_cases k1 : kind = 1
  · subst k1
    have hc := wnum_any v OK.out.hv W1 WK1.out.pr.wt (by omega)
    go_enter Try.func23, Try.ntmps23
    go_wp2_with fail
    rw [← hW1, ← hB]
    clear hW1 hB
    go_wp2_with fail
    refine hc.mono ?_
    rintro r w5 ⟨v5, rfl, h5, t5⟩
    have H5 := hid h5
    have T5 := hid t5
    have b5 : w5.heap[B]? = _ := (t5.1.block B hBl (fun e => BN.out.1 (e.elim Or.inl (fun e => Or.inr (Or.inr (Or.inl e)))))).trans HBX.out
    obtain ⟨e2, e3⟩ : w5.cell? ⟨B, 2, none⟩ = some (.int .u64 (v : Nat)) ∧ w5.cell? ⟨B, 3, none⟩ = some (.int .i64 z) := by simp [World.cell?, b5]
    have e5 : B < w5.heap.size := (Array.getElem?_eq_some_iff.1 b5).1
    have hr := rwnum_any v OK.out.hv w5 (WK1.out.pr.left h5 t5) (by omega)
    clear h5 t5 b5 hc
    go_wp2_with fail
    refine hr.mono ?_
    rintro r w9 ⟨v6, rfl, h6, t6⟩
    have WS := hid (HW.out.put (m := 10 + l.length) G1.out.below H5.out T5.out (Below.refl _ _) h6 t6 (put_len _ _ _ _ (by have := form_ten (v := v) OK.out.hv; omega)))
    clear h6 t6 hr H5 T5 e2 e3 e5
    have her : ∀ W, Gr w9 W → Calls Try.prog 25 #[.pointer (some ⟨wb, 0, none⟩)] W _ := fun W hg => werr_any W (WS.out.wk.pr.wt.gr hg)
    have c9 := WS.out.wk.pr.rf.c1
    have cl9 := WS.out.wk.pr.rf.lt
    go_wp2_with fail
    go_region_with (go_at_call 25; refine (her _ (Gr.refl w9).drew).mono ?_; rintro r w10 ⟨rfl, rfl⟩)
    all_goals (
      go_wp2_with fail
      go_ret
      exact ⟨by first | rfl | simp, _, _, _, _, _, _, _, _, _, WS.out.more (S := fun _ => False) (Kp.of_gr (Gr.refl w9).drew) (fun _ h => h.elim)⟩)
  · by_cases k2 : kind = 2
    · subst k2
      have hc := wint_any z OK.out.n0 OK.out.n1 W1 WK1.out.pr.wt (by omega)
      go_enter Try.func23, Try.ntmps23
      go_wp2_with fail
      rw [← hW1, ← hB]
      clear hW1 hB
      go_wp2_with fail
      refine hc.mono ?_
      rintro r w5 ⟨v5, rfl, h5, t5⟩
      have H5 := hid h5
      have T5 := hid t5
      have b5 : w5.heap[B]? = _ := (t5.1.block B hBl (fun e => BN.out.1 (e.elim Or.inl (fun e => Or.inr (Or.inr (Or.inl e)))))).trans HBX.out
      obtain ⟨e2, e3⟩ : w5.cell? ⟨B, 2, none⟩ = some (.int .u64 (v : Nat)) ∧ w5.cell? ⟨B, 3, none⟩ = some (.int .i64 z) := by simp [World.cell?, b5]
      have e5 : B < w5.heap.size := (Array.getElem?_eq_some_iff.1 b5).1
      have hr := rwint_any z OK.out.n0 OK.out.n1 w5 (WK1.out.pr.left h5 t5) (by omega)
      clear h5 t5 b5 hc
      go_wp2_with fail
      refine hr.mono ?_
      rintro r w9 ⟨v6, rfl, h6, t6⟩
      have WS := hid (HW.out.put (m := 10 + l.length) G1.out.below H5.out T5.out (Below.refl _ _) h6 t6 (put_len _ _ _ _ (by have := form_ten (v := fold z) (fold_lt OK.out.n0 OK.out.n1); omega)))
      clear h6 t6 hr H5 T5 e2 e3 e5
      have her : ∀ W, Gr w9 W → Calls Try.prog 25 #[.pointer (some ⟨wb, 0, none⟩)] W _ := fun W hg => werr_any W (WS.out.wk.pr.wt.gr hg)
      have c9 := WS.out.wk.pr.rf.c1
      have cl9 := WS.out.wk.pr.rf.lt
      go_wp2_with fail
      go_region_with (go_at_call 25; refine (her _ (Gr.refl w9).drew).mono ?_; rintro r w10 ⟨rfl, rfl⟩)
      all_goals (
        go_wp2_with fail
        go_ret
        exact ⟨by first | rfl | simp, _, _, _, _, _, _, _, _, _, WS.out.more (S := fun _ => False) (Kp.of_gr (Gr.refl w9).drew) (fun _ h => h.elim)⟩)
    · by_cases k3 : kind = 3
      · subst k3
        have hby : bv (byt z) = .int .u8 (IntKind.u8.wrap z) := by rw [IntKind.wrap_u8, ← byt_nat]
        have HBY := hid hby
        clear hby
        have hc := wbyte_any (byt z) W1 WK1.out.pr.wt (by omega)
        rw [HBY.out] at hc
        go_enter Try.func23, Try.ntmps23
        go_wp2_with fail
        rw [← hW1, ← hB]
        clear hW1 hB
        go_wp2_with fail
        refine hc.mono ?_
        rintro r w5 ⟨v5, rfl, h5, t5⟩
        have H5 := hid h5
        have T5 := hid t5
        have b5 : w5.heap[B]? = _ := (t5.1.block B hBl (fun e => BN.out.1 (e.elim Or.inl (fun e => Or.inr (Or.inr (Or.inl e)))))).trans HBX.out
        obtain ⟨e2, e3⟩ : w5.cell? ⟨B, 2, none⟩ = some (.int .u64 (v : Nat)) ∧ w5.cell? ⟨B, 3, none⟩ = some (.int .i64 z) := by simp [World.cell?, b5]
        have e5 : B < w5.heap.size := (Array.getElem?_eq_some_iff.1 b5).1
        have hr := rwbyte_any (byt z) w5 (WK1.out.pr.left h5 t5) (by omega)
        rw [HBY.out] at hr
        clear h5 t5 b5 hc
        go_wp2_with fail
        refine hr.mono ?_
        rintro r w9 ⟨v6, rfl, h6, t6⟩
        have WS := hid (HW.out.put (m := 10 + l.length) G1.out.below H5.out T5.out (Below.refl _ _) h6 t6 (put_len _ _ _ _ (by simp; omega)))
        clear h6 t6 hr H5 T5 e2 e3 e5
        have her : ∀ W, Gr w9 W → Calls Try.prog 25 #[.pointer (some ⟨wb, 0, none⟩)] W _ := fun W hg => werr_any W (WS.out.wk.pr.wt.gr hg)
        have c9 := WS.out.wk.pr.rf.c1
        have cl9 := WS.out.wk.pr.rf.lt
        go_wp2_with fail
        go_region_with (go_at_call 25; refine (her _ (Gr.refl w9).drew).mono ?_; rintro r w10 ⟨rfl, rfl⟩)
        all_goals (
          go_wp2_with fail
          go_ret
          exact ⟨by first | rfl | simp, _, _, _, _, _, _, _, _, _, WS.out.more (S := fun _ => False) (Kp.of_gr (Gr.refl w9).drew) (fun _ h => h.elim)⟩)
      · by_cases k4 : kind = 4
        · subst k4
          have hle := lent_any W1 (HO.out W1 (Kp.of_gr G1.out)).lb (by omega)
          go_enter Try.func23, Try.ntmps23
          go_wp2_with fail
          rw [← hW1, ← hB]
          clear hW1 hB
          go_wp2_with fail
          refine hle.mono ?_
          rintro r w2 ⟨g, cap, rfl, hL2, b2⟩
          have WK2 := hid (WK1.out.below b2)
          have B2 := hid b2
          have GW : Hid (Gr w W1) := G1.out
          have ZZ : Hid (w.heap.size ≤ W1.heap.size ∧ W1.heap.size ≤ g) := ⟨G1.out.size, hL2.ge.1⟩
          have GN : Hid (¬ PS wb rb vw vr g ∧ ¬ KS kb sl sw n V g ∧ g ≠ B) := by
            have h1 := ZZ.out
            exact ⟨fun h => by have := HW.out.pr.in g h; omega, fun h => by have := HW.out.bk.in g h; omega, fun h => by omega⟩
          have LN := hid hL2
          have hbx2 : w2.heap[B]? = _ := (b2.block B hBl).trans HBX.out
          have HBX2 := hid hbx2
          have BL2 : Hid (B < w2.heap.size) := Nat.lt_of_lt_of_le hBl b2.size
          have hc := wbytes_any (b := .slice (some ⟨g, 0, none⟩) l.length cap) (l := l) w2 WK2.out.pr.wt (fun W hk => Or.inl (hL2.kp hk (fun e => GN.out.1 (Or.inr (Or.inr (Or.inl e))))).ls) (by omega) (by omega)
          clear hL2 b2 hle hbx2
          go_wp2_with fail
          refine hc.mono ?_
          rintro r w5 ⟨v5, rfl, h5, t5⟩
          have H5 := hid h5
          have T5 := hid t5
          have AP5 : Hid (¬ v5.ownBlock = some g) := fun e => by
            rcases t5.2 g e with h | h
            · exact GN.out.1 (Or.inr (Or.inr (Or.inl h)))
            · have := LN.out.ge.2; omega
          have K25 : Hid (Kp (PS wb rb vw vr) w2 w5) := t5.1.mono (fun k hk => hk.elim (fun h => Or.inl h) (fun h => Or.inr (Or.inr (Or.inl h))))
          have K05 : Hid (Kp (fun q => PS wb rb vw vr q ∨ KS kb sl sw n V q) w w5) := ((Kp.of_gr GW.out).trans (Kp.of_below B2.out) (fun _ _ h => h)).trans (K25.out.mono (fun _ h => Or.inl h)) (fun _ _ h => h)
          have b5 : w5.heap[B]? = _ := (K25.out.block B BL2.out BN.out.1).trans HBX2.out
          have HBX5 := hid b5
          have e4 : w5.cell? ⟨B, 4, none⟩ = some (.slice pu l.length cu) := by simp [World.cell?, b5]
          have e5 : B < w5.heap.size := (Array.getElem?_eq_some_iff.1 b5).1
          have hr := rwbytes_any (b := .slice pu l.length cu) (l := l) w5 (WK2.out.pr.left h5 t5) (fun W hk => (HO.out W (K05.out.trans (hk.mono (fun k h => Or.inl (h.elim (fun h => Or.inr (Or.inl h)) (fun h => Or.inr (Or.inr (Or.inr h)))))) (fun _ _ h => h))).lb) (by omega) (by omega)
          clear h5 t5 b5 hc
          go_wp2_with fail
          refine hr.mono ?_
          rintro r w6 ⟨v6, rfl, h6, t6⟩
          have WS6 := hid (HW.out.put (m := 10 + l.length) (GW.out.below.trans (B2.out.mono GW.out.size)) H5.out T5.out (Below.refl _ _) h6 t6 (putB_len _ _ _))
          have AP6 : Hid (¬ v6.ownBlock = some g) := fun e => by
            rcases t6.2 g e with h | h
            · exact GN.out.1 (Or.inr (Or.inr (Or.inr h)))
            · have := LN.out.ge.2; have := K25.out.size; omega
          have K26 : Hid (Kp (PS wb rb vw vr) w2 w6) := K25.out.trans (t6.1.mono (fun k hk => hk.elim (fun h => Or.inr (Or.inl h)) (fun h => Or.inr (Or.inr (Or.inr h))))) (fun _ _ h => h)
          have LN6 := hid (LN.out.kp K26.out GN.out.1)
          have b6 : w6.heap[B]? = _ := (K26.out.block B BL2.out BN.out.1).trans HBX2.out
          have i4 : w6.cell? ⟨B, 4, none⟩ = some (.slice pu l.length cu) := by simp [World.cell?, b6]
          have i5 : B < w6.heap.size := (Array.getElem?_eq_some_iff.1 b6).1
          have hkp := kept_any w6 (HO.out w6 WS6.out.kp).lb LN6.out (by omega)
          clear h6 t6 hr e4 e5 b6 H5 T5
          go_wp2_with fail
          refine hkp.mono ?_
          rintro r w7 ⟨rfl, g7⟩
          have G7 := hid g7
          have GX : Hid (w.heap.size ≤ g ∧ ¬ (PS wb rb v5 v6 g ∨ KS kb sl sw n V g)) := by
            refine ⟨by have := ZZ.out; omega, fun h => ?_⟩
            rcases h with h | h
            · rcases h with h | h | h | h
              · exact GN.out.1 (Or.inl h)
              · exact GN.out.1 (Or.inr (Or.inl h))
              · exact AP5.out h
              · exact AP6.out h
            · exact GN.out.2.1 h
          have OW7 : Hid (∃ M : List UInt8, M.length = l.length + 2 ∧ w7.ownsRow 0 5 1 (.slice (some ⟨g, 0, none⟩) (l.length + 2) cap) (l.length + 2) (fl EB M)) := ⟨l ++ [195, 60], by simp, owns_below (owns_base LN6.out.own (Nat.zero_le _)) g7.below⟩
          have WS7 := hid (WS6.out.more (S := fun _ => False) (Kp.of_gr g7) (fun _ h => h.elim))
          clear g7 hkp i4 i5 WS6 LN6
          go_wp2_with fail
          go_loopw [10] (fun s10 wr => ∃ i : Nat, i ≤ l.length ∧ s10 = .int .i64 i ∧ Hid (Kp (fun q => q = g) w7 wr ∧ ∃ M : List UInt8, M.length = l.length + 2 ∧ wr.ownsRow 0 5 1 (.slice (some ⟨g, 0, none⟩) (l.length + 2) cap) (l.length + 2) (fl EB M))) (fun s10 _ => l.length - (RowKit.intOf s10).toNat)
          case atStart => exact ⟨0, Nat.zero_le _, rfl, Kp.refl _ _, OW7.out⟩
          case round =>
            obtain ⟨i, hi, rfl, HI⟩ := hrel
            by_cases hlt : i < l.length
            · have hltz : (i : Int) < (l.length : Int) := by omega
              obtain ⟨hk, M, hM, hown⟩ := HI.out
              obtain ⟨y, hy⟩ : ∃ y, M[i]? = some y := ⟨M[i]'(by omega), by simp⟩
              have q1 : wr.cell? ⟨g, i, none⟩ = some (bv y) := by
                have := hown.cells (g := g) rfl i _ (fl_eb _ i y hy)
                rw [addA, Nat.zero_add] at this
                exact this
              have gl2 : g < wr.heap.size := (hown.lt g rfl).2
              have f1 := owns_frozen0 hown i
              obtain ⟨x, hx⟩ : ∃ x : UInt8, IntKind.u8.wrap ((y.toNat : Int) + 5) = (x.toNat : Int) := ⟨UInt8.ofNat ((y.toNat + 5) % 256), by rw [IntKind.wrap_u8, u8_of (by omega)]; omega⟩
              obtain ⟨n1, n2⟩ := owns_cell0 (q := i) (bv x) hown
              rw [flB_set] at n1
              have HN : Hid (Kp (fun q => q = g) w7 (wr.setCell ⟨g, i, none⟩ (bv x)) ∧ ∃ M : List UInt8, M.length = l.length + 2 ∧ (wr.setCell ⟨g, i, none⟩ (bv x)).ownsRow 0 5 1 (.slice (some ⟨g, 0, none⟩) (l.length + 2) cap) (l.length + 2) (fl EB M)) := ⟨hk.trans n2 (fun _ _ h => h), M.set i x, by rw [List.length_set]; exact hM, n1⟩
              clear hk hM hown hy n1 n2 HI
              go_wp2_with fail
              go_roundw
              case rel => exact ⟨i + 1, by omega, by go_num, HN.out⟩
              case measure => simp [RowKit.intOf]; omega
            · have hltz : ¬ (i : Int) < (l.length : Int) := by omega
              have WS := hid (WS7.out.more (S := fun q => q = g) HI.out.1 (fun q h => by subst h; exact GX.out))
              clear HI
              have her : ∀ W, Gr wr W → Calls Try.prog 25 #[.pointer (some ⟨wb, 0, none⟩)] W _ := fun W hg => werr_any W (WS.out.wk.pr.wt.gr hg)
              have c9 := WS.out.wk.pr.rf.c1
              have cl9 := WS.out.wk.pr.rf.lt
              go_wp2_with fail
              go_region_with (go_at_call 25; refine (her _ (Gr.refl wr).drew).mono ?_; rintro r w10 ⟨rfl, rfl⟩)
              all_goals (
                go_wp2_with fail
                go_ret
                exact ⟨by first | rfl | simp, _, _, _, _, _, _, _, _, _, WS.out.more (S := fun _ => False) (Kp.of_gr (Gr.refl wr).drew) (fun _ h => h.elim)⟩)
        · by_cases k5 : kind = 5
          · subst k5
            have hda := wdata_any W1 WK1.out.pr.wt (by omega)
            go_enter Try.func23, Try.ntmps23
            go_wp2_with fail
            rw [← hW1, ← hB]
            clear hW1 hB
            go_wp2_with fail
            refine hda.mono ?_
            rintro r w2 ⟨a, rfl, ha, b2⟩
            have WK2 := hid (WK1.out.below b2)
            have B2 := hid b2
            have OA := hid ha
            have hdb := wdata_any w2 WK2.out.pr.wt (by omega)
            clear ha b2 hda
            go_wp2_with fail
            refine hdb.mono ?_
            rintro r w3 ⟨b, rfl, hb, b3⟩
            have WK3 := hid (WK2.out.below b3)
            have OA3 : Hid (Ow w3 a L) := owns_below (owns_base OA.out (Nat.zero_le _)) b3
            have OB := hid hb
            have B3 := hid b3
            clear hb b3 hdb
            obtain ⟨pa, na, ca, rfl⟩ := ow_form OA3.out
            obtain ⟨pb, nb, cb, rfl⟩ := ow_form (owns_base OB.out (Nat.zero_le _))
            obtain ⟨pr, nr, cr, hvr⟩ := ow_form WK3.out.pr.rf.own
            have hta : ∀ m, (convert 22 9 (.slice pa na ca)).run Try.prog (w3.drewN m) = .ok (tx L) (w3.drewN m) := fun m => to_text ((ow_ls OA3.out).below ((Gr.refl w3).drewN m).below)
            have htb : ∀ m, (convert 22 9 (.slice pb nb cb)).run Try.prog (w3.drewN m) = .ok (tx L) (w3.drewN m) := fun m => to_text ((ow_ls (owns_base OB.out (Nat.zero_le _))).below ((Gr.refl w3).drewN m).below)
            have htr : ∀ m, (convert 22 9 vr).run Try.prog (w3.drewN m) = .ok (tx L) (w3.drewN m) := fun m => to_text ((ow_ls WK3.out.pr.rf.own).below ((Gr.refl w3).drewN m).below)
            have c0 := WK3.out.pr.rf.c0
            have cl0 := WK3.out.pr.rf.lt
            rw [hvr] at htr c0
            clear hvr
            have hcut : True := trivial
            go_wp2_with fail
            go_quiet (fail)
            have G3 : Hid (Gr w3 (w3.drewN nq)) := (Gr.refl w3).drewN _
            generalize w3.drewN nq = w4 at G3 ⊢
            clear hta htb htr c0 cl0 hcut
            have WK4 := hid (WK3.out.below G3.out.below)
            have OA4 : Hid (Ow w4 (.slice pa na ca) L) := owns_below OA3.out G3.out.below
            have OB4 : Hid (Ow w4 (.slice pb nb cb) L) := owns_below (owns_base OB.out (Nat.zero_le _)) G3.out.below
            have AGE : Hid (∀ q, (Value.slice pa na ca).ownBlock = some q → W1.heap.size ≤ q ∧ q < w2.heap.size) := fun q hq => OA.out.lt q hq
            have BGE2 : Hid (∀ q, (Value.slice pb nb cb).ownBlock = some q → w2.heap.size ≤ q) := fun q hq => (OB.out.lt q hq).1
            have ZZ : Hid (w.heap.size ≤ W1.heap.size ∧ W1.heap.size ≤ w2.heap.size ∧ w2.heap.size ≤ w4.heap.size) := ⟨G1.out.size, B2.out.size, Nat.le_trans B3.out.size G3.out.size⟩
            have hk1 := keep_any w4 WK4.out.bk OA4.out (fun q hq hk => by have := (AGE.out q hq).1; have := HW.out.bk.in q hk; have := ZZ.out; omega) (by omega)
            go_wp2_with fail
            refine hk1.mono ?_
            rintro r w5 ⟨sl5, sw5, rfl, h5, k5, x5⟩
            have H5 := hid h5
            have K5 := hid k5
            have X5 := hid x5
            have OB5 : Hid (Ow w5 (.slice pb nb cb) L) := owns_kp k5 OB4.out (fun q hq e => by
              have h1 := BGE2.out q hq
              have h2 := ZZ.out
              have h3 : q < w.heap.size := HW.out.bk.in q (e.elim Or.inl (fun e => e.elim (fun e => Or.inr (Or.inl e)) (fun e => Or.inr (Or.inr (Or.inl e)))))
              omega)
            have hk2 := keep_any w5 h5 OB5.out (fun q hq hk => by
              have h1 := BGE2.out q hq
              have h2 := ZZ.out
              have h4 : q < w4.heap.size := (OB4.out.lt q hq).2
              rcases x5 q hk with h3 | h3 | h3
              · have := HW.out.bk.in q h3; omega
              · have := (AGE.out q h3).2; omega
              · omega) (by omega)
            clear h5 k5 x5 hk1
            go_wp2_with fail
            refine hk2.mono ?_
            rintro r w9 ⟨sl9, sw9, rfl, h9, k9, x9⟩
            have hPS : ∀ q, PS wb rb vw vr q → ¬ (q = kb ∨ sl.ownBlock = some q ∨ sw.ownBlock = some q) := fun q hq e => HW.out.dj q hq (e.elim Or.inl (fun e => e.elim (fun e => Or.inr (Or.inl e)) (fun e => Or.inr (Or.inr (Or.inl e)))))
            have X9 : ∀ q, KS kb sl9 sw9 (n + 1 + 1) (addV (n + 1) (addV n V (.slice pa na ca)) (.slice pb nb cb)) q → KS kb sl sw n V q ∨ W1.heap.size ≤ q := fun q hq => by
              have h2 := ZZ.out
              have z5 := K5.out.size
              rcases x9 q hq with h3 | h3 | h3
              · rcases X5.out q h3 with h4 | h4 | h4
                · exact Or.inl h4
                · exact Or.inr (AGE.out q h4).1
                · exact Or.inr (by omega)
              · exact Or.inr (by have := BGE2.out q h3; omega)
              · exact Or.inr (by omega)
            have kp4 : Kp (fun q => PS wb rb vw vr q ∨ KS kb sl sw n V q) w w4 := (Kp.of_below G1.out.below).trans ((Kp.of_below B2.out).trans ((Kp.of_below B3.out).trans (Kp.of_gr G3.out) (fun _ _ h => h)) (fun _ _ h => h)) (fun _ _ h => h)
            have K59 : Kp (fun q => KS kb sl sw n V q ∨ w.heap.size ≤ q) w4 w9 := (K5.out.mono (fun q e => Or.inl (e.elim Or.inl (fun e => e.elim (fun e => Or.inr (Or.inl e)) (fun e => Or.inr (Or.inr (Or.inl e))))))).trans (k9.mono (fun q e => by
              have h3 : KS kb sl5 sw5 (n + 1) (addV n V (.slice pa na ca)) q := e.elim Or.inl (fun e => e.elim (fun e => Or.inr (Or.inl e)) (fun e => Or.inr (Or.inr (Or.inl e))))
              have h2 := ZZ.out
              rcases X5.out q h3 with h4 | h4 | h4
              · exact Or.inl h4
              · exact Or.inr (by have := (AGE.out q h4).1; omega)
              · exact Or.inr (by omega))) (fun _ _ h => h)
            have WS : Hid (Ws w w9 wb rb vw vr L kb sl sw n V C (10 + l.length) vw vr L e sl9 sw9 (n + 1 + 1) (addV (n + 1) (addV n V (.slice pa na ca)) (.slice pb nb cb)) (addC (n + 1) (addC n C L) L)) := by
              refine ⟨⟨WK4.out.pr.kp K59 (fun q hq e => ?_), h9, fun q hq hk => ?_⟩, kp4.trans (K59.mono (S := fun q => KS kb sl sw n V q ∨ w.heap.size ≤ q) (T := fun q => (PS wb rb vw vr q ∨ KS kb sl sw n V q) ∨ w.heap.size ≤ q) (fun q e => e.imp Or.inr id)) (fun q hq e => e.elim id (fun e => by omega)), fun q hq => ?_, by omega, by omega, fun i hi => ?_⟩
              · rcases e with e | e
                · exact HW.out.dj q hq e
                · have := HW.out.pr.in q hq; omega
              · rcases X9 q hk with h3 | h3
                · exact HW.out.dj q hq h3
                · have := HW.out.pr.in q hq; have := ZZ.out; omega
              · rcases hq with h3 | h3
                · exact Or.inl (Or.inl h3)
                · exact (X9 q h3).imp Or.inr (fun h => by have := ZZ.out; omega)
              · by_cases e1 : i = n + 1
                · right; simp only [addC, if_pos e1]
                · by_cases e2 : i = n
                  · right; simp only [addC, if_neg e1, if_pos e2]
                  · left; refine ⟨by omega, ?_⟩; simp only [addC, if_neg e1, if_neg e2]
            clear h9 k9 x9 hPS X9 kp4 K59 hk2 H5 K5 X5
            have her : ∀ W, Gr w9 W → Calls Try.prog 25 #[.pointer (some ⟨wb, 0, none⟩)] W _ := fun W hg => werr_any W (WS.out.wk.pr.wt.gr hg)
            have c9 := WS.out.wk.pr.rf.c1
            have cl9 := WS.out.wk.pr.rf.lt
            go_wp2_with fail
            go_region_with (go_at_call 25; refine (her _ (Gr.refl w9).drew).mono ?_; rintro r w10 ⟨rfl, rfl⟩)
            all_goals (
              go_wp2_with fail
              go_ret
              exact ⟨by first | rfl | simp, _, _, _, _, _, _, _, _, _, WS.out.more (S := fun _ => False) (Kp.of_gr (Gr.refl w9).drew) (fun _ h => h.elim)⟩)
          · go_enter Try.func23, Try.ntmps23
            go_wp2_with fail
            rw [← hW1, ← hB]
            clear hW1 hB
            go_wp2_with fail
            have WS := hid (HW.out.same G1.out.below (10 + l.length))
            have her : ∀ W, Gr W1 W → Calls Try.prog 25 #[.pointer (some ⟨wb, 0, none⟩)] W _ := fun W hg => werr_any W (WS.out.wk.pr.wt.gr hg)
            have c9 := WS.out.wk.pr.rf.c1
            have cl9 := WS.out.wk.pr.rf.lt
            go_wp2_with fail
            go_region_with (go_at_call 25; refine (her _ (Gr.refl W1).drew).mono ?_; rintro r w10 ⟨rfl, rfl⟩)
            all_goals (
              go_wp2_with fail
              go_ret
              exact ⟨by first | rfl | simp, _, _, _, _, _, _, _, _, _, WS.out.more (S := fun _ => False) (Kp.of_gr (Gr.refl W1).drew) (fun _ h => h.elim)⟩)
end Go.Proofs.Ytgojhhdjpkilmaa.Wi
