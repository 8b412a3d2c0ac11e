import Derived.Test.YtgojhhdjpkilmaaVRds0
namespace Go.Proofs.Ytgojhhdjpkilmaa.Wi
open Go.RowKit Go.Sort
attribute [local go_sem ↓] Go.wp_at_zero Go.wp_at_succ

theorem cntlen (e : Nat) (most : Int) (l : List UInt8) : (rbs e most l).1.length ≤ l.length := by
  unfold rbs
  split
  · exact (cnt_le most l).2.2
  · simp
set_option maxHeartbeats 4000000 in
set_option maxRecDepth 100000 in
theorem reads_any {pb rb e at_ kb n : Nat} {dp vr sl sw : Value} {L : List UInt8} {V : Nat → Value} {C : Nat → List UInt8} (o : Opw) (w : World) (hW : Qk w pb rb dp vr L at_ e kb sl sw n V C) (hO : OkOp w o) (hn : (n + 1) * 24 ≤ 140737488355328) :
    Calls Try.prog 29 #[.pointer (some ⟨pb, 0, none⟩), .pointer (some ⟨rb, 0, none⟩), ov o, .pointer (some ⟨kb, 0, none⟩)] w fun r w' => r = .returned (.bool true) ∧ ∃ vr' at' e' sl' sw' n' V' C', Qs w w' pb rb dp vr L kb sl sw n V C vr' at' e' sl' sw' n' V' C' := by
  have hmx : Try.prog.follows .mixedOrders = true := by kernel_rfl
  obtain ⟨kind, two, v, z, u, l⟩ := o
  obtain ⟨pu, cu, hu⟩ := hO.lb.form
  simp only at hu
  subst hu
  obtain ⟨W1, hW1⟩ : ∃ W1, W1 = w.alloc (.cells #[.int .i64 kind, .bool two, .int .u64 (v : Nat), .int .i64 z, .slice pu l.length cu] 47) := ⟨_, rfl⟩
  obtain ⟨B, hB⟩ : ∃ B, B = w.heap.size := ⟨_, rfl⟩
  have G1 : Hid (Gr w W1) := by rw [hW1]; exact (Gr.refl _).alloc _
  have hbl : W1.heap[B]? = some (.cells #[.int .i64 kind, .bool two, .int .u64 (v : Nat), .int .i64 z, .slice pu l.length cu] 47 (0, 0)) := by rw [hW1, hB]; exact heap_new' _ _
  have hBl : B < W1.heap.size := (Array.getElem?_eq_some_iff.1 hbl).1
  obtain ⟨d0, d2, d3⟩ : W1.cell? ⟨B, 0, none⟩ = some (.int .i64 kind) ∧ W1.cell? ⟨B, 2, none⟩ = some (.int .u64 (v : Nat)) ∧ W1.cell? ⟨B, 3, none⟩ = some (.int .i64 z) := by simp [World.cell?, hbl]
  have HW := hid hW
  have z0 := hid hO.n0
  have z1 := hid hO.n1
  have WK1 := hid (hW.below G1.out.below)
  have BP : ¬ B = pb := fun h => by have := hW.pr.rd.lt; omega
  have BR : ¬ B = rb := fun h => by have := hW.pr.rf.lt; omega
  have INN : Hid (∀ q, PS pb rb dp vr q ∨ KS kb sl sw n V q → q < w.heap.size) := fun q h => h.elim (hW.pr.in q) (hW.bk.in q)
  have DD : Hid (∀ Z : World, (∀ q, q < W1.heap.size → ¬ q = pb → ¬ q = rb → Z.heap[q]? = W1.heap[q]?) → Z.cell? ⟨B, 2, none⟩ = some (.int .u64 (v : Nat)) ∧ Z.cell? ⟨B, 3, none⟩ = some (.int .i64 z)) := fun Z h => by
    have e := (h B hBl BP BR).trans hbl
    simp [World.cell?, e]
  clear hW hO hbl
  by_cases k1 : kind = 1
  · subst k1
    have hN := fun W (h : Rd W pb dp L at_ e) => rnum_any v W h
    have hM := fun W (h : Rr W rb vr L at_ e) => rrnum_any v W h
    have R0 := hid (WK1.out.pr.rd.gr (Gr.refl W1).drew)
    have Q0 := hid (WK1.out.pr.rf.below (Gr.refl W1).drew.below)
    have G1d : Hid (Kp (fun k => k = pb ∨ k = rb) w W1.drew) := Kp.of_gr G1.out.drew
    generalize hS : rn e v (L.drop at_) = S at hN hM
    obtain ⟨s1, s2, s3⟩ := S
    have HS := hid hS
    clear hS
    simp only at hN hM
    have D2 : Hid (∀ Z : World, Kp (fun k => k = pb ∨ k = rb) W1.drew Z → Z.cell? ⟨B, 2, none⟩ = some (.int .u64 (v : Nat)) ∧ B < Z.heap.size) := fun Z hk => ⟨(DD.out Z (fun q h1 h2 h3 => (hk.block q h1 (fun e => e.elim h2 h3)).trans ((Gr.refl W1).drew.below.block q h1))).1, Nat.lt_of_lt_of_le hBl hk.size⟩
    go_enter Try.func29, Try.ntmps29
    go_wp2_with fail
    rw [← hW1, ← hB]
    clear hW1 hB
    go_wp2_with fail
    have S0 := D2.out W1.drew (Kp.refl _ _)
    go_region_held3 (fun W => W.cell? ⟨B, 2, none⟩ = some (.int .u64 (v : Nat)) ∧ B < W.heap.size)
      (first | exact S0 | exact ⟨x2, x3⟩ | exact ⟨y2, y3⟩ | assumption)
      (first
      | (go_at_call 14; have _t := RRm; refine (hN _ R6.out).mono ?_; rintro r w5 ⟨rfl, h5, k5⟩; have RDf := hid h5; have RRf := hid (RRm.out.kp k5 (fun e => HW.out.pr.d1 e.symm) (fun _ hk e => HW.out.pr.d2 (by rw [← e]; exact bm.out _ hk))); have BF := bm; have KKf := hid (KKm.out.trans (k5.mono (T := fun k => k = pb ∨ k = rb) (fun _ h => Or.inl h)) (fun _ _ h => h)); obtain ⟨x2, x3⟩ := D2.out w5 KKf.out; clear h5 k5)
      | (go_at_call 14; refine (hN _ R0.out).mono ?_; rintro r w5 ⟨rfl, h5, k5⟩; have RDm := hid h5; have Q5 := hid (Q0.out.kp k5 (fun e => HW.out.pr.d1 e.symm) (fun _ hk e => HW.out.pr.d2 (by rw [← e]; exact hk))); have KKn := hid (k5.mono (T := fun k => k = pb ∨ k = rb) (fun _ h => Or.inl h)); obtain ⟨x2, x3⟩ := D2.out w5 KKn.out; clear h5 k5)
      | (go_at_call 49; have _t := RDm; refine (hM _ Q5.out).mono ?_; rintro r w6 ⟨v6, rfl, h6, b6, k6⟩; have RRf := hid h6; have BF := hid b6; have RDf := hid (RDm.out.kp k6 HW.out.pr.d1 (fun _ hk e => HW.out.pr.d3 (by rw [← e]; exact hk))); have KKf := hid (KKn.out.trans (k6.mono (T := fun k => k = pb ∨ k = rb) (fun _ h => Or.inr h)) (fun _ _ h => h)); obtain ⟨y2, y3⟩ := D2.out w6 KKf.out; clear h6 b6 k6)
      | (go_at_call 49; refine (hM _ Q0.out).mono ?_; rintro r w6 ⟨v6, rfl, h6, b6, k6⟩; have RRm := hid h6; have bm := hid b6; have R6 := hid (R0.out.kp k6 HW.out.pr.d1 (fun _ hk e => HW.out.pr.d3 (by rw [← e]; exact hk))); have KKm := hid (k6.mono (T := fun k => k = pb ∨ k = rb) (fun _ h => Or.inr h)); obtain ⟨y2, y3⟩ := D2.out w6 KKm.out; clear h6 b6 k6))
    all_goals (
      have QSF : Hid (Qs w _ pb rb dp vr L kb sl sw n V C _ _ _ _ _ _ _ _) := HW.out.fin RDf.out RRf.out BF.out (G1d.out.trans KKf.out (fun _ _ h => h))
      clear RDf RRf KKf hN hM
      have her := fun m => rerr_any _ (QSF.out.wk.pr.rd.gr ((Gr.refl _).drewN m))
      have hat := fun m => rat_any _ (QSF.out.wk.pr.rd.gr ((Gr.refl _).drewN m))
      have c9 := QSF.out.wk.pr.rf.c1
      have c8 := QSF.out.wk.pr.rf.c2
      have cl9 := QSF.out.wk.pr.rf.lt
      go_wp2_with fail
      go_quiet (first | (go_at_call 15; exact Calls.quiet_of_same (her _)) | (go_at_call 16; exact Calls.quiet_of_same (hat _)))
      go_wp2_with fail
      go_ret
      exact ⟨by first | rfl | simp, _, _, _, _, _, _, _, _, QSF.out.more ((Gr.refl _).drewN _)⟩)
  · by_cases k2 : kind = 2
    · subst k2
      have hN := rint_any W1 WK1.out.pr.rd
      have hM := fun W (h : Rr W rb vr L at_ e) => rrint_any W h
      go_enter Try.func29, Try.ntmps29
      go_wp2_with fail
      rw [← hW1, ← hB]
      clear hW1 hB
      go_wp2_with fail
      refine hN.mono ?_
      rintro r w5 ⟨rfl, h5, k5⟩
      have RD := hid h5
      have K5 := hid k5
      have hM5 := hM w5 (WK1.out.pr.left k5)
      clear h5 k5 hN hM
      go_wp2_with fail
      refine hM5.mono ?_
      rintro r w6 ⟨v6, rfl, h6, b6, k6⟩
      have QSF : Hid (Qs w w6 pb rb dp vr L kb sl sw n V C _ _ _ _ _ _ _ _) := HW.out.fin (RD.out.kp k6 HW.out.pr.d1 (fun _ hk e => HW.out.pr.d3 (e ▸ hk))) h6 b6 ((Kp.of_gr G1.out).trans ((K5.out.mono (fun _ h => Or.inl h)).trans (k6.mono (fun _ h => Or.inr h)) (fun _ _ h => h)) (fun _ _ h => h))
      clear h6 b6 k6 hM5 RD K5
      have her := fun m => rerr_any _ (QSF.out.wk.pr.rd.gr ((Gr.refl _).drewN m))
      have hat := fun m => rat_any _ (QSF.out.wk.pr.rd.gr ((Gr.refl _).drewN m))
      have c9 := QSF.out.wk.pr.rf.c1
      have c8 := QSF.out.wk.pr.rf.c2
      have cl9 := QSF.out.wk.pr.rf.lt
      go_wp2_with fail
      go_quiet (first | (go_at_call 15; exact Calls.quiet_of_same (her _)) | (go_at_call 16; exact Calls.quiet_of_same (hat _)))
      go_wp2_with fail
      go_ret
      exact ⟨by first | rfl | simp, _, _, _, _, _, _, _, _, QSF.out.more ((Gr.refl _).drewN _)⟩
    · by_cases k3 : kind = 3
      · subst k3
        have hN := rbyte_any W1 WK1.out.pr.rd
        have hM := fun W (h : Rr W rb vr L at_ e) => rrbyte_any W h
        go_enter Try.func29, Try.ntmps29
        go_wp2_with fail
        rw [← hW1, ← hB]
        clear hW1 hB
        go_wp2_with fail
        refine hN.mono ?_
        rintro r w5 ⟨rfl, h5, k5⟩
        have RD := hid h5
        have K5 := hid k5
        have hM5 := hM w5 (WK1.out.pr.left k5)
        clear h5 k5 hN hM
        go_wp2_with fail
        refine hM5.mono ?_
        rintro r w6 ⟨v6, rfl, h6, b6, k6⟩
        have QSF : Hid (Qs w w6 pb rb dp vr L kb sl sw n V C _ _ _ _ _ _ _ _) := HW.out.fin (RD.out.kp k6 HW.out.pr.d1 (fun _ hk e => HW.out.pr.d3 (e ▸ hk))) h6 b6 ((Kp.of_gr G1.out).trans ((K5.out.mono (fun _ h => Or.inl h)).trans (k6.mono (fun _ h => Or.inr h)) (fun _ _ h => h)) (fun _ _ h => h))
        clear h6 b6 k6 hM5 RD K5
        have her := fun m => rerr_any _ (QSF.out.wk.pr.rd.gr ((Gr.refl _).drewN m))
        have hat := fun m => rat_any _ (QSF.out.wk.pr.rd.gr ((Gr.refl _).drewN m))
        have c9 := QSF.out.wk.pr.rf.c1
        have c8 := QSF.out.wk.pr.rf.c2
        have cl9 := QSF.out.wk.pr.rf.lt
        go_wp2_with fail
        go_quiet (first | (go_at_call 15; exact Calls.quiet_of_same (her _)) | (go_at_call 16; exact Calls.quiet_of_same (hat _)))
        go_wp2_with fail
        go_ret
        exact ⟨by first | rfl | simp, _, _, _, _, _, _, _, _, QSF.out.more ((Gr.refl _).drewN _)⟩
      · by_cases k4 : kind = 4
        · subst k4
          have hN := rbytes_any z W1 WK1.out.pr.rd
          have hM := fun W (h : Rr W rb vr L at_ e) => rrbytes_any z z1.out W h
          have hXL : Hid ((rbs e z (L.drop at_)).1.length ≤ L.length) := by have := cntlen e z (L.drop at_); rw [List.length_drop] at this; show (rbs e z (L.drop at_)).1.length ≤ L.length; omega
          generalize rbs e z (L.drop at_) = S at hN hM hXL
          obtain ⟨s1, s2, s3⟩ := S
          simp only at hN hM hXL
          go_enter Try.func29, Try.ntmps29
          go_wp2_with fail
          rw [← hW1, ← hB]
          clear hW1 hB
          go_wp2_with fail
          refine hN.mono ?_
          rintro r w5 ⟨a, rfl, oa, h5, k5⟩
          have RD := hid h5
          have K5 := hid k5
          have OA := hid oa
          have RR5 := hid (WK1.out.pr.left k5)
          have hM5 : ∀ Z, Gr w5 Z → _ := fun Z hg => hM Z ((WK1.out.pr.left k5).below hg.below)
          obtain ⟨pa, ca, rfl⟩ := (ow_ls (owns_base oa (Nat.zero_le _))).form
          have AGE : Hid (∀ q, (Value.slice pa s1.length ca).ownBlock = some q → W1.heap.size ≤ q ∧ q < w5.heap.size) := fun q hq => oa.lt q hq
          have hta : ∀ Z, (∀ q, q < w5.heap.size → ¬ q = rb → Z.heap[q]? = w5.heap[q]?) → w5.heap.size ≤ Z.heap.size → (convert 22 9 (.slice pa s1.length ca)).run Try.prog Z = .ok (tx s1) Z := fun Z h hz => to_text ((ow_ls (owns_base OA.out (Nat.zero_le _))).kept hz (fun q hq => h q (AGE.out q hq).2 (fun e => by have h1 := (AGE.out q hq).1; have h2 := HW.out.pr.rf.lt; have h3 := G1.out.size; omega)))
          have ta5 := hta w5.drew (fun q _ _ => rfl) (Nat.le_refl _)
          have D3 : Hid (∀ Z : World, Kp (fun k => k = rb) w5.drew Z → Z.cell? ⟨B, 3, none⟩ = some (.int .i64 z) ∧ B < Z.heap.size) := fun Z hk => ⟨(DD.out Z (fun q h1 h2 h3 => (hk.block q (Nat.lt_of_lt_of_le h1 K5.out.size) h3).trans (K5.out.block q h1 h2))).2, Nat.lt_of_lt_of_le (Nat.lt_of_lt_of_le hBl K5.out.size) hk.size⟩
          obtain ⟨x3, x4⟩ := D3.out w5.drew (Kp.refl _ _)
          have HTA := hid hta
          clear h5 k5 oa hN hM hta
          go_wp2_with fail
          go_region_with (go_at_call 52; refine (hM5 _ (Gr.refl w5).drew).mono ?_; rintro r w6 ⟨b, v6, rfl, ob, h6, b6, k6⟩; obtain ⟨pb6, cb6, rfl⟩ := (ow_ls (owns_base ob (Nat.zero_le _))).form; have tb6 := to_text (ow_ls (owns_base ob (Nat.zero_le _))); have ta6 := HTA.out w6 (fun q h1 h2 => k6.block q h1 h2) k6.size; have H6 := hid h6; have B6 := hid b6; have K6 := hid k6; obtain ⟨y3, y4⟩ := D3.out w6 k6; clear ob h6 b6 k6)
          all_goals (
            have QS6 : Hid (Qs w w6 pb rb dp vr L kb sl sw n V C _ _ _ _ _ _ _ _) := HW.out.fin (RD.out.kp ((Kp.of_gr (Gr.refl w5).drew).trans K6.out (fun _ _ h => h)) HW.out.pr.d1 (fun _ hk e => HW.out.pr.d3 (e ▸ hk))) H6.out B6.out ((Kp.of_gr G1.out).trans ((K5.out.mono (fun _ h => Or.inl h)).trans ((Kp.of_gr (Gr.refl w5).drew).trans (K6.out.mono (fun _ h => Or.inr h)) (fun _ _ h => h)) (fun _ _ h => h)) (fun _ _ h => h))
            have OA6 : Hid (Ow w6 (.slice pa s1.length ca) s1) := owns_kp ((Kp.of_gr (Gr.refl w5).drew).trans K6.out (fun _ _ h => h)) (owns_base OA.out (Nat.zero_le _)) (fun q hq e => by have h1 := (AGE.out q hq).1; have h2 := HW.out.pr.rf.lt; have h3 := G1.out.size; omega)
            have hkk := keep_any w6 QS6.out.wk.bk OA6.out (fun q hq hk => by have h1 := (AGE.out q hq).1; have h2 := INN.out q (Or.inr hk); have h3 := G1.out.size; omega) hn
            have PSB : Hid (∀ q, PS pb rb dp v6 q → PS pb rb dp vr q) := fun q hq => hq.imp id (fun h => h.imp id (fun h => h.imp id (fun h => B6.out q h)))
            clear x3 x4 y3 y4 ta5 ta6 tb6 RD RR5 K5 H6 B6 K6 hM5 HTA D3
            go_wp2_with fail
            refine hkk.mono ?_
            rintro r w9 ⟨sl9, sw9, rfl, h9, k9, x9⟩
            have QSF : Hid (Qs w w9 pb rb dp vr L kb sl sw n V C _ _ _ _ _ _ _ _) := QS6.out.keep (fun q hq => by have h1 := (AGE.out q hq).1; have h3 := G1.out.size; omega) INN.out PSB.out hXL.out h9 k9 x9
            clear h9 k9 x9 hkk QS6
            have her := fun m => rerr_any _ (QSF.out.wk.pr.rd.gr ((Gr.refl _).drewN m))
            have hat := fun m => rat_any _ (QSF.out.wk.pr.rd.gr ((Gr.refl _).drewN m))
            have c9 := QSF.out.wk.pr.rf.c1
            have c8 := QSF.out.wk.pr.rf.c2
            have cl9 := QSF.out.wk.pr.rf.lt
            go_wp2_with fail
            go_quiet (first | (go_at_call 15; exact Calls.quiet_of_same (her _)) | (go_at_call 16; exact Calls.quiet_of_same (hat _)))
            go_wp2_with fail
            go_ret
            exact ⟨by first | rfl | simp, _, _, _, _, _, _, _, _, QSF.out.more ((Gr.refl _).drewN _)⟩)
        · by_cases k6 : kind = 6
          · subst k6
            have hN := rend_any W1 WK1.out.pr.rd
            have hM := fun W (h : Rr W rb vr L at_ e) => rrend_any W h
            generalize re1 e (L.drop at_) = s3 at hN hM
            go_enter Try.func29, Try.ntmps29
            go_wp2_with fail
            rw [← hW1, ← hB]
            clear hW1 hB
            go_wp2_with fail
            refine hN.mono ?_
            rintro r w5 ⟨rfl, h5, k5⟩
            have RD := hid h5
            have K5 := hid k5
            have hM5 := hM w5 (WK1.out.pr.left k5)
            clear h5 k5 hN hM
            go_wp2_with fail
            refine hM5.mono ?_
            rintro r w6 ⟨rfl, h6, k6⟩
            have QSF : Hid (Qs w w6 pb rb dp vr L kb sl sw n V C _ _ _ _ _ _ _ _) := HW.out.fin (RD.out.kp k6 HW.out.pr.d1 (fun _ hk e => HW.out.pr.d3 (e ▸ hk))) h6 (fun _ h => h) ((Kp.of_gr G1.out).trans ((K5.out.mono (fun _ h => Or.inl h)).trans (k6.mono (fun _ h => Or.inr h)) (fun _ _ h => h)) (fun _ _ h => h))
            clear h6 k6 hM5 RD K5
            have her := fun m => rerr_any _ (QSF.out.wk.pr.rd.gr ((Gr.refl _).drewN m))
            have hat := fun m => rat_any _ (QSF.out.wk.pr.rd.gr ((Gr.refl _).drewN m))
            have c9 := QSF.out.wk.pr.rf.c1
            have c8 := QSF.out.wk.pr.rf.c2
            have cl9 := QSF.out.wk.pr.rf.lt
            go_wp2_with fail
            go_quiet (first | (go_at_call 15; exact Calls.quiet_of_same (her _)) | (go_at_call 16; exact Calls.quiet_of_same (hat _)))
            go_wp2_with fail
            go_ret
            exact ⟨by first | rfl | simp, _, _, _, _, _, _, _, _, QSF.out.more ((Gr.refl _).drewN _)⟩
          · go_enter Try.func29, Try.ntmps29
            go_wp2_with fail
            rw [← hW1, ← hB]
            clear hW1 hB
            go_wp2_with fail
            have QSF : Hid (Qs w W1 pb rb dp vr L kb sl sw n V C _ _ _ _ _ _ _ _) := HW.out.fin WK1.out.pr.rd WK1.out.pr.rf (fun _ h => h) (Kp.of_gr G1.out)
            have her := fun m => rerr_any _ (QSF.out.wk.pr.rd.gr ((Gr.refl _).drewN m))
            have hat := fun m => rat_any _ (QSF.out.wk.pr.rd.gr ((Gr.refl _).drewN m))
            have c9 := QSF.out.wk.pr.rf.c1
            have c8 := QSF.out.wk.pr.rf.c2
            have cl9 := QSF.out.wk.pr.rf.lt
            go_wp2_with fail
            go_quiet (first | (go_at_call 15; exact Calls.quiet_of_same (her _)) | (go_at_call 16; exact Calls.quiet_of_same (hat _)))
            go_wp2_with fail
            go_ret
            exact ⟨by first | rfl | simp, _, _, _, _, _, _, _, _, QSF.out.more ((Gr.refl _).drewN _)⟩
end Go.Proofs.Ytgojhhdjpkilmaa.Wi
