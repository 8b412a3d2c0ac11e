import Derived.Test.YtaaobchodbnkpaaQuPut
import Derived.Test.YtaaobchodbnkpaaLClr1
namespace Go.Proofs.Ytaaobchodbnkpaa.Qe
open Go.RowKit Go.Sort
attribute [local go_sem ↓] Go.wp_at_zero Go.wp_at_succ

section
variable {rb N C : Nat} {v : Nat → Value} {f m : Nat → Nat} {X Q : Nat → List Ms}
/-- The first one is out of the ring. -/
theorem Pb.take1 {w w3 : World} (h : Pb w rb N C v f m X Q) {i : Nat} (hi : i < N) {x : Ms} {l : List Ms} (hq : Q i = x :: l) (ho : w3.ownsRow 0 36 6 (v i) (X i).length (fl EM ((X i).set (f i) mz))) (hk : Kp (fun k => (v i).ownBlock = some k) w w3) :
    Pb ((w3.setCell ⟨rb, i * 3 + 1, none⟩ (.int .i64 (((f i + 1) % (X i).length : Nat)))).setCell ⟨rb, i * 3 + 2, none⟩ (.int .i64 ((m i - 1 : Nat)))) rb N C (upd v i (v i)) (upd f i ((f i + 1) % (X i).length)) (upd m i (m i - 1)) (upd X i ((X i).set (f i) mz)) (upd Q i l) ∧ Trn rb (v i) w ((w3.setCell ⟨rb, i * 3 + 1, none⟩ (.int .i64 (((f i + 1) % (X i).length : Nat)))).setCell ⟨rb, i * 3 + 2, none⟩ (.int .i64 ((m i - 1 : Nat)))) := by
  have hB : Bk w3 rb N C v f m := h.blk.kept (hk.block rb h.blk.lt (h.off hi))
  obtain ⟨b1, b2⟩ := hB.setF hi ((f i + 1) % (X i).length)
  obtain ⟨b3, b4⟩ := b1.setM hi (m i - 1)
  have b5 := b2.trans b4 (fun _ _ h => h)
  have hK : Trn rb (v i) w _ := (hk.mono (fun _ h => Or.inr h)).trans b5 (fun _ _ h => Or.inl h)
  have hr := (h.rn i hi)
  rw [hq] at hr
  refine ⟨h.turn hi (by rw [upd_id]; exact b3) ?_ (hr.take mz).2 (fun p n c e => by rw [List.length_set]; exact h.cap i hi p n c e) hK (fun g hg => Or.inl hg), hK⟩
  exact owns_re (owns_kp b5 ho (fun k hk e => h.off hi (e ▸ hk))) (by simp) rfl
/-- What take leaves. -/
def Tak (w : World) (rb N C : Nat) (v : Nat → Value) (f m : Nat → Nat) (X Q : Nat → List Ms) (i K : Nat) (l : List Ms) (w' : World) : Prop :=
  ∃ u f' X', Pb w' rb N C (upd v i u) (upd f i f') (upd m i (m i - 1)) (upd X i X') (upd Q i l) ∧ X'.length ≤ 2 * K + 1 ∧ Trn rb (v i) w w' ∧ ∀ g, u.ownBlock = some g → (v i).ownBlock = some g ∨ w.heap.size ≤ g
set_option maxHeartbeats 4000000 in
set_option maxRecDepth 100000 in
theorem rtake_any {i K : Nat} {x : Ms} {l : List Ms} (w : World) (h : Pb w rb N C v f m X Q) (hi : i < N) (hq : Q i = x :: l) (hX : (X i).length ≤ 2 * K + 1) (hQ : m i ≤ K) (hbig : (2 * K + 1) * 48 ≤ 281474976710656) :
    Calls Try.prog 27 #[.pointer (some ⟨rb, i * 3, none⟩)] w fun e w' => e = .returned (mv x) ∧ Hid (Tak w rb N C v f m X Q i K l w') := by
  have hmx : Try.prog.follows .mixedOrders = true := by kernel_rfl
  obtain ⟨W1, hW1⟩ : ∃ W1, W1 = w.alloc (.cells #[.int .i64 0, .int .u64 0, .int .u64 0, .int .u64 0, .int .u64 0, .int .u64 0] 36) := ⟨_, rfl⟩
  obtain ⟨b1, hb1⟩ : ∃ b1, b1 = w.heap.size := ⟨_, rfl⟩
  have G1 : Gr w W1 := by rw [hW1]; exact (Gr.refl _).alloc _
  have HBX : Hid (W1.heap[b1]? = some (.cells #[.int .i64 0, .int .u64 0, .int .u64 0, .int .u64 0, .int .u64 0, .int .u64 0] 36 (0, 0))) := by rw [hW1, hb1]; exact heap_new' _ _
  have hP1 := h.gr G1
  have HP1 := hid hP1
  have HI := hid hi
  have HG1 := hid G1
  have HQ := hid hq
  have HK : Hid ((X i).length ≤ 2 * K + 1 ∧ m i ≤ K ∧ (2 * K + 1) * 48 ≤ 281474976710656) := ⟨hX, hQ, hbig⟩
  obtain ⟨o, ho⟩ : ∃ o, o = i * 3 := ⟨_, rfl⟩
  obtain ⟨M, hM⟩ : ∃ M, M = m i := ⟨_, rfl⟩
  obtain ⟨F, hF⟩ : ∃ F, F = f i := ⟨_, rfl⟩
  obtain ⟨n, hn⟩ : ∃ n, n = (X i).length := ⟨_, rfl⟩
  have hr := h.rn i hi
  rw [hq] at hr
  have hM1 : 1 ≤ M := by have := hr.len; simp at this; omega
  have hMn : M ≤ n := by rw [hM, hn]; exact hr.le
  have hFn : F < n := by rw [hF, hn]; exact hr.flt (by omega)
  obtain ⟨g, c, hv⟩ : ∃ g c, v i = .slice (some ⟨g, 0, none⟩) n c := by
    rcases owns_form (h.own i hi) with ⟨_, e⟩ | ⟨g, cap, e, _⟩
    · omega
    · exact ⟨g, cap, by rw [hn]; exact e⟩
  have hcn : c = n := by rw [hn]; exact h.cap i hi _ _ _ hv
  rw [hcn] at hv
  clear hcn
  have c0 := hP1.blk.cv hi
  have c1 := hP1.blk.cf hi
  have c2 := hP1.blk.cm hi
  rw [← ho] at c0 c1 c2 ⊢
  rw [hv] at c0
  rw [← hM] at c2
  rw [← hF] at c1
  have hl := hP1.blk.lt
  have hx0 : (X i)[F]? = some x := by rw [hF]; exact (hr.take mz).1
  have hgl : g < W1.heap.size := ((hP1.own i hi).lt g (by rw [hv]; rfl)).2
  obtain ⟨y0, y1, y2, y3, y4, y5⟩ : Mc W1 g (0 + F * 6) x := by
    obtain ⟨b', off', c', e1, _, e2⟩ := ls_at (hP1.lst hi) hx0
    rw [hv] at e1
    cases e1
    exact e2
  simp only [Nat.zero_add] at y0 y1 y2 y3 y4 y5
  have HV := hid (And.intro hv (And.intro hM (And.intro hF hn)))
  have HO := hid ho
  have hF0 : (0 : Int) ≤ (F : Int) := by omega
  have hF1 : (F : Int) < (n : Int) := by omega
  have hFb : (F : Int) ≤ 5864062014806 := by omega
  have hMb : (M : Int) ≤ 5864062014806 := by omega
  have hM0 : (0 : Int) ≤ (M : Int) := by omega
  have hnb : n ≤ 5864062014806 := by omega
  have HRB : Hid (∀ k, (v i).ownBlock = some k → k < b1) := fun k hk => by rw [hb1]; exact h.row hi k hk
  have HRA : Hid (∀ j k, j < N → (v j).ownBlock = some k → k < b1) := fun j k hj hk => by rw [hb1]; exact h.row hj k hk
  have HW1 : Hid (w.heap.size ≤ b1 ∧ rb < b1 ∧ b1 < W1.heap.size) := ⟨by omega, by rw [hb1]; exact h.blk.lt, (Array.getElem?_eq_some_iff.1 HBX.out).1⟩
  clear h hP1 hi hX hQ hbig ho hM hF hn hv G1 hr hx0 hq
  go_enter Try.func27, Try.ntmps27
  go_upto_region 1 with fail
  rw [← hW1, ← hb1]
  clear hW1 hb1
  go_region
  obtain ⟨W2, hW2⟩ : ∃ W2, W2 = W1.alloc (.cells #[.int .i64 x.at_, .int .u64 x.a, .int .u64 x.b, .int .u64 x.c, .int .u64 x.k, .int .u64 x.v] 36) := ⟨_, rfl⟩
  obtain ⟨b2, hb2⟩ : ∃ b2, b2 = W1.heap.size := ⟨_, rfl⟩
  rw [← hW2, ← hb2]
  have G2 : Gr W1 W2.drew := by rw [hW2]; exact ((Gr.refl _).alloc _).drew
  have HB2 : Hid (W2.heap[b2]? = some (.cells #[.int .i64 x.at_, .int .u64 x.a, .int .u64 x.b, .int .u64 x.c, .int .u64 x.k, .int .u64 x.v] 36 (0, 0))) := by rw [hW2, hb2]; exact heap_new' _ _
  have HN2 : Hid (W1.heap.size ≤ b2 ∧ b2 < W2.heap.size) := ⟨by omega, (Array.getElem?_eq_some_iff.1 HB2.out).1⟩
  have HP2 := hid (HP1.out.gr G2)
  have d0 := (G2.cell hl).trans c0
  have d1 := (G2.cell hl).trans c1
  have d2 := (G2.cell hl).trans c2
  have hl2 := HP2.out.blk.lt
  have HG2 := hid G2
  have HOW : Hid (W2.drew.drew.ownsRow 0 36 6 (.slice (some ⟨g, 0, none⟩) n n) n (fl EM (X i))) := by
    have := owns_below (HP2.out.own i HI.out) (Gr.refl _).drew.below
    rw [HV.out.1, ← HV.out.2.2.2] at this
    exact this
  have HXl : Hid ((X i).length = n) := HV.out.2.2.2.symm
  have hnF : ¬ (n = F) := by omega
  have hF2 : (F : Int) + 1 ≤ (n : Int) := by omega
  have hF3 : (F : Int) ≤ (F : Int) + 1 := by omega
  have hFw : IntKind.i64.wrap ((F : Int) + 1) = (F : Int) + 1 := (Go.IntWalk.i64_left _).trans (Go.IntWalk.wrap64_in _ ⟨by omega, by omega⟩)
  have hF4 : ((F : Int) + 1 - (F : Int)).toNat = 1 := by omega
  clear c0 c1 c2 y0 y1 y2 y3 y4 y5 G2 hW2 hb2
  go_wp2_with fail
  go_cut [] from 14 to 27 (fun w' => Hid (w'.ownsRow 0 36 6 (.slice (some ⟨g, 0, none⟩) n n) n (fl EM ((X i).set F mz)) ∧ Kp (fun j => j = g) W2.drew w'))
  case first =>
    go_region_law (refine step_clear1 EM Try.underlying22 zeroM mz zcM rfl _ rfl 0 g n n F (F * 6) (n - F) (X i) (by first | rfl | (go_simp; done)) rfl HOW.out HXl.out (by omega) ?_
                   intro w3 ho3 hk3)
    all_goals (
      go_wp2_with fail
      go_meet
      exact ⟨ho3.out, (Kp.of_gr (Gr.refl _).drew).trans (T := fun j => j = g) hk3.out (fun _ _ h => h)⟩)
  case rest =>
  obtain ⟨w3, hw3⟩ : ∃ w3, w3 = wc := ⟨_, rfl⟩
  subst hw3
  have ho3 := hid hcut.out.1
  have hKd := hid hcut.out.2
  clear hcut
  have hgr : rb ≠ g := fun e => HP2.out.off HI.out (by rw [HV.out.1, e]; rfl)
  have e0 := (hKd.out.cell hl2 (o := o) hgr).trans d0
  have e1 := (hKd.out.cell hl2 (o := o + 1) hgr).trans d1
  have e2 := (hKd.out.cell hl2 (o := o + 2) hgr).trans d2
  have HB3 := hid (HP2.out.blk.kept (hKd.out.block rb hl2 hgr))
  have f1 := HB3.out.fz (o + 1)
  have f2 := HB3.out.fz (o + 2)
  have hl3 := HB3.out.lt
  obtain ⟨J, hJ⟩ : ∃ J, J = (F + 1) % n := ⟨_, rfl⟩
  have hat := at_any 1 w3 hl3 e0 e1 (by omega) (by omega) (by omega)
  rw [← hJ] at hat
  have HJ := hid hJ
  obtain ⟨M1, hM1'⟩ : ∃ M1, M1 = M - 1 := ⟨_, rfl⟩
  have hMs : (M : Int) - 1 = (M1 : Int) := by omega
  have hMw : IntKind.i64.wrap ((M : Int) - 1) = (M1 : Int) := by rw [hMs]; exact (Go.IntWalk.i64_left _).trans (Go.IntWalk.wrap64_in _ ⟨by omega, by omega⟩)
  have HM1 : Hid (M1 = m i - 1) := by rw [hM1', HV.out.2.1]; exact rfl
  clear hJ d0 d1 d2 hM1'
  go_wp2_with fail
  refine hat.mono ?_
  rintro e w4 ⟨rfl, q4, hq4⟩
  have hG4 : Gr w3 w4 := by rw [hq4]; exact (Gr.refl _).drewN _
  clear hq4 hat
  have k0 := (hG4.cell hl3).trans e0
  have k1 := (hG4.cell hl3).trans e1
  have k2 := (hG4.cell hl3).trans e2
  have g1 := (hG4.frozen hl3).trans f1
  have g2 := (hG4.frozen hl3).trans f2
  have hl4 := Nat.lt_of_lt_of_le hl3 hG4.size
  have HKW : Hid (Kp (fun j => j = g) W2.drew w4) := hKd.out.trans (T := fun j => j = g) (Kp.of_gr hG4) (fun _ _ h => h)
  have HO4 : Hid (w4.ownsRow 0 36 6 (.slice (some ⟨g, 0, none⟩) n n) n (fl EM ((X i).set F mz))) := owns_below ho3.out hG4.below
  clear e0 e1 e2 f1 f2 hG4 ho3
  go_wp2_with fail
  have HFin : Hid (Pb ((w4.setCell ⟨rb, o + 1, none⟩ (.int .i64 (J : Nat))).setCell ⟨rb, o + 2, none⟩ (.int .i64 (M1 : Nat))) rb N C (upd v i (v i)) (upd f i ((f i + 1) % (X i).length)) (upd m i (m i - 1)) (upd X i ((X i).set (f i) mz)) (upd Q i l) ∧ Trn rb (v i) W2.drew ((w4.setCell ⟨rb, o + 1, none⟩ (.int .i64 (J : Nat))).setCell ⟨rb, o + 2, none⟩ (.int .i64 (M1 : Nat)))) := by
    rw [HO.out, HM1.out, HJ.out, HV.out.2.2.1, HV.out.2.2.2]
    refine HP2.out.take1 HI.out HQ.out ?_ (HKW.out.mono (fun k e => by rw [HV.out.1, e]; rfl))
    rw [HV.out.1, ← HV.out.2.2.2, ← HV.out.2.2.1]
    exact HO4.out
  generalize (w4.setCell ⟨rb, o + 1, none⟩ (.int .i64 (J : Nat))).setCell ⟨rb, o + 2, none⟩ (.int .i64 (M1 : Nat)) = W5 at HFin ⊢
  have n0 : W5.cell? ⟨rb, o, none⟩ = some (.slice (some ⟨g, 0, none⟩) n n) := by
    have := HFin.out.1.blk.cv HI.out
    rw [upd_self, HV.out.1, ← HO.out] at this
    exact this
  have n2 : W5.cell? ⟨rb, o + 2, none⟩ = some (.int .i64 (M1 : Nat)) := by
    have := HFin.out.1.blk.cm HI.out
    rw [upd_self, ← HM1.out, ← HO.out] at this
    exact this
  have hl5 := HFin.out.1.blk.lt
  have hM1b : (M1 : Int) ≤ 5864062014806 := by omega
  have hM10 : (0 : Int) ≤ (M1 : Int) := by omega
  have hw4 : IntKind.i64.wrap (4 * (M1 : Int)) = 4 * (M1 : Int) := (Go.IntWalk.i64_left _).trans (Go.IntWalk.wrap64_in _ ⟨by omega, by omega⟩)
  have hw2 : IntKind.i64.wrap (2 * (M1 : Int)) = 2 * (M1 : Int) := (Go.IntWalk.i64_left _).trans (Go.IntWalk.wrap64_in _ ⟨by omega, by omega⟩)
  have HX5 : Hid (((X i).set (f i) mz).length ≤ 2 * K + 1) := by rw [List.length_set]; exact HK.out.1
  have HBB : Hid (∀ W : World, Kp (fun k => k = rb ∨ (v i).ownBlock = some k) W2.drew W → W.heap[b1]? = some (.cells #[.int .i64 0, .int .u64 0, .int .u64 0, .int .u64 0, .int .u64 0, .int .u64 0] 36 (0, 0)) ∧ W.heap[b2]? = some (.cells #[.int .i64 x.at_, .int .u64 x.a, .int .u64 x.b, .int .u64 x.c, .int .u64 x.k, .int .u64 x.v] 36 (0, 0))) := by
    intro W hW
    have hne : ∀ b cs, W2.drew.heap[b]? = some (.cells cs 36 (0, 0)) → (∀ k, (v i).ownBlock = some k → k ≠ b) → W.heap[b]? = some (.cells cs 36 (0, 0)) := by
      intro b cs hb hk
      refine (hW.block b (Array.getElem?_eq_some_iff.1 hb).1 (fun e => ?_)).trans hb
      rcases e with e | e
      · obtain ⟨cs2, h2, _⟩ := HP2.out.blk
        rw [e, h2] at hb
        simp at hb
      · exact hk b e rfl
    have h1 : W2.drew.heap[b1]? = some (.cells #[.int .i64 0, .int .u64 0, .int .u64 0, .int .u64 0, .int .u64 0, .int .u64 0] 36 (0, 0)) := (HG2.out.below.block b1 (Array.getElem?_eq_some_iff.1 HBX.out).1).trans HBX.out
    refine ⟨hne _ _ h1 (fun k hk e => ?_), hne _ _ HB2.out (fun k hk e => ?_)⟩
    · have := HRB.out k hk; omega
    · have := HP1.out.row HI.out k hk; have := HN2.out.1; omega
  clear k0 k1 k2 g1 g2 hMs hMw hl4 HO4
  by_cases hE : 4 * M1 ≤ n

  · have hEz : 4 * (M1 : Int) ≤ (n : Int) := by omega
    have hmv : ∀ (W : World) (z : Int), Gr W5 W → z = 2 * (M1 : Int) → Calls Try.prog 34 #[.pointer (some ⟨rb, o, none⟩), .int .i64 z] W fun e w' => e = .returned (.tuple #[]) ∧ Hid (∃ u, Pb w' rb N C (upd v i u) (upd f i 0) (upd m i (m i - 1)) (upd X i (l ++ List.replicate (2 * M1 - (m i - 1)) mz)) (upd Q i l) ∧ Kp (fun k => k = rb) W w' ∧ ∀ g, u.ownBlock = some g → W.heap.size ≤ g) := by
      intro W z hg hz
      have h1 := move_any (i := i) (2 * M1) W (HFin.out.1.gr hg) HI.out (by rw [upd_self]; have := HX5.out; have := HK.out.2.2; omega) (by rw [upd_self]; have := HM1.out; omega) (by have := HK.out; have := HM1.out; omega)
      simp only [upd_self, upd_upd] at h1
      rw [hz, HO.out]
      exact h1
    go_wp2_with fail
    go_quiet (fail)
    go_wp2_with fail
    refine (hmv _ _ ((Gr.refl _).drewN _) (by first | rfl | omega)).mono ?_
    rintro e W6 ⟨rfl, hR6⟩
    have HT6 : Hid (∃ u f' X', Pb W6 rb N C (upd v i u) (upd f i f') (upd m i (m i - 1)) (upd X i X') (upd Q i l) ∧ X'.length ≤ 2 * K + 1 ∧ Kp (fun k => k = rb ∨ (v i).ownBlock = some k) W2.drew W6 ∧ ∀ g, u.ownBlock = some g → (v i).ownBlock = some g ∨ W2.drew.heap.size ≤ g) := by
      obtain ⟨u, s1, s2, s3⟩ := hR6.out
      have hk5 : Kp (fun k => k = rb ∨ (v i).ownBlock = some k) W2.drew W6 := HFin.out.2.trans (T := fun k => k = rb) ((Kp.of_gr ((Gr.refl _).drewN _)).trans (T := fun k => k = rb) s2 (fun _ _ h => h)) (fun _ _ h => Or.inl h)
      refine ⟨u, _, _, s1, ?_, hk5, fun k hk => Or.inr (Nat.le_trans (Nat.le_trans HFin.out.2.size ((Gr.refl W5).drewN _).size) (s3 k hk))⟩
      have h1 := (HP1.out.rn i HI.out).len
      rw [HQ.out, List.length_cons] at h1
      rw [List.length_append, List.length_replicate]
      have := HM1.out
      have := HK.out.2.1
      omega
    clear hR6 hmv n0 n2 hw4 hw2 hEz hE hl5
    obtain ⟨hq1, hq2⟩ := HBB.out W6 (by obtain ⟨u, f', X', _, _, h3, _⟩ := HT6.out; exact h3)
    have p0 : Mc W6 b2 0 x := by simp [Mc, World.cell?, hq2]
    obtain ⟨p0, p1, p2, p3, p4, p5⟩ := p0
    have fz1 : ∀ q, W6.frozen? ⟨b1, q, none⟩ = false := fun q => by simp [World.frozen?, hq1]
    have z0 : Mc W6 b1 0 mz := by simp [Mc, World.cell?, hq1]
    obtain ⟨z0, z1, z2, z3, z4, z5⟩ := z0
    have lb1 := (Array.getElem?_eq_some_iff.1 hq1).1
    have lb2 := (Array.getElem?_eq_some_iff.1 hq2).1
    have HQ1 := hid hq1
    clear hq1 hq2
    go_wp2_with fail
    obtain ⟨a0, t0, _⟩ := setCell_blk (k := 0) (v := .int .i64 x.at_) HQ1.out
    obtain ⟨a1, t1, _⟩ := setCell_blk (k := 1) (v := .int .u64 x.a) a0
    obtain ⟨a2, t2, _⟩ := setCell_blk (k := 2) (v := .int .u64 x.b) a1
    obtain ⟨a3, t3, _⟩ := setCell_blk (k := 3) (v := .int .u64 x.c) a2
    obtain ⟨a4, t4, _⟩ := setCell_blk (k := 4) (v := .int .u64 x.k) a3
    obtain ⟨a5, t5, _⟩ := setCell_blk (k := 5) (v := .int .u64 x.v) a4
    have HK7 := hid (((((t0.trans t1 (fun _ _ h => h)).trans t2 (fun _ _ h => h)).trans t3 (fun _ _ h => h)).trans t4 (fun _ _ h => h)).trans t5 (fun _ _ h => h))
    generalize ((((((W6.setCell ⟨b1, 0, none⟩ (.int .i64 x.at_)).setCell ⟨b1, 1, none⟩ (.int .u64 x.a)).setCell ⟨b1, 2, none⟩ (.int .u64 x.b)).setCell ⟨b1, 3, none⟩ (.int .u64 x.c)).setCell ⟨b1, 4, none⟩ (.int .u64 x.k)).setCell ⟨b1, 5, none⟩ (.int .u64 x.v)) = W7 at *
    obtain ⟨r0, r1, r2, r3, r4, r5⟩ : Mc W7 b1 0 x := by simp [Mc, World.cell?, a5]
    clear a0 a1 a2 a3 a4 a5 t0 t1 t2 t3 t4 t5
    refine bodyPost_ret (v := mv x) (by simp [results, Try.results27, go_sem, r0, r1, r2, r3, r4, r5]) rfl ?_
    refine ⟨rfl, ?_⟩
    obtain ⟨u, f', X', h1, h2, h3, h4⟩ := HT6.out
    have hb1w : w.heap.size ≤ b1 := HW1.out.1
    have hT : Trn rb (v i) w W6 := (Kp.of_gr (HG1.out.trans HG2.out)).trans (T := fun k => k = rb ∨ (v i).ownBlock = some k) h3 (fun _ _ h => h)
    refine ⟨u, f', X', h1.kp HK7.out (fun e => ?_) (fun j k hj hk e => ?_), h2, hT.trans HK7.out (fun j hj e => by omega), fun k hk => ?_⟩
    · have := HW1.out.2.1; omega
    · by_cases ej : j = i
      · subst ej
        rw [upd_self] at hk
        rcases h4 k hk with h5 | h5
        · have := HRB.out k h5; omega
        · have := HW1.out.2.2; have := HG2.out.size; omega
      · rw [upd_ne _ _ ej] at hk
        have := HRA.out j k hj hk
        omega
    · rcases h4 k hk with h5 | h5
      · exact Or.inl h5
      · exact Or.inr (Nat.le_trans (Nat.le_trans HG1.out.size HG2.out.size) h5)
  · have hEz : ¬ (4 * (M1 : Int) ≤ (n : Int)) := by omega
    go_wp2_with fail
    go_quiet (fail)
    go_upto_region 7 with fail
    obtain ⟨W6, hW6⟩ : ∃ W6, W6 = W5.drewN nq := ⟨_, rfl⟩
    rw [← hW6]
    have hG6 : Gr W5 W6 := by rw [hW6]; exact (Gr.refl _).drewN _
    have HT6 : Hid (∃ u f' X', Pb W6 rb N C (upd v i u) (upd f i f') (upd m i (m i - 1)) (upd X i X') (upd Q i l) ∧ X'.length ≤ 2 * K + 1 ∧ Kp (fun k => k = rb ∨ (v i).ownBlock = some k) W2.drew W6 ∧ ∀ g, u.ownBlock = some g → (v i).ownBlock = some g ∨ W2.drew.heap.size ≤ g) :=
      ⟨_, _, _, HFin.out.1.gr hG6, HX5.out, HFin.out.2.trans (T := fun _ => False) (Kp.of_gr hG6) (fun _ _ h => h.elim), fun k hk => Or.inl hk⟩
    clear hW6 hG6 n0 n2 hw4 hw2 hEz hE hl5
    obtain ⟨hq1, hq2⟩ := HBB.out W6 (by obtain ⟨u, f', X', _, _, h3, _⟩ := HT6.out; exact h3)
    have p0 : Mc W6 b2 0 x := by simp [Mc, World.cell?, hq2]
    obtain ⟨p0, p1, p2, p3, p4, p5⟩ := p0
    have fz1 : ∀ q, W6.frozen? ⟨b1, q, none⟩ = false := fun q => by simp [World.frozen?, hq1]
    have z0 : Mc W6 b1 0 mz := by simp [Mc, World.cell?, hq1]
    obtain ⟨z0, z1, z2, z3, z4, z5⟩ := z0
    have lb1 := (Array.getElem?_eq_some_iff.1 hq1).1
    have lb2 := (Array.getElem?_eq_some_iff.1 hq2).1
    have HQ1 := hid hq1
    clear hq1 hq2
    go_wp2_with fail
    obtain ⟨a0, t0, _⟩ := setCell_blk (k := 0) (v := .int .i64 x.at_) HQ1.out
    obtain ⟨a1, t1, _⟩ := setCell_blk (k := 1) (v := .int .u64 x.a) a0
    obtain ⟨a2, t2, _⟩ := setCell_blk (k := 2) (v := .int .u64 x.b) a1
    obtain ⟨a3, t3, _⟩ := setCell_blk (k := 3) (v := .int .u64 x.c) a2
    obtain ⟨a4, t4, _⟩ := setCell_blk (k := 4) (v := .int .u64 x.k) a3
    obtain ⟨a5, t5, _⟩ := setCell_blk (k := 5) (v := .int .u64 x.v) a4
    have HK7 := hid (((((t0.trans t1 (fun _ _ h => h)).trans t2 (fun _ _ h => h)).trans t3 (fun _ _ h => h)).trans t4 (fun _ _ h => h)).trans t5 (fun _ _ h => h))
    generalize ((((((W6.setCell ⟨b1, 0, none⟩ (.int .i64 x.at_)).setCell ⟨b1, 1, none⟩ (.int .u64 x.a)).setCell ⟨b1, 2, none⟩ (.int .u64 x.b)).setCell ⟨b1, 3, none⟩ (.int .u64 x.c)).setCell ⟨b1, 4, none⟩ (.int .u64 x.k)).setCell ⟨b1, 5, none⟩ (.int .u64 x.v)) = W7 at *
    obtain ⟨r0, r1, r2, r3, r4, r5⟩ : Mc W7 b1 0 x := by simp [Mc, World.cell?, a5]
    clear a0 a1 a2 a3 a4 a5 t0 t1 t2 t3 t4 t5
    refine bodyPost_ret (v := mv x) (by simp [results, Try.results27, go_sem, r0, r1, r2, r3, r4, r5]) rfl ?_
    refine ⟨rfl, ?_⟩
    obtain ⟨u, f', X', h1, h2, h3, h4⟩ := HT6.out
    have hb1w : w.heap.size ≤ b1 := HW1.out.1
    have hT : Trn rb (v i) w W6 := (Kp.of_gr (HG1.out.trans HG2.out)).trans (T := fun k => k = rb ∨ (v i).ownBlock = some k) h3 (fun _ _ h => h)
    refine ⟨u, f', X', h1.kp HK7.out (fun e => ?_) (fun j k hj hk e => ?_), h2, hT.trans HK7.out (fun j hj e => by omega), fun k hk => ?_⟩
    · have := HW1.out.2.1; omega
    · by_cases ej : j = i
      · subst ej
        rw [upd_self] at hk
        rcases h4 k hk with h5 | h5
        · have := HRB.out k h5; omega
        · have := HW1.out.2.2; have := HG2.out.size; omega
      · rw [upd_ne _ _ ej] at hk
        have := HRA.out j k hj hk
        omega
    · rcases h4 k hk with h5 | h5
      · exact Or.inl h5
      · exact Or.inr (Nat.le_trans (Nat.le_trans HG1.out.size HG2.out.size) h5)
end
end Go.Proofs.Ytaaobchodbnkpaa.Qe
