import Derived.Test.YtaaobchodbnkpaaQuMove
import Derived.Test.YtaaobchodbnkpaaLSet
namespace Go.Proofs.Ytaaobchodbnkpaa.Qe
open Go.RowKit Go.Sort
attribute [local go_sem ↓] Go.wp_at_zero Go.wp_at_succ

theorem fl_set6 {T : List Ms} {j : Nat} {o : Ms} (h : T[j]? = some o) (y : Ms) : ((((((fl EM T).set (j * 6) (.int .i64 y.at_)).set (j * 6 + 1) (.int .u64 y.a)).set (j * 6 + 2) (.int .u64 y.b)).set (j * 6 + 3) (.int .u64 y.c)).set (j * 6 + 4) (.int .u64 y.k)).set (j * 6 + 5) (.int .u64 y.v) = fl EM (T.set j y) := by
  have hj := (List.getElem?_eq_some_iff.1 h).1
  obtain ⟨o0, o1, o2, o3, o4, o5⟩ := o
  obtain ⟨y0, y1, y2, y3, y4, y5⟩ := y
  have s0 := fl_setC EM T j 0 _ ⟨y0, o1, o2, o3, o4, o5⟩ (.int .i64 y0) h (by decide) rfl
  have g0 : (T.set j ⟨y0, o1, o2, o3, o4, o5⟩)[j]? = some ⟨y0, o1, o2, o3, o4, o5⟩ := by rw [List.getElem?_set_self hj]
  have s1 := fl_setC EM _ j 1 _ ⟨y0, y1, o2, o3, o4, o5⟩ (.int .u64 y1) g0 (by decide) rfl
  rw [List.set_set] at s1
  have g1 : (T.set j ⟨y0, y1, o2, o3, o4, o5⟩)[j]? = some ⟨y0, y1, o2, o3, o4, o5⟩ := by rw [List.getElem?_set_self hj]
  have s2 := fl_setC EM _ j 2 _ ⟨y0, y1, y2, o3, o4, o5⟩ (.int .u64 y2) g1 (by decide) rfl
  rw [List.set_set] at s2
  have g2 : (T.set j ⟨y0, y1, y2, o3, o4, o5⟩)[j]? = some ⟨y0, y1, y2, o3, o4, o5⟩ := by rw [List.getElem?_set_self hj]
  have s3 := fl_setC EM _ j 3 _ ⟨y0, y1, y2, y3, o4, o5⟩ (.int .u64 y3) g2 (by decide) rfl
  rw [List.set_set] at s3
  have g3 : (T.set j ⟨y0, y1, y2, y3, o4, o5⟩)[j]? = some ⟨y0, y1, y2, y3, o4, o5⟩ := by rw [List.getElem?_set_self hj]
  have s4 := fl_setC EM _ j 4 _ ⟨y0, y1, y2, y3, y4, o5⟩ (.int .u64 y4) g3 (by decide) rfl
  rw [List.set_set] at s4
  have g4 : (T.set j ⟨y0, y1, y2, y3, y4, o5⟩)[j]? = some ⟨y0, y1, y2, y3, y4, o5⟩ := by rw [List.getElem?_set_self hj]
  have s5 := fl_setC EM _ j 5 _ ⟨y0, y1, y2, y3, y4, y5⟩ (.int .u64 y5) g4 (by decide) rfl
  rw [List.set_set] at s5
  have e6 : EM.k = 6 := rfl
  rw [e6, Nat.add_zero] at s0
  rw [e6] at s1 s2 s3 s4 s5
  simp only
  rw [s0, s1, s2, s3, s4, s5]
/-- One element of an own row is set. -/
theorem owns_set6 {w : World} {base g n cap j : Nat} {T : List Ms} (h : w.ownsRow base 36 6 (.slice (some ⟨g, 0, none⟩) n cap) n (fl EM T)) {o : Ms} (hj : T[j]? = some o) (x : Ms) :
    ((((((w.setCell ⟨g, j * 6, none⟩ (.int .i64 x.at_)).setCell ⟨g, j * 6 + 1, none⟩ (.int .u64 x.a)).setCell ⟨g, j * 6 + 2, none⟩ (.int .u64 x.b)).setCell ⟨g, j * 6 + 3, none⟩ (.int .u64 x.c)).setCell ⟨g, j * 6 + 4, none⟩ (.int .u64 x.k)).setCell ⟨g, j * 6 + 5, none⟩ (.int .u64 x.v)).ownsRow base 36 6 (.slice (some ⟨g, 0, none⟩) n cap) n (fl EM (T.set j x)) ∧ Kp (fun k => k = g) w ((((((w.setCell ⟨g, j * 6, none⟩ (.int .i64 x.at_)).setCell ⟨g, j * 6 + 1, none⟩ (.int .u64 x.a)).setCell ⟨g, j * 6 + 2, none⟩ (.int .u64 x.b)).setCell ⟨g, j * 6 + 3, none⟩ (.int .u64 x.c)).setCell ⟨g, j * 6 + 4, none⟩ (.int .u64 x.k)).setCell ⟨g, j * 6 + 5, none⟩ (.int .u64 x.v)) := by
  obtain ⟨h0, k0⟩ := owns_setC h (j * 6) (.int .i64 x.at_)
  obtain ⟨h1, k1⟩ := owns_setC h0 (j * 6 + 1) (.int .u64 x.a)
  obtain ⟨h2, k2⟩ := owns_setC h1 (j * 6 + 2) (.int .u64 x.b)
  obtain ⟨h3, k3⟩ := owns_setC h2 (j * 6 + 3) (.int .u64 x.c)
  obtain ⟨h4, k4⟩ := owns_setC h3 (j * 6 + 4) (.int .u64 x.k)
  obtain ⟨h5, k5⟩ := owns_setC h4 (j * 6 + 5) (.int .u64 x.v)
  rw [fl_set6 hj] at h5
  exact ⟨h5, ((((k0.trans k1 (fun _ _ h => h)).trans k2 (fun _ _ h => h)).trans k3 (fun _ _ h => h)).trans k4 (fun _ _ h => h)).trans k5 (fun _ _ h => h)⟩
section
variable {rb N C : Nat} {v : Nat → Value} {f m : Nat → Nat} {X Q : Nat → List Ms}
/-- What a call may turn of a ring. -/
def Trn (rb : Nat) (v : Value) (w w' : World) : Prop := Kp (fun k => k = rb ∨ v.ownBlock = some k) w w'
/-- One more is in the ring. -/
theorem Pb.put1 {w w3 : World} (h : Pb w rb N C v f m X Q) {i : Nat} (hi : i < N) (hlt : m i < (X i).length) {x : Ms} (ho : w3.ownsRow 0 36 6 (v i) (X i).length (fl EM ((X i).set ((f i + m i) % (X i).length) x))) (hk : Kp (fun k => (v i).ownBlock = some k) w w3) :
    Pb (w3.setCell ⟨rb, i * 3 + 2, none⟩ (.int .i64 ((m i + 1 : Nat)))) rb N C (upd v i (v i)) (upd f i (f i)) (upd m i (m i + 1)) (upd X i ((X i).set ((f i + m i) % (X i).length) x)) (upd Q i (Q i ++ [x])) ∧ Trn rb (v i) w (w3.setCell ⟨rb, i * 3 + 2, none⟩ (.int .i64 ((m i + 1 : Nat)))) := by
  have hB : Bk w3 rb N C v f m := h.blk.kept (hk.block rb h.blk.lt (h.off hi))
  obtain ⟨b1, b2⟩ := hB.setM hi (m i + 1)
  have hK : Trn rb (v i) w (w3.setCell ⟨rb, i * 3 + 2, none⟩ (.int .i64 ((m i + 1 : Nat)))) := (hk.mono (fun _ h => Or.inr h)).trans b2 (fun _ _ h => Or.inl h)
  refine ⟨h.turn hi (by rw [upd_id, upd_id]; exact b1) ?_ ((h.rn i hi).put hlt x) (fun p n c e => by rw [List.length_set]; exact h.cap i hi p n c e) hK (fun g hg => Or.inl hg), hK⟩
  exact owns_re (owns_kp b2 ho (fun k hk e => h.off hi (e ▸ hk))) (by simp) rfl
/-- What put leaves. -/
def Put (w : World) (rb N C : Nat) (v : Nat → Value) (f m : Nat → Nat) (X Q : Nat → List Ms) (i K : Nat) (x : Ms) (w' : World) : Prop :=
  ∃ u f' X', Pb w' rb N C (upd v i u) (upd f i f') (upd m i (m i + 1)) (upd X i X') (upd Q i (Q i ++ [x])) ∧ X'.length ≤ 2 * K + 1 ∧ Trn rb (v i) w w' ∧ ∀ g, u.ownBlock = some g → (v i).ownBlock = some g ∨ w.heap.size ≤ g
/-- How the ring stands ahead of the put: as it was, or moved. -/
def Nxt (w : World) (rb N C : Nat) (v : Nat → Value) (f m : Nat → Nat) (X Q : Nat → List Ms) (i K : Nat) (w1 : World) (v1 : Nat → Value) (f1 m1 : Nat → Nat) (X1 Q1 : Nat → List Ms) : Prop :=
  Pb w1 rb N C v1 f1 m1 X1 Q1 ∧ (∀ z, upd v1 i z = upd v i z) ∧ (∀ z, upd f1 i z = upd f i z) ∧ (∀ z, upd m1 i z = upd m i z) ∧ (∀ z, upd X1 i z = upd X i z) ∧ (∀ z, upd Q1 i z = upd Q i z) ∧ m1 i = m i ∧ Q1 i = Q i ∧ m1 i < (X1 i).length ∧ (X1 i).length ≤ 2 * K + 1 ∧ Kp (fun k => k = rb) w w1 ∧ ∀ g, (v1 i).ownBlock = some g → (v i).ownBlock = some g ∨ w.heap.size ≤ g
theorem Nxt.put {w w1 w2 : World} {i K : Nat} {x : Ms} {v1 : Nat → Value} {f1 m1 : Nat → Nat} {X1 Q1 : Nat → List Ms} (h : Nxt w rb N C v f m X Q i K w1 v1 f1 m1 X1 Q1) (hP : Pb w2 rb N C (upd v1 i (v1 i)) (upd f1 i (f1 i)) (upd m1 i (m1 i + 1)) (upd X1 i ((X1 i).set ((f1 i + m1 i) % (X1 i).length) x)) (upd Q1 i (Q1 i ++ [x]))) (hT : Trn rb (v1 i) w1 w2) : Put w rb N C v f m X Q i K x w2 := by
  obtain ⟨h0, e1, e2, e3, e4, e5, e6, e7, h1, h2, h3, h4⟩ := h
  rw [e1, e2, e3, e4, e5, e6, e7] at hP
  refine ⟨_, _, _, hP, by simpa using h2, h3.mono (fun _ h => Or.inl h) |>.trans hT (fun j hj ht => ?_), h4⟩
  rcases ht with ht | ht
  · exact Or.inl ht
  · rcases h4 j ht with h5 | h5
    · exact Or.inr h5
    · omega
set_option maxHeartbeats 4000000 in
set_option maxRecDepth 100000 in
theorem rput_any {i K : Nat} (x : Ms) (w : World) (h : Pb w rb N C v f m X Q) (hi : i < N) (hX : (X i).length ≤ 2 * K + 1) (hQ : m i ≤ K) (hbig : (2 * K + 1) * 48 ≤ 281474976710656) :
    Calls Try.prog 26 #[.pointer (some ⟨rb, i * 3, none⟩), mv x] w fun e w' => e = .returned (.tuple #[]) ∧ Hid (Put w rb N C v f m X Q i K x w') := by
  have hmx : Try.prog.follows .mixedOrders = true := by kernel_rfl
  obtain ⟨W1, hW1⟩ : ∃ W1, W1 = w.alloc (.cells #[.int .i64 x.at_, .int .u64 x.a, .int .u64 x.b, .int .u64 x.c, .int .u64 x.k, .int .u64 x.v] 36) := ⟨_, rfl⟩
  obtain ⟨b1, hb1⟩ : ∃ b1, b1 = w.heap.size := ⟨_, rfl⟩
  have G1 : Gr w W1 := by rw [hW1]; exact (Gr.refl _).alloc _
  have HBX : Hid (W1.heap[b1]? = some (.cells #[.int .i64 x.at_, .int .u64 x.a, .int .u64 x.b, .int .u64 x.c, .int .u64 x.k, .int .u64 x.v] 36 (0, 0))) := by rw [hW1, hb1]; exact heap_new' _ _
  have hP1 := h.gr G1
  have HP1 := hid hP1
  have HI := hid hi
  have HG1 := hid G1
  have HK : Hid ((X i).length ≤ 2 * K + 1 ∧ m i ≤ K ∧ (2 * K + 1) * 48 ≤ 281474976710656) := ⟨hX, hQ, hbig⟩
  obtain ⟨o, ho⟩ : ∃ o, o = i * 3 := ⟨_, rfl⟩
  obtain ⟨M, hM⟩ : ∃ M, M = m i := ⟨_, rfl⟩
  obtain ⟨p, n, c, hv⟩ : ∃ p n c, v i = .slice p n c := by
    rcases owns_form (h.own i hi) with ⟨e, _⟩ | ⟨g, cap, e, _⟩
    · exact ⟨_, _, _, e⟩
    · exact ⟨_, _, _, e⟩
  have hn : n = (X i).length := by
    rcases owns_form (h.own i hi) with ⟨e, e2⟩ | ⟨g, cap, e, _⟩
    · rw [hv] at e; cases e; exact e2.symm
    · rw [hv] at e; cases e; rfl
  have c0 := hP1.blk.cv hi
  have c2 := hP1.blk.cm hi
  rw [← ho] at c0 c2 ⊢
  rw [hv] at c0
  rw [← hM] at c2
  have hl := hP1.blk.lt
  have HO := hid ho
  have HM := hid hM
  have HN := hid hn
  have hMb : (M : Int) ≤ 5864062014806 := by omega
  have hMl := (h.rn i hi).le
  rw [← hM, ← hn] at hMl
  clear h hP1 hi hX hQ hbig ho hM hn hv G1
  go_enter Try.func26, Try.ntmps26
  go_upto_region 1 with fail
  rw [← hW1, ← hb1]
  clear hW1 hb1
  by_cases hE : M = n
  · have hEb : ((M : Int) == (n : Int)) = true := by simp [hE]
    have hmv : ∀ (W : World) (z : Int), Gr W1 W → z = 2 * (M : Int) + 1 → Calls Try.prog 34 #[.pointer (some ⟨rb, o, none⟩), .int .i64 z] W fun e w' => e = .returned (.tuple #[]) ∧ Hid (∃ u, Pb w' rb N C (upd v i u) (upd f i 0) (upd m i (m i)) (upd X i (Q i ++ List.replicate (2 * M + 1 - m i) mz)) (upd Q i (Q i)) ∧ Kp (fun k => k = rb) W w' ∧ ∀ g, u.ownBlock = some g → W.heap.size ≤ g) := by
      intro W z hg hz
      have h1 := move_any (2 * M + 1) W (HP1.out.gr hg) HI.out (by have := HK.out; omega) (by have := HM.out; omega) (by have := HK.out; have := HM.out; omega)
      rw [hz, HO.out]
      exact h1
    have hwr : IntKind.i64.wrap (2 * (M : Int)) = 2 * (M : Int) := (Go.IntWalk.i64_left _).trans (Go.IntWalk.wrap64_in _ ⟨by omega, by omega⟩)
    have hwr2 : IntKind.i64.wrap (2 * (M : Int) + 1) = 2 * (M : Int) + 1 := (Go.IntWalk.i64_left _).trans (Go.IntWalk.wrap64_in _ ⟨by omega, by omega⟩)
    go_wp2_with fail
    go_quiet (fail)
    go_wp2_with fail
    refine (hmv _ _ ((Gr.refl _).drewN _) (by first | rfl | omega)).mono ?_
    rintro e W2 ⟨rfl, hR2⟩
    obtain ⟨v1, f1, m1, X1, Q1, HNX⟩ : ∃ v1 f1 m1 X1 Q1, Hid (Nxt w rb N C v f m X Q i K W2 v1 f1 m1 X1 Q1) := by
      obtain ⟨u, r1, r2, r3⟩ := hR2.out
      have hk0 : Kp (fun k => k = rb) w W2 := (Kp.of_gr (HG1.out.drewN _)).trans (T := fun k => k = rb) r2 (fun _ _ h => h)
      refine ⟨_, _, _, _, _, r1, fun _ => upd_upd _ _ _ _, fun _ => upd_upd _ _ _ _, fun _ => upd_upd _ _ _ _, fun _ => upd_upd _ _ _ _, fun _ => upd_upd _ _ _ _, upd_self _ _ _, upd_self _ _ _, ?_, ?_, hk0, fun g hg => Or.inr ?_⟩
      · rw [upd_self, upd_self, List.length_append, (HP1.out.rn i HI.out).len, List.length_replicate]
        have := HM.out
        omega
      · rw [upd_self, List.length_append, (HP1.out.rn i HI.out).len, List.length_replicate]
        have := HM.out
        have := HK.out.2.1
        omega
      · rw [upd_self] at hg
        exact Nat.le_trans (HG1.out.drewN _).size (r3 g hg)
    have HBX2 : Hid (W2.heap[b1]? = some (.cells #[.int .i64 x.at_, .int .u64 x.a, .int .u64 x.b, .int .u64 x.c, .int .u64 x.k, .int .u64 x.v] 36 (0, 0))) := by
      obtain ⟨u, r1, r2, r3⟩ := hR2.out
      have hlt := (Array.getElem?_eq_some_iff.1 HBX.out).1
      refine (r2.block b1 (Nat.lt_of_lt_of_le hlt ((Gr.refl _).drewN _).size) (fun e => ?_)).trans ((((Gr.refl W1).drewN _).below.block b1 hlt).trans HBX.out)
      obtain ⟨cs, hcs, _⟩ := HP1.out.blk
      have h1 := HBX.out
      rw [e, hcs] at h1
      simp at h1
    clear hR2 hmv hwr hwr2 hEb hE c0 c2 hl
    have hbk : W2.heap[b1]? = some (.cells #[.int .i64 x.at_, .int .u64 x.a, .int .u64 x.b, .int .u64 x.c, .int .u64 x.k, .int .u64 x.v] 36 (0, 0)) := HBX2.out
    have hPn := HNX.out.1
    obtain ⟨g1, c1, hv1⟩ : ∃ g1 c1, v1 i = .slice (some ⟨g1, 0, none⟩) (X1 i).length c1 := by
      have hlt := HNX.out.2.2.2.2.2.2.2.2.1
      rcases owns_form (hPn.own i HI.out) with ⟨_, e⟩ | ⟨g, cap, e, _⟩
      · omega
      · exact ⟨_, _, e⟩
    have c10 := hPn.blk.cv HI.out
    have c11 := hPn.blk.cf HI.out
    have c12 := hPn.blk.cm HI.out
    rw [hv1] at c10
    rw [← HO.out] at c10 c11 c12
    obtain ⟨M1, hM1⟩ : ∃ M1, M1 = m1 i := ⟨_, rfl⟩
    obtain ⟨F1, hF1⟩ : ∃ F1, F1 = f1 i := ⟨_, rfl⟩
    obtain ⟨n1, hn1⟩ : ∃ n1, n1 = (X1 i).length := ⟨_, rfl⟩
    rw [← hn1] at c10
    rw [← hF1] at c11
    rw [← hM1] at c12
    have hgl := (hPn.own i HI.out).lt g1 (by rw [hv1]; rfl)
    have hlt1 : M1 < n1 := by rw [hM1, hn1]; exact HNX.out.2.2.2.2.2.2.2.2.1
    have hnb : n1 ≤ 5864062014806 := by
      have h1 := HNX.out.2.2.2.2.2.2.2.2.2.1
      have h2 := HK.out.2.2
      rw [hn1]
      omega
    have hfb : F1 ≤ n1 := by rw [hF1, hn1]; exact (hPn.rn i HI.out).fle
    obtain ⟨J, hJ⟩ : ∃ J, J = (F1 + M1) % n1 := ⟨_, rfl⟩
    have hJ1 : J < n1 := by rw [hJ]; exact Nat.mod_lt _ (by omega)
    have hJz : (J : Int) < (n1 : Int) := by omega
    have hJ0 : (0 : Int) ≤ (J : Int) := by omega
    have hM0 : (0 : Int) ≤ (M1 : Int) := by omega
    have hM2 : (M1 : Int) ≤ 5864062014806 := by omega
    have hat : ∀ W : World, rb < W.heap.size ∧ W.cell? ⟨rb, o, none⟩ = some (.slice (some ⟨g1, 0, none⟩) n1 c1) ∧ W.cell? ⟨rb, o + 1, none⟩ = some (.int .i64 (F1 : Nat)) → Calls Try.prog 37 #[.pointer (some ⟨rb, o, none⟩), .int .i64 (M1 : Nat)] W fun e w' => e = .returned (.int .i64 (J : Nat)) ∧ ∃ q, w' = W.drewN q := by
      intro W hW
      rw [hJ]
      exact at_any M1 W hW.1 hW.2.1 hW.2.2 (by omega) (by omega) (by omega)
    have HV1 := hid (And.intro hv1 (And.intro hM1 (And.intro hF1 hn1)))
    have HJ := hid hJ
    obtain ⟨q0, q1, q2, q3, q4, q5⟩ : Mc W2 b1 0 x := by simp [Mc, World.cell?, hbk]
    have hbl : b1 < W2.heap.size := (Array.getElem?_eq_some_iff.1 hbk).1
    have hl2 := hPn.blk.lt
    have HOW := hid (hPn.own i HI.out)
    have HPN := hid hPn
    have fz2 := hPn.blk.fz (o + 2)
    have fzg : ∀ q, W2.frozen? ⟨g1, q, none⟩ = false := by
      intro q
      rcases (hPn.own i HI.out).2 with ⟨e, _⟩ | ⟨g', cap', cur, e, _, hh, _⟩
      · rw [hv1] at e; cases e
      · rw [hv1] at e; cases e; simp [World.frozen?, hh]
    have hS0 : (fun W : World => (rb < W.heap.size ∧ W.cell? ⟨rb, o, none⟩ = some (.slice (some ⟨g1, 0, none⟩) n1 c1) ∧ W.cell? ⟨rb, o + 1, none⟩ = some (.int .i64 (F1 : Nat))) ∧ W.cell? ⟨rb, o + 2, none⟩ = some (.int .i64 (M1 : Nat)) ∧ Mc W b1 0 x ∧ b1 < W.heap.size) W2.drew := ⟨⟨hl2, c10, c11⟩, c12, ⟨q0, q1, q2, q3, q4, q5⟩, hbl⟩
    clear hPn hv1 hM1 hF1 hn1 hJ hbk hfb hnb
    go_wp2_with fail
    refine wp_regionD (S := fun W : World => (rb < W.heap.size ∧ W.cell? ⟨rb, o, none⟩ = some (.slice (some ⟨g1, 0, none⟩) n1 c1) ∧ W.cell? ⟨rb, o + 1, none⟩ = some (.int .i64 (F1 : Nat))) ∧ W.cell? ⟨rb, o + 2, none⟩ = some (.int .i64 (M1 : Nat)) ∧ Mc W b1 0 x ∧ b1 < W.heap.size) (D := [12]) hmx ?_
    refine' wpAnyD_take (i := 0) (oi := { dst := some 22, op := Go.Op.move (Go.Operand.tmp 0), type := 94, pos := "ring.go:15", after := #[], guard := none }) (v := _) rfl (by kernel_rfl) (by kernel_rfl) (by kernel_rfl) (fun _ _ _ h => h) (by kernel_rfl) (Or.inl ⟨by rfl, ?hy1⟩) hS0 ?rest1
    case hy1 => (intro W hSw; go_simp; try (with_reducible rfl))
    try simp only [Act.put, List.setIfInBounds_toArray, List.set_cons_zero, List.set_cons_succ]
    refine' wpAnyD_take (i := 1) (oi := { dst := some 23, op := Go.Op.nilCheck (Go.Operand.tmp 22), type := 0, pos := "ring.go:15", after := #[{ on := 0, ground := Go.Ground.data }], guard := none }) (v := _) rfl (by kernel_rfl) (by kernel_rfl) (by kernel_rfl) (fun _ _ _ h => h) (by kernel_rfl) (Or.inl ⟨by rfl, ?hy2⟩) hS0 ?rest2
    case hy2 => (intro W hSw; go_simp; try (with_reducible rfl))
    try simp only [Act.put, List.setIfInBounds_toArray, List.set_cons_zero, List.set_cons_succ]
    refine' wpAnyD_take (i := 2) (oi := { dst := some 24, op := Go.Op.fieldAddr 80 (Go.Operand.tmp 23) 0, type := 0, pos := "ring.go:15", after := #[{ on := 1, ground := Go.Ground.data }], guard := none }) (v := _) rfl (by kernel_rfl) (by kernel_rfl) (by kernel_rfl) (fun _ _ _ h => h) (by kernel_rfl) (Or.inl ⟨by rfl, ?hy3⟩) hS0 ?rest3
    case hy3 => (intro W hSw; go_simp; try (with_reducible rfl))
    try simp only [Act.put, List.setIfInBounds_toArray, List.set_cons_zero, List.set_cons_succ]
    refine' wpAnyD_take (i := 3) (oi := { dst := some 25, op := Go.Op.load 22 (Go.Operand.tmp 24), type := 22, pos := "ring.go:15", after := #[{ on := 2, ground := Go.Ground.data }], guard := none }) (v := _) rfl (by kernel_rfl) (by kernel_rfl) (by kernel_rfl) (fun _ _ _ h => h) (by kernel_rfl) (Or.inl ⟨by rfl, ?hy4⟩) hS0 ?rest4
    case hy4 => (intro W hSw; obtain ⟨⟨s0, s1, s2⟩, s3, ⟨s4, s5, s6, s7, s8, s9⟩, s10⟩ := hSw; go_simp; try (with_reducible rfl))
    try simp only [Act.put, List.setIfInBounds_toArray, List.set_cons_zero, List.set_cons_succ]
    refine' wpAnyD_take (i := 4) (oi := { dst := some 26, op := Go.Op.move (Go.Operand.tmp 0), type := 94, pos := "ring.go:15", after := #[], guard := none }) (v := _) rfl (by kernel_rfl) (by kernel_rfl) (by kernel_rfl) (fun _ _ _ h => h) (by kernel_rfl) (Or.inl ⟨by rfl, ?hy5⟩) hS0 ?rest5
    case hy5 => (intro W hSw; go_simp; try (with_reducible rfl))
    try simp only [Act.put, List.setIfInBounds_toArray, List.set_cons_zero, List.set_cons_succ]
    refine' wpAnyD_take (i := 5) (oi := { dst := some 27, op := Go.Op.move (Go.Operand.tmp 0), type := 94, pos := "ring.go:15", after := #[], guard := none }) (v := _) rfl (by kernel_rfl) (by kernel_rfl) (by kernel_rfl) (fun _ _ _ h => h) (by kernel_rfl) (Or.inl ⟨by rfl, ?hy6⟩) hS0 ?rest6
    case hy6 => (intro W hSw; go_simp; try (with_reducible rfl))
    try simp only [Act.put, List.setIfInBounds_toArray, List.set_cons_zero, List.set_cons_succ]
    refine' wpAnyD_take (i := 6) (oi := { dst := some 28, op := Go.Op.nilCheck (Go.Operand.tmp 27), type := 0, pos := "ring.go:15", after := #[{ on := 5, ground := Go.Ground.data }], guard := none }) (v := _) rfl (by kernel_rfl) (by kernel_rfl) (by kernel_rfl) (fun _ _ _ h => h) (by kernel_rfl) (Or.inl ⟨by rfl, ?hy7⟩) hS0 ?rest7
    case hy7 => (intro W hSw; go_simp; try (with_reducible rfl))
    try simp only [Act.put, List.setIfInBounds_toArray, List.set_cons_zero, List.set_cons_succ]
    refine' wpAnyD_take (i := 7) (oi := { dst := some 29, op := Go.Op.fieldAddr 80 (Go.Operand.tmp 28) 2, type := 0, pos := "ring.go:15", after := #[{ on := 6, ground := Go.Ground.data }], guard := none }) (v := _) rfl (by kernel_rfl) (by kernel_rfl) (by kernel_rfl) (fun _ _ _ h => h) (by kernel_rfl) (Or.inl ⟨by rfl, ?hy8⟩) hS0 ?rest8
    case hy8 => (intro W hSw; go_simp; try (with_reducible rfl))
    try simp only [Act.put, List.setIfInBounds_toArray, List.set_cons_zero, List.set_cons_succ]
    refine' wpAnyD_take (i := 8) (oi := { dst := some 30, op := Go.Op.load 3 (Go.Operand.tmp 29), type := 3, pos := "ring.go:15", after := #[{ on := 7, ground := Go.Ground.data }], guard := none }) (v := _) rfl (by kernel_rfl) (by kernel_rfl) (by kernel_rfl) (fun _ _ _ h => h) (by kernel_rfl) (Or.inl ⟨by rfl, ?hy9⟩) hS0 ?rest9
    case hy9 => (intro W hSw; obtain ⟨⟨s0, s1, s2⟩, s3, ⟨s4, s5, s6, s7, s8, s9⟩, s10⟩ := hSw; go_simp; try (with_reducible rfl))
    try simp only [Act.put, List.setIfInBounds_toArray, List.set_cons_zero, List.set_cons_succ]
    refine' wpAnyD_take (i := 10) (oi := { dst := some 32, op := Go.Op.load 36 (Go.Operand.tmp 3), type := 36, pos := "ring.go:15", after := #[], guard := none }) (v := _) rfl (by kernel_rfl) (by kernel_rfl) (by kernel_rfl) (fun _ _ _ h => h) (by kernel_rfl) (Or.inl ⟨by rfl, ?hy10⟩) hS0 ?rest10
    case hy10 => (intro W hSw; obtain ⟨⟨s0, s1, s2⟩, s3, ⟨s4, s5, s6, s7, s8, s9⟩, s10⟩ := hSw; go_simp; try (with_reducible rfl))
    try simp only [Act.put, List.setIfInBounds_toArray, List.set_cons_zero, List.set_cons_succ]
    refine wpAnyD_one (i := 9) (o := { dst := some 31, op := Go.Op.call { callee := Go.Callee.value (Go.Operand.func 37), args := #[Go.Operand.tmp 26, Go.Operand.tmp 30], argTypes := #[94, 3] }, type := 3, pos := "ring.go:15", after := #[{ on := 4, ground := Go.Ground.data }, { on := 8, ground := Go.Ground.data }], guard := none }) (by kernel_rfl) rfl (fun K hK => ?_)
    rw [if_pos (by kernel_rfl)]
    go_simp
    refine (hat _ hS0.1).mono ?_
    rintro e W3 ⟨rfl, qq, hW3⟩
    have hS3 : (fun W : World => (rb < W.heap.size ∧ W.cell? ⟨rb, o, none⟩ = some (.slice (some ⟨g1, 0, none⟩) n1 c1) ∧ W.cell? ⟨rb, o + 1, none⟩ = some (.int .i64 (F1 : Nat))) ∧ W.cell? ⟨rb, o + 2, none⟩ = some (.int .i64 (M1 : Nat)) ∧ Mc W b1 0 x ∧ b1 < W.heap.size) W3 := by rw [hW3]; exact hS0
    have hGd : Gr W2 W3 := by rw [hW3]; exact (Gr.refl _).drew.drewN _
    clear hW3
    go_wp2_with fail
    refine hK.out _ _ (fun hD => hS3) ?_
    clear hK K
    try simp only [Act.put, List.setIfInBounds_toArray, List.set_cons_zero, List.set_cons_succ]
    refine' wpAnyD_take (i := 11) (oi := { dst := some 33, op := Go.Op.indexAddr 22 (Go.Operand.tmp 25) (Go.Operand.tmp 31), type := 0, pos := "ring.go:15", after := #[{ on := 3, ground := Go.Ground.data }, { on := 9, ground := Go.Ground.data }, { on := 0, ground := Go.Ground.phase }, { on := 1, ground := Go.Ground.phase }, { on := 2, ground := Go.Ground.phase }, { on := 3, ground := Go.Ground.phase }, { on := 4, ground := Go.Ground.phase }, { on := 5, ground := Go.Ground.phase }, { on := 6, ground := Go.Ground.phase }, { on := 7, ground := Go.Ground.phase }, { on := 8, ground := Go.Ground.phase }, { on := 9, ground := Go.Ground.phase }, { on := 10, ground := Go.Ground.phase }], guard := none }) (v := _) rfl (by kernel_rfl) (by kernel_rfl) (by kernel_rfl) (fun _ _ _ h => h) (by kernel_rfl) (Or.inl ⟨by rfl, ?hy12⟩) hS3 ?rest12
    case hy12 => (intro W hSw; go_simp; try (with_reducible rfl))
    try simp only [Act.put, List.setIfInBounds_toArray, List.set_cons_zero, List.set_cons_succ]
    refine wpAnyD_one (i := 12) (o := { dst := none, op := Go.Op.store 36 (Go.Operand.tmp 33) (Go.Operand.tmp 32), type := 0, pos := "ring.go:15", after := #[{ on := 11, ground := Go.Ground.data }, { on := 10, ground := Go.Ground.data }, { on := 9, ground := Go.Ground.chain }, { on := 0, ground := Go.Ground.phase }, { on := 1, ground := Go.Ground.phase }, { on := 2, ground := Go.Ground.phase }, { on := 3, ground := Go.Ground.phase }, { on := 4, ground := Go.Ground.phase }, { on := 5, ground := Go.Ground.phase }, { on := 6, ground := Go.Ground.phase }, { on := 7, ground := Go.Ground.phase }, { on := 8, ground := Go.Ground.phase }, { on := 9, ground := Go.Ground.phase }, { on := 10, ground := Go.Ground.phase }], guard := none }) (by kernel_rfl) rfl (fun K hK => ?_)
    rw [if_pos (by kernel_rfl)]
    have fz3 : ∀ q, W3.frozen? ⟨g1, q, none⟩ = false := fun q => (hGd.frozen hgl.2).trans (fzg q)
    have hl3 := Nat.lt_of_lt_of_le hgl.2 hGd.size
    obtain ⟨y, hy⟩ : ∃ y, (X1 i)[J]? = some y := ⟨(X1 i)[J]'(by rw [← HV1.out.2.2.2]; exact hJ1), by simp⟩
    have hOW3 : W3.ownsRow 0 36 6 (.slice (some ⟨g1, 0, none⟩) n1 c1) n1 (fl EM (X1 i)) := by
      have := owns_below HOW.out hGd.below
      rw [HV1.out.1, ← HV1.out.2.2.2] at this
      exact this
    obtain ⟨y0, y1, y2, y3, y4, y5⟩ : Mc W3 g1 (0 + J * 6) y := by
      obtain ⟨b', off', c', e1, _, e2⟩ := ls_at (owns_ls (E := EM) (ts := X1 i) (owns_re hOW3 HV1.out.2.2.2 rfl)) hy
      cases e1
      exact e2
    simp only [Nat.zero_add] at y0 y1 y2 y3 y4 y5
    go_simp
    have HST := hid (owns_set6 hOW3 hy x)
    generalize ((((((W3.setCell ⟨g1, J * 6, none⟩ (.int .i64 x.at_)).setCell ⟨g1, J * 6 + 1, none⟩ (.int .u64 x.a)).setCell ⟨g1, J * 6 + 2, none⟩ (.int .u64 x.b)).setCell ⟨g1, J * 6 + 3, none⟩ (.int .u64 x.c)).setCell ⟨g1, J * 6 + 4, none⟩ (.int .u64 x.k)).setCell ⟨g1, J * 6 + 5, none⟩ (.int .u64 x.v)) = W4 at HST ⊢
    refine hK.out _ _ (fun hD => absurd (by decide) hD) ?_
    clear hK K
    try simp only [Act.put, List.setIfInBounds_toArray, List.set_cons_zero, List.set_cons_succ]
    refine wpAnyD_done (by kernel_rfl) ?_ _
    have hKW : Hid (Kp (fun k => k = g1) W2 W4) := (Kp.of_gr hGd).trans (T := fun k => k = g1) HST.out.2 (fun _ _ h => h)
    have hgr : rb ≠ g1 := fun e => HPN.out.off HI.out (by rw [HV1.out.1, e]; rfl)
    have d2 := (hKW.out.cell (o := o + 2) hl2 hgr).trans c12
    have l4 := Nat.lt_of_lt_of_le hl2 hKW.out.size
    have f4 : W4.frozen? ⟨rb, o + 2, none⟩ = false := (HPN.out.blk.kept (hKW.out.block rb hl2 hgr)).fz _
    clear c10 c11 c12 fz2 fzg hat y0 y1 y2 y3 y4 y5 fz3 hOW3 hS0 hS3
    go_wp2_with fail
    go_end0
    refine ⟨rfl, ?_⟩
    have hFin := HPN.out.put1 HI.out (x := x) (by rw [← HV1.out.2.1, ← HV1.out.2.2.2]; exact hlt1) (w3 := W4) (by rw [← HV1.out.2.2.1, ← HV1.out.2.1, ← HV1.out.2.2.2, ← HJ.out, HV1.out.1, ← HV1.out.2.2.2]; exact HST.out.1) (hKW.out.mono (fun k e => by rw [HV1.out.1, e]; rfl))
    have hR := HNX.out.put hFin.1 hFin.2
    rw [← HV1.out.2.1, ← HO.out] at hR
    exact hR
  · have hEb : ((M : Int) == (n : Int)) = false := by simp; omega
    go_wp2_with fail
    go_quiet (fail)
    go_wp2_with fail
    obtain ⟨W2, hW2⟩ : ∃ W2, W2 = W1.drewN nq := ⟨_, rfl⟩
    rw [← hW2]
    have hG2 : Gr W1 W2 := by rw [hW2]; exact (Gr.refl _).drewN _
    obtain ⟨v1, f1, m1, X1, Q1, HNX⟩ : ∃ v1 f1 m1 X1 Q1, Hid (Nxt w rb N C v f m X Q i K W2 v1 f1 m1 X1 Q1) :=
      ⟨v, f, m, X, Q, HP1.out.gr hG2, fun _ => rfl, fun _ => rfl, fun _ => rfl, fun _ => rfl, fun _ => rfl, rfl, rfl, by rw [← HM.out, ← HN.out]; omega, HK.out.1, Kp.of_gr (HG1.out.trans hG2), fun g hg => Or.inl hg⟩
    have HBX2 : Hid (W2.heap[b1]? = some (.cells #[.int .i64 x.at_, .int .u64 x.a, .int .u64 x.b, .int .u64 x.c, .int .u64 x.k, .int .u64 x.v] 36 (0, 0))) := (hG2.below.block b1 (Array.getElem?_eq_some_iff.1 HBX.out).1).trans HBX.out
    clear hW2 hG2 hEb hE c0 c2 hl
    have hbk : W2.heap[b1]? = some (.cells #[.int .i64 x.at_, .int .u64 x.a, .int .u64 x.b, .int .u64 x.c, .int .u64 x.k, .int .u64 x.v] 36 (0, 0)) := HBX2.out
    have hPn := HNX.out.1
    obtain ⟨g1, c1, hv1⟩ : ∃ g1 c1, v1 i = .slice (some ⟨g1, 0, none⟩) (X1 i).length c1 := by
      have hlt := HNX.out.2.2.2.2.2.2.2.2.1
      rcases owns_form (hPn.own i HI.out) with ⟨_, e⟩ | ⟨g, cap, e, _⟩
      · omega
      · exact ⟨_, _, e⟩
    have c10 := hPn.blk.cv HI.out
    have c11 := hPn.blk.cf HI.out
    have c12 := hPn.blk.cm HI.out
    rw [hv1] at c10
    rw [← HO.out] at c10 c11 c12
    obtain ⟨M1, hM1⟩ : ∃ M1, M1 = m1 i := ⟨_, rfl⟩
    obtain ⟨F1, hF1⟩ : ∃ F1, F1 = f1 i := ⟨_, rfl⟩
    obtain ⟨n1, hn1⟩ : ∃ n1, n1 = (X1 i).length := ⟨_, rfl⟩
    rw [← hn1] at c10
    rw [← hF1] at c11
    rw [← hM1] at c12
    have hgl := (hPn.own i HI.out).lt g1 (by rw [hv1]; rfl)
    have hlt1 : M1 < n1 := by rw [hM1, hn1]; exact HNX.out.2.2.2.2.2.2.2.2.1
    have hnb : n1 ≤ 5864062014806 := by
      have h1 := HNX.out.2.2.2.2.2.2.2.2.2.1
      have h2 := HK.out.2.2
      rw [hn1]
      omega
    have hfb : F1 ≤ n1 := by rw [hF1, hn1]; exact (hPn.rn i HI.out).fle
    obtain ⟨J, hJ⟩ : ∃ J, J = (F1 + M1) % n1 := ⟨_, rfl⟩
    have hJ1 : J < n1 := by rw [hJ]; exact Nat.mod_lt _ (by omega)
    have hJz : (J : Int) < (n1 : Int) := by omega
    have hJ0 : (0 : Int) ≤ (J : Int) := by omega
    have hM0 : (0 : Int) ≤ (M1 : Int) := by omega
    have hM2 : (M1 : Int) ≤ 5864062014806 := by omega
    have hat : ∀ W : World, rb < W.heap.size ∧ W.cell? ⟨rb, o, none⟩ = some (.slice (some ⟨g1, 0, none⟩) n1 c1) ∧ W.cell? ⟨rb, o + 1, none⟩ = some (.int .i64 (F1 : Nat)) → Calls Try.prog 37 #[.pointer (some ⟨rb, o, none⟩), .int .i64 (M1 : Nat)] W fun e w' => e = .returned (.int .i64 (J : Nat)) ∧ ∃ q, w' = W.drewN q := by
      intro W hW
      rw [hJ]
      exact at_any M1 W hW.1 hW.2.1 hW.2.2 (by omega) (by omega) (by omega)
    have HV1 := hid (And.intro hv1 (And.intro hM1 (And.intro hF1 hn1)))
    have HJ := hid hJ
    obtain ⟨q0, q1, q2, q3, q4, q5⟩ : Mc W2 b1 0 x := by simp [Mc, World.cell?, hbk]
    have hbl : b1 < W2.heap.size := (Array.getElem?_eq_some_iff.1 hbk).1
    have hl2 := hPn.blk.lt
    have HOW := hid (hPn.own i HI.out)
    have HPN := hid hPn
    have fz2 := hPn.blk.fz (o + 2)
    have fzg : ∀ q, W2.frozen? ⟨g1, q, none⟩ = false := by
      intro q
      rcases (hPn.own i HI.out).2 with ⟨e, _⟩ | ⟨g', cap', cur, e, _, hh, _⟩
      · rw [hv1] at e; cases e
      · rw [hv1] at e; cases e; simp [World.frozen?, hh]
    have hS0 : (fun W : World => (rb < W.heap.size ∧ W.cell? ⟨rb, o, none⟩ = some (.slice (some ⟨g1, 0, none⟩) n1 c1) ∧ W.cell? ⟨rb, o + 1, none⟩ = some (.int .i64 (F1 : Nat))) ∧ W.cell? ⟨rb, o + 2, none⟩ = some (.int .i64 (M1 : Nat)) ∧ Mc W b1 0 x ∧ b1 < W.heap.size) W2.drew := ⟨⟨hl2, c10, c11⟩, c12, ⟨q0, q1, q2, q3, q4, q5⟩, hbl⟩
    clear hPn hv1 hM1 hF1 hn1 hJ hbk hfb hnb
    go_wp2_with fail
    refine wp_regionD (S := fun W : World => (rb < W.heap.size ∧ W.cell? ⟨rb, o, none⟩ = some (.slice (some ⟨g1, 0, none⟩) n1 c1) ∧ W.cell? ⟨rb, o + 1, none⟩ = some (.int .i64 (F1 : Nat))) ∧ W.cell? ⟨rb, o + 2, none⟩ = some (.int .i64 (M1 : Nat)) ∧ Mc W b1 0 x ∧ b1 < W.heap.size) (D := [12]) hmx ?_
    refine' wpAnyD_take (i := 0) (oi := { dst := some 22, op := Go.Op.move (Go.Operand.tmp 0), type := 94, pos := "ring.go:15", after := #[], guard := none }) (v := _) rfl (by kernel_rfl) (by kernel_rfl) (by kernel_rfl) (fun _ _ _ h => h) (by kernel_rfl) (Or.inl ⟨by rfl, ?hy14⟩) hS0 ?rest14
    case hy14 => (intro W hSw; go_simp; try (with_reducible rfl))
    try simp only [Act.put, List.setIfInBounds_toArray, List.set_cons_zero, List.set_cons_succ]
    refine' wpAnyD_take (i := 1) (oi := { dst := some 23, op := Go.Op.nilCheck (Go.Operand.tmp 22), type := 0, pos := "ring.go:15", after := #[{ on := 0, ground := Go.Ground.data }], guard := none }) (v := _) rfl (by kernel_rfl) (by kernel_rfl) (by kernel_rfl) (fun _ _ _ h => h) (by kernel_rfl) (Or.inl ⟨by rfl, ?hy15⟩) hS0 ?rest15
    case hy15 => (intro W hSw; go_simp; try (with_reducible rfl))
    try simp only [Act.put, List.setIfInBounds_toArray, List.set_cons_zero, List.set_cons_succ]
    refine' wpAnyD_take (i := 2) (oi := { dst := some 24, op := Go.Op.fieldAddr 80 (Go.Operand.tmp 23) 0, type := 0, pos := "ring.go:15", after := #[{ on := 1, ground := Go.Ground.data }], guard := none }) (v := _) rfl (by kernel_rfl) (by kernel_rfl) (by kernel_rfl) (fun _ _ _ h => h) (by kernel_rfl) (Or.inl ⟨by rfl, ?hy16⟩) hS0 ?rest16
    case hy16 => (intro W hSw; go_simp; try (with_reducible rfl))
    try simp only [Act.put, List.setIfInBounds_toArray, List.set_cons_zero, List.set_cons_succ]
    refine' wpAnyD_take (i := 3) (oi := { dst := some 25, op := Go.Op.load 22 (Go.Operand.tmp 24), type := 22, pos := "ring.go:15", after := #[{ on := 2, ground := Go.Ground.data }], guard := none }) (v := _) rfl (by kernel_rfl) (by kernel_rfl) (by kernel_rfl) (fun _ _ _ h => h) (by kernel_rfl) (Or.inl ⟨by rfl, ?hy17⟩) hS0 ?rest17
    case hy17 => (intro W hSw; obtain ⟨⟨s0, s1, s2⟩, s3, ⟨s4, s5, s6, s7, s8, s9⟩, s10⟩ := hSw; go_simp; try (with_reducible rfl))
    try simp only [Act.put, List.setIfInBounds_toArray, List.set_cons_zero, List.set_cons_succ]
    refine' wpAnyD_take (i := 4) (oi := { dst := some 26, op := Go.Op.move (Go.Operand.tmp 0), type := 94, pos := "ring.go:15", after := #[], guard := none }) (v := _) rfl (by kernel_rfl) (by kernel_rfl) (by kernel_rfl) (fun _ _ _ h => h) (by kernel_rfl) (Or.inl ⟨by rfl, ?hy18⟩) hS0 ?rest18
    case hy18 => (intro W hSw; go_simp; try (with_reducible rfl))
    try simp only [Act.put, List.setIfInBounds_toArray, List.set_cons_zero, List.set_cons_succ]
    refine' wpAnyD_take (i := 5) (oi := { dst := some 27, op := Go.Op.move (Go.Operand.tmp 0), type := 94, pos := "ring.go:15", after := #[], guard := none }) (v := _) rfl (by kernel_rfl) (by kernel_rfl) (by kernel_rfl) (fun _ _ _ h => h) (by kernel_rfl) (Or.inl ⟨by rfl, ?hy19⟩) hS0 ?rest19
    case hy19 => (intro W hSw; go_simp; try (with_reducible rfl))
    try simp only [Act.put, List.setIfInBounds_toArray, List.set_cons_zero, List.set_cons_succ]
    refine' wpAnyD_take (i := 6) (oi := { dst := some 28, op := Go.Op.nilCheck (Go.Operand.tmp 27), type := 0, pos := "ring.go:15", after := #[{ on := 5, ground := Go.Ground.data }], guard := none }) (v := _) rfl (by kernel_rfl) (by kernel_rfl) (by kernel_rfl) (fun _ _ _ h => h) (by kernel_rfl) (Or.inl ⟨by rfl, ?hy20⟩) hS0 ?rest20
    case hy20 => (intro W hSw; go_simp; try (with_reducible rfl))
    try simp only [Act.put, List.setIfInBounds_toArray, List.set_cons_zero, List.set_cons_succ]
    refine' wpAnyD_take (i := 7) (oi := { dst := some 29, op := Go.Op.fieldAddr 80 (Go.Operand.tmp 28) 2, type := 0, pos := "ring.go:15", after := #[{ on := 6, ground := Go.Ground.data }], guard := none }) (v := _) rfl (by kernel_rfl) (by kernel_rfl) (by kernel_rfl) (fun _ _ _ h => h) (by kernel_rfl) (Or.inl ⟨by rfl, ?hy21⟩) hS0 ?rest21
    case hy21 => (intro W hSw; go_simp; try (with_reducible rfl))
    try simp only [Act.put, List.setIfInBounds_toArray, List.set_cons_zero, List.set_cons_succ]
    refine' wpAnyD_take (i := 8) (oi := { dst := some 30, op := Go.Op.load 3 (Go.Operand.tmp 29), type := 3, pos := "ring.go:15", after := #[{ on := 7, ground := Go.Ground.data }], guard := none }) (v := _) rfl (by kernel_rfl) (by kernel_rfl) (by kernel_rfl) (fun _ _ _ h => h) (by kernel_rfl) (Or.inl ⟨by rfl, ?hy22⟩) hS0 ?rest22
    case hy22 => (intro W hSw; obtain ⟨⟨s0, s1, s2⟩, s3, ⟨s4, s5, s6, s7, s8, s9⟩, s10⟩ := hSw; go_simp; try (with_reducible rfl))
    try simp only [Act.put, List.setIfInBounds_toArray, List.set_cons_zero, List.set_cons_succ]
    refine' wpAnyD_take (i := 10) (oi := { dst := some 32, op := Go.Op.load 36 (Go.Operand.tmp 3), type := 36, pos := "ring.go:15", after := #[], guard := none }) (v := _) rfl (by kernel_rfl) (by kernel_rfl) (by kernel_rfl) (fun _ _ _ h => h) (by kernel_rfl) (Or.inl ⟨by rfl, ?hy23⟩) hS0 ?rest23
    case hy23 => (intro W hSw; obtain ⟨⟨s0, s1, s2⟩, s3, ⟨s4, s5, s6, s7, s8, s9⟩, s10⟩ := hSw; go_simp; try (with_reducible rfl))
    try simp only [Act.put, List.setIfInBounds_toArray, List.set_cons_zero, List.set_cons_succ]
    refine wpAnyD_one (i := 9) (o := { dst := some 31, op := Go.Op.call { callee := Go.Callee.value (Go.Operand.func 37), args := #[Go.Operand.tmp 26, Go.Operand.tmp 30], argTypes := #[94, 3] }, type := 3, pos := "ring.go:15", after := #[{ on := 4, ground := Go.Ground.data }, { on := 8, ground := Go.Ground.data }], guard := none }) (by kernel_rfl) rfl (fun K hK => ?_)
    rw [if_pos (by kernel_rfl)]
    go_simp
    refine (hat _ hS0.1).mono ?_
    rintro e W3 ⟨rfl, qq, hW3⟩
    have hS3 : (fun W : World => (rb < W.heap.size ∧ W.cell? ⟨rb, o, none⟩ = some (.slice (some ⟨g1, 0, none⟩) n1 c1) ∧ W.cell? ⟨rb, o + 1, none⟩ = some (.int .i64 (F1 : Nat))) ∧ W.cell? ⟨rb, o + 2, none⟩ = some (.int .i64 (M1 : Nat)) ∧ Mc W b1 0 x ∧ b1 < W.heap.size) W3 := by rw [hW3]; exact hS0
    have hGd : Gr W2 W3 := by rw [hW3]; exact (Gr.refl _).drew.drewN _
    clear hW3
    go_wp2_with fail
    refine hK.out _ _ (fun hD => hS3) ?_
    clear hK K
    try simp only [Act.put, List.setIfInBounds_toArray, List.set_cons_zero, List.set_cons_succ]
    refine' wpAnyD_take (i := 11) (oi := { dst := some 33, op := Go.Op.indexAddr 22 (Go.Operand.tmp 25) (Go.Operand.tmp 31), type := 0, pos := "ring.go:15", after := #[{ on := 3, ground := Go.Ground.data }, { on := 9, ground := Go.Ground.data }, { on := 0, ground := Go.Ground.phase }, { on := 1, ground := Go.Ground.phase }, { on := 2, ground := Go.Ground.phase }, { on := 3, ground := Go.Ground.phase }, { on := 4, ground := Go.Ground.phase }, { on := 5, ground := Go.Ground.phase }, { on := 6, ground := Go.Ground.phase }, { on := 7, ground := Go.Ground.phase }, { on := 8, ground := Go.Ground.phase }, { on := 9, ground := Go.Ground.phase }, { on := 10, ground := Go.Ground.phase }], guard := none }) (v := _) rfl (by kernel_rfl) (by kernel_rfl) (by kernel_rfl) (fun _ _ _ h => h) (by kernel_rfl) (Or.inl ⟨by rfl, ?hy25⟩) hS3 ?rest25
    case hy25 => (intro W hSw; go_simp; try (with_reducible rfl))
    try simp only [Act.put, List.setIfInBounds_toArray, List.set_cons_zero, List.set_cons_succ]
    refine wpAnyD_one (i := 12) (o := { dst := none, op := Go.Op.store 36 (Go.Operand.tmp 33) (Go.Operand.tmp 32), type := 0, pos := "ring.go:15", after := #[{ on := 11, ground := Go.Ground.data }, { on := 10, ground := Go.Ground.data }, { on := 9, ground := Go.Ground.chain }, { on := 0, ground := Go.Ground.phase }, { on := 1, ground := Go.Ground.phase }, { on := 2, ground := Go.Ground.phase }, { on := 3, ground := Go.Ground.phase }, { on := 4, ground := Go.Ground.phase }, { on := 5, ground := Go.Ground.phase }, { on := 6, ground := Go.Ground.phase }, { on := 7, ground := Go.Ground.phase }, { on := 8, ground := Go.Ground.phase }, { on := 9, ground := Go.Ground.phase }, { on := 10, ground := Go.Ground.phase }], guard := none }) (by kernel_rfl) rfl (fun K hK => ?_)
    rw [if_pos (by kernel_rfl)]
    have fz3 : ∀ q, W3.frozen? ⟨g1, q, none⟩ = false := fun q => (hGd.frozen hgl.2).trans (fzg q)
    have hl3 := Nat.lt_of_lt_of_le hgl.2 hGd.size
    obtain ⟨y, hy⟩ : ∃ y, (X1 i)[J]? = some y := ⟨(X1 i)[J]'(by rw [← HV1.out.2.2.2]; exact hJ1), by simp⟩
    have hOW3 : W3.ownsRow 0 36 6 (.slice (some ⟨g1, 0, none⟩) n1 c1) n1 (fl EM (X1 i)) := by
      have := owns_below HOW.out hGd.below
      rw [HV1.out.1, ← HV1.out.2.2.2] at this
      exact this
    obtain ⟨y0, y1, y2, y3, y4, y5⟩ : Mc W3 g1 (0 + J * 6) y := by
      obtain ⟨b', off', c', e1, _, e2⟩ := ls_at (owns_ls (E := EM) (ts := X1 i) (owns_re hOW3 HV1.out.2.2.2 rfl)) hy
      cases e1
      exact e2
    simp only [Nat.zero_add] at y0 y1 y2 y3 y4 y5
    go_simp
    have HST := hid (owns_set6 hOW3 hy x)
    generalize ((((((W3.setCell ⟨g1, J * 6, none⟩ (.int .i64 x.at_)).setCell ⟨g1, J * 6 + 1, none⟩ (.int .u64 x.a)).setCell ⟨g1, J * 6 + 2, none⟩ (.int .u64 x.b)).setCell ⟨g1, J * 6 + 3, none⟩ (.int .u64 x.c)).setCell ⟨g1, J * 6 + 4, none⟩ (.int .u64 x.k)).setCell ⟨g1, J * 6 + 5, none⟩ (.int .u64 x.v)) = W4 at HST ⊢
    refine hK.out _ _ (fun hD => absurd (by decide) hD) ?_
    clear hK K
    try simp only [Act.put, List.setIfInBounds_toArray, List.set_cons_zero, List.set_cons_succ]
    refine wpAnyD_done (by kernel_rfl) ?_ _
    have hKW : Hid (Kp (fun k => k = g1) W2 W4) := (Kp.of_gr hGd).trans (T := fun k => k = g1) HST.out.2 (fun _ _ h => h)
    have hgr : rb ≠ g1 := fun e => HPN.out.off HI.out (by rw [HV1.out.1, e]; rfl)
    have d2 := (hKW.out.cell (o := o + 2) hl2 hgr).trans c12
    have l4 := Nat.lt_of_lt_of_le hl2 hKW.out.size
    have f4 : W4.frozen? ⟨rb, o + 2, none⟩ = false := (HPN.out.blk.kept (hKW.out.block rb hl2 hgr)).fz _
    clear c10 c11 c12 fz2 fzg hat y0 y1 y2 y3 y4 y5 fz3 hOW3 hS0 hS3
    go_wp2_with fail
    go_end0
    refine ⟨rfl, ?_⟩
    have hFin := HPN.out.put1 HI.out (x := x) (by rw [← HV1.out.2.1, ← HV1.out.2.2.2]; exact hlt1) (w3 := W4) (by rw [← HV1.out.2.2.1, ← HV1.out.2.1, ← HV1.out.2.2.2, ← HJ.out, HV1.out.1, ← HV1.out.2.2.2]; exact HST.out.1) (hKW.out.mono (fun k e => by rw [HV1.out.1, e]; rfl))
    have hR := HNX.out.put hFin.1 hFin.2
    rw [← HV1.out.2.1, ← HO.out] at hR
    exact hR
end
end Go.Proofs.Ytaaobchodbnkpaa.Qe
