import Derived.Test.YtghofmhlmkpkcaaDoorBBeh
namespace Go.Proofs.YtghofmhlmkpkcaaDoor.Wi
open Go.RowKit Go.Sort
attribute [local go_sem ↓] Go.wp_at_zero Go.wp_at_succ
theorem tk_store {w : World} {b : Nat} {cs : Array Value} {t : TypeId} (h : w.heap[b]? = some (.cells cs t (0, 0))) : (∀ i, w.cell? ⟨b, i, none⟩ = cs[i]?) ∧ ∀ i, w.frozen? ⟨b, i, none⟩ = false := by
  refine ⟨fun i => by simp [World.cell?, h], fun i => by simp [World.frozen?, h]⟩
theorem tk_set {w : World} {b : Nat} {cs : Array Value} {t : TypeId} (h : w.heap[b]? = some (.cells cs t (0, 0))) (i : Nat) (x : Value) : (w.setCell ⟨b, i, none⟩ x).heap[b]? = some (.cells (cs.setIfInBounds i x) t (0, 0)) ∧ Kp (fun k => k = b) w (w.setCell ⟨b, i, none⟩ x) := by
  have e := setCell_eq_setRow w b i _ _ _ x h
  rw [e]
  exact ⟨by rw [setRow_heap w b _ _ _ _ h], rfl, rfl, rfl, by simp [World.setRow], fun k _ hne => setRow_other w b k _ (by omega)⟩
theorem rn_le (e most : Nat) (l : List UInt8) : (rn e most l).1 ≤ most ∧ (rn e most l).1 < 18446744073709551616 ∧ (rn e most l).2.1 ≤ l.length ∧ ((rn e most l).2.2 ≠ 0 → (rn e most l).2.1 = 0 ∧ (rn e most l).1 = 0) := by
  unfold rn
  split
  · rcases scan_back most l 0 0 (by decide) (by decide) with ⟨e, h, h2⟩ | ⟨u, n, h1, h2, h3, h4, h5, h6, h7, h8⟩
    · rw [h]; simp
    · rw [h1]; simp at *; omega
  · simp
theorem num_rn (L : List UInt8) (most at_ : Nat) : ((rn 0 most (L.drop at_)).2.2 = 0 ∧ num L most at_ = .ok ((rn 0 most (L.drop at_)).1, at_ + (rn 0 most (L.drop at_)).2.1)) ∨ ((rn 0 most (L.drop at_)).2.2 ≠ 0 ∧ num L most at_ = .error (at_, (rn 0 most (L.drop at_)).2.2) ∧ (rn 0 most (L.drop at_)).2.1 = 0) := by
  have hz := (rn_le 0 most (L.drop at_)).2.2.2
  have e : rn 0 most (L.drop at_) = scan most 0 0 (L.drop at_) := rfl
  rw [e] at hz ⊢
  unfold num
  by_cases h : (scan most 0 0 (L.drop at_)).2.2 = 0
  · left; rw [if_pos h]; exact ⟨h, rfl⟩
  · right; rw [if_neg h]; exact ⟨h, rfl, (hz h).1⟩
theorem rn_bad {e : Nat} (most : Nat) (l : List UInt8) (h : e ≠ 0) : rn e most l = (0, 0, e) := by unfold rn; rw [if_neg h]
/-- Five numbers one behind the other, behind an error none. -/
theorem five_rn {L : List UInt8} {at_ u1 n1 e1 u2 n2 e2 u3 n3 e3 u4 n4 e4 u5 n5 e5 : Nat} (h1 : rn 0 191 (L.drop at_) = (u1, n1, e1)) (h2 : rn e1 mx (L.drop (at_ + n1)) = (u2, n2, e2)) (h3 : rn e2 mx (L.drop (at_ + n1 + n2)) = (u3, n3, e3)) (h4 : rn e3 mx (L.drop (at_ + n1 + n2 + n3)) = (u4, n4, e4)) (h5 : rn e4 mx (L.drop (at_ + n1 + n2 + n3 + n4)) = (u5, n5, e5)) :
    (e5 = 0 ∧ five L at_ = .ok ((u1, u2, u3, u4, u5), at_ + n1 + n2 + n3 + n4, at_ + n1 + n2 + n3 + n4 + n5)) ∨ (e5 ≠ 0 ∧ five L at_ = .error (at_ + n1 + n2 + n3 + n4 + n5, e5)) := by
  have bad : ∀ {e u n e' m : Nat} {l : List UInt8}, e ≠ 0 → rn e m l = (u, n, e') → n = 0 ∧ e' = e := fun h k => by
    rw [rn_bad _ _ h] at k
    simp only [Prod.mk.injEq] at k
    exact ⟨k.2.1.symm, k.2.2.symm⟩
  rcases num_rn L 191 at_ with ⟨a1, k1⟩ | ⟨a1, k1, z1⟩
  · rw [h1] at a1 k1
    simp only at a1 k1
    subst a1
    rcases num_rn L mx (at_ + n1) with ⟨a2, k2⟩ | ⟨a2, k2, z2⟩
    · rw [h2] at a2 k2
      simp only at a2 k2
      subst a2
      rcases num_rn L mx (at_ + n1 + n2) with ⟨a3, k3⟩ | ⟨a3, k3, z3⟩
      · rw [h3] at a3 k3
        simp only at a3 k3
        subst a3
        rcases num_rn L mx (at_ + n1 + n2 + n3) with ⟨a4, k4⟩ | ⟨a4, k4, z4⟩
        · rw [h4] at a4 k4
          simp only at a4 k4
          subst a4
          rcases num_rn L mx (at_ + n1 + n2 + n3 + n4) with ⟨a5, k5⟩ | ⟨a5, k5, z5⟩
          · rw [h5] at a5 k5
            simp only at a5 k5
            subst a5
            left
            refine ⟨rfl, ?_⟩
            unfold five
            simp only [k1, k2, k3, k4, k5]
          · rw [h5] at a5 k5 z5
            simp only at a5 k5 z5
            subst z5
            right
            refine ⟨a5, ?_⟩
            unfold five
            simp only [k1, k2, k3, k4, k5, Nat.add_zero]
        · rw [h4] at a4 k4 z4
          simp only at a4 k4 z4
          subst z4
          obtain ⟨rfl, rfl⟩ := bad a4 h5
          right
          refine ⟨a4, ?_⟩
          unfold five
          simp only [k1, k2, k3, k4, Nat.add_zero]
      · rw [h3] at a3 k3 z3
        simp only at a3 k3 z3
        subst z3
        obtain ⟨rfl, rfl⟩ := bad a3 h4
        obtain ⟨rfl, rfl⟩ := bad a3 h5
        right
        refine ⟨a3, ?_⟩
        unfold five
        simp only [k1, k2, k3, Nat.add_zero]
    · rw [h2] at a2 k2 z2
      simp only at a2 k2 z2
      subst z2
      obtain ⟨rfl, rfl⟩ := bad a2 h3
      obtain ⟨rfl, rfl⟩ := bad a2 h4
      obtain ⟨rfl, rfl⟩ := bad a2 h5
      right
      refine ⟨a2, ?_⟩
      unfold five
      simp only [k1, k2, Nat.add_zero]
  · rw [h1] at a1 k1 z1
    simp only at a1 k1 z1
    subst z1
    obtain ⟨rfl, rfl⟩ := bad a1 h2
    obtain ⟨rfl, rfl⟩ := bad a1 h3
    obtain ⟨rfl, rfl⟩ := bad a1 h4
    obtain ⟨rfl, rfl⟩ := bad a1 h5
    right
    refine ⟨a1, ?_⟩
    unfold five
    simp only [k1, Nat.add_zero]
theorem set5 {w : World} {b : Nat} {x0 x1 x2 x3 x4 : Value} {t : TypeId} (h : w.heap[b]? = some (.cells #[x0, x1, x2, x3, x4] t (0, 0))) (a0 a1 a2 a3 a4 : Value) :
    (((((w.setCell ⟨b, 0, none⟩ a0).setCell ⟨b, 1, none⟩ a1).setCell ⟨b, 2, none⟩ a2).setCell ⟨b, 3, none⟩ a3).setCell ⟨b, 4, none⟩ a4).heap[b]? = some (.cells #[a0, a1, a2, a3, a4] t (0, 0)) ∧ Kp (fun k => k = b) w (((((w.setCell ⟨b, 0, none⟩ a0).setCell ⟨b, 1, none⟩ a1).setCell ⟨b, 2, none⟩ a2).setCell ⟨b, 3, none⟩ a3).setCell ⟨b, 4, none⟩ a4) := by
  obtain ⟨h0, k0⟩ := tk_set h 0 a0
  obtain ⟨h1, k1⟩ := tk_set h0 1 a1
  obtain ⟨h2, k2⟩ := tk_set h1 2 a2
  obtain ⟨h3, k3⟩ := tk_set h2 3 a3
  obtain ⟨h4, k4⟩ := tk_set h3 4 a4
  refine ⟨?_, (((k0.trans k1 (fun _ _ h => h)).trans k2 (fun _ _ h => h)).trans k3 (fun _ _ h => h)).trans k4 (fun _ _ h => h)⟩
  rw [h4]
  simp only [List.setIfInBounds_toArray, List.set_cons_zero, List.set_cons_succ]
/-- While a change is taken: the reader, the answer's box and the change's. -/
structure Tf (w wr : World) (rb B0 B1 : Nat) (v : Value) (L : List UInt8) (at_ e : Nat) (xs : Array Value) : Prop where
  rd : Rd wr rb v L at_ e
  kp : Kp (fun k => k = rb) w wr
  n0 : w.heap.size ≤ B0
  n1 : w.heap.size ≤ B1
  ne : B0 ≠ B1
  lt : rb < w.heap.size
  ow : ∀ k, v.ownBlock = some k → k < w.heap.size
  b0 : wr.heap[B0]? = some (.cells #[.int .i64 0, .int .u64 0, .int .u64 0, .int .u64 0, .int .i64 0] 43 (0, 0))
  b1 : wr.heap[B1]? = some (.cells xs 43 (0, 0))
section
variable {w wr : World} {rb B0 B1 at_ e : Nat} {v : Value} {L : List UInt8} {xs : Array Value}
theorem Tf.call (h : Tf w wr rb B0 B1 v L at_ e xs) {w2 : World} {a2 e2 : Nat} (hR : Rd w2 rb v L a2 e2) (hk : Kp (fun k => k = rb) wr w2) : Tf w w2 rb B0 B1 v L a2 e2 xs := by
  have l0 := (Array.getElem?_eq_some_iff.1 h.b0).1
  have l1 := (Array.getElem?_eq_some_iff.1 h.b1).1
  have := h.lt; have := h.n0; have := h.n1
  exact ⟨hR, h.kp.trans hk (fun _ _ h => h), h.n0, h.n1, h.ne, h.lt, h.ow, (hk.block B0 l0 (by omega)).trans h.b0, (hk.block B1 l1 (by omega)).trans h.b1⟩
theorem Tf.gr (h : Tf w wr rb B0 B1 v L at_ e xs) {w2 : World} (hg : Gr wr w2) : Tf w w2 rb B0 B1 v L at_ e xs := h.call (h.rd.gr hg) (Kp.of_gr hg)
theorem Tf.set (h : Tf w wr rb B0 B1 v L at_ e xs) (i : Nat) (x : Value) : Tf w (wr.setCell ⟨B1, i, none⟩ x) rb B0 B1 v L at_ e (xs.setIfInBounds i x) := by
  obtain ⟨k1, k2⟩ := tk_set h.b1 i x
  have l0 := (Array.getElem?_eq_some_iff.1 h.b0).1
  have := h.lt; have := h.n1
  refine ⟨h.rd.kp k2 (by omega) (fun k hk e => by have := h.ow k hk; omega), h.kp.trans k2 (fun j hj hs => by omega), h.n0, h.n1, h.ne, h.lt, h.ow, (k2.block B0 l0 h.ne).trans h.b0, k1⟩
theorem Tf.c1 (h : Tf w wr rb B0 B1 v L at_ e xs) : (∀ i, wr.cell? ⟨B1, i, none⟩ = xs[i]?) ∧ (∀ i, wr.frozen? ⟨B1, i, none⟩ = false) ∧ B1 < wr.heap.size := ⟨(tk_store h.b1).1, (tk_store h.b1).2, (Array.getElem?_eq_some_iff.1 h.b1).1⟩
end
/-- What taking a change leaves. -/
def Tkd (w : World) (rb : Nat) (v : Value) (L : List UInt8) (x : Except Er (Cx × Nat)) (r : Ending) (w' : World) : Prop :=
  Kp (fun k => k = rb) w w' ∧ match x with
  | .ok (c, a) => r = .returned (.tuple #[gv c, .pointer none]) ∧ Rd w' rb v L a 0
  | .error (p, e) => ∃ fb, r = .returned (.tuple #[.agg #[.int .i64 0, .int .u64 0, .int .u64 0, .int .u64 0, .int .i64 0], .pointer (some ⟨fb, 0, none⟩)]) ∧ w.heap.size ≤ fb ∧ w'.heap[fb]? = some (.cells #[.int .i64 (p : Nat), .int .i64 (e : Nat)] 60 (0, 0))
set_option maxHeartbeats 8000000 in
set_option maxRecDepth 100000 in
theorem take_one {rb at_ : Nat} {v la : Value} {L : List UInt8} {acc : List Cx} (w : World) (hR : Rd w rb v L at_ 0) (hA : Ls EC w la acc) (hap : la.ownBlock ≠ some rb) (hl : acc.length < 4611686018427387904) :
    Calls Tryd.prog 25 #[.pointer (some ⟨rb, 0, none⟩), la] w fun r w' => Tkd w rb v L (bone L acc.getLast? at_) r w' := by
  obtain ⟨W1, hW1⟩ : ∃ W, W = w.alloc (.cells #[.int .i64 0, .int .u64 0, .int .u64 0, .int .u64 0, .int .i64 0] 43) := ⟨_, rfl⟩
  obtain ⟨B0, hB0⟩ : ∃ B, B = w.heap.size := ⟨_, rfl⟩
  have G1 : Gr w W1 := by rw [hW1]; exact (Gr.refl _).alloc _
  have hat := rat_any W1 (hR.gr G1)
  obtain ⟨W2, hW2⟩ : ∃ W, W = W1.alloc (.cells #[.int .i64 0, .int .u64 0, .int .u64 0, .int .u64 0, .int .i64 0] 43) := ⟨_, rfl⟩
  obtain ⟨B1, hB1⟩ : ∃ B, B = W1.heap.size := ⟨_, rfl⟩
  have G2 : Gr W1 W2 := by rw [hW2]; exact (Gr.refl _).alloc _
  have hB01 : B1 = B0 + 1 := by rw [hB1, hW1, hB0]; simp
  have hb0 : W2.heap[B0]? = some (.cells #[.int .i64 0, .int .u64 0, .int .u64 0, .int .u64 0, .int .i64 0] 43 (0, 0)) := by
    have h1 : W1.heap[B0]? = some (.cells #[.int .i64 0, .int .u64 0, .int .u64 0, .int .u64 0, .int .i64 0] 43 (0, 0)) := by rw [hW1, hB0]; exact heap_new' _ _
    exact (G2.below.block _ (Array.getElem?_eq_some_iff.1 h1).1).trans h1
  have hb1 : W2.heap[B1]? = some (.cells #[.int .i64 0, .int .u64 0, .int .u64 0, .int .u64 0, .int .i64 0] 43 (0, 0)) := by rw [hW2, hB1]; exact heap_new' _ _
  have F0 : Hid (Tf w W2 rb B0 B1 v L at_ 0 #[.int .i64 0, .int .u64 0, .int .u64 0, .int .u64 0, .int .i64 0]) := ⟨hR.gr (G1.trans G2), Kp.of_gr (G1.trans G2), by omega, by omega, by omega, hR.lt, hR.ls.blk, hb0, hb1⟩
  have HA : Hid (∀ W, Kp (fun k => k = rb) w W → Ls EC W la acc) := fun W hk => hk.ls hA (fun k hk' e => hap (e ▸ hk'))
  obtain ⟨pa, ca, rfl⟩ := hA.form
  have HL := hid hl
  clear hR hA hap hb0 hb1 G1 G2 hB01 hl
  go_enter Tryd.func25, Tryd.ntmps25
  go_wp2_with fail
  rw [← hW1]
  (try rw [← hB0])
  clear hW1 hB0
  refine hat.mono ?_
  rintro r wx ⟨rfl, rfl⟩
  clear hat
  go_wp2_with fail
  (try rw [← hW2])
  (try rw [← hB1])
  clear hW2 hB1
  obtain ⟨⟨u1, n1, e1⟩, hs1⟩ : ∃ S, rn 0 191 (L.drop (at_)) = S := ⟨_, rfl⟩
  have hb1 := rn_le 0 191 (L.drop (at_))
  have hc1 := rnum_any 191 _ F0.out.rd
  rw [hs1] at hb1 hc1
  simp only at hb1 hc1
  rw [show ((191 : Nat) : Int) = 191 from rfl] at hc1
  refine hc1.mono ?_
  rintro r wa1 ⟨rfl, ha1, ka1⟩
  obtain ⟨p1, hp1⟩ : ∃ p, at_ + n1 = p := ⟨_, rfl⟩
  rw [hp1] at ha1
  have HP1 := hid hp1
  clear hp1
  have FA1 := hid (F0.out.call ha1 ka1)
  have HS1 := hid hs1
  have HB1 := hid hb1
  obtain ⟨q1, qf1, ql1⟩ := FA1.out.c1
  have qc1 := q1 0
  have qg1 := qf1 0
  clear hc1 ha1 ka1 hs1 hb1 q1 qf1
  have hwr : IntKind.i64.wrap (u1 : Int) = (u1 : Int) := by rw [IntKind.wrap_i64]; have := HB1.out; omega
  go_wp2_with fail
  have FB1 := hid (FA1.out.set 0 (.int .i64 (u1 : Nat)))
  clear qc1 qg1 ql1
  obtain ⟨⟨u2, n2, e2⟩, hs2⟩ : ∃ S, rn e1 mx (L.drop (p1)) = S := ⟨_, rfl⟩
  have hb2 := rn_le e1 mx (L.drop (p1))
  have hc2 := rnum_any mx _ FB1.out.rd
  rw [hs2] at hb2 hc2
  simp only at hb2 hc2
  rw [show ((mx : Nat) : Int) = 18446744073709551615 from rfl] at hc2
  refine hc2.mono ?_
  rintro r wa2 ⟨rfl, ha2, ka2⟩
  obtain ⟨p2, hp2⟩ : ∃ p, p1 + n2 = p := ⟨_, rfl⟩
  rw [hp2] at ha2
  have HP2 := hid hp2
  clear hp2
  have FA2 := hid (FB1.out.call ha2 ka2)
  have HS2 := hid hs2
  have HB2 := hid hb2
  obtain ⟨q2, qf2, ql2⟩ := FA2.out.c1
  have qc2 := q2 1
  have qg2 := qf2 1
  clear hc2 ha2 ka2 hs2 hb2 q2 qf2
  go_wp2_with fail
  have FB2 := hid (FA2.out.set 1 (.int .u64 (u2 : Nat)))
  clear qc2 qg2 ql2
  obtain ⟨⟨u3, n3, e3⟩, hs3⟩ : ∃ S, rn e2 mx (L.drop (p2)) = S := ⟨_, rfl⟩
  have hb3 := rn_le e2 mx (L.drop (p2))
  have hc3 := rnum_any mx _ FB2.out.rd
  rw [hs3] at hb3 hc3
  simp only at hb3 hc3
  rw [show ((mx : Nat) : Int) = 18446744073709551615 from rfl] at hc3
  refine hc3.mono ?_
  rintro r wa3 ⟨rfl, ha3, ka3⟩
  obtain ⟨p3, hp3⟩ : ∃ p, p2 + n3 = p := ⟨_, rfl⟩
  rw [hp3] at ha3
  have HP3 := hid hp3
  clear hp3
  have FA3 := hid (FB2.out.call ha3 ka3)
  have HS3 := hid hs3
  have HB3 := hid hb3
  obtain ⟨q3, qf3, ql3⟩ := FA3.out.c1
  have qc3 := q3 2
  have qg3 := qf3 2
  clear hc3 ha3 ka3 hs3 hb3 q3 qf3
  go_wp2_with fail
  have FB3 := hid (FA3.out.set 2 (.int .u64 (u3 : Nat)))
  clear qc3 qg3 ql3
  obtain ⟨⟨u4, n4, e4⟩, hs4⟩ : ∃ S, rn e3 mx (L.drop (p3)) = S := ⟨_, rfl⟩
  have hb4 := rn_le e3 mx (L.drop (p3))
  have hc4 := rnum_any mx _ FB3.out.rd
  rw [hs4] at hb4 hc4
  simp only at hb4 hc4
  rw [show ((mx : Nat) : Int) = 18446744073709551615 from rfl] at hc4
  refine hc4.mono ?_
  rintro r wa4 ⟨rfl, ha4, ka4⟩
  obtain ⟨p4, hp4⟩ : ∃ p, p3 + n4 = p := ⟨_, rfl⟩
  rw [hp4] at ha4
  have HP4 := hid hp4
  clear hp4
  have FA4 := hid (FB3.out.call ha4 ka4)
  have HS4 := hid hs4
  have HB4 := hid hb4
  obtain ⟨q4, qf4, ql4⟩ := FA4.out.c1
  have qc4 := q4 3
  have qg4 := qf4 3
  clear hc4 ha4 ka4 hs4 hb4 q4 qf4
  go_wp2_with fail
  have FB4 := hid (FA4.out.set 3 (.int .u64 (u4 : Nat)))
  clear qc4 qg4 ql4
  refine (rat_any _ FB4.out.rd).mono ?_
  rintro r wx4 ⟨rfl, rfl⟩
  go_wp2_with fail
  obtain ⟨⟨u5, n5, e5⟩, hs5⟩ : ∃ S, rn e4 mx (L.drop (p4)) = S := ⟨_, rfl⟩
  have hb5 := rn_le e4 mx (L.drop (p4))
  have hc5 := rint_any _ FB4.out.rd
  rw [show (18446744073709551615 : Nat) = mx from rfl, hs5] at hc5
  rw [hs5] at hb5
  simp only at hb5 hc5
  refine hc5.mono ?_
  rintro r wa5 ⟨rfl, ha5, ka5⟩
  obtain ⟨p5, hp5⟩ : ∃ p, p4 + n5 = p := ⟨_, rfl⟩
  rw [hp5] at ha5
  have HP5 := hid hp5
  clear hp5
  have FA5 := hid (FB4.out.call ha5 ka5)
  have HS5 := hid hs5
  have HB5 := hid hb5
  obtain ⟨q5, qf5, ql5⟩ := FA5.out.c1
  have qc5 := q5 4
  have qg5 := qf5 4
  clear hc5 ha5 ka5 hs5 hb5 q5 qf5
  go_wp2_with fail
  have FB5 := hid (FA5.out.set 4 (.int .i64 (unfold u5)))
  clear qc5 qg5 ql5
  have HF : Hid ((e5 = 0 ∧ five L at_ = .ok ((u1, u2, u3, u4, u5), p4, p5)) ∨ (e5 ≠ 0 ∧ five L at_ = .error (p5, e5))) := by
    obtain rfl := HP1.out
    obtain rfl := HP2.out
    obtain rfl := HP3.out
    obtain rfl := HP4.out
    obtain rfl := HP5.out
    exact five_rn HS1.out HS2.out HS3.out HS4.out HS5.out
  obtain ⟨W5, hW5⟩ : ∃ W, W = wa5.setCell ⟨B1, 4, none⟩ (.int .i64 (unfold u5)) := ⟨_, rfl⟩
  rw [← hW5] at FB5 ⊢
  clear hW5
  refine (rerr_any _ FB5.out.rd).mono ?_
  rintro r wx5 ⟨rfl, rfl⟩
  by_cases he : e5 = 0
  · subst he
    obtain ⟨c, hc⟩ : ∃ c, c = mkC u1 u2 u3 u4 (unfold u5) := ⟨_, rfl⟩
    have hub := unfold_bd HB5.out.2.1
    obtain ⟨m0, m1, m2, m3, m4⟩ := mkC_eq (a := u1) (A := u2) (B := u3) (C := u4) (N := unfold u5) (by have := HB1.out; omega) HB2.out.2.1 HB3.out.2.1 HB4.out.2.1 hub.1 hub.2
    rw [← hc] at m0 m1 m2 m3 m4
    have hbx : wx5.heap[B1]? = some (.cells #[.int .i64 c.pl, .int .u64 (c.A : Nat), .int .u64 (c.B : Nat), .int .u64 (c.C : Nat), .int .i64 c.N] 43 (0, 0)) := by
      rw [m0, m1, m2, m3, m4]
      simpa using FB5.out.b1
    have HB0 : Hid (bone L acc.getLast? at_ = if wr1 c ≠ 0 then .error (p4, wr1 c) else if bh acc.getLast? c = false then .error (at_, 31) else .ok (c, p5)) := by
      show _ = _
      rcases HF.out with ⟨_, h⟩ | ⟨h, _⟩
      · unfold bone; rw [h, hc]
      · exact absurd rfl h
    have HBX := hid hbx
    clear m0 m1 m2 m3 m4 hub hc
    obtain ⟨z0, z1, z2, z3, z4, z5⟩ := box_at hbx
    clear hbx
    go_wp2_with fail
    refine (wrong_any c _).mono ?_
    rintro r wx6 ⟨rfl, g6⟩
    have FB6 := hid (FB5.out.gr g6)
    have HBY := hid ((g6.below.block B1 z5).trans HBX.out)
    clear z0 z1 z2 z3 z4 z5 g6
    obtain ⟨z0, z1, z2, z3, z4, z5⟩ := box_at HBY.out
    by_cases hw : wr1 c = 0
    · rw [hw]
      go_wp2_with fail
      refine (behind_any c _ (HA.out _ FB6.out.kp) HL.out).mono ?_
      rintro r wx7 ⟨rfl, g7⟩
      have FB7 := hid (FB6.out.gr g7)
      have HBZ := hid ((g7.below.block B1 z5).trans HBY.out)
      clear z0 z1 z2 z3 z4 z5 g7
      obtain ⟨z0, z1, z2, z3, z4, z5⟩ := box_at HBZ.out
      cases hbh : bh acc.getLast? c
      · have HB : Hid (bone L acc.getLast? at_ = .error (at_, 31)) := by
          show _ = _
          rw [HB0.out, if_neg (by simpa using hw), hbh, if_pos rfl]
        obtain ⟨y, yf⟩ := tk_store FB7.out.b0
        have y0 := y 0
        have y1 := y 1
        have y2 := y 2
        have y3 := y 3
        have y4 := y 4
        have g0 := yf 0
        have g1 := yf 1
        have g2 := yf 2
        have g3 := yf 3
        have g4 := yf 4
        have gl := (Array.getElem?_eq_some_iff.1 FB7.out.b0).1
        clear y yf
        go_wp2_with fail
        obtain ⟨Wf, hWf⟩ : ∃ W, W = ((((wx7.setCell ⟨B0, 0, none⟩ (.int .i64 0)).setCell ⟨B0, 1, none⟩ (.int .u64 0)).setCell ⟨B0, 2, none⟩ (.int .u64 0)).setCell ⟨B0, 3, none⟩ (.int .u64 0)).setCell ⟨B0, 4, none⟩ (.int .i64 0) := ⟨_, rfl⟩
        rw [← hWf]
        obtain ⟨k1, k2⟩ := set5 FB7.out.b0 (.int .i64 0) (.int .u64 0) (.int .u64 0) (.int .u64 0) (.int .i64 0)
        rw [← hWf] at k1 k2
        have hsz : Wf.heap.size = wx7.heap.size := by rw [hWf]; simp
        obtain ⟨WX, hWX⟩ : ∃ W, W = Wf.alloc (.cells #[.int .i64 (at_ : Nat), .int .i64 31] 60) := ⟨_, rfl⟩
        obtain ⟨fb, hfb⟩ : ∃ fb, fb = wx7.heap.size := ⟨_, rfl⟩
        rw [← hWX, ← hfb]
        have GX : Gr Wf WX := by rw [hWX]; exact (Gr.refl _).alloc _
        have HF6 : Hid (WX.heap[fb]? = some (.cells #[.int .i64 ((at_ : Nat) : Int), .int .i64 ((31 : Nat) : Int)] 60 (0, 0))) := by rw [hWX, hfb, ← hsz]; exact heap_new' _ _
        have k3 := (GX.below.block B0 (Array.getElem?_eq_some_iff.1 k1).1).trans k1
        have qf := (tk_store k3).1
        have q0 := qf 0
        have q1 := qf 1
        have q2 := qf 2
        have q3 := qf 3
        have q4 := qf 4
        refine bodyPost_ret (v := .tuple #[.agg #[.int .i64 0, .int .u64 0, .int .u64 0, .int .u64 0, .int .i64 0], .pointer (some ⟨fb, 0, none⟩)]) (by simp [results, Tryd.results25, go_sem, q0, q1, q2, q3, q4]) rfl ?_
        show Tkd _ _ _ _ _ _ _
        rw [HB.out]
        exact ⟨(FB7.out.kp.trans k2 (fun j hj e => by have := FB7.out.n0; omega)).trans (Kp.of_gr GX) (fun _ _ h => h), fb, rfl, by rw [hfb]; exact FB7.out.kp.size, HF6.out⟩
      · have HB : Hid (bone L acc.getLast? at_ = .ok (c, p5)) := by
          show _ = _
          rw [HB0.out, if_neg (by simpa using hw), hbh, if_neg (by decide)]
        obtain ⟨y, yf⟩ := tk_store FB7.out.b0
        have y0 := y 0
        have y1 := y 1
        have y2 := y 2
        have y3 := y 3
        have y4 := y 4
        have g0 := yf 0
        have g1 := yf 1
        have g2 := yf 2
        have g3 := yf 3
        have g4 := yf 4
        have gl := (Array.getElem?_eq_some_iff.1 FB7.out.b0).1
        clear y yf
        go_wp2_with fail
        obtain ⟨Wf, hWf⟩ : ∃ W, W = ((((wx7.setCell ⟨B0, 0, none⟩ (.int .i64 c.pl)).setCell ⟨B0, 1, none⟩ (.int .u64 (c.A : Nat))).setCell ⟨B0, 2, none⟩ (.int .u64 (c.B : Nat))).setCell ⟨B0, 3, none⟩ (.int .u64 (c.C : Nat))).setCell ⟨B0, 4, none⟩ (.int .i64 c.N) := ⟨_, rfl⟩
        rw [← hWf]
        obtain ⟨k1, k2⟩ := set5 FB7.out.b0 (.int .i64 c.pl) (.int .u64 (c.A : Nat)) (.int .u64 (c.B : Nat)) (.int .u64 (c.C : Nat)) (.int .i64 c.N)
        rw [← hWf] at k1 k2
        have qf := (tk_store k1).1
        have q0 := qf 0
        have q1 := qf 1
        have q2 := qf 2
        have q3 := qf 3
        have q4 := qf 4
        refine bodyPost_ret (v := .tuple #[.agg #[.int .i64 c.pl, .int .u64 (c.A : Nat), .int .u64 (c.B : Nat), .int .u64 (c.C : Nat), .int .i64 c.N], .pointer none]) (by simp [results, Tryd.results25, go_sem, q0, q1, q2, q3, q4]) rfl ?_
        show Tkd _ _ _ _ _ _ _
        rw [HB.out]
        refine ⟨FB7.out.kp.trans k2 (fun j hj e => by have := FB7.out.n0; omega), ?_⟩
        exact ⟨rfl, FB7.out.rd.kp k2 (fun e => by have := FB7.out.lt; have := FB7.out.n0; omega) (fun k hk e => by have := FB7.out.ow k hk; have := FB7.out.n0; omega)⟩
    · have HB : Hid (bone L acc.getLast? at_ = .error (p4, wr1 c)) := by
        show _ = _
        rw [HB0.out, if_pos hw]
      obtain ⟨wc, hwc⟩ : ∃ wc, wr1 c = wc := ⟨_, rfl⟩
      rw [hwc] at hw HB ⊢
      have hwz : ¬ (wc : Int) = 0 := by omega
      obtain ⟨y, yf⟩ := tk_store FB6.out.b0
      have y0 := y 0
      have y1 := y 1
      have y2 := y 2
      have y3 := y 3
      have y4 := y 4
      have g0 := yf 0
      have g1 := yf 1
      have g2 := yf 2
      have g3 := yf 3
      have g4 := yf 4
      have gl := (Array.getElem?_eq_some_iff.1 FB6.out.b0).1
      clear y yf
      go_wp2_with fail
      obtain ⟨Wf, hWf⟩ : ∃ W, W = ((((wx6.setCell ⟨B0, 0, none⟩ (.int .i64 0)).setCell ⟨B0, 1, none⟩ (.int .u64 0)).setCell ⟨B0, 2, none⟩ (.int .u64 0)).setCell ⟨B0, 3, none⟩ (.int .u64 0)).setCell ⟨B0, 4, none⟩ (.int .i64 0) := ⟨_, rfl⟩
      rw [← hWf]
      obtain ⟨k1, k2⟩ := set5 FB6.out.b0 (.int .i64 0) (.int .u64 0) (.int .u64 0) (.int .u64 0) (.int .i64 0)
      rw [← hWf] at k1 k2
      have hsz : Wf.heap.size = wx6.heap.size := by rw [hWf]; simp
      obtain ⟨WX, hWX⟩ : ∃ W, W = Wf.alloc (.cells #[.int .i64 (p4 : Nat), .int .i64 (wc : Nat)] 60) := ⟨_, rfl⟩
      obtain ⟨fb, hfb⟩ : ∃ fb, fb = wx6.heap.size := ⟨_, rfl⟩
      rw [← hWX, ← hfb]
      have GX : Gr Wf WX := by rw [hWX]; exact (Gr.refl _).alloc _
      have HF6 : Hid (WX.heap[fb]? = some (.cells #[.int .i64 ((p4 : Nat) : Int), .int .i64 ((wc : Nat) : Int)] 60 (0, 0))) := by rw [hWX, hfb, ← hsz]; exact heap_new' _ _
      have k3 := (GX.below.block B0 (Array.getElem?_eq_some_iff.1 k1).1).trans k1
      have qf := (tk_store k3).1
      have q0 := qf 0
      have q1 := qf 1
      have q2 := qf 2
      have q3 := qf 3
      have q4 := qf 4
      refine bodyPost_ret (v := .tuple #[.agg #[.int .i64 0, .int .u64 0, .int .u64 0, .int .u64 0, .int .i64 0], .pointer (some ⟨fb, 0, none⟩)]) (by simp [results, Tryd.results25, go_sem, q0, q1, q2, q3, q4]) rfl ?_
      show Tkd _ _ _ _ _ _ _
      rw [HB.out]
      exact ⟨(FB6.out.kp.trans k2 (fun j hj e => by have := FB6.out.n0; omega)).trans (Kp.of_gr GX) (fun _ _ h => h), fb, rfl, by rw [hfb]; exact FB6.out.kp.size, HF6.out⟩
  · have hez : ¬ (e5 : Int) = 0 := by omega
    have HB : Hid (bone L acc.getLast? at_ = .error (p5, e5)) := by
      show _ = _
      rcases HF.out with ⟨h, _⟩ | ⟨_, h⟩
      · exact absurd h he
      · unfold bone; rw [h]
    go_wp2_with fail
    refine (refused_any _ FB5.out.rd).mono ?_
    rintro r wx6 ⟨rfl, hw6⟩
    have G6 : Gr wx5 wx6 := by rw [hw6]; exact (Gr.refl _).alloc _
    obtain ⟨fb, hfb⟩ : ∃ fb, fb = wx5.heap.size := ⟨_, rfl⟩
    have HF6 : Hid (wx6.heap[fb]? = some (.cells #[.int .i64 (p5 : Nat), .int .i64 (e5 : Nat)] 60 (0, 0))) := by rw [hw6, hfb]; exact heap_new' _ _
    rw [← hfb]
    have FB6 := hid (FB5.out.gr G6)
    have hfl : Hid (w.heap.size ≤ fb ∧ B0 < fb) := ⟨by rw [hfb]; exact FB5.out.kp.size, by rw [hfb]; exact (Array.getElem?_eq_some_iff.1 FB5.out.b0).1⟩
    obtain ⟨y, yf⟩ := tk_store FB6.out.b0
    have y0 := y 0
    have y1 := y 1
    have y2 := y 2
    have y3 := y 3
    have y4 := y 4
    have g0 := yf 0
    have g1 := yf 1
    have g2 := yf 2
    have g3 := yf 3
    have g4 := yf 4
    have gl := (Array.getElem?_eq_some_iff.1 FB6.out.b0).1
    clear y yf
    clear hw6 hfb G6
    go_wp2_with fail
    obtain ⟨Wf, hWf⟩ : ∃ W, W = ((((wx6.setCell ⟨B0, 0, none⟩ (.int .i64 0)).setCell ⟨B0, 1, none⟩ (.int .u64 0)).setCell ⟨B0, 2, none⟩ (.int .u64 0)).setCell ⟨B0, 3, none⟩ (.int .u64 0)).setCell ⟨B0, 4, none⟩ (.int .i64 0) := ⟨_, rfl⟩
    rw [← hWf]
    obtain ⟨k1, k2⟩ := set5 FB6.out.b0 (.int .i64 0) (.int .u64 0) (.int .u64 0) (.int .u64 0) (.int .i64 0)
    rw [← hWf] at k1 k2
    have qf := (tk_store k1).1
    have q0 := qf 0
    have q1 := qf 1
    have q2 := qf 2
    have q3 := qf 3
    have q4 := qf 4
    refine bodyPost_ret (v := .tuple #[.agg #[.int .i64 0, .int .u64 0, .int .u64 0, .int .u64 0, .int .i64 0], .pointer (some ⟨fb, 0, none⟩)]) (by simp [results, Tryd.results25, go_sem, q0, q1, q2, q3, q4]) rfl ?_
    show Tkd _ _ _ _ _ _ _
    rw [HB.out]
    refine ⟨FB6.out.kp.trans k2 (fun j hj e => by have := FB6.out.n0; omega), ?_⟩
    exact ⟨fb, rfl, hfl.out.1, (k2.block fb (Array.getElem?_eq_some_iff.1 HF6.out).1 (by have := hfl.out.2; omega)).trans HF6.out⟩
end Go.Proofs.YtghofmhlmkpkcaaDoor.Wi
