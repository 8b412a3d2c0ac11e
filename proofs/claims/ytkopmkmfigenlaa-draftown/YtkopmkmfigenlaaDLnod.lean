import Derived.Test.YtkopmkmfigenlaaDMore
namespace Go.Proofs.Ytkopmkmfigenlaa.Df
open Go.RowKit Go.Sort Wi
attribute [local go_sem ↓] Go.wp_at_zero Go.wp_at_succ

/-- A node that is read: its lists lie below M. -/
structure NR (M : Nat) (w : World) (x : NV) : Prop where
  code : Lz EO M w x.cv x.n.code
  conns : Lz EC M w x.dv x.n.conns
theorem NR.turn {M wb : Nat} {v v' : Value} {w w' : World} {x : NV} (h : NR M w x) (hM : Mm M wb v) (ht : Turn wb v v' w w') : NR M w' x := ⟨h.code.turn hM ht, h.conns.turn hM ht⟩
theorem hasmore_any (x : NV) (hc : x.cm = x.n.code.length) (hd : x.dm = x.n.conns.length) (lc : x.n.code.length ≤ 140737488355328) (ld : x.n.conns.length ≤ 140737488355328) (w : World) : Calls Try.prog 62 #[.agg x.cells] w fun r w' => r = .returned (.bool (!bare x.n)) ∧ Below w.heap.size w w' := by
  rw [← more_bare, ← hc, ← hd]
  rw [← hc] at lc
  rw [← hd] at ld
  obtain ⟨⟨k, i, o, c, p, b, d, s⟩, cq, cm, cc, dq, dm, dc⟩ := x
  simp only at lc ld ⊢
  by_cases h2 : k = 2
  · subst h2; exact more2_any i o cq cm cc p b dq dm dc s lc ld w
  · by_cases h3 : k = 3
    · subst h3; exact more3_any i o cq cm cc p b dq dm dc s lc ld w
    · by_cases h5 : k = 5
      · subst h5; exact more5_any i o cq cm cc p b dq dm dc s lc ld w
      · by_cases h8 : k = 8
        · subst h8; exact more8_any i o cq cm cc p b dq dm dc s lc ld w
        · exact more0_any k i o h2 h3 h5 h8 cq cm cc p b dq dm dc s lc ld w
/-- The errors of a node whose kind, ports and fields are right. -/
theorem eopd_first (l : List Opd) : efirst eopd l = if l.any (fun o => o.kind < 0) then 24 else 0 := by
  induction l with
  | nil => rfl
  | cons o l ih =>
    unfold efirst eopd
    by_cases h : o.kind < 0
    · simp [h]
    · have h' : ¬ o.kind < 0 := h
      simp only [h', if_false, if_true, List.any_cons, decide_false, Bool.false_or]
      exact ih
theorem econ_first (l : List Con) : efirst econ l = if l.any (fun c => c.inn < 0 || c.out < 0) then 23 else 0 := by
  induction l with
  | nil => rfl
  | cons o l ih =>
    unfold efirst econ
    by_cases h : o.inn < 0
    · simp [h]
    · by_cases h2 : o.out < 0
      · simp [h, h2]
      · have h' : ¬ o.inn < 0 := h
        have h2' : ¬ o.out < 0 := h2
        simp only [h', h2', if_false, if_true, List.any_cons, decide_false, Bool.false_or]
        exact ih
theorem bnod_len {n : Nod} (h : NodT n) (h1 : n.code.length ≤ 16) (h2 : n.conns.length ≤ 16) : (bnod n).length ≤ 2000 := by
  have a1 := bint_len h.1
  have a2 := bint_len h.2.1
  have a3 := bint_len h.2.2.1
  have a4 := flat_len bopd 50 n.code (fun o ho => by have := bopd_len (h.2.2.2.1 o ho); omega)
  have a5 := bpth_len h.2.2.2.2.1
  have a6 := ten h.2.2.2.2.2.1
  have a7 := flat_len bcon 50 n.conns (fun c hc => bcon_len (h.2.2.2.2.2.2 c hc))
  have a8 := form_ten (v := n.code.length) (by omega)
  have a9 := form_ten (v := n.conns.length) (by omega)
  unfold bnod bbody blst btruth
  split
  · simp only [List.length_append]; omega
  · split
    · simp only [List.length_append]; omega
    · split
      · simp only [List.length_append]; omega
      · split
        · simp only [List.length_append, List.length_singleton]; omega
        · simp only [List.length_append, List.length_nil]; omega
set_option maxHeartbeats 4000000 in
theorem lnode_any {wb M : Nat} {v : Value} {L : List UInt8} (x : NV) (hT : NodT x.n) (w : World) (hW : Wr w wb v L 0) (hM : Mm M wb v) (hR : NR M w x) (hb : x.n.code.length ≤ 140737488355328 ∧ x.n.conns.length ≤ 140737488355328) (hl : L.length + 4500 ≤ 140737488355328) : Calls Try.prog 41 #[lv wb, .agg x.cells] w (Pt (enod x.n) (bnod x.n) wb v L w) := by
  have hmf : ∀ (fn : Fn) (first cap : Array Value) (w : World), (Instr.makeFunc fn first cap).run Try.prog w = .ok (.func fn first cap) w := fun _ _ _ _ => rfl
  have F0 := hid (Lf.start hW 67 x.cells)
  have HM := hid hM
  have HR := hid hR
  have HT := hid hT
  have hcm : x.cm = x.n.code.length := by
    obtain ⟨p, c, h⟩ := hR.code.form
    simp only [Value.slice.injEq] at h
    exact h.2.1
  have hdm : x.dm = x.n.conns.length := by
    obtain ⟨p, c, h⟩ := hR.conns.form
    simp only [Value.slice.injEq] at h
    exact h.2.1
  have hpo := fun W => ports_any x W
  have hmo := fun W => hasmore_any x hcm hdm hb.1 hb.2 W
  have hgu := fun e W => giveup_any e 0 W
  clear hW hM hR hT
  obtain ⟨⟨k, i, o, c, p, b, d, s⟩, cq, cm, cc, dq, dm, dc⟩ := x
  simp only at hcm hdm hb
  subst hcm hdm
  by_cases hk : k < 1 ∨ 8 < k
  · have E : Hid (enod ⟨k, i, o, c, p, b, d, s⟩ = 20) := by show _ = _; unfold enod; rw [if_pos hk]
    by_cases hk1 : k < 1
    · go_enter Try.func41, Try.ntmps41
      go_wp2_with (go_at_call 59; refine (hgu 20 _).mono ?_; rintro r w7 ⟨rfl, rfl⟩)
      exact ⟨rfl, Pt.no E.out (by decide) F0.out.tn⟩
    · have hk8 : 8 < k := by omega
      go_enter Try.func41, Try.ntmps41
      go_wp2_with (go_at_call 59; refine (hgu 20 _).mono ?_; rintro r w7 ⟨rfl, rfl⟩)
      exact ⟨rfl, Pt.no E.out (by decide) F0.out.tn⟩
  · have hk1 : ¬ k < 1 := by omega
    have hk8 : ¬ 8 < k := by omega
    have HK := hid hk
    clear hk
    go_enter Try.func41, Try.ntmps41
    go_wp2_with fail
    refine (hpo _).mono ?_
    rintro r w1 ⟨rfl, g1⟩
    have F1 := hid (F0.out.call (Turn.of_below g1.below) (F0.out.wr.gr g1))
    clear F0 g1 hpo
    obtain ⟨⟨c0, l0⟩, ca, fa, la⟩ := F1.out.facts
    cases hp : ports ⟨k, i, o, c, p, b, d, s⟩ with
    | false =>
      have E : Hid (enod ⟨k, i, o, c, p, b, d, s⟩ = 21) := by show _ = _; unfold enod; rw [if_neg HK.out, if_pos hp]
      go_wp2_with (go_at_call 59; refine (hgu 21 _).mono ?_; rintro r w7 ⟨rfl, rfl⟩)
      exact ⟨rfl, Pt.no E.out (by decide) F1.out.tn⟩
    | true =>
      have HP := hid hp
      clear hp
      go_wp2_with fail
      refine (hmo _).mono ?_
      rintro r w2 ⟨rfl, g2⟩
      have F2 := hid (F1.out.call (Turn.of_below g2) (F1.out.wr.below g2))
      clear F1 g2 hmo c0 l0 ca fa la
      obtain ⟨⟨c0, l0⟩, ca, fa, la⟩ := F2.out.facts
      cases hB : bare ⟨k, i, o, c, p, b, d, s⟩ with
      | false =>
        have E : Hid (enod ⟨k, i, o, c, p, b, d, s⟩ = 22) := by show _ = _; unfold enod; rw [if_neg HK.out, if_neg (by rw [HP.out]; decide), if_pos hB]
        go_wp2_with (go_at_call 59; refine (hgu 22 _).mono ?_; rintro r w7 ⟨rfl, rfl⟩)
        exact ⟨rfl, Pt.no E.out (by decide) F2.out.tn⟩
      | true =>
        have EN : Hid (enod ⟨k, i, o, c, p, b, d, s⟩ = if 16 < c.length ∨ 16 < d.length then 2 else if c.any (fun o => o.kind < 0) then 24 else if d.any (fun c => c.inn < 0 || c.out < 0) then 23 else 0) := by
          show _ = _
          rw [enod, if_neg HK.out, if_neg (by rw [HP.out]; decide), if_neg (by rw [hB]; decide)]
        have HB := hid hB
        clear hB
        have hwk : IntKind.u64.wrap k = k := by rw [IntKind.wrap_u64]; omega
        go_wp2_with fail
        have hkk : k = 1 ∨ k = 2 ∨ k = 3 ∨ k = 4 ∨ k = 5 ∨ k = 6 ∨ k = 7 ∨ k = 8 := by omega
        clear hk1 hk8 hwk HK hmf
        have hmf : ∀ (fn : Fn) (first cap : Array Value) (w : World), (Instr.makeFunc fn first cap).run Try.prog w = .ok (.func fn first cap) w := fun _ _ _ _ => rfl
        rcases hkk with rfl | rfl | rfl | rfl | rfl | rfl | rfl | rfl
        · refine (wnum_any 1 (by decide) _ F2.out.wr (by omega)).mono ?_
          rintro r w3 ⟨v3, rfl, h3, k3⟩
          have F3 := hid (F2.out.call k3 h3)
          rw [put0] at F3
          clear F2 h3 k3 c0 l0 ca fa la
          obtain ⟨⟨c0, l0⟩, ca, fa, la⟩ := F3.out.facts
          have t0 := form_ten (v := 1) (by decide)
          obtain ⟨⟨rfl, rfl, rfl⟩, rfl, rfl⟩ : (c = [] ∧ p = (0, 0, 0) ∧ b = 0) ∧ d = [] ∧ s = false := by have := HB.out; simpa [bare] using this
          go_wp2_with fail
          go_end0
          refine Pt.yes (by rw [EN.out]; simp) F3.out.tn ?_
          have := F3.out.wr
          simpa [bnod, bbody, bint, blst] using this
        · refine (wnum_any 2 (by decide) _ F2.out.wr (by omega)).mono ?_
          rintro r w3 ⟨v3, rfl, h3, k3⟩
          have F3 := hid (F2.out.call k3 h3)
          rw [put0] at F3
          clear F2 h3 k3 c0 l0 ca fa la
          obtain ⟨⟨c0, l0⟩, ca, fa, la⟩ := F3.out.facts
          have t0 := form_ten (v := 2) (by decide)
          obtain ⟨⟨rfl, rfl⟩, rfl, rfl⟩ : (p = (0, 0, 0) ∧ b = 0) ∧ d = [] ∧ s = false := by have := HB.out; simpa [bare] using this
          have hTc := HT.out.2.2.2.1
          simp only at hTc
          by_cases h16 : 16 < c.length
          · have hat := fun W => atmost_bad c.length 16 h16 W
            go_wp2_with (go_at_call 38; refine (hat _).mono ?_; rintro r w7 ⟨rfl, rfl⟩)
            exact ⟨rfl, Pt.no (by rw [EN.out, if_pos (Or.inl h16)]) (by decide) F3.out.tn⟩
          · have hat := fun W => atmost_ok c.length 16 (by omega) W
            go_wp2_with (go_at_call 38; refine (hat _).mono ?_; rintro r w7 ⟨rfl, rfl⟩)
            have R3 := HR.out.turn HM.out F3.out.tn
            refine (lopl_any hTc _ F3.out.wr (HM.out.turn F3.out.tn F3.out.lt) R3.code (by omega) (by simp only [List.length_append]; omega)).mono ?_
            intro r w4 hh
            by_cases e0 : efirst eopd c = 0
            · obtain ⟨v4, rfl, kk, hh⟩ := hh.good e0
              have EF : Hid (c.any (fun o => o.kind < 0) = false) := by
                rw [eopd_first] at e0
                show _ = _
                by_cases h : c.any (fun o => o.kind < 0) = true
                · rw [if_pos h] at e0; cases e0
                · simpa using h
              have F4 := hid (F3.out.call kk hh)
              clear F3 hh kk c0 l0 ca fa la hat
              go_wp2_with fail
              go_end0
              refine Pt.yes (by rw [EN.out, if_neg (by simp; omega), if_neg (by rw [EF.out]; decide)]; rfl) F4.out.tn ?_
              have := F4.out.wr
              simpa [bnod, bbody, bint, blst] using this
            · obtain ⟨v4, rfl, kk⟩ := hh.bad e0
              have EF : Hid (efirst eopd c = 24 ∧ c.any (fun o => o.kind < 0) = true) := by
                rw [eopd_first] at e0 ⊢
                by_cases h : c.any (fun o => o.kind < 0) = true
                · exact ⟨if_pos h, h⟩
                · rw [if_neg h] at e0; exact absurd rfl e0
              go_wp2_with fail
              exact ⟨rfl, Pt.no (by rw [EN.out, if_neg (by simp; omega), if_pos EF.out.2, EF.out.1]) e0 (F3.out.tn.trans kk)⟩
        · refine (wnum_any 3 (by decide) _ F2.out.wr (by omega)).mono ?_
          rintro r w3 ⟨v3, rfl, h3, k3⟩
          have F3 := hid (F2.out.call k3 h3)
          rw [put0] at F3
          clear F2 h3 k3 c0 l0 ca fa la
          obtain ⟨⟨c0, l0⟩, ca, fa, la⟩ := F3.out.facts
          have t0 := form_ten (v := 3) (by decide)
          obtain ⟨⟨rfl, rfl⟩, rfl, rfl⟩ : (p = (0, 0, 0) ∧ b = 0) ∧ d = [] ∧ s = false := by have := HB.out; simpa [bare] using this
          have hTc := HT.out.2.2.2.1
          simp only at hTc
          by_cases h16 : 16 < c.length
          · have hat := fun W => atmost_bad c.length 16 h16 W
            go_wp2_with (go_at_call 38; refine (hat _).mono ?_; rintro r w7 ⟨rfl, rfl⟩)
            exact ⟨rfl, Pt.no (by rw [EN.out, if_pos (Or.inl h16)]) (by decide) F3.out.tn⟩
          · have hat := fun W => atmost_ok c.length 16 (by omega) W
            go_wp2_with (go_at_call 38; refine (hat _).mono ?_; rintro r w7 ⟨rfl, rfl⟩)
            have R3 := HR.out.turn HM.out F3.out.tn
            refine (lopl_any hTc _ F3.out.wr (HM.out.turn F3.out.tn F3.out.lt) R3.code (by omega) (by simp only [List.length_append]; omega)).mono ?_
            intro r w4 hh
            by_cases e0 : efirst eopd c = 0
            · obtain ⟨v4, rfl, kk, hh⟩ := hh.good e0
              have EF : Hid (c.any (fun o => o.kind < 0) = false) := by
                rw [eopd_first] at e0
                show _ = _
                by_cases h : c.any (fun o => o.kind < 0) = true
                · rw [if_pos h] at e0; cases e0
                · simpa using h
              have F4 := hid (F3.out.call kk hh)
              clear F3 hh kk c0 l0 ca fa la hat
              go_wp2_with fail
              go_end0
              refine Pt.yes (by rw [EN.out, if_neg (by simp; omega), if_neg (by rw [EF.out]; decide)]; rfl) F4.out.tn ?_
              have := F4.out.wr
              simpa [bnod, bbody, bint, blst] using this
            · obtain ⟨v4, rfl, kk⟩ := hh.bad e0
              have EF : Hid (efirst eopd c = 24 ∧ c.any (fun o => o.kind < 0) = true) := by
                rw [eopd_first] at e0 ⊢
                by_cases h : c.any (fun o => o.kind < 0) = true
                · exact ⟨if_pos h, h⟩
                · rw [if_neg h] at e0; exact absurd rfl e0
              go_wp2_with fail
              exact ⟨rfl, Pt.no (by rw [EN.out, if_neg (by simp; omega), if_pos EF.out.2, EF.out.1]) e0 (F3.out.tn.trans kk)⟩
        · refine (wnum_any 4 (by decide) _ F2.out.wr (by omega)).mono ?_
          rintro r w3 ⟨v3, rfl, h3, k3⟩
          have F3 := hid (F2.out.call k3 h3)
          rw [put0] at F3
          clear F2 h3 k3 c0 l0 ca fa la
          obtain ⟨⟨c0, l0⟩, ca, fa, la⟩ := F3.out.facts
          have t0 := form_ten (v := 4) (by decide)
          obtain ⟨⟨rfl, rfl, rfl⟩, rfl, rfl⟩ : (c = [] ∧ p = (0, 0, 0) ∧ b = 0) ∧ d = [] ∧ s = false := by have := HB.out; simpa [bare] using this
          have hi : 0 ≤ i ∧ o = 1 := by have := HP.out; simpa [ports] using this
          have hi1 := HT.out.2.1.2
          simp only at hi1
          obtain ⟨hi0, rfl⟩ := hi
          have hx3 := wnum_any i.toNat (by omega) _ F3.out.wr (by simp only [List.length_append]; omega)
          rw [show ((i.toNat : Nat) : Int) = i by omega, put0] at hx3
          have hw3 : IntKind.u64.wrap i = i := by rw [IntKind.wrap_u64]; omega
          go_wp2_with fail
          refine hx3.mono ?_
          rintro r w4 ⟨v4, rfl, hh, kk⟩
          clear hx3 hw3
          have F4 := hid (F3.out.call kk hh)
          clear F3 hh kk c0 l0 ca fa la
          obtain ⟨⟨c0, l0⟩, ca, fa, la⟩ := F4.out.facts
          go_wp2_with fail
          go_end0
          refine Pt.yes (by rw [EN.out]; simp) F4.out.tn ?_
          have := F4.out.wr
          simpa [bnod, bbody, bint, blst] using this
        · refine (wnum_any 5 (by decide) _ F2.out.wr (by omega)).mono ?_
          rintro r w3 ⟨v3, rfl, h3, k3⟩
          have F3 := hid (F2.out.call k3 h3)
          rw [put0] at F3
          clear F2 h3 k3 c0 l0 ca fa la
          obtain ⟨⟨c0, l0⟩, ca, fa, la⟩ := F3.out.facts
          have t0 := form_ten (v := 5) (by decide)
          obtain ⟨rfl, rfl, rfl⟩ : c = [] ∧ d = [] ∧ s = false := by have := HB.out; simpa [bare] using this
          have hp1 := HT.out.2.2.2.2.1
          have hb1 := HT.out.2.2.2.2.2.1
          simp only at hp1 hb1
          have t1 := ten hb1
          go_wp2_with fail
          refine (wnum_any b (by unfold U64 at hb1; omega) _ F3.out.wr (by simp only [List.length_append]; omega)).mono ?_
          rintro r w4 ⟨v4, rfl, hh, kk⟩
          rw [put0] at hh
          have F4 := hid (F3.out.call kk hh)
          clear F3 hh kk c0 l0 ca fa la
          obtain ⟨⟨c0, l0⟩, ca, fa, la⟩ := F4.out.facts
          go_wp2_with fail
          refine (lpath_any p hp1 _ F4.out.wr (by simp only [List.length_append]; omega)).mono ?_
          intro r w5 hh
          obtain ⟨v5, rfl, kk, hh⟩ := hh.good rfl
          have F5 := hid (F4.out.call kk hh)
          clear F4 hh kk c0 l0 ca fa la
          obtain ⟨⟨c0, l0⟩, ca, fa, la⟩ := F5.out.facts
          go_wp2_with fail
          go_end0
          refine Pt.yes (by rw [EN.out]; simp) F5.out.tn ?_
          have := F5.out.wr
          simpa [bnod, bbody, bint, blst] using this
        · refine (wnum_any 6 (by decide) _ F2.out.wr (by omega)).mono ?_
          rintro r w3 ⟨v3, rfl, h3, k3⟩
          have F3 := hid (F2.out.call k3 h3)
          rw [put0] at F3
          clear F2 h3 k3 c0 l0 ca fa la
          obtain ⟨⟨c0, l0⟩, ca, fa, la⟩ := F3.out.facts
          have t0 := form_ten (v := 6) (by decide)
          obtain ⟨⟨rfl, rfl, rfl⟩, rfl, rfl⟩ : (c = [] ∧ p = (0, 0, 0) ∧ b = 0) ∧ d = [] ∧ s = false := by have := HB.out; simpa [bare] using this
          go_wp2_with fail
          go_end0
          refine Pt.yes (by rw [EN.out]; simp) F3.out.tn ?_
          have := F3.out.wr
          simpa [bnod, bbody, bint, blst] using this
        · refine (wnum_any 7 (by decide) _ F2.out.wr (by omega)).mono ?_
          rintro r w3 ⟨v3, rfl, h3, k3⟩
          have F3 := hid (F2.out.call k3 h3)
          rw [put0] at F3
          clear F2 h3 k3 c0 l0 ca fa la
          obtain ⟨⟨c0, l0⟩, ca, fa, la⟩ := F3.out.facts
          have t0 := form_ten (v := 7) (by decide)
          obtain ⟨⟨rfl, rfl, rfl⟩, rfl, rfl⟩ : (c = [] ∧ p = (0, 0, 0) ∧ b = 0) ∧ d = [] ∧ s = false := by have := HB.out; simpa [bare] using this
          go_wp2_with fail
          go_end0
          refine Pt.yes (by rw [EN.out]; simp) F3.out.tn ?_
          have := F3.out.wr
          simpa [bnod, bbody, bint, blst] using this
        · refine (wnum_any 8 (by decide) _ F2.out.wr (by omega)).mono ?_
          rintro r w3 ⟨v3, rfl, h3, k3⟩
          have F3 := hid (F2.out.call k3 h3)
          rw [put0] at F3
          clear F2 h3 k3 c0 l0 ca fa la
          obtain ⟨⟨c0, l0⟩, ca, fa, la⟩ := F3.out.facts
          have t0 := form_ten (v := 8) (by decide)
          obtain ⟨rfl, rfl, rfl⟩ : c = [] ∧ p = (0, 0, 0) ∧ b = 0 := by have := HB.out; simpa [bare] using this
          have hTd := HT.out.2.2.2.2.2.2
          simp only at hTd
          have hio : 0 ≤ i ∧ 0 ≤ o := by have := HP.out; simpa [ports] using this
          have hi1 := HT.out.2.1.2
          have ho1 := HT.out.2.2.1.2
          simp only at hi1 ho1
          obtain ⟨hi0, ho0⟩ := hio
          go_wp2_with fail
          refine (ltruth_any s _ F3.out.wr (by simp only [List.length_append]; omega)).mono ?_
          intro r w4 hh
          obtain ⟨v4, rfl, kk, hh⟩ := hh.good rfl
          have F4 := hid (F3.out.call kk hh)
          clear F3 hh kk c0 l0 ca fa la
          obtain ⟨⟨c0, l0⟩, ca, fa, la⟩ := F4.out.facts
          have tb : (btruth s).length = 1 := rfl
          by_cases h16 : 16 < d.length
          · have hat := fun W => atmost_bad d.length 16 h16 W
            go_wp2_with (go_at_call 38; refine (hat _).mono ?_; rintro r w7 ⟨rfl, rfl⟩)
            exact ⟨rfl, Pt.no (by rw [EN.out, if_pos (Or.inr h16)]) (by decide) F4.out.tn⟩
          · have hat := fun W => atmost_ok d.length 16 (by omega) W
            go_wp2_with (go_at_call 38; refine (hat _).mono ?_; rintro r w7 ⟨rfl, rfl⟩)
            have R4 := HR.out.turn HM.out F4.out.tn
            refine (lconnl_any hTd _ F4.out.wr (HM.out.turn F4.out.tn F4.out.lt) R4.conns (by omega) (by simp only [List.length_append]; omega)).mono ?_
            intro r w5 hh
            by_cases e0 : efirst econ d = 0
            · obtain ⟨v5, rfl, kk, hh⟩ := hh.good e0
              have EF : Hid (d.any (fun c => c.inn < 0 || c.out < 0) = false) := by
                rw [econ_first] at e0
                show _ = _
                by_cases h : d.any (fun c => c.inn < 0 || c.out < 0) = true
                · rw [if_pos h] at e0; cases e0
                · simpa using h
              have a7 := flat_len bcon 50 d (fun c hc => bcon_len (hTd c hc))
              have a9 := form_ten (v := d.length) (by omega)
              have a8 : (blst bcon d).length ≤ 900 := by unfold blst; rw [List.length_append]; omega
              have ao : (form o.toNat).length ≤ 10 := form_ten (by omega)
              clear hat R4
              have F5 := hid (F4.out.call kk hh)
              clear F4 hh kk c0 l0 ca fa la
              obtain ⟨⟨c0, l0⟩, ca, fa, la⟩ := F5.out.facts
              have hx5 := wnum_any o.toNat (by omega) _ F5.out.wr (by simp only [List.length_append]; omega)
              rw [show ((o.toNat : Nat) : Int) = o by omega, put0] at hx5
              have hw5 : IntKind.u64.wrap o = o := by rw [IntKind.wrap_u64]; omega
              go_wp2_with fail
              refine hx5.mono ?_
              rintro r w6 ⟨v6, rfl, hh, kk⟩
              clear hx5 hw5
              have F6 := hid (F5.out.call kk hh)
              clear F5 hh kk c0 l0 ca fa la
              obtain ⟨⟨c0, l0⟩, ca, fa, la⟩ := F6.out.facts
              have hx6 := wnum_any i.toNat (by omega) _ F6.out.wr (by simp only [List.length_append]; omega)
              rw [show ((i.toNat : Nat) : Int) = i by omega, put0] at hx6
              have hw6 : IntKind.u64.wrap i = i := by rw [IntKind.wrap_u64]; omega
              go_wp2_with fail
              refine hx6.mono ?_
              rintro r w7 ⟨v7, rfl, hh, kk⟩
              clear hx6 hw6
              have F7 := hid (F6.out.call kk hh)
              clear F6 hh kk c0 l0 ca fa la
              obtain ⟨⟨c0, l0⟩, ca, fa, la⟩ := F7.out.facts
              go_wp2_with fail
              go_end0
              refine Pt.yes (by rw [EN.out, if_neg (by simp; omega), if_neg (by simp), if_neg (by rw [EF.out]; decide)]) F7.out.tn ?_
              have := F7.out.wr
              simpa [bnod, bbody, bint, blst] using this
            · obtain ⟨v5, rfl, kk⟩ := hh.bad e0
              have EF : Hid (efirst econ d = 23 ∧ d.any (fun c => c.inn < 0 || c.out < 0) = true) := by
                rw [econ_first] at e0 ⊢
                by_cases h : d.any (fun c => c.inn < 0 || c.out < 0) = true
                · exact ⟨if_pos h, h⟩
                · rw [if_neg h] at e0; exact absurd rfl e0
              go_wp2_with fail
              exact ⟨rfl, Pt.no (by rw [EN.out, if_neg (by simp; omega), if_neg (by simp), if_pos EF.out.2, EF.out.1]) e0 (F4.out.tn.trans kk)⟩
end Go.Proofs.Ytkopmkmfigenlaa.Df
