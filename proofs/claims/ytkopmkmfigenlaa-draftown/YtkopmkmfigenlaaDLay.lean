import Derived.Test.YtkopmkmfigenlaaDTl
import Derived.Test.YtkopmkmfigenlaaDKind
namespace Go.Proofs.Ytkopmkmfigenlaa.Df
open Go.RowKit Go.Sort Wi
attribute [local go_sem ↓] Go.wp_at_zero Go.wp_at_succ

/-- The layer. -/
abbrev lv (wb : Nat) : Value := .agg #[.pointer (some ⟨wb, 0, none⟩)]
/-- What a laying call leaves: these bytes behind what stood, or an error. -/
def Pt (err : Nat) (bs : List UInt8) (wb : Nat) (v : Value) (L : List UInt8) (w : World) (r : Ending) (w' : World) : Prop :=
  ∃ v', Turn wb v v' w w' ∧ ((err = 0 ∧ r = .returned (.tuple #[]) ∧ Wr w' wb v' (L ++ bs) 0) ∨ (err ≠ 0 ∧ r = .panicked (flaw err 0)))
section
variable {err : Nat} {bs : List UInt8} {wb : Nat} {v : Value} {L : List UInt8} {w w' : World}
theorem Pt.good {r : Ending} (h : Pt err bs wb v L w r w') (he : err = 0) : ∃ v', r = .returned (.tuple #[]) ∧ Turn wb v v' w w' ∧ Wr w' wb v' (L ++ bs) 0 := by
  obtain ⟨v', ht, ⟨_, h1, h2⟩ | ⟨h1, _⟩⟩ := h
  · exact ⟨v', h1, ht, h2⟩
  · exact absurd he h1
theorem Pt.bad {r : Ending} (h : Pt err bs wb v L w r w') (he : err ≠ 0) : ∃ v', r = .panicked (flaw err 0) ∧ Turn wb v v' w w' := by
  obtain ⟨v', ht, ⟨h1, _⟩ | ⟨_, h1⟩⟩ := h
  · exact absurd h1 he
  · exact ⟨v', h1, ht⟩
theorem Pt.yes {v' : Value} (he : err = 0) (ht : Turn wb v v' w w') (hw : Wr w' wb v' (L ++ bs) 0) : Pt err bs wb v L w (.returned (.tuple #[])) w' := ⟨v', ht, Or.inl ⟨he, rfl, hw⟩⟩
theorem Pt.no {v' : Value} {e : Nat} (he : err = e) (h0 : e ≠ 0) (ht : Turn wb v v' w w') : Pt err bs wb v L w (.panicked (flaw e 0)) w' := by
  subst he
  exact ⟨v', ht, Or.inr ⟨h0, rfl⟩⟩
end
/-- What stands in a laying call: the layer's place, a place of its own. -/
structure Lf (w W : World) (wb : Nat) (v0 v : Value) (L : List UInt8) (T : TypeId) (cs : Array Value) : Prop where
  wr : Wr W wb v L 0
  tn : Turn wb v0 v w W
  hl : W.heap[w.heap.size]? = some (.cells #[.pointer (some ⟨wb, 0, none⟩)] 59 (0, 0))
  ha : W.heap[w.heap.size + 1]? = some (.cells cs T (0, 0))
  ne : ∀ k, v.ownBlock = some k → k ≠ w.heap.size ∧ k ≠ w.heap.size + 1
  lt : wb < w.heap.size
theorem Lf.start {w : World} {wb : Nat} {v : Value} {L : List UInt8} (h : Wr w wb v L 0) (T : TypeId) (cs : Array Value) : Lf w ((w.alloc (.cells #[.pointer (some ⟨wb, 0, none⟩)] 59)).alloc (.cells cs T)) wb v v L T cs := by
  have hg := ((Gr.refl w).alloc (.cells #[.pointer (some ⟨wb, 0, none⟩)] 59)).alloc (.cells cs T)
  exact ⟨h.gr hg, Turn.of_below hg.below, new1 w _ _, new2 w _ _, fun k hk => by have := h.row k hk; omega, h.lt⟩
section
variable {w W W' : World} {wb : Nat} {v0 v v' : Value} {L L' : List UInt8} {T : TypeId} {cs : Array Value}
theorem Lf.call (h : Lf w W wb v0 v L T cs) (ht : Turn wb v v' W W') (hw : Wr W' wb v' L' 0) : Lf w W' wb v0 v' L' T cs := by
  have h1 := h.lt
  have l1 := tk_lt h.ha
  refine ⟨hw, h.tn.trans ht, (ht.1.block _ (tk_lt h.hl) ?_).trans h.hl, (ht.1.block _ l1 ?_).trans h.ha, fun k hk => ?_, h1⟩
  · rintro (e | e)
    · omega
    · exact (h.ne _ e).1 rfl
  · rintro (e | e)
    · omega
    · exact (h.ne _ e).2 rfl
  · rcases ht.2 k hk with e | e
    · exact h.ne k e
    · omega
theorem Lf.facts (h : Lf w W wb v0 v L T cs) : (W.cell? ⟨w.heap.size, 0, none⟩ = some (.pointer (some ⟨wb, 0, none⟩)) ∧ w.heap.size < W.heap.size) ∧ ((∀ i, W.cell? ⟨w.heap.size + 1, i, none⟩ = cs[i]?) ∧ (∀ i, W.frozen? ⟨w.heap.size + 1, i, none⟩ = false) ∧ w.heap.size + 1 < W.heap.size) :=
  ⟨⟨tk_cell h.hl, tk_lt h.hl⟩, (tk_store h.ha).1, (tk_store h.ha).2, tk_lt h.ha⟩
end
theorem put0 (L l : List UInt8) : put 0 L l = L ++ l := rfl
set_option maxHeartbeats 1000000 in
theorem lint_bad {wb : Nat} (n : Int) (err : Nat) (h0 : n < 0) (w : World) : Calls Try.prog 39 #[lv wb, .int .i64 n, .int .i64 (err : Nat)] w fun r w' => r = .panicked (flaw err 0) ∧ Below w.heap.size w w' := by
  have g1 := hid ((Gr.refl w).alloc (.cells #[.pointer (some ⟨wb, 0, none⟩)] 59))
  have hgu := fun W => giveup_any err 0 W
  go_enter Try.func39, Try.ntmps39
  go_wp2_with (go_at_call 59; refine (hgu _).mono ?_; rintro r w7 ⟨rfl, rfl⟩)
  exact ⟨rfl, rfl, g1.out.below⟩
set_option maxHeartbeats 1000000 in
theorem lint_ok {wb : Nat} {v : Value} {L : List UInt8} (n : Int) (err : Nat) (h0 : 0 ≤ n) (hn : I64 n) (w : World) (hW : Wr w wb v L 0) (hl : L.length + 10 ≤ 140737488355328) : Calls Try.prog 39 #[lv wb, .int .i64 n, .int .i64 (err : Nat)] w fun r w' => ∃ v', r = .returned (.tuple #[]) ∧ Wr w' wb v' (L ++ bint n) 0 ∧ Turn wb v v' w w' := by
  have h1 := hn.2
  have g1 := (Gr.refl w).alloc (.cells #[.pointer (some ⟨wb, 0, none⟩)] 59)
  have hnu := wnum_any n.toNat (by omega) _ (hW.gr g1) hl
  rw [show ((n.toNat : Nat) : Int) = n by omega] at hnu
  have hw : IntKind.u64.wrap n = n := by rw [IntKind.wrap_u64]; omega
  have hz : ¬ n < 0 := by omega
  have G1 := hid g1
  clear hW g1
  go_enter Try.func39, Try.ntmps39
  go_wp2_with (go_at_call 60; refine hnu.mono ?_; rintro r w7 ⟨v7, rfl, h7, t7⟩; have H7 := hid h7; have T7 := hid t7; clear h7 t7)
  go_end0
  exact ⟨v7, rfl, H7.out, (Turn.of_below G1.out.below).trans T7.out⟩
set_option maxHeartbeats 1000000 in
theorem ltruth_any {wb : Nat} {v : Value} {L : List UInt8} (b : Bool) (w : World) (hW : Wr w wb v L 0) (hl : L.length + 10 ≤ 140737488355328) : Calls Try.prog 66 #[lv wb, .bool b] w (Pt 0 (btruth b) wb v L w) := by
  have g1 := (Gr.refl w).alloc (.cells #[.pointer (some ⟨wb, 0, none⟩)] 59)
  have G1 := hid g1
  cases b
  · have hby := wbyte_any 0 _ (hW.gr g1) (by omega)
    clear hW g1
    go_enter Try.func66, Try.ntmps66
    go_wp2_with (go_at_call 86; refine hby.mono ?_; rintro r w7 ⟨v7, rfl, h7, t7⟩; have H7 := hid h7; have T7 := hid t7; clear h7 t7)
    go_end0
    exact Pt.yes rfl ((Turn.of_below G1.out.below).trans T7.out) H7.out
  · have hby := wbyte_any 1 _ (hW.gr g1) (by omega)
    clear hW g1
    go_enter Try.func66, Try.ntmps66
    go_wp2_with (go_at_call 86; refine hby.mono ?_; rintro r w7 ⟨v7, rfl, h7, t7⟩; have H7 := hid h7; have T7 := hid t7; clear h7 t7)
    go_end0
    exact Pt.yes rfl ((Turn.of_below G1.out.below).trans T7.out) H7.out
theorem ten {n : Nat} (h : U64 n) : (form n).length ≤ 10 := form_ten (by unfold U64 at h; omega)
theorem bint_len {n : Int} (h : I64 n) : (bint n).length ≤ 10 := form_ten (by have := h.2; omega)
theorem bpth_len {p : Pth} (h : PthT p) : (bpth p).length ≤ 30 := by
  unfold bpth
  have := ten h.1
  have := ten h.2.1
  have := ten h.2.2
  simp only [List.length_append]
  omega
theorem bopd_len {o : Opd} (h : OpdT o) : (bopd o).length ≤ 20 := by
  unfold bopd
  have := bint_len h.1
  have := ten h.2
  simp only [List.length_append]
  omega
theorem bcon_len {c : Con} (h : ConT c) : (bcon c).length ≤ 50 := by
  unfold bcon
  have := bint_len h.1
  have := bint_len h.2.1
  have := bpth_len h.2.2
  simp only [List.length_append]
  omega
def eopd (o : Opd) : Nat := if o.kind < 0 then 24 else 0
def econ (c : Con) : Nat := if c.inn < 0 then 23 else if c.out < 0 then 23 else 0
set_option maxHeartbeats 1000000 in
theorem lpath_any {wb : Nat} {v : Value} {L : List UInt8} (p : Pth) (hp : PthT p) (w : World) (hW : Wr w wb v L 0) (hl : L.length + 30 ≤ 140737488355328) : Calls Try.prog 65 #[lv wb, pthv p] w (Pt 0 (bpth p) wb v L w) := by
  have F0 := hid (Lf.start hW 64 #[.int .u64 (p.1 : Nat), .int .u64 (p.2.1 : Nat), .int .u64 (p.2.2 : Nat)])
  have t1 := ten hp.1
  have t2 := ten hp.2.1
  clear hW
  go_enter Try.func65, Try.ntmps65
  go_wp2_with fail
  refine (wnum_any p.1 (by have := hp.1; unfold U64 at this; omega) _ F0.out.wr (by omega)).mono ?_
  rintro r w1 ⟨v1, rfl, h1, k1⟩
  have F1 := hid (F0.out.call k1 h1)
  clear F0 h1 k1
  obtain ⟨⟨c0, l0⟩, ca, fa, la⟩ := F1.out.facts
  go_wp2_with fail
  refine (wnum_any p.2.1 (by have := hp.2.1; unfold U64 at this; omega) _ F1.out.wr (by rw [put0, List.length_append]; omega)).mono ?_
  rintro r w2 ⟨v2, rfl, h2, k2⟩
  have F2 := hid (F1.out.call k2 h2)
  clear F1 h2 k2 c0 l0 ca fa la
  obtain ⟨⟨c0, l0⟩, ca, fa, la⟩ := F2.out.facts
  go_wp2_with fail
  refine (wnum_any p.2.2 (by have := hp.2.2; unfold U64 at this; omega) _ F2.out.wr (by simp only [put0, List.length_append]; omega)).mono ?_
  rintro r w3 ⟨v3, rfl, h3, k3⟩
  have F3 := hid (F2.out.call k3 h3)
  clear F2 h3 k3 c0 l0 ca fa la
  go_wp2_with fail
  go_end0
  exact Pt.yes rfl F3.out.tn (by have := F3.out.wr; simpa [put0, bpth] using this)
set_option maxHeartbeats 1000000 in
theorem lop_any {wb : Nat} {v : Value} {L : List UInt8} (o : Opd) (hT : OpdT o) (w : World) (hW : Wr w wb v L 0) (hl : L.length + 20 ≤ 140737488355328) : Calls Try.prog 64 #[lv wb, opv o] w (Pt (eopd o) (bopd o) wb v L w) := by
  have F0 := hid (Lf.start hW 78 #[.int .i64 o.kind, .int .u64 (o.arg : Nat)])
  have t1 := bint_len hT.1
  clear hW
  go_enter Try.func64, Try.ntmps64
  go_wp2_with fail
  by_cases e1 : o.kind < 0
  · refine (lint_bad o.kind 24 e1 _).mono ?_
    rintro r w1 ⟨rfl, k1⟩
    go_wp2_with fail
    exact ⟨rfl, Pt.no (by rw [eopd, if_pos (by omega)]) (by decide) (F0.out.tn.trans (Turn.of_below k1))⟩
  · refine (lint_ok o.kind 24 (by omega) hT.1 _ F0.out.wr (by omega)).mono ?_
    rintro r w1 ⟨v1, rfl, h1, k1⟩
    have F1 := hid (F0.out.call k1 h1)
    clear F0 h1 k1
    obtain ⟨⟨c0, l0⟩, ca, fa, la⟩ := F1.out.facts
    go_wp2_with fail
    refine (wnum_any o.arg (by have := hT.2; unfold U64 at this; omega) _ F1.out.wr (by rw [List.length_append]; omega)).mono ?_
    rintro r w2 ⟨v2, rfl, h2, k2⟩
    have F2 := hid (F1.out.call k2 h2)
    clear F1 h2 k2 c0 l0 ca fa la
    go_wp2_with fail
    go_end0
    exact Pt.yes (by rw [eopd, if_neg (by omega)]) F2.out.tn (by have := F2.out.wr; simpa [put0, bopd] using this)
set_option maxHeartbeats 1000000 in
theorem lconn_any {wb : Nat} {v : Value} {L : List UInt8} (o : Con) (hT : ConT o) (w : World) (hW : Wr w wb v L 0) (hl : L.length + 50 ≤ 140737488355328) : Calls Try.prog 68 #[lv wb, conv o] w (Pt (econ o) (bcon o) wb v L w) := by
  have F0 := hid (Lf.start hW 80 #[.int .i64 o.inn, .int .i64 o.out, .int .u64 (o.via.1 : Nat), .int .u64 (o.via.2.1 : Nat), .int .u64 (o.via.2.2 : Nat)])
  have t1 := bint_len hT.1
  have t2 := bint_len hT.2.1
  clear hW
  go_enter Try.func68, Try.ntmps68
  go_wp2_with fail
  by_cases e1 : o.inn < 0
  · refine (lint_bad o.inn 23 e1 _).mono ?_
    rintro r w1 ⟨rfl, k1⟩
    go_wp2_with fail
    exact ⟨rfl, Pt.no (by rw [econ, if_pos (by omega)]) (by decide) (F0.out.tn.trans (Turn.of_below k1))⟩
  · refine (lint_ok o.inn 23 (by omega) hT.1 _ F0.out.wr (by omega)).mono ?_
    rintro r w1 ⟨v1, rfl, h1, k1⟩
    have F1 := hid (F0.out.call k1 h1)
    clear F0 h1 k1
    obtain ⟨⟨c0, l0⟩, ca, fa, la⟩ := F1.out.facts
    go_wp2_with fail
    by_cases e2 : o.out < 0
    · refine (lint_bad o.out 23 e2 _).mono ?_
      rintro r w2 ⟨rfl, k2⟩
      go_wp2_with fail
      exact ⟨rfl, Pt.no (by rw [econ, if_neg (by omega), if_pos (by omega)]) (by decide) (F1.out.tn.trans (Turn.of_below k2))⟩
    · refine (lint_ok o.out 23 (by omega) hT.2.1 _ F1.out.wr (by rw [List.length_append]; omega)).mono ?_
      rintro r w2 ⟨v2, rfl, h2, k2⟩
      have F2 := hid (F1.out.call k2 h2)
      clear F1 h2 k2 c0 l0 ca fa la
      obtain ⟨⟨c0, l0⟩, ca, fa, la⟩ := F2.out.facts
      go_wp2_with fail
      refine (lpath_any o.via hT.2.2 _ F2.out.wr (by simp only [List.length_append]; omega)).mono ?_
      intro r w3 h3
      obtain ⟨v3, rfl, k3, h3⟩ := h3.good rfl
      have F3 := hid (F2.out.call k3 h3)
      clear F2 h3 k3 c0 l0 ca fa la
      go_wp2_with fail
      go_end0
      exact Pt.yes (by rw [econ, if_neg (by omega), if_neg (by omega)]) F3.out.tn (by have := F3.out.wr; simpa [bcon] using this)
end Go.Proofs.Ytkopmkmfigenlaa.Df
