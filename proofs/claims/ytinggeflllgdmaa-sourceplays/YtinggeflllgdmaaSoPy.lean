import Derived.Test.YtinggeflllgdmaaSoStp
namespace Go.Proofs.Ytinggeflllgdmaa
open Go.RowKit Go.Sort

/-- Pairs of pointers in a row. -/
def EP : El (Nat × Nat) where
  k := 2
  enc x := [.pointer (some ⟨x.1, 0, none⟩), .pointer (some ⟨x.2, 0, none⟩)]
  len _ := rfl
  one x u hu := by
    simp at hu
    rcases hu with rfl | rfl <;> rfl
theorem own_eq {g n c k : Nat} (h : (Value.slice (some ⟨g, 0, none⟩) n c).ownBlock = some k) : k = g := by simpa [Value.ownBlock] using h.symm
abbrev Of (p : Nat × Nat) (k : Nat) : Prop := k = p.1 ∨ k = p.2
/-- The pairs, as they are played: every block has one owner. -/
structure Py (w : World) (n : Int) (lv : Value) (ps : List (Nat × Nat)) (wr : World) : Prop where
  ne : 0 < ps.length
  few : ps.length ≤ 4
  row : wr.ownsRow 0 41 2 lv ps.length (fl EP ps)
  ok : ∀ (i : Nat) (p : Nat × Nat), ps[i]? = some p → ∃ s, Ok1 wr p.1 p.2 n s
  ap : ∀ (i j : Nat) (p q : Nat × Nat), ps[i]? = some p → ps[j]? = some q → i ≠ j → ∀ k, Of p k → ¬ Of q k
  lo : ∀ (i : Nat) (p : Nat × Nat), ps[i]? = some p → ∀ k, Of p k → w.heap.size ≤ k
  tr : ∀ g, lv.ownBlock = some g → w.heap.size ≤ g ∧ ∀ (i : Nat) (p : Nat × Nat), ps[i]? = some p → ¬ Of p g
  bl : Below w.heap.size w wr
theorem Ok1.lt {w : World} {sb rb : Nat} {n : Int} {s : Option T3} (h : Ok1 w sb rb n s) : sb < w.heap.size ∧ rb < w.heap.size := ⟨tk_lt h.1, h.2.1.lt⟩
theorem Ok1.kp {S : Nat → Prop} {w w' : World} {sb rb : Nat} {n : Int} {s : Option T3} (h : Ok1 w sb rb n s) (hk : Kp S w w') (h1 : ¬ S sb) (h2 : ¬ S rb) : Ok1 w' sb rb n s := ⟨h.1.kp hk h1, h.2.1.kp hk h2, h.2.2⟩
section
variable {w wr w' : World} {n : Int} {lv : Value} {ps : List (Nat × Nat)}
theorem Py.lt (h : Py w n lv ps wr) {i : Nat} {p : Nat × Nat} (hp : ps[i]? = some p) {k : Nat} (hk : Of p k) : k < wr.heap.size := by
  obtain ⟨s, h1⟩ := h.ok i p hp
  rcases hk with hk | hk <;> rw [hk]
  · exact h1.lt.1
  · exact h1.lt.2
theorem Py.below (h : Py w n lv ps wr) (hb : Below wr.heap.size wr w') : Py w n lv ps w' :=
  ⟨h.ne, h.few, owns_below h.row hb, fun i p hp => (h.ok i p hp).imp fun _ h => ⟨h.1.below hb, h.2.1.below hb, h.2.2⟩, h.ap, h.lo, h.tr, h.bl.trans (hb.mono h.bl.size)⟩
theorem Py.gr (h : Py w n lv ps wr) (hb : Gr wr w') : Py w n lv ps w' := h.below hb.below
theorem Py.at (h : Py w n lv ps wr) {j : Nat} {p : Nat × Nat} (hj : ps[j]? = some p) : ∃ b off c, lv = .slice (some ⟨b, off, none⟩) ps.length c ∧ b < wr.heap.size ∧ wr.cell? ⟨b, off + j * 2, none⟩ = some (.pointer (some ⟨p.1, 0, none⟩)) ∧ wr.cell? ⟨b, off + j * 2 + 1, none⟩ = some (.pointer (some ⟨p.2, 0, none⟩)) := by
  obtain ⟨b, off, c, hv, hb, hc⟩ := (owns_ls (E := EP) h.row).get hj
  exact ⟨b, off, c, hv, hb, hc 0 _ (by decide) rfl, hc 1 _ (by decide) rfl⟩
/-- A step on pair j. -/
theorem Py.step (h : Py w n lv ps wr) {j : Nat} {p : Nat × Nat} (hj : ps[j]? = some p) (hs : Stp wr w' p.1 p.2 n) : Py w n lv ps w' := by
  obtain ⟨s', h1, hk⟩ := hs
  have hz := h.bl.size
  refine ⟨h.ne, h.few, owns_kp hk h.row (fun k hk' e => (h.tr k hk').2 j p hj e), fun i q hq => ?_, h.ap, h.lo, h.tr, h.bl.trans (hk.below hz fun k hk' => h.lo j p hj k hk')⟩
  by_cases e : i = j
  · subst e
    rw [hj] at hq
    cases hq
    exact ⟨s', h1⟩
  · obtain ⟨s, h2⟩ := h.ok i q hq
    exact ⟨s, h2.kp hk (h.ap i j q p hq hj e q.1 (.inl rfl)) (h.ap i j q p hq hj e q.2 (.inr rfl))⟩
/-- One more pair: a copy, and the list that grows. -/
theorem Py.copy (h : Py w n lv ps wr) {p' : Nat × Nat} {s : Option T3} {w6 : World} (hb : Below wr.heap.size wr w6) (h1 : Ok1 w6 p'.1 p'.2 n s) (hn : ∀ k, Of p' k → wr.heap.size ≤ k) (hm : ps.length < 4)
    {w8 : World} {g cap : Nat} (ho : w8.ownsRow 0 41 2 (.slice (some ⟨g, 0, none⟩) (ps.length + 1) cap) (ps.length + 1) (fl EP ps ++ EP.enc p')) (hk : Kp (fun k => lv.ownBlock = some k) w6 w8) (hg : lv.ownBlock = some g ∨ w6.heap.size ≤ g) :
    Py w n (.slice (some ⟨g, 0, none⟩) (ps.length + 1) cap) (ps ++ [p']) w8 := by
  have h6 := h.below hb
  have hz := h.bl.size
  have hz6 := hb.size
  have hget : ∀ (i : Nat) (q : Nat × Nat), (ps ++ [p'])[i]? = some q → (i = ps.length ∧ q = p') ∨ (i < ps.length ∧ ps[i]? = some q) := fun i q hi => by
    by_cases e : i < ps.length
    · rw [List.getElem?_append_left e] at hi
      exact Or.inr ⟨e, hi⟩
    · have hl := (List.getElem?_eq_some_iff.1 hi).1
      simp at hl
      have : i = ps.length := by omega
      subst this
      simp at hi
      exact Or.inl ⟨rfl, hi.symm⟩
  have hlr : ∀ k, lv.ownBlock = some k → k < wr.heap.size := fun k hk => (h.row.lt k hk).2
  have hl6 : ∀ k, Of p' k → k < w6.heap.size := fun k hk => by
    rcases hk with hk | hk <;> rw [hk]
    · exact h1.lt.1
    · exact h1.lt.2
  refine ⟨by simp, by simp; omega, ?_, fun i q hi => ?_, fun i j p q hp hq hne k h2 h3 => ?_, fun i q hi k hq => ?_, fun k hk' => ?_, ?_⟩
  · rw [List.length_append, fl_append, fl_one]
    exact ho
  · rcases hget i q hi with ⟨_, rfl⟩ | ⟨_, hi'⟩
    · exact ⟨s, h1.kp hk (fun e => by have := hn _ (.inl rfl); have := hlr _ e; omega) (fun e => by have := hn _ (.inr rfl); have := hlr _ e; omega)⟩
    · obtain ⟨s2, h2⟩ := h6.ok i q hi'
      exact ⟨s2, h2.kp hk (fun e => (h.tr _ e).2 i q hi' (.inl rfl)) (fun e => (h.tr _ e).2 i q hi' (.inr rfl))⟩
  · rcases hget i p hp with ⟨e1, rfl⟩ | ⟨_, hi'⟩ <;> rcases hget j q hq with ⟨e2, rfl⟩ | ⟨_, hj'⟩
    · omega
    · have := hn k h2
      have := h.lt hj' h3
      omega
    · have := hn k h3
      have := h.lt hi' h2
      omega
    · exact h.ap i j p q hi' hj' hne k h2 h3
  · rcases hget i q hi with ⟨_, rfl⟩ | ⟨_, hi'⟩
    · have := hn k hq
      omega
    · exact h.lo i q hi' k hq
  · have := own_eq hk'
    subst this
    rcases hg with hg | hg
    · refine ⟨(h.tr k hg).1, fun i q hi hq => ?_⟩
      rcases hget i q hi with ⟨_, rfl⟩ | ⟨_, hi'⟩
      · have := hn k hq
        have := hlr k hg
        omega
      · exact (h.tr k hg).2 i q hi' hq
    · refine ⟨by omega, fun i q hi hq => ?_⟩
      rcases hget i q hi with ⟨_, rfl⟩ | ⟨_, hi'⟩
      · have := hl6 k hq
        omega
      · have := h.lt hi' hq
        omega
  · exact h6.bl.trans (hk.below (by omega) (fun k hk' => (h.tr k hk').1))
end
theorem infoP : (Try.prog.info? 41).map (fun i => (i.zero, i.size, i.bytes)) = some (some (.agg #[.pointer none, .pointer none]), 2, 16) := by kernel_rfl
/-- 'append(l, c)'. -/
theorem wpAppP {w : World} {ops : Array Oper} {rest : List Oper} {o : Oper} {a : Act} {Q : Exit → Act → World → Prop} (hgd : o.guard = none) (s x : Operand)
    (ho : o.op = .call { callee := .builtin .append, args := #[s, x], argTypes := #[42, 42] })
    (v : Value) (n : Nat) (xs : List Value) (hs : a.eval s = v) (hown : w.ownsRow 0 41 2 v n xs)
    (t : Nat × Nat) (hx : a.eval x = .slice (some ⟨w.heap.size, 0, none⟩) 1 1) (hbig : n ≤ 4)
    (h : ∀ g cap w', w'.ownsRow 0 41 2 (.slice (some ⟨g, 0, none⟩) (n + 1) cap) (n + 1) (xs ++ EP.enc t) → w.grownBy w' v.ownBlock → (v.ownBlock = some g ∨ w.heap.size ≤ g) → wpList Try.prog ops Q rest (a.put o.dst (.slice (some ⟨g, 0, none⟩) (n + 1) cap)) w') :
    wpList Try.prog ops Q (o :: rest) a (w.alloc (.cells #[.pointer (some ⟨t.1, 0, none⟩), .pointer (some ⟨t.2, 0, none⟩)] 41)) :=
  wpApp1 EP Try.underlying42 infoP rfl (by decide) hgd s x ho 0 v n xs hs hown t hx (by omega) (by unfold maxLen; omega) (Nat.zero_le _) _ rfl _ h
/-- The first pair, in a list of its own. -/
theorem Py.init {w w2 w3 W : World} {n : Int} {s : Option T3} {tb rb Bl : Nat} (hb2 : Below w.heap.size w w2) (htb : w.heap.size ≤ tb) (hc : So w2 tb n s) (hrb : w2.heap.size ≤ rb) (hr : Ro w3 rb n s) (h23 : Below w2.heap.size w2 w3) (hBl : Bl = w3.heap.size)
    (hW : W = w3.alloc (.cells #[.pointer (some ⟨tb, 0, none⟩), .pointer (some ⟨rb, 0, none⟩)] 41)) :
    Py w n (.slice (some ⟨Bl, 0, none⟩) 1 1) [(tb, rb)] W := by
  have hz := hb2.size
  have hz3 := h23.size
  have g2 : Gr w3 W := by rw [hW]; exact (Gr.refl _).alloc _
  have hl := tk_lt hc
  have hlr := hr.lt
  have hone : ∀ (i : Nat) (p : Nat × Nat), [(tb, rb)][i]? = some p → i = 0 ∧ p = (tb, rb) := fun i p hp => by
    have hi := (List.getElem?_eq_some_iff.1 hp).1
    simp at hi
    subst hi
    simp at hp
    exact ⟨rfl, hp.symm⟩
  refine ⟨by simp, by simp, ?_, fun i p hp => ?_, fun i j p q hp hq hne => ?_, fun i p hp k hk => ?_, fun k hk => ?_, (hb2.trans (h23.mono hz)).trans (g2.below.mono (Nat.le_trans hz hz3))⟩
  · have h := World.ownsRow_lit (base := 0) (e := 41) (size := 2) w3 #[.pointer (some ⟨tb, 0, none⟩), .pointer (some ⟨rb, 0, none⟩)] 1 (Nat.zero_le _) (by unfold maxLen; omega) rfl
    rw [← hBl] at h
    rw [hW]
    exact h
  · obtain ⟨_, rfl⟩ := hone i p hp
    exact ⟨s, (hc.below h23).below g2.below, hr.below g2.below, fun e => by have e2 : tb = rb := e; omega⟩
  · have := (hone i p hp).1
    have := (hone j q hq).1
    omega
  · obtain ⟨rfl, rfl⟩ := hone i p hp
    rcases hk with hk | hk
    · have : k = tb := hk
      omega
    · have : k = rb := hk
      omega
  · have := own_eq hk
    subst this
    refine ⟨by omega, fun i p hp hq => ?_⟩
    obtain ⟨rfl, rfl⟩ := hone i p hp
    rcases hq with hq | hq
    · have : k = tb := hq
      omega
    · have : k = rb := hq
      omega
end Go.Proofs.Ytinggeflllgdmaa
