import Derived.Test.YtpcamjmfddnglaaHStep3
namespace Go.Proofs.Ytpcamjmfddnglaa.Ht
open Go.RowKit Go.Sort Hp
attribute [local go_sem ↓] Go.wp_at_zero Go.wp_at_succ

/-- New blocks get this tag. -/
def upd (ow : Nat → Nat) (n t : Nat) : Nat → Nat := fun k => if k < n then ow k else t
theorem upd_old {ow : Nat → Nat} {n t k : Nat} (h : k < n) : upd ow n t k = ow k := if_pos h
theorem upd_new {ow : Nat → Nat} {n t k : Nat} (h : n ≤ k) : upd ow n t k = t := if_neg (by omega)
/-- A row's blocks have this tag. -/
def Tag (ow : Nat → Nat) (v : Value) (t : Nat) : Prop := ∀ k, v.ownBlock = some k → ow k = t
/-- Pairs of pointers in a row. -/
def EP : El (Nat × Nat) where
  k := 2
  enc x := [.pointer (some ⟨x.1, 0, none⟩), .pointer (some ⟨x.2, 0, none⟩)]
  len _ := rfl
  one x u hu := by
    simp at hu
    rcases hu with rfl | rfl <;> rfl
abbrev two (p : Pp) : Nat × Nat := (p.hb, p.rb)
structure Py (w : World) (ff : Nat) (o : Int) (lv : Value) (ps : List Pp) (B : Nat) (ow : Nat → Nat) (wr : World) : Prop where
  ne : 0 < ps.length
  few : ps.length ≤ 5
  row : wr.ownsRow 0 49 2 lv ps.length (fl EP (ps.map two))
  ok : ∀ (i : Nat) (p : Pp), ps[i]? = some p → Ok1 ff o p wr
  bd : ∀ (i : Nat) (p : Pp), ps[i]? = some p → p.S.length ≤ B ∧ p.np ≤ B
  tg : ∀ (i : Nat) (p : Pp), ps[i]? = some p → ∀ k, p.own k → ow k = i + 3
  tr : Tag ow lv 1
  old : ∀ k, k < w.heap.size → ow k = 0
  bl : Below w.heap.size w wr
section
variable {w wr w' : World} {ff B : Nat} {o : Int} {lv : Value} {ps : List Pp} {ow : Nat → Nat}
theorem Py.below (h : Py w ff o lv ps B ow wr) (hb : Below wr.heap.size wr w') : Py w ff o lv ps B ow w' :=
  ⟨h.ne, h.few, owns_below h.row hb, fun i p hp => (h.ok i p hp).below hb, h.bd, h.tg, h.tr, h.old, h.bl.trans (hb.mono h.bl.size)⟩
theorem Py.gr (h : Py w ff o lv ps B ow wr) (hb : Gr wr w') : Py w ff o lv ps B ow w' := h.below hb.below
theorem Py.mono (h : Py w ff o lv ps B ow wr) {B' : Nat} (hB : B ≤ B') : Py w ff o lv ps B' ow wr :=
  ⟨h.ne, h.few, h.row, h.ok, fun i p hp => ⟨Nat.le_trans (h.bd i p hp).1 hB, Nat.le_trans (h.bd i p hp).2 hB⟩, h.tg, h.tr, h.old, h.bl⟩
theorem Py.at (h : Py w ff o lv ps B ow wr) {j : Nat} {p : Pp} (hj : ps[j]? = some p) : ∃ b off c, lv = .slice (some ⟨b, off, none⟩) ps.length c ∧ b < wr.heap.size ∧ wr.cell? ⟨b, off + j * 2, none⟩ = some (.pointer (some ⟨p.hb, 0, none⟩)) ∧ wr.cell? ⟨b, off + j * 2 + 1, none⟩ = some (.pointer (some ⟨p.rb, 0, none⟩)) := by
  have hr := h.row
  have hl : (ps.map two).length = ps.length := List.length_map ..
  rw [← hl] at hr
  obtain ⟨b, off, c, hv, hb, hc⟩ := (owns_ls (E := EP) hr).get (j := j) (t := two p) (by rw [List.getElem?_map, hj]; rfl)
  rw [hl] at hv
  exact ⟨b, off, c, hv, hb, hc 0 _ (by decide) rfl, hc 1 _ (by decide) rfl⟩
/-- A step on pair j. -/
theorem Py.step (h : Py w ff o lv ps B ow wr) {j : Nat} {p : Pp} {kind : Int} (hj : ps[j]? = some p) (hs : SP ff o p kind wr w') : ∃ (ps' : List Pp) (ow' : Nat → Nat), ps'.length = ps.length ∧ Py w ff o lv ps' (B + (if kind = 1 then 1 else 0)) ow' w' := by
  obtain ⟨p', h1, ⟨e1, e2, hk, hn⟩, h3, h4⟩ := hs
  have hS : ∀ k, p.own k → ow k = j + 3 := h.tg j p hj
  have hz := h.bl.size
  have hjl := (List.getElem?_eq_some_iff.1 hj).1
  have hget : ∀ (i : Nat) (q : Pp), (ps.set j p')[i]? = some q → (i = j ∧ q = p') ∨ (i ≠ j ∧ ps[i]? = some q) := fun i q hi => by
    by_cases e : i = j
    · subst e
      rw [List.getElem?_set_self hjl] at hi
      exact Or.inl ⟨rfl, (Option.some.inj hi).symm⟩
    · rw [List.getElem?_set_ne (fun h => e h.symm)] at hi
      exact Or.inr ⟨e, hi⟩
  have hmap : (ps.set j p').map two = ps.map two := by
    rw [List.map_set]
    apply List.ext_getElem?
    intro i
    by_cases e : j = i
    · subst e
      rw [List.getElem?_set_self (by rw [List.length_map]; exact hjl), List.getElem?_map, hj]
      simp [two, e1, e2]
    · rw [List.getElem?_set_ne e]
  refine ⟨ps.set j p', upd ow wr.heap.size (j + 3), List.length_set, by rw [List.length_set]; exact h.ne, by rw [List.length_set]; exact h.few, ?_, fun i q hi => ?_, fun i q hi => ?_, fun i q hi k hq => ?_, fun k hk' => ?_, fun k hk' => ?_, ?_⟩
  · rw [hmap, List.length_set]
    exact owns_kp hk h.row (fun k hk' e => by have := hS k e; have := h.tr k hk'; omega)
  · rcases hget i q hi with ⟨_, rfl⟩ | ⟨hne, hi'⟩
    · exact h1
    · exact (h.ok i q hi').kp hk (fun k hq e => by have := hS k e; have := h.tg i q hi' k hq; omega)
  · rcases hget i q hi with ⟨_, rfl⟩ | ⟨hne, hi'⟩
    · have := h.bd j p hj
      exact ⟨Nat.le_trans h3 (Nat.add_le_add_right this.1 _), Nat.le_trans h4 (Nat.add_le_add_right this.2 _)⟩
    · have := h.bd i q hi'
      exact ⟨Nat.le_trans this.1 (Nat.le_add_right _ _), Nat.le_trans this.2 (Nat.le_add_right _ _)⟩
  · rcases hget i q hi with ⟨rfl, rfl⟩ | ⟨hne, hi'⟩
    · rcases hn k hq with h5 | h5
      · rw [upd_old ((h.ok i p hj).lt h5)]
        exact hS k h5
      · exact upd_new h5
    · rw [upd_old ((h.ok i q hi').lt hq)]
      exact h.tg i q hi' k hq
  · rw [upd_old (h.row.lt k hk').2]
    exact h.tr k hk'
  · rw [upd_old (by omega)]
    exact h.old k hk'
  · refine h.bl.trans (hk.below hz (fun k hk' => ?_))
    have := hS k hk'
    by_cases e : k < w.heap.size
    · have := h.old k e; omega
    · omega
/-- One more pair: a copy, and the list that grows. -/
theorem Py.copy (h : Py w ff o lv ps B ow wr) {j : Nat} {p p' : Pp} (hj : ps[j]? = some p) {w6 : World} (hb : Below wr.heap.size wr w6) (h1 : Ok1 ff o p' w6) (hn : ∀ k, p'.own k → wr.heap.size ≤ k) (hS : p'.S = p.S) (hnp : p'.np = p.np) (hm : ps.length < 5)
    {w8 : World} {g cap : Nat} (ho : w8.ownsRow 0 49 2 (.slice (some ⟨g, 0, none⟩) (ps.length + 1) cap) (ps.length + 1) (fl EP (ps.map two) ++ EP.enc (two p'))) (hk : Kp (fun k => lv.ownBlock = some k) w6 w8) (hg : lv.ownBlock = some g ∨ w6.heap.size ≤ g) :
    ∃ ow', Py w ff o (.slice (some ⟨g, 0, none⟩) (ps.length + 1) cap) (ps ++ [p']) B ow' w8 := by
  have h6 := h.below hb
  have hz := h.bl.size
  have hz6 := hb.size
  have hget : ∀ (i : Nat) (q : Pp), (ps ++ [p'])[i]? = some q → (i = ps.length ∧ q = p') ∨ (i < ps.length ∧ ps[i]? = some q) := fun i q hi => by
    by_cases e : i < ps.length
    · rw [List.getElem?_append_left e] at hi
      exact Or.inr ⟨e, hi⟩
    · have hl := (List.getElem?_eq_some_iff.1 hi).1
      simp at hl
      have : i = ps.length := by omega
      subst this
      simp at hi
      exact Or.inl ⟨rfl, hi.symm⟩
  have hlr : ∀ k, lv.ownBlock = some k → k < wr.heap.size := fun k hk => (h.row.lt k hk).2
  refine ⟨upd (upd ow wr.heap.size (ps.length + 3)) w6.heap.size 1, by simp, by simp; omega, ?_, fun i q hi => ?_, fun i q hi => ?_, fun i q hi k hq => ?_, fun k hk' => ?_, fun k hk' => ?_, ?_⟩
  · rw [List.length_append, List.map_append, fl_append]
    exact ho
  · rcases hget i q hi with ⟨_, rfl⟩ | ⟨_, hi'⟩
    · exact h1.kp hk (fun k hq e => by have := hn k hq; have := hlr k e; omega)
    · exact (h6.ok i q hi').kp hk (fun k hq e => by have := h.tg i q hi' k hq; have := h.tr k e; omega)
  · rcases hget i q hi with ⟨_, rfl⟩ | ⟨_, hi'⟩
    · rw [hS, hnp]; exact h.bd j p hj
    · exact h.bd i q hi'
  · rcases hget i q hi with ⟨rfl, rfl⟩ | ⟨_, hi'⟩
    · rw [upd_old (h1.lt hq), upd_new (hn k hq)]
    · have := (h.ok i q hi').lt hq
      rw [upd_old (by omega), upd_old this]
      exact h.tg i q hi' k hq
  · have := own_eq hk'
    subst this
    rcases hg with hg | hg
    · have := hlr g hg
      rw [upd_old (by omega), upd_old this]
      exact h.tr g hg
    · exact upd_new hg
  · rw [upd_old (by omega), upd_old (by omega)]
    exact h.old k hk'
  · refine h6.bl.trans (hk.below (by omega) (fun k hk' => ?_))
    have := h.tr k hk'
    by_cases e : k < w.heap.size
    · have := h.old k e; omega
    · omega
end
theorem okey_else {o : Int} (h0 : ¬ o = 0) (h1 : ¬ o = 1) : okey o = okey 2 := by
  funext a
  unfold okey
  rw [if_neg h0, if_neg h1]
  simp
set_option maxHeartbeats 1000000 in
theorem made_any (o : Int) (w : World) : ∃ ff, FnOk ff (key (okey o)) ∧ Calls Try.prog 20 #[.int .i64 o] w fun e w' => ∃ hb, e = .returned (.pointer (some ⟨hb, 0, none⟩)) ∧ w.heap.size ≤ hb ∧ Hq w' hb ff (.slice none 0 0) (okey o) [] 0 ∧ Gr w w' := by
  by_cases h0 : o = 0
  · subst h0
    refine ⟨_, rising_ok, ?_⟩
    have hn := newq_any 8 (okey 0) w
    have he := rising_ok.enter
    go_enter Try.func20, Try.ntmps20
    go_wp2_with fail
    refine hn.mono ?_
    rintro e w1 ⟨hb, rfl, h1, h2, h3⟩
    go_wp2
    go_ret
    exact ⟨hb, rfl, h1, h2, h3⟩
  · by_cases h1 : o = 1
    · subst h1
      refine ⟨_, falling_ok, ?_⟩
      have hn := newq_any 39 (okey 1) w
      have he := falling_ok.enter
      go_enter Try.func20, Try.ntmps20
      go_wp2_with fail
      refine hn.mono ?_
      rintro e w1 ⟨hb, rfl, h1, h2, h3⟩
      go_wp2
      go_ret
      exact ⟨hb, rfl, h1, h2, h3⟩
    · rw [okey_else h0 h1]
      refine ⟨_, some_ok, ?_⟩
      have hn := newq_any 40 (okey 2) w
      have he := some_ok.enter
      go_enter Try.func20, Try.ntmps20
      go_wp2_with fail
      refine hn.mono ?_
      rintro e w1 ⟨hb, rfl, h1, h2, h3⟩
      go_wp2
      go_ret
      exact ⟨hb, rfl, h1, h2, h3⟩
theorem infoP : (Try.prog.info? 49).map (fun i => (i.zero, i.size, i.bytes)) = some (some (.agg #[.pointer none, .pointer none]), 2, 16) := by kernel_rfl
/-- 'append(l, c)'. -/
theorem wpAppP {w : World} {ops : Array Oper} {rest : List Oper} {o : Oper} {a : Act} {Q : Exit → Act → World → Prop} (hgd : o.guard = none) (s x : Operand)
    (ho : o.op = .call { callee := .builtin .append, args := #[s, x], argTypes := #[50, 50] })
    (v : Value) (n : Nat) (xs : List Value) (hs : a.eval s = v) (hown : w.ownsRow 0 49 2 v n xs)
    (t : Nat × Nat) (hx : a.eval x = .slice (some ⟨w.heap.size, 0, none⟩) 1 1) (hbig : n ≤ 5)
    (h : ∀ g cap w', w'.ownsRow 0 49 2 (.slice (some ⟨g, 0, none⟩) (n + 1) cap) (n + 1) (xs ++ EP.enc t) → w.grownBy w' v.ownBlock → (v.ownBlock = some g ∨ w.heap.size ≤ g) → wpList Try.prog ops Q rest (a.put o.dst (.slice (some ⟨g, 0, none⟩) (n + 1) cap)) w') :
    wpList Try.prog ops Q (o :: rest) a (w.alloc (.cells #[.pointer (some ⟨t.1, 0, none⟩), .pointer (some ⟨t.2, 0, none⟩)] 49)) :=
  wpApp1 EP Try.underlying50 infoP rfl (by decide) hgd s x ho 0 v n xs hs hown t hx (by omega) (by unfold maxLen; omega) (Nat.zero_le _) _ rfl _ h
end Go.Proofs.Ytpcamjmfddnglaa.Ht
