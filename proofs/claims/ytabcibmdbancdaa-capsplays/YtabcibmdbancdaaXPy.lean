import Derived.Test.YtabcibmdbancdaaXStep
namespace Go.Proofs.Ytabcibmdbancdaa
open Go.RowKit Go.Sort Go.Maps

/-- New blocks get this tag. -/
def upd (ow : Nat → Nat) (n t : Nat) : Nat → Nat := fun k => if k < n then ow k else t
theorem upd_old {ow : Nat → Nat} {n t k : Nat} (h : k < n) : upd ow n t k = ow k := if_pos h
theorem upd_new {ow : Nat → Nat} {n t k : Nat} (h : n ≤ k) : upd ow n t k = t := if_neg (by omega)
/-- A row's blocks have this tag. -/
def Tag (ow : Nat → Nat) (v : Value) (t : Nat) : Prop := ∀ k, v.ownBlock = some k → ow k = t
/-- Pairs of pointers in a row. -/
def EP : El (Nat × Nat) where
  k := 2
  enc x := [.pointer (some ⟨x.1, 0, none⟩), .pointer (some ⟨x.2, 0, none⟩)]
  len _ := rfl
  one x u hu := by
    simp at hu
    rcases hu with rfl | rfl <;> rfl
abbrev two (p : Pp) : Nat × Nat := (p.tb, p.rb)
theorem own_eq {g n c k : Nat} (h : (Value.slice (some ⟨g, 0, none⟩) n c).ownBlock = some k) : k = g := by simpa [Value.ownBlock] using h.symm
/-- The pairs, as they are played. -/
structure Py (w : World) (most : Int) (lv : Value) (ps : List Pp) (B : Int) (ow : Nat → Nat) (wr : World) : Prop where
  ne : 0 < ps.length
  few : ps.length ≤ 4
  row : wr.ownsRow 0 49 2 lv ps.length (fl EP (ps.map two))
  ok : ∀ (i : Nat) (p : Pp), ps[i]? = some p → Ok1 most p wr
  bd : ∀ (i : Nat) (p : Pp), ps[i]? = some p → p.last ≤ B
  tg : ∀ (i : Nat) (p : Pp), ps[i]? = some p → ∀ k, p.own k → ow k = i + 3
  tr : Tag ow lv 1
  old : ∀ k, k < w.heap.size → ow k = 0
  bl : Below w.heap.size w wr
section
variable {w wr w' : World} {most B : Int} {lv : Value} {ps : List Pp} {ow : Nat → Nat}
theorem Py.below (h : Py w most lv ps B ow wr) (hb : Below wr.heap.size wr w') : Py w most lv ps B ow w' :=
  ⟨h.ne, h.few, owns_below h.row hb, fun i p hp => (h.ok i p hp).below hb, h.bd, h.tg, h.tr, h.old, h.bl.trans (hb.mono h.bl.size)⟩
theorem Py.gr (h : Py w most lv ps B ow wr) (hb : Gr wr w') : Py w most lv ps B ow w' := h.below hb.below
theorem Py.mono (h : Py w most lv ps B ow wr) {B' : Int} (hB : B ≤ B') : Py w most lv ps B' ow wr :=
  ⟨h.ne, h.few, h.row, h.ok, fun i p hp => Int.le_trans (h.bd i p hp) hB, h.tg, h.tr, h.old, h.bl⟩
theorem Py.at (h : Py w most lv ps B ow wr) {j : Nat} {p : Pp} (hj : ps[j]? = some p) : ∃ b off c, lv = .slice (some ⟨b, off, none⟩) ps.length c ∧ b < wr.heap.size ∧ wr.cell? ⟨b, off + j * 2, none⟩ = some (.pointer (some ⟨p.tb, 0, none⟩)) ∧ wr.cell? ⟨b, off + j * 2 + 1, none⟩ = some (.pointer (some ⟨p.rb, 0, none⟩)) := by
  have hr := h.row
  have hl : (ps.map two).length = ps.length := List.length_map ..
  rw [← hl] at hr
  obtain ⟨b, off, c, hv, hb, hc⟩ := (owns_ls (E := EP) hr).get (j := j) (t := two p) (by rw [List.getElem?_map, hj]; rfl)
  rw [hl] at hv
  exact ⟨b, off, c, hv, hb, hc 0 _ (by decide) rfl, hc 1 _ (by decide) rfl⟩
/-- A step on pair j. -/
theorem Py.step (h : Py w most lv ps B ow wr) {j : Nat} {p p' : Pp} (hj : ps[j]? = some p) (hs : SP most p wr w' p') : ∃ (ps' : List Pp) (ow' : Nat → Nat), ps'.length = ps.length ∧ Py w most lv ps' (B + 1) ow' w' := by
  obtain ⟨h1, e1, e2, h3, hk, hn⟩ := hs
  have hS : ∀ k, p.own k → ow k = j + 3 := h.tg j p hj
  have hz := h.bl.size
  have hjl := (List.getElem?_eq_some_iff.1 hj).1
  have hget : ∀ (i : Nat) (q : Pp), (ps.set j p')[i]? = some q → (i = j ∧ q = p') ∨ (i ≠ j ∧ ps[i]? = some q) := fun i q hi => by
    by_cases e : i = j
    · subst e
      rw [List.getElem?_set_self hjl] at hi
      exact Or.inl ⟨rfl, (Option.some.inj hi).symm⟩
    · rw [List.getElem?_set_ne (fun h => e h.symm)] at hi
      exact Or.inr ⟨e, hi⟩
  have hmap : (ps.set j p').map two = ps.map two := by
    rw [List.map_set]
    apply List.ext_getElem?
    intro i
    by_cases e : j = i
    · subst e
      rw [List.getElem?_set_self (by rw [List.length_map]; exact hjl), List.getElem?_map, hj]
      simp [two, e1, e2]
    · rw [List.getElem?_set_ne e]
  refine ⟨ps.set j p', upd ow wr.heap.size (j + 3), List.length_set, by rw [List.length_set]; exact h.ne, by rw [List.length_set]; exact h.few, ?_, fun i q hi => ?_, fun i q hi => ?_, fun i q hi k hq => ?_, fun k hk' => ?_, fun k hk' => ?_, ?_⟩
  · rw [hmap, List.length_set]
    exact owns_kp hk h.row (fun k hk' e => by have := hS k e; have := h.tr k hk'; omega)
  · rcases hget i q hi with ⟨_, rfl⟩ | ⟨hne, hi'⟩
    · exact h1
    · exact (h.ok i q hi').kp hk (fun k hq e => by have := hS k e; have := h.tg i q hi' k hq; omega)
  · rcases hget i q hi with ⟨_, rfl⟩ | ⟨hne, hi'⟩
    · have := h.bd j p hj
      omega
    · have := h.bd i q hi'
      omega
  · rcases hget i q hi with ⟨rfl, rfl⟩ | ⟨hne, hi'⟩
    · rcases hn k hq with h5 | h5
      · rw [upd_old ((h.ok i p hj).lt h5)]
        exact hS k h5
      · exact upd_new h5
    · rw [upd_old ((h.ok i q hi').lt hq)]
      exact h.tg i q hi' k hq
  · rw [upd_old (h.row.lt k hk').2]
    exact h.tr k hk'
  · rw [upd_old (by omega)]
    exact h.old k hk'
  · refine h.bl.trans (hk.below hz (fun k hk' => ?_))
    have := hS k hk'
    by_cases e : k < w.heap.size
    · have := h.old k e; omega
    · omega
/-- One more pair: a copy, and the list that grows. -/
theorem Py.copy (h : Py w most lv ps B ow wr) {j : Nat} {p p' : Pp} (hj : ps[j]? = some p) {w6 : World} (hb : Below wr.heap.size wr w6) (h1 : Ok1 most p' w6) (hn : ∀ k, p'.own k → wr.heap.size ≤ k) (hS : p'.last = p.last) (hm : ps.length < 4)
    {w8 : World} {g cap : Nat} (ho : w8.ownsRow 0 49 2 (.slice (some ⟨g, 0, none⟩) (ps.length + 1) cap) (ps.length + 1) (fl EP (ps.map two) ++ EP.enc (two p'))) (hk : Kp (fun k => lv.ownBlock = some k) w6 w8) (hg : lv.ownBlock = some g ∨ w6.heap.size ≤ g) :
    ∃ ow', Py w most (.slice (some ⟨g, 0, none⟩) (ps.length + 1) cap) (ps ++ [p']) B ow' w8 := by
  have h6 := h.below hb
  have hz := h.bl.size
  have hz6 := hb.size
  have hget : ∀ (i : Nat) (q : Pp), (ps ++ [p'])[i]? = some q → (i = ps.length ∧ q = p') ∨ (i < ps.length ∧ ps[i]? = some q) := fun i q hi => by
    by_cases e : i < ps.length
    · rw [List.getElem?_append_left e] at hi
      exact Or.inr ⟨e, hi⟩
    · have hl := (List.getElem?_eq_some_iff.1 hi).1
      simp at hl
      have : i = ps.length := by omega
      subst this
      simp at hi
      exact Or.inl ⟨rfl, hi.symm⟩
  have hlr : ∀ k, lv.ownBlock = some k → k < wr.heap.size := fun k hk => (h.row.lt k hk).2
  refine ⟨upd (upd ow wr.heap.size (ps.length + 3)) w6.heap.size 1, by simp, by simp; omega, ?_, fun i q hi => ?_, fun i q hi => ?_, fun i q hi k hq => ?_, fun k hk' => ?_, fun k hk' => ?_, ?_⟩
  · rw [List.length_append, List.map_append, fl_append]
    exact ho
  · rcases hget i q hi with ⟨_, rfl⟩ | ⟨_, hi'⟩
    · exact h1.kp hk (fun k hq e => by have := hn k hq; have := hlr k e; omega)
    · exact (h6.ok i q hi').kp hk (fun k hq e => by have := h.tg i q hi' k hq; have := h.tr k e; omega)
  · rcases hget i q hi with ⟨_, rfl⟩ | ⟨_, hi'⟩
    · rw [hS]; exact h.bd j p hj
    · exact h.bd i q hi'
  · rcases hget i q hi with ⟨rfl, rfl⟩ | ⟨_, hi'⟩
    · rw [upd_old (h1.lt hq), upd_new (hn k hq)]
    · have := (h.ok i q hi').lt hq
      rw [upd_old (by omega), upd_old this]
      exact h.tg i q hi' k hq
  · have := own_eq hk'
    subst this
    rcases hg with hg | hg
    · have := hlr k hg
      rw [upd_old (by omega), upd_old this]
      exact h.tr k hg
    · exact upd_new hg
  · rw [upd_old (by omega), upd_old (by omega)]
    exact h.old k hk'
  · refine h6.bl.trans (hk.below (by omega) (fun k hk' => ?_))
    have := h.tr k hk'
    by_cases e : k < w.heap.size
    · have := h.old k e; omega
    · omega
end
theorem infoP : (Try.prog.info? 49).map (fun i => (i.zero, i.size, i.bytes)) = some (some (.agg #[.pointer none, .pointer none]), 2, 16) := by kernel_rfl
/-- 'append(l, c)'. -/
theorem wpAppP {w : World} {ops : Array Oper} {rest : List Oper} {o : Oper} {a : Act} {Q : Exit → Act → World → Prop} (hgd : o.guard = none) (s x : Operand)
    (ho : o.op = .call { callee := .builtin .append, args := #[s, x], argTypes := #[50, 50] })
    (v : Value) (n : Nat) (xs : List Value) (hs : a.eval s = v) (hown : w.ownsRow 0 49 2 v n xs)
    (t : Nat × Nat) (hx : a.eval x = .slice (some ⟨w.heap.size, 0, none⟩) 1 1) (hbig : n ≤ 4)
    (h : ∀ g cap w', w'.ownsRow 0 49 2 (.slice (some ⟨g, 0, none⟩) (n + 1) cap) (n + 1) (xs ++ EP.enc t) → w.grownBy w' v.ownBlock → (v.ownBlock = some g ∨ w.heap.size ≤ g) → wpList Try.prog ops Q rest (a.put o.dst (.slice (some ⟨g, 0, none⟩) (n + 1) cap)) w') :
    wpList Try.prog ops Q (o :: rest) a (w.alloc (.cells #[.pointer (some ⟨t.1, 0, none⟩), .pointer (some ⟨t.2, 0, none⟩)] 49)) :=
  wpApp1 EP Try.underlying50 infoP rfl (by decide) hgd s x ho 0 v n xs hs hown t hx (by omega) (by unfold maxLen; omega) (Nat.zero_le _) _ rfl _ h
/-- The first pair, in a list of its own. -/
theorem Py.init {w w2 w3 W : World} {most : Int} {tb b rb Bl : Nat} (hb2 : Below w.heap.size w w2) (htb : w.heap.size ≤ tb) (hbb : w.heap.size ≤ b) (hc : Cs w2 tb b most 0 []) (hrb : w2.heap.size ≤ rb) (hr : Rc w3 rb (.slice none 0 0) most 0 []) (h23 : Below w2.heap.size w2 w3) (hBl : Bl = w3.heap.size)
    (hW : W = w3.alloc (.cells #[.pointer (some ⟨tb, 0, none⟩), .pointer (some ⟨rb, 0, none⟩)] 49)) :
    Py w most (.slice (some ⟨Bl, 0, none⟩) 1 1) [⟨tb, b, rb, .slice none 0 0, 0, []⟩] 0 (fun k => if k < w.heap.size then 0 else if k = Bl then 1 else 3) W := by
  have hz := hb2.size
  have hz3 := h23.size
  have g2 : Gr w3 W := by rw [hW]; exact (Gr.refl _).alloc _
  have hok : Ok1 most ⟨tb, b, rb, .slice none 0 0, 0, []⟩ w3 := ⟨hc.below h23, hr⟩
  have hone : ∀ (i : Nat) (p : Pp), [(⟨tb, b, rb, .slice none 0 0, 0, []⟩ : Pp)][i]? = some p → i = 0 ∧ p = ⟨tb, b, rb, .slice none 0 0, 0, []⟩ := fun i p hp => by
    have hi := (List.getElem?_eq_some_iff.1 hp).1
    simp at hi
    subst hi
    simp at hp
    exact ⟨rfl, hp.symm⟩
  refine ⟨by simp, by simp, ?_, fun i p hp => ?_, fun i p hp => ?_, fun i p hp k hk => ?_, fun k hk => ?_, fun k hk => if_pos hk, (hb2.trans (h23.mono hz)).trans (g2.below.mono (Nat.le_trans hz hz3))⟩
  · have h := World.ownsRow_lit (base := 0) (e := 49) (size := 2) w3 #[.pointer (some ⟨tb, 0, none⟩), .pointer (some ⟨rb, 0, none⟩)] 1 (Nat.zero_le _) (by unfold maxLen; omega) rfl
    rw [← hBl] at h
    rw [hW]
    exact h
  · obtain ⟨_, rfl⟩ := hone i p hp
    exact hok.gr g2
  · obtain ⟨_, rfl⟩ := hone i p hp
    exact Int.le_refl _
  · obtain ⟨rfl, rfl⟩ := hone i p hp
    have hlt := hok.lt hk
    show (if k < w.heap.size then 0 else if k = Bl then 1 else 3) = 0 + 3
    have hge : w.heap.size ≤ k := by
      rcases hk with hk | hk | hk | hk
      · have : k = tb := hk
        omega
      · have : k = b := hk
        omega
      · have : k = rb := hk
        omega
      · simp [Value.ownBlock] at hk
    rw [if_neg (by omega), if_neg (by omega)]
  · have := own_eq hk
    subst this
    show (if k < w.heap.size then 0 else if k = k then 1 else 3) = 1
    rw [if_neg (by omega), if_pos rfl]
end Go.Proofs.Ytabcibmdbancdaa
