import Derived.Test.YtabcibmdbancdaaXTak
import Derived.Test.YtabcibmdbancdaaLStep
import Derived.Test.YtabcibmdbancdaaLStep2
import Derived.Test.YtabcibmdbancdaaLHold2
namespace Go.Proofs.Ytabcibmdbancdaa
open Go.RowKit Go.Sort Go.Maps

/-- A call of a script. -/
structure Opx where
  k : Int
  on : Int
  id : Int
  s : Sp
  hw : (Lit.int .i64 id).wf = true
instance : Inhabited Opx := ⟨⟨0, 0, 0, (0, 0, 0, 0), by decide⟩⟩
def EO : El Opx where
  k := 7
  enc o := [.int .i64 o.k, .int .i64 o.on, .int .i64 o.id, .int .i64 o.s.1, .int .u64 o.s.2.1, .int .u64 o.s.2.2.1, .int .u64 o.s.2.2.2]
  len _ := rfl
  one x u hu := by simp at hu; rcases hu with rfl | rfl | rfl | rfl | rfl | rfl | rfl <;> rfl
theorem Ls.atO {w : World} {v : Value} {ts : List Opx} (h : Ls EO w v ts) {j : Nat} {t : Opx} (hj : ts[j]? = some t) :
    ∃ b off c, v = .slice (some ⟨b, off, none⟩) ts.length c ∧ b < w.heap.size ∧ w.cell? ⟨b, off + j * 7, none⟩ = some (.int .i64 t.k) ∧ w.cell? ⟨b, off + j * 7 + 1, none⟩ = some (.int .i64 t.on) ∧ w.cell? ⟨b, off + j * 7 + 2, none⟩ = some (.int .i64 t.id) ∧
      w.cell? ⟨b, off + j * 7 + 3, none⟩ = some (.int .i64 t.s.1) ∧ w.cell? ⟨b, off + j * 7 + 4, none⟩ = some (.int .u64 t.s.2.1) ∧ w.cell? ⟨b, off + j * 7 + 5, none⟩ = some (.int .u64 t.s.2.2.1) ∧ w.cell? ⟨b, off + j * 7 + 6, none⟩ = some (.int .u64 t.s.2.2.2) := by
  obtain ⟨b, off, c, hv, hb, hc⟩ := h.get hj
  exact ⟨b, off, c, hv, hb, hc 0 _ (by decide) rfl, hc 1 _ (by decide) rfl, hc 2 _ (by decide) rfl, hc 3 _ (by decide) rfl, hc 4 _ (by decide) rfl, hc 5 _ (by decide) rfl, hc 6 _ (by decide) rfl⟩

/-- A row of what is held is apart from a book's blocks. -/
theorem Cs.apart {w : World} {tb b : Nat} {most last : Int} {L : List Hd} (h : Cs w tb b most last L) {base n : Nat} {v : Value} {xs : List Value} (ho : w.ownsRow base 38 5 v n xs) {g : Nat} (hg : v.ownBlock = some g) : g ≠ tb ∧ g ≠ b := by
  obtain ⟨_, ⟨rfl, _⟩ | ⟨g', cap, cur, rfl, _, hh, _⟩⟩ := ho
  · simp [Value.ownBlock] at hg
  · simp [Value.ownBlock] at hg
    subst hg
    refine ⟨fun e => ?_, fun e => h.mp.not_cells (e ▸ hh)⟩
    rw [e, h.blk] at hh
    simp at hh
theorem owns_cell {w : World} {base : Nat} {e : TypeId} {s g n cap q : Nat} {xs : List Value} (u : Value) (h : w.ownsRow base e s (.slice (some ⟨g, 0, none⟩) n cap) n xs) :
    (w.setCell ⟨g, q, none⟩ u).ownsRow base e s (.slice (some ⟨g, 0, none⟩) n cap) n (xs.set q u) ∧ Kp (fun k => k = g) w (w.setCell ⟨g, q, none⟩ u) := by
  obtain ⟨h1, ⟨h0, _⟩ | ⟨g', cap', cur, hv, hg, hh, h2, h3, h4, h5⟩⟩ := h
  · cases h0
  · cases hv
    have e1 := setCell_eq_setRow w g q _ _ _ u hh
    have hk1 : Kp (fun k => k = g) w (w.setCell ⟨g, q, none⟩ u) := by
      rw [e1]
      exact ⟨rfl, rfl, rfl, by simp [World.setRow], fun q _ hne => setRow_other _ g q _ (by omega)⟩
    refine ⟨⟨by simpa using h1, Or.inr ⟨g, cap, _, rfl, hg, by rw [e1]; exact setRow_heap _ g _ _ _ _ hh, h2, h3, ?_, ?_⟩⟩, hk1⟩
    · simp [h4]
    · rw [Array.toList_setIfInBounds, List.take_set, h5]
theorem owns_fz {w : World} {base : Nat} {e : TypeId} {s g n cap : Nat} {xs : List Value} (h : w.ownsRow base e s (.slice (some ⟨g, 0, none⟩) n cap) n xs) (q : Nat) : w.frozen? ⟨g, q, none⟩ = false := by
  obtain ⟨_, ⟨h0, _⟩ | ⟨g', cap', cur, hv, _, hh, _⟩⟩ := h
  · cases h0
  · cases hv
    simp [World.frozen?, hh]
theorem fl_stamp (L : List Hd) (i : Nat) (h : Hd) (s : Sp) (hi : L[i]? = some h) : (((((fl EH L).set (i * 5 + 1) (.int .i64 s.1)).set (i * 5 + 2) (.int .u64 s.2.1)).set (i * 5 + 3) (.int .u64 s.2.2.1)).set (i * 5 + 4) (.int .u64 s.2.2.2)) = fl EH (L.set i (h.1, s)) := by
  induction L generalizing i with
  | nil => simp at hi
  | cons y L ih =>
    rw [fl_cons]
    cases i with
    | zero =>
      simp at hi
      subst hi
      simp [EH, fl]
    | succ i =>
      have e : ∀ j, (i + 1) * 5 + j = 5 + (i * 5 + j) := fun j => by omega
      have hs : ∀ (l : List Value) (q : Nat) (u : Value), (EH.enc y ++ l).set (5 + q) u = EH.enc y ++ l.set q u := fun l q u => by
        rw [List.set_append_right _ _ (by rw [EH.len]; show 5 ≤ 5 + q; omega), EH.len]
        congr 2
        show 5 + q - 5 = q
        omega
      rw [e, e, e, e, hs, hs, hs, hs, ih i (by simpa using hi), List.set_cons_succ, fl_cons]
/-- Setting a place of the list is setting its number. -/
theorem set_eq {last : Int} {L : List Hd} (hr : Ri last L) {i : Nat} {h : Hd} (hi : L[i]? = some h) (s : Sp) : L.set i (h.1, s) = setL L h.1 s := by
  apply List.ext_getElem?
  intro j
  unfold setL
  rw [List.getElem?_map, List.getElem?_set]
  obtain ⟨hil, hie⟩ := List.getElem?_eq_some_iff.1 hi
  by_cases e : i = j
  · subst e
    rw [if_pos rfl, if_pos hil, hi]
    simp
  · rw [if_neg e]
    cases hq : L[j]? with
    | none => rfl
    | some x =>
      have hne : x.1 ≠ h.1 := fun e2 => by
        obtain ⟨hjl, hje⟩ := List.getElem?_eq_some_iff.1 hq
        have hp := List.pairwise_iff_getElem.1 hr.up
        rcases Nat.lt_or_gt_of_ne e with hlt | hlt
        · have := hp i j hil hjl hlt; rw [hie, hje] at this; omega
        · have := hp j i hjl hil hlt; rw [hie, hje] at this; omega
      simp [hne]
theorem set_same {L : List Hd} {i : Nat} {h : Hd} (hi : L[i]? = some h) : L.set i (h.1, h.2) = L := by
  obtain ⟨hil, hie⟩ := List.getElem?_eq_some_iff.1 hi
  rw [← hie]
  exact List.set_getElem_self hil
/-- Leaving out a place of the list is dropping its number. -/
theorem drop_eq {last : Int} {L : List Hd} (hr : Ri last L) {i : Nat} {h : Hd} (hi : L[i]? = some h) : L.take i ++ L.drop (i + 1) = dropL L h.1 := by
  obtain ⟨hil, hie⟩ := List.getElem?_eq_some_iff.1 hi
  have hsp : L = L.take i ++ h :: L.drop (i + 1) := by
    rw [← hie, List.getElem_cons_drop, List.take_append_drop]
  have hp := hr.up
  unfold dropL
  conv => rhs; rw [hsp]
  rw [hsp, List.pairwise_append, List.pairwise_cons] at hp
  rw [List.filter_append, List.filter_cons_of_neg (by simp)]
  congr 1
  · symm
    rw [List.filter_eq_self]
    intro x hx
    have := hp.2.2 x hx h List.mem_cons_self
    simp; omega
  · symm
    rw [List.filter_eq_self]
    intro x hx
    have := hp.2.1.1 x hx
    simp; omega
end Go.Proofs.Ytabcibmdbancdaa
