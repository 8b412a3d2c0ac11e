import Derived.Test.YtabcibmdbancdaaXSb
namespace Go.Proofs.Ytabcibmdbancdaa
open Go.RowKit Go.Sort Go.Maps

/-- The program's book and the document's: their blocks, what both hold. -/
structure Pp where
  tb : Nat
  b : Nat
  rb : Nat
  v : Value
  last : Int
  L : List Hd
abbrev pv (p : Pp) : Value := .agg #[.pointer (some ⟨p.tb, 0, none⟩), .pointer (some ⟨p.rb, 0, none⟩)]
def Pp.own (p : Pp) (k : Nat) : Prop := k = p.tb ∨ k = p.b ∨ k = p.rb ∨ p.v.ownBlock = some k
structure Ok1 (most : Int) (p : Pp) (w : World) : Prop where
  c : Cs w p.tb p.b most p.last p.L
  r : Rc w p.rb p.v most p.last p.L
section
variable {most : Int} {p : Pp} {w w' : World}
theorem Ok1.kp {S : Nat → Prop} (h : Ok1 most p w) (hk : Kp S w w') (hS : ∀ k, p.own k → ¬ S k) : Ok1 most p w' :=
  ⟨h.c.kp hk (hS _ (Or.inl rfl)) (hS _ (Or.inr (Or.inl rfl))), h.r.kp hk (hS _ (Or.inr (Or.inr (Or.inl rfl)))) (fun k hk => hS k (Or.inr (Or.inr (Or.inr hk))))⟩
theorem Ok1.below (h : Ok1 most p w) (hb : Below w.heap.size w w') : Ok1 most p w' := ⟨h.c.below hb, h.r.below hb⟩
theorem Ok1.gr (h : Ok1 most p w) (hb : Gr w w') : Ok1 most p w' := h.below hb.below
theorem Ok1.lt (h : Ok1 most p w) {k : Nat} (hk : p.own k) : k < w.heap.size := by
  rcases hk with rfl | rfl | rfl | hk
  · exact h.c.lt
  · exact h.c.mp.lt
  · exact h.r.lt
  · exact (h.r.row.lt k hk).2
theorem Ok1.len (h : Ok1 most p w) : (p.L.length : Int) ≤ p.last := h.c.ri.len h.c.lo
theorem Ok1.up (h : Ok1 most p w) : p.L.Pairwise fun x y => x.1 < y.1 := h.c.ri.up
/-- The document's blocks are none of the program's. -/
theorem Ok1.apart (h : Ok1 most p w) : p.tb ≠ p.rb ∧ p.b ≠ p.rb ∧ (∀ k, p.v.ownBlock = some k → k ≠ p.tb ∧ k ≠ p.b) := by
  refine ⟨fun e => ?_, fun e => ?_, fun k hk => h.c.apart h.r.row hk⟩
  · have h1 := h.r.blk
    rw [← e, h.c.blk] at h1
    simp at h1
  · exact h.c.mp.not_cells (by rw [e]; exact h.r.blk)
/-- A call on the program's book leaves the document's alone, and the other way round. -/
theorem Ok1.rkp (h : Ok1 most p w) (hk : Kp (fun k => k = p.tb ∨ k = p.b) w w') : Rc w' p.rb p.v most p.last p.L :=
  h.r.kp hk (fun e => by have := h.apart; omega) (fun k hk e => by have := h.apart.2.2 k hk; omega)
theorem Ok1.ckp {tb b rb : Nat} {v : Value} {last last' : Int} {L L' : List Hd} (hc : Cs w tb b most last L) (hr : Rc w rb v most last' L') (hk : Kp (fun k => k = rb ∨ v.ownBlock = some k) w w') : Cs w' tb b most last L := by
  refine hc.kp hk (fun e => ?_) (fun e => ?_)
  · rcases e with e | e
    · have h1 := hr.blk
      rw [← e, hc.blk] at h1
      simp at h1
    · exact (hc.apart hr.row e).1 rfl
  · rcases e with e | e
    · exact hc.mp.not_cells (by rw [e]; exact hr.blk)
    · exact (hc.apart hr.row e).2 rfl
end

/-- As far as the marks were written. -/
def mkL (m : Int) (k : Nat) (L : List Hd) : List Hd := List.replicate k (m, 0, 0, 0, 0) ++ L.drop k
theorem mkL_zero (m : Int) (L : List Hd) : mkL m 0 L = L := rfl
theorem mkL_length {m : Int} {k : Nat} {L : List Hd} (h : k ≤ L.length) : (mkL m k L).length = L.length := by unfold mkL; simp; omega
theorem mkL_set {m : Int} {k : Nat} {L : List Hd} (h : k < L.length) : (mkL m k L).set k (m, 0, 0, 0, 0) = mkL m (k + 1) L := by
  unfold mkL
  rw [List.set_append_right _ _ (by simp), List.length_replicate, Nat.sub_self, List.drop_eq_getElem_cons h, List.set_cons_zero, List.replicate_succ', List.append_assoc]
  rfl
theorem mkL_full (m : Int) (L : List Hd) (k : Nat) (h : k < L.length) : (mkL m L.length L)[k]? = some (m, 0, 0, 0, 0) := by
  unfold mkL
  rw [List.getElem?_append_left (by simpa using h)]
  simp [h]
theorem fl_held (L : List Hd) (i : Nat) (h : Hd) (hi : i < L.length) : ((((((fl EH L).set (i * 5) (.int .i64 h.1)).set (i * 5 + 1) (.int .i64 h.2.1)).set (i * 5 + 2) (.int .u64 h.2.2.1)).set (i * 5 + 3) (.int .u64 h.2.2.2.1)).set (i * 5 + 4) (.int .u64 h.2.2.2.2)) = fl EH (L.set i h) := by
  induction L generalizing i with
  | nil => simp at hi
  | cons y L ih =>
    rw [fl_cons]
    cases i with
    | zero => simp [EH, fl]
    | succ i =>
      have e0 : (i + 1) * 5 = 5 + i * 5 := by omega
      have e : ∀ j, (i + 1) * 5 + j = 5 + (i * 5 + j) := fun j => by omega
      have hs : ∀ (l : List Value) (q : Nat) (u : Value), (EH.enc y ++ l).set (5 + q) u = EH.enc y ++ l.set q u := fun l q u => by
        rw [List.set_append_right _ _ (by rw [EH.len]; show 5 ≤ 5 + q; omega), EH.len]
        congr 2
        show 5 + q - 5 = q
        omega
      rw [e, e, e, e, e0, hs, hs, hs, hs, hs, ih i (by simpa using hi), List.set_cons_succ, fl_cons]
/-- One element of a row of one's own is written. -/
theorem owns_held {w : World} {base g n cap i : Nat} {L : List Hd} (m : Int) (h : w.ownsRow base 38 5 (.slice (some ⟨g, 0, none⟩) n cap) n (fl EH L)) (hi : i < L.length) :
    (((((w.setCell ⟨g, i * 5, none⟩ (.int .i64 m)).setCell ⟨g, i * 5 + 1, none⟩ (.int .i64 0)).setCell ⟨g, i * 5 + 2, none⟩ (.int .u64 0)).setCell ⟨g, i * 5 + 3, none⟩ (.int .u64 0)).setCell ⟨g, i * 5 + 4, none⟩ (.int .u64 0)).ownsRow base 38 5 (.slice (some ⟨g, 0, none⟩) n cap) n (fl EH (L.set i (m, 0, 0, 0, 0))) ∧
    Kp (fun k => k = g) w (((((w.setCell ⟨g, i * 5, none⟩ (.int .i64 m)).setCell ⟨g, i * 5 + 1, none⟩ (.int .i64 0)).setCell ⟨g, i * 5 + 2, none⟩ (.int .u64 0)).setCell ⟨g, i * 5 + 3, none⟩ (.int .u64 0)).setCell ⟨g, i * 5 + 4, none⟩ (.int .u64 0)) := by
  obtain ⟨p0, k0⟩ := owns_cell (q := i * 5) (.int .i64 m) h
  obtain ⟨p1, k1⟩ := owns_cell (q := i * 5 + 1) (.int .i64 0) p0
  obtain ⟨p2, k2⟩ := owns_cell (q := i * 5 + 2) (.int .u64 0) p1
  obtain ⟨p3, k3⟩ := owns_cell (q := i * 5 + 3) (.int .u64 0) p2
  obtain ⟨p4, k4⟩ := owns_cell (q := i * 5 + 4) (.int .u64 0) p3
  have e := fl_held L i (m, 0, 0, 0, 0) hi
  simp only at e
  rw [e] at p4
  exact ⟨p4, (((k0.trans k1 (fun _ _ h => h)).trans k2 (fun _ _ h => h)).trans k3 (fun _ _ h => h)).trans k4 (fun _ _ h => h)⟩
end Go.Proofs.Ytabcibmdbancdaa
