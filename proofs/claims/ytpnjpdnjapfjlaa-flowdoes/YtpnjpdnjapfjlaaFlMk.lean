import Derived.Test.YtpnjpdnjapfjlaaFlGoes
import Derived.Test.YtpnjpdnjapfjlaaLStep2
import Derived.Test.YtpnjpdnjapfjlaaCoSay0
namespace Go.Proofs.Ytpnjpdnjapfjlaa.Cd
open Go.RowKit Go.Sort

theorem owns_rd {E : Nat} {w : World} {base : Nat} {T : TypeId} {u : Value} {n : Nat} {xs : List Value} (h : w.ownsRow base T E u n xs) : ∀ k, u.ownBlock = some k → base ≤ k ∧ k < w.heap.size := fun k hk => h.lt k hk
/-- A list with one more element in its spare room. -/
def Mk (W : World) (v : Value) (l : List Op2) (m : Op2) : Prop := ∃ g cap B, v = .slice (some ⟨g, 0, none⟩) l.length cap ∧ l.length + 1 ≤ cap ∧ W.ownsRow B 46 EO.k (.slice (some ⟨g, 0, none⟩) (l.length + 1) cap) (l.length + 1) (fl EO (l ++ [m]))
section
variable {W W' : World} {v : Value} {l : List Op2} {m : Op2}
theorem Mk.kp {S : Nat → Prop} (h : Mk W v l m) (hk : Kp S W W') (hS : ∀ k, v.ownBlock = some k → ¬ S k) : Mk W' v l m := by
  obtain ⟨g, cap, B, rfl, h2, h3⟩ := h
  exact ⟨g, cap, B, rfl, h2, owns_kp hk h3 (fun k e => hS k e)⟩
theorem Mk.below (h : Mk W v l m) (hb : Below W.heap.size W W') : Mk W' v l m := h.kp (S := fun _ => False) (Kp.of_below hb) (fun _ _ h => h)
theorem Mk.more (h : Mk W v l m) : ∃ g cap, v = .slice (some ⟨g, 0, none⟩) l.length cap ∧ l.length + 1 ≤ cap ∧ Ls EO W (.slice (some ⟨g, 0, none⟩) (l.length + 1) cap) (l ++ [m]) := by
  obtain ⟨g, cap, B, rfl, h2, h3⟩ := h
  have h4 := owns_ls (E := EO) (ts := l ++ [m]) (owns_re h3 (by simp) rfl)
  exact ⟨g, cap, rfl, h2, by simpa using h4⟩
theorem Mk.ls (h : Mk W v l m) : Ls EO W v l := by
  obtain ⟨g, cap, rfl, h2, h3⟩ := h.more
  have h4 := h3.cut (k := l.length) (by simp) cap
  rw [List.take_left] at h4
  exact h4
/-- Out of an owned row, one longer. -/
theorem mk_of {base : Nat} {u : Value} (h : W.ownsRow base 46 EO.k u (l.length + 1) (fl EO (l ++ [m]))) : ∃ g cap, u = .slice (some ⟨g, 0, none⟩) (l.length + 1) cap ∧ l.length + 1 ≤ cap ∧ Mk W (.slice (some ⟨g, 0, none⟩) l.length cap) l m := by
  rcases h.2 with ⟨_, h0⟩ | ⟨g, cap, cur, hv, _, _, hc, _, _⟩
  · omega
  · rw [hv] at h
    exact ⟨g, cap, hv, hc, g, cap, base, rfl, hc, h⟩
theorem Mk.cap {g n c : Nat} (h : Mk W (.slice (some ⟨g, 0, none⟩) n c) l m) : n + 1 ≤ c ∧ n = l.length ∧ g < W.heap.size := by
  obtain ⟨g', cap, B, e, h2, h3⟩ := h
  simp only [Value.slice.injEq, Option.some.injEq, Addr.mk.injEq] at e
  obtain ⟨⟨rfl, -, -⟩, rfl, rfl⟩ := e
  exact ⟨h2, rfl, (h3.lt g rfl).2⟩
end
/-- One element that lies in a block of its own. -/
theorem one_ls {α : Type} {E : El α} {w : World} {b : Nat} {cs : Array Value} {t : TypeId} {x : α} (h : w.heap[b]? = some (.cells cs t (0, 0))) (hx : cs.toList = E.enc x) : Ls E w (.slice (some ⟨b, 0, none⟩) 1 1) [x] := by
  refine Or.inr ⟨b, 0, 1, rfl, (Array.getElem?_eq_some_iff.1 h).1, fun j u hj => ?_⟩
  rw [fl_one, ← hx] at hj
  simp only [World.cell?, h]
  simpa using hj
abbrev mO : Op2 := ⟨777, 0⟩
abbrev m9 : Op2 := ⟨-9, 0⟩
/-- The list while it is written over. -/
def wro (l : List Op2) (i : Nat) : List Op2 := List.replicate i m9 ++ l.drop i
theorem wro_zero (l : List Op2) : wro l 0 = l := by simp [wro]
theorem wro_len {l : List Op2} {i : Nat} (h : i ≤ l.length) : (wro l i).length = l.length := by simp [wro]; omega
theorem wro_get {l : List Op2} {i : Nat} (_h : i < l.length) : (wro l i)[i]? = l[i]? := by
  simp [wro, List.getElem?_append_right]
theorem wro_set {l : List Op2} {i : Nat} (h : i < l.length) : (wro l i).set i m9 = wro l (i + 1) := by
  unfold wro
  rw [List.set_append_right _ _ (by simp), List.length_replicate, Nat.sub_self, List.drop_eq_getElem_cons h, List.set_cons_zero, List.replicate_succ', List.append_assoc]
  rfl
theorem Mk.put {W : World} {g n c : Nat} {l : List Op2} {m : Op2} (h : Mk W (.slice (some ⟨g, 0, none⟩) n c) l m) {j : Nat} (hj : j < l.length) (x : Op2) :
    Mk ((W.setCell ⟨g, j * 2, none⟩ (.int .i64 x.kind)).setCell ⟨g, j * 2 + 1, none⟩ (.int .u64 x.arg)) (.slice (some ⟨g, 0, none⟩) n c) (l.set j x) m ∧ Kp (fun k => k = g) W ((W.setCell ⟨g, j * 2, none⟩ (.int .i64 x.kind)).setCell ⟨g, j * 2 + 1, none⟩ (.int .u64 x.arg)) := by
  obtain ⟨g', cap, B, e, h2, h3⟩ := h
  simp only [Value.slice.injEq, Option.some.injEq, Addr.mk.injEq] at e
  obtain ⟨⟨rfl, -, -⟩, rfl, rfl⟩ := e
  obtain ⟨h4, h5⟩ := own_put h3 (j := j) (by simp; omega) x
  refine ⟨⟨g, c, B, by simp, by simpa using h2, ?_⟩, h5⟩
  rw [List.set_append_left _ _ hj] at h4
  rw [List.length_set]
  exact h4
theorem Mk.free {W : World} {g n c : Nat} {l : List Op2} {m : Op2} (h : Mk W (.slice (some ⟨g, 0, none⟩) n c) l m) : ∀ i, W.frozen? ⟨g, i, none⟩ = false := by
  obtain ⟨g', cap, B, e, h2, h3⟩ := h
  simp only [Value.slice.injEq, Option.some.injEq, Addr.mk.injEq] at e
  obtain ⟨⟨rfl, -, -⟩, rfl, rfl⟩ := e
  obtain ⟨_, ⟨h0, _⟩ | ⟨g1, cap1, cur, hv, _, hh, _⟩⟩ := h3
  · cases h0
  · simp only [Value.slice.injEq, Option.some.injEq, Addr.mk.injEq] at hv
    obtain ⟨⟨rfl, -, -⟩, -, -⟩ := hv
    intro i
    simp [World.frozen?, hh]
theorem Mk.at {W : World} {g n c : Nat} {l : List Op2} {m : Op2} (h : Mk W (.slice (some ⟨g, 0, none⟩) n c) l m) {j : Nat} {o : Op2} (hj : (l ++ [m])[j]? = some o) : g < W.heap.size ∧ W.cell? ⟨g, j * 2, none⟩ = some (.int .i64 o.kind) ∧ W.cell? ⟨g, j * 2 + 1, none⟩ = some (.int .u64 o.arg) := by
  obtain ⟨g', cap, e, h2, h3⟩ := h.more
  simp only [Value.slice.injEq, Option.some.injEq, Addr.mk.injEq] at e
  obtain ⟨⟨rfl, -, -⟩, rfl, rfl⟩ := e
  obtain ⟨b, off, c', e, hb, y0, y1⟩ := ls_at h3 hj
  simp only [Value.slice.injEq, Option.some.injEq, Addr.mk.injEq] at e
  obtain ⟨⟨rfl, rfl, -⟩, -, -⟩ := e
  rw [Nat.zero_add] at y0 y1
  exact ⟨hb, y0, y1⟩
end Go.Proofs.Ytpnjpdnjapfjlaa.Cd
