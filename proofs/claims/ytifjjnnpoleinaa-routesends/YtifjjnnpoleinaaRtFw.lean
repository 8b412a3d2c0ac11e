import Derived.Test.YtifjjnnpoleinaaRtApp
namespace Go.Proofs.Ytifjjnnpoleinaa.Df
open Go.RowKit Go.Sort

/-- Lists that are the call's own, each with one owner. -/
structure Fx {α : Type} (E : El α) (T TT : TypeId) (B : Nat) (w : World) (v : Value) (vs : List LV) (L : Nat → List α) : Prop where
  row : w.ownsRow B TT 1 v vs.length (fl EL vs)
  each : ∀ (k : Nat) (x : LV), vs[k]? = some x → w.ownsRow B T E.k x.v (L k).length (fl E (L k))
  apart : ∀ (k : Nat) (x : LV), vs[k]? = some x → ∀ b, x.v.ownBlock = some b → ∀ (k' : Nat) (x' : LV), vs[k']? = some x' → x'.v.ownBlock = some b → k' = k
section
variable {α : Type} {E : El α} {T TT : TypeId} {B : Nat} {w w1 w' : World} {v : Value} {vs : List LV} {L L' : Nat → List α}
theorem Fx.below (h : Fx E T TT B w v vs L) (hb : Below w.heap.size w w') : Fx E T TT B w' v vs L := ⟨owns_below h.row hb, fun k x hk => owns_below (h.each k x hk) hb, h.apart⟩
theorem Fx.re (h : Fx E T TT B w v vs L) (hL : ∀ k, k < vs.length → L k = L' k) : Fx E T TT B w v vs L' := ⟨h.row, fun k x hk => by rw [← hL k (List.getElem?_eq_some_iff.1 hk).1]; exact h.each k x hk, h.apart⟩
end
/-- The list at a place. -/
theorem Fx.cell {α : Type} {E : El α} {T TT : TypeId} {B : Nat} {w : World} {g n c : Nat} {vs : List LV} {L : Nat → List α} (h : Fx E T TT B w (.slice (some ⟨g, 0, none⟩) n c) vs L) (hn : vs.length = n) {k : Nat} (hk : k < n) : ∃ x : LV, vs[k]? = some x ∧ w.cell? ⟨g, k, none⟩ = some x.v ∧ g < w.heap.size ∧ x.m = (L k).length ∧ w.ownsRow B T E.k x.v (L k).length (fl E (L k)) := by
  obtain ⟨x, hx⟩ : ∃ x, vs[k]? = some x := ⟨vs[k]'(by omega), by simp⟩
  obtain ⟨b, off, c, hv, hb, hc⟩ := ls_atL (owns_ls (E := EL) h.row) hx
  simp only [Value.slice.injEq, Option.some.injEq, Addr.mk.injEq] at hv
  obtain ⟨⟨rfl, rfl, -⟩, -, -⟩ := hv
  rw [Nat.zero_add] at hc
  exact ⟨x, hx, hc, hb, (owns_caps (h.each k x hx) _ _ _ rfl).1, h.each k x hx⟩
section
variable {α : Type} {E : El α} {T TT : TypeId} {B : Nat} {w w' : World} {v : Value} {vs : List LV} {L : Nat → List α}
theorem Fx.nil (E : El α) (T TT : TypeId) (B : Nat) (w : World) (L : Nat → List α) : Fx E T TT B w (.slice none 0 0) [] L := ⟨World.ownsRow_nil _ _ _ _, fun k x h => by simp at h, fun k x h => by simp at h⟩
/-- Something of another kind has been turned. -/
theorem Fx.other (h : Fx E T TT B w v vs L) {B2 n : Nat} {U : TypeId} {sz : Nat} {u : Value} {xs : List Value} (ho : w.ownsRow B2 U sz u n xs) (hU : T ≠ U) (hU2 : TT ≠ U) (hk : Kp (fun j => u.ownBlock = some j) w w') : Fx E T TT B w' v vs L :=
  ⟨owns_kp hk h.row (fun j e e2 => owns_ne_own h.row ho hU2 j e e2), fun k x hx => owns_kp hk (h.each k x hx) (fun j e e2 => owns_ne_own (h.each k x hx) ho hU j e e2), h.apart⟩
/-- One row has been turned; it may hold something else. -/
theorem Fx.turn (hTT : T ≠ TT) (h : Fx E T TT B w v vs L) {k : Nat} {x : LV} (hk : vs[k]? = some x) {l : List α} (ho : w'.ownsRow B T E.k x.v l.length (fl E l)) (hK : Kp (fun j => x.v.ownBlock = some j) w w') : Fx E T TT B w' v vs (fun j => if j = k then l else L j) := by
  refine ⟨owns_kp hK h.row (fun j e e2 => owns_ne_own h.row (h.each k x hk) (Ne.symm hTT) j e e2), fun j y hj => ?_, h.apart⟩
  by_cases e : j = k
  · subst e
    rw [hk] at hj
    cases hj
    simp only [if_true]
    exact ho
  · simp only [if_neg e]
    exact owns_kp hK (h.each j y hj) (fun b e1 e2 => e (h.apart k x hk b e2 j y hj e1))
/-- A row that is new is put behind. -/
theorem Fx.push (hTT : T ≠ TT) (h : Fx E T TT B w v vs L) (hB : B ≤ w.heap.size) {w2 w3 w4 : World} {x : LV} {l : List α} {v' : Value} (hb : Below w.heap.size w w2) (hx : w2.ownsRow w.heap.size T E.k x.v l.length (fl E l)) (h3 : Below w2.heap.size w2 w3) (ho : w4.ownsRow B TT 1 v' (vs.length + 1) (fl EL vs ++ fl EL [x])) (hg : w3.grownBy w4 v.ownBlock) : Fx E T TT B w4 v' (vs ++ [x]) (fun k => if k = vs.length then l else L k) := by
  have b3 := hb.trans (h3.mono hb.size)
  have hK := Kp.grownBy (S := fun j => v.ownBlock = some j) hg (fun _ h => h)
  have hv3 := owns_below h.row b3
  have get : ∀ (k : Nat) (y : LV), (vs ++ [x])[k]? = some y → (k < vs.length ∧ vs[k]? = some y) ∨ (k = vs.length ∧ y = x) := fun k y hy => by
    by_cases e : k < vs.length
    · rw [List.getElem?_append_left e] at hy
      exact Or.inl ⟨e, hy⟩
    · rw [List.getElem?_append_right (by omega)] at hy
      have e2 : k = vs.length := by
        have := (List.getElem?_eq_some_iff.1 hy).1
        simp at this
        omega
      rw [e2, Nat.sub_self] at hy
      simp at hy
      exact Or.inr ⟨e2, hy.symm⟩
  refine ⟨?_, fun k y hy => ?_, fun k y hy b hb1 k' y' hy' hb2 => ?_⟩
  · rw [List.length_append, fl_append]
    exact ho
  · rcases get k y hy with ⟨h1, h2⟩ | ⟨h1, h2⟩
    · simp only [if_neg (show ¬ k = vs.length by omega)]
      exact owns_kp hK (owns_below (h.each k y h2) b3) (fun j e1 e2 => owns_ne_own (owns_below (h.each k y h2) b3) hv3 hTT j e1 e2)
    · subst h1
      subst h2
      simp only [if_true]
      exact owns_base (owns_kp hK (owns_below hx h3) (fun j e1 e2 => owns_ne_own (owns_below hx h3) hv3 hTT j e1 e2)) hB
  · rcases get k y hy with ⟨h1, h2⟩ | ⟨h1, h2⟩
    · rcases get k' y' hy' with ⟨h3, h4⟩ | ⟨h3, h4⟩
      · exact h.apart k y h2 b hb1 k' y' h4 hb2
      · subst h4
        have q1 := (owns_rd (h.each k y h2) b hb1).2
        have q2 := (owns_rd hx b hb2).1
        omega
    · subst h2
      rcases get k' y' hy' with ⟨h3, h4⟩ | ⟨h3, h4⟩
      · have q1 := (owns_rd (h.each k' y' h4) b hb2).2
        have q2 := (owns_rd hx b hb1).1
        omega
      · omega
end
theorem infoLo : (Try.prog.info? 40).map (fun i => (i.zero, i.size, i.bytes)) = some (some (.slice none 0 0), 1, 24) := by kernel_rfl
theorem infoLr : (Try.prog.info? 60).map (fun i => (i.zero, i.size, i.bytes)) = some (some (.slice none 0 0), 1, 24) := by kernel_rfl
theorem docS_eq {g : Gph} (hok : Gok g) (k : Int) (x : Rx) (own m : Int) : docS g k x own m = sends g k x own m := by
  unfold docS
  by_cases h : (1 ≤ m ∧ m ≤ 8) ∧ 0 ≤ own ∧ own < m
  · rw [if_pos h, doc_sends hok h]
  · rw [if_neg h, sends_none (fun h2 => h ⟨h2.1, h2.2.1, h2.2.2.1⟩)]
/-- The mark that is written into list r. -/
def mo (r : Nat) : Ot := ⟨-1 - (r : Int), 0, ⟨0, 0, 0, 0, 0⟩⟩
def fillL (r : Nat) (l : List Ot) (j : Nat) : List Ot := List.replicate j (mo r) ++ l.drop j
theorem fillL_len {r : Nat} {l : List Ot} {j : Nat} (h : j ≤ l.length) : (fillL r l j).length = l.length := by
  unfold fillL
  rw [List.length_append, List.length_replicate, List.length_drop]
  omega
theorem fillL_set {r : Nat} {l : List Ot} {j : Nat} (h : j < l.length) : (fillL r l j).set j (mo r) = fillL r l (j + 1) := by
  unfold fillL
  rw [List.set_append_right _ _ (by simp), List.length_replicate, Nat.sub_self, List.drop_eq_getElem_cons h, List.set_cons_zero, List.replicate_succ', List.append_assoc]
  rfl
theorem fillL_all (r : Nat) (l : List Ot) : fillL r l l.length = List.replicate l.length (mo r) := by
  unfold fillL
  rw [List.drop_length, List.append_nil]
theorem fl_ot {L : List Ot} {j : Nat} {o : Ot} (h : L[j]? = some o) (y : Ot) : (((((((fl EOt L).set (j * 7) (.int .i64 y.wk)).set (j * 7 + 1) (.int .i64 y.at_)).set (j * 7 + 2) (.int .u64 y.x.a)).set (j * 7 + 3) (.int .u64 y.x.b)).set (j * 7 + 4) (.int .u64 y.x.c)).set (j * 7 + 5) (.int .u64 (y.x.key : Nat))).set (j * 7 + 6) (.int .u64 y.x.val) = fl EOt (L.set j y) := by
  have hj := (List.getElem?_eq_some_iff.1 h).1
  obtain ⟨wk, at_, a, b, c, key, val⟩ := o
  obtain ⟨wk', at', a', b', c', key', val'⟩ := y
  have s0 := fl_setE EOt L j 0 _ ⟨wk', at_, a, b, c, key, val⟩ (.int .i64 wk') h (by decide) rfl
  have g0 : (L.set j ⟨wk', at_, a, b, c, key, val⟩)[j]? = some ⟨wk', at_, a, b, c, key, val⟩ := by rw [List.getElem?_set_self hj]
  have s1 := fl_setE EOt _ j 1 _ ⟨wk', at', a, b, c, key, val⟩ (.int .i64 at') g0 (by decide) rfl
  rw [List.set_set] at s1
  have g1 : (L.set j ⟨wk', at', a, b, c, key, val⟩)[j]? = some ⟨wk', at', a, b, c, key, val⟩ := by rw [List.getElem?_set_self hj]
  have s2 := fl_setE EOt _ j 2 _ ⟨wk', at', a', b, c, key, val⟩ (.int .u64 a') g1 (by decide) rfl
  rw [List.set_set] at s2
  have g2 : (L.set j ⟨wk', at', a', b, c, key, val⟩)[j]? = some ⟨wk', at', a', b, c, key, val⟩ := by rw [List.getElem?_set_self hj]
  have s3 := fl_setE EOt _ j 3 _ ⟨wk', at', a', b', c, key, val⟩ (.int .u64 b') g2 (by decide) rfl
  rw [List.set_set] at s3
  have g3 : (L.set j ⟨wk', at', a', b', c, key, val⟩)[j]? = some ⟨wk', at', a', b', c, key, val⟩ := by rw [List.getElem?_set_self hj]
  have s4 := fl_setE EOt _ j 4 _ ⟨wk', at', a', b', c', key, val⟩ (.int .u64 c') g3 (by decide) rfl
  rw [List.set_set] at s4
  have g4 : (L.set j ⟨wk', at', a', b', c', key, val⟩)[j]? = some ⟨wk', at', a', b', c', key, val⟩ := by rw [List.getElem?_set_self hj]
  have s5 := fl_setE EOt _ j 5 _ ⟨wk', at', a', b', c', key', val⟩ (.int .u64 (key' : Nat)) g4 (by decide) rfl
  rw [List.set_set] at s5
  have g5 : (L.set j ⟨wk', at', a', b', c', key', val⟩)[j]? = some ⟨wk', at', a', b', c', key', val⟩ := by rw [List.getElem?_set_self hj]
  have s6 := fl_setE EOt _ j 6 _ ⟨wk', at', a', b', c', key', val'⟩ (.int .u64 val') g5 (by decide) rfl
  rw [List.set_set] at s6
  have e7 : EOt.k = 7 := rfl
  rw [e7, Nat.add_zero] at s0
  rw [e7] at s1 s2 s3 s4 s5 s6
  simp only
  rw [s0, s1, s2, s3, s4, s5, s6]
/-- 'x[j] = y' in an own row. -/
theorem owns_ot {w : World} {B g n c j : Nat} {L : List Ot} (h : w.ownsRow B 51 7 (.slice (some ⟨g, 0, none⟩) n c) n (fl EOt L)) {o : Ot} (hj : L[j]? = some o) (y : Ot) : ((((((((w.setCell ⟨g, j * 7, none⟩ (.int .i64 y.wk)).setCell ⟨g, j * 7 + 1, none⟩ (.int .i64 y.at_)).setCell ⟨g, j * 7 + 2, none⟩ (.int .u64 y.x.a)).setCell ⟨g, j * 7 + 3, none⟩ (.int .u64 y.x.b)).setCell ⟨g, j * 7 + 4, none⟩ (.int .u64 y.x.c)).setCell ⟨g, j * 7 + 5, none⟩ (.int .u64 (y.x.key : Nat))).setCell ⟨g, j * 7 + 6, none⟩ (.int .u64 y.x.val))).ownsRow B 51 7 (.slice (some ⟨g, 0, none⟩) n c) n (fl EOt (L.set j y)) ∧ Kp (fun k => k = g) w (((((((w.setCell ⟨g, j * 7, none⟩ (.int .i64 y.wk)).setCell ⟨g, j * 7 + 1, none⟩ (.int .i64 y.at_)).setCell ⟨g, j * 7 + 2, none⟩ (.int .u64 y.x.a)).setCell ⟨g, j * 7 + 3, none⟩ (.int .u64 y.x.b)).setCell ⟨g, j * 7 + 4, none⟩ (.int .u64 y.x.c)).setCell ⟨g, j * 7 + 5, none⟩ (.int .u64 (y.x.key : Nat))).setCell ⟨g, j * 7 + 6, none⟩ (.int .u64 y.x.val)) := by
  obtain ⟨h0, k0⟩ := owns_one h (j * 7) (.int .i64 y.wk)
  obtain ⟨h1, k1⟩ := owns_one h0 (j * 7 + 1) (.int .i64 y.at_)
  obtain ⟨h2, k2⟩ := owns_one h1 (j * 7 + 2) (.int .u64 y.x.a)
  obtain ⟨h3, k3⟩ := owns_one h2 (j * 7 + 3) (.int .u64 y.x.b)
  obtain ⟨h4, k4⟩ := owns_one h3 (j * 7 + 4) (.int .u64 y.x.c)
  obtain ⟨h5, k5⟩ := owns_one h4 (j * 7 + 5) (.int .u64 (y.x.key : Nat))
  obtain ⟨h6, k6⟩ := owns_one h5 (j * 7 + 6) (.int .u64 y.x.val)
  rw [fl_ot hj] at h6
  exact ⟨h6, (((((k0.trans k1 (fun _ _ h => h)).trans k2 (fun _ _ h => h)).trans k3 (fun _ _ h => h)).trans k4 (fun _ _ h => h)).trans k5 (fun _ _ h => h)).trans k6 (fun _ _ h => h)⟩
end Go.Proofs.Ytifjjnnpoleinaa.Df
