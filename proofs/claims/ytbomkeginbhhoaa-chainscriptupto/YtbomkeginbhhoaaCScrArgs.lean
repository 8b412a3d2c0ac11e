import Derived.Test.YtbomkeginbhhoaaRows
import Derived.Test.YtbomkeginbhhoaaCInv
import Derived.Test.YtbomkeginbhhoaaCArgs
namespace Go.Proofs.Ytbomkeginbhhoaa
open Go.ChangeShapes Go.WideShapes Go.ChangeAt Go.RowKit Go.Joins

theorem bulk_one {H : Type} (d : DataW H) : 1 ≤ Rows.uptoBulk d := by
  cases d with
  | lit l => cases l <;> simp [Rows.uptoBulk]
  | nil => simp [Rows.uptoBulk]
  | ptr d => simp [Rows.uptoBulk]
  | slice elems spare => simp [Rows.uptoBulk]
  | agg parts => simp [Rows.uptoBulk]
  | iface t d => simp [Rows.uptoBulk]
  | map entries => simp [Rows.uptoBulk]
  | held h => simp [Rows.uptoBulk]
theorem bulk_len {H : Type} (l : List (DataW H)) : l.length ≤ Rows.uptoBulkAll l := by
  induction l with
  | nil => simp [Rows.uptoBulkAll]
  | cons x r ih => have := bulk_one x; simp only [Rows.uptoBulkAll, List.length_cons]; omega
theorem bulk_append {H : Type} (a b : List (DataW H)) : Rows.uptoBulkAll (a ++ b) = Rows.uptoBulkAll a + Rows.uptoBulkAll b := by
  induction a with
  | nil => simp [Rows.uptoBulkAll]
  | cons x a ih => simp only [List.cons_append, Rows.uptoBulkAll, ih]; omega
theorem cell_in {W : World} {a : Addr} {u : Value} (h : W.cell? a = some u) : a.spot = none ∧ a.block < W.heap.size := by
  unfold World.cell? at h
  split at h
  · rename_i hh
    refine ⟨?_, (Array.getElem?_eq_some_iff.1 hh).1⟩
    split at h
    · cases h
    · rename_i hs
      simpa using hs
  · cases h

section
variable {H : Type} {enc : TypeId × Value → H} {W : World} {base : Nat} {sp : Nat → Bool} {held : Bool}
theorem trod_pr (fuel : Nat) (cs : List Value) (y : DataW H × List MemPlace) (hl : cs.length = 2) (h : DataW.trod enc Try.prog W base sp held fuel 28 cs = some y) : ∃ x : P2, cs = encP x := by
  obtain ⟨xs, k, hk, hxy, _, hxl, hff⟩ := DataW.trod_struct Try.underlying28 h
  have hone : Try.prog.cellsOf 3 = 1 := by kernel_rfl
  match cs, hl, xs, hxl with
  | [c0, c1], _, [y0, y1], _ =>
    have k0 : DataW.trod enc Try.prog W base sp held k 3 (([c0, c1].drop 0).take (Try.prog.cellsOf 3)) = some y0 := hff 0 _ rfl
    have k1 : DataW.trod enc Try.prog W base sp held k 3 (([c0, c1].drop 1).take (Try.prog.cellsOf 3)) = some y1 := hff 1 _ rfl
    rw [hone] at k0 k1
    obtain ⟨u0, e0, _⟩ := DataW.trod_int Try.underlying3 k0
    obtain ⟨u1, e1, _⟩ := DataW.trod_int Try.underlying3 k1
    simp at e0 e1
    subst e0 e1
    exact ⟨(u0, u1), rfl⟩
/-- A slice of pairs that lies in a cell. -/
theorem trod_pairs (fuel : Nat) (cs : List Value) (y : DataW H × List MemPlace) (h : DataW.trod enc Try.prog W base sp held fuel 22 cs = some y) :
    ∃ (v : Value) (ts : List P2), cs = [v] ∧ (Lst W v ts ∨ Od v ts) ∧ ts.length + 1 ≤ Rows.uptoBulk y.1 := by
  rcases Deep.open_slice Try.underlying22 h with ⟨hcs, hx⟩ | ⟨a, len, cap, m, n, D, Pl, hcs, hb, hl, hm, hmm, hx, hall⟩
  · exact ⟨_, [], hcs, Or.inl (Or.inl ⟨rfl, rfl⟩), bulk_one _⟩
  · by_cases h0 : len = 0
    · subst h0
      exact ⟨_, [], hcs, Or.inr ⟨rfl, _, _, rfl⟩, bulk_one _⟩
    · have hlm : len ≤ m := by rw [hmm]; split <;> omega
      obtain ⟨cs0, g1, _⟩ := hall 0 (by omega)
      rw [cellsPr] at g1
      obtain ⟨_, hl0, hc0⟩ := World.cells?_some g1
      have g0 := hc0 0 (by decide)
      rw [show (a.add (0 * 2)).add 0 = a by simp [Addr.add]] at g0
      obtain ⟨u0, hu0⟩ : ∃ u, cs0[0]? = some u := ⟨cs0[0]'(by omega), by simp⟩
      obtain ⟨hsp, hlt⟩ := cell_in (g0.trans hu0)
      clear g0 hc0 hl0 g1 hu0
      obtain ⟨b, off, spot⟩ := a
      simp only at hsp hlt
      subst hsp
      obtain ⟨V, hV⟩ := Deep.choose_lt (α := P2) (p := fun i t => W.cell? ⟨b, off + i * 2, none⟩ = some (.int .i64 t.1) ∧ W.cell? ⟨b, off + i * 2 + 1, none⟩ = some (.int .i64 t.2)) (n := len) (fun i hi => by
        obtain ⟨cs', h1, h2⟩ := hall i (by omega)
        rw [cellsPr] at h1
        obtain ⟨_, hl3, hc⟩ := World.cells?_some h1
        obtain ⟨x, rfl⟩ := trod_pr _ _ _ hl3 h2
        have g0 := hc 0 (by omega)
        have g1 := hc 1 (by omega)
        rw [Deep.add_add, addP] at g0 g1
        exact ⟨x, g0, g1⟩)
      refine ⟨_, (List.range len).map V, hcs, Or.inl (Or.inr ⟨b, off, cap, by simp, hlt, pairsAt_of hV⟩), ?_⟩
      rw [hx]
      have := bulk_len ((List.range len).map D)
      simp only [List.length_map, List.length_range] at this ⊢
      simp only [Rows.uptoBulk]
      omega
theorem cellsOp5 : Try.prog.cellsOf 55 = 5 := by kernel_rfl
theorem trod_step (fuel : Nat) (cs : List Value) (y : DataW H × List MemPlace) (hl : cs.length = 5) (h : DataW.trod enc Try.prog W base sp held fuel 55 cs = some y) :
    ∃ o : Opr, cs = [.int .i64 o.kind, .int .i64 o.on, .int .i64 o.x.1, .int .i64 o.x.2, o.u] ∧ (Lst W o.u o.l ∨ Od o.u o.l) ∧ o.l.length + 1 ≤ Rows.uptoBulk y.1 := by
  obtain ⟨xs, k, hk, hxy, _, hxl, hff⟩ := DataW.trod_struct Try.underlying55 h
  have hone : Try.prog.cellsOf 3 = 1 := by kernel_rfl
  have honeS : Try.prog.cellsOf 22 = 1 := by kernel_rfl
  match cs, hl, xs, hxl with
  | [c0, c1, c2, c3, c4], _, [y0, y1, y2, y3], _ =>
    have k0 : DataW.trod enc Try.prog W base sp held k 3 (([c0, c1, c2, c3, c4].drop 0).take (Try.prog.cellsOf 3)) = some y0 := hff 0 _ rfl
    have k1 : DataW.trod enc Try.prog W base sp held k 3 (([c0, c1, c2, c3, c4].drop 1).take (Try.prog.cellsOf 3)) = some y1 := hff 1 _ rfl
    have k2 : DataW.trod enc Try.prog W base sp held k 28 (([c0, c1, c2, c3, c4].drop 2).take (Try.prog.cellsOf 28)) = some y2 := hff 2 _ rfl
    have k3 : DataW.trod enc Try.prog W base sp held k 22 (([c0, c1, c2, c3, c4].drop 4).take (Try.prog.cellsOf 22)) = some y3 := hff 3 _ rfl
    rw [hone] at k0 k1
    rw [cellsPr] at k2
    rw [honeS] at k3
    obtain ⟨u0, e0, _⟩ := DataW.trod_int Try.underlying3 k0
    obtain ⟨u1, e1, _⟩ := DataW.trod_int Try.underlying3 k1
    obtain ⟨x, e2⟩ := trod_pr _ _ _ rfl k2
    obtain ⟨v, ts, e3, hv, hb⟩ := trod_pairs _ _ _ k3
    simp [encP] at e0 e1 e2 e3
    obtain ⟨rfl, rfl⟩ := e2
    subst e0 e1 e3
    refine ⟨⟨u0, u1, x, _, ts⟩, rfl, hv, ?_⟩
    rw [hxy]
    simp only [List.map_cons, List.map_nil, Rows.uptoBulk, Rows.uptoBulkAll]
    omega
end
instance : Inhabited Opr := ⟨⟨0, 0, (0, 0), .slice none 0 0, []⟩⟩
theorem tot_bulk {H : Type} (V : Nat → Opr) (D : Nat → DataW H) (n : Nat) (h : ∀ i, i < n → (V i).l.length + 1 ≤ Rows.uptoBulk (D i)) : tot (((List.range n).map V).map Opr.l) ≤ Rows.uptoBulkAll ((List.range n).map D) := by
  induction n with
  | zero => simp [tot]
  | succ n ih =>
    rw [List.range_succ, List.map_append, List.map_append, List.map_append, tot_append, bulk_append]
    have h1 := ih (fun i hi => h i (by omega))
    have h2 := h n (by omega)
    simp only [List.map_cons, List.map_nil, Rows.uptoBulkAll, tot, List.sum_cons, List.sum_nil]
    simp only [tot] at h1
    omega
set_option maxRecDepth 100000 in
/-- A script that came in. -/
theorem open_script {H : Type} {enc : TypeId × Value → H} {W : World} {r : Reach} {b0 base : Nat} {sp : Nat → Bool} {held : Bool} {v : Value} {d : DataW H} {p : List MemPlace} (hv : Value.okWide Try.prog W r b0 47 v) (h : DataW.Trod enc Try.prog W base sp held 47 v d p) :
    (∀ x ∈ p, x.block < W.heap.size) ∧ ∃ os : List Opr, ScriptAt W v os ∧ tot (os.map Opr.l) ≤ Rows.uptoBulk d := by
  obtain ⟨a0, len, cap, rfl⟩ := okWide_slice Try.underlying47 hv
  obtain ⟨fuel, hf⟩ := h
  refine ⟨DataW.trod_lt fuel _ _ _ hf, ?_⟩
  rcases Deep.open_slice Try.underlying47 hf with ⟨hcs, hx⟩ | ⟨a, len', cap', m, n, D, Pl, hcs, hb, hl, hm, hmm, hx, hall⟩
  · simp [Value.cells] at hcs
    obtain ⟨rfl, rfl, rfl⟩ := hcs
    exact ⟨[], ⟨none, 0, rfl, fun i o hi => by simp at hi⟩, Nat.zero_le _⟩
  · simp [Value.cells] at hcs
    obtain ⟨rfl, rfl, rfl⟩ := hcs
    obtain ⟨hsp, hlt⟩ := has_lt Try.underlying47 hv
    obtain ⟨b, off, spot⟩ := a
    simp only at hsp hlt
    subst hsp
    have hlm : len ≤ m := by rw [hmm]; split <;> omega
    obtain ⟨V, hV⟩ := Deep.choose_lt (α := Opr) (p := fun i o => (∀ j u, [Value.int .i64 o.kind, .int .i64 o.on, .int .i64 o.x.1, .int .i64 o.x.2, o.u][j]? = some u → W.cell? ⟨b, off + i * 5 + j, none⟩ = some u) ∧ (Lst W o.u o.l ∨ Od o.u o.l) ∧ o.l.length + 1 ≤ Rows.uptoBulk (D i)) (n := len) (fun i hi => by
      obtain ⟨cs', h1, h2⟩ := hall i (by omega)
      rw [cellsOp5] at h1
      obtain ⟨_, hl3, hc⟩ := World.cells?_some h1
      obtain ⟨o, rfl, h3, h4⟩ := trod_step _ _ _ hl3 h2
      refine ⟨o, fun j u hj => ?_, h3, h4⟩
      have hj5 : j < 5 := by have := (List.getElem?_eq_some_iff.1 hj).1; simpa using this
      have g0 := hc j hj5
      rw [Deep.add_add, addP] at g0
      rw [Nat.add_assoc, g0]
      exact hj)
    refine ⟨(List.range len).map V, ⟨some ⟨b, off, none⟩, cap, by simp, fun i o hi => ?_⟩, ?_⟩
    · have hil : i < len := by have := (List.getElem?_eq_some_iff.1 hi).1; simpa using this
      have ho : V i = o := by simpa [hil] using hi
      obtain ⟨h1, h2, _⟩ := hV i hil
      rw [ho] at h1 h2
      exact ⟨b, off, rfl, hlt, h1 0 _ rfl, h1 1 _ rfl, h1 2 _ rfl, h1 3 _ rfl, h1 4 _ rfl, h2⟩
    · have h1 := tot_bulk V D len (fun i hi => (hV i hi).2.2)
      have h2 : d = _ := congrArg Prod.fst hx
      rw [h2]
      simp only [Rows.uptoBulk]
      omega
end Go.Proofs.Ytbomkeginbhhoaa
