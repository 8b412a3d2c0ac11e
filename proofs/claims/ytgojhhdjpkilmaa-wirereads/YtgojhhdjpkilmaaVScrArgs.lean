import Derived.Test.YtgojhhdjpkilmaaVOp
import Derived.Test.YtgojhhdjpkilmaaVArgs
namespace Go.Proofs.Ytgojhhdjpkilmaa
open Go.ChangeShapes Go.WideShapes Go.ChangeAt Go.RowKit Go.Joins Wi

theorem bulk_one {H : Type} (d : DataW H) : 1 ≤ Rows.uptoBulk d := by
  cases d with
  | lit l => cases l <;> simp [Rows.uptoBulk]
  | nil => simp [Rows.uptoBulk]
  | ptr d => simp [Rows.uptoBulk]
  | slice elems spare => simp [Rows.uptoBulk]
  | agg parts => simp [Rows.uptoBulk]
  | iface t d => simp [Rows.uptoBulk]
  | map entries => simp [Rows.uptoBulk]
  | held h => simp [Rows.uptoBulk]
theorem bulk_len {H : Type} (l : List (DataW H)) : l.length ≤ Rows.uptoBulkAll l := by
  induction l with
  | nil => simp [Rows.uptoBulkAll]
  | cons x r ih => have := bulk_one x; simp only [Rows.uptoBulkAll, List.length_cons]; omega
theorem bulk_append {H : Type} (a b : List (DataW H)) : Rows.uptoBulkAll (a ++ b) = Rows.uptoBulkAll a + Rows.uptoBulkAll b := by
  induction a with
  | nil => simp [Rows.uptoBulkAll]
  | cons x a ih => simp only [List.cons_append, Rows.uptoBulkAll, ih]; omega
theorem cell_in {W : World} {a : Addr} {u : Value} (h : W.cell? a = some u) : a.spot = none ∧ a.block < W.heap.size := by
  unfold World.cell? at h
  split at h
  · rename_i hh
    refine ⟨?_, (Array.getElem?_eq_some_iff.1 hh).1⟩
    split at h
    · cases h
    · rename_i hs
      simpa using hs
  · cases h
section
variable {H : Type} {enc : TypeId × Value → H} {W : World} {base : Nat} {sp : Nat → Bool} {held : Bool}
set_option maxRecDepth 100000 in
/-- Bytes that lie in a cell of what came in. -/
theorem trod_bs (fuel : Nat) (cs : List Value) (y : DataW H × List MemPlace) (h : DataW.trod enc Try.prog W base sp held fuel 22 cs = some y) :
    ∃ (v : Value) (ts : List UInt8), cs = [v] ∧ Lb W v ts ∧ (∀ p n c, v = .slice p n c → n ≤ c) ∧ ts.length ≤ 9223372036854775807 ∧ ts.length + 1 ≤ Rows.uptoBulk y.1 := by
  rcases Deep.open_slice Try.underlying22 h with ⟨hcs, hx⟩ | ⟨a, len, cap, m, n, D, Pl, hcs, hb, hl, hm, hmm, hx, hall⟩
  · exact ⟨_, [], hcs, Or.inl (Or.inl ⟨rfl, rfl⟩), fun p n c h => by cases h; exact Nat.le_refl _, Nat.zero_le _, bulk_one _⟩
  · have hcp : ∀ p n c, Value.slice (some a) len cap = .slice p n c → n ≤ c := fun p n c h => by cases h; exact hl
    by_cases h0 : len = 0
    · subst h0
      exact ⟨_, [], hcs, Or.inr ⟨rfl, _, _, rfl⟩, hcp, Nat.zero_le _, bulk_one _⟩
    · have hlm : len ≤ m := by rw [hmm]; split <;> omega
      have hml : len ≤ 9223372036854775807 := by unfold maxLen at hm; omega
      obtain ⟨cs0, g1, _⟩ := hall 0 (by omega)
      rw [cellsB] at g1
      obtain ⟨_, hl0, hc0⟩ := World.cells?_some g1
      have g0 := hc0 0 (by decide)
      rw [show (a.add (0 * 1)).add 0 = a by simp [Addr.add]] at g0
      obtain ⟨u0, hu0⟩ : ∃ u, cs0[0]? = some u := ⟨cs0[0]'(by omega), by simp⟩
      obtain ⟨hsp, hlt⟩ := cell_in (g0.trans hu0)
      clear g0 hc0 hl0 g1 hu0
      obtain ⟨b, off, spot⟩ := a
      simp only at hsp hlt
      subst hsp
      obtain ⟨V, hV⟩ := Deep.choose_lt (α := UInt8) (p := fun i t => W.cell? ⟨b, off + i, none⟩ = some (bv t)) (n := len) (fun i hi => by
        obtain ⟨cs', h1, h2⟩ := hall i (by omega)
        rw [cellsB] at h1
        obtain ⟨_, hl3, hc⟩ := World.cells?_some h1
        obtain ⟨x, rfl⟩ := trod_b _ _ _ hl3 h2
        refine ⟨x, ?_⟩
        have g0 := hc 0 (by decide)
        rw [Deep.add_add, addA, Nat.mul_one, Nat.add_zero] at g0
        rw [g0]
        rfl)
      refine ⟨_, (List.range len).map V, hcs, Or.inl (Or.inr ⟨b, off, cap, by simp, hlt, fun j u hj => ?_⟩), hcp, by rw [List.length_map, List.length_range]; exact hml, ?_⟩
      · have hjl : j < len := by
          have := (List.getElem?_eq_some_iff.1 hj).1
          rw [fl_length, List.length_map, List.length_range] at this
          simpa [EB] using this
        have hg := fl_eb ((List.range len).map V) j (V j) (by simp [hjl])
        rw [hj] at hg
        rw [hV j hjl]
        exact hg.symm
      · rw [hx]
        have := bulk_len ((List.range len).map D)
        simp only [List.length_map, List.length_range] at this ⊢
        simp only [Rows.uptoBulk]
        omega
theorem cellsOp5 : Try.prog.cellsOf 47 = 5 := by kernel_rfl
set_option maxRecDepth 100000 in
theorem trod_step (fuel : Nat) (cs : List Value) (y : DataW H × List MemPlace) (hl : cs.length = 5) (h : DataW.trod enc Try.prog W base sp held fuel 47 cs = some y) :
    ∃ o : Opw, cs = [.int .i64 o.kind, .bool o.two, .int .u64 (o.v : Nat), .int .i64 o.n, o.u] ∧ OkOp W o ∧ o.l.length + 6 ≤ Rows.uptoBulk y.1 := by
  obtain ⟨xs, k, hk, hxy, _, hxl, hff⟩ := DataW.trod_struct Try.underlying47 h
  have h1i : Try.prog.cellsOf 3 = 1 := by kernel_rfl
  have h1b : Try.prog.cellsOf 4 = 1 := by kernel_rfl
  have h1u : Try.prog.cellsOf 23 = 1 := by kernel_rfl
  have h1n : Try.prog.cellsOf 2 = 1 := by kernel_rfl
  have h1s : Try.prog.cellsOf 22 = 1 := by kernel_rfl
  match cs, hl, xs, hxl with
  | [c0, c1, c2, c3, c4], _, [y0, y1, y2, y3, y4], _ =>
    have k0 : DataW.trod enc Try.prog W base sp held k 3 (([c0, c1, c2, c3, c4].drop 0).take (Try.prog.cellsOf 3)) = some y0 := hff 0 _ rfl
    have k1 : DataW.trod enc Try.prog W base sp held k 4 (([c0, c1, c2, c3, c4].drop 1).take (Try.prog.cellsOf 4)) = some y1 := hff 1 _ rfl
    have k2 : DataW.trod enc Try.prog W base sp held k 23 (([c0, c1, c2, c3, c4].drop 2).take (Try.prog.cellsOf 23)) = some y2 := hff 2 _ rfl
    have k3 : DataW.trod enc Try.prog W base sp held k 2 (([c0, c1, c2, c3, c4].drop 3).take (Try.prog.cellsOf 2)) = some y3 := hff 3 _ rfl
    have k4 : DataW.trod enc Try.prog W base sp held k 22 (([c0, c1, c2, c3, c4].drop 4).take (Try.prog.cellsOf 22)) = some y4 := hff 4 _ rfl
    rw [h1i] at k0
    rw [h1b] at k1
    rw [h1u] at k2
    rw [h1n] at k3
    rw [h1s] at k4
    obtain ⟨u0, e0, _⟩ := DataW.trod_int Try.underlying3 k0
    obtain ⟨u1, e1, _⟩ := DataW.trod_bool Try.underlying4 k1
    obtain ⟨u2, e2, _, w2⟩ := DataW.trod_int Try.underlying23 k2
    obtain ⟨u3, e3, _, w3⟩ := DataW.trod_int Try.underlying2 k3
    obtain ⟨v, ts, e4, hv, hcap, hml, hb⟩ := trod_bs _ _ _ k4
    simp at e0 e1 e2 e3 e4
    subst e0 e1 e2 e3 e4
    have b2 := u64_bd w2
    have b3 := i64_bd w3
    refine ⟨⟨u0, u1, u2.toNat, u3, _, ts⟩, ?_, ⟨hv, hcap, ?_, b3.1, b3.2, hml⟩, ?_⟩
    · simp only [Int.toNat_of_nonneg b2.1]
    · show u2.toNat < 18446744073709551616
      omega
    · rw [hxy]
      have g0 := bulk_one y0.1
      have g1 := bulk_one y1.1
      have g2 := bulk_one y2.1
      have g3 := bulk_one y3.1
      simp only [List.map_cons, List.map_nil, Rows.uptoBulk, Rows.uptoBulkAll]
      omega
end
instance : Inhabited Opw := ⟨⟨0, false, 0, 0, .slice none 0 0, []⟩⟩
theorem sum_bulk {H : Type} (V : Nat → Opw) (D : Nat → DataW H) (n : Nat) (h : ∀ i, i < n → (V i).l.length + 6 ≤ Rows.uptoBulk (D i)) : (((List.range n).map V).map (fun o => 10 + o.l.length)).sum ≤ 2 * Rows.uptoBulkAll ((List.range n).map D) := by
  induction n with
  | zero => simp
  | succ n ih =>
    rw [List.range_succ, List.map_append, List.map_append, List.map_append, bulk_append, List.sum_append]
    have h1 := ih (fun i hi => h i (by omega))
    have h2 := h n (by omega)
    simp only [List.map_cons, List.map_nil, Rows.uptoBulkAll, List.sum_cons, List.sum_nil]
    omega
set_option maxRecDepth 100000 in
/-- A script that came in. -/
theorem open_script {H : Type} {enc : TypeId × Value → H} {W : World} {r : Reach} {b0 base : Nat} {sp : Nat → Bool} {held : Bool} {v : Value} {d : DataW H} {p : List MemPlace} (hv : Value.okWide Try.prog W r b0 41 v) (h : DataW.Trod enc Try.prog W base sp held 41 v d p) :
    (∀ x ∈ p, x.block < W.heap.size) ∧ ∃ os : List Opw, ScrAt W v os ∧ ((d = .nil ∧ os = []) ∨ ∃ elems spare, d = .slice elems spare ∧ elems.length = os.length) ∧ (os.map (fun o => 10 + o.l.length)).sum ≤ 2 * Rows.uptoBulk d ∧ os.length ≤ Rows.uptoBulk d := by
  obtain ⟨a0, len, cap, rfl⟩ := okWide_slice Try.underlying41 hv
  obtain ⟨fuel, hf⟩ := h
  refine ⟨DataW.trod_lt fuel _ _ _ hf, ?_⟩
  rcases Deep.open_slice Try.underlying41 hf with ⟨hcs, hx⟩ | ⟨a, len', cap', m, n, D, Pl, hcs, hb, hl, hm, hmm, hx, hall⟩
  · simp [Value.cells] at hcs
    obtain ⟨rfl, rfl, rfl⟩ := hcs
    exact ⟨[], ⟨none, 0, rfl, fun i o hi => by simp at hi⟩, Or.inl ⟨congrArg Prod.fst hx, rfl⟩, Nat.zero_le _, Nat.zero_le _⟩
  · simp [Value.cells] at hcs
    obtain ⟨rfl, rfl, rfl⟩ := hcs
    obtain ⟨hsp, hlt⟩ := has_lt Try.underlying41 hv
    obtain ⟨b, off, spot⟩ := a
    simp only at hsp hlt
    subst hsp
    have hlm : len ≤ m := by rw [hmm]; split <;> omega
    obtain ⟨V, hV⟩ := Deep.choose_lt (α := Opw) (p := fun i o => (∀ j u, [Value.int .i64 o.kind, .bool o.two, .int .u64 (o.v : Nat), .int .i64 o.n, o.u][j]? = some u → W.cell? ⟨b, off + i * 5 + j, none⟩ = some u) ∧ OkOp W o ∧ o.l.length + 6 ≤ Rows.uptoBulk (D i)) (n := len) (fun i hi => by
      obtain ⟨cs', h1, h2⟩ := hall i (by omega)
      rw [cellsOp5] at h1
      obtain ⟨_, hl3, hc⟩ := World.cells?_some h1
      obtain ⟨o, rfl, h3, h4⟩ := trod_step _ _ _ hl3 h2
      refine ⟨o, fun j u hj => ?_, h3, h4⟩
      have hj5 : j < 5 := by have := (List.getElem?_eq_some_iff.1 hj).1; simpa using this
      have g0 := hc j hj5
      rw [Deep.add_add, addA] at g0
      rw [Nat.add_assoc, g0]
      exact hj)
    have hd : d = .slice ((List.range len).map D) ((List.range (m - len)).map fun j => D (len + j)) := congrArg Prod.fst hx
    refine ⟨(List.range len).map V, ⟨some ⟨b, off, none⟩, cap, by simp, fun i o hi => ?_⟩, Or.inr ⟨_, _, hd, by simp⟩, ?_, ?_⟩
    · have hil : i < len := by have := (List.getElem?_eq_some_iff.1 hi).1; simpa using this
      have ho : V i = o := by simpa [hil] using hi
      obtain ⟨h1, h2, _⟩ := hV i hil
      rw [ho] at h1 h2
      exact ⟨h2, b, off, rfl, hlt, h1 0 _ rfl, h1 1 _ rfl, h1 2 _ rfl, h1 3 _ rfl, h1 4 _ rfl⟩
    · have := sum_bulk V D len (fun i hi => (hV i hi).2.2)
      rw [hd]
      simp only [Rows.uptoBulk]
      omega
    · have := bulk_len ((List.range len).map D)
      rw [hd]
      simp only [Rows.uptoBulk, List.length_map, List.length_range] at *
      omega
end Go.Proofs.Ytgojhhdjpkilmaa
