import Derived.Test.YtghpekkncfckaaaRows
import Derived.Test.YtghpekkncfckaaaCaArgs
import Derived.Test.YtghpekkncfckaaaCaScp0
namespace Go.Proofs.Ytghpekkncfckaaa
open Go.ChangeShapes Go.WideShapes Go.ChangeAt Go.RowKit Go.Joins

theorem bulk_one {H : Type} (d : DataW H) : 1 ≤ Rows.uptoBulk d := by
  cases d with
  | lit l => cases l <;> simp [Rows.uptoBulk]
  | nil => simp [Rows.uptoBulk]
  | ptr d => simp [Rows.uptoBulk]
  | slice elems spare => simp [Rows.uptoBulk]
  | agg parts => simp [Rows.uptoBulk]
  | iface t d => simp [Rows.uptoBulk]
  | map entries => simp [Rows.uptoBulk]
  | held h => simp [Rows.uptoBulk]
theorem bulk_append {H : Type} (a b : List (DataW H)) : Rows.uptoBulkAll (a ++ b) = Rows.uptoBulkAll a + Rows.uptoBulkAll b := by
  induction a with
  | nil => simp [Rows.uptoBulkAll]
  | cons x a ih => simp only [List.cons_append, Rows.uptoBulkAll, ih]; omega
theorem bulk_len {H : Type} (l : List (DataW H)) : l.length ≤ Rows.uptoBulkAll l := by
  induction l with
  | nil => simp
  | cons x l ih => simp only [List.length_cons, Rows.uptoBulkAll]; have := bulk_one x; omega
theorem bulk_mem {H : Type} {l : List (DataW H)} {x : DataW H} (h : x ∈ l) : Rows.uptoBulk x ≤ Rows.uptoBulkAll l := by
  induction l with
  | nil => cases h
  | cons y l ih =>
    simp only [Rows.uptoBulkAll]
    rcases List.mem_cons.1 h with rfl | h
    · omega
    · have := ih h; omega
theorem cell_in {W : World} {a : Addr} {u : Value} (h : W.cell? a = some u) : a.spot = none ∧ a.block < W.heap.size := by
  unfold World.cell? at h
  split at h
  · rename_i hh
    refine ⟨?_, (Array.getElem?_eq_some_iff.1 hh).1⟩
    split at h
    · cases h
    · rename_i hs
      simpa using hs
  · cases h
/-- A slice that lies in a cell of what came in, of any elements, with its bulk. -/
theorem trod_listB {P : Program} {α : Type} [Inhabited α] (E : El α) {sT eT : TypeId} (hu : P.underlying sT = some (.slice eT)) (hc : P.cellsOf eT = E.k) (hk : 0 < E.k)
    {H : Type} {enc : TypeId × Value → H} {W : World} {base : Nat} {sp : Nat → Bool} {held : Bool}
    (hel : ∀ fuel cs y, cs.length = E.k → DataW.trod enc P W base sp held fuel eT cs = some y → ∃ x, cs = E.enc x)
    (fuel : Nat) (cs : List Value) (y : DataW H × List MemPlace) (h : DataW.trod enc P W base sp held fuel sT cs = some y) :
    ∃ (q : Option Addr) (c : Nat) (ts : List α), cs = [.slice q ts.length c] ∧ Ca.Lw E W (.slice q ts.length c) ts ∧ ts.length + 1 ≤ Rows.uptoBulk y.1 := by
  rcases Deep.open_slice hu h with ⟨hcs, hx⟩ | ⟨a, len, cap, m, n, D, Pl, hcs, hb, hl, hm, hmm, hx, hall⟩
  · exact ⟨none, 0, [], hcs, Or.inl (Ls.nil _), bulk_one _⟩
  · have hlm : len ≤ m := by rw [hmm]; split <;> omega
    have hsz : len + 1 ≤ Rows.uptoBulk y.1 := by
      rw [hx]
      have h1 := bulk_len ((List.range len).map D)
      simp only [List.length_map, List.length_range] at h1
      simp only [Rows.uptoBulk]
      omega
    by_cases h0 : len = 0
    · subst h0
      exact ⟨some a, cap, [], hcs, Or.inr ⟨rfl, _, _, rfl⟩, bulk_one _⟩
    · obtain ⟨cs0, g1, _⟩ := hall 0 (by omega)
      rw [hc] at g1
      obtain ⟨_, hl0, hc0⟩ := World.cells?_some g1
      have g0 := hc0 0 hk
      rw [show (a.add (0 * E.k)).add 0 = a by simp [Addr.add]] at g0
      obtain ⟨u0, hu0⟩ : ∃ u, cs0[0]? = some u := ⟨cs0[0]'(by omega), by simp⟩
      obtain ⟨hsp, hlt⟩ := cell_in (g0.trans hu0)
      clear g0 hc0 hl0 g1 hu0
      obtain ⟨b, off, spot⟩ := a
      simp only at hsp hlt
      subst hsp
      obtain ⟨V, hV⟩ := Deep.choose_lt (α := α) (p := fun i t => ∀ j u, j < E.k → (E.enc t)[j]? = some u → W.cell? ⟨b, off + i * E.k + j, none⟩ = some u) (n := len) (fun i hi => by
        obtain ⟨cs', h1, h2⟩ := hall i (by omega)
        rw [hc] at h1
        obtain ⟨_, hl3, hc'⟩ := World.cells?_some h1
        obtain ⟨x, rfl⟩ := hel _ _ _ hl3 h2
        refine ⟨x, fun j u hj hu' => ?_⟩
        have g0 := hc' j hj
        rw [Deep.add_add, addA] at g0
        rw [← Nat.add_assoc] at g0
        rw [g0]
        exact hu')
      refine ⟨some ⟨b, off, none⟩, cap, (List.range len).map V, by simpa using hcs, Or.inl (Or.inr ⟨b, off, cap, by simp, hlt, fun j u hj => ?_⟩), by simpa using hsz⟩
      have hjl : j < len * E.k := by
        have := (List.getElem?_eq_some_iff.1 hj).1
        rw [fl_length] at this
        simpa using this
      have hi : j / E.k < len := (Nat.div_lt_iff_lt_mul hk).2 hjl
      have hg := fl_get E ((List.range len).map V) (j / E.k) (j % E.k) (V (j / E.k)) (by simp [hi]) (Nat.mod_lt _ hk)
      rw [Nat.div_add_mod', hj] at hg
      have := hV (j / E.k) hi (j % E.k) u (Nat.mod_lt _ hk) hg.symm
      rwa [Nat.add_assoc, Nat.div_add_mod'] at this
theorem c1i : Try.prog.cellsOf 3 = 1 := by kernel_rfl
theorem c1u : Try.prog.cellsOf 23 = 1 := by kernel_rfl
theorem c1c : Try.prog.cellsOf 22 = 1 := by kernel_rfl
theorem c1s : Try.prog.cellsOf 26 = 1 := by kernel_rfl
theorem c8o : Try.prog.cellsOf 58 = 8 := by kernel_rfl
/-- What is known of a step. -/
def Okx (W : World) (o : Ca.Opx) : Prop := Ca.Lw Ca.EC W (.slice o.pl o.l.length o.cl) o.l ∧ Ca.Lw Ca.ET W (.slice o.pf o.f.length o.cf) o.f
set_option maxRecDepth 100000 in
theorem trod_opx {H : Type} {enc : TypeId × Value → H} {W : World} {base : Nat} {sp : Nat → Bool} {held : Bool} (fuel : Nat) (cs : List Value) (y : DataW H × List MemPlace) (hl : cs.length = 8) (h : DataW.trod enc Try.prog W base sp held fuel 58 cs = some y) :
    ∃ o : Ca.Opx, cs = Ca.EO.enc o ∧ Okx W o ∧ o.l.length + o.f.length + 1 ≤ Rows.uptoBulk y.1 := by
  obtain ⟨xs, k, hk, hxy, _, hxl, hff⟩ := DataW.trod_struct Try.underlying58 h
  match cs, hl, xs, hxl with
  | [c0, c1, c2, c3, c4, c5, c6, c7], _, [y0, y1, y2, y3, y4, y5], _ =>
    have k0 : DataW.trod enc Try.prog W base sp held k 3 (([c0, c1, c2, c3, c4, c5, c6, c7].drop 0).take (Try.prog.cellsOf 3)) = some y0 := hff 0 _ rfl
    have k1 : DataW.trod enc Try.prog W base sp held k 3 (([c0, c1, c2, c3, c4, c5, c6, c7].drop 1).take (Try.prog.cellsOf 3)) = some y1 := hff 1 _ rfl
    have k2 : DataW.trod enc Try.prog W base sp held k 22 (([c0, c1, c2, c3, c4, c5, c6, c7].drop 2).take (Try.prog.cellsOf 22)) = some y2 := hff 2 _ rfl
    have k3 : DataW.trod enc Try.prog W base sp held k 25 (([c0, c1, c2, c3, c4, c5, c6, c7].drop 3).take (Try.prog.cellsOf 25)) = some y3 := hff 3 _ rfl
    have k4 : DataW.trod enc Try.prog W base sp held k 26 (([c0, c1, c2, c3, c4, c5, c6, c7].drop 6).take (Try.prog.cellsOf 26)) = some y4 := hff 4 _ rfl
    have k5 : DataW.trod enc Try.prog W base sp held k 23 (([c0, c1, c2, c3, c4, c5, c6, c7].drop 7).take (Try.prog.cellsOf 23)) = some y5 := hff 5 _ rfl
    rw [c1i] at k0 k1
    rw [c1c] at k2
    rw [cellsTm] at k3
    rw [c1s] at k4
    rw [c1u] at k5
    obtain ⟨u0, e0, _⟩ := DataW.trod_int Try.underlying3 k0
    obtain ⟨u1, e1, _⟩ := DataW.trod_int Try.underlying3 k1
    obtain ⟨q2, d2, l2, e2, z2, s2⟩ := trod_listB Ca.EC Try.underlying22 cellsCt (by decide) (fun fuel cs y hl h => trod_ct fuel cs y hl h) _ _ _ k2
    obtain ⟨x, hx⟩ := trod_t3 k _ _ rfl k3
    obtain ⟨q4, d4, l4, e4, z4, s4⟩ := trod_listB Ca.ET Try.underlying26 cellsTm (by decide) (fun fuel cs y hl h => trod_t3 fuel cs y hl h) _ _ _ k4
    obtain ⟨u5, e5, _⟩ := DataW.trod_int Try.underlying23 k5
    simp at e0 e1 e2 e4 e5
    simp [Ca.ET] at hx
    subst e0 e1 e2 e4 e5
    obtain ⟨rfl, rfl, rfl⟩ := hx
    refine ⟨⟨u0, u1, l2, q2, d2, x, l4, q4, d4, u5⟩, rfl, ⟨z2, z4⟩, ?_⟩
    rw [hxy]
    simp only [List.map_cons, List.map_nil, Rows.uptoBulk, Rows.uptoBulkAll]
    omega
theorem tot_bulk {H : Type} (V : Nat → Ca.Opx) (D : Nat → DataW H) (n : Nat) (h : ∀ i, i < n → (V i).l.length + (V i).f.length + 1 ≤ Rows.uptoBulk (D i)) : Ca.tot ((List.range n).map V) ≤ Rows.uptoBulkAll ((List.range n).map D) := by
  induction n with
  | zero => simp [Ca.tot]
  | succ n ih =>
    have h1 := ih (fun i hi => h i (by omega))
    have h2 := h n (by omega)
    unfold Ca.tot at h1 ⊢
    rw [List.range_succ, List.map_append, List.map_append, List.map_append, bulk_append, List.sum_append]
    simp only [List.map_cons, List.map_nil, Rows.uptoBulkAll, List.sum_cons, List.sum_nil]
    omega
set_option maxRecDepth 100000 in
/-- A script that came in. -/
theorem open_script {H : Type} {enc : TypeId × Value → H} {W : World} {r : Reach} {b0 base : Nat} {sp : Nat → Bool} {held : Bool} {v : Value} {d : DataW H} {p : List MemPlace} (hv : Value.okWide Try.prog W r b0 50 v) (h : DataW.Trod enc Try.prog W base sp held 50 v d p) :
    (∀ x ∈ p, x.block < W.heap.size) ∧ ∃ sc : List Ca.Opx, Ls Ca.EO W v sc ∧ (∀ o ∈ sc, Okx W o ∧ o.f.length ≤ Rows.uptoBulk d) ∧ sc.length ≤ Rows.uptoBulk d ∧ Ca.tot sc ≤ Rows.uptoBulk d := by
  obtain ⟨a0, len, cap, rfl⟩ := okWide_slice Try.underlying50 hv
  obtain ⟨fuel, hf⟩ := h
  refine ⟨DataW.trod_lt fuel _ _ _ hf, ?_⟩
  rcases Deep.open_slice Try.underlying50 hf with ⟨hcs, hx⟩ | ⟨a, len', cap', m, n, D, Pl, hcs, hb, hl, hm, hmm, hx, hall⟩
  · simp [Value.cells] at hcs
    obtain ⟨rfl, rfl, rfl⟩ := hcs
    exact ⟨[], Or.inl ⟨rfl, rfl⟩, fun o ho => absurd ho List.not_mem_nil, Nat.zero_le _, Nat.zero_le _⟩
  · simp [Value.cells] at hcs
    obtain ⟨rfl, rfl, rfl⟩ := hcs
    obtain ⟨hsp, hlt⟩ := has_lt Try.underlying50 hv
    obtain ⟨b, off, spot⟩ := a
    simp only at hsp hlt
    subst hsp
    have hlm : len ≤ m := by rw [hmm]; split <;> omega
    obtain ⟨V, hV⟩ := Deep.choose_lt (α := Ca.Opx) (p := fun i o => (∀ j u, j < 8 → (Ca.EO.enc o)[j]? = some u → W.cell? ⟨b, off + i * 8 + j, none⟩ = some u) ∧ Okx W o ∧ o.l.length + o.f.length + 1 ≤ Rows.uptoBulk (D i)) (n := len) (fun i hi => by
      obtain ⟨cs', h1, h2⟩ := hall i (by omega)
      rw [c8o] at h1
      obtain ⟨_, hl3, hc'⟩ := World.cells?_some h1
      obtain ⟨x, rfl, h3, h4⟩ := trod_opx _ _ _ hl3 h2
      refine ⟨x, fun j u hj hu' => ?_, h3, h4⟩
      have g0 := hc' j hj
      rw [Deep.add_add, addA] at g0
      rw [Nat.add_assoc, g0]
      exact hu')
    have hd : d = _ := congrArg Prod.fst hx
    have hbk : Rows.uptoBulkAll ((List.range len).map D) ≤ Rows.uptoBulk d := by
      rw [hd]
      simp only [Rows.uptoBulk]
      omega
    refine ⟨(List.range len).map V, Or.inr ⟨b, off, cap, by simp, hlt, fun j u hj => ?_⟩, fun o ho => ?_, ?_, Nat.le_trans (tot_bulk V D len (fun i hi => (hV i hi).2.2)) hbk⟩
    · have hjl : j < len * 8 := by
        have := (List.getElem?_eq_some_iff.1 hj).1
        rw [fl_length, List.length_map, List.length_range] at this
        exact this
      have hi : j / 8 < len := by omega
      have hg := fl_get Ca.EO ((List.range len).map V) (j / 8) (j % 8) (V (j / 8)) (by simp [hi]) (Nat.mod_lt _ (by decide))
      have e : j / 8 * Ca.EO.k + j % 8 = j := by show j / 8 * 8 + j % 8 = j; omega
      rw [e, hj] at hg
      have := (hV (j / 8) hi).1 (j % 8) u (Nat.mod_lt _ (by decide)) hg.symm
      rwa [show off + j / 8 * 8 + j % 8 = off + j by omega] at this
    · obtain ⟨i, hi, rfl⟩ := List.mem_map.1 ho
      have h1 := hV i (List.mem_range.1 hi)
      have h2 := bulk_mem (List.mem_map.2 ⟨i, hi, rfl⟩ : D i ∈ (List.range len).map D)
      exact ⟨h1.2.1, by have := h1.2.2; omega⟩
    · have h1 := bulk_len ((List.range len).map D)
      simp only [List.length_map, List.length_range] at h1 ⊢
      omega
end Go.Proofs.Ytghpekkncfckaaa
