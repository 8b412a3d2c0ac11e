import Derived.Test.YtnpmmodcmfgbjaaGreatRows
import Derived.Test.YtnpmmodcmfgbjaaGreatMInv
import Derived.Test.YtnpmmodcmfgbjaaGreatMTelArgs
namespace Go.Proofs.YtnpmmodcmfgbjaaGreat
open Go.ChangeShapes Go.WideShapes Go.ChangeAt Go.RowKit Go.Joins

theorem bulk_one {H : Type} (d : DataW H) : 1 ≤ Rows.uptoBulk d := by
  cases d with
  | lit l => cases l <;> simp [Rows.uptoBulk]
  | nil => simp [Rows.uptoBulk]
  | ptr d => simp [Rows.uptoBulk]
  | slice elems spare => simp [Rows.uptoBulk]
  | agg parts => simp [Rows.uptoBulk]
  | iface t d => simp [Rows.uptoBulk]
  | map entries => simp [Rows.uptoBulk]
  | held h => simp [Rows.uptoBulk]
theorem bulk_append {H : Type} (a b : List (DataW H)) : Rows.uptoBulkAll (a ++ b) = Rows.uptoBulkAll a + Rows.uptoBulkAll b := by
  induction a with
  | nil => simp [Rows.uptoBulkAll]
  | cons x a ih => simp only [List.cons_append, Rows.uptoBulkAll, ih]; omega
theorem bulk_range {H : Type} (D : Nat → DataW H) (n c : Nat) (h : ∀ i, i < n → c ≤ Rows.uptoBulk (D i)) : n * c ≤ Rows.uptoBulkAll ((List.range n).map D) := by
  induction n with
  | zero => simp
  | succ n ih =>
    rw [List.range_succ, List.map_append, bulk_append]
    have h1 := ih (fun i hi => h i (by omega))
    have h2 := h n (by omega)
    simp only [List.map_cons, List.map_nil, Rows.uptoBulkAll]
    rw [Nat.succ_mul]
    omega
section
variable {H : Type} {enc : TypeId × Value → H} {W : World} {base : Nat} {sp : Nat → Bool} {held : Bool}
theorem bulk_tm (fuel : Nat) (cs : List Value) (y : DataW H × List MemPlace) (h : DataW.trod enc Tryz.prog W base sp held fuel 37 cs = some y) : 4 ≤ Rows.uptoBulk y.1 := by
  obtain ⟨xs, k, hk, hxy, _, hxl, hff⟩ := DataW.trod_struct Tryz.underlying37 h
  match xs, hxl with
  | [y0, y1, y2], _ =>
    rw [hxy]
    have h0 := bulk_one y0.1
    have h1 := bulk_one y1.1
    have h2 := bulk_one y2.1
    simp only [List.map_cons, List.map_nil, Rows.uptoBulk, Rows.uptoBulkAll]
    omega
theorem bulk_dl (fuel : Nat) (cs : List Value) (y : DataW H × List MemPlace) (h : DataW.trod enc Tryz.prog W base sp held fuel 54 cs = some y) : 6 ≤ Rows.uptoBulk y.1 := by
  obtain ⟨xs, k, hk, hxy, _, hxl, hff⟩ := DataW.trod_struct Tryz.underlying54 h
  match xs, hxl with
  | [y0, y1], _ =>
    have k0 : DataW.trod enc Tryz.prog W base sp held k 37 ((cs.drop 0).take (Tryz.prog.cellsOf 37)) = some y0 := hff 0 _ rfl
    rw [hxy]
    have h0 := bulk_tm _ _ _ k0
    have h1 := bulk_one y1.1
    simp only [List.map_cons, List.map_nil, Rows.uptoBulk, Rows.uptoBulkAll]
    omega

set_option maxRecDepth 100000 in
theorem trod_dls (fuel : Nat) (cs : List Value) (y : DataW H × List MemPlace) (h : DataW.trod enc Tryz.prog W base sp held fuel 38 cs = some y) :
    ∃ (v : Value) (ts : List Dl), cs = [v] ∧ Lq W v ts ∧ 6 * ts.length + 1 ≤ Rows.uptoBulk y.1 := by
  rcases Deep.open_slice Tryz.underlying38 h with ⟨hcs, hx⟩ | ⟨a, len, cap, m, n, D, Pl, hcs, hb, hl, hm, hmm, hx, hall⟩
  · exact ⟨_, [], hcs, Or.inl (Or.inl ⟨rfl, rfl⟩), bulk_one _⟩
  · by_cases h0 : len = 0
    · subst h0
      exact ⟨_, [], hcs, Or.inr ⟨rfl, _, _, rfl⟩, bulk_one _⟩
    · have hlm : len ≤ m := by rw [hmm]; split <;> omega
      obtain ⟨cs0, g1, _⟩ := hall 0 (by omega)
      rw [cellsDl] at g1
      obtain ⟨_, hl0, hc0⟩ := World.cells?_some g1
      have g0 := hc0 0 (by decide)
      rw [show (a.add (0 * 4)).add 0 = a by simp [Addr.add]] at g0
      obtain ⟨u0, hu0⟩ : ∃ u, cs0[0]? = some u := ⟨cs0[0]'(by omega), by simp⟩
      obtain ⟨hsp, hlt⟩ := cell_in (g0.trans hu0)
      clear g0 hc0 hl0 g1 hu0
      obtain ⟨b, off, spot⟩ := a
      simp only at hsp hlt
      subst hsp
      obtain ⟨V, hV⟩ := Deep.choose_lt (α := Dl) (p := fun i t => (∀ j u, j < 4 → (ED.enc t)[j]? = some u → W.cell? ⟨b, off + i * 4 + j, none⟩ = some u) ∧ 6 ≤ Rows.uptoBulk (D i)) (n := len) (fun i hi => by
        obtain ⟨cs', h1, h2⟩ := hall i (by omega)
        rw [cellsDl] at h1
        obtain ⟨_, hl3, hc⟩ := World.cells?_some h1
        obtain ⟨x, rfl⟩ := trod_dl _ _ _ hl3 h2
        refine ⟨x, fun j u hj hu => ?_, bulk_dl _ _ _ h2⟩
        have g0 := hc j hj
        rw [Deep.add_add, addA] at g0
        rw [Nat.add_assoc, g0]
        exact hu)
      refine ⟨_, (List.range len).map V, hcs, Or.inl (Or.inr ⟨b, off, cap, by simp, hlt, fun j u hj => ?_⟩), ?_⟩
      · have hjl : j < len * 4 := by
          have := (List.getElem?_eq_some_iff.1 hj).1
          rw [fl_length, List.length_map, List.length_range] at this
          exact this
        have hi : j / 4 < len := by omega
        have hg := fl_get ED ((List.range len).map V) (j / 4) (j % 4) (V (j / 4)) (by simp [hi]) (Nat.mod_lt _ (by decide))
        have hg' : (fl ED ((List.range len).map V))[j]? = (ED.enc (V (j / 4)))[j % 4]? := by
          have e : j / 4 * ED.k + j % 4 = j := by show j / 4 * 4 + j % 4 = j; omega
          rw [e] at hg
          exact hg
        rw [hj] at hg'
        have := (hV (j / 4) hi).1 (j % 4) u (Nat.mod_lt _ (by decide)) hg'.symm
        rwa [show off + j / 4 * 4 + j % 4 = off + j by omega] at this
      · rw [hx]
        have := bulk_range D len 6 (fun i hi => (hV i hi).2)
        simp only [List.length_map, List.length_range, Rows.uptoBulk]
        omega
theorem cellsOp6 : Tryz.prog.cellsOf 40 = 6 := by kernel_rfl
set_option maxRecDepth 100000 in
theorem trod_step (fuel : Nat) (cs : List Value) (y : DataW H × List MemPlace) (hl : cs.length = 6) (h : DataW.trod enc Tryz.prog W base sp held fuel 40 cs = some y) :
    ∃ o : Opm, cs = [.int .i64 o.kind, .int .i64 o.on, .int .u64 o.t.1.1, .int .u64 o.t.1.2.1, .int .u64 o.t.1.2.2, o.u] ∧ Lq W o.u o.l ∧ 6 * (o.l.length + 1) ≤ Rows.uptoBulk y.1 := by
  obtain ⟨xs, k, hk, hxy, _, hxl, hff⟩ := DataW.trod_struct Tryz.underlying40 h
  have hone : Tryz.prog.cellsOf 3 = 1 := by kernel_rfl
  have honeS : Tryz.prog.cellsOf 38 = 1 := by kernel_rfl
  match cs, hl, xs, hxl with
  | [c0, c1, c2, c3, c4, c5], _, [y0, y1, y2, y3], _ =>
    have k0 : DataW.trod enc Tryz.prog W base sp held k 3 (([c0, c1, c2, c3, c4, c5].drop 0).take (Tryz.prog.cellsOf 3)) = some y0 := hff 0 _ rfl
    have k1 : DataW.trod enc Tryz.prog W base sp held k 3 (([c0, c1, c2, c3, c4, c5].drop 1).take (Tryz.prog.cellsOf 3)) = some y1 := hff 1 _ rfl
    have k2 : DataW.trod enc Tryz.prog W base sp held k 37 (([c0, c1, c2, c3, c4, c5].drop 2).take (Tryz.prog.cellsOf 37)) = some y2 := hff 2 _ rfl
    have k3 : DataW.trod enc Tryz.prog W base sp held k 38 (([c0, c1, c2, c3, c4, c5].drop 5).take (Tryz.prog.cellsOf 38)) = some y3 := hff 3 _ rfl
    have b2 := bulk_tm _ _ _ k2
    rw [hone] at k0 k1
    rw [cellsTm] at k2
    rw [honeS] at k3
    obtain ⟨u0, e0, _⟩ := DataW.trod_int Tryz.underlying3 k0
    obtain ⟨u1, e1, _⟩ := DataW.trod_int Tryz.underlying3 k1
    obtain ⟨x, e2⟩ := trod_tm _ _ _ rfl k2
    obtain ⟨v, ts, e3, hv, hb⟩ := trod_dls _ _ _ k3
    have b0 := bulk_one y0.1
    have b1 := bulk_one y1.1
    simp [ET] at e0 e1 e2 e3
    obtain ⟨rfl, rfl, rfl⟩ := e2
    subst e0 e1 e3
    refine ⟨⟨u0, u1, x, _, ts⟩, rfl, hv, ?_⟩
    rw [hxy]
    simp only [List.map_cons, List.map_nil, Rows.uptoBulk, Rows.uptoBulkAll]
    omega
end
instance : Inhabited Opm := ⟨⟨0, 0, default, .slice none 0 0, []⟩⟩
theorem tot_bulk {H : Type} (V : Nat → Opm) (D : Nat → DataW H) (n : Nat) (h : ∀ i, i < n → 6 * ((V i).l.length + 1) ≤ Rows.uptoBulk (D i)) : 6 * tot (((List.range n).map V).map Opm.l) ≤ Rows.uptoBulkAll ((List.range n).map D) := by
  induction n with
  | zero => simp [tot]
  | succ n ih =>
    rw [List.range_succ, List.map_append, List.map_append, List.map_append, tot_append, bulk_append]
    have h1 := ih (fun i hi => h i (by omega))
    have h2 := h n (by omega)
    simp only [List.map_cons, List.map_nil, Rows.uptoBulkAll, tot, List.sum_cons, List.sum_nil]
    simp only [tot] at h1
    omega
set_option maxRecDepth 100000 in
/-- A script that came in. -/
theorem open_script {H : Type} {enc : TypeId × Value → H} {W : World} {r : Reach} {b0 base : Nat} {sp : Nat → Bool} {held : Bool} {v : Value} {d : DataW H} {p : List MemPlace} (hv : Value.okWide Tryz.prog W r b0 22 v) (h : DataW.Trod enc Tryz.prog W base sp held 22 v d p) :
    (∀ x ∈ p, x.block < W.heap.size) ∧ ∃ os : List Opm, ScriptAt W v os ∧ 6 * tot (os.map Opm.l) ≤ Rows.uptoBulk d := by
  obtain ⟨a0, len, cap, rfl⟩ := okWide_slice Tryz.underlying22 hv
  obtain ⟨fuel, hf⟩ := h
  refine ⟨DataW.trod_lt fuel _ _ _ hf, ?_⟩
  rcases Deep.open_slice Tryz.underlying22 hf with ⟨hcs, hx⟩ | ⟨a, len', cap', m, n, D, Pl, hcs, hb, hl, hm, hmm, hx, hall⟩
  · simp [Value.cells] at hcs
    obtain ⟨rfl, rfl, rfl⟩ := hcs
    exact ⟨[], ⟨none, 0, rfl, fun i o hi => by simp at hi⟩, Nat.zero_le _⟩
  · simp [Value.cells] at hcs
    obtain ⟨rfl, rfl, rfl⟩ := hcs
    obtain ⟨hsp, hlt⟩ := has_lt Tryz.underlying22 hv
    obtain ⟨b, off, spot⟩ := a
    simp only at hsp hlt
    subst hsp
    have hlm : len ≤ m := by rw [hmm]; split <;> omega
    obtain ⟨V, hV⟩ := Deep.choose_lt (α := Opm) (p := fun i o => (∀ j u, [Value.int .i64 o.kind, .int .i64 o.on, .int .u64 o.t.1.1, .int .u64 o.t.1.2.1, .int .u64 o.t.1.2.2, o.u][j]? = some u → W.cell? ⟨b, off + i * 6 + j, none⟩ = some u) ∧ Lq W o.u o.l ∧ 6 * (o.l.length + 1) ≤ Rows.uptoBulk (D i)) (n := len) (fun i hi => by
      obtain ⟨cs', h1, h2⟩ := hall i (by omega)
      rw [cellsOp6] at h1
      obtain ⟨_, hl3, hc⟩ := World.cells?_some h1
      obtain ⟨o, rfl, h3, h4⟩ := trod_step _ _ _ hl3 h2
      refine ⟨o, fun j u hj => ?_, h3, h4⟩
      have hj6 : j < 6 := by have := (List.getElem?_eq_some_iff.1 hj).1; simpa using this
      have g0 := hc j hj6
      rw [Deep.add_add, addA] at g0
      rw [Nat.add_assoc, g0]
      exact hj)
    refine ⟨(List.range len).map V, ⟨some ⟨b, off, none⟩, cap, by simp, fun i o hi => ?_⟩, ?_⟩
    · have hil : i < len := by have := (List.getElem?_eq_some_iff.1 hi).1; simpa using this
      have ho : V i = o := by simpa [hil] using hi
      obtain ⟨h1, h2, _⟩ := hV i hil
      rw [ho] at h1 h2
      exact ⟨b, off, rfl, hlt, h1 0 _ rfl, h1 1 _ rfl, h1 2 _ rfl, h1 3 _ rfl, h1 4 _ rfl, h1 5 _ rfl, h2⟩
    · have h1 := tot_bulk V D len (fun i hi => (hV i hi).2.2)
      have h2 : d = _ := congrArg Prod.fst hx
      rw [h2]
      simp only [Rows.uptoBulk]
      omega
end Go.Proofs.YtnpmmodcmfgbjaaGreat
