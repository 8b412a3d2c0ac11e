import Derived.Test.YthekfbillnpkkaaCoArgs
import Derived.Test.YthekfbillnpkkaaCoSay0
namespace Go.Proofs.Ythekfbillnpkkaa.Cd
open Go.ChangeShapes Go.WideShapes Go.ChangeAt Go.RowKit Go.Joins

theorem cell_in {W : World} {a : Addr} {u : Value} (h : W.cell? a = some u) : a.spot = none ∧ a.block < W.heap.size := by
  unfold World.cell? at h
  split at h
  · rename_i hh
    refine ⟨?_, (Array.getElem?_eq_some_iff.1 hh).1⟩
    split at h
    · cases h
    · rename_i hs
      simpa using hs
  · cases h
theorem weights_all {H : Type} {P : Program} {e : TypeId} {l : List (DataW H)} {d : DataW H} (hd : d ∈ l) {n : Nat} (hn : n ∈ d.weights P e) : n ∈ DataW.weightsAll P e l := by
  induction l with
  | nil => cases hd
  | cons x l ih =>
    simp only [DataW.weightsAll, List.mem_append]
    rcases List.mem_cons.1 hd with rfl | hd
    · exact Or.inl hn
    · exact Or.inr (ih hd)
/-- No list in it is longer than memory bears. -/
def Wt {H : Type} (P : Program) (t : TypeId) (d : DataW H) : Prop := ∀ n ∈ d.weights P t, n ≤ reachBytes
/-- A slice that lies in a cell of what came in, of any elements. -/
theorem trod_list {P : Program} {α : Type} [Inhabited α] (E : El α) (Pr : α → Prop) {sT eT : TypeId} (hu : P.underlying sT = some (.slice eT)) (hc : P.cellsOf eT = E.k) (hk : 0 < E.k)
    {H : Type} {enc : TypeId × Value → H} {W : World} {base : Nat} {sp : Nat → Bool} {held : Bool}
    (hel : ∀ fuel cs y, cs.length = E.k → DataW.trod enc P W base sp held fuel eT cs = some y → Wt P eT y.1 → ∃ x, cs = E.enc x ∧ Pr x)
    (fuel : Nat) (cs : List Value) (y : DataW H × List MemPlace) (h : DataW.trod enc P W base sp held fuel sT cs = some y) (hw : Wt P sT y.1) :
    ∃ (q : Option Addr) (c : Nat) (ts : List α), cs = [.slice q ts.length c] ∧ Lz E W.heap.size W (.slice q ts.length c) ts ∧ (∀ x ∈ ts, Pr x) ∧ ts.length * P.bytesOf eT ≤ reachBytes := by
  rcases Deep.open_slice hu h with ⟨hcs, hx⟩ | ⟨a, len, cap, m, n, D, Pl, hcs, hb, hl, hm, hmm, hx, hall⟩
  · exact ⟨none, 0, [], hcs, Lz.nil _ _ _, fun _ h => (by cases h), by simp⟩
  · have hlm : len ≤ m := by rw [hmm]; split <;> omega
    have hws : Wt P sT (.slice ((List.range len).map D) ((List.range (m - len)).map fun j => D (len + j))) := by rw [hx] at hw; exact hw
    have hsz : len * P.bytesOf eT ≤ reachBytes := by
      have h1 := hws (((List.range len).map D).length * P.bytesOf eT + ((List.range (m - len)).map fun j => D (len + j)).length * P.bytesOf eT) (by simp [DataW.weights, hu, Nat.add_mul])
      simp only [List.length_map, List.length_range] at h1
      omega
    by_cases h0 : len = 0
    · subst h0
      exact ⟨some a, cap, [], hcs, Or.inr ⟨rfl, _, _, rfl⟩, fun _ h => (by cases h), by simp⟩
    · obtain ⟨cs0, g1, _⟩ := hall 0 (by omega)
      rw [hc] at g1
      obtain ⟨_, hl0, hc0⟩ := World.cells?_some g1
      have g0 := hc0 0 hk
      rw [show (a.add (0 * E.k)).add 0 = a by simp [Addr.add]] at g0
      obtain ⟨u0, hu0⟩ : ∃ u, cs0[0]? = some u := ⟨cs0[0]'(by omega), by simp⟩
      obtain ⟨hsp, hlt⟩ := cell_in (g0.trans hu0)
      clear g0 hc0 hl0 g1 hu0
      obtain ⟨b, off, spot⟩ := a
      simp only at hsp hlt
      subst hsp
      obtain ⟨V, hV⟩ := Deep.choose_lt (α := α) (p := fun i t => (∀ j u, j < E.k → (E.enc t)[j]? = some u → W.cell? ⟨b, off + i * E.k + j, none⟩ = some u) ∧ Pr t) (n := len) (fun i hi => by
        obtain ⟨cs', h1, h2⟩ := hall i (by omega)
        rw [hc] at h1
        obtain ⟨_, hl3, hc'⟩ := World.cells?_some h1
        have hwi : Wt P eT (D i) := fun n hn => hws n (by
          simp only [DataW.weights, hu, List.mem_cons, List.mem_append]
          exact Or.inr (Or.inl (weights_all (List.mem_map.2 ⟨i, List.mem_range.2 hi, rfl⟩) hn)))
        obtain ⟨x, rfl, hPr⟩ := hel _ _ _ hl3 h2 hwi
        refine ⟨x, fun j u hj hu' => ?_, hPr⟩
        have g0 := hc' j hj
        rw [Deep.add_add, addA] at g0
        rw [← Nat.add_assoc] at g0
        rw [g0]
        exact hu')
      refine ⟨some ⟨b, off, none⟩, cap, (List.range len).map V, by simpa using hcs, Or.inl ⟨Or.inr ⟨b, off, cap, rfl, hlt, fun j u hj => ?_⟩, fun k hk => ?_⟩, fun x hx => ?_, by simpa using hsz⟩
      · have hjl : j < len * E.k := by
          have := (List.getElem?_eq_some_iff.1 hj).1
          rw [fl_length] at this
          simpa using this
        have hi : j / E.k < len := (Nat.div_lt_iff_lt_mul hk).2 hjl
        have hg := fl_get E ((List.range len).map V) (j / E.k) (j % E.k) (V (j / E.k)) (by simp [hi]) (Nat.mod_lt _ hk)
        rw [Nat.div_add_mod', hj] at hg
        have := (hV (j / E.k) hi).1 (j % E.k) u (Nat.mod_lt _ hk) hg.symm
        rwa [Nat.add_assoc, Nat.div_add_mod'] at this
      · simp [Value.ownBlock] at hk
        omega
      · obtain ⟨i, hi, rfl⟩ := List.mem_map.1 hx
        exact (hV i (List.mem_range.1 hi)).2

theorem trod_op2 {H : Type} {enc : TypeId × Value → H} {W : World} {base : Nat} {sp : Nat → Bool} {held : Bool} (fuel : Nat) (cs : List Value) (y : DataW H × List MemPlace) (hl : cs.length = 2) (h : DataW.trod enc Try.prog W base sp held fuel 35 cs = some y) : ∃ x : Op2, cs = EO.enc x ∧ Ook x := by
  obtain ⟨x, hx⟩ := trod_op fuel cs y hl h
  exact ⟨x.1, hx, x.2⟩
set_option maxRecDepth 100000 in
theorem open_case {H : Type} {enc : TypeId × Value → H} {W : World} {r : Reach} {b0 base : Nat} {sp : Nat → Bool} {held : Bool} {v : Value} {d : DataW H} {p : List MemPlace} (hv : Value.okWide Try.prog W r b0 39 v) (h : DataW.Trod enc Try.prog W base sp held 39 v d p) (hw : Wt Try.prog 39 d) :
    (∀ x ∈ p, x.block < W.heap.size) ∧ ∃ (k : Int) (vl vt : Value) (l tl : List Op2) (x : Rc), v = .agg #[.int .i64 k, vl, vt, .int .u64 x.key, .int .u64 x.val] ∧ (∀ o ∈ l, Ook o) ∧ (∀ o ∈ tl, Ook o) ∧ Rok x ∧ Lz EO W.heap.size W vl l ∧ Lz EO W.heap.size W vt tl ∧ l.length * 16 ≤ 140737488351232 ∧ tl.length * 16 ≤ 140737488351232 := by
  obtain ⟨cs, rfl, hsz⟩ := okWide_struct Try.underlying39 hv
  obtain ⟨fuel, hf⟩ := h
  refine ⟨DataW.trod_lt fuel _ _ _ hf, ?_⟩
  obtain ⟨cs⟩ := cs
  have hl : cs.length = 5 := by
    have : (cs.toArray).size = 5 := hsz.trans (by kernel_rfl)
    simpa using this
  have hf : DataW.trod enc Try.prog W base sp held fuel 39 cs = some (d, p) := by simpa [Value.cells] using hf
  obtain ⟨xs, k, _, hxy, _, hxl, hff⟩ := DataW.trod_struct Try.underlying39 hf
  have c1i : Try.prog.cellsOf 3 = 1 := by kernel_rfl
  have c1o : Try.prog.cellsOf 22 = 1 := by kernel_rfl
  have c2r : Try.prog.cellsOf 25 = 2 := by kernel_rfl
  match cs, hl, xs, hxl with
  | [c0, c1, c2, c3, c4], _, [y0, y1, y2, y3], _ =>
    have hwe : ∀ n ∈ DataW.weightsEach Try.prog [3, 22, 22, 25] [y0.1, y1.1, y2.1, y3.1], n ≤ reachBytes := fun n hn => hw n (by
      have hd : d = _ := congrArg Prod.fst hxy
      rw [hd]
      simp only [DataW.weights, Try.underlying39]
      exact hn)
    have k0 : DataW.trod enc Try.prog W base sp held k 3 (([c0, c1, c2, c3, c4].drop 0).take (Try.prog.cellsOf 3)) = some y0 := hff 0 _ rfl
    have k1 : DataW.trod enc Try.prog W base sp held k 22 (([c0, c1, c2, c3, c4].drop 1).take (Try.prog.cellsOf 22)) = some y1 := hff 1 _ rfl
    have k2 : DataW.trod enc Try.prog W base sp held k 22 (([c0, c1, c2, c3, c4].drop 2).take (Try.prog.cellsOf 22)) = some y2 := hff 2 _ rfl
    have k3 : DataW.trod enc Try.prog W base sp held k 25 (([c0, c1, c2, c3, c4].drop 3).take (Try.prog.cellsOf 25)) = some y3 := hff 3 _ rfl
    rw [c1i] at k0
    rw [c1o] at k1 k2
    rw [c2r] at k3
    obtain ⟨a, e0, _, _⟩ := DataW.trod_int Try.underlying3 k0
    obtain ⟨q1, d1, l1, e1, z1, p1, s1⟩ := trod_list EO Ook Try.underlying22 (by kernel_rfl) (by decide) (fun fuel cs y hl h _ => trod_op2 fuel cs y hl h) _ _ _ k1 (fun n hn => hwe n (DataW.weights_mem_each (j := 1) rfl rfl n hn))
    obtain ⟨q2, d2, l2, e2, z2, p2, s2⟩ := trod_list EO Ook Try.underlying22 (by kernel_rfl) (by decide) (fun fuel cs y hl h _ => trod_op2 fuel cs y hl h) _ _ _ k2 (fun n hn => hwe n (DataW.weights_mem_each (j := 2) rfl rfl n hn))
    obtain ⟨x, e3, hx⟩ := trod_rec _ _ _ rfl k3
    simp at e0 e1 e2 e3
    obtain ⟨e3, e4⟩ := e3
    subst e0 e1 e2 e3 e4
    rw [show Try.prog.bytesOf 35 = 16 by kernel_rfl] at s1 s2
    have hrb : reachBytes ≤ 140737488351232 := by decide
    exact ⟨a, _, _, l1, l2, x, rfl, p1, p2, hx, z1, z2, by omega, by omega⟩
end Go.Proofs.Ythekfbillnpkkaa.Cd
