import Derived.Test.YtijbmchgajhkeaaSuArgs
import Derived.Test.YtijbmchgajhkeaaSuPy4
namespace Go.Proofs.Ytijbmchgajhkeaa
open Go.ChangeShapes Go.WideShapes Go.ChangeAt Go.RowKit Go.Joins

theorem cell_in {W : World} {a : Addr} {u : Value} (h : W.cell? a = some u) : a.spot = none ∧ a.block < W.heap.size := by
  unfold World.cell? at h
  split at h
  · rename_i hh
    refine ⟨?_, (Array.getElem?_eq_some_iff.1 hh).1⟩
    split at h
    · cases h
    · rename_i hs
      simpa using hs
  · cases h
theorem weights_all {H : Type} {P : Program} {e : TypeId} {l : List (DataW H)} {d : DataW H} (hd : d ∈ l) {n : Nat} (hn : n ∈ d.weights P e) : n ∈ DataW.weightsAll P e l := by
  induction l with
  | nil => cases hd
  | cons x l ih =>
    simp only [DataW.weightsAll, List.mem_append]
    rcases List.mem_cons.1 hd with rfl | hd
    · exact Or.inl hn
    · exact Or.inr (ih hd)
/-- No list in it is longer than memory bears. -/
def Wt {H : Type} (P : Program) (t : TypeId) (d : DataW H) : Prop := ∀ n ∈ d.weights P t, n ≤ reachBytes
/-- A slice that lies in a cell of what came in, of any elements. -/
theorem trod_list {P : Program} {α : Type} [Inhabited α] (E : El α) (Pr : α → Prop) {sT eT : TypeId} (hu : P.underlying sT = some (.slice eT)) (hc : P.cellsOf eT = E.k) (hk : 0 < E.k)
    {H : Type} {enc : TypeId × Value → H} {W : World} {base : Nat} {sp : Nat → Bool} {held : Bool}
    (hel : ∀ fuel cs y, cs.length = E.k → DataW.trod enc P W base sp held fuel eT cs = some y → Wt P eT y.1 → ∃ x, cs = E.enc x ∧ Pr x)
    (fuel : Nat) (cs : List Value) (y : DataW H × List MemPlace) (h : DataW.trod enc P W base sp held fuel sT cs = some y) (hw : Wt P sT y.1) :
    ∃ (q : Option Addr) (c : Nat) (ts : List α), cs = [.slice q ts.length c] ∧ Lw E W (.slice q ts.length c) ts ∧ (∀ x ∈ ts, Pr x) ∧ ts.length * P.bytesOf eT ≤ reachBytes := by
  rcases Deep.open_slice hu h with ⟨hcs, hx⟩ | ⟨a, len, cap, m, n, D, Pl, hcs, hb, hl, hm, hmm, hx, hall⟩
  · exact ⟨none, 0, [], hcs, Or.inl (Ls.nil _), fun _ h => (by cases h), by simp⟩
  · have hlm : len ≤ m := by rw [hmm]; split <;> omega
    have hws : Wt P sT (.slice ((List.range len).map D) ((List.range (m - len)).map fun j => D (len + j))) := by rw [hx] at hw; exact hw
    have hsz : len * P.bytesOf eT ≤ reachBytes := by
      have h1 := hws (((List.range len).map D).length * P.bytesOf eT + ((List.range (m - len)).map fun j => D (len + j)).length * P.bytesOf eT) (by simp [DataW.weights, hu, Nat.add_mul])
      simp only [List.length_map, List.length_range] at h1
      omega
    by_cases h0 : len = 0
    · subst h0
      exact ⟨some a, cap, [], hcs, Or.inr ⟨rfl, _, _, rfl⟩, fun _ h => (by cases h), by simp⟩
    · obtain ⟨cs0, g1, _⟩ := hall 0 (by omega)
      rw [hc] at g1
      obtain ⟨_, hl0, hc0⟩ := World.cells?_some g1
      have g0 := hc0 0 hk
      rw [show (a.add (0 * E.k)).add 0 = a by simp [Addr.add]] at g0
      obtain ⟨u0, hu0⟩ : ∃ u, cs0[0]? = some u := ⟨cs0[0]'(by omega), by simp⟩
      obtain ⟨hsp, hlt⟩ := cell_in (g0.trans hu0)
      clear g0 hc0 hl0 g1 hu0
      obtain ⟨b, off, spot⟩ := a
      simp only at hsp hlt
      subst hsp
      obtain ⟨V, hV⟩ := Deep.choose_lt (α := α) (p := fun i t => (∀ j u, j < E.k → (E.enc t)[j]? = some u → W.cell? ⟨b, off + i * E.k + j, none⟩ = some u) ∧ Pr t) (n := len) (fun i hi => by
        obtain ⟨cs', h1, h2⟩ := hall i (by omega)
        rw [hc] at h1
        obtain ⟨_, hl3, hc'⟩ := World.cells?_some h1
        have hwi : Wt P eT (D i) := fun n hn => hws n (by
          simp only [DataW.weights, hu, List.mem_cons, List.mem_append]
          exact Or.inr (Or.inl (weights_all (List.mem_map.2 ⟨i, List.mem_range.2 hi, rfl⟩) hn)))
        obtain ⟨x, rfl, hPr⟩ := hel _ _ _ hl3 h2 hwi
        refine ⟨x, fun j u hj hu' => ?_, hPr⟩
        have g0 := hc' j hj
        rw [Deep.add_add, addA] at g0
        rw [← Nat.add_assoc] at g0
        rw [g0]
        exact hu')
      refine ⟨some ⟨b, off, none⟩, cap, (List.range len).map V, by simpa using hcs, Or.inl (Or.inr ⟨b, off, cap, by simp, hlt, fun j u hj => ?_⟩), fun x hx => ?_, by simpa using hsz⟩
      · have hjl : j < len * E.k := by
          have := (List.getElem?_eq_some_iff.1 hj).1
          rw [fl_length] at this
          simpa using this
        have hi : j / E.k < len := (Nat.div_lt_iff_lt_mul hk).2 hjl
        have hg := fl_get E ((List.range len).map V) (j / E.k) (j % E.k) (V (j / E.k)) (by simp [hi]) (Nat.mod_lt _ hk)
        rw [Nat.div_add_mod', hj] at hg
        have := (hV (j / E.k) hi).1 (j % E.k) u (Nat.mod_lt _ hk) hg.symm
        rwa [Nat.add_assoc, Nat.div_add_mod'] at this
      · obtain ⟨i, hi, rfl⟩ := List.mem_map.1 hx
        exact (hV i (List.mem_range.1 hi)).2
theorem c1i : Try.prog.cellsOf 3 = 1 := by kernel_rfl
theorem c1s : Try.prog.cellsOf 23 = 1 := by kernel_rfl
theorem c8o : Try.prog.cellsOf 55 = 8 := by kernel_rfl
/-- What is known of a step's list. -/
def Okx (W : World) (o : Opx) : Prop := ∃ F : List Tm, Lw ET W (.slice o.pf o.nF o.cf) F ∧ o.nF = F.length ∧ o.nF ≤ 5864062014804
set_option maxRecDepth 100000 in
theorem trod_opx {H : Type} {enc : TypeId × Value → H} {W : World} {base : Nat} {sp : Nat → Bool} {held : Bool} (fuel : Nat) (cs : List Value) (y : DataW H × List MemPlace) (hl : cs.length = 8) (h : DataW.trod enc Try.prog W base sp held fuel 55 cs = some y) (hw : Wt Try.prog 55 y.1) : ∃ o : Opx, cs = EO.enc o ∧ Okx W o := by
  obtain ⟨xs, k, hk, hxy, _, hxl, hff⟩ := DataW.trod_struct Try.underlying55 h
  match cs, hl, xs, hxl with
  | [c0, c1, c2, c3, c4, c5, c6, c7], _, [y0, y1, y2, y3, y4], _ =>
    have hwe : ∀ n ∈ DataW.weightsEach Try.prog [3, 3, 32, 37, 23] [y0.1, y1.1, y2.1, y3.1, y4.1], n ≤ reachBytes := fun n hn => hw n (by
      rw [hxy]
      simp only [DataW.weights, Try.underlying55]
      exact hn)
    have k0 : DataW.trod enc Try.prog W base sp held k 3 (([c0, c1, c2, c3, c4, c5, c6, c7].drop 0).take (Try.prog.cellsOf 3)) = some y0 := hff 0 _ rfl
    have k1 : DataW.trod enc Try.prog W base sp held k 3 (([c0, c1, c2, c3, c4, c5, c6, c7].drop 1).take (Try.prog.cellsOf 3)) = some y1 := hff 1 _ rfl
    have k2 : DataW.trod enc Try.prog W base sp held k 32 (([c0, c1, c2, c3, c4, c5, c6, c7].drop 2).take (Try.prog.cellsOf 32)) = some y2 := hff 2 _ rfl
    have k3 : DataW.trod enc Try.prog W base sp held k 37 (([c0, c1, c2, c3, c4, c5, c6, c7].drop 5).take (Try.prog.cellsOf 37)) = some y3 := hff 3 _ rfl
    have k4 : DataW.trod enc Try.prog W base sp held k 23 (([c0, c1, c2, c3, c4, c5, c6, c7].drop 7).take (Try.prog.cellsOf 23)) = some y4 := hff 4 _ rfl
    rw [c1i] at k0 k1
    rw [cellsTm] at k2
    rw [cellsRc] at k3
    rw [c1s] at k4
    obtain ⟨u0, e0, _⟩ := DataW.trod_int Try.underlying3 k0
    obtain ⟨u1, e1, _⟩ := DataW.trod_int Try.underlying3 k1
    obtain ⟨x, hx⟩ := trod_tm k _ _ rfl k2
    obtain ⟨r, hr⟩ := trod_rc k _ _ rfl k3
    obtain ⟨q4, d4, l4, e4, z4, _, s4⟩ := trod_list ET (fun _ => True) Try.underlying23 cellsTm (by decide) (fun fuel cs y hl h _ => (trod_tm fuel cs y hl h).imp fun x hx => ⟨hx, trivial⟩) _ _ _ k4 (fun n hn => hwe n (DataW.weights_mem_each (j := 4) rfl rfl n hn))
    simp at e0 e1 e4
    simp [ET] at hx
    simp [ER] at hr
    subst e0 e1 e4
    obtain ⟨rfl, rfl, rfl⟩ := hx
    obtain ⟨rfl, rfl⟩ := hr
    rw [show Try.prog.bytesOf 32 = 24 by kernel_rfl] at s4
    have hrb : reachBytes ≤ 140737488351232 := by decide
    exact ⟨⟨u0, u1, x, r, q4, l4.length, d4⟩, rfl, l4, z4, rfl, by simp only; omega⟩
set_option maxRecDepth 100000 in
/-- A script that came in. -/
theorem open_script {H : Type} {enc : TypeId × Value → H} {W : World} {r : Reach} {b0 base : Nat} {sp : Nat → Bool} {held : Bool} {v : Value} {d : DataW H} {p : List MemPlace} (hv : Value.okWide Try.prog W r b0 48 v) (h : DataW.Trod enc Try.prog W base sp held 48 v d p) (hw : Wt Try.prog 48 d) :
    (∀ x ∈ p, x.block < W.heap.size) ∧ ∃ (q : Option Addr) (c : Nat) (sc : List Opx), v = .slice q sc.length c ∧ Lw EO W (.slice q sc.length c) sc ∧ Fits W sc ∧ sc.length ≤ 5864062014806 := by
  have hlt : ∀ x ∈ p, x.block < W.heap.size := by
    obtain ⟨fuel, hf⟩ := h
    exact DataW.trod_lt fuel _ _ _ hf
  refine ⟨hlt, ?_⟩
  obtain ⟨a0, len, cap, rfl⟩ := okWide_slice Try.underlying48 hv
  obtain ⟨fuel, hf⟩ := h
  obtain ⟨q, c, ts, e, z, pr, s⟩ := trod_list EO (Okx W) Try.underlying48 c8o (by decide) (fun fuel cs y hl h hw => trod_opx fuel cs y hl h hw) _ _ _ hf hw
  have e' : Value.slice a0 len cap = .slice q ts.length c := by simpa [Value.cells] using e
  rw [show Try.prog.bytesOf 55 = 80 by kernel_rfl] at s
  have hrb : reachBytes ≤ 140737488351232 := by decide
  exact ⟨q, c, ts, e', z, fun j o ho => pr o (List.mem_of_getElem? ho), by omega⟩
end Go.Proofs.Ytijbmchgajhkeaa
