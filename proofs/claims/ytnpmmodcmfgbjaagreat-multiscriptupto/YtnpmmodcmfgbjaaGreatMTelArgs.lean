import Derived.Test.YtnpmmodcmfgbjaaGreatMTel1
import Derived.Test.YtnpmmodcmfgbjaaGreatMArgs
namespace Go.Proofs.YtnpmmodcmfgbjaaGreat
open Go.ChangeShapes Go.WideShapes Go.ChangeAt Go.RowKit Go.Joins

theorem cell_in {W : World} {a : Addr} {u : Value} (h : W.cell? a = some u) : a.spot = none ∧ a.block < W.heap.size := by
  unfold World.cell? at h
  split at h
  · rename_i hh
    refine ⟨?_, (Array.getElem?_eq_some_iff.1 hh).1⟩
    split at h
    · cases h
    · rename_i hs
      simpa using hs
  · cases h
/-- A slice that lies in a cell, of any elements. -/
theorem trod_in {P : Program} {α : Type} [Inhabited α] (E : El α) {sT eT : TypeId} (hu : P.underlying sT = some (.slice eT)) (hc : P.cellsOf eT = E.k) (hk : 0 < E.k)
    {H : Type} {enc : TypeId × Value → H} {W : World} {base : Nat} {sp : Nat → Bool} {held : Bool}
    (hel : ∀ fuel cs y, cs.length = E.k → DataW.trod enc P W base sp held fuel eT cs = some y → ∃ x, cs = E.enc x)
    (fuel : Nat) (cs : List Value) (y : DataW H × List MemPlace) (h : DataW.trod enc P W base sp held fuel sT cs = some y) :
    ∃ (v : Value) (ts : List α), cs = [v] ∧ v.oneCell' = true ∧ ts.length ≤ 9223372036854775807 ∧ (Ls E W v ts ∨ (ts = [] ∧ ∃ p c, v = .slice p 0 c)) := by
  rcases Deep.open_slice hu h with ⟨hcs, hx⟩ | ⟨a, len, cap, m, n, D, Pl, hcs, hb, hl, hm, hmm, hx, hall⟩
  · exact ⟨_, [], hcs, rfl, Nat.zero_le _, Or.inl (Or.inl ⟨rfl, rfl⟩)⟩
  · by_cases h0 : len = 0
    · subst h0
      exact ⟨_, [], hcs, rfl, Nat.zero_le _, Or.inr ⟨rfl, _, _, rfl⟩⟩
    · have hlm : len ≤ m := by rw [hmm]; split <;> omega
      have hml : len ≤ 9223372036854775807 := by unfold maxLen at hm; omega
      obtain ⟨cs0, g1, _⟩ := hall 0 (by omega)
      rw [hc] at g1
      obtain ⟨_, hl0, hc0⟩ := World.cells?_some g1
      have g0 := hc0 0 hk
      rw [show (a.add (0 * E.k)).add 0 = a by simp [Addr.add]] at g0
      obtain ⟨u0, hu0⟩ : ∃ u, cs0[0]? = some u := ⟨cs0[0]'(by omega), by simp⟩
      obtain ⟨hsp, hlt⟩ := cell_in (g0.trans hu0)
      clear g0 hc0 hl0 g1 hu0
      obtain ⟨b, off, spot⟩ := a
      simp only at hsp hlt
      subst hsp
      obtain ⟨V, hV⟩ := Deep.choose_lt (α := α) (p := fun i t => ∀ j u, j < E.k → (E.enc t)[j]? = some u → W.cell? ⟨b, off + i * E.k + j, none⟩ = some u) (n := len) (fun i hi => by
        obtain ⟨cs', h1, h2⟩ := hall i (by omega)
        rw [hc] at h1
        obtain ⟨_, hl3, hc'⟩ := World.cells?_some h1
        obtain ⟨x, rfl⟩ := hel _ _ _ hl3 h2
        refine ⟨x, fun j u hj hu' => ?_⟩
        have g0 := hc' j hj
        rw [Deep.add_add, addA] at g0
        rw [← Nat.add_assoc] at g0
        rw [g0]
        exact hu')
      refine ⟨_, (List.range len).map V, hcs, rfl, by rw [List.length_map, List.length_range]; exact hml, Or.inl (Or.inr ⟨b, off, cap, by simp, hlt, fun j u hj => ?_⟩)⟩
      have hjl : j < len * E.k := by
        have := (List.getElem?_eq_some_iff.1 hj).1
        rw [fl_length] at this
        simpa using this
      have hi : j / E.k < len := (Nat.div_lt_iff_lt_mul hk).2 hjl
      have hg := fl_get E ((List.range len).map V) (j / E.k) (j % E.k) (V (j / E.k)) (by simp [hi]) (Nat.mod_lt _ hk)
      rw [Nat.div_add_mod', hj] at hg
      have := hV (j / E.k) hi (j % E.k) u (Nat.mod_lt _ hk) hg.symm
      rwa [Nat.add_assoc, Nat.div_add_mod'] at this
/-- A slice of deltas that can be read. -/
abbrev SW (W : World) := { s : SV // ∃ l : List Dl, Lz W s.1 l ∧ l.length ≤ 9223372036854775807 }
instance (W : World) : Inhabited (SW W) := ⟨⟨⟨.slice none 0 0, rfl⟩, [], Or.inl (Or.inl ⟨rfl, rfl⟩), Nat.zero_le _⟩⟩
def ESW (W : World) : El (SW W) where
  k := 1
  enc v := [v.1.1]
  len _ := rfl
  one x u hu := by simp at hu; subst hu; exact x.1.2
theorem sw_fl {W : World} (ts : List (SW W)) : fl (ESW W) ts = fl ES (ts.map Subtype.val) := by
  induction ts with
  | nil => rfl
  | cons t ts ih => rw [List.map_cons, fl_cons, fl_cons, ih]; rfl
theorem sw_ls {W w : World} {v : Value} {ts : List (SW W)} (h : Ls (ESW W) w v ts) : Ls ES w v (ts.map Subtype.val) := by
  rcases h with ⟨rfl, rfl⟩ | ⟨b, off, c, rfl, hb, hl⟩
  · exact Or.inl ⟨rfl, rfl⟩
  · refine Or.inr ⟨b, off, c, by simp, hb, fun j u hj => hl j u ?_⟩
    rw [sw_fl]
    exact hj
theorem sw_mem {W : World} (ts : List (SW W)) : ∀ s ∈ ts.map Subtype.val, ∃ l : List Dl, Lz W s.1 l ∧ l.length ≤ 9223372036854775807 := fun s hs => by
  obtain ⟨x, _, rfl⟩ := List.mem_map.1 hs
  exact x.2
theorem cellsSd : Tryz.prog.cellsOf 38 = 1 := by kernel_rfl
theorem trod_sw {H : Type} {enc : TypeId × Value → H} {W : World} {base : Nat} {sp : Nat → Bool} {held : Bool} (fuel : Nat) (cs : List Value) (y : DataW H × List MemPlace) (h : DataW.trod enc Tryz.prog W base sp held fuel 38 cs = some y) : ∃ x : SW W, cs = (ESW W).enc x := by
  obtain ⟨v, ts, rfl, h1, h2, h3⟩ := trod_in ED Tryz.underlying38 cellsDl (by decide) (fun fuel cs y hl h => trod_dl fuel cs y hl h) fuel cs y h
  exact ⟨⟨⟨v, h1⟩, ts, h3, h2⟩, rfl⟩
end Go.Proofs.YtnpmmodcmfgbjaaGreat
