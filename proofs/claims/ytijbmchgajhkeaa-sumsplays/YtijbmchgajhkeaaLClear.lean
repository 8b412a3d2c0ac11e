import Derived.Test.YtijbmchgajhkeaaLRow
namespace Go.Proofs.Ytijbmchgajhkeaa
open Go.RowKit Go.Sort
/-- clear(s[i:]) within a row. -/
theorem run_clear_row {P : Program} (w : World) (sT ty elem : TypeId) (z : Value) (g o n c : Nat) (cur : Array Value) (t : TypeId)
    (hu : P.underlying sT = some (.slice elem)) (hz : (zeroValue elem).run P w = .ok z w) (hn : 0 < n)
    (hg : w.heap[g]? = some (.cells cur t (0, 0))) (hfit : o + (Builtin.zeroCells z.cells n).size ≤ cur.size) (h1 : ∀ v ∈ (Builtin.zeroCells z.cells n).toList, v.oneCell' = true) :
    (Builtin.clear_ #[sT] ty #[.slice (some ⟨g, o, none⟩) n c]).run P w =
      .ok (.tuple #[]) (w.setRow g (cur.toList.take o ++ (Builtin.zeroCells z.cells n).toList ++ cur.toList.drop (o + (Builtin.zeroCells z.cells n).size)).toArray) := by
  have hst := run_storeCells_at P g o t (Builtin.zeroCells z.cells n).toList 0 cur w hg (by simpa using hfit) h1
  obtain ⟨m, rfl⟩ : ∃ m, n = m + 1 := ⟨n - 1, by omega⟩
  simp [Builtin.clear_, run_underlying hu, hz, Result.andThen]
  simp at hst
  rw [hst]
theorem owns_clear {P : Program} {α : Type} {E : El α} {w : World} {base : Nat} {e sT : TypeId} {z : Value} {g N cap i : Nat} {M : List α} (ty : TypeId) (c : Nat) (hu : P.underlying sT = some (.slice e)) (hz : ∀ u : World, (zeroValue e).run P u = .ok z u) (hzs : z.cells.size = E.k)
    (hz1 : ∀ j, j < E.k → (z.cells[j]!).oneCell' = true) (hk : 0 < E.k) (h : w.ownsRow base e E.k (.slice (some ⟨g, 0, none⟩) N cap) N (fl E M)) (hM : M.length = N) (hi : i < N) :
    ∃ w', (Builtin.clear_ #[sT] ty #[.slice (some ⟨g, i * E.k, none⟩) (N - i) c]).run P w = .ok (.tuple #[]) w' ∧ w'.ownsRow base e E.k (.slice (some ⟨g, 0, none⟩) i cap) i (fl E (M.take i)) ∧ Kp (fun k => k = g) w w' := by
  obtain ⟨hlen, ⟨h0, _⟩ | ⟨g', cap', cur, hv, hbs, hgg, hn, hm, hcs, htk⟩⟩ := id h
  · cases h0
  cases hv
  have hsz : (Builtin.zeroCells z.cells (N - i)).size = (N - i) * E.k := by simp [Builtin.zeroCells, hzs]
  have hNk : i * E.k + (N - i) * E.k = N * E.k := by rw [← Nat.add_mul]; congr 1; omega
  have hNc : N * E.k ≤ cap * E.k := Nat.mul_le_mul_right _ hn
  have hfit : i * E.k + (Builtin.zeroCells z.cells (N - i)).size ≤ cur.size := by rw [hsz, hNk, hcs]; exact hNc
  have h1 : ∀ v ∈ (Builtin.zeroCells z.cells (N - i)).toList, v.oneCell' = true := by
    intro v hv
    simp [Builtin.zeroCells] at hv
    obtain ⟨j, _, rfl⟩ := hv
    have := hz1 (j % z.cells.size) (by rw [hzs]; exact Nat.mod_lt _ hk)
    simpa using this
  have hrun := run_clear_row w sT ty e z g (i * E.k) (N - i) c cur e hu (hz w) (by omega) hgg hfit h1
  have hle : i * E.k ≤ cur.size := by omega
  refine ⟨_, hrun, ⟨by rw [fl_length, List.length_take]; congr 1; omega, Or.inr ⟨g, cap, _, rfl, hbs, setRow_heap w g _ _ _ _ hgg, by omega, hm, ?_, ?_⟩⟩, ⟨rfl, rfl, rfl, by simp [World.setRow], fun j _ hne => setRow_other w g j _ hne⟩⟩
  · simp only [List.size_toArray, List.length_append, List.length_take, List.length_drop, Array.length_toList, hsz]
    omega
  · rw [List.toList_toArray, List.append_assoc, List.take_append_of_le_length (by simp [hle]), List.take_take, Nat.min_self, ← fl_take, ← htk, List.take_take, Nat.min_eq_left (Nat.mul_le_mul_right _ (by omega))]
end Go.Proofs.Ytijbmchgajhkeaa
