import Derived.Test.YtaaobchodbnkpaaLClear
namespace Go.Proofs.Ytaaobchodbnkpaa
open Go.RowKit Go.Sort

/-- clear(s[i:i+1]) within a row. -/
theorem owns_clear1 {P : Program} {α : Type} {E : El α} {w : World} {base : Nat} {e sT : TypeId} {z : Value} {g N cap i : Nat} {M : List α} (ty : TypeId) (c : Nat) (hu : P.underlying sT = some (.slice e)) (hz : ∀ u : World, (zeroValue e).run P u = .ok z u) (z0 : α) (hz0 : (Builtin.zeroCells z.cells 1).toList = E.enc z0)
    (h : w.ownsRow base e E.k (.slice (some ⟨g, 0, none⟩) N cap) N (fl E M)) (hM : M.length = N) (hi : i < N) :
    ∃ w', (Builtin.clear_ #[sT] ty #[.slice (some ⟨g, i * E.k, none⟩) 1 c]).run P w = .ok (.tuple #[]) w' ∧ w'.ownsRow base e E.k (.slice (some ⟨g, 0, none⟩) N cap) N (fl E (M.set i z0)) ∧ Kp (fun k => k = g) w w' := by
  obtain ⟨hlen, ⟨h0, _⟩ | ⟨g', cap', cur, hv, hbs, hgg, hn, hm, hcs, htk⟩⟩ := id h
  · cases h0
  cases hv
  have hsz : (Builtin.zeroCells z.cells 1).size = E.k := by rw [← Array.length_toList, hz0, E.len]
  have hNc : N * E.k ≤ cap * E.k := Nat.mul_le_mul_right _ hn
  have hik : (i + 1) * E.k ≤ N * E.k := Nat.mul_le_mul_right _ hi
  rw [Nat.succ_mul] at hik
  have hrun := run_clear_row w sT ty e z g (i * E.k) 1 c cur e hu (hz w) (by omega) hgg (by rw [hsz, hcs]; omega) (fun v hv => by rw [hz0] at hv; exact E.one z0 v hv)
  refine ⟨_, hrun, ⟨by rw [fl_length, List.length_set, hM], Or.inr ⟨g, cap, _, rfl, hbs, setRow_heap w g _ _ _ _ hgg, hn, hm, ?_, ?_⟩⟩, ⟨rfl, rfl, rfl, by simp [World.setRow], fun j _ hne => setRow_other w g j _ hne⟩⟩
  · simp only [List.size_toArray, List.length_append, List.length_take, List.length_drop, Array.length_toList, hsz]
    omega
  · rw [List.toList_toArray, hz0, hsz, ← fl_set E M i z0 (by omega), ← htk, Nat.succ_mul]
    have hle : i * E.k ≤ cur.toList.length := by rw [Array.length_toList]; omega
    rw [List.take_take, Nat.min_eq_left (by omega), List.append_assoc, List.append_assoc, List.take_append, List.take_of_length_le (by rw [List.length_take]; omega), List.length_take, Nat.min_eq_left hle, List.take_append, E.len, List.drop_take]
    congr 2
    · exact List.take_of_length_le (by rw [E.len]; omega)
    · congr 1
      omega
/-- The same as a step of a region that draws. -/
theorem step_clear1 {P : Program} {α : Type} (E : El α) {e sT : TypeId} {z : Value} (hu : P.underlying sT = some (.slice e)) (hz : ∀ u : World, (zeroValue e).run P u = .ok z u) (z0 : α) (hz0 : (Builtin.zeroCells z.cells 1).toList = E.enc z0)
    {w : World} {ops : Array Oper} {o : Oper} {a : Act} {K : Act → World → Prop} {Q : Exit → Act → World → Prop} {X : Prop} (hgd : o.guard = none) (d : Operand)
    (hop : o.op = .call { callee := .builtin .clear, args := #[d], argTypes := #[sT] })
    (base g N cap i off c : Nat) (M : List α) (hd : a.eval d = .slice (some ⟨g, off, none⟩) 1 c) (hoff : off = i * E.k)
    (h : w.ownsRow base e E.k (.slice (some ⟨g, 0, none⟩) N cap) N (fl E M)) (hM : M.length = N) (hi : i < N)
    (hK : ∀ w', Hid (w'.ownsRow base e E.k (.slice (some ⟨g, 0, none⟩) N cap) N (fl E (M.set i z0))) → Hid (Kp (fun j => j = g) w w') → K (a.put o.dst (.tuple #[])) w') :
    if Region.wanted o (yielded ops a.tmps) = true then Oper.wp P o a w K Q else X := by
  subst hoff
  have hw : Region.wanted o (yielded ops a.tmps) = true := by simp [Region.wanted, hgd]
  rw [if_pos hw]
  obtain ⟨w', hr, h1, h2⟩ := owns_clear1 (P := P) o.type c hu hz z0 hz0 h hM hi
  unfold Oper.wp execOp
  simp only [hop, resolve, invoke, builtin, Sem.run_bind, Sem.run_pure, Result.andThen_ok, List.map_toArray, List.map_cons, List.map_nil, hd, hr]
  exact hK w' h1 h2
end Go.Proofs.Ytaaobchodbnkpaa
