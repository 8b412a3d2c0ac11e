import Derived.Test.YtaaobchodbnkpaaLRow
namespace Go.Proofs.Ytaaobchodbnkpaa
open Go.RowKit Go.Sort

/-- 'copy' of a list into a row, from its place k on. -/
theorem owns_copy {P : Program} {α : Type} {E : El α} {w : World} {base : Nat} {e dT sT ty : TypeId} {g N cap k off dCap : Nat} {Y ts : List α} {v1 : Value} (hu : P.underlying dT = some (.slice e)) (hs : (P.info? e).map (·.size) = some E.k)
    (h : w.ownsRow base e E.k (.slice (some ⟨g, 0, none⟩) N cap) N (fl E Y)) (hY : Y.length = N) (hv : Ls E w v1 ts) (hfit : k + ts.length ≤ N) (hoff : off = k * E.k ∨ ts = []) :
    ∃ w', (Builtin.copy_ #[dT, sT] ty #[.slice (some ⟨g, off, none⟩) (N - k) dCap, v1]).run P w = .ok (goInt ts.length) w' ∧ w'.ownsRow base e E.k (.slice (some ⟨g, 0, none⟩) N cap) N (fl E (Y.take k ++ ts ++ Y.drop (k + ts.length))) ∧ Kp (fun j => j = g) w w' := by
  by_cases ht : ts = []
  · subst ht
    have hl : (Builtin.copy_ #[dT, sT] ty #[.slice (some ⟨g, off, none⟩) (N - k) dCap, v1]).run P w = .ok (goInt 0) w := by
      cases hq : P.info? e with
      | none => simp [hq] at hs
      | some i =>
        obtain ⟨p, c, rfl⟩ := hv.form
        cases p with
        | none => simp [Builtin.copy_, run_underlying hu, Builtin.lenOf, Builtin.firstCells, sizeOf, typeInfo, hq, storeCells]
        | some a => simp [Builtin.copy_, run_underlying hu, Builtin.lenOf, Builtin.firstCells, sizeOf, typeInfo, hq, storeCells, loadCells, loadCellsFrom]
    refine ⟨w, hl, ?_, Kp.refl _ _⟩
    simpa using h
  · obtain rfl : off = k * E.k := hoff.resolve_right ht
    rcases hv with ⟨h0, _⟩ | ⟨b, o2, c, rfl, hb, hlies⟩
    · exact absurd h0 ht
    obtain ⟨hlen, ⟨h0, _⟩ | ⟨g', cap', cur, hvv, hbs, hgg, hn, hm, hcs, htk⟩⟩ := id h
    · cases h0
    cases hvv
    have hmin : Nat.min ts.length (N - k) = ts.length := Nat.min_eq_left (by omega)
    have hNk : k * E.k + ts.length * E.k ≤ N * E.k := by rw [← Nat.add_mul]; exact Nat.mul_le_mul_right _ hfit
    have hNc : N * E.k ≤ cap * E.k := Nat.mul_le_mul_right _ hn
    have hrun := run_copy_rowK (P := P) w dT sT ty e E.k g (k * E.k) (N - k) dCap ⟨b, o2, none⟩ ts.length c cur e (fl E ts) hu hs hgg (by rw [fl_length, hmin]) (fun j v hj => by rw [addA]; exact hlies j v hj) (by rw [fl_length, hcs]; omega) (fl_oneCell E ts)
    rw [hmin] at hrun
    refine ⟨_, hrun, ⟨?_, Or.inr ⟨g, cap, _, rfl, hbs, setRow_heap w g _ _ _ _ hgg, hn, hm, ?_, ?_⟩⟩, ⟨rfl, rfl, rfl, by simp [World.setRow], fun j _ hne => setRow_other w g j _ (fun e => hne e)⟩⟩
    · rw [fl_length]
      congr 1
      simp
      omega
    · simp only [List.size_toArray, List.length_append, List.length_take, List.length_drop, Array.length_toList, fl_length]
      omega
    · rw [List.toList_toArray, fl_append, fl_append, ← fl_take, ← fl_drop, ← htk]
      have hkl : k * E.k ≤ cur.toList.length := by rw [Array.length_toList]; omega
      rw [List.take_take, Nat.min_eq_left (by omega), fl_length, Nat.add_mul, List.drop_take, List.append_assoc, List.append_assoc, List.take_append, List.take_of_length_le (by rw [List.length_take]; omega), List.length_take, Nat.min_eq_left hkl, List.take_append, fl_length]
      congr 2
      · exact List.take_of_length_le (by rw [fl_length]; omega)
      · congr 1
        omega
/-- The same as a step of a region that draws. -/
theorem step_copyL {P : Program} {α : Type} (E : El α) {e dT sT : TypeId} (hu : P.underlying dT = some (.slice e)) (hs : (P.info? e).map (·.size) = some E.k)
    {w : World} {ops : Array Oper} {o : Oper} {a : Act} {K : Act → World → Prop} {Q : Exit → Act → World → Prop} {X : Prop} (hgd : o.guard = none) (d s : Operand)
    (hop : o.op = .call { callee := .builtin .copy, args := #[d, s], argTypes := #[dT, sT] })
    (base g N cap k off dCap : Nat) (Y ts : List α) (v1 : Value) (hd : a.eval d = .slice (some ⟨g, off, none⟩) (N - k) dCap) (hx : a.eval s = v1)
    (h : w.ownsRow base e E.k (.slice (some ⟨g, 0, none⟩) N cap) N (fl E Y)) (hY : Y.length = N) (hv : Ls E w v1 ts) (hfit : k + ts.length ≤ N) (hoff : off = k * E.k ∨ ts = [])
    (hK : ∀ w', Hid (w'.ownsRow base e E.k (.slice (some ⟨g, 0, none⟩) N cap) N (fl E (Y.take k ++ ts ++ Y.drop (k + ts.length)))) → Hid (Kp (fun j => j = g) w w') → K (a.put o.dst (.int .i64 (ts.length : Nat))) w') :
    if Region.wanted o (yielded ops a.tmps) = true then Oper.wp P o a w K Q else X := by
  have hw : Region.wanted o (yielded ops a.tmps) = true := by simp [Region.wanted, hgd]
  rw [if_pos hw]
  obtain ⟨w', hr, h1, h2⟩ := owns_copy (P := P) (sT := sT) (ty := o.type) (dCap := dCap) hu hs h hY hv hfit hoff
  unfold Oper.wp execOp
  simp only [hop, resolve, invoke, builtin, Sem.run_bind, Sem.run_pure, Result.andThen_ok, List.map_toArray, List.map_cons, List.map_nil, hd, hx, hr]
  exact hK w' h1 h2
end Go.Proofs.Ytaaobchodbnkpaa
