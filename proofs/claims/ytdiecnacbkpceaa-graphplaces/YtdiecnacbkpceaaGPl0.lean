import Derived.Test.YtdiecnacbkpceaaGTak
import Derived.RangeFuncNested
import Derived.RangeFuncLeaves
namespace Go.Proofs.Ytdiecnacbkpceaa.Df
open Go.RowKit Go.Sort

theorem fl_EJ (l : List Int) : fl EI l = l.map (Value.int .i64) := by
  induction l with
  | nil => rfl
  | cons x l ih => rw [fl_cons, ih]; rfl
theorem pl_in {g : Gph} (h : Gok g) {j : Nat} {d : Edg} (hj : g.edges[j]? = some d) : outPl g.nodes d < plN g.nodes ∧ inPl g.nodes d < plN g.nodes := by
  obtain ⟨h1, h2⟩ := h.ends hj
  exact ⟨(List.getElem?_eq_some_iff.1 (out_spot h1)).1, (List.getElem?_eq_some_iff.1 (in_spot h2)).1⟩
/-- How many of an edge's two places are ahead of a number. -/
def cN (ns : List Nod) (d : Edg) (k : Nat) : Nat := (if outPl ns d < k then 1 else 0) + (if inPl ns d < k then 1 else 0)
/-- What has been seen: all places ahead of k, and so many edges at k. -/
def Sn (ns : List Nod) (es : List Edg) (k : Nat) (pre : List Int) (S : List Int) : Prop := S.length = es.length ∧ ∀ (e : Nat) (d : Edg), es[e]? = some d → S[e]? = some ((cN ns d k : Int) + if (e : Int) ∈ pre then 1 else 0)
theorem Sn.zero (ns : List Nod) (es : List Edg) : Sn ns es 0 [] (List.replicate es.length 0) := by
  refine ⟨by simp, fun e d h => ?_⟩
  have := (List.getElem?_eq_some_iff.1 h).1
  simp [cN, this]
theorem Sn.bump {ns : List Nod} {es : List Edg} {k : Nat} {pre S : List Int} (h : Sn ns es k pre S) {e : Nat} {v : Int} (he : (e : Int) ∉ pre) (hv : S[e]? = some v) : Sn ns es k (pre ++ [(e : Int)]) (S.set e (v + 1)) := by
  refine ⟨by rw [List.length_set]; exact h.1, fun q d hd => ?_⟩
  rw [List.getElem?_set]
  by_cases hq : e = q
  · subst hq
    have h1 := h.2 e d hd
    rw [hv, if_neg he] at h1
    have h2 := (List.getElem?_eq_some_iff.1 hv).1
    rw [if_pos rfl, if_pos h2]
    simp only [Option.some.injEq] at h1 ⊢
    rw [h1]
    simp
  · rw [if_neg hq, h.2 q d hd]
    have : ¬ (q : Int) = (e : Int) := by omega
    simp [this]
theorem edgesU_at {ns : List Nod} {es : List Edg} {k e : Nat} {d : Edg} (hd : es[e]? = some d) : (e : Int) ∈ edgesU ns es k es.length ↔ (outPl ns d = k ∨ inPl ns d = k) := by
  rw [edgesU_mem]
  constructor
  · rintro ⟨i, d', h1, h2, h3, h4⟩
    have : e = i := by omega
    subst this
    rw [hd] at h3
    cases h3
    exact h4
  · intro h
    exact ⟨e, d, rfl, (List.getElem?_eq_some_iff.1 hd).1, hd, h⟩
theorem Sn.next {g : Gph} (hok : Gok g) {k : Nat} {S : List Int} (h : Sn g.nodes g.edges k (edgesU g.nodes g.edges k g.edges.length) S) : Sn g.nodes g.edges (k + 1) [] S := by
  refine ⟨h.1, fun e d hd => ?_⟩
  rw [h.2 e d hd]
  obtain ⟨h1, h2⟩ := hok.ends hd
  have hne := ends_ne h1 h2
  have hm := edgesU_at (ns := g.nodes) (k := k) hd
  by_cases ho : outPl g.nodes d = k
  · rw [if_pos (hm.2 (Or.inl ho))]
    simp only [cN]
    rw [if_neg (by omega), if_pos (show outPl g.nodes d < k + 1 by omega)]
    by_cases hi : inPl g.nodes d < k
    · rw [if_pos hi, if_pos (by omega)]; simp
    · rw [if_neg hi, if_neg (by omega)]; simp
  · by_cases hi : inPl g.nodes d = k
    · rw [if_pos (hm.2 (Or.inr hi))]
      simp only [cN]
      rw [if_neg (show ¬ inPl g.nodes d < k by omega), if_pos (show inPl g.nodes d < k + 1 by omega)]
      by_cases ho2 : outPl g.nodes d < k
      · rw [if_pos ho2, if_pos (by omega)]; simp
      · rw [if_neg ho2, if_neg (by omega)]; simp
    · rw [if_neg (fun hh => (hm.1 hh).elim ho hi)]
      simp only [cN]
      have e1 : (outPl g.nodes d < k + 1) ↔ outPl g.nodes d < k := by omega
      have e2 : (inPl g.nodes d < k + 1) ↔ inPl g.nodes d < k := by omega
      simp [e1, e2]
theorem Sn.all {g : Gph} (hok : Gok g) {S : List Int} (h : Sn g.nodes g.edges (plN g.nodes) [] S) {e : Nat} (he : e < g.edges.length) : S[e]? = some 2 := by
  have hd : g.edges[e]? = some g.edges[e] := List.getElem?_eq_getElem he
  rw [h.2 e _ hd]
  obtain ⟨h1, h2⟩ := pl_in hok hd
  simp [cN, h1, h2]
theorem edgesU_sorted (ns : List Nod) (es : List Edg) (k : Nat) : ∀ j, (edgesU ns es k j).Pairwise (· < ·) ∧ ∀ x ∈ edgesU ns es k j, 0 ≤ x ∧ x < (j : Int)
  | 0 => ⟨by simp [edgesU], by simp [edgesU]⟩
  | j + 1 => by
    obtain ⟨h1, h2⟩ := edgesU_sorted ns es k j
    rw [edgesU]
    have key : ∀ (l : List Int), (l = [] ∨ l = [(j : Int)]) → (edgesU ns es k j ++ l).Pairwise (· < ·) ∧ ∀ x ∈ edgesU ns es k j ++ l, 0 ≤ x ∧ x < ((j + 1 : Nat) : Int) := by
      rintro l (rfl | rfl)
      · rw [List.append_nil]
        exact ⟨h1, fun x hx => by have := h2 x hx; omega⟩
      · refine ⟨List.pairwise_append.2 ⟨h1, by simp, fun a ha b hb => ?_⟩, fun x hx => ?_⟩
        · rw [List.mem_singleton] at hb
          have := h2 a ha
          omega
        · rcases List.mem_append.1 hx with hx | hx
          · have := h2 x hx
            omega
          · rw [List.mem_singleton] at hx
            omega
    apply key
    split
    · split
      · exact Or.inr rfl
      · exact Or.inl rfl
    · exact Or.inl rfl
/-- The last one, or -1. -/
def lastI (pre : List Int) : Int := pre.getLast?.getD (-1)
theorem lastI_nil : lastI [] = -1 := rfl
theorem lastI_snoc (pre : List Int) (x : Int) : lastI (pre ++ [x]) = x := by simp [lastI]
/-- What the next one is like. -/
theorem next_of {L pre : List Int} {x : Int} {m : Nat} (hs : L.Pairwise (· < ·)) (hb : ∀ y ∈ L, 0 ≤ y ∧ y < (m : Int)) (h : pre ++ [x] <+: L) : lastI pre < x ∧ 0 ≤ x ∧ x < (m : Int) ∧ x ∈ L ∧ x ∉ pre := by
  obtain ⟨t, ht⟩ := h
  have hx : x ∈ L := by rw [← ht]; simp
  have hp : (pre ++ [x]).Pairwise (· < ·) := by
    rw [← ht] at hs
    exact (List.pairwise_append.1 hs).1
  have hlt : ∀ y ∈ pre, y < x := fun y hy => (List.pairwise_append.1 hp).2.2 y hy x (by simp)
  refine ⟨?_, (hb x hx).1, (hb x hx).2, hx, fun h => by have := hlt x h; omega⟩
  unfold lastI
  cases e : pre.getLast? with
  | none => have := (hb x hx).1; simp; omega
  | some y =>
    simp only [Option.getD_some]
    exact hlt y (List.mem_of_getLast? e)
/-- Deferred marks, all apart. -/
def mkD (D : Nat) : Deferred := { target := .collected D, args := #[] }
def Dok (B : Nat) (Ds : List Nat) (w : World) : Prop := Ds.Nodup ∧ ∀ D ∈ Ds, B ≤ D ∧ w.heap[D]? = some (.deferred (some []))
theorem Dok.nil (B : Nat) (w : World) : Dok B [] w := ⟨List.nodup_nil, fun _ h => by cases h⟩
theorem Dok.cons {B D : Nat} {Ds : List Nat} {w : World} (h : Dok B Ds w) (hD : w.heap[D]? = some (.deferred (some []))) (hB : B ≤ D) (hn : D ∉ Ds) : Dok B (D :: Ds) w :=
  ⟨List.nodup_cons.2 ⟨hn, h.1⟩, fun E hE => by
    rcases List.mem_cons.1 hE with rfl | hE
    · exact ⟨hB, hD⟩
    · exact h.2 E hE⟩
theorem Dok.below {B : Nat} {Ds : List Nat} {w w' : World} (h : Dok B Ds w) (hb : Below w.heap.size w w') : Dok B Ds w' := ⟨h.1, fun D hD => ⟨(h.2 D hD).1, (hb.block D (tk_lt (h.2 D hD).2)).trans (h.2 D hD).2⟩⟩
theorem Dok.lt {B D : Nat} {Ds : List Nat} {w : World} (h : Dok B Ds w) (hD : D ∈ Ds) : D < w.heap.size := tk_lt (h.2 D hD).2
/-- Cells have changed, marks have not. -/
theorem Dok.sb {B b : Nat} {Ds : List Nat} {w w' : World} {cur : Array Value} {T : TypeId} (h : Dok B Ds w) (hb : w.heap[b]? = some (.cells cur T (0, 0))) (k : Kp (fun k => k = b) w w') : Dok B Ds w' := ⟨h.1, fun D hD => ⟨(h.2 D hD).1, (k.block D (h.lt hD) (fun e => by have h1 := (h.2 D hD).2; rw [e, hb] at h1; cases h1)).trans (h.2 D hD).2⟩⟩
/-- The marks are taken. -/
theorem leaves_marks {n : Nat} {P : Program} {fn : Func} {tmps : Array Value} {R : Ending → World → Prop} {B : Nat} : ∀ (Ds : List Nat) (w : World), Dok B Ds w → (∀ w', Below B w w' → (∀ (k : Nat) (cur : Array Value) (T : TypeId), w.heap[k]? = some (.cells cur T (0, 0)) → w'.heap[k]? = some (.cells cur T (0, 0))) → ∃ v, (results fn tmps).run P w' = .ok v w' ∧ R (.returned v) w') → LeavesInM Fence.wide n P fn tmps R (Ds.map mkD) .returning w
  | [], w, _, h => h w (Below.refl _ _) (fun _ _ _ h => h)
  | D :: Ds, w, hd, h => by
    refine ⟨by simp, Or.inl ⟨D, w.putObj D (.deferred none), rfl, run_takeDeferred (hd.2 D (by simp)).2, ?_⟩⟩
    have hn := List.nodup_cons.1 hd.1
    have hb : Below B w (w.putObj D (.deferred none)) := ⟨rfl, rfl, rfl, by simp, fun k hk => World.putObj_heap_other (fun e => by have := (hd.2 D (by simp)).1; omega)⟩
    refine leaves_marks Ds _ ⟨hn.2, fun E hE => ⟨(hd.2 E (by simp [hE])).1, (World.putObj_heap_other (r := D) (k := E) (fun e => hn.1 (by rw [← e]; exact hE))).trans (hd.2 E (by simp [hE])).2⟩⟩ (fun w' b' hc => h w' (hb.trans (b'.mono (Nat.le_refl _))) (fun k cur T hk => hc k cur T ((World.putObj_heap_other (fun e => ?_)).trans hk)))
    have h1 := (hd.2 D (by simp)).2
    rw [← e, hk] at h1
    cases h1
end Go.Proofs.Ytdiecnacbkpceaa.Df
