import Derived.Test.YtpgodnaebkmhhaaGreatJ8
import Derived.BigQuiet
namespace Go.Proofs.YtpgodnaebkmhhaaGreat.Df
open Go.RowKit Go.Sort
attribute [local go_sem ↓] Go.wp_at_zero Go.wp_at_succ

/-- The document's third example; u: the loop's path. -/
def exN (k i o : Int) (u : Nat) : NV := ⟨⟨k, i, o, [], (u, 0, 0), 0, [], false⟩, none, 0, 0, none, 0, 0⟩
def exX (u : Nat) : List NV := [exN 1 0 1 0, exN 4 2 1 0, exN 5 1 1 u]
def exE : List Edg := [⟨0, 0, 1, 0, false⟩, ⟨1, 0, 2, 0, false⟩, ⟨2, 0, 1, 1, false⟩]
abbrev exG (u : Nat) : Gph := gof 2 (exX u) exE
theorem ex_fl (u : Nat) (hu : u = 0 ∨ u = 1) : Fl (exG u) 0 0 := by
  refine Fl.none (by show (1 : Int) ≤ 2; decide) (by show (2 : Int) ≤ 3; decide) (by show 3 ≤ 24; decide) (by show 3 ≤ 48; decide) ?_ ?_
  · intro j n hj hn
    have hj : j < 3 := hj
    rcases hu with rfl | rfl <;> rcases (by omega : j = 0 ∨ j = 1 ∨ j = 2) with rfl | rfl | rfl <;> simp [exX, exN] at hn <;> subst hn <;> rfl
  · intro j d hj hd
    have hj : j < 3 := hj
    rcases hu with rfl | rfl <;> rcases (by omega : j = 0 ∨ j = 1 ∨ j = 2) with rfl | rfl | rfl <;> simp [exE] at hd <;> subst hd <;> rfl
theorem srt1 (x : Int) : srtI [x] = [x] := by simp [srtI]
theorem srt0 : srtI [] = [] := by simp [srtI]
def exL1 : List (List Int) := [[1], [3], [3], [4], [], [2]]
def exL0 : List (List Int) := [[1], [3], [3], [4], [5], [2]]
theorem ex_st1 : stL (exG 1) = exL1 := by
  have h6 : plN (exG 1).nodes = 6 := by decide
  unfold stL
  rw [h6]
  have e0 : fromS (stS (exG 1)) 0 = [1] := by decide
  have e1 : fromS (stS (exG 1)) 1 = [3] := by decide
  have e2 : fromS (stS (exG 1)) 2 = [3] := by decide
  have e3 : fromS (stS (exG 1)) 3 = [4] := by decide
  have e4 : fromS (stS (exG 1)) 4 = [] := by decide
  have e5 : fromS (stS (exG 1)) 5 = [2] := by decide
  show [srtI (fromS (stS (exG 1)) 0), srtI (fromS (stS (exG 1)) 1), srtI (fromS (stS (exG 1)) 2), srtI (fromS (stS (exG 1)) 3), srtI (fromS (stS (exG 1)) 4), srtI (fromS (stS (exG 1)) 5)] = _
  rw [e0, e1, e2, e3, e4, e5, srt1, srt1, srt1, srt0, srt1]
  rfl
theorem ex_st0 : stL (exG 0) = exL0 := by
  have h6 : plN (exG 0).nodes = 6 := by decide
  unfold stL
  rw [h6]
  have e0 : fromS (stS (exG 0)) 0 = [1] := by decide
  have e1 : fromS (stS (exG 0)) 1 = [3] := by decide
  have e2 : fromS (stS (exG 0)) 2 = [3] := by decide
  have e3 : fromS (stS (exG 0)) 3 = [4] := by decide
  have e4 : fromS (stS (exG 0)) 4 = [5] := by decide
  have e5 : fromS (stS (exG 0)) 5 = [2] := by decide
  show [srtI (fromS (stS (exG 0)) 0), srtI (fromS (stS (exG 0)) 1), srtI (fromS (stS (exG 0)) 2), srtI (fromS (stS (exG 0)) 3), srtI (fromS (stS (exG 0)) 4), srtI (fromS (stS (exG 0)) 5)] = _
  rw [e0, e1, e2, e3, e4, e5, srt1, srt1, srt1, srt1, srt1]
  rfl
theorem ex_ord1 : ∃ f, ordN 6 exL1 6 = some ([0, 1, 5, 2, 3, 4], f) := ⟨_, rfl⟩
theorem ex_ord0 : ordN 6 exL0 6 = none := rfl
theorem ex_find1 : findN exL1 6 = none := by decide
theorem ex_find0 : findN exL0 6 = some [2, 3, 4, 5] := by decide
theorem ints_inj {a b : List Nat} (h : ints a = ints b) : a = b := by
  induction a generalizing b with
  | nil =>
    cases b with
    | nil => rfl
    | cons => cases h
  | cons x a ih =>
    cases b with
    | nil => cases h
    | cons y b =>
      simp only [ints, List.map_cons, List.cons.injEq] at h
      obtain rfl : x = y := by omega
      rw [ih h.2]
theorem sm_rowK {w : World} {b c : Nat} {α : Type} {E : El α} {T : TypeId} {l : List α} {cs : Array Value} (hcs : cs.toList = fl E l) (hb : w.heap[b]? = some (.cells cs T (0, 0))) : Ls E w (.slice (some ⟨b, 0, none⟩) l.length c) l := by
  refine Or.inr ⟨b, 0, c, rfl, tk_lt hb, fun j u hj => ?_⟩
  rw [Nat.zero_add, (tk_store hb).1, ← Array.getElem?_toList, hcs]
  exact hj
theorem ex_gr {w : World} {b1 b2 c1 c2 : Nat} (u : Nat) (h1 : w.heap[b1]? = some (.cells (fl EV (exX u)).toArray 58 (0, 0))) (h2 : w.heap[b2]? = some (.cells (fl ED exE).toArray 74 (0, 0))) : GR w.heap.size w (.slice (some ⟨b1, 0, none⟩) 3 c1) (.slice (some ⟨b2, 0, none⟩) 3 c2) (exX u) exE := by
  refine ⟨Or.inl ⟨sm_rowK (E := EV) (l := exX u) rfl h1, fun k hk => ?_⟩, Or.inl ⟨sm_rowK (E := ED) (l := exE) rfl h2, fun k hk => ?_⟩, fun x hx => ?_, fun x hx => ?_, by simp [exX, exE]⟩
  · simp only [Value.ownBlock, Option.some.injEq] at hk
    have := tk_lt h1
    omega
  · simp only [Value.ownBlock, Option.some.injEq] at hk
    have := tk_lt h2
    omega
  · simp only [exX, List.mem_cons, List.not_mem_nil, or_false] at hx
    rcases hx with rfl | rfl | rfl <;> exact ⟨Lz.nil _ _ _, Lz.nil _ _ _⟩
  · simp only [exX, List.mem_cons, List.not_mem_nil, or_false] at hx
    rcases hx with rfl | rfl | rfl <;> simp [exN]
set_option maxRecDepth 100000 in
theorem example_any (u : Nat) (w : World) : Calls Tryz.prog 21 #[.int .u64 (u : Nat)] w fun r w' => r = .returned (.agg (gvc 2 (.slice (some ⟨w.heap.size + 1, 0, none⟩) 3 3) (.slice (some ⟨w.heap.size + 1 + 1, 0, none⟩) 3 3))) ∧ Hid (Below w.heap.size w w' ∧ GR w'.heap.size w' (.slice (some ⟨w.heap.size + 1, 0, none⟩) 3 3) (.slice (some ⟨w.heap.size + 1 + 1, 0, none⟩) 3 3) (exX u) exE) := by
  go_enter Tryz.func21, Tryz.ntmps21
  go_wp2_with fail
  refine bodyPost_ret (v := .agg #[.int .i64 2, .slice (some ⟨w.heap.size + 1, 0, none⟩) 3 3, .slice (some ⟨w.heap.size + 1 + 1, 0, none⟩) 3 3]) (by simp [results, Tryz.results21, go_sem]) rfl ?_
  exact ⟨rfl, ((((Gr.refl w).alloc _).alloc _).alloc _).below, ex_gr u (new3 w _ _ _).2.1 (new3 w _ _ _).2.2⟩
/-- A graph of the example. -/
theorem exNew_any (u : Nat) (hu : u = 0 ∨ u = 1) {b1 b2 : Nat} (w : World) (h : GR w.heap.size w (.slice (some ⟨b1, 0, none⟩) 3 3) (.slice (some ⟨b2, 0, none⟩) 3 3) (exX u) exE) : Calls Tryz.prog 8 #[.agg (gvc 2 (.slice (some ⟨b1, 0, none⟩) 3 3) (.slice (some ⟨b2, 0, none⟩) 3 3))] w fun r w' => ∃ gb, r = .returned (.tuple #[.pointer (some ⟨gb, 0, none⟩), .int .i64 0, .int .i64 0]) ∧ Hid (Below w.heap.size w w' ∧ Gm w.heap.size w' gb (exG u)) := by
  refine (new_any (a := 2) w h ⟨?_, ?_⟩).mono ?_
  · intro p n c e
    simp only [Value.slice.injEq] at e
    omega
  · intro x hx
    simp only [exX, List.mem_cons, List.not_mem_nil, or_false] at hx
    rcases hx with rfl | rfl | rfl <;> simp [exN]
  · rintro r w' ⟨hb, e, t, hfl, hr⟩
    obtain ⟨rfl, rfl⟩ := hfl.same (ex_fl u hu)
    rcases hr with ⟨h0, _⟩ | ⟨_, gb, rfl, hm⟩
    · exact absurd rfl h0
    · exact ⟨gb, rfl, hb, hm⟩
end Go.Proofs.YtpgodnaebkmhhaaGreat.Df
