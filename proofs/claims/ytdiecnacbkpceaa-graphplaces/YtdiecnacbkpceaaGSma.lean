import Derived.Test.YtdiecnacbkpceaaGNil2
import Derived.Test.YtdiecnacbkpceaaGNew
namespace Go.Proofs.Ytdiecnacbkpceaa.Df
open Go.RowKit Go.Sort
attribute [local go_sem ↓] Go.wp_at_zero Go.wp_at_succ

def smN (k i o : Int) : NV := ⟨⟨k, i, o, [], (0, 0, 0), 0, [], false⟩, none, 0, 0, none, 0, 0⟩
def smX : List NV := [smN 1 0 1, smN 6 1 1, smN 7 1 0]
def smE (k : Bool) : List Edg := [⟨0, 0, 1, 0, k⟩, ⟨1, 0, 2, 0, false⟩]
theorem sm_ng (k : Bool) : NG (gof 1 smX (smE k)) 3 := by
  intro j n hj hn
  rcases (by omega : j = 0 ∨ j = 1 ∨ j = 2) with rfl | rfl | rfl <;> simp [smX, smN] at hn <;> subst hn <;> rfl
theorem sm_fl : Fl (gof 1 smX (smE true)) 0 0 := by
  refine Fl.none (by decide) (by decide) (by decide) (by decide) (sm_ng true) ?_
  intro j d hj hd
  have hj : j < 2 := hj
  rcases (by omega : j = 0 ∨ j = 1) with rfl | rfl <;> simp [smE] at hd <;> subst hd <;> rfl
theorem sm_odd : Fl (gof 1 smX (smE false)) 26 3 := Fl.edge 0 ⟨0, 0, 1, 0, false⟩ (by decide) (by decide) (by decide) (by decide) (sm_ng false) rfl (fun j d hj => by omega) (by decide)
theorem sm_places : plN (smX.map NV.n) = 4 ∧ outN (smX.map NV.n) 1 0 = 2 ∧ inN (smX.map NV.n) 2 0 = 3 := by decide
/-- The cells of a list, as a block. -/
def smB : Array Value := (fl EV smX).toArray
def smD (k : Bool) : Array Value := (fl ED (smE k)).toArray
theorem sm_row {w : World} {b c : Nat} {α : Type} {E : El α} {T : TypeId} {l : List α} {cs : Array Value} (hcs : cs.toList = fl E l) (hb : w.heap[b]? = some (.cells cs T (0, 0))) : Ls E w (.slice (some ⟨b, 0, none⟩) l.length c) l := by
  refine Or.inr ⟨b, 0, c, rfl, tk_lt hb, fun j u hj => ?_⟩
  rw [Nat.zero_add, (tk_store hb).1, ← Array.getElem?_toList, hcs]
  exact hj
/-- The small graph as it lies. -/
theorem sm_gr {w : World} {b1 b2 c1 c2 : Nat} (k : Bool) (h1 : w.heap[b1]? = some (.cells smB 39 (0, 0))) (h2 : w.heap[b2]? = some (.cells (smD k) 47 (0, 0))) : GR w.heap.size w (.slice (some ⟨b1, 0, none⟩) 3 c1) (.slice (some ⟨b2, 0, none⟩) 2 c2) smX (smE k) := by
  refine ⟨Or.inl ⟨sm_row (E := EV) (l := smX) rfl h1, fun k hk => ?_⟩, Or.inl ⟨sm_row (E := ED) (l := smE k) rfl h2, fun k hk => ?_⟩, fun x hx => ?_, fun x hx => ?_, by cases k <;> decide⟩
  · simp only [Value.ownBlock, Option.some.injEq] at hk
    have := tk_lt h1
    omega
  · simp only [Value.ownBlock, Option.some.injEq] at hk
    have := tk_lt h2
    omega
  · simp only [smX, List.mem_cons, List.not_mem_nil, or_false] at hx
    rcases hx with rfl | rfl | rfl <;> exact ⟨Lz.nil _ _ _, Lz.nil _ _ _⟩
  · simp only [smX, List.mem_cons, List.not_mem_nil, or_false] at hx
    rcases hx with rfl | rfl | rfl <;> simp [smN]
set_option maxRecDepth 100000 in
theorem small_any (w : World) : Calls Try.prog 30 #[] w fun r w' => r = .returned (.agg (gvc 1 (.slice (some ⟨w.heap.size + 1, 0, none⟩) 3 3) (.slice (some ⟨w.heap.size + 1 + 1, 0, none⟩) 2 2))) ∧ Hid (Below w.heap.size w w' ∧ w'.heap[w.heap.size + 1]? = some (.cells smB 39 (0, 0)) ∧ w'.heap[w.heap.size + 1 + 1]? = some (.cells (smD true) 47 (0, 0)) ∧ w'.heap.size = w.heap.size + 3) := by
  go_enter Try.func30, Try.ntmps30
  go_wp2_with fail
  refine bodyPost_ret (v := .agg #[.int .i64 1, .slice (some ⟨w.heap.size + 1, 0, none⟩) 3 3, .slice (some ⟨w.heap.size + 1 + 1, 0, none⟩) 2 2]) (by simp [results, Try.results30, go_sem]) rfl ?_
  exact ⟨rfl, ((((Gr.refl w).alloc _).alloc _).alloc _).below, (new3 w _ _ _).2.1, (new3 w _ _ _).2.2, by simp⟩
end Go.Proofs.Ytdiecnacbkpceaa.Df
