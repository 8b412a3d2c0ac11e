import Derived.Test.YtifjjnnpoleinaaRtNil
import Derived.BigQuiet
namespace Go.Proofs.Ytifjjnnpoleinaa.Df
open Go.RowKit Go.Sort Go.Shelf
attribute [local go_sem ↓] Go.wp_at_zero Go.wp_at_succ

def rsN (k i o : Int) : NV := ⟨⟨k, i, o, [], (0, 0, 0), 0, [], false⟩, none, 0, 0, none, 0, 0⟩
def rsX : List NV := [rsN 1 0 1, rsN 6 1 1, rsN 7 1 0]
def rsE : List Edg := [⟨0, 0, 1, 0, true⟩, ⟨0, 0, 2, 0, false⟩]
theorem rs_ng : NG (gof 1 rsX rsE) 3 := by
  intro j n hj hn
  rcases (by omega : j = 0 ∨ j = 1 ∨ j = 2) with rfl | rfl | rfl <;> simp [rsX, rsN] at hn <;> subst hn <;> rfl
theorem rs_fl : Fl (gof 1 rsX rsE) 0 0 := by
  refine Fl.none (by decide) (by decide) (by decide) (by decide) rs_ng ?_
  intro j d hj hd
  have hj : j < 2 := hj
  rcases (by omega : j = 0 ∨ j = 1) with rfl | rfl <;> simp [rsE] at hd <;> subst hd <;> rfl
def rsQ : Rx := ⟨4, 0, 0, 7, 5⟩
theorem rs_sends : sends (gof 1 rsX rsE) 0 rsQ 0 2 = [⟨tow 7 2, 1, rsQ⟩, ⟨0, 3, rsQ⟩] := by decide
theorem rs_hash : hsh 0 = 0 ∧ hsh 1 = 6238072747940578789 ∧ tow 5 9 = -1 := by decide
def rsB : Array Value := (fl EV rsX).toArray
def rsD : Array Value := (fl ED rsE).toArray
theorem rs_row {w : World} {b c : Nat} {α : Type} {E : El α} {T : TypeId} {l : List α} {cs : Array Value} (hcs : cs.toList = fl E l) (hb : w.heap[b]? = some (.cells cs T (0, 0))) : Ls E w (.slice (some ⟨b, 0, none⟩) l.length c) l := by
  refine Or.inr ⟨b, 0, c, rfl, tk_lt hb, fun j u hj => ?_⟩
  rw [Nat.zero_add, (tk_store hb).1, ← Array.getElem?_toList, hcs]
  exact hj
/-- The small graph as it lies. -/
theorem rs_gr {w : World} {b1 b2 c1 c2 : Nat} (h1 : w.heap[b1]? = some (.cells rsB 68 (0, 0))) (h2 : w.heap[b2]? = some (.cells rsD 47 (0, 0))) : GR w.heap.size w (.slice (some ⟨b1, 0, none⟩) 3 c1) (.slice (some ⟨b2, 0, none⟩) 2 c2) rsX rsE := by
  refine ⟨Or.inl ⟨rs_row (E := EV) (l := rsX) rfl h1, fun k hk => ?_⟩, Or.inl ⟨rs_row (E := ED) (l := rsE) rfl h2, fun k hk => ?_⟩, fun x hx => ?_, fun x hx => ?_, by decide⟩
  · simp only [Value.ownBlock, Option.some.injEq] at hk
    have := tk_lt h1
    omega
  · simp only [Value.ownBlock, Option.some.injEq] at hk
    have := tk_lt h2
    omega
  · simp only [rsX, List.mem_cons, List.not_mem_nil, or_false] at hx
    rcases hx with rfl | rfl | rfl <;> exact ⟨Lz.nil _ _ _, Lz.nil _ _ _⟩
  · simp only [rsX, List.mem_cons, List.not_mem_nil, or_false] at hx
    rcases hx with rfl | rfl | rfl <;> simp [rsN]
theorem rs_cap (q : Option Addr) : Gcap (.slice q 2 2) rsX := by
  refine ⟨fun p n c e => ?_, fun x hx => ?_⟩
  · simp only [Value.slice.injEq] at e
    omega
  · simp only [rsX, List.mem_cons, List.not_mem_nil, or_false] at hx
    rcases hx with rfl | rfl | rfl <;> simp [rsN]
theorem new_rs {w : World} {b1 b2 : Nat} (h1 : w.heap[b1]? = some (.cells rsB 68 (0, 0))) (h2 : w.heap[b2]? = some (.cells rsD 47 (0, 0))) : Calls Try.prog 7 #[.agg (gvc 1 (.slice (some ⟨b1, 0, none⟩) 3 3) (.slice (some ⟨b2, 0, none⟩) 2 2))] w fun r w' => ∃ gb, r = .returned (.tuple #[.pointer (some ⟨gb, 0, none⟩), .int .i64 0, .int .i64 0]) ∧ Hid (Below w.heap.size w w' ∧ Gm w.heap.size w' gb (gof 1 rsX rsE)) := by
  refine (new_any w (rs_gr h1 h2) (rs_cap _)).mono ?_
  rintro r w' ⟨hb, e, t, hf, h⟩
  obtain ⟨rfl, rfl⟩ := hf.same rs_fl
  rcases h with ⟨h, _⟩ | ⟨_, gb, rfl, hm⟩
  · exact absurd rfl h
  · exact ⟨gb, rfl, hb, hm⟩
end Go.Proofs.Ytifjjnnpoleinaa.Df
