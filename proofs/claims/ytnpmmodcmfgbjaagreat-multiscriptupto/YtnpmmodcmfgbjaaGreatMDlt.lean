import Derived.Test.YtnpmmodcmfgbjaaGreatMRen
import Derived.Test.YtnpmmodcmfgbjaaGreatMBtw
namespace Go.Proofs.YtnpmmodcmfgbjaaGreat
open Go.RowKit Go.Sort Go.Maps

/-- Those of the one list that are not in the other. -/
def mis (a b : List Tm) : List Tm := a.filter fun t => !decide (t ∈ b)
/-- What leads from one front to another. -/
def dlt (a b : List Tm) : List Dl := (stT (mis a b ++ mis b a)).map fun t => (t, if t ∈ b then 1 else -1)
/-- What leads from one front to another, by a list of the times that is in order. -/
theorem stT_eq {l m : List Tm} (hl : l.Nodup) (hm : m.Pairwise fun a b => tol a b = true) (h : ∀ x, x ∈ m ↔ x ∈ l) : stT l = m :=
  sorted_same ords (stT_sorted hl) hm fun x => srtBy_mem.trans (h x).symm
theorem mis_nodup {a b : List Tm} (ha : a.Nodup) (hb : b.Nodup) : (mis a b ++ mis b a).Nodup := by
  refine List.nodup_append.2 ⟨ha.filter _, hb.filter _, fun x hx y hy e => ?_⟩
  subst e
  have h1 : x ∉ b := by simpa using (List.mem_filter.1 hx).2
  exact h1 (List.mem_filter.1 hy).1
theorem mem_mis {a b : List Tm} {x : Tm} : x ∈ mis a b ++ mis b a ↔ (x ∈ a ∧ x ∉ b) ∨ (x ∈ b ∧ x ∉ a) := by
  simp [mis, List.mem_filter]
theorem dlt_eq {a b m : List Tm} (ha : a.Nodup) (hb : b.Nodup) (hm : m.Pairwise fun a b => tol a b = true) (h : ∀ x, x ∈ m ↔ (x ∈ a ∧ x ∉ b) ∨ (x ∈ b ∧ x ∉ a)) : dlt a b = m.map fun t => (t, if t ∈ b then 1 else -1) := by
  unfold dlt
  rw [stT_eq (mis_nodup ha hb) hm fun x => (h x).trans mem_mis.symm]

theorem tol_nd {l : List Tm} (h : l.Pairwise fun a b => tol a b = true) : l.Nodup := h.imp fun {a b} hab e => by subst e; rw [ords.irr] at hab; cases hab
theorem btw_dlt {l m : List Tm} (hs : l.Pairwise fun a b => tol a b = true) (ht : m.Pairwise fun a b => tol a b = true) : btw tol l m = dlt l m := by
  obtain ⟨h1, h2, h3⟩ := btw_keys ords hs ht
  rw [dlt_eq (tol_nd hs) (tol_nd ht) h1 h2]
  refine h3.trans (List.map_congr_left fun t _ => ?_)
  by_cases h : t ∈ m <;> simp [h]
theorem owns_room {w : World} {base : Nat} {e : TypeId} {size : Nat} {v : Value} {n : Nat} {xs : List Value} (h : w.ownsRow base e size v n xs) : ∀ p k c, v = .slice p k c → k ≤ c := by
  intro p k c hv
  obtain ⟨_, ⟨h0, _⟩ | ⟨g, cap, cur, h0, _, _, h1, _⟩⟩ := h
  · rw [h0] at hv
    simp only [Value.slice.injEq] at hv
    omega
  · rw [h0] at hv
    simp only [Value.slice.injEq] at hv
    omega
theorem between_any {b1 b2 : Nat} (v u : Value) (l m : List Tm) (w : World) (hv : w.ownsRow b1 37 3 v l.length (flT l)) (hu : w.ownsRow b2 37 3 u m.length (flT m)) (hl : (l.length + m.length) * 32 ≤ 140737488355328) (hs : l.Pairwise fun a b => tol a b = true) (ht : m.Pairwise fun a b => tol a b = true) :
    Calls Tryz.prog 42 #[v, u] w fun e w' => ∃ v', e = .returned v' ∧ w'.ownsRow w.heap.size 54 4 v' (dlt l m).length (fl ED (dlt l m)) ∧ Below w.heap.size w w' := by
  rw [← btw_dlt hs ht]
  exact between0_any v u l m w (owns_lst hv) (owns_lst hu) (owns_room hv) (owns_room hu) hl
end Go.Proofs.YtnpmmodcmfgbjaaGreat
