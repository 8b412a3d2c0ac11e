import Derived.Test.YtghpekkncfckaaaLRow
import Derived.Shelf.GgSortFunc.InsertionK
import Derived.Shelf.SlSortCmp.Kit1
namespace Go.Proofs.Ytghpekkncfckaaa
open Go.RowKit Go.Sort Go.Shelf Go.Lib
section
variable {α : Type} [Inhabited α] {E : El α}
theorem flatK_fl (hk : 0 < E.k) (ts : List α) : flatK E.enc E.k ts.toArray = (fl E ts).toArray := by
  refine ext_get! (by rw [size_flatK]; simp [fl_length]) fun t ht => ?_
  rw [size_flatK] at ht
  have ht' : t < ts.length * E.k := by simpa using ht
  have hq : t / E.k < ts.length := (Nat.div_lt_iff_lt_mul hk).2 ht'
  rw [get_flatK _ _ _ t ht]
  have h1 := fl_get E ts (t / E.k) (t % E.k) ts[t / E.k] (by simp) (Nat.mod_lt _ hk)
  rw [Nat.div_add_mod'] at h1
  have h3 : (ts.toArray)[t / E.k]! = ts[t / E.k] := by simp [hq]
  rw [h3]
  have h4 : ((fl E ts).toArray)[t]! = ((fl E ts)[t]?).getD default := by simp
  rw [h4, h1]
  simp
theorem holdsK_of_owns (hk : 0 < E.k) {w : World} {base : Nat} {e : TypeId} {g cap : Nat} {ts : List α} (h : w.ownsRow base e E.k (.slice (some ⟨g, 0, none⟩) ts.length cap) ts.length (fl E ts)) : HoldsK E.enc E.k w g 0 ts.toArray := by
  obtain ⟨_, ⟨h0, _⟩ | ⟨g', cap', cur, hv, hg, hh, hc1, hc2, hsz, htk⟩⟩ := id h
  · cases h0
  cases hv
  unfold HoldsK
  rw [flatK_fl hk]
  intro j hj
  have hj' : j < (fl E ts).length := by simpa using hj
  refine ⟨?_, ?_⟩
  · have := h.cells (g := g) rfl j _ (List.getElem?_eq_getElem hj')
    rw [addA] at this
    rw [this]
    simp [hj']
  · simp only [World.frozen?, hh]
    simp
theorem heap_sortWorldK (hk : 0 < E.k) {w : World} {g n : Nat} {os : Array Obj} {cur : Array Value} {e : TypeId} (us : List α) (hb : w.heap[g]? = some (.cells cur e (0, 0))) :
    (sortWorldK E.enc E.k w g 0 n us.toArray os).heap[g]? = some (.cells (putCells id 0 (fl E us).toArray cur) e (0, 0)) := by
  have hg : g < w.heap.size := (Array.getElem?_eq_some_iff.1 hb).1
  unfold sortWorldK putRowK
  rw [flatK_fl hk, heap_grow_old _ _ (by simpa using hg)]
  simp [putRow, mapBlock, Sort.ahead, Array.getElem?_modify, hb, onCells]
theorem take_put_id (cur : Array Value) (vs : List Value) (h : vs.length ≤ cur.size) : (putCells id 0 vs.toArray cur).toList.take vs.length = vs := by
  apply List.ext_getElem?
  intro j
  by_cases hj : j < vs.length
  · rw [List.getElem?_take_of_lt hj, Array.getElem?_toList]
    simp [putCells, hj, show j < cur.size by omega]
  · rw [List.getElem?_take_eq_none (by omega), List.getElem?_eq_none (by omega)]
/-- A row that was sorted. -/
theorem owns_sorted (hk : 0 < E.k) {w : World} {base : Nat} {e : TypeId} {g cap n : Nat} {ts us : List α} {os : Array Obj} (h : w.ownsRow base e E.k (.slice (some ⟨g, 0, none⟩) ts.length cap) ts.length (fl E ts)) (hl : us.length = ts.length) :
    (sortWorldK E.enc E.k w g 0 n us.toArray os).ownsRow base e E.k (.slice (some ⟨g, 0, none⟩) ts.length cap) ts.length (fl E us) := by
  obtain ⟨_, ⟨h0, _⟩ | ⟨g', cap', cur, hv, hg, hh, hc1, hc2, hsz, htk⟩⟩ := id h
  · cases h0
  cases hv
  have hle : (fl E us).length ≤ cur.size := by rw [fl_length, hl, hsz]; exact Nat.mul_le_mul_right _ hc1
  refine ⟨by rw [fl_length, hl], .inr ⟨g, cap, _, rfl, hg, heap_sortWorldK hk us hh, hc1, hc2, by simp [putCells, hsz], ?_⟩⟩
  have := take_put_id cur (fl E us) hle
  rwa [fl_length, hl] at this
theorem kp_sorted {w : World} {g n : Nat} {us : List α} {os : Array Obj} : Kp (fun k => k = g) w (sortWorldK E.enc E.k w g 0 n us.toArray os) := by
  refine ⟨rfl, rfl, rfl, by simp [sortWorldK, putRowK, putRow, mapBlock, Sort.ahead, grow], fun k hk hne => ?_⟩
  unfold sortWorldK putRowK
  rw [heap_grow_old _ _ (by simpa [putRow, mapBlock, Sort.ahead] using hk)]
  have : g ≠ k := fun e => hne e.symm
  simp [putRow, mapBlock, Sort.ahead, Array.getElem?_modify, this]
end

section
variable {K : Type}
/-- In their order. -/
def srtBy (cf : K → K → Int) (ks : List K) : List K := ks.mergeSort fun x y => !(ltOf cf) y x
theorem srtBy_length (cf : K → K → Int) (ks : List K) : (srtBy cf ks).length = ks.length := List.length_mergeSort ..
theorem srtBy_perm (cf : K → K → Int) (ks : List K) : (srtBy cf ks).Perm ks := List.mergeSort_perm ..
theorem srtBy_mem {cf : K → K → Int} {ks : List K} {x : K} : x ∈ srtBy cf ks ↔ x ∈ ks := (srtBy_perm cf ks).mem_iff
theorem srtBy_sorted {cf : K → K → Int} (hO : SWO (ltOf cf)) (a : List K) : (srtBy cf a).Pairwise fun x y => (!(ltOf cf) y x) = true := by
  refine List.pairwise_mergeSort (fun x y z h1 h2 => ?_) (fun x y => ?_) a
  · simp only [Bool.not_eq_true'] at *
    exact hO.ntrans z y x h2 h1
  · cases h1 : ltOf cf y x with
    | false => simp
    | true =>
      cases h2 : ltOf cf x y with
      | false => simp
      | true => have := hO.trans x y x h2 h1; rw [hO.irrefl] at this; cases this
theorem srtBy_of_perm {cf : K → K → Int} (hO : SWO (ltOf cf)) (hT : ∀ x y, ltOf cf x y = false → ltOf cf y x = false → x = y) {a b : List K} (h : a.Perm b) : srtBy cf a = srtBy cf b := by
  refine List.Perm.eq_of_pairwise (le := fun x y => (!(ltOf cf) y x) = true) (fun x y _ _ h1 h2 => ?_) (srtBy_sorted hO a) (srtBy_sorted hO b) (((srtBy_perm cf a).trans h).trans (srtBy_perm cf b).symm)
  simp only [Bool.not_eq_true'] at h1 h2
  exact hT x y h2 h1
end
end Go.Proofs.Ytghpekkncfckaaa
