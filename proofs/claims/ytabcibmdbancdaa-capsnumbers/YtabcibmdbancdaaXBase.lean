import Derived.Test.YtabcibmdbancdaaRows
import Derived.Test.YtabcibmdbancdaaGr
import Derived.Test.YtabcibmdbancdaaLRow
import Derived.Maps.OwnOps
import Derived.Maps.OwnSet
import Derived.Maps.RangeWalk
import Derived.Maps.Ext
import Derived.Sort.KeysCollected
import Derived.Lib.SlKeysI
namespace Go.Proofs.Ytabcibmdbancdaa
open Go.RowKit Go.Sort Go.Maps

/-- A stamp: its place, its time's numbers. -/
abbrev Sp := Int × Int × Int × Int
/-- What is held: a number, a stamp. -/
abbrev Hd := Int × Sp
abbrev sv (s : Sp) : Value := .agg #[.int .i64 s.1, .int .u64 s.2.1, .int .u64 s.2.2.1, .int .u64 s.2.2.2]
abbrev hv (h : Hd) : Value := .agg #[.int .i64 h.1, .int .i64 h.2.1, .int .u64 h.2.2.1, .int .u64 h.2.2.2.1, .int .u64 h.2.2.2.2]
theorem sv_inj {s t : Sp} (h : sv s = sv t) : s = t := by
  obtain ⟨p, a, b, c⟩ := s
  obtain ⟨p', a', b', c'⟩ := t
  simpa using h
/-- A stamp as a map's element. -/
def sd (s : Sp) : DataW Unit := .agg [.lit (.int .i64 s.1), .lit (.int .u64 s.2.1), .lit (.int .u64 s.2.2.1), .lit (.int .u64 s.2.2.2)]
theorem sd_inj {s t : Sp} (h : sd s = sd t) : s = t := by
  obtain ⟨p, a, b, c⟩ := s
  obtain ⟨p', a', b', c'⟩ := t
  simpa [sd] using h
open Classical in
noncomputable def stE (v : Value) : Option (DataW Unit × List MemPlace) := if h : ∃ s, v = sv s then some (sd h.choose, []) else none
theorem stE_mk (s : Sp) : stE (sv s) = some (sd s, []) := by
  have h : ∃ t, sv s = sv t := ⟨s, rfl⟩
  unfold stE
  rw [dif_pos h, ← sv_inj h.choose_spec]
theorem stE_inv {v : Value} {z : DataW Unit × List MemPlace} (h : stE v = some z) : ∃ s, v = sv s ∧ z = (sd s, []) := by
  unfold stE at h
  split at h
  · rename_i hs
    exact ⟨hs.choose, hs.choose_spec, (Option.some.inj h).symm⟩
  · cases h

/-- What is held under a number. -/
def look : List Hd → Int → Option Sp
  | [], _ => none
  | h :: l, i => if h.1 = i then some h.2 else look l i
/-- The numbers rise, from 1 to the last. -/
structure Ri (last : Int) (L : List Hd) : Prop where
  up : L.Pairwise fun x y => x.1 < y.1
  bd : ∀ h ∈ L, 1 ≤ h.1 ∧ h.1 ≤ last
def setL (L : List Hd) (i : Int) (s : Sp) : List Hd := L.map fun h => if h.1 = i then (i, s) else h
def dropL (L : List Hd) (i : Int) : List Hd := L.filter fun h => h.1 ≠ i
theorem look_none {L : List Hd} {i : Int} : look L i = none ↔ ∀ h ∈ L, h.1 ≠ i := by
  induction L with
  | nil => simp [look]
  | cons x l ih =>
    unfold look
    by_cases e : x.1 = i
    · rw [if_pos e]; simp [e]
    · rw [if_neg e, ih]
      simp only [List.forall_mem_cons]
      exact ⟨fun h => ⟨e, h⟩, fun h => h.2⟩
theorem look_mem {L : List Hd} {i : Int} {s : Sp} (h : look L i = some s) : (i, s) ∈ L := by
  induction L with
  | nil => simp [look] at h
  | cons x l ih =>
    unfold look at h
    by_cases e : x.1 = i
    · rw [if_pos e] at h
      obtain rfl := Option.some.inj h
      rw [← e]
      exact List.mem_cons_self
    · rw [if_neg e] at h
      exact List.mem_cons_of_mem _ (ih h)
theorem mem_look {L : List Hd} (hu : L.Pairwise fun x y => x.1 < y.1) {x : Hd} (h : x ∈ L) : look L x.1 = some x.2 := by
  induction L with
  | nil => cases h
  | cons y l ih =>
    rw [List.pairwise_cons] at hu
    unfold look
    rcases List.mem_cons.1 h with rfl | h
    · rw [if_pos rfl]
    · rw [if_neg (by have := hu.1 x h; omega)]
      exact ih hu.2 h
theorem look_new (L : List Hd) (i : Int) (s : Sp) (hn : look L i = none) (j : Int) : look (L ++ [(i, s)]) j = if j = i then some s else look L j := by
  induction L with
  | nil =>
    simp only [List.nil_append, look]
    by_cases e : j = i
    · rw [if_pos e.symm, if_pos e]
    · rw [if_neg (fun h => e h.symm), if_neg e]
  | cons x l ih =>
    have hx := (look_none.1 hn) x List.mem_cons_self
    have hl : look l i = none := look_none.2 fun h hh => look_none.1 hn h (List.mem_cons_of_mem _ hh)
    rw [List.cons_append]
    unfold look
    by_cases e : x.1 = j
    · rw [if_pos e, if_pos e, if_neg (by omega)]
    · rw [if_neg e, if_neg e]
      exact ih hl
theorem look_set (L : List Hd) (i : Int) (s : Sp) (hn : look L i ≠ none) (j : Int) : look (setL L i s) j = if j = i then some s else look L j := by
  induction L with
  | nil => simp [look] at hn
  | cons x l ih =>
    show look ((if x.1 = i then (i, s) else x) :: setL l i s) j = _
    by_cases e : x.1 = i
    · rw [if_pos e]
      unfold look
      by_cases ej : j = i
      · rw [if_pos ej.symm, if_pos ej]
      · rw [if_neg (fun h => ej h.symm), if_neg ej, if_neg (fun h => ej (by omega))]
        by_cases hl : look l i = none
        · have hs : setL l i s = l := by
            unfold setL
            conv => rhs; rw [← List.map_id l]
            refine List.map_congr_left fun h hh => ?_
            rw [if_neg (look_none.1 hl h hh)]; rfl
          rw [hs]
        · rw [ih hl, if_neg ej]
    · rw [if_neg e]
      have hl : look l i ≠ none := fun h => hn (by unfold look; rw [if_neg e]; exact h)
      unfold look
      by_cases ej : x.1 = j
      · rw [if_pos ej, if_pos ej, if_neg (by omega)]
      · rw [if_neg ej, if_neg ej]; exact ih hl
theorem look_drop (L : List Hd) (i j : Int) : look (dropL L i) j = if j = i then none else look L j := by
  induction L with
  | nil => simp [dropL, look]
  | cons x l ih =>
    by_cases e : x.1 = i
    · have : dropL (x :: l) i = dropL l i := by unfold dropL; rw [List.filter_cons_of_neg (by simp [e])]
      rw [this, ih]
      by_cases ej : j = i
      · rw [if_pos ej, if_pos ej]
      · rw [if_neg ej, if_neg ej]; conv => rhs; unfold look
        rw [if_neg (by omega)]
    · have : dropL (x :: l) i = x :: dropL l i := by unfold dropL; rw [List.filter_cons_of_pos (by simp [e])]
      rw [this]
      unfold look
      by_cases ej : x.1 = j
      · rw [if_pos ej, if_pos ej, if_neg (by omega)]
      · rw [if_neg ej, if_neg ej]; exact ih
section
variable {last : Int} {L : List Hd}
theorem Ri.nil (last : Int) : Ri last [] := ⟨List.Pairwise.nil, fun _ h => by cases h⟩
theorem Ri.fresh (h : Ri last L) : look L (last + 1) = none := look_none.2 fun x hx => by have := (h.bd x hx).2; omega
theorem Ri.mint (h : Ri last L) (h0 : 0 ≤ last) (s : Sp) : Ri (last + 1) (L ++ [(last + 1, s)]) := by
  refine ⟨List.pairwise_append.2 ⟨h.up, List.pairwise_singleton _ _, fun x hx y hy => ?_⟩, fun x hx => ?_⟩
  · rw [List.mem_singleton] at hy
    subst hy
    have := (h.bd x hx).2
    show x.1 < last + 1
    omega
  · rcases List.mem_append.1 hx with hx | hx
    · have := h.bd x hx; exact ⟨this.1, by omega⟩
    · rw [List.mem_singleton] at hx
      subst hx
      exact ⟨by show 1 ≤ last + 1; omega, Int.le_refl _⟩
theorem Ri.set (h : Ri last L) (i : Int) (s : Sp) : Ri last (setL L i s) := by
  have hk : ∀ x : Hd, (if x.1 = i then (i, s) else x).1 = x.1 := fun x => by split <;> simp_all
  refine ⟨?_, fun x hx => ?_⟩
  · unfold setL
    rw [List.pairwise_map]
    exact h.up.imp fun {a b} hab => by rw [hk, hk]; exact hab
  · obtain ⟨y, hy, rfl⟩ := List.mem_map.1 hx
    rw [hk]
    exact h.bd y hy
theorem Ri.drop (h : Ri last L) (i : Int) : Ri last (dropL L i) :=
  ⟨h.up.filter _, fun x hx => h.bd x (List.mem_filter.1 hx).1⟩
theorem Ri.nodup (h : Ri last L) : (L.map (·.1)).Nodup := by
  unfold List.Nodup
  rw [List.pairwise_map]
  exact h.up.imp fun {a b} hab => by omega
theorem Ri.len (h : Ri last L) (h0 : 0 ≤ last) : (L.length : Int) ≤ last := by
  have key : ∀ (l : List Hd) (lo : Int), l.Pairwise (fun x y => x.1 < y.1) → (∀ x ∈ l, lo < x.1 ∧ x.1 ≤ last) → lo ≤ last → (l.length : Int) ≤ last - lo := by
    intro l
    induction l with
    | nil => intro lo _ _ h; simp; omega
    | cons x l ih =>
      intro lo hu hb hlo
      rw [List.pairwise_cons] at hu
      have h1 := hb x List.mem_cons_self
      have := ih x.1 hu.2 (fun y hy => ⟨hu.1 y hy, (hb y (List.mem_cons_of_mem _ hy)).2⟩) h1.2
      rw [List.length_cons]
      omega
  have := key L 0 h.up (fun x hx => by have := h.bd x hx; omega) h0
  omega
theorem setL_length (L : List Hd) (i : Int) (s : Sp) : (setL L i s).length = L.length := List.length_map ..
end

/-- Block b is a map: what L holds. -/
def Hm (w : World) (b : Nat) (L : List Hd) : Prop :=
  ∃ (D : DataW Unit), w.ownsMap Try.prog 3 stE b L.length D ∧ (∀ i, Maps.has D (.int .i64 i) = (look L i).isSome) ∧ (∀ i s, look L i = some s → ∀ zd, D.atKey (.int .i64 i) zd = sd s) ∧ (L.map (·.1)).Nodup
section
variable {w w' : World} {b : Nat} {L : List Hd} {D : DataW Unit}
theorem Hm.lt (h : Hm w b L) : b < w.heap.size := by obtain ⟨D, h, _⟩ := h; exact h.lt
theorem Hm.kept (h : Hm w b L) (hb : w'.heap[b]? = w.heap[b]?) : Hm w' b L := by
  obtain ⟨D, ⟨es, clock, h1, h2⟩, h3⟩ := h
  exact ⟨D, ⟨es, clock, hb.trans h1, h2⟩, h3⟩
theorem Hm.not_cells (h : Hm w b L) {cs : Array Value} {t : TypeId} {fr : Nat × Nat} : w.heap[b]? ≠ some (.cells cs t fr) := fun e => by
  obtain ⟨D, ⟨es, clock, h1, h2⟩, h3⟩ := h
  rw [h1] at e
  cases e
theorem Hm.made (w : World) : Hm (w.alloc (.map #[] 0)) w.heap.size [] :=
  ⟨.map [], World.ownsMap_made _ _ _ _, fun _ => rfl, fun _ _ h => (by cases h), List.nodup_nil⟩
/-- The keys of the datum. -/
theorem keys_perm' {n : Nat} (h : w.ownsMap Try.prog 3 stE b n D) (h2 : ∀ i, Maps.has D (.int .i64 i) = (look L i).isSome) (hn : (L.map (·.1)).Nodup) : (L.map (·.1)).Perm (intKeys D) := by
  obtain ⟨es, hD, hpw, hik⟩ := h.entries (int_keyed Try.underlying3)
  obtain ⟨es', hD', hko⟩ := h.keysOf
  subst hD
  cases hD'
  refine perm_intKeys hpw (fun p hp => ?_) hn fun x => ?_
  · obtain ⟨v, hv⟩ := hko p hp
    obtain ⟨y, _, hy, _⟩ := Maps.keyOf_i64 Try.underlying3 hv
    exact ⟨y, hy⟩
  · rw [h2]
    cases hq : look L x with
    | none =>
      constructor
      · intro hx
        obtain ⟨y, hy, e⟩ := List.mem_map.1 hx
        exact absurd e (look_none.1 hq y hy)
      · intro h
        cases h
    | some s => exact ⟨fun _ => rfl, fun _ => List.mem_map.2 ⟨_, look_mem hq, rfl⟩⟩
theorem size_keys (hD : ∃ es, D = .map es) : (intKeys D).length = Maps.size D := by
  obtain ⟨es, rfl⟩ := hD
  simp [intKeys, Maps.size]
theorem size_eq {n : Nat} (h : w.ownsMap Try.prog 3 stE b n D) (h2 : ∀ i, Maps.has D (.int .i64 i) = (look L i).isSome) (hn : (L.map (·.1)).Nodup) : Maps.size D = L.length := by
  have h3 := (keys_perm' h h2 hn).length_eq
  obtain ⟨es, hD, _⟩ := h.entries (int_keyed Try.underlying3)
  rw [size_keys ⟨es, hD⟩] at h3
  simpa using h3.symm
theorem owns_tight {n : Nat} (h : w.ownsMap Try.prog 3 stE b n D) : w.ownsMap Try.prog 3 stE b (Maps.size D) D := by
  obtain ⟨es, clock, hb, F, hs, hD⟩ := h
  refine ⟨es, clock, hb, F, ?_, hD⟩
  rw [hD]
  simp [Maps.size, length_sorted]
theorem Hm.put (h1 : ∀ i, Maps.has D (.int .i64 i) = (look L i).isSome) (h2 : ∀ i s, look L i = some s → ∀ zd, D.atKey (.int .i64 i) zd = sd s) {M : List Hd} {i : Int} {s : Sp} (hD : IsMap D) (hw : (Lit.int .i64 i).wf = true)
    (hM : ∀ j, look M j = if j = i then some s else look L j) (hn : (M.map (·.1)).Nodup) {n : Nat} (ho : w'.ownsMap Try.prog 3 stE b n (D.put (.int .i64 i) (sd s))) : Hm w' b M := by
  have hk : WideAt.IsKeyLit (.int .i64 i) := (int_keyed Try.underlying3).key (keyOf_int_mk Try.underlying3 hw)
  have e1 : ∀ j, Maps.has (D.put (.int .i64 i) (sd s)) (.int .i64 j) = (look M j).isSome := fun j => by
    rw [hM]
    by_cases e : j = i
    · subst e; rw [if_pos rfl, has_put_same hD hk]; rfl
    · rw [if_neg e, has_put_other (fun h => e (by simpa using h))]; exact h1 j
  refine ⟨_, ?_, e1, fun j t hj zd => ?_, hn⟩
  · have := owns_tight ho
    rwa [size_eq ho e1 hn] at this
  · rw [hM] at hj
    by_cases e : j = i
    · subst e
      rw [if_pos rfl] at hj
      cases hj
      exact atKey_put_same hD hk _ _
    · rw [if_neg e] at hj
      rw [atKey_put_other (fun h => e (by simpa using h))]
      exact h2 j t hj zd
theorem Hm.del (h1 : ∀ i, Maps.has D (.int .i64 i) = (look L i).isSome) (h2 : ∀ i s, look L i = some s → ∀ zd, D.atKey (.int .i64 i) zd = sd s) {M : List Hd} {i : Int}
    (hM : ∀ j, look M j = if j = i then none else look L j) (hn : (M.map (·.1)).Nodup) {n : Nat} (ho : w'.ownsMap Try.prog 3 stE b n (D.del (.int .i64 i))) : Hm w' b M := by
  have e1 : ∀ j, Maps.has (D.del (.int .i64 i)) (.int .i64 j) = (look M j).isSome := fun j => by
    rw [hM]
    by_cases e : j = i
    · subst e; rw [if_pos rfl, has_del_same]; rfl
    · rw [if_neg e, has_del_other (fun h => e (by simpa using h))]; exact h1 j
  refine ⟨_, ?_, e1, fun j t hj zd => ?_, hn⟩
  · have := owns_tight ho
    rwa [size_eq ho e1 hn] at this
  · rw [hM] at hj
    by_cases e : j = i
    · subst e
      rw [if_pos rfl] at hj
      cases hj
    · rw [if_neg e] at hj
      rw [atKey_del_other (fun h => e (by simpa using h))]
      exact h2 j t hj zd
end
theorem zeroS (w : World) : (zeroValue 31).run Try.prog w = .ok (sv (0, 0, 0, 0)) w := by kernel_rfl
end Go.Proofs.Ytabcibmdbancdaa
