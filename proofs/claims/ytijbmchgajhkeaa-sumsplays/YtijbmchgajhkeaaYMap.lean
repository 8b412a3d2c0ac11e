import Derived.Test.YtijbmchgajhkeaaGr
import Derived.Maps.OwnOps
import Derived.Maps.OwnSet
import Derived.Maps.RangeWalk
import Derived.Maps.Ext
namespace Go.Proofs.Ytijbmchgajhkeaa
open Go.RowKit Go.Sort Go.Maps

/-- A type of keys: how one lies in a slot, what it reads as. -/
structure KK (P : Program) (k : TypeId) (K : Type) where
  enc : K → Value
  lit : K → Lit
  law : Keyed P k
  key : ∀ s, keyOf P k (enc s) = some (lit s)
  inv : ∀ v l, keyOf P k v = some l → ∃ s, v = enc s ∧ l = lit s
  inj : ∀ s t, lit s = lit t → s = t

/-- A number as a map's element. -/
abbrev nd (n : Int) : DataW Unit := .lit (.int .i64 n)

section
variable {P : Program} {k e : TypeId} {K : Type} [DecidableEq K]
omit [DecidableEq K] in
theorem KK.isKey (Z : KK P k K) (s : K) : WideAt.IsKeyLit (Z.lit s) := Z.law.key (Z.key s)
theorem KK.same (Z : KK P k K) (s t : K) : (Z.lit s).sameKey (Z.lit t) = decide (s = t) := by
  have h := WideAt.sameKey_iff (a := Z.lit s) (Z.isKey t)
  by_cases e : s = t
  · subst e; rw [decide_eq_true rfl]; exact h.2 rfl
  · rw [decide_eq_false e]
    cases hq : (Z.lit s).sameKey (Z.lit t) with
    | false => rfl
    | true => exact absurd (Z.inj _ _ (h.1 hq)) e

/-- The counts with one of them set. -/
def upd (f : K → Int) (s : K) (v : Int) : K → Int := fun t => if t = s then v else f t
omit [DecidableEq K] in
theorem upd_same [DecidableEq K] (f : K → Int) (s : K) (v : Int) : upd f s v s = v := by simp [upd]
omit [DecidableEq K] in
theorem upd_other [DecidableEq K] (f : K → Int) {s t : K} (v : Int) (h : t ≠ s) : upd f s v t = f t := by simp [upd, h]

/-- Block b is a map of at most n entries: the counts f, none of them 0 there. -/
def Ta (Z : KK P k K) (e : TypeId) (w : World) (b n : Nat) (f : K → Int) : Prop :=
  ∃ D : DataW Unit, w.ownsMap P k (plainElem P e) b n D ∧ (∀ s, D.atKey (Z.lit s) (nd 0) = nd (f s)) ∧ ∀ s, Maps.has D (Z.lit s) = decide (f s ≠ 0)
/-- The keys that are in. -/
def Sup (f : K → Int) (ks : List K) : Prop := ks.Nodup ∧ ∀ s, s ∈ ks ↔ f s ≠ 0

variable {Z : KK P k K} {w w' : World} {b n : Nat} {f : K → Int} {D : DataW Unit}
omit [DecidableEq K] in
theorem Ta.lt (h : Ta Z e w b n f) : b < w.heap.size := by obtain ⟨D, h, _⟩ := h; exact h.lt
omit [DecidableEq K] in
theorem Ta.mono (h : Ta Z e w b n f) {m : Nat} (hm : n ≤ m) : Ta Z e w b m f := by obtain ⟨D, h1, h2⟩ := h; exact ⟨D, h1.mono hm, h2⟩
omit [DecidableEq K] in
theorem Ta.kept (h : Ta Z e w b n f) (hb : w'.heap[b]? = w.heap[b]?) : Ta Z e w' b n f := by
  obtain ⟨D, ⟨es, clock, h1, h2⟩, h3⟩ := h
  exact ⟨D, ⟨es, clock, hb.trans h1, h2⟩, h3⟩
omit [DecidableEq K] in
theorem Ta.made (w : World) : Ta Z e (w.alloc (.map #[] 0)) w.heap.size 0 fun _ => 0 :=
  ⟨.map [], World.ownsMap_made _ _ _ _, fun _ => rfl, fun _ => rfl⟩
theorem put_tied (hD : IsMap D) (h1 : ∀ s, D.atKey (Z.lit s) (nd 0) = nd (f s)) (h2 : ∀ s, Maps.has D (Z.lit s) = decide (f s ≠ 0)) (s : K) (v : Int) (hv : v ≠ 0) :
    (∀ t, (D.put (Z.lit s) (nd v)).atKey (Z.lit t) (nd 0) = nd (upd f s v t)) ∧ ∀ t, Maps.has (D.put (Z.lit s) (nd v)) (Z.lit t) = decide (upd f s v t ≠ 0) := by
  refine ⟨fun t => ?_, fun t => ?_⟩
  · by_cases ht : t = s
    · subst ht; rw [upd_same]; exact atKey_put_same hD (Z.isKey t) _ _
    · rw [upd_other _ _ ht, atKey_put_other (fun e => ht (Z.inj _ _ e))]; exact h1 t
  · by_cases ht : t = s
    · subst ht; rw [upd_same, has_put_same hD (Z.isKey t)]; simp [hv]
    · rw [upd_other _ _ ht, has_put_other (fun e => ht (Z.inj _ _ e))]; exact h2 t
theorem del_tied (h1 : ∀ s, D.atKey (Z.lit s) (nd 0) = nd (f s)) (h2 : ∀ s, Maps.has D (Z.lit s) = decide (f s ≠ 0)) (s : K) :
    (∀ t, (D.del (Z.lit s)).atKey (Z.lit t) (nd 0) = nd (upd f s 0 t)) ∧ ∀ t, Maps.has (D.del (Z.lit s)) (Z.lit t) = decide (upd f s 0 t ≠ 0) := by
  refine ⟨fun t => ?_, fun t => ?_⟩
  · by_cases ht : t = s
    · subst ht; rw [upd_same]; exact atKey_del_same _
    · rw [upd_other _ _ ht, atKey_del_other (fun e => ht (Z.inj _ _ e))]; exact h1 t
  · by_cases ht : t = s
    · subst ht; rw [upd_same, has_del_same]; simp
    · rw [upd_other _ _ ht, has_del_other (fun e => ht (Z.inj _ _ e))]; exact h2 t

/-- What was met of a map that is gone through. -/
def Coll (Z : KK P k K) (D : DataW Unit) (left : Lit → Bool) (ss : List K) : Prop := ss.Nodup ∧ ∀ x, x ∈ ss ↔ (Maps.has D (Z.lit x) = true ∧ left (Z.lit x) = false)
omit [DecidableEq K] in
theorem Coll.start (D : DataW Unit) : Coll Z D (Maps.has D) [] := ⟨List.nodup_nil, fun x => by cases Maps.has D (Z.lit x) <;> simp⟩
theorem Coll.step {left : Lit → Bool} {ss : List K} (h : Coll Z D left ss) {x : K} {y : DataW Unit} (hlk : left (Z.lit x) = true) (hat : ∀ zd, D.atKey (Z.lit x) zd = y) : Coll Z D (fun z => left z && !z.sameKey (Z.lit x)) (ss ++ [x]) := by
  have hhas : Maps.has D (Z.lit x) = true := has_true_of_atKey hat
  have hnew : x ∉ ss := fun hx => by have := ((h.2 x).1 hx).2; rw [hlk] at this; cases this
  refine ⟨List.nodup_append.2 ⟨h.1, by simp, fun a ha b hb => by simp at hb; subst hb; exact fun e => hnew (e ▸ ha)⟩, fun y => ?_⟩
  by_cases hy : y = x
  · subst hy; simp [hhas, Z.same]
  · simp [h.2 y, hy, Z.same]
omit [DecidableEq K] in
/-- At the end: the keys that are in. -/
theorem Coll.sup {left : Lit → Bool} {ss : List K} (h : Coll Z D left ss) (h2 : ∀ s, Maps.has D (Z.lit s) = decide (f s ≠ 0)) (hl : ∀ kl, left kl = false) : Sup f ss :=
  ⟨h.1, fun s => by rw [h.2 s, hl, h2]; simp⟩

theorem length_le_of_sub {α : Type} [DecidableEq α] : ∀ {l m : List α}, l.Nodup → (∀ x ∈ l, x ∈ m) → l.length ≤ m.length
  | [], _, _, _ => Nat.zero_le _
  | a :: l, m, hn, hs => by
    have hn' := List.nodup_cons.1 hn
    have h := length_le_of_sub (l := l) (m := m.erase a) hn'.2 (fun x hx => (List.mem_erase_of_ne (fun (e : x = a) => hn'.1 (e ▸ hx))).2 (hs x (List.mem_cons_of_mem _ hx)))
    have h2 := List.length_erase_of_mem (hs a List.mem_cons_self)
    have h3 := List.length_pos_of_mem (hs a List.mem_cons_self)
    simp only [List.length_cons]
    omega
theorem Sup.le {ks ms : List K} (h : Sup f ks) (hs : ∀ s, f s ≠ 0 → s ∈ ms) : ks.length ≤ ms.length := length_le_of_sub h.1 fun x hx => hs x ((h.2 x).1 hx)
omit [DecidableEq K] in
theorem Sup.perm {ks ms : List K} (h : Sup f ks) (h2 : Sup f ms) : ks.Perm ms := (List.perm_ext_iff_of_nodup h.1 h2.1).2 fun x => (h.2 x).trans (h2.2 x).symm
omit [DecidableEq K] in
/-- The keys of the datum. -/
theorem owns_sup (h : w.ownsMap P k (plainElem P e) b n D) (h2 : ∀ s, Maps.has D (Z.lit s) = decide (f s ≠ 0)) : ∃ ks, Sup f ks ∧ ks.length = Maps.size D := by
  obtain ⟨es, hD, hpw, hik⟩ := h.entries Z.law
  obtain ⟨es', clock, hb, F, _, hD'⟩ := h
  have hke : ∀ p ∈ es, ∃ s, p.1 = Z.lit s := fun p hp => by
    have e1 : es = (es'.toList.map (WideElems.rg P k (plainElem P e))).foldr DataW.insert [] := by rw [hD] at hD'; simpa using hD'
    rw [e1] at hp
    obtain ⟨v, hv⟩ := fit_keys F p (mem_sorted.1 hp)
    obtain ⟨s, _, hs⟩ := Z.inv v p.1 hv
    exact ⟨s, hs⟩
  subst hD
  clear hD'
  have key : ∀ l : List (Lit × DataW Unit), (∀ p ∈ l, ∃ s, p.1 = Z.lit s) → ∃ ks : List K, l.map (·.1) = ks.map Z.lit := by
    intro l
    induction l with
    | nil => exact fun _ => ⟨[], rfl⟩
    | cons p l ih =>
      intro hl
      obtain ⟨s, hs⟩ := hl p List.mem_cons_self
      obtain ⟨ks, hks⟩ := ih fun q hq => hl q (List.mem_cons_of_mem _ hq)
      exact ⟨s :: ks, by simp [hs, hks]⟩
  obtain ⟨ks, hks⟩ := key es hke
  refine ⟨ks, ⟨?_, fun s => ?_⟩, ?_⟩
  · have h1 : (es.map (·.1)).Pairwise (· ≠ ·) := List.pairwise_map.2 hpw
    rw [hks, List.pairwise_map] at h1
    exact h1.imp fun {a b} hne e => hne (by rw [e])
  · have h3 := h2 s
    rw [has_eq] at h3
    constructor
    · intro hs
      have hm : Z.lit s ∈ es.map (·.1) := by rw [hks]; exact List.mem_map_of_mem hs
      obtain ⟨p, hp, hpe⟩ := List.mem_map.1 hm
      have : es.any (fun p => p.1.sameKey (Z.lit s)) = true := List.any_eq_true.2 ⟨p, hp, by rw [hpe]; exact WideAt.sameKey_self (Z.isKey s)⟩
      rw [this] at h3
      simpa using h3.symm
    · intro hf
      rw [decide_eq_true hf] at h3
      obtain ⟨p, hp, hq⟩ := List.any_eq_true.1 h3
      have hpe := (WideAt.sameKey_iff (Z.isKey s)).1 hq
      have hm : p.1 ∈ es.map (·.1) := List.mem_map_of_mem hp
      rw [hks, hpe] at hm
      obtain ⟨t, ht, hte⟩ := List.mem_map.1 hm
      exact Z.inj _ _ hte ▸ ht
  · have := congrArg List.length hks
    simpa [Maps.size] using this.symm
/-- As many entries as there are keys. -/
theorem Ta.le (h : Ta Z e w b n f) {ms : List K} (hs : ∀ s, f s ≠ 0 → s ∈ ms) : Ta Z e w b ms.length f := by
  obtain ⟨D, h1, h2, h3⟩ := h
  obtain ⟨ks, hk, hl⟩ := owns_sup h1 h3
  have hle := hk.le hs
  obtain ⟨es, clock, hb, F, hn, hD⟩ := h1
  refine ⟨D, ⟨es, clock, hb, F, ?_, hD⟩, h2, h3⟩
  have e1 : Maps.size D = es.size := by rw [hD]; simp [Maps.size, length_sorted]
  omega
end
end Go.Proofs.Ytijbmchgajhkeaa
