import Derived.Test.YtnpmmodcmfgbjaaGreatYMap
import Derived.WideKeyEntry
namespace Go.Proofs.YtnpmmodcmfgbjaaGreat
open Go.RowKit Go.Sort Go.Maps Go.WideMaps Go.WideElems
open Go.ChangeMaps (setBlock heap_setBlock_same modify_eq_set)

section
variable {P : Program} {k e t : TypeId} {K : Type}
/-- Block b is a map of at most n entries: the numbers f, of the keys ks (a number may be 0 there). -/
def Mq (Z : KK P k K) (e : TypeId) (w : World) (b n : Nat) (f : K → Int) (ks : List K) : Prop :=
  ∃ D : DataW Unit, w.ownsMap P k (plainElem P e) b n D ∧ (∀ s, D.atKey (Z.lit s) (nd 0) = nd (f s)) ∧ ∀ s, Maps.has D (Z.lit s) = true ↔ s ∈ ks
variable {Z : KK P k K} {w w' : World} {b n : Nat} {f : K → Int} {ks : List K} {D : DataW Unit}
theorem Mq.lt (h : Mq Z e w b n f ks) : b < w.heap.size := by obtain ⟨D, h, _⟩ := h; exact h.lt
theorem Mq.kept (h : Mq Z e w b n f ks) (hb : w'.heap[b]? = w.heap[b]?) : Mq Z e w' b n f ks := by
  obtain ⟨D, ⟨es, clock, h1, h2⟩, h3⟩ := h
  exact ⟨D, ⟨es, clock, hb.trans h1, h2⟩, h3⟩
theorem Mq.made (w : World) : Mq Z e (w.alloc (.map #[] 0)) w.heap.size 0 (fun _ => 0) [] :=
  ⟨.map [], World.ownsMap_made _ _ _ _, fun _ => rfl, fun s => by rw [show Maps.has (DataW.map (H := Unit) []) (Z.lit s) = false from rfl]; simp⟩
theorem Mq.keys (h : Mq Z e w b n f ks) {ls : List K} (hl : ∀ s, s ∈ ks ↔ s ∈ ls) : Mq Z e w b n f ls := by
  obtain ⟨D, h1, h2, h3⟩ := h
  exact ⟨D, h1, h2, fun s => (h3 s).trans (hl s)⟩
variable [DecidableEq K]
theorem putq_tied (hD : IsMap D) (h1 : ∀ s, D.atKey (Z.lit s) (nd 0) = nd (f s)) (h2 : ∀ s, Maps.has D (Z.lit s) = true ↔ s ∈ ks) (s : K) (v : Int) :
    (∀ t, (D.put (Z.lit s) (nd v)).atKey (Z.lit t) (nd 0) = nd (upd f s v t)) ∧ ∀ t, Maps.has (D.put (Z.lit s) (nd v)) (Z.lit t) = true ↔ t ∈ ks ++ [s] := by
  refine ⟨fun t => ?_, fun t => ?_⟩
  · by_cases ht : t = s
    · subst ht; rw [upd_same]; exact atKey_put_same hD (Z.isKey t) _ _
    · rw [upd_other _ _ ht, atKey_put_other (fun e => ht (Z.inj _ _ e))]; exact h1 t
  · by_cases ht : t = s
    · subst ht; rw [has_put_same hD (Z.isKey t)]; simp
    · rw [has_put_other (fun e => ht (Z.inj _ _ e)), h2 t]; simp [ht]
/-- mapEntry lays a zero where there is none. -/
theorem entry_zero {R : Value → Option (DataW Unit × List MemPlace)} {es : Array MapEntry} {clock : Nat} (L : KeyLaw P k) (ht : P.underlying t = some (.map k e)) {z : Value} (hz : ∀ u : World, (zeroValue e).run P u = .ok z u) (hb : w.heap[b]? = some (.map es clock)) (F : Fit P k R es clock)
    {key : Value} {kl : Lit} (hkey : keyOf P k key = some kl) :
    ∃ (v0 : Value) (st : Nat) (w1 : World), (Instr.mapEntry t (.map (some b)) key).run P w = .ok (.tuple #[v0, goInt st]) w1 ∧
      (w1 = w ∨ ((Instr.mapUpdate t (.map (some b)) key z).run P w = .ok () w1 ∧ (Instr.lookup t (.map (some b)) key false).run P w = .ok z w)) ∧
      ∀ val : Value, ∃ w2, (Instr.entryStore t (.map (some b)) (goInt st) val).run P w1 = .ok () w2 ∧ (Instr.mapUpdate t (.map (some b)) key val).run P w = .ok () w2 := by
  obtain ⟨v0, st, es1, clock1, hE, _, hS⟩ := entry_then_store L ht hz hb F hkey
  refine ⟨v0, st, _, hE, ?_, fun val => ?_⟩
  · rcases L.find w hkey es.toList F.keys with ⟨h1, h2⟩ | ⟨j, e0, h1, h2, h3⟩
    · right
      have hx : (Instr.mapEntry t (.map (some b)) key).run P w = .ok (.tuple #[z, goInt clock]) (setBlock w b (.map (es.push ⟨key, z, clock⟩) (clock + 1))) := by
        simp [Instr.mapEntry, run_underlying ht, MapKept.run_getObj_map hb, L.check w false hkey, h1, hz, MapKept.run_setObj_map _ hb, Result.andThen, setBlock]
      rw [hx] at hE
      injection hE with _ hw
      rw [← hw]
      refine ⟨?_, ?_⟩
      · simp [Instr.mapUpdate, run_underlying ht, MapKept.run_getObj_map hb, L.check w false hkey, h1, MapKept.run_setObj_map _ hb, Result.andThen, setBlock]
      · simp [Instr.lookup, run_underlying ht, MapKept.run_getObj_map hb, L.check w es.isEmpty hkey, h1, hz, Result.andThen]
    · left
      have hj : es[j]? = some e0 := by simpa using h2
      have hsame : es.modify j (fun e => { e with key := key }) = es := by
        apply Array.ext'
        rw [Array.toList_modify, modify_eq_set _ _ _ _ h2]
        have : ({ e0 with key := key } : MapEntry) = e0 := by rw [← h3]
        rw [this]
        exact set_self _ _ _ h2
      have hx : (Instr.mapEntry t (.map (some b)) key).run P w = .ok (.tuple #[e0.val, goInt e0.born]) (setBlock w b (.map es clock)) := by
        simp [Instr.mapEntry, run_underlying ht, MapKept.run_getObj_map hb, L.check w false hkey, h1, hj, h3, L.stays w hkey, hsame, MapKept.run_setObj_map _ hb, Result.andThen, setBlock]
      rw [hx] at hE
      injection hE with _ hw
      rw [← hw]
      obtain ⟨hlt, hval⟩ := Array.getElem?_eq_some_iff.1 hb
      have : w.heap.setIfInBounds b (.map es clock) = w.heap := by
        rw [← hval]
        apply Array.ext'
        rw [Array.toList_setIfInBounds, set_self]
        simp
      unfold setBlock
      rw [this]
  · obtain ⟨es', clock', h1, h2⟩ := hS (setBlock w b (.map es1 clock1)) val (heap_setBlock_same hb _)
    refine ⟨_, h1, ?_⟩
    rw [h2]
    simp [setBlock]
/-- 'm[x] op= ..': what is looked up, the entry, the store. -/
theorem Mq.bump (h : Mq Z e w b n f ks) (L : KeyLaw P k) (ht : P.underlying t = some (.map k e)) (he : P.underlying e = some (.int .i64)) (hz : ∀ u : World, (zeroValue e).run P u = .ok (.int .i64 0) u) (hn : n < maxLen) (x : K) (v : Int) (hv : (Lit.int .i64 v).wf = true) :
    ∃ (v0 : Value) (st : Nat) (w1 w2 : World), (Instr.lookup t (.map (some b)) (Z.enc x) false).run P w = .ok (.int .i64 (f x)) w ∧ (Instr.mapEntry t (.map (some b)) (Z.enc x)).run P w = .ok (.tuple #[v0, goInt st]) w1 ∧
      (Instr.lookup t (.map (some b)) (Z.enc x) false).run P w1 = .ok (.int .i64 (f x)) w1 ∧ (Instr.entryStore t (.map (some b)) (goInt st) (.int .i64 v)).run P w1 = .ok () w2 ∧
      Mq Z e w2 b (n + 1) (upd f x v) (ks ++ [x]) ∧ w.grownBy w1 (some b) ∧ w.grownBy w2 (some b) := by
  obtain ⟨D, hown, h1, h2⟩ := h
  have hx := h1 x
  obtain ⟨c, hlk, hat, _⟩ := hown.lookup_int Z.law ht he (hz w) (Z.key x)
  have e0 : c = f x := by
    rw [hx] at hat
    simpa using hat.symm
  subst e0
  obtain ⟨es, clock, hb, F, hs, hD⟩ := id hown
  obtain ⟨v0, st, w1, hE, hw1, hS⟩ := entry_zero L ht hz hb F (Z.key x)
  obtain ⟨w2, hst, hup⟩ := hS (.int .i64 v)
  obtain ⟨w2', hup', hown2, hturn2⟩ := hown.store Z.law ht hn (Z.key x) (plainElem_int he hv)
  rw [hup] at hup'
  injection hup' with _ hw
  subst hw
  have ht2 := putq_tied hown.isMap h1 h2 x v
  refine ⟨v0, st, w1, w2, hlk, hE, ?_, hst, ⟨_, hown2, ht2.1, ht2.2⟩, ?_, hturn2.grown⟩
  · rcases hw1 with rfl | ⟨hw1, hlz⟩
    · exact hlk
    · obtain ⟨w1', hup0, hown1, hturn1⟩ := hown.store Z.law ht hn (Z.key x) (plainElem_int (a := 0) he (by decide))
      rw [hw1] at hup0
      obtain ⟨-, rfl⟩ := Result.ok.inj hup0
      obtain ⟨c, hlk1, hat1, _⟩ := hown1.lookup_int Z.law ht he (hz w1) (Z.key x)
      have hp := (putq_tied hown.isMap h1 h2 x 0).1 x
      rw [upd_same] at hp
      rw [hp] at hat1
      have hc0 : c = 0 := by simpa using hat1.symm
      rw [hlk] at hlz
      have hv0 := (Result.ok.inj hlz).1
      rw [hv0]
      subst hc0
      exact hlk1
  · rcases hw1 with rfl | ⟨hw1, _⟩
    · exact ⟨rfl, rfl, rfl, Nat.le_refl _, fun _ _ _ => rfl⟩
    · obtain ⟨w1', hup0, hown1, hturn1⟩ := hown.store Z.law ht hn (Z.key x) (plainElem_int (a := 0) he (by decide))
      rw [hw1] at hup0
      obtain ⟨-, rfl⟩ := Result.ok.inj hup0
      exact hturn1.grown
end
end Go.Proofs.YtnpmmodcmfgbjaaGreat
