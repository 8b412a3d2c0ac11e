import Derived.Test.YtijbmchgajhkeaaSuKey
namespace Go.Proofs.Ytijbmchgajhkeaa
open Go.RowKit Go.Sort Go.Maps Go.WideMaps Go.WideElems
open Go.ChangeMaps (setBlock heap_setBlock_same modify_eq_set)

/-- A number as a map's element. -/
abbrev nu (n : Int) : DataW Unit := .lit (.int .u64 n)
section
variable {P : Program} {k e t : TypeId} {K : Type}
/-- Block b is a map of at most n entries: the numbers f, of the keys ks. -/
def Mw (Z : KK P k K) (e : TypeId) (w : World) (b n : Nat) (f : K → Int) (ks : K → Prop) : Prop :=
  ∃ D : DataW Unit, w.ownsMap P k (plainElem P e) b n D ∧ (∀ s, D.atKey (Z.lit s) (nu 0) = nu (f s)) ∧ ∀ s, Maps.has D (Z.lit s) = true ↔ ks s
variable {Z : KK P k K} {w w' : World} {b n : Nat} {f : K → Int} {ks : K → Prop} {D : DataW Unit}
theorem Mw.lt (h : Mw Z e w b n f ks) : b < w.heap.size := by obtain ⟨D, h, _⟩ := h; exact h.lt
theorem Mw.kept (h : Mw Z e w b n f ks) (hb : w'.heap[b]? = w.heap[b]?) : Mw Z e w' b n f ks := by
  obtain ⟨D, ⟨es, clock, h1, h2⟩, h3⟩ := h
  exact ⟨D, ⟨es, clock, hb.trans h1, h2⟩, h3⟩
theorem Mw.mono (h : Mw Z e w b n f ks) {m : Nat} (hm : n ≤ m) : Mw Z e w b m f ks := by obtain ⟨D, h1, h2⟩ := h; exact ⟨D, h1.mono hm, h2⟩
theorem Mw.made (w : World) : Mw Z e (w.alloc (.map #[] 0)) w.heap.size 0 (fun _ => 0) (fun _ => False) :=
  ⟨.map [], World.ownsMap_made _ _ _ _, fun _ => rfl, fun s => by rw [show Maps.has (DataW.map (H := Unit) []) (Z.lit s) = false from rfl]; simp⟩
theorem Mw.re (h : Mw Z e w b n f ks) {g : K → Int} {ls : K → Prop} (hf : ∀ s, f s = g s) (hl : ∀ s, ks s ↔ ls s) : Mw Z e w b n g ls := by
  obtain ⟨D, h1, h2, h3⟩ := h
  exact ⟨D, h1, fun s => by rw [← hf]; exact h2 s, fun s => (h3 s).trans (hl s)⟩
theorem Mw.not_cells (h : Mw Z e w b n f ks) {cs : Array Value} {ty : TypeId} {fz : Nat × Nat} : w.heap[b]? ≠ some (.cells cs ty fz) := by
  obtain ⟨D, ⟨es, clock, h1, h2⟩, h3⟩ := h
  rw [h1]; simp
/-- What is looked up. -/
theorem Mw.look (h : Mw Z e w b n f ks) (ht : P.underlying t = some (.map k e)) (he : P.underlying e = some (.int .u64)) (hz : ∀ u : World, (zeroValue e).run P u = .ok (.int .u64 0) u) (x : K) :
    (Instr.lookup t (.map (some b)) (Z.enc x) false).run P w = .ok (.int .u64 (f x)) w := by
  obtain ⟨D, hown, h1, h2⟩ := h
  obtain ⟨c, hlk, hat, _⟩ := hown.lookup_int Z.law ht he (hz w) (Z.key x)
  rw [h1 x] at hat
  have e0 : c = f x := by simpa using hat.symm
  rw [← e0]
  exact hlk
theorem Mw.look_ok (h : Mw Z e w b n f ks) (ht : P.underlying t = some (.map k e)) (he : P.underlying e = some (.int .u64)) (hz : ∀ u : World, (zeroValue e).run P u = .ok (.int .u64 0) u) (x : K) (d : Bool) (hd : d = true ↔ ks x) :
    (Instr.lookup t (.map (some b)) (Z.enc x) true).run P w = .ok (.tuple #[.int .u64 (f x), .bool d]) w := by
  obtain ⟨D, hown, h1, h2⟩ := h
  obtain ⟨v, ps, hlk, hv⟩ := hown.look_ok Z.law ht (hz w) (plainElem_int (a := 0) he (by decide)) (Z.key x)
  obtain ⟨c, rfl, hc, _⟩ := plainElem_int_inv he hv
  rw [h1 x] at hc
  have e0 : c = f x := by
    have h4 := congrArg Prod.fst hc
    simpa using h4.symm
  have hb : Maps.has D (Z.lit x) = d := by
    rw [Bool.eq_iff_iff]
    exact (h2 x).trans hd.symm
  rw [← e0, ← hb]
  exact hlk
variable [DecidableEq K]
theorem putw_tied (hD : IsMap D) (h1 : ∀ s, D.atKey (Z.lit s) (nu 0) = nu (f s)) (h2 : ∀ s, Maps.has D (Z.lit s) = true ↔ ks s) (s : K) (v : Int) :
    (∀ t, (D.put (Z.lit s) (nu v)).atKey (Z.lit t) (nu 0) = nu (upd f s v t)) ∧ ∀ t, Maps.has (D.put (Z.lit s) (nu v)) (Z.lit t) = true ↔ (ks t ∨ t = s) := by
  refine ⟨fun t => ?_, fun t => ?_⟩
  · by_cases ht : t = s
    · subst ht; rw [upd_same]; exact atKey_put_same hD (Z.isKey t) _ _
    · rw [upd_other _ _ ht, atKey_put_other (fun e => ht (Z.inj _ _ e))]; exact h1 t
  · by_cases ht : t = s
    · subst ht; rw [has_put_same hD (Z.isKey t)]; simp
    · rw [has_put_other (fun e => ht (Z.inj _ _ e)), h2 t]; simp [ht]
/-- 'delete(m, x)'. -/
theorem Mw.drop (h : Mw Z e w b n f ks) (ht : P.underlying t = some (.map k e)) (x : K) (ty : TypeId) :
    ∃ w1, (Builtin.delete_ #[t, k] ty #[.map (some b), Z.enc x]).run P w = .ok (.tuple #[]) w1 ∧ Mw Z e w1 b n (upd f x 0) (fun s => ks s ∧ s ≠ x) ∧ w.grownBy w1 (some b) := by
  obtain ⟨D, hown, h1, h2⟩ := h
  obtain ⟨w1, hrun, hown1, hturn1⟩ := hown.drop Z.law ht (Z.key x) ty
  refine ⟨w1, hrun, ⟨_, hown1, fun s => ?_, fun s => ?_⟩, hturn1.grown⟩
  · by_cases hs : s = x
    · subst hs; rw [upd_same]; exact atKey_del_same _
    · rw [upd_other _ _ hs, atKey_del_other (fun e => hs (Z.inj _ _ e))]; exact h1 s
  · by_cases hs : s = x
    · subst hs; rw [has_del_same]; simp
    · rw [has_del_other (fun e => hs (Z.inj _ _ e)), h2 s]; simp [hs]
/-- mapEntry lays a zero where there is none. -/
theorem entry_zero {R : Value → Option (DataW Unit × List MemPlace)} {es : Array MapEntry} {clock : Nat} (L : KeyLaw P k) (ht : P.underlying t = some (.map k e)) {z : Value} (hz : ∀ u : World, (zeroValue e).run P u = .ok z u) (hb : w.heap[b]? = some (.map es clock)) (F : Fit P k R es clock)
    {key : Value} {kl : Lit} (hkey : keyOf P k key = some kl) :
    ∃ (v0 : Value) (st : Nat) (w1 : World), (Instr.mapEntry t (.map (some b)) key).run P w = .ok (.tuple #[v0, goInt st]) w1 ∧
      (w1 = w ∨ ((Instr.mapUpdate t (.map (some b)) key z).run P w = .ok () w1 ∧ (Instr.lookup t (.map (some b)) key false).run P w = .ok z w)) ∧
      ∀ val : Value, ∃ w2, (Instr.entryStore t (.map (some b)) (goInt st) val).run P w1 = .ok () w2 ∧ (Instr.mapUpdate t (.map (some b)) key val).run P w = .ok () w2 := by
  obtain ⟨v0, st, es1, clock1, hE, _, hS⟩ := entry_then_store L ht hz hb F hkey
  refine ⟨v0, st, _, hE, ?_, fun val => ?_⟩
  · rcases L.find w hkey es.toList F.keys with ⟨h1, h2⟩ | ⟨j, e0, h1, h2, h3⟩
    · right
      have hx : (Instr.mapEntry t (.map (some b)) key).run P w = .ok (.tuple #[z, goInt clock]) (setBlock w b (.map (es.push ⟨key, z, clock⟩) (clock + 1))) := by
        simp [Instr.mapEntry, run_underlying ht, MapKept.run_getObj_map hb, L.check w false hkey, h1, hz, MapKept.run_setObj_map _ hb, Result.andThen, setBlock]
      rw [hx] at hE
      injection hE with _ hw
      rw [← hw]
      refine ⟨?_, ?_⟩
      · simp [Instr.mapUpdate, run_underlying ht, MapKept.run_getObj_map hb, L.check w false hkey, h1, MapKept.run_setObj_map _ hb, Result.andThen, setBlock]
      · simp [Instr.lookup, run_underlying ht, MapKept.run_getObj_map hb, L.check w es.isEmpty hkey, h1, hz, Result.andThen]
    · left
      have hj : es[j]? = some e0 := by simpa using h2
      have hsame : es.modify j (fun e => { e with key := key }) = es := by
        apply Array.ext'
        rw [Array.toList_modify, modify_eq_set _ _ _ _ h2]
        have : ({ e0 with key := key } : MapEntry) = e0 := by rw [← h3]
        rw [this]
        exact set_self _ _ _ h2
      have hx : (Instr.mapEntry t (.map (some b)) key).run P w = .ok (.tuple #[e0.val, goInt e0.born]) (setBlock w b (.map es clock)) := by
        simp [Instr.mapEntry, run_underlying ht, MapKept.run_getObj_map hb, L.check w false hkey, h1, hj, h3, L.stays w hkey, hsame, MapKept.run_setObj_map _ hb, Result.andThen, setBlock]
      rw [hx] at hE
      injection hE with _ hw
      rw [← hw]
      obtain ⟨hlt, hval⟩ := Array.getElem?_eq_some_iff.1 hb
      have : w.heap.setIfInBounds b (.map es clock) = w.heap := by
        rw [← hval]
        apply Array.ext'
        rw [Array.toList_setIfInBounds, set_self]
        simp
      unfold setBlock
      rw [this]
  · obtain ⟨es', clock', h1, h2⟩ := hS (setBlock w b (.map es1 clock1)) val (heap_setBlock_same hb _)
    refine ⟨_, h1, ?_⟩
    rw [h2]
    simp [setBlock]
/-- 'm[x] op= ..': what is looked up, the entry, the store. -/
theorem Mw.bump (h : Mw Z e w b n f ks) (L : KeyLaw P k) (ht : P.underlying t = some (.map k e)) (he : P.underlying e = some (.int .u64)) (hz : ∀ u : World, (zeroValue e).run P u = .ok (.int .u64 0) u) (hn : n < maxLen) (x : K) (v : Int) (hv : (Lit.int .u64 v).wf = true) :
    ∃ (v0 : Value) (st : Nat) (w1 w2 : World), (Instr.lookup t (.map (some b)) (Z.enc x) false).run P w = .ok (.int .u64 (f x)) w ∧ (Instr.mapEntry t (.map (some b)) (Z.enc x)).run P w = .ok (.tuple #[v0, goInt st]) w1 ∧
      (Instr.lookup t (.map (some b)) (Z.enc x) false).run P w1 = .ok (.int .u64 (f x)) w1 ∧ (Instr.entryStore t (.map (some b)) (goInt st) (.int .u64 v)).run P w1 = .ok () w2 ∧
      Mw Z e w2 b (n + 1) (upd f x v) (fun s => ks s ∨ s = x) ∧ w.grownBy w1 (some b) ∧ w.grownBy w2 (some b) := by
  obtain ⟨D, hown, h1, h2⟩ := h
  have hx := h1 x
  obtain ⟨c, hlk, hat, _⟩ := hown.lookup_int Z.law ht he (hz w) (Z.key x)
  have e0 : c = f x := by
    rw [hx] at hat
    simpa using hat.symm
  subst e0
  obtain ⟨es, clock, hb, F, hs, hD⟩ := id hown
  obtain ⟨v0, st, w1, hE, hw1, hS⟩ := entry_zero L ht hz hb F (Z.key x)
  obtain ⟨w2, hst, hup⟩ := hS (.int .u64 v)
  obtain ⟨w2', hup', hown2, hturn2⟩ := hown.store Z.law ht hn (Z.key x) (plainElem_int he hv)
  rw [hup] at hup'
  injection hup' with _ hw
  subst hw
  have ht2 := putw_tied hown.isMap h1 h2 x v
  refine ⟨v0, st, w1, w2, hlk, hE, ?_, hst, ⟨_, hown2, ht2.1, ht2.2⟩, ?_, hturn2.grown⟩
  · rcases hw1 with rfl | ⟨hw1, hlz⟩
    · exact hlk
    · obtain ⟨w1', hup0, hown1, hturn1⟩ := hown.store Z.law ht hn (Z.key x) (plainElem_int (a := 0) he (by decide))
      rw [hw1] at hup0
      obtain ⟨-, rfl⟩ := Result.ok.inj hup0
      obtain ⟨c, hlk1, hat1, _⟩ := hown1.lookup_int Z.law ht he (hz w1) (Z.key x)
      have hp := (putw_tied hown.isMap h1 h2 x 0).1 x
      rw [upd_same] at hp
      rw [hp] at hat1
      have hc0 : c = 0 := by simpa using hat1.symm
      rw [hlk] at hlz
      have hv0 := (Result.ok.inj hlz).1
      rw [hv0]
      subst hc0
      exact hlk1
  · rcases hw1 with rfl | ⟨hw1, _⟩
    · exact ⟨rfl, rfl, rfl, Nat.le_refl _, fun _ _ _ => rfl⟩
    · obtain ⟨w1', hup0, hown1, hturn1⟩ := hown.store Z.law ht hn (Z.key x) (plainElem_int (a := 0) he (by decide))
      rw [hw1] at hup0
      obtain ⟨-, rfl⟩ := Result.ok.inj hup0
      exact hturn1.grown
end

/-- A pointer to a block's beginning, or nil, as a map's element. -/
def pv (o : Option Nat) : Value := .pointer (o.map fun b => ⟨b, 0, none⟩)
def pd : Option Nat → DataW Unit
  | none => .nil
  | some b => .lit (.int .i64 b)
theorem pv_inj {o p : Option Nat} (h : pv o = pv p) : o = p := by
  cases o <;> cases p <;> simp_all [pv]
theorem pd_inj {o p : Option Nat} (h : pd o = pd p) : o = p := by
  cases o <;> cases p <;> simp_all [pd]
  omega
open Classical in
noncomputable def ptE (v : Value) : Option (DataW Unit × List MemPlace) := if h : ∃ o, v = pv o then some (pd h.choose, []) else none
theorem ptE_mk (o : Option Nat) : ptE (pv o) = some (pd o, []) := by
  have h : ∃ p, pv o = pv p := ⟨o, rfl⟩
  unfold ptE
  rw [dif_pos h, ← pv_inj h.choose_spec]
theorem ptE_inv {v : Value} {z : DataW Unit × List MemPlace} (h : ptE v = some z) : ∃ o, v = pv o ∧ z = (pd o, []) := by
  unfold ptE at h
  split at h
  · rename_i hs
    exact ⟨hs.choose, hs.choose_spec, (Option.some.inj h).symm⟩
  · cases h
section
variable {P : Program} {k e t : TypeId} {K : Type}
/-- Block b is a map of at most n entries: the pointers f. -/
def Mp (Z : KK P k K) (w : World) (b n : Nat) (f : K → Option Nat) : Prop :=
  ∃ D : DataW Unit, w.ownsMap P k ptE b n D ∧ (∀ s, D.atKey (Z.lit s) .nil = pd (f s)) ∧ ∀ s, Maps.has D (Z.lit s) = (f s).isSome
variable {Z : KK P k K} {w w' : World} {b n : Nat} {f : K → Option Nat} {D : DataW Unit}
theorem Mp.lt (h : Mp Z w b n f) : b < w.heap.size := by obtain ⟨D, h, _⟩ := h; exact h.lt
theorem Mp.kept (h : Mp Z w b n f) (hb : w'.heap[b]? = w.heap[b]?) : Mp Z w' b n f := by
  obtain ⟨D, ⟨es, clock, h1, h2⟩, h3⟩ := h
  exact ⟨D, ⟨es, clock, hb.trans h1, h2⟩, h3⟩
theorem Mp.mono (h : Mp Z w b n f) {m : Nat} (hm : n ≤ m) : Mp Z w b m f := by obtain ⟨D, h1, h2⟩ := h; exact ⟨D, h1.mono hm, h2⟩
theorem Mp.made (w : World) : Mp Z (w.alloc (.map #[] 0)) w.heap.size 0 (fun _ => none) :=
  ⟨.map [], World.ownsMap_made _ _ _ _, fun _ => rfl, fun _ => rfl⟩
theorem Mp.re (h : Mp Z w b n f) {g : K → Option Nat} (hf : ∀ s, f s = g s) : Mp Z w b n g := by
  obtain ⟨D, h1, h2, h3⟩ := h
  exact ⟨D, h1, fun s => by rw [← hf]; exact h2 s, fun s => by rw [← hf]; exact h3 s⟩
theorem Mp.not_cells (h : Mp Z w b n f) {cs : Array Value} {ty : TypeId} {fz : Nat × Nat} : w.heap[b]? ≠ some (.cells cs ty fz) := by
  obtain ⟨D, ⟨es, clock, h1, h2⟩, h3⟩ := h
  rw [h1]; simp
theorem Mp.look (h : Mp Z w b n f) (ht : P.underlying t = some (.map k e)) (hz : ∀ u : World, (zeroValue e).run P u = .ok (.pointer none) u) (x : K) :
    (Instr.lookup t (.map (some b)) (Z.enc x) false).run P w = .ok (pv (f x)) w := by
  obtain ⟨D, hown, h1, h2⟩ := h
  obtain ⟨v, ps, hlk, hv⟩ := hown.lookup Z.law ht (hz w) (zd := .nil) (ptE_mk none) (Z.key x)
  obtain ⟨o, rfl, hc⟩ := ptE_inv hv
  rw [h1 x] at hc
  have e0 : f x = o := pd_inj (by simpa using (congrArg Prod.fst hc))
  rw [e0]
  exact hlk
variable [DecidableEq K]
def updP (f : K → Option Nat) (s : K) (v : Option Nat) : K → Option Nat := fun t => if t = s then v else f t
omit [DecidableEq K] in
theorem updP_same [DecidableEq K] (f : K → Option Nat) (s : K) (v : Option Nat) : updP f s v s = v := by simp [updP]
omit [DecidableEq K] in
theorem updP_other [DecidableEq K] (f : K → Option Nat) {s t : K} (v : Option Nat) (h : t ≠ s) : updP f s v t = f t := by simp [updP, h]
theorem Mp.drop (h : Mp Z w b n f) (ht : P.underlying t = some (.map k e)) (x : K) (ty : TypeId) :
    ∃ w1, (Builtin.delete_ #[t, k] ty #[.map (some b), Z.enc x]).run P w = .ok (.tuple #[]) w1 ∧ Mp Z w1 b n (updP f x none) ∧ w.grownBy w1 (some b) := by
  obtain ⟨D, hown, h1, h2⟩ := h
  obtain ⟨w1, hrun, hown1, hturn1⟩ := hown.drop Z.law ht (Z.key x) ty
  refine ⟨w1, hrun, ⟨_, hown1, fun s => ?_, fun s => ?_⟩, hturn1.grown⟩
  · by_cases hs : s = x
    · subst hs; rw [updP_same]; exact atKey_del_same _
    · rw [updP_other _ _ hs, atKey_del_other (fun e => hs (Z.inj _ _ e))]; exact h1 s
  · by_cases hs : s = x
    · subst hs; rw [has_del_same, updP_same]; rfl
    · rw [has_del_other (fun e => hs (Z.inj _ _ e)), updP_other _ _ hs]; exact h2 s
theorem Mp.store (h : Mp Z w b n f) (ht : P.underlying t = some (.map k e)) (hn : n < maxLen) (x : K) (q : Nat) :
    ∃ w1, (Instr.mapUpdate t (.map (some b)) (Z.enc x) (.pointer (some ⟨q, 0, none⟩))).run P w = .ok () w1 ∧ Mp Z w1 b (n + 1) (updP f x (some q)) ∧ w.grownBy w1 (some b) := by
  obtain ⟨D, hown, h1, h2⟩ := h
  obtain ⟨w1, hrun, hown1, hturn1⟩ := hown.store Z.law ht hn (Z.key x) (val := .pointer (some ⟨q, 0, none⟩)) (ptE_mk (some q))
  refine ⟨w1, hrun, ⟨_, hown1, fun s => ?_, fun s => ?_⟩, hturn1.grown⟩
  · by_cases hs : s = x
    · subst hs; rw [updP_same]; exact atKey_put_same hown.isMap (Z.isKey s) _ _
    · rw [updP_other _ _ hs, atKey_put_other (fun e => hs (Z.inj _ _ e))]; exact h1 s
  · by_cases hs : s = x
    · subst hs; rw [has_put_same hown.isMap (Z.isKey s), updP_same]; rfl
    · rw [has_put_other (fun e => hs (Z.inj _ _ e)), updP_other _ _ hs]; exact h2 s
end
end Go.Proofs.Ytijbmchgajhkeaa
