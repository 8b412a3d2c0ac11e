import Derived.Test.YtnpmmodcmfgbjaaGreatJ1
import Derived.WideKeyEntry
import Derived.Test.YtnpmmodcmfgbjaaGreatJ2
import Derived.Deep.LoopGhost
import Derived.Maps.AppendAt
import Derived.Maps.RangeWalk
import Derived.Sort.OwnSorted
import Derived.Shelf.SlSortCmp.QuietGrown
namespace Go.Proofs.YtnpmmodcmfgbjaaGreat
open Go.RowKit Go.Sort Go.Maps Go.WideMaps Go.WideElems
open Go.ChangeMaps (setBlock heap_setBlock_same modify_eq_set)

section
variable {P : Program} {k e t : TypeId} {K : Type}
/-- Block b is a map of at most n entries: the numbers f, of the keys ks (a number may be 0 there). -/
def Mq (Z : KK P k K) (e : TypeId) (w : World) (b n : Nat) (f : K → Int) (ks : List K) : Prop :=
  ∃ D : DataW Unit, w.ownsMap P k (plainElem P e) b n D ∧ (∀ s, D.atKey (Z.lit s) (nd 0) = nd (f s)) ∧ ∀ s, Maps.has D (Z.lit s) = true ↔ s ∈ ks
variable {Z : KK P k K} {w w' : World} {b n : Nat} {f : K → Int} {ks : List K} {D : DataW Unit}
theorem Mq.lt (h : Mq Z e w b n f ks) : b < w.heap.size := by obtain ⟨D, h, _⟩ := h; exact h.lt
theorem Mq.kept (h : Mq Z e w b n f ks) (hb : w'.heap[b]? = w.heap[b]?) : Mq Z e w' b n f ks := by
  obtain ⟨D, ⟨es, clock, h1, h2⟩, h3⟩ := h
  exact ⟨D, ⟨es, clock, hb.trans h1, h2⟩, h3⟩
theorem Mq.made (w : World) : Mq Z e (w.alloc (.map #[] 0)) w.heap.size 0 (fun _ => 0) [] :=
  ⟨.map [], World.ownsMap_made _ _ _ _, fun _ => rfl, fun s => by rw [show Maps.has (DataW.map (H := Unit) []) (Z.lit s) = false from rfl]; simp⟩
theorem Mq.keys (h : Mq Z e w b n f ks) {ls : List K} (hl : ∀ s, s ∈ ks ↔ s ∈ ls) : Mq Z e w b n f ls := by
  obtain ⟨D, h1, h2, h3⟩ := h
  exact ⟨D, h1, h2, fun s => (h3 s).trans (hl s)⟩
variable [DecidableEq K]
theorem putq_tied (hD : IsMap D) (h1 : ∀ s, D.atKey (Z.lit s) (nd 0) = nd (f s)) (h2 : ∀ s, Maps.has D (Z.lit s) = true ↔ s ∈ ks) (s : K) (v : Int) :
    (∀ t, (D.put (Z.lit s) (nd v)).atKey (Z.lit t) (nd 0) = nd (upd f s v t)) ∧ ∀ t, Maps.has (D.put (Z.lit s) (nd v)) (Z.lit t) = true ↔ t ∈ ks ++ [s] := by
  refine ⟨fun t => ?_, fun t => ?_⟩
  · by_cases ht : t = s
    · subst ht; rw [upd_same]; exact atKey_put_same hD (Z.isKey t) _ _
    · rw [upd_other _ _ ht, atKey_put_other (fun e => ht (Z.inj _ _ e))]; exact h1 t
  · by_cases ht : t = s
    · subst ht; rw [has_put_same hD (Z.isKey t)]; simp
    · rw [has_put_other (fun e => ht (Z.inj _ _ e)), h2 t]; simp [ht]
/-- mapEntry lays a zero where there is none. -/
theorem entry_zero {R : Value → Option (DataW Unit × List MemPlace)} {es : Array MapEntry} {clock : Nat} (L : KeyLaw P k) (ht : P.underlying t = some (.map k e)) {z : Value} (hz : ∀ u : World, (zeroValue e).run P u = .ok z u) (hb : w.heap[b]? = some (.map es clock)) (F : Fit P k R es clock)
    {key : Value} {kl : Lit} (hkey : keyOf P k key = some kl) :
    ∃ (v0 : Value) (st : Nat) (w1 : World), (Instr.mapEntry t (.map (some b)) key).run P w = .ok (.tuple #[v0, goInt st]) w1 ∧
      (w1 = w ∨ ((Instr.mapUpdate t (.map (some b)) key z).run P w = .ok () w1 ∧ (Instr.lookup t (.map (some b)) key false).run P w = .ok z w)) ∧
      ∀ val : Value, ∃ w2, (Instr.entryStore t (.map (some b)) (goInt st) val).run P w1 = .ok () w2 ∧ (Instr.mapUpdate t (.map (some b)) key val).run P w = .ok () w2 := by
  obtain ⟨v0, st, es1, clock1, hE, _, hS⟩ := entry_then_store L ht hz hb F hkey
  refine ⟨v0, st, _, hE, ?_, fun val => ?_⟩
  · rcases L.find w hkey es.toList F.keys with ⟨h1, h2⟩ | ⟨j, e0, h1, h2, h3⟩
    · right
      have hx : (Instr.mapEntry t (.map (some b)) key).run P w = .ok (.tuple #[z, goInt clock]) (setBlock w b (.map (es.push ⟨key, z, clock⟩) (clock + 1))) := by
        simp [Instr.mapEntry, run_underlying ht, MapKept.run_getObj_map hb, L.check w false hkey, h1, hz, MapKept.run_setObj_map _ hb, Result.andThen, setBlock]
      rw [hx] at hE
      injection hE with _ hw
      rw [← hw]
      refine ⟨?_, ?_⟩
      · simp [Instr.mapUpdate, run_underlying ht, MapKept.run_getObj_map hb, L.check w false hkey, h1, MapKept.run_setObj_map _ hb, Result.andThen, setBlock]
      · simp [Instr.lookup, run_underlying ht, MapKept.run_getObj_map hb, L.check w es.isEmpty hkey, h1, hz, Result.andThen]
    · left
      have hj : es[j]? = some e0 := by simpa using h2
      have hsame : es.modify j (fun e => { e with key := key }) = es := by
        apply Array.ext'
        rw [Array.toList_modify, modify_eq_set _ _ _ _ h2]
        have : ({ e0 with key := key } : MapEntry) = e0 := by rw [← h3]
        rw [this]
        exact set_self _ _ _ h2
      have hx : (Instr.mapEntry t (.map (some b)) key).run P w = .ok (.tuple #[e0.val, goInt e0.born]) (setBlock w b (.map es clock)) := by
        simp [Instr.mapEntry, run_underlying ht, MapKept.run_getObj_map hb, L.check w false hkey, h1, hj, h3, L.stays w hkey, hsame, MapKept.run_setObj_map _ hb, Result.andThen, setBlock]
      rw [hx] at hE
      injection hE with _ hw
      rw [← hw]
      obtain ⟨hlt, hval⟩ := Array.getElem?_eq_some_iff.1 hb
      have : w.heap.setIfInBounds b (.map es clock) = w.heap := by
        rw [← hval]
        apply Array.ext'
        rw [Array.toList_setIfInBounds, set_self]
        simp
      unfold setBlock
      rw [this]
  · obtain ⟨es', clock', h1, h2⟩ := hS (setBlock w b (.map es1 clock1)) val (heap_setBlock_same hb _)
    refine ⟨_, h1, ?_⟩
    rw [h2]
    simp [setBlock]
/-- 'm[x] op= ..': what is looked up, the entry, the store. -/
theorem Mq.bump (h : Mq Z e w b n f ks) (L : KeyLaw P k) (ht : P.underlying t = some (.map k e)) (he : P.underlying e = some (.int .i64)) (hz : ∀ u : World, (zeroValue e).run P u = .ok (.int .i64 0) u) (hn : n < maxLen) (x : K) (v : Int) (hv : (Lit.int .i64 v).wf = true) :
    ∃ (v0 : Value) (st : Nat) (w1 w2 : World), (Instr.lookup t (.map (some b)) (Z.enc x) false).run P w = .ok (.int .i64 (f x)) w ∧ (Instr.mapEntry t (.map (some b)) (Z.enc x)).run P w = .ok (.tuple #[v0, goInt st]) w1 ∧
      (Instr.lookup t (.map (some b)) (Z.enc x) false).run P w1 = .ok (.int .i64 (f x)) w1 ∧ (Instr.entryStore t (.map (some b)) (goInt st) (.int .i64 v)).run P w1 = .ok () w2 ∧
      Mq Z e w2 b (n + 1) (upd f x v) (ks ++ [x]) ∧ w.grownBy w1 (some b) ∧ w.grownBy w2 (some b) := by
  obtain ⟨D, hown, h1, h2⟩ := h
  have hx := h1 x
  obtain ⟨c, hlk, hat, _⟩ := hown.lookup_int Z.law ht he (hz w) (Z.key x)
  have e0 : c = f x := by
    rw [hx] at hat
    simpa using hat.symm
  subst e0
  obtain ⟨es, clock, hb, F, hs, hD⟩ := id hown
  obtain ⟨v0, st, w1, hE, hw1, hS⟩ := entry_zero L ht hz hb F (Z.key x)
  obtain ⟨w2, hst, hup⟩ := hS (.int .i64 v)
  obtain ⟨w2', hup', hown2, hturn2⟩ := hown.store Z.law ht hn (Z.key x) (plainElem_int he hv)
  rw [hup] at hup'
  injection hup' with _ hw
  subst hw
  have ht2 := putq_tied hown.isMap h1 h2 x v
  refine ⟨v0, st, w1, w2, hlk, hE, ?_, hst, ⟨_, hown2, ht2.1, ht2.2⟩, ?_, hturn2.grown⟩
  · rcases hw1 with rfl | ⟨hw1, hlz⟩
    · exact hlk
    · obtain ⟨w1', hup0, hown1, hturn1⟩ := hown.store Z.law ht hn (Z.key x) (plainElem_int (a := 0) he (by decide))
      rw [hw1] at hup0
      obtain ⟨-, rfl⟩ := Result.ok.inj hup0
      obtain ⟨c, hlk1, hat1, _⟩ := hown1.lookup_int Z.law ht he (hz w1) (Z.key x)
      have hp := (putq_tied hown.isMap h1 h2 x 0).1 x
      rw [upd_same] at hp
      rw [hp] at hat1
      have hc0 : c = 0 := by simpa using hat1.symm
      rw [hlk] at hlz
      have hv0 := (Result.ok.inj hlz).1
      rw [hv0]
      subst hc0
      exact hlk1
  · rcases hw1 with rfl | ⟨hw1, _⟩
    · exact ⟨rfl, rfl, rfl, Nat.le_refl _, fun _ _ _ => rfl⟩
    · obtain ⟨w1', hup0, hown1, hturn1⟩ := hown.store Z.law ht hn (Z.key x) (plainElem_int (a := 0) he (by decide))
      rw [hw1] at hup0
      obtain ⟨-, rfl⟩ := Result.ok.inj hup0
      exact hturn1.grown
end
end Go.Proofs.YtnpmmodcmfgbjaaGreat

namespace Go.Proofs.YtnpmmodcmfgbjaaGreat
open Go.RowKit Go.Sort Go.Maps
attribute [local go_sem ↓] Go.wp_at_zero Go.wp_at_succ

/-- A delta: a time and a number. -/
abbrev Dl := Tm × Int
def ED : El Dl where
  k := 4
  enc d := [.int .u64 d.1.1.1, .int .u64 d.1.1.2.1, .int .u64 d.1.1.2.2, .int .i64 d.2]
  len _ := rfl
  one x u hu := by
    simp at hu
    rcases hu with rfl | rfl | rfl | rfl <;> rfl
abbrev dv (d : Dl) : Value := .agg #[.int .u64 d.1.1.1, .int .u64 d.1.1.2.1, .int .u64 d.1.1.2.2, .int .i64 d.2]
theorem Ls.at4 {w : World} {v : Value} {ts : List Dl} (h : Ls ED w v ts) {j : Nat} {t : Dl} (hj : ts[j]? = some t) :
    ∃ b off c, v = .slice (some ⟨b, off, none⟩) ts.length c ∧ b < w.heap.size ∧ w.cell? ⟨b, off + j * 4, none⟩ = some (.int .u64 t.1.1.1) ∧ w.cell? ⟨b, off + j * 4 + 1, none⟩ = some (.int .u64 t.1.1.2.1) ∧ w.cell? ⟨b, off + j * 4 + 2, none⟩ = some (.int .u64 t.1.1.2.2) ∧ w.cell? ⟨b, off + j * 4 + 3, none⟩ = some (.int .i64 t.2) := by
  obtain ⟨b, off, c, hv, hb, hc⟩ := h.get hj
  exact ⟨b, off, c, hv, hb, hc 0 _ (by decide) rfl, hc 1 _ (by decide) rfl, hc 2 _ (by decide) rfl, hc 3 _ (by decide) rfl⟩
theorem infoDl : (Tryz.prog.info? 54).map (fun i => (i.zero, i.size, i.bytes)) = some (some (.agg #[.int .u64 0, .int .u64 0, .int .u64 0, .int .i64 0]), 4, 32) := by kernel_rfl
/-- 'append(own, d)' where own is of deltas. -/
theorem wpApp1D {w : World} {ops : Array Oper} {rest : List Oper} {o : Oper} {a : Act} {Q : Exit → Act → World → Prop} (hgd : o.guard = none) (s x : Operand)
    (ho : o.op = .call { callee := .builtin .append, args := #[s, x], argTypes := #[38, 38] })
    (base : Nat) (v : Value) (n : Nat) (xs : List Value) (hs : a.eval s = v) (hown : w.ownsRow base 54 4 v n xs)
    (t : Dl) (hx : a.eval x = .slice (some ⟨w.heap.size, 0, none⟩) 1 1) (hbig : (n + 1) * 32 ≤ 140737488355328) (hbase : base ≤ w.heap.size)
    (h : ∀ g cap w', w'.ownsRow base 54 4 (.slice (some ⟨g, 0, none⟩) (n + 1) cap) (n + 1) (xs ++ ED.enc t) → w.grownBy w' v.ownBlock → (v.ownBlock = some g ∨ w.heap.size ≤ g) → wpList Tryz.prog ops Q rest (a.put o.dst (.slice (some ⟨g, 0, none⟩) (n + 1) cap)) w') :
    wpList Tryz.prog ops Q (o :: rest) a (w.alloc (.cells #[.int .u64 t.1.1.1, .int .u64 t.1.1.2.1, .int .u64 t.1.1.2.2, .int .i64 t.2] 54)) :=
  wpApp1 ED Tryz.underlying38 infoDl rfl (by decide) hgd s x ho base v n xs hs hown t hx hbig (by unfold maxLen; omega) hbase _ rfl _ h
theorem wpAppLD {w : World} {ops : Array Oper} {rest : List Oper} {o : Oper} {a : Act} {Q : Exit → Act → World → Prop} (hgd : o.guard = none) (s x : Operand)
    (ho : o.op = .call { callee := .builtin .append, args := #[s, x], argTypes := #[38, 38] })
    (base : Nat) (v : Value) (n : Nat) (xs : List Value) (hs : a.eval s = v) (hown : w.ownsRow base 54 4 v n xs)
    (v1 : Value) (ts : List Dl) (hx : a.eval x = v1) (hv : Ls ED w v1 ts) (hbig : (n + ts.length) * 32 ≤ 140737488355328) (hbase : base ≤ w.heap.size)
    (h : ∀ v' w', w'.ownsRow base 54 4 v' (n + ts.length) (xs ++ fl ED ts) → w.grownBy w' v.ownBlock → wpList Tryz.prog ops Q rest (a.put o.dst v') w') : wpList Tryz.prog ops Q (o :: rest) a w :=
  wpAppL ED Tryz.underlying38 infoDl rfl (by decide) hgd s x ho base v n xs hs hown v1 ts hx hv hbig (by unfold maxLen; omega) hbase h

/-- counts, as a value. -/
abbrev cv (tb : Nat) : Value := .agg #[.pointer (some ⟨tb, 0, none⟩)]
open Tt (Tl byd byd_f byd_t)
theorem mbeyond_any (n : Int) (w : World) : Calls Tryz.prog 60 #[.int .i64 n] w fun e w' => e = .returned (.bool (byd n)) ∧ w' = w := by
  unfold byd
  go_enter Tryz.func60, Tryz.ntmps60
  go_wp2
  all_goals (go_ret; refine ⟨?_, rfl⟩; simp_all)
set_option maxHeartbeats 1000000 in
theorem mcount_any {tb b g n : Nat} {f : Tm → Int} (x : Tm) (w : World) (h : Tl w tb b g n f) :
    Calls Tryz.prog 33 #[cv tb, tv x] w fun e w' => e = .returned (.int .i64 (f x)) ∧ Gr w w' := by
  have HG : Hid (∀ o1 o2, Gr w ((w.alloc o1).alloc o2)) := fun _ _ => ((Gr.refl _).alloc _).alloc _
  have hco := fun o1 o2 => Tt.get_any x _ (h.gr (HG.out o1 o2))
  generalize f x = c at hco ⊢
  clear h
  go_enter Tryz.func33, Tryz.ntmps33
  go_wp2_with fail
  refine (hco _ _).mono ?_
  rintro e w1 ⟨rfl, g1⟩
  go_wp2
  go_ret
  exact ⟨rfl, (HG.out _ _).trans g1⟩

/-- Counts that are set one behind the other. -/
def setl (f : Tm → Int) (us : List Dl) : Tm → Int := us.foldl (fun g d => upd g d.1 d.2) f
theorem setl_take_succ {f : Tm → Int} {us : List Dl} {k : Nat} {d : Dl} (h : us[k]? = some d) : setl f (us.take (k + 1)) = upd (setl f (us.take k)) d.1 d.2 := by
  unfold setl
  rw [List.take_add_one, h, List.foldl_append]
  rfl
theorem upd_upd {K : Type} [DecidableEq K] (f : K → Int) (x : K) (a b : Int) : upd (upd f x a) x b = upd f x b := by
  funext t
  unfold upd
  split <;> rfl
theorem addf_zero {f : Tm → Int} {x : Tm} (h : -2147483647 ≤ f x ∧ f x ≤ 2147483647) : Tt.addf f x (- f x) = upd f x 0 := by
  unfold Tt.addf
  have h1 : byd (- f x) = false := byd_f.2 (by omega)
  have h2 : f x + - f x = 0 := by omega
  rw [h1, h2, if_neg (by simp [byd])]
theorem addf_set {f : Tm → Int} {x : Tm} {v : Int} (h : byd v = false) : Tt.addf (upd f x 0) x v = upd f x v := by
  unfold Tt.addf
  rw [upd_same, Int.zero_add, h, if_neg (by simp), upd_upd]

set_option maxHeartbeats 4000000 in
set_option maxRecDepth 100000 in
theorem mset_any {tb b g n : Nat} {f : Tm → Int} (us : List Dl) (v : Value) (w : World) (h : Tl w tb b g n f) (hv : Ls ED w v us) (hne : v.ownBlock ≠ some b) (hbd : ∀ d ∈ us, byd d.2 = false) (hn : n + 2 * us.length < 4611686018427387904) :
    Calls Tryz.prog 40 #[cv tb, v] w fun e w' => e = .returned (.tuple #[]) ∧ Tl w' tb b g (n + 2 * us.length) (setl f us) ∧ Kp (fun k => k = b) w w' := by
  have hmx : Tryz.prog.follows .mixedOrders = true := by kernel_rfl
  obtain ⟨pl, cl, rfl⟩ := hv.form
  obtain ⟨W1, hW1⟩ : ∃ W1, W1 = w.alloc (.cells #[.pointer (some ⟨tb, 0, none⟩)] 60) := ⟨_, rfl⟩
  have G1 : Gr w W1 := by rw [hW1]; exact (Gr.refl _).alloc _
  have hz : w.heap.size < W1.heap.size := by rw [hW1]; simp
  have c0 : W1.cell? ⟨w.heap.size, 0, none⟩ = some (.pointer (some ⟨tb, 0, none⟩)) := by rw [hW1]; simp
  have HL : Hid (Ls ED W1 (.slice pl us.length cl) us) := hv.below G1.below
  have HT : Hid (Tl W1 tb b g n f) := h.gr G1
  have HG : Hid (Gr w W1) := G1
  have HN : Hid ((Value.slice pl us.length cl).ownBlock ≠ some b) := hne
  have HBD : Hid (∀ d ∈ us, byd d.2 = false) := hbd
  obtain ⟨B0, hB0⟩ : ∃ B0, B0 = w.heap.size := ⟨_, rfl⟩
  have hbB : b ≠ B0 := by have := h.ta.lt; omega
  have hz0 : B0 < W1.heap.size := by omega
  rw [← hB0] at c0
  clear h hv hne hbd G1 hz
  go_enter Tryz.func40, Tryz.ntmps40
  go_wp2_with fail
  rw [← hW1, ← hB0]
  clear hW1 hB0
  go_loopw [5, 8] (fun _ s8 wr => ∃ k : Nat, k ≤ us.length ∧ s8 = .int .i64 k ∧ Hid (Tl wr tb b g (n + 2 * k) (setl f (us.take k)) ∧ Kp (fun k => k = b) W1 wr)) (fun _ s8 _ => us.length - (RowKit.intOf s8).toNat)
  case atStart => exact ⟨0, Nat.zero_le _, rfl, HT.out, Kp.refl _ _⟩
  case round =>
    obtain ⟨k, hk, rfl, HI⟩ := hrel
    by_cases hlt : k < us.length
    · have hltz : (k : Int) < (us.length : Int) := by omega
      obtain ⟨d, hd⟩ : ∃ d, us[k]? = some d := ⟨us[k], by simp⟩
      obtain ⟨b1, o1, c1, e1, z1, x1, x2, x3, x4⟩ := (HI.out.2.ls HL.out (fun j hj hs => HN.out (hs ▸ hj))).at4 hd
      simp only [Value.slice.injEq] at e1
      obtain ⟨rfl, -, rfl⟩ := e1
      have HS : Hid (setl f (us.take (k + 1)) = upd (setl f (us.take k)) d.1 d.2) := setl_take_succ hd
      have hdb : byd d.2 = false := HBD.out d (List.mem_of_getElem? hd)
      have hdr := byd_f.1 hdb
      clear hd
      generalize setl f (us.take k) = F at *
      obtain ⟨W2, hW2⟩ : ∃ W2, W2 = wr.alloc (.cells #[.int .u64 d.1.1.1, .int .u64 d.1.1.2.1, .int .u64 d.1.1.2.2, .int .i64 d.2] 54) := ⟨_, rfl⟩
      obtain ⟨nb, hnb⟩ : ∃ nb, nb = wr.heap.size := ⟨_, rfl⟩
      have G2 : Gr wr W2 := by rw [hW2]; exact (Gr.refl _).alloc _
      have HG2 : Hid (Gr wr W2.drew) := G2.drew
      have HT2 : Hid (Tl W2.drew tb b g (n + 2 * k) F) := HI.out.1.gr G2.drew
      have hFb := HI.out.1.bd d.1
      have hbw : b < wr.heap.size := HI.out.1.ta.lt
      have S0 : (W2.drew.cell? ⟨B0, 0, none⟩ = some (.pointer (some ⟨tb, 0, none⟩)) ∧ W2.drew.cell? ⟨nb, 0, none⟩ = some (.int .u64 d.1.1.1) ∧ W2.drew.cell? ⟨nb, 1, none⟩ = some (.int .u64 d.1.1.2.1) ∧ W2.drew.cell? ⟨nb, 2, none⟩ = some (.int .u64 d.1.1.2.2) ∧ W2.drew.cell? ⟨nb, 3, none⟩ = some (.int .i64 d.2) ∧ B0 < W2.drew.heap.size ∧ nb < W2.drew.heap.size) := by
        have hB0 : B0 < wr.heap.size := Nat.lt_of_lt_of_le hz0 HI.out.2.size
        have e0 : wr.cell? ⟨B0, 0, none⟩ = some (.pointer (some ⟨tb, 0, none⟩)) := (HI.out.2.cell hz0 (fun e => hbB e.symm)).trans c0
        have hblk : W2.heap[nb]? = some (.cells #[.int .u64 d.1.1.1, .int .u64 d.1.1.2.1, .int .u64 d.1.1.2.2, .int .i64 d.2] 54 (0, 0)) := by rw [hW2, hnb]; exact heap_new' _ _
        refine ⟨(G2.drew.cell hB0).trans e0, ?_, ?_, ?_, ?_, Nat.lt_of_lt_of_le hB0 G2.size, ?_⟩
        all_goals first | exact (Array.getElem?_eq_some_iff.1 hblk).1 | (show W2.cell? _ = _; simp only [World.cell?]; rw [hblk]; rfl)
      have hnbb : nb ≠ b := by omega
      have keepG : ∀ W W' : World, (W.cell? ⟨B0, 0, none⟩ = some (.pointer (some ⟨tb, 0, none⟩)) ∧ W.cell? ⟨nb, 0, none⟩ = some (.int .u64 d.1.1.1) ∧ W.cell? ⟨nb, 1, none⟩ = some (.int .u64 d.1.1.2.1) ∧ W.cell? ⟨nb, 2, none⟩ = some (.int .u64 d.1.1.2.2) ∧ W.cell? ⟨nb, 3, none⟩ = some (.int .i64 d.2) ∧ B0 < W.heap.size ∧ nb < W.heap.size) → Gr W W' → (W'.cell? ⟨B0, 0, none⟩ = some (.pointer (some ⟨tb, 0, none⟩)) ∧ W'.cell? ⟨nb, 0, none⟩ = some (.int .u64 d.1.1.1) ∧ W'.cell? ⟨nb, 1, none⟩ = some (.int .u64 d.1.1.2.1) ∧ W'.cell? ⟨nb, 2, none⟩ = some (.int .u64 d.1.1.2.2) ∧ W'.cell? ⟨nb, 3, none⟩ = some (.int .i64 d.2) ∧ B0 < W'.heap.size ∧ nb < W'.heap.size) := fun W W' h hg =>
        ⟨(hg.cell h.2.2.2.2.2.1).trans h.1, (hg.cell h.2.2.2.2.2.2).trans h.2.1, (hg.cell h.2.2.2.2.2.2).trans h.2.2.1, (hg.cell h.2.2.2.2.2.2).trans h.2.2.2.1, (hg.cell h.2.2.2.2.2.2).trans h.2.2.2.2.1, Nat.lt_of_lt_of_le h.2.2.2.2.2.1 hg.size, Nat.lt_of_lt_of_le h.2.2.2.2.2.2 hg.size⟩
      have keepK : ∀ W W' : World, (W.cell? ⟨B0, 0, none⟩ = some (.pointer (some ⟨tb, 0, none⟩)) ∧ W.cell? ⟨nb, 0, none⟩ = some (.int .u64 d.1.1.1) ∧ W.cell? ⟨nb, 1, none⟩ = some (.int .u64 d.1.1.2.1) ∧ W.cell? ⟨nb, 2, none⟩ = some (.int .u64 d.1.1.2.2) ∧ W.cell? ⟨nb, 3, none⟩ = some (.int .i64 d.2) ∧ B0 < W.heap.size ∧ nb < W.heap.size) → Kp (fun k => k = b) W W' → (W'.cell? ⟨B0, 0, none⟩ = some (.pointer (some ⟨tb, 0, none⟩)) ∧ W'.cell? ⟨nb, 0, none⟩ = some (.int .u64 d.1.1.1) ∧ W'.cell? ⟨nb, 1, none⟩ = some (.int .u64 d.1.1.2.1) ∧ W'.cell? ⟨nb, 2, none⟩ = some (.int .u64 d.1.1.2.2) ∧ W'.cell? ⟨nb, 3, none⟩ = some (.int .i64 d.2) ∧ B0 < W'.heap.size ∧ nb < W'.heap.size) := fun W W' h hg =>
        ⟨(hg.cell h.2.2.2.2.2.1 (fun e => hbB e.symm)).trans h.1, (hg.cell h.2.2.2.2.2.2 hnbb).trans h.2.1, (hg.cell h.2.2.2.2.2.2 hnbb).trans h.2.2.1, (hg.cell h.2.2.2.2.2.2 hnbb).trans h.2.2.2.1, (hg.cell h.2.2.2.2.2.2 hnbb).trans h.2.2.2.2.1, Nat.lt_of_lt_of_le h.2.2.2.2.2.1 hg.size, Nat.lt_of_lt_of_le h.2.2.2.2.2.2 hg.size⟩
      have hCo : ∀ W, Tl W tb b g (n + 2 * k) F → _ := fun W h => mcount_any d.1 W h
      have hA1 : ∀ W, Tl W tb b g (n + 2 * k) F → _ := fun W h => Tt.add_any d.1 (- F d.1) W h (by unfold maxLen; omega)
      have hA2 : ∀ W, Tl W tb b g (n + 2 * k + 1) (upd F d.1 0) → _ := fun W h => Tt.add_any d.1 d.2 W h (by unfold maxLen; omega)
      rw [addf_zero hFb] at hA1
      rw [addf_set hdb] at hA2
      generalize Tt.addc F d.1 (- F d.1) = r1 at hA1
      generalize Tt.addc (upd F d.1 0) d.1 d.2 = r2 at hA2
      have hneg : IntKind.i64.wrap (- F d.1) = - F d.1 := by rw [IntKind.wrap_i64]; omega
      have HF1 : Hid (F d.1 = F d.1) := rfl
      generalize F d.1 = c at hCo hA1 hneg
      clear HF1 hFb
      go_wp2_with fail
      rw [← hW2, ← hnb]
      clear hW2 hnb x1 x2 x3 x4
      go_region_held3 (fun w' => w'.cell? ⟨B0, 0, none⟩ = some (.pointer (some ⟨tb, 0, none⟩)) ∧ w'.cell? ⟨nb, 0, none⟩ = some (.int .u64 d.1.1.1) ∧ w'.cell? ⟨nb, 1, none⟩ = some (.int .u64 d.1.1.2.1) ∧ w'.cell? ⟨nb, 2, none⟩ = some (.int .u64 d.1.1.2.2) ∧ w'.cell? ⟨nb, 3, none⟩ = some (.int .i64 d.2) ∧ B0 < w'.heap.size ∧ nb < w'.heap.size)
        (first | exact S0 | exact keepG _ _ (by assumption) (by assumption) | exact keepK _ _ (by assumption) (by assumption))
        (first | (go_at_call 33; refine (hCo _ HT2.out).mono ?_; rintro e w5 ⟨rfl, hg5⟩) | (go_at_call 61; refine (hA1 _ (HT2.out.gr hg5)).mono ?_; rintro e w6 ⟨rfl, ht6, hk6⟩))
      have S6 : (w6.cell? ⟨B0, 0, none⟩ = some (.pointer (some ⟨tb, 0, none⟩)) ∧ w6.cell? ⟨nb, 0, none⟩ = some (.int .u64 d.1.1.1) ∧ w6.cell? ⟨nb, 1, none⟩ = some (.int .u64 d.1.1.2.1) ∧ w6.cell? ⟨nb, 2, none⟩ = some (.int .u64 d.1.1.2.2) ∧ w6.cell? ⟨nb, 3, none⟩ = some (.int .i64 d.2) ∧ B0 < w6.heap.size ∧ nb < w6.heap.size) := keepK _ _ (keepG _ _ S0 hg5) hk6
      have K6 : Hid (Kp (fun k => k = b) wr w6) := ((Kp.of_gr (HG2.out.trans hg5)).trans hk6 (fun _ _ h => h))
      have T6 : Hid (Tl w6 tb b g (n + 2 * k + 1) (upd F d.1 0)) := ht6
      obtain ⟨y1, y2, y3, y4, y5, y6, y7⟩ := S6
      clear S0 keepG keepK hCo hA1 hg5 hk6 ht6
      go_wp2_with fail
      refine (hA2 _ T6.out).mono ?_
      rintro e w7 ⟨rfl, ht7, hk7⟩
      go_wp2
      refine ⟨⟨k + 1, by omega, by go_num, ?_, HI.out.2.trans (K6.out.trans hk7 (fun _ _ h => h)) (fun _ _ h => h)⟩, by simp [RowKit.intOf]; omega⟩
      rw [HS.out]
      exact ht7
    · have hltz : ¬ (k : Int) < (us.length : Int) := by omega
      have hk' : k = us.length := by omega
      subst hk'
      rw [List.take_length] at HI
      go_wp2
      go_end0
      exact ⟨rfl, HI.out.1, (Kp.of_gr HG.out).trans HI.out.2 (fun _ _ h => h)⟩
end Go.Proofs.YtnpmmodcmfgbjaaGreat

namespace Go.Proofs.YtnpmmodcmfgbjaaGreat
open Go.RowKit Go.Sort Go.Maps
open Tt (Tl byd byd_f byd_t)
attribute [local go_sem ↓] Go.wp_at_zero Go.wp_at_succ

/-- The sums of deltas, time by time, as int64 adds. -/
def sm (ds : List Dl) : Tm → Int := ds.foldl (fun g d => upd g d.1 (wrap64 (g d.1 + d.2))) (fun _ => 0)
theorem sm_take_succ {ds : List Dl} {k : Nat} {d : Dl} (h : ds[k]? = some d) : sm (ds.take (k + 1)) = upd (sm (ds.take k)) d.1 (wrap64 (sm (ds.take k) d.1 + d.2)) := by
  unfold sm
  rw [List.take_add_one, h, List.foldl_append]
  rfl
/-- What a count will be. -/
def newc (f : Tm → Int) (ds : List Dl) (t : Tm) : Int := wrap64 (sm ds t + f t)
/-- Is the list refused? -/
def bad (f : Tm → Int) (ds : List Dl) : Bool := ds.any (fun d => byd d.2) || ds.any (fun d => byd (newc f ds d.1))
theorem wf_wrap (z : Int) : (Lit.int .i64 (wrap64 z)).wf = true := WalkArith.wf_i64 (by unfold wrap64; omega)
theorem Coll.all {P : Program} {k : TypeId} {K : Type} [DecidableEq K] {Z : KK P k K} {D : DataW Unit} {left : Lit → Bool} {ss ks : List K} (h : Coll Z D left ss) (h2 : ∀ s, Maps.has D (Z.lit s) = true ↔ s ∈ ks) (hl : ∀ kl, left kl = false) : ss.Nodup ∧ ∀ s, s ∈ ss ↔ s ∈ ks :=
  ⟨h.1, fun s => by rw [h.2 s, hl, h2]; simp⟩
theorem tv_inv {key : Value} {kl : Lit} (h : keyOf Tryz.prog 37 key = some kl) : ∃ x, key = tv x := by
  obtain ⟨x, hx, _⟩ := ZT.inv _ _ h
  exact ⟨x, hx⟩

set_option maxHeartbeats 4000000 in
set_option maxRecDepth 100000 in
theorem behind_any {tb b g n : Nat} {f : Tm → Int} (ds : List Dl) (v : Value) (w : World) (h : Tl w tb b g n f) (hv : Ls ED w v ds) (hl : ds.length * 32 ≤ 140737488355328) :
    Calls Tryz.prog 39 #[cv tb, v] w fun e w' => Below w.heap.size w w' ∧
      ((bad f ds = true ∧ e = .returned (.tuple #[.slice none 0 0, .bool false])) ∨
       (bad f ds = false ∧ ∃ (ks : List Tm) (v' : Value), (ks.Nodup ∧ ∀ t, t ∈ ks ↔ t ∈ ds.map Prod.fst) ∧ e = .returned (.tuple #[v', .bool true]) ∧ w'.ownsRow w.heap.size 54 4 v' ks.length (fl ED (ks.map fun t => (t, newc f ds t))))) := by
  have hmx : Tryz.prog.follows .mixedOrders = true := by kernel_rfl
  have hmm := @run_makeMap Tryz.prog
  obtain ⟨pl, cl, rfl⟩ := hv.form
  obtain ⟨W1, hW1⟩ : ∃ W1, W1 = (w.alloc (.cells #[.pointer (some ⟨tb, 0, none⟩)] 60)).alloc (.map #[] 0) := ⟨_, rfl⟩
  have G1 : Gr w W1 := by rw [hW1]; exact ((Gr.refl _).alloc _).alloc _
  obtain ⟨B0, hB0⟩ : ∃ B0, B0 = w.heap.size := ⟨_, rfl⟩
  obtain ⟨mb, hmb⟩ : ∃ mb, mb = w.heap.size + 1 := ⟨_, rfl⟩
  have hz : B0 < W1.heap.size := by rw [hW1]; simp; omega
  have c0 : W1.cell? ⟨B0, 0, none⟩ = some (.pointer (some ⟨tb, 0, none⟩)) := by rw [hW1, hB0]; simp
  have HM0 : Hid (Mq ZT 2 W1 mb 0 (fun _ => 0) []) := by
    have := Mq.made (Z := ZT) (e := 2) (w.alloc (.cells #[.pointer (some ⟨tb, 0, none⟩)] 60))
    rw [hW1, hmb]
    simpa [Hid] using this
  have HL : Hid (Ls ED W1 (.slice pl ds.length cl) ds) := hv.below G1.below
  have HLB : Hid (∀ k, (Value.slice pl ds.length cl).ownBlock = some k → k < w.heap.size) := hv.blk
  have HT : Hid (Tl w tb b g n f) := h
  have HG : Hid (Gr w W1) := G1
  have hbm : B0 ≠ mb := by omega
  have hbw : w.heap.size ≤ mb := by omega
  have HBB : Hid (B0 = w.heap.size) := hB0
  clear h hv G1
  go_enter Tryz.func39, Tryz.ntmps39
  go_wp2_with fail
  rw [← hW1, ← hmb, ← hB0]
  clear hW1 hmb hB0
  go_loopw [8, 15] (fun _ s15 wr => ∃ k : Nat, k ≤ ds.length ∧ s15 = .int .i64 k ∧ Hid (Mq ZT 2 wr mb k (sm (ds.take k)) ((ds.take k).map Prod.fst) ∧ Kp (fun j => j = mb) W1 wr ∧ ∀ d ∈ ds.take k, byd d.2 = false)) (fun _ s15 _ => ds.length - (RowKit.intOf s15).toNat)
  case atStart => exact ⟨0, Nat.zero_le _, rfl, by simpa [sm] using HM0.out, Kp.refl _ _, by simp⟩
  case round =>
    obtain ⟨k, hk, rfl, HI⟩ := hrel
    have HBW : Hid (Below w.heap.size w wr) := HG.out.below.trans (HI.out.2.1.below HG.out.size (fun j hj => by omega))
    by_cases hlt : k < ds.length
    · have hltz : (k : Int) < (ds.length : Int) := by omega
      obtain ⟨d, hd⟩ : ∃ d, ds[k]? = some d := ⟨ds[k], by simp⟩
      have hdm : d ∈ ds := List.mem_of_getElem? hd
      obtain ⟨b1, o1, c1, e1, z1, x1, x2, x3, x4⟩ := (HI.out.2.1.ls HL.out (fun j hj hs => by have := HLB.out j hj; omega)).at4 hd
      simp only [Value.slice.injEq] at e1
      obtain ⟨rfl, -, rfl⟩ := e1
      have HS : Hid (sm (ds.take (k + 1)) = upd (sm (ds.take k)) d.1 (wrap64 (sm (ds.take k) d.1 + d.2))) := sm_take_succ hd
      have HTK : Hid (ds.take (k + 1) = ds.take k ++ [d]) := by rw [List.take_add_one, hd]; rfl
      have hbe := mbeyond_any d.2
      have HD : Hid (ds[k]? = some d) := hd
      have HDM : Hid (d ∈ ds) := hdm
      clear hd hdm
      cases hq : byd d.2 with
      | true =>
        rw [hq] at hbe
        go_wp2_with (go_at_call 60; refine (hbe _).mono ?_; rintro e w2 ⟨rfl, rfl⟩)
        go_ret2
        refine ⟨HBW.out.trans (((Gr.refl _).alloc _).below.mono HBW.out.size), Or.inl ⟨?_, rfl⟩⟩
        unfold bad
        rw [Bool.or_eq_true]
        exact Or.inl (List.any_eq_true.2 ⟨d, HDM.out, hq⟩)
      | false =>
        rw [hq] at hbe
        obtain ⟨W2, hW2⟩ : ∃ W2, W2 = wr.alloc (.cells #[.int .u64 d.1.1.1, .int .u64 d.1.1.2.1, .int .u64 d.1.1.2.2, .int .i64 d.2] 54) := ⟨_, rfl⟩
        obtain ⟨nb, hnb⟩ : ∃ nb, nb = wr.heap.size := ⟨_, rfl⟩
        have G2 : Gr wr W2 := by rw [hW2]; exact (Gr.refl _).alloc _
        have hmbw : mb < wr.heap.size := HI.out.1.lt
        have hM2 : Mq ZT 2 W2.drew mb k (sm (ds.take k)) ((ds.take k).map Prod.fst) := HI.out.1.kept (G2.drew.below.block mb hmbw)
        obtain ⟨v0, st, w1, w2, hL0, hE, hL1, hSt, hM3, hg1, hg2⟩ := hM2.bump (t := 92) lawTm Tryz.underlying92 Tryz.underlying2 Tt.zeroE (by unfold maxLen; omega) d.1 (wrap64 (sm (ds.take k) d.1 + d.2)) (wf_wrap _)
        have HW2 : Hid (Mq ZT 2 w2 mb (k + 1) (sm (ds.take (k + 1))) ((ds.take (k + 1)).map Prod.fst) ∧ Kp (fun j => j = mb) W1 w2 ∧ ∀ d ∈ ds.take (k + 1), byd d.2 = false) := by
          refine ⟨?_, HI.out.2.1.trans ((Kp.of_gr (S := fun j => j = mb) G2.drew).trans (Kp.grownBy (S := fun j => j = mb) hg2 (fun j hj => by simpa using hj.symm)) (fun _ _ h => h)) (fun _ _ h => h), ?_⟩
          · rw [HS.out, HTK.out]
            simpa using hM3
          · rw [HTK.out]
            intro e he
            rcases List.mem_append.1 he with he | he
            · exact HI.out.2.2 e he
            · simp at he; subst he; exact hq
        have hblk : W2.heap[nb]? = some (.cells #[.int .u64 d.1.1.1, .int .u64 d.1.1.2.1, .int .u64 d.1.1.2.2, .int .i64 d.2] 54 (0, 0)) := by rw [hW2, hnb]; exact heap_new' _ _
        have hnl : nb < W2.drew.heap.size := (Array.getElem?_eq_some_iff.1 hblk).1
        have y0 : ∀ q, w1.cell? ⟨nb, q, none⟩ = W2.drew.cell? ⟨nb, q, none⟩ := fun q => World.cell?_of_block (a := ⟨nb, q, none⟩) (hg1.block nb hnl (by simp; omega))
        have q0 : W2.cell? ⟨nb, 0, none⟩ = some (.int .u64 d.1.1.1) := by simp only [World.cell?]; rw [hblk]; rfl
        have q1 : W2.cell? ⟨nb, 1, none⟩ = some (.int .u64 d.1.1.2.1) := by simp only [World.cell?]; rw [hblk]; rfl
        have q2 : W2.cell? ⟨nb, 2, none⟩ = some (.int .u64 d.1.1.2.2) := by simp only [World.cell?]; rw [hblk]; rfl
        have q3 : W2.cell? ⟨nb, 3, none⟩ = some (.int .i64 d.2) := by simp only [World.cell?]; rw [hblk]; rfl
        have r0 := (y0 0).trans q0
        have r1 := (y0 1).trans q1
        have r2 := (y0 2).trans q2
        have r3 := (y0 3).trans q3
        have hL0 : (Instr.lookup 92 (.map (some mb)) (tv d.1) false).run Tryz.prog W2.drew = .ok (.int .i64 (sm (ds.take k) d.1)) W2.drew := hL0
        have hL1 : (Instr.lookup 92 (.map (some mb)) (tv d.1) false).run Tryz.prog w1 = .ok (.int .i64 (sm (ds.take k) d.1)) w1 := hL1
        have hE : (Instr.mapEntry 92 (.map (some mb)) (tv d.1)).run Tryz.prog W2.drew = .ok (.tuple #[v0, .int .i64 st]) w1 := hE
        have hSt : (Instr.entryStore 92 (.map (some mb)) (.int .i64 st) (.int .i64 (wrap64 (sm (ds.take k) d.1 + d.2)))).run Tryz.prog w1 = .ok () w2 := hSt
        generalize sm (ds.take k) d.1 = c at hL0 hL1 hSt
        go_wp2_with (go_at_call 60; refine (hbe _).mono ?_; rintro e w2 ⟨rfl, rfl⟩)
        rw [← hW2, ← hnb]
        clear hW2 hnb x1 x2 x3 x4 hblk y0 hM2 hM3 hg1 hg2 G2
        go_region
        all_goals go_wp2
        all_goals exact ⟨⟨k + 1, by omega, by go_num, HW2.out⟩, by simp [RowKit.intOf]; omega⟩
    · have hltz : ¬ (k : Int) < (ds.length : Int) := by omega
      have hk' : k = ds.length := by omega
      subst hk'
      have hD := HI.out.1
      have HBD : Hid (∀ d ∈ ds, byd d.2 = false) := by have := HI.out.2.2; rw [List.take_length] at this; exact this
      rw [List.take_length] at hD
      obtain ⟨D, hown, h1, h2⟩ := hD
      have h1' : Hid (∀ s, D.atKey (ZT.lit s) (nd 0) = nd (sm ds s)) := h1
      have hsz := hown.size_le
      have hlen := fun ty => hown.len Tryz.underlying92 ty
      have H2 : Hid (∀ s, Maps.has D (ZT.lit s) = true ↔ s ∈ ds.map Prod.fst) := h2
      have c0r : wr.cell? ⟨B0, 0, none⟩ = some (.pointer (some ⟨tb, 0, none⟩)) := (HI.out.2.1.cell hz hbm).trans c0
      have hzr : B0 < wr.heap.size := Nat.lt_of_lt_of_le hz HI.out.2.1.size
      have hbl : mb < wr.heap.size := hown.lt
      clear HI h1 h2 hltz hlt hk HM0 c0 hz HL HLB HG
      obtain ⟨i0, hi, hz0, hz1, hz2⟩ := info_parts infoDl
      obtain ⟨wL, hwL⟩ : ∃ x, x = wr := ⟨wr, rfl⟩
      subst hwL
      go_wp2_with (first
        | (at_make; refine wpList_make_own _ rfl _ _ 38 rfl wL.heap.size 54 i0 (.agg #[.int .u64 0, .int .u64 0, .int .u64 0, .int .i64 0]) 4 Tryz.underlying38 hi hz0 hz1 _ _ _ (Maps.size D) rfl rfl rfl (by rw [hz2]; omega) (by unfold maxLen; omega) (Nat.le_refl _) ?_; intro w1 hrow1 hg1)
        | (at_range; refine wpList_range_own _ rfl _ 92 rfl 37 2 ZT.law Tryz.underlying92 _ mb ds.length _ rfl (hown.kept hg1 (by simp)) ?_; intro w0 hrg0 hg0 hs0)
        | go_in)
      go_frame
      go_loopw [9, 10, 11] (fun v _ _ wr => ∃ (left : Lit → Bool) (cnt : Nat) (ss : List Tm), wr.ranges Tryz.prog 37 (plainElem Tryz.prog 2) mb w1.heap.size ds.length D left cnt ∧ ss.length + cnt ≤ Maps.size D ∧
          wr.ownsRow wL.heap.size 54 4 v ss.length (fl ED (ss.map fun t => (t, newc f ds t))) ∧ v ≠ .slice none 0 0 ∧ Coll ZT D left ss ∧ Below wL.heap.size wL wr ∧ Hid (∀ t ∈ ss, byd (newc f ds t) = false))
        (fun _ _ _ wr => wr.rangeLeft mb w1.heap.size)
      case atStart =>
        exact ⟨_, _, [], hrg0, by simp, hrow1.kept hg0 (Or.inr (by simp [Value.ownBlock])), by simp, Coll.start D,
          ((Below.refl _ _).grown hg1 (Nat.le_refl _) (fun j hj => by cases hj)).grown hg0 hg1.size (fun j hj => by cases hj), by simp [Hid]⟩
      case round =>
        obtain ⟨left, cnt, ss, hrg, hcs, hrow, hnn, hC, hnx, HB⟩ := hrel
        go_wp2_with (first
          | (at_next; refine wpList_next_ranges _ rfl _ rfl 37 ZT.law (plainElem Tryz.prog 2) tv (Value.int .i64) (fun key kl hk => tv_inv hk) (fun v y hv => by obtain ⟨c, rfl, _⟩ := plainElem_int_inv Tryz.underlying2 hv; exact ⟨c, rfl⟩) mb w1.heap.size ds.length _ _ _ rfl hrg ?_ ?_)
          | go_in)
        · intro hc0 hl0
          have hA := hC.all H2.out hl0
          go_wp2
          go_ret2
          refine ⟨HBW.out.trans (hnx.mono HBW.out.size), Or.inr ⟨?_, ss, _, hA, rfl, owns_base hrow HBW.out.size⟩⟩
          unfold bad
          rw [Bool.or_eq_false_iff, List.any_eq_false, List.any_eq_false]
          refine ⟨fun d hd => by rw [HBD.out d hd]; simp, fun d hd => by rw [HB.out d.1 ((hA.2 d.1).2 (List.mem_map_of_mem hd))]; simp⟩
        · intro ta tb' tc tp c kl yd yp w2 cnt2 hkey hlk hv hat hrg2 hlt2 hg2 hs2 hen
          obtain ⟨x, hx⟩ : ∃ x : Tm, x = ⟨(ta, tb', tc), tp⟩ := ⟨_, rfl⟩
          rw [← hx] at hkey hen ⊢
          clear hx tp ta tb' tc
          obtain rfl : kl = ZT.lit x := by
            have h7 := (ZT.key x).symm.trans hkey
            exact (Option.some.inj h7).symm
          obtain rfl : c = sm ds x := by
            obtain ⟨c', e1, e2, _⟩ := plainElem_int_inv Tryz.underlying2 hv
            have e3 := (h1'.out x).symm.trans (hat _)
            cases e1
            cases e2
            simpa using e3.symm
          have HXM : Hid (x ∈ ds.map Prod.fst) := (H2.out x).1 (has_true_of_atKey hat)
          have hrow2 := hrow.kept hg2 (Or.inr (row_ne_iter hrow hrg).symm)
          have B2 : Below wL.heap.size wL w2 := hnx.grown hg2 hnx.size (fun j hj => by cases hj; exact hg1.size)
          have HC2 := hC.step hlk hat
          have c02 : w2.cell? ⟨B0, 0, none⟩ = some (.pointer (some ⟨tb, 0, none⟩)) := (B2.cell (p := ⟨B0, 0, none⟩) hzr).trans c0r
          have hz2' : B0 < w2.heap.size := Nat.lt_of_lt_of_le hzr B2.size
          obtain ⟨W3, hW3⟩ : ∃ W3, W3 = w2.alloc (.cells #[.int .u64 x.1.1, .int .u64 x.1.2.1, .int .u64 x.1.2.2] 37) := ⟨_, rfl⟩
          obtain ⟨nb, hnb⟩ : ∃ nb, nb = w2.heap.size := ⟨_, rfl⟩
          have G3 : Gr w2 W3 := by rw [hW3]; exact (Gr.refl _).alloc _
          have B3 : Below wL.heap.size wL W3 := B2.trans (G3.below.mono B2.size)
          have hco := mcount_any x W3 ((HT.out.below HBW.out).below B3)
          have hblk : W3.heap[nb]? = some (.cells #[.int .u64 x.1.1, .int .u64 x.1.2.1, .int .u64 x.1.2.2] 37 (0, 0)) := by rw [hW3, hnb]; exact heap_new' _ _
          have hnl : nb < W3.heap.size := (Array.getElem?_eq_some_iff.1 hblk).1
          have q0 : W3.cell? ⟨nb, 0, none⟩ = some (.int .u64 x.1.1) := by simp only [World.cell?]; rw [hblk]; rfl
          have q1 : W3.cell? ⟨nb, 1, none⟩ = some (.int .u64 x.1.2.1) := by simp only [World.cell?]; rw [hblk]; rfl
          have q2 : W3.cell? ⟨nb, 2, none⟩ = some (.int .u64 x.1.2.2) := by simp only [World.cell?]; rw [hblk]; rfl
          have c03 := (G3.cell hz2').trans c02
          have hrow3 := owns_below hrow2 G3.below
          have hrg3 := hrg2.kept (row := none) ⟨G3.below.os, G3.below.tape, G3.below.output, G3.below.size, fun k hk _ => G3.below.block k hk⟩ (by simp) (by simp)
          have hbe := mbeyond_any (newc f ds x)
          have hnc : newc f ds x = wrap64 (sm ds x + f x) := rfl
          rw [hnc] at hbe
          have HSS : Hid (fl ED ((ss ++ [x]).map fun t => (t, newc f ds t)) = fl ED (ss.map fun t => (t, newc f ds t)) ++ ED.enc (x, wrap64 (sm ds x + f x))) := by
            rw [List.map_append, fl_append, ← hnc]
            simp [Hid, fl]
          have HNC : Hid (newc f ds x = wrap64 (sm ds x + f x)) := hnc
          clear hnc
          generalize sm ds x = sx at *
          generalize f x = fx at *
          clear hs2 hblk hrow2 hrg2 hv hat hkey hlk
          cases hq : byd (wrap64 (sx + fx)) with
          | true =>
            rw [hq] at hbe
            go_wp2_with fail
            rw [← hW3]
            refine hco.mono ?_
            rintro e w4 ⟨rfl, hg4⟩
            go_wp2_with (go_at_call 60; refine (hbe _).mono ?_; rintro e w5 ⟨rfl, rfl⟩)
            go_ret2
            refine ⟨HBW.out.trans ((B3.trans (hg4.below.mono B3.size)).mono HBW.out.size), Or.inl ⟨?_, rfl⟩⟩
            unfold bad
            rw [Bool.or_eq_true]
            obtain ⟨d, hd, hdx⟩ := List.mem_map.1 HXM.out
            exact Or.inr (List.any_eq_true.2 ⟨d, hd, by rw [hdx, HNC.out]; exact hq⟩)
          | false =>
            rw [hq] at hbe
            go_wp2_with fail
            rw [← hW3]
            refine hco.mono ?_
            rintro e w4 ⟨rfl, hg4⟩
            have r0 := (hg4.cell hnl).trans q0
            have r1 := (hg4.cell hnl).trans q1
            have r2 := (hg4.cell hnl).trans q2
            have hnl4 := Nat.lt_of_lt_of_le hnl hg4.size
            rw [hnb] at r0 r1 r2 hnl4
            have B4 : Below wL.heap.size wL w4 := B3.trans (hg4.below.mono B3.size)
            have hrow4 := owns_below hrow3 hg4.below
            have hrg4 := hrg3.kept (row := none) ⟨hg4.below.os, hg4.below.tape, hg4.below.output, hg4.below.size, fun k hk _ => hg4.below.block k hk⟩ (by simp) (by simp)
            clear q0 q1 q2 hrow3 hrg3 hco hg4
            go_wp2_with (first
              | (go_at_call 60; refine (hbe _).mono ?_; rintro e w5 ⟨rfl, rfl⟩)
              | (at_builtin; refine wpApp1D rfl _ _ rfl wL.heap.size _ ss.length _ rfl hrow4 (x, wrap64 (sx + fx)) rfl (by omega) B4.size ?_; intro g' cap' w6 ho6 hg6 hl6)
              | go_in)
            have hrg6 := hrg4.kept hg6 (row_ne_low hrow4 hbl) (row_ne_iter hrow4 hrg4)
            go_roundw
            case rel =>
              refine ⟨_, cnt2, ss ++ [x], hrg6, by simp; omega, ?_, by simp, HC2, ?_, fun t ht => ?_⟩
              · rw [HSS.out, List.length_append]
                exact ho6
              · exact B4.trans ((Kp.grownBy (S := fun k => wL.heap.size ≤ k) hg6 (fun k hk => (hrow4.lt k hk).1)).below B4.size (fun _ h => h))
              · rcases List.mem_append.1 ht with h | h
                · exact HB.out t h
                · simp at h; subst h; rw [HNC.out]; exact hq
            case measure => rw [hrg6.left_eq, hrg.left_eq]; exact hlt2
end Go.Proofs.YtnpmmodcmfgbjaaGreat

namespace Go.Proofs.YtnpmmodcmfgbjaaGreat.Cn
open Go.RowKit Go.Sort
attribute [local go_sem ↓] Go.wp_at_zero Go.wp_at_succ

set_option maxHeartbeats 1000000 in
theorem covers1_any (fb : Nat) (bel : Tm → Tm → Bool) (hF : FnOk fb bel) (x v : Tm) (B1 B2 cb : Nat) (w : World) (h1 : B1 < w.heap.size) (h2 : B2 < w.heap.size) (hc : cb < w.heap.size)
    (c1 : w.cell? ⟨B1, 0, none⟩ = some (.pointer (some ⟨cb, 0, none⟩))) (c20 : w.cell? ⟨B2, 0, none⟩ = some (.int .u64 v.1.1)) (c21 : w.cell? ⟨B2, 1, none⟩ = some (.int .u64 v.1.2.1)) (c22 : w.cell? ⟨B2, 2, none⟩ = some (.int .u64 v.1.2.2)) (cf : w.cell? ⟨cb, 0, none⟩ = some (fv fb)) :
    Calls Tryz.prog 54 #[tv x, .pointer (some ⟨B1, 0, none⟩), .pointer (some ⟨B2, 0, none⟩)] w fun e w' => e = .returned (.bool (bel x v)) ∧ Gr w w' := by
  have he := hF.enter
  have hcall := hF.calls x v
  generalize bel x v = r at hcall ⊢
  have hm : Tryz.prog.follows .mixedOrders = true := by kernel_rfl
  obtain ⟨W1, hW1⟩ : ∃ W1, W1 = w.alloc (.cells #[.int .u64 x.1.1, .int .u64 x.1.2.1, .int .u64 x.1.2.2] 37) := ⟨_, rfl⟩
  have G1 : Gr w W1 := by rw [hW1]; exact (Gr.refl _).alloc _
  have hz : w.heap.size < W1.heap.size := by rw [hW1]; simp
  obtain ⟨nb, hnb⟩ : ∃ nb, nb = w.heap.size := ⟨_, rfl⟩
  have k1 := cell_grown (a := ⟨B1, 0, none⟩) (Nat.lt_trans h1 hz) ((G1.cell h1).trans c1)
  have k2 := cell_grown (a := ⟨B2, 0, none⟩) (Nat.lt_trans h2 hz) ((G1.cell h2).trans c20)
  have k3 := cell_grown (a := ⟨B2, 1, none⟩) (Nat.lt_trans h2 hz) ((G1.cell h2).trans c21)
  have k3b := cell_grown (a := ⟨B2, 2, none⟩) (Nat.lt_trans h2 hz) ((G1.cell h2).trans c22)
  have k4 := cell_grown (a := ⟨cb, 0, none⟩) (Nat.lt_trans hc hz) ((G1.cell hc).trans cf)
  have k5 := cell_grown (w := W1) (a := ⟨nb, 0, none⟩) (v := .int .u64 x.1.1) (by rw [hnb]; exact hz) (by rw [hW1, hnb]; simp)
  have k6 := cell_grown (w := W1) (a := ⟨nb, 1, none⟩) (v := .int .u64 x.1.2.1) (by rw [hnb]; exact hz) (by rw [hW1, hnb]; simp)
  have k7 := cell_grown (w := W1) (a := ⟨nb, 2, none⟩) (v := .int .u64 x.1.2.2) (by rw [hnb]; exact hz) (by rw [hW1, hnb]; simp)
  go_enter Tryz.func54, Tryz.ntmps54
  go_wp2_with fail
  rw [← hW1, ← hnb]
  clear hW1 hnb c1 c20 c21 c22 cf
  go_quiet_grown (first | (go_at_fn fb; refine Calls.grown_of (v := .bool r) (hcall _)))
  go_wp2
  go_ret
  exact ⟨rfl, (G1.drewN _).grown _⟩
set_option maxHeartbeats 1000000 in
theorem staying1_any (fb : Nat) (bel : Tm → Tm → Bool) (hF : FnOk fb bel) (x v : Tm) (B1 B2 cb : Nat) (w : World) (h1 : B1 < w.heap.size) (h2 : B2 < w.heap.size) (hc : cb < w.heap.size)
    (c1 : w.cell? ⟨B1, 0, none⟩ = some (.pointer (some ⟨cb, 0, none⟩))) (c20 : w.cell? ⟨B2, 0, none⟩ = some (.int .u64 v.1.1)) (c21 : w.cell? ⟨B2, 1, none⟩ = some (.int .u64 v.1.2.1)) (c22 : w.cell? ⟨B2, 2, none⟩ = some (.int .u64 v.1.2.2)) (cf : w.cell? ⟨cb, 0, none⟩ = some (fv fb)) :
    Calls Tryz.prog 84 #[tv x, .pointer (some ⟨B1, 0, none⟩), .pointer (some ⟨B2, 0, none⟩)] w fun e w' => e = .returned (.bool (bel v x)) ∧ Gr w w' := by
  have he := hF.enter
  have hcall := hF.calls v x
  generalize bel v x = r at hcall ⊢
  have hm : Tryz.prog.follows .mixedOrders = true := by kernel_rfl
  obtain ⟨W1, hW1⟩ : ∃ W1, W1 = w.alloc (.cells #[.int .u64 x.1.1, .int .u64 x.1.2.1, .int .u64 x.1.2.2] 37) := ⟨_, rfl⟩
  have G1 : Gr w W1 := by rw [hW1]; exact (Gr.refl _).alloc _
  have hz : w.heap.size < W1.heap.size := by rw [hW1]; simp
  obtain ⟨nb, hnb⟩ : ∃ nb, nb = w.heap.size := ⟨_, rfl⟩
  have k1 := cell_grown (a := ⟨B1, 0, none⟩) (Nat.lt_trans h1 hz) ((G1.cell h1).trans c1)
  have k2 := cell_grown (a := ⟨B2, 0, none⟩) (Nat.lt_trans h2 hz) ((G1.cell h2).trans c20)
  have k3 := cell_grown (a := ⟨B2, 1, none⟩) (Nat.lt_trans h2 hz) ((G1.cell h2).trans c21)
  have k3b := cell_grown (a := ⟨B2, 2, none⟩) (Nat.lt_trans h2 hz) ((G1.cell h2).trans c22)
  have k4 := cell_grown (a := ⟨cb, 0, none⟩) (Nat.lt_trans hc hz) ((G1.cell hc).trans cf)
  have k5 := cell_grown (w := W1) (a := ⟨nb, 0, none⟩) (v := .int .u64 x.1.1) (by rw [hnb]; exact hz) (by rw [hW1, hnb]; simp)
  have k6 := cell_grown (w := W1) (a := ⟨nb, 1, none⟩) (v := .int .u64 x.1.2.1) (by rw [hnb]; exact hz) (by rw [hW1, hnb]; simp)
  have k7 := cell_grown (w := W1) (a := ⟨nb, 2, none⟩) (v := .int .u64 x.1.2.2) (by rw [hnb]; exact hz) (by rw [hW1, hnb]; simp)
  go_enter Tryz.func84, Tryz.ntmps84
  go_wp2_with fail
  rw [← hW1, ← hnb]
  clear hW1 hnb c1 c20 c21 c22 cf
  go_quiet_grown (first | (go_at_fn fb; refine Calls.grown_of (v := .bool r) (hcall _)))
  go_wp2
  go_ret
  exact ⟨rfl, (G1.drewN _).grown _⟩
set_option maxHeartbeats 1000000 in
theorem place1_any (fb : Nat) (bel : Tm → Tm → Bool) (hF : FnOk fb bel) (x v : Tm) (B1 B2 cb : Nat) (w : World) (h1 : B1 < w.heap.size) (h2 : B2 < w.heap.size) (hc : cb < w.heap.size)
    (c1 : w.cell? ⟨B1, 0, none⟩ = some (.pointer (some ⟨cb, 0, none⟩))) (c20 : w.cell? ⟨B2, 0, none⟩ = some (.int .u64 v.1.1)) (c21 : w.cell? ⟨B2, 1, none⟩ = some (.int .u64 v.1.2.1)) (c22 : w.cell? ⟨B2, 2, none⟩ = some (.int .u64 v.1.2.2)) (cf : w.cell? ⟨cb, 1, none⟩ = some (fv fb)) :
    Calls Tryz.prog 85 #[tv x, .pointer (some ⟨B1, 0, none⟩), .pointer (some ⟨B2, 0, none⟩)] w fun e w' => e = .returned (.bool (bel v x)) ∧ Gr w w' := by
  have he := hF.enter
  have hcall := hF.calls v x
  generalize bel v x = r at hcall ⊢
  have hm : Tryz.prog.follows .mixedOrders = true := by kernel_rfl
  obtain ⟨W1, hW1⟩ : ∃ W1, W1 = w.alloc (.cells #[.int .u64 x.1.1, .int .u64 x.1.2.1, .int .u64 x.1.2.2] 37) := ⟨_, rfl⟩
  have G1 : Gr w W1 := by rw [hW1]; exact (Gr.refl _).alloc _
  have hz : w.heap.size < W1.heap.size := by rw [hW1]; simp
  obtain ⟨nb, hnb⟩ : ∃ nb, nb = w.heap.size := ⟨_, rfl⟩
  have k1 := cell_grown (a := ⟨B1, 0, none⟩) (Nat.lt_trans h1 hz) ((G1.cell h1).trans c1)
  have k2 := cell_grown (a := ⟨B2, 0, none⟩) (Nat.lt_trans h2 hz) ((G1.cell h2).trans c20)
  have k3 := cell_grown (a := ⟨B2, 1, none⟩) (Nat.lt_trans h2 hz) ((G1.cell h2).trans c21)
  have k3b := cell_grown (a := ⟨B2, 2, none⟩) (Nat.lt_trans h2 hz) ((G1.cell h2).trans c22)
  have k4 := cell_grown (a := ⟨cb, 1, none⟩) (Nat.lt_trans hc hz) ((G1.cell hc).trans cf)
  have k5 := cell_grown (w := W1) (a := ⟨nb, 0, none⟩) (v := .int .u64 x.1.1) (by rw [hnb]; exact hz) (by rw [hW1, hnb]; simp)
  have k6 := cell_grown (w := W1) (a := ⟨nb, 1, none⟩) (v := .int .u64 x.1.2.1) (by rw [hnb]; exact hz) (by rw [hW1, hnb]; simp)
  have k7 := cell_grown (w := W1) (a := ⟨nb, 2, none⟩) (v := .int .u64 x.1.2.2) (by rw [hnb]; exact hz) (by rw [hW1, hnb]; simp)
  go_enter Tryz.func85, Tryz.ntmps85
  go_wp2_with fail
  rw [← hW1, ← hnb]
  clear hW1 hnb c1 c20 c21 c22 cf
  go_quiet_grown (first | (go_at_fn fb; refine Calls.grown_of (v := .bool r) (hcall _)))
  go_wp2
  go_ret
  exact ⟨rfl, (G1.drewN _).grown _⟩
/-- A predicate over times, at every later world. -/
def PredG (g : Nat) (lb : Array Value) (p : Tm → Bool) (w : World) : Prop := ∀ (W : World) (x : Tm), Gr w W → Calls Tryz.prog g (#[tv x] ++ lb) W fun e w' => e = .returned (.bool (p x)) ∧ Gr W w'
/-- The first place, or -1. -/
def idxv (p : Tm → Bool) (l : List Tm) : Int := if l.findIdx p < l.length then (l.findIdx p : Int) else -1
theorem idxv_hit {p : Tm → Bool} {l : List Tm} {k : Nat} {x : Tm} (hx : l[k]? = some x) (hp : p x = true) (hn : ∀ j y, j < k → l[j]? = some y → p y = false) : idxv p l = (k : Int) := by
  obtain ⟨hk, rfl⟩ := List.getElem?_eq_some_iff.1 hx
  have : l.findIdx p = k := by
    rw [List.findIdx_eq hk]
    exact ⟨hp, fun j hj => by simpa using hn j _ hj (List.getElem?_eq_getElem (Nat.lt_trans hj hk))⟩
  unfold idxv
  rw [this, if_pos hk]
theorem idxv_miss {p : Tm → Bool} {l : List Tm} (hn : ∀ j y, j < l.length → l[j]? = some y → p y = false) : idxv p l = -1 := by
  have : l.findIdx p = l.length := by
    rw [List.findIdx_eq_length]
    intro x hx
    obtain ⟨j, hj⟩ := List.mem_iff_getElem?.1 hx
    exact hn j x (List.getElem?_eq_some_iff.1 hj).1 hj
  unfold idxv
  rw [this, if_neg (Nat.lt_irrefl _)]
theorem idxv_neg (p : Tm → Bool) (l : List Tm) : decide (0 ≤ idxv p l) = l.any p := by
  unfold idxv
  by_cases h : l.findIdx p < l.length
  · rw [if_pos h]
    have : l.any p = true := by
      rw [List.findIdx_lt_length] at h
      simpa using h
    rw [this]; simp
  · rw [if_neg h]
    have : l.any p = false := by
      rw [List.findIdx_lt_length] at h
      simpa using h
    rw [this]; simp

set_option maxHeartbeats 2000000 in
set_option maxRecDepth 100000 in
theorem indexFunc_any (v : Value) (l : List Tm) (g : Nat) (lb : Array Value) (p : Tm → Bool) (w : World) (hv : Lst w v l) (hl : l.length ≤ maxLen) (eg : ∀ args w, (callFunc g args).run Tryz.prog w = .ok (.enter g args) w) (hp : PredG g lb p w) :
    Calls Tryz.prog 70 #[v, .func (.func g) #[] lb] w fun e w' => e = .returned (.int .i64 (idxv p l)) ∧ Gr w w' := by
  unfold maxLen at hl
  obtain ⟨pl, cl, rfl⟩ := hv.form
  have HL : Hid (Lst w (.slice pl l.length cl) l) := hv
  have HP : Hid (PredG g lb p w) := hp
  clear hv hp
  obtain ⟨r, hr⟩ : ∃ r, r = idxv p l := ⟨_, rfl⟩
  rw [← hr]
  have HRR : Hid (r = idxv p l) := hr
  clear hr
  go_enter Tryz.func70, Tryz.ntmps70
  go_wp2_with fail
  go_loopw [5, 8] (fun s5 s8 wr => ∃ k : Nat, k ≤ l.length ∧ s8 = .int .i64 k ∧ Gr w wr ∧ Hid (∀ j y, j < k → l[j]? = some y → p y = false)) (fun _ s8 _ => l.length - (RowKit.intOf s8).toNat)
  case atStart => exact ⟨0, Nat.zero_le _, rfl, Gr.refl _, fun j _ hj => absurd hj (Nat.not_lt_zero _)⟩
  case round =>
    obtain ⟨k, hk, rfl, hgr, A⟩ := hrel
    by_cases hlt : k < l.length
    · have hltz : (k : Int) < (l.length : Int) := by omega
      obtain ⟨x, hx⟩ : ∃ x, l[k]? = some x := ⟨l[k], by simp⟩
      obtain ⟨b1, o1, c1, e1, z1, x1, x2, x3⟩ := (HL.out.below hgr.below).at3 hx
      simp only [Value.slice.injEq] at e1
      obtain ⟨rfl, -, rfl⟩ := e1
      have HX : Hid (l[k]? = some x) := hx
      clear hx
      have hcall := HP.out wr x hgr
      cases hq : p x with
      | true =>
        rw [hq] at hcall
        go_wp2_with (go_at_fn g; refine hcall.mono ?_; rintro e w' ⟨rfl, hb'⟩)
        go_ret
        exact ⟨by rw [HRR.out, idxv_hit HX.out hq A.out]; rfl, hgr.trans hb'⟩
      | false =>
        rw [hq] at hcall
        go_wp2_with (go_at_fn g; refine hcall.mono ?_; rintro e w' ⟨rfl, hb'⟩)
        refine ⟨⟨k + 1, by omega, by go_num, hgr.trans hb', fun j y hj hy => ?_⟩, by simp [RowKit.intOf]; omega⟩
        by_cases e : j = k
        · subst e
          have := HX.out
          rw [hy] at this
          cases this; exact hq
        · exact A.out j y (by omega) hy
    · have hltz : ¬ (k : Int) < (l.length : Int) := by omega
      have hk' : k = l.length := by omega
      subst hk'
      go_wp2
      go_ret
      exact ⟨by rw [HRR.out, idxv_miss A.out]; rfl, hgr⟩

set_option maxHeartbeats 2000000 in
theorem containsFunc_any (v : Value) (l : List Tm) (g : Nat) (lb : Array Value) (p : Tm → Bool) (w : World) (hv : Lst w v l) (hl : l.length ≤ maxLen) (eg : ∀ args w, (callFunc g args).run Tryz.prog w = .ok (.enter g args) w) (hp : PredG g lb p w) :
    Calls Tryz.prog 53 #[v, .func (.func g) #[] lb] w fun e w' => e = .returned (.bool (l.any p)) ∧ Gr w w' := by
  have h := indexFunc_any v l g lb p w hv hl eg hp
  rw [← idxv_neg]
  generalize idxv p l = r at h ⊢
  go_enter Tryz.func53, Tryz.ntmps53
  go_wp2_with fail
  refine h.mono ?_
  rintro e w1 ⟨rfl, hg⟩
  go_wp2
  go_ret
  exact ⟨by first | rfl | simp, hg⟩
/-- A chain's block and its list. -/
structure Ch (w : World) (cb fb ff : Nat) (v : Value) (l : List Tm) : Prop where
  blk : w.heap[cb]? = some (.cells #[fv fb, fv ff, v] 84 (0, 0))
  own : w.ownsRow 0 37 3 v l.length (flT l)
  off : v.ownBlock ≠ some cb
section
variable {w w' : World} {cb fb ff : Nat} {v : Value} {l : List Tm}
theorem Ch.lt (h : Ch w cb fb ff v l) : cb < w.heap.size := (Array.getElem?_eq_some_iff.1 h.blk).1
theorem Ch.c0 (h : Ch w cb fb ff v l) : w.cell? ⟨cb, 0, none⟩ = some (fv fb) := by simp [World.cell?, h.blk]
theorem Ch.c1 (h : Ch w cb fb ff v l) : w.cell? ⟨cb, 1, none⟩ = some (fv ff) := by simp [World.cell?, h.blk]
theorem Ch.c2 (h : Ch w cb fb ff v l) : w.cell? ⟨cb, 2, none⟩ = some v := by simp [World.cell?, h.blk]
theorem Ch.fz (h : Ch w cb fb ff v l) : w.frozen? ⟨cb, 2, none⟩ = false := by simp [World.frozen?, h.blk]
theorem Ch.lst (h : Ch w cb fb ff v l) : Lst w v l := owns_lst h.own
theorem Ch.row (h : Ch w cb fb ff v l) : ∀ k, v.ownBlock = some k → k < w.heap.size := fun k hk => (h.own.lt k hk).2
theorem Ch.kp {S : Nat → Prop} (h : Ch w cb fb ff v l) (hk : Kp S w w') (h1 : ¬ S cb) (h2 : ∀ k, v.ownBlock = some k → ¬ S k) : Ch w' cb fb ff v l :=
  ⟨(hk.block cb h.lt h1).trans h.blk, owns_kp hk h.own h2, h.off⟩
theorem Ch.below (h : Ch w cb fb ff v l) (hb : Below w.heap.size w w') : Ch w' cb fb ff v l := h.kp (S := fun _ => False) (Kp.of_below hb) (fun h => h) (fun _ _ h => h)
/-- The list is set anew. -/
theorem Ch.set {v2 : Value} {l2 : List Tm} (h : Ch w cb fb ff v l) (ho : w.ownsRow 0 37 3 v2 l2.length (flT l2)) (hoff : v2.ownBlock ≠ some cb) : Ch (w.setCell ⟨cb, 2, none⟩ v2) cb fb ff v2 l2 ∧ Kp (fun k => k = cb) w (w.setCell ⟨cb, 2, none⟩ v2) := by
  have e := setCell_eq_setRow w cb 2 _ _ _ v2 h.blk
  have hk : Kp (fun k => k = cb) w (w.setCell ⟨cb, 2, none⟩ v2) := by
    rw [e]
    exact ⟨rfl, rfl, rfl, by simp [World.setRow], fun k _ hne => setRow_other w cb k _ (by omega)⟩
  refine ⟨⟨?_, owns_kp hk ho (fun k hk he => hoff (he ▸ hk)), hoff⟩, hk⟩
  rw [e, setRow_heap w cb _ _ _ _ h.blk]
  simp
end
/-- What a call may turn of a chain: its block, its row. -/
def Turn (cb : Nat) (v v' : Value) (w w' : World) : Prop := Kp (fun k => k = cb ∨ v.ownBlock = some k) w w' ∧ ∀ g, v'.ownBlock = some g → v.ownBlock = some g ∨ w.heap.size ≤ g
theorem Turn.refl (cb : Nat) (v : Value) (w : World) : Turn cb v v w w := ⟨Kp.refl _ _, fun _ h => Or.inl h⟩
theorem Turn.of_below {cb : Nat} {v : Value} {w w' : World} (h : Below w.heap.size w w') : Turn cb v v w w' := ⟨Kp.of_below h, fun _ h => Or.inl h⟩
theorem Turn.trans {cb : Nat} {v1 v2 v3 : Value} {a b c : World} (h : Turn cb v1 v2 a b) (k : Turn cb v2 v3 b c) : Turn cb v1 v3 a c := by
  refine ⟨h.1.trans k.1 fun j hj hs => ?_, fun g hg => ?_⟩
  · rcases hs with hs | hs
    · exact Or.inl hs
    · rcases h.2 j hs with h1 | h1
      · exact Or.inr h1
      · exact absurd h1 (Nat.not_le.2 hj)
  · rcases k.2 g hg with h1 | h1
    · exact h.2 g h1
    · exact Or.inr (Nat.le_trans h.1.size h1)
/-- Of a chain that lies above B. -/
theorem Turn.below {cb B : Nat} {v v' : Value} {w w' : World} (h : Turn cb v v' w w') (hB : B ≤ w.heap.size) (hc : B ≤ cb) (hv : ∀ g, v.ownBlock = some g → B ≤ g) : Below B w w' ∧ ∀ g, v'.ownBlock = some g → B ≤ g := by
  refine ⟨h.1.below hB fun k hk => ?_, fun g hg => ?_⟩
  · rcases hk with rfl | hk
    · exact hc
    · exact hv k hk
  · rcases h.2 g hg with h1 | h1
    · exact hv g h1
    · exact Nat.le_trans hB h1

end Go.Proofs.YtnpmmodcmfgbjaaGreat.Cn
