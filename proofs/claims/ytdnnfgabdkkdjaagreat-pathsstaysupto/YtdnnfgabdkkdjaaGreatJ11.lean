import Derived.Test.YtdnnfgabdkkdjaaGreatJ10
import Derived.Sort.OwnSortedInts
import Derived.Test.YtdnnfgabdkkdjaaGreatFits
import Derived.Test.YtdnnfgabdkkdjaaGreatJ1
namespace Go.Proofs.YtdnnfgabdkkdjaaGreat.Df
open Go.RowKit Go.Sort
def isE (c : Con) : Bool := decide (c.via = (0, 0, 0))
def cIn (ns : List Nod) (i : Nat) (c : Con) : Nat := firstN ns i + c.inn.toNat
def cOut (ns : List Nod) (i : Nat) (c : Con) : Nat := firstN ns i + (match ns[i]? with | some n => n.ins.toNat | none => 0) + c.out.toNat
def conS (ns : List Nod) (i : Nat) (c : Con) : Nat × Nat := (cIn ns i c, cOut ns i c)
def nodS (ns : List Nod) (i : Nat) (l : List Con) : List (Nat × Nat) := (l.filter isE).map (conS ns i)
def nodU (ns : List Nod) : Nat → List (Nat × Nat)
 | 0 => []
 | i + 1 => nodU ns i ++ nodS ns i (connsAt ns (i : Int))
def edgP (ns : List Nod) (d : Edg) : Nat × Nat := (outPl ns d, inPl ns d)
def edgS (ns : List Nod) (es : List Edg) : List (Nat × Nat) := es.map (edgP ns)
def stS (g : Gph) : List (Nat × Nat) := edgS g.nodes g.edges ++ nodU g.nodes g.nodes.length
def fromS (l : List (Nat × Nat)) (k : Nat) : List Int := (l.filter fun p => p.1 == k).map fun p => ((p.2 : Nat) : Int)
def srtI (l : List Int) : List Int := l.mergeSort fun x y => decide (x ≤ y)
def stL (g : Gph) : List (List Int) := (List.range (plN g.nodes)).map fun k => srtI (fromS (stS g) k)
theorem fromS_snoc (l : List (Nat × Nat)) (p : Nat × Nat) (k : Nat) : fromS (l ++ [p]) k = if k = p.1 then fromS l p.1 ++ [((p.2 : Nat) : Int)] else fromS l k := by
 unfold fromS
 rw [List.filter_append, List.map_append]
 by_cases h : k = p.1
 ·subst h
  simp
 ·have h2 : ¬ p.1 = k := fun e => h e.symm
  simp [h, h2]
theorem fromS_len (l : List (Nat × Nat)) (k : Nat) : (fromS l k).length ≤ l.length := by
 unfold fromS
 rw [List.length_map]
 exact List.length_filter_le _ _
theorem srtI_len (l : List Int) : (srtI l).length = l.length := List.length_mergeSort l
theorem srtI_mem {l : List Int} {x : Int} : x ∈ srtI l ↔ x ∈ l := (List.mergeSort_perm l _).mem_iff
theorem fromS_mem {l : List (Nat × Nat)} {k : Nat} {x : Int} : x ∈ fromS l k ↔ ∃ q : Nat, x = (q : Int) ∧ (k, q) ∈ l := by
 unfold fromS
 constructor
 ·intro h
  obtain ⟨p, hp, rfl⟩ := List.mem_map.1 h
  obtain ⟨h1, h2⟩ := List.mem_filter.1 hp
  obtain ⟨a, b⟩ := p
  have h3 : a = k := by simpa using h2
  subst h3
  exact ⟨b, rfl, h1⟩
 ·rintro ⟨q, rfl, h⟩
  exact List.mem_map.2 ⟨(k, q), List.mem_filter.2 ⟨h, by simp⟩, rfl⟩
theorem stL_len (g : Gph) : (stL g).length = plN g.nodes := by simp [stL]
theorem stL_get {g : Gph} {k : Nat} (hk : k < plN g.nodes) : (stL g)[k]? = some (srtI (fromS (stS g) k)) := by simp [stL, hk]
theorem nflaw_rest {a : Int} {n : Nod} (h : nflaw a n = 0) : (pIn n.kind n.ins = true ∧ pOut n.kind n.outs = true) ∧ nrest a n = 0 := by
 unfold nflaw at h
 split at h
 ·cases h
 ·split at h
  ·cases h
  ·split at h
   ·cases h
   ·rename_i h1 h2 h3
    exact ⟨Classical.not_not.1 h2, h⟩
theorem acrL_mem {o i : Nat} {c : Con} (h : c ∈ acrL o i) : 0 ≤ c.inn ∧ c.inn < (i : Int) ∧ 0 ≤ c.out ∧ c.out < (o : Int) := by
 induction i with
 | zero => cases h
 | succ i ih =>
  unfold acrL at h
  rcases List.mem_append.1 h with h | h
  ·have := ih h
   omega
  ·unfold rowL at h
   obtain ⟨p, hp, rfl⟩ := List.mem_map.1 h
   have := List.mem_range.1 hp
   dsimp only
   omega
theorem connsN_good {a : Int} {n : Nod} (h : nflaw a n = 0) {c : Con} (hc : c ∈ connsN n) : (0 ≤ c.inn ∧ c.inn < n.ins) ∧ (0 ≤ c.out ∧ c.out < n.outs) := by
 obtain ⟨⟨h1, h2⟩, h3⟩ := nflaw_rest h
 have h4 := nflaw_ports h
 unfold connsN at hc
 split at hc
 ·rename_i hk
  simp at hc
  subst hc
  unfold pIn at h1
  unfold pOut at h2
  rw [if_neg (by omega), if_neg (by omega), if_neg (by omega)] at h1
  rw [if_neg (by omega), if_neg (by omega)] at h2
  simp at h1 h2
  dsimp only
  omega
 ·split at hc
  ·rename_i hk
   unfold nrest at h3
   rw [if_neg (by omega), if_neg (by omega), if_pos hk] at h3
   split at h3
   ·rename_i hok
    obtain ⟨j, hj⟩ := List.mem_iff_getElem?.1 hc
    have := (cok_iff.1 hok).2 j c hj
    exact ⟨this.1, this.2.1⟩
   ·cases h3
  ·have := acrL_mem hc
   omega
theorem connsN_len {a : Int} {n : Nod} (h : nflaw a n = 0) : (connsN n).length ≤ 16 := by
 have h4 := nflaw_ports h
 unfold connsN
 split
 ·simp
 ·split
  ·exact (nflaw_lists h).2
  ·rw [acrL_length]
   have h1 : n.ins.toNat ≤ 4 := by omega
   have h2 : n.outs.toNat ≤ 4 := by omega
   exact Nat.le_trans (Nat.mul_le_mul h1 h2) (by decide)
theorem connsAt_nat (ns : List Nod) (i : Nat) : connsAt ns (i : Int) = match ns[i]? with | some n => connsN n | none => [] := by
 unfold connsAt natN?
 rw [if_pos (by omega)]
 rfl
theorem Gok.con {g : Gph} (h : Gok g) {i : Nat} {c : Con} (hc : c ∈ connsAt g.nodes (i : Int)) : hasIN g.nodes (i : Int) c.inn = true ∧ hasON g.nodes (i : Int) c.out = true := by
 rw [connsAt_nat] at hc
 cases e : g.nodes[i]? with
 | none => rw [e] at hc; cases hc
 | some n =>
  rw [e] at hc
  have hn := h.ng i n (List.getElem?_eq_some_iff.1 e).1 e
  have hg := connsN_good hn hc
  unfold hasIN hasON natN?
  rw [if_pos (by omega), show ((i : Nat) : Int).toNat = i by omega, e]
  simp only [decide_eq_true_eq]
  exact hg
theorem Gok.conLen {g : Gph} (h : Gok g) (i : Nat) : (connsAt g.nodes (i : Int)).length ≤ 16 := by
 rw [connsAt_nat]
 cases e : g.nodes[i]? with
 | none => simp
 | some n => exact connsN_len (h.ng i n (List.getElem?_eq_some_iff.1 e).1 e)
theorem cIn_eq {ns : List Nod} {i : Nat} {c : Con} (h : hasIN ns (i : Int) c.inn = true) : inN ns (i : Int) c.inn = (cIn ns i c : Nat) := by
 obtain ⟨n, hn, h0, _, h1, _⟩ := has_in h
 unfold inN cIn
 rw [if_pos h, show ((i : Nat) : Int).toNat = i by omega]
 push_cast
 omega
theorem cOut_eq {ns : List Nod} {i : Nat} {c : Con} (hp : Pok ns) (h : hasON ns (i : Int) c.out = true) : outN ns (i : Int) c.out = (cOut ns i c : Nat) := by
 obtain ⟨n, hn, h0, _, h1, _⟩ := has_out h
 rw [show ((i : Nat) : Int).toNat = i by omega] at hn
 have := hp n (List.mem_of_getElem? hn)
 unfold outN cOut
 rw [if_pos h, show ((i : Nat) : Int).toNat = i by omega, hn]
 push_cast
 omega
theorem cIn_lt {ns : List Nod} {i : Nat} {c : Con} (h : hasIN ns (i : Int) c.inn = true) : cIn ns i c < plN ns := by
 obtain ⟨n, hn, _, _, h1, h2⟩ := has_in h
 rw [show ((i : Nat) : Int).toNat = i by omega] at hn
 have := spots_in (p := c.inn.toNat) hn (List.getElem?_eq_some_iff.1 hn).1 (by omega)
 exact (List.getElem?_eq_some_iff.1 this).1
theorem cOut_lt {ns : List Nod} {i : Nat} {c : Con} (h : hasON ns (i : Int) c.out = true) : cOut ns i c < plN ns := by
 obtain ⟨n, hn, _, _, h1, h2⟩ := has_out h
 rw [show ((i : Nat) : Int).toNat = i by omega] at hn
 have := spots_out (p := c.out.toNat) hn (List.getElem?_eq_some_iff.1 hn).1 (by omega)
 unfold cOut
 rw [hn]
 exact (List.getElem?_eq_some_iff.1 this).1
theorem outPl_lt {ns : List Nod} {d : Edg} (h : hasON ns d.src d.out = true) : outPl ns d < plN ns := (List.getElem?_eq_some_iff.1 (out_spot h)).1
theorem inPl_lt {ns : List Nod} {d : Edg} (h : hasIN ns d.dst d.inn = true) : inPl ns d < plN ns := (List.getElem?_eq_some_iff.1 (in_spot h)).1
theorem nodU_mem {ns : List Nod} {m : Nat} {p : Nat × Nat} : p ∈ nodU ns m ↔ ∃ i c, i < m ∧ c ∈ connsAt ns ((i : Nat) : Int) ∧ isE c = true ∧ p = conS ns i c := by
 induction m with
 | zero => simp [nodU]
 | succ m ih =>
  unfold nodU
  rw [List.mem_append, ih]
  constructor
  ·rintro (⟨i, c, h1, h2⟩ | h)
   ·exact ⟨i, c, by omega, h2⟩
   ·unfold nodS at h
    obtain ⟨c, hc, rfl⟩ := List.mem_map.1 h
    obtain ⟨h1, h2⟩ := List.mem_filter.1 hc
    exact ⟨m, c, by omega, h1, h2, rfl⟩
  ·rintro ⟨i, c, h1, h2, h3, rfl⟩
   by_cases e : i = m
   ·subst e
    exact Or.inr (List.mem_map.2 ⟨c, List.mem_filter.2 ⟨h2, h3⟩, rfl⟩)
   ·exact Or.inl ⟨i, c, by omega, h2, h3, rfl⟩
theorem nodU_len {g : Gph} (h : Gok g) (m : Nat) : (nodU g.nodes m).length ≤ 16 * m := by
 induction m with
 | zero => simp [nodU]
 | succ m ih =>
  unfold nodU nodS
  rw [List.length_append, List.length_map]
  have h1 := List.length_filter_le isE (connsAt g.nodes (m : Int))
  have h2 := h.conLen m
  omega
theorem stS_len {g : Gph} (h : Gok g) : (stS g).length ≤ 432 := by
 unfold stS edgS
 rw [List.length_append, List.length_map]
 have h1 := nodU_len h g.nodes.length
 have h2 := h.nl
 have h3 := h.el
 omega
theorem stS_lt {g : Gph} (h : Gok g) {p q : Nat} (hm : (p, q) ∈ stS g) : p < plN g.nodes ∧ q < plN g.nodes := by
 unfold stS at hm
 rcases List.mem_append.1 hm with hm | hm
 ·obtain ⟨d, hd, e⟩ := List.mem_map.1 hm
  obtain ⟨j, hj⟩ := List.mem_iff_getElem?.1 hd
  have := h.ends hj
  unfold edgP at e
  simp only [Prod.mk.injEq] at e
  rw [← e.1, ← e.2]
  exact ⟨outPl_lt this.1, inPl_lt this.2⟩
 ·obtain ⟨i, c, _, h2, _, e⟩ := nodU_mem.1 hm
  have := h.con h2
  unfold conS at e
  simp only [Prod.mk.injEq] at e
  rw [e.1, e.2]
  exact ⟨cIn_lt this.1, cOut_lt this.2⟩
theorem plN_le {g : Gph} (h : Gok g) : plN g.nodes ≤ 192 := by
 have h1 := firstN_le h.pok g.nodes.length
 have h2 := h.nl
 unfold plN
 unfold firstN at h1
 omega
theorem sp_iff {g : Gph} (h : Gok g) {p q : Nat} : Sp (stL g) p q ↔ (p, q) ∈ stS g := by
 constructor
 ·rintro ⟨l, h1, h2⟩
  have hp := (List.getElem?_eq_some_iff.1 h1).1
  rw [stL_len] at hp
  rw [stL_get hp, Option.some.injEq] at h1
  subst h1
  obtain ⟨q', e, h3⟩ := fromS_mem.1 (srtI_mem.1 h2)
  obtain rfl : q = q' := by omega
  exact h3
 ·intro hm
  exact ⟨_, stL_get (stS_lt h hm).1, srtI_mem.2 (fromS_mem.2 ⟨q, rfl, hm⟩)⟩
theorem stL_good {g : Gph} (h : Gok g) : (stL g).length ≤ 1000 ∧ ∀ l ∈ stL g, l.length ≤ 1000 ∧ ∀ x ∈ l, 0 ≤ x ∧ x < ((stL g).length : Int) := by
 have h1 := plN_le h
 rw [stL_len]
 refine ⟨by omega, fun l hl => ?_⟩
 obtain ⟨k, hk, rfl⟩ := List.mem_map.1 hl
 refine ⟨?_, fun x hx => ?_⟩
 ·rw [srtI_len]
  exact Nat.le_trans (fromS_len _ _) (Nat.le_trans (stS_len h) (by decide))
 ·obtain ⟨q, rfl, hq⟩ := fromS_mem.1 (srtI_mem.1 hx)
  have := (stS_lt h hq).2
  omega
structure Fo (B : Nat) (w : World) (v : Value) (vs : List LV) (L : Nat → List Int) : Prop where
 row : w.ownsRow B 59 1 v vs.length (fl EL vs)
 each : ∀ (k : Nat) (x : LV), vs[k]? = some x → w.ownsRow B 3 1 x.v (L k).length (fl EI (L k))
 apart : ∀ (k : Nat) (x : LV), vs[k]? = some x → ∀ b, x.v.ownBlock = some b → ∀ (k' : Nat) (x' : LV), vs[k']? = some x' → x'.v.ownBlock = some b → k' = k
section
variable {B : Nat} {w w1 w' : World} {v : Value} {vs : List LV} {L L' : Nat → List Int}
theorem Fo.below (h : Fo B w v vs L) (hb : Below w.heap.size w w') : Fo B w' v vs L := ⟨owns_below h.row hb, fun k x hk => owns_below (h.each k x hk) hb, h.apart⟩
theorem Fo.re (h : Fo B w v vs L) (hL : ∀ k, k < vs.length → L k = L' k) : Fo B w v vs L' := ⟨h.row, fun k x hk => by rw [← hL k (List.getElem?_eq_some_iff.1 hk).1]; exact h.each k x hk, h.apart⟩
theorem Fo.ff (h : Fo B w v vs L) {ls : List (List Int)} (hl : ls.length = vs.length) (hg : ∀ k l, ls[k]? = some l → l = L k) : Ff w.heap.size w v ls :=
 ⟨vs, owns_lz (E := EL) h.row, hl.symm, fun i x l hx hls => by rw [hg i l hls]; exact owns_lz (E := EI) (h.each i x hx)⟩
theorem Fo.step (h : Fo B w v vs L) {k pb pc g cap : Nat} {x : LV} (hk : vs[k]? = some x) (hpv : v = .slice (some ⟨pb, 0, none⟩) vs.length pc) {y : Int}
    (h1 : w1.ownsRow B 3 1 (.slice (some ⟨g, 0, none⟩) ((L k).length + 1) cap) ((L k).length + 1) (fl EI (L k) ++ EI.enc y)) (h2 : w.grownBy w1 x.v.ownBlock) (h3 : x.v.ownBlock = some g ∨ w.heap.size ≤ g) :
    Fo B (w1.setCell ⟨pb, k, none⟩ (.slice (some ⟨g, 0, none⟩) ((L k).length + 1) cap)) v (vs.set k ⟨some ⟨g, 0, none⟩, (L k).length + 1, cap⟩) (fun j => if j = k then L k ++ [y] else L j) ∧ Kp (fun j => v.ownBlock = some j ∨ x.v.ownBlock = some j) w (w1.setCell ⟨pb, k, none⟩ (.slice (some ⟨g, 0, none⟩) ((L k).length + 1) cap)) := by
 have hks := (List.getElem?_eq_some_iff.1 hk).1
 have K2 := Kp.grownBy (S := fun j => x.v.ownBlock = some j) h2 (fun _ h => h)
 have sp1 := owns_kp K2 h.row (fun j e e2 => owns_ne_own h.row (h.each k x hk) (by decide) j e e2)
 have sp2 := sp1
 rw [hpv] at sp2
 obtain ⟨so, sk⟩ := owns_one sp2 k (.slice (some ⟨g, 0, none⟩) ((L k).length + 1) cap)
 have hpb : v.ownBlock = some pb := by rw [hpv]; rfl
 have ne2 : ∀ {n : Nat} {u : Value} {us : List Value}, w1.ownsRow B 3 1 u n us → (w1.setCell ⟨pb, k, none⟩ (.slice (some ⟨g, 0, none⟩) ((L k).length + 1) cap)).ownsRow B 3 1 u n us := fun o => owns_kp sk o (fun j e e2 => owns_ne_own o sp1 (by decide) j e (by rw [e2]; exact hpb))
 have get : ∀ (j : Nat) (x' : LV), (vs.set k ⟨some ⟨g, 0, none⟩, (L k).length + 1, cap⟩)[j]? = some x' → (j = k ∧ x' = ⟨some ⟨g, 0, none⟩, (L k).length + 1, cap⟩) ∨ (j ≠ k ∧ vs[j]? = some x') := fun j x' hj => by
  rw [List.getElem?_set] at hj
  by_cases e : k = j
  ·subst e
   rw [if_pos rfl, if_pos hks] at hj
   exact Or.inl ⟨rfl, (Option.some.inj hj).symm⟩
  ·rw [if_neg e] at hj
   exact Or.inr ⟨fun e2 => e e2.symm, hj⟩
 have evlt : ∀ (j : Nat) (x' : LV), vs[j]? = some x' → ∀ b, x'.v.ownBlock = some b → b < w.heap.size := fun j x' hj b e => (owns_rd (h.each j x' hj) b e).2
 refine ⟨⟨?_, ?_, ?_⟩, ?_⟩
 ·rw [hpv]
  refine owns_re so (by simp) ?_
  have := fl_setE EL vs k 0 x ⟨some ⟨g, 0, none⟩, (L k).length + 1, cap⟩ (.slice (some ⟨g, 0, none⟩) ((L k).length + 1) cap) hk (by decide) rfl
  rw [show EL.k = 1 from rfl, Nat.mul_one, Nat.add_zero] at this
  exact this
 ·intro j x' hj
  rcases get j x' hj with ⟨rfl, rfl⟩ | ⟨hne, hj⟩
  ·simp only [if_true]
   exact owns_re (ne2 h1) (by simp) (by rw [fl_append, fl_one])
  ·simp only [if_neg hne]
   exact ne2 (owns_kp K2 (h.each j x' hj) (fun b e e2 => hne (h.apart k x hk b e2 j x' hj e)))
 ·intro j x' hj b hb
  rcases get j x' hj with ⟨rfl, rfl⟩ | ⟨hne, hj2⟩
  ·obtain rfl : g = b := by simpa [Value.ownBlock] using hb
   intro k' x' hk' e
   rcases get k' x' hk' with ⟨rfl, _⟩ | ⟨hne', hk'⟩
   ·rfl
   ·rcases h3 with h3 | h3
    ·exact h.apart j x hk g h3 k' x' hk' e
    ·have := evlt k' x' hk' g e; omega
  ·intro k' t hk' e
   rcases get k' t hk' with ⟨rfl, rfl⟩ | ⟨_, hk2⟩
   ·obtain rfl : g = b := by simpa [Value.ownBlock] using e
    rcases h3 with h3 | h3
    ·exact h.apart j x' hj2 g hb k' x hk h3
    ·have := evlt j x' hj2 g hb; omega
   ·exact h.apart j x' hj2 b hb k' t hk2 e
 ·exact (K2.mono (T := fun j => v.ownBlock = some j ∨ x.v.ownBlock = some j) (fun j e => Or.inr e)).trans sk (fun j _ e => Or.inl (by rw [e]; exact hpb))
theorem Fo.put (h : Fo B w v vs L) {k : Nat} {x : LV} {l : List Int} (hk : vs[k]? = some x) (h2 : w.grownBy w1 x.v.ownBlock) (h1 : w1.ownsRow B 3 1 x.v l.length (fl EI l)) : Fo B w1 v vs (fun j => if j = k then l else L j) ∧ Kp (fun j => x.v.ownBlock = some j) w w1 := by
 have K2 := Kp.grownBy (S := fun j => x.v.ownBlock = some j) h2 (fun _ h => h)
 refine ⟨⟨owns_kp K2 h.row (fun j e e2 => owns_ne_own h.row (h.each k x hk) (by decide) j e e2), fun j x' hj => ?_, h.apart⟩, K2⟩
 by_cases e : j = k
 ·subst e
  rw [hk] at hj
  obtain rfl := Option.some.inj hj
  simp only [if_true]
  exact h1
 ·simp only [if_neg e]
  exact owns_kp K2 (h.each j x' hj) (fun b e1 e2 => e (h.apart k x hk b e2 j x' hj e1))
theorem Fo.blocks (h : Fo B w v vs L) {k : Nat} {x : LV} (hk : vs[k]? = some x) : ∀ j, v.ownBlock = some j ∨ x.v.ownBlock = some j → B ≤ j := fun j e => by
 rcases e with e | e
 ·exact (owns_rd h.row j e).1
 ·exact (owns_rd (h.each k x hk) j e).1
theorem Fo.other (h : Fo B w v vs L) {k : Nat} {x : LV} (hk : vs[k]? = some x) (hK : Kp (fun j => v.ownBlock = some j ∨ x.v.ownBlock = some j) w w') {B2 : Nat} {T : TypeId} {size n : Nat} {u : Value} {us : List Value} (ho : w.ownsRow B2 T size u n us) (hT : T ≠ 3) (hT2 : T ≠ 59) : w'.ownsRow B2 T size u n us :=
 owns_kp hK ho (fun j e e2 => by
  rcases e2 with e2 | e2
  ·exact owns_ne_own ho h.row hT2 j e e2
  ·exact owns_ne_own ho (h.each k x hk) hT j e e2)
end
theorem sorted_own {B : Nat} {w w' : World} {g cap n : Nat} {l : List Int} {os : Array Obj} (h : w.ownsRow B 3 1 (.slice (some ⟨g, 0, none⟩) l.length cap) l.length (fl EI l)) (hw : w' = grow (putRow (Value.int .i64) (Sort.ahead w n) g 0 (srtI l).toArray) os) : w'.ownsRow B 3 1 (.slice (some ⟨g, 0, none⟩) l.length cap) (srtI l).length (fl EI (srtI l)) ∧ w.grownBy w' (some g) := by
 subst hw
 refine ⟨?_, grownBy_sortedI _⟩
 rcases h.2 with ⟨h0, _⟩ | ⟨g', cap', cur, hv, hbase, hb, h1, h2, h3, h4⟩
 ·cases h0
 ·simp only [Value.slice.injEq, Option.some.injEq, Addr.mk.injEq] at hv
  obtain ⟨⟨rfl, -, -⟩, -, rfl⟩ := hv
  have := ownsRow_sortedI (n := n) (os := os) (ts := srtI l) (ss := l) (srtI_len l) hbase hb h1 h2 h3
  rw [srtI_len, fl_I]
  exact this
theorem holds_own {B : Nat} {w : World} {g cap : Nat} {l : List Int} (h : w.ownsRow B 3 1 (.slice (some ⟨g, 0, none⟩) l.length cap) l.length (fl EI l)) : Holds (Value.int .i64) w g 0 l.toArray ∧ g < w.heap.size := by
 rcases h.2 with ⟨h0, _⟩ | ⟨g', cap', cur, hv, hbase, hb, h1, h2, h3, h4⟩
 ·cases h0
 ·simp only [Value.slice.injEq, Option.some.injEq, Addr.mk.injEq] at hv
  obtain ⟨⟨rfl, -, -⟩, -, rfl⟩ := hv
  rw [fl_I, Nat.mul_one] at h4
  exact ⟨holds_of_blockI hb h4, (Array.getElem?_eq_some_iff.1 hb).1⟩
theorem own_at0 {B : Nat} {w : World} {x : LV} {l : List Int} (h : w.ownsRow B 3 1 x.v l.length (fl EI l)) : (l = [] ∧ x.q = none ∧ x.m = 0) ∨ ∃ g, x.q = some ⟨g, 0, none⟩ ∧ x.m = l.length := by
 obtain ⟨q, m, c⟩ := x
 rcases h.2 with ⟨h0, h1⟩ | ⟨g', cap', cur, hv, hbase, hb, h1, h2, h3, h4⟩
 ·simp only [Value.slice.injEq] at h0
  exact Or.inl ⟨List.length_eq_zero_iff.1 (by omega), h0.1, h0.2.1⟩
 ·simp only [Value.slice.injEq] at hv
  exact Or.inr ⟨g', hv.1, hv.2.1⟩
end Go.Proofs.YtdnnfgabdkkdjaaGreat.Df

namespace Go.Proofs.YtdnnfgabdkkdjaaGreat
open Go.RowKit Go.Sort
attribute [local go_sem ↓] Go.wp_at_zero Go.wp_at_succ
set_option maxHeartbeats 1000000 in
theorem numbers_any (a b c : Int) (w : World) :
    Calls Tryz.prog 148 #[.agg #[.int .u64 a, .int .u64 b, .int .u64 c]] w fun e w' =>
     e = .returned (.slice (some ⟨w.heap.size + 1, 0, none⟩) 3 3) ∧ w' = (w.alloc (.cells #[.int .u64 a, .int .u64 b, .int .u64 c] 50)).alloc (.cells #[.int .u64 a, .int .u64 b, .int .u64 c] 37) := by
 go_enter Tryz.func148, Tryz.ntmps148
 go_wp2
 go_ret
 exact ⟨rfl, rfl⟩
set_option maxHeartbeats 1000000 in
set_option maxRecDepth 100000 in
theorem refFits_bad (a b c n : Int) (w : World) (h : n < 1 ∨ 3 < n) :
    Calls Tryz.prog 126 #[.agg #[.int .u64 a, .int .u64 b, .int .u64 c], .int .i64 n] w fun e w' => e = .returned (.int .i64 10) ∧ Gr w w' := by
 rcases h with h | h
 ·go_enter Tryz.func126, Tryz.ntmps126
  go_wp2
  go_ret
  exact ⟨rfl, (Gr.refl _).alloc _⟩
 ·have h' : ¬ n < 1 := by omega
  go_enter Tryz.func126, Tryz.ntmps126
  go_wp2
  go_ret
  exact ⟨rfl, (Gr.refl _).alloc _⟩
set_option maxHeartbeats 1000000 in
set_option maxRecDepth 100000 in
theorem refFits_1b (a b c : Int) (w : World) (hb : b ≠ 0) :
    Calls Tryz.prog 126 #[.agg #[.int .u64 a, .int .u64 b, .int .u64 c], .int .i64 1] w fun e w' => e = .returned (.int .i64 10) ∧ Gr w w' := by
 have hb' : (b != 0) = true := by rw [bne_iff_ne]; exact hb
 have hN := fun a b c W => numbers_any a b c W
 go_enter Tryz.func126, Tryz.ntmps126
 go_wp2_with (go_at_call 148; refine (hN _ _ _ _).mono ?_; rintro e w1 ⟨rfl, rfl⟩)
 refine wp_loop_rounds 4 ?_
 rw [rounds_succ]; go_wp2
 go_ret
 exact ⟨rfl, (by repeat (first | exact Gr.refl _ | refine Gr.drewN ?_ _ | refine Gr.drew ?_ | refine Gr.alloc ?_ _))⟩
set_option maxHeartbeats 1000000 in
set_option maxRecDepth 100000 in
theorem refFits_1c (a b c : Int) (w : World) (hb : b = 0) (hc : c ≠ 0) :
    Calls Tryz.prog 126 #[.agg #[.int .u64 a, .int .u64 b, .int .u64 c], .int .i64 1] w fun e w' => e = .returned (.int .i64 10) ∧ Gr w w' := by
 subst hb
 have hc' : (c != 0) = true := by rw [bne_iff_ne]; exact hc
 have hN := fun a b c W => numbers_any a b c W
 go_enter Tryz.func126, Tryz.ntmps126
 go_wp2_with (go_at_call 148; refine (hN _ _ _ _).mono ?_; rintro e w1 ⟨rfl, rfl⟩)
 refine wp_loop_rounds 4 ?_
 rw [rounds_succ]; go_wp2
 rw [rounds_succ]; go_wp2
 go_ret
 exact ⟨rfl, (by repeat (first | exact Gr.refl _ | refine Gr.drewN ?_ _ | refine Gr.drew ?_ | refine Gr.alloc ?_ _))⟩
set_option maxHeartbeats 1000000 in
set_option maxRecDepth 100000 in
theorem refFits_1 (a b c : Int) (w : World) (hb : b = 0) (hc : c = 0) :
    Calls Tryz.prog 126 #[.agg #[.int .u64 a, .int .u64 b, .int .u64 c], .int .i64 1] w fun e w' => e = .returned (.int .i64 0) ∧ Gr w w' := by
 subst hb
 subst hc
 have hN := fun a b c W => numbers_any a b c W
 go_enter Tryz.func126, Tryz.ntmps126
 go_wp2_with (go_at_call 148; refine (hN _ _ _ _).mono ?_; rintro e w1 ⟨rfl, rfl⟩)
 refine wp_loop_rounds 4 ?_
 rw [rounds_succ]; go_wp2
 rw [rounds_succ]; go_wp2
 rw [rounds_succ]; go_wp2
 go_ret
 exact ⟨rfl, (by repeat (first | exact Gr.refl _ | refine Gr.drewN ?_ _ | refine Gr.drew ?_ | refine Gr.alloc ?_ _))⟩
set_option maxHeartbeats 1000000 in
set_option maxRecDepth 100000 in
theorem refFits_2c (a b c : Int) (w : World) (hc : c ≠ 0) :
    Calls Tryz.prog 126 #[.agg #[.int .u64 a, .int .u64 b, .int .u64 c], .int .i64 2] w fun e w' => e = .returned (.int .i64 10) ∧ Gr w w' := by
 have hc' : (c != 0) = true := by rw [bne_iff_ne]; exact hc
 have hN := fun a b c W => numbers_any a b c W
 go_enter Tryz.func126, Tryz.ntmps126
 go_wp2_with (go_at_call 148; refine (hN _ _ _ _).mono ?_; rintro e w1 ⟨rfl, rfl⟩)
 refine wp_loop_rounds 4 ?_
 rw [rounds_succ]; go_wp2
 go_ret
 exact ⟨rfl, (by repeat (first | exact Gr.refl _ | refine Gr.drewN ?_ _ | refine Gr.drew ?_ | refine Gr.alloc ?_ _))⟩
set_option maxHeartbeats 1000000 in
set_option maxRecDepth 100000 in
theorem refFits_2 (a b c : Int) (w : World) (hc : c = 0) :
    Calls Tryz.prog 126 #[.agg #[.int .u64 a, .int .u64 b, .int .u64 c], .int .i64 2] w fun e w' => e = .returned (.int .i64 0) ∧ Gr w w' := by
 subst hc
 have hN := fun a b c W => numbers_any a b c W
 go_enter Tryz.func126, Tryz.ntmps126
 go_wp2_with (go_at_call 148; refine (hN _ _ _ _).mono ?_; rintro e w1 ⟨rfl, rfl⟩)
 refine wp_loop_rounds 4 ?_
 rw [rounds_succ]; go_wp2
 rw [rounds_succ]; go_wp2
 go_ret
 exact ⟨rfl, (by repeat (first | exact Gr.refl _ | refine Gr.drewN ?_ _ | refine Gr.drew ?_ | refine Gr.alloc ?_ _))⟩
set_option maxHeartbeats 1000000 in
set_option maxRecDepth 100000 in
theorem refFits_3 (a b c : Int) (w : World)  :
    Calls Tryz.prog 126 #[.agg #[.int .u64 a, .int .u64 b, .int .u64 c], .int .i64 3] w fun e w' => e = .returned (.int .i64 0) ∧ Gr w w' := by
 have hN := fun a b c W => numbers_any a b c W
 go_enter Tryz.func126, Tryz.ntmps126
 go_wp2_with (go_at_call 148; refine (hN _ _ _ _).mono ?_; rintro e w1 ⟨rfl, rfl⟩)
 refine wp_loop_rounds 4 ?_
 rw [rounds_succ]; go_wp2
 go_ret
 exact ⟨rfl, (by repeat (first | exact Gr.refl _ | refine Gr.drewN ?_ _ | refine Gr.drew ?_ | refine Gr.alloc ?_ _))⟩
theorem refFits_any (a b c n : Int) (w : World) :
    Calls Tryz.prog 126 #[.agg #[.int .u64 a, .int .u64 b, .int .u64 c], .int .i64 n] w fun e w' => e = .returned (.int .i64 (tfits a b c n)) ∧ Gr w w' := by
 by_cases h : n < 1 ∨ 3 < n
 ·rw [show tfits a b c n = 10 by simp [tfits, h]]; exact refFits_bad a b c n w h
 ·have hn : n = 1 ∨ n = 2 ∨ n = 3 := by omega
  rcases hn with rfl | rfl | rfl
  ·by_cases hb : b = 0
   ·by_cases hc : c = 0
    ·rw [show tfits a b c 1 = 0 by simp [tfits, hb, hc]]; exact refFits_1 a b c w hb hc
    ·rw [show tfits a b c 1 = 10 by simp [tfits, hc]]; exact refFits_1c a b c w hb hc
   ·rw [show tfits a b c 1 = 10 by simp [tfits, hb]]; exact refFits_1b a b c w hb
  ·by_cases hc : c = 0
   ·rw [show tfits a b c 2 = 0 by simp [tfits, hc]]; exact refFits_2 a b c w hc
   ·rw [show tfits a b c 2 = 10 by simp [tfits, hc]]; exact refFits_2c a b c w hc
  ·rw [show tfits a b c 3 = 0 by simp [tfits]]; exact refFits_3 a b c w
end Go.Proofs.YtdnnfgabdkkdjaaGreat

namespace Go.Proofs.YtdnnfgabdkkdjaaGreat.Df
open Go.RowKit Go.Sort
attribute [local go_sem ↓] Go.wp_at_zero Go.wp_at_succ
set_option maxHeartbeats 1000000 in
theorem rfits_any (p : Pth) (a : Int) (w : World) : Calls Tryz.prog 109 #[.agg #[.int .u64 (p.1 : Nat), .int .u64 (p.2.1 : Nat), .int .u64 (p.2.2 : Nat)], .int .i64 a] w fun r w' => r = .returned (.bool (decide (tfits p.1 p.2.1 p.2.2 a = 0))) ∧ Gr w w' := by
 have hf := fun W => refFits_any p.1 p.2.1 p.2.2 a W
 generalize tfits (p.1 : Nat) (p.2.1 : Nat) (p.2.2 : Nat) a = t at hf ⊢
 by_cases ht : t = 0
 ·subst ht
  go_enter Tryz.func109, Tryz.ntmps109
  go_wp2_with fail
  refine (hf _).mono ?_
  rintro r w1 ⟨rfl, g1⟩
  have G1 := hid (((Gr.refl w).alloc (.cells #[.int .u64 (p.1 : Nat), .int .u64 (p.2.1 : Nat), .int .u64 (p.2.2 : Nat)] 39)).trans g1)
  clear g1
  go_wp2_with fail
  go_ret
  exact ⟨rfl, G1.out⟩
 ·have hb : (t == 0) = false := by simp [ht]
  have hd : decide (t = 0) = false := by simp [ht]
  rw [hd]
  clear ht hd
  go_enter Tryz.func109, Tryz.ntmps109
  go_wp2_with fail
  refine (hf _).mono ?_
  rintro r w1 ⟨rfl, g1⟩
  have G1 := hid (((Gr.refl w).alloc (.cells #[.int .u64 (p.1 : Nat), .int .u64 (p.2.1 : Nat), .int .u64 (p.2.2 : Nat)] 39)).trans g1)
  clear g1
  go_wp2_with fail
  go_ret
  exact ⟨rfl, G1.out⟩
set_option maxHeartbeats 1000000 in
theorem rports1_any (i o : Int) (cq : Option Addr) (cm cc : Nat) (via : Pth) (bd : Nat) (dq : Option Addr) (dm dc : Nat) (st : Bool) (w : World) : Calls Tryz.prog 72 #[.agg (ncells 1 i o (.slice cq cm cc) via bd (.slice dq dm dc) st)] w fun r w' => r = .returned (.bool (pIn 1 i && pOut 1 o)) ∧ Below w.heap.size w w' := by
 by_cases h0 : i = 0
 ·by_cases h1 : o = 1
  ·have HR : Hid ((pIn 1 i && pOut 1 o) = true) := by show _ = _; simp [pIn, pOut]; omega
   go_enter Tryz.func72, Tryz.ntmps72
   go_wp2_with fail
   go_ret
   exact ⟨by rw [HR.out]; rfl, ((Gr.refl w).alloc _).below⟩
  ·have h1b : (o == 1) = false := by simp [h1]
   have HR : Hid ((pIn 1 i && pOut 1 o) = false) := by show _ = _; simp [pIn, pOut]; omega
   go_enter Tryz.func72, Tryz.ntmps72
   go_wp2_with fail
   go_ret
   exact ⟨by rw [HR.out]; rfl, ((Gr.refl w).alloc _).below⟩
 ·have h0b : (i == 0) = false := by simp [h0]
  have HR : Hid ((pIn 1 i && pOut 1 o) = false) := by show _ = _; simp [pIn, pOut]; omega
  go_enter Tryz.func72, Tryz.ntmps72
  go_wp2_with fail
  go_ret
  exact ⟨by rw [HR.out]; rfl, ((Gr.refl w).alloc _).below⟩
set_option maxHeartbeats 1000000 in
theorem rports2_any (i o : Int) (cq : Option Addr) (cm cc : Nat) (via : Pth) (bd : Nat) (dq : Option Addr) (dm dc : Nat) (st : Bool) (w : World) : Calls Tryz.prog 72 #[.agg (ncells 2 i o (.slice cq cm cc) via bd (.slice dq dm dc) st)] w fun r w' => r = .returned (.bool (pIn 2 i && pOut 2 o)) ∧ Below w.heap.size w w' := by
 by_cases h0 : i = 1
 ·by_cases h1 : o = 1
  ·have HR : Hid ((pIn 2 i && pOut 2 o) = true) := by show _ = _; simp [pIn, pOut]; omega
   go_enter Tryz.func72, Tryz.ntmps72
   go_wp2_with fail
   go_ret
   exact ⟨by rw [HR.out]; rfl, ((Gr.refl w).alloc _).below⟩
  ·have h1b : (o == 1) = false := by simp [h1]
   have HR : Hid ((pIn 2 i && pOut 2 o) = false) := by show _ = _; simp [pIn, pOut]; omega
   go_enter Tryz.func72, Tryz.ntmps72
   go_wp2_with fail
   go_ret
   exact ⟨by rw [HR.out]; rfl, ((Gr.refl w).alloc _).below⟩
 ·have h0b : (i == 1) = false := by simp [h0]
  have HR : Hid ((pIn 2 i && pOut 2 o) = false) := by show _ = _; simp [pIn, pOut]; omega
  go_enter Tryz.func72, Tryz.ntmps72
  go_wp2_with fail
  go_ret
  exact ⟨by rw [HR.out]; rfl, ((Gr.refl w).alloc _).below⟩
set_option maxHeartbeats 1000000 in
theorem rports3_any (i o : Int) (cq : Option Addr) (cm cc : Nat) (via : Pth) (bd : Nat) (dq : Option Addr) (dm dc : Nat) (st : Bool) (w : World) : Calls Tryz.prog 72 #[.agg (ncells 3 i o (.slice cq cm cc) via bd (.slice dq dm dc) st)] w fun r w' => r = .returned (.bool (pIn 3 i && pOut 3 o)) ∧ Below w.heap.size w w' := by
 by_cases h0 : i = 1
 ·by_cases h1 : o = 1
  ·have HR : Hid ((pIn 3 i && pOut 3 o) = true) := by show _ = _; simp [pIn, pOut]; omega
   go_enter Tryz.func72, Tryz.ntmps72
   go_wp2_with fail
   go_ret
   exact ⟨by rw [HR.out]; rfl, ((Gr.refl w).alloc _).below⟩
  ·have h1b : (o == 1) = false := by simp [h1]
   have HR : Hid ((pIn 3 i && pOut 3 o) = false) := by show _ = _; simp [pIn, pOut]; omega
   go_enter Tryz.func72, Tryz.ntmps72
   go_wp2_with fail
   go_ret
   exact ⟨by rw [HR.out]; rfl, ((Gr.refl w).alloc _).below⟩
 ·have h0b : (i == 1) = false := by simp [h0]
  have HR : Hid ((pIn 3 i && pOut 3 o) = false) := by show _ = _; simp [pIn, pOut]; omega
  go_enter Tryz.func72, Tryz.ntmps72
  go_wp2_with fail
  go_ret
  exact ⟨by rw [HR.out]; rfl, ((Gr.refl w).alloc _).below⟩
set_option maxHeartbeats 1000000 in
theorem rports4_any (i o : Int) (cq : Option Addr) (cm cc : Nat) (via : Pth) (bd : Nat) (dq : Option Addr) (dm dc : Nat) (st : Bool) (w : World) : Calls Tryz.prog 72 #[.agg (ncells 4 i o (.slice cq cm cc) via bd (.slice dq dm dc) st)] w fun r w' => r = .returned (.bool (pIn 4 i && pOut 4 o)) ∧ Below w.heap.size w w' := by
 by_cases h0 : 1 ≤ i
 ·by_cases h1 : i ≤ 4
  ·by_cases h2 : o = 1
   ·have HR : Hid ((pIn 4 i && pOut 4 o) = true) := by show _ = _; simp [pIn, pOut]; omega
    go_enter Tryz.func72, Tryz.ntmps72
    go_wp2_with fail
    go_ret
    exact ⟨by rw [HR.out]; rfl, ((Gr.refl w).alloc _).below⟩
   ·have h2b : (o == 1) = false := by simp [h2]
    have HR : Hid ((pIn 4 i && pOut 4 o) = false) := by show _ = _; simp [pIn, pOut]; omega
    go_enter Tryz.func72, Tryz.ntmps72
    go_wp2_with fail
    go_ret
    exact ⟨by rw [HR.out]; rfl, ((Gr.refl w).alloc _).below⟩
  ·have HR : Hid ((pIn 4 i && pOut 4 o) = false) := by show _ = _; simp [pIn, pOut]; omega
   go_enter Tryz.func72, Tryz.ntmps72
   go_wp2_with fail
   go_ret
   exact ⟨by rw [HR.out]; rfl, ((Gr.refl w).alloc _).below⟩
 ·have HR : Hid ((pIn 4 i && pOut 4 o) = false) := by show _ = _; simp [pIn, pOut]; omega
  go_enter Tryz.func72, Tryz.ntmps72
  go_wp2_with fail
  go_ret
  exact ⟨by rw [HR.out]; rfl, ((Gr.refl w).alloc _).below⟩
set_option maxHeartbeats 1000000 in
theorem rports5_any (i o : Int) (cq : Option Addr) (cm cc : Nat) (via : Pth) (bd : Nat) (dq : Option Addr) (dm dc : Nat) (st : Bool) (w : World) : Calls Tryz.prog 72 #[.agg (ncells 5 i o (.slice cq cm cc) via bd (.slice dq dm dc) st)] w fun r w' => r = .returned (.bool (pIn 5 i && pOut 5 o)) ∧ Below w.heap.size w w' := by
 by_cases h0 : i = 1
 ·by_cases h1 : o = 1
  ·have HR : Hid ((pIn 5 i && pOut 5 o) = true) := by show _ = _; simp [pIn, pOut]; omega
   go_enter Tryz.func72, Tryz.ntmps72
   go_wp2_with fail
   go_ret
   exact ⟨by rw [HR.out]; rfl, ((Gr.refl w).alloc _).below⟩
  ·have h1b : (o == 1) = false := by simp [h1]
   have HR : Hid ((pIn 5 i && pOut 5 o) = false) := by show _ = _; simp [pIn, pOut]; omega
   go_enter Tryz.func72, Tryz.ntmps72
   go_wp2_with fail
   go_ret
   exact ⟨by rw [HR.out]; rfl, ((Gr.refl w).alloc _).below⟩
 ·have h0b : (i == 1) = false := by simp [h0]
  have HR : Hid ((pIn 5 i && pOut 5 o) = false) := by show _ = _; simp [pIn, pOut]; omega
  go_enter Tryz.func72, Tryz.ntmps72
  go_wp2_with fail
  go_ret
  exact ⟨by rw [HR.out]; rfl, ((Gr.refl w).alloc _).below⟩
set_option maxHeartbeats 1000000 in
theorem rports6_any (i o : Int) (cq : Option Addr) (cm cc : Nat) (via : Pth) (bd : Nat) (dq : Option Addr) (dm dc : Nat) (st : Bool) (w : World) : Calls Tryz.prog 72 #[.agg (ncells 6 i o (.slice cq cm cc) via bd (.slice dq dm dc) st)] w fun r w' => r = .returned (.bool (pIn 6 i && pOut 6 o)) ∧ Below w.heap.size w w' := by
 by_cases h0 : i = 1
 ·by_cases h1 : o = 1
  ·have HR : Hid ((pIn 6 i && pOut 6 o) = true) := by show _ = _; simp [pIn, pOut]; omega
   go_enter Tryz.func72, Tryz.ntmps72
   go_wp2_with fail
   go_ret
   exact ⟨by rw [HR.out]; rfl, ((Gr.refl w).alloc _).below⟩
  ·have h1b : (o == 1) = false := by simp [h1]
   have HR : Hid ((pIn 6 i && pOut 6 o) = false) := by show _ = _; simp [pIn, pOut]; omega
   go_enter Tryz.func72, Tryz.ntmps72
   go_wp2_with fail
   go_ret
   exact ⟨by rw [HR.out]; rfl, ((Gr.refl w).alloc _).below⟩
 ·have h0b : (i == 1) = false := by simp [h0]
  have HR : Hid ((pIn 6 i && pOut 6 o) = false) := by show _ = _; simp [pIn, pOut]; omega
  go_enter Tryz.func72, Tryz.ntmps72
  go_wp2_with fail
  go_ret
  exact ⟨by rw [HR.out]; rfl, ((Gr.refl w).alloc _).below⟩
set_option maxHeartbeats 1000000 in
theorem rports7_any (i o : Int) (cq : Option Addr) (cm cc : Nat) (via : Pth) (bd : Nat) (dq : Option Addr) (dm dc : Nat) (st : Bool) (w : World) : Calls Tryz.prog 72 #[.agg (ncells 7 i o (.slice cq cm cc) via bd (.slice dq dm dc) st)] w fun r w' => r = .returned (.bool (pIn 7 i && pOut 7 o)) ∧ Below w.heap.size w w' := by
 by_cases h0 : i = 1
 ·by_cases h1 : o = 0
  ·have HR : Hid ((pIn 7 i && pOut 7 o) = true) := by show _ = _; simp [pIn, pOut]; omega
   go_enter Tryz.func72, Tryz.ntmps72
   go_wp2_with fail
   go_ret
   exact ⟨by rw [HR.out]; rfl, ((Gr.refl w).alloc _).below⟩
  ·have h1b : (o == 0) = false := by simp [h1]
   have HR : Hid ((pIn 7 i && pOut 7 o) = false) := by show _ = _; simp [pIn, pOut]; omega
   go_enter Tryz.func72, Tryz.ntmps72
   go_wp2_with fail
   go_ret
   exact ⟨by rw [HR.out]; rfl, ((Gr.refl w).alloc _).below⟩
 ·have h0b : (i == 1) = false := by simp [h0]
  have HR : Hid ((pIn 7 i && pOut 7 o) = false) := by show _ = _; simp [pIn, pOut]; omega
  go_enter Tryz.func72, Tryz.ntmps72
  go_wp2_with fail
  go_ret
  exact ⟨by rw [HR.out]; rfl, ((Gr.refl w).alloc _).below⟩
set_option maxHeartbeats 1000000 in
theorem rports8_any (i o : Int) (cq : Option Addr) (cm cc : Nat) (via : Pth) (bd : Nat) (dq : Option Addr) (dm dc : Nat) (st : Bool) (w : World) : Calls Tryz.prog 72 #[.agg (ncells 8 i o (.slice cq cm cc) via bd (.slice dq dm dc) st)] w fun r w' => r = .returned (.bool (pIn 8 i && pOut 8 o)) ∧ Below w.heap.size w w' := by
 by_cases h0 : 0 ≤ i
 ·by_cases h1 : i ≤ 4
  ·by_cases h2 : 0 ≤ o
   ·by_cases h3 : o ≤ 4
    ·have HR : Hid ((pIn 8 i && pOut 8 o) = true) := by show _ = _; simp [pIn, pOut]; omega
     go_enter Tryz.func72, Tryz.ntmps72
     go_wp2_with fail
     go_ret
     exact ⟨by rw [HR.out]; rfl, ((Gr.refl w).alloc _).below⟩
    ·have HR : Hid ((pIn 8 i && pOut 8 o) = false) := by show _ = _; simp [pIn, pOut]; omega
     go_enter Tryz.func72, Tryz.ntmps72
     go_wp2_with fail
     go_ret
     exact ⟨by rw [HR.out]; rfl, ((Gr.refl w).alloc _).below⟩
   ·have HR : Hid ((pIn 8 i && pOut 8 o) = false) := by show _ = _; simp [pIn, pOut]; omega
    go_enter Tryz.func72, Tryz.ntmps72
    go_wp2_with fail
    go_ret
    exact ⟨by rw [HR.out]; rfl, ((Gr.refl w).alloc _).below⟩
  ·have HR : Hid ((pIn 8 i && pOut 8 o) = false) := by show _ = _; simp [pIn, pOut]; omega
   go_enter Tryz.func72, Tryz.ntmps72
   go_wp2_with fail
   go_ret
   exact ⟨by rw [HR.out]; rfl, ((Gr.refl w).alloc _).below⟩
 ·have HR : Hid ((pIn 8 i && pOut 8 o) = false) := by show _ = _; simp [pIn, pOut]; omega
  go_enter Tryz.func72, Tryz.ntmps72
  go_wp2_with fail
  go_ret
  exact ⟨by rw [HR.out]; rfl, ((Gr.refl w).alloc _).below⟩
end Go.Proofs.YtdnnfgabdkkdjaaGreat.Df

namespace Go.Proofs.YtdnnfgabdkkdjaaGreat.Df
open Go.RowKit Go.Sort
attribute [local go_sem ↓] Go.wp_at_zero Go.wp_at_succ
def rfl9 (k : Int) (cm : Nat) (via : Pth) (bd dm : Nat) (st : Bool) (a : Int) : Bool := !(has (if k = 2 ∨ k = 3 then 0 else cm) (if k = 5 then (0, 0, 0) else via) (if k = 5 then 0 else bd) (if k = 8 then 0 else dm) (if k = 8 then false else st)) && decide (tfits via.1 via.2.1 via.2.2 a = 0) && decide (bd ≤ 64)
set_option maxHeartbeats 2000000 in
theorem rfields0_any (k : Int) (k2 : ¬ k = 2) (k3 : ¬ k = 3) (k5 : ¬ k = 5) (k8 : ¬ k = 8) (i o : Int) (cq : Option Addr) (cm cc : Nat) (via : Pth) (bd : Nat) (dq : Option Addr) (dm dc : Nat) (st : Bool) (a : Int) (w : World) : Calls Tryz.prog 73 #[.agg (ncells k i o (.slice cq cm cc) via bd (.slice dq dm dc) st), .int .i64 a] w fun r w' => r = .returned (.bool (rfl9 k cm via bd dm st a)) ∧ Below w.heap.size w w' := by
 have heq2 : ∀ W : World, Sem.run Tryz.prog (Op.equalIn 10000 39 (.agg #[.int .u64 (via.1 : Nat), .int .u64 (via.2.1 : Nat), .int .u64 (via.2.2 : Nat)]) (.agg #[.int .u64 0, .int .u64 0, .int .u64 0])) W = .ok (decide (via = (0, 0, 0))) W := fun W => by
  rw [run_eqP 9998 via.1 via.2.1 via.2.2 0 0 0 W]
  exact congrArg (fun b => Result.ok b W) (teq_pth via (0, 0, 0))
 have hf := fun W => rfits_any via a W
 have kb2 : (k != 2) = true := by simp [k2]
 have kb3 : (k != 3) = true := by simp [k3]
 have kb5 : (k != 5) = true := by simp [k5]
 have kb8 : (k != 8) = true := by simp [k8]
 have B0 := hid ((Gr.refl w).alloc (.cells (ncells k i o (.slice cq cm cc) via bd (.slice dq dm dc) st) 89)).below
 have N0 := hid (heap_new' w (.cells (ncells k i o (.slice cq cm cc) via bd (.slice dq dm dc) st) 89))
 obtain ⟨W0, hW0⟩ : ∃ W, W = w.alloc (.cells (ncells k i o (.slice cq cm cc) via bd (.slice dq dm dc) st) 89) := ⟨_, rfl⟩
 have HW : Hid (w.alloc (.cells #[.int .i64 k, .int .i64 i, .int .i64 o, .slice cq cm cc, .int .u64 (via.1 : Nat), .int .u64 (via.2.1 : Nat), .int .u64 (via.2.2 : Nat), .int .u64 (bd : Nat), .slice dq dm dc, .bool st] 89) = W0) := hW0.symm
 rw [← hW0] at B0 N0
 have c0 := (tk_store N0.out).1
 have l0 := tk_lt N0.out
 clear hW0
 go_enter Tryz.func73, Tryz.ntmps73
 go_upto_region 1 with fail
 rw [HW.out]
 clear HW
 by_cases h0 : 0 < cm
 ·have z0 : (0 : Int) < (cm : Int) := by omega
  have HR : Hid (rfl9 k cm via bd dm st a = false) := by show _ = _; simp [rfl9, has, k2, k3, k5, k8, h0]
  clear h0
  go_wp2_with fail
  go_ret
  exact ⟨by rw [HR.out]; rfl, B0.out⟩
 ·have z0 : ¬ (0 : Int) < (cm : Int) := by omega
  have e0 : cm = 0 := by omega
  by_cases g1 : ¬ via = (0, 0, 0)
  ·have d1 : decide (via = (0, 0, 0)) = false := by simp [g1]
   rw [d1] at heq2
   have HR : Hid (rfl9 k cm via bd dm st a = false) := by show _ = _; simp [rfl9, has, k2, k3, k5, k8, e0, g1]
   clear e0 g1
   go_wp2_with fail
   go_ret
   exact ⟨by rw [HR.out]; rfl, B0.out⟩
  ·have d1 : decide (via = (0, 0, 0)) = true := by simpa using g1
   rw [d1] at heq2
   by_cases h2 : ¬ bd = 0
   ·have b2 : ((bd : Int) == 0) = false := by simp [h2]
    have c2 : ((bd : Int) != 0) = true := by simp [h2]
    have HR : Hid (rfl9 k cm via bd dm st a = false) := by show _ = _; simp [rfl9, has, k2, k3, k5, k8, e0, h2]
    clear e0 g1 h2
    go_wp2_with fail
    go_ret
    exact ⟨by rw [HR.out]; rfl, B0.out⟩
   ·have h2 : bd = 0 := by omega
    have b2 : ((bd : Int) == 0) = true := by simp [h2]
    have c2 : ((bd : Int) != 0) = false := by simp [h2]
    have z2 : (bd : Int) ≤ 64 := by omega
    by_cases h3 : 0 < dm
    ·have z3 : (0 : Int) < (dm : Int) := by omega
     have HR : Hid (rfl9 k cm via bd dm st a = false) := by show _ = _; simp [rfl9, has, k2, k3, k5, k8, e0, h2, h3]
     clear e0 g1 h2 h3
     go_wp2_with fail
     go_ret
     exact ⟨by rw [HR.out]; rfl, B0.out⟩
    ·have z3 : ¬ (0 : Int) < (dm : Int) := by omega
     have e3 : dm = 0 := by omega
     by_cases q4 : st = true
     ·subst q4
      have HR : Hid (rfl9 k cm via bd dm true a = false) := by show _ = _; simp [rfl9, has, k2, k3, k5, k8, e0, h2, e3]
      clear e0 g1 h2 e3
      go_wp2_with fail
      go_ret
      exact ⟨by rw [HR.out]; rfl, B0.out⟩
     ·have q4 : st = false := by simpa using q4
      subst q4
      by_cases g5 : ¬ tfits via.1 via.2.1 via.2.2 a = 0
      ·have d5 : decide (tfits via.1 via.2.1 via.2.2 a = 0) = false := by simp [g5]
       rw [d5] at hf
       have HR : Hid (rfl9 k cm via bd dm false a = false) := by show _ = _; simp [rfl9, has, k2, k3, k5, k8, e0, h2, e3, g5]
       clear e0 g1 h2 e3 g5
       go_wp2_with fail
       refine (hf _).mono ?_
       rintro r w1 ⟨rfl, g1⟩
       have B1 := hid (B0.out.trans (g1.below.mono B0.out.size))
       have hn1 := (g1.below.block _ (tk_lt N0.out)).trans N0.out
       have c1 := (tk_store hn1).1
       have l1 := tk_lt hn1
       clear g1 hn1
       go_wp2_with fail
       go_ret
       exact ⟨by rw [HR.out]; first | rfl | (simp; omega), B1.out⟩
      ·have d5 : decide (tfits via.1 via.2.1 via.2.2 a = 0) = true := by simpa using g5
       rw [d5] at hf
       have HR : Hid (rfl9 k cm via bd dm false a = true) := by show _ = _; simp [rfl9, has, k2, k3, k5, k8, e0, h2, e3]; exact ⟨by simpa using g1, by simpa using g5⟩
       clear e0 g1 h2 e3 g5
       go_wp2_with fail
       refine (hf _).mono ?_
       rintro r w1 ⟨rfl, g1⟩
       have B1 := hid (B0.out.trans (g1.below.mono B0.out.size))
       have hn1 := (g1.below.block _ (tk_lt N0.out)).trans N0.out
       have c1 := (tk_store hn1).1
       have l1 := tk_lt hn1
       clear g1 hn1
       go_wp2_with fail
       go_ret
       exact ⟨by rw [HR.out]; first | rfl | (simp; omega), B1.out⟩
set_option maxHeartbeats 2000000 in
theorem rfields2_any (i o : Int) (cq : Option Addr) (cm cc : Nat) (via : Pth) (bd : Nat) (dq : Option Addr) (dm dc : Nat) (st : Bool) (a : Int) (w : World) : Calls Tryz.prog 73 #[.agg (ncells 2 i o (.slice cq cm cc) via bd (.slice dq dm dc) st), .int .i64 a] w fun r w' => r = .returned (.bool (rfl9 2 cm via bd dm st a)) ∧ Below w.heap.size w w' := by
 have heq2 : ∀ W : World, Sem.run Tryz.prog (Op.equalIn 10000 39 (.agg #[.int .u64 (via.1 : Nat), .int .u64 (via.2.1 : Nat), .int .u64 (via.2.2 : Nat)]) (.agg #[.int .u64 0, .int .u64 0, .int .u64 0])) W = .ok (decide (via = (0, 0, 0))) W := fun W => by
  rw [run_eqP 9998 via.1 via.2.1 via.2.2 0 0 0 W]
  exact congrArg (fun b => Result.ok b W) (teq_pth via (0, 0, 0))
 have hf := fun W => rfits_any via a W
 have B0 := hid ((Gr.refl w).alloc (.cells (ncells 2 i o (.slice cq cm cc) via bd (.slice dq dm dc) st) 89)).below
 have N0 := hid (heap_new' w (.cells (ncells 2 i o (.slice cq cm cc) via bd (.slice dq dm dc) st) 89))
 obtain ⟨W0, hW0⟩ : ∃ W, W = w.alloc (.cells (ncells 2 i o (.slice cq cm cc) via bd (.slice dq dm dc) st) 89) := ⟨_, rfl⟩
 have HW : Hid (w.alloc (.cells #[.int .i64 2, .int .i64 i, .int .i64 o, .slice cq cm cc, .int .u64 (via.1 : Nat), .int .u64 (via.2.1 : Nat), .int .u64 (via.2.2 : Nat), .int .u64 (bd : Nat), .slice dq dm dc, .bool st] 89) = W0) := hW0.symm
 rw [← hW0] at B0 N0
 have c0 := (tk_store N0.out).1
 have l0 := tk_lt N0.out
 clear hW0
 go_enter Tryz.func73, Tryz.ntmps73
 go_upto_region 1 with fail
 rw [HW.out]
 clear HW
 by_cases g0 : ¬ via = (0, 0, 0)
 ·have d0 : decide (via = (0, 0, 0)) = false := by simp [g0]
  rw [d0] at heq2
  have HR : Hid (rfl9 2 cm via bd dm st a = false) := by show _ = _; simp [rfl9, has, g0]
  clear g0
  go_wp2_with fail
  go_ret
  exact ⟨by rw [HR.out]; rfl, B0.out⟩
 ·have d0 : decide (via = (0, 0, 0)) = true := by simpa using g0
  rw [d0] at heq2
  by_cases h1 : ¬ bd = 0
  ·have b1 : ((bd : Int) == 0) = false := by simp [h1]
   have c1 : ((bd : Int) != 0) = true := by simp [h1]
   have HR : Hid (rfl9 2 cm via bd dm st a = false) := by show _ = _; simp [rfl9, has, h1]
   clear g0 h1
   go_wp2_with fail
   go_ret
   exact ⟨by rw [HR.out]; rfl, B0.out⟩
  ·have h1 : bd = 0 := by omega
   have b1 : ((bd : Int) == 0) = true := by simp [h1]
   have c1 : ((bd : Int) != 0) = false := by simp [h1]
   have z1 : (bd : Int) ≤ 64 := by omega
   by_cases h2 : 0 < dm
   ·have z2 : (0 : Int) < (dm : Int) := by omega
    have HR : Hid (rfl9 2 cm via bd dm st a = false) := by show _ = _; simp [rfl9, has, h1, h2]
    clear g0 h1 h2
    go_wp2_with fail
    go_ret
    exact ⟨by rw [HR.out]; rfl, B0.out⟩
   ·have z2 : ¬ (0 : Int) < (dm : Int) := by omega
    have e2 : dm = 0 := by omega
    by_cases q3 : st = true
    ·subst q3
     have HR : Hid (rfl9 2 cm via bd dm true a = false) := by show _ = _; simp [rfl9, has, h1, e2]
     clear g0 h1 e2
     go_wp2_with fail
     go_ret
     exact ⟨by rw [HR.out]; rfl, B0.out⟩
    ·have q3 : st = false := by simpa using q3
     subst q3
     by_cases g4 : ¬ tfits via.1 via.2.1 via.2.2 a = 0
     ·have d4 : decide (tfits via.1 via.2.1 via.2.2 a = 0) = false := by simp [g4]
      rw [d4] at hf
      have HR : Hid (rfl9 2 cm via bd dm false a = false) := by show _ = _; simp [rfl9, has, h1, e2, g4]
      clear g0 h1 e2 g4
      go_wp2_with fail
      refine (hf _).mono ?_
      rintro r w1 ⟨rfl, g1⟩
      have B1 := hid (B0.out.trans (g1.below.mono B0.out.size))
      have hn1 := (g1.below.block _ (tk_lt N0.out)).trans N0.out
      have c1 := (tk_store hn1).1
      have l1 := tk_lt hn1
      clear g1 hn1
      go_wp2_with fail
      go_ret
      exact ⟨by rw [HR.out]; first | rfl | (simp; omega), B1.out⟩
     ·have d4 : decide (tfits via.1 via.2.1 via.2.2 a = 0) = true := by simpa using g4
      rw [d4] at hf
      have HR : Hid (rfl9 2 cm via bd dm false a = true) := by show _ = _; simp [rfl9, has, h1, e2]; exact ⟨by simpa using g0, by simpa using g4⟩
      clear g0 h1 e2 g4
      go_wp2_with fail
      refine (hf _).mono ?_
      rintro r w1 ⟨rfl, g1⟩
      have B1 := hid (B0.out.trans (g1.below.mono B0.out.size))
      have hn1 := (g1.below.block _ (tk_lt N0.out)).trans N0.out
      have c1 := (tk_store hn1).1
      have l1 := tk_lt hn1
      clear g1 hn1
      go_wp2_with fail
      go_ret
      exact ⟨by rw [HR.out]; first | rfl | (simp; omega), B1.out⟩
set_option maxHeartbeats 2000000 in
theorem rfields3_any (i o : Int) (cq : Option Addr) (cm cc : Nat) (via : Pth) (bd : Nat) (dq : Option Addr) (dm dc : Nat) (st : Bool) (a : Int) (w : World) : Calls Tryz.prog 73 #[.agg (ncells 3 i o (.slice cq cm cc) via bd (.slice dq dm dc) st), .int .i64 a] w fun r w' => r = .returned (.bool (rfl9 3 cm via bd dm st a)) ∧ Below w.heap.size w w' := by
 have heq2 : ∀ W : World, Sem.run Tryz.prog (Op.equalIn 10000 39 (.agg #[.int .u64 (via.1 : Nat), .int .u64 (via.2.1 : Nat), .int .u64 (via.2.2 : Nat)]) (.agg #[.int .u64 0, .int .u64 0, .int .u64 0])) W = .ok (decide (via = (0, 0, 0))) W := fun W => by
  rw [run_eqP 9998 via.1 via.2.1 via.2.2 0 0 0 W]
  exact congrArg (fun b => Result.ok b W) (teq_pth via (0, 0, 0))
 have hf := fun W => rfits_any via a W
 have B0 := hid ((Gr.refl w).alloc (.cells (ncells 3 i o (.slice cq cm cc) via bd (.slice dq dm dc) st) 89)).below
 have N0 := hid (heap_new' w (.cells (ncells 3 i o (.slice cq cm cc) via bd (.slice dq dm dc) st) 89))
 obtain ⟨W0, hW0⟩ : ∃ W, W = w.alloc (.cells (ncells 3 i o (.slice cq cm cc) via bd (.slice dq dm dc) st) 89) := ⟨_, rfl⟩
 have HW : Hid (w.alloc (.cells #[.int .i64 3, .int .i64 i, .int .i64 o, .slice cq cm cc, .int .u64 (via.1 : Nat), .int .u64 (via.2.1 : Nat), .int .u64 (via.2.2 : Nat), .int .u64 (bd : Nat), .slice dq dm dc, .bool st] 89) = W0) := hW0.symm
 rw [← hW0] at B0 N0
 have c0 := (tk_store N0.out).1
 have l0 := tk_lt N0.out
 clear hW0
 go_enter Tryz.func73, Tryz.ntmps73
 go_upto_region 1 with fail
 rw [HW.out]
 clear HW
 by_cases g0 : ¬ via = (0, 0, 0)
 ·have d0 : decide (via = (0, 0, 0)) = false := by simp [g0]
  rw [d0] at heq2
  have HR : Hid (rfl9 3 cm via bd dm st a = false) := by show _ = _; simp [rfl9, has, g0]
  clear g0
  go_wp2_with fail
  go_ret
  exact ⟨by rw [HR.out]; rfl, B0.out⟩
 ·have d0 : decide (via = (0, 0, 0)) = true := by simpa using g0
  rw [d0] at heq2
  by_cases h1 : ¬ bd = 0
  ·have b1 : ((bd : Int) == 0) = false := by simp [h1]
   have c1 : ((bd : Int) != 0) = true := by simp [h1]
   have HR : Hid (rfl9 3 cm via bd dm st a = false) := by show _ = _; simp [rfl9, has, h1]
   clear g0 h1
   go_wp2_with fail
   go_ret
   exact ⟨by rw [HR.out]; rfl, B0.out⟩
  ·have h1 : bd = 0 := by omega
   have b1 : ((bd : Int) == 0) = true := by simp [h1]
   have c1 : ((bd : Int) != 0) = false := by simp [h1]
   have z1 : (bd : Int) ≤ 64 := by omega
   by_cases h2 : 0 < dm
   ·have z2 : (0 : Int) < (dm : Int) := by omega
    have HR : Hid (rfl9 3 cm via bd dm st a = false) := by show _ = _; simp [rfl9, has, h1, h2]
    clear g0 h1 h2
    go_wp2_with fail
    go_ret
    exact ⟨by rw [HR.out]; rfl, B0.out⟩
   ·have z2 : ¬ (0 : Int) < (dm : Int) := by omega
    have e2 : dm = 0 := by omega
    by_cases q3 : st = true
    ·subst q3
     have HR : Hid (rfl9 3 cm via bd dm true a = false) := by show _ = _; simp [rfl9, has, h1, e2]
     clear g0 h1 e2
     go_wp2_with fail
     go_ret
     exact ⟨by rw [HR.out]; rfl, B0.out⟩
    ·have q3 : st = false := by simpa using q3
     subst q3
     by_cases g4 : ¬ tfits via.1 via.2.1 via.2.2 a = 0
     ·have d4 : decide (tfits via.1 via.2.1 via.2.2 a = 0) = false := by simp [g4]
      rw [d4] at hf
      have HR : Hid (rfl9 3 cm via bd dm false a = false) := by show _ = _; simp [rfl9, has, h1, e2, g4]
      clear g0 h1 e2 g4
      go_wp2_with fail
      refine (hf _).mono ?_
      rintro r w1 ⟨rfl, g1⟩
      have B1 := hid (B0.out.trans (g1.below.mono B0.out.size))
      have hn1 := (g1.below.block _ (tk_lt N0.out)).trans N0.out
      have c1 := (tk_store hn1).1
      have l1 := tk_lt hn1
      clear g1 hn1
      go_wp2_with fail
      go_ret
      exact ⟨by rw [HR.out]; first | rfl | (simp; omega), B1.out⟩
     ·have d4 : decide (tfits via.1 via.2.1 via.2.2 a = 0) = true := by simpa using g4
      rw [d4] at hf
      have HR : Hid (rfl9 3 cm via bd dm false a = true) := by show _ = _; simp [rfl9, has, h1, e2]; exact ⟨by simpa using g0, by simpa using g4⟩
      clear g0 h1 e2 g4
      go_wp2_with fail
      refine (hf _).mono ?_
      rintro r w1 ⟨rfl, g1⟩
      have B1 := hid (B0.out.trans (g1.below.mono B0.out.size))
      have hn1 := (g1.below.block _ (tk_lt N0.out)).trans N0.out
      have c1 := (tk_store hn1).1
      have l1 := tk_lt hn1
      clear g1 hn1
      go_wp2_with fail
      go_ret
      exact ⟨by rw [HR.out]; first | rfl | (simp; omega), B1.out⟩
set_option maxHeartbeats 2000000 in
theorem rfields5_any (i o : Int) (cq : Option Addr) (cm cc : Nat) (via : Pth) (bd : Nat) (dq : Option Addr) (dm dc : Nat) (st : Bool) (a : Int) (w : World) : Calls Tryz.prog 73 #[.agg (ncells 5 i o (.slice cq cm cc) via bd (.slice dq dm dc) st), .int .i64 a] w fun r w' => r = .returned (.bool (rfl9 5 cm via bd dm st a)) ∧ Below w.heap.size w w' := by
 have heq2 : ∀ W : World, Sem.run Tryz.prog (Op.equalIn 10000 39 (.agg #[.int .u64 (via.1 : Nat), .int .u64 (via.2.1 : Nat), .int .u64 (via.2.2 : Nat)]) (.agg #[.int .u64 0, .int .u64 0, .int .u64 0])) W = .ok (decide (via = (0, 0, 0))) W := fun W => by
  rw [run_eqP 9998 via.1 via.2.1 via.2.2 0 0 0 W]
  exact congrArg (fun b => Result.ok b W) (teq_pth via (0, 0, 0))
 have hf := fun W => rfits_any via a W
 have B0 := hid ((Gr.refl w).alloc (.cells (ncells 5 i o (.slice cq cm cc) via bd (.slice dq dm dc) st) 89)).below
 have N0 := hid (heap_new' w (.cells (ncells 5 i o (.slice cq cm cc) via bd (.slice dq dm dc) st) 89))
 obtain ⟨W0, hW0⟩ : ∃ W, W = w.alloc (.cells (ncells 5 i o (.slice cq cm cc) via bd (.slice dq dm dc) st) 89) := ⟨_, rfl⟩
 have HW : Hid (w.alloc (.cells #[.int .i64 5, .int .i64 i, .int .i64 o, .slice cq cm cc, .int .u64 (via.1 : Nat), .int .u64 (via.2.1 : Nat), .int .u64 (via.2.2 : Nat), .int .u64 (bd : Nat), .slice dq dm dc, .bool st] 89) = W0) := hW0.symm
 rw [← hW0] at B0 N0
 have c0 := (tk_store N0.out).1
 have l0 := tk_lt N0.out
 clear hW0
 go_enter Tryz.func73, Tryz.ntmps73
 go_upto_region 1 with fail
 rw [HW.out]
 clear HW
 by_cases h0 : 0 < cm
 ·have z0 : (0 : Int) < (cm : Int) := by omega
  have HR : Hid (rfl9 5 cm via bd dm st a = false) := by show _ = _; simp [rfl9, has, h0]
  clear h0
  go_wp2_with fail
  go_ret
  exact ⟨by rw [HR.out]; rfl, B0.out⟩
 ·have z0 : ¬ (0 : Int) < (cm : Int) := by omega
  have e0 : cm = 0 := by omega
  by_cases h1 : 0 < dm
  ·have z1 : (0 : Int) < (dm : Int) := by omega
   have HR : Hid (rfl9 5 cm via bd dm st a = false) := by show _ = _; simp [rfl9, has, e0, h1]
   clear e0 h1
   go_wp2_with fail
   go_ret
   exact ⟨by rw [HR.out]; rfl, B0.out⟩
  ·have z1 : ¬ (0 : Int) < (dm : Int) := by omega
   have e1 : dm = 0 := by omega
   by_cases q2 : st = true
   ·subst q2
    have HR : Hid (rfl9 5 cm via bd dm true a = false) := by show _ = _; simp [rfl9, has, e0, e1]
    clear e0 e1
    go_wp2_with fail
    go_ret
    exact ⟨by rw [HR.out]; rfl, B0.out⟩
   ·have q2 : st = false := by simpa using q2
    subst q2
    by_cases g3 : ¬ tfits via.1 via.2.1 via.2.2 a = 0
    ·have d3 : decide (tfits via.1 via.2.1 via.2.2 a = 0) = false := by simp [g3]
     rw [d3] at hf
     have HR : Hid (rfl9 5 cm via bd dm false a = false) := by show _ = _; simp [rfl9, has, e0, e1, g3]
     clear e0 e1 g3
     go_wp2_with fail
     refine (hf _).mono ?_
     rintro r w1 ⟨rfl, g1⟩
     have B1 := hid (B0.out.trans (g1.below.mono B0.out.size))
     have hn1 := (g1.below.block _ (tk_lt N0.out)).trans N0.out
     have c1 := (tk_store hn1).1
     have l1 := tk_lt hn1
     clear g1 hn1
     go_wp2_with fail
     go_ret
     exact ⟨by rw [HR.out]; first | rfl | (simp; omega), B1.out⟩
    ·have d3 : decide (tfits via.1 via.2.1 via.2.2 a = 0) = true := by simpa using g3
     rw [d3] at hf
     by_cases h4 : ¬ bd ≤ 64
     ·have z4 : ¬ (bd : Int) ≤ 64 := by omega
      have HR : Hid (rfl9 5 cm via bd dm false a = false) := by show _ = _; simp [rfl9, has, e0, e1, h4]
      clear e0 e1 g3 h4
      go_wp2_with fail
      refine (hf _).mono ?_
      rintro r w1 ⟨rfl, g1⟩
      have B1 := hid (B0.out.trans (g1.below.mono B0.out.size))
      have hn1 := (g1.below.block _ (tk_lt N0.out)).trans N0.out
      have c1 := (tk_store hn1).1
      have l1 := tk_lt hn1
      clear g1 hn1
      go_wp2_with fail
      go_ret
      exact ⟨by rw [HR.out]; first | rfl | (simp; omega), B1.out⟩
     ·have z4 : (bd : Int) ≤ 64 := by omega
      have h4 : bd ≤ 64 := by omega
      have HR : Hid (rfl9 5 cm via bd dm false a = true) := by show _ = _; simp [rfl9, has, e0, e1, h4]; simpa using g3
      clear e0 e1 g3 h4
      go_wp2_with fail
      refine (hf _).mono ?_
      rintro r w1 ⟨rfl, g1⟩
      have B1 := hid (B0.out.trans (g1.below.mono B0.out.size))
      have hn1 := (g1.below.block _ (tk_lt N0.out)).trans N0.out
      have c1 := (tk_store hn1).1
      have l1 := tk_lt hn1
      clear g1 hn1
      go_wp2_with fail
      go_ret
      exact ⟨by rw [HR.out]; first | rfl | (simp; omega), B1.out⟩
set_option maxHeartbeats 2000000 in
theorem rfields8_any (i o : Int) (cq : Option Addr) (cm cc : Nat) (via : Pth) (bd : Nat) (dq : Option Addr) (dm dc : Nat) (st : Bool) (a : Int) (w : World) : Calls Tryz.prog 73 #[.agg (ncells 8 i o (.slice cq cm cc) via bd (.slice dq dm dc) st), .int .i64 a] w fun r w' => r = .returned (.bool (rfl9 8 cm via bd dm st a)) ∧ Below w.heap.size w w' := by
 have heq2 : ∀ W : World, Sem.run Tryz.prog (Op.equalIn 10000 39 (.agg #[.int .u64 (via.1 : Nat), .int .u64 (via.2.1 : Nat), .int .u64 (via.2.2 : Nat)]) (.agg #[.int .u64 0, .int .u64 0, .int .u64 0])) W = .ok (decide (via = (0, 0, 0))) W := fun W => by
  rw [run_eqP 9998 via.1 via.2.1 via.2.2 0 0 0 W]
  exact congrArg (fun b => Result.ok b W) (teq_pth via (0, 0, 0))
 have hf := fun W => rfits_any via a W
 have B0 := hid ((Gr.refl w).alloc (.cells (ncells 8 i o (.slice cq cm cc) via bd (.slice dq dm dc) st) 89)).below
 have N0 := hid (heap_new' w (.cells (ncells 8 i o (.slice cq cm cc) via bd (.slice dq dm dc) st) 89))
 obtain ⟨W0, hW0⟩ : ∃ W, W = w.alloc (.cells (ncells 8 i o (.slice cq cm cc) via bd (.slice dq dm dc) st) 89) := ⟨_, rfl⟩
 have HW : Hid (w.alloc (.cells #[.int .i64 8, .int .i64 i, .int .i64 o, .slice cq cm cc, .int .u64 (via.1 : Nat), .int .u64 (via.2.1 : Nat), .int .u64 (via.2.2 : Nat), .int .u64 (bd : Nat), .slice dq dm dc, .bool st] 89) = W0) := hW0.symm
 rw [← hW0] at B0 N0
 have c0 := (tk_store N0.out).1
 have l0 := tk_lt N0.out
 clear hW0
 go_enter Tryz.func73, Tryz.ntmps73
 go_upto_region 1 with fail
 rw [HW.out]
 clear HW
 by_cases h0 : 0 < cm
 ·have z0 : (0 : Int) < (cm : Int) := by omega
  have HR : Hid (rfl9 8 cm via bd dm st a = false) := by show _ = _; simp [rfl9, has, h0]
  clear h0
  go_wp2_with fail
  go_ret
  exact ⟨by rw [HR.out]; rfl, B0.out⟩
 ·have z0 : ¬ (0 : Int) < (cm : Int) := by omega
  have e0 : cm = 0 := by omega
  by_cases g1 : ¬ via = (0, 0, 0)
  ·have d1 : decide (via = (0, 0, 0)) = false := by simp [g1]
   rw [d1] at heq2
   have HR : Hid (rfl9 8 cm via bd dm st a = false) := by show _ = _; simp [rfl9, has, e0, g1]
   clear e0 g1
   go_wp2_with fail
   go_ret
   exact ⟨by rw [HR.out]; rfl, B0.out⟩
  ·have d1 : decide (via = (0, 0, 0)) = true := by simpa using g1
   rw [d1] at heq2
   by_cases h2 : ¬ bd = 0
   ·have b2 : ((bd : Int) == 0) = false := by simp [h2]
    have c2 : ((bd : Int) != 0) = true := by simp [h2]
    have HR : Hid (rfl9 8 cm via bd dm st a = false) := by show _ = _; simp [rfl9, has, e0, h2]
    clear e0 g1 h2
    go_wp2_with fail
    go_ret
    exact ⟨by rw [HR.out]; rfl, B0.out⟩
   ·have h2 : bd = 0 := by omega
    have b2 : ((bd : Int) == 0) = true := by simp [h2]
    have c2 : ((bd : Int) != 0) = false := by simp [h2]
    have z2 : (bd : Int) ≤ 64 := by omega
    by_cases g3 : ¬ tfits via.1 via.2.1 via.2.2 a = 0
    ·have d3 : decide (tfits via.1 via.2.1 via.2.2 a = 0) = false := by simp [g3]
     rw [d3] at hf
     have HR : Hid (rfl9 8 cm via bd dm st a = false) := by show _ = _; simp [rfl9, has, e0, h2, g3]
     clear e0 g1 h2 g3
     go_wp2_with fail
     refine (hf _).mono ?_
     rintro r w1 ⟨rfl, g1⟩
     have B1 := hid (B0.out.trans (g1.below.mono B0.out.size))
     have hn1 := (g1.below.block _ (tk_lt N0.out)).trans N0.out
     have c1 := (tk_store hn1).1
     have l1 := tk_lt hn1
     clear g1 hn1
     go_wp2_with fail
     go_ret
     exact ⟨by rw [HR.out]; first | rfl | (simp; omega), B1.out⟩
    ·have d3 : decide (tfits via.1 via.2.1 via.2.2 a = 0) = true := by simpa using g3
     rw [d3] at hf
     have HR : Hid (rfl9 8 cm via bd dm st a = true) := by show _ = _; simp [rfl9, has, e0, h2]; exact ⟨by simpa using g1, by simpa using g3⟩
     clear e0 g1 h2 g3
     go_wp2_with fail
     refine (hf _).mono ?_
     rintro r w1 ⟨rfl, g1⟩
     have B1 := hid (B0.out.trans (g1.below.mono B0.out.size))
     have hn1 := (g1.below.block _ (tk_lt N0.out)).trans N0.out
     have c1 := (tk_store hn1).1
     have l1 := tk_lt hn1
     clear g1 hn1
     go_wp2_with fail
     go_ret
     exact ⟨by rw [HR.out]; first | rfl | (simp; omega), B1.out⟩
end Go.Proofs.YtdnnfgabdkkdjaaGreat.Df
