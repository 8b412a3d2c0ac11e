import Derived.Test.YtngnfglnfkhheaaGreatJ2
namespace Go.Proofs.YtngnfglnfkhheaaGreat.Df
open Go.RowKit Go.Sort

/-- Connections that all advance. -/
def advC (l : List Con) : List Con := l.mapIdx fun k c => ⟨c.inn, c.out, (k + 1, 0, 0)⟩
theorem advC_len (l : List Con) : (advC l).length = l.length := by simp [advC]
theorem advC_get {l : List Con} {k : Nat} {x : Con} (h : (advC l)[k]? = some x) : ∃ c, l[k]? = some c ∧ x = ⟨c.inn, c.out, (k + 1, 0, 0)⟩ := by
  unfold advC at h
  rw [List.getElem?_mapIdx] at h
  cases e : l[k]? with
  | none => rw [e] at h; cases h
  | some c =>
    rw [e] at h
    exact ⟨c, rfl, (Option.some.inj h).symm⟩
theorem advC_snoc {l : List Con} {k : Nat} {c : Con} (h : l[k]? = some c) : advC (l.take (k + 1)) = advC (l.take k) ++ [⟨c.inn, c.out, (k + 1, 0, 0)⟩] := by
  have hk := (List.getElem?_eq_some_iff.1 h).1
  unfold advC
  rw [List.take_add_one, h]
  simp only [Option.toList_some]
  rw [List.mapIdx_append]
  simp [Nat.min_eq_left (Nat.le_of_lt hk)]
def joinC (m : Nat) : List Con := (List.range m).map fun (k : Nat) => ⟨(k : Int), 0, (0, 0, 0)⟩
/-- A node all of whose paths advance. -/
def advN (n : Nod) : Nod := if n.kind = 2 ∨ n.kind = 3 ∨ n.kind = 6 then ⟨5, 1, 1, [], (1, 0, 0), 0, [], false⟩ else if n.kind = 5 then { n with via := (1, 0, 0) } else if n.kind = 4 then ⟨8, n.ins, 1, [], (0, 0, 0), 0, advC (joinC n.ins.toNat), false⟩ else if n.kind = 8 then { n with conns := advC n.conns } else n
theorem tf0 {a : Int} (u : Nat) (ha : 1 ≤ a ∧ a ≤ 3) : tfits ((u : Nat) : Int) 0 0 a = 0 := by
  unfold tfits
  rw [if_neg (by omega), if_pos ⟨fun _ => rfl, fun _ => rfl⟩]
theorem cok_adv {i o a : Int} {l : List Con} (ha : 1 ≤ a ∧ a ≤ 3) (hl : l.length ≤ 16) (h : ∀ c ∈ l, (0 ≤ c.inn ∧ c.inn < i) ∧ (0 ≤ c.out ∧ c.out < o)) : cok i o a (advC l) = true := by
  rw [cok_iff]
  refine ⟨by rw [advC_len]; exact hl, fun j x hx => ?_⟩
  obtain ⟨c, hc, rfl⟩ := advC_get hx
  have := h c (List.mem_of_getElem? hc)
  refine ⟨this.1, this.2, ?_, ?_⟩
  · exact tf0 (j + 1) ha
  · unfold isin
    rw [List.any_eq_false]
    intro y hy
    obtain ⟨m, hm⟩ := List.mem_iff_getElem?.1 hy
    have hlt := (List.getElem?_eq_some_iff.1 hm).1
    rw [List.length_take] at hlt
    rw [List.getElem?_take_of_lt (by omega)] at hm
    obtain ⟨c2, _, rfl⟩ := advC_get hm
    simp
    omega
theorem joinC_mem {m : Nat} {c : Con} (h : c ∈ joinC m) : (0 ≤ c.inn ∧ c.inn < (m : Int)) ∧ c.out = 0 := by
  unfold joinC at h
  obtain ⟨k, hk, rfl⟩ := List.mem_map.1 h
  have := List.mem_range.1 hk
  dsimp only
  omega
theorem advN_ok {a : Int} {n : Nod} (ha : 1 ≤ a ∧ a ≤ 3) (h : nflaw a n = 0) : nflaw a (advN n) = 0 ∧ (advN n).ins = n.ins ∧ (advN n).outs = n.outs ∧ (advN n).kind ≠ 6 ∧ ∀ c ∈ connsN (advN n), c.via ≠ (0, 0, 0) := by
  have hk := nflaw_kind h
  obtain ⟨⟨p1, p2⟩, hr⟩ := nflaw_rest h
  have hp := nflaw_ports h
  have hll := (nflaw_lists h).2
  have hgood := fun c hc => connsN_good (c := c) h hc
  have hhas : nhas n = false := by
    unfold nflaw at h
    split at h
    · cases h
    · split at h
      · cases h
      · split at h
        · cases h
        · rename_i h3
          simpa using h3
  obtain ⟨kind, ins, outs, code, via, bound, conns, start⟩ := n
  dsimp only at *
  have hk8 : kind = 1 ∨ (kind = 2 ∨ kind = 3 ∨ kind = 6) ∨ kind = 4 ∨ kind = 5 ∨ kind = 7 ∨ kind = 8 := by omega
  rcases hk8 with rfl | hk3 | rfl | rfl | rfl | rfl
  · have e : advN ⟨1, ins, outs, code, via, bound, conns, start⟩ = ⟨1, ins, outs, code, via, bound, conns, start⟩ := by simp [advN]
    rw [e]
    simp [pIn] at p1
    refine ⟨h, rfl, rfl, by simp, fun c hc => ?_⟩
    subst p1
    simp [connsN, acrL] at hc
  · have e : advN ⟨kind, ins, outs, code, via, bound, conns, start⟩ = ⟨5, 1, 1, [], (1, 0, 0), 0, [], false⟩ := by simp [advN, hk3]
    rw [e]
    have hi : ins = 1 := by
      unfold pIn at p1
      rw [if_neg (by omega), if_neg (by omega), if_neg (by omega)] at p1
      simpa using p1
    have ho : outs = 1 := by
      unfold pOut at p2
      rw [if_neg (by omega), if_neg (by omega)] at p2
      simpa using p2
    refine ⟨?_, hi.symm, ho.symm, by simp, fun c hc => ?_⟩
    · have t := tf0 1 ha
      have t2 : tfits 1 0 0 a = 0 := t
      simp [nflaw, pIn, pOut, nhas, has, nrest, t2]
    · simp [connsN] at hc
      subst hc
      simp
  · have e : advN ⟨4, ins, outs, code, via, bound, conns, start⟩ = ⟨8, ins, 1, [], (0, 0, 0), 0, advC (joinC ins.toNat), false⟩ := by simp [advN]
    rw [e]
    simp [pIn] at p1
    simp [pOut] at p2
    subst p2
    have hc := cok_adv (i := ins) (o := 1) (a := a) (l := joinC ins.toNat) ha (by unfold joinC; rw [List.length_map, List.length_range]; omega) (fun c hc => by have := joinC_mem hc; omega)
    refine ⟨?_, rfl, rfl, by simp, fun c hc => ?_⟩
    · simp [nflaw, pIn, pOut, nhas, has, nrest, hc]
      omega
    · simp [connsN] at hc
      obtain ⟨k, hk⟩ := List.mem_iff_getElem?.1 hc
      obtain ⟨c2, _, rfl⟩ := advC_get hk
      simp
  · have e : advN ⟨5, ins, outs, code, via, bound, conns, start⟩ = ⟨5, ins, outs, code, (1, 0, 0), bound, conns, start⟩ := by simp [advN]
    rw [e]
    simp [pIn] at p1
    simp [pOut] at p2
    refine ⟨?_, rfl, rfl, by simp, fun c hc => ?_⟩
    · have t2 : tfits 1 0 0 a = 0 := tf0 1 ha
      unfold nrest at hr
      rw [if_neg (by simp), if_pos rfl] at hr
      have hb : ¬ 64 < bound := fun hb => by simp [hb] at hr
      simp [nhas, has] at hhas
      simp [nflaw, pIn, pOut, nhas, has, nrest, t2, p1, p2, hb, hhas]
    · simp [connsN] at hc
      subst hc
      simp
  · have e : advN ⟨7, ins, outs, code, via, bound, conns, start⟩ = ⟨7, ins, outs, code, via, bound, conns, start⟩ := by simp [advN]
    rw [e]
    simp [pIn] at p1
    simp [pOut] at p2
    refine ⟨h, rfl, rfl, by simp, fun c hc => ?_⟩
    subst p1
    subst p2
    simp [connsN, acrL, rowL] at hc
  · have e : advN ⟨8, ins, outs, code, via, bound, conns, start⟩ = ⟨8, ins, outs, code, via, bound, advC conns, start⟩ := by simp [advN]
    rw [e]
    have hc := cok_adv (i := ins) (o := outs) (a := a) (l := conns) ha hll (fun c hc => hgood c (by simpa [connsN] using hc))
    refine ⟨?_, rfl, rfl, by simp, fun c hc => ?_⟩
    · simp [nhas, has] at hhas
      simp [pIn] at p1
      simp [pOut] at p2
      simp [nflaw, pIn, pOut, nhas, has, nrest, hc, hhas, p1, p2]
    · simp [connsN] at hc
      obtain ⟨k, hk⟩ := List.mem_iff_getElem?.1 hc
      obtain ⟨c2, _, rfl⟩ := advC_get hk
      simp
/-- The graph all of whose paths advance. -/
def advG (g : Gph) : Gph := ⟨g.arity, g.nodes.map advN, g.edges⟩
theorem adv_natN (ns : List Nod) (i : Int) : natN? (ns.map advN) i = (natN? ns i).map advN := by
  unfold natN?
  split
  · simp
  · rfl
theorem adv_has {g : Gph} (h : Gok g) (i p : Int) : hasIN (g.nodes.map advN) i p = hasIN g.nodes i p ∧ hasON (g.nodes.map advN) i p = hasON g.nodes i p := by
  unfold hasIN hasON
  rw [adv_natN]
  cases e : natN? g.nodes i with
  | none => exact ⟨rfl, rfl⟩
  | some n =>
    have hn : n ∈ g.nodes := by
      unfold natN? at e
      split at e
      · exact List.mem_of_getElem? e
      · cases e
    obtain ⟨j, hj, rfl⟩ := List.mem_iff_getElem.1 hn
    have := advN_ok ⟨h.a1, h.a2⟩ (h.ng j _ hj (List.getElem?_eq_getElem hj))
    simp only [Option.map_some, this.2.1, this.2.2.1, and_self]
theorem adv_ok {g : Gph} (h : Gok g) : Gok (advG g) := by
  refine ⟨h.a1, h.a2, by simpa [advG] using h.nl, h.el, fun j n hj hn => ?_, fun j d hj hd => ?_⟩
  · unfold advG at hn
    simp only [List.getElem?_map] at hn
    cases e : g.nodes[j]? with
    | none => rw [e] at hn; cases hn
    | some m =>
      rw [e] at hn
      obtain rfl := Option.some.inj hn
      exact (advN_ok ⟨h.a1, h.a2⟩ (h.ng j m (List.getElem?_eq_some_iff.1 e).1 e)).1
  · have h0 := eflaw_has (h.eg j d hj hd)
    show eflawN (g.nodes.map advN) (g.edges.take j) d = 0
    unfold eflawN
    rw [(adv_has h _ _).2, (adv_has h _ _).1, h0.1, h0.2.1, h0.2.2, if_neg (by simp), adv_natN]
    cases e : natN? g.nodes d.dst with
    | none => rfl
    | some n =>
      have hn : n ∈ g.nodes := by
        unfold natN? at e
        split at e
        · exact List.mem_of_getElem? e
        · cases e
      obtain ⟨i, hi, rfl⟩ := List.mem_iff_getElem.1 hn
      have := (advN_ok ⟨h.a1, h.a2⟩ (h.ng i _ hi (List.getElem?_eq_getElem hi))).2.2.2.1
      simp only [Option.map_some]
      rw [if_neg (fun e => this e.1)]
theorem adv_sp {g : Gph} (h : Gok g) {p q : Nat} (hs : Sp (stL (advG g)) p q) : ∃ b c : Spt, (spotsU (advG g).nodes (advG g).nodes.length)[p]? = some b ∧ (spotsU (advG g).nodes (advG g).nodes.length)[q]? = some c ∧ b.2.2 = false ∧ c.2.2 = true := by
  have hO := adv_ok h
  have hm := (sp_iff hO).1 hs
  unfold stS at hm
  rcases List.mem_append.1 hm with hm | hm
  · obtain ⟨d, hd, e⟩ := List.mem_map.1 hm
    obtain ⟨j, hj⟩ := List.mem_iff_getElem?.1 hd
    have h2 := hO.ends hj
    unfold edgP at e
    simp only [Prod.mk.injEq] at e
    rw [← e.1, ← e.2]
    exact ⟨_, _, out_spot h2.1, in_spot h2.2, rfl, rfl⟩
  · obtain ⟨i, c, hi, h2, h3, _⟩ := nodU_mem.1 hm
    have hi : i < (g.nodes.map advN).length := hi
    rw [List.length_map] at hi
    rw [connsAt_nat] at h2
    change c ∈ (match (g.nodes.map advN)[i]? with | some n => connsN n | none => []) at h2
    rw [List.getElem?_map, List.getElem?_eq_getElem hi] at h2
    exact absurd (of_decide_eq_true h3) ((advN_ok ⟨h.a1, h.a2⟩ (h.ng i _ hi (List.getElem?_eq_getElem hi))).2.2.2.2 c h2)
theorem adv_none {g : Gph} (h : Gok g) (x m : Nat) : ¬ Ry (stL (advG g)) x m x := fun hr => by
  have two : ∀ a b c, Sp (stL (advG g)) a b → ¬ Sp (stL (advG g)) b c := fun a b c h1 h2 => by
    obtain ⟨s1, s2, _, e2, _, e4⟩ := adv_sp h h1
    obtain ⟨t1, t2, f1, _, f3, _⟩ := adv_sp h h2
    rw [e2] at f1
    obtain rfl := Option.some.inj f1
    rw [e4] at f3
    cases f3
  cases m with
  | zero => exact hr.zero
  | succ m =>
    obtain ⟨u, hu, h2⟩ := hr.next
    rcases h2 with rfl | h2
    · exact two _ _ _ hu hu
    · cases m with
      | zero => exact h2.zero
      | succ m =>
        obtain ⟨u2, hu2, _⟩ := h2.next
        exact two _ _ _ hu hu2
theorem adv_ord {g : Gph} (h : Gok g) : ∃ o f, ordN (stL (advG g)).length (stL (advG g)) (stL (advG g)).length = some (o, f) := by
  cases e : ordN (stL (advG g)).length (stL (advG g)) (stL (advG g)).length with
  | none =>
    obtain ⟨x, m, _, hr⟩ := ord_none e
    exact absurd hr (adv_none h x m)
  | some x => exact ⟨x.1, x.2, rfl⟩
theorem adv_find {g : Gph} (h : Gok g) : ((findN (stL (advG g)) (stL (advG g)).length).getD []).length = 0 := by
  have hO := adv_ok h
  have h1 := findN_ok (ls := stL (advG g)) (fun l hl y hy => (((stL_good hO).2 l hl).2 y hy).1) (stL (advG g)).length
  revert h1
  cases findN (stL (advG g)) (stL (advG g)).length with
  | none => intro _; rfl
  | some l =>
    rintro ⟨q, _, h2, h3, _⟩
    exact absurd ⟨l, h2, h3, Nat.le_refl _⟩ (adv_none h q l.length)
end Go.Proofs.YtngnfglnfkhheaaGreat.Df
