import Derived.Test.YtkopmkmfigenlaaDSame
import Derived.Test.YtkopmkmfigenlaaDGet
namespace Go.Proofs.Ytkopmkmfigenlaa.Df
open Go.RowKit Go.Sort Wi
attribute [local go_sem ↓] Go.wp_at_zero Go.wp_at_succ

/-- A list that lies in a block of its own. -/
theorem ls_block {α : Type} {E : El α} {w : World} {b : Nat} {cs : Array Value} {t : TypeId} {fr : Nat × Nat} {l : List α} (h : w.heap[b]? = some (.cells cs t fr)) (hc : cs.toList = fl E l) (c : Nat) : Ls E w (.slice (some ⟨b, 0, none⟩) l.length c) l := by
  refine Or.inr ⟨b, 0, c, rfl, tk_lt h, fun j u hj => ?_⟩
  rw [← hj, ← hc, Nat.zero_add]
  simp [World.cell?, h]
theorem GO.gr {base : Nat} {w : World} {nv ev : Value} {xs : List NV} {es : List Edg} (h : GO base w nv ev xs es) (hb : ∀ x ∈ xs, x.n.code.length ≤ 140737488355328 ∧ x.n.conns.length ≤ 140737488355328) (hw : xs.length ≤ 140737488355328 ∧ es.length ≤ 140737488355328) : GR w.heap.size w nv ev xs es :=
  ⟨Or.inl ⟨owns_ls (E := EV) h.nodes.row, fun k hk => (owns_rd h.nodes.row k hk).2⟩, Or.inl ⟨owns_ls (E := ED) h.edges, fun k hk => (owns_rd h.edges k hk).2⟩, fun x hx => ⟨Or.inl ⟨owns_ls (E := EO) (h.nodes.each x hx).code, fun k hk => (owns_rd (h.nodes.each x hx).code k hk).2⟩, Or.inl ⟨owns_ls (E := EC) (h.nodes.each x hx).conns, fun k hk => (owns_rd (h.nodes.each x hx).conns k hk).2⟩⟩, hb, hw⟩
theorem GR.up {M M' : Nat} {w : World} {nv ev : Value} {xs : List NV} {es : List Edg} (h : GR M w nv ev xs es) (hM : M ≤ M') : GR M' w nv ev xs es :=
  ⟨h.nodes.up hM, h.edges.up hM, fun x hx => ⟨(h.each x hx).code.up hM, (h.each x hx).conns.up hM⟩, h.big, h.wide⟩
/-- In a later world. -/
theorem GR.later {M : Nat} {nv ev : Value} {w w' : World} {xs : List NV} {es : List Edg} (h : GR M w nv ev xs es) (hM : M ≤ w.heap.size) (hb : Below w.heap.size w w') : GR w'.heap.size w' nv ev xs es := (h.below hb).up (Nat.le_trans hM hb.size)
/-- What was read has the form: its lists are short. -/
theorem got_small {L : List UInt8} : (get L).1.nodes.length ≤ 24 ∧ (get L).1.edges.length ≤ 48 ∧ (∀ n ∈ (get L).1.nodes, n.code.length ≤ 16 ∧ n.conns.length ≤ 16) ∧ GphT (get L).1 := by
  rcases get_back L with ⟨e, t, h, _⟩ | ⟨g, h, hT, h0, _⟩
  · rw [h]
    exact ⟨by simp [none'], by simp [none'], fun n hn => (by cases hn), ⟨⟨by simp [none'], by simp [none']⟩, fun n hn => (by cases hn), fun n hn => (by cases hn)⟩⟩
  · rw [h]
    obtain ⟨h1, h2, _, h4, _⟩ := (egph_ok g).1 h0
    refine ⟨h1, h2, fun n hn => ?_, hT⟩
    obtain ⟨_, _, _, k1, k2, _⟩ := (enod_ok n).1 (h4 n hn)
    exact ⟨k1, k2⟩
theorem vg_gr {base : Nat} {w : World} {nv ev : Value} {L : List UInt8} {xs : List NV} (hxs : xs.map NV.n = (get L).1.nodes) (h : GO base w nv ev xs (get L).1.edges) : GR w.heap.size w nv ev xs (get L).1.edges := by
  obtain ⟨h1, h2, h3, _⟩ := got_small (L := L)
  have hl : xs.length = (get L).1.nodes.length := by rw [← hxs, List.length_map]
  refine h.gr (fun x hx => ?_) ⟨by omega, by omega⟩
  have := h3 x.n (by rw [← hxs]; exact List.mem_map.2 ⟨x, hx, rfl⟩)
  omega
/-- The example's graph. -/
def kx1 : NV := ⟨⟨1, 0, 1, [], (0, 0, 0), 0, [], false⟩, none, 0, 0, none, 0, 0⟩
def kx2 : NV := ⟨⟨7, 1, 0, [], (0, 0, 0), 0, [], false⟩, none, 0, 0, none, 0, 0⟩
def ke1 : Edg := ⟨0, 0, 1, 0, false⟩
abbrev kg : Gph := gof 2 [kx1, kx2] [ke1]
abbrev kb : List UInt8 := [2, 2, 1, 7, 1, 0, 0, 1, 0, 0]
theorem kg_e : egph kg = 0 := by decide
theorem kg_b : bgph kg = kb := by simp [kx1, kx2, ke1, bgph, bint, blst, bnod, bbody, bedg, btruth, form_small]
theorem kg_t : GphT kg := by
  refine ⟨⟨by decide, by decide⟩, fun n hn => ?_, fun x hx => ?_⟩
  · simp only [List.map_cons, List.map_nil, List.mem_cons, List.not_mem_nil, or_false] at hn
    rcases hn with rfl | rfl
    · exact ⟨⟨by decide, by decide⟩, ⟨by decide, by decide⟩, ⟨by decide, by decide⟩, fun o ho => (by cases ho), ⟨Nat.zero_le _, Nat.zero_le _, Nat.zero_le _⟩, Nat.zero_le _, fun c hc => (by cases hc)⟩
    · exact ⟨⟨by decide, by decide⟩, ⟨by decide, by decide⟩, ⟨by decide, by decide⟩, fun o ho => (by cases ho), ⟨Nat.zero_le _, Nat.zero_le _, Nat.zero_le _⟩, Nat.zero_le _, fun c hc => (by cases hc)⟩
  · simp only [List.mem_cons, List.not_mem_nil, or_false] at hx
    subst hx
    exact ⟨⟨by decide, by decide⟩, ⟨by decide, by decide⟩, ⟨by decide, by decide⟩, ⟨by decide, by decide⟩⟩
theorem kg_g : get kb = (kg, 0, 0) := by rw [← kg_b]; exact get_put kg_t kg_e
theorem k1_g : get [1] = (none', 30, 1) := by rfl
end Go.Proofs.Ytkopmkmfigenlaa.Df
