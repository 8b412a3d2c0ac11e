import Derived.Test.YtngnfglnfkhheaaGreatKAdvP
import Derived.Test.YtngnfglnfkhheaaGreatKRef
import Derived.Test.YtngnfglnfkhheaaGreatJ4
import Derived.BigQuiet
namespace Go.Proofs.YtngnfglnfkhheaaGreat.Df
open Go.RowKit Go.Sort
attribute [local go_sem ↓] Go.wp_at_zero Go.wp_at_succ

theorem lz_low {α : Type} {E : El α} {M : Nat} {S : Nat → Prop} {W W' : World} {v : Value} {l : List α} (h : Lz E M W v l) (hk : Kp S W W') (hS : ∀ k, S k → M ≤ k) : Lz E M W' v l := by
  rcases h with ⟨h1, h2⟩ | h1
  · exact Or.inl ⟨hk.ls h1 (fun k e e2 => by have := h2 k e; have := hS k e2; omega), h2⟩
  · exact Or.inr h1
/-- What is known of a node's lists. -/
def Nl (M : Nat) (W : World) (y : NV) : Prop := Lz EO M W y.cv y.n.code ∧ Rs M W y.dv y.n.conns ∧ y.n.conns.length ≤ y.dc
theorem Nl.kp {M : Nat} {S : Nat → Prop} {W W' : World} {y : NV} (h : Nl M W y) (hk : Kp S W W') (hS : ∀ k, S k → M ≤ k ∧ ∀ cs z, W.heap[k]? ≠ some (.cells cs 72 z)) : Nl M W' y := ⟨lz_low h.1 hk (fun k e => (hS k e).1), h.2.1.kp hk hS, h.2.2⟩
theorem Nl.below {M : Nat} {W W' : World} {y : NV} (h : Nl M W y) (hb : Below W.heap.size W W') : Nl M W' y := ⟨h.1.below hb, h.2.1.below hb, h.2.2⟩
/-- The graph that is made anew, as far as it is. -/
structure Av (w : World) (M gx ob : Nat) (a : Int) (nv ev nv' ev' : Value) (ys : List NV) (ds : List Edg) (W : World) : Prop where
  bl : Below w.heap.size w W
  raw : W.heap[gx]? = some (.cells (gvc a nv ev) 25 (0, 0))
  oth : W.heap[ob]? = some (.cells (gvc a nv' ev') 25 (0, 0))
  nodes : W.ownsRow w.heap.size 58 10 nv' ys.length (fl EV ys)
  edges : W.ownsRow w.heap.size 74 5 ev' ds.length (fl ED ds)
  each : ∀ y ∈ ys, Nl M W y
  ne : gx ≠ ob
  lo : w.heap.size ≤ ob
section
variable {w W W' w9 : World} {M gx ob : Nat} {a : Int} {nv ev nv' ev' : Value} {ys : List NV} {ds : List Edg}
theorem Av.below (h : Av w M gx ob a nv ev nv' ev' ys ds W) (hb : Below W.heap.size W W') : Av w M gx ob a nv ev nv' ev' ys ds W' := ⟨h.bl.trans (hb.mono h.bl.size), (hb.block _ (tk_lt h.raw)).trans h.raw, (hb.block _ (tk_lt h.oth)).trans h.oth, owns_below h.nodes hb, owns_below h.edges hb, fun y hy => (h.each y hy).below hb, h.ne, h.lo⟩
theorem not_con {B : Nat} {T : TypeId} {size n : Nat} {v : Value} {us : List Value} (h : W.ownsRow B T size v n us) (hT : T ≠ 72) {k : Nat} (hk : v.ownBlock = some k) (cs : Array Value) (z : Nat × Nat) : W.heap[k]? ≠ some (.cells cs 72 z) := fun e => owns_ne_blk h e hT k hk rfl
/-- One node more. -/
theorem Av.node (h : Av w M gx ob a nv ev nv' ev' ys ds W) (hM : M ≤ w.heap.size) {y : NV} (hy : Nl M W y) {g9 c9 : Nat} (r1 : w9.ownsRow w.heap.size 58 10 (.slice (some ⟨g9, 0, none⟩) (ys.length + 1) c9) (ys.length + 1) (fl EV ys ++ EV.enc y)) (r2 : W.grownBy w9 nv'.ownBlock) :
    Av w M gx ob a nv ev (.slice (some ⟨g9, 0, none⟩) (ys.length + 1) c9) ev' (ys ++ [y]) ds (w9.setCell ⟨ob, 1, none⟩ (.slice (some ⟨g9, 0, none⟩) (ys.length + 1) c9)) ∧ (∀ i, w9.cell? ⟨ob, i, none⟩ = (gvc a nv' ev')[i]?) ∧ (∀ i, w9.frozen? ⟨ob, i, none⟩ = false) ∧ ob < w9.heap.size := by
  have K2 := Kp.grownBy (S := fun j => nv'.ownBlock = some j) r2 (fun _ h => h)
  have o1 := (K2.block _ (tk_lt h.oth) (fun e => owns_ne_blk h.nodes h.oth (by decide) ob e rfl)).trans h.oth
  have x1 := (K2.block _ (tk_lt h.raw) (fun e => owns_ne_blk h.nodes h.raw (by decide) gx e rfl)).trans h.raw
  obtain ⟨o2, k3⟩ := tk_set o1 1 (.slice (some ⟨g9, 0, none⟩) (ys.length + 1) c9)
  have e1 := owns_kp K2 h.edges (fun j e e2 => owns_ne_own h.edges h.nodes (by decide) j e e2)
  have nl : ∀ z, Nl M W z → Nl M (w9.setCell ⟨ob, 1, none⟩ (.slice (some ⟨g9, 0, none⟩) (ys.length + 1) c9)) z := fun z hz =>
    (hz.kp K2 (fun k e => ⟨Nat.le_trans hM (owns_rd h.nodes k e).1, fun cs z => not_con h.nodes (by decide) e cs z⟩)).kp k3 (fun k e => ⟨by rw [e]; exact Nat.le_trans hM h.lo, fun cs z e2 => by
      rw [e, o1] at e2
      simp only [Option.some.injEq, Obj.cells.injEq] at e2
      exact absurd e2.2.1 (by decide)⟩)
  refine ⟨⟨(h.bl.trans (K2.below h.bl.size (fun j e => (owns_rd h.nodes j e).1))).trans (k3.below (Nat.le_trans h.bl.size K2.size) (fun j e => by rw [e]; exact h.lo)), (k3.block _ (tk_lt x1) h.ne).trans x1, o2, ?_, owns_kp k3 e1 (fun j e e2 => owns_ne_blk e1 o1 (by decide) j e e2), fun z hz => ?_, h.ne, h.lo⟩, (tk_store o1).1, (tk_store o1).2, tk_lt o1⟩
  · have r3 := owns_kp k3 r1 (fun j e e2 => owns_ne_blk r1 o1 (by decide) j e e2)
    exact owns_re r3 (by simp) (by rw [fl_append, fl_one])
  · rcases List.mem_append.1 hz with hz | hz
    · exact nl z (h.each z hz)
    · rw [List.mem_singleton.1 hz]
      exact nl y hy
/-- One edge more. -/
theorem Av.edge (h : Av w M gx ob a nv ev nv' ev' ys ds W) (hM : M ≤ w.heap.size) {d : Edg} {g9 c9 : Nat} (r1 : w9.ownsRow w.heap.size 74 5 (.slice (some ⟨g9, 0, none⟩) (ds.length + 1) c9) (ds.length + 1) (fl ED ds ++ ED.enc d)) (r2 : W.grownBy w9 ev'.ownBlock) :
    Av w M gx ob a nv ev nv' (.slice (some ⟨g9, 0, none⟩) (ds.length + 1) c9) ys (ds ++ [d]) (w9.setCell ⟨ob, 2, none⟩ (.slice (some ⟨g9, 0, none⟩) (ds.length + 1) c9)) ∧ (∀ i, w9.cell? ⟨ob, i, none⟩ = (gvc a nv' ev')[i]?) ∧ (∀ i, w9.frozen? ⟨ob, i, none⟩ = false) ∧ ob < w9.heap.size ∧ w9.heap[gx]? = some (.cells (gvc a nv ev) 25 (0, 0)) := by
  have K2 := Kp.grownBy (S := fun j => ev'.ownBlock = some j) r2 (fun _ h => h)
  have o1 := (K2.block _ (tk_lt h.oth) (fun e => owns_ne_blk h.edges h.oth (by decide) ob e rfl)).trans h.oth
  have x1 := (K2.block _ (tk_lt h.raw) (fun e => owns_ne_blk h.edges h.raw (by decide) gx e rfl)).trans h.raw
  obtain ⟨o2, k3⟩ := tk_set o1 2 (.slice (some ⟨g9, 0, none⟩) (ds.length + 1) c9)
  have e1 := owns_kp K2 h.nodes (fun j e e2 => owns_ne_own h.nodes h.edges (by decide) j e e2)
  refine ⟨⟨(h.bl.trans (K2.below h.bl.size (fun j e => (owns_rd h.edges j e).1))).trans (k3.below (Nat.le_trans h.bl.size K2.size) (fun j e => by rw [e]; exact h.lo)), (k3.block _ (tk_lt x1) h.ne).trans x1, o2, owns_kp k3 e1 (fun j e e2 => owns_ne_blk e1 o1 (by decide) j e e2), ?_, fun z hz => ?_, h.ne, h.lo⟩, (tk_store o1).1, (tk_store o1).2, tk_lt o1, x1⟩
  · have r3 := owns_kp k3 r1 (fun j e e2 => owns_ne_blk r1 o1 (by decide) j e e2)
    exact owns_re r3 (by simp) (by rw [fl_append, fl_one])
  · exact ((h.each z hz).kp K2 (fun k e => ⟨Nat.le_trans hM (owns_rd h.edges k e).1, fun cs z => not_con h.edges (by decide) e cs z⟩)).kp k3 (fun k e => ⟨by rw [e]; exact Nat.le_trans hM h.lo, fun cs z e2 => by
      rw [e, o1] at e2
      simp only [Option.some.injEq, Obj.cells.injEq] at e2
      exact absurd e2.2.1 (by decide)⟩)
end
end Go.Proofs.YtngnfglnfkhheaaGreat.Df
