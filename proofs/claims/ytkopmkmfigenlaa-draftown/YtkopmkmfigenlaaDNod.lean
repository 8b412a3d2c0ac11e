import Derived.Test.YtkopmkmfigenlaaDTl
import Derived.Test.YtkopmkmfigenlaaDKind
namespace Go.Proofs.Ytkopmkmfigenlaa.Df
open Go.RowKit Go.Sort Wi
attribute [local go_sem ↓] Go.wp_at_zero Go.wp_at_succ

/-- A node as it lies: its two lists. -/
structure NV where
  n : Nod
  cq : Option Addr
  cm : Nat
  cc : Nat
  dq : Option Addr
  dm : Nat
  dc : Nat
abbrev NV.cv (x : NV) : Value := .slice x.cq x.cm x.cc
abbrev NV.dv (x : NV) : Value := .slice x.dq x.dm x.dc
abbrev ncells (k i o : Int) (c : Value) (p : Pth) (b : Nat) (d : Value) (s : Bool) : Array Value := #[.int .i64 k, .int .i64 i, .int .i64 o, c, .int .u64 (p.1 : Nat), .int .u64 (p.2.1 : Nat), .int .u64 (p.2.2 : Nat), .int .u64 (b : Nat), d, .bool s]
abbrev NV.cells (x : NV) : Array Value := ncells x.n.kind x.n.ins x.n.outs x.cv x.n.via x.n.bound x.dv x.n.start
/-- Its lists are its own. -/
structure NO (base : Nat) (w : World) (x : NV) : Prop where
  code : w.ownsRow base 78 2 x.cv x.n.code.length (fl EO x.n.code)
  conns : w.ownsRow base 80 5 x.dv x.n.conns.length (fl EC x.n.conns)
  apart : ∀ k, x.cv.ownBlock = some k → x.dv.ownBlock ≠ some k
def VN (base : Nat) (w : World) (u : Value) (n : Nod) : Prop := ∃ x : NV, x.n = n ∧ u = .agg x.cells ∧ NO base w x
/-- What stands while a node is read: the taker, the result's place, the node's place nb. -/
structure Nf (w W : World) (rb : Nat) (v : Value) (L : List UInt8) (b nb : Nat) (cs : Array Value) : Prop where
  rd : Rd W rb v L b 0
  kp : Kp (fun k => k = rb) w W
  ht : W.heap[w.heap.size]? = some (.cells #[.pointer (some ⟨rb, 0, none⟩)] 73 (0, 0))
  hr : W.heap[w.heap.size + 1]? = some (.cells (ncells 0 0 0 (.slice none 0 0) (0, 0, 0) 0 (.slice none 0 0) false) 67 (0, 0))
  hn : W.heap[nb]? = some (.cells cs 67 (0, 0))
  lt : w.heap.size + 1 < nb
  old : rb < w.heap.size ∧ ∀ k, v.ownBlock = some k → k < w.heap.size
section
variable {w W W' : World} {rb b nb : Nat} {v : Value} {L : List UInt8} {cs : Array Value}
theorem Nf.set (h : Nf w W rb v L b nb cs) (i : Nat) (x : Value) : Nf w (W.setCell ⟨nb, i, none⟩ x) rb v L b nb (cs.setIfInBounds i x) := by
  obtain ⟨h1, h2⟩ := tk_set h.hn i x
  have h3 := h.lt
  have h4 := h.old.1
  exact ⟨h.rd.kp h2 (by omega) (fun k hk e => by have := h.old.2 k hk; omega), h.kp.trans h2 (fun j hj e => by omega), (h2.block _ (tk_lt h.ht) (by omega)).trans h.ht, (h2.block _ (tk_lt h.hr) (by omega)).trans h.hr, h1, h3, h.old⟩
theorem Nf.set1 {k i o : Int} {c : Value} {p : Pth} {bd : Nat} {d : Value} {s : Bool} (h : Nf w W rb v L b nb (ncells k i o c p bd d s)) (x : Int) : Nf w (W.setCell ⟨nb, 1, none⟩ (.int .i64 x)) rb v L b nb (ncells k x o c p bd d s) := h.set 1 _
theorem Nf.set2 {k i o : Int} {c : Value} {p : Pth} {bd : Nat} {d : Value} {s : Bool} (h : Nf w W rb v L b nb (ncells k i o c p bd d s)) (x : Int) : Nf w (W.setCell ⟨nb, 2, none⟩ (.int .i64 x)) rb v L b nb (ncells k i x c p bd d s) := h.set 2 _
theorem Nf.set3 {k i o : Int} {c : Value} {p : Pth} {bd : Nat} {d : Value} {s : Bool} (h : Nf w W rb v L b nb (ncells k i o c p bd d s)) (x : Value) : Nf w (W.setCell ⟨nb, 3, none⟩ x) rb v L b nb (ncells k i o x p bd d s) := h.set 3 _
theorem Nf.set4 {k i o : Int} {c : Value} {p : Pth} {bd : Nat} {d : Value} {s : Bool} (h : Nf w W rb v L b nb (ncells k i o c p bd d s)) (x : Pth) : Nf w (((W.setCell ⟨nb, 4, none⟩ (.int .u64 (x.1 : Nat))).setCell ⟨nb, 5, none⟩ (.int .u64 (x.2.1 : Nat))).setCell ⟨nb, 6, none⟩ (.int .u64 (x.2.2 : Nat))) rb v L b nb (ncells k i o c x bd d s) := ((h.set 4 _).set 5 _).set 6 _
theorem Nf.set7 {k i o : Int} {c : Value} {p : Pth} {bd : Nat} {d : Value} {s : Bool} (h : Nf w W rb v L b nb (ncells k i o c p bd d s)) (x : Nat) : Nf w (W.setCell ⟨nb, 7, none⟩ (.int .u64 (x : Nat))) rb v L b nb (ncells k i o c p x d s) := h.set 7 _
theorem Nf.set8 {k i o : Int} {c : Value} {p : Pth} {bd : Nat} {d : Value} {s : Bool} (h : Nf w W rb v L b nb (ncells k i o c p bd d s)) (x : Value) : Nf w (W.setCell ⟨nb, 8, none⟩ x) rb v L b nb (ncells k i o c p bd x s) := h.set 8 _
theorem Nf.set9 {k i o : Int} {c : Value} {p : Pth} {bd : Nat} {d : Value} {s : Bool} (h : Nf w W rb v L b nb (ncells k i o c p bd d s)) (x : Bool) : Nf w (W.setCell ⟨nb, 9, none⟩ (.bool x)) rb v L b nb (ncells k i o c p bd d x) := h.set 9 _
theorem Nf.call (h : Nf w W rb v L b nb cs) {b' : Nat} (hr : Rd W' rb v L b' 0) (hk : Kp (fun k => k = rb) W W') : Nf w W' rb v L b' nb cs := by
  have h3 := h.lt
  have h4 := h.old.1
  exact ⟨hr, h.kp.trans hk (fun j hj e => e), (hk.block _ (tk_lt h.ht) (by omega)).trans h.ht, (hk.block _ (tk_lt h.hr) (by omega)).trans h.hr, (hk.block _ (tk_lt h.hn) (by omega)).trans h.hn, h3, h.old⟩
theorem Nf.facts (h : Nf w W rb v L b nb cs) : (W.cell? ⟨w.heap.size, 0, none⟩ = some (.pointer (some ⟨rb, 0, none⟩)) ∧ w.heap.size < W.heap.size) ∧ ((∀ i, W.cell? ⟨nb, i, none⟩ = cs[i]?) ∧ (∀ i, W.frozen? ⟨nb, i, none⟩ = false) ∧ nb < W.heap.size) ∧ ((∀ i, W.cell? ⟨w.heap.size + 1, i, none⟩ = (ncells 0 0 0 (.slice none 0 0) (0, 0, 0) 0 (.slice none 0 0) false)[i]?) ∧ (∀ i, W.frozen? ⟨w.heap.size + 1, i, none⟩ = false) ∧ w.heap.size + 1 < W.heap.size) ∧ ¬ nb = w.heap.size ∧ ¬ nb = w.heap.size + 1 :=
  ⟨⟨tk_cell h.ht, tk_lt h.ht⟩, ⟨(tk_store h.hn).1, (tk_store h.hn).2, tk_lt h.hn⟩, ⟨(tk_store h.hr).1, (tk_store h.hr).2, tk_lt h.hr⟩, by have := h.lt; omega, by have := h.lt; omega⟩
/-- Its end: the node is stored where the result lies. -/
theorem Nf.end (h : Nf w W rb v L b nb cs) {cs' : Array Value} (hk : Kp (fun k => k = w.heap.size + 1) W W') (_hb : W'.heap[w.heap.size + 1]? = some (.cells cs' 67 (0, 0))) : Rd W' rb v L b 0 ∧ Kp (fun k => k = rb) w W' := by
  have h4 := h.old.1
  exact ⟨h.rd.kp hk (by omega) (fun k hk e => by have := h.old.2 k hk; omega), h.kp.trans hk (fun j hj e => by omega)⟩
end
theorem fill10 {w : World} {b : Nat} {t : TypeId} {z0 z1 z2 z3 z4 z5 z6 z7 z8 z9 : Value} (h : w.heap[b]? = some (.cells #[z0, z1, z2, z3, z4, z5, z6, z7, z8, z9] t (0, 0))) (x0 x1 x2 x3 x4 x5 x6 x7 x8 x9 : Value) : ((((((((((w.setCell ⟨b, 0, none⟩ x0).setCell ⟨b, 1, none⟩ x1).setCell ⟨b, 2, none⟩ x2).setCell ⟨b, 3, none⟩ x3).setCell ⟨b, 4, none⟩ x4).setCell ⟨b, 5, none⟩ x5).setCell ⟨b, 6, none⟩ x6).setCell ⟨b, 7, none⟩ x7).setCell ⟨b, 8, none⟩ x8).setCell ⟨b, 9, none⟩ x9).heap[b]? = some (.cells #[x0, x1, x2, x3, x4, x5, x6, x7, x8, x9] t (0, 0)) ∧ Kp (fun k => k = b) w ((((((((((w.setCell ⟨b, 0, none⟩ x0).setCell ⟨b, 1, none⟩ x1).setCell ⟨b, 2, none⟩ x2).setCell ⟨b, 3, none⟩ x3).setCell ⟨b, 4, none⟩ x4).setCell ⟨b, 5, none⟩ x5).setCell ⟨b, 6, none⟩ x6).setCell ⟨b, 7, none⟩ x7).setCell ⟨b, 8, none⟩ x8).setCell ⟨b, 9, none⟩ x9) := by
  have s0 : (w.setCell ⟨b, 0, none⟩ x0).heap[b]? = some (.cells #[x0, z1, z2, z3, z4, z5, z6, z7, z8, z9] t (0, 0)) ∧ Kp (fun k => k = b) w (w.setCell ⟨b, 0, none⟩ x0) := tk_set h 0 x0
  have s1 : ((w.setCell ⟨b, 0, none⟩ x0).setCell ⟨b, 1, none⟩ x1).heap[b]? = some (.cells #[x0, x1, z2, z3, z4, z5, z6, z7, z8, z9] t (0, 0)) ∧ Kp (fun k => k = b) (w.setCell ⟨b, 0, none⟩ x0) ((w.setCell ⟨b, 0, none⟩ x0).setCell ⟨b, 1, none⟩ x1) := tk_set s0.1 1 x1
  have s2 : (((w.setCell ⟨b, 0, none⟩ x0).setCell ⟨b, 1, none⟩ x1).setCell ⟨b, 2, none⟩ x2).heap[b]? = some (.cells #[x0, x1, x2, z3, z4, z5, z6, z7, z8, z9] t (0, 0)) ∧ Kp (fun k => k = b) ((w.setCell ⟨b, 0, none⟩ x0).setCell ⟨b, 1, none⟩ x1) (((w.setCell ⟨b, 0, none⟩ x0).setCell ⟨b, 1, none⟩ x1).setCell ⟨b, 2, none⟩ x2) := tk_set s1.1 2 x2
  have s3 : ((((w.setCell ⟨b, 0, none⟩ x0).setCell ⟨b, 1, none⟩ x1).setCell ⟨b, 2, none⟩ x2).setCell ⟨b, 3, none⟩ x3).heap[b]? = some (.cells #[x0, x1, x2, x3, z4, z5, z6, z7, z8, z9] t (0, 0)) ∧ Kp (fun k => k = b) (((w.setCell ⟨b, 0, none⟩ x0).setCell ⟨b, 1, none⟩ x1).setCell ⟨b, 2, none⟩ x2) ((((w.setCell ⟨b, 0, none⟩ x0).setCell ⟨b, 1, none⟩ x1).setCell ⟨b, 2, none⟩ x2).setCell ⟨b, 3, none⟩ x3) := tk_set s2.1 3 x3
  have s4 : (((((w.setCell ⟨b, 0, none⟩ x0).setCell ⟨b, 1, none⟩ x1).setCell ⟨b, 2, none⟩ x2).setCell ⟨b, 3, none⟩ x3).setCell ⟨b, 4, none⟩ x4).heap[b]? = some (.cells #[x0, x1, x2, x3, x4, z5, z6, z7, z8, z9] t (0, 0)) ∧ Kp (fun k => k = b) ((((w.setCell ⟨b, 0, none⟩ x0).setCell ⟨b, 1, none⟩ x1).setCell ⟨b, 2, none⟩ x2).setCell ⟨b, 3, none⟩ x3) (((((w.setCell ⟨b, 0, none⟩ x0).setCell ⟨b, 1, none⟩ x1).setCell ⟨b, 2, none⟩ x2).setCell ⟨b, 3, none⟩ x3).setCell ⟨b, 4, none⟩ x4) := tk_set s3.1 4 x4
  have s5 : ((((((w.setCell ⟨b, 0, none⟩ x0).setCell ⟨b, 1, none⟩ x1).setCell ⟨b, 2, none⟩ x2).setCell ⟨b, 3, none⟩ x3).setCell ⟨b, 4, none⟩ x4).setCell ⟨b, 5, none⟩ x5).heap[b]? = some (.cells #[x0, x1, x2, x3, x4, x5, z6, z7, z8, z9] t (0, 0)) ∧ Kp (fun k => k = b) (((((w.setCell ⟨b, 0, none⟩ x0).setCell ⟨b, 1, none⟩ x1).setCell ⟨b, 2, none⟩ x2).setCell ⟨b, 3, none⟩ x3).setCell ⟨b, 4, none⟩ x4) ((((((w.setCell ⟨b, 0, none⟩ x0).setCell ⟨b, 1, none⟩ x1).setCell ⟨b, 2, none⟩ x2).setCell ⟨b, 3, none⟩ x3).setCell ⟨b, 4, none⟩ x4).setCell ⟨b, 5, none⟩ x5) := tk_set s4.1 5 x5
  have s6 : (((((((w.setCell ⟨b, 0, none⟩ x0).setCell ⟨b, 1, none⟩ x1).setCell ⟨b, 2, none⟩ x2).setCell ⟨b, 3, none⟩ x3).setCell ⟨b, 4, none⟩ x4).setCell ⟨b, 5, none⟩ x5).setCell ⟨b, 6, none⟩ x6).heap[b]? = some (.cells #[x0, x1, x2, x3, x4, x5, x6, z7, z8, z9] t (0, 0)) ∧ Kp (fun k => k = b) ((((((w.setCell ⟨b, 0, none⟩ x0).setCell ⟨b, 1, none⟩ x1).setCell ⟨b, 2, none⟩ x2).setCell ⟨b, 3, none⟩ x3).setCell ⟨b, 4, none⟩ x4).setCell ⟨b, 5, none⟩ x5) (((((((w.setCell ⟨b, 0, none⟩ x0).setCell ⟨b, 1, none⟩ x1).setCell ⟨b, 2, none⟩ x2).setCell ⟨b, 3, none⟩ x3).setCell ⟨b, 4, none⟩ x4).setCell ⟨b, 5, none⟩ x5).setCell ⟨b, 6, none⟩ x6) := tk_set s5.1 6 x6
  have s7 : ((((((((w.setCell ⟨b, 0, none⟩ x0).setCell ⟨b, 1, none⟩ x1).setCell ⟨b, 2, none⟩ x2).setCell ⟨b, 3, none⟩ x3).setCell ⟨b, 4, none⟩ x4).setCell ⟨b, 5, none⟩ x5).setCell ⟨b, 6, none⟩ x6).setCell ⟨b, 7, none⟩ x7).heap[b]? = some (.cells #[x0, x1, x2, x3, x4, x5, x6, x7, z8, z9] t (0, 0)) ∧ Kp (fun k => k = b) (((((((w.setCell ⟨b, 0, none⟩ x0).setCell ⟨b, 1, none⟩ x1).setCell ⟨b, 2, none⟩ x2).setCell ⟨b, 3, none⟩ x3).setCell ⟨b, 4, none⟩ x4).setCell ⟨b, 5, none⟩ x5).setCell ⟨b, 6, none⟩ x6) ((((((((w.setCell ⟨b, 0, none⟩ x0).setCell ⟨b, 1, none⟩ x1).setCell ⟨b, 2, none⟩ x2).setCell ⟨b, 3, none⟩ x3).setCell ⟨b, 4, none⟩ x4).setCell ⟨b, 5, none⟩ x5).setCell ⟨b, 6, none⟩ x6).setCell ⟨b, 7, none⟩ x7) := tk_set s6.1 7 x7
  have s8 : (((((((((w.setCell ⟨b, 0, none⟩ x0).setCell ⟨b, 1, none⟩ x1).setCell ⟨b, 2, none⟩ x2).setCell ⟨b, 3, none⟩ x3).setCell ⟨b, 4, none⟩ x4).setCell ⟨b, 5, none⟩ x5).setCell ⟨b, 6, none⟩ x6).setCell ⟨b, 7, none⟩ x7).setCell ⟨b, 8, none⟩ x8).heap[b]? = some (.cells #[x0, x1, x2, x3, x4, x5, x6, x7, x8, z9] t (0, 0)) ∧ Kp (fun k => k = b) ((((((((w.setCell ⟨b, 0, none⟩ x0).setCell ⟨b, 1, none⟩ x1).setCell ⟨b, 2, none⟩ x2).setCell ⟨b, 3, none⟩ x3).setCell ⟨b, 4, none⟩ x4).setCell ⟨b, 5, none⟩ x5).setCell ⟨b, 6, none⟩ x6).setCell ⟨b, 7, none⟩ x7) (((((((((w.setCell ⟨b, 0, none⟩ x0).setCell ⟨b, 1, none⟩ x1).setCell ⟨b, 2, none⟩ x2).setCell ⟨b, 3, none⟩ x3).setCell ⟨b, 4, none⟩ x4).setCell ⟨b, 5, none⟩ x5).setCell ⟨b, 6, none⟩ x6).setCell ⟨b, 7, none⟩ x7).setCell ⟨b, 8, none⟩ x8) := tk_set s7.1 8 x8
  have s9 : ((((((((((w.setCell ⟨b, 0, none⟩ x0).setCell ⟨b, 1, none⟩ x1).setCell ⟨b, 2, none⟩ x2).setCell ⟨b, 3, none⟩ x3).setCell ⟨b, 4, none⟩ x4).setCell ⟨b, 5, none⟩ x5).setCell ⟨b, 6, none⟩ x6).setCell ⟨b, 7, none⟩ x7).setCell ⟨b, 8, none⟩ x8).setCell ⟨b, 9, none⟩ x9).heap[b]? = some (.cells #[x0, x1, x2, x3, x4, x5, x6, x7, x8, x9] t (0, 0)) ∧ Kp (fun k => k = b) (((((((((w.setCell ⟨b, 0, none⟩ x0).setCell ⟨b, 1, none⟩ x1).setCell ⟨b, 2, none⟩ x2).setCell ⟨b, 3, none⟩ x3).setCell ⟨b, 4, none⟩ x4).setCell ⟨b, 5, none⟩ x5).setCell ⟨b, 6, none⟩ x6).setCell ⟨b, 7, none⟩ x7).setCell ⟨b, 8, none⟩ x8) ((((((((((w.setCell ⟨b, 0, none⟩ x0).setCell ⟨b, 1, none⟩ x1).setCell ⟨b, 2, none⟩ x2).setCell ⟨b, 3, none⟩ x3).setCell ⟨b, 4, none⟩ x4).setCell ⟨b, 5, none⟩ x5).setCell ⟨b, 6, none⟩ x6).setCell ⟨b, 7, none⟩ x7).setCell ⟨b, 8, none⟩ x8).setCell ⟨b, 9, none⟩ x9) := tk_set s8.1 9 x9
  exact ⟨s9.1, (((((((((s0.2.trans s1.2 (fun _ _ h => h)).trans s2.2 (fun _ _ h => h)).trans s3.2 (fun _ _ h => h)).trans s4.2 (fun _ _ h => h)).trans s5.2 (fun _ _ h => h)).trans s6.2 (fun _ _ h => h)).trans s7.2 (fun _ _ h => h)).trans s8.2 (fun _ _ h => h)).trans s9.2 (fun _ _ h => h))⟩
theorem owns_far {w w' : World} {B j E n : Nat} {T : TypeId} {u : Value} {xs : List Value} (O : w.ownsRow B T E u n xs) (hk : Kp (fun k => k = j) w w') (h : j < B) : w'.ownsRow B T E u n xs := owns_kp hk O (fun k hk' e => by have := (owns_rd O k hk').1; omega)
theorem pb1 : pbody 1 = Pa.ret ⟨1, 0, 1, [], (0, 0, 0), 0, [], false⟩ := rfl
theorem pb7 : pbody 7 = Pa.ret ⟨7, 1, 0, [], (0, 0, 0), 0, [], false⟩ := rfl
theorem pb6 : pbody 6 = Pa.ret ⟨6, 1, 1, [], (0, 0, 0), 0, [], false⟩ := rfl
theorem pb2 : pbody 2 = (lst 16 popd).map fun l => ⟨2, 1, 1, l, (0, 0, 0), 0, [], false⟩ := rfl
theorem pb3 : pbody 3 = (lst 16 popd).map fun l => ⟨3, 1, 1, l, (0, 0, 0), 0, [], false⟩ := rfl
theorem pb4 : pbody 4 = int.map fun n => ⟨4, n, 1, [], (0, 0, 0), 0, [], false⟩ := rfl
theorem pb5 : pbody 5 = (any.and ppth).map fun z => ⟨5, 1, 1, [], z.2, z.1, [], false⟩ := rfl
theorem pb8 : pbody 8 = (truth.and ((lst 16 pcon).and (int.and int))).map fun z => ⟨8, z.2.2.2, z.2.2.1, [], (0, 0, 0), 0, z.2.1, z.1⟩ := rfl
set_option maxHeartbeats 4000000 in
theorem tnode_any {rb a : Nat} {v : Value} {L : List UInt8} (w : World) (hR : Rd w rb v L a 0) : Calls Try.prog 47 #[tv rb] w (Tk pnod (VN w.heap.size) rb v L a w) := by
  have hmf : ∀ (fn : Fn) (first cap : Array Value) (w : World), (Instr.makeFunc fn first cap).run Try.prog w = .ok (.func fn first cap) w := fun _ _ _ _ => rfl
  have HB : Hid (rb < w.heap.size ∧ ∀ k, v.ownBlock = some k → k < w.heap.size) := ⟨hR.lt, hR.ls.blk⟩
  have hki := fun W (hg : Gr w W) => tkind_any W (hR.gr hg)
  have hle := hR.le
  clear hR
  go_enter Try.func47, Try.ntmps47
  go_wp2_with fail
  go_at_call 70
  refine (hki _ (((Gr.refl _).alloc _).alloc _)).mono ?_
  intro r w4 h4
  cases e4 : pkind L a with
  | inl x =>
    obtain ⟨rfl, k4⟩ := h4.bad e4
    go_wp2_with fail
    exact ⟨rfl, Tk.no (by simp only [pnod, Pa.bind, e4]) (kp_then (((Gr.refl w).alloc _).alloc _) k4)⟩
  | inr x =>
    obtain ⟨u, rfl, rfl, r4, k4⟩ := h4.good e4
    obtain ⟨k, b⟩ := x
    obtain ⟨hk1, hk8⟩ := (fits_kind.back L a k b hle e4).1
    have hn4 : w4.heap.size ≥ w.heap.size + 2 := by have := k4.size; simp at this; omega
    obtain ⟨W, hW⟩ : ∃ W, W = w4.alloc (.cells (ncells k 0 0 (.slice none 0 0) (0, 0, 0) 0 (.slice none 0 0) false) 67) := ⟨_, rfl⟩
    have F0 : Hid (Nf w W rb v L b w4.heap.size (ncells k 0 0 (.slice none 0 0) (0, 0, 0) 0 (.slice none 0 0) false)) := by
      have g4 : Gr w4 W := by rw [hW]; exact (Gr.refl _).alloc _
      have hrb := HB.out.1
      refine ⟨r4.gr g4, kp_gr (kp_then (((Gr.refl w).alloc _).alloc _) k4) g4, ?_, ?_, by rw [hW]; exact heap_new' _ _, by omega, HB.out⟩
      · rw [g4.below.block _ (by omega), k4.block _ (by simp; omega) (by omega)]
        exact new1 w _ _
      · rw [g4.below.block _ (by omega), k4.block _ (by simp) (by omega)]
        exact new2 w _ _
    have PN : Hid (pnod L a = pbody k L b) := by show pnod L a = _; simp only [pnod, Pa.bind, e4]
    clear h4 k4 r4 e4 hki
    have how := fun W => own_any k W
    have hk : k = 1 ∨ k = 2 ∨ k = 3 ∨ k = 4 ∨ k = 5 ∨ k = 6 ∨ k = 7 ∨ k = 8 := by omega
    clear hk1 hk8
    have hW' : Hid (w4.alloc (.cells #[.int .i64 (k : Nat), .int .i64 0, .int .i64 0, .slice none 0 0, .int .u64 0, .int .u64 0, .int .u64 0, .int .u64 0, .slice none 0 0, .bool false] 67) = W) := hW.symm
    clear hW
    go_wp2_with fail
    rw [hW'.out]
    clear hW' hn4
    rcases hk with rfl | rfl | rfl | rfl | rfl | rfl | rfl | rfl
    · have how := how W
      rw [show own ((1 : Nat) : Int) = (0, 1) from by decide] at how
      refine how.mono ?_
      rintro r w5 ⟨rfl, rfl⟩
      have F1 := (F0.out.set1 (0)).set2 (1)
      obtain ⟨⟨c0, l0⟩, ⟨cn, fn, ln⟩, ⟨cr, fr, lr⟩, n0, n1⟩ := F0.out.facts
      have hlt := F1.lt
      have hrb := HB.out.1
      have hn1 := hid F1.hn
      go_wp2_with fail
      obtain ⟨wf, hwf⟩ : ∃ wf, wf = ((((((((((((w5.setCell ⟨w4.heap.size, 1, none⟩ (.int .i64 0)).setCell ⟨w4.heap.size, 2, none⟩ (.int .i64 1)).setCell ⟨w.heap.size + 1, 0, none⟩ (.int .i64 1)).setCell ⟨w.heap.size + 1, 1, none⟩ (.int .i64 0)).setCell ⟨w.heap.size + 1, 2, none⟩ (.int .i64 1)).setCell ⟨w.heap.size + 1, 3, none⟩ (.slice none 0 0)).setCell ⟨w.heap.size + 1, 4, none⟩ (.int .u64 0)).setCell ⟨w.heap.size + 1, 5, none⟩ (.int .u64 0)).setCell ⟨w.heap.size + 1, 6, none⟩ (.int .u64 0)).setCell ⟨w.heap.size + 1, 7, none⟩ (.int .u64 0)).setCell ⟨w.heap.size + 1, 8, none⟩ (.slice none 0 0)).setCell ⟨w.heap.size + 1, 9, none⟩ (.bool false)) := ⟨_, rfl⟩
      rw [← hwf]
      obtain ⟨hbf, hkf⟩ : wf.heap[w.heap.size + 1]? = some (.cells #[.int .i64 1, .int .i64 0, .int .i64 1, .slice none 0 0, .int .u64 0, .int .u64 0, .int .u64 0, .int .u64 0, .slice none 0 0, .bool false] 67 (0, 0)) ∧ Kp (fun k => k = w.heap.size + 1) ((w5.setCell ⟨w4.heap.size, 1, none⟩ (.int .i64 0)).setCell ⟨w4.heap.size, 2, none⟩ (.int .i64 1)) wf := by
        rw [hwf]
        exact fill10 F1.hr _ _ _ _ _ _ _ _ _ _
      clear hwf
      obtain ⟨qf, -⟩ := tk_store hbf
      have hlf := tk_lt hbf
      have he := F1.end hkf hbf
      refine bodyPost_ret (v := .agg #[.int .i64 1, .int .i64 0, .int .i64 1, .slice none 0 0, .int .u64 0, .int .u64 0, .int .u64 0, .int .u64 0, .slice none 0 0, .bool false]) (by simp [results, Try.results47, go_sem, qf]) rfl ?_
      exact Tk.yes (x := ⟨1, 0, 1, [], (0, 0, 0), 0, [], false⟩) (by rw [PN.out, pb1]; simp only [Pa.ret]) he.2 he.1 ⟨⟨⟨1, 0, 1, [], (0, 0, 0), 0, [], false⟩, none, 0, 0, none, 0, 0⟩, rfl, rfl, ⟨World.ownsRow_nil _ _ _ _, World.ownsRow_nil _ _ _ _, fun k hk => by simp [Value.ownBlock] at hk⟩⟩
    · have how := how W
      rw [show own ((2 : Nat) : Int) = (1, 1) from by decide] at how
      refine how.mono ?_
      rintro r w5 ⟨rfl, rfl⟩
      have F1 := (F0.out.set1 (1)).set2 (1)
      obtain ⟨⟨c0, l0⟩, ⟨cn, fn, ln⟩, ⟨cr, fr, lr⟩, n0, n1⟩ := F0.out.facts
      have hlt := F1.lt
      have hrb := HB.out.1
      have hn1 := hid F1.hn
      go_wp2_with fail
      refine (topl_any 16 (by decide) _ F1.rd).mono ?_
      intro r w6 h6
      cases e6 : lst 16 popd L b with
      | inl y =>
        obtain ⟨rfl, kk⟩ := h6.bad e6
        go_wp2_with fail
        exact ⟨rfl, Tk.no (by rw [PN.out, pb2]; simp only [Pa.map, e6]) (F1.kp.trans kk (fun _ _ h => h))⟩
      | inr y6 =>
        obtain ⟨u, rfl, oo, r6, kk⟩ := h6.good e6
        obtain ⟨q6, m6, cc6, rfl⟩ := owns_form oo
        obtain ⟨B, hB, O6⟩ : ∃ B, w4.heap.size < B ∧ VL EO 78 B w6 (.slice q6 m6 cc6) y6.1 := ⟨_, tk_lt F1.hn, oo⟩
        clear oo
        have O6 := hid O6
        have F6 : Hid (Nf w w6 rb v L y6.2 w4.heap.size (ncells 2 1 1 (.slice none 0 0) (0, 0, 0) 0 (.slice none 0 0) false)) := F1.call r6 kk
        clear h6 kk r6 c0 l0 cn fn ln cr fr lr n0 n1
        obtain ⟨⟨c0, l0⟩, ⟨cn, fn, ln⟩, ⟨cr, fr, lr⟩, n0, n1⟩ := F6.out.facts
        go_wp2_with fail
        obtain ⟨wf, hwf⟩ : ∃ wf, wf = (((((((((((w6.setCell ⟨w4.heap.size, 3, none⟩ (.slice q6 m6 cc6)).setCell ⟨w.heap.size + 1, 0, none⟩ (.int .i64 2)).setCell ⟨w.heap.size + 1, 1, none⟩ (.int .i64 1)).setCell ⟨w.heap.size + 1, 2, none⟩ (.int .i64 1)).setCell ⟨w.heap.size + 1, 3, none⟩ (.slice q6 m6 cc6)).setCell ⟨w.heap.size + 1, 4, none⟩ (.int .u64 0)).setCell ⟨w.heap.size + 1, 5, none⟩ (.int .u64 0)).setCell ⟨w.heap.size + 1, 6, none⟩ (.int .u64 0)).setCell ⟨w.heap.size + 1, 7, none⟩ (.int .u64 0)).setCell ⟨w.heap.size + 1, 8, none⟩ (.slice none 0 0)).setCell ⟨w.heap.size + 1, 9, none⟩ (.bool false)) := ⟨_, rfl⟩
        rw [← hwf]
        obtain ⟨hbf, hkf⟩ : wf.heap[w.heap.size + 1]? = some (.cells #[.int .i64 2, .int .i64 1, .int .i64 1, .slice q6 m6 cc6, .int .u64 0, .int .u64 0, .int .u64 0, .int .u64 0, .slice none 0 0, .bool false] 67 (0, 0)) ∧ Kp (fun k => k = w.heap.size + 1) (w6.setCell ⟨w4.heap.size, 3, none⟩ (.slice q6 m6 cc6)) wf := by
          rw [hwf]
          exact fill10 (F6.out.set3 (.slice q6 m6 cc6)).hr _ _ _ _ _ _ _ _ _ _
        clear hwf
        obtain ⟨qf, -⟩ := tk_store hbf
        have hlf := tk_lt hbf
        have he := (F6.out.set3 (.slice q6 m6 cc6)).end hkf hbf
        refine bodyPost_ret (v := .agg #[.int .i64 2, .int .i64 1, .int .i64 1, .slice q6 m6 cc6, .int .u64 0, .int .u64 0, .int .u64 0, .int .u64 0, .slice none 0 0, .bool false]) (by simp [results, Try.results47, go_sem, qf]) rfl ?_
        exact Tk.yes (x := ⟨2, 1, 1, y6.1, (0, 0, 0), 0, [], false⟩) (by rw [PN.out, pb2]; simp only [Pa.map, e6]) he.2 he.1 ⟨⟨⟨2, 1, 1, y6.1, (0, 0, 0), 0, [], false⟩, q6, m6, cc6, none, 0, 0⟩, rfl, rfl, ⟨owns_base (owns_far (owns_far O6.out (tk_set F6.out.hn 3 (.slice q6 m6 cc6)).2 hB) hkf (by omega)) (by omega), World.ownsRow_nil _ _ _ _, fun k _ hk => by simp [Value.ownBlock] at hk⟩⟩
    · have how := how W
      rw [show own ((3 : Nat) : Int) = (1, 1) from by decide] at how
      refine how.mono ?_
      rintro r w5 ⟨rfl, rfl⟩
      have F1 := (F0.out.set1 (1)).set2 (1)
      obtain ⟨⟨c0, l0⟩, ⟨cn, fn, ln⟩, ⟨cr, fr, lr⟩, n0, n1⟩ := F0.out.facts
      have hlt := F1.lt
      have hrb := HB.out.1
      have hn1 := hid F1.hn
      go_wp2_with fail
      refine (topl_any 16 (by decide) _ F1.rd).mono ?_
      intro r w6 h6
      cases e6 : lst 16 popd L b with
      | inl y =>
        obtain ⟨rfl, kk⟩ := h6.bad e6
        go_wp2_with fail
        exact ⟨rfl, Tk.no (by rw [PN.out, pb3]; simp only [Pa.map, e6]) (F1.kp.trans kk (fun _ _ h => h))⟩
      | inr y6 =>
        obtain ⟨u, rfl, oo, r6, kk⟩ := h6.good e6
        obtain ⟨q6, m6, cc6, rfl⟩ := owns_form oo
        obtain ⟨B, hB, O6⟩ : ∃ B, w4.heap.size < B ∧ VL EO 78 B w6 (.slice q6 m6 cc6) y6.1 := ⟨_, tk_lt F1.hn, oo⟩
        clear oo
        have O6 := hid O6
        have F6 : Hid (Nf w w6 rb v L y6.2 w4.heap.size (ncells 3 1 1 (.slice none 0 0) (0, 0, 0) 0 (.slice none 0 0) false)) := F1.call r6 kk
        clear h6 kk r6 c0 l0 cn fn ln cr fr lr n0 n1
        obtain ⟨⟨c0, l0⟩, ⟨cn, fn, ln⟩, ⟨cr, fr, lr⟩, n0, n1⟩ := F6.out.facts
        go_wp2_with fail
        obtain ⟨wf, hwf⟩ : ∃ wf, wf = (((((((((((w6.setCell ⟨w4.heap.size, 3, none⟩ (.slice q6 m6 cc6)).setCell ⟨w.heap.size + 1, 0, none⟩ (.int .i64 3)).setCell ⟨w.heap.size + 1, 1, none⟩ (.int .i64 1)).setCell ⟨w.heap.size + 1, 2, none⟩ (.int .i64 1)).setCell ⟨w.heap.size + 1, 3, none⟩ (.slice q6 m6 cc6)).setCell ⟨w.heap.size + 1, 4, none⟩ (.int .u64 0)).setCell ⟨w.heap.size + 1, 5, none⟩ (.int .u64 0)).setCell ⟨w.heap.size + 1, 6, none⟩ (.int .u64 0)).setCell ⟨w.heap.size + 1, 7, none⟩ (.int .u64 0)).setCell ⟨w.heap.size + 1, 8, none⟩ (.slice none 0 0)).setCell ⟨w.heap.size + 1, 9, none⟩ (.bool false)) := ⟨_, rfl⟩
        rw [← hwf]
        obtain ⟨hbf, hkf⟩ : wf.heap[w.heap.size + 1]? = some (.cells #[.int .i64 3, .int .i64 1, .int .i64 1, .slice q6 m6 cc6, .int .u64 0, .int .u64 0, .int .u64 0, .int .u64 0, .slice none 0 0, .bool false] 67 (0, 0)) ∧ Kp (fun k => k = w.heap.size + 1) (w6.setCell ⟨w4.heap.size, 3, none⟩ (.slice q6 m6 cc6)) wf := by
          rw [hwf]
          exact fill10 (F6.out.set3 (.slice q6 m6 cc6)).hr _ _ _ _ _ _ _ _ _ _
        clear hwf
        obtain ⟨qf, -⟩ := tk_store hbf
        have hlf := tk_lt hbf
        have he := (F6.out.set3 (.slice q6 m6 cc6)).end hkf hbf
        refine bodyPost_ret (v := .agg #[.int .i64 3, .int .i64 1, .int .i64 1, .slice q6 m6 cc6, .int .u64 0, .int .u64 0, .int .u64 0, .int .u64 0, .slice none 0 0, .bool false]) (by simp [results, Try.results47, go_sem, qf]) rfl ?_
        exact Tk.yes (x := ⟨3, 1, 1, y6.1, (0, 0, 0), 0, [], false⟩) (by rw [PN.out, pb3]; simp only [Pa.map, e6]) he.2 he.1 ⟨⟨⟨3, 1, 1, y6.1, (0, 0, 0), 0, [], false⟩, q6, m6, cc6, none, 0, 0⟩, rfl, rfl, ⟨owns_base (owns_far (owns_far O6.out (tk_set F6.out.hn 3 (.slice q6 m6 cc6)).2 hB) hkf (by omega)) (by omega), World.ownsRow_nil _ _ _ _, fun k _ hk => by simp [Value.ownBlock] at hk⟩⟩
    · have how := how W
      rw [show own ((4 : Nat) : Int) = (-1, 1) from by decide] at how
      refine how.mono ?_
      rintro r w5 ⟨rfl, rfl⟩
      have F1 := (F0.out.set1 (-1)).set2 (1)
      obtain ⟨⟨c0, l0⟩, ⟨cn, fn, ln⟩, ⟨cr, fr, lr⟩, n0, n1⟩ := F0.out.facts
      have hlt := F1.lt
      have hrb := HB.out.1
      have hn1 := hid F1.hn
      go_wp2_with fail
      refine (tint_any _ F1.rd).mono ?_
      intro r w6 h6
      cases e6 : int L b with
      | inl y =>
        obtain ⟨rfl, kk⟩ := h6.bad e6
        go_wp2_with fail
        exact ⟨rfl, Tk.no (by rw [PN.out, pb4]; simp only [Pa.map, e6]) (F1.kp.trans kk (fun _ _ h => h))⟩
      | inr y6 =>
        obtain ⟨u, rfl, rfl, r6, kk⟩ := h6.good e6
        have F6 : Hid (Nf w w6 rb v L y6.2 w4.heap.size (ncells 4 (-1) 1 (.slice none 0 0) (0, 0, 0) 0 (.slice none 0 0) false)) := F1.call r6 kk
        clear h6 kk r6 c0 l0 cn fn ln cr fr lr n0 n1
        obtain ⟨⟨c0, l0⟩, ⟨cn, fn, ln⟩, ⟨cr, fr, lr⟩, n0, n1⟩ := F6.out.facts
        go_wp2_with fail
        obtain ⟨wf, hwf⟩ : ∃ wf, wf = (((((((((((w6.setCell ⟨w4.heap.size, 1, none⟩ (.int .i64 y6.1)).setCell ⟨w.heap.size + 1, 0, none⟩ (.int .i64 4)).setCell ⟨w.heap.size + 1, 1, none⟩ (.int .i64 y6.1)).setCell ⟨w.heap.size + 1, 2, none⟩ (.int .i64 1)).setCell ⟨w.heap.size + 1, 3, none⟩ (.slice none 0 0)).setCell ⟨w.heap.size + 1, 4, none⟩ (.int .u64 0)).setCell ⟨w.heap.size + 1, 5, none⟩ (.int .u64 0)).setCell ⟨w.heap.size + 1, 6, none⟩ (.int .u64 0)).setCell ⟨w.heap.size + 1, 7, none⟩ (.int .u64 0)).setCell ⟨w.heap.size + 1, 8, none⟩ (.slice none 0 0)).setCell ⟨w.heap.size + 1, 9, none⟩ (.bool false)) := ⟨_, rfl⟩
        rw [← hwf]
        obtain ⟨hbf, hkf⟩ : wf.heap[w.heap.size + 1]? = some (.cells #[.int .i64 4, .int .i64 y6.1, .int .i64 1, .slice none 0 0, .int .u64 0, .int .u64 0, .int .u64 0, .int .u64 0, .slice none 0 0, .bool false] 67 (0, 0)) ∧ Kp (fun k => k = w.heap.size + 1) (w6.setCell ⟨w4.heap.size, 1, none⟩ (.int .i64 y6.1)) wf := by
          rw [hwf]
          exact fill10 (F6.out.set1 (y6.1)).hr _ _ _ _ _ _ _ _ _ _
        clear hwf
        obtain ⟨qf, -⟩ := tk_store hbf
        have hlf := tk_lt hbf
        have he := (F6.out.set1 (y6.1)).end hkf hbf
        refine bodyPost_ret (v := .agg #[.int .i64 4, .int .i64 y6.1, .int .i64 1, .slice none 0 0, .int .u64 0, .int .u64 0, .int .u64 0, .int .u64 0, .slice none 0 0, .bool false]) (by simp [results, Try.results47, go_sem, qf]) rfl ?_
        exact Tk.yes (x := ⟨4, y6.1, 1, [], (0, 0, 0), 0, [], false⟩) (by rw [PN.out, pb4]; simp only [Pa.map, e6]) he.2 he.1 ⟨⟨⟨4, y6.1, 1, [], (0, 0, 0), 0, [], false⟩, none, 0, 0, none, 0, 0⟩, rfl, rfl, ⟨World.ownsRow_nil _ _ _ _, World.ownsRow_nil _ _ _ _, fun k hk => by simp [Value.ownBlock] at hk⟩⟩
    · have how := how W
      rw [show own ((5 : Nat) : Int) = (1, 1) from by decide] at how
      refine how.mono ?_
      rintro r w5 ⟨rfl, rfl⟩
      have F1 := (F0.out.set1 (1)).set2 (1)
      obtain ⟨⟨c0, l0⟩, ⟨cn, fn, ln⟩, ⟨cr, fr, lr⟩, n0, n1⟩ := F0.out.facts
      have hlt := F1.lt
      have hrb := HB.out.1
      have hn1 := hid F1.hn
      go_wp2_with fail
      refine (tnum_any _ F1.rd).mono ?_
      intro r w6 h6
      cases e6 : any L b with
      | inl y =>
        obtain ⟨rfl, kk⟩ := h6.bad e6
        go_wp2_with fail
        exact ⟨rfl, Tk.no (by rw [PN.out, pb5]; simp only [Pa.map, Pa.and, Pa.bind, e6]) (F1.kp.trans kk (fun _ _ h => h))⟩
      | inr y6 =>
        obtain ⟨u, rfl, rfl, r6, kk⟩ := h6.good e6
        have F6 : Hid (Nf w w6 rb v L y6.2 w4.heap.size (ncells 5 1 1 (.slice none 0 0) (0, 0, 0) 0 (.slice none 0 0) false)) := F1.call r6 kk
        clear h6 kk r6 c0 l0 cn fn ln cr fr lr n0 n1
        obtain ⟨⟨c0, l0⟩, ⟨cn, fn, ln⟩, ⟨cr, fr, lr⟩, n0, n1⟩ := F6.out.facts
        go_wp2_with fail
        refine (tpath_any _ (F6.out.set7 (y6.1)).rd).mono ?_
        intro r w7 h7
        cases e7 : ppth L y6.2 with
        | inl y =>
          obtain ⟨rfl, kk⟩ := h7.bad e7
          go_wp2_with fail
          exact ⟨rfl, Tk.no (by rw [PN.out, pb5]; simp only [Pa.map, Pa.and, Pa.bind, e6, e7]) ((F6.out.set7 (y6.1)).kp.trans kk (fun _ _ h => h))⟩
        | inr y7 =>
          obtain ⟨u, rfl, rfl, r7, kk⟩ := h7.good e7
          have F7 : Hid (Nf w w7 rb v L y7.2 w4.heap.size (ncells 5 1 1 (.slice none 0 0) (0, 0, 0) y6.1 (.slice none 0 0) false)) := (F6.out.set7 (y6.1)).call r7 kk
          clear h7 kk r7 c0 l0 cn fn ln cr fr lr n0 n1
          obtain ⟨⟨c0, l0⟩, ⟨cn, fn, ln⟩, ⟨cr, fr, lr⟩, n0, n1⟩ := F7.out.facts
          go_wp2_with fail
          obtain ⟨wf, hwf⟩ : ∃ wf, wf = (((((((((((((w7.setCell ⟨w4.heap.size, 4, none⟩ (.int .u64 (y7.1.1 : Nat))).setCell ⟨w4.heap.size, 5, none⟩ (.int .u64 (y7.1.2.1 : Nat))).setCell ⟨w4.heap.size, 6, none⟩ (.int .u64 (y7.1.2.2 : Nat))).setCell ⟨w.heap.size + 1, 0, none⟩ (.int .i64 5)).setCell ⟨w.heap.size + 1, 1, none⟩ (.int .i64 1)).setCell ⟨w.heap.size + 1, 2, none⟩ (.int .i64 1)).setCell ⟨w.heap.size + 1, 3, none⟩ (.slice none 0 0)).setCell ⟨w.heap.size + 1, 4, none⟩ (.int .u64 (y7.1.1 : Nat))).setCell ⟨w.heap.size + 1, 5, none⟩ (.int .u64 (y7.1.2.1 : Nat))).setCell ⟨w.heap.size + 1, 6, none⟩ (.int .u64 (y7.1.2.2 : Nat))).setCell ⟨w.heap.size + 1, 7, none⟩ (.int .u64 (y6.1 : Nat))).setCell ⟨w.heap.size + 1, 8, none⟩ (.slice none 0 0)).setCell ⟨w.heap.size + 1, 9, none⟩ (.bool false)) := ⟨_, rfl⟩
          rw [← hwf]
          obtain ⟨hbf, hkf⟩ : wf.heap[w.heap.size + 1]? = some (.cells #[.int .i64 5, .int .i64 1, .int .i64 1, .slice none 0 0, .int .u64 (y7.1.1 : Nat), .int .u64 (y7.1.2.1 : Nat), .int .u64 (y7.1.2.2 : Nat), .int .u64 (y6.1 : Nat), .slice none 0 0, .bool false] 67 (0, 0)) ∧ Kp (fun k => k = w.heap.size + 1) (((w7.setCell ⟨w4.heap.size, 4, none⟩ (.int .u64 (y7.1.1 : Nat))).setCell ⟨w4.heap.size, 5, none⟩ (.int .u64 (y7.1.2.1 : Nat))).setCell ⟨w4.heap.size, 6, none⟩ (.int .u64 (y7.1.2.2 : Nat))) wf := by
            rw [hwf]
            exact fill10 (F7.out.set4 (y7.1)).hr _ _ _ _ _ _ _ _ _ _
          clear hwf
          obtain ⟨qf, -⟩ := tk_store hbf
          have hlf := tk_lt hbf
          have he := (F7.out.set4 (y7.1)).end hkf hbf
          refine bodyPost_ret (v := .agg #[.int .i64 5, .int .i64 1, .int .i64 1, .slice none 0 0, .int .u64 (y7.1.1 : Nat), .int .u64 (y7.1.2.1 : Nat), .int .u64 (y7.1.2.2 : Nat), .int .u64 (y6.1 : Nat), .slice none 0 0, .bool false]) (by simp [results, Try.results47, go_sem, qf]) rfl ?_
          exact Tk.yes (x := ⟨5, 1, 1, [], y7.1, y6.1, [], false⟩) (by rw [PN.out, pb5]; simp only [Pa.map, Pa.and, Pa.bind, e6, e7]) he.2 he.1 ⟨⟨⟨5, 1, 1, [], y7.1, y6.1, [], false⟩, none, 0, 0, none, 0, 0⟩, rfl, rfl, ⟨World.ownsRow_nil _ _ _ _, World.ownsRow_nil _ _ _ _, fun k hk => by simp [Value.ownBlock] at hk⟩⟩
    · have how := how W
      rw [show own ((6 : Nat) : Int) = (1, 1) from by decide] at how
      refine how.mono ?_
      rintro r w5 ⟨rfl, rfl⟩
      have F1 := (F0.out.set1 (1)).set2 (1)
      obtain ⟨⟨c0, l0⟩, ⟨cn, fn, ln⟩, ⟨cr, fr, lr⟩, n0, n1⟩ := F0.out.facts
      have hlt := F1.lt
      have hrb := HB.out.1
      have hn1 := hid F1.hn
      go_wp2_with fail
      obtain ⟨wf, hwf⟩ : ∃ wf, wf = ((((((((((((w5.setCell ⟨w4.heap.size, 1, none⟩ (.int .i64 1)).setCell ⟨w4.heap.size, 2, none⟩ (.int .i64 1)).setCell ⟨w.heap.size + 1, 0, none⟩ (.int .i64 6)).setCell ⟨w.heap.size + 1, 1, none⟩ (.int .i64 1)).setCell ⟨w.heap.size + 1, 2, none⟩ (.int .i64 1)).setCell ⟨w.heap.size + 1, 3, none⟩ (.slice none 0 0)).setCell ⟨w.heap.size + 1, 4, none⟩ (.int .u64 0)).setCell ⟨w.heap.size + 1, 5, none⟩ (.int .u64 0)).setCell ⟨w.heap.size + 1, 6, none⟩ (.int .u64 0)).setCell ⟨w.heap.size + 1, 7, none⟩ (.int .u64 0)).setCell ⟨w.heap.size + 1, 8, none⟩ (.slice none 0 0)).setCell ⟨w.heap.size + 1, 9, none⟩ (.bool false)) := ⟨_, rfl⟩
      rw [← hwf]
      obtain ⟨hbf, hkf⟩ : wf.heap[w.heap.size + 1]? = some (.cells #[.int .i64 6, .int .i64 1, .int .i64 1, .slice none 0 0, .int .u64 0, .int .u64 0, .int .u64 0, .int .u64 0, .slice none 0 0, .bool false] 67 (0, 0)) ∧ Kp (fun k => k = w.heap.size + 1) ((w5.setCell ⟨w4.heap.size, 1, none⟩ (.int .i64 1)).setCell ⟨w4.heap.size, 2, none⟩ (.int .i64 1)) wf := by
        rw [hwf]
        exact fill10 F1.hr _ _ _ _ _ _ _ _ _ _
      clear hwf
      obtain ⟨qf, -⟩ := tk_store hbf
      have hlf := tk_lt hbf
      have he := F1.end hkf hbf
      refine bodyPost_ret (v := .agg #[.int .i64 6, .int .i64 1, .int .i64 1, .slice none 0 0, .int .u64 0, .int .u64 0, .int .u64 0, .int .u64 0, .slice none 0 0, .bool false]) (by simp [results, Try.results47, go_sem, qf]) rfl ?_
      exact Tk.yes (x := ⟨6, 1, 1, [], (0, 0, 0), 0, [], false⟩) (by rw [PN.out, pb6]; simp only [Pa.ret]) he.2 he.1 ⟨⟨⟨6, 1, 1, [], (0, 0, 0), 0, [], false⟩, none, 0, 0, none, 0, 0⟩, rfl, rfl, ⟨World.ownsRow_nil _ _ _ _, World.ownsRow_nil _ _ _ _, fun k hk => by simp [Value.ownBlock] at hk⟩⟩
    · have how := how W
      rw [show own ((7 : Nat) : Int) = (1, 0) from by decide] at how
      refine how.mono ?_
      rintro r w5 ⟨rfl, rfl⟩
      have F1 := (F0.out.set1 (1)).set2 (0)
      obtain ⟨⟨c0, l0⟩, ⟨cn, fn, ln⟩, ⟨cr, fr, lr⟩, n0, n1⟩ := F0.out.facts
      have hlt := F1.lt
      have hrb := HB.out.1
      have hn1 := hid F1.hn
      go_wp2_with fail
      obtain ⟨wf, hwf⟩ : ∃ wf, wf = ((((((((((((w5.setCell ⟨w4.heap.size, 1, none⟩ (.int .i64 1)).setCell ⟨w4.heap.size, 2, none⟩ (.int .i64 0)).setCell ⟨w.heap.size + 1, 0, none⟩ (.int .i64 7)).setCell ⟨w.heap.size + 1, 1, none⟩ (.int .i64 1)).setCell ⟨w.heap.size + 1, 2, none⟩ (.int .i64 0)).setCell ⟨w.heap.size + 1, 3, none⟩ (.slice none 0 0)).setCell ⟨w.heap.size + 1, 4, none⟩ (.int .u64 0)).setCell ⟨w.heap.size + 1, 5, none⟩ (.int .u64 0)).setCell ⟨w.heap.size + 1, 6, none⟩ (.int .u64 0)).setCell ⟨w.heap.size + 1, 7, none⟩ (.int .u64 0)).setCell ⟨w.heap.size + 1, 8, none⟩ (.slice none 0 0)).setCell ⟨w.heap.size + 1, 9, none⟩ (.bool false)) := ⟨_, rfl⟩
      rw [← hwf]
      obtain ⟨hbf, hkf⟩ : wf.heap[w.heap.size + 1]? = some (.cells #[.int .i64 7, .int .i64 1, .int .i64 0, .slice none 0 0, .int .u64 0, .int .u64 0, .int .u64 0, .int .u64 0, .slice none 0 0, .bool false] 67 (0, 0)) ∧ Kp (fun k => k = w.heap.size + 1) ((w5.setCell ⟨w4.heap.size, 1, none⟩ (.int .i64 1)).setCell ⟨w4.heap.size, 2, none⟩ (.int .i64 0)) wf := by
        rw [hwf]
        exact fill10 F1.hr _ _ _ _ _ _ _ _ _ _
      clear hwf
      obtain ⟨qf, -⟩ := tk_store hbf
      have hlf := tk_lt hbf
      have he := F1.end hkf hbf
      refine bodyPost_ret (v := .agg #[.int .i64 7, .int .i64 1, .int .i64 0, .slice none 0 0, .int .u64 0, .int .u64 0, .int .u64 0, .int .u64 0, .slice none 0 0, .bool false]) (by simp [results, Try.results47, go_sem, qf]) rfl ?_
      exact Tk.yes (x := ⟨7, 1, 0, [], (0, 0, 0), 0, [], false⟩) (by rw [PN.out, pb7]; simp only [Pa.ret]) he.2 he.1 ⟨⟨⟨7, 1, 0, [], (0, 0, 0), 0, [], false⟩, none, 0, 0, none, 0, 0⟩, rfl, rfl, ⟨World.ownsRow_nil _ _ _ _, World.ownsRow_nil _ _ _ _, fun k hk => by simp [Value.ownBlock] at hk⟩⟩
    · have how := how W
      rw [show own ((8 : Nat) : Int) = (-1, -1) from by decide] at how
      refine how.mono ?_
      rintro r w5 ⟨rfl, rfl⟩
      have F1 := (F0.out.set1 (-1)).set2 (-1)
      obtain ⟨⟨c0, l0⟩, ⟨cn, fn, ln⟩, ⟨cr, fr, lr⟩, n0, n1⟩ := F0.out.facts
      have hlt := F1.lt
      have hrb := HB.out.1
      have hn1 := hid F1.hn
      go_wp2_with fail
      refine (ttruth_any _ F1.rd).mono ?_
      intro r w6 h6
      cases e6 : truth L b with
      | inl y =>
        obtain ⟨rfl, kk⟩ := h6.bad e6
        go_wp2_with fail
        exact ⟨rfl, Tk.no (by rw [PN.out, pb8]; simp only [Pa.map, Pa.and, Pa.bind, e6]) (F1.kp.trans kk (fun _ _ h => h))⟩
      | inr y6 =>
        obtain ⟨u, rfl, rfl, r6, kk⟩ := h6.good e6
        have F6 : Hid (Nf w w6 rb v L y6.2 w4.heap.size (ncells 8 (-1) (-1) (.slice none 0 0) (0, 0, 0) 0 (.slice none 0 0) false)) := F1.call r6 kk
        clear h6 kk r6 c0 l0 cn fn ln cr fr lr n0 n1
        obtain ⟨⟨c0, l0⟩, ⟨cn, fn, ln⟩, ⟨cr, fr, lr⟩, n0, n1⟩ := F6.out.facts
        go_wp2_with fail
        refine (tconnl_any 16 (by decide) _ (F6.out.set9 (y6.1)).rd).mono ?_
        intro r w7 h7
        cases e7 : lst 16 pcon L y6.2 with
        | inl y =>
          obtain ⟨rfl, kk⟩ := h7.bad e7
          go_wp2_with fail
          exact ⟨rfl, Tk.no (by rw [PN.out, pb8]; simp only [Pa.map, Pa.and, Pa.bind, e6, e7]) ((F6.out.set9 (y6.1)).kp.trans kk (fun _ _ h => h))⟩
        | inr y7 =>
          obtain ⟨u, rfl, oo, r7, kk⟩ := h7.good e7
          obtain ⟨q7, m7, cc7, rfl⟩ := owns_form oo
          obtain ⟨B, hB, O7⟩ : ∃ B, w4.heap.size < B ∧ VL EC 80 B w7 (.slice q7 m7 cc7) y7.1 := ⟨_, tk_lt (F6.out.set9 (y6.1)).hn, oo⟩
          clear oo
          have O7 := hid O7
          have F7 : Hid (Nf w w7 rb v L y7.2 w4.heap.size (ncells 8 (-1) (-1) (.slice none 0 0) (0, 0, 0) 0 (.slice none 0 0) y6.1)) := (F6.out.set9 (y6.1)).call r7 kk
          clear h7 kk r7 c0 l0 cn fn ln cr fr lr n0 n1
          obtain ⟨⟨c0, l0⟩, ⟨cn, fn, ln⟩, ⟨cr, fr, lr⟩, n0, n1⟩ := F7.out.facts
          go_wp2_with fail
          refine (tint_any _ (F7.out.set8 (.slice q7 m7 cc7)).rd).mono ?_
          intro r w8 h8
          cases e8 : int L y7.2 with
          | inl y =>
            obtain ⟨rfl, kk⟩ := h8.bad e8
            go_wp2_with fail
            exact ⟨rfl, Tk.no (by rw [PN.out, pb8]; simp only [Pa.map, Pa.and, Pa.bind, e6, e7, e8]) ((F7.out.set8 (.slice q7 m7 cc7)).kp.trans kk (fun _ _ h => h))⟩
          | inr y8 =>
            obtain ⟨u, rfl, rfl, r8, kk⟩ := h8.good e8
            have O8 := hid (owns_far (owns_far O7.out (tk_set F7.out.hn 8 (.slice q7 m7 cc7)).2 hB) kk (by omega))
            have F8 : Hid (Nf w w8 rb v L y8.2 w4.heap.size (ncells 8 (-1) (-1) (.slice none 0 0) (0, 0, 0) 0 (.slice q7 m7 cc7) y6.1)) := (F7.out.set8 (.slice q7 m7 cc7)).call r8 kk
            clear h8 kk r8 c0 l0 cn fn ln cr fr lr n0 n1
            obtain ⟨⟨c0, l0⟩, ⟨cn, fn, ln⟩, ⟨cr, fr, lr⟩, n0, n1⟩ := F8.out.facts
            go_wp2_with fail
            refine (tint_any _ (F8.out.set2 (y8.1)).rd).mono ?_
            intro r w9 h9
            cases e9 : int L y8.2 with
            | inl y =>
              obtain ⟨rfl, kk⟩ := h9.bad e9
              go_wp2_with fail
              exact ⟨rfl, Tk.no (by rw [PN.out, pb8]; simp only [Pa.map, Pa.and, Pa.bind, e6, e7, e8, e9]) ((F8.out.set2 (y8.1)).kp.trans kk (fun _ _ h => h))⟩
            | inr y9 =>
              obtain ⟨u, rfl, rfl, r9, kk⟩ := h9.good e9
              have O9 := hid (owns_far (owns_far O8.out (tk_set F8.out.hn 2 (.int .i64 y8.1)).2 hB) kk (by omega))
              have F9 : Hid (Nf w w9 rb v L y9.2 w4.heap.size (ncells 8 (-1) y8.1 (.slice none 0 0) (0, 0, 0) 0 (.slice q7 m7 cc7) y6.1)) := (F8.out.set2 (y8.1)).call r9 kk
              clear h9 kk r9 c0 l0 cn fn ln cr fr lr n0 n1
              obtain ⟨⟨c0, l0⟩, ⟨cn, fn, ln⟩, ⟨cr, fr, lr⟩, n0, n1⟩ := F9.out.facts
              go_wp2_with fail
              obtain ⟨wf, hwf⟩ : ∃ wf, wf = (((((((((((w9.setCell ⟨w4.heap.size, 1, none⟩ (.int .i64 y9.1)).setCell ⟨w.heap.size + 1, 0, none⟩ (.int .i64 8)).setCell ⟨w.heap.size + 1, 1, none⟩ (.int .i64 y9.1)).setCell ⟨w.heap.size + 1, 2, none⟩ (.int .i64 y8.1)).setCell ⟨w.heap.size + 1, 3, none⟩ (.slice none 0 0)).setCell ⟨w.heap.size + 1, 4, none⟩ (.int .u64 0)).setCell ⟨w.heap.size + 1, 5, none⟩ (.int .u64 0)).setCell ⟨w.heap.size + 1, 6, none⟩ (.int .u64 0)).setCell ⟨w.heap.size + 1, 7, none⟩ (.int .u64 0)).setCell ⟨w.heap.size + 1, 8, none⟩ (.slice q7 m7 cc7)).setCell ⟨w.heap.size + 1, 9, none⟩ (.bool y6.1)) := ⟨_, rfl⟩
              rw [← hwf]
              obtain ⟨hbf, hkf⟩ : wf.heap[w.heap.size + 1]? = some (.cells #[.int .i64 8, .int .i64 y9.1, .int .i64 y8.1, .slice none 0 0, .int .u64 0, .int .u64 0, .int .u64 0, .int .u64 0, .slice q7 m7 cc7, .bool y6.1] 67 (0, 0)) ∧ Kp (fun k => k = w.heap.size + 1) (w9.setCell ⟨w4.heap.size, 1, none⟩ (.int .i64 y9.1)) wf := by
                rw [hwf]
                exact fill10 (F9.out.set1 (y9.1)).hr _ _ _ _ _ _ _ _ _ _
              clear hwf
              obtain ⟨qf, -⟩ := tk_store hbf
              have hlf := tk_lt hbf
              have he := (F9.out.set1 (y9.1)).end hkf hbf
              refine bodyPost_ret (v := .agg #[.int .i64 8, .int .i64 y9.1, .int .i64 y8.1, .slice none 0 0, .int .u64 0, .int .u64 0, .int .u64 0, .int .u64 0, .slice q7 m7 cc7, .bool y6.1]) (by simp [results, Try.results47, go_sem, qf]) rfl ?_
              exact Tk.yes (x := ⟨8, y9.1, y8.1, [], (0, 0, 0), 0, y7.1, y6.1⟩) (by rw [PN.out, pb8]; simp only [Pa.map, Pa.and, Pa.bind, e6, e7, e8, e9]) he.2 he.1 ⟨⟨⟨8, y9.1, y8.1, [], (0, 0, 0), 0, y7.1, y6.1⟩, none, 0, 0, q7, m7, cc7⟩, rfl, rfl, ⟨World.ownsRow_nil _ _ _ _, owns_base (owns_far (owns_far O9.out (tk_set F9.out.hn 1 (.int .i64 y9.1)).2 hB) hkf (by omega)) (by omega), fun k hk => by simp [Value.ownBlock] at hk⟩⟩
end Go.Proofs.Ytkopmkmfigenlaa.Df
