import Derived.Test.YtdnnfgabdkkdjaaGreatRows
import Derived.Test.YtdnnfgabdkkdjaaGreatLRow
namespace Go.Proofs.YtdnnfgabdkkdjaaGreat.Df
open Go.RowKit Go.Sort
theorem hid {p : Prop} (h : p) : Hid p := h
abbrev Pth := Nat × Nat × Nat
structure Opd where
 kind : Int
 arg : Nat
 deriving DecidableEq
structure Con where
 inn : Int
 out : Int
 via : Pth
 deriving DecidableEq
structure Nod where
 kind : Int
 ins : Int
 outs : Int
 code : List Opd
 via : Pth
 bound : Nat
 conns : List Con
 start : Bool
 deriving DecidableEq
structure Edg where
 src : Int
 out : Int
 dst : Int
 inn : Int
 keyed : Bool
 deriving DecidableEq
structure Gph where
 arity : Int
 nodes : List Nod
 edges : List Edg
 deriving DecidableEq
def I64 (n : Int) : Prop := -9223372036854775808 ≤ n ∧ n ≤ 9223372036854775807
def U64 (n : Nat) : Prop := n ≤ 18446744073709551615
def PthT (p : Pth) : Prop := U64 p.1 ∧ U64 p.2.1 ∧ U64 p.2.2
def OpdT (o : Opd) : Prop := I64 o.kind ∧ U64 o.arg
def ConT (c : Con) : Prop := I64 c.inn ∧ I64 c.out ∧ PthT c.via
def NodT (n : Nod) : Prop := I64 n.kind ∧ I64 n.ins ∧ I64 n.outs ∧ (∀ o ∈ n.code, OpdT o) ∧ PthT n.via ∧ U64 n.bound ∧ ∀ c ∈ n.conns, ConT c
def EdgT (x : Edg) : Prop := I64 x.src ∧ I64 x.out ∧ I64 x.dst ∧ I64 x.inn
def GphT (g : Gph) : Prop := I64 g.arity ∧ (∀ n ∈ g.nodes, NodT n) ∧ ∀ x ∈ g.edges, EdgT x
theorem tk_lt {w : World} {b : Nat} {o : Obj} (h : w.heap[b]? = some o) : b < w.heap.size := (Array.getElem?_eq_some_iff.1 h).1
theorem tk_set {w : World} {b : Nat} {cs : Array Value} {t : TypeId} (h : w.heap[b]? = some (.cells cs t (0, 0))) (i : Nat) (x : Value) : (w.setCell ⟨b, i, none⟩ x).heap[b]? = some (.cells (cs.setIfInBounds i x) t (0, 0)) ∧ Kp (fun k => k = b) w (w.setCell ⟨b, i, none⟩ x) := by
 have e := setCell_eq_setRow w b i _ _ _ x h
 rw [e]
 exact ⟨by rw [setRow_heap w b _ _ _ _ h], rfl, rfl, rfl, by simp [World.setRow], fun k _ hne => setRow_other w b k _ (by omega)⟩
theorem tk_store {w : World} {b : Nat} {cs : Array Value} {t : TypeId} (h : w.heap[b]? = some (.cells cs t (0, 0))) : (∀ i, w.cell? ⟨b, i, none⟩ = cs[i]?) ∧ ∀ i, w.frozen? ⟨b, i, none⟩ = false := by
 refine ⟨fun i => by simp [World.cell?, h], fun i => by simp [World.frozen?, h]⟩
theorem new1 (w : World) (o1 o2 : Obj) : (((w.alloc o1).alloc o2).drew).heap[w.heap.size]? = some o1 := by
 have h := heap_new' w o1
 rw [← h]
 exact ((Gr.refl (w.alloc o1)).alloc o2).drew.below.block w.heap.size (by simp)
theorem new2 (w : World) (o1 o2 : Obj) : (((w.alloc o1).alloc o2).drew).heap[w.heap.size + 1]? = some o2 := by
 have h := heap_new' (w.alloc o1) o2
 rwa [show (w.alloc o1).heap.size = w.heap.size + 1 by simp] at h
theorem owns_rd {E : Nat} {w : World} {base : Nat} {T : TypeId} {u : Value} {n : Nat} {xs : List Value} (h : w.ownsRow base T E u n xs) : ∀ k, u.ownBlock = some k → base ≤ k ∧ k < w.heap.size := fun k hk => h.lt k hk
theorem owns_form {E : Nat} {w : World} {base : Nat} {T : TypeId} {u : Value} {n : Nat} {xs : List Value} (h : w.ownsRow base T E u n xs) : ∃ q m c, u = .slice q m c := by
 obtain ⟨_, ⟨h0, _⟩ | ⟨g', cap', cur, hv, _⟩⟩ := h
 ·exact ⟨_, _, _, h0⟩
 ·exact ⟨_, _, _, hv⟩
def EO : El Opd where
 k := 2
 enc o := [.int .i64 o.kind, .int .u64 (o.arg : Nat)]
 len _ := rfl
 one o u hu := by
  simp at hu
  rcases hu with rfl | rfl <;> rfl
theorem infoO : (Tryz.prog.info? 138).map (fun i => (i.zero, i.size, i.bytes)) = some (some (.agg #[.int .i64 0, .int .u64 0]), 2, 16) := by kernel_rfl
def EC : El Con where
 k := 5
 enc o := [.int .i64 o.inn, .int .i64 o.out, .int .u64 (o.via.1 : Nat), .int .u64 (o.via.2.1 : Nat), .int .u64 (o.via.2.2 : Nat)]
 len _ := rfl
 one o u hu := by
  simp at hu
  rcases hu with rfl | rfl | rfl | rfl | rfl <;> rfl
theorem infoC : (Tryz.prog.info? 92).map (fun i => (i.zero, i.size, i.bytes)) = some (some (.agg #[.int .i64 0, .int .i64 0, .int .u64 0, .int .u64 0, .int .u64 0]), 5, 40) := by kernel_rfl
def ED : El Edg where
 k := 5
 enc o := [.int .i64 o.src, .int .i64 o.out, .int .i64 o.dst, .int .i64 o.inn, .bool o.keyed]
 len _ := rfl
 one o u hu := by
  simp at hu
  rcases hu with rfl | rfl | rfl | rfl | rfl <;> rfl
theorem infoD : (Tryz.prog.info? 94).map (fun i => (i.zero, i.size, i.bytes)) = some (some (.agg #[.int .i64 0, .int .i64 0, .int .i64 0, .int .i64 0, .bool false]), 5, 40) := by kernel_rfl
structure NV where
 n : Nod
 cq : Option Addr
 cm : Nat
 cc : Nat
 dq : Option Addr
 dm : Nat
 dc : Nat
abbrev NV.cv (x : NV) : Value := .slice x.cq x.cm x.cc
abbrev NV.dv (x : NV) : Value := .slice x.dq x.dm x.dc
abbrev ncells (k i o : Int) (c : Value) (p : Pth) (b : Nat) (d : Value) (s : Bool) : Array Value := #[.int .i64 k, .int .i64 i, .int .i64 o, c, .int .u64 (p.1 : Nat), .int .u64 (p.2.1 : Nat), .int .u64 (p.2.2 : Nat), .int .u64 (b : Nat), d, .bool s]
abbrev NV.cells (x : NV) : Array Value := ncells x.n.kind x.n.ins x.n.outs x.cv x.n.via x.n.bound x.dv x.n.start
def EV : El NV where
 k := 10
 enc x := x.cells.toList
 len _ := rfl
 one x u hu := by
  simp at hu
  rcases hu with rfl | rfl | rfl | rfl | rfl | rfl | rfl | rfl | rfl | rfl <;> rfl
theorem infoV : (Tryz.prog.info? 89).map (fun i => (i.zero, i.size, i.bytes)) = some (some (.agg #[.int .i64 0, .int .i64 0, .int .i64 0, .slice none 0 0, .int .u64 0, .int .u64 0, .int .u64 0, .int .u64 0, .slice none 0 0, .bool false]), 10, 112) := by kernel_rfl
abbrev gvc (a : Int) (nv ev : Value) : Array Value := #[.int .i64 a, nv, ev]
theorem new3 (w : World) (o1 o2 o3 : Obj) : (((w.alloc o1).alloc o2).alloc o3).heap[w.heap.size]? = some o1 ∧ (((w.alloc o1).alloc o2).alloc o3).heap[w.heap.size + 1]? = some o2 ∧ (((w.alloc o1).alloc o2).alloc o3).heap[w.heap.size + 2]? = some o3 := by
 have g3 := ((Gr.refl ((w.alloc o1).alloc o2)).alloc o3).below
 refine ⟨?_, ?_, ?_⟩
 ·rw [g3.block w.heap.size (by simp; omega)]
  exact new1 w o1 o2
 ·rw [g3.block (w.heap.size + 1) (by simp)]
  exact new2 w o1 o2
 ·have h := heap_new' ((w.alloc o1).alloc o2) o3
  rwa [show ((w.alloc o1).alloc o2).heap.size = w.heap.size + 2 by simp] at h
theorem fill3 {w : World} {b : Nat} {t : TypeId} {z0 z1 z2 : Value} (h : w.heap[b]? = some (.cells #[z0, z1, z2] t (0, 0))) (x0 x1 x2 : Value) : (((w.setCell ⟨b, 0, none⟩ x0).setCell ⟨b, 1, none⟩ x1).setCell ⟨b, 2, none⟩ x2).heap[b]? = some (.cells #[x0, x1, x2] t (0, 0)) ∧ Kp (fun k => k = b) w (((w.setCell ⟨b, 0, none⟩ x0).setCell ⟨b, 1, none⟩ x1).setCell ⟨b, 2, none⟩ x2) := by
 have s0 : (w.setCell ⟨b, 0, none⟩ x0).heap[b]? = some (.cells #[x0, z1, z2] t (0, 0)) ∧ Kp (fun k => k = b) w (w.setCell ⟨b, 0, none⟩ x0) := tk_set h 0 x0
 have s1 : ((w.setCell ⟨b, 0, none⟩ x0).setCell ⟨b, 1, none⟩ x1).heap[b]? = some (.cells #[x0, x1, z2] t (0, 0)) ∧ Kp (fun k => k = b) (w.setCell ⟨b, 0, none⟩ x0) ((w.setCell ⟨b, 0, none⟩ x0).setCell ⟨b, 1, none⟩ x1) := tk_set s0.1 1 x1
 have s2 := tk_set s1.1 2 x2
 exact ⟨s2.1, (s0.2.trans s1.2 (fun _ _ h => h)).trans s2.2 (fun _ _ h => h)⟩
def Lz {α : Type} (E : El α) (M : Nat) (w : World) (v : Value) (l : List α) : Prop := (Ls E w v l ∧ ∀ k, v.ownBlock = some k → k < M) ∨ (l = [] ∧ ∃ p c, v = .slice p 0 c)
section
variable {α : Type} {E : El α} {M : Nat} {w w' : World} {v : Value} {l : List α}
theorem Lz.form (h : Lz E M w v l) : ∃ p c, v = .slice p l.length c := by
 rcases h with ⟨h, _⟩ | ⟨rfl, p, c, rfl⟩
 ·exact h.form
 ·exact ⟨p, c, rfl⟩
end
section
variable {α : Type} {E : El α} {M : Nat} {w w' : World} {v : Value} {l : List α}
theorem Lz.below (h : Lz E M w v l) (hb : Below w.heap.size w w') : Lz E M w' v l := by
 rcases h with ⟨h, hs⟩ | h
 ·exact Or.inl ⟨h.below hb, hs⟩
 ·exact Or.inr h
end
section
variable {α : Type} {E : El α} {M : Nat} {w w' : World} {v : Value} {l : List α}
theorem Lz.up {M' : Nat} (h : Lz E M w v l) (hM : M ≤ M') : Lz E M' w v l := by
 rcases h with ⟨h, hs⟩ | h
 ·exact Or.inl ⟨h, fun k hk => Nat.lt_of_lt_of_le (hs k hk) hM⟩
 ·exact Or.inr h
end
section
variable {α : Type} {E : El α} {M : Nat} {w w' : World} {v : Value} {l : List α}
theorem Lz.ls (h : Lz E M w v l) {i : Nat} {x : α} (hi : l[i]? = some x) : Ls E w v l := by
 rcases h with ⟨h, _⟩ | ⟨rfl, _⟩
 ·exact h
 ·simp at hi
end
section
variable {α : Type} {E : El α} {M : Nat} {w w' : World} {v : Value} {l : List α}
theorem Lz.nil (E : El α) (M : Nat) (w : World) : Lz E M w (.slice none 0 0) [] := Or.inr ⟨rfl, none, 0, rfl⟩
end
theorem ls_atC {w : World} {v : Value} {ts : List Con} (h : Ls EC w v ts) {j : Nat} {o : Con} (hj : ts[j]? = some o) :
    ∃ b off c, v = .slice (some ⟨b, off, none⟩) ts.length c ∧ b < w.heap.size ∧ w.cell? ⟨b, off + j * 5, none⟩ = some (.int .i64 o.inn) ∧ w.cell? ⟨b, off + j * 5 + 1, none⟩ = some (.int .i64 o.out) ∧ w.cell? ⟨b, off + j * 5 + 2, none⟩ = some (.int .u64 (o.via.1 : Nat)) ∧ w.cell? ⟨b, off + j * 5 + 3, none⟩ = some (.int .u64 (o.via.2.1 : Nat)) ∧ w.cell? ⟨b, off + j * 5 + 4, none⟩ = some (.int .u64 (o.via.2.2 : Nat)) := by
 obtain ⟨b, off, c, hv, hb, hc⟩ := h.get hj
 exact ⟨b, off, c, hv, hb, hc 0 _ (by decide) rfl, hc 1 _ (by decide) rfl, hc 2 _ (by decide) rfl, hc 3 _ (by decide) rfl, hc 4 _ (by decide) rfl⟩
theorem ls_atD {w : World} {v : Value} {ts : List Edg} (h : Ls ED w v ts) {j : Nat} {o : Edg} (hj : ts[j]? = some o) :
    ∃ b off c, v = .slice (some ⟨b, off, none⟩) ts.length c ∧ b < w.heap.size ∧ w.cell? ⟨b, off + j * 5, none⟩ = some (.int .i64 o.src) ∧ w.cell? ⟨b, off + j * 5 + 1, none⟩ = some (.int .i64 o.out) ∧ w.cell? ⟨b, off + j * 5 + 2, none⟩ = some (.int .i64 o.dst) ∧ w.cell? ⟨b, off + j * 5 + 3, none⟩ = some (.int .i64 o.inn) ∧ w.cell? ⟨b, off + j * 5 + 4, none⟩ = some (.bool o.keyed) := by
 obtain ⟨b, off, c, hv, hb, hc⟩ := h.get hj
 exact ⟨b, off, c, hv, hb, hc 0 _ (by decide) rfl, hc 1 _ (by decide) rfl, hc 2 _ (by decide) rfl, hc 3 _ (by decide) rfl, hc 4 _ (by decide) rfl⟩
structure NR (M : Nat) (w : World) (x : NV) : Prop where
 code : Lz EO M w x.cv x.n.code
 conns : Lz EC M w x.dv x.n.conns
theorem ls_atV {w : World} {v : Value} {ts : List NV} (h : Ls EV w v ts) {j : Nat} {x : NV} (hj : ts[j]? = some x) :
    ∃ b off c, v = .slice (some ⟨b, off, none⟩) ts.length c ∧ b < w.heap.size ∧ w.cell? ⟨b, off + j * 10, none⟩ = some (.int .i64 x.n.kind) ∧ w.cell? ⟨b, off + j * 10 + 1, none⟩ = some (.int .i64 x.n.ins) ∧ w.cell? ⟨b, off + j * 10 + 2, none⟩ = some (.int .i64 x.n.outs) ∧ w.cell? ⟨b, off + j * 10 + 3, none⟩ = some x.cv ∧ w.cell? ⟨b, off + j * 10 + 4, none⟩ = some (.int .u64 (x.n.via.1 : Nat)) ∧ w.cell? ⟨b, off + j * 10 + 5, none⟩ = some (.int .u64 (x.n.via.2.1 : Nat)) ∧ w.cell? ⟨b, off + j * 10 + 6, none⟩ = some (.int .u64 (x.n.via.2.2 : Nat)) ∧ w.cell? ⟨b, off + j * 10 + 7, none⟩ = some (.int .u64 (x.n.bound : Nat)) ∧ w.cell? ⟨b, off + j * 10 + 8, none⟩ = some x.dv ∧ w.cell? ⟨b, off + j * 10 + 9, none⟩ = some (.bool x.n.start) := by
 obtain ⟨b, off, c, hv, hb, hc⟩ := h.get hj
 exact ⟨b, off, c, hv, hb, hc 0 _ (by decide) rfl, hc 1 _ (by decide) rfl, hc 2 _ (by decide) rfl, hc 3 _ (by decide) rfl, hc 4 _ (by decide) rfl, hc 5 _ (by decide) rfl, hc 6 _ (by decide) rfl, hc 7 _ (by decide) rfl, hc 8 _ (by decide) rfl, hc 9 _ (by decide) rfl⟩
structure GR (M : Nat) (w : World) (nv ev : Value) (xs : List NV) (es : List Edg) : Prop where
 nodes : Lz EV M w nv xs
 edges : Lz ED M w ev es
 each : ∀ x ∈ xs, NR M w x
 big : ∀ x ∈ xs, x.n.code.length ≤ 140737488355328 ∧ x.n.conns.length ≤ 140737488355328
 wide : xs.length ≤ 140737488355328 ∧ es.length ≤ 140737488355328
abbrev gof (a : Int) (xs : List NV) (es : List Edg) : Gph := ⟨a, xs.map NV.n, es⟩
theorem NR.below {M : Nat} {w w' : World} {x : NV} (h : NR M w x) (hb : Below w.heap.size w w') : NR M w' x := ⟨h.code.below hb, h.conns.below hb⟩
theorem GR.below {M : Nat} {nv ev : Value} {w w' : World} {xs : List NV} {es : List Edg} (h : GR M w nv ev xs es) (hb : Below w.heap.size w w') : GR M w' nv ev xs es :=
 ⟨h.nodes.below hb, h.edges.below hb, fun x hx => (h.each x hx).below hb, h.big, h.wide⟩
theorem GR.up {M M' : Nat} {w : World} {nv ev : Value} {xs : List NV} {es : List Edg} (h : GR M w nv ev xs es) (hM : M ≤ M') : GR M' w nv ev xs es :=
 ⟨h.nodes.up hM, h.edges.up hM, fun x hx => ⟨(h.each x hx).code.up hM, (h.each x hx).conns.up hM⟩, h.big, h.wide⟩
theorem GR.later {M : Nat} {nv ev : Value} {w w' : World} {xs : List NV} {es : List Edg} (h : GR M w nv ev xs es) (hM : M ≤ w.heap.size) (hb : Below w.heap.size w w') : GR w'.heap.size w' nv ev xs es := (h.below hb).up (Nat.le_trans hM hb.size)
end Go.Proofs.YtdnnfgabdkkdjaaGreat.Df
