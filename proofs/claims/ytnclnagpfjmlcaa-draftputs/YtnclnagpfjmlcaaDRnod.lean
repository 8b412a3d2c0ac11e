import Derived.Test.YtnclnagpfjmlcaaDRpb
import Derived.Test.YtnclnagpfjmlcaaDLnod
namespace Go.Proofs.Ytnclnagpfjmlcaa.Df
open Go.RowKit Go.Sort Wi
attribute [local go_sem ↓] Go.wp_at_zero Go.wp_at_succ

/-- What stands while the document lays a node: the node's place, the bytes so far. -/
structure Rn (w W : World) (x : NV) (d : Value) (A : List UInt8) : Prop where
  bl : Below w.heap.size w W
  hn : W.heap[w.heap.size]? = some (.cells x.cells 67 (0, 0))
  row : W.ownsRow (w.heap.size + 1) 5 1 d A.length (fl EB A)
  len : A.length ≤ 100000
theorem Rn.app {w W w2 w3 : World} {x : NV} {d v : Value} {A B : List UInt8} (h : Rn w W x d A) (b2 : Below W.heap.size W w2) (h3 : w3.ownsRow (w.heap.size + 1) 5 1 v (A ++ B).length (fl EB (A ++ B))) (k3 : Tn d v w2 w3) (hl : (A ++ B).length ≤ 100000) : Rn w w3 x v (A ++ B) := by
  have h4 := fun k hk => (owns_rd h.row k hk).1
  have h5 := h.bl.trans (b2.mono h.bl.size)
  exact ⟨h5.trans (k3.1.below h5.size (fun k hk => by have := h4 k hk; omega)), (k3.1.block _ (Nat.lt_of_lt_of_le (tk_lt h.hn) b2.size) (fun e => by have := h4 _ e; omega)).trans ((b2.block _ (tk_lt h.hn)).trans h.hn), h3, hl⟩
theorem Rn.facts {w W : World} {x : NV} {d : Value} {A : List UInt8} (h : Rn w W x d A) : (∀ i, W.cell? ⟨w.heap.size, i, none⟩ = x.cells[i]?) ∧ w.heap.size < W.heap.size := ⟨(tk_store h.hn).1, tk_lt h.hn⟩
theorem Rn.below {w W W' : World} {x : NV} {d : Value} {A : List UInt8} (h : Rn w W x d A) (hb : Below W.heap.size W W') : Rn w W' x d A := ⟨h.bl.trans (hb.mono h.bl.size), (hb.block _ (tk_lt h.hn)).trans h.hn, owns_below h.row hb, h.len⟩
/-- What the document's node leaves. -/
def Nb (w : World) (n : Nod) (e : Ending) (w' : World) : Prop := Below w.heap.size w w' ∧ ∃ d, e = .returned (.tuple #[d, .int .i64 (enod n : Nat)]) ∧ ((enod n = 0 ∧ w'.ownsRow w.heap.size 5 1 d (bnod n).length (fl EB (bnod n))) ∨ (enod n ≠ 0 ∧ d = .slice none 0 0))
theorem Rn.nb {w W : World} {x : NV} {d : Value} {A : List UInt8} (h : Rn w W x d A) (he : enod x.n = 0) (hA : A = bnod x.n) : Nb w x.n (.returned (.tuple #[d, .int .i64 0])) W :=
  ⟨h.bl, d, by rw [he]; rfl, Or.inl ⟨he, by rw [← hA]; exact owns_base h.row (by omega)⟩⟩
theorem nb_bad {w W : World} {n : Nod} {k : Nat} (hb : Below w.heap.size w W) (he : enod n = k) (hk : k ≠ 0) : Nb w n (.returned (.tuple #[.slice none 0 0, .int .i64 (k : Nat)])) W := ⟨hb, _, by rw [he], Or.inr ⟨by rw [he]; exact hk, rfl⟩⟩
/-- A whole number that is none below 0. -/
theorem rint_any {z : Int} (hT : I64 z) (hz : 0 ≤ z) (w : World) : Calls Try.prog 35 #[.int .u64 z] w (Bs w (bint z)) := by
  have h := rnumber_any z.toNat (by have := hT.2; omega) w
  rw [show ((z.toNat : Nat) : Int) = z by omega] at h
  exact h
theorem u64_conv {z : Int} (hT : I64 z) (hz : 0 ≤ z) : IntKind.u64.wrap z = z := by rw [IntKind.wrap_u64]; have := hT.2; omega
set_option maxRecDepth 100000 in
set_option maxHeartbeats 4000000 in
theorem rnode20 {x : NV}  (hT : NodT x.n) (w : World) (hN : NR w.heap.size w x) (lc : x.n.code.length ≤ 140737488355328) (ld : x.n.conns.length ≤ 140737488355328) (hk : x.n.kind < 1 ∨ 8 < x.n.kind) : Calls Try.prog 36 #[.agg x.cells] w (Nb w x.n) := by
  have hmx : Try.prog.follows .mixedOrders = true := by kernel_rfl
  obtain ⟨⟨k, i, o, cd, via, bd, cn, st⟩, cq, cm, cc, dq, dm, dc⟩ := x
  have HCM : Hid (cm = cd.length) := by
    obtain ⟨p, c, h⟩ := hN.code.form
    simp only [Value.slice.injEq] at h
    exact h.2.1
  have HDM : Hid (dm = cn.length) := by
    obtain ⟨p, c, h⟩ := hN.conns.form
    simp only [Value.slice.injEq] at h
    exact h.2.1
  simp only at *
  obtain ⟨W0, hW0⟩ : ∃ W, W = w.alloc (.cells (ncells k i o (.slice cq cm cc) via bd (.slice dq dm dc) st) 67) := ⟨_, rfl⟩
  have G0 : Hid (Gr w W0 ∧ W0.heap[w.heap.size]? = some (.cells (ncells k i o (.slice cq cm cc) via bd (.slice dq dm dc) st) 67 (0, 0))) := by
    rw [hW0]
    exact ⟨(Gr.refl w).alloc _, heap_new' _ _⟩
  have HW : Hid (w.alloc (.cells #[.int .i64 k, .int .i64 i, .int .i64 o, .slice cq cm cc, .int .u64 (via.1 : Nat), .int .u64 (via.2.1 : Nat), .int .u64 (via.2.2 : Nat), .int .u64 (bd : Nat), .slice dq dm dc, .bool st] 67) = W0) := hW0.symm
  have HT := hid hT
  have HN := hid hN
  have HP := fun W => rports_any ⟨⟨k, i, o, cd, via, bd, cn, st⟩, cq, cm, cc, dq, dm, dc⟩ W
  have HBr := fun W => rbare_any ⟨⟨k, i, o, cd, via, bd, cn, st⟩, cq, cm, cc, dq, dm, dc⟩ HCM.out HDM.out W
  clear hT hN hW0
  simp only [NV.cells, NV.cv, NV.dv] at *
  go_enter Try.func36, Try.ntmps36
  have he : Hid (enod ⟨k, i, o, cd, via, bd, cn, st⟩ = 20) := if_pos hk
  have B0 := hid G0.out.1.below
  obtain ⟨c0, -⟩ := tk_store G0.out.2
  have l0 := tk_lt G0.out.2
  clear HP HBr
  rcases hk with hk | hk
  · go_upto_region 1 with fail
    rw [HW.out]
    go_wp2_with fail
    refine bodyPost_ret (v := .tuple #[.slice none 0 0, .int .i64 20]) (by simp [results, Try.results36, go_sem]) rfl ?_
    exact nb_bad B0.out he.out (by decide)
  · have hk1 : ¬ k < 1 := by omega
    go_upto_region 1 with fail
    rw [HW.out]
    go_wp2_with fail
    refine bodyPost_ret (v := .tuple #[.slice none 0 0, .int .i64 20]) (by simp [results, Try.results36, go_sem]) rfl ?_
    exact nb_bad B0.out he.out (by decide)
set_option maxRecDepth 100000 in
set_option maxHeartbeats 4000000 in
theorem rnode21 {x : NV}  (hT : NodT x.n) (w : World) (hN : NR w.heap.size w x) (lc : x.n.code.length ≤ 140737488355328) (ld : x.n.conns.length ≤ 140737488355328) (hk1 : ¬ x.n.kind < 1) (hk8 : ¬ 8 < x.n.kind) (hp : ports x.n = false) : Calls Try.prog 36 #[.agg x.cells] w (Nb w x.n) := by
  have hmx : Try.prog.follows .mixedOrders = true := by kernel_rfl
  obtain ⟨⟨k, i, o, cd, via, bd, cn, st⟩, cq, cm, cc, dq, dm, dc⟩ := x
  have HCM : Hid (cm = cd.length) := by
    obtain ⟨p, c, h⟩ := hN.code.form
    simp only [Value.slice.injEq] at h
    exact h.2.1
  have HDM : Hid (dm = cn.length) := by
    obtain ⟨p, c, h⟩ := hN.conns.form
    simp only [Value.slice.injEq] at h
    exact h.2.1
  simp only at *
  obtain ⟨W0, hW0⟩ : ∃ W, W = w.alloc (.cells (ncells k i o (.slice cq cm cc) via bd (.slice dq dm dc) st) 67) := ⟨_, rfl⟩
  have G0 : Hid (Gr w W0 ∧ W0.heap[w.heap.size]? = some (.cells (ncells k i o (.slice cq cm cc) via bd (.slice dq dm dc) st) 67 (0, 0))) := by
    rw [hW0]
    exact ⟨(Gr.refl w).alloc _, heap_new' _ _⟩
  have HW : Hid (w.alloc (.cells #[.int .i64 k, .int .i64 i, .int .i64 o, .slice cq cm cc, .int .u64 (via.1 : Nat), .int .u64 (via.2.1 : Nat), .int .u64 (via.2.2 : Nat), .int .u64 (bd : Nat), .slice dq dm dc, .bool st] 67) = W0) := hW0.symm
  have HT := hid hT
  have HN := hid hN
  have HP := fun W => rports_any ⟨⟨k, i, o, cd, via, bd, cn, st⟩, cq, cm, cc, dq, dm, dc⟩ W
  have HBr := fun W => rbare_any ⟨⟨k, i, o, cd, via, bd, cn, st⟩, cq, cm, cc, dq, dm, dc⟩ HCM.out HDM.out W
  clear hT hN hW0
  simp only [NV.cells, NV.cv, NV.dv] at *
  go_enter Try.func36, Try.ntmps36
  have he : Hid (enod ⟨k, i, o, cd, via, bd, cn, st⟩ = 21) := by
    show enod _ = _
    simp [enod, hk1, hk8, hp]
  obtain ⟨c0, -⟩ := tk_store G0.out.2
  have l0 := tk_lt G0.out.2
  go_upto_region 1 with fail
  rw [HW.out]
  clear HW
  go_wp2_with fail
  refine (HP _).mono ?_
  rintro r w1 ⟨rfl, g1⟩
  have n1 := (g1.below.block _ (tk_lt G0.out.2)).trans G0.out.2
  have G1 := hid (And.intro (G0.out.1.trans g1) n1)
  clear c0 l0
  have c1 := (tk_store n1).1
  have l1 := tk_lt n1
  clear g1 n1 G0 HP
  rw [hp]
  have B1 := hid G1.out.1.below
  go_wp2_with fail
  refine bodyPost_ret (v := .tuple #[.slice none 0 0, .int .i64 21]) (by simp [results, Try.results36, go_sem]) rfl ?_
  exact nb_bad B1.out he.out (by decide)
set_option maxRecDepth 100000 in
set_option maxHeartbeats 4000000 in
theorem rnode22 {x : NV}  (hT : NodT x.n) (w : World) (hN : NR w.heap.size w x) (lc : x.n.code.length ≤ 140737488355328) (ld : x.n.conns.length ≤ 140737488355328) (hk1 : ¬ x.n.kind < 1) (hk8 : ¬ 8 < x.n.kind) (hp : ports x.n = true) (hb : bare x.n = false) : Calls Try.prog 36 #[.agg x.cells] w (Nb w x.n) := by
  have hmx : Try.prog.follows .mixedOrders = true := by kernel_rfl
  obtain ⟨⟨k, i, o, cd, via, bd, cn, st⟩, cq, cm, cc, dq, dm, dc⟩ := x
  have HCM : Hid (cm = cd.length) := by
    obtain ⟨p, c, h⟩ := hN.code.form
    simp only [Value.slice.injEq] at h
    exact h.2.1
  have HDM : Hid (dm = cn.length) := by
    obtain ⟨p, c, h⟩ := hN.conns.form
    simp only [Value.slice.injEq] at h
    exact h.2.1
  simp only at *
  obtain ⟨W0, hW0⟩ : ∃ W, W = w.alloc (.cells (ncells k i o (.slice cq cm cc) via bd (.slice dq dm dc) st) 67) := ⟨_, rfl⟩
  have G0 : Hid (Gr w W0 ∧ W0.heap[w.heap.size]? = some (.cells (ncells k i o (.slice cq cm cc) via bd (.slice dq dm dc) st) 67 (0, 0))) := by
    rw [hW0]
    exact ⟨(Gr.refl w).alloc _, heap_new' _ _⟩
  have HW : Hid (w.alloc (.cells #[.int .i64 k, .int .i64 i, .int .i64 o, .slice cq cm cc, .int .u64 (via.1 : Nat), .int .u64 (via.2.1 : Nat), .int .u64 (via.2.2 : Nat), .int .u64 (bd : Nat), .slice dq dm dc, .bool st] 67) = W0) := hW0.symm
  have HT := hid hT
  have HN := hid hN
  have HP := fun W => rports_any ⟨⟨k, i, o, cd, via, bd, cn, st⟩, cq, cm, cc, dq, dm, dc⟩ W
  have HBr := fun W => rbare_any ⟨⟨k, i, o, cd, via, bd, cn, st⟩, cq, cm, cc, dq, dm, dc⟩ HCM.out HDM.out W
  clear hT hN hW0
  simp only [NV.cells, NV.cv, NV.dv] at *
  go_enter Try.func36, Try.ntmps36
  have he : Hid (enod ⟨k, i, o, cd, via, bd, cn, st⟩ = 22) := by
    show enod _ = _
    simp [enod, hk1, hk8, hp, hb]
  obtain ⟨c0, -⟩ := tk_store G0.out.2
  have l0 := tk_lt G0.out.2
  go_upto_region 1 with fail
  rw [HW.out]
  clear HW
  go_wp2_with fail
  refine (HP _).mono ?_
  rintro r w1 ⟨rfl, g1⟩
  have n1 := (g1.below.block _ (tk_lt G0.out.2)).trans G0.out.2
  have G1 := hid (And.intro (G0.out.1.trans g1) n1)
  clear c0 l0
  have c1 := (tk_store n1).1
  have l1 := tk_lt n1
  clear g1 n1 G0 HP
  rw [hp]
  go_wp2_with fail
  refine (HBr _).mono ?_
  rintro r w2 ⟨rfl, g2⟩
  have n2 := (g2.below.block _ (tk_lt G1.out.2)).trans G1.out.2
  have G2 := hid (And.intro (G1.out.1.trans g2) n2)
  clear c1 l1
  have c2 := (tk_store n2).1
  have l2 := tk_lt n2
  clear g2 n2 G1 HBr
  rw [hb]
  have B2 := hid G2.out.1.below
  go_wp2_with fail
  refine bodyPost_ret (v := .tuple #[.slice none 0 0, .int .i64 22]) (by simp [results, Try.results36, go_sem]) rfl ?_
  exact nb_bad B2.out he.out (by decide)
set_option maxRecDepth 100000 in
set_option maxHeartbeats 4000000 in
theorem rnode2e {x : NV}  (hT : NodT x.n) (w : World) (hN : NR w.heap.size w x) (lc : x.n.code.length ≤ 140737488355328) (ld : x.n.conns.length ≤ 140737488355328) (hk1 : ¬ x.n.kind < 1) (hk8 : ¬ 8 < x.n.kind) (hp : ports x.n = true) (hb : bare x.n = true) (hl : 16 < x.n.code.length ∨ 16 < x.n.conns.length) : Calls Try.prog 36 #[.agg x.cells] w (Nb w x.n) := by
  have hmx : Try.prog.follows .mixedOrders = true := by kernel_rfl
  obtain ⟨⟨k, i, o, cd, via, bd, cn, st⟩, cq, cm, cc, dq, dm, dc⟩ := x
  have HCM : Hid (cm = cd.length) := by
    obtain ⟨p, c, h⟩ := hN.code.form
    simp only [Value.slice.injEq] at h
    exact h.2.1
  have HDM : Hid (dm = cn.length) := by
    obtain ⟨p, c, h⟩ := hN.conns.form
    simp only [Value.slice.injEq] at h
    exact h.2.1
  simp only at *
  obtain ⟨W0, hW0⟩ : ∃ W, W = w.alloc (.cells (ncells k i o (.slice cq cm cc) via bd (.slice dq dm dc) st) 67) := ⟨_, rfl⟩
  have G0 : Hid (Gr w W0 ∧ W0.heap[w.heap.size]? = some (.cells (ncells k i o (.slice cq cm cc) via bd (.slice dq dm dc) st) 67 (0, 0))) := by
    rw [hW0]
    exact ⟨(Gr.refl w).alloc _, heap_new' _ _⟩
  have HW : Hid (w.alloc (.cells #[.int .i64 k, .int .i64 i, .int .i64 o, .slice cq cm cc, .int .u64 (via.1 : Nat), .int .u64 (via.2.1 : Nat), .int .u64 (via.2.2 : Nat), .int .u64 (bd : Nat), .slice dq dm dc, .bool st] 67) = W0) := hW0.symm
  have HT := hid hT
  have HN := hid hN
  have HP := fun W => rports_any ⟨⟨k, i, o, cd, via, bd, cn, st⟩, cq, cm, cc, dq, dm, dc⟩ W
  have HBr := fun W => rbare_any ⟨⟨k, i, o, cd, via, bd, cn, st⟩, cq, cm, cc, dq, dm, dc⟩ HCM.out HDM.out W
  clear hT hN hW0
  simp only [NV.cells, NV.cv, NV.dv] at *
  go_enter Try.func36, Try.ntmps36
  have he : Hid (enod ⟨k, i, o, cd, via, bd, cn, st⟩ = 2) := by
    show enod _ = _
    simp [enod, hk1, hk8, hp, hb, hl]
  obtain ⟨c0, -⟩ := tk_store G0.out.2
  have l0 := tk_lt G0.out.2
  go_upto_region 1 with fail
  rw [HW.out]
  clear HW
  go_wp2_with fail
  refine (HP _).mono ?_
  rintro r w1 ⟨rfl, g1⟩
  have n1 := (g1.below.block _ (tk_lt G0.out.2)).trans G0.out.2
  have G1 := hid (And.intro (G0.out.1.trans g1) n1)
  clear c0 l0
  have c1 := (tk_store n1).1
  have l1 := tk_lt n1
  clear g1 n1 G0 HP
  rw [hp]
  go_wp2_with fail
  refine (HBr _).mono ?_
  rintro r w2 ⟨rfl, g2⟩
  have n2 := (g2.below.block _ (tk_lt G1.out.2)).trans G1.out.2
  have G2 := hid (And.intro (G1.out.1.trans g2) n2)
  clear c1 l1
  have c2 := (tk_store n2).1
  have l2 := tk_lt n2
  clear g2 n2 G1 HBr
  rw [hb]
  have B2 := hid G2.out.1.below
  rcases hl with hl | hl
  · have z1 : (16 : Int) < (cm : Int) := by have := HCM.out; omega
    go_wp2_with fail
    refine bodyPost_ret (v := .tuple #[.slice none 0 0, .int .i64 2]) (by simp [results, Try.results36, go_sem]) rfl ?_
    exact nb_bad B2.out he.out (by decide)
  · by_cases hl2 : 16 < cd.length
    · have z1 : (16 : Int) < (cm : Int) := by have := HCM.out; omega
      go_wp2_with fail
      refine bodyPost_ret (v := .tuple #[.slice none 0 0, .int .i64 2]) (by simp [results, Try.results36, go_sem]) rfl ?_
      exact nb_bad B2.out he.out (by decide)
    · have z1 : ¬ (16 : Int) < (cm : Int) := by have := HCM.out; omega
      have z2 : (16 : Int) < (dm : Int) := by have := HDM.out; omega
      clear hl hl2 lc ld
      go_wp2_with fail
      refine bodyPost_ret (v := .tuple #[.slice none 0 0, .int .i64 2]) (by simp [results, Try.results36, go_sem]) rfl ?_
      exact nb_bad B2.out he.out (by decide)
set_option maxRecDepth 100000 in
set_option maxHeartbeats 4000000 in
theorem rnode1' {x : NV} (hk : x.n.kind = 1) (hT : NodT x.n) (w : World) (hN : NR w.heap.size w x) (lc : x.n.code.length ≤ 140737488355328) (ld : x.n.conns.length ≤ 140737488355328) (hp : ports x.n = true) (hb : bare x.n = true) (hc : x.n.code.length ≤ 16) (hd : x.n.conns.length ≤ 16) : Calls Try.prog 36 #[.agg x.cells] w (Nb w x.n) := by
  have hmx : Try.prog.follows .mixedOrders = true := by kernel_rfl
  obtain ⟨⟨k, i, o, cd, via, bd, cn, st⟩, cq, cm, cc, dq, dm, dc⟩ := x
  have HCM : Hid (cm = cd.length) := by
    obtain ⟨p, c, h⟩ := hN.code.form
    simp only [Value.slice.injEq] at h
    exact h.2.1
  have HDM : Hid (dm = cn.length) := by
    obtain ⟨p, c, h⟩ := hN.conns.form
    simp only [Value.slice.injEq] at h
    exact h.2.1
  simp only at *
  subst hk
  obtain ⟨W0, hW0⟩ : ∃ W, W = w.alloc (.cells (ncells 1 i o (.slice cq cm cc) via bd (.slice dq dm dc) st) 67) := ⟨_, rfl⟩
  have G0 : Hid (Gr w W0 ∧ W0.heap[w.heap.size]? = some (.cells (ncells 1 i o (.slice cq cm cc) via bd (.slice dq dm dc) st) 67 (0, 0))) := by
    rw [hW0]
    exact ⟨(Gr.refl w).alloc _, heap_new' _ _⟩
  have HW : Hid (w.alloc (.cells #[.int .i64 1, .int .i64 i, .int .i64 o, .slice cq cm cc, .int .u64 (via.1 : Nat), .int .u64 (via.2.1 : Nat), .int .u64 (via.2.2 : Nat), .int .u64 (bd : Nat), .slice dq dm dc, .bool st] 67) = W0) := hW0.symm
  have HT := hid hT
  have HN := hid hN
  have HP := fun W => rports_any ⟨⟨1, i, o, cd, via, bd, cn, st⟩, cq, cm, cc, dq, dm, dc⟩ W
  have HBr := fun W => rbare_any ⟨⟨1, i, o, cd, via, bd, cn, st⟩, cq, cm, cc, dq, dm, dc⟩ HCM.out HDM.out W
  clear hT hN hW0
  simp only [NV.cells, NV.cv, NV.dv] at *
  go_enter Try.func36, Try.ntmps36
  have hcd : cd = [] := by
    have h := hb
    simp [bare] at h
    exact h.1.1
  have hcn : cn = [] := by
    have h := hb
    simp [bare] at h
    exact h.2.1
  have he : Hid (enod ⟨1, i, o, cd, via, bd, cn, st⟩ = 0) := by
    show enod _ = _
    unfold enod
    rw [if_neg (by simp), if_neg (by rw [hp]; simp), if_neg (by rw [hb]; simp), if_neg (by simp only; omega), if_neg (by simp [hcd]), if_neg (by simp [hcn])]
  have HCD := hid hcd
  have HCN := hid hcn
  clear hcd hcn
  go_wp2_with fail
  rw [HW.out]
  clear HW
  refine (HP _).mono ?_
  rintro r w1 ⟨rfl, g1⟩
  have n1 := (g1.below.block _ (tk_lt G0.out.2)).trans G0.out.2
  have G1 := hid (And.intro (G0.out.1.trans g1) n1)
  have c1 := (tk_store n1).1
  have l1 := tk_lt n1
  clear g1 n1 G0 HP
  rw [hp]
  go_wp2_with fail
  refine (HBr _).mono ?_
  rintro r w2 ⟨rfl, g2⟩
  have n2 := (g2.below.block _ (tk_lt G1.out.2)).trans G1.out.2
  have G2 := hid (And.intro (G1.out.1.trans g2) n2)
  clear c1 l1
  have c2 := (tk_store n2).1
  have l2 := tk_lt n2
  clear g2 n2 G1 HBr
  rw [hb]
  have z1 : ¬ (16 : Int) < (cm : Int) := by have := HCM.out; omega
  have z2 : ¬ (16 : Int) < (dm : Int) := by have := HDM.out; omega
  clear hc hd lc ld
  go_wp2_with fail
  refine (rnumber_any 1 (by decide) _).mono ?_
  rintro r w3 ⟨b3, d3, rfl, h3⟩
  obtain ⟨A3, hA3⟩ : ∃ A, A = form 1 := ⟨_, rfl⟩
  rw [← hA3] at h3
  have R3 : Hid (Rn w w3 ⟨⟨1, i, o, cd, via, bd, cn, st⟩, cq, cm, cc, dq, dm, dc⟩ d3 A3) := ⟨G2.out.1.below.trans (b3.mono G2.out.1.size), (b3.block _ (tk_lt G2.out.2)).trans G2.out.2, owns_base h3 (by have := tk_lt G2.out.2; omega), by rw [hA3]; exact Nat.le_trans (form_ten (by decide)) (by decide)⟩
  have HA3 := hid hA3
  have LA3 : Hid (A3.length ≤ 10) := by show _ ≤ _; rw [hA3]; exact form_ten (by decide)
  clear b3 h3 G2 c2 l2 hA3
  obtain ⟨c3, l3⟩ := R3.out.facts
  simp only [NV.cells, NV.cv, NV.dv] at c3
  go_wp2_with fail
  refine bodyPost_ret (v := .tuple #[d3, .int .i64 0]) (by simp [results, Try.results36, go_sem]) rfl ?_
  exact R3.out.nb he.out (by rw [HA3.out]; simp [bnod, bbody, bint])
set_option maxRecDepth 100000 in
set_option maxHeartbeats 4000000 in
theorem rnode6' {x : NV} (hk : x.n.kind = 6) (hT : NodT x.n) (w : World) (hN : NR w.heap.size w x) (lc : x.n.code.length ≤ 140737488355328) (ld : x.n.conns.length ≤ 140737488355328) (hp : ports x.n = true) (hb : bare x.n = true) (hc : x.n.code.length ≤ 16) (hd : x.n.conns.length ≤ 16) : Calls Try.prog 36 #[.agg x.cells] w (Nb w x.n) := by
  have hmx : Try.prog.follows .mixedOrders = true := by kernel_rfl
  obtain ⟨⟨k, i, o, cd, via, bd, cn, st⟩, cq, cm, cc, dq, dm, dc⟩ := x
  have HCM : Hid (cm = cd.length) := by
    obtain ⟨p, c, h⟩ := hN.code.form
    simp only [Value.slice.injEq] at h
    exact h.2.1
  have HDM : Hid (dm = cn.length) := by
    obtain ⟨p, c, h⟩ := hN.conns.form
    simp only [Value.slice.injEq] at h
    exact h.2.1
  simp only at *
  subst hk
  obtain ⟨W0, hW0⟩ : ∃ W, W = w.alloc (.cells (ncells 6 i o (.slice cq cm cc) via bd (.slice dq dm dc) st) 67) := ⟨_, rfl⟩
  have G0 : Hid (Gr w W0 ∧ W0.heap[w.heap.size]? = some (.cells (ncells 6 i o (.slice cq cm cc) via bd (.slice dq dm dc) st) 67 (0, 0))) := by
    rw [hW0]
    exact ⟨(Gr.refl w).alloc _, heap_new' _ _⟩
  have HW : Hid (w.alloc (.cells #[.int .i64 6, .int .i64 i, .int .i64 o, .slice cq cm cc, .int .u64 (via.1 : Nat), .int .u64 (via.2.1 : Nat), .int .u64 (via.2.2 : Nat), .int .u64 (bd : Nat), .slice dq dm dc, .bool st] 67) = W0) := hW0.symm
  have HT := hid hT
  have HN := hid hN
  have HP := fun W => rports_any ⟨⟨6, i, o, cd, via, bd, cn, st⟩, cq, cm, cc, dq, dm, dc⟩ W
  have HBr := fun W => rbare_any ⟨⟨6, i, o, cd, via, bd, cn, st⟩, cq, cm, cc, dq, dm, dc⟩ HCM.out HDM.out W
  clear hT hN hW0
  simp only [NV.cells, NV.cv, NV.dv] at *
  go_enter Try.func36, Try.ntmps36
  have hcd : cd = [] := by
    have h := hb
    simp [bare] at h
    exact h.1.1
  have hcn : cn = [] := by
    have h := hb
    simp [bare] at h
    exact h.2.1
  have he : Hid (enod ⟨6, i, o, cd, via, bd, cn, st⟩ = 0) := by
    show enod _ = _
    unfold enod
    rw [if_neg (by simp), if_neg (by rw [hp]; simp), if_neg (by rw [hb]; simp), if_neg (by simp only; omega), if_neg (by simp [hcd]), if_neg (by simp [hcn])]
  have HCD := hid hcd
  have HCN := hid hcn
  clear hcd hcn
  go_wp2_with fail
  rw [HW.out]
  clear HW
  refine (HP _).mono ?_
  rintro r w1 ⟨rfl, g1⟩
  have n1 := (g1.below.block _ (tk_lt G0.out.2)).trans G0.out.2
  have G1 := hid (And.intro (G0.out.1.trans g1) n1)
  have c1 := (tk_store n1).1
  have l1 := tk_lt n1
  clear g1 n1 G0 HP
  rw [hp]
  go_wp2_with fail
  refine (HBr _).mono ?_
  rintro r w2 ⟨rfl, g2⟩
  have n2 := (g2.below.block _ (tk_lt G1.out.2)).trans G1.out.2
  have G2 := hid (And.intro (G1.out.1.trans g2) n2)
  clear c1 l1
  have c2 := (tk_store n2).1
  have l2 := tk_lt n2
  clear g2 n2 G1 HBr
  rw [hb]
  have z1 : ¬ (16 : Int) < (cm : Int) := by have := HCM.out; omega
  have z2 : ¬ (16 : Int) < (dm : Int) := by have := HDM.out; omega
  clear hc hd lc ld
  go_wp2_with fail
  refine (rnumber_any 6 (by decide) _).mono ?_
  rintro r w3 ⟨b3, d3, rfl, h3⟩
  obtain ⟨A3, hA3⟩ : ∃ A, A = form 6 := ⟨_, rfl⟩
  rw [← hA3] at h3
  have R3 : Hid (Rn w w3 ⟨⟨6, i, o, cd, via, bd, cn, st⟩, cq, cm, cc, dq, dm, dc⟩ d3 A3) := ⟨G2.out.1.below.trans (b3.mono G2.out.1.size), (b3.block _ (tk_lt G2.out.2)).trans G2.out.2, owns_base h3 (by have := tk_lt G2.out.2; omega), by rw [hA3]; exact Nat.le_trans (form_ten (by decide)) (by decide)⟩
  have HA3 := hid hA3
  have LA3 : Hid (A3.length ≤ 10) := by show _ ≤ _; rw [hA3]; exact form_ten (by decide)
  clear b3 h3 G2 c2 l2 hA3
  obtain ⟨c3, l3⟩ := R3.out.facts
  simp only [NV.cells, NV.cv, NV.dv] at c3
  go_wp2_with fail
  refine bodyPost_ret (v := .tuple #[d3, .int .i64 0]) (by simp [results, Try.results36, go_sem]) rfl ?_
  exact R3.out.nb he.out (by rw [HA3.out]; simp [bnod, bbody, bint])
set_option maxRecDepth 100000 in
set_option maxHeartbeats 4000000 in
theorem rnode7' {x : NV} (hk : x.n.kind = 7) (hT : NodT x.n) (w : World) (hN : NR w.heap.size w x) (lc : x.n.code.length ≤ 140737488355328) (ld : x.n.conns.length ≤ 140737488355328) (hp : ports x.n = true) (hb : bare x.n = true) (hc : x.n.code.length ≤ 16) (hd : x.n.conns.length ≤ 16) : Calls Try.prog 36 #[.agg x.cells] w (Nb w x.n) := by
  have hmx : Try.prog.follows .mixedOrders = true := by kernel_rfl
  obtain ⟨⟨k, i, o, cd, via, bd, cn, st⟩, cq, cm, cc, dq, dm, dc⟩ := x
  have HCM : Hid (cm = cd.length) := by
    obtain ⟨p, c, h⟩ := hN.code.form
    simp only [Value.slice.injEq] at h
    exact h.2.1
  have HDM : Hid (dm = cn.length) := by
    obtain ⟨p, c, h⟩ := hN.conns.form
    simp only [Value.slice.injEq] at h
    exact h.2.1
  simp only at *
  subst hk
  obtain ⟨W0, hW0⟩ : ∃ W, W = w.alloc (.cells (ncells 7 i o (.slice cq cm cc) via bd (.slice dq dm dc) st) 67) := ⟨_, rfl⟩
  have G0 : Hid (Gr w W0 ∧ W0.heap[w.heap.size]? = some (.cells (ncells 7 i o (.slice cq cm cc) via bd (.slice dq dm dc) st) 67 (0, 0))) := by
    rw [hW0]
    exact ⟨(Gr.refl w).alloc _, heap_new' _ _⟩
  have HW : Hid (w.alloc (.cells #[.int .i64 7, .int .i64 i, .int .i64 o, .slice cq cm cc, .int .u64 (via.1 : Nat), .int .u64 (via.2.1 : Nat), .int .u64 (via.2.2 : Nat), .int .u64 (bd : Nat), .slice dq dm dc, .bool st] 67) = W0) := hW0.symm
  have HT := hid hT
  have HN := hid hN
  have HP := fun W => rports_any ⟨⟨7, i, o, cd, via, bd, cn, st⟩, cq, cm, cc, dq, dm, dc⟩ W
  have HBr := fun W => rbare_any ⟨⟨7, i, o, cd, via, bd, cn, st⟩, cq, cm, cc, dq, dm, dc⟩ HCM.out HDM.out W
  clear hT hN hW0
  simp only [NV.cells, NV.cv, NV.dv] at *
  go_enter Try.func36, Try.ntmps36
  have hcd : cd = [] := by
    have h := hb
    simp [bare] at h
    exact h.1.1
  have hcn : cn = [] := by
    have h := hb
    simp [bare] at h
    exact h.2.1
  have he : Hid (enod ⟨7, i, o, cd, via, bd, cn, st⟩ = 0) := by
    show enod _ = _
    unfold enod
    rw [if_neg (by simp), if_neg (by rw [hp]; simp), if_neg (by rw [hb]; simp), if_neg (by simp only; omega), if_neg (by simp [hcd]), if_neg (by simp [hcn])]
  have HCD := hid hcd
  have HCN := hid hcn
  clear hcd hcn
  go_wp2_with fail
  rw [HW.out]
  clear HW
  refine (HP _).mono ?_
  rintro r w1 ⟨rfl, g1⟩
  have n1 := (g1.below.block _ (tk_lt G0.out.2)).trans G0.out.2
  have G1 := hid (And.intro (G0.out.1.trans g1) n1)
  have c1 := (tk_store n1).1
  have l1 := tk_lt n1
  clear g1 n1 G0 HP
  rw [hp]
  go_wp2_with fail
  refine (HBr _).mono ?_
  rintro r w2 ⟨rfl, g2⟩
  have n2 := (g2.below.block _ (tk_lt G1.out.2)).trans G1.out.2
  have G2 := hid (And.intro (G1.out.1.trans g2) n2)
  clear c1 l1
  have c2 := (tk_store n2).1
  have l2 := tk_lt n2
  clear g2 n2 G1 HBr
  rw [hb]
  have z1 : ¬ (16 : Int) < (cm : Int) := by have := HCM.out; omega
  have z2 : ¬ (16 : Int) < (dm : Int) := by have := HDM.out; omega
  clear hc hd lc ld
  go_wp2_with fail
  refine (rnumber_any 7 (by decide) _).mono ?_
  rintro r w3 ⟨b3, d3, rfl, h3⟩
  obtain ⟨A3, hA3⟩ : ∃ A, A = form 7 := ⟨_, rfl⟩
  rw [← hA3] at h3
  have R3 : Hid (Rn w w3 ⟨⟨7, i, o, cd, via, bd, cn, st⟩, cq, cm, cc, dq, dm, dc⟩ d3 A3) := ⟨G2.out.1.below.trans (b3.mono G2.out.1.size), (b3.block _ (tk_lt G2.out.2)).trans G2.out.2, owns_base h3 (by have := tk_lt G2.out.2; omega), by rw [hA3]; exact Nat.le_trans (form_ten (by decide)) (by decide)⟩
  have HA3 := hid hA3
  have LA3 : Hid (A3.length ≤ 10) := by show _ ≤ _; rw [hA3]; exact form_ten (by decide)
  clear b3 h3 G2 c2 l2 hA3
  obtain ⟨c3, l3⟩ := R3.out.facts
  simp only [NV.cells, NV.cv, NV.dv] at c3
  go_wp2_with fail
  refine bodyPost_ret (v := .tuple #[d3, .int .i64 0]) (by simp [results, Try.results36, go_sem]) rfl ?_
  exact R3.out.nb he.out (by rw [HA3.out]; simp [bnod, bbody, bint])
set_option maxRecDepth 100000 in
set_option maxHeartbeats 4000000 in
theorem rnode4' {x : NV} (hk : x.n.kind = 4) (hT : NodT x.n) (w : World) (hN : NR w.heap.size w x) (lc : x.n.code.length ≤ 140737488355328) (ld : x.n.conns.length ≤ 140737488355328) (hp : ports x.n = true) (hb : bare x.n = true) (hc : x.n.code.length ≤ 16) (hd : x.n.conns.length ≤ 16) : Calls Try.prog 36 #[.agg x.cells] w (Nb w x.n) := by
  have hmx : Try.prog.follows .mixedOrders = true := by kernel_rfl
  obtain ⟨⟨k, i, o, cd, via, bd, cn, st⟩, cq, cm, cc, dq, dm, dc⟩ := x
  have HCM : Hid (cm = cd.length) := by
    obtain ⟨p, c, h⟩ := hN.code.form
    simp only [Value.slice.injEq] at h
    exact h.2.1
  have HDM : Hid (dm = cn.length) := by
    obtain ⟨p, c, h⟩ := hN.conns.form
    simp only [Value.slice.injEq] at h
    exact h.2.1
  simp only at *
  subst hk
  obtain ⟨W0, hW0⟩ : ∃ W, W = w.alloc (.cells (ncells 4 i o (.slice cq cm cc) via bd (.slice dq dm dc) st) 67) := ⟨_, rfl⟩
  have G0 : Hid (Gr w W0 ∧ W0.heap[w.heap.size]? = some (.cells (ncells 4 i o (.slice cq cm cc) via bd (.slice dq dm dc) st) 67 (0, 0))) := by
    rw [hW0]
    exact ⟨(Gr.refl w).alloc _, heap_new' _ _⟩
  have HW : Hid (w.alloc (.cells #[.int .i64 4, .int .i64 i, .int .i64 o, .slice cq cm cc, .int .u64 (via.1 : Nat), .int .u64 (via.2.1 : Nat), .int .u64 (via.2.2 : Nat), .int .u64 (bd : Nat), .slice dq dm dc, .bool st] 67) = W0) := hW0.symm
  have HT := hid hT
  have HN := hid hN
  have HP := fun W => rports_any ⟨⟨4, i, o, cd, via, bd, cn, st⟩, cq, cm, cc, dq, dm, dc⟩ W
  have HBr := fun W => rbare_any ⟨⟨4, i, o, cd, via, bd, cn, st⟩, cq, cm, cc, dq, dm, dc⟩ HCM.out HDM.out W
  clear hT hN hW0
  simp only [NV.cells, NV.cv, NV.dv] at *
  go_enter Try.func36, Try.ntmps36
  have hcd : cd = [] := by
    have h := hb
    simp [bare] at h
    exact h.1.1
  have hcn : cn = [] := by
    have h := hb
    simp [bare] at h
    exact h.2.1
  have hi0 : 0 ≤ i := by
    have h := hp
    simp [ports] at h
    exact h.1
  have hcv := u64_conv HT.out.2.1 hi0
  have he : Hid (enod ⟨4, i, o, cd, via, bd, cn, st⟩ = 0) := by
    show enod _ = _
    unfold enod
    rw [if_neg (by simp), if_neg (by rw [hp]; simp), if_neg (by rw [hb]; simp), if_neg (by simp only; omega), if_neg (by simp [hcd]), if_neg (by simp [hcn])]
  have HCD := hid hcd
  have HCN := hid hcn
  clear hcd hcn
  go_wp2_with fail
  rw [HW.out]
  clear HW
  refine (HP _).mono ?_
  rintro r w1 ⟨rfl, g1⟩
  have n1 := (g1.below.block _ (tk_lt G0.out.2)).trans G0.out.2
  have G1 := hid (And.intro (G0.out.1.trans g1) n1)
  have c1 := (tk_store n1).1
  have l1 := tk_lt n1
  clear g1 n1 G0 HP
  rw [hp]
  go_wp2_with fail
  refine (HBr _).mono ?_
  rintro r w2 ⟨rfl, g2⟩
  have n2 := (g2.below.block _ (tk_lt G1.out.2)).trans G1.out.2
  have G2 := hid (And.intro (G1.out.1.trans g2) n2)
  clear c1 l1
  have c2 := (tk_store n2).1
  have l2 := tk_lt n2
  clear g2 n2 G1 HBr
  rw [hb]
  have z1 : ¬ (16 : Int) < (cm : Int) := by have := HCM.out; omega
  have z2 : ¬ (16 : Int) < (dm : Int) := by have := HDM.out; omega
  clear hc hd lc ld
  go_wp2_with fail
  refine (rnumber_any 4 (by decide) _).mono ?_
  rintro r w3 ⟨b3, d3, rfl, h3⟩
  obtain ⟨A3, hA3⟩ : ∃ A, A = form 4 := ⟨_, rfl⟩
  rw [← hA3] at h3
  have R3 : Hid (Rn w w3 ⟨⟨4, i, o, cd, via, bd, cn, st⟩, cq, cm, cc, dq, dm, dc⟩ d3 A3) := ⟨G2.out.1.below.trans (b3.mono G2.out.1.size), (b3.block _ (tk_lt G2.out.2)).trans G2.out.2, owns_base h3 (by have := tk_lt G2.out.2; omega), by rw [hA3]; exact Nat.le_trans (form_ten (by decide)) (by decide)⟩
  have HA3 := hid hA3
  have LA3 : Hid (A3.length ≤ 10) := by show _ ≤ _; rw [hA3]; exact form_ten (by decide)
  clear b3 h3 G2 c2 l2 hA3
  obtain ⟨c3, l3⟩ := R3.out.facts
  simp only [NV.cells, NV.cv, NV.dv] at c3
  obtain ⟨B4, hB4⟩ : ∃ B : List UInt8, B = bint i := ⟨_, rfl⟩
  have lB4 : Hid (B4.length ≤ 10) := by show _ ≤ _; rw [hB4]; exact bint_len HT.out.2.1
  have HB4 := hid hB4
  clear hB4
  go_wp2_with fail
  refine (rint_any HT.out.2.1 hi0 _).mono ?_
  rintro r wa4 ⟨ba, da, rfl, ha⟩
  rw [← HB4.out] at ha
  have Oa := hid (owns_below R3.out.row ba)
  have Da := hid (owns_ls (E := EB) ha)
  have Ba := hid ba
  clear ba ha c3 l3
  go_wp2_with (at_builtin; refine wpBL rfl _ _ rfl (w.heap.size + 1) _ A3 rfl Oa.out _ B4 rfl (Or.inl Da.out) (by have := lB4.out; have := R3.out.len; omega) (Nat.le_trans R3.out.facts.2 Ba.out.size) ?_)
  intro d4 w4 h3 k3
  obtain ⟨A4, hA4⟩ : ∃ A, A = A3 ++ B4 := ⟨_, rfl⟩
  have R4 : Hid (Rn w w4 ⟨⟨4, i, o, cd, via, bd, cn, st⟩, cq, cm, cc, dq, dm, dc⟩ d4 A4) := by
    rw [hA4]
    exact R3.out.app Ba.out (owns_re h3.out (by simp) rfl) k3.out (by have := lB4.out; have := LA3.out; rw [List.length_append]; omega)
  have HA4 := hid hA4
  have LA4 : Hid (A4.length ≤ 20) := by show _ ≤ _; have := lB4.out; have := LA3.out; rw [hA4, List.length_append]; omega
  clear hA4 h3 k3 Oa Da Ba
  obtain ⟨c4, l4⟩ := R4.out.facts
  simp only [NV.cells, NV.cv, NV.dv] at c4
  go_wp2_with fail
  refine bodyPost_ret (v := .tuple #[d4, .int .i64 0]) (by simp [results, Try.results36, go_sem]) rfl ?_
  exact R4.out.nb he.out (by rw [HA4.out, HA3.out, HB4.out]; simp [bnod, bbody, bint])
set_option maxRecDepth 100000 in
set_option maxHeartbeats 4000000 in
theorem rnode5' {x : NV} (hk : x.n.kind = 5) (hT : NodT x.n) (w : World) (hN : NR w.heap.size w x) (lc : x.n.code.length ≤ 140737488355328) (ld : x.n.conns.length ≤ 140737488355328) (hp : ports x.n = true) (hb : bare x.n = true) (hc : x.n.code.length ≤ 16) (hd : x.n.conns.length ≤ 16) : Calls Try.prog 36 #[.agg x.cells] w (Nb w x.n) := by
  have hmx : Try.prog.follows .mixedOrders = true := by kernel_rfl
  obtain ⟨⟨k, i, o, cd, via, bd, cn, st⟩, cq, cm, cc, dq, dm, dc⟩ := x
  have HCM : Hid (cm = cd.length) := by
    obtain ⟨p, c, h⟩ := hN.code.form
    simp only [Value.slice.injEq] at h
    exact h.2.1
  have HDM : Hid (dm = cn.length) := by
    obtain ⟨p, c, h⟩ := hN.conns.form
    simp only [Value.slice.injEq] at h
    exact h.2.1
  simp only at *
  subst hk
  obtain ⟨W0, hW0⟩ : ∃ W, W = w.alloc (.cells (ncells 5 i o (.slice cq cm cc) via bd (.slice dq dm dc) st) 67) := ⟨_, rfl⟩
  have G0 : Hid (Gr w W0 ∧ W0.heap[w.heap.size]? = some (.cells (ncells 5 i o (.slice cq cm cc) via bd (.slice dq dm dc) st) 67 (0, 0))) := by
    rw [hW0]
    exact ⟨(Gr.refl w).alloc _, heap_new' _ _⟩
  have HW : Hid (w.alloc (.cells #[.int .i64 5, .int .i64 i, .int .i64 o, .slice cq cm cc, .int .u64 (via.1 : Nat), .int .u64 (via.2.1 : Nat), .int .u64 (via.2.2 : Nat), .int .u64 (bd : Nat), .slice dq dm dc, .bool st] 67) = W0) := hW0.symm
  have HT := hid hT
  have HN := hid hN
  have HP := fun W => rports_any ⟨⟨5, i, o, cd, via, bd, cn, st⟩, cq, cm, cc, dq, dm, dc⟩ W
  have HBr := fun W => rbare_any ⟨⟨5, i, o, cd, via, bd, cn, st⟩, cq, cm, cc, dq, dm, dc⟩ HCM.out HDM.out W
  clear hT hN hW0
  simp only [NV.cells, NV.cv, NV.dv] at *
  go_enter Try.func36, Try.ntmps36
  have hcd : cd = [] := by
    have h := hb
    simp [bare] at h
    exact h.1
  have hcn : cn = [] := by
    have h := hb
    simp [bare] at h
    exact h.2.1
  have he : Hid (enod ⟨5, i, o, cd, via, bd, cn, st⟩ = 0) := by
    show enod _ = _
    unfold enod
    rw [if_neg (by simp), if_neg (by rw [hp]; simp), if_neg (by rw [hb]; simp), if_neg (by simp only; omega), if_neg (by simp [hcd]), if_neg (by simp [hcn])]
  have HCD := hid hcd
  have HCN := hid hcn
  clear hcd hcn
  go_wp2_with fail
  rw [HW.out]
  clear HW
  refine (HP _).mono ?_
  rintro r w1 ⟨rfl, g1⟩
  have n1 := (g1.below.block _ (tk_lt G0.out.2)).trans G0.out.2
  have G1 := hid (And.intro (G0.out.1.trans g1) n1)
  have c1 := (tk_store n1).1
  have l1 := tk_lt n1
  clear g1 n1 G0 HP
  rw [hp]
  go_wp2_with fail
  refine (HBr _).mono ?_
  rintro r w2 ⟨rfl, g2⟩
  have n2 := (g2.below.block _ (tk_lt G1.out.2)).trans G1.out.2
  have G2 := hid (And.intro (G1.out.1.trans g2) n2)
  clear c1 l1
  have c2 := (tk_store n2).1
  have l2 := tk_lt n2
  clear g2 n2 G1 HBr
  rw [hb]
  have z1 : ¬ (16 : Int) < (cm : Int) := by have := HCM.out; omega
  have z2 : ¬ (16 : Int) < (dm : Int) := by have := HDM.out; omega
  clear hc hd lc ld
  go_wp2_with fail
  refine (rnumber_any 5 (by decide) _).mono ?_
  rintro r w3 ⟨b3, d3, rfl, h3⟩
  obtain ⟨A3, hA3⟩ : ∃ A, A = form 5 := ⟨_, rfl⟩
  rw [← hA3] at h3
  have R3 : Hid (Rn w w3 ⟨⟨5, i, o, cd, via, bd, cn, st⟩, cq, cm, cc, dq, dm, dc⟩ d3 A3) := ⟨G2.out.1.below.trans (b3.mono G2.out.1.size), (b3.block _ (tk_lt G2.out.2)).trans G2.out.2, owns_base h3 (by have := tk_lt G2.out.2; omega), by rw [hA3]; exact Nat.le_trans (form_ten (by decide)) (by decide)⟩
  have HA3 := hid hA3
  have LA3 : Hid (A3.length ≤ 10) := by show _ ≤ _; rw [hA3]; exact form_ten (by decide)
  clear b3 h3 G2 c2 l2 hA3
  obtain ⟨c3, l3⟩ := R3.out.facts
  simp only [NV.cells, NV.cv, NV.dv] at c3
  obtain ⟨B4, hB4⟩ : ∃ B : List UInt8, B = form bd := ⟨_, rfl⟩
  have lB4 : Hid (B4.length ≤ 10) := by show _ ≤ _; rw [hB4]; exact form_ten (u64lt HT.out.2.2.2.2.2.1)
  have HB4 := hid hB4
  clear hB4
  go_wp2_with fail
  refine (rnumber_any bd (u64lt HT.out.2.2.2.2.2.1) _).mono ?_
  rintro r wa4 ⟨ba, da, rfl, ha⟩
  rw [← HB4.out] at ha
  have Oa := hid (owns_below R3.out.row ba)
  have Da := hid (owns_ls (E := EB) ha)
  have Ba := hid ba
  clear ba ha c3 l3
  go_wp2_with (at_builtin; refine wpBL rfl _ _ rfl (w.heap.size + 1) _ A3 rfl Oa.out _ B4 rfl (Or.inl Da.out) (by have := lB4.out; have := R3.out.len; omega) (Nat.le_trans R3.out.facts.2 Ba.out.size) ?_)
  intro d4 w4 h3 k3
  obtain ⟨A4, hA4⟩ : ∃ A, A = A3 ++ B4 := ⟨_, rfl⟩
  have R4 : Hid (Rn w w4 ⟨⟨5, i, o, cd, via, bd, cn, st⟩, cq, cm, cc, dq, dm, dc⟩ d4 A4) := by
    rw [hA4]
    exact R3.out.app Ba.out (owns_re h3.out (by simp) rfl) k3.out (by have := lB4.out; have := LA3.out; rw [List.length_append]; omega)
  have HA4 := hid hA4
  have LA4 : Hid (A4.length ≤ 20) := by show _ ≤ _; have := lB4.out; have := LA3.out; rw [hA4, List.length_append]; omega
  clear hA4 h3 k3 Oa Da Ba
  obtain ⟨c4, l4⟩ := R4.out.facts
  simp only [NV.cells, NV.cv, NV.dv] at c4
  obtain ⟨B5, hB5⟩ : ∃ B : List UInt8, B = bpth via := ⟨_, rfl⟩
  have lB5 : Hid (B5.length ≤ 30) := by show _ ≤ _; rw [hB5]; exact bpth_len HT.out.2.2.2.2.1
  have HB5 := hid hB5
  clear hB5
  go_wp2_with fail
  refine (rpath_any via HT.out.2.2.2.2.1 _).mono ?_
  rintro r wa5 ⟨ba, da, rfl, ha⟩
  rw [← HB5.out] at ha
  have Oa := hid (owns_below R4.out.row ba)
  have Da := hid (owns_ls (E := EB) ha)
  have Ba := hid ba
  clear ba ha c4 l4
  go_wp2_with (at_builtin; refine wpBL rfl _ _ rfl (w.heap.size + 1) _ A4 rfl Oa.out _ B5 rfl (Or.inl Da.out) (by have := lB5.out; have := R4.out.len; omega) (Nat.le_trans R4.out.facts.2 Ba.out.size) ?_)
  intro d5 w5 h3 k3
  obtain ⟨A5, hA5⟩ : ∃ A, A = A4 ++ B5 := ⟨_, rfl⟩
  have R5 : Hid (Rn w w5 ⟨⟨5, i, o, cd, via, bd, cn, st⟩, cq, cm, cc, dq, dm, dc⟩ d5 A5) := by
    rw [hA5]
    exact R4.out.app Ba.out (owns_re h3.out (by simp) rfl) k3.out (by have := lB5.out; have := LA4.out; rw [List.length_append]; omega)
  have HA5 := hid hA5
  have LA5 : Hid (A5.length ≤ 50) := by show _ ≤ _; have := lB5.out; have := LA4.out; rw [hA5, List.length_append]; omega
  clear hA5 h3 k3 Oa Da Ba
  obtain ⟨c5, l5⟩ := R5.out.facts
  simp only [NV.cells, NV.cv, NV.dv] at c5
  go_wp2_with fail
  refine bodyPost_ret (v := .tuple #[d5, .int .i64 0]) (by simp [results, Try.results36, go_sem]) rfl ?_
  exact R5.out.nb he.out (by rw [HA5.out, HA4.out, HA3.out, HB4.out, HB5.out]; simp [bnod, bbody, bint])
end Go.Proofs.Ytnclnagpfjmlcaa.Df
