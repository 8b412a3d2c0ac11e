import Derived.Test.YtijbmchgajhkeaaSuFill
import Derived.Test.YtijbmchgajhkeaaLHold2
import Derived.Deep.DeepCutAuto
namespace Go.Proofs.Ytijbmchgajhkeaa
open Go.RowKit Go.Sort Go.Maps Go.Shelf
attribute [local go_sem ↓] Go.wp_at_zero Go.wp_at_succ

def one : Tm := ⟨(1, 0, 0), by decide⟩
def two : Tm := ⟨(0, 2, 0), by decide⟩
def r75 : Rc := (⟨7, by decide⟩, ⟨5, by decide⟩)
def r71 : Rc := (⟨7, by decide⟩, ⟨1, by decide⟩)
def r39 : Rc := (⟨3, by decide⟩, ⟨9, by decide⟩)
def A3 : List Ct := [(one, r75), (two, r71), (one, r39)]
theorem k_h1 : (!decide (Hld [] one)) = true := by decide
theorem k_h2 : (!decide (Hld [(one, r75)] two)) = true := by decide
theorem k_h3 : (!decide (Hld [(one, r75), (two, r71)] one)) = false := by decide
theorem k_tms : tms A3 = [two, one] := by decide
theorem k_rdy : rdy A3 [one] = [two] := by decide
theorem k_rcs : rcs A3 one = [r39, r75] := by decide
theorem k_lft : rcs (lft A3 one) one = [] := by decide
theorem nw_not {S : Nat → Prop} {w : World} {k : Nat} (h : ¬ S k) (hk : k < w.heap.size) : ¬ nw S w k := fun hn => h (nw_in hn hk)
/-- A list that was laid as a literal. -/
theorem ls_lit {α : Type} {E : El α} {w : World} {b : Nat} {l : List α} {cs : Array Value} {ty : TypeId} (h : w.heap[b]? = some (.cells cs ty (0, 0))) (hc : cs.toList = fl E l) (n c : Nat) (hn : n = l.length) : Ls E w (.slice (some ⟨b, 0, none⟩) n c) l := by
  subst hn
  refine .inr ⟨b, 0, c, rfl, (Array.getElem?_eq_some_iff.1 h).1, fun j u hj => ?_⟩
  rw [← hc] at hj
  simp only [World.cell?, h, Nat.zero_add]
  simpa using hj
set_option maxHeartbeats 8000000 in
set_option maxRecDepth 100000 in
theorem known_any (w : World) : Calls Try.prog 7 #[] w fun e w' => e = .returned (.bool true) ∧ Below w.heap.size w w' := by
  have hmx : Try.prog.follows .mixedOrders = true := by kernel_rfl
  have hnew := snew_any w
  go_enter Try.func7, Try.ntmps7
  go_wp2_with fail
  refine hnew.mono ?_
  rintro e w1 ⟨rfl, hS1, hg1⟩
  obtain ⟨sb, hsb⟩ : ∃ sb, sb = w.heap.size := ⟨_, rfl⟩
  have hS1 : Su w1 (fun k => w.heap.size ≤ k) 0 sb [] := by rw [hsb]; exact hS1
  have HS1 := hid hS1.cut
  have HB1 : Hid (Below w.heap.size w w1) := hg1.below
  rw [← hsb]
  clear hsb hnew hg1
  obtain ⟨W2, hW2⟩ : ∃ W2, W2 = (w1.alloc (.cells #[.int .u64 1, .int .u64 0, .int .u64 0] 32)).alloc (.cells #[.int .u64 0, .int .u64 2, .int .u64 0] 32) := ⟨_, rfl⟩
  obtain ⟨b1, hb1⟩ : ∃ b1, b1 = w1.heap.size := ⟨_, rfl⟩
  obtain ⟨b2, hb2⟩ : ∃ b2, b2 = w1.heap.size + 1 := ⟨_, rfl⟩
  have G2 : Gr w1 W2 := by rw [hW2]; exact ((Gr.refl _).alloc _).alloc _
  have HX1 : Hid (W2.heap[b1]? = some (.cells #[.int .u64 one.1.1, .int .u64 one.1.2.1, .int .u64 one.1.2.2] 32 (0, 0))) := by rw [hW2, hb1]; exact heap_alloc2_old _ _ _
  have HX2 : Hid (W2.heap[b2]? = some (.cells #[.int .u64 two.1.1, .int .u64 two.1.2.1, .int .u64 two.1.2.2] 32 (0, 0))) := by rw [hW2, hb2]; exact heap_alloc2_new _ _ _
  obtain ⟨S0, hS0⟩ : ∃ S0 : Nat → Prop, S0 = fun k => w.heap.size ≤ k ∧ k < w1.heap.size := ⟨_, rfl⟩
  have HS2 : Hid (Su W2 S0 0 sb []) := by rw [hS0]; exact HS1.out.below G2.below
  have HN : Hid (¬ S0 b1 ∧ ¬ S0 b2 ∧ ∀ k, S0 k → w.heap.size ≤ k) := by
    rw [hS0]
    exact ⟨fun h => by have := h.2; omega, fun h => by have := h.2; omega, fun k h => h.1⟩
  have HB2 : Hid (Below w.heap.size w W2) := HB1.out.trans (G2.below.mono HB1.out.size)
  obtain ⟨i0, i1, i2, i3⟩ := bx_cell HX1.out
  obtain ⟨j0, j1, j2, j3⟩ := bx_cell HX2.out
  have had1 := sadd_any one r75 W2 HS2.out (by decide)
  rw [k_h1] at had1
  clear hS1 HS1 hS0 j0 j1 j2
  go_upto_region 6 with fail
  rw [← hb2, ← hb1, ← hW2]
  clear hW2 hb1 hb2 G2
  go_wp2_with fail
  refine had1.mono ?_
  clear i0 i1 i2 i3 j3 had1
  rintro e W3 ⟨rfl, hA3⟩
  obtain ⟨S1, hS1⟩ : ∃ S1 : Nat → Prop, S1 = nw S0 W2 := ⟨_, rfl⟩
  have HSW3 : Hid (Su W3 S1 3 sb [(one, r75)]) := by rw [hS1]; exact hA3.out.1
  have HXA3 : Hid (W3.heap[b1]? = some (.cells #[.int .u64 one.1.1, .int .u64 one.1.2.1, .int .u64 one.1.2.2] 32 (0, 0))) := (hA3.out.2.block b1 (Array.getElem?_eq_some_iff.1 HX1.out).1 HN.out.1).trans HX1.out
  have HXB3 : Hid (W3.heap[b2]? = some (.cells #[.int .u64 two.1.1, .int .u64 two.1.2.1, .int .u64 two.1.2.2] 32 (0, 0))) := (hA3.out.2.block b2 (Array.getElem?_eq_some_iff.1 HX2.out).1 HN.out.2.1).trans HX2.out
  have HNN3 : Hid (¬ S1 b1 ∧ ¬ S1 b2 ∧ ∀ k, S1 k → w.heap.size ≤ k) := by
    rw [hS1]
    exact ⟨nw_not HN.out.1 (Array.getElem?_eq_some_iff.1 HX1.out).1, nw_not HN.out.2.1 (Array.getElem?_eq_some_iff.1 HX2.out).1, fun k h => h.elim (fun h => HN.out.2.2 k h.1) fun h => Nat.le_trans HB2.out.size h⟩
  have HBB3 : Hid (Below w.heap.size w W3) := HB2.out.trans (hA3.out.2.below HB2.out.size HN.out.2.2)
  clear HX1 HX2 HN HB2 hS1 hA3
  have HX1 := HXA3
  have HX2 := HXB3
  have HN := HNN3
  have HB2 := HBB3
  clear HXA3 HXB3 HNN3 HBB3
  obtain ⟨i0, i1, i2, i3⟩ := bx_cell HX1.out
  obtain ⟨j0, j1, j2, j3⟩ := bx_cell HX2.out
  have had2 := sadd_any two r71 W3 HSW3.out (by decide)
  rw [k_h2] at had2
  clear HS2
  go_wp2_with fail
  refine had2.mono ?_
  clear i0 i1 i2 i3 j0 j1 j2 j3 had2
  rintro e W4 ⟨rfl, hA4⟩
  obtain ⟨S2, hS2⟩ : ∃ S2 : Nat → Prop, S2 = nw S1 W3 := ⟨_, rfl⟩
  have HSW4 : Hid (Su W4 S2 6 sb [(one, r75), (two, r71)]) := by rw [hS2]; exact hA4.out.1
  have HXA4 : Hid (W4.heap[b1]? = some (.cells #[.int .u64 one.1.1, .int .u64 one.1.2.1, .int .u64 one.1.2.2] 32 (0, 0))) := (hA4.out.2.block b1 (Array.getElem?_eq_some_iff.1 HX1.out).1 HN.out.1).trans HX1.out
  have HXB4 : Hid (W4.heap[b2]? = some (.cells #[.int .u64 two.1.1, .int .u64 two.1.2.1, .int .u64 two.1.2.2] 32 (0, 0))) := (hA4.out.2.block b2 (Array.getElem?_eq_some_iff.1 HX2.out).1 HN.out.2.1).trans HX2.out
  have HNN4 : Hid (¬ S2 b1 ∧ ¬ S2 b2 ∧ ∀ k, S2 k → w.heap.size ≤ k) := by
    rw [hS2]
    exact ⟨nw_not HN.out.1 (Array.getElem?_eq_some_iff.1 HX1.out).1, nw_not HN.out.2.1 (Array.getElem?_eq_some_iff.1 HX2.out).1, fun k h => h.elim (fun h => HN.out.2.2 k h.1) fun h => Nat.le_trans HB2.out.size h⟩
  have HBB4 : Hid (Below w.heap.size w W4) := HB2.out.trans (hA4.out.2.below HB2.out.size HN.out.2.2)
  clear HX1 HX2 HN HB2 hS2 hA4
  have HX1 := HXA4
  have HX2 := HXB4
  have HN := HNN4
  have HB2 := HBB4
  clear HXA4 HXB4 HNN4 HBB4
  obtain ⟨i0, i1, i2, i3⟩ := bx_cell HX1.out
  obtain ⟨j0, j1, j2, j3⟩ := bx_cell HX2.out
  have had3 := sadd_any one r39 W4 HSW4.out (by decide)
  rw [k_h3] at had3
  clear HSW3
  go_wp2_with fail
  refine had3.mono ?_
  clear i0 i1 i2 i3 j0 j1 j2 j3 had3
  rintro e W5 ⟨rfl, hA5⟩
  obtain ⟨S3, hS3⟩ : ∃ S3 : Nat → Prop, S3 = nw S2 W4 := ⟨_, rfl⟩
  have HSW5 : Hid (Su W5 S3 9 sb A3) := by rw [hS3]; exact hA5.out.1
  have HXA5 : Hid (W5.heap[b1]? = some (.cells #[.int .u64 one.1.1, .int .u64 one.1.2.1, .int .u64 one.1.2.2] 32 (0, 0))) := (hA5.out.2.block b1 (Array.getElem?_eq_some_iff.1 HX1.out).1 HN.out.1).trans HX1.out
  have HXB5 : Hid (W5.heap[b2]? = some (.cells #[.int .u64 two.1.1, .int .u64 two.1.2.1, .int .u64 two.1.2.2] 32 (0, 0))) := (hA5.out.2.block b2 (Array.getElem?_eq_some_iff.1 HX2.out).1 HN.out.2.1).trans HX2.out
  have HNN5 : Hid (¬ S3 b1 ∧ ¬ S3 b2 ∧ ∀ k, S3 k → w.heap.size ≤ k) := by
    rw [hS3]
    exact ⟨nw_not HN.out.1 (Array.getElem?_eq_some_iff.1 HX1.out).1, nw_not HN.out.2.1 (Array.getElem?_eq_some_iff.1 HX2.out).1, fun k h => h.elim (fun h => HN.out.2.2 k h.1) fun h => Nat.le_trans HB2.out.size h⟩
  have HBB5 : Hid (Below w.heap.size w W5) := HB2.out.trans (hA5.out.2.below HB2.out.size HN.out.2.2)
  clear HX1 HX2 HN HB2 hS3 hA5
  have HX1 := HXA5
  have HX2 := HXB5
  have HN := HNN5
  have HB2 := HBB5
  clear HXA5 HXB5 HNN5 HBB5
  obtain ⟨i0, i1, i2, i3⟩ := bx_cell HX1.out
  obtain ⟨j0, j1, j2, j3⟩ := bx_cell HX2.out
  clear HSW4
  go_upto_region 7 with fail
  have l1 := (Array.getElem?_eq_some_iff.1 HX1.out).1
  have l2 := (Array.getElem?_eq_some_iff.1 HX2.out).1
  clear i0 i1 i2 i3 j0 j1 j2 j3
  go_cut [5] from 28 to 42 (fun s5 w' => s5 = .bool true ∧ Hid (Below W5.heap.size W5 w'))
  case first =>
    refine wp_regionD (S := fun X : World => Hid (Below W5.heap.size W5 X)) (D := []) hmx ?_
    have BD : Hid (Below W5.heap.size W5 W5.drew) := ((Gr.refl W5).drew).below
    generalize W5.drew = Wd at BD ⊢
    refine' wpAnyD_take (i := 0) (oi := { dst := some 28, op := Go.Op.move (Go.Operand.tmp 1), type := 24, pos := "law.go:43", after := #[], guard := none }) (v := _) rfl (by kernel_rfl) (by kernel_rfl) (by kernel_rfl) (fun _ _ _ h => h) (by kernel_rfl) (Or.inl ⟨by rfl, ?hy1⟩) BD ?rest1
    case hy1 => (intro W hSw; go_simp; try (with_reducible rfl))
    try simp only [Act.put, List.setIfInBounds_toArray, List.set_cons_zero, List.set_cons_succ]
    refine' wpAnyD_take (i := 2) (oi := { dst := some 30, op := Go.Op.load 32 (Go.Operand.tmp 3), type := 32, pos := "law.go:43", after := #[], guard := none }) (v := _) rfl (by kernel_rfl) (by kernel_rfl) (by kernel_rfl) (fun _ _ _ h => h) (by kernel_rfl) (Or.inl ⟨by rfl, ?hy2⟩) BD ?rest2
    case hy2 => (intro W hSw; have d1 := (hSw.out.block b1 l1).trans HX1.out; have d2 := (hSw.out.block b2 l2).trans HX2.out; obtain ⟨i0, i1, i2, i3⟩ := bx_cell d1; obtain ⟨j0, j1, j2, j3⟩ := bx_cell d2; clear d1 d2; go_simp; try (with_reducible rfl))
    try simp only [Act.put, List.setIfInBounds_toArray, List.set_cons_zero, List.set_cons_succ]
    refine' wpAnyD_take (i := 3) (oi := { dst := some 31, op := Go.Op.load 32 (Go.Operand.tmp 2), type := 32, pos := "law.go:43", after := #[], guard := none }) (v := _) rfl (by kernel_rfl) (by kernel_rfl) (by kernel_rfl) (fun _ _ _ h => h) (by kernel_rfl) (Or.inl ⟨by rfl, ?hy3⟩) BD ?rest3
    case hy3 => (intro W hSw; have d1 := (hSw.out.block b1 l1).trans HX1.out; have d2 := (hSw.out.block b2 l2).trans HX2.out; obtain ⟨i0, i1, i2, i3⟩ := bx_cell d1; obtain ⟨j0, j1, j2, j3⟩ := bx_cell d2; clear d1 d2; go_simp; try (with_reducible rfl))
    try simp only [Act.put, List.setIfInBounds_toArray, List.set_cons_zero, List.set_cons_succ]
    refine wpAnyD_two (i := 1) (j := 4) (oi := { dst := some 29, op := Go.Op.call { callee := Go.Callee.value (Go.Operand.func 9), args := #[Go.Operand.tmp 28], argTypes := #[24] }, type := 23, pos := "law.go:43", after := #[{ on := 0, ground := Go.Ground.data }], guard := none }) (oj := { dst := some 32, op := Go.Op.buildSlice 23 2 #[(0, Go.Operand.tmp 30), (1, Go.Operand.tmp 31)], type := 23, pos := "law.go:43", after := #[{ on := 2, ground := Go.Ground.data }, { on := 3, ground := Go.Ground.data }], guard := none }) (by kernel_rfl) rfl rfl (fun K hK => ?tA4) (fun K hK => ?tB4)
    case tA4 =>
      rw [if_pos (by kernel_rfl)]
      go_simp
      have ht5 := times_any Wd (HSW5.out.below BD.out) (by decide)
      rw [k_tms] at ht5
      refine ht5.mono ?_
      rintro e V5 ⟨v5, rfl, hr5, hB5, -⟩
      have B5 : Hid (Below W5.heap.size W5 V5) := BD.out.trans (hB5.mono BD.out.size)
      have hl5 := owns_lst (ts := [two, one]) hr5
      obtain ⟨p5, c5, hv5⟩ := hl5.form
      subst hv5
      have R5_1 : Hid (Ls ET V5 (.slice p5 2 c5) [two, one]) := hl5
      clear ht5 hr5 hl5 hB5
      go_wp2_with fail
      refine hK.out _ _ (fun hD => B5) ?_
      clear hK K
      try simp only [Act.put, List.setIfInBounds_toArray, List.set_cons_zero, List.set_cons_succ]
      refine wpAnyD_one (i := 4) (o := { dst := some 32, op := Go.Op.buildSlice 23 2 #[(0, Go.Operand.tmp 30), (1, Go.Operand.tmp 31)], type := 23, pos := "law.go:43", after := #[{ on := 2, ground := Go.Ground.data }, { on := 3, ground := Go.Ground.data }], guard := none }) (by kernel_rfl) rfl (fun K hK => ?_)
      rw [if_pos (by kernel_rfl)]
      go_simp
      obtain ⟨V6, hV6⟩ : ∃ V, V = V5.alloc (.cells #[.int .u64 two.1.1, .int .u64 two.1.2.1, .int .u64 two.1.2.2, .int .u64 one.1.1, .int .u64 one.1.2.1, .int .u64 one.1.2.2] 32) := ⟨_, rfl⟩
      obtain ⟨g6, hg6⟩ : ∃ g, g = V5.heap.size := ⟨_, rfl⟩
      rw [← hV6]
      have hgw : V5.drew.heap.size = V5.heap.size := rfl
      first | rw [← hg6] | (rw [← hgw] at hg6; rw [← hg6]) | skip
      have G6 : Gr V5 V6 := by rw [hV6]; exact (Gr.refl _).alloc _
      have B6 : Hid (Below W5.heap.size W5 V6) := B5.out.trans (G6.below.mono B5.out.size)
      have R6_1 : Hid (Ls ET V6 (.slice p5 2 c5) [two, one]) := R5_1.out.below (G6.below)
      have R6_4 : Hid (Ls ET V6 (.slice (some ⟨g6, 0, none⟩) 2 2) [two, one]) := ls_lit (by rw [hV6, hg6]; exact heap_new' _ _) rfl _ _ rfl
      clear hV6 hg6 hgw
      refine hK.out _ _ (fun hD => B6) ?_
      clear hK K
      try simp only [Act.put, List.setIfInBounds_toArray, List.set_cons_zero, List.set_cons_succ]
      refine wpAnyD_one (i := 5) (o := { dst := some 33, op := Go.Op.call { callee := Go.Callee.value (Go.Operand.func 8), args := #[Go.Operand.tmp 29, Go.Operand.tmp 32], argTypes := #[23, 23] }, type := 4, pos := "law.go:43", after := #[{ on := 1, ground := Go.Ground.data }, { on := 4, ground := Go.Ground.data }, { on := 1, ground := Go.Ground.chain }], guard := none }) (by kernel_rfl) rfl (fun K hK => ?_)
      rw [if_pos (by kernel_rfl)]
      go_simp
      refine (times_eq V6 R6_1.out R6_4.out (by decide)).mono ?_
      rintro e V7 ⟨rfl, hg7⟩
      have B7 : Hid (Below W5.heap.size W5 V7) := B6.out.trans (hg7.below.mono B6.out.size)
      clear hg7
      go_wp2_with fail
      refine hK.out _ _ (fun hD => B7) ?_
      clear hK K
      try simp only [Act.put, List.setIfInBounds_toArray, List.set_cons_zero, List.set_cons_succ]
      refine' wpAnyD_take (i := 6) (oi := { dst := some 34, op := Go.Op.move (Go.Operand.tmp 33), type := 4, pos := "law.go:43", after := #[{ on := 5, ground := Go.Ground.data }, { on := 5, ground := Go.Ground.chain }], guard := none }) (v := _) rfl (by kernel_rfl) (by kernel_rfl) (by kernel_rfl) (fun _ _ _ h => h) (by kernel_rfl) (Or.inl ⟨by rfl, ?hy8⟩) B7 ?rest8
      case hy8 => (intro W hSw; go_simp; try (with_reducible rfl))
      try simp only [Act.put, List.setIfInBounds_toArray, List.set_cons_zero, List.set_cons_succ]
      refine' wpAnyD_take (i := 7) (oi := { dst := some 35, op := Go.Op.move (Go.Operand.tmp 1), type := 24, pos := "law.go:43", after := #[{ on := 6, ground := Go.Ground.guard }], guard := some (6, true) }) (v := _) rfl (by kernel_rfl) (by kernel_rfl) (by kernel_rfl) (fun _ _ _ h => h) (by kernel_rfl) (Or.inl ⟨by rfl, ?hy9⟩) B7 ?rest9
      case hy9 => (intro W hSw; go_simp; try (with_reducible rfl))
      try simp only [Act.put, List.setIfInBounds_toArray, List.set_cons_zero, List.set_cons_succ]
      refine' wpAnyD_take (i := 8) (oi := { dst := some 36, op := Go.Op.load 32 (Go.Operand.tmp 2), type := 32, pos := "law.go:43", after := #[{ on := 6, ground := Go.Ground.guard }], guard := some (6, true) }) (v := _) rfl (by kernel_rfl) (by kernel_rfl) (by kernel_rfl) (fun _ _ _ h => h) (by kernel_rfl) (Or.inl ⟨by rfl, ?hy10⟩) B7 ?rest10
      case hy10 => (intro W hSw; have d1 := (hSw.out.block b1 l1).trans HX1.out; have d2 := (hSw.out.block b2 l2).trans HX2.out; obtain ⟨i0, i1, i2, i3⟩ := bx_cell d1; obtain ⟨j0, j1, j2, j3⟩ := bx_cell d2; clear d1 d2; go_simp; try (with_reducible rfl))
      try simp only [Act.put, List.setIfInBounds_toArray, List.set_cons_zero, List.set_cons_succ]
      refine' wpAnyD_take (i := 11) (oi := { dst := some 39, op := Go.Op.load 32 (Go.Operand.tmp 3), type := 32, pos := "law.go:43", after := #[{ on := 6, ground := Go.Ground.guard }], guard := some (6, true) }) (v := _) rfl (by kernel_rfl) (by kernel_rfl) (by kernel_rfl) (fun _ _ _ h => h) (by kernel_rfl) (Or.inl ⟨by rfl, ?hy11⟩) B7 ?rest11
      case hy11 => (intro W hSw; have d1 := (hSw.out.block b1 l1).trans HX1.out; have d2 := (hSw.out.block b2 l2).trans HX2.out; obtain ⟨i0, i1, i2, i3⟩ := bx_cell d1; obtain ⟨j0, j1, j2, j3⟩ := bx_cell d2; clear d1 d2; go_simp; try (with_reducible rfl))
      try simp only [Act.put, List.setIfInBounds_toArray, List.set_cons_zero, List.set_cons_succ]
      refine wpAnyD_two (i := 9) (j := 12) (oi := { dst := some 37, op := Go.Op.buildSlice 23 1 #[(0, Go.Operand.tmp 36)], type := 23, pos := "law.go:43", after := #[{ on := 8, ground := Go.Ground.data }, { on := 6, ground := Go.Ground.guard }], guard := some (6, true) }) (oj := { dst := some 40, op := Go.Op.buildSlice 23 1 #[(0, Go.Operand.tmp 39)], type := 23, pos := "law.go:43", after := #[{ on := 11, ground := Go.Ground.data }, { on := 6, ground := Go.Ground.guard }], guard := some (6, true) }) (by kernel_rfl) rfl rfl (fun K hK => ?tA12) (fun K hK => ?tB12)
      case tA12 =>
        rw [if_pos (by kernel_rfl)]
        go_simp
        obtain ⟨V13, hV13⟩ : ∃ V, V = V7.alloc (.cells #[.int .u64 one.1.1, .int .u64 one.1.2.1, .int .u64 one.1.2.2] 32) := ⟨_, rfl⟩
        obtain ⟨g13, hg13⟩ : ∃ g, g = V7.heap.size := ⟨_, rfl⟩
        rw [← hV13]
        have hgw : V7.drew.heap.size = V7.heap.size := rfl
        first | rw [← hg13] | (rw [← hgw] at hg13; rw [← hg13]) | skip
        have G13 : Gr V7 V13 := by rw [hV13]; exact (Gr.refl _).alloc _
        have B13 : Hid (Below W5.heap.size W5 V13) := B7.out.trans (G13.below.mono B7.out.size)
        have R13_9 : Hid (Ls ET V13 (.slice (some ⟨g13, 0, none⟩) 1 1) [one]) := ls_lit (by rw [hV13, hg13]; exact heap_new' _ _) rfl _ _ rfl
        clear hV13 hg13 hgw
        refine hK.out _ _ (fun hD => B13) ?_
        clear hK K
        try simp only [Act.put, List.setIfInBounds_toArray, List.set_cons_zero, List.set_cons_succ]
        refine wpAnyD_two (i := 10) (j := 12) (oi := { dst := some 38, op := Go.Op.call { callee := Go.Callee.value (Go.Operand.func 10), args := #[Go.Operand.tmp 35, Go.Operand.tmp 37], argTypes := #[24, 23] }, type := 23, pos := "law.go:43", after := #[{ on := 7, ground := Go.Ground.data }, { on := 9, ground := Go.Ground.data }, { on := 6, ground := Go.Ground.chain }, { on := 6, ground := Go.Ground.guard }], guard := some (6, true) }) (oj := { dst := some 40, op := Go.Op.buildSlice 23 1 #[(0, Go.Operand.tmp 39)], type := 23, pos := "law.go:43", after := #[{ on := 11, ground := Go.Ground.data }, { on := 6, ground := Go.Ground.guard }], guard := some (6, true) }) (by kernel_rfl) rfl rfl (fun K hK => ?tA14) (fun K hK => ?tB14)
        case tA14 =>
          rw [if_pos (by kernel_rfl)]
          go_simp
          have ht15 := ready_any _ [one] V13 (HSW5.out.below B13.out) (by decide) R13_9.out (by decide)
          rw [k_rdy] at ht15
          refine ht15.mono ?_
          rintro e V15 ⟨v15, rfl, hr15, hB15, -⟩
          have B15 : Hid (Below W5.heap.size W5 V15) := B13.out.trans (hB15.mono B13.out.size)
          have hl15 := owns_lst (ts := [two]) hr15
          obtain ⟨p15, c15, hv15⟩ := hl15.form
          subst hv15
          have R15_10 : Hid (Ls ET V15 (.slice p15 1 c15) [two]) := hl15
          have R15_9 : Hid (Ls ET V15 (.slice (some ⟨g13, 0, none⟩) 1 1) [one]) := R13_9.out.below (hB15)
          clear ht15 hr15 hl15 hB15
          go_wp2_with fail
          refine hK.out _ _ (fun hD => B15) ?_
          clear hK K
          try simp only [Act.put, List.setIfInBounds_toArray, List.set_cons_zero, List.set_cons_succ]
          refine wpAnyD_one (i := 12) (o := { dst := some 40, op := Go.Op.buildSlice 23 1 #[(0, Go.Operand.tmp 39)], type := 23, pos := "law.go:43", after := #[{ on := 11, ground := Go.Ground.data }, { on := 6, ground := Go.Ground.guard }], guard := some (6, true) }) (by kernel_rfl) rfl (fun K hK => ?_)
          rw [if_pos (by kernel_rfl)]
          go_simp
          obtain ⟨V16, hV16⟩ : ∃ V, V = V15.alloc (.cells #[.int .u64 two.1.1, .int .u64 two.1.2.1, .int .u64 two.1.2.2] 32) := ⟨_, rfl⟩
          obtain ⟨g16, hg16⟩ : ∃ g, g = V15.heap.size := ⟨_, rfl⟩
          rw [← hV16]
          have hgw : V15.drew.heap.size = V15.heap.size := rfl
          first | rw [← hg16] | (rw [← hgw] at hg16; rw [← hg16]) | skip
          have G16 : Gr V15 V16 := by rw [hV16]; exact (Gr.refl _).alloc _
          have B16 : Hid (Below W5.heap.size W5 V16) := B15.out.trans (G16.below.mono B15.out.size)
          have R16_9 : Hid (Ls ET V16 (.slice (some ⟨g13, 0, none⟩) 1 1) [one]) := R15_9.out.below (G16.below)
          have R16_10 : Hid (Ls ET V16 (.slice p15 1 c15) [two]) := R15_10.out.below (G16.below)
          have R16_12 : Hid (Ls ET V16 (.slice (some ⟨g16, 0, none⟩) 1 1) [two]) := ls_lit (by rw [hV16, hg16]; exact heap_new' _ _) rfl _ _ rfl
          clear hV16 hg16 hgw
          refine hK.out _ _ (fun hD => B16) ?_
          clear hK K
          try simp only [Act.put, List.setIfInBounds_toArray, List.set_cons_zero, List.set_cons_succ]
          refine wpAnyD_one (i := 13) (o := { dst := some 41, op := Go.Op.call { callee := Go.Callee.value (Go.Operand.func 8), args := #[Go.Operand.tmp 38, Go.Operand.tmp 40], argTypes := #[23, 23] }, type := 4, pos := "law.go:43", after := #[{ on := 10, ground := Go.Ground.data }, { on := 12, ground := Go.Ground.data }, { on := 10, ground := Go.Ground.chain }, { on := 6, ground := Go.Ground.guard }], guard := some (6, true) }) (by kernel_rfl) rfl (fun K hK => ?_)
          rw [if_pos (by kernel_rfl)]
          go_simp
          refine (times_eq V16 R16_10.out R16_12.out (by decide)).mono ?_
          rintro e V17 ⟨rfl, hg17⟩
          have B17 : Hid (Below W5.heap.size W5 V17) := B16.out.trans (hg17.below.mono B16.out.size)
          have R17_9 : Hid (Ls ET V17 (.slice (some ⟨g13, 0, none⟩) 1 1) [one]) := R16_9.out.below (hg17.below)
          have R17_10 : Hid (Ls ET V17 (.slice p15 1 c15) [two]) := R16_10.out.below (hg17.below)
          have R17_12 : Hid (Ls ET V17 (.slice (some ⟨g16, 0, none⟩) 1 1) [two]) := R16_12.out.below (hg17.below)
          clear hg17
          go_wp2_with fail
          refine hK.out _ _ (fun hD => B17) ?_
          clear hK K
          try simp only [Act.put, List.setIfInBounds_toArray, List.set_cons_zero, List.set_cons_succ]
          refine' wpAnyD_take (i := 14) (oi := { dst := some 42, op := Go.Op.pick (Go.Operand.tmp 34) (Go.Operand.tmp 41) (Go.Operand.const (Go.Value.bool false)), type := 4, pos := "law.go:43", after := #[{ on := 6, ground := Go.Ground.data }, { on := 13, ground := Go.Ground.data }], guard := none }) (v := _) rfl (by kernel_rfl) (by kernel_rfl) (by kernel_rfl) (fun _ _ _ h => h) (by kernel_rfl) (Or.inl ⟨by rfl, ?hy18⟩) B17 ?rest18
          case hy18 => (intro W hSw; go_simp; try (with_reducible rfl))
          try simp only [Act.put, List.setIfInBounds_toArray, List.set_cons_zero, List.set_cons_succ]
          refine' wpAnyD_take (i := 15) (oi := { dst := some 5, op := Go.Op.assign (Go.Operand.tmp 42), type := 4, pos := "law.go:43", after := #[{ on := 14, ground := Go.Ground.data }, { on := 13, ground := Go.Ground.chain }, { on := 0, ground := Go.Ground.phase }, { on := 1, ground := Go.Ground.phase }, { on := 2, ground := Go.Ground.phase }, { on := 3, ground := Go.Ground.phase }, { on := 4, ground := Go.Ground.phase }, { on := 5, ground := Go.Ground.phase }, { on := 6, ground := Go.Ground.phase }, { on := 7, ground := Go.Ground.phase }, { on := 8, ground := Go.Ground.phase }, { on := 9, ground := Go.Ground.phase }, { on := 10, ground := Go.Ground.phase }, { on := 11, ground := Go.Ground.phase }, { on := 12, ground := Go.Ground.phase }, { on := 13, ground := Go.Ground.phase }, { on := 14, ground := Go.Ground.phase }], guard := none }) (v := _) rfl (by kernel_rfl) (by kernel_rfl) (by kernel_rfl) (fun _ _ _ h => h) (by kernel_rfl) (Or.inl ⟨by rfl, ?hy19⟩) B17 ?rest19
          case hy19 => (intro W hSw; go_simp; try (with_reducible rfl))
          try simp only [Act.put, List.setIfInBounds_toArray, List.set_cons_zero, List.set_cons_succ]
          refine wpAnyD_done (by kernel_rfl) ?_ _
          go_wp2_with fail
          go_meet
          exact ⟨rfl, B17.out⟩
        case tB14 =>
          rw [if_pos (by kernel_rfl)]
          go_simp
          obtain ⟨V20, hV20⟩ : ∃ V, V = V13.alloc (.cells #[.int .u64 two.1.1, .int .u64 two.1.2.1, .int .u64 two.1.2.2] 32) := ⟨_, rfl⟩
          obtain ⟨g20, hg20⟩ : ∃ g, g = V13.heap.size := ⟨_, rfl⟩
          rw [← hV20]
          have hgw : V13.drew.heap.size = V13.heap.size := rfl
          first | rw [← hg20] | (rw [← hgw] at hg20; rw [← hg20]) | skip
          have G20 : Gr V13 V20 := by rw [hV20]; exact (Gr.refl _).alloc _
          have B20 : Hid (Below W5.heap.size W5 V20) := B13.out.trans (G20.below.mono B13.out.size)
          have R20_9 : Hid (Ls ET V20 (.slice (some ⟨g13, 0, none⟩) 1 1) [one]) := R13_9.out.below (G20.below)
          have R20_12 : Hid (Ls ET V20 (.slice (some ⟨g20, 0, none⟩) 1 1) [two]) := ls_lit (by rw [hV20, hg20]; exact heap_new' _ _) rfl _ _ rfl
          clear hV20 hg20 hgw
          refine hK.out _ _ (fun hD => B20) ?_
          clear hK K
          try simp only [Act.put, List.setIfInBounds_toArray, List.set_cons_zero, List.set_cons_succ]
          refine wpAnyD_one (i := 10) (o := { dst := some 38, op := Go.Op.call { callee := Go.Callee.value (Go.Operand.func 10), args := #[Go.Operand.tmp 35, Go.Operand.tmp 37], argTypes := #[24, 23] }, type := 23, pos := "law.go:43", after := #[{ on := 7, ground := Go.Ground.data }, { on := 9, ground := Go.Ground.data }, { on := 6, ground := Go.Ground.chain }, { on := 6, ground := Go.Ground.guard }], guard := some (6, true) }) (by kernel_rfl) rfl (fun K hK => ?_)
          rw [if_pos (by kernel_rfl)]
          go_simp
          have ht21 := ready_any _ [one] V20 (HSW5.out.below B20.out) (by decide) R20_9.out (by decide)
          rw [k_rdy] at ht21
          refine ht21.mono ?_
          rintro e V21 ⟨v21, rfl, hr21, hB21, -⟩
          have B21 : Hid (Below W5.heap.size W5 V21) := B20.out.trans (hB21.mono B20.out.size)
          have hl21 := owns_lst (ts := [two]) hr21
          obtain ⟨p21, c21, hv21⟩ := hl21.form
          subst hv21
          have R21_10 : Hid (Ls ET V21 (.slice p21 1 c21) [two]) := hl21
          have R21_9 : Hid (Ls ET V21 (.slice (some ⟨g13, 0, none⟩) 1 1) [one]) := R20_9.out.below (hB21)
          have R21_12 : Hid (Ls ET V21 (.slice (some ⟨g20, 0, none⟩) 1 1) [two]) := R20_12.out.below (hB21)
          clear ht21 hr21 hl21 hB21
          go_wp2_with fail
          refine hK.out _ _ (fun hD => B21) ?_
          clear hK K
          try simp only [Act.put, List.setIfInBounds_toArray, List.set_cons_zero, List.set_cons_succ]
          refine wpAnyD_one (i := 13) (o := { dst := some 41, op := Go.Op.call { callee := Go.Callee.value (Go.Operand.func 8), args := #[Go.Operand.tmp 38, Go.Operand.tmp 40], argTypes := #[23, 23] }, type := 4, pos := "law.go:43", after := #[{ on := 10, ground := Go.Ground.data }, { on := 12, ground := Go.Ground.data }, { on := 10, ground := Go.Ground.chain }, { on := 6, ground := Go.Ground.guard }], guard := some (6, true) }) (by kernel_rfl) rfl (fun K hK => ?_)
          rw [if_pos (by kernel_rfl)]
          go_simp
          refine (times_eq V21 R21_10.out R21_12.out (by decide)).mono ?_
          rintro e V22 ⟨rfl, hg22⟩
          have B22 : Hid (Below W5.heap.size W5 V22) := B21.out.trans (hg22.below.mono B21.out.size)
          have R22_9 : Hid (Ls ET V22 (.slice (some ⟨g13, 0, none⟩) 1 1) [one]) := R21_9.out.below (hg22.below)
          have R22_12 : Hid (Ls ET V22 (.slice (some ⟨g20, 0, none⟩) 1 1) [two]) := R21_12.out.below (hg22.below)
          have R22_10 : Hid (Ls ET V22 (.slice p21 1 c21) [two]) := R21_10.out.below (hg22.below)
          clear hg22
          go_wp2_with fail
          refine hK.out _ _ (fun hD => B22) ?_
          clear hK K
          try simp only [Act.put, List.setIfInBounds_toArray, List.set_cons_zero, List.set_cons_succ]
          refine' wpAnyD_take (i := 14) (oi := { dst := some 42, op := Go.Op.pick (Go.Operand.tmp 34) (Go.Operand.tmp 41) (Go.Operand.const (Go.Value.bool false)), type := 4, pos := "law.go:43", after := #[{ on := 6, ground := Go.Ground.data }, { on := 13, ground := Go.Ground.data }], guard := none }) (v := _) rfl (by kernel_rfl) (by kernel_rfl) (by kernel_rfl) (fun _ _ _ h => h) (by kernel_rfl) (Or.inl ⟨by rfl, ?hy23⟩) B22 ?rest23
          case hy23 => (intro W hSw; go_simp; try (with_reducible rfl))
          try simp only [Act.put, List.setIfInBounds_toArray, List.set_cons_zero, List.set_cons_succ]
          refine' wpAnyD_take (i := 15) (oi := { dst := some 5, op := Go.Op.assign (Go.Operand.tmp 42), type := 4, pos := "law.go:43", after := #[{ on := 14, ground := Go.Ground.data }, { on := 13, ground := Go.Ground.chain }, { on := 0, ground := Go.Ground.phase }, { on := 1, ground := Go.Ground.phase }, { on := 2, ground := Go.Ground.phase }, { on := 3, ground := Go.Ground.phase }, { on := 4, ground := Go.Ground.phase }, { on := 5, ground := Go.Ground.phase }, { on := 6, ground := Go.Ground.phase }, { on := 7, ground := Go.Ground.phase }, { on := 8, ground := Go.Ground.phase }, { on := 9, ground := Go.Ground.phase }, { on := 10, ground := Go.Ground.phase }, { on := 11, ground := Go.Ground.phase }, { on := 12, ground := Go.Ground.phase }, { on := 13, ground := Go.Ground.phase }, { on := 14, ground := Go.Ground.phase }], guard := none }) (v := _) rfl (by kernel_rfl) (by kernel_rfl) (by kernel_rfl) (fun _ _ _ h => h) (by kernel_rfl) (Or.inl ⟨by rfl, ?hy24⟩) B22 ?rest24
          case hy24 => (intro W hSw; go_simp; try (with_reducible rfl))
          try simp only [Act.put, List.setIfInBounds_toArray, List.set_cons_zero, List.set_cons_succ]
          refine wpAnyD_done (by kernel_rfl) ?_ _
          go_wp2_with fail
          go_meet
          exact ⟨rfl, B22.out⟩
      case tB12 =>
        rw [if_pos (by kernel_rfl)]
        go_simp
        obtain ⟨V25, hV25⟩ : ∃ V, V = V7.alloc (.cells #[.int .u64 two.1.1, .int .u64 two.1.2.1, .int .u64 two.1.2.2] 32) := ⟨_, rfl⟩
        obtain ⟨g25, hg25⟩ : ∃ g, g = V7.heap.size := ⟨_, rfl⟩
        rw [← hV25]
        have hgw : V7.drew.heap.size = V7.heap.size := rfl
        first | rw [← hg25] | (rw [← hgw] at hg25; rw [← hg25]) | skip
        have G25 : Gr V7 V25 := by rw [hV25]; exact (Gr.refl _).alloc _
        have B25 : Hid (Below W5.heap.size W5 V25) := B7.out.trans (G25.below.mono B7.out.size)
        have R25_12 : Hid (Ls ET V25 (.slice (some ⟨g25, 0, none⟩) 1 1) [two]) := ls_lit (by rw [hV25, hg25]; exact heap_new' _ _) rfl _ _ rfl
        clear hV25 hg25 hgw
        refine hK.out _ _ (fun hD => B25) ?_
        clear hK K
        try simp only [Act.put, List.setIfInBounds_toArray, List.set_cons_zero, List.set_cons_succ]
        refine wpAnyD_one (i := 9) (o := { dst := some 37, op := Go.Op.buildSlice 23 1 #[(0, Go.Operand.tmp 36)], type := 23, pos := "law.go:43", after := #[{ on := 8, ground := Go.Ground.data }, { on := 6, ground := Go.Ground.guard }], guard := some (6, true) }) (by kernel_rfl) rfl (fun K hK => ?_)
        rw [if_pos (by kernel_rfl)]
        go_simp
        obtain ⟨V26, hV26⟩ : ∃ V, V = V25.alloc (.cells #[.int .u64 one.1.1, .int .u64 one.1.2.1, .int .u64 one.1.2.2] 32) := ⟨_, rfl⟩
        obtain ⟨g26, hg26⟩ : ∃ g, g = V25.heap.size := ⟨_, rfl⟩
        rw [← hV26]
        have hgw : V25.drew.heap.size = V25.heap.size := rfl
        first | rw [← hg26] | (rw [← hgw] at hg26; rw [← hg26]) | skip
        have G26 : Gr V25 V26 := by rw [hV26]; exact (Gr.refl _).alloc _
        have B26 : Hid (Below W5.heap.size W5 V26) := B25.out.trans (G26.below.mono B25.out.size)
        have R26_12 : Hid (Ls ET V26 (.slice (some ⟨g25, 0, none⟩) 1 1) [two]) := R25_12.out.below (G26.below)
        have R26_9 : Hid (Ls ET V26 (.slice (some ⟨g26, 0, none⟩) 1 1) [one]) := ls_lit (by rw [hV26, hg26]; exact heap_new' _ _) rfl _ _ rfl
        clear hV26 hg26 hgw
        refine hK.out _ _ (fun hD => B26) ?_
        clear hK K
        try simp only [Act.put, List.setIfInBounds_toArray, List.set_cons_zero, List.set_cons_succ]
        refine wpAnyD_one (i := 10) (o := { dst := some 38, op := Go.Op.call { callee := Go.Callee.value (Go.Operand.func 10), args := #[Go.Operand.tmp 35, Go.Operand.tmp 37], argTypes := #[24, 23] }, type := 23, pos := "law.go:43", after := #[{ on := 7, ground := Go.Ground.data }, { on := 9, ground := Go.Ground.data }, { on := 6, ground := Go.Ground.chain }, { on := 6, ground := Go.Ground.guard }], guard := some (6, true) }) (by kernel_rfl) rfl (fun K hK => ?_)
        rw [if_pos (by kernel_rfl)]
        go_simp
        have ht27 := ready_any _ [one] V26 (HSW5.out.below B26.out) (by decide) R26_9.out (by decide)
        rw [k_rdy] at ht27
        refine ht27.mono ?_
        rintro e V27 ⟨v27, rfl, hr27, hB27, -⟩
        have B27 : Hid (Below W5.heap.size W5 V27) := B26.out.trans (hB27.mono B26.out.size)
        have hl27 := owns_lst (ts := [two]) hr27
        obtain ⟨p27, c27, hv27⟩ := hl27.form
        subst hv27
        have R27_10 : Hid (Ls ET V27 (.slice p27 1 c27) [two]) := hl27
        have R27_12 : Hid (Ls ET V27 (.slice (some ⟨g25, 0, none⟩) 1 1) [two]) := R26_12.out.below (hB27)
        have R27_9 : Hid (Ls ET V27 (.slice (some ⟨g26, 0, none⟩) 1 1) [one]) := R26_9.out.below (hB27)
        clear ht27 hr27 hl27 hB27
        go_wp2_with fail
        refine hK.out _ _ (fun hD => B27) ?_
        clear hK K
        try simp only [Act.put, List.setIfInBounds_toArray, List.set_cons_zero, List.set_cons_succ]
        refine wpAnyD_one (i := 13) (o := { dst := some 41, op := Go.Op.call { callee := Go.Callee.value (Go.Operand.func 8), args := #[Go.Operand.tmp 38, Go.Operand.tmp 40], argTypes := #[23, 23] }, type := 4, pos := "law.go:43", after := #[{ on := 10, ground := Go.Ground.data }, { on := 12, ground := Go.Ground.data }, { on := 10, ground := Go.Ground.chain }, { on := 6, ground := Go.Ground.guard }], guard := some (6, true) }) (by kernel_rfl) rfl (fun K hK => ?_)
        rw [if_pos (by kernel_rfl)]
        go_simp
        refine (times_eq V27 R27_10.out R27_12.out (by decide)).mono ?_
        rintro e V28 ⟨rfl, hg28⟩
        have B28 : Hid (Below W5.heap.size W5 V28) := B27.out.trans (hg28.below.mono B27.out.size)
        have R28_12 : Hid (Ls ET V28 (.slice (some ⟨g25, 0, none⟩) 1 1) [two]) := R27_12.out.below (hg28.below)
        have R28_9 : Hid (Ls ET V28 (.slice (some ⟨g26, 0, none⟩) 1 1) [one]) := R27_9.out.below (hg28.below)
        have R28_10 : Hid (Ls ET V28 (.slice p27 1 c27) [two]) := R27_10.out.below (hg28.below)
        clear hg28
        go_wp2_with fail
        refine hK.out _ _ (fun hD => B28) ?_
        clear hK K
        try simp only [Act.put, List.setIfInBounds_toArray, List.set_cons_zero, List.set_cons_succ]
        refine' wpAnyD_take (i := 14) (oi := { dst := some 42, op := Go.Op.pick (Go.Operand.tmp 34) (Go.Operand.tmp 41) (Go.Operand.const (Go.Value.bool false)), type := 4, pos := "law.go:43", after := #[{ on := 6, ground := Go.Ground.data }, { on := 13, ground := Go.Ground.data }], guard := none }) (v := _) rfl (by kernel_rfl) (by kernel_rfl) (by kernel_rfl) (fun _ _ _ h => h) (by kernel_rfl) (Or.inl ⟨by rfl, ?hy29⟩) B28 ?rest29
        case hy29 => (intro W hSw; go_simp; try (with_reducible rfl))
        try simp only [Act.put, List.setIfInBounds_toArray, List.set_cons_zero, List.set_cons_succ]
        refine' wpAnyD_take (i := 15) (oi := { dst := some 5, op := Go.Op.assign (Go.Operand.tmp 42), type := 4, pos := "law.go:43", after := #[{ on := 14, ground := Go.Ground.data }, { on := 13, ground := Go.Ground.chain }, { on := 0, ground := Go.Ground.phase }, { on := 1, ground := Go.Ground.phase }, { on := 2, ground := Go.Ground.phase }, { on := 3, ground := Go.Ground.phase }, { on := 4, ground := Go.Ground.phase }, { on := 5, ground := Go.Ground.phase }, { on := 6, ground := Go.Ground.phase }, { on := 7, ground := Go.Ground.phase }, { on := 8, ground := Go.Ground.phase }, { on := 9, ground := Go.Ground.phase }, { on := 10, ground := Go.Ground.phase }, { on := 11, ground := Go.Ground.phase }, { on := 12, ground := Go.Ground.phase }, { on := 13, ground := Go.Ground.phase }, { on := 14, ground := Go.Ground.phase }], guard := none }) (v := _) rfl (by kernel_rfl) (by kernel_rfl) (by kernel_rfl) (fun _ _ _ h => h) (by kernel_rfl) (Or.inl ⟨by rfl, ?hy30⟩) B28 ?rest30
        case hy30 => (intro W hSw; go_simp; try (with_reducible rfl))
        try simp only [Act.put, List.setIfInBounds_toArray, List.set_cons_zero, List.set_cons_succ]
        refine wpAnyD_done (by kernel_rfl) ?_ _
        go_wp2_with fail
        go_meet
        exact ⟨rfl, B28.out⟩
    case tB4 =>
      rw [if_pos (by kernel_rfl)]
      go_simp
      obtain ⟨V31, hV31⟩ : ∃ V, V = Wd.alloc (.cells #[.int .u64 two.1.1, .int .u64 two.1.2.1, .int .u64 two.1.2.2, .int .u64 one.1.1, .int .u64 one.1.2.1, .int .u64 one.1.2.2] 32) := ⟨_, rfl⟩
      obtain ⟨g31, hg31⟩ : ∃ g, g = Wd.heap.size := ⟨_, rfl⟩
      rw [← hV31]
      have hgw : Wd.drew.heap.size = Wd.heap.size := rfl
      first | rw [← hg31] | (rw [← hgw] at hg31; rw [← hg31]) | skip
      have G31 : Gr Wd V31 := by rw [hV31]; exact (Gr.refl _).alloc _
      have B31 : Hid (Below W5.heap.size W5 V31) := BD.out.trans (G31.below.mono BD.out.size)
      have R31_4 : Hid (Ls ET V31 (.slice (some ⟨g31, 0, none⟩) 2 2) [two, one]) := ls_lit (by rw [hV31, hg31]; exact heap_new' _ _) rfl _ _ rfl
      clear hV31 hg31 hgw
      refine hK.out _ _ (fun hD => B31) ?_
      clear hK K
      try simp only [Act.put, List.setIfInBounds_toArray, List.set_cons_zero, List.set_cons_succ]
      refine wpAnyD_one (i := 1) (o := { dst := some 29, op := Go.Op.call { callee := Go.Callee.value (Go.Operand.func 9), args := #[Go.Operand.tmp 28], argTypes := #[24] }, type := 23, pos := "law.go:43", after := #[{ on := 0, ground := Go.Ground.data }], guard := none }) (by kernel_rfl) rfl (fun K hK => ?_)
      rw [if_pos (by kernel_rfl)]
      go_simp
      have ht32 := times_any V31 (HSW5.out.below B31.out) (by decide)
      rw [k_tms] at ht32
      refine ht32.mono ?_
      rintro e V32 ⟨v32, rfl, hr32, hB32, -⟩
      have B32 : Hid (Below W5.heap.size W5 V32) := B31.out.trans (hB32.mono B31.out.size)
      have hl32 := owns_lst (ts := [two, one]) hr32
      obtain ⟨p32, c32, hv32⟩ := hl32.form
      subst hv32
      have R32_1 : Hid (Ls ET V32 (.slice p32 2 c32) [two, one]) := hl32
      have R32_4 : Hid (Ls ET V32 (.slice (some ⟨g31, 0, none⟩) 2 2) [two, one]) := R31_4.out.below (hB32)
      clear ht32 hr32 hl32 hB32
      go_wp2_with fail
      refine hK.out _ _ (fun hD => B32) ?_
      clear hK K
      try simp only [Act.put, List.setIfInBounds_toArray, List.set_cons_zero, List.set_cons_succ]
      refine wpAnyD_one (i := 5) (o := { dst := some 33, op := Go.Op.call { callee := Go.Callee.value (Go.Operand.func 8), args := #[Go.Operand.tmp 29, Go.Operand.tmp 32], argTypes := #[23, 23] }, type := 4, pos := "law.go:43", after := #[{ on := 1, ground := Go.Ground.data }, { on := 4, ground := Go.Ground.data }, { on := 1, ground := Go.Ground.chain }], guard := none }) (by kernel_rfl) rfl (fun K hK => ?_)
      rw [if_pos (by kernel_rfl)]
      go_simp
      refine (times_eq V32 R32_1.out R32_4.out (by decide)).mono ?_
      rintro e V33 ⟨rfl, hg33⟩
      have B33 : Hid (Below W5.heap.size W5 V33) := B32.out.trans (hg33.below.mono B32.out.size)
      clear hg33
      go_wp2_with fail
      refine hK.out _ _ (fun hD => B33) ?_
      clear hK K
      try simp only [Act.put, List.setIfInBounds_toArray, List.set_cons_zero, List.set_cons_succ]
      refine' wpAnyD_take (i := 6) (oi := { dst := some 34, op := Go.Op.move (Go.Operand.tmp 33), type := 4, pos := "law.go:43", after := #[{ on := 5, ground := Go.Ground.data }, { on := 5, ground := Go.Ground.chain }], guard := none }) (v := _) rfl (by kernel_rfl) (by kernel_rfl) (by kernel_rfl) (fun _ _ _ h => h) (by kernel_rfl) (Or.inl ⟨by rfl, ?hy34⟩) B33 ?rest34
      case hy34 => (intro W hSw; go_simp; try (with_reducible rfl))
      try simp only [Act.put, List.setIfInBounds_toArray, List.set_cons_zero, List.set_cons_succ]
      refine' wpAnyD_take (i := 7) (oi := { dst := some 35, op := Go.Op.move (Go.Operand.tmp 1), type := 24, pos := "law.go:43", after := #[{ on := 6, ground := Go.Ground.guard }], guard := some (6, true) }) (v := _) rfl (by kernel_rfl) (by kernel_rfl) (by kernel_rfl) (fun _ _ _ h => h) (by kernel_rfl) (Or.inl ⟨by rfl, ?hy35⟩) B33 ?rest35
      case hy35 => (intro W hSw; go_simp; try (with_reducible rfl))
      try simp only [Act.put, List.setIfInBounds_toArray, List.set_cons_zero, List.set_cons_succ]
      refine' wpAnyD_take (i := 8) (oi := { dst := some 36, op := Go.Op.load 32 (Go.Operand.tmp 2), type := 32, pos := "law.go:43", after := #[{ on := 6, ground := Go.Ground.guard }], guard := some (6, true) }) (v := _) rfl (by kernel_rfl) (by kernel_rfl) (by kernel_rfl) (fun _ _ _ h => h) (by kernel_rfl) (Or.inl ⟨by rfl, ?hy36⟩) B33 ?rest36
      case hy36 => (intro W hSw; have d1 := (hSw.out.block b1 l1).trans HX1.out; have d2 := (hSw.out.block b2 l2).trans HX2.out; obtain ⟨i0, i1, i2, i3⟩ := bx_cell d1; obtain ⟨j0, j1, j2, j3⟩ := bx_cell d2; clear d1 d2; go_simp; try (with_reducible rfl))
      try simp only [Act.put, List.setIfInBounds_toArray, List.set_cons_zero, List.set_cons_succ]
      refine' wpAnyD_take (i := 11) (oi := { dst := some 39, op := Go.Op.load 32 (Go.Operand.tmp 3), type := 32, pos := "law.go:43", after := #[{ on := 6, ground := Go.Ground.guard }], guard := some (6, true) }) (v := _) rfl (by kernel_rfl) (by kernel_rfl) (by kernel_rfl) (fun _ _ _ h => h) (by kernel_rfl) (Or.inl ⟨by rfl, ?hy37⟩) B33 ?rest37
      case hy37 => (intro W hSw; have d1 := (hSw.out.block b1 l1).trans HX1.out; have d2 := (hSw.out.block b2 l2).trans HX2.out; obtain ⟨i0, i1, i2, i3⟩ := bx_cell d1; obtain ⟨j0, j1, j2, j3⟩ := bx_cell d2; clear d1 d2; go_simp; try (with_reducible rfl))
      try simp only [Act.put, List.setIfInBounds_toArray, List.set_cons_zero, List.set_cons_succ]
      refine wpAnyD_two (i := 9) (j := 12) (oi := { dst := some 37, op := Go.Op.buildSlice 23 1 #[(0, Go.Operand.tmp 36)], type := 23, pos := "law.go:43", after := #[{ on := 8, ground := Go.Ground.data }, { on := 6, ground := Go.Ground.guard }], guard := some (6, true) }) (oj := { dst := some 40, op := Go.Op.buildSlice 23 1 #[(0, Go.Operand.tmp 39)], type := 23, pos := "law.go:43", after := #[{ on := 11, ground := Go.Ground.data }, { on := 6, ground := Go.Ground.guard }], guard := some (6, true) }) (by kernel_rfl) rfl rfl (fun K hK => ?tA38) (fun K hK => ?tB38)
      case tA38 =>
        rw [if_pos (by kernel_rfl)]
        go_simp
        obtain ⟨V39, hV39⟩ : ∃ V, V = V33.alloc (.cells #[.int .u64 one.1.1, .int .u64 one.1.2.1, .int .u64 one.1.2.2] 32) := ⟨_, rfl⟩
        obtain ⟨g39, hg39⟩ : ∃ g, g = V33.heap.size := ⟨_, rfl⟩
        rw [← hV39]
        have hgw : V33.drew.heap.size = V33.heap.size := rfl
        first | rw [← hg39] | (rw [← hgw] at hg39; rw [← hg39]) | skip
        have G39 : Gr V33 V39 := by rw [hV39]; exact (Gr.refl _).alloc _
        have B39 : Hid (Below W5.heap.size W5 V39) := B33.out.trans (G39.below.mono B33.out.size)
        have R39_9 : Hid (Ls ET V39 (.slice (some ⟨g39, 0, none⟩) 1 1) [one]) := ls_lit (by rw [hV39, hg39]; exact heap_new' _ _) rfl _ _ rfl
        clear hV39 hg39 hgw
        refine hK.out _ _ (fun hD => B39) ?_
        clear hK K
        try simp only [Act.put, List.setIfInBounds_toArray, List.set_cons_zero, List.set_cons_succ]
        refine wpAnyD_two (i := 10) (j := 12) (oi := { dst := some 38, op := Go.Op.call { callee := Go.Callee.value (Go.Operand.func 10), args := #[Go.Operand.tmp 35, Go.Operand.tmp 37], argTypes := #[24, 23] }, type := 23, pos := "law.go:43", after := #[{ on := 7, ground := Go.Ground.data }, { on := 9, ground := Go.Ground.data }, { on := 6, ground := Go.Ground.chain }, { on := 6, ground := Go.Ground.guard }], guard := some (6, true) }) (oj := { dst := some 40, op := Go.Op.buildSlice 23 1 #[(0, Go.Operand.tmp 39)], type := 23, pos := "law.go:43", after := #[{ on := 11, ground := Go.Ground.data }, { on := 6, ground := Go.Ground.guard }], guard := some (6, true) }) (by kernel_rfl) rfl rfl (fun K hK => ?tA40) (fun K hK => ?tB40)
        case tA40 =>
          rw [if_pos (by kernel_rfl)]
          go_simp
          have ht41 := ready_any _ [one] V39 (HSW5.out.below B39.out) (by decide) R39_9.out (by decide)
          rw [k_rdy] at ht41
          refine ht41.mono ?_
          rintro e V41 ⟨v41, rfl, hr41, hB41, -⟩
          have B41 : Hid (Below W5.heap.size W5 V41) := B39.out.trans (hB41.mono B39.out.size)
          have hl41 := owns_lst (ts := [two]) hr41
          obtain ⟨p41, c41, hv41⟩ := hl41.form
          subst hv41
          have R41_10 : Hid (Ls ET V41 (.slice p41 1 c41) [two]) := hl41
          have R41_9 : Hid (Ls ET V41 (.slice (some ⟨g39, 0, none⟩) 1 1) [one]) := R39_9.out.below (hB41)
          clear ht41 hr41 hl41 hB41
          go_wp2_with fail
          refine hK.out _ _ (fun hD => B41) ?_
          clear hK K
          try simp only [Act.put, List.setIfInBounds_toArray, List.set_cons_zero, List.set_cons_succ]
          refine wpAnyD_one (i := 12) (o := { dst := some 40, op := Go.Op.buildSlice 23 1 #[(0, Go.Operand.tmp 39)], type := 23, pos := "law.go:43", after := #[{ on := 11, ground := Go.Ground.data }, { on := 6, ground := Go.Ground.guard }], guard := some (6, true) }) (by kernel_rfl) rfl (fun K hK => ?_)
          rw [if_pos (by kernel_rfl)]
          go_simp
          obtain ⟨V42, hV42⟩ : ∃ V, V = V41.alloc (.cells #[.int .u64 two.1.1, .int .u64 two.1.2.1, .int .u64 two.1.2.2] 32) := ⟨_, rfl⟩
          obtain ⟨g42, hg42⟩ : ∃ g, g = V41.heap.size := ⟨_, rfl⟩
          rw [← hV42]
          have hgw : V41.drew.heap.size = V41.heap.size := rfl
          first | rw [← hg42] | (rw [← hgw] at hg42; rw [← hg42]) | skip
          have G42 : Gr V41 V42 := by rw [hV42]; exact (Gr.refl _).alloc _
          have B42 : Hid (Below W5.heap.size W5 V42) := B41.out.trans (G42.below.mono B41.out.size)
          have R42_9 : Hid (Ls ET V42 (.slice (some ⟨g39, 0, none⟩) 1 1) [one]) := R41_9.out.below (G42.below)
          have R42_10 : Hid (Ls ET V42 (.slice p41 1 c41) [two]) := R41_10.out.below (G42.below)
          have R42_12 : Hid (Ls ET V42 (.slice (some ⟨g42, 0, none⟩) 1 1) [two]) := ls_lit (by rw [hV42, hg42]; exact heap_new' _ _) rfl _ _ rfl
          clear hV42 hg42 hgw
          refine hK.out _ _ (fun hD => B42) ?_
          clear hK K
          try simp only [Act.put, List.setIfInBounds_toArray, List.set_cons_zero, List.set_cons_succ]
          refine wpAnyD_one (i := 13) (o := { dst := some 41, op := Go.Op.call { callee := Go.Callee.value (Go.Operand.func 8), args := #[Go.Operand.tmp 38, Go.Operand.tmp 40], argTypes := #[23, 23] }, type := 4, pos := "law.go:43", after := #[{ on := 10, ground := Go.Ground.data }, { on := 12, ground := Go.Ground.data }, { on := 10, ground := Go.Ground.chain }, { on := 6, ground := Go.Ground.guard }], guard := some (6, true) }) (by kernel_rfl) rfl (fun K hK => ?_)
          rw [if_pos (by kernel_rfl)]
          go_simp
          refine (times_eq V42 R42_10.out R42_12.out (by decide)).mono ?_
          rintro e V43 ⟨rfl, hg43⟩
          have B43 : Hid (Below W5.heap.size W5 V43) := B42.out.trans (hg43.below.mono B42.out.size)
          have R43_9 : Hid (Ls ET V43 (.slice (some ⟨g39, 0, none⟩) 1 1) [one]) := R42_9.out.below (hg43.below)
          have R43_10 : Hid (Ls ET V43 (.slice p41 1 c41) [two]) := R42_10.out.below (hg43.below)
          have R43_12 : Hid (Ls ET V43 (.slice (some ⟨g42, 0, none⟩) 1 1) [two]) := R42_12.out.below (hg43.below)
          clear hg43
          go_wp2_with fail
          refine hK.out _ _ (fun hD => B43) ?_
          clear hK K
          try simp only [Act.put, List.setIfInBounds_toArray, List.set_cons_zero, List.set_cons_succ]
          refine' wpAnyD_take (i := 14) (oi := { dst := some 42, op := Go.Op.pick (Go.Operand.tmp 34) (Go.Operand.tmp 41) (Go.Operand.const (Go.Value.bool false)), type := 4, pos := "law.go:43", after := #[{ on := 6, ground := Go.Ground.data }, { on := 13, ground := Go.Ground.data }], guard := none }) (v := _) rfl (by kernel_rfl) (by kernel_rfl) (by kernel_rfl) (fun _ _ _ h => h) (by kernel_rfl) (Or.inl ⟨by rfl, ?hy44⟩) B43 ?rest44
          case hy44 => (intro W hSw; go_simp; try (with_reducible rfl))
          try simp only [Act.put, List.setIfInBounds_toArray, List.set_cons_zero, List.set_cons_succ]
          refine' wpAnyD_take (i := 15) (oi := { dst := some 5, op := Go.Op.assign (Go.Operand.tmp 42), type := 4, pos := "law.go:43", after := #[{ on := 14, ground := Go.Ground.data }, { on := 13, ground := Go.Ground.chain }, { on := 0, ground := Go.Ground.phase }, { on := 1, ground := Go.Ground.phase }, { on := 2, ground := Go.Ground.phase }, { on := 3, ground := Go.Ground.phase }, { on := 4, ground := Go.Ground.phase }, { on := 5, ground := Go.Ground.phase }, { on := 6, ground := Go.Ground.phase }, { on := 7, ground := Go.Ground.phase }, { on := 8, ground := Go.Ground.phase }, { on := 9, ground := Go.Ground.phase }, { on := 10, ground := Go.Ground.phase }, { on := 11, ground := Go.Ground.phase }, { on := 12, ground := Go.Ground.phase }, { on := 13, ground := Go.Ground.phase }, { on := 14, ground := Go.Ground.phase }], guard := none }) (v := _) rfl (by kernel_rfl) (by kernel_rfl) (by kernel_rfl) (fun _ _ _ h => h) (by kernel_rfl) (Or.inl ⟨by rfl, ?hy45⟩) B43 ?rest45
          case hy45 => (intro W hSw; go_simp; try (with_reducible rfl))
          try simp only [Act.put, List.setIfInBounds_toArray, List.set_cons_zero, List.set_cons_succ]
          refine wpAnyD_done (by kernel_rfl) ?_ _
          go_wp2_with fail
          go_meet
          exact ⟨rfl, B43.out⟩
        case tB40 =>
          rw [if_pos (by kernel_rfl)]
          go_simp
          obtain ⟨V46, hV46⟩ : ∃ V, V = V39.alloc (.cells #[.int .u64 two.1.1, .int .u64 two.1.2.1, .int .u64 two.1.2.2] 32) := ⟨_, rfl⟩
          obtain ⟨g46, hg46⟩ : ∃ g, g = V39.heap.size := ⟨_, rfl⟩
          rw [← hV46]
          have hgw : V39.drew.heap.size = V39.heap.size := rfl
          first | rw [← hg46] | (rw [← hgw] at hg46; rw [← hg46]) | skip
          have G46 : Gr V39 V46 := by rw [hV46]; exact (Gr.refl _).alloc _
          have B46 : Hid (Below W5.heap.size W5 V46) := B39.out.trans (G46.below.mono B39.out.size)
          have R46_9 : Hid (Ls ET V46 (.slice (some ⟨g39, 0, none⟩) 1 1) [one]) := R39_9.out.below (G46.below)
          have R46_12 : Hid (Ls ET V46 (.slice (some ⟨g46, 0, none⟩) 1 1) [two]) := ls_lit (by rw [hV46, hg46]; exact heap_new' _ _) rfl _ _ rfl
          clear hV46 hg46 hgw
          refine hK.out _ _ (fun hD => B46) ?_
          clear hK K
          try simp only [Act.put, List.setIfInBounds_toArray, List.set_cons_zero, List.set_cons_succ]
          refine wpAnyD_one (i := 10) (o := { dst := some 38, op := Go.Op.call { callee := Go.Callee.value (Go.Operand.func 10), args := #[Go.Operand.tmp 35, Go.Operand.tmp 37], argTypes := #[24, 23] }, type := 23, pos := "law.go:43", after := #[{ on := 7, ground := Go.Ground.data }, { on := 9, ground := Go.Ground.data }, { on := 6, ground := Go.Ground.chain }, { on := 6, ground := Go.Ground.guard }], guard := some (6, true) }) (by kernel_rfl) rfl (fun K hK => ?_)
          rw [if_pos (by kernel_rfl)]
          go_simp
          have ht47 := ready_any _ [one] V46 (HSW5.out.below B46.out) (by decide) R46_9.out (by decide)
          rw [k_rdy] at ht47
          refine ht47.mono ?_
          rintro e V47 ⟨v47, rfl, hr47, hB47, -⟩
          have B47 : Hid (Below W5.heap.size W5 V47) := B46.out.trans (hB47.mono B46.out.size)
          have hl47 := owns_lst (ts := [two]) hr47
          obtain ⟨p47, c47, hv47⟩ := hl47.form
          subst hv47
          have R47_10 : Hid (Ls ET V47 (.slice p47 1 c47) [two]) := hl47
          have R47_9 : Hid (Ls ET V47 (.slice (some ⟨g39, 0, none⟩) 1 1) [one]) := R46_9.out.below (hB47)
          have R47_12 : Hid (Ls ET V47 (.slice (some ⟨g46, 0, none⟩) 1 1) [two]) := R46_12.out.below (hB47)
          clear ht47 hr47 hl47 hB47
          go_wp2_with fail
          refine hK.out _ _ (fun hD => B47) ?_
          clear hK K
          try simp only [Act.put, List.setIfInBounds_toArray, List.set_cons_zero, List.set_cons_succ]
          refine wpAnyD_one (i := 13) (o := { dst := some 41, op := Go.Op.call { callee := Go.Callee.value (Go.Operand.func 8), args := #[Go.Operand.tmp 38, Go.Operand.tmp 40], argTypes := #[23, 23] }, type := 4, pos := "law.go:43", after := #[{ on := 10, ground := Go.Ground.data }, { on := 12, ground := Go.Ground.data }, { on := 10, ground := Go.Ground.chain }, { on := 6, ground := Go.Ground.guard }], guard := some (6, true) }) (by kernel_rfl) rfl (fun K hK => ?_)
          rw [if_pos (by kernel_rfl)]
          go_simp
          refine (times_eq V47 R47_10.out R47_12.out (by decide)).mono ?_
          rintro e V48 ⟨rfl, hg48⟩
          have B48 : Hid (Below W5.heap.size W5 V48) := B47.out.trans (hg48.below.mono B47.out.size)
          have R48_9 : Hid (Ls ET V48 (.slice (some ⟨g39, 0, none⟩) 1 1) [one]) := R47_9.out.below (hg48.below)
          have R48_12 : Hid (Ls ET V48 (.slice (some ⟨g46, 0, none⟩) 1 1) [two]) := R47_12.out.below (hg48.below)
          have R48_10 : Hid (Ls ET V48 (.slice p47 1 c47) [two]) := R47_10.out.below (hg48.below)
          clear hg48
          go_wp2_with fail
          refine hK.out _ _ (fun hD => B48) ?_
          clear hK K
          try simp only [Act.put, List.setIfInBounds_toArray, List.set_cons_zero, List.set_cons_succ]
          refine' wpAnyD_take (i := 14) (oi := { dst := some 42, op := Go.Op.pick (Go.Operand.tmp 34) (Go.Operand.tmp 41) (Go.Operand.const (Go.Value.bool false)), type := 4, pos := "law.go:43", after := #[{ on := 6, ground := Go.Ground.data }, { on := 13, ground := Go.Ground.data }], guard := none }) (v := _) rfl (by kernel_rfl) (by kernel_rfl) (by kernel_rfl) (fun _ _ _ h => h) (by kernel_rfl) (Or.inl ⟨by rfl, ?hy49⟩) B48 ?rest49
          case hy49 => (intro W hSw; go_simp; try (with_reducible rfl))
          try simp only [Act.put, List.setIfInBounds_toArray, List.set_cons_zero, List.set_cons_succ]
          refine' wpAnyD_take (i := 15) (oi := { dst := some 5, op := Go.Op.assign (Go.Operand.tmp 42), type := 4, pos := "law.go:43", after := #[{ on := 14, ground := Go.Ground.data }, { on := 13, ground := Go.Ground.chain }, { on := 0, ground := Go.Ground.phase }, { on := 1, ground := Go.Ground.phase }, { on := 2, ground := Go.Ground.phase }, { on := 3, ground := Go.Ground.phase }, { on := 4, ground := Go.Ground.phase }, { on := 5, ground := Go.Ground.phase }, { on := 6, ground := Go.Ground.phase }, { on := 7, ground := Go.Ground.phase }, { on := 8, ground := Go.Ground.phase }, { on := 9, ground := Go.Ground.phase }, { on := 10, ground := Go.Ground.phase }, { on := 11, ground := Go.Ground.phase }, { on := 12, ground := Go.Ground.phase }, { on := 13, ground := Go.Ground.phase }, { on := 14, ground := Go.Ground.phase }], guard := none }) (v := _) rfl (by kernel_rfl) (by kernel_rfl) (by kernel_rfl) (fun _ _ _ h => h) (by kernel_rfl) (Or.inl ⟨by rfl, ?hy50⟩) B48 ?rest50
          case hy50 => (intro W hSw; go_simp; try (with_reducible rfl))
          try simp only [Act.put, List.setIfInBounds_toArray, List.set_cons_zero, List.set_cons_succ]
          refine wpAnyD_done (by kernel_rfl) ?_ _
          go_wp2_with fail
          go_meet
          exact ⟨rfl, B48.out⟩
      case tB38 =>
        rw [if_pos (by kernel_rfl)]
        go_simp
        obtain ⟨V51, hV51⟩ : ∃ V, V = V33.alloc (.cells #[.int .u64 two.1.1, .int .u64 two.1.2.1, .int .u64 two.1.2.2] 32) := ⟨_, rfl⟩
        obtain ⟨g51, hg51⟩ : ∃ g, g = V33.heap.size := ⟨_, rfl⟩
        rw [← hV51]
        have hgw : V33.drew.heap.size = V33.heap.size := rfl
        first | rw [← hg51] | (rw [← hgw] at hg51; rw [← hg51]) | skip
        have G51 : Gr V33 V51 := by rw [hV51]; exact (Gr.refl _).alloc _
        have B51 : Hid (Below W5.heap.size W5 V51) := B33.out.trans (G51.below.mono B33.out.size)
        have R51_12 : Hid (Ls ET V51 (.slice (some ⟨g51, 0, none⟩) 1 1) [two]) := ls_lit (by rw [hV51, hg51]; exact heap_new' _ _) rfl _ _ rfl
        clear hV51 hg51 hgw
        refine hK.out _ _ (fun hD => B51) ?_
        clear hK K
        try simp only [Act.put, List.setIfInBounds_toArray, List.set_cons_zero, List.set_cons_succ]
        refine wpAnyD_one (i := 9) (o := { dst := some 37, op := Go.Op.buildSlice 23 1 #[(0, Go.Operand.tmp 36)], type := 23, pos := "law.go:43", after := #[{ on := 8, ground := Go.Ground.data }, { on := 6, ground := Go.Ground.guard }], guard := some (6, true) }) (by kernel_rfl) rfl (fun K hK => ?_)
        rw [if_pos (by kernel_rfl)]
        go_simp
        obtain ⟨V52, hV52⟩ : ∃ V, V = V51.alloc (.cells #[.int .u64 one.1.1, .int .u64 one.1.2.1, .int .u64 one.1.2.2] 32) := ⟨_, rfl⟩
        obtain ⟨g52, hg52⟩ : ∃ g, g = V51.heap.size := ⟨_, rfl⟩
        rw [← hV52]
        have hgw : V51.drew.heap.size = V51.heap.size := rfl
        first | rw [← hg52] | (rw [← hgw] at hg52; rw [← hg52]) | skip
        have G52 : Gr V51 V52 := by rw [hV52]; exact (Gr.refl _).alloc _
        have B52 : Hid (Below W5.heap.size W5 V52) := B51.out.trans (G52.below.mono B51.out.size)
        have R52_12 : Hid (Ls ET V52 (.slice (some ⟨g51, 0, none⟩) 1 1) [two]) := R51_12.out.below (G52.below)
        have R52_9 : Hid (Ls ET V52 (.slice (some ⟨g52, 0, none⟩) 1 1) [one]) := ls_lit (by rw [hV52, hg52]; exact heap_new' _ _) rfl _ _ rfl
        clear hV52 hg52 hgw
        refine hK.out _ _ (fun hD => B52) ?_
        clear hK K
        try simp only [Act.put, List.setIfInBounds_toArray, List.set_cons_zero, List.set_cons_succ]
        refine wpAnyD_one (i := 10) (o := { dst := some 38, op := Go.Op.call { callee := Go.Callee.value (Go.Operand.func 10), args := #[Go.Operand.tmp 35, Go.Operand.tmp 37], argTypes := #[24, 23] }, type := 23, pos := "law.go:43", after := #[{ on := 7, ground := Go.Ground.data }, { on := 9, ground := Go.Ground.data }, { on := 6, ground := Go.Ground.chain }, { on := 6, ground := Go.Ground.guard }], guard := some (6, true) }) (by kernel_rfl) rfl (fun K hK => ?_)
        rw [if_pos (by kernel_rfl)]
        go_simp
        have ht53 := ready_any _ [one] V52 (HSW5.out.below B52.out) (by decide) R52_9.out (by decide)
        rw [k_rdy] at ht53
        refine ht53.mono ?_
        rintro e V53 ⟨v53, rfl, hr53, hB53, -⟩
        have B53 : Hid (Below W5.heap.size W5 V53) := B52.out.trans (hB53.mono B52.out.size)
        have hl53 := owns_lst (ts := [two]) hr53
        obtain ⟨p53, c53, hv53⟩ := hl53.form
        subst hv53
        have R53_10 : Hid (Ls ET V53 (.slice p53 1 c53) [two]) := hl53
        have R53_12 : Hid (Ls ET V53 (.slice (some ⟨g51, 0, none⟩) 1 1) [two]) := R52_12.out.below (hB53)
        have R53_9 : Hid (Ls ET V53 (.slice (some ⟨g52, 0, none⟩) 1 1) [one]) := R52_9.out.below (hB53)
        clear ht53 hr53 hl53 hB53
        go_wp2_with fail
        refine hK.out _ _ (fun hD => B53) ?_
        clear hK K
        try simp only [Act.put, List.setIfInBounds_toArray, List.set_cons_zero, List.set_cons_succ]
        refine wpAnyD_one (i := 13) (o := { dst := some 41, op := Go.Op.call { callee := Go.Callee.value (Go.Operand.func 8), args := #[Go.Operand.tmp 38, Go.Operand.tmp 40], argTypes := #[23, 23] }, type := 4, pos := "law.go:43", after := #[{ on := 10, ground := Go.Ground.data }, { on := 12, ground := Go.Ground.data }, { on := 10, ground := Go.Ground.chain }, { on := 6, ground := Go.Ground.guard }], guard := some (6, true) }) (by kernel_rfl) rfl (fun K hK => ?_)
        rw [if_pos (by kernel_rfl)]
        go_simp
        refine (times_eq V53 R53_10.out R53_12.out (by decide)).mono ?_
        rintro e V54 ⟨rfl, hg54⟩
        have B54 : Hid (Below W5.heap.size W5 V54) := B53.out.trans (hg54.below.mono B53.out.size)
        have R54_12 : Hid (Ls ET V54 (.slice (some ⟨g51, 0, none⟩) 1 1) [two]) := R53_12.out.below (hg54.below)
        have R54_9 : Hid (Ls ET V54 (.slice (some ⟨g52, 0, none⟩) 1 1) [one]) := R53_9.out.below (hg54.below)
        have R54_10 : Hid (Ls ET V54 (.slice p53 1 c53) [two]) := R53_10.out.below (hg54.below)
        clear hg54
        go_wp2_with fail
        refine hK.out _ _ (fun hD => B54) ?_
        clear hK K
        try simp only [Act.put, List.setIfInBounds_toArray, List.set_cons_zero, List.set_cons_succ]
        refine' wpAnyD_take (i := 14) (oi := { dst := some 42, op := Go.Op.pick (Go.Operand.tmp 34) (Go.Operand.tmp 41) (Go.Operand.const (Go.Value.bool false)), type := 4, pos := "law.go:43", after := #[{ on := 6, ground := Go.Ground.data }, { on := 13, ground := Go.Ground.data }], guard := none }) (v := _) rfl (by kernel_rfl) (by kernel_rfl) (by kernel_rfl) (fun _ _ _ h => h) (by kernel_rfl) (Or.inl ⟨by rfl, ?hy55⟩) B54 ?rest55
        case hy55 => (intro W hSw; go_simp; try (with_reducible rfl))
        try simp only [Act.put, List.setIfInBounds_toArray, List.set_cons_zero, List.set_cons_succ]
        refine' wpAnyD_take (i := 15) (oi := { dst := some 5, op := Go.Op.assign (Go.Operand.tmp 42), type := 4, pos := "law.go:43", after := #[{ on := 14, ground := Go.Ground.data }, { on := 13, ground := Go.Ground.chain }, { on := 0, ground := Go.Ground.phase }, { on := 1, ground := Go.Ground.phase }, { on := 2, ground := Go.Ground.phase }, { on := 3, ground := Go.Ground.phase }, { on := 4, ground := Go.Ground.phase }, { on := 5, ground := Go.Ground.phase }, { on := 6, ground := Go.Ground.phase }, { on := 7, ground := Go.Ground.phase }, { on := 8, ground := Go.Ground.phase }, { on := 9, ground := Go.Ground.phase }, { on := 10, ground := Go.Ground.phase }, { on := 11, ground := Go.Ground.phase }, { on := 12, ground := Go.Ground.phase }, { on := 13, ground := Go.Ground.phase }, { on := 14, ground := Go.Ground.phase }], guard := none }) (v := _) rfl (by kernel_rfl) (by kernel_rfl) (by kernel_rfl) (fun _ _ _ h => h) (by kernel_rfl) (Or.inl ⟨by rfl, ?hy56⟩) B54 ?rest56
        case hy56 => (intro W hSw; go_simp; try (with_reducible rfl))
        try simp only [Act.put, List.setIfInBounds_toArray, List.set_cons_zero, List.set_cons_succ]
        refine wpAnyD_done (by kernel_rfl) ?_ _
        go_wp2_with fail
        go_meet
        exact ⟨rfl, B54.out⟩
  case rest =>
    obtain ⟨rfl, HB6⟩ := hcut
    obtain ⟨w6, hw6⟩ : ∃ w6, w6 = wc := ⟨_, rfl⟩
    rw [← hw6] at HB6
    rw [← hw6]
    clear hw6
    have HS6 : Hid (Su w6 S3 9 sb A3) := HSW5.out.below HB6.out
    have HX6 : Hid (w6.heap[b1]? = some (.cells #[.int .u64 one.1.1, .int .u64 one.1.2.1, .int .u64 one.1.2.2] 32 (0, 0))) := (HB6.out.block b1 l1).trans HX1.out
    obtain ⟨i0, i1, i2, i3⟩ := bx_cell HX6.out
    have htl := tell_any one w6 HS6.out (by decide)
    go_wp2_with fail
    refine htl.mono ?_
    rintro e w7 ⟨v7, rfl, hT7⟩
    obtain ⟨hr7, hS7, hK7⟩ := hT7.out
    rw [k_rcs] at hr7
    have hl7 := owns_ls (E := ER) (ts := [r39, r75]) hr7
    obtain ⟨p7, c7, hv7⟩ := hl7.form
    subst hv7
    have HL7 : Hid (Ls ER w7 (.slice p7 2 c7) [r39, r75]) := hl7
    have HS7 := hid hS7
    have HX7 : Hid (w7.heap[b1]? = some (.cells #[.int .u64 one.1.1, .int .u64 one.1.2.1, .int .u64 one.1.2.2] 32 (0, 0))) := (hK7.block b1 (Array.getElem?_eq_some_iff.1 HX6.out).1 (fun h => HN.out.1 h.1)).trans HX6.out
    have HB7 : Hid (Below w.heap.size w w7) := (HB2.out.trans (HB6.out.mono HB2.out.size)).trans (hK7.below (Nat.le_trans HB2.out.size HB6.out.size) (fun k h => HN.out.2.2 k h.1))
    obtain ⟨w8, hw8⟩ : ∃ w8, w8 = w7.alloc (.cells #[.int .u64 3, .int .u64 9, .int .u64 7, .int .u64 5] 37) := ⟨_, rfl⟩
    obtain ⟨g8, hg8⟩ : ∃ g8, g8 = w7.heap.size := ⟨_, rfl⟩
    have G8 : Gr w7 w8 := by rw [hw8]; exact (Gr.refl _).alloc _
    have HL8 : Hid (Ls ER w8 (.slice (some ⟨g8, 0, none⟩) 2 2) [r39, r75]) := ls_lit (by rw [hw8, hg8]; exact heap_new' _ _) rfl _ _ rfl
    have hre := records_eq w8 (HL7.out.below G8.below) HL8.out (by decide)
    have HG8 := hid G8
    clear i0 i1 i2 i3 htl hT7 hr7 hS7 hK7 hl7 HX6 HS6 HB6 G8
    go_wp2_with fail
    rw [← hw8, ← hg8]
    clear hw8 hg8
    refine hre.mono ?_
    rintro e w9 ⟨rfl, hg9⟩
    have HX9 : Hid (w9.heap[b1]? = some (.cells #[.int .u64 one.1.1, .int .u64 one.1.2.1, .int .u64 one.1.2.2] 32 (0, 0))) := ((HG8.out.trans hg9).below.block b1 (Array.getElem?_eq_some_iff.1 HX7.out).1).trans HX7.out
    have HS9 := hid (HS7.out.below (HG8.out.trans hg9).below)
    have HB9 : Hid (Below w.heap.size w w9) := HB7.out.trans ((HG8.out.trans hg9).below.mono HB7.out.size)
    have htl := tell_any one w9 HS9.out (by decide)
    obtain ⟨i0, i1, i2, i3⟩ := bx_cell HX9.out
    clear hre hg9 HS7 HX7 HB7 HG8 HL7 HL8
    go_wp2_with fail
    refine htl.mono ?_
    rintro e w10 ⟨v10, rfl, hT10⟩
    obtain ⟨hr10, -, hK10⟩ := hT10.out
    rw [k_lft] at hr10
    obtain ⟨p10, c10, hv10⟩ := (owns_ls (E := ER) (ts := []) hr10).form
    subst hv10
    have HB10 : Hid (Below w.heap.size w w10) := HB9.out.trans (hK10.below HB9.out.size (fun k h => HN.out.2.2 k h.1.1))
    clear i0 i1 i2 i3 htl hT10 hr10 hK10
    go_wp2_with fail
    go_ret
    exact ⟨by simp, HB10.out⟩
end Go.Proofs.Ytijbmchgajhkeaa
