import Derived.Test.YtabcibmdbancdaaXStep0
namespace Go.Proofs.Ytabcibmdbancdaa
open Go.RowKit Go.Sort Go.Maps
attribute [local go_sem ↓] Go.wp_at_zero Go.wp_at_succ
abbrev ov (k on id q x y z : Int) : Value := .agg #[.int .i64 k, .int .i64 on, .int .i64 id, .int .i64 q, .int .u64 x, .int .u64 y, .int .u64 z]
/-- The pair and the call, in their boxes. -/
structure Bx (B : Nat) (tb rb : Nat) (k on id q x y z : Int) (W : World) : Prop where
  p : W.heap[B]? = some (.cells #[.pointer (some ⟨tb, 0, none⟩), .pointer (some ⟨rb, 0, none⟩)] 49 (0, 0))
  o : W.heap[B + 1]? = some (.cells #[.int .i64 k, .int .i64 on, .int .i64 id, .int .i64 q, .int .u64 x, .int .u64 y, .int .u64 z] 33 (0, 0))
theorem cellsOf {W : World} {B : Nat} {cs : Array Value} {t : TypeId} (h : W.heap[B]? = some (.cells cs t (0, 0))) (i : Nat) (v : Value) (hv : cs[i]? = some v) : W.cell? ⟨B, i, none⟩ = some v := by
  simp only [World.cell?, h]
  simpa using hv
section
variable {B tb rb : Nat} {k on id q x y z : Int} {W W' : World}
theorem Bx.kp {S : Nat → Prop} (h : Bx B tb rb k on id q x y z W) (hk : Kp S W W') (h1 : ¬ S B) (h2 : ¬ S (B + 1)) : Bx B tb rb k on id q x y z W' := ⟨(hk.block B (blkLt h.p) h1).trans h.p, (hk.block (B + 1) (blkLt h.o) h2).trans h.o⟩
theorem Bx.gr (h : Bx B tb rb k on id q x y z W) (g : Gr W W') : Bx B tb rb k on id q x y z W' := h.kp (Kp.of_gr (S := fun _ => False) g) (fun h => h) (fun h => h)
theorem Bx.cs (h : Bx B tb rb k on id q x y z W) : B < W.heap.size ∧ B + 1 < W.heap.size ∧ W.cell? ⟨B, 0, none⟩ = some (.pointer (some ⟨tb, 0, none⟩)) ∧ W.cell? ⟨B, 1, none⟩ = some (.pointer (some ⟨rb, 0, none⟩)) ∧ W.cell? ⟨B + 1, 0, none⟩ = some (.int .i64 k) ∧ W.cell? ⟨B + 1, 2, none⟩ = some (.int .i64 id) ∧
    W.cell? ⟨B + 1, 3, none⟩ = some (.int .i64 q) ∧ W.cell? ⟨B + 1, 4, none⟩ = some (.int .u64 x) ∧ W.cell? ⟨B + 1, 5, none⟩ = some (.int .u64 y) ∧ W.cell? ⟨B + 1, 6, none⟩ = some (.int .u64 z) :=
  ⟨blkLt h.p, blkLt h.o, cellsOf h.p 0 _ rfl, cellsOf h.p 1 _ rfl, cellsOf h.o 0 _ rfl, cellsOf h.o 2 _ rfl, cellsOf h.o 3 _ rfl, cellsOf h.o 4 _ rfl, cellsOf h.o 5 _ rfl, cellsOf h.o 6 _ rfl⟩
end
set_option maxRecDepth 100000 in
set_option maxHeartbeats 4000000 in
theorem step_mint {most : Int} {p : Pp} (on id q x y z : Int) (_hw : (Lit.int .i64 id).wf = true) (w : World) (h : Ok1 most p w) (hl : p.last < 2999999999999) :
    Calls Try.prog 16 #[pv p, ov 1 on id q x y z] w fun e w' => e = .returned (.bool true) ∧ ∃ p', SP most p w w' p' := by
  have hmx : Try.prog.follows .mixedOrders = true := by kernel_rfl
  have HO := hid h
  have hn := h.len
  have hlo := h.c.lo
  have hup := hid h.up
  obtain ⟨tb, b, rb, v, last, L⟩ := p
  simp only at hl hn hlo hup
  have HX : Hid (Bx w.heap.size tb rb 1 on id q x y z ((w.alloc (.cells #[.pointer (some ⟨tb, 0, none⟩), .pointer (some ⟨rb, 0, none⟩)] 49)).alloc (.cells #[.int .i64 1, .int .i64 on, .int .i64 id, .int .i64 q, .int .u64 x, .int .u64 y, .int .u64 z] 33))) := ⟨(Below.heap_alloc _ _ _ (by simp)).trans (heap_new' w _), by have := heap_new' (w.alloc (.cells #[.pointer (some ⟨tb, 0, none⟩), .pointer (some ⟨rb, 0, none⟩)] 49)) (.cells #[.int .i64 1, .int .i64 on, .int .i64 id, .int .i64 q, .int .u64 x, .int .u64 y, .int .u64 z] 33); simpa using this⟩
  have b1 : Below w.heap.size w ((w.alloc (.cells #[.pointer (some ⟨tb, 0, none⟩), .pointer (some ⟨rb, 0, none⟩)] 49)).alloc (.cells #[.int .i64 1, .int .i64 on, .int .i64 id, .int .i64 q, .int .u64 x, .int .u64 y, .int .u64 z] 33)) := (((Gr.refl w).alloc _).alloc _).below
  have HB1 := hid b1
  clear h b1
  obtain ⟨i, e, last', L', hl', P1, R1⟩ := mint_both (most := most) (tb := tb) (b := b) (rb := rb) (v := v) (q, x, y, z) hlo (by omega) hn
  go_enter Try.func16, Try.ntmps16
  go_upto_region 1 with fail
  generalize ((w.alloc (.cells #[.pointer (some ⟨tb, 0, none⟩), .pointer (some ⟨rb, 0, none⟩)] 49)).alloc (.cells #[.int .i64 1, .int .i64 on, .int .i64 id, .int .i64 q, .int .u64 x, .int .u64 y, .int .u64 z] 33)) = W1 at *
  have HO1 := hid (HO.out.below HB1.out)
  have HBs := hid HB1.out.size
  generalize hB : w.heap.size = B at *
  have hof : Hid (∀ k, k = tb ∨ k = b ∨ k = rb ∨ v.ownBlock = some k → k < B) := fun k hk => by rw [← hB]; exact HO.out.lt (k := k) hk
  obtain ⟨s0, s1, s2, s3, s4, s5, s6, s7, s8, s9⟩ := HX.out.cs
  go_wp2_with fail
  refine (P1 W1 HO1.out.c).mono ?_
  rintro e W2 ⟨rfl, c2, k2⟩
  have HX2 := hid (HX.out.kp k2 (fun e => by have := hof.out B; omega) (fun e => by have := hof.out (B + 1); omega))
  have HC2 := hid c2
  have HK2 := hid k2
  clear s0 s1 s2 s3 s4 s5 s6 s7 s8 s9 c2 k2
  obtain ⟨s0, s1, s2, s3, s4, s5, s6, s7, s8, s9⟩ := HX2.out.cs
  go_wp2_with fail
  refine (R1 W2 (HO1.out.rkp HK2.out)).mono ?_
  rintro e W3 ⟨rfl, v', c3, k3, hv3⟩
  clear s0 s1 s2 s3 s4 s5 s6 s7 s8 s9
  have FIN := hid (SP.mk' HO.out (by rw [hB]; exact HB1.out) HC2.out HK2.out (Below.refl _ _) c3 k3 hv3 hl' (Below.refl _ _))
  clear c3 k3 hv3
  go_wp2
  go_ret
  exact ⟨rfl, _, FIN.out⟩
set_option maxRecDepth 100000 in
set_option maxHeartbeats 4000000 in
theorem step_get {most : Int} {p : Pp} (on id q x y z : Int) (hw : (Lit.int .i64 id).wf = true) (w : World) (h : Ok1 most p w) (hl : p.last < 2999999999999) :
    Calls Try.prog 16 #[pv p, ov 2 on id q x y z] w fun e w' => e = .returned (.bool true) ∧ ∃ p', SP most p w w' p' := by
  have hmx : Try.prog.follows .mixedOrders = true := by kernel_rfl
  have HO := hid h
  have hn := h.len
  have hlo := h.c.lo
  have hup := hid h.up
  obtain ⟨tb, b, rb, v, last, L⟩ := p
  simp only at hl hn hlo hup
  have HX : Hid (Bx w.heap.size tb rb 2 on id q x y z ((w.alloc (.cells #[.pointer (some ⟨tb, 0, none⟩), .pointer (some ⟨rb, 0, none⟩)] 49)).alloc (.cells #[.int .i64 2, .int .i64 on, .int .i64 id, .int .i64 q, .int .u64 x, .int .u64 y, .int .u64 z] 33))) := ⟨(Below.heap_alloc _ _ _ (by simp)).trans (heap_new' w _), by have := heap_new' (w.alloc (.cells #[.pointer (some ⟨tb, 0, none⟩), .pointer (some ⟨rb, 0, none⟩)] 49)) (.cells #[.int .i64 2, .int .i64 on, .int .i64 id, .int .i64 q, .int .u64 x, .int .u64 y, .int .u64 z] 33); simpa using this⟩
  have b1 : Below w.heap.size w ((w.alloc (.cells #[.pointer (some ⟨tb, 0, none⟩), .pointer (some ⟨rb, 0, none⟩)] 49)).alloc (.cells #[.int .i64 2, .int .i64 on, .int .i64 id, .int .i64 q, .int .u64 x, .int .u64 y, .int .u64 z] 33)) := (((Gr.refl w).alloc _).alloc _).below
  have HB1 := hid b1
  clear h b1
  obtain ⟨s, e, P1, R1⟩ := get_both (most := most) (tb := tb) (b := b) (rb := rb) (v := v) (last := last) id hw hup.out (by omega)
  obtain ⟨p0, a0, b0, c0⟩ := s
  have heqS := run_eqS' 9997 p0 a0 b0 c0 p0 a0 b0 c0
  rw [show (p0 == p0 && teq a0 b0 c0 a0 b0 c0) = true by simp [teq]] at heqS
  go_enter Try.func16, Try.ntmps16
  go_upto_region 1 with fail
  generalize ((w.alloc (.cells #[.pointer (some ⟨tb, 0, none⟩), .pointer (some ⟨rb, 0, none⟩)] 49)).alloc (.cells #[.int .i64 2, .int .i64 on, .int .i64 id, .int .i64 q, .int .u64 x, .int .u64 y, .int .u64 z] 33)) = W1 at *
  have HO1 := hid (HO.out.below HB1.out)
  have HBs := hid HB1.out.size
  generalize hB : w.heap.size = B at *
  have hof : Hid (∀ k, k = tb ∨ k = b ∨ k = rb ∨ v.ownBlock = some k → k < B) := fun k hk => by rw [← hB]; exact HO.out.lt (k := k) hk
  obtain ⟨s0, s1, s2, s3, s4, s5, s6, s7, s8, s9⟩ := HX.out.cs
  go_wp2_with fail
  refine (P1 W1 HO1.out.c).mono ?_
  rintro e W2 ⟨rfl, c2, k2⟩
  have HX2 := hid (HX.out.kp k2 (fun e => by have := hof.out B; omega) (fun e => by have := hof.out (B + 1); omega))
  have HC2 := hid c2
  have HK2 := hid k2
  clear s0 s1 s2 s3 s4 s5 s6 s7 s8 s9 c2 k2
  obtain ⟨s0, s1, s2, s3, s4, s5, s6, s7, s8, s9⟩ := HX2.out.cs
  go_wp2_with fail
  refine (R1 _ ((HO1.out.rkp HK2.out).gr ((Gr.refl W2).alloc _))).mono ?_
  rintro e W3 ⟨rfl, v', c3, k3, hv3⟩
  clear s0 s1 s2 s3 s4 s5 s6 s7 s8 s9
  have hz2 : B < W2.heap.size := blkLt HX2.out.p
  have ht : ∀ i v', (#[Value.int .i64 p0, .int .u64 a0, .int .u64 b0, .int .u64 c0])[i]? = some v' → W3.cell? ⟨W2.heap.size, i, none⟩ = some v' := fun i v' hv' => by
    rw [k3.cell (by simp) (fun e => by have := hof.out W2.heap.size (by rcases e with e | e; exact Or.inr (Or.inr (Or.inl e)); exact Or.inr (Or.inr (Or.inr e))); omega)]
    exact cell_new W2 _ _ i v' hv'
  have t0 := ht 0 _ rfl
  have t1 := ht 1 _ rfl
  have t2 := ht 2 _ rfl
  have t3 := ht 3 _ rfl
  have hz3 : W2.heap.size < W3.heap.size := Nat.lt_of_lt_of_le (by simp) k3.size
  have FIN := hid (fun w4 b4 => SP.mk' (w4 := w4) HO.out (by rw [hB]; exact HB1.out) HC2.out HK2.out ((Gr.refl W2).alloc (.cells #[.int .i64 p0, .int .u64 a0, .int .u64 b0, .int .u64 c0] 31)).below c3 k3 hv3 (by omega) b4)
  clear c3 k3 hv3 ht
  go_wp2
  go_ret
  exact ⟨rfl, _, FIN.out _ ((Gr.refl W3).alloc _).below⟩
set_option maxRecDepth 100000 in
set_option maxHeartbeats 4000000 in
theorem step_lower {most : Int} {p : Pp} (on id q x y z : Int) (hw : (Lit.int .i64 id).wf = true) (w : World) (h : Ok1 most p w) (hl : p.last < 2999999999999) :
    Calls Try.prog 16 #[pv p, ov 3 on id q x y z] w fun e w' => e = .returned (.bool true) ∧ ∃ p', SP most p w w' p' := by
  have hmx : Try.prog.follows .mixedOrders = true := by kernel_rfl
  have HO := hid h
  have hn := h.len
  have hlo := h.c.lo
  have hup := hid h.up
  obtain ⟨tb, b, rb, v, last, L⟩ := p
  simp only at hl hn hlo hup
  have HX : Hid (Bx w.heap.size tb rb 3 on id q x y z ((w.alloc (.cells #[.pointer (some ⟨tb, 0, none⟩), .pointer (some ⟨rb, 0, none⟩)] 49)).alloc (.cells #[.int .i64 3, .int .i64 on, .int .i64 id, .int .i64 q, .int .u64 x, .int .u64 y, .int .u64 z] 33))) := ⟨(Below.heap_alloc _ _ _ (by simp)).trans (heap_new' w _), by have := heap_new' (w.alloc (.cells #[.pointer (some ⟨tb, 0, none⟩), .pointer (some ⟨rb, 0, none⟩)] 49)) (.cells #[.int .i64 3, .int .i64 on, .int .i64 id, .int .i64 q, .int .u64 x, .int .u64 y, .int .u64 z] 33); simpa using this⟩
  have b1 : Below w.heap.size w ((w.alloc (.cells #[.pointer (some ⟨tb, 0, none⟩), .pointer (some ⟨rb, 0, none⟩)] 49)).alloc (.cells #[.int .i64 3, .int .i64 on, .int .i64 id, .int .i64 q, .int .u64 x, .int .u64 y, .int .u64 z] 33)) := (((Gr.refl w).alloc _).alloc _).below
  have HB1 := hid b1
  clear h b1
  obtain ⟨e, L', P1, R1⟩ := lower_both (most := most) (tb := tb) (b := b) (rb := rb) (v := v) (last := last) id x y z hw hup.out (by omega) (by omega)
  go_enter Try.func16, Try.ntmps16
  go_upto_region 1 with fail
  generalize ((w.alloc (.cells #[.pointer (some ⟨tb, 0, none⟩), .pointer (some ⟨rb, 0, none⟩)] 49)).alloc (.cells #[.int .i64 3, .int .i64 on, .int .i64 id, .int .i64 q, .int .u64 x, .int .u64 y, .int .u64 z] 33)) = W1 at *
  have HO1 := hid (HO.out.below HB1.out)
  have HBs := hid HB1.out.size
  generalize hB : w.heap.size = B at *
  have hof : Hid (∀ k, k = tb ∨ k = b ∨ k = rb ∨ v.ownBlock = some k → k < B) := fun k hk => by rw [← hB]; exact HO.out.lt (k := k) hk
  obtain ⟨s0, s1, s2, s3, s4, s5, s6, s7, s8, s9⟩ := HX.out.cs
  go_upto_region 11 with fail
  clear s0 s1 s2 s3 s4 s5 s6 s7 s8 s9
  have hS0 : (fun W => Bx B tb rb 3 on id q x y z W) W1.drew := HX.out.gr (Gr.refl W1).drew
  refine wp_regionD (S := fun W => Bx B tb rb 3 on id q x y z W) (D := []) hmx ?_
  refine' wpAnyD_take (i := 0) (oi := { dst := some 69, op := Go.Op.fieldAddr 49 (Go.Operand.tmp 2) 0, type := 0, pos := "law.go:97", after := #[], guard := none }) (v := _) rfl (by kernel_rfl) (by kernel_rfl) (by kernel_rfl) (fun _ _ _ h => h) (by kernel_rfl) (Or.inl ⟨by rfl, ?hy1⟩) hS0 ?rest1
  case hy1 => (intro W hSw; go_simp; try (with_reducible rfl))
  try simp only [Act.put, List.setIfInBounds_toArray, List.set_cons_zero, List.set_cons_succ]
  refine' wpAnyD_take (i := 1) (oi := { dst := some 70, op := Go.Op.load 23 (Go.Operand.tmp 69), type := 23, pos := "law.go:97", after := #[{ on := 0, ground := Go.Ground.data }], guard := none }) (v := _) rfl (by kernel_rfl) (by kernel_rfl) (by kernel_rfl) (fun _ _ _ h => h) (by kernel_rfl) (Or.inl ⟨by rfl, ?hy2⟩) hS0 ?rest2
  case hy2 => (intro W hSw; obtain ⟨s0, s1, s2, s3, s4, s5, s6, s7, s8, s9⟩ := hSw.cs; go_simp; try (with_reducible rfl))
  try simp only [Act.put, List.setIfInBounds_toArray, List.set_cons_zero, List.set_cons_succ]
  refine' wpAnyD_take (i := 2) (oi := { dst := some 71, op := Go.Op.fieldAddr 33 (Go.Operand.tmp 3) 2, type := 0, pos := "law.go:97", after := #[], guard := none }) (v := _) rfl (by kernel_rfl) (by kernel_rfl) (by kernel_rfl) (fun _ _ _ h => h) (by kernel_rfl) (Or.inl ⟨by rfl, ?hy3⟩) hS0 ?rest3
  case hy3 => (intro W hSw; go_simp; try (with_reducible rfl))
  try simp only [Act.put, List.setIfInBounds_toArray, List.set_cons_zero, List.set_cons_succ]
  refine' wpAnyD_take (i := 3) (oi := { dst := some 72, op := Go.Op.load 3 (Go.Operand.tmp 71), type := 3, pos := "law.go:97", after := #[{ on := 2, ground := Go.Ground.data }], guard := none }) (v := _) rfl (by kernel_rfl) (by kernel_rfl) (by kernel_rfl) (fun _ _ _ h => h) (by kernel_rfl) (Or.inl ⟨by rfl, ?hy4⟩) hS0 ?rest4
  case hy4 => (intro W hSw; obtain ⟨s0, s1, s2, s3, s4, s5, s6, s7, s8, s9⟩ := hSw.cs; go_simp; try (with_reducible rfl))
  try simp only [Act.put, List.setIfInBounds_toArray, List.set_cons_zero, List.set_cons_succ]
  refine' wpAnyD_take (i := 4) (oi := { dst := some 73, op := Go.Op.fieldAddr 33 (Go.Operand.tmp 3) 3, type := 0, pos := "law.go:97", after := #[], guard := none }) (v := _) rfl (by kernel_rfl) (by kernel_rfl) (by kernel_rfl) (fun _ _ _ h => h) (by kernel_rfl) (Or.inl ⟨by rfl, ?hy5⟩) hS0 ?rest5
  case hy5 => (intro W hSw; go_simp; try (with_reducible rfl))
  try simp only [Act.put, List.setIfInBounds_toArray, List.set_cons_zero, List.set_cons_succ]
  refine' wpAnyD_take (i := 5) (oi := { dst := some 74, op := Go.Op.fieldAddr 31 (Go.Operand.tmp 73) 1, type := 0, pos := "law.go:97", after := #[{ on := 4, ground := Go.Ground.data }], guard := none }) (v := _) rfl (by kernel_rfl) (by kernel_rfl) (by kernel_rfl) (fun _ _ _ h => h) (by kernel_rfl) (Or.inl ⟨by rfl, ?hy6⟩) hS0 ?rest6
  case hy6 => (intro W hSw; go_simp; try (with_reducible rfl))
  try simp only [Act.put, List.setIfInBounds_toArray, List.set_cons_zero, List.set_cons_succ]
  refine' wpAnyD_take (i := 6) (oi := { dst := some 75, op := Go.Op.load 29 (Go.Operand.tmp 74), type := 29, pos := "law.go:97", after := #[{ on := 5, ground := Go.Ground.data }], guard := none }) (v := _) rfl (by kernel_rfl) (by kernel_rfl) (by kernel_rfl) (fun _ _ _ h => h) (by kernel_rfl) (Or.inl ⟨by rfl, ?hy7⟩) hS0 ?rest7
  case hy7 => (intro W hSw; obtain ⟨s0, s1, s2, s3, s4, s5, s6, s7, s8, s9⟩ := hSw.cs; go_simp; try (with_reducible rfl))
  try simp only [Act.put, List.setIfInBounds_toArray, List.set_cons_zero, List.set_cons_succ]
  refine' wpAnyD_take (i := 8) (oi := { dst := some 77, op := Go.Op.fieldAddr 49 (Go.Operand.tmp 2) 1, type := 0, pos := "law.go:97", after := #[], guard := none }) (v := _) rfl (by kernel_rfl) (by kernel_rfl) (by kernel_rfl) (fun _ _ _ h => h) (by kernel_rfl) (Or.inl ⟨by rfl, ?hy8⟩) hS0 ?rest8
  case hy8 => (intro W hSw; go_simp; try (with_reducible rfl))
  try simp only [Act.put, List.setIfInBounds_toArray, List.set_cons_zero, List.set_cons_succ]
  refine' wpAnyD_take (i := 9) (oi := { dst := some 78, op := Go.Op.load 46 (Go.Operand.tmp 77), type := 46, pos := "law.go:97", after := #[{ on := 8, ground := Go.Ground.data }], guard := none }) (v := _) rfl (by kernel_rfl) (by kernel_rfl) (by kernel_rfl) (fun _ _ _ h => h) (by kernel_rfl) (Or.inl ⟨by rfl, ?hy9⟩) hS0 ?rest9
  case hy9 => (intro W hSw; obtain ⟨s0, s1, s2, s3, s4, s5, s6, s7, s8, s9⟩ := hSw.cs; go_simp; try (with_reducible rfl))
  try simp only [Act.put, List.setIfInBounds_toArray, List.set_cons_zero, List.set_cons_succ]
  refine' wpAnyD_take (i := 10) (oi := { dst := some 79, op := Go.Op.fieldAddr 33 (Go.Operand.tmp 3) 2, type := 0, pos := "law.go:97", after := #[], guard := none }) (v := _) rfl (by kernel_rfl) (by kernel_rfl) (by kernel_rfl) (fun _ _ _ h => h) (by kernel_rfl) (Or.inl ⟨by rfl, ?hy10⟩) hS0 ?rest10
  case hy10 => (intro W hSw; go_simp; try (with_reducible rfl))
  try simp only [Act.put, List.setIfInBounds_toArray, List.set_cons_zero, List.set_cons_succ]
  refine' wpAnyD_take (i := 11) (oi := { dst := some 80, op := Go.Op.load 3 (Go.Operand.tmp 79), type := 3, pos := "law.go:97", after := #[{ on := 10, ground := Go.Ground.data }], guard := none }) (v := _) rfl (by kernel_rfl) (by kernel_rfl) (by kernel_rfl) (fun _ _ _ h => h) (by kernel_rfl) (Or.inl ⟨by rfl, ?hy11⟩) hS0 ?rest11
  case hy11 => (intro W hSw; obtain ⟨s0, s1, s2, s3, s4, s5, s6, s7, s8, s9⟩ := hSw.cs; go_simp; try (with_reducible rfl))
  try simp only [Act.put, List.setIfInBounds_toArray, List.set_cons_zero, List.set_cons_succ]
  refine' wpAnyD_take (i := 12) (oi := { dst := some 81, op := Go.Op.fieldAddr 33 (Go.Operand.tmp 3) 3, type := 0, pos := "law.go:97", after := #[], guard := none }) (v := _) rfl (by kernel_rfl) (by kernel_rfl) (by kernel_rfl) (fun _ _ _ h => h) (by kernel_rfl) (Or.inl ⟨by rfl, ?hy12⟩) hS0 ?rest12
  case hy12 => (intro W hSw; go_simp; try (with_reducible rfl))
  try simp only [Act.put, List.setIfInBounds_toArray, List.set_cons_zero, List.set_cons_succ]
  refine' wpAnyD_take (i := 13) (oi := { dst := some 82, op := Go.Op.fieldAddr 31 (Go.Operand.tmp 81) 1, type := 0, pos := "law.go:97", after := #[{ on := 12, ground := Go.Ground.data }], guard := none }) (v := _) rfl (by kernel_rfl) (by kernel_rfl) (by kernel_rfl) (fun _ _ _ h => h) (by kernel_rfl) (Or.inl ⟨by rfl, ?hy13⟩) hS0 ?rest13
  case hy13 => (intro W hSw; go_simp; try (with_reducible rfl))
  try simp only [Act.put, List.setIfInBounds_toArray, List.set_cons_zero, List.set_cons_succ]
  refine' wpAnyD_take (i := 14) (oi := { dst := some 83, op := Go.Op.load 29 (Go.Operand.tmp 82), type := 29, pos := "law.go:97", after := #[{ on := 13, ground := Go.Ground.data }], guard := none }) (v := _) rfl (by kernel_rfl) (by kernel_rfl) (by kernel_rfl) (fun _ _ _ h => h) (by kernel_rfl) (Or.inl ⟨by rfl, ?hy14⟩) hS0 ?rest14
  case hy14 => (intro W hSw; obtain ⟨s0, s1, s2, s3, s4, s5, s6, s7, s8, s9⟩ := hSw.cs; go_simp; try (with_reducible rfl))
  try simp only [Act.put, List.setIfInBounds_toArray, List.set_cons_zero, List.set_cons_succ]
  refine wpAnyD_one (i := 7) (o := { dst := some 76, op := Go.Op.call { callee := Go.Callee.value (Go.Operand.func 9), args := #[Go.Operand.tmp 70, Go.Operand.tmp 72, Go.Operand.tmp 75], argTypes := #[23, 3, 29] }, type := 34, pos := "law.go:97", after := #[{ on := 1, ground := Go.Ground.data }, { on := 3, ground := Go.Ground.data }, { on := 6, ground := Go.Ground.data }], guard := none }) (by kernel_rfl) rfl (fun K hK => ?_)
  go_simp
  refine (P1 _ (HO1.out.gr (Gr.refl W1).drew).c).mono ?_
  rintro r W2 ⟨rfl, c2, k2⟩
  have hS2 : (fun W => Bx B tb rb 3 on id q x y z W) W2 := hS0.kp k2 (fun e => by have := hof.out B; omega) (fun e => by have := hof.out (B + 1); omega)
  have HC2 := hid c2
  have HK2 := hid k2
  clear c2 k2
  go_wp2_with fail
  refine hK.out _ _ (fun hD => hS2) ?_
  clear hK K
  try simp only [Act.put, List.setIfInBounds_toArray, List.set_cons_zero, List.set_cons_succ]
  refine wpAnyD_one (i := 15) (o := { dst := some 84, op := Go.Op.call { callee := Go.Callee.value (Go.Operand.func 25), args := #[Go.Operand.tmp 78, Go.Operand.tmp 80, Go.Operand.tmp 83], argTypes := #[46, 3, 29] }, type := 3, pos := "law.go:97", after := #[{ on := 9, ground := Go.Ground.data }, { on := 11, ground := Go.Ground.data }, { on := 14, ground := Go.Ground.data }, { on := 7, ground := Go.Ground.chain }], guard := none }) (by kernel_rfl) rfl (fun K hK => ?_)
  go_simp
  refine (R1 _ ((HO1.out.gr (Gr.refl W1).drew).rkp HK2.out)).mono ?_
  rintro r W3 ⟨rfl, v', c3, k3, hv3⟩
  have hz3 : B ≤ W2.heap.size := Nat.le_trans HBs.out HK2.out.size
  have hS3 : (fun W => Bx B tb rb 3 on id q x y z W) W3 := hS2.kp k3 (fun e => by have := hof.out B (by rcases e with e | e; exact Or.inr (Or.inr (Or.inl e)); exact Or.inr (Or.inr (Or.inr e))); omega) (fun e => by have := hof.out (B + 1) (by rcases e with e | e; exact Or.inr (Or.inr (Or.inl e)); exact Or.inr (Or.inr (Or.inr e))); omega)
  have FIN := hid (SP.mk' (w1 := W1.drew) HO.out (by rw [hB]; exact ⟨HB1.out.os, HB1.out.tape, HB1.out.output, HB1.out.size, HB1.out.block⟩) HC2.out HK2.out (Below.refl _ _) c3 k3 hv3 (by omega) (Below.refl _ _))
  clear c3 k3 hv3
  go_wp2_with fail
  refine hK.out _ _ (fun hD => hS3) ?_
  clear hK K
  try simp only [Act.put, List.setIfInBounds_toArray, List.set_cons_zero, List.set_cons_succ]
  refine' wpAnyD_take (i := 16) (oi := { dst := some 85, op := Go.Op.binOp Go.BinOp.eql 3 (Go.Operand.tmp 76) (Go.Operand.tmp 84) 3, type := 4, pos := "law.go:97", after := #[{ on := 7, ground := Go.Ground.data }, { on := 15, ground := Go.Ground.data }], guard := none }) (v := _) rfl (by kernel_rfl) (by kernel_rfl) (by kernel_rfl) (fun _ _ _ h => h) (by kernel_rfl) (Or.inl ⟨by rfl, ?hy17⟩) hS3 ?rest17
  case hy17 => (intro W hSw; go_simp; try (with_reducible rfl))
  try simp only [Act.put, List.setIfInBounds_toArray, List.set_cons_zero, List.set_cons_succ]
  refine' wpAnyD_take (i := 17) (oi := { dst := some 4, op := Go.Op.assign (Go.Operand.tmp 85), type := 4, pos := "law.go:97", after := #[{ on := 16, ground := Go.Ground.data }, { on := 15, ground := Go.Ground.chain }, { on := 0, ground := Go.Ground.phase }, { on := 1, ground := Go.Ground.phase }, { on := 2, ground := Go.Ground.phase }, { on := 3, ground := Go.Ground.phase }, { on := 4, ground := Go.Ground.phase }, { on := 5, ground := Go.Ground.phase }, { on := 6, ground := Go.Ground.phase }, { on := 7, ground := Go.Ground.phase }, { on := 8, ground := Go.Ground.phase }, { on := 9, ground := Go.Ground.phase }, { on := 10, ground := Go.Ground.phase }, { on := 11, ground := Go.Ground.phase }, { on := 12, ground := Go.Ground.phase }, { on := 13, ground := Go.Ground.phase }, { on := 14, ground := Go.Ground.phase }, { on := 15, ground := Go.Ground.phase }, { on := 16, ground := Go.Ground.phase }], guard := none }) (v := _) rfl (by kernel_rfl) (by kernel_rfl) (by kernel_rfl) (fun _ _ _ h => h) (by kernel_rfl) (Or.inl ⟨by rfl, ?hy18⟩) hS3 ?rest18
  case hy18 => (intro W hSw; go_simp; try (with_reducible rfl))
  try simp only [Act.put, List.setIfInBounds_toArray, List.set_cons_zero, List.set_cons_succ]
  refine wpAnyD_done (by kernel_rfl) ?_ _
  go_wp2
  go_ret
  exact ⟨rfl, _, FIN.out⟩
set_option maxRecDepth 100000 in
set_option maxHeartbeats 4000000 in
theorem step_drop {most : Int} {p : Pp} (on id q x y z : Int) (hw : (Lit.int .i64 id).wf = true) (w : World) (h : Ok1 most p w) (hl : p.last < 2999999999999) :
    Calls Try.prog 16 #[pv p, ov 4 on id q x y z] w fun e w' => e = .returned (.bool true) ∧ ∃ p', SP most p w w' p' := by
  have hmx : Try.prog.follows .mixedOrders = true := by kernel_rfl
  have HO := hid h
  have hn := h.len
  have hlo := h.c.lo
  have hup := hid h.up
  obtain ⟨tb, b, rb, v, last, L⟩ := p
  simp only at hl hn hlo hup
  have HX : Hid (Bx w.heap.size tb rb 4 on id q x y z ((w.alloc (.cells #[.pointer (some ⟨tb, 0, none⟩), .pointer (some ⟨rb, 0, none⟩)] 49)).alloc (.cells #[.int .i64 4, .int .i64 on, .int .i64 id, .int .i64 q, .int .u64 x, .int .u64 y, .int .u64 z] 33))) := ⟨(Below.heap_alloc _ _ _ (by simp)).trans (heap_new' w _), by have := heap_new' (w.alloc (.cells #[.pointer (some ⟨tb, 0, none⟩), .pointer (some ⟨rb, 0, none⟩)] 49)) (.cells #[.int .i64 4, .int .i64 on, .int .i64 id, .int .i64 q, .int .u64 x, .int .u64 y, .int .u64 z] 33); simpa using this⟩
  have b1 : Below w.heap.size w ((w.alloc (.cells #[.pointer (some ⟨tb, 0, none⟩), .pointer (some ⟨rb, 0, none⟩)] 49)).alloc (.cells #[.int .i64 4, .int .i64 on, .int .i64 id, .int .i64 q, .int .u64 x, .int .u64 y, .int .u64 z] 33)) := (((Gr.refl w).alloc _).alloc _).below
  have HB1 := hid b1
  clear h b1
  obtain ⟨e, L', P1, R1⟩ := drop_both (most := most) (tb := tb) (b := b) (rb := rb) (v := v) (last := last) id hw hup.out (by omega)
  go_enter Try.func16, Try.ntmps16
  go_upto_region 1 with fail
  generalize ((w.alloc (.cells #[.pointer (some ⟨tb, 0, none⟩), .pointer (some ⟨rb, 0, none⟩)] 49)).alloc (.cells #[.int .i64 4, .int .i64 on, .int .i64 id, .int .i64 q, .int .u64 x, .int .u64 y, .int .u64 z] 33)) = W1 at *
  have HO1 := hid (HO.out.below HB1.out)
  have HBs := hid HB1.out.size
  generalize hB : w.heap.size = B at *
  have hof : Hid (∀ k, k = tb ∨ k = b ∨ k = rb ∨ v.ownBlock = some k → k < B) := fun k hk => by rw [← hB]; exact HO.out.lt (k := k) hk
  obtain ⟨s0, s1, s2, s3, s4, s5, s6, s7, s8, s9⟩ := HX.out.cs
  go_upto_region 13 with fail
  clear s0 s1 s2 s3 s4 s5 s6 s7 s8 s9
  have hS0 : (fun W => Bx B tb rb 4 on id q x y z W) W1.drew := HX.out.gr (Gr.refl W1).drew
  refine wp_regionD (S := fun W => Bx B tb rb 4 on id q x y z W) (D := []) hmx ?_
  refine' wpAnyD_take (i := 0) (oi := { dst := some 88, op := Go.Op.fieldAddr 49 (Go.Operand.tmp 2) 0, type := 0, pos := "law.go:99", after := #[], guard := none }) (v := _) rfl (by kernel_rfl) (by kernel_rfl) (by kernel_rfl) (fun _ _ _ h => h) (by kernel_rfl) (Or.inl ⟨by rfl, ?hy19⟩) hS0 ?rest19
  case hy19 => (intro W hSw; go_simp; try (with_reducible rfl))
  try simp only [Act.put, List.setIfInBounds_toArray, List.set_cons_zero, List.set_cons_succ]
  refine' wpAnyD_take (i := 1) (oi := { dst := some 89, op := Go.Op.load 23 (Go.Operand.tmp 88), type := 23, pos := "law.go:99", after := #[{ on := 0, ground := Go.Ground.data }], guard := none }) (v := _) rfl (by kernel_rfl) (by kernel_rfl) (by kernel_rfl) (fun _ _ _ h => h) (by kernel_rfl) (Or.inl ⟨by rfl, ?hy20⟩) hS0 ?rest20
  case hy20 => (intro W hSw; obtain ⟨s0, s1, s2, s3, s4, s5, s6, s7, s8, s9⟩ := hSw.cs; go_simp; try (with_reducible rfl))
  try simp only [Act.put, List.setIfInBounds_toArray, List.set_cons_zero, List.set_cons_succ]
  refine' wpAnyD_take (i := 2) (oi := { dst := some 90, op := Go.Op.fieldAddr 33 (Go.Operand.tmp 3) 2, type := 0, pos := "law.go:99", after := #[], guard := none }) (v := _) rfl (by kernel_rfl) (by kernel_rfl) (by kernel_rfl) (fun _ _ _ h => h) (by kernel_rfl) (Or.inl ⟨by rfl, ?hy21⟩) hS0 ?rest21
  case hy21 => (intro W hSw; go_simp; try (with_reducible rfl))
  try simp only [Act.put, List.setIfInBounds_toArray, List.set_cons_zero, List.set_cons_succ]
  refine' wpAnyD_take (i := 3) (oi := { dst := some 91, op := Go.Op.load 3 (Go.Operand.tmp 90), type := 3, pos := "law.go:99", after := #[{ on := 2, ground := Go.Ground.data }], guard := none }) (v := _) rfl (by kernel_rfl) (by kernel_rfl) (by kernel_rfl) (fun _ _ _ h => h) (by kernel_rfl) (Or.inl ⟨by rfl, ?hy22⟩) hS0 ?rest22
  case hy22 => (intro W hSw; obtain ⟨s0, s1, s2, s3, s4, s5, s6, s7, s8, s9⟩ := hSw.cs; go_simp; try (with_reducible rfl))
  try simp only [Act.put, List.setIfInBounds_toArray, List.set_cons_zero, List.set_cons_succ]
  refine' wpAnyD_take (i := 5) (oi := { dst := some 93, op := Go.Op.fieldAddr 49 (Go.Operand.tmp 2) 1, type := 0, pos := "law.go:99", after := #[], guard := none }) (v := _) rfl (by kernel_rfl) (by kernel_rfl) (by kernel_rfl) (fun _ _ _ h => h) (by kernel_rfl) (Or.inl ⟨by rfl, ?hy23⟩) hS0 ?rest23
  case hy23 => (intro W hSw; go_simp; try (with_reducible rfl))
  try simp only [Act.put, List.setIfInBounds_toArray, List.set_cons_zero, List.set_cons_succ]
  refine' wpAnyD_take (i := 6) (oi := { dst := some 94, op := Go.Op.load 46 (Go.Operand.tmp 93), type := 46, pos := "law.go:99", after := #[{ on := 5, ground := Go.Ground.data }], guard := none }) (v := _) rfl (by kernel_rfl) (by kernel_rfl) (by kernel_rfl) (fun _ _ _ h => h) (by kernel_rfl) (Or.inl ⟨by rfl, ?hy24⟩) hS0 ?rest24
  case hy24 => (intro W hSw; obtain ⟨s0, s1, s2, s3, s4, s5, s6, s7, s8, s9⟩ := hSw.cs; go_simp; try (with_reducible rfl))
  try simp only [Act.put, List.setIfInBounds_toArray, List.set_cons_zero, List.set_cons_succ]
  refine' wpAnyD_take (i := 7) (oi := { dst := some 95, op := Go.Op.fieldAddr 33 (Go.Operand.tmp 3) 2, type := 0, pos := "law.go:99", after := #[], guard := none }) (v := _) rfl (by kernel_rfl) (by kernel_rfl) (by kernel_rfl) (fun _ _ _ h => h) (by kernel_rfl) (Or.inl ⟨by rfl, ?hy25⟩) hS0 ?rest25
  case hy25 => (intro W hSw; go_simp; try (with_reducible rfl))
  try simp only [Act.put, List.setIfInBounds_toArray, List.set_cons_zero, List.set_cons_succ]
  refine' wpAnyD_take (i := 8) (oi := { dst := some 96, op := Go.Op.load 3 (Go.Operand.tmp 95), type := 3, pos := "law.go:99", after := #[{ on := 7, ground := Go.Ground.data }], guard := none }) (v := _) rfl (by kernel_rfl) (by kernel_rfl) (by kernel_rfl) (fun _ _ _ h => h) (by kernel_rfl) (Or.inl ⟨by rfl, ?hy26⟩) hS0 ?rest26
  case hy26 => (intro W hSw; obtain ⟨s0, s1, s2, s3, s4, s5, s6, s7, s8, s9⟩ := hSw.cs; go_simp; try (with_reducible rfl))
  try simp only [Act.put, List.setIfInBounds_toArray, List.set_cons_zero, List.set_cons_succ]
  refine wpAnyD_one (i := 4) (o := { dst := some 92, op := Go.Op.call { callee := Go.Callee.value (Go.Operand.func 8), args := #[Go.Operand.tmp 89, Go.Operand.tmp 91], argTypes := #[23, 3] }, type := 34, pos := "law.go:99", after := #[{ on := 1, ground := Go.Ground.data }, { on := 3, ground := Go.Ground.data }], guard := none }) (by kernel_rfl) rfl (fun K hK => ?_)
  go_simp
  refine (P1 _ (HO1.out.gr (Gr.refl W1).drew).c).mono ?_
  rintro r W2 ⟨rfl, c2, k2⟩
  have hS2 : (fun W => Bx B tb rb 4 on id q x y z W) W2 := hS0.kp k2 (fun e => by have := hof.out B; omega) (fun e => by have := hof.out (B + 1); omega)
  have HC2 := hid c2
  have HK2 := hid k2
  clear c2 k2
  go_wp2_with fail
  refine hK.out _ _ (fun hD => hS2) ?_
  clear hK K
  try simp only [Act.put, List.setIfInBounds_toArray, List.set_cons_zero, List.set_cons_succ]
  refine wpAnyD_one (i := 9) (o := { dst := some 97, op := Go.Op.call { callee := Go.Callee.value (Go.Operand.func 26), args := #[Go.Operand.tmp 94, Go.Operand.tmp 96], argTypes := #[46, 3] }, type := 3, pos := "law.go:99", after := #[{ on := 6, ground := Go.Ground.data }, { on := 8, ground := Go.Ground.data }, { on := 4, ground := Go.Ground.chain }], guard := none }) (by kernel_rfl) rfl (fun K hK => ?_)
  go_simp
  refine (R1 _ ((HO1.out.gr (Gr.refl W1).drew).rkp HK2.out)).mono ?_
  rintro r W3 ⟨rfl, v', c3, k3, hv3⟩
  have hz3 : B ≤ W2.heap.size := Nat.le_trans HBs.out HK2.out.size
  have hS3 : (fun W => Bx B tb rb 4 on id q x y z W) W3 := hS2.kp k3 (fun e => by have := hof.out B (by rcases e with e | e; exact Or.inr (Or.inr (Or.inl e)); exact Or.inr (Or.inr (Or.inr e))); omega) (fun e => by have := hof.out (B + 1) (by rcases e with e | e; exact Or.inr (Or.inr (Or.inl e)); exact Or.inr (Or.inr (Or.inr e))); omega)
  have FIN := hid (SP.mk' (w1 := W1.drew) HO.out (by rw [hB]; exact ⟨HB1.out.os, HB1.out.tape, HB1.out.output, HB1.out.size, HB1.out.block⟩) HC2.out HK2.out (Below.refl _ _) c3 k3 hv3 (by omega) (Below.refl _ _))
  clear c3 k3 hv3
  go_wp2_with fail
  refine hK.out _ _ (fun hD => hS3) ?_
  clear hK K
  try simp only [Act.put, List.setIfInBounds_toArray, List.set_cons_zero, List.set_cons_succ]
  refine' wpAnyD_take (i := 10) (oi := { dst := some 98, op := Go.Op.binOp Go.BinOp.eql 3 (Go.Operand.tmp 92) (Go.Operand.tmp 97) 3, type := 4, pos := "law.go:99", after := #[{ on := 4, ground := Go.Ground.data }, { on := 9, ground := Go.Ground.data }], guard := none }) (v := _) rfl (by kernel_rfl) (by kernel_rfl) (by kernel_rfl) (fun _ _ _ h => h) (by kernel_rfl) (Or.inl ⟨by rfl, ?hy29⟩) hS3 ?rest29
  case hy29 => (intro W hSw; go_simp; try (with_reducible rfl))
  try simp only [Act.put, List.setIfInBounds_toArray, List.set_cons_zero, List.set_cons_succ]
  refine' wpAnyD_take (i := 11) (oi := { dst := some 4, op := Go.Op.assign (Go.Operand.tmp 98), type := 4, pos := "law.go:99", after := #[{ on := 10, ground := Go.Ground.data }, { on := 9, ground := Go.Ground.chain }, { on := 0, ground := Go.Ground.phase }, { on := 1, ground := Go.Ground.phase }, { on := 2, ground := Go.Ground.phase }, { on := 3, ground := Go.Ground.phase }, { on := 4, ground := Go.Ground.phase }, { on := 5, ground := Go.Ground.phase }, { on := 6, ground := Go.Ground.phase }, { on := 7, ground := Go.Ground.phase }, { on := 8, ground := Go.Ground.phase }, { on := 9, ground := Go.Ground.phase }, { on := 10, ground := Go.Ground.phase }], guard := none }) (v := _) rfl (by kernel_rfl) (by kernel_rfl) (by kernel_rfl) (fun _ _ _ h => h) (by kernel_rfl) (Or.inl ⟨by rfl, ?hy30⟩) hS3 ?rest30
  case hy30 => (intro W hSw; go_simp; try (with_reducible rfl))
  try simp only [Act.put, List.setIfInBounds_toArray, List.set_cons_zero, List.set_cons_succ]
  refine wpAnyD_done (by kernel_rfl) ?_ _
  go_wp2
  go_ret
  exact ⟨rfl, _, FIN.out⟩
set_option maxRecDepth 100000 in
set_option maxHeartbeats 4000000 in
theorem step_all {most : Int} {p : Pp} (on id q x y z : Int) (_hw : (Lit.int .i64 id).wf = true) (w : World) (h : Ok1 most p w) (hl : p.last < 2999999999999) :
    Calls Try.prog 16 #[pv p, ov 5 on id q x y z] w fun e w' => e = .returned (.bool true) ∧ ∃ p', SP most p w w' p' := by
  have hmx : Try.prog.follows .mixedOrders = true := by kernel_rfl
  have HO := hid h
  have hn := h.len
  have hlo := h.c.lo
  have hup := hid h.up
  obtain ⟨tb, b, rb, v, last, L⟩ := p
  simp only at hl hn hlo hup
  have HX : Hid (Bx w.heap.size tb rb 5 on id q x y z ((w.alloc (.cells #[.pointer (some ⟨tb, 0, none⟩), .pointer (some ⟨rb, 0, none⟩)] 49)).alloc (.cells #[.int .i64 5, .int .i64 on, .int .i64 id, .int .i64 q, .int .u64 x, .int .u64 y, .int .u64 z] 33))) := ⟨(Below.heap_alloc _ _ _ (by simp)).trans (heap_new' w _), by have := heap_new' (w.alloc (.cells #[.pointer (some ⟨tb, 0, none⟩), .pointer (some ⟨rb, 0, none⟩)] 49)) (.cells #[.int .i64 5, .int .i64 on, .int .i64 id, .int .i64 q, .int .u64 x, .int .u64 y, .int .u64 z] 33); simpa using this⟩
  have b1 : Below w.heap.size w ((w.alloc (.cells #[.pointer (some ⟨tb, 0, none⟩), .pointer (some ⟨rb, 0, none⟩)] 49)).alloc (.cells #[.int .i64 5, .int .i64 on, .int .i64 id, .int .i64 q, .int .u64 x, .int .u64 y, .int .u64 z] 33)) := (((Gr.refl w).alloc _).alloc _).below
  have HB1 := hid b1
  clear h b1
  go_enter Try.func16, Try.ntmps16
  go_upto_region 1 with fail
  generalize ((w.alloc (.cells #[.pointer (some ⟨tb, 0, none⟩), .pointer (some ⟨rb, 0, none⟩)] 49)).alloc (.cells #[.int .i64 5, .int .i64 on, .int .i64 id, .int .i64 q, .int .u64 x, .int .u64 y, .int .u64 z] 33)) = W1 at *
  have HO1 := hid (HO.out.below HB1.out)
  have HBs := hid HB1.out.size
  generalize hB : w.heap.size = B at *
  have hof : Hid (∀ k, k = tb ∨ k = b ∨ k = rb ∨ v.ownBlock = some k → k < B) := fun k hk => by rw [← hB]; exact HO.out.lt (k := k) hk
  obtain ⟨s0, s1, s2, s3, s4, s5, s6, s7, s8, s9⟩ := HX.out.cs
  go_wp2_with fail
  refine (alike_any W1 HO1.out (by show last < 3000000000000; omega)).mono ?_
  rintro e W2 ⟨rfl, b2⟩
  have FIN := hid (SP.of_below HO.out (by rw [hB]; exact HB1.out.trans (b2.mono HBs.out)))
  clear b2
  go_wp2
  go_ret
  exact ⟨rfl, _, FIN.out⟩
set_option maxRecDepth 100000 in
set_option maxHeartbeats 4000000 in
theorem step_else {most : Int} {p : Pp} (k on id q x y z : Int) (_hw : (Lit.int .i64 id).wf = true) (w : World) (h : Ok1 most p w) (hl : p.last < 2999999999999) (h1 : k ≠ 1) (h2 : k ≠ 2) (h3 : k ≠ 3) (h4 : k ≠ 4) (h5 : k ≠ 5) :
    Calls Try.prog 16 #[pv p, ov k on id q x y z] w fun e w' => e = .returned (.bool true) ∧ ∃ p', SP most p w w' p' := by
  have hmx : Try.prog.follows .mixedOrders = true := by kernel_rfl
  have HO := hid h
  have hn := h.len
  have hlo := h.c.lo
  have hup := hid h.up
  obtain ⟨tb, b, rb, v, last, L⟩ := p
  simp only at hl hn hlo hup
  have HX : Hid (Bx w.heap.size tb rb k on id q x y z ((w.alloc (.cells #[.pointer (some ⟨tb, 0, none⟩), .pointer (some ⟨rb, 0, none⟩)] 49)).alloc (.cells #[.int .i64 k, .int .i64 on, .int .i64 id, .int .i64 q, .int .u64 x, .int .u64 y, .int .u64 z] 33))) := ⟨(Below.heap_alloc _ _ _ (by simp)).trans (heap_new' w _), by have := heap_new' (w.alloc (.cells #[.pointer (some ⟨tb, 0, none⟩), .pointer (some ⟨rb, 0, none⟩)] 49)) (.cells #[.int .i64 k, .int .i64 on, .int .i64 id, .int .i64 q, .int .u64 x, .int .u64 y, .int .u64 z] 33); simpa using this⟩
  have b1 : Below w.heap.size w ((w.alloc (.cells #[.pointer (some ⟨tb, 0, none⟩), .pointer (some ⟨rb, 0, none⟩)] 49)).alloc (.cells #[.int .i64 k, .int .i64 on, .int .i64 id, .int .i64 q, .int .u64 x, .int .u64 y, .int .u64 z] 33)) := (((Gr.refl w).alloc _).alloc _).below
  have HB1 := hid b1
  clear h b1
  go_enter Try.func16, Try.ntmps16
  go_upto_region 1 with fail
  generalize ((w.alloc (.cells #[.pointer (some ⟨tb, 0, none⟩), .pointer (some ⟨rb, 0, none⟩)] 49)).alloc (.cells #[.int .i64 k, .int .i64 on, .int .i64 id, .int .i64 q, .int .u64 x, .int .u64 y, .int .u64 z] 33)) = W1 at *
  have HO1 := hid (HO.out.below HB1.out)
  have HBs := hid HB1.out.size
  generalize hB : w.heap.size = B at *
  have hof : Hid (∀ k, k = tb ∨ k = b ∨ k = rb ∨ v.ownBlock = some k → k < B) := fun k hk => by rw [← hB]; exact HO.out.lt (k := k) hk
  obtain ⟨s0, s1, s2, s3, s4, s5, s6, s7, s8, s9⟩ := HX.out.cs
  have FIN := hid (SP.of_below HO.out (by rw [hB]; exact HB1.out))
  go_wp2
  go_ret
  exact ⟨rfl, _, FIN.out⟩
theorem step_any {most : Int} {p : Pp} (o : Opx) (w : World) (h : Ok1 most p w) (hl : p.last < 2999999999999) :
    Calls Try.prog 16 #[pv p, ov o.k o.on o.id o.s.1 o.s.2.1 o.s.2.2.1 o.s.2.2.2] w fun e w' => e = .returned (.bool true) ∧ ∃ p', SP most p w w' p' := by
  obtain ⟨k, on, id, ⟨q, x, y, z⟩, hw⟩ := o
  by_cases h1 : k = 1
  · subst h1; exact step_mint on id q x y z hw w h hl
  · by_cases h2 : k = 2
    · subst h2; exact step_get on id q x y z hw w h hl
    · by_cases h3 : k = 3
      · subst h3; exact step_lower on id q x y z hw w h hl
      · by_cases h4 : k = 4
        · subst h4; exact step_drop on id q x y z hw w h hl
        · by_cases h5 : k = 5
          · subst h5; exact step_all on id q x y z hw w h hl
          · exact step_else k on id q x y z hw w h hl h1 h2 h3 h4 h5
end Go.Proofs.Ytabcibmdbancdaa
