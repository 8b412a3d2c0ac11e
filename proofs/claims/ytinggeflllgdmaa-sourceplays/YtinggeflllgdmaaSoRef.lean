import Derived.Test.YtinggeflllgdmaaSoMeth2
import Derived.Test.YtinggeflllgdmaaGRef1
import Derived.Test.YtinggeflllgdmaaRfAh
namespace Go.Proofs.Ytinggeflllgdmaa
open Go.RowKit Go.Sort
attribute [local go_sem ↓] Go.wp_at_zero Go.wp_at_succ
/-- The document's input: its block. -/
abbrev rcs (n : Int) (q : Bool) (t : T3) : Array Value := #[.int .i64 n, .bool q, .int .u64 t.1, .int .u64 t.2.1, .int .u64 t.2.2]
def Rb (w : World) (b : Nat) (n : Int) (q : Bool) (t : T3) : Prop := w.heap[b]? = some (.cells (rcs n q t) 60 (0, 0))
def Ro (w : World) (b : Nat) (n : Int) (s : Option T3) : Prop := ∃ t : T3, Rb w b n s.isNone t ∧ ∀ u, s = some u → t = u
theorem Rb.below {w w' : World} {b : Nat} {n : Int} {q : Bool} {t : T3} (h : Rb w b n q t) (hb : Below w.heap.size w w') : Rb w' b n q t := (hb.block b (tk_lt h)).trans h
theorem Ro.kp {S : Nat → Prop} {w w' : World} {b : Nat} {n : Int} {s : Option T3} (h : Ro w b n s) (hk : Kp S w w') (hS : ¬ S b) : Ro w' b n s := by
  obtain ⟨t, h1, h2⟩ := h
  exact ⟨t, (hk.block b (tk_lt h1) hS).trans h1, h2⟩
theorem Ro.below {w w' : World} {b : Nat} {n : Int} {s : Option T3} (h : Ro w b n s) (hb : Below w.heap.size w w') : Ro w' b n s := by
  obtain ⟨t, h1, h2⟩ := h
  exact ⟨t, h1.below hb, h2⟩
theorem Ro.lt {w : World} {b : Nat} {n : Int} {s : Option T3} (h : Ro w b n s) : b < w.heap.size := by
  obtain ⟨t, h1, _⟩ := h
  exact tk_lt h1
theorem Rb.cells {w : World} {b : Nat} {n : Int} {q : Bool} {t : T3} (h : Rb w b n q t) : w.cell? ⟨b, 0, none⟩ = some (.int .i64 n) ∧ w.cell? ⟨b, 1, none⟩ = some (.bool q) ∧ w.cell? ⟨b, 2, none⟩ = some (.int .u64 t.1) ∧ w.cell? ⟨b, 3, none⟩ = some (.int .u64 t.2.1) ∧ w.cell? ⟨b, 4, none⟩ = some (.int .u64 t.2.2) ∧ (∀ i, w.frozen? ⟨b, i, none⟩ = false) ∧ b < w.heap.size :=
  ⟨((tk_store h).1 0).trans rfl, ((tk_store h).1 1).trans rfl, ((tk_store h).1 2).trans rfl, ((tk_store h).1 3).trans rfl, ((tk_store h).1 4).trans rfl, (tk_store h).2, tk_lt h⟩
set_option maxHeartbeats 2000000 in
theorem rnewOk_any {n : Int} (hn : 1 ≤ n ∧ n ≤ 3) (w : World) : Calls Try.prog 11 #[.int .i64 n] w fun e w' => ∃ b, e = .returned (.tuple #[.pointer (some ⟨b, 0, none⟩), .int .i64 0]) ∧ Hid (Ro w' b n (some (0, 0, 0)) ∧ w.heap.size ≤ b ∧ Gr w w') := by
  have h1 : ¬ n < 1 := by omega
  have h3 : ¬ 3 < n := by omega
  clear hn
  go_enter Try.func11, Try.ntmps11
  go_wp2
  exact bodyPost_ret (v := .tuple #[.pointer (some ⟨w.heap.size, 0, none⟩), .int .i64 0]) (by simp [results, Try.results11, go_sem]) rfl ⟨_, rfl, ⟨(0, 0, 0), heap_new' _ _, fun u hu => by simpa using hu⟩, Nat.le_refl _, (Gr.refl _).alloc _⟩
set_option maxHeartbeats 2000000 in
theorem rnewNo_any {n : Int} (hn : ¬ (1 ≤ n ∧ n ≤ 3)) (w : World) : Calls Try.prog 11 #[.int .i64 n] w fun e w' => e = .returned (.tuple #[.pointer none, .int .i64 10]) ∧ w' = w := by
  by_cases h1 : n < 1
  · clear hn
    go_enter Try.func11, Try.ntmps11
    go_wp2
    exact bodyPost_ret (v := .tuple #[.pointer none, .int .i64 10]) (by simp [results, Try.results11, go_sem]) rfl ⟨rfl, rfl⟩
  · have h3 : 3 < n := by omega
    clear hn
    go_enter Try.func11, Try.ntmps11
    go_wp2
    exact bodyPost_ret (v := .tuple #[.pointer none, .int .i64 10]) (by simp [results, Try.results11, go_sem]) rfl ⟨rfl, rfl⟩
set_option maxHeartbeats 4000000 in
set_option maxRecDepth 100000 in
theorem rsend_any {b : Nat} {n : Int} {s : Option T3} (t : T3) (w : World) (h : Ro w b n s) : Calls Try.prog 17 #[.pointer (some ⟨b, 0, none⟩), tv t] w fun e w' => e = .returned (.int .i64 (snd n s t)) ∧ Gr w w' := by
  have hmx : Try.prog.follows .mixedOrders = true := by kernel_rfl
  obtain ⟨x, h, hx⟩ := h
  have HX := hid hx
  obtain ⟨q, hq⟩ : ∃ q, q = s.isNone := ⟨_, rfl⟩
  rw [← hq] at h
  have HQN := hid hq
  clear hx hq
  obtain ⟨W1, hW1⟩ : ∃ W1, W1 = w.alloc (.cells (tc t) 30) := ⟨_, rfl⟩
  obtain ⟨b3, hb3⟩ : ∃ b3, b3 = w.heap.size := ⟨_, rfl⟩
  have G1 : Hid (Gr w W1) := by rw [hW1]; exact (Gr.refl _).alloc _
  have hS0 : (fun W : World => W.heap[b3]? = some (.cells (tc t) 30 (0, 0)) ∧ Rb W b n q x) W1.drew := ⟨by rw [hW1, hb3]; exact heap_new' _ _, h.below G1.out.drew.below⟩
  have HF := hid (fun W => refFits_any t.1 t.2.1 t.2.2 n W)
  have HA := hid (fun W => refAhead_any x.1 x.2.1 x.2.2 t.1 t.2.1 t.2.2 W)
  have HT := hid (tfits_two t.1 t.2.1 t.2.2 n)
  have HD : Hid (snd n s t = if tfits t.1 t.2.1 t.2.2 n = 0 then snx t s else 10) := rfl
  generalize snd n s t = r at HD ⊢
  generalize tfits t.1 t.2.1 t.2.2 n = f at HF HT HD
  clear h
  simp only [tv]
  simp only [tc] at hW1
  go_enter Try.func17, Try.ntmps17
  go_upto_region 1 with fail
  rw [← hW1, ← hb3]
  clear hW1 hb3
  rcases HT.out with rfl | rfl
  · have HD2 := hid (HD.out.trans (if_pos rfl))
    clear HD HT
    refine wp_regionD (S := fun W : World => W.heap[b3]? = some (.cells (tc t) 30 (0, 0)) ∧ Rb W b n q x) (D := []) hmx ?_
    refine' wpAnyD_take (i := 0) (oi := { dst := some 5, op := Go.Op.load 30 (Go.Operand.tmp 3), type := 30, pos := "ref.go:33", after := #[], guard := none }) (v := _) rfl (by kernel_rfl) (by kernel_rfl) (by kernel_rfl) (fun _ _ _ h => h) (by kernel_rfl) (Or.inl ⟨by rfl, ?hy1⟩) hS0 ?rest1
    case hy1 => (intro W hSw; obtain ⟨y0, y1, y2, yz⟩ := box3 hSw.1; go_simp; try (with_reducible rfl))
    try simp only [Act.put, List.setIfInBounds_toArray, List.set_cons_zero, List.set_cons_succ]
    refine' wpAnyD_take (i := 1) (oi := { dst := some 6, op := Go.Op.move (Go.Operand.tmp 0), type := 37, pos := "ref.go:33", after := #[], guard := none }) (v := _) rfl (by kernel_rfl) (by kernel_rfl) (by kernel_rfl) (fun _ _ _ h => h) (by kernel_rfl) (Or.inl ⟨by rfl, ?hy2⟩) hS0 ?rest2
    case hy2 => (intro W hSw; go_simp; try (with_reducible rfl))
    try simp only [Act.put, List.setIfInBounds_toArray, List.set_cons_zero, List.set_cons_succ]
    refine' wpAnyD_take (i := 2) (oi := { dst := some 7, op := Go.Op.nilCheck (Go.Operand.tmp 6), type := 0, pos := "ref.go:33", after := #[{ on := 1, ground := Go.Ground.data }], guard := none }) (v := _) rfl (by kernel_rfl) (by kernel_rfl) (by kernel_rfl) (fun _ _ _ h => h) (by kernel_rfl) (Or.inl ⟨by rfl, ?hy3⟩) hS0 ?rest3
    case hy3 => (intro W hSw; go_simp; try (with_reducible rfl))
    try simp only [Act.put, List.setIfInBounds_toArray, List.set_cons_zero, List.set_cons_succ]
    refine' wpAnyD_take (i := 3) (oi := { dst := some 8, op := Go.Op.fieldAddr 60 (Go.Operand.tmp 7) 0, type := 0, pos := "ref.go:33", after := #[{ on := 2, ground := Go.Ground.data }], guard := none }) (v := _) rfl (by kernel_rfl) (by kernel_rfl) (by kernel_rfl) (fun _ _ _ h => h) (by kernel_rfl) (Or.inl ⟨by rfl, ?hy4⟩) hS0 ?rest4
    case hy4 => (intro W hSw; go_simp; try (with_reducible rfl))
    try simp only [Act.put, List.setIfInBounds_toArray, List.set_cons_zero, List.set_cons_succ]
    refine' wpAnyD_take (i := 4) (oi := { dst := some 9, op := Go.Op.load 3 (Go.Operand.tmp 8), type := 3, pos := "ref.go:33", after := #[{ on := 3, ground := Go.Ground.data }], guard := none }) (v := _) rfl (by kernel_rfl) (by kernel_rfl) (by kernel_rfl) (fun _ _ _ h => h) (by kernel_rfl) (Or.inl ⟨by rfl, ?hy5⟩) hS0 ?rest5
    case hy5 => (intro W hSw; obtain ⟨y0, y1, y2, y3, y4, yf, yz⟩ := hSw.2.cells; go_simp; try (with_reducible rfl))
    try simp only [Act.put, List.setIfInBounds_toArray, List.set_cons_zero, List.set_cons_succ]
    refine wpAnyD_one (i := 5) (o := { dst := some 10, op := Go.Op.call { callee := Go.Callee.value (Go.Operand.func 23), args := #[Go.Operand.tmp 5, Go.Operand.tmp 9], argTypes := #[30, 3] }, type := 3, pos := "ref.go:33", after := #[{ on := 0, ground := Go.Ground.data }, { on := 4, ground := Go.Ground.data }], guard := none }) (by kernel_rfl) rfl (fun K hK => ?_)
    go_simp
    refine (HF.out _).mono ?_
    rintro e w2 ⟨rfl, g2⟩
    have hS2 : (fun W : World => W.heap[b3]? = some (.cells (tc t) 30 (0, 0)) ∧ Rb W b n q x) w2 := ⟨(g2.below.block b3 (tk_lt hS0.1)).trans hS0.1, hS0.2.below g2.below⟩
    go_wp2_with fail
    refine hK.out _ _ (fun hD => hS2) ?_
    clear hK K
    try simp only [Act.put, List.setIfInBounds_toArray, List.set_cons_zero, List.set_cons_succ]
    refine' wpAnyD_take (i := 6) (oi := { dst := some 11, op := Go.Op.binOp Go.BinOp.neq 3 (Go.Operand.tmp 10) (Go.Operand.const (Go.Value.int Go.IntKind.i64 0)) 3, type := 4, pos := "ref.go:33", after := #[{ on := 5, ground := Go.Ground.data }], guard := none }) (v := _) rfl (by kernel_rfl) (by kernel_rfl) (by kernel_rfl) (fun _ _ _ h => h) (by kernel_rfl) (Or.inl ⟨by rfl, ?hy7⟩) hS2 ?rest7
    case hy7 => (intro W hSw; go_simp; try (with_reducible rfl))
    try simp only [Act.put, List.setIfInBounds_toArray, List.set_cons_zero, List.set_cons_succ]
    refine wpAnyD_done (by kernel_rfl) ?_ _
    have HG2 : Hid (Gr w w2) := G1.out.trans ((Gr.refl W1).drew.trans g2)
    clear g2 HF G1 hS0
    obtain ⟨y0, y1, y2, y3, y4, yf, yz⟩ := hS2.2.cells
    cases q with
    | true =>
      have HD3 : Hid (r = 45) := by
        cases s with
        | none => exact HD2.out
        | some u => exact absurd HQN.out (by simp)
      clear HD2
      go_wp2_with fail
      go_ret
      exact ⟨by rw [HD3.out]; rfl, HG2.out⟩
    | false =>
      have HD3 : Hid (r = if tle x.1 x.2.1 x.2.2 t.1 t.2.1 t.2.2 then 0 else 46) := by
        cases s with
        | none => exact absurd HQN.out (by simp)
        | some u => rw [HX.out u rfl]; exact HD2.out
      clear HD2 HX HQN
      have hS3 : (fun W : World => W.heap[b3]? = some (.cells (tc t) 30 (0, 0)) ∧ Rb W b n false x) w2.drew := ⟨hS2.1, hS2.2⟩
      clear hS2
      generalize tle x.1 x.2.1 x.2.2 t.1 t.2.1 t.2.2 = tb at HA HD3
      go_upto_region 5 with fail
      clear y0 y1 y2 y3 y4 yf yz
      refine wp_regionD (S := fun W : World => W.heap[b3]? = some (.cells (tc t) 30 (0, 0)) ∧ Rb W b n false x) (D := []) hmx ?_
      refine' wpAnyD_take (i := 0) (oi := { dst := some 16, op := Go.Op.move (Go.Operand.tmp 0), type := 37, pos := "ref.go:39", after := #[], guard := none }) (v := _) rfl (by kernel_rfl) (by kernel_rfl) (by kernel_rfl) (fun _ _ _ h => h) (by kernel_rfl) (Or.inl ⟨by rfl, ?hy8⟩) hS3 ?rest8
      case hy8 => (intro W hSw; go_simp; try (with_reducible rfl))
      try simp only [Act.put, List.setIfInBounds_toArray, List.set_cons_zero, List.set_cons_succ]
      refine' wpAnyD_take (i := 1) (oi := { dst := some 17, op := Go.Op.nilCheck (Go.Operand.tmp 16), type := 0, pos := "ref.go:39", after := #[{ on := 0, ground := Go.Ground.data }], guard := none }) (v := _) rfl (by kernel_rfl) (by kernel_rfl) (by kernel_rfl) (fun _ _ _ h => h) (by kernel_rfl) (Or.inl ⟨by rfl, ?hy9⟩) hS3 ?rest9
      case hy9 => (intro W hSw; go_simp; try (with_reducible rfl))
      try simp only [Act.put, List.setIfInBounds_toArray, List.set_cons_zero, List.set_cons_succ]
      refine' wpAnyD_take (i := 2) (oi := { dst := some 18, op := Go.Op.fieldAddr 60 (Go.Operand.tmp 17) 2, type := 0, pos := "ref.go:39", after := #[{ on := 1, ground := Go.Ground.data }], guard := none }) (v := _) rfl (by kernel_rfl) (by kernel_rfl) (by kernel_rfl) (fun _ _ _ h => h) (by kernel_rfl) (Or.inl ⟨by rfl, ?hy10⟩) hS3 ?rest10
      case hy10 => (intro W hSw; go_simp; try (with_reducible rfl))
      try simp only [Act.put, List.setIfInBounds_toArray, List.set_cons_zero, List.set_cons_succ]
      refine' wpAnyD_take (i := 3) (oi := { dst := some 19, op := Go.Op.load 30 (Go.Operand.tmp 18), type := 30, pos := "ref.go:39", after := #[{ on := 2, ground := Go.Ground.data }], guard := none }) (v := _) rfl (by kernel_rfl) (by kernel_rfl) (by kernel_rfl) (fun _ _ _ h => h) (by kernel_rfl) (Or.inl ⟨by rfl, ?hy11⟩) hS3 ?rest11
      case hy11 => (intro W hSw; obtain ⟨y0, y1, y2, y3, y4, yf, yz⟩ := hSw.2.cells; go_simp; try (with_reducible rfl))
      try simp only [Act.put, List.setIfInBounds_toArray, List.set_cons_zero, List.set_cons_succ]
      refine' wpAnyD_take (i := 4) (oi := { dst := some 20, op := Go.Op.load 30 (Go.Operand.tmp 3), type := 30, pos := "ref.go:39", after := #[], guard := none }) (v := _) rfl (by kernel_rfl) (by kernel_rfl) (by kernel_rfl) (fun _ _ _ h => h) (by kernel_rfl) (Or.inl ⟨by rfl, ?hy12⟩) hS3 ?rest12
      case hy12 => (intro W hSw; obtain ⟨y0, y1, y2, yz⟩ := box3 hSw.1; go_simp; try (with_reducible rfl))
      try simp only [Act.put, List.setIfInBounds_toArray, List.set_cons_zero, List.set_cons_succ]
      refine wpAnyD_one (i := 5) (o := { dst := some 21, op := Go.Op.call { callee := Go.Callee.value (Go.Operand.func 24), args := #[Go.Operand.tmp 19, Go.Operand.tmp 20], argTypes := #[30, 30] }, type := 4, pos := "ref.go:39", after := #[{ on := 3, ground := Go.Ground.data }, { on := 4, ground := Go.Ground.data }], guard := none }) (by kernel_rfl) rfl (fun K hK => ?_)
      go_simp
      refine (HA.out _).mono ?_
      rintro e w4 ⟨rfl, g4⟩
      have hS4 : (fun W : World => W.heap[b3]? = some (.cells (tc t) 30 (0, 0)) ∧ Rb W b n false x) w4 := ⟨(g4.below.block b3 (tk_lt hS3.1)).trans hS3.1, hS3.2.below g4.below⟩
      go_wp2_with fail
      refine hK.out _ _ (fun hD => hS4) ?_
      clear hK K
      try simp only [Act.put, List.setIfInBounds_toArray, List.set_cons_zero, List.set_cons_succ]
      refine' wpAnyD_take (i := 6) (oi := { dst := some 22, op := Go.Op.unOp Go.UnOp.not 4 (Go.Operand.tmp 21), type := 4, pos := "ref.go:39", after := #[{ on := 5, ground := Go.Ground.data }], guard := none }) (v := _) rfl (by kernel_rfl) (by kernel_rfl) (by kernel_rfl) (fun _ _ _ h => h) (by kernel_rfl) (Or.inl ⟨by rfl, ?hy14⟩) hS4 ?rest14
      case hy14 => (intro W hSw; go_simp; try (with_reducible rfl))
      try simp only [Act.put, List.setIfInBounds_toArray, List.set_cons_zero, List.set_cons_succ]
      refine wpAnyD_done (by kernel_rfl) ?_ _
      have HG4 : Hid (Gr w w4) := HG2.out.trans ((Gr.refl w2).drew.trans g4)
      clear g4 HG2 hS3 HA
      cases tb with
      | true =>
        go_wp2_with fail
        go_ret
        exact ⟨by rw [HD3.out]; rfl, HG4.out⟩
      | false =>
        go_wp2_with fail
        go_ret
        exact ⟨by rw [HD3.out]; rfl, HG4.out⟩
  · have HD2 : Hid (r = 10) := HD.out.trans (if_neg (by decide))
    clear HD HT
    refine wp_regionD (S := fun W : World => W.heap[b3]? = some (.cells (tc t) 30 (0, 0)) ∧ Rb W b n q x) (D := []) hmx ?_
    refine' wpAnyD_take (i := 0) (oi := { dst := some 5, op := Go.Op.load 30 (Go.Operand.tmp 3), type := 30, pos := "ref.go:33", after := #[], guard := none }) (v := _) rfl (by kernel_rfl) (by kernel_rfl) (by kernel_rfl) (fun _ _ _ h => h) (by kernel_rfl) (Or.inl ⟨by rfl, ?hy15⟩) hS0 ?rest15
    case hy15 => (intro W hSw; obtain ⟨y0, y1, y2, yz⟩ := box3 hSw.1; go_simp; try (with_reducible rfl))
    try simp only [Act.put, List.setIfInBounds_toArray, List.set_cons_zero, List.set_cons_succ]
    refine' wpAnyD_take (i := 1) (oi := { dst := some 6, op := Go.Op.move (Go.Operand.tmp 0), type := 37, pos := "ref.go:33", after := #[], guard := none }) (v := _) rfl (by kernel_rfl) (by kernel_rfl) (by kernel_rfl) (fun _ _ _ h => h) (by kernel_rfl) (Or.inl ⟨by rfl, ?hy16⟩) hS0 ?rest16
    case hy16 => (intro W hSw; go_simp; try (with_reducible rfl))
    try simp only [Act.put, List.setIfInBounds_toArray, List.set_cons_zero, List.set_cons_succ]
    refine' wpAnyD_take (i := 2) (oi := { dst := some 7, op := Go.Op.nilCheck (Go.Operand.tmp 6), type := 0, pos := "ref.go:33", after := #[{ on := 1, ground := Go.Ground.data }], guard := none }) (v := _) rfl (by kernel_rfl) (by kernel_rfl) (by kernel_rfl) (fun _ _ _ h => h) (by kernel_rfl) (Or.inl ⟨by rfl, ?hy17⟩) hS0 ?rest17
    case hy17 => (intro W hSw; go_simp; try (with_reducible rfl))
    try simp only [Act.put, List.setIfInBounds_toArray, List.set_cons_zero, List.set_cons_succ]
    refine' wpAnyD_take (i := 3) (oi := { dst := some 8, op := Go.Op.fieldAddr 60 (Go.Operand.tmp 7) 0, type := 0, pos := "ref.go:33", after := #[{ on := 2, ground := Go.Ground.data }], guard := none }) (v := _) rfl (by kernel_rfl) (by kernel_rfl) (by kernel_rfl) (fun _ _ _ h => h) (by kernel_rfl) (Or.inl ⟨by rfl, ?hy18⟩) hS0 ?rest18
    case hy18 => (intro W hSw; go_simp; try (with_reducible rfl))
    try simp only [Act.put, List.setIfInBounds_toArray, List.set_cons_zero, List.set_cons_succ]
    refine' wpAnyD_take (i := 4) (oi := { dst := some 9, op := Go.Op.load 3 (Go.Operand.tmp 8), type := 3, pos := "ref.go:33", after := #[{ on := 3, ground := Go.Ground.data }], guard := none }) (v := _) rfl (by kernel_rfl) (by kernel_rfl) (by kernel_rfl) (fun _ _ _ h => h) (by kernel_rfl) (Or.inl ⟨by rfl, ?hy19⟩) hS0 ?rest19
    case hy19 => (intro W hSw; obtain ⟨y0, y1, y2, y3, y4, yf, yz⟩ := hSw.2.cells; go_simp; try (with_reducible rfl))
    try simp only [Act.put, List.setIfInBounds_toArray, List.set_cons_zero, List.set_cons_succ]
    refine wpAnyD_one (i := 5) (o := { dst := some 10, op := Go.Op.call { callee := Go.Callee.value (Go.Operand.func 23), args := #[Go.Operand.tmp 5, Go.Operand.tmp 9], argTypes := #[30, 3] }, type := 3, pos := "ref.go:33", after := #[{ on := 0, ground := Go.Ground.data }, { on := 4, ground := Go.Ground.data }], guard := none }) (by kernel_rfl) rfl (fun K hK => ?_)
    go_simp
    refine (HF.out _).mono ?_
    rintro e w2 ⟨rfl, g2⟩
    have hS2 : (fun W : World => W.heap[b3]? = some (.cells (tc t) 30 (0, 0)) ∧ Rb W b n q x) w2 := ⟨(g2.below.block b3 (tk_lt hS0.1)).trans hS0.1, hS0.2.below g2.below⟩
    go_wp2_with fail
    refine hK.out _ _ (fun hD => hS2) ?_
    clear hK K
    try simp only [Act.put, List.setIfInBounds_toArray, List.set_cons_zero, List.set_cons_succ]
    refine' wpAnyD_take (i := 6) (oi := { dst := some 11, op := Go.Op.binOp Go.BinOp.neq 3 (Go.Operand.tmp 10) (Go.Operand.const (Go.Value.int Go.IntKind.i64 0)) 3, type := 4, pos := "ref.go:33", after := #[{ on := 5, ground := Go.Ground.data }], guard := none }) (v := _) rfl (by kernel_rfl) (by kernel_rfl) (by kernel_rfl) (fun _ _ _ h => h) (by kernel_rfl) (Or.inl ⟨by rfl, ?hy21⟩) hS2 ?rest21
    case hy21 => (intro W hSw; go_simp; try (with_reducible rfl))
    try simp only [Act.put, List.setIfInBounds_toArray, List.set_cons_zero, List.set_cons_succ]
    refine wpAnyD_done (by kernel_rfl) ?_ _
    have HG2 : Hid (Gr w w2) := G1.out.trans ((Gr.refl W1).drew.trans g2)
    clear g2 HF G1 hS0 hS2
    go_wp2_with fail
    go_ret
    exact ⟨by rw [HD2.out]; rfl, HG2.out⟩
set_option maxHeartbeats 4000000 in
set_option maxRecDepth 100000 in
theorem radvance_any {b : Nat} {n : Int} {s : Option T3} (t : T3) (w : World) (h : Ro w b n s) : Calls Try.prog 18 #[.pointer (some ⟨b, 0, none⟩), tv t] w fun e w' => e = .returned (.int .i64 (snd n s t)) ∧ Hid (Ro w' b n (adv n s t) ∧ Kp (fun k => k = b) w w') := by
  obtain ⟨W1, hW1⟩ : ∃ W1, W1 = w.alloc (.cells (tc t) 30) := ⟨_, rfl⟩
  obtain ⟨b3, hb3⟩ : ∃ b3, b3 = w.heap.size := ⟨_, rfl⟩
  have G1 : Hid (Gr w W1) := by rw [hW1]; exact (Gr.refl _).alloc _
  have HX1 : Hid (W1.heap[b3]? = some (.cells (tc t) 30 (0, 0))) := by rw [hW1, hb3]; exact heap_new' _ _
  have HS1 : Hid (Ro W1 b n s) := h.below G1.out.below
  have HE := hid (fun W (hW : Ro W b n s) => rsend_any t W hW)
  have HD : Hid (adv n s t = if snd n s t = 0 then some t else s) := rfl
  have HN : Hid (snd n s t = 0 → s.isNone = false) := by
    intro h0
    cases s with
    | some u => rfl
    | none =>
      unfold snd snx at h0
      split at h0 <;> cases h0
  generalize adv n s t = s2 at HD ⊢
  generalize snd n s t = r at HE HD HN ⊢
  obtain ⟨y0, y1, y2, yz⟩ := box3 HX1.out
  clear h
  simp only [tv] at HE
  simp only [tv]
  simp only [tc] at hW1
  go_enter Try.func18, Try.ntmps18
  go_upto_region 1 with fail
  rw [← hW1, ← hb3]
  clear hW1 hb3
  go_wp2_with fail
  refine (HE.out _ HS1.out).mono ?_
  rintro e w2 ⟨rfl, g2⟩
  have HX2 : Hid (w2.heap[b3]? = some (.cells (tc t) 30 (0, 0))) := (g2.below.block b3 yz).trans HX1.out
  have HS2 : Hid (Ro w2 b n s) := HS1.out.below g2.below
  have HG2 : Hid (Gr w w2) := G1.out.trans g2
  clear HE HS1 HX1 G1 g2 y0 y1 y2 yz
  obtain ⟨y0, y1, y2, yz⟩ := box3 HX2.out
  by_cases hr : r = 0
  · have hr2 : (r == 0) = true := by rw [hr]; rfl
    have HD2 : Hid (s2 = some t) := HD.out.trans (if_pos hr)
    have hno := HN.out hr
    have HR := hid hr
    clear HD hr HN
    obtain ⟨x, hx, -⟩ := HS2.out
    rw [hno] at hx
    have HRB := hid hx
    clear hx hno HS2
    obtain ⟨z0, z1, z2, z3, z4, zf, zz⟩ := HRB.out.cells
    go_upto_region 3 with fail
    obtain ⟨q1, k1⟩ := tk_set HRB.out 2 (.int .u64 t.1)
    obtain ⟨q2, k2⟩ := tk_set q1 3 (.int .u64 t.2.1)
    obtain ⟨q3, k3⟩ := tk_set q2 4 (.int .u64 t.2.2)
    have HF : Hid (Ro (((w2.setCell ⟨b, 2, none⟩ (.int .u64 t.1)).setCell ⟨b, 3, none⟩ (.int .u64 t.2.1)).setCell ⟨b, 4, none⟩ (.int .u64 t.2.2)) b n s2 ∧ Kp (fun k => k = b) w (((w2.setCell ⟨b, 2, none⟩ (.int .u64 t.1)).setCell ⟨b, 3, none⟩ (.int .u64 t.2.1)).setCell ⟨b, 4, none⟩ (.int .u64 t.2.2))) := by
      rw [HD2.out]
      exact ⟨⟨t, q3, fun u hu => by simpa using hu⟩, (((Kp.of_gr HG2.out).trans k1 (fun _ _ h => h)).trans k2 (fun _ _ h => h)).trans k3 (fun _ _ h => h)⟩
    clear q1 k1 q2 k2 q3 k3 HRB HX2 HG2 HD2
    go_wp2_with fail
    go_ret
    exact ⟨rfl, HF.out⟩
  · have hr2 : (r == 0) = false := beq_eq_false_iff_ne.2 hr
    have HD2 : Hid (s2 = s) := HD.out.trans (if_neg hr)
    clear HD hr
    go_wp2_with fail
    go_ret
    exact ⟨rfl, by rw [HD2.out]; exact HS2.out, Kp.of_gr HG2.out⟩
set_option maxHeartbeats 2000000 in
theorem rclose_any {b : Nat} {n : Int} {s : Option T3} (w : World) (h : Ro w b n s) : Calls Try.prog 19 #[.pointer (some ⟨b, 0, none⟩)] w fun e w' => e = .returned (.int .i64 (cl s)) ∧ Hid (Ro w' b n none ∧ Kp (fun k => k = b) w w') := by
  obtain ⟨x, hx, -⟩ := h
  have HRB := hid hx
  cases s with
  | none =>
    simp only [Option.isNone_none] at HRB
    obtain ⟨z0, z1, z2, z3, z4, zf, zz⟩ := HRB.out.cells
    simp only [cl, Option.isSome_none, Bool.false_eq_true, if_false]
    clear hx
    go_enter Try.func19, Try.ntmps19
    go_wp2_with fail
    go_ret
    exact ⟨rfl, ⟨x, HRB.out, fun u hu => by cases hu⟩, Kp.refl _ _⟩
  | some u =>
    simp only [Option.isNone_some] at HRB
    obtain ⟨z0, z1, z2, z3, z4, zf, zz⟩ := HRB.out.cells
    simp only [cl, Option.isSome_some, if_true]
    clear hx
    obtain ⟨q1, k1⟩ := tk_set HRB.out 1 (.bool true)
    have HF : Hid (Ro (w.setCell ⟨b, 1, none⟩ (.bool true)) b n none ∧ Kp (fun k => k = b) w (w.setCell ⟨b, 1, none⟩ (.bool true))) := ⟨⟨x, q1, fun u hu => by cases hu⟩, k1⟩
    clear q1 k1
    go_enter Try.func19, Try.ntmps19
    go_wp2_with fail
    go_ret
    exact ⟨rfl, HF.out⟩
set_option maxHeartbeats 2000000 in
theorem repoch_any {b : Nat} {n : Int} {s : Option T3} (w : World) (h : Ro w b n s) : Calls Try.prog 20 #[.pointer (some ⟨b, 0, none⟩)] w fun e w' => e = .returned (ep s) ∧ Gr w w' := by
  obtain ⟨x, hx, he⟩ := h
  have HRB := hid hx
  obtain ⟨W1, hW1⟩ : ∃ W1, W1 = w.alloc (.cells (tc (0, 0, 0)) 30) := ⟨_, rfl⟩
  cases s with
  | none =>
    simp only [Option.isNone_none] at HRB
    obtain ⟨z0, z1, z2, z3, z4, zf, zz⟩ := HRB.out.cells
    simp only [ep, tv, Option.getD_none, Option.isSome_none]
    clear hx he
    go_enter Try.func20, Try.ntmps20
    go_wp2_with fail
    exact bodyPost_ret (v := .tuple #[tv (0, 0, 0), .bool false]) (by simp [results, Try.results20, go_sem]) rfl ⟨rfl, (Gr.refl _).alloc _⟩
  | some u =>
    have hu := he u rfl
    subst hu
    simp only [Option.isNone_some] at HRB
    obtain ⟨z0, z1, z2, z3, z4, zf, zz⟩ := HRB.out.cells
    simp only [ep, tv, Option.getD_some, Option.isSome_some]
    clear hx he
    go_enter Try.func20, Try.ntmps20
    go_wp2_with fail
    exact bodyPost_ret (v := .tuple #[tv x, .bool true]) (by simp [results, Try.results20, go_sem]) rfl ⟨rfl, (Gr.refl _).alloc _⟩
set_option maxHeartbeats 4000000 in
set_option maxRecDepth 100000 in
theorem rcopy_any {b : Nat} {n : Int} {s : Option T3} (w : World) (h : Ro w b n s) : Calls Try.prog 13 #[.pointer (some ⟨b, 0, none⟩)] w fun e w' => ∃ c, e = .returned (.pointer (some ⟨c, 0, none⟩)) ∧ Hid (Ro w' c n s ∧ w.heap.size ≤ c ∧ Gr w w') := by
  have hmx : Try.prog.follows .mixedOrders = true := by kernel_rfl
  obtain ⟨x, hx, he⟩ := h
  generalize hq : s.isNone = q at hx
  have HF : Hid (Ro (w.drew.alloc (.cells (rcs n q x) 60)) w.heap.size n s ∧ w.heap.size ≤ w.heap.size ∧ Gr w (w.drew.alloc (.cells (rcs n q x) 60))) := by
    refine ⟨⟨x, ?_, he⟩, Nat.le_refl _, (Gr.refl w).drew.alloc _⟩
    rw [hq]
    exact heap_new' w.drew _
  have hS0 : (fun W : World => Rb W b n q x) w.drew := hx
  clear hx he hq
  simp only [rcs] at HF
  go_enter Try.func13, Try.ntmps13
  go_upto_region 1 with fail
  refine wp_regionD (S := fun W => Rb W b n q x) (D := []) hmx ?_
  refine' wpAnyD_take (i := 0) (oi := { dst := some 3, op := Go.Op.move (Go.Operand.tmp 0), type := 37, pos := "ref.go:72", after := #[], guard := none }) (v := _) rfl (by kernel_rfl) (by kernel_rfl) (by kernel_rfl) (fun _ _ _ h => h) (by kernel_rfl) (Or.inl ⟨by rfl, ?hy22⟩) hS0 ?rest22
  case hy22 => (intro W hSw; go_simp; try (with_reducible rfl))
  try simp only [Act.put, List.setIfInBounds_toArray, List.set_cons_zero, List.set_cons_succ]
  refine' wpAnyD_take (i := 1) (oi := { dst := some 4, op := Go.Op.nilCheck (Go.Operand.tmp 3), type := 0, pos := "ref.go:72", after := #[{ on := 0, ground := Go.Ground.data }], guard := none }) (v := _) rfl (by kernel_rfl) (by kernel_rfl) (by kernel_rfl) (fun _ _ _ h => h) (by kernel_rfl) (Or.inl ⟨by rfl, ?hy23⟩) hS0 ?rest23
  case hy23 => (intro W hSw; go_simp; try (with_reducible rfl))
  try simp only [Act.put, List.setIfInBounds_toArray, List.set_cons_zero, List.set_cons_succ]
  refine' wpAnyD_take (i := 2) (oi := { dst := some 5, op := Go.Op.fieldAddr 60 (Go.Operand.tmp 4) 0, type := 0, pos := "ref.go:72", after := #[{ on := 1, ground := Go.Ground.data }], guard := none }) (v := _) rfl (by kernel_rfl) (by kernel_rfl) (by kernel_rfl) (fun _ _ _ h => h) (by kernel_rfl) (Or.inl ⟨by rfl, ?hy24⟩) hS0 ?rest24
  case hy24 => (intro W hSw; go_simp; try (with_reducible rfl))
  try simp only [Act.put, List.setIfInBounds_toArray, List.set_cons_zero, List.set_cons_succ]
  refine' wpAnyD_take (i := 3) (oi := { dst := some 6, op := Go.Op.load 3 (Go.Operand.tmp 5), type := 3, pos := "ref.go:72", after := #[{ on := 2, ground := Go.Ground.data }], guard := none }) (v := _) rfl (by kernel_rfl) (by kernel_rfl) (by kernel_rfl) (fun _ _ _ h => h) (by kernel_rfl) (Or.inl ⟨by rfl, ?hy25⟩) hS0 ?rest25
  case hy25 => (intro W hSw; obtain ⟨y0, y1, y2, y3, y4, yf, yz⟩ := Rb.cells hSw; go_simp; try (with_reducible rfl))
  try simp only [Act.put, List.setIfInBounds_toArray, List.set_cons_zero, List.set_cons_succ]
  refine' wpAnyD_take (i := 4) (oi := { dst := some 7, op := Go.Op.move (Go.Operand.tmp 0), type := 37, pos := "ref.go:72", after := #[], guard := none }) (v := _) rfl (by kernel_rfl) (by kernel_rfl) (by kernel_rfl) (fun _ _ _ h => h) (by kernel_rfl) (Or.inl ⟨by rfl, ?hy26⟩) hS0 ?rest26
  case hy26 => (intro W hSw; go_simp; try (with_reducible rfl))
  try simp only [Act.put, List.setIfInBounds_toArray, List.set_cons_zero, List.set_cons_succ]
  refine' wpAnyD_take (i := 5) (oi := { dst := some 8, op := Go.Op.nilCheck (Go.Operand.tmp 7), type := 0, pos := "ref.go:72", after := #[{ on := 4, ground := Go.Ground.data }], guard := none }) (v := _) rfl (by kernel_rfl) (by kernel_rfl) (by kernel_rfl) (fun _ _ _ h => h) (by kernel_rfl) (Or.inl ⟨by rfl, ?hy27⟩) hS0 ?rest27
  case hy27 => (intro W hSw; go_simp; try (with_reducible rfl))
  try simp only [Act.put, List.setIfInBounds_toArray, List.set_cons_zero, List.set_cons_succ]
  refine' wpAnyD_take (i := 6) (oi := { dst := some 9, op := Go.Op.fieldAddr 60 (Go.Operand.tmp 8) 1, type := 0, pos := "ref.go:72", after := #[{ on := 5, ground := Go.Ground.data }], guard := none }) (v := _) rfl (by kernel_rfl) (by kernel_rfl) (by kernel_rfl) (fun _ _ _ h => h) (by kernel_rfl) (Or.inl ⟨by rfl, ?hy28⟩) hS0 ?rest28
  case hy28 => (intro W hSw; go_simp; try (with_reducible rfl))
  try simp only [Act.put, List.setIfInBounds_toArray, List.set_cons_zero, List.set_cons_succ]
  refine' wpAnyD_take (i := 7) (oi := { dst := some 10, op := Go.Op.load 4 (Go.Operand.tmp 9), type := 4, pos := "ref.go:72", after := #[{ on := 6, ground := Go.Ground.data }], guard := none }) (v := _) rfl (by kernel_rfl) (by kernel_rfl) (by kernel_rfl) (fun _ _ _ h => h) (by kernel_rfl) (Or.inl ⟨by rfl, ?hy29⟩) hS0 ?rest29
  case hy29 => (intro W hSw; obtain ⟨y0, y1, y2, y3, y4, yf, yz⟩ := Rb.cells hSw; go_simp; try (with_reducible rfl))
  try simp only [Act.put, List.setIfInBounds_toArray, List.set_cons_zero, List.set_cons_succ]
  refine' wpAnyD_take (i := 8) (oi := { dst := some 11, op := Go.Op.move (Go.Operand.tmp 0), type := 37, pos := "ref.go:72", after := #[], guard := none }) (v := _) rfl (by kernel_rfl) (by kernel_rfl) (by kernel_rfl) (fun _ _ _ h => h) (by kernel_rfl) (Or.inl ⟨by rfl, ?hy30⟩) hS0 ?rest30
  case hy30 => (intro W hSw; go_simp; try (with_reducible rfl))
  try simp only [Act.put, List.setIfInBounds_toArray, List.set_cons_zero, List.set_cons_succ]
  refine' wpAnyD_take (i := 9) (oi := { dst := some 12, op := Go.Op.nilCheck (Go.Operand.tmp 11), type := 0, pos := "ref.go:72", after := #[{ on := 8, ground := Go.Ground.data }], guard := none }) (v := _) rfl (by kernel_rfl) (by kernel_rfl) (by kernel_rfl) (fun _ _ _ h => h) (by kernel_rfl) (Or.inl ⟨by rfl, ?hy31⟩) hS0 ?rest31
  case hy31 => (intro W hSw; go_simp; try (with_reducible rfl))
  try simp only [Act.put, List.setIfInBounds_toArray, List.set_cons_zero, List.set_cons_succ]
  refine' wpAnyD_take (i := 10) (oi := { dst := some 13, op := Go.Op.fieldAddr 60 (Go.Operand.tmp 12) 2, type := 0, pos := "ref.go:72", after := #[{ on := 9, ground := Go.Ground.data }], guard := none }) (v := _) rfl (by kernel_rfl) (by kernel_rfl) (by kernel_rfl) (fun _ _ _ h => h) (by kernel_rfl) (Or.inl ⟨by rfl, ?hy32⟩) hS0 ?rest32
  case hy32 => (intro W hSw; go_simp; try (with_reducible rfl))
  try simp only [Act.put, List.setIfInBounds_toArray, List.set_cons_zero, List.set_cons_succ]
  refine' wpAnyD_take (i := 11) (oi := { dst := some 14, op := Go.Op.load 30 (Go.Operand.tmp 13), type := 30, pos := "ref.go:72", after := #[{ on := 10, ground := Go.Ground.data }], guard := none }) (v := _) rfl (by kernel_rfl) (by kernel_rfl) (by kernel_rfl) (fun _ _ _ h => h) (by kernel_rfl) (Or.inl ⟨by rfl, ?hy33⟩) hS0 ?rest33
  case hy33 => (intro W hSw; obtain ⟨y0, y1, y2, y3, y4, yf, yz⟩ := Rb.cells hSw; go_simp; try (with_reducible rfl))
  try simp only [Act.put, List.setIfInBounds_toArray, List.set_cons_zero, List.set_cons_succ]
  refine' wpAnyD_take (i := 12) (oi := { dst := some 15, op := Go.Op.build 60 #[(0, Go.Operand.tmp 6), (1, Go.Operand.tmp 10), (2, Go.Operand.tmp 14)], type := 60, pos := "ref.go:72", after := #[{ on := 3, ground := Go.Ground.data }, { on := 7, ground := Go.Ground.data }, { on := 11, ground := Go.Ground.data }], guard := none }) (v := _) rfl (by kernel_rfl) (by kernel_rfl) (by kernel_rfl) (fun _ _ _ h => h) (by kernel_rfl) (Or.inl ⟨by rfl, ?hy34⟩) hS0 ?rest34
  case hy34 => (intro W hSw; go_simp; try (with_reducible rfl))
  try simp only [Act.put, List.setIfInBounds_toArray, List.set_cons_zero, List.set_cons_succ]
  refine wpAnyD_one (i := 13) (o := { dst := some 16, op := Go.Op.box 60 (Go.Operand.tmp 15), type := 37, pos := "ref.go:72", after := #[{ on := 12, ground := Go.Ground.data }], guard := none }) (by kernel_rfl) rfl (fun K hK => ?_)
  go_simp
  refine hK.out _ _ (fun hD => (Rb.below hS0 ((Gr.refl w.drew).alloc _).below)) ?_
  clear hK K
  try simp only [Act.put, List.setIfInBounds_toArray, List.set_cons_zero, List.set_cons_succ]
  refine' wpAnyD_take (i := 14) (oi := { dst := some 2, op := Go.Op.assign (Go.Operand.tmp 16), type := 37, pos := "ref.go:72", after := #[{ on := 13, ground := Go.Ground.data }, { on := 0, ground := Go.Ground.phase }, { on := 1, ground := Go.Ground.phase }, { on := 2, ground := Go.Ground.phase }, { on := 3, ground := Go.Ground.phase }, { on := 4, ground := Go.Ground.phase }, { on := 5, ground := Go.Ground.phase }, { on := 6, ground := Go.Ground.phase }, { on := 7, ground := Go.Ground.phase }, { on := 8, ground := Go.Ground.phase }, { on := 9, ground := Go.Ground.phase }, { on := 10, ground := Go.Ground.phase }, { on := 11, ground := Go.Ground.phase }, { on := 12, ground := Go.Ground.phase }, { on := 13, ground := Go.Ground.phase }], guard := none }) (v := _) rfl (by kernel_rfl) (by kernel_rfl) (by kernel_rfl) (fun _ _ _ h => h) (by kernel_rfl) (Or.inl ⟨by rfl, ?hy36⟩) (Rb.below hS0 ((Gr.refl w.drew).alloc _).below) ?rest36
  case hy36 => (intro W hSw; go_simp; try (with_reducible rfl))
  try simp only [Act.put, List.setIfInBounds_toArray, List.set_cons_zero, List.set_cons_succ]
  refine wpAnyD_done (by kernel_rfl) ?_ _
  go_wp2_with fail
  go_ret
  exact ⟨_, rfl, HF.out⟩
end Go.Proofs.Ytinggeflllgdmaa
