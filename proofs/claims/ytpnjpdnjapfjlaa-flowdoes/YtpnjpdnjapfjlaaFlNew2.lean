import Derived.Test.YtpnjpdnjapfjlaaFlNew
namespace Go.Proofs.Ytpnjpdnjapfjlaa.Cd
open Go.RowKit Go.Sort
attribute [local go_sem ↓] Go.wp_at_zero Go.wp_at_succ

abbrev ncells (x : Nd) (p : Option Addr) (n c : Nat) : Array Value := #[.int .i64 x.kind, .int .i64 x.ins, .int .i64 x.outs, .slice p n c, .int .u64 x.y.a, .int .u64 x.y.b, .int .u64 x.y.c, .int .u64 x.bd, .slice x.cp x.cn x.cc, .bool x.st]
set_option maxHeartbeats 4000000 in
set_option maxRecDepth 100000 in
theorem new_any (x : Nd) {p : Option Addr} {n c : Nat} {l : List Op2} (w : World) (hv : Ls EO w (.slice p n c) l) : Calls Try.prog 6 #[x.v p n c] w fun e w' => ∃ v, e = .returned (.tuple #[v, .int .i64 (newE x.kind l)]) ∧ Hid (Nw w w' v x l) := by
  have hmx : Try.prog.follows .mixedOrders = true := by kernel_rfl
  obtain ⟨k, i, o, y, bd, cp, cn, cc, st⟩ := x
  have HV := hid hv
  clear hv
  by_cases h2 : k = 2
  · subst h2
    have hc := fun W (h : Ls EO W (.slice p n c) l) => coded2_any (x := ⟨2, i, o, y, bd, cp, cn, cc, st⟩) rfl W h
    have HC := hid hc
    clear hc
    obtain ⟨e0, he0⟩ : ∃ e0, e0 = newE (Nd.mk 2 i o y bd cp cn cc st).kind l := ⟨_, rfl⟩
    rw [← he0] at HC ⊢
    clear he0
    go_enter Try.func6, Try.ntmps6
    go_wp2_with fail
    refine (HC.out _ (HV.out.below ((Gr.refl w).alloc _).below)).mono ?_
    rintro e w1 ⟨v, rfl, H1⟩
    go_wp2_with fail
    refine bodyPost_ret (v := .tuple #[v, .int .i64 e0]) (by simp [results, Try.results6, go_sem, *]) rfl ⟨_, rfl, ?_⟩
    have hG := ((Gr.refl w).alloc (.cells (ncells ⟨2, i, o, y, bd, cp, cn, cc, st⟩ p n c) 28)).below
    obtain ⟨h1, h3⟩ := H1.out
    exact ⟨hG.trans (h1.mono hG.size), h3.imp (fun h => ⟨h.1, h.2.low hG.size⟩) id⟩
  by_cases h3 : k = 3
  · subst h3
    have hc := fun W (h : Ls EO W (.slice p n c) l) => coded3_any (x := ⟨3, i, o, y, bd, cp, cn, cc, st⟩) rfl W h
    have HC := hid hc
    clear hc
    obtain ⟨e0, he0⟩ : ∃ e0, e0 = newE (Nd.mk 3 i o y bd cp cn cc st).kind l := ⟨_, rfl⟩
    rw [← he0] at HC ⊢
    clear he0
    go_enter Try.func6, Try.ntmps6
    go_wp2_with fail
    refine (HC.out _ (HV.out.below ((Gr.refl w).alloc _).below)).mono ?_
    rintro e w1 ⟨v, rfl, H1⟩
    go_wp2_with fail
    refine bodyPost_ret (v := .tuple #[v, .int .i64 e0]) (by simp [results, Try.results6, go_sem, *]) rfl ⟨_, rfl, ?_⟩
    have hG := ((Gr.refl w).alloc (.cells (ncells ⟨3, i, o, y, bd, cp, cn, cc, st⟩ p n c) 28)).below
    obtain ⟨h1, h3⟩ := H1.out
    exact ⟨hG.trans (h1.mono hG.size), h3.imp (fun h => ⟨h.1, h.2.low hG.size⟩) id⟩
  have e2 : (k == 2) = false := by simpa using h2
  have e3 : (k == 3) = false := by simpa using h3
  have hne : newE (Nd.mk k i o y bd cp cn cc st).kind l = if k = 4 ∨ k = 5 then 0 else 20 := by
    unfold newE
    rw [if_neg (by simp [h2, h3])]
  clear h2 h3
  by_cases h4 : k = 4
  · subst h4
    rw [if_pos (by omega)] at hne
    have HNE := hid hne
    rw [hne]
    clear hne e2 e3
    go_enter Try.func6, Try.ntmps6
    go_wp2_with fail
    refine bodyPost_ret (v := .tuple #[.iface 53 (.pointer (some ⟨w.heap.size + 1, 0, none⟩)), .int .i64 0]) (by simp [results, Try.results6, go_sem, *]) rfl ⟨_, rfl, ?_⟩
    have hG := ((Gr.refl w).alloc (.cells (ncells ⟨4, i, o, y, bd, cp, cn, cc, st⟩ p n c) 28))
    have hn := heap_new' (w.alloc (.cells (ncells ⟨4, i, o, y, bd, cp, cn, cc, st⟩ p n c) 28)) (.cells #[.bool true] 55)
    rw [show (w.alloc (.cells (ncells ⟨4, i, o, y, bd, cp, cn, cc, st⟩ p n c) 28)).heap.size = w.heap.size + 1 by simp] at hn
    exact ⟨(hG.alloc _).below, Or.inl ⟨HNE.out, Or.inr (Or.inr (Or.inl ⟨rfl, _, rfl, Nat.le_succ _, hn⟩))⟩⟩
  have e4 : (k == 4) = false := by simpa using h4
  by_cases h5 : k = 5
  · subst h5
    rw [if_pos (by omega)] at hne
    have HNE := hid hne
    rw [hne]
    clear hne e2 e3 e4 h4
    have HM := hid (fun W => limitOf_any y bd W)
    obtain ⟨m, hm⟩ : ∃ m : T3, m = ⟨most y.a bd, most y.b bd, most y.c bd⟩ := ⟨_, rfl⟩
    rw [← hm] at HM
    have HMM := hid hm
    clear hm
    go_enter Try.func6, Try.ntmps6
    go_upto_region 8 with fail
    obtain ⟨W0, hW0⟩ : ∃ W0, W0 = w.alloc (.cells (ncells ⟨5, i, o, y, bd, cp, cn, cc, st⟩ p n c) 28) := ⟨_, rfl⟩
    have hG : Gr w W0 := by rw [hW0]; exact (Gr.refl w).alloc _
    have hb : W0.heap[w.heap.size]? = some (.cells (ncells ⟨5, i, o, y, bd, cp, cn, cc, st⟩ p n c) 28 (0, 0)) := by rw [hW0]; exact heap_new' _ _
    obtain ⟨nb, hnb⟩ : ∃ nb, nb = w.heap.size := ⟨_, rfl⟩
    rw [← hW0, ← hnb]
    rw [← hnb] at hb
    have HG := hid hG.below
    have HL : Hid (∀ W : World, Below W0.heap.size W0 W → W.cell? ⟨nb, 4, none⟩ = some (.int .u64 y.a) ∧ W.cell? ⟨nb, 5, none⟩ = some (.int .u64 y.b) ∧ W.cell? ⟨nb, 6, none⟩ = some (.int .u64 y.c) ∧ W.cell? ⟨nb, 7, none⟩ = some (.int .u64 bd) ∧ nb < W.heap.size) := fun W hW => by
      have h1 := (hW.block nb (tk_lt hb)).trans hb
      exact ⟨by simp [World.cell?, h1], by simp [World.cell?, h1], by simp [World.cell?, h1], by simp [World.cell?, h1], tk_lt h1⟩
    clear hW0 hnb hb hG
    have hS0 : Below W0.heap.size W0 W0.drew := (Gr.refl W0).drew.below
    refine wp_regionD (S := (fun W : World => Below W0.heap.size W0 W)) (D := []) hmx ?_
    refine' wpAnyD_take (i := 0) (oi := { dst := some 23, op := Go.Op.fieldAddr 28 (Go.Operand.tmp 1) 4, type := 0, pos := "flow.go:25", after := #[], guard := none }) (v := _) rfl (by kernel_rfl) (by kernel_rfl) (by kernel_rfl) (fun _ _ _ h => h) (by kernel_rfl) (Or.inl ⟨by rfl, ?hy1⟩) hS0 ?rest1
    case hy1 => (intro W hSw; go_simp; try (with_reducible rfl))
    try simp only [Act.put, List.setIfInBounds_toArray, List.set_cons_zero, List.set_cons_succ]
    refine' wpAnyD_take (i := 1) (oi := { dst := some 24, op := Go.Op.load 25 (Go.Operand.tmp 23), type := 25, pos := "flow.go:25", after := #[{ on := 0, ground := Go.Ground.data }], guard := none }) (v := _) rfl (by kernel_rfl) (by kernel_rfl) (by kernel_rfl) (fun _ _ _ h => h) (by kernel_rfl) (Or.inl ⟨by rfl, ?hy2⟩) hS0 ?rest2
    case hy2 => (intro W hSw; obtain ⟨y0, y1, y2, y3, y4⟩ := HL.out W hSw; go_simp; try (with_reducible rfl))
    try simp only [Act.put, List.setIfInBounds_toArray, List.set_cons_zero, List.set_cons_succ]
    refine' wpAnyD_take (i := 2) (oi := { dst := some 25, op := Go.Op.fieldAddr 28 (Go.Operand.tmp 1) 4, type := 0, pos := "flow.go:25", after := #[], guard := none }) (v := _) rfl (by kernel_rfl) (by kernel_rfl) (by kernel_rfl) (fun _ _ _ h => h) (by kernel_rfl) (Or.inl ⟨by rfl, ?hy3⟩) hS0 ?rest3
    case hy3 => (intro W hSw; go_simp; try (with_reducible rfl))
    try simp only [Act.put, List.setIfInBounds_toArray, List.set_cons_zero, List.set_cons_succ]
    refine' wpAnyD_take (i := 3) (oi := { dst := some 26, op := Go.Op.load 25 (Go.Operand.tmp 25), type := 25, pos := "flow.go:25", after := #[{ on := 2, ground := Go.Ground.data }], guard := none }) (v := _) rfl (by kernel_rfl) (by kernel_rfl) (by kernel_rfl) (fun _ _ _ h => h) (by kernel_rfl) (Or.inl ⟨by rfl, ?hy4⟩) hS0 ?rest4
    case hy4 => (intro W hSw; obtain ⟨y0, y1, y2, y3, y4⟩ := HL.out W hSw; go_simp; try (with_reducible rfl))
    try simp only [Act.put, List.setIfInBounds_toArray, List.set_cons_zero, List.set_cons_succ]
    refine' wpAnyD_take (i := 4) (oi := { dst := some 27, op := Go.Op.fieldAddr 28 (Go.Operand.tmp 1) 5, type := 0, pos := "flow.go:25", after := #[], guard := none }) (v := _) rfl (by kernel_rfl) (by kernel_rfl) (by kernel_rfl) (fun _ _ _ h => h) (by kernel_rfl) (Or.inl ⟨by rfl, ?hy5⟩) hS0 ?rest5
    case hy5 => (intro W hSw; go_simp; try (with_reducible rfl))
    try simp only [Act.put, List.setIfInBounds_toArray, List.set_cons_zero, List.set_cons_succ]
    refine' wpAnyD_take (i := 5) (oi := { dst := some 28, op := Go.Op.load 23 (Go.Operand.tmp 27), type := 23, pos := "flow.go:25", after := #[{ on := 4, ground := Go.Ground.data }], guard := none }) (v := _) rfl (by kernel_rfl) (by kernel_rfl) (by kernel_rfl) (fun _ _ _ h => h) (by kernel_rfl) (Or.inl ⟨by rfl, ?hy6⟩) hS0 ?rest6
    case hy6 => (intro W hSw; obtain ⟨y0, y1, y2, y3, y4⟩ := HL.out W hSw; go_simp; try (with_reducible rfl))
    try simp only [Act.put, List.setIfInBounds_toArray, List.set_cons_zero, List.set_cons_succ]
    refine wpAnyD_one (i := 6) (o := { dst := some 29, op := Go.Op.call { callee := Go.Callee.value (Go.Operand.func 11), args := #[Go.Operand.tmp 26, Go.Operand.tmp 28], argTypes := #[25, 23] }, type := 29, pos := "flow.go:25", after := #[{ on := 3, ground := Go.Ground.data }, { on := 5, ground := Go.Ground.data }], guard := none }) (by kernel_rfl) rfl (fun K hK => ?_)
    go_simp
    refine (HM.out _).mono ?_
    rintro e u1 ⟨rfl, g1⟩
    have hS1 : Below W0.heap.size W0 u1 := hS0.trans (g1.mono hS0.size)
    clear g1
    go_wp2_with fail
    refine hK.out _ _ (fun hD => hS1) ?_
    clear hK K
    try simp only [Act.put, List.setIfInBounds_toArray, List.set_cons_zero, List.set_cons_succ]
    refine' wpAnyD_take (i := 7) (oi := { dst := some 30, op := Go.Op.build 59 #[(0, Go.Operand.const (Go.Value.bool true)), (1, Go.Operand.tmp 24), (2, Go.Operand.tmp 29)], type := 59, pos := "flow.go:25", after := #[{ on := 1, ground := Go.Ground.data }, { on := 6, ground := Go.Ground.data }], guard := none }) (v := _) rfl (by kernel_rfl) (by kernel_rfl) (by kernel_rfl) (fun _ _ _ h => h) (by kernel_rfl) (Or.inl ⟨by rfl, ?hy8⟩) hS1 ?rest8
    case hy8 => (intro W hSw; go_simp; try (with_reducible rfl))
    try simp only [Act.put, List.setIfInBounds_toArray, List.set_cons_zero, List.set_cons_succ]
    refine wpAnyD_one (i := 8) (o := { dst := some 31, op := Go.Op.box 59 (Go.Operand.tmp 30), type := 56, pos := "flow.go:25", after := #[{ on := 7, ground := Go.Ground.data }], guard := none }) (by kernel_rfl) rfl (fun K hK => ?_)
    go_simp
    have hS2 : Below W0.heap.size W0 (u1.alloc (.cells #[.bool true, .int .u64 y.a, .int .u64 y.b, .int .u64 y.c, .int .u64 m.a, .int .u64 m.b, .int .u64 m.c] 59)) := hS1.trans (((Gr.refl u1).alloc _).below.mono hS1.size)
    refine hK.out _ _ (fun hD => hS2) ?_
    clear hK K
    try simp only [Act.put, List.setIfInBounds_toArray, List.set_cons_zero, List.set_cons_succ]
    refine' wpAnyD_take (i := 9) (oi := { dst := some 32, op := Go.Op.makeInterface 56 (Go.Operand.tmp 31), type := 34, pos := "flow.go:25", after := #[{ on := 8, ground := Go.Ground.data }], guard := none }) (v := _) rfl (by kernel_rfl) (by kernel_rfl) (by kernel_rfl) (fun _ _ _ h => h) (by kernel_rfl) (Or.inl ⟨by rfl, ?hy10⟩) hS2 ?rest10
    case hy10 => (intro W hSw; go_simp; try (with_reducible rfl))
    try simp only [Act.put, List.setIfInBounds_toArray, List.set_cons_zero, List.set_cons_succ]
    refine wpAnyD_one (i := 10) (o := { dst := some 2, op := Go.Op.assign (Go.Operand.tmp 32), type := 34, pos := "flow.go:25", after := #[{ on := 9, ground := Go.Ground.data }, { on := 6, ground := Go.Ground.chain }, { on := 0, ground := Go.Ground.phase }, { on := 1, ground := Go.Ground.phase }, { on := 2, ground := Go.Ground.phase }, { on := 3, ground := Go.Ground.phase }, { on := 4, ground := Go.Ground.phase }, { on := 5, ground := Go.Ground.phase }, { on := 6, ground := Go.Ground.phase }, { on := 7, ground := Go.Ground.phase }, { on := 8, ground := Go.Ground.phase }, { on := 9, ground := Go.Ground.phase }], guard := none }) (by kernel_rfl) rfl (fun K hK => ?_)
    go_simp
    refine hK.out _ _ (fun hD => hS2) ?_
    clear hK K
    try simp only [Act.put, List.setIfInBounds_toArray, List.set_cons_zero, List.set_cons_succ]
    refine wpAnyD_one (i := 11) (o := { dst := some 3, op := Go.Op.assign (Go.Operand.const (Go.Value.int Go.IntKind.i64 0)), type := 35, pos := "flow.go:25", after := #[{ on := 10, ground := Go.Ground.chain }, { on := 0, ground := Go.Ground.phase }, { on := 1, ground := Go.Ground.phase }, { on := 2, ground := Go.Ground.phase }, { on := 3, ground := Go.Ground.phase }, { on := 4, ground := Go.Ground.phase }, { on := 5, ground := Go.Ground.phase }, { on := 6, ground := Go.Ground.phase }, { on := 7, ground := Go.Ground.phase }, { on := 8, ground := Go.Ground.phase }, { on := 9, ground := Go.Ground.phase }, { on := 10, ground := Go.Ground.phase }], guard := none }) (by kernel_rfl) rfl (fun K hK => ?_)
    go_simp
    refine hK.out _ _ (fun hD => hS2) ?_
    clear hK K
    try simp only [Act.put, List.setIfInBounds_toArray, List.set_cons_zero, List.set_cons_succ]
    refine wpAnyD_done (by kernel_rfl) ?_ _
    go_wp2_with fail
    refine bodyPost_ret (v := .tuple #[.iface 56 (.pointer (some ⟨u1.heap.size, 0, none⟩)), .int .i64 0]) (by simp [results, Try.results6, go_sem, *]) rfl ⟨_, rfl, ?_⟩
    have hn := heap_new' u1 (.cells #[.bool true, .int .u64 y.a, .int .u64 y.b, .int .u64 y.c, .int .u64 m.a, .int .u64 m.b, .int .u64 m.c] 59)
    rw [HMM.out] at hn ⊢
    rw [HMM.out] at hS2
    exact ⟨HG.out.trans (hS2.mono HG.out.size), Or.inl ⟨HNE.out, Or.inr (Or.inr (Or.inr ⟨rfl, _, rfl, Nat.le_trans HG.out.size hS1.size, hn⟩))⟩⟩
  have e5 : (k == 5) = false := by simpa using h5
  rw [if_neg (by omega)] at hne
  have HNE := hid hne
  rw [hne]
  clear hne h4 h5
  go_enter Try.func6, Try.ntmps6
  go_wp2_with fail
  refine bodyPost_ret (v := .tuple #[.nilIface, .int .i64 20]) (by simp [results, Try.results6, go_sem, *]) rfl ⟨_, rfl, ?_⟩
  exact ⟨((Gr.refl w).alloc _).below, Or.inr ⟨by rw [HNE.out]; decide, rfl⟩⟩

theorem as_mapper_mapper (b : Nat) (w : World) : (Instr.typeAssert (.iface 64 (.pointer (some ⟨b, 0, none⟩))) 34 64 true).run Try.prog w = .ok (.tuple #[.pointer (some ⟨b, 0, none⟩), .bool true]) w := by kernel_rfl
theorem as_mapper_filter (b : Nat) (w : World) : (Instr.typeAssert (.iface 64 (.pointer (some ⟨b, 0, none⟩))) 34 67 true).run Try.prog w = .ok (.tuple #[.pointer none, .bool false]) w := by kernel_rfl
theorem as_mapper_join (b : Nat) (w : World) : (Instr.typeAssert (.iface 64 (.pointer (some ⟨b, 0, none⟩))) 34 53 true).run Try.prog w = .ok (.tuple #[.pointer none, .bool false]) w := by kernel_rfl
theorem as_mapper_loop (b : Nat) (w : World) : (Instr.typeAssert (.iface 64 (.pointer (some ⟨b, 0, none⟩))) 34 56 true).run Try.prog w = .ok (.tuple #[.pointer none, .bool false]) w := by kernel_rfl
theorem as_nil_mapper (w : World) : (Instr.typeAssert .nilIface 34 64 true).run Try.prog w = .ok (.tuple #[.pointer none, .bool false]) w := by kernel_rfl
theorem as_oth_mapper (v : Value) (w : World) : (Instr.typeAssert (.iface 44 v) 34 64 true).run Try.prog w = .ok (.tuple #[.pointer none, .bool false]) w := by kernel_rfl
theorem as_filter_mapper (b : Nat) (w : World) : (Instr.typeAssert (.iface 67 (.pointer (some ⟨b, 0, none⟩))) 34 64 true).run Try.prog w = .ok (.tuple #[.pointer none, .bool false]) w := by kernel_rfl
theorem as_filter_filter (b : Nat) (w : World) : (Instr.typeAssert (.iface 67 (.pointer (some ⟨b, 0, none⟩))) 34 67 true).run Try.prog w = .ok (.tuple #[.pointer (some ⟨b, 0, none⟩), .bool true]) w := by kernel_rfl
theorem as_filter_join (b : Nat) (w : World) : (Instr.typeAssert (.iface 67 (.pointer (some ⟨b, 0, none⟩))) 34 53 true).run Try.prog w = .ok (.tuple #[.pointer none, .bool false]) w := by kernel_rfl
theorem as_filter_loop (b : Nat) (w : World) : (Instr.typeAssert (.iface 67 (.pointer (some ⟨b, 0, none⟩))) 34 56 true).run Try.prog w = .ok (.tuple #[.pointer none, .bool false]) w := by kernel_rfl
theorem as_nil_filter (w : World) : (Instr.typeAssert .nilIface 34 67 true).run Try.prog w = .ok (.tuple #[.pointer none, .bool false]) w := by kernel_rfl
theorem as_oth_filter (v : Value) (w : World) : (Instr.typeAssert (.iface 44 v) 34 67 true).run Try.prog w = .ok (.tuple #[.pointer none, .bool false]) w := by kernel_rfl
theorem as_join_mapper (b : Nat) (w : World) : (Instr.typeAssert (.iface 53 (.pointer (some ⟨b, 0, none⟩))) 34 64 true).run Try.prog w = .ok (.tuple #[.pointer none, .bool false]) w := by kernel_rfl
theorem as_join_filter (b : Nat) (w : World) : (Instr.typeAssert (.iface 53 (.pointer (some ⟨b, 0, none⟩))) 34 67 true).run Try.prog w = .ok (.tuple #[.pointer none, .bool false]) w := by kernel_rfl
theorem as_join_join (b : Nat) (w : World) : (Instr.typeAssert (.iface 53 (.pointer (some ⟨b, 0, none⟩))) 34 53 true).run Try.prog w = .ok (.tuple #[.pointer (some ⟨b, 0, none⟩), .bool true]) w := by kernel_rfl
theorem as_join_loop (b : Nat) (w : World) : (Instr.typeAssert (.iface 53 (.pointer (some ⟨b, 0, none⟩))) 34 56 true).run Try.prog w = .ok (.tuple #[.pointer none, .bool false]) w := by kernel_rfl
theorem as_nil_join (w : World) : (Instr.typeAssert .nilIface 34 53 true).run Try.prog w = .ok (.tuple #[.pointer none, .bool false]) w := by kernel_rfl
theorem as_oth_join (v : Value) (w : World) : (Instr.typeAssert (.iface 44 v) 34 53 true).run Try.prog w = .ok (.tuple #[.pointer none, .bool false]) w := by kernel_rfl
theorem as_loop_mapper (b : Nat) (w : World) : (Instr.typeAssert (.iface 56 (.pointer (some ⟨b, 0, none⟩))) 34 64 true).run Try.prog w = .ok (.tuple #[.pointer none, .bool false]) w := by kernel_rfl
theorem as_loop_filter (b : Nat) (w : World) : (Instr.typeAssert (.iface 56 (.pointer (some ⟨b, 0, none⟩))) 34 67 true).run Try.prog w = .ok (.tuple #[.pointer none, .bool false]) w := by kernel_rfl
theorem as_loop_join (b : Nat) (w : World) : (Instr.typeAssert (.iface 56 (.pointer (some ⟨b, 0, none⟩))) 34 53 true).run Try.prog w = .ok (.tuple #[.pointer none, .bool false]) w := by kernel_rfl
theorem as_loop_loop (b : Nat) (w : World) : (Instr.typeAssert (.iface 56 (.pointer (some ⟨b, 0, none⟩))) 34 56 true).run Try.prog w = .ok (.tuple #[.pointer (some ⟨b, 0, none⟩), .bool true]) w := by kernel_rfl
theorem as_nil_loop (w : World) : (Instr.typeAssert .nilIface 34 56 true).run Try.prog w = .ok (.tuple #[.pointer none, .bool false]) w := by kernel_rfl
theorem as_oth_loop (v : Value) (w : World) : (Instr.typeAssert (.iface 44 v) 34 56 true).run Try.prog w = .ok (.tuple #[.pointer none, .bool false]) w := by kernel_rfl
set_option maxHeartbeats 2000000 in
set_option maxRecDepth 100000 in
theorem kindOf_any {lo : Nat} {x : Nd} {v : Value} {l : List Op2} (w : World) (h : Flw lo w v x l) : Calls Try.prog 12 #[v] w fun e w' => e = .returned (.int .i64 x.kind) ∧ Gr w w' := by
  rcases h with ⟨e, b, p, n, c, rfl, -, hh, -⟩ | ⟨e, b, p, n, c, rfl, -, hh, -⟩ | ⟨e, b, rfl, -, hh⟩ | ⟨e, b, rfl, -, hh⟩
  · rw [e]
    have asmapper := fun W => as_mapper_mapper b W
    have asfilter := fun W => as_mapper_filter b W
    have asjoin := fun W => as_mapper_join b W
    have asloop := fun W => as_mapper_loop b W
    obtain ⟨lb, cb, -⟩ := blk_at hh
    have c0 := cb 0
    simp at c0
    clear cb hh e
    go_enter Try.func12, Try.ntmps12
    go_wp2_with fail
    go_ret
    exact ⟨rfl, Gr.refl w⟩
  · rw [e]
    have asmapper := fun W => as_filter_mapper b W
    have asfilter := fun W => as_filter_filter b W
    have asjoin := fun W => as_filter_join b W
    have asloop := fun W => as_filter_loop b W
    obtain ⟨lb, cb, -⟩ := blk_at hh
    have c0 := cb 0
    simp at c0
    clear cb hh e
    go_enter Try.func12, Try.ntmps12
    go_wp2_with fail
    go_ret
    exact ⟨rfl, Gr.refl w⟩
  · rw [e]
    have asmapper := fun W => as_join_mapper b W
    have asfilter := fun W => as_join_filter b W
    have asjoin := fun W => as_join_join b W
    have asloop := fun W => as_join_loop b W
    obtain ⟨lb, cb, -⟩ := blk_at hh
    have c0 := cb 0
    simp at c0
    clear cb hh e
    go_enter Try.func12, Try.ntmps12
    go_wp2_with fail
    go_ret
    exact ⟨rfl, Gr.refl w⟩
  · rw [e]
    have asmapper := fun W => as_loop_mapper b W
    have asfilter := fun W => as_loop_filter b W
    have asjoin := fun W => as_loop_join b W
    have asloop := fun W => as_loop_loop b W
    obtain ⟨lb, cb, -⟩ := blk_at hh
    have c0 := cb 0
    simp at c0
    clear cb hh e
    go_enter Try.func12, Try.ntmps12
    go_wp2_with fail
    go_ret
    exact ⟨rfl, Gr.refl w⟩
set_option maxHeartbeats 2000000 in
theorem kindOfNil_any (w : World) : Calls Try.prog 12 #[.nilIface] w fun e w' => e = .returned (.int .i64 0) ∧ Gr w w' := by
  have asmapper := fun W => as_nil_mapper W
  have asfilter := fun W => as_nil_filter W
  have asjoin := fun W => as_nil_join W
  have asloop := fun W => as_nil_loop W
  go_enter Try.func12, Try.ntmps12
  go_wp2_with fail
  go_ret
  exact ⟨rfl, Gr.refl w⟩
set_option maxHeartbeats 2000000 in
theorem kindOfOth_any (v : Value) (w : World) : Calls Try.prog 12 #[(.iface 44 v)] w fun e w' => e = .returned (.int .i64 0) ∧ Gr w w' := by
  have asmapper := fun W => as_oth_mapper v W
  have asfilter := fun W => as_oth_filter v W
  have asjoin := fun W => as_oth_join v W
  have asloop := fun W => as_oth_loop v W
  go_enter Try.func12, Try.ntmps12
  go_wp2_with fail
  go_ret
  exact ⟨rfl, Gr.refl w⟩
set_option maxHeartbeats 2000000 in
theorem kindV_any {v : Value} {k : Int} (w : World) (hk : Calls Try.prog 12 #[v] w fun e w' => e = .returned (.int .i64 k) ∧ Gr w w') : Calls Try.prog 7 #[v] w fun e w' => e = .returned (.int .i64 k) ∧ Gr w w' := by
  go_enter Try.func7, Try.ntmps7
  go_wp2_with fail
  refine hk.mono ?_
  rintro e w1 ⟨rfl, g1⟩
  go_wp2_with fail
  go_ret
  exact ⟨rfl, g1⟩
theorem kind_any {lo : Nat} {x : Nd} {v : Value} {l : List Op2} (w : World) (h : Flw lo w v x l) : Calls Try.prog 7 #[v] w fun e w' => e = .returned (.int .i64 x.kind) ∧ Gr w w' := kindV_any w (kindOf_any w h)
theorem kindNil_any (w : World) : Calls Try.prog 7 #[.nilIface] w fun e w' => e = .returned (.int .i64 0) ∧ Gr w w' := kindV_any w (kindOfNil_any w)
theorem kindOth_any (v : Value) (w : World) : Calls Try.prog 7 #[.iface 44 v] w fun e w' => e = .returned (.int .i64 0) ∧ Gr w w' := kindV_any w (kindOfOth_any v w)
end Go.Proofs.Ytpnjpdnjapfjlaa.Cd
