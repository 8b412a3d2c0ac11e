import Derived.Test.YtpnjpdnjapfjlaaFlNew2
namespace Go.Proofs.Ytpnjpdnjapfjlaa.Cd
open Go.RowKit Go.Sort
attribute [local go_sem ↓] Go.wp_at_zero Go.wp_at_succ

set_option maxHeartbeats 2000000 in
theorem rnew_any (x : Nd) {p : Option Addr} {n c : Nat} {l : List Op2} (w : World) (hv : Ls EO w (.slice p n c) l) : Calls Try.prog 8 #[x.v p n c] w fun e w' => e = .returned (.int .i64 (newE x.kind l)) ∧ Below w.heap.size w w' := by
  obtain ⟨k, i, o, y, bd, cp, cn, cc, st⟩ := x
  have HV := hid (hv.below ((Gr.refl w).alloc (.cells (ncells ⟨k, i, o, y, bd, cp, cn, cc, st⟩ p n c) 28)).below)
  have hG := ((Gr.refl w).alloc (.cells (ncells ⟨k, i, o, y, bd, cp, cn, cc, st⟩ p n c) 28)).below
  have HG := hid hG
  clear hv hG
  by_cases h23 : k = 2 ∨ k = 3
  · have he : newE (Nd.mk k i o y bd cp cn cc st).kind l = chk k l := by unfold newE; rw [if_pos h23]
    rw [he]
    have hc := fun (W : World) h => rcheck_any k (v := .slice p n c) (l := l) W h
    obtain ⟨q, hq⟩ : ∃ q, q = chk k l := ⟨_, rfl⟩
    rw [← hq] at hc ⊢
    have HC := hid hc
    clear hc hq he
    have HD : Hid (∀ e w', e = Ending.returned (.int .i64 q) ∧ Below (w.alloc (.cells (ncells ⟨k, i, o, y, bd, cp, cn, cc, st⟩ p n c) 28)).heap.size (w.alloc (.cells (ncells ⟨k, i, o, y, bd, cp, cn, cc, st⟩ p n c) 28)) w' → e = .returned (.int .i64 q) ∧ Below w.heap.size w w') := fun e w' h => ⟨h.1, HG.out.trans (h.2.mono HG.out.size)⟩
    rcases h23 with rfl | rfl
    all_goals
      go_enter Try.func8, Try.ntmps8
      go_wp2_with fail
      refine (HC.out _ HV.out).mono ?_
      rintro e w1 h1
      have h2 := HD.out _ _ h1
      obtain ⟨rfl, B1⟩ := h2
      clear h1
      go_wp2_with fail
      go_ret
      exact ⟨rfl, B1⟩
  have e2 : (k == 2) = false := by simp; omega
  have e3 : (k == 3) = false := by simp; omega
  by_cases h45 : k = 4 ∨ k = 5
  · have he : newE (Nd.mk k i o y bd cp cn cc st).kind l = 0 := by unfold newE; rw [if_neg h23, if_pos h45]
    rw [he]
    clear he h23 HV e2 e3
    rcases h45 with rfl | rfl
    all_goals
      go_enter Try.func8, Try.ntmps8
      go_wp2_with fail
      go_ret
      exact ⟨rfl, HG.out⟩
  have e4 : (k == 4) = false := by simp; omega
  have e5 : (k == 5) = false := by simp; omega
  have he : newE (Nd.mk k i o y bd cp cn cc st).kind l = 20 := by unfold newE; rw [if_neg h23, if_neg h45]
  rw [he]
  clear he h23 h45 HV
  go_enter Try.func8, Try.ntmps8
  go_wp2_with fail
  go_ret
  exact ⟨rfl, HG.out⟩
def pls (a y bd : Nat) : Nat := if okp a y bd then a + y else 0
set_option maxHeartbeats 2000000 in
theorem plus_any {a y bd : Nat} (ha : a < 18446744073709551616) (hy : y < 18446744073709551616) (w : World) : Calls Try.prog 20 #[.int .u64 a, .int .u64 y, .int .u64 bd] w fun e w' => e = .returned (.tuple #[.int .u64 (pls a y bd : Nat), .bool (okp a y bd)]) ∧ w' = w := by
  by_cases h0 : y = 0
  · subst h0
    rw [show okp a 0 bd = true by simp [okp], show pls a 0 bd = a by simp [pls, okp]]
    go_enter Try.func20, Try.ntmps20
    go_wp2_with fail
    refine bodyPost_ret (v := .tuple #[.int .u64 a, .bool true]) (by simp [results, Try.results20, go_sem, *]) rfl ⟨rfl, rfl⟩
  have e0 : ((y : Int) == 0) = false := by simp; omega
  have hs : IntKind.u64.wrap (18446744073709551615 - (y : Int)) = 18446744073709551615 - (y : Int) := by
    simp [IntKind.wrap, IntKind.signed, IntKind.bits]; omega
  by_cases h1 : a + y < 18446744073709551616
  · have ht : IntKind.u64.wrap ((a : Int) + y) = (a : Int) + y := by simp [IntKind.wrap, IntKind.signed, IntKind.bits]; omega
    have hn : ¬ (18446744073709551615 - (y : Int) < (a : Int)) := by omega
    by_cases h2 : a + y ≤ bd
    · rw [show okp a y bd = true by simp [okp, h0, h1, h2], show pls a y bd = a + y by simp [pls, okp, h0, h1, h2]]
      have hm : ¬ ((bd : Int) < (a : Int) + y) := by omega
      clear h0 h1 h2 ha hy
      go_enter Try.func20, Try.ntmps20
      go_wp2_with fail
      refine bodyPost_ret (v := .tuple #[.int .u64 (a + y : Nat), .bool true]) (by simp [results, Try.results20, go_sem, *]) rfl ⟨rfl, rfl⟩
    · rw [show okp a y bd = false by simp [okp, h0, h2], show pls a y bd = 0 by simp [pls, okp, h0, h2]]
      have hm : ((bd : Int) < (a : Int) + y) := by omega
      clear h0 h1 h2 ha hy
      go_enter Try.func20, Try.ntmps20
      go_wp2_with fail
      refine bodyPost_ret (v := .tuple #[.int .u64 0, .bool false]) (by simp [results, Try.results20, go_sem, *]) rfl ⟨rfl, rfl⟩
  · rw [show okp a y bd = false by simp [okp, h0, h1], show pls a y bd = 0 by simp [pls, okp, h0, h1]]
    have hn : (18446744073709551615 - (y : Int) < (a : Int)) := by omega
    clear h0 h1 ha hy
    go_enter Try.func20, Try.ntmps20
    go_wp2_with fail
    refine bodyPost_ret (v := .tuple #[.int .u64 0, .bool false]) (by simp [results, Try.results20, go_sem, *]) rfl ⟨rfl, rfl⟩
theorem five_new (w : World) (o0 o1 o2 o3 o4 : Obj) : let W := ((((w.alloc o0).alloc o1).alloc o2).alloc o3).alloc o4
    W.heap[w.heap.size]? = some o0 ∧ W.heap[w.heap.size + 1]? = some o1 ∧ W.heap[w.heap.size + 1 + 1]? = some o2 ∧ W.heap[w.heap.size + 1 + 1 + 1]? = some o3 ∧ W.heap[w.heap.size + 1 + 1 + 1 + 1]? = some o4 := by
  intro W
  have h := four_new' (w.alloc o0) o1 o2 o3 o4
  rw [show (w.alloc o0).heap.size = w.heap.size + 1 by simp] at h
  refine ⟨?_, h⟩
  rw [← heap_new' w o0]
  exact (((((Gr.refl (w.alloc o0)).alloc o1).alloc o2).alloc o3).alloc o4).below.block w.heap.size (by simp)

set_option maxHeartbeats 8000000 in
set_option maxRecDepth 100000 in
theorem rdo_any (x : Nd) {p : Option Addr} {n c : Nat} {l : List Op2} {t : T3} {r : Rc} (hy : x.y.ok) (ht : t.ok) (hr : Rok r) (hl : ∀ o ∈ l, Ook o) (w : World) (hv : Ls EO w (.slice p n c) l) : Calls Try.prog 14 #[x.v p n c, t.v, rv r] w fun e w' => e = .returned (tup (ndo x l t r)) ∧ Below w.heap.size w w' := by
  have hmx : Try.prog.follows .mixedOrders = true := by kernel_rfl
  obtain ⟨k, i, o, y, bd, cp, cn, cc, st⟩ := x
  by_cases h2 : k = 2
  · subst h2
    rw [show ndo (Nd.mk 2 i o y bd cp cn cc st) l t r = (t, mapL l r, true) by simp [ndo]]
    have HM : Hid (∀ W, Below w.heap.size w W → Calls Try.prog 18 #[.slice p n c, rv r] W fun e w' => e = .returned (rv (mapL l r)) ∧ Below W.heap.size W w') := fun W hW => rmap_any hr hl W (hv.below hW)
    obtain ⟨q, hq⟩ : ∃ q, q = mapL l r := ⟨_, rfl⟩
    rw [← hq] at HM ⊢
    clear hq hv hl hr ht hy
    obtain ⟨k, hk⟩ : ∃ k : Int, k = 2 := ⟨_, rfl⟩
    rw [← hk]
    have hk2 : (k == 2) = true := by rw [hk]; rfl
    clear hk
    go_enter Try.func14, Try.ntmps14
    go_upto_region 3 with fail
    obtain ⟨W0, hW0⟩ : ∃ W0, W0 = ((((w.alloc (.cells (ncells ⟨k, i, o, y, bd, cp, cn, cc, st⟩ p n c) 28)).alloc (.cells #[.int .u64 t.a, .int .u64 t.b, .int .u64 t.c] 29)).alloc (.cells #[.int .u64 r.key, .int .u64 r.val] 31)).alloc (.cells #[.int .u64 0, .int .u64 0, .int .u64 0] 29)).alloc (.cells #[.int .u64 0, .int .u64 0] 31) := ⟨_, rfl⟩
    have hG : Gr w W0 := by rw [hW0]; exact (((((Gr.refl w).alloc _).alloc _).alloc _).alloc _).alloc _
    have h4 := five_new w (.cells (ncells ⟨k, i, o, y, bd, cp, cn, cc, st⟩ p n c) 28) (.cells #[.int .u64 t.a, .int .u64 t.b, .int .u64 t.c] 29) (.cells #[.int .u64 r.key, .int .u64 r.val] 31) (.cells #[.int .u64 0, .int .u64 0, .int .u64 0] 29) (.cells #[.int .u64 0, .int .u64 0] 31)
    simp only at h4
    rw [← hW0] at h4
    obtain ⟨b, hb⟩ : ∃ b, b = w.heap.size := ⟨_, rfl⟩
    obtain ⟨nb, hnb⟩ : ∃ nb, nb = b + 1 := ⟨_, rfl⟩
    obtain ⟨rb, hrb⟩ : ∃ rb, rb = nb + 1 := ⟨_, rfl⟩
    obtain ⟨qb, hqb⟩ : ∃ qb, qb = rb + 1 := ⟨_, rfl⟩
    obtain ⟨sb, hsb⟩ : ∃ sb, sb = qb + 1 := ⟨_, rfl⟩
    rw [← hW0, ← hb, ← hnb, ← hrb, ← hqb, ← hsb]
    rw [← hb, ← hnb, ← hrb, ← hqb, ← hsb] at h4
    obtain ⟨b0, b1, b2, b3, b4⟩ := h4
    have HN : Hid (nb < qb ∧ rb < qb ∧ b < qb ∧ qb ≠ sb ∧ qb ≤ sb ∧ w.heap.size ≤ qb ∧ qb ≤ W0.heap.size) := ⟨by omega, by omega, by omega, by omega, by omega, by omega, Nat.le_of_lt (tk_lt b3)⟩
    have HG := hid hG.below
    have HL : Hid (∀ W : World, Below qb W0 W → W.cell? ⟨nb, 0, none⟩ = some (.int .u64 t.a) ∧ W.cell? ⟨nb, 1, none⟩ = some (.int .u64 t.b) ∧ W.cell? ⟨nb, 2, none⟩ = some (.int .u64 t.c) ∧ W.cell? ⟨rb, 0, none⟩ = some (.int .u64 r.key) ∧ W.cell? ⟨rb, 1, none⟩ = some (.int .u64 r.val) ∧ nb < W.heap.size ∧ rb < W.heap.size ∧ b < W.heap.size ∧ W.cell? ⟨b, 3, none⟩ = some (.slice p n c) ∧ W.cell? ⟨b, 4, none⟩ = some (.int .u64 y.a) ∧ W.cell? ⟨b, 5, none⟩ = some (.int .u64 y.b) ∧ W.cell? ⟨b, 6, none⟩ = some (.int .u64 y.c) ∧ W.cell? ⟨b, 7, none⟩ = some (.int .u64 bd)) := fun W hW => by
      obtain ⟨x1, x2, x3, -, -, -, -⟩ := HN.out
      have h1 := (hW.block nb x1).trans b1
      have h2 := (hW.block rb x2).trans b2
      have h3 := (hW.block b x3).trans b0
      exact ⟨by simp [World.cell?, h1], by simp [World.cell?, h1], by simp [World.cell?, h1], by simp [World.cell?, h2], by simp [World.cell?, h2], tk_lt h1, tk_lt h2, tk_lt h3, by simp [World.cell?, h3], by simp [World.cell?, h3], by simp [World.cell?, h3], by simp [World.cell?, h3], by simp [World.cell?, h3]⟩
    have H3 : Hid (∀ W : World, Below W0.heap.size W0 W → W.heap[qb]? = some (.cells #[.int .u64 0, .int .u64 0, .int .u64 0] 29 (0, 0)) ∧ W.heap[sb]? = some (.cells #[.int .u64 0, .int .u64 0] 31 (0, 0))) := fun W hW => ⟨(hW.block qb (tk_lt b3)).trans b3, (hW.block sb (tk_lt b4)).trans b4⟩
    clear hW0 hb hnb hrb hqb hsb b0 b1 b2 b3 b4 hG
    have B0 : Below W0.heap.size W0 W0.drew := (Gr.refl W0).drew.below
    have hS0 : Below qb W0 W0.drew := B0.mono HN.out.2.2.2.2.2.2
    refine wp_regionD (S := (fun W : World => Below qb W0 W)) (D := []) hmx ?_
    refine' wpAnyD_take (i := 0) (oi := { dst := some 20, op := Go.Op.load 29 (Go.Operand.tmp 4), type := 29, pos := "ref.go:47", after := #[], guard := none }) (v := _) rfl (by kernel_rfl) (by kernel_rfl) (by kernel_rfl) (fun _ _ _ h => h) (by kernel_rfl) (Or.inl ⟨by rfl, ?hy1⟩) hS0 ?rest1
    case hy1 => (intro W hSw; obtain ⟨y0, y1, y2, y3, y4, y5, y6, y7, y8, y9, y10, y11, y12⟩ := HL.out W hSw; go_simp; try (with_reducible rfl))
    try simp only [Act.put, List.setIfInBounds_toArray, List.set_cons_zero, List.set_cons_succ]
    refine' wpAnyD_take (i := 1) (oi := { dst := some 21, op := Go.Op.fieldAddr 28 (Go.Operand.tmp 3) 3, type := 0, pos := "ref.go:47", after := #[], guard := none }) (v := _) rfl (by kernel_rfl) (by kernel_rfl) (by kernel_rfl) (fun _ _ _ h => h) (by kernel_rfl) (Or.inl ⟨by rfl, ?hy2⟩) hS0 ?rest2
    case hy2 => (intro W hSw; go_simp; try (with_reducible rfl))
    try simp only [Act.put, List.setIfInBounds_toArray, List.set_cons_zero, List.set_cons_succ]
    refine' wpAnyD_take (i := 2) (oi := { dst := some 22, op := Go.Op.load 22 (Go.Operand.tmp 21), type := 22, pos := "ref.go:47", after := #[{ on := 1, ground := Go.Ground.data }], guard := none }) (v := _) rfl (by kernel_rfl) (by kernel_rfl) (by kernel_rfl) (fun _ _ _ h => h) (by kernel_rfl) (Or.inl ⟨by rfl, ?hy3⟩) hS0 ?rest3
    case hy3 => (intro W hSw; obtain ⟨y0, y1, y2, y3, y4, y5, y6, y7, y8, y9, y10, y11, y12⟩ := HL.out W hSw; go_simp; try (with_reducible rfl))
    try simp only [Act.put, List.setIfInBounds_toArray, List.set_cons_zero, List.set_cons_succ]
    refine' wpAnyD_take (i := 3) (oi := { dst := some 23, op := Go.Op.load 31 (Go.Operand.tmp 5), type := 31, pos := "ref.go:47", after := #[], guard := none }) (v := _) rfl (by kernel_rfl) (by kernel_rfl) (by kernel_rfl) (fun _ _ _ h => h) (by kernel_rfl) (Or.inl ⟨by rfl, ?hy4⟩) hS0 ?rest4
    case hy4 => (intro W hSw; obtain ⟨y0, y1, y2, y3, y4, y5, y6, y7, y8, y9, y10, y11, y12⟩ := HL.out W hSw; go_simp; try (with_reducible rfl))
    try simp only [Act.put, List.setIfInBounds_toArray, List.set_cons_zero, List.set_cons_succ]
    refine wpAnyD_one (i := 4) (o := { dst := some 24, op := Go.Op.call { callee := Go.Callee.value (Go.Operand.func 18), args := #[Go.Operand.tmp 22, Go.Operand.tmp 23], argTypes := #[22, 31] }, type := 31, pos := "ref.go:47", after := #[{ on := 2, ground := Go.Ground.data }, { on := 3, ground := Go.Ground.data }], guard := none }) (by kernel_rfl) rfl (fun K hK => ?_)
    go_simp
    refine (HM.out _ (HG.out.trans (B0.mono HG.out.size))).mono ?_
    rintro e u1 ⟨rfl, g1⟩
    have B1 : Below W0.heap.size W0 u1 := B0.trans (g1.mono B0.size)
    have hB : Below qb W0 u1 := B1.mono HN.out.2.2.2.2.2.2
    obtain ⟨hT, hR⟩ := H3.out u1 B1
    clear g1 B1
    go_wp2_with fail
    refine hK.out _ _ (fun hD => hB) ?_
    clear hK K
    try simp only [Act.put, List.setIfInBounds_toArray, List.set_cons_zero, List.set_cons_succ]
    refine wpAnyD_one (i := 5) (o := { dst := none, op := Go.Op.store 29 (Go.Operand.tmp 6) (Go.Operand.tmp 20), type := 0, pos := "ref.go:47", after := #[{ on := 0, ground := Go.Ground.data }, { on := 4, ground := Go.Ground.chain }, { on := 0, ground := Go.Ground.phase }, { on := 1, ground := Go.Ground.textOnly Go.Departure.lateStores }, { on := 2, ground := Go.Ground.textOnly Go.Departure.lateStores }, { on := 3, ground := Go.Ground.textOnly Go.Departure.lateStores }, { on := 4, ground := Go.Ground.textOnly Go.Departure.lateStoresUnsure }], guard := none }) (by kernel_rfl) rfl (fun K hK => ?_)
    rw [if_pos (by kernel_rfl)]
    have cb := (tk_store hT).1
    have fb := (tk_store hT).2
    have lb := tk_lt hT
    go_simp
    obtain ⟨hB2, hT2, hR2⟩ := st3 (a := .int .u64 t.a) (b := .int .u64 t.b) (c := .int .u64 t.c) hB hT hR HN.out.2.2.2.1 (Nat.le_refl _)
    clear cb fb lb hB hT hR
    generalize (((u1.setCell ⟨qb, 0, none⟩ (.int .u64 t.a)).setCell ⟨qb, 1, none⟩ (.int .u64 t.b)).setCell ⟨qb, 2, none⟩ (.int .u64 t.c)) = u2 at hB2 hT2 hR2 ⊢
    refine hK.out _ _ (fun hD => hB2) ?_
    clear hK K
    try simp only [Act.put, List.setIfInBounds_toArray, List.set_cons_zero, List.set_cons_succ]
    refine wpAnyD_one (i := 6) (o := { dst := none, op := Go.Op.store 31 (Go.Operand.tmp 7) (Go.Operand.tmp 24), type := 0, pos := "ref.go:47", after := #[{ on := 4, ground := Go.Ground.data }, { on := 5, ground := Go.Ground.chain }, { on := 0, ground := Go.Ground.phase }, { on := 1, ground := Go.Ground.phase }, { on := 2, ground := Go.Ground.phase }, { on := 3, ground := Go.Ground.phase }, { on := 4, ground := Go.Ground.phase }, { on := 5, ground := Go.Ground.phase }], guard := none }) (by kernel_rfl) rfl (fun K hK => ?_)
    rw [if_pos (by kernel_rfl)]
    have cb := (tk_store hR2).1
    have fb := (tk_store hR2).2
    have lb := tk_lt hR2
    go_simp
    obtain ⟨hB3, hR3, hT3⟩ := st2 (a := .int .u64 q.key) (b := .int .u64 q.val) hB2 hR2 hT2 (Ne.symm HN.out.2.2.2.1) HN.out.2.2.2.2.1
    clear cb fb lb hB2 hT2 hR2
    generalize ((u2.setCell ⟨sb, 0, none⟩ (.int .u64 q.key)).setCell ⟨sb, 1, none⟩ (.int .u64 q.val)) = u3 at hB3 hT3 hR3 ⊢
    refine hK.out _ _ (fun hD => hB3) ?_
    clear hK K
    try simp only [Act.put, List.setIfInBounds_toArray, List.set_cons_zero, List.set_cons_succ]
    refine wpAnyD_one (i := 7) (o := { dst := some 8, op := Go.Op.assign (Go.Operand.const (Go.Value.bool true)), type := 4, pos := "ref.go:47", after := #[{ on := 6, ground := Go.Ground.chain }, { on := 0, ground := Go.Ground.phase }, { on := 1, ground := Go.Ground.phase }, { on := 2, ground := Go.Ground.phase }, { on := 3, ground := Go.Ground.phase }, { on := 4, ground := Go.Ground.phase }, { on := 5, ground := Go.Ground.phase }, { on := 6, ground := Go.Ground.phase }], guard := none }) (by kernel_rfl) rfl (fun K hK => ?_)
    go_simp
    refine hK.out _ _ (fun hD => hB3) ?_
    clear hK K
    try simp only [Act.put, List.setIfInBounds_toArray, List.set_cons_zero, List.set_cons_succ]
    refine wpAnyD_done (by kernel_rfl) ?_ _
    have ct := (tk_store hT3).1
    have cr := (tk_store hR3).1
    have ct0 := ct 0
    have ct1 := ct 1
    have ct2 := ct 2
    have cr0 := cr 0
    have cr1 := cr 1
    simp at ct0 ct1 ct2 cr0 cr1
    go_wp2_with fail
    refine bodyPost_ret (v := tup (t, q, true)) (by simp [results, Try.results14, go_sem, *]) rfl ⟨rfl, ?_⟩
    exact HG.out.trans (hB3.mono HN.out.2.2.2.2.2.1)
  have e2 : (k == 2) = false := by simpa using h2
  by_cases h3 : k = 3
  · subst h3
    rw [show ndo (Nd.mk 3 i o y bd cp cn cc st) l t r = if passL l r then (t, r, true) else (⟨0, 0, 0⟩, ⟨0, 0⟩, false) by simp [ndo]]
    have HM : Hid (∀ W, Below w.heap.size w W → Calls Try.prog 19 #[.slice p n c, rv r] W fun e w' => e = .returned (.bool (passL l r)) ∧ Below W.heap.size W w') := fun W hW => rpass_any r W (hv.below hW)
    obtain ⟨q, hq⟩ : ∃ q, q = passL l r := ⟨_, rfl⟩
    rw [← hq] at HM ⊢
    clear hq hv hl hr ht hy h2 e2
    obtain ⟨k, hk⟩ : ∃ k : Int, k = 3 := ⟨_, rfl⟩
    rw [← hk]
    have hk2 : (k == 2) = false := by rw [hk]; rfl
    have hk3 : (k == 3) = true := by rw [hk]; rfl
    clear hk
    go_enter Try.func14, Try.ntmps14
    go_upto_region 5 with fail
    obtain ⟨W0, hW0⟩ : ∃ W0, W0 = ((((w.alloc (.cells (ncells ⟨k, i, o, y, bd, cp, cn, cc, st⟩ p n c) 28)).alloc (.cells #[.int .u64 t.a, .int .u64 t.b, .int .u64 t.c] 29)).alloc (.cells #[.int .u64 r.key, .int .u64 r.val] 31)).alloc (.cells #[.int .u64 0, .int .u64 0, .int .u64 0] 29)).alloc (.cells #[.int .u64 0, .int .u64 0] 31) := ⟨_, rfl⟩
    have hG : Gr w W0 := by rw [hW0]; exact (((((Gr.refl w).alloc _).alloc _).alloc _).alloc _).alloc _
    have h4 := five_new w (.cells (ncells ⟨k, i, o, y, bd, cp, cn, cc, st⟩ p n c) 28) (.cells #[.int .u64 t.a, .int .u64 t.b, .int .u64 t.c] 29) (.cells #[.int .u64 r.key, .int .u64 r.val] 31) (.cells #[.int .u64 0, .int .u64 0, .int .u64 0] 29) (.cells #[.int .u64 0, .int .u64 0] 31)
    simp only at h4
    rw [← hW0] at h4
    obtain ⟨b, hb⟩ : ∃ b, b = w.heap.size := ⟨_, rfl⟩
    obtain ⟨nb, hnb⟩ : ∃ nb, nb = b + 1 := ⟨_, rfl⟩
    obtain ⟨rb, hrb⟩ : ∃ rb, rb = nb + 1 := ⟨_, rfl⟩
    obtain ⟨qb, hqb⟩ : ∃ qb, qb = rb + 1 := ⟨_, rfl⟩
    obtain ⟨sb, hsb⟩ : ∃ sb, sb = qb + 1 := ⟨_, rfl⟩
    rw [← hW0, ← hb, ← hnb, ← hrb, ← hqb, ← hsb]
    rw [← hb, ← hnb, ← hrb, ← hqb, ← hsb] at h4
    obtain ⟨b0, b1, b2, b3, b4⟩ := h4
    have HN : Hid (nb < qb ∧ rb < qb ∧ b < qb ∧ qb ≠ sb ∧ qb ≤ sb ∧ w.heap.size ≤ qb ∧ qb ≤ W0.heap.size) := ⟨by omega, by omega, by omega, by omega, by omega, by omega, Nat.le_of_lt (tk_lt b3)⟩
    have HG := hid hG.below
    have HL : Hid (∀ W : World, Below qb W0 W → W.cell? ⟨nb, 0, none⟩ = some (.int .u64 t.a) ∧ W.cell? ⟨nb, 1, none⟩ = some (.int .u64 t.b) ∧ W.cell? ⟨nb, 2, none⟩ = some (.int .u64 t.c) ∧ W.cell? ⟨rb, 0, none⟩ = some (.int .u64 r.key) ∧ W.cell? ⟨rb, 1, none⟩ = some (.int .u64 r.val) ∧ nb < W.heap.size ∧ rb < W.heap.size ∧ b < W.heap.size ∧ W.cell? ⟨b, 3, none⟩ = some (.slice p n c) ∧ W.cell? ⟨b, 4, none⟩ = some (.int .u64 y.a) ∧ W.cell? ⟨b, 5, none⟩ = some (.int .u64 y.b) ∧ W.cell? ⟨b, 6, none⟩ = some (.int .u64 y.c) ∧ W.cell? ⟨b, 7, none⟩ = some (.int .u64 bd)) := fun W hW => by
      obtain ⟨x1, x2, x3, -, -, -, -⟩ := HN.out
      have h1 := (hW.block nb x1).trans b1
      have h2 := (hW.block rb x2).trans b2
      have h3 := (hW.block b x3).trans b0
      exact ⟨by simp [World.cell?, h1], by simp [World.cell?, h1], by simp [World.cell?, h1], by simp [World.cell?, h2], by simp [World.cell?, h2], tk_lt h1, tk_lt h2, tk_lt h3, by simp [World.cell?, h3], by simp [World.cell?, h3], by simp [World.cell?, h3], by simp [World.cell?, h3], by simp [World.cell?, h3]⟩
    have H3 : Hid (∀ W : World, Below W0.heap.size W0 W → W.heap[qb]? = some (.cells #[.int .u64 0, .int .u64 0, .int .u64 0] 29 (0, 0)) ∧ W.heap[sb]? = some (.cells #[.int .u64 0, .int .u64 0] 31 (0, 0))) := fun W hW => ⟨(hW.block qb (tk_lt b3)).trans b3, (hW.block sb (tk_lt b4)).trans b4⟩
    clear hW0 hb hnb hrb hqb hsb b0 b1 b2 b3 b4 hG
    obtain ⟨y0, y1, y2, y3, y4, y5, y6, y7, y8, -⟩ := HL.out W0 (Below.refl _ _)
    go_wp2_with fail
    refine (HM.out _ HG.out).mono ?_
    rintro e u1 ⟨rfl, B1⟩
    clear y0 y1 y2 y3 y4 y5 y6 y7 y8
    cases q with
    | false =>
      have hB : Below qb W0 u1 := B1.mono HN.out.2.2.2.2.2.2
      obtain ⟨hT, hR⟩ := H3.out _ B1
      have ct := (tk_store hT).1
      have ft := (tk_store hT).2
      have lt := tk_lt hT
      have cr := (tk_store hR).1
      have fr := (tk_store hR).2
      have lr := tk_lt hR
      have hne := HN.out.2.2.2.1
      have hne2 := Ne.symm hne
      go_wp2_with fail
      refine bodyPost_ret (v := tup (⟨0, 0, 0⟩, ⟨0, 0⟩, false)) (by simp [results, Try.results14, go_sem, *]) rfl ⟨rfl, ?_⟩
      obtain ⟨h1, h2, h3⟩ := st3 (a := .int .u64 0) (b := .int .u64 0) (c := .int .u64 0) hB hT hR hne (Nat.le_refl _)
      exact HG.out.trans ((st2 h1 h3 h2 hne2 HN.out.2.2.2.2.1).1.mono HN.out.2.2.2.2.2.1)
    | true =>
      go_upto_region 8 with fail
      have B2 : Below W0.heap.size W0 u1.drew := B1.trans ((Gr.refl u1).drew.below.mono B1.size)
      have hB : Below qb W0 u1.drew := B2.mono HN.out.2.2.2.2.2.2
      obtain ⟨hT, hR⟩ := H3.out u1.drew B2
      clear B2
      refine wp_regionD (S := (fun W : World => Below qb W0 W)) (D := []) hmx ?_
      generalize u1.drew = v1 at hB hT hR ⊢
      refine' wpAnyD_take (i := 0) (oi := { dst := some 35, op := Go.Op.load 29 (Go.Operand.tmp 4), type := 29, pos := "ref.go:53", after := #[], guard := none }) (v := _) rfl (by kernel_rfl) (by kernel_rfl) (by kernel_rfl) (fun _ _ _ h => h) (by kernel_rfl) (Or.inl ⟨by rfl, ?hy9⟩) hB ?rest9
      case hy9 => (intro W hSw; obtain ⟨y0, y1, y2, y3, y4, y5, y6, y7, y8, y9, y10, y11, y12⟩ := HL.out W hSw; go_simp; try (with_reducible rfl))
      try simp only [Act.put, List.setIfInBounds_toArray, List.set_cons_zero, List.set_cons_succ]
      refine' wpAnyD_take (i := 1) (oi := { dst := some 36, op := Go.Op.load 31 (Go.Operand.tmp 5), type := 31, pos := "ref.go:53", after := #[{ on := 2, ground := Go.Ground.gcOnly Go.Departure.lateStores }], guard := none }) (v := _) rfl (by kernel_rfl) (by kernel_rfl) (by kernel_rfl) (fun _ _ _ h => h) (by kernel_rfl) (Or.inl ⟨by rfl, ?hy10⟩) hB ?rest10
      case hy10 => (intro W hSw; obtain ⟨y0, y1, y2, y3, y4, y5, y6, y7, y8, y9, y10, y11, y12⟩ := HL.out W hSw; go_simp; try (with_reducible rfl))
      try simp only [Act.put, List.setIfInBounds_toArray, List.set_cons_zero, List.set_cons_succ]
      refine wpAnyD_one (i := 2) (o := { dst := none, op := Go.Op.store 29 (Go.Operand.tmp 6) (Go.Operand.tmp 35), type := 0, pos := "ref.go:53", after := #[{ on := 0, ground := Go.Ground.data }, { on := 0, ground := Go.Ground.phase }, { on := 1, ground := Go.Ground.textOnly Go.Departure.lateStores }], guard := none }) (by kernel_rfl) rfl (fun K hK => ?_)
      rw [if_pos (by kernel_rfl)]
      have cb := (tk_store hT).1
      have fb := (tk_store hT).2
      have lb := tk_lt hT
      go_simp
      obtain ⟨hB2, hT2, hR2⟩ := st3 (a := .int .u64 t.a) (b := .int .u64 t.b) (c := .int .u64 t.c) hB hT hR HN.out.2.2.2.1 (Nat.le_refl _)
      clear cb fb lb hB hT hR
      generalize (((v1.setCell ⟨qb, 0, none⟩ (.int .u64 t.a)).setCell ⟨qb, 1, none⟩ (.int .u64 t.b)).setCell ⟨qb, 2, none⟩ (.int .u64 t.c)) = u2 at hB2 hT2 hR2 ⊢
      refine hK.out _ _ (fun hD => hB2) ?_
      clear hK K
      try simp only [Act.put, List.setIfInBounds_toArray, List.set_cons_zero, List.set_cons_succ]
      refine wpAnyD_one (i := 3) (o := { dst := none, op := Go.Op.store 31 (Go.Operand.tmp 7) (Go.Operand.tmp 36), type := 0, pos := "ref.go:53", after := #[{ on := 1, ground := Go.Ground.data }, { on := 2, ground := Go.Ground.chain }, { on := 0, ground := Go.Ground.phase }, { on := 1, ground := Go.Ground.phase }, { on := 2, ground := Go.Ground.phase }], guard := none }) (by kernel_rfl) rfl (fun K hK => ?_)
      rw [if_pos (by kernel_rfl)]
      have cb := (tk_store hR2).1
      have fb := (tk_store hR2).2
      have lb := tk_lt hR2
      go_simp
      obtain ⟨hB3, hR3, hT3⟩ := st2 (a := .int .u64 r.key) (b := .int .u64 r.val) hB2 hR2 hT2 (Ne.symm HN.out.2.2.2.1) HN.out.2.2.2.2.1
      clear cb fb lb hB2 hT2 hR2
      generalize ((u2.setCell ⟨sb, 0, none⟩ (.int .u64 r.key)).setCell ⟨sb, 1, none⟩ (.int .u64 r.val)) = u3 at hB3 hT3 hR3 ⊢
      refine hK.out _ _ (fun hD => hB3) ?_
      clear hK K
      try simp only [Act.put, List.setIfInBounds_toArray, List.set_cons_zero, List.set_cons_succ]
      refine wpAnyD_one (i := 4) (o := { dst := some 8, op := Go.Op.assign (Go.Operand.const (Go.Value.bool true)), type := 4, pos := "ref.go:53", after := #[{ on := 3, ground := Go.Ground.chain }, { on := 0, ground := Go.Ground.phase }, { on := 1, ground := Go.Ground.phase }, { on := 2, ground := Go.Ground.phase }, { on := 3, ground := Go.Ground.phase }], guard := none }) (by kernel_rfl) rfl (fun K hK => ?_)
      go_simp
      refine hK.out _ _ (fun hD => hB3) ?_
      clear hK K
      try simp only [Act.put, List.setIfInBounds_toArray, List.set_cons_zero, List.set_cons_succ]
      refine wpAnyD_done (by kernel_rfl) ?_ _
      have ct := (tk_store hT3).1
      have cr := (tk_store hR3).1
      have ct0 := ct 0
      have ct1 := ct 1
      have ct2 := ct 2
      have cr0 := cr 0
      have cr1 := cr 1
      simp at ct0 ct1 ct2 cr0 cr1
      go_wp2_with fail
      refine bodyPost_ret (v := tup (t, r, true)) (by simp [results, Try.results14, go_sem, *]) rfl ⟨rfl, ?_⟩
      exact HG.out.trans (hB3.mono HN.out.2.2.2.2.2.1)
  have e3 : (k == 3) = false := by simpa using h3
  by_cases h5 : k = 5
  · subst h5
    rw [show ndo (Nd.mk 5 i o y bd cp cn cc st) l t r = if okp t.a y.a bd && (okp t.b y.b bd && okp t.c y.c bd) then (⟨t.a + y.a, t.b + y.b, t.c + y.c⟩, r, true) else (⟨0, 0, 0⟩, ⟨0, 0⟩, false) by simp [ndo, lok]]
    have P1 : Hid (∀ W, _) := fun W => plus_any (bd := bd) ht.1 hy.1 W
    have P2 : Hid (∀ W, _) := fun W => plus_any (bd := bd) ht.2.1 hy.2.1 W
    have P3 : Hid (∀ W, _) := fun W => plus_any (bd := bd) ht.2.2 hy.2.2 W
    have E1 : Hid (okp t.a y.a bd = true → pls t.a y.a bd = t.a + y.a) := fun h => by unfold pls; rw [if_pos h]
    have E2 : Hid (okp t.b y.b bd = true → pls t.b y.b bd = t.b + y.b) := fun h => by unfold pls; rw [if_pos h]
    have E3 : Hid (okp t.c y.c bd = true → pls t.c y.c bd = t.c + y.c) := fun h => by unfold pls; rw [if_pos h]
    simp only at P1 P2 P3
    obtain ⟨o1, ho1⟩ : ∃ o1, o1 = okp t.a y.a bd := ⟨_, rfl⟩
    obtain ⟨o2, ho2⟩ : ∃ o2, o2 = okp t.b y.b bd := ⟨_, rfl⟩
    obtain ⟨o3, ho3⟩ : ∃ o3, o3 = okp t.c y.c bd := ⟨_, rfl⟩
    obtain ⟨s1, hs1⟩ : ∃ s1, s1 = pls t.a y.a bd := ⟨_, rfl⟩
    obtain ⟨s2, hs2⟩ : ∃ s2, s2 = pls t.b y.b bd := ⟨_, rfl⟩
    obtain ⟨s3, hs3⟩ : ∃ s3, s3 = pls t.c y.c bd := ⟨_, rfl⟩
    rw [← ho1, ← hs1] at P1 E1
    rw [← ho2, ← hs2] at P2 E2
    rw [← ho3, ← hs3] at P3 E3
    rw [← ho1, ← ho2, ← ho3]
    clear ho1 ho2 ho3 hs1 hs2 hs3 hv hl hr ht hy h2 h3 e2 e3
    obtain ⟨k, hk⟩ : ∃ k : Int, k = 5 := ⟨_, rfl⟩
    rw [← hk]
    have hk2 : (k == 2) = false := by rw [hk]; rfl
    have hk3 : (k == 3) = false := by rw [hk]; rfl
    have hk5 : (k == 5) = true := by rw [hk]; rfl
    clear hk
    go_enter Try.func14, Try.ntmps14
    go_upto_region 10 with fail
    obtain ⟨W0, hW0⟩ : ∃ W0, W0 = ((((w.alloc (.cells (ncells ⟨k, i, o, y, bd, cp, cn, cc, st⟩ p n c) 28)).alloc (.cells #[.int .u64 t.a, .int .u64 t.b, .int .u64 t.c] 29)).alloc (.cells #[.int .u64 r.key, .int .u64 r.val] 31)).alloc (.cells #[.int .u64 0, .int .u64 0, .int .u64 0] 29)).alloc (.cells #[.int .u64 0, .int .u64 0] 31) := ⟨_, rfl⟩
    have hG : Gr w W0 := by rw [hW0]; exact (((((Gr.refl w).alloc _).alloc _).alloc _).alloc _).alloc _
    have h4 := five_new w (.cells (ncells ⟨k, i, o, y, bd, cp, cn, cc, st⟩ p n c) 28) (.cells #[.int .u64 t.a, .int .u64 t.b, .int .u64 t.c] 29) (.cells #[.int .u64 r.key, .int .u64 r.val] 31) (.cells #[.int .u64 0, .int .u64 0, .int .u64 0] 29) (.cells #[.int .u64 0, .int .u64 0] 31)
    simp only at h4
    rw [← hW0] at h4
    obtain ⟨b, hb⟩ : ∃ b, b = w.heap.size := ⟨_, rfl⟩
    obtain ⟨nb, hnb⟩ : ∃ nb, nb = b + 1 := ⟨_, rfl⟩
    obtain ⟨rb, hrb⟩ : ∃ rb, rb = nb + 1 := ⟨_, rfl⟩
    obtain ⟨qb, hqb⟩ : ∃ qb, qb = rb + 1 := ⟨_, rfl⟩
    obtain ⟨sb, hsb⟩ : ∃ sb, sb = qb + 1 := ⟨_, rfl⟩
    rw [← hW0, ← hb, ← hnb, ← hrb, ← hqb, ← hsb]
    rw [← hb, ← hnb, ← hrb, ← hqb, ← hsb] at h4
    obtain ⟨b0, b1, b2, b3, b4⟩ := h4
    have HN : Hid (nb < qb ∧ rb < qb ∧ b < qb ∧ qb ≠ sb ∧ qb ≤ sb ∧ w.heap.size ≤ qb ∧ qb ≤ W0.heap.size) := ⟨by omega, by omega, by omega, by omega, by omega, by omega, Nat.le_of_lt (tk_lt b3)⟩
    have HG := hid hG.below
    have HL : Hid (∀ W : World, Below qb W0 W → W.cell? ⟨nb, 0, none⟩ = some (.int .u64 t.a) ∧ W.cell? ⟨nb, 1, none⟩ = some (.int .u64 t.b) ∧ W.cell? ⟨nb, 2, none⟩ = some (.int .u64 t.c) ∧ W.cell? ⟨rb, 0, none⟩ = some (.int .u64 r.key) ∧ W.cell? ⟨rb, 1, none⟩ = some (.int .u64 r.val) ∧ nb < W.heap.size ∧ rb < W.heap.size ∧ b < W.heap.size ∧ W.cell? ⟨b, 3, none⟩ = some (.slice p n c) ∧ W.cell? ⟨b, 4, none⟩ = some (.int .u64 y.a) ∧ W.cell? ⟨b, 5, none⟩ = some (.int .u64 y.b) ∧ W.cell? ⟨b, 6, none⟩ = some (.int .u64 y.c) ∧ W.cell? ⟨b, 7, none⟩ = some (.int .u64 bd)) := fun W hW => by
      obtain ⟨x1, x2, x3, -, -, -, -⟩ := HN.out
      have h1 := (hW.block nb x1).trans b1
      have h2 := (hW.block rb x2).trans b2
      have h3 := (hW.block b x3).trans b0
      exact ⟨by simp [World.cell?, h1], by simp [World.cell?, h1], by simp [World.cell?, h1], by simp [World.cell?, h2], by simp [World.cell?, h2], tk_lt h1, tk_lt h2, tk_lt h3, by simp [World.cell?, h3], by simp [World.cell?, h3], by simp [World.cell?, h3], by simp [World.cell?, h3], by simp [World.cell?, h3]⟩
    have H3 : Hid (∀ W : World, Below W0.heap.size W0 W → W.heap[qb]? = some (.cells #[.int .u64 0, .int .u64 0, .int .u64 0] 29 (0, 0)) ∧ W.heap[sb]? = some (.cells #[.int .u64 0, .int .u64 0] 31 (0, 0))) := fun W hW => ⟨(hW.block qb (tk_lt b3)).trans b3, (hW.block sb (tk_lt b4)).trans b4⟩
    clear hW0 hb hnb hrb hqb hsb b0 b1 b2 b3 b4 hG
    obtain ⟨y0, y1, y2, y3, y4, y5, y6, y7, y8, y9, y10, y11, y12⟩ := HL.out W0 (Below.refl _ _)
    go_wp2_with fail
    refine (P1.out _).mono ?_
    rintro e u1 ⟨rfl, h1⟩
    rw [h1]
    clear u1 h1
    go_wp2_with fail
    refine (P2.out _).mono ?_
    rintro e u1 ⟨rfl, h1⟩
    rw [h1]
    clear u1 h1
    go_wp2_with fail
    refine (P3.out _).mono ?_
    rintro e u1 ⟨rfl, h1⟩
    rw [h1]
    clear u1 h1
    have B1 := Below.refl W0.heap.size W0
    clear y0 y1 y2 y3 y4 y5 y6 y7 y8 y9 y10 y11 y12 P1 P2 P3
    cases o1 with
    | false =>
      have hB : Below qb W0 W0 := B1.mono HN.out.2.2.2.2.2.2
      obtain ⟨hT, hR⟩ := H3.out _ B1
      have ct := (tk_store hT).1
      have ft := (tk_store hT).2
      have lt := tk_lt hT
      have cr := (tk_store hR).1
      have fr := (tk_store hR).2
      have lr := tk_lt hR
      have hne := HN.out.2.2.2.1
      have hne2 := Ne.symm hne
      go_wp2_with fail
      refine bodyPost_ret (v := tup (⟨0, 0, 0⟩, ⟨0, 0⟩, false)) (by simp [results, Try.results14, go_sem, *]) rfl ⟨rfl, ?_⟩
      obtain ⟨h1, h2, h3⟩ := st3 (a := .int .u64 0) (b := .int .u64 0) (c := .int .u64 0) hB hT hR hne (Nat.le_refl _)
      exact HG.out.trans ((st2 h1 h3 h2 hne2 HN.out.2.2.2.2.1).1.mono HN.out.2.2.2.2.2.1)
    | true =>
      cases o2 with
      | false =>
        have hB : Below qb W0 W0 := B1.mono HN.out.2.2.2.2.2.2
        obtain ⟨hT, hR⟩ := H3.out _ B1
        have ct := (tk_store hT).1
        have ft := (tk_store hT).2
        have lt := tk_lt hT
        have cr := (tk_store hR).1
        have fr := (tk_store hR).2
        have lr := tk_lt hR
        have hne := HN.out.2.2.2.1
        have hne2 := Ne.symm hne
        go_wp2_with fail
        refine bodyPost_ret (v := tup (⟨0, 0, 0⟩, ⟨0, 0⟩, false)) (by simp [results, Try.results14, go_sem, *]) rfl ⟨rfl, ?_⟩
        obtain ⟨h1, h2, h3⟩ := st3 (a := .int .u64 0) (b := .int .u64 0) (c := .int .u64 0) hB hT hR hne (Nat.le_refl _)
        exact HG.out.trans ((st2 h1 h3 h2 hne2 HN.out.2.2.2.2.1).1.mono HN.out.2.2.2.2.2.1)
      | true =>
        cases o3 with
        | false =>
          have hB : Below qb W0 W0 := B1.mono HN.out.2.2.2.2.2.2
          obtain ⟨hT, hR⟩ := H3.out _ B1
          have ct := (tk_store hT).1
          have ft := (tk_store hT).2
          have lt := tk_lt hT
          have cr := (tk_store hR).1
          have fr := (tk_store hR).2
          have lr := tk_lt hR
          have hne := HN.out.2.2.2.1
          have hne2 := Ne.symm hne
          go_wp2_with fail
          refine bodyPost_ret (v := tup (⟨0, 0, 0⟩, ⟨0, 0⟩, false)) (by simp [results, Try.results14, go_sem, *]) rfl ⟨rfl, ?_⟩
          obtain ⟨h1, h2, h3⟩ := st3 (a := .int .u64 0) (b := .int .u64 0) (c := .int .u64 0) hB hT hR hne (Nat.le_refl _)
          exact HG.out.trans ((st2 h1 h3 h2 hne2 HN.out.2.2.2.2.1).1.mono HN.out.2.2.2.2.2.1)
        | true =>
          skip
          go_upto_region 15 with fail
          have B2 : Below W0.heap.size W0 W0.drew := B1.trans ((Gr.refl W0).drew.below.mono B1.size)
          have hB : Below qb W0 W0.drew := B2.mono HN.out.2.2.2.2.2.2
          obtain ⟨hT, hR⟩ := H3.out W0.drew B2
          clear B2
          refine wp_regionD (S := (fun W : World => Below qb W0 W)) (D := []) hmx ?_
          generalize W0.drew = v1 at hB hT hR ⊢
          refine' wpAnyD_take (i := 0) (oi := { dst := some 84, op := Go.Op.move (Go.Operand.tmp 10), type := 23, pos := "ref.go:61", after := #[], guard := none }) (v := _) rfl (by kernel_rfl) (by kernel_rfl) (by kernel_rfl) (fun _ _ _ h => h) (by kernel_rfl) (Or.inl ⟨by rfl, ?hy14⟩) hB ?rest14
          case hy14 => (intro W hSw; go_simp; try (with_reducible rfl))
          try simp only [Act.put, List.setIfInBounds_toArray, List.set_cons_zero, List.set_cons_succ]
          refine' wpAnyD_take (i := 1) (oi := { dst := some 85, op := Go.Op.move (Go.Operand.tmp 12), type := 23, pos := "ref.go:61", after := #[], guard := none }) (v := _) rfl (by kernel_rfl) (by kernel_rfl) (by kernel_rfl) (fun _ _ _ h => h) (by kernel_rfl) (Or.inl ⟨by rfl, ?hy15⟩) hB ?rest15
          case hy15 => (intro W hSw; go_simp; try (with_reducible rfl))
          try simp only [Act.put, List.setIfInBounds_toArray, List.set_cons_zero, List.set_cons_succ]
          refine' wpAnyD_take (i := 2) (oi := { dst := some 86, op := Go.Op.move (Go.Operand.tmp 14), type := 23, pos := "ref.go:61", after := #[], guard := none }) (v := _) rfl (by kernel_rfl) (by kernel_rfl) (by kernel_rfl) (fun _ _ _ h => h) (by kernel_rfl) (Or.inl ⟨by rfl, ?hy16⟩) hB ?rest16
          case hy16 => (intro W hSw; go_simp; try (with_reducible rfl))
          try simp only [Act.put, List.setIfInBounds_toArray, List.set_cons_zero, List.set_cons_succ]
          refine' wpAnyD_take (i := 3) (oi := { dst := some 87, op := Go.Op.build 29 #[(0, Go.Operand.tmp 84), (1, Go.Operand.tmp 85), (2, Go.Operand.tmp 86)], type := 29, pos := "ref.go:61", after := #[{ on := 0, ground := Go.Ground.data }, { on := 1, ground := Go.Ground.data }, { on := 2, ground := Go.Ground.data }], guard := none }) (v := _) rfl (by kernel_rfl) (by kernel_rfl) (by kernel_rfl) (fun _ _ _ h => h) (by kernel_rfl) (Or.inl ⟨by rfl, ?hy17⟩) hB ?rest17
          case hy17 => (intro W hSw; go_simp; try (with_reducible rfl))
          try simp only [Act.put, List.setIfInBounds_toArray, List.set_cons_zero, List.set_cons_succ]
          refine' wpAnyD_take (i := 4) (oi := { dst := some 88, op := Go.Op.load 31 (Go.Operand.tmp 5), type := 31, pos := "ref.go:61", after := #[{ on := 5, ground := Go.Ground.gcOnly Go.Departure.lateStores }], guard := none }) (v := _) rfl (by kernel_rfl) (by kernel_rfl) (by kernel_rfl) (fun _ _ _ h => h) (by kernel_rfl) (Or.inl ⟨by rfl, ?hy18⟩) hB ?rest18
          case hy18 => (intro W hSw; obtain ⟨y0, y1, y2, y3, y4, y5, y6, y7, y8, y9, y10, y11, y12⟩ := HL.out W hSw; go_simp; try (with_reducible rfl))
          try simp only [Act.put, List.setIfInBounds_toArray, List.set_cons_zero, List.set_cons_succ]
          refine wpAnyD_one (i := 5) (o := { dst := none, op := Go.Op.store 29 (Go.Operand.tmp 6) (Go.Operand.tmp 87), type := 0, pos := "ref.go:61", after := #[{ on := 3, ground := Go.Ground.data }, { on := 0, ground := Go.Ground.phase }, { on := 1, ground := Go.Ground.phase }, { on := 2, ground := Go.Ground.phase }, { on := 3, ground := Go.Ground.phase }, { on := 4, ground := Go.Ground.textOnly Go.Departure.lateStores }], guard := none }) (by kernel_rfl) rfl (fun K hK => ?_)
          rw [if_pos (by kernel_rfl)]
          have cb := (tk_store hT).1
          have fb := (tk_store hT).2
          have lb := tk_lt hT
          go_simp
          obtain ⟨hB2, hT2, hR2⟩ := st3 (a := .int .u64 s1) (b := .int .u64 s2) (c := .int .u64 s3) hB hT hR HN.out.2.2.2.1 (Nat.le_refl _)
          clear cb fb lb hB hT hR
          generalize (((v1.setCell ⟨qb, 0, none⟩ (.int .u64 s1)).setCell ⟨qb, 1, none⟩ (.int .u64 s2)).setCell ⟨qb, 2, none⟩ (.int .u64 s3)) = u2 at hB2 hT2 hR2 ⊢
          refine hK.out _ _ (fun hD => hB2) ?_
          clear hK K
          try simp only [Act.put, List.setIfInBounds_toArray, List.set_cons_zero, List.set_cons_succ]
          refine wpAnyD_one (i := 6) (o := { dst := none, op := Go.Op.store 31 (Go.Operand.tmp 7) (Go.Operand.tmp 88), type := 0, pos := "ref.go:61", after := #[{ on := 4, ground := Go.Ground.data }, { on := 5, ground := Go.Ground.chain }, { on := 0, ground := Go.Ground.phase }, { on := 1, ground := Go.Ground.phase }, { on := 2, ground := Go.Ground.phase }, { on := 3, ground := Go.Ground.phase }, { on := 4, ground := Go.Ground.phase }, { on := 5, ground := Go.Ground.phase }], guard := none }) (by kernel_rfl) rfl (fun K hK => ?_)
          rw [if_pos (by kernel_rfl)]
          have cb := (tk_store hR2).1
          have fb := (tk_store hR2).2
          have lb := tk_lt hR2
          go_simp
          obtain ⟨hB3, hR3, hT3⟩ := st2 (a := .int .u64 r.key) (b := .int .u64 r.val) hB2 hR2 hT2 (Ne.symm HN.out.2.2.2.1) HN.out.2.2.2.2.1
          clear cb fb lb hB2 hT2 hR2
          generalize ((u2.setCell ⟨sb, 0, none⟩ (.int .u64 r.key)).setCell ⟨sb, 1, none⟩ (.int .u64 r.val)) = u3 at hB3 hT3 hR3 ⊢
          refine hK.out _ _ (fun hD => hB3) ?_
          clear hK K
          try simp only [Act.put, List.setIfInBounds_toArray, List.set_cons_zero, List.set_cons_succ]
          refine wpAnyD_one (i := 7) (o := { dst := some 8, op := Go.Op.assign (Go.Operand.const (Go.Value.bool true)), type := 4, pos := "ref.go:61", after := #[{ on := 6, ground := Go.Ground.chain }, { on := 0, ground := Go.Ground.phase }, { on := 1, ground := Go.Ground.phase }, { on := 2, ground := Go.Ground.phase }, { on := 3, ground := Go.Ground.phase }, { on := 4, ground := Go.Ground.phase }, { on := 5, ground := Go.Ground.phase }, { on := 6, ground := Go.Ground.phase }], guard := none }) (by kernel_rfl) rfl (fun K hK => ?_)
          go_simp
          refine hK.out _ _ (fun hD => hB3) ?_
          clear hK K
          try simp only [Act.put, List.setIfInBounds_toArray, List.set_cons_zero, List.set_cons_succ]
          refine wpAnyD_done (by kernel_rfl) ?_ _
          have ct := (tk_store hT3).1
          have cr := (tk_store hR3).1
          have ct0 := ct 0
          have ct1 := ct 1
          have ct2 := ct 2
          have cr0 := cr 0
          have cr1 := cr 1
          simp at ct0 ct1 ct2 cr0 cr1
          go_wp2_with fail
          refine bodyPost_ret (v := tup (⟨s1, s2, s3⟩, r, true)) (by simp [results, Try.results14, go_sem, *]) rfl ⟨by rw [E1.out (by simp), E2.out (by simp), E3.out (by simp)], ?_⟩
          exact HG.out.trans (hB3.mono HN.out.2.2.2.2.2.1)
  rw [show ndo (Nd.mk k i o y bd cp cn cc st) l t r = (t, r, true) by simp [ndo, h2, h3, h5]]
  have e5 : (k == 5) = false := by simpa using h5
  clear h2 h3 h5 hv hl hr ht hy
  go_enter Try.func14, Try.ntmps14
  go_upto_region 16 with fail
  obtain ⟨W0, hW0⟩ : ∃ W0, W0 = ((((w.alloc (.cells (ncells ⟨k, i, o, y, bd, cp, cn, cc, st⟩ p n c) 28)).alloc (.cells #[.int .u64 t.a, .int .u64 t.b, .int .u64 t.c] 29)).alloc (.cells #[.int .u64 r.key, .int .u64 r.val] 31)).alloc (.cells #[.int .u64 0, .int .u64 0, .int .u64 0] 29)).alloc (.cells #[.int .u64 0, .int .u64 0] 31) := ⟨_, rfl⟩
  have hG : Gr w W0 := by rw [hW0]; exact (((((Gr.refl w).alloc _).alloc _).alloc _).alloc _).alloc _
  have h4 := five_new w (.cells (ncells ⟨k, i, o, y, bd, cp, cn, cc, st⟩ p n c) 28) (.cells #[.int .u64 t.a, .int .u64 t.b, .int .u64 t.c] 29) (.cells #[.int .u64 r.key, .int .u64 r.val] 31) (.cells #[.int .u64 0, .int .u64 0, .int .u64 0] 29) (.cells #[.int .u64 0, .int .u64 0] 31)
  simp only at h4
  rw [← hW0] at h4
  obtain ⟨b, hb⟩ : ∃ b, b = w.heap.size := ⟨_, rfl⟩
  obtain ⟨nb, hnb⟩ : ∃ nb, nb = b + 1 := ⟨_, rfl⟩
  obtain ⟨rb, hrb⟩ : ∃ rb, rb = nb + 1 := ⟨_, rfl⟩
  obtain ⟨qb, hqb⟩ : ∃ qb, qb = rb + 1 := ⟨_, rfl⟩
  obtain ⟨sb, hsb⟩ : ∃ sb, sb = qb + 1 := ⟨_, rfl⟩
  rw [← hW0, ← hb, ← hnb, ← hrb, ← hqb, ← hsb]
  rw [← hb, ← hnb, ← hrb, ← hqb, ← hsb] at h4
  obtain ⟨b0, b1, b2, b3, b4⟩ := h4
  have HN : Hid (nb < qb ∧ rb < qb ∧ b < qb ∧ qb ≠ sb ∧ qb ≤ sb ∧ w.heap.size ≤ qb ∧ qb ≤ W0.heap.size) := ⟨by omega, by omega, by omega, by omega, by omega, by omega, Nat.le_of_lt (tk_lt b3)⟩
  have HG := hid hG.below
  have HL : Hid (∀ W : World, Below qb W0 W → W.cell? ⟨nb, 0, none⟩ = some (.int .u64 t.a) ∧ W.cell? ⟨nb, 1, none⟩ = some (.int .u64 t.b) ∧ W.cell? ⟨nb, 2, none⟩ = some (.int .u64 t.c) ∧ W.cell? ⟨rb, 0, none⟩ = some (.int .u64 r.key) ∧ W.cell? ⟨rb, 1, none⟩ = some (.int .u64 r.val) ∧ nb < W.heap.size ∧ rb < W.heap.size ∧ b < W.heap.size ∧ W.cell? ⟨b, 3, none⟩ = some (.slice p n c) ∧ W.cell? ⟨b, 4, none⟩ = some (.int .u64 y.a) ∧ W.cell? ⟨b, 5, none⟩ = some (.int .u64 y.b) ∧ W.cell? ⟨b, 6, none⟩ = some (.int .u64 y.c) ∧ W.cell? ⟨b, 7, none⟩ = some (.int .u64 bd)) := fun W hW => by
    obtain ⟨x1, x2, x3, -, -, -, -⟩ := HN.out
    have h1 := (hW.block nb x1).trans b1
    have h2 := (hW.block rb x2).trans b2
    have h3 := (hW.block b x3).trans b0
    exact ⟨by simp [World.cell?, h1], by simp [World.cell?, h1], by simp [World.cell?, h1], by simp [World.cell?, h2], by simp [World.cell?, h2], tk_lt h1, tk_lt h2, tk_lt h3, by simp [World.cell?, h3], by simp [World.cell?, h3], by simp [World.cell?, h3], by simp [World.cell?, h3], by simp [World.cell?, h3]⟩
  have H3 : Hid (∀ W : World, Below W0.heap.size W0 W → W.heap[qb]? = some (.cells #[.int .u64 0, .int .u64 0, .int .u64 0] 29 (0, 0)) ∧ W.heap[sb]? = some (.cells #[.int .u64 0, .int .u64 0] 31 (0, 0))) := fun W hW => ⟨(hW.block qb (tk_lt b3)).trans b3, (hW.block sb (tk_lt b4)).trans b4⟩
  clear hW0 hb hnb hrb hqb hsb b0 b1 b2 b3 b4 hG
  have B1 := Below.refl W0.heap.size W0
  go_upto_region 16 with fail
  have B2 : Below W0.heap.size W0 W0.drew := B1.trans ((Gr.refl W0).drew.below.mono B1.size)
  have hB : Below qb W0 W0.drew := B2.mono HN.out.2.2.2.2.2.2
  obtain ⟨hT, hR⟩ := H3.out W0.drew B2
  clear B2
  refine wp_regionD (S := (fun W : World => Below qb W0 W)) (D := []) hmx ?_
  generalize W0.drew = v1 at hB hT hR ⊢
  refine' wpAnyD_take (i := 0) (oi := { dst := some 89, op := Go.Op.load 29 (Go.Operand.tmp 4), type := 29, pos := "ref.go:63", after := #[], guard := none }) (v := _) rfl (by kernel_rfl) (by kernel_rfl) (by kernel_rfl) (fun _ _ _ h => h) (by kernel_rfl) (Or.inl ⟨by rfl, ?hy22⟩) hB ?rest22
  case hy22 => (intro W hSw; obtain ⟨y0, y1, y2, y3, y4, y5, y6, y7, y8, y9, y10, y11, y12⟩ := HL.out W hSw; go_simp; try (with_reducible rfl))
  try simp only [Act.put, List.setIfInBounds_toArray, List.set_cons_zero, List.set_cons_succ]
  refine' wpAnyD_take (i := 1) (oi := { dst := some 90, op := Go.Op.load 31 (Go.Operand.tmp 5), type := 31, pos := "ref.go:63", after := #[{ on := 2, ground := Go.Ground.gcOnly Go.Departure.lateStores }], guard := none }) (v := _) rfl (by kernel_rfl) (by kernel_rfl) (by kernel_rfl) (fun _ _ _ h => h) (by kernel_rfl) (Or.inl ⟨by rfl, ?hy23⟩) hB ?rest23
  case hy23 => (intro W hSw; obtain ⟨y0, y1, y2, y3, y4, y5, y6, y7, y8, y9, y10, y11, y12⟩ := HL.out W hSw; go_simp; try (with_reducible rfl))
  try simp only [Act.put, List.setIfInBounds_toArray, List.set_cons_zero, List.set_cons_succ]
  refine wpAnyD_one (i := 2) (o := { dst := none, op := Go.Op.store 29 (Go.Operand.tmp 6) (Go.Operand.tmp 89), type := 0, pos := "ref.go:63", after := #[{ on := 0, ground := Go.Ground.data }, { on := 0, ground := Go.Ground.phase }, { on := 1, ground := Go.Ground.textOnly Go.Departure.lateStores }], guard := none }) (by kernel_rfl) rfl (fun K hK => ?_)
  rw [if_pos (by kernel_rfl)]
  have cb := (tk_store hT).1
  have fb := (tk_store hT).2
  have lb := tk_lt hT
  go_simp
  obtain ⟨hB2, hT2, hR2⟩ := st3 (a := .int .u64 t.a) (b := .int .u64 t.b) (c := .int .u64 t.c) hB hT hR HN.out.2.2.2.1 (Nat.le_refl _)
  clear cb fb lb hB hT hR
  generalize (((v1.setCell ⟨qb, 0, none⟩ (.int .u64 t.a)).setCell ⟨qb, 1, none⟩ (.int .u64 t.b)).setCell ⟨qb, 2, none⟩ (.int .u64 t.c)) = u2 at hB2 hT2 hR2 ⊢
  refine hK.out _ _ (fun hD => hB2) ?_
  clear hK K
  try simp only [Act.put, List.setIfInBounds_toArray, List.set_cons_zero, List.set_cons_succ]
  refine wpAnyD_one (i := 3) (o := { dst := none, op := Go.Op.store 31 (Go.Operand.tmp 7) (Go.Operand.tmp 90), type := 0, pos := "ref.go:63", after := #[{ on := 1, ground := Go.Ground.data }, { on := 2, ground := Go.Ground.chain }, { on := 0, ground := Go.Ground.phase }, { on := 1, ground := Go.Ground.phase }, { on := 2, ground := Go.Ground.phase }], guard := none }) (by kernel_rfl) rfl (fun K hK => ?_)
  rw [if_pos (by kernel_rfl)]
  have cb := (tk_store hR2).1
  have fb := (tk_store hR2).2
  have lb := tk_lt hR2
  go_simp
  obtain ⟨hB3, hR3, hT3⟩ := st2 (a := .int .u64 r.key) (b := .int .u64 r.val) hB2 hR2 hT2 (Ne.symm HN.out.2.2.2.1) HN.out.2.2.2.2.1
  clear cb fb lb hB2 hT2 hR2
  generalize ((u2.setCell ⟨sb, 0, none⟩ (.int .u64 r.key)).setCell ⟨sb, 1, none⟩ (.int .u64 r.val)) = u3 at hB3 hT3 hR3 ⊢
  refine hK.out _ _ (fun hD => hB3) ?_
  clear hK K
  try simp only [Act.put, List.setIfInBounds_toArray, List.set_cons_zero, List.set_cons_succ]
  refine wpAnyD_one (i := 4) (o := { dst := some 8, op := Go.Op.assign (Go.Operand.const (Go.Value.bool true)), type := 4, pos := "ref.go:63", after := #[{ on := 3, ground := Go.Ground.chain }, { on := 0, ground := Go.Ground.phase }, { on := 1, ground := Go.Ground.phase }, { on := 2, ground := Go.Ground.phase }, { on := 3, ground := Go.Ground.phase }], guard := none }) (by kernel_rfl) rfl (fun K hK => ?_)
  go_simp
  refine hK.out _ _ (fun hD => hB3) ?_
  clear hK K
  try simp only [Act.put, List.setIfInBounds_toArray, List.set_cons_zero, List.set_cons_succ]
  refine wpAnyD_done (by kernel_rfl) ?_ _
  have ct := (tk_store hT3).1
  have cr := (tk_store hR3).1
  have ct0 := ct 0
  have ct1 := ct 1
  have ct2 := ct 2
  have cr0 := cr 0
  have cr1 := cr 1
  simp at ct0 ct1 ct2 cr0 cr1
  go_wp2_with fail
  refine bodyPost_ret (v := tup (t, r, true)) (by simp [results, Try.results14, go_sem, *]) rfl ⟨rfl, ?_⟩
  exact HG.out.trans (hB3.mono HN.out.2.2.2.2.2.1)
end Go.Proofs.Ytpnjpdnjapfjlaa.Cd
