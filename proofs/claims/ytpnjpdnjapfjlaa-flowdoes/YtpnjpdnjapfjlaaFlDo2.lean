import Derived.Test.YtpnjpdnjapfjlaaFlDo
namespace Go.Proofs.Ytpnjpdnjapfjlaa.Cd
open Go.RowKit Go.Sort
attribute [local go_sem ↓] Go.wp_at_zero Go.wp_at_succ

theorem bl_then {q : Nat} {a b c : World} (h : Below q a b) (k : Below b.heap.size b c) (hq : q ≤ b.heap.size) : Below q a c := h.trans (k.mono hq)
theorem st3 {W0 u : World} {qb tb sb : Nat} {z0 z1 z2 a b c : Value} {cs : Array Value} {T R : TypeId} (hB : Below qb W0 u) (ht : u.heap[tb]? = some (.cells #[z0, z1, z2] T (0, 0))) (hs : u.heap[sb]? = some (.cells cs R (0, 0))) (hne : tb ≠ sb) (h1 : qb ≤ tb) :
    Below qb W0 (((u.setCell ⟨tb, 0, none⟩ a).setCell ⟨tb, 1, none⟩ b).setCell ⟨tb, 2, none⟩ c) ∧ (((u.setCell ⟨tb, 0, none⟩ a).setCell ⟨tb, 1, none⟩ b).setCell ⟨tb, 2, none⟩ c).heap[tb]? = some (.cells #[a, b, c] T (0, 0)) ∧ (((u.setCell ⟨tb, 0, none⟩ a).setCell ⟨tb, 1, none⟩ b).setCell ⟨tb, 2, none⟩ c).heap[sb]? = some (.cells cs R (0, 0)) := by
  obtain ⟨a1, k1⟩ := Df.tk_set ht 0 a
  obtain ⟨a2, k2⟩ := Df.tk_set a1 1 b
  obtain ⟨a3, k3⟩ := Df.tk_set a2 2 c
  have K : Kp (fun k => k = tb) u _ := (k1.trans k2 (fun _ _ h => h)).trans k3 (fun _ _ h => h)
  exact ⟨hB.trans (K.below (Nat.le_trans h1 (Nat.le_of_lt (tk_lt ht))) (fun i hi => by rw [hi]; exact h1)), a3, (K.block sb (tk_lt hs) (fun e => hne e.symm)).trans hs⟩
theorem st2 {W0 u : World} {qb tb sb : Nat} {z0 z1 a b : Value} {cs : Array Value} {T R : TypeId} (hB : Below qb W0 u) (ht : u.heap[tb]? = some (.cells #[z0, z1] T (0, 0))) (hs : u.heap[sb]? = some (.cells cs R (0, 0))) (hne : tb ≠ sb) (h1 : qb ≤ tb) :
    Below qb W0 ((u.setCell ⟨tb, 0, none⟩ a).setCell ⟨tb, 1, none⟩ b) ∧ ((u.setCell ⟨tb, 0, none⟩ a).setCell ⟨tb, 1, none⟩ b).heap[tb]? = some (.cells #[a, b] T (0, 0)) ∧ ((u.setCell ⟨tb, 0, none⟩ a).setCell ⟨tb, 1, none⟩ b).heap[sb]? = some (.cells cs R (0, 0)) := by
  obtain ⟨a1, k1⟩ := Df.tk_set ht 0 a
  obtain ⟨a2, k2⟩ := Df.tk_set a1 1 b
  have K : Kp (fun k => k = tb) u _ := k1.trans k2 (fun _ _ h => h)
  exact ⟨hB.trans (K.below (Nat.le_trans h1 (Nat.le_of_lt (tk_lt ht))) (fun i hi => by rw [hi]; exact h1)), a2, (K.block sb (tk_lt hs) (fun e => hne e.symm)).trans hs⟩
theorem four_new' (w : World) (o1 o2 o3 o4 : Obj) : ((((w.alloc o1).alloc o2).alloc o3).alloc o4).heap[w.heap.size]? = some o1 ∧ ((((w.alloc o1).alloc o2).alloc o3).alloc o4).heap[w.heap.size + 1]? = some o2 ∧ ((((w.alloc o1).alloc o2).alloc o3).alloc o4).heap[w.heap.size + 1 + 1]? = some o3 ∧ ((((w.alloc o1).alloc o2).alloc o3).alloc o4).heap[w.heap.size + 1 + 1 + 1]? = some o4 := four_new w o1 o2 o3 o4
set_option maxHeartbeats 4000000 in
set_option maxRecDepth 100000 in
theorem mapDo_any {b : Nat} {p : Option Addr} {n c : Nat} {l : List Op2} (t : T3) {r : Rc} (hr : Rok r) (hl : ∀ o ∈ l, Ook o) (w : World) (hb : w.heap[b]? = some (.cells #[.bool true, .slice p n c] 66 (0, 0))) (hv : Ls EO w (.slice p n c) l) : Calls Try.prog 52 #[.pointer (some ⟨b, 0, none⟩), t.v, rv r] w fun e w' => e = .returned (tup (t, mapL l r, true)) ∧ Below w.heap.size w w' := by
  have hmx : Try.prog.follows .mixedOrders = true := by kernel_rfl
  have hbl := tk_lt hb
  have HM : Hid (∀ W, Below w.heap.size w W → Calls Try.prog 53 #[.slice p n c, rv r] W fun e w' => e = .returned (rv (mapL l r)) ∧ Below W.heap.size W w') := fun W hW => map_any hr hl W (hv.below hW)
  clear hv hl hr
  obtain ⟨q, hq⟩ : ∃ q, q = mapL l r := ⟨_, rfl⟩
  rw [← hq] at HM ⊢
  clear hq
  go_enter Try.func52, Try.ntmps52
  go_upto_region 3 with fail
  obtain ⟨W0, hW0⟩ : ∃ W0, W0 = (((w.alloc (.cells #[.int .u64 t.a, .int .u64 t.b, .int .u64 t.c] 29)).alloc (.cells #[.int .u64 r.key, .int .u64 r.val] 31)).alloc (.cells #[.int .u64 0, .int .u64 0, .int .u64 0] 29)).alloc (.cells #[.int .u64 0, .int .u64 0] 31) := ⟨_, rfl⟩
  have hG : Gr w W0 := by rw [hW0]; exact ((((Gr.refl w).alloc _).alloc _).alloc _).alloc _
  have h4 := four_new' w (.cells #[.int .u64 t.a, .int .u64 t.b, .int .u64 t.c] 29) (.cells #[.int .u64 r.key, .int .u64 r.val] 31) (.cells #[.int .u64 0, .int .u64 0, .int .u64 0] 29) (.cells #[.int .u64 0, .int .u64 0] 31)
  rw [← hW0] at h4
  obtain ⟨nb, hnb⟩ : ∃ nb, nb = w.heap.size := ⟨_, rfl⟩
  obtain ⟨rb, hrb⟩ : ∃ rb, rb = nb + 1 := ⟨_, rfl⟩
  obtain ⟨qb, hqb⟩ : ∃ qb, qb = rb + 1 := ⟨_, rfl⟩
  obtain ⟨sb, hsb⟩ : ∃ sb, sb = qb + 1 := ⟨_, rfl⟩
  rw [← hW0, ← hnb, ← hrb, ← hqb, ← hsb]
  rw [← hnb, ← hrb, ← hqb, ← hsb] at h4
  obtain ⟨b1, b2, b3, b4⟩ := h4
  have HN : Hid (nb < qb ∧ rb < qb ∧ b < qb ∧ qb ≠ sb ∧ qb ≤ sb ∧ w.heap.size ≤ qb ∧ qb ≤ W0.heap.size) := ⟨by omega, by omega, by omega, by omega, by omega, by omega, Nat.le_of_lt (tk_lt b3)⟩
  have HBK : Hid (W0.heap[b]? = some _) := (hG.below.block b (by omega)).trans hb
  have HG := hid hG.below
  have HL : Hid (∀ W : World, Below qb W0 W → W.cell? ⟨nb, 0, none⟩ = some (.int .u64 t.a) ∧ W.cell? ⟨nb, 1, none⟩ = some (.int .u64 t.b) ∧ W.cell? ⟨nb, 2, none⟩ = some (.int .u64 t.c) ∧ W.cell? ⟨rb, 0, none⟩ = some (.int .u64 r.key) ∧ W.cell? ⟨rb, 1, none⟩ = some (.int .u64 r.val) ∧ nb < W.heap.size ∧ rb < W.heap.size ∧ b < W.heap.size ∧ W.cell? ⟨b, 1, none⟩ = some (.slice p n c)) := fun W hW => by
    obtain ⟨x1, x2, x3, -, -, -, -⟩ := HN.out
    have h1 := (hW.block nb x1).trans b1
    have h2 := (hW.block rb x2).trans b2
    have h3 := (hW.block b x3).trans HBK.out
    exact ⟨by simp [World.cell?, h1], by simp [World.cell?, h1], by simp [World.cell?, h1], by simp [World.cell?, h2], by simp [World.cell?, h2], tk_lt h1, tk_lt h2, tk_lt h3, by simp [World.cell?, h3]⟩
  have H3 : Hid (∀ W : World, Below W0.heap.size W0 W → W.heap[qb]? = some (.cells #[.int .u64 0, .int .u64 0, .int .u64 0] 29 (0, 0)) ∧ W.heap[sb]? = some (.cells #[.int .u64 0, .int .u64 0] 31 (0, 0))) := fun W hW => ⟨(hW.block qb (tk_lt b3)).trans b3, (hW.block sb (tk_lt b4)).trans b4⟩
  clear hW0 hnb hrb hqb hsb b1 b2 b3 b4 hG HBK hb
  have B0 : Below W0.heap.size W0 W0.drew := (Gr.refl W0).drew.below
  have hS0 : Below qb W0 W0.drew := B0.mono HN.out.2.2.2.2.2.2
  refine wp_regionD (S := (fun W : World => Below qb W0 W)) (D := []) hmx ?_
  refine' wpAnyD_take (i := 0) (oi := { dst := some 15, op := Go.Op.load 29 (Go.Operand.tmp 4), type := 29, pos := "kinds.go:35", after := #[], guard := none }) (v := _) rfl (by kernel_rfl) (by kernel_rfl) (by kernel_rfl) (fun _ _ _ h => h) (by kernel_rfl) (Or.inl ⟨by rfl, ?hy1⟩) hS0 ?rest1
  case hy1 => (intro W hSw; obtain ⟨y0, y1, y2, y3, y4, y5, y6, y7, y8⟩ := HL.out W hSw; go_simp; try (with_reducible rfl))
  try simp only [Act.put, List.setIfInBounds_toArray, List.set_cons_zero, List.set_cons_succ]
  refine' wpAnyD_take (i := 1) (oi := { dst := some 16, op := Go.Op.move (Go.Operand.tmp 0), type := 64, pos := "kinds.go:35", after := #[], guard := none }) (v := _) rfl (by kernel_rfl) (by kernel_rfl) (by kernel_rfl) (fun _ _ _ h => h) (by kernel_rfl) (Or.inl ⟨by rfl, ?hy2⟩) hS0 ?rest2
  case hy2 => (intro W hSw; go_simp; try (with_reducible rfl))
  try simp only [Act.put, List.setIfInBounds_toArray, List.set_cons_zero, List.set_cons_succ]
  refine' wpAnyD_take (i := 2) (oi := { dst := some 17, op := Go.Op.nilCheck (Go.Operand.tmp 16), type := 0, pos := "kinds.go:35", after := #[{ on := 1, ground := Go.Ground.data }], guard := none }) (v := _) rfl (by kernel_rfl) (by kernel_rfl) (by kernel_rfl) (fun _ _ _ h => h) (by kernel_rfl) (Or.inl ⟨by rfl, ?hy3⟩) hS0 ?rest3
  case hy3 => (intro W hSw; go_simp; try (with_reducible rfl))
  try simp only [Act.put, List.setIfInBounds_toArray, List.set_cons_zero, List.set_cons_succ]
  refine' wpAnyD_take (i := 3) (oi := { dst := some 18, op := Go.Op.fieldAddr 66 (Go.Operand.tmp 17) 1, type := 0, pos := "kinds.go:35", after := #[{ on := 2, ground := Go.Ground.data }], guard := none }) (v := _) rfl (by kernel_rfl) (by kernel_rfl) (by kernel_rfl) (fun _ _ _ h => h) (by kernel_rfl) (Or.inl ⟨by rfl, ?hy4⟩) hS0 ?rest4
  case hy4 => (intro W hSw; go_simp; try (with_reducible rfl))
  try simp only [Act.put, List.setIfInBounds_toArray, List.set_cons_zero, List.set_cons_succ]
  refine' wpAnyD_take (i := 4) (oi := { dst := some 19, op := Go.Op.load 22 (Go.Operand.tmp 18), type := 22, pos := "kinds.go:35", after := #[{ on := 3, ground := Go.Ground.data }], guard := none }) (v := _) rfl (by kernel_rfl) (by kernel_rfl) (by kernel_rfl) (fun _ _ _ h => h) (by kernel_rfl) (Or.inl ⟨by rfl, ?hy5⟩) hS0 ?rest5
  case hy5 => (intro W hSw; obtain ⟨y0, y1, y2, y3, y4, y5, y6, y7, y8⟩ := HL.out W hSw; go_simp; try (with_reducible rfl))
  try simp only [Act.put, List.setIfInBounds_toArray, List.set_cons_zero, List.set_cons_succ]
  refine' wpAnyD_take (i := 5) (oi := { dst := some 20, op := Go.Op.load 31 (Go.Operand.tmp 5), type := 31, pos := "kinds.go:35", after := #[], guard := none }) (v := _) rfl (by kernel_rfl) (by kernel_rfl) (by kernel_rfl) (fun _ _ _ h => h) (by kernel_rfl) (Or.inl ⟨by rfl, ?hy6⟩) hS0 ?rest6
  case hy6 => (intro W hSw; obtain ⟨y0, y1, y2, y3, y4, y5, y6, y7, y8⟩ := HL.out W hSw; go_simp; try (with_reducible rfl))
  try simp only [Act.put, List.setIfInBounds_toArray, List.set_cons_zero, List.set_cons_succ]
  refine wpAnyD_one (i := 6) (o := { dst := some 21, op := Go.Op.call { callee := Go.Callee.value (Go.Operand.func 53), args := #[Go.Operand.tmp 19, Go.Operand.tmp 20], argTypes := #[22, 31] }, type := 31, pos := "kinds.go:35", after := #[{ on := 4, ground := Go.Ground.data }, { on := 5, ground := Go.Ground.data }], guard := none }) (by kernel_rfl) rfl (fun K hK => ?_)
  go_simp
  refine (HM.out _ (HG.out.trans (B0.mono HG.out.size))).mono ?_
  rintro e u1 ⟨rfl, g1⟩
  have B1 : Below W0.heap.size W0 u1 := B0.trans (g1.mono B0.size)
  have hB : Below qb W0 u1 := B1.mono HN.out.2.2.2.2.2.2
  obtain ⟨hT, hR⟩ := H3.out u1 B1
  clear g1 B1
  go_wp2_with fail
  refine hK.out _ _ (fun hD => hB) ?_
  clear hK K
  try simp only [Act.put, List.setIfInBounds_toArray, List.set_cons_zero, List.set_cons_succ]
  refine wpAnyD_one (i := 7) (o := { dst := none, op := Go.Op.store 29 (Go.Operand.tmp 6) (Go.Operand.tmp 15), type := 0, pos := "kinds.go:35", after := #[{ on := 0, ground := Go.Ground.data }, { on := 6, ground := Go.Ground.chain }, { on := 0, ground := Go.Ground.phase }, { on := 1, ground := Go.Ground.textOnly Go.Departure.lateStores }, { on := 2, ground := Go.Ground.textOnly Go.Departure.lateStores }, { on := 3, ground := Go.Ground.textOnly Go.Departure.lateStores }, { on := 4, ground := Go.Ground.textOnly Go.Departure.lateStores }, { on := 5, ground := Go.Ground.textOnly Go.Departure.lateStores }, { on := 6, ground := Go.Ground.textOnly Go.Departure.lateStoresUnsure }], guard := none }) (by kernel_rfl) rfl (fun K hK => ?_)
  rw [if_pos (by kernel_rfl)]
  have cb := (tk_store hT).1
  have fb := (tk_store hT).2
  have lb := tk_lt hT
  go_simp
  obtain ⟨hB2, hT2, hR2⟩ := st3 (a := .int .u64 t.a) (b := .int .u64 t.b) (c := .int .u64 t.c) hB hT hR HN.out.2.2.2.1 (Nat.le_refl _)
  clear cb fb lb hB hT hR
  generalize (((u1.setCell ⟨qb, 0, none⟩ (.int .u64 t.a)).setCell ⟨qb, 1, none⟩ (.int .u64 t.b)).setCell ⟨qb, 2, none⟩ (.int .u64 t.c)) = u2 at hB2 hT2 hR2 ⊢
  refine hK.out _ _ (fun hD => hB2) ?_
  clear hK K
  try simp only [Act.put, List.setIfInBounds_toArray, List.set_cons_zero, List.set_cons_succ]
  refine wpAnyD_one (i := 8) (o := { dst := none, op := Go.Op.store 31 (Go.Operand.tmp 7) (Go.Operand.tmp 21), type := 0, pos := "kinds.go:35", after := #[{ on := 6, ground := Go.Ground.data }, { on := 7, ground := Go.Ground.chain }, { on := 0, ground := Go.Ground.phase }, { on := 1, ground := Go.Ground.phase }, { on := 2, ground := Go.Ground.phase }, { on := 3, ground := Go.Ground.phase }, { on := 4, ground := Go.Ground.phase }, { on := 5, ground := Go.Ground.phase }, { on := 6, ground := Go.Ground.phase }, { on := 7, ground := Go.Ground.phase }], guard := none }) (by kernel_rfl) rfl (fun K hK => ?_)
  rw [if_pos (by kernel_rfl)]
  have cb := (tk_store hR2).1
  have fb := (tk_store hR2).2
  have lb := tk_lt hR2
  go_simp
  obtain ⟨hB3, hR3, hT3⟩ := st2 (a := .int .u64 q.key) (b := .int .u64 q.val) hB2 hR2 hT2 (Ne.symm HN.out.2.2.2.1) HN.out.2.2.2.2.1
  clear cb fb lb hB2 hT2 hR2
  generalize ((u2.setCell ⟨sb, 0, none⟩ (.int .u64 q.key)).setCell ⟨sb, 1, none⟩ (.int .u64 q.val)) = u3 at hB3 hT3 hR3 ⊢
  refine hK.out _ _ (fun hD => hB3) ?_
  clear hK K
  try simp only [Act.put, List.setIfInBounds_toArray, List.set_cons_zero, List.set_cons_succ]
  refine wpAnyD_one (i := 9) (o := { dst := some 8, op := Go.Op.assign (Go.Operand.const (Go.Value.bool true)), type := 4, pos := "kinds.go:35", after := #[{ on := 8, ground := Go.Ground.chain }, { on := 0, ground := Go.Ground.phase }, { on := 1, ground := Go.Ground.phase }, { on := 2, ground := Go.Ground.phase }, { on := 3, ground := Go.Ground.phase }, { on := 4, ground := Go.Ground.phase }, { on := 5, ground := Go.Ground.phase }, { on := 6, ground := Go.Ground.phase }, { on := 7, ground := Go.Ground.phase }, { on := 8, ground := Go.Ground.phase }], guard := none }) (by kernel_rfl) rfl (fun K hK => ?_)
  go_simp
  refine hK.out _ _ (fun hD => hB3) ?_
  clear hK K
  try simp only [Act.put, List.setIfInBounds_toArray, List.set_cons_zero, List.set_cons_succ]
  refine wpAnyD_done (by kernel_rfl) ?_ _
  have ct := (tk_store hT3).1
  have cr := (tk_store hR3).1
  have ct0 := ct 0
  have ct1 := ct 1
  have ct2 := ct 2
  have cr0 := cr 0
  have cr1 := cr 1
  simp at ct0 ct1 ct2 cr0 cr1
  go_wp2_with fail
  refine bodyPost_ret (v := tup (t, q, true)) (by simp [results, Try.results52, go_sem, *]) rfl ⟨rfl, ?_⟩
  exact HG.out.trans (hB3.mono HN.out.2.2.2.2.2.1)
set_option maxHeartbeats 4000000 in
set_option maxRecDepth 100000 in
theorem filDo_any {b : Nat} {p : Option Addr} {n c : Nat} {l : List Op2} (t : T3) (r : Rc) (w : World) (hb : w.heap[b]? = some (.cells #[.bool true, .slice p n c] 68 (0, 0))) (hv : Ls EO w (.slice p n c) l) : Calls Try.prog 55 #[.pointer (some ⟨b, 0, none⟩), t.v, rv r] w fun e w' => e = .returned (tup (if passL l r then (t, r, true) else (⟨0, 0, 0⟩, ⟨0, 0⟩, false))) ∧ Below w.heap.size w w' := by
  have hmx : Try.prog.follows .mixedOrders = true := by kernel_rfl
  have hbl := tk_lt hb
  have HM : Hid (∀ W, Below w.heap.size w W → Calls Try.prog 56 #[.slice p n c, rv r] W fun e w' => e = .returned (.bool (passL l r)) ∧ Below W.heap.size W w') := fun W hW => pass_any r W (hv.below hW)
  clear hv
  obtain ⟨q, hq⟩ : ∃ q, q = passL l r := ⟨_, rfl⟩
  rw [← hq] at HM ⊢
  clear hq
  go_enter Try.func55, Try.ntmps55
  go_upto_region 1 with fail
  obtain ⟨W0, hW0⟩ : ∃ W0, W0 = (((w.alloc (.cells #[.int .u64 t.a, .int .u64 t.b, .int .u64 t.c] 29)).alloc (.cells #[.int .u64 r.key, .int .u64 r.val] 31)).alloc (.cells #[.int .u64 0, .int .u64 0, .int .u64 0] 29)).alloc (.cells #[.int .u64 0, .int .u64 0] 31) := ⟨_, rfl⟩
  have hG : Gr w W0 := by rw [hW0]; exact ((((Gr.refl w).alloc _).alloc _).alloc _).alloc _
  have h4 := four_new' w (.cells #[.int .u64 t.a, .int .u64 t.b, .int .u64 t.c] 29) (.cells #[.int .u64 r.key, .int .u64 r.val] 31) (.cells #[.int .u64 0, .int .u64 0, .int .u64 0] 29) (.cells #[.int .u64 0, .int .u64 0] 31)
  rw [← hW0] at h4
  obtain ⟨nb, hnb⟩ : ∃ nb, nb = w.heap.size := ⟨_, rfl⟩
  obtain ⟨rb, hrb⟩ : ∃ rb, rb = nb + 1 := ⟨_, rfl⟩
  obtain ⟨qb, hqb⟩ : ∃ qb, qb = rb + 1 := ⟨_, rfl⟩
  obtain ⟨sb, hsb⟩ : ∃ sb, sb = qb + 1 := ⟨_, rfl⟩
  rw [← hW0, ← hnb, ← hrb, ← hqb, ← hsb]
  rw [← hnb, ← hrb, ← hqb, ← hsb] at h4
  obtain ⟨b1, b2, b3, b4⟩ := h4
  have HN : Hid (nb < qb ∧ rb < qb ∧ b < qb ∧ qb ≠ sb ∧ qb ≤ sb ∧ w.heap.size ≤ qb ∧ qb ≤ W0.heap.size) := ⟨by omega, by omega, by omega, by omega, by omega, by omega, Nat.le_of_lt (tk_lt b3)⟩
  have HBK : Hid (W0.heap[b]? = some _) := (hG.below.block b (by omega)).trans hb
  have HG := hid hG.below
  have HL : Hid (∀ W : World, Below qb W0 W → W.cell? ⟨nb, 0, none⟩ = some (.int .u64 t.a) ∧ W.cell? ⟨nb, 1, none⟩ = some (.int .u64 t.b) ∧ W.cell? ⟨nb, 2, none⟩ = some (.int .u64 t.c) ∧ W.cell? ⟨rb, 0, none⟩ = some (.int .u64 r.key) ∧ W.cell? ⟨rb, 1, none⟩ = some (.int .u64 r.val) ∧ nb < W.heap.size ∧ rb < W.heap.size ∧ b < W.heap.size ∧ W.cell? ⟨b, 1, none⟩ = some (.slice p n c)) := fun W hW => by
    obtain ⟨x1, x2, x3, -, -, -, -⟩ := HN.out
    have h1 := (hW.block nb x1).trans b1
    have h2 := (hW.block rb x2).trans b2
    have h3 := (hW.block b x3).trans HBK.out
    exact ⟨by simp [World.cell?, h1], by simp [World.cell?, h1], by simp [World.cell?, h1], by simp [World.cell?, h2], by simp [World.cell?, h2], tk_lt h1, tk_lt h2, tk_lt h3, by simp [World.cell?, h3]⟩
  have H3 : Hid (∀ W : World, Below W0.heap.size W0 W → W.heap[qb]? = some (.cells #[.int .u64 0, .int .u64 0, .int .u64 0] 29 (0, 0)) ∧ W.heap[sb]? = some (.cells #[.int .u64 0, .int .u64 0] 31 (0, 0))) := fun W hW => ⟨(hW.block qb (tk_lt b3)).trans b3, (hW.block sb (tk_lt b4)).trans b4⟩
  clear hW0 hnb hrb hqb hsb b1 b2 b3 b4 hG HBK hb
  have B0 : Below W0.heap.size W0 W0.drew := (Gr.refl W0).drew.below
  have hS0 : Below qb W0 W0.drew := B0.mono HN.out.2.2.2.2.2.2
  refine wp_regionD (S := (fun W : World => Below qb W0 W)) (D := []) hmx ?_
  refine' wpAnyD_take (i := 0) (oi := { dst := some 9, op := Go.Op.move (Go.Operand.tmp 0), type := 67, pos := "kinds.go:40", after := #[], guard := none }) (v := _) rfl (by kernel_rfl) (by kernel_rfl) (by kernel_rfl) (fun _ _ _ h => h) (by kernel_rfl) (Or.inl ⟨by rfl, ?hy11⟩) hS0 ?rest11
  case hy11 => (intro W hSw; go_simp; try (with_reducible rfl))
  try simp only [Act.put, List.setIfInBounds_toArray, List.set_cons_zero, List.set_cons_succ]
  refine' wpAnyD_take (i := 1) (oi := { dst := some 10, op := Go.Op.binOp Go.BinOp.eql 67 (Go.Operand.tmp 9) (Go.Operand.const (Go.Value.pointer none)) 67, type := 4, pos := "kinds.go:40", after := #[{ on := 0, ground := Go.Ground.data }], guard := none }) (v := _) rfl (by kernel_rfl) (by kernel_rfl) (by kernel_rfl) (fun _ _ _ h => h) (by kernel_rfl) (Or.inl ⟨by rfl, ?hy12⟩) hS0 ?rest12
  case hy12 => (intro W hSw; go_simp; try (with_reducible rfl))
  try simp only [Act.put, List.setIfInBounds_toArray, List.set_cons_zero, List.set_cons_succ]
  refine' wpAnyD_take (i := 2) (oi := { dst := some 11, op := Go.Op.move (Go.Operand.tmp 10), type := 4, pos := "kinds.go:40", after := #[{ on := 1, ground := Go.Ground.data }], guard := none }) (v := _) rfl (by kernel_rfl) (by kernel_rfl) (by kernel_rfl) (fun _ _ _ h => h) (by kernel_rfl) (Or.inl ⟨by rfl, ?hy13⟩) hS0 ?rest13
  case hy13 => (intro W hSw; go_simp; try (with_reducible rfl))
  try simp only [Act.put, List.setIfInBounds_toArray, List.set_cons_zero, List.set_cons_succ]
  refine' wpAnyD_take (i := 3) (oi := { dst := some 12, op := Go.Op.move (Go.Operand.tmp 0), type := 67, pos := "kinds.go:40", after := #[{ on := 2, ground := Go.Ground.guard }], guard := some (2, false) }) (v := _) rfl (by kernel_rfl) (by kernel_rfl) (by kernel_rfl) (fun _ _ _ h => h) (by kernel_rfl) (Or.inl ⟨by rfl, ?hy14⟩) hS0 ?rest14
  case hy14 => (intro W hSw; go_simp; try (with_reducible rfl))
  try simp only [Act.put, List.setIfInBounds_toArray, List.set_cons_zero, List.set_cons_succ]
  refine' wpAnyD_take (i := 4) (oi := { dst := some 13, op := Go.Op.nilCheck (Go.Operand.tmp 12), type := 0, pos := "kinds.go:40", after := #[{ on := 3, ground := Go.Ground.data }, { on := 2, ground := Go.Ground.guard }], guard := some (2, false) }) (v := _) rfl (by kernel_rfl) (by kernel_rfl) (by kernel_rfl) (fun _ _ _ h => h) (by kernel_rfl) (Or.inl ⟨by rfl, ?hy15⟩) hS0 ?rest15
  case hy15 => (intro W hSw; go_simp; try (with_reducible rfl))
  try simp only [Act.put, List.setIfInBounds_toArray, List.set_cons_zero, List.set_cons_succ]
  refine' wpAnyD_take (i := 5) (oi := { dst := some 14, op := Go.Op.fieldAddr 68 (Go.Operand.tmp 13) 1, type := 0, pos := "kinds.go:40", after := #[{ on := 4, ground := Go.Ground.data }, { on := 2, ground := Go.Ground.guard }], guard := some (2, false) }) (v := _) rfl (by kernel_rfl) (by kernel_rfl) (by kernel_rfl) (fun _ _ _ h => h) (by kernel_rfl) (Or.inl ⟨by rfl, ?hy16⟩) hS0 ?rest16
  case hy16 => (intro W hSw; go_simp; try (with_reducible rfl))
  try simp only [Act.put, List.setIfInBounds_toArray, List.set_cons_zero, List.set_cons_succ]
  refine' wpAnyD_take (i := 6) (oi := { dst := some 15, op := Go.Op.load 22 (Go.Operand.tmp 14), type := 22, pos := "kinds.go:40", after := #[{ on := 5, ground := Go.Ground.data }, { on := 2, ground := Go.Ground.guard }], guard := some (2, false) }) (v := _) rfl (by kernel_rfl) (by kernel_rfl) (by kernel_rfl) (fun _ _ _ h => h) (by kernel_rfl) (Or.inl ⟨by rfl, ?hy17⟩) hS0 ?rest17
  case hy17 => (intro W hSw; obtain ⟨y0, y1, y2, y3, y4, y5, y6, y7, y8⟩ := HL.out W hSw; go_simp; try (with_reducible rfl))
  try simp only [Act.put, List.setIfInBounds_toArray, List.set_cons_zero, List.set_cons_succ]
  refine' wpAnyD_take (i := 7) (oi := { dst := some 16, op := Go.Op.load 31 (Go.Operand.tmp 5), type := 31, pos := "kinds.go:40", after := #[{ on := 2, ground := Go.Ground.guard }], guard := some (2, false) }) (v := _) rfl (by kernel_rfl) (by kernel_rfl) (by kernel_rfl) (fun _ _ _ h => h) (by kernel_rfl) (Or.inl ⟨by rfl, ?hy18⟩) hS0 ?rest18
  case hy18 => (intro W hSw; obtain ⟨y0, y1, y2, y3, y4, y5, y6, y7, y8⟩ := HL.out W hSw; go_simp; try (with_reducible rfl))
  try simp only [Act.put, List.setIfInBounds_toArray, List.set_cons_zero, List.set_cons_succ]
  refine wpAnyD_one (i := 8) (o := { dst := some 17, op := Go.Op.call { callee := Go.Callee.value (Go.Operand.func 56), args := #[Go.Operand.tmp 15, Go.Operand.tmp 16], argTypes := #[22, 31] }, type := 4, pos := "kinds.go:40", after := #[{ on := 6, ground := Go.Ground.data }, { on := 7, ground := Go.Ground.data }, { on := 2, ground := Go.Ground.chain }, { on := 2, ground := Go.Ground.guard }], guard := some (2, false) }) (by kernel_rfl) rfl (fun K hK => ?_)
  rw [if_pos (by kernel_rfl)]
  go_simp
  refine (HM.out _ (HG.out.trans (B0.mono HG.out.size))).mono ?_
  rintro e u1 ⟨rfl, g1⟩
  have B1 : Below W0.heap.size W0 u1 := B0.trans (g1.mono B0.size)
  have hB1 : Below qb W0 u1 := B1.mono HN.out.2.2.2.2.2.2
  clear g1
  go_wp2_with fail
  refine hK.out _ _ (fun hD => hB1) ?_
  clear hK K
  try simp only [Act.put, List.setIfInBounds_toArray, List.set_cons_zero, List.set_cons_succ]
  refine' wpAnyD_take (i := 9) (oi := { dst := some 18, op := Go.Op.unOp Go.UnOp.not 4 (Go.Operand.tmp 17), type := 4, pos := "kinds.go:40", after := #[{ on := 8, ground := Go.Ground.data }, { on := 2, ground := Go.Ground.guard }], guard := some (2, false) }) (v := _) rfl (by kernel_rfl) (by kernel_rfl) (by kernel_rfl) (fun _ _ _ h => h) (by kernel_rfl) (Or.inl ⟨by rfl, ?hy20⟩) hB1 ?rest20
  case hy20 => (intro W hSw; go_simp; try (with_reducible rfl))
  try simp only [Act.put, List.setIfInBounds_toArray, List.set_cons_zero, List.set_cons_succ]
  refine' wpAnyD_take (i := 10) (oi := { dst := some 19, op := Go.Op.pick (Go.Operand.tmp 11) (Go.Operand.const (Go.Value.bool true)) (Go.Operand.tmp 18), type := 4, pos := "kinds.go:40", after := #[{ on := 2, ground := Go.Ground.data }, { on := 9, ground := Go.Ground.data }], guard := none }) (v := _) rfl (by kernel_rfl) (by kernel_rfl) (by kernel_rfl) (fun _ _ _ h => h) (by kernel_rfl) (Or.inl ⟨by rfl, ?hy21⟩) hB1 ?rest21
  case hy21 => (intro W hSw; go_simp; try (with_reducible rfl))
  try simp only [Act.put, List.setIfInBounds_toArray, List.set_cons_zero, List.set_cons_succ]
  refine wpAnyD_done (by kernel_rfl) ?_ _
  cases q with
  | false =>
    go_wp2_with fail
    refine (letGo_any _).mono ?_
    rintro e u9 ⟨rfl, g9⟩
    have B9 : Below W0.heap.size W0 u9 := B1.trans (g9.mono B1.size)
    have hB : Below qb W0 u9 := B9.mono HN.out.2.2.2.2.2.2
    obtain ⟨hT, hR⟩ := H3.out u9 B9
    have ct := (tk_store hT).1
    have ft := (tk_store hT).2
    have lt := tk_lt hT
    have cr := (tk_store hR).1
    have fr := (tk_store hR).2
    have lr := tk_lt hR
    have hne := HN.out.2.2.2.1
    have hne2 := Ne.symm hne
    clear g9 B9
    go_wp2_with fail
    refine bodyPost_ret (v := tup (⟨0, 0, 0⟩, ⟨0, 0⟩, false)) (by simp [results, Try.results55, go_sem, *]) rfl ⟨rfl, ?_⟩
    obtain ⟨h1, h2, h3⟩ := st3 (a := .int .u64 0) (b := .int .u64 0) (c := .int .u64 0) hB hT hR hne (Nat.le_refl _)
    exact HG.out.trans ((st2 h1 h3 h2 hne2 HN.out.2.2.2.2.1).1.mono HN.out.2.2.2.2.2.1)
  | true =>
    go_upto_region 3 with fail
    have B2 : Below W0.heap.size W0 u1.drew := B1.trans ((Gr.refl u1).drew.below.mono B1.size)
    have hB : Below qb W0 u1.drew := B2.mono HN.out.2.2.2.2.2.2
    obtain ⟨hT, hR⟩ := H3.out u1.drew B2
    clear B2
    refine wp_regionD (S := (fun W : World => Below qb W0 W)) (D := []) hmx ?_
    generalize u1.drew = v1 at hB hT hR ⊢
    refine' wpAnyD_take (i := 0) (oi := { dst := some 24, op := Go.Op.load 29 (Go.Operand.tmp 4), type := 29, pos := "kinds.go:43", after := #[], guard := none }) (v := _) rfl (by kernel_rfl) (by kernel_rfl) (by kernel_rfl) (fun _ _ _ h => h) (by kernel_rfl) (Or.inl ⟨by rfl, ?hy22⟩) hB ?rest22
    case hy22 => (intro W hSw; obtain ⟨y0, y1, y2, y3, y4, y5, y6, y7, y8⟩ := HL.out W hSw; go_simp; try (with_reducible rfl))
    try simp only [Act.put, List.setIfInBounds_toArray, List.set_cons_zero, List.set_cons_succ]
    refine' wpAnyD_take (i := 1) (oi := { dst := some 25, op := Go.Op.load 31 (Go.Operand.tmp 5), type := 31, pos := "kinds.go:43", after := #[{ on := 2, ground := Go.Ground.gcOnly Go.Departure.lateStores }], guard := none }) (v := _) rfl (by kernel_rfl) (by kernel_rfl) (by kernel_rfl) (fun _ _ _ h => h) (by kernel_rfl) (Or.inl ⟨by rfl, ?hy23⟩) hB ?rest23
    case hy23 => (intro W hSw; obtain ⟨y0, y1, y2, y3, y4, y5, y6, y7, y8⟩ := HL.out W hSw; go_simp; try (with_reducible rfl))
    try simp only [Act.put, List.setIfInBounds_toArray, List.set_cons_zero, List.set_cons_succ]
    refine wpAnyD_one (i := 2) (o := { dst := none, op := Go.Op.store 29 (Go.Operand.tmp 6) (Go.Operand.tmp 24), type := 0, pos := "kinds.go:43", after := #[{ on := 0, ground := Go.Ground.data }, { on := 0, ground := Go.Ground.phase }, { on := 1, ground := Go.Ground.textOnly Go.Departure.lateStores }], guard := none }) (by kernel_rfl) rfl (fun K hK => ?_)
    rw [if_pos (by kernel_rfl)]
    have cb := (tk_store hT).1
    have fb := (tk_store hT).2
    have lb := tk_lt hT
    go_simp
    obtain ⟨hB2, hT2, hR2⟩ := st3 (a := .int .u64 t.a) (b := .int .u64 t.b) (c := .int .u64 t.c) hB hT hR HN.out.2.2.2.1 (Nat.le_refl _)
    clear cb fb lb hB hT hR
    generalize (((v1.setCell ⟨qb, 0, none⟩ (.int .u64 t.a)).setCell ⟨qb, 1, none⟩ (.int .u64 t.b)).setCell ⟨qb, 2, none⟩ (.int .u64 t.c)) = u2 at hB2 hT2 hR2 ⊢
    refine hK.out _ _ (fun hD => hB2) ?_
    clear hK K
    try simp only [Act.put, List.setIfInBounds_toArray, List.set_cons_zero, List.set_cons_succ]
    refine wpAnyD_one (i := 3) (o := { dst := none, op := Go.Op.store 31 (Go.Operand.tmp 7) (Go.Operand.tmp 25), type := 0, pos := "kinds.go:43", after := #[{ on := 1, ground := Go.Ground.data }, { on := 2, ground := Go.Ground.chain }, { on := 0, ground := Go.Ground.phase }, { on := 1, ground := Go.Ground.phase }, { on := 2, ground := Go.Ground.phase }], guard := none }) (by kernel_rfl) rfl (fun K hK => ?_)
    rw [if_pos (by kernel_rfl)]
    have cb := (tk_store hR2).1
    have fb := (tk_store hR2).2
    have lb := tk_lt hR2
    go_simp
    obtain ⟨hB3, hR3, hT3⟩ := st2 (a := .int .u64 r.key) (b := .int .u64 r.val) hB2 hR2 hT2 (Ne.symm HN.out.2.2.2.1) HN.out.2.2.2.2.1
    clear cb fb lb hB2 hT2 hR2
    generalize ((u2.setCell ⟨sb, 0, none⟩ (.int .u64 r.key)).setCell ⟨sb, 1, none⟩ (.int .u64 r.val)) = u3 at hB3 hT3 hR3 ⊢
    refine hK.out _ _ (fun hD => hB3) ?_
    clear hK K
    try simp only [Act.put, List.setIfInBounds_toArray, List.set_cons_zero, List.set_cons_succ]
    refine wpAnyD_one (i := 4) (o := { dst := some 8, op := Go.Op.assign (Go.Operand.const (Go.Value.bool true)), type := 4, pos := "kinds.go:43", after := #[{ on := 3, ground := Go.Ground.chain }, { on := 0, ground := Go.Ground.phase }, { on := 1, ground := Go.Ground.phase }, { on := 2, ground := Go.Ground.phase }, { on := 3, ground := Go.Ground.phase }], guard := none }) (by kernel_rfl) rfl (fun K hK => ?_)
    go_simp
    refine hK.out _ _ (fun hD => hB3) ?_
    clear hK K
    try simp only [Act.put, List.setIfInBounds_toArray, List.set_cons_zero, List.set_cons_succ]
    refine wpAnyD_done (by kernel_rfl) ?_ _
    have ct := (tk_store hT3).1
    have cr := (tk_store hR3).1
    have ct0 := ct 0
    have ct1 := ct 1
    have ct2 := ct 2
    have cr0 := cr 0
    have cr1 := cr 1
    simp at ct0 ct1 ct2 cr0 cr1
    go_wp2_with fail
    refine bodyPost_ret (v := tup (t, r, true)) (by simp [results, Try.results55, go_sem, *]) rfl ⟨rfl, ?_⟩
    exact HG.out.trans (hB3.mono HN.out.2.2.2.2.2.1)
set_option maxHeartbeats 4000000 in
set_option maxRecDepth 100000 in
theorem loopDo_any {b : Nat} {y m : T3} {t : T3} (r : Rc) (hy : y.ok) (ht : t.ok) (w : World) (hb : w.heap[b]? = some (.cells #[.bool true, .int .u64 y.a, .int .u64 y.b, .int .u64 y.c, .int .u64 m.a, .int .u64 m.b, .int .u64 m.c] 59 (0, 0))) : Calls Try.prog 47 #[.pointer (some ⟨b, 0, none⟩), t.v, rv r] w fun e w' => e = .returned (tup (if pok y.a y.b y.c t.a t.b t.c && tle ((y.a + t.a : Nat) : Int) ((y.b + t.b : Nat) : Int) ((y.c + t.c : Nat) : Int) (m.a : Nat) (m.b : Nat) (m.c : Nat) then (⟨t.a + y.a, t.b + y.b, t.c + y.c⟩, r, true) else (⟨0, 0, 0⟩, ⟨0, 0⟩, false))) ∧ Below w.heap.size w w' := by
  have hmx : Try.prog.follows .mixedOrders = true := by kernel_rfl
  have hbl := tk_lt hb
  have hth := fun W => On_any y.a y.b y.c t.a t.b t.c W hy.1 hy.2.1 hy.2.2 ht.1 ht.2.1 ht.2.2
  obtain ⟨ok, hok⟩ : ∃ ok, ok = pok y.a y.b y.c t.a t.b t.c := ⟨_, rfl⟩
  rw [← hok] at hth ⊢
  clear hok hy ht
  obtain ⟨cv, hcv⟩ : ∃ cv : T3, cv = ⟨pon ok (y.a + t.a), pon ok (y.b + t.b), pon ok (y.c + t.c)⟩ := ⟨_, rfl⟩
  have hca : pon ok (y.a + t.a) = cv.a := by rw [hcv]
  have hcb : pon ok (y.b + t.b) = cv.b := by rw [hcv]
  have hcc : pon ok (y.c + t.c) = cv.c := by rw [hcv]
  rw [hca, hcb, hcc] at hth
  have HCV := hid hcv
  clear hcv hca hcb hcc
  have hah := fun W => Ahead_any cv.a cv.b cv.c m.a m.b m.c W
  obtain ⟨q, hq⟩ : ∃ q, q = tle cv.a cv.b cv.c m.a m.b m.c := ⟨_, rfl⟩
  rw [← hq] at hah
  have HQ := hid hq
  have HAH := hid hah
  clear hq hah
  have HE : Hid ((if ok && tle ((y.a + t.a : Nat) : Int) ((y.b + t.b : Nat) : Int) ((y.c + t.c : Nat) : Int) (m.a : Nat) (m.b : Nat) (m.c : Nat) then ((⟨t.a + y.a, t.b + y.b, t.c + y.c⟩ : T3), r, true) else (⟨0, 0, 0⟩, ⟨0, 0⟩, false)) = if ok then (if q then (cv, r, true) else (⟨0, 0, 0⟩, ⟨0, 0⟩, false)) else (⟨0, 0, 0⟩, ⟨0, 0⟩, false)) := by
    show _ = _
    cases ok with
    | false => rfl
    | true =>
      rw [HQ.out, HCV.out]
      simp only [pon, if_true, Bool.true_and, Nat.add_comm t.a, Nat.add_comm t.b, Nat.add_comm t.c]
  rw [HE.out]
  clear HE HQ HCV
  go_enter Try.func47, Try.ntmps47
  go_upto_region 3 with fail
  obtain ⟨W0, hW0⟩ : ∃ W0, W0 = (((w.alloc (.cells #[.int .u64 t.a, .int .u64 t.b, .int .u64 t.c] 29)).alloc (.cells #[.int .u64 r.key, .int .u64 r.val] 31)).alloc (.cells #[.int .u64 0, .int .u64 0, .int .u64 0] 29)).alloc (.cells #[.int .u64 0, .int .u64 0] 31) := ⟨_, rfl⟩
  have hG : Gr w W0 := by rw [hW0]; exact ((((Gr.refl w).alloc _).alloc _).alloc _).alloc _
  have h4 := four_new' w (.cells #[.int .u64 t.a, .int .u64 t.b, .int .u64 t.c] 29) (.cells #[.int .u64 r.key, .int .u64 r.val] 31) (.cells #[.int .u64 0, .int .u64 0, .int .u64 0] 29) (.cells #[.int .u64 0, .int .u64 0] 31)
  rw [← hW0] at h4
  obtain ⟨nb, hnb⟩ : ∃ nb, nb = w.heap.size := ⟨_, rfl⟩
  obtain ⟨rb, hrb⟩ : ∃ rb, rb = nb + 1 := ⟨_, rfl⟩
  obtain ⟨qb, hqb⟩ : ∃ qb, qb = rb + 1 := ⟨_, rfl⟩
  obtain ⟨sb, hsb⟩ : ∃ sb, sb = qb + 1 := ⟨_, rfl⟩
  rw [← hW0, ← hnb, ← hrb, ← hqb, ← hsb]
  rw [← hnb, ← hrb, ← hqb, ← hsb] at h4
  obtain ⟨b1, b2, b3, b4⟩ := h4
  have HN : Hid (nb < qb ∧ rb < qb ∧ b < qb ∧ qb ≠ sb ∧ qb ≤ sb ∧ w.heap.size ≤ qb ∧ qb ≤ W0.heap.size) := ⟨by omega, by omega, by omega, by omega, by omega, by omega, Nat.le_of_lt (tk_lt b3)⟩
  have HBK : Hid (W0.heap[b]? = some _) := (hG.below.block b (by omega)).trans hb
  have HG := hid hG.below
  have HL : Hid (∀ W : World, Below qb W0 W → W.cell? ⟨nb, 0, none⟩ = some (.int .u64 t.a) ∧ W.cell? ⟨nb, 1, none⟩ = some (.int .u64 t.b) ∧ W.cell? ⟨nb, 2, none⟩ = some (.int .u64 t.c) ∧ W.cell? ⟨rb, 0, none⟩ = some (.int .u64 r.key) ∧ W.cell? ⟨rb, 1, none⟩ = some (.int .u64 r.val) ∧ nb < W.heap.size ∧ rb < W.heap.size ∧ b < W.heap.size ∧ W.cell? ⟨b, 1, none⟩ = some (.int .u64 y.a) ∧ W.cell? ⟨b, 2, none⟩ = some (.int .u64 y.b) ∧ W.cell? ⟨b, 3, none⟩ = some (.int .u64 y.c) ∧ W.cell? ⟨b, 4, none⟩ = some (.int .u64 m.a) ∧ W.cell? ⟨b, 5, none⟩ = some (.int .u64 m.b) ∧ W.cell? ⟨b, 6, none⟩ = some (.int .u64 m.c)) := fun W hW => by
    obtain ⟨x1, x2, x3, -, -, -, -⟩ := HN.out
    have h1 := (hW.block nb x1).trans b1
    have h2 := (hW.block rb x2).trans b2
    have h3 := (hW.block b x3).trans HBK.out
    exact ⟨by simp [World.cell?, h1], by simp [World.cell?, h1], by simp [World.cell?, h1], by simp [World.cell?, h2], by simp [World.cell?, h2], tk_lt h1, tk_lt h2, tk_lt h3, by simp [World.cell?, h3], by simp [World.cell?, h3], by simp [World.cell?, h3], by simp [World.cell?, h3], by simp [World.cell?, h3], by simp [World.cell?, h3]⟩
  have H3 : Hid (∀ W : World, Below W0.heap.size W0 W → W.heap[qb]? = some (.cells #[.int .u64 0, .int .u64 0, .int .u64 0] 29 (0, 0)) ∧ W.heap[sb]? = some (.cells #[.int .u64 0, .int .u64 0] 31 (0, 0))) := fun W hW => ⟨(hW.block qb (tk_lt b3)).trans b3, (hW.block sb (tk_lt b4)).trans b4⟩
  clear hW0 hnb hrb hqb hsb b1 b2 b3 b4 hG HBK hb
  have hB0 : Below W0.heap.size W0 W0.drew := (Gr.refl W0).drew.below
  have HSD : Hid (∀ W, Below W0.heap.size W0 W → Below qb W0 W) := fun W hW => hW.mono HN.out.2.2.2.2.2.2
  have hS0 := HSD.out _ hB0
  go_cut [9, 10] (fun s9 s10 wq => ∃ pb, s9 = .pointer (some ⟨pb, 0, none⟩) ∧ s10 = .bool ok ∧ Hid (Below W0.heap.size W0 wq ∧ wq.heap[pb]? = some (.cells #[.int .u64 cv.a, .int .u64 cv.b, .int .u64 cv.c] 29 (0, 0)) ∧ W0.heap.size ≤ pb))
  case first =>
    refine wp_regionD (S := (fun W : World => Below qb W0 W)) (D := []) hmx ?_
    refine' wpAnyD_take (i := 0) (oi := { dst := some 18, op := Go.Op.move (Go.Operand.tmp 0), type := 56, pos := "kinds.go:59", after := #[], guard := none }) (v := _) rfl (by kernel_rfl) (by kernel_rfl) (by kernel_rfl) (fun _ _ _ h => h) (by kernel_rfl) (Or.inl ⟨by rfl, ?hy2001⟩) hS0 ?rest2001
    case hy2001 => (intro W hSw; go_simp; try (with_reducible rfl))
    try simp only [Act.put, List.setIfInBounds_toArray, List.set_cons_zero, List.set_cons_succ]
    refine' wpAnyD_take (i := 1) (oi := { dst := some 19, op := Go.Op.nilCheck (Go.Operand.tmp 18), type := 0, pos := "kinds.go:59", after := #[{ on := 0, ground := Go.Ground.data }], guard := none }) (v := _) rfl (by kernel_rfl) (by kernel_rfl) (by kernel_rfl) (fun _ _ _ h => h) (by kernel_rfl) (Or.inl ⟨by rfl, ?hy2002⟩) hS0 ?rest2002
    case hy2002 => (intro W hSw; go_simp; try (with_reducible rfl))
    try simp only [Act.put, List.setIfInBounds_toArray, List.set_cons_zero, List.set_cons_succ]
    refine' wpAnyD_take (i := 2) (oi := { dst := some 20, op := Go.Op.fieldAddr 59 (Go.Operand.tmp 19) 1, type := 0, pos := "kinds.go:59", after := #[{ on := 1, ground := Go.Ground.data }], guard := none }) (v := _) rfl (by kernel_rfl) (by kernel_rfl) (by kernel_rfl) (fun _ _ _ h => h) (by kernel_rfl) (Or.inl ⟨by rfl, ?hy2003⟩) hS0 ?rest2003
    case hy2003 => (intro W hSw; go_simp; try (with_reducible rfl))
    try simp only [Act.put, List.setIfInBounds_toArray, List.set_cons_zero, List.set_cons_succ]
    refine' wpAnyD_take (i := 3) (oi := { dst := some 21, op := Go.Op.load 25 (Go.Operand.tmp 20), type := 25, pos := "kinds.go:59", after := #[{ on := 2, ground := Go.Ground.data }], guard := none }) (v := _) rfl (by kernel_rfl) (by kernel_rfl) (by kernel_rfl) (fun _ _ _ h => h) (by kernel_rfl) (Or.inl ⟨by rfl, ?hy2004⟩) hS0 ?rest2004
    case hy2004 => (intro W hSw; obtain ⟨y0, y1, y2, y3, y4, y5, y6, y7, y8, y9, y10, y11, y12, y13⟩ := HL.out W hSw; go_simp; try (with_reducible rfl))
    try simp only [Act.put, List.setIfInBounds_toArray, List.set_cons_zero, List.set_cons_succ]
    refine' wpAnyD_take (i := 4) (oi := { dst := some 22, op := Go.Op.load 29 (Go.Operand.tmp 4), type := 29, pos := "kinds.go:59", after := #[], guard := none }) (v := _) rfl (by kernel_rfl) (by kernel_rfl) (by kernel_rfl) (fun _ _ _ h => h) (by kernel_rfl) (Or.inl ⟨by rfl, ?hy2005⟩) hS0 ?rest2005
    case hy2005 => (intro W hSw; obtain ⟨y0, y1, y2, y3, y4, y5, y6, y7, y8, y9, y10, y11, y12, y13⟩ := HL.out W hSw; go_simp; try (with_reducible rfl))
    try simp only [Act.put, List.setIfInBounds_toArray, List.set_cons_zero, List.set_cons_succ]
    refine wpAnyD_two (i := 5) (j := 9) (oi := { dst := some 23, op := Go.Op.call { callee := Go.Callee.value (Go.Operand.func 48), args := #[Go.Operand.tmp 21, Go.Operand.tmp 22], argTypes := #[25, 29] }, type := 98, pos := "kinds.go:59", after := #[{ on := 3, ground := Go.Ground.data }, { on := 4, ground := Go.Ground.data }], guard := none }) (oj := { dst := some 9, op := Go.Op.alloc 29, type := 0, pos := "kinds.go:59", after := #[], guard := none }) (by kernel_rfl) rfl rfl (fun K hK => ?tA) (fun K hK => ?tB)
    case tA =>
      go_simp
      refine (hth _).mono ?_
      rintro r w14 ⟨rfl, g14⟩
      have hS14 : Below W0.heap.size W0 w14 := hB0.trans (g14.mono hB0.size)
      clear g14
      go_wp2_with fail
      refine hK.out _ _ (fun hD => HSD.out _ hS14) ?_
      clear hK K
      try simp only [Act.put, List.setIfInBounds_toArray, List.set_cons_zero, List.set_cons_succ]
      refine' wpAnyD_take (i := 6) (oi := { dst := some 17, op := Go.Op.move (Go.Operand.tmp 23), type := 98, pos := "kinds.go:59", after := #[{ on := 5, ground := Go.Ground.data }], guard := none }) (v := _) rfl (by kernel_rfl) (by kernel_rfl) (by kernel_rfl) (fun _ _ _ h => h) (by kernel_rfl) (Or.inl ⟨by rfl, ?hy2006⟩) (HSD.out _ hS14) ?rest2006
      case hy2006 => (intro W hSw; go_simp; try (with_reducible rfl))
      try simp only [Act.put, List.setIfInBounds_toArray, List.set_cons_zero, List.set_cons_succ]
      refine' wpAnyD_take (i := 7) (oi := { dst := some 24, op := Go.Op.extract (Go.Operand.tmp 17) 0, type := 29, pos := "kinds.go:59", after := #[{ on := 6, ground := Go.Ground.data }], guard := none }) (v := _) rfl (by kernel_rfl) (by kernel_rfl) (by kernel_rfl) (fun _ _ _ h => h) (by kernel_rfl) (Or.inl ⟨by rfl, ?hy2007⟩) (HSD.out _ hS14) ?rest2007
      case hy2007 => (intro W hSw; go_simp; try (with_reducible rfl))
      try simp only [Act.put, List.setIfInBounds_toArray, List.set_cons_zero, List.set_cons_succ]
      refine' wpAnyD_take (i := 8) (oi := { dst := some 25, op := Go.Op.extract (Go.Operand.tmp 17) 1, type := 4, pos := "kinds.go:59", after := #[{ on := 6, ground := Go.Ground.data }, { on := 10, ground := Go.Ground.gcOnly Go.Departure.lateStores }], guard := none }) (v := _) rfl (by kernel_rfl) (by kernel_rfl) (by kernel_rfl) (fun _ _ _ h => h) (by kernel_rfl) (Or.inl ⟨by rfl, ?hy2008⟩) (HSD.out _ hS14) ?rest2008
      case hy2008 => (intro W hSw; go_simp; try (with_reducible rfl))
      try simp only [Act.put, List.setIfInBounds_toArray, List.set_cons_zero, List.set_cons_succ]
      refine wpAnyD_one (i := 9) (o := { dst := some 9, op := Go.Op.alloc 29, type := 0, pos := "kinds.go:59", after := #[], guard := none }) (by kernel_rfl) rfl (fun K hK => ?_)
      go_simp
      have hS15 : Below W0.heap.size W0 (w14.alloc (.cells #[.int .u64 0, .int .u64 0, .int .u64 0] 29)) := hS14.trans (((Gr.refl w14).alloc _).below.mono hS14.size)
      refine hK.out _ _ (fun hD => HSD.out _ hS15) ?_
      clear hK K
      try simp only [Act.put, List.setIfInBounds_toArray, List.set_cons_zero, List.set_cons_succ]
      refine wpAnyD_one (i := 10) (o := { dst := none, op := Go.Op.store 29 (Go.Operand.tmp 9) (Go.Operand.tmp 24), type := 0, pos := "kinds.go:59", after := #[{ on := 9, ground := Go.Ground.data }, { on := 7, ground := Go.Ground.data }, { on := 5, ground := Go.Ground.chain }, { on := 0, ground := Go.Ground.phase }, { on := 1, ground := Go.Ground.phase }, { on := 2, ground := Go.Ground.phase }, { on := 3, ground := Go.Ground.phase }, { on := 4, ground := Go.Ground.phase }, { on := 5, ground := Go.Ground.phase }, { on := 6, ground := Go.Ground.phase }, { on := 7, ground := Go.Ground.phase }, { on := 8, ground := Go.Ground.textOnly Go.Departure.lateStores }, { on := 9, ground := Go.Ground.phase }], guard := none }) (by kernel_rfl) rfl (fun K hK => ?_)
      go_simp
      have hS16 : Below W0.heap.size W0 (w14.alloc (.cells #[.int .u64 cv.a, .int .u64 cv.b, .int .u64 cv.c] 29)) := hS14.trans (((Gr.refl w14).alloc _).below.mono hS14.size)
      refine hK.out _ _ (fun hD => HSD.out _ hS16) ?_
      clear hK K
      try simp only [Act.put, List.setIfInBounds_toArray, List.set_cons_zero, List.set_cons_succ]
      refine wpAnyD_one (i := 11) (o := { dst := some 10, op := Go.Op.assign (Go.Operand.tmp 25), type := 4, pos := "kinds.go:59", after := #[{ on := 8, ground := Go.Ground.data }, { on := 10, ground := Go.Ground.chain }, { on := 0, ground := Go.Ground.phase }, { on := 1, ground := Go.Ground.phase }, { on := 2, ground := Go.Ground.phase }, { on := 3, ground := Go.Ground.phase }, { on := 4, ground := Go.Ground.phase }, { on := 5, ground := Go.Ground.phase }, { on := 6, ground := Go.Ground.phase }, { on := 7, ground := Go.Ground.phase }, { on := 8, ground := Go.Ground.phase }, { on := 9, ground := Go.Ground.phase }, { on := 10, ground := Go.Ground.phase }], guard := none }) (by kernel_rfl) rfl (fun K hK => ?_)
      go_simp
      refine hK.out _ _ (fun hD => HSD.out _ hS16) ?_
      clear hK K
      try simp only [Act.put, List.setIfInBounds_toArray, List.set_cons_zero, List.set_cons_succ]
      refine wpAnyD_done (by kernel_rfl) ?_ _
      go_wp2_with fail
      go_meet
      exact ⟨_, rfl, rfl, hS14.trans (((Gr.refl w14).alloc _).below.mono hS14.size), heap_new' _ _, hS14.size⟩
    case tB =>
      go_simp
      have hSa : Below W0.heap.size W0 (W0.drew.alloc (.cells #[.int .u64 0, .int .u64 0, .int .u64 0] 29)) := hB0.trans (((Gr.refl W0.drew).alloc _).below.mono hB0.size)
      have hna := heap_new' W0.drew (.cells #[.int .u64 0, .int .u64 0, .int .u64 0] 29)
      refine hK.out _ _ (fun hD => HSD.out _ hSa) ?_
      clear hK K
      try simp only [Act.put, List.setIfInBounds_toArray, List.set_cons_zero, List.set_cons_succ]
      refine wpAnyD_one (i := 5) (o := { dst := some 23, op := Go.Op.call { callee := Go.Callee.value (Go.Operand.func 48), args := #[Go.Operand.tmp 21, Go.Operand.tmp 22], argTypes := #[25, 29] }, type := 98, pos := "kinds.go:59", after := #[{ on := 3, ground := Go.Ground.data }, { on := 4, ground := Go.Ground.data }], guard := none }) (by kernel_rfl) rfl (fun K hK => ?_)
      go_simp
      refine (hth _).mono ?_
      rintro r w14 ⟨rfl, g14⟩
      have hS14 : Below W0.heap.size W0 w14 := hSa.trans (g14.mono hSa.size)
      have hbk : w14.heap[W0.heap.size]? = some (.cells #[.int .u64 0, .int .u64 0, .int .u64 0] 29 (0, 0)) := (g14.block _ (tk_lt hna)).trans hna
      clear g14 hna hSa
      go_wp2_with fail
      refine hK.out _ _ (fun hD => HSD.out _ hS14) ?_
      clear hK K
      try simp only [Act.put, List.setIfInBounds_toArray, List.set_cons_zero, List.set_cons_succ]
      refine' wpAnyD_take (i := 6) (oi := { dst := some 17, op := Go.Op.move (Go.Operand.tmp 23), type := 98, pos := "kinds.go:59", after := #[{ on := 5, ground := Go.Ground.data }], guard := none }) (v := _) rfl (by kernel_rfl) (by kernel_rfl) (by kernel_rfl) (fun _ _ _ h => h) (by kernel_rfl) (Or.inl ⟨by rfl, ?hy2009⟩) (HSD.out _ hS14) ?rest2009
      case hy2009 => (intro W hSw; go_simp; try (with_reducible rfl))
      try simp only [Act.put, List.setIfInBounds_toArray, List.set_cons_zero, List.set_cons_succ]
      refine' wpAnyD_take (i := 7) (oi := { dst := some 24, op := Go.Op.extract (Go.Operand.tmp 17) 0, type := 29, pos := "kinds.go:59", after := #[{ on := 6, ground := Go.Ground.data }], guard := none }) (v := _) rfl (by kernel_rfl) (by kernel_rfl) (by kernel_rfl) (fun _ _ _ h => h) (by kernel_rfl) (Or.inl ⟨by rfl, ?hy2010⟩) (HSD.out _ hS14) ?rest2010
      case hy2010 => (intro W hSw; go_simp; try (with_reducible rfl))
      try simp only [Act.put, List.setIfInBounds_toArray, List.set_cons_zero, List.set_cons_succ]
      refine' wpAnyD_take (i := 8) (oi := { dst := some 25, op := Go.Op.extract (Go.Operand.tmp 17) 1, type := 4, pos := "kinds.go:59", after := #[{ on := 6, ground := Go.Ground.data }, { on := 10, ground := Go.Ground.gcOnly Go.Departure.lateStores }], guard := none }) (v := _) rfl (by kernel_rfl) (by kernel_rfl) (by kernel_rfl) (fun _ _ _ h => h) (by kernel_rfl) (Or.inl ⟨by rfl, ?hy2011⟩) (HSD.out _ hS14) ?rest2011
      case hy2011 => (intro W hSw; go_simp; try (with_reducible rfl))
      try simp only [Act.put, List.setIfInBounds_toArray, List.set_cons_zero, List.set_cons_succ]
      have cb := (tk_store hbk).1
      have fb := (tk_store hbk).2
      have lb := tk_lt hbk
      refine wpAnyD_one (i := 10) (o := { dst := none, op := Go.Op.store 29 (Go.Operand.tmp 9) (Go.Operand.tmp 24), type := 0, pos := "kinds.go:59", after := #[{ on := 9, ground := Go.Ground.data }, { on := 7, ground := Go.Ground.data }, { on := 5, ground := Go.Ground.chain }, { on := 0, ground := Go.Ground.phase }, { on := 1, ground := Go.Ground.phase }, { on := 2, ground := Go.Ground.phase }, { on := 3, ground := Go.Ground.phase }, { on := 4, ground := Go.Ground.phase }, { on := 5, ground := Go.Ground.phase }, { on := 6, ground := Go.Ground.phase }, { on := 7, ground := Go.Ground.phase }, { on := 8, ground := Go.Ground.textOnly Go.Departure.lateStores }, { on := 9, ground := Go.Ground.phase }], guard := none }) (by kernel_rfl) rfl (fun K hK => ?_)
      go_simp
      obtain ⟨b0, k0⟩ := Df.tk_set hbk 0 (.int .u64 cv.a)
      obtain ⟨b1, k1⟩ := Df.tk_set b0 1 (.int .u64 cv.b)
      obtain ⟨b2, k2⟩ := Df.tk_set b1 2 (.int .u64 cv.c)
      have kk : Below W0.heap.size W0 (((w14.setCell ⟨W0.heap.size, 0, none⟩ (.int .u64 cv.a)).setCell ⟨W0.heap.size, 1, none⟩ (.int .u64 cv.b)).setCell ⟨W0.heap.size, 2, none⟩ (.int .u64 cv.c)) := hS14.trans (((k0.trans k1 (fun _ _ h => h)).trans k2 (fun _ _ h => h)).below hS14.size (fun k h => by rw [h]; exact Nat.le_refl _))
      clear k0 k1 k2 b0 b1 cb fb lb hbk
      generalize (((w14.setCell ⟨W0.heap.size, 0, none⟩ (.int .u64 cv.a)).setCell ⟨W0.heap.size, 1, none⟩ (.int .u64 cv.b)).setCell ⟨W0.heap.size, 2, none⟩ (.int .u64 cv.c)) = w16 at kk b2 ⊢
      refine hK.out _ _ (fun hD => HSD.out _ kk) ?_
      clear hK K
      try simp only [Act.put, List.setIfInBounds_toArray, List.set_cons_zero, List.set_cons_succ]
      refine wpAnyD_one (i := 11) (o := { dst := some 10, op := Go.Op.assign (Go.Operand.tmp 25), type := 4, pos := "kinds.go:59", after := #[{ on := 8, ground := Go.Ground.data }, { on := 10, ground := Go.Ground.chain }, { on := 0, ground := Go.Ground.phase }, { on := 1, ground := Go.Ground.phase }, { on := 2, ground := Go.Ground.phase }, { on := 3, ground := Go.Ground.phase }, { on := 4, ground := Go.Ground.phase }, { on := 5, ground := Go.Ground.phase }, { on := 6, ground := Go.Ground.phase }, { on := 7, ground := Go.Ground.phase }, { on := 8, ground := Go.Ground.phase }, { on := 9, ground := Go.Ground.phase }, { on := 10, ground := Go.Ground.phase }], guard := none }) (by kernel_rfl) rfl (fun K hK => ?_)
      go_simp
      refine hK.out _ _ (fun hD => HSD.out _ kk) ?_
      clear hK K
      try simp only [Act.put, List.setIfInBounds_toArray, List.set_cons_zero, List.set_cons_succ]
      refine wpAnyD_done (by kernel_rfl) ?_ _
      go_wp2_with fail
      go_meet
      exact ⟨_, rfl, rfl, kk, b2, Nat.le_refl _⟩
  case rest =>
    obtain ⟨pb, rfl, rfl, HC⟩ := hcut
    clear hth hS0 hB0
    have HL2 : Hid (∀ W : World, Below wc.heap.size wc W → Below W0.heap.size W0 W ∧ W.heap[pb]? = some (.cells #[.int .u64 cv.a, .int .u64 cv.b, .int .u64 cv.c] 29 (0, 0))) := fun W hW => ⟨HC.out.1.trans (hW.mono HC.out.1.size), (hW.block pb (tk_lt HC.out.2.1)).trans HC.out.2.1⟩
    have hS0 : Below wc.heap.size wc wc.drew := (Gr.refl wc).drew.below
    cases ok with
    | false =>
      go_upto_region 4 with fail
      refine wp_regionD (S := (fun W : World => Below wc.heap.size wc W)) (D := []) hmx ?_
      refine' wpAnyD_take (i := 0) (oi := { dst := some 26, op := Go.Op.move (Go.Operand.tmp 10), type := 4, pos := "kinds.go:60", after := #[], guard := none }) (v := _) rfl (by kernel_rfl) (by kernel_rfl) (by kernel_rfl) (fun _ _ _ h => h) (by kernel_rfl) (Or.inl ⟨by rfl, ?hy27⟩) hS0 ?rest27
      case hy27 => (intro W hSw; go_simp; try (with_reducible rfl))
      try simp only [Act.put, List.setIfInBounds_toArray, List.set_cons_zero, List.set_cons_succ]
      refine' wpAnyD_take (i := 1) (oi := { dst := some 27, op := Go.Op.unOp Go.UnOp.not 4 (Go.Operand.tmp 26), type := 4, pos := "kinds.go:60", after := #[{ on := 0, ground := Go.Ground.data }], guard := none }) (v := _) rfl (by kernel_rfl) (by kernel_rfl) (by kernel_rfl) (fun _ _ _ h => h) (by kernel_rfl) (Or.inl ⟨by rfl, ?hy28⟩) hS0 ?rest28
      case hy28 => (intro W hSw; go_simp; try (with_reducible rfl))
      try simp only [Act.put, List.setIfInBounds_toArray, List.set_cons_zero, List.set_cons_succ]
      refine' wpAnyD_take (i := 2) (oi := { dst := some 28, op := Go.Op.move (Go.Operand.tmp 27), type := 4, pos := "kinds.go:60", after := #[{ on := 1, ground := Go.Ground.data }], guard := none }) (v := _) rfl (by kernel_rfl) (by kernel_rfl) (by kernel_rfl) (fun _ _ _ h => h) (by kernel_rfl) (Or.inl ⟨by rfl, ?hy29⟩) hS0 ?rest29
      case hy29 => (intro W hSw; go_simp; try (with_reducible rfl))
      try simp only [Act.put, List.setIfInBounds_toArray, List.set_cons_zero, List.set_cons_succ]
      refine' wpAnyD_take (i := 3) (oi := { dst := some 29, op := Go.Op.load 29 (Go.Operand.tmp 9), type := 29, pos := "kinds.go:60", after := #[{ on := 2, ground := Go.Ground.guard }], guard := some (2, false) }) (v := undef) rfl (by kernel_rfl) (by kernel_rfl) (by kernel_rfl) (fun _ _ _ h => h) (by kernel_rfl) (Or.inr ⟨by rfl, rfl⟩) hS0 ?rest30
      try simp only [Act.put, List.setIfInBounds_toArray, List.set_cons_zero, List.set_cons_succ]
      refine' wpAnyD_take (i := 4) (oi := { dst := some 30, op := Go.Op.move (Go.Operand.tmp 0), type := 56, pos := "kinds.go:60", after := #[{ on := 2, ground := Go.Ground.guard }], guard := some (2, false) }) (v := undef) rfl (by kernel_rfl) (by kernel_rfl) (by kernel_rfl) (fun _ _ _ h => h) (by kernel_rfl) (Or.inr ⟨by rfl, rfl⟩) hS0 ?rest31
      try simp only [Act.put, List.setIfInBounds_toArray, List.set_cons_zero, List.set_cons_succ]
      refine' wpAnyD_take (i := 5) (oi := { dst := some 31, op := Go.Op.nilCheck (Go.Operand.tmp 30), type := 0, pos := "kinds.go:60", after := #[{ on := 4, ground := Go.Ground.data }, { on := 2, ground := Go.Ground.guard }], guard := some (2, false) }) (v := undef) rfl (by kernel_rfl) (by kernel_rfl) (by kernel_rfl) (fun _ _ _ h => h) (by kernel_rfl) (Or.inr ⟨by rfl, rfl⟩) hS0 ?rest32
      try simp only [Act.put, List.setIfInBounds_toArray, List.set_cons_zero, List.set_cons_succ]
      refine' wpAnyD_take (i := 6) (oi := { dst := some 32, op := Go.Op.fieldAddr 59 (Go.Operand.tmp 31) 2, type := 0, pos := "kinds.go:60", after := #[{ on := 5, ground := Go.Ground.data }, { on := 2, ground := Go.Ground.guard }], guard := some (2, false) }) (v := undef) rfl (by kernel_rfl) (by kernel_rfl) (by kernel_rfl) (fun _ _ _ h => h) (by kernel_rfl) (Or.inr ⟨by rfl, rfl⟩) hS0 ?rest33
      try simp only [Act.put, List.setIfInBounds_toArray, List.set_cons_zero, List.set_cons_succ]
      refine' wpAnyD_take (i := 7) (oi := { dst := some 33, op := Go.Op.load 29 (Go.Operand.tmp 32), type := 29, pos := "kinds.go:60", after := #[{ on := 6, ground := Go.Ground.data }, { on := 2, ground := Go.Ground.guard }], guard := some (2, false) }) (v := undef) rfl (by kernel_rfl) (by kernel_rfl) (by kernel_rfl) (fun _ _ _ h => h) (by kernel_rfl) (Or.inr ⟨by rfl, rfl⟩) hS0 ?rest34
      try simp only [Act.put, List.setIfInBounds_toArray, List.set_cons_zero, List.set_cons_succ]
      refine wpAnyD_one (i := 8) (o := { dst := some 34, op := Go.Op.call { callee := Go.Callee.value (Go.Operand.func 49), args := #[Go.Operand.tmp 29, Go.Operand.tmp 33], argTypes := #[29, 29] }, type := 4, pos := "kinds.go:60", after := #[{ on := 3, ground := Go.Ground.data }, { on := 7, ground := Go.Ground.data }, { on := 2, ground := Go.Ground.chain }, { on := 2, ground := Go.Ground.guard }], guard := some (2, false) }) (by kernel_rfl) rfl (fun K hK => ?_)
      rw [if_neg (Bool.eq_false_iff.1 (by kernel_rfl))]
      refine hK.out _ _ (fun hD => hS0) ?_
      clear hK K
      try simp only [Act.put, List.setIfInBounds_toArray, List.set_cons_zero, List.set_cons_succ]
      refine' wpAnyD_take (i := 9) (oi := { dst := some 35, op := Go.Op.unOp Go.UnOp.not 4 (Go.Operand.tmp 34), type := 4, pos := "kinds.go:60", after := #[{ on := 8, ground := Go.Ground.data }, { on := 2, ground := Go.Ground.guard }], guard := some (2, false) }) (v := undef) rfl (by kernel_rfl) (by kernel_rfl) (by kernel_rfl) (fun _ _ _ h => h) (by kernel_rfl) (Or.inr ⟨by rfl, rfl⟩) hS0 ?rest36
      try simp only [Act.put, List.setIfInBounds_toArray, List.set_cons_zero, List.set_cons_succ]
      refine' wpAnyD_take (i := 10) (oi := { dst := some 36, op := Go.Op.pick (Go.Operand.tmp 28) (Go.Operand.const (Go.Value.bool true)) (Go.Operand.tmp 35), type := 4, pos := "kinds.go:60", after := #[{ on := 2, ground := Go.Ground.data }, { on := 9, ground := Go.Ground.data }], guard := none }) (v := _) rfl (by kernel_rfl) (by kernel_rfl) (by kernel_rfl) (fun _ _ _ h => h) (by kernel_rfl) (Or.inl ⟨by rfl, ?hy37⟩) hS0 ?rest37
      case hy37 => (intro W hSw; go_simp; try (with_reducible rfl))
      try simp only [Act.put, List.setIfInBounds_toArray, List.set_cons_zero, List.set_cons_succ]
      refine wpAnyD_done (by kernel_rfl) ?_ _
      have B1 : Below W0.heap.size W0 wc.drew := (HL2.out _ hS0).1
      go_wp2_with fail
      refine (letGo_any _).mono ?_
      rintro e u9 ⟨rfl, g9⟩
      have B9 : Below W0.heap.size W0 u9 := B1.trans (g9.mono B1.size)
      have hB : Below qb W0 u9 := B9.mono HN.out.2.2.2.2.2.2
      obtain ⟨hT, hR⟩ := H3.out u9 B9
      have ct := (tk_store hT).1
      have ft := (tk_store hT).2
      have lt := tk_lt hT
      have cr := (tk_store hR).1
      have fr := (tk_store hR).2
      have lr := tk_lt hR
      have hne := HN.out.2.2.2.1
      have hne2 := Ne.symm hne
      clear g9 B9
      go_wp2_with fail
      refine bodyPost_ret (v := tup (⟨0, 0, 0⟩, ⟨0, 0⟩, false)) (by simp [results, Try.results47, go_sem, *]) rfl ⟨rfl, ?_⟩
      obtain ⟨h1, h2, h3⟩ := st3 (a := .int .u64 0) (b := .int .u64 0) (c := .int .u64 0) hB hT hR hne (Nat.le_refl _)
      exact HG.out.trans ((st2 h1 h3 h2 hne2 HN.out.2.2.2.2.1).1.mono HN.out.2.2.2.2.2.1)
    | true =>
      go_upto_region 4 with fail
      refine wp_regionD (S := (fun W : World => Below wc.heap.size wc W)) (D := []) hmx ?_
      refine' wpAnyD_take (i := 0) (oi := { dst := some 26, op := Go.Op.move (Go.Operand.tmp 10), type := 4, pos := "kinds.go:60", after := #[], guard := none }) (v := _) rfl (by kernel_rfl) (by kernel_rfl) (by kernel_rfl) (fun _ _ _ h => h) (by kernel_rfl) (Or.inl ⟨by rfl, ?hy38⟩) hS0 ?rest38
      case hy38 => (intro W hSw; go_simp; try (with_reducible rfl))
      try simp only [Act.put, List.setIfInBounds_toArray, List.set_cons_zero, List.set_cons_succ]
      refine' wpAnyD_take (i := 1) (oi := { dst := some 27, op := Go.Op.unOp Go.UnOp.not 4 (Go.Operand.tmp 26), type := 4, pos := "kinds.go:60", after := #[{ on := 0, ground := Go.Ground.data }], guard := none }) (v := _) rfl (by kernel_rfl) (by kernel_rfl) (by kernel_rfl) (fun _ _ _ h => h) (by kernel_rfl) (Or.inl ⟨by rfl, ?hy39⟩) hS0 ?rest39
      case hy39 => (intro W hSw; go_simp; try (with_reducible rfl))
      try simp only [Act.put, List.setIfInBounds_toArray, List.set_cons_zero, List.set_cons_succ]
      refine' wpAnyD_take (i := 2) (oi := { dst := some 28, op := Go.Op.move (Go.Operand.tmp 27), type := 4, pos := "kinds.go:60", after := #[{ on := 1, ground := Go.Ground.data }], guard := none }) (v := _) rfl (by kernel_rfl) (by kernel_rfl) (by kernel_rfl) (fun _ _ _ h => h) (by kernel_rfl) (Or.inl ⟨by rfl, ?hy40⟩) hS0 ?rest40
      case hy40 => (intro W hSw; go_simp; try (with_reducible rfl))
      try simp only [Act.put, List.setIfInBounds_toArray, List.set_cons_zero, List.set_cons_succ]
      refine' wpAnyD_take (i := 3) (oi := { dst := some 29, op := Go.Op.load 29 (Go.Operand.tmp 9), type := 29, pos := "kinds.go:60", after := #[{ on := 2, ground := Go.Ground.guard }], guard := some (2, false) }) (v := _) rfl (by kernel_rfl) (by kernel_rfl) (by kernel_rfl) (fun _ _ _ h => h) (by kernel_rfl) (Or.inl ⟨by rfl, ?hy41⟩) hS0 ?rest41
      case hy41 => (intro W hSw; obtain ⟨g1, g2⟩ := HL2.out W hSw; obtain ⟨y0, y1, y2, y3, y4, y5, y6, y7, y8, y9, y10, y11, y12, y13⟩ := HL.out W (HSD.out _ g1); have p0 := (tk_store g2).1; have p1 := tk_lt g2; clear g1 g2; go_simp; try (with_reducible rfl))
      try simp only [Act.put, List.setIfInBounds_toArray, List.set_cons_zero, List.set_cons_succ]
      refine' wpAnyD_take (i := 4) (oi := { dst := some 30, op := Go.Op.move (Go.Operand.tmp 0), type := 56, pos := "kinds.go:60", after := #[{ on := 2, ground := Go.Ground.guard }], guard := some (2, false) }) (v := _) rfl (by kernel_rfl) (by kernel_rfl) (by kernel_rfl) (fun _ _ _ h => h) (by kernel_rfl) (Or.inl ⟨by rfl, ?hy42⟩) hS0 ?rest42
      case hy42 => (intro W hSw; go_simp; try (with_reducible rfl))
      try simp only [Act.put, List.setIfInBounds_toArray, List.set_cons_zero, List.set_cons_succ]
      refine' wpAnyD_take (i := 5) (oi := { dst := some 31, op := Go.Op.nilCheck (Go.Operand.tmp 30), type := 0, pos := "kinds.go:60", after := #[{ on := 4, ground := Go.Ground.data }, { on := 2, ground := Go.Ground.guard }], guard := some (2, false) }) (v := _) rfl (by kernel_rfl) (by kernel_rfl) (by kernel_rfl) (fun _ _ _ h => h) (by kernel_rfl) (Or.inl ⟨by rfl, ?hy43⟩) hS0 ?rest43
      case hy43 => (intro W hSw; go_simp; try (with_reducible rfl))
      try simp only [Act.put, List.setIfInBounds_toArray, List.set_cons_zero, List.set_cons_succ]
      refine' wpAnyD_take (i := 6) (oi := { dst := some 32, op := Go.Op.fieldAddr 59 (Go.Operand.tmp 31) 2, type := 0, pos := "kinds.go:60", after := #[{ on := 5, ground := Go.Ground.data }, { on := 2, ground := Go.Ground.guard }], guard := some (2, false) }) (v := _) rfl (by kernel_rfl) (by kernel_rfl) (by kernel_rfl) (fun _ _ _ h => h) (by kernel_rfl) (Or.inl ⟨by rfl, ?hy44⟩) hS0 ?rest44
      case hy44 => (intro W hSw; go_simp; try (with_reducible rfl))
      try simp only [Act.put, List.setIfInBounds_toArray, List.set_cons_zero, List.set_cons_succ]
      refine' wpAnyD_take (i := 7) (oi := { dst := some 33, op := Go.Op.load 29 (Go.Operand.tmp 32), type := 29, pos := "kinds.go:60", after := #[{ on := 6, ground := Go.Ground.data }, { on := 2, ground := Go.Ground.guard }], guard := some (2, false) }) (v := _) rfl (by kernel_rfl) (by kernel_rfl) (by kernel_rfl) (fun _ _ _ h => h) (by kernel_rfl) (Or.inl ⟨by rfl, ?hy45⟩) hS0 ?rest45
      case hy45 => (intro W hSw; obtain ⟨g1, g2⟩ := HL2.out W hSw; obtain ⟨y0, y1, y2, y3, y4, y5, y6, y7, y8, y9, y10, y11, y12, y13⟩ := HL.out W (HSD.out _ g1); have p0 := (tk_store g2).1; have p1 := tk_lt g2; clear g1 g2; go_simp; try (with_reducible rfl))
      try simp only [Act.put, List.setIfInBounds_toArray, List.set_cons_zero, List.set_cons_succ]
      refine wpAnyD_one (i := 8) (o := { dst := some 34, op := Go.Op.call { callee := Go.Callee.value (Go.Operand.func 49), args := #[Go.Operand.tmp 29, Go.Operand.tmp 33], argTypes := #[29, 29] }, type := 4, pos := "kinds.go:60", after := #[{ on := 3, ground := Go.Ground.data }, { on := 7, ground := Go.Ground.data }, { on := 2, ground := Go.Ground.chain }, { on := 2, ground := Go.Ground.guard }], guard := some (2, false) }) (by kernel_rfl) rfl (fun K hK => ?_)
      rw [if_pos (by kernel_rfl)]
      go_simp
      refine (HAH.out _).mono ?_
      rintro e u1 ⟨rfl, g1⟩
      have hS1 : Below wc.heap.size wc u1 := hS0.trans (g1.below.mono hS0.size)
      clear g1
      go_wp2_with fail
      refine hK.out _ _ (fun hD => hS1) ?_
      clear hK K
      try simp only [Act.put, List.setIfInBounds_toArray, List.set_cons_zero, List.set_cons_succ]
      refine' wpAnyD_take (i := 9) (oi := { dst := some 35, op := Go.Op.unOp Go.UnOp.not 4 (Go.Operand.tmp 34), type := 4, pos := "kinds.go:60", after := #[{ on := 8, ground := Go.Ground.data }, { on := 2, ground := Go.Ground.guard }], guard := some (2, false) }) (v := _) rfl (by kernel_rfl) (by kernel_rfl) (by kernel_rfl) (fun _ _ _ h => h) (by kernel_rfl) (Or.inl ⟨by rfl, ?hy47⟩) hS1 ?rest47
      case hy47 => (intro W hSw; go_simp; try (with_reducible rfl))
      try simp only [Act.put, List.setIfInBounds_toArray, List.set_cons_zero, List.set_cons_succ]
      refine' wpAnyD_take (i := 10) (oi := { dst := some 36, op := Go.Op.pick (Go.Operand.tmp 28) (Go.Operand.const (Go.Value.bool true)) (Go.Operand.tmp 35), type := 4, pos := "kinds.go:60", after := #[{ on := 2, ground := Go.Ground.data }, { on := 9, ground := Go.Ground.data }], guard := none }) (v := _) rfl (by kernel_rfl) (by kernel_rfl) (by kernel_rfl) (fun _ _ _ h => h) (by kernel_rfl) (Or.inl ⟨by rfl, ?hy48⟩) hS1 ?rest48
      case hy48 => (intro W hSw; go_simp; try (with_reducible rfl))
      try simp only [Act.put, List.setIfInBounds_toArray, List.set_cons_zero, List.set_cons_succ]
      refine wpAnyD_done (by kernel_rfl) ?_ _
      have B1 : Below W0.heap.size W0 u1 := (HL2.out _ hS1).1
      cases q with
      | false =>
        go_wp2_with fail
        refine (letGo_any _).mono ?_
        rintro e u9 ⟨rfl, g9⟩
        have B9 : Below W0.heap.size W0 u9 := B1.trans (g9.mono B1.size)
        have hB : Below qb W0 u9 := B9.mono HN.out.2.2.2.2.2.2
        obtain ⟨hT, hR⟩ := H3.out u9 B9
        have ct := (tk_store hT).1
        have ft := (tk_store hT).2
        have lt := tk_lt hT
        have cr := (tk_store hR).1
        have fr := (tk_store hR).2
        have lr := tk_lt hR
        have hne := HN.out.2.2.2.1
        have hne2 := Ne.symm hne
        clear g9 B9
        go_wp2_with fail
        refine bodyPost_ret (v := tup (⟨0, 0, 0⟩, ⟨0, 0⟩, false)) (by simp [results, Try.results47, go_sem, *]) rfl ⟨rfl, ?_⟩
        obtain ⟨h1, h2, h3⟩ := st3 (a := .int .u64 0) (b := .int .u64 0) (c := .int .u64 0) hB hT hR hne (Nat.le_refl _)
        exact HG.out.trans ((st2 h1 h3 h2 hne2 HN.out.2.2.2.2.1).1.mono HN.out.2.2.2.2.2.1)
      | true =>
        go_upto_region 6 with fail
        have hS2 : Below wc.heap.size wc u1.drew := hS1.trans ((Gr.refl u1).drew.below.mono hS1.size)
        have B2 : Below W0.heap.size W0 u1.drew := (HL2.out _ hS2).1
        have hP : u1.drew.heap[pb]? = some (.cells #[.int .u64 cv.a, .int .u64 cv.b, .int .u64 cv.c] 29 (0, 0)) := (HL2.out _ hS2).2
        have HPB : Hid (qb ≠ pb ∧ sb ≠ pb) := by
          have h1 := tk_lt (H3.out W0 (Below.refl _ _)).1
          have h2 := tk_lt (H3.out W0 (Below.refl _ _)).2
          have h3 := HC.out.2.2
          exact ⟨by omega, by omega⟩
        have hB : Below qb W0 u1.drew := B2.mono HN.out.2.2.2.2.2.2
        obtain ⟨hT, hR⟩ := H3.out u1.drew B2
        clear B2 hS2
        refine wp_regionD (S := (fun W : World => Below qb W0 W ∧ W.heap[pb]? = some (.cells #[.int .u64 cv.a, .int .u64 cv.b, .int .u64 cv.c] 29 (0, 0)))) (D := []) hmx ?_
        generalize u1.drew = v1 at hB hT hR hP ⊢
        refine' wpAnyD_take (i := 0) (oi := { dst := some 41, op := Go.Op.load 29 (Go.Operand.tmp 9), type := 29, pos := "kinds.go:63", after := #[], guard := none }) (v := _) rfl (by kernel_rfl) (by kernel_rfl) (by kernel_rfl) (fun _ _ _ h => h) (by kernel_rfl) (Or.inl ⟨by rfl, ?hy49⟩) ⟨hB, hP⟩ ?rest49
        case hy49 => (intro W hSw; have p0 := (tk_store hSw.2).1; have p1 := tk_lt hSw.2; obtain ⟨y0, y1, y2, y3, y4, y5, y6, y7, y8, y9, y10, y11, y12, y13⟩ := HL.out W hSw.1; clear hSw; go_simp; try (with_reducible rfl))
        try simp only [Act.put, List.setIfInBounds_toArray, List.set_cons_zero, List.set_cons_succ]
        refine' wpAnyD_take (i := 1) (oi := { dst := some 42, op := Go.Op.load 31 (Go.Operand.tmp 5), type := 31, pos := "kinds.go:63", after := #[{ on := 2, ground := Go.Ground.gcOnly Go.Departure.lateStores }], guard := none }) (v := _) rfl (by kernel_rfl) (by kernel_rfl) (by kernel_rfl) (fun _ _ _ h => h) (by kernel_rfl) (Or.inl ⟨by rfl, ?hy50⟩) ⟨hB, hP⟩ ?rest50
        case hy50 => (intro W hSw; have p0 := (tk_store hSw.2).1; have p1 := tk_lt hSw.2; obtain ⟨y0, y1, y2, y3, y4, y5, y6, y7, y8, y9, y10, y11, y12, y13⟩ := HL.out W hSw.1; clear hSw; go_simp; try (with_reducible rfl))
        try simp only [Act.put, List.setIfInBounds_toArray, List.set_cons_zero, List.set_cons_succ]
        refine wpAnyD_one (i := 2) (o := { dst := none, op := Go.Op.store 29 (Go.Operand.tmp 6) (Go.Operand.tmp 41), type := 0, pos := "kinds.go:63", after := #[{ on := 0, ground := Go.Ground.data }, { on := 0, ground := Go.Ground.phase }, { on := 1, ground := Go.Ground.textOnly Go.Departure.lateStores }], guard := none }) (by kernel_rfl) rfl (fun K hK => ?_)
        rw [if_pos (by kernel_rfl)]
        have cb := (tk_store hT).1
        have fb := (tk_store hT).2
        have lb := tk_lt hT
        go_simp
        have hP2 := (st3 (a := .int .u64 cv.a) (b := .int .u64 cv.b) (c := .int .u64 cv.c) hB hT hP HPB.out.1 (Nat.le_refl _)).2.2
        obtain ⟨hB2, hT2, hR2⟩ := st3 (a := .int .u64 cv.a) (b := .int .u64 cv.b) (c := .int .u64 cv.c) hB hT hR HN.out.2.2.2.1 (Nat.le_refl _)
        clear cb fb lb hB hT hR hP
        generalize (((v1.setCell ⟨qb, 0, none⟩ (.int .u64 cv.a)).setCell ⟨qb, 1, none⟩ (.int .u64 cv.b)).setCell ⟨qb, 2, none⟩ (.int .u64 cv.c)) = u2 at hB2 hT2 hR2 hP2 ⊢
        refine hK.out _ _ (fun hD => ⟨hB2, hP2⟩) ?_
        clear hK K
        try simp only [Act.put, List.setIfInBounds_toArray, List.set_cons_zero, List.set_cons_succ]
        refine wpAnyD_one (i := 3) (o := { dst := none, op := Go.Op.store 31 (Go.Operand.tmp 7) (Go.Operand.tmp 42), type := 0, pos := "kinds.go:63", after := #[{ on := 1, ground := Go.Ground.data }, { on := 2, ground := Go.Ground.chain }, { on := 0, ground := Go.Ground.phase }, { on := 1, ground := Go.Ground.phase }, { on := 2, ground := Go.Ground.phase }], guard := none }) (by kernel_rfl) rfl (fun K hK => ?_)
        rw [if_pos (by kernel_rfl)]
        have cb := (tk_store hR2).1
        have fb := (tk_store hR2).2
        have lb := tk_lt hR2
        go_simp
        have hP3 := (st2 (a := .int .u64 r.key) (b := .int .u64 r.val) hB2 hR2 hP2 HPB.out.2 HN.out.2.2.2.2.1).2.2
        obtain ⟨hB3, hR3, hT3⟩ := st2 (a := .int .u64 r.key) (b := .int .u64 r.val) hB2 hR2 hT2 (Ne.symm HN.out.2.2.2.1) HN.out.2.2.2.2.1
        clear cb fb lb hB2 hT2 hR2 hP2
        generalize ((u2.setCell ⟨sb, 0, none⟩ (.int .u64 r.key)).setCell ⟨sb, 1, none⟩ (.int .u64 r.val)) = u3 at hB3 hT3 hR3 hP3 ⊢
        refine hK.out _ _ (fun hD => ⟨hB3, hP3⟩) ?_
        clear hK K
        try simp only [Act.put, List.setIfInBounds_toArray, List.set_cons_zero, List.set_cons_succ]
        refine wpAnyD_one (i := 4) (o := { dst := some 8, op := Go.Op.assign (Go.Operand.const (Go.Value.bool true)), type := 4, pos := "kinds.go:63", after := #[{ on := 3, ground := Go.Ground.chain }, { on := 0, ground := Go.Ground.phase }, { on := 1, ground := Go.Ground.phase }, { on := 2, ground := Go.Ground.phase }, { on := 3, ground := Go.Ground.phase }], guard := none }) (by kernel_rfl) rfl (fun K hK => ?_)
        go_simp
        refine hK.out _ _ (fun hD => ⟨hB3, hP3⟩) ?_
        clear hK K
        try simp only [Act.put, List.setIfInBounds_toArray, List.set_cons_zero, List.set_cons_succ]
        refine wpAnyD_done (by kernel_rfl) ?_ _
        have ct := (tk_store hT3).1
        have cr := (tk_store hR3).1
        have ct0 := ct 0
        have ct1 := ct 1
        have ct2 := ct 2
        have cr0 := cr 0
        have cr1 := cr 1
        simp at ct0 ct1 ct2 cr0 cr1
        go_wp2_with fail
        refine bodyPost_ret (v := tup (cv, r, true)) (by simp [results, Try.results47, go_sem, *]) rfl ⟨rfl, ?_⟩
        exact HG.out.trans (hB3.mono HN.out.2.2.2.2.2.1)
end Go.Proofs.Ytpnjpdnjapfjlaa.Cd
