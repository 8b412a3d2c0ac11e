import Derived.Test.YthekfbillnpkkaaCoSay0
namespace Go.Proofs.Ythekfbillnpkkaa.Cd
open Go.RowKit Go.Sort
attribute [local go_sem ↓] Go.wp_at_zero Go.wp_at_succ

def mkO : Op2 := ⟨-7, 9⟩
/-- What the law holds between two steps: its list 'in' (row g), the record's box, and what came in. -/
structure Sy (w W : World) (g cap n rb : Nat) (r : Rc) (cur : List Op2) : Prop where
  len : cur.length = n
  ok : ∀ o ∈ cur, Ook o
  own : W.ownsRow w.heap.size 35 2 (.slice (some ⟨g, 0, none⟩) (n + 1) cap) (n + 1) (fl EO (cur ++ [mkO]))
  box : W.heap[rb]? = some (.cells #[.int .u64 r.key, .int .u64 r.val] 25 (0, 0))
  bl : Below w.heap.size w W
theorem Sy.below {w W W' : World} {g cap n rb : Nat} {r : Rc} {cur : List Op2} (h : Sy w W g cap n rb r cur) (hb : Below W.heap.size W W') : Sy w W' g cap n rb r cur :=
  ⟨h.len, h.ok, owns_below h.own hb, (hb.block rb (blk_at h.box).1).trans h.box, h.bl.trans (hb.mono h.bl.size)⟩
theorem Sy.ls {w W : World} {g cap n rb : Nat} {r : Rc} {cur : List Op2} (h : Sy w W g cap n rb r cur) : Ls EO W (.slice (some ⟨g, 0, none⟩) n cap) cur := by
  have h1 := owns_ls (owns_re h.own (by rw [List.length_append, h.len, List.length_singleton]) rfl)
  have h2 := h1.cut (k := n) (by rw [List.length_append, h.len]; omega) cap
  rwa [List.take_left' h.len] at h2
theorem Sy.mark {w W : World} {g cap n rb : Nat} {r : Rc} {cur : List Op2} (h : Sy w W g cap n rb r cur) : g < W.heap.size ∧ W.cell? ⟨g, n * 2, none⟩ = some (.int .i64 (-7)) ∧ W.cell? ⟨g, n * 2 + 1, none⟩ = some (.int .u64 9) := by
  have h1 := owns_ls (owns_re h.own (by rw [List.length_append, h.len, List.length_singleton]) rfl)
  have hx : (cur ++ [mkO])[n]? = some mkO := by rw [← h.len]; simp
  obtain ⟨b, off, c, e, hb, y0, y1⟩ := ls_at h1 hx
  simp only [Value.slice.injEq, Option.some.injEq, Addr.mk.injEq] at e
  obtain ⟨⟨rfl, rfl, -⟩, -, -⟩ := e
  rw [Nat.zero_add] at y0 y1
  exact ⟨hb, y0, y1⟩
theorem Sy.cap {w W : World} {g cap n rb : Nat} {r : Rc} {cur : List Op2} (h : Sy w W g cap n rb r cur) : n + 1 ≤ cap := (owns_cap h.own).1
theorem Sy.put {w W : World} {g cap n rb : Nat} {r : Rc} {cur : List Op2} (h : Sy w W g cap n rb r cur) (hne : rb ≠ g) {j : Nat} (hj : j < n) {x : Op2} (hx : Ook x) :
    Sy w ((W.setCell ⟨g, j * 2, none⟩ (.int .i64 x.kind)).setCell ⟨g, j * 2 + 1, none⟩ (.int .u64 x.arg)) g cap n rb r (cur.set j x) := by
  obtain ⟨h1, h2⟩ := own_put h.own (j := j) (by rw [List.length_append, h.len]; omega) x
  have hg : w.heap.size ≤ g := (h.own.lt g rfl).1
  refine ⟨by simpa using h.len, fun o ho => ?_, owns_re h1 rfl (by rw [List.set_append_left _ _ (by rw [h.len]; exact hj)]), (h2.block rb (blk_at h.box).1 hne).trans h.box, h.bl.trans (h2.below h.bl.size (fun k e => by rw [e]; exact hg))⟩
  rcases List.mem_or_eq_of_mem_set ho with h3 | h3
  · exact h.ok o h3
  · rw [h3]; exact hx
theorem own_ne {w : World} {base : Nat} {e T : TypeId} {size : Nat} {v : Value} {n b : Nat} {xs : List Value} {cs : Array Value} (h : w.ownsRow base e size v n xs) (hb : w.heap[b]? = some (.cells cs T (0, 0))) (hne : e ≠ T) : v.ownBlock ≠ some b := fun he => by
  rcases h.2 with ⟨hv, _⟩ | ⟨g, cap, cur, hv, _, hh, _⟩
  · rw [hv] at he; simp [Value.ownBlock] at he
  · rw [hv] at he
    simp [Value.ownBlock] at he
    subst he
    rw [hh] at hb
    simp only [Option.some.injEq, Obj.cells.injEq] at hb
    exact hne hb.2.1
set_option maxHeartbeats 8000000 in
set_option maxRecDepth 100000 in
theorem codeSays_any {k : Int} {vl vt : Value} {l tl : List Op2} {r : Rc} (hl : ∀ o ∈ l, Ook o) (ht : ∀ o ∈ tl, Ook o) (hr : Rok r) (w : World) (hvl : Lz EO w.heap.size w vl l) (hvt : Lz EO w.heap.size w vt tl) (hs : l.length * 16 ≤ 140737488351232) (hs2 : tl.length * 16 ≤ 140737488351232) : Calls Try.prog 5 #[.agg #[.int .i64 k, vl, vt, .int .u64 r.key, .int .u64 r.val]] w fun e w' => e = .returned (.bool true) ∧ Below w.heap.size w w' := by
  have hmx : Try.prog.follows .mixedOrders = true := by kernel_rfl
  have hR := fun x y W => run_eqR x y W
  have hO := fun W => run_eqO (-7) 9 W
  obtain ⟨p1, c1, rfl⟩ := hvl.form
  obtain ⟨p2, c2, rfl⟩ := hvt.form
  obtain ⟨n, hn⟩ : ∃ n, n = l.length := ⟨_, rfl⟩
  obtain ⟨nt, hnt⟩ : ∃ n, n = tl.length := ⟨_, rfl⟩
  have HVL := hid hvl
  have HVT := hid hvt
  rw [← hn] at HVL hs ⊢
  rw [← hnt] at HVT hs2 ⊢
  have hnb : n ≤ 8796093021952 := by omega
  have hntb : nt ≤ 8796093021952 := by omega
  have HL : Hid (∀ o ∈ l, Ook o) := hl
  have HT : Hid (∀ o ∈ tl, Ook o) := ht
  have HR := hid hr
  have HN := hid hn
  have HNT := hid hnt
  clear hl ht hr hvl hvt hs hs2 hn hnt
  go_enter Try.func5, Try.ntmps5
  go_upto_region 1 with fail
  obtain ⟨W1, hW1⟩ : ∃ W1, W1 = w.alloc (.cells #[.int .i64 k, .slice p1 n c1, .slice p2 nt c2, .int .u64 r.key, .int .u64 r.val] 39) := ⟨_, rfl⟩
  have g1 : Gr w W1 := by rw [hW1]; exact (Gr.refl _).alloc _
  have j1 : W1.heap[w.heap.size]? = some (.cells #[.int .i64 k, .slice p1 n c1, .slice p2 nt c2, .int .u64 r.key, .int .u64 r.val] 39 (0, 0)) := by rw [hW1]; exact heap_new' _ _
  obtain ⟨cb, hcb⟩ : ∃ b, b = w.heap.size := ⟨_, rfl⟩
  rw [← hW1, ← hcb]
  rw [← hcb] at j1
  clear hW1 hcb
  have HJ := hid j1
  have LR : Hid (∀ W : World, Below W1.heap.size W1 W → W.cell? ⟨cb, 0, none⟩ = some (.int .i64 k) ∧ W.cell? ⟨cb, 1, none⟩ = some (.slice p1 n c1) ∧ W.cell? ⟨cb, 2, none⟩ = some (.slice p2 nt c2) ∧ W.cell? ⟨cb, 3, none⟩ = some (.int .u64 r.key) ∧ W.cell? ⟨cb, 4, none⟩ = some (.int .u64 r.val) ∧ cb < W.heap.size) := fun W hW => by
    have h1 := (hW.block cb (blk_at HJ.out).1).trans HJ.out
    exact ⟨by simp [World.cell?, h1], by simp [World.cell?, h1], by simp [World.cell?, h1], by simp [World.cell?, h1], by simp [World.cell?, h1], (blk_at h1).1⟩
  have HG1 := hid g1
  clear j1 g1
  refine wp_regionD (S := (fun W : World => Below W1.heap.size W1 W)) (D := []) hmx ?_
  refine' wpAnyD_take (i := 0) (oi := { dst := some 11, op := Go.Op.fieldAddr 39 (Go.Operand.tmp 1) 0, type := 0, pos := "law.go:41", after := #[], guard := none }) (v := _) rfl (by kernel_rfl) (by kernel_rfl) (by kernel_rfl) (fun _ _ _ h => h) (by kernel_rfl) (Or.inl ⟨by rfl, ?hy1⟩) (Gr.refl W1).drew.below ?rest1
  case hy1 => (intro W hSw; obtain ⟨z0, z1, z2, z3, z4, z5⟩ := LR.out W hSw; go_simp; try (with_reducible rfl))
  try simp only [Act.put, List.setIfInBounds_toArray, List.set_cons_zero, List.set_cons_succ]
  refine' wpAnyD_take (i := 1) (oi := { dst := some 12, op := Go.Op.load 3 (Go.Operand.tmp 11), type := 3, pos := "law.go:41", after := #[{ on := 0, ground := Go.Ground.data }], guard := none }) (v := _) rfl (by kernel_rfl) (by kernel_rfl) (by kernel_rfl) (fun _ _ _ h => h) (by kernel_rfl) (Or.inl ⟨by rfl, ?hy2⟩) (Gr.refl W1).drew.below ?rest2
  case hy2 => (intro W hSw; obtain ⟨z0, z1, z2, z3, z4, z5⟩ := LR.out W hSw; go_simp; try (with_reducible rfl))
  try simp only [Act.put, List.setIfInBounds_toArray, List.set_cons_zero, List.set_cons_succ]
  refine' wpAnyD_take (i := 2) (oi := { dst := some 13, op := Go.Op.fieldAddr 39 (Go.Operand.tmp 1) 1, type := 0, pos := "law.go:41", after := #[{ on := 9, ground := Go.Ground.gcOnly Go.Departure.lateStores }], guard := none }) (v := _) rfl (by kernel_rfl) (by kernel_rfl) (by kernel_rfl) (fun _ _ _ h => h) (by kernel_rfl) (Or.inl ⟨by rfl, ?hy3⟩) (Gr.refl W1).drew.below ?rest3
  case hy3 => (intro W hSw; obtain ⟨z0, z1, z2, z3, z4, z5⟩ := LR.out W hSw; go_simp; try (with_reducible rfl))
  try simp only [Act.put, List.setIfInBounds_toArray, List.set_cons_zero, List.set_cons_succ]
  refine' wpAnyD_take (i := 3) (oi := { dst := some 14, op := Go.Op.load 22 (Go.Operand.tmp 13), type := 22, pos := "law.go:41", after := #[{ on := 2, ground := Go.Ground.data }, { on := 9, ground := Go.Ground.gcOnly Go.Departure.lateStores }], guard := none }) (v := _) rfl (by kernel_rfl) (by kernel_rfl) (by kernel_rfl) (fun _ _ _ h => h) (by kernel_rfl) (Or.inl ⟨by rfl, ?hy4⟩) (Gr.refl W1).drew.below ?rest4
  case hy4 => (intro W hSw; obtain ⟨z0, z1, z2, z3, z4, z5⟩ := LR.out W hSw; go_simp; try (with_reducible rfl))
  try simp only [Act.put, List.setIfInBounds_toArray, List.set_cons_zero, List.set_cons_succ]
  refine' wpAnyD_take (i := 4) (oi := { dst := some 15, op := Go.Op.fieldAddr 39 (Go.Operand.tmp 1) 2, type := 0, pos := "law.go:41", after := #[{ on := 10, ground := Go.Ground.gcOnly Go.Departure.lateStores }], guard := none }) (v := _) rfl (by kernel_rfl) (by kernel_rfl) (by kernel_rfl) (fun _ _ _ h => h) (by kernel_rfl) (Or.inl ⟨by rfl, ?hy5⟩) (Gr.refl W1).drew.below ?rest5
  case hy5 => (intro W hSw; obtain ⟨z0, z1, z2, z3, z4, z5⟩ := LR.out W hSw; go_simp; try (with_reducible rfl))
  try simp only [Act.put, List.setIfInBounds_toArray, List.set_cons_zero, List.set_cons_succ]
  refine' wpAnyD_take (i := 5) (oi := { dst := some 16, op := Go.Op.load 22 (Go.Operand.tmp 15), type := 22, pos := "law.go:41", after := #[{ on := 4, ground := Go.Ground.data }, { on := 10, ground := Go.Ground.gcOnly Go.Departure.lateStores }], guard := none }) (v := _) rfl (by kernel_rfl) (by kernel_rfl) (by kernel_rfl) (fun _ _ _ h => h) (by kernel_rfl) (Or.inl ⟨by rfl, ?hy6⟩) (Gr.refl W1).drew.below ?rest6
  case hy6 => (intro W hSw; obtain ⟨z0, z1, z2, z3, z4, z5⟩ := LR.out W hSw; go_simp; try (with_reducible rfl))
  try simp only [Act.put, List.setIfInBounds_toArray, List.set_cons_zero, List.set_cons_succ]
  refine' wpAnyD_take (i := 6) (oi := { dst := some 17, op := Go.Op.fieldAddr 39 (Go.Operand.tmp 1) 3, type := 0, pos := "law.go:41", after := #[{ on := 11, ground := Go.Ground.gcOnly Go.Departure.lateStores }], guard := none }) (v := _) rfl (by kernel_rfl) (by kernel_rfl) (by kernel_rfl) (fun _ _ _ h => h) (by kernel_rfl) (Or.inl ⟨by rfl, ?hy7⟩) (Gr.refl W1).drew.below ?rest7
  case hy7 => (intro W hSw; obtain ⟨z0, z1, z2, z3, z4, z5⟩ := LR.out W hSw; go_simp; try (with_reducible rfl))
  try simp only [Act.put, List.setIfInBounds_toArray, List.set_cons_zero, List.set_cons_succ]
  refine' wpAnyD_take (i := 7) (oi := { dst := some 18, op := Go.Op.load 25 (Go.Operand.tmp 17), type := 25, pos := "law.go:41", after := #[{ on := 6, ground := Go.Ground.data }, { on := 11, ground := Go.Ground.gcOnly Go.Departure.lateStores }], guard := none }) (v := _) rfl (by kernel_rfl) (by kernel_rfl) (by kernel_rfl) (fun _ _ _ h => h) (by kernel_rfl) (Or.inl ⟨by rfl, ?hy8⟩) (Gr.refl W1).drew.below ?rest8
  case hy8 => (intro W hSw; obtain ⟨z0, z1, z2, z3, z4, z5⟩ := LR.out W hSw; go_simp; try (with_reducible rfl))
  try simp only [Act.put, List.setIfInBounds_toArray, List.set_cons_zero, List.set_cons_succ]
  refine wpAnyD_one (i := 8) (o := { dst := some 6, op := Go.Op.alloc 25, type := 0, pos := "law.go:41", after := #[], guard := none }) (by kernel_rfl) rfl (fun K hK => ?_)
  go_simp
  have hG : Gr W1 ((W1.alloc (.cells #[.int .u64 0, .int .u64 0] 25)).drew) := ((Gr.refl W1).alloc _).drew
  have B2 := hG.below
  clear hG
  refine hK.out _ _ (fun hD => B2) ?_
  clear hK K
  try simp only [Act.put, List.setIfInBounds_toArray, List.set_cons_zero, List.set_cons_succ]
  refine wpAnyD_one (i := 9) (o := { dst := some 3, op := Go.Op.assign (Go.Operand.tmp 12), type := 3, pos := "law.go:41", after := #[{ on := 1, ground := Go.Ground.data }, { on := 0, ground := Go.Ground.phase }, { on := 1, ground := Go.Ground.phase }, { on := 2, ground := Go.Ground.textOnly Go.Departure.lateStores }, { on := 3, ground := Go.Ground.textOnly Go.Departure.lateStores }, { on := 4, ground := Go.Ground.textOnly Go.Departure.lateStores }, { on := 5, ground := Go.Ground.textOnly Go.Departure.lateStores }, { on := 6, ground := Go.Ground.textOnly Go.Departure.lateStores }, { on := 7, ground := Go.Ground.textOnly Go.Departure.lateStores }, { on := 8, ground := Go.Ground.phase }], guard := none }) (by kernel_rfl) rfl (fun K hK => ?_)
  go_simp
  refine hK.out _ _ (fun hD => B2) ?_
  clear hK K
  try simp only [Act.put, List.setIfInBounds_toArray, List.set_cons_zero, List.set_cons_succ]
  refine wpAnyD_one (i := 10) (o := { dst := some 4, op := Go.Op.assign (Go.Operand.tmp 14), type := 22, pos := "law.go:41", after := #[{ on := 3, ground := Go.Ground.data }, { on := 9, ground := Go.Ground.chain }, { on := 0, ground := Go.Ground.phase }, { on := 1, ground := Go.Ground.phase }, { on := 2, ground := Go.Ground.phase }, { on := 3, ground := Go.Ground.phase }, { on := 4, ground := Go.Ground.textOnly Go.Departure.lateStores }, { on := 5, ground := Go.Ground.textOnly Go.Departure.lateStores }, { on := 6, ground := Go.Ground.textOnly Go.Departure.lateStores }, { on := 7, ground := Go.Ground.textOnly Go.Departure.lateStores }, { on := 8, ground := Go.Ground.phase }, { on := 9, ground := Go.Ground.phase }], guard := none }) (by kernel_rfl) rfl (fun K hK => ?_)
  go_simp
  refine hK.out _ _ (fun hD => B2) ?_
  clear hK K
  try simp only [Act.put, List.setIfInBounds_toArray, List.set_cons_zero, List.set_cons_succ]
  refine wpAnyD_one (i := 11) (o := { dst := some 5, op := Go.Op.assign (Go.Operand.tmp 16), type := 22, pos := "law.go:41", after := #[{ on := 5, ground := Go.Ground.data }, { on := 10, ground := Go.Ground.chain }, { on := 0, ground := Go.Ground.phase }, { on := 1, ground := Go.Ground.phase }, { on := 2, ground := Go.Ground.phase }, { on := 3, ground := Go.Ground.phase }, { on := 4, ground := Go.Ground.phase }, { on := 5, ground := Go.Ground.phase }, { on := 6, ground := Go.Ground.textOnly Go.Departure.lateStores }, { on := 7, ground := Go.Ground.textOnly Go.Departure.lateStores }, { on := 8, ground := Go.Ground.phase }, { on := 9, ground := Go.Ground.phase }, { on := 10, ground := Go.Ground.phase }], guard := none }) (by kernel_rfl) rfl (fun K hK => ?_)
  go_simp
  refine hK.out _ _ (fun hD => B2) ?_
  clear hK K
  try simp only [Act.put, List.setIfInBounds_toArray, List.set_cons_zero, List.set_cons_succ]
  refine wpAnyD_one (i := 12) (o := { dst := none, op := Go.Op.store 25 (Go.Operand.tmp 6) (Go.Operand.tmp 18), type := 0, pos := "law.go:41", after := #[{ on := 8, ground := Go.Ground.data }, { on := 7, ground := Go.Ground.data }, { on := 11, ground := Go.Ground.chain }, { on := 0, ground := Go.Ground.phase }, { on := 1, ground := Go.Ground.phase }, { on := 2, ground := Go.Ground.phase }, { on := 3, ground := Go.Ground.phase }, { on := 4, ground := Go.Ground.phase }, { on := 5, ground := Go.Ground.phase }, { on := 6, ground := Go.Ground.phase }, { on := 7, ground := Go.Ground.phase }, { on := 8, ground := Go.Ground.phase }, { on := 9, ground := Go.Ground.phase }, { on := 10, ground := Go.Ground.phase }, { on := 11, ground := Go.Ground.phase }], guard := none }) (by kernel_rfl) rfl (fun K hK => ?_)
  go_simp
  have hG : Gr W1 ((W1.alloc (.cells #[.int .u64 r.key, .int .u64 r.val] 25)).drew) := ((Gr.refl W1).alloc _).drew
  have B3 := hG.below
  have j2 : ((W1.alloc (.cells #[.int .u64 r.key, .int .u64 r.val] 25)).drew).heap[W1.heap.size]? = some (.cells #[.int .u64 r.key, .int .u64 r.val] 25 (0, 0)) := heap_new' W1 (.cells #[.int .u64 r.key, .int .u64 r.val] 25)
  obtain ⟨rb, hrb⟩ : ∃ b, b = W1.heap.size := ⟨_, rfl⟩
  rw [← hrb]
  rw [← hrb] at j2
  clear hrb B2 hG
  generalize (W1.alloc (.cells #[.int .u64 r.key, .int .u64 r.val] 25)).drew = W2 at *
  refine hK.out _ _ (fun hD => B3) ?_
  clear hK K
  try simp only [Act.put, List.setIfInBounds_toArray, List.set_cons_zero, List.set_cons_succ]
  refine wpAnyD_done (by kernel_rfl) ?_ _
  have HB2 : Hid (Below w.heap.size w W2) := HG1.out.below.trans (B3.mono HG1.out.size)
  have HK2 := hid j2
  clear B3 j2 LR HJ HG1
  have hle : w.heap.size ≤ W2.heap.size := HB2.out.size
  have hG := (Gr.refl W2).alloc (.cells #[] 35)
  have HZ0 := hid ((HVL.out.below HB2.out).below hG.below)
  have HO0 : Hid ((W2.alloc (.cells #[] 35)).ownsRow w.heap.size 35 2 (.slice (some ⟨W2.heap.size, 0, none⟩) 0 0) 0 []) := owns_base (World.ownsRow_made W2 #[] 0 (Nat.le_refl _) (by unfold maxLen; omega) rfl) hle
  have hbg : w.heap.size ≤ (W2.alloc (.cells #[] 35)).heap.size := Nat.le_trans hle hG.size
  have HNZ : Hid ((0 + l.length) * 16 ≤ 140737488355328 ∧ 0 + l.length ≤ maxLen) := by
    show _ ∧ _
    rw [← HN.out]
    unfold maxLen
    omega
  go_wp2_with (at_builtin; refine wpAppZ EO Try.underlying22 infoO rfl (by decide) rfl _ _ rfl w.heap.size (.slice (some ⟨W2.heap.size, 0, none⟩) 0 0) 0 [] rfl HO0.out w.heap.size _ l rfl HZ0.out HNZ.out.1 HNZ.out.2 hbg ?_)
  intro v1 w3 h1 g1
  have HO1 : Hid (w3.ownsRow w.heap.size 35 2 v1 n (fl EO l)) := owns_re h1.out (by rw [HN.out]) (by simp)
  have hK3 := Kp.grownBy (S := fun k => k = W2.heap.size) g1.out (fun k e => by simp [Value.ownBlock] at e; exact e.symm)
  have B3 : Below W2.heap.size W2 w3 := hG.below.trans (hK3.below hG.size (fun k e => by rw [e]; exact Nat.le_refl _))
  have HB3 : Hid (Below w.heap.size w w3) := HB2.out.trans (B3.mono HB2.out.size)
  have HK3 := hid ((B3.block rb (blk_at HK2.out).1).trans HK2.out)
  have hb3 : w.heap.size ≤ w3.heap.size := HB3.out.size
  obtain ⟨q, s, c, rfl⟩ : ∃ q s c, v1 = .slice q s c := by
    rcases HO1.out.2 with ⟨h0, _⟩ | ⟨_, _, _, hv, _⟩
    · exact ⟨_, _, _, h0⟩
    · exact ⟨_, _, _, hv⟩
  clear h1 g1 hK3 B3 hG HZ0 HO0 hbg HNZ HB2 HK2 hle
  have HNZ : Hid ((n + 1) * 16 ≤ 140737488355328 ∧ n + 1 ≤ maxLen) := by
    show _ ∧ _
    unfold maxLen
    omega
  go_wp2_with (at_builtin; refine wpApp1 EO Try.underlying22 infoO rfl (by decide) rfl _ _ rfl w.heap.size (.slice q s c) n _ rfl HO1.out mkO (by first | rfl | (go_simp; done)) HNZ.out.1 HNZ.out.2 hb3 _ rfl _ ?_)
  intro g cap w4 h4 g4 _
  have hK4 := Kp.grownBy (S := fun k => (Value.slice q s c).ownBlock = some k) g4 (fun _ h => h)
  have HSY : Hid (∃ cur, Sy w w4 g cap n rb r cur) := ⟨l, HN.out.symm, HL.out, owns_re h4 rfl (by rw [fl_append, fl_one]), (hK4.block rb (blk_at HK3.out).1 (own_ne HO1.out HK3.out (by decide))).trans HK3.out, HB3.out.trans (hK4.below HB3.out.size (fun k e => (HO1.out.lt k e).1))⟩
  have HNE : Hid (rb ≠ g) := by
    obtain ⟨cur, h⟩ := HSY.out
    exact fun e => own_ne h.own h.box (by decide) (by rw [e]; rfl)
  clear h4 g4 hK4 HO1 HB3 HK3 hb3 HNZ
  go_wp2_with fail
  go_loopw [8, 9, 10] (fun s8 s9 s10 wr => ∃ t : Nat, t ≤ 2 ∧ s8 = .int .i64 (t : Nat) ∧ Hid (∃ cur, Sy w wr g cap n rb r cur)) (fun s8 _ _ _ => 2 - (RowKit.intOf s8).toNat)
  case atStart => exact ⟨0, by omega, rfl, HSY.out⟩
  case round =>
    clear HSY
    obtain ⟨t, htt, rfl, HSY⟩ := hrel
    obtain ⟨cur, hsy⟩ := HSY.out
    have HS := hid hsy
    clear HSY
    by_cases hlt : t < 2
    · have hz : (t : Int) < 2 := by omega
      have hcap : n < cap := hsy.cap
      have hc1 : (n : Int) ≤ (cap : Int) := by omega
      have hc2 : (0 : Int) ≤ (n : Int) := by omega
      have hG := (Gr.refl wr).alloc (.cells #[] 35)
      have HZ0 := hid ((hsy.below hG.below).ls)
      have HO0 : Hid ((wr.alloc (.cells #[] 35)).ownsRow wr.heap.size 35 2 (.slice (some ⟨wr.heap.size, 0, none⟩) 0 0) 0 []) := World.ownsRow_made wr #[] 0 (Nat.le_refl _) (by unfold maxLen; omega) rfl
      have HNZ : Hid ((0 + cur.length) * 16 ≤ 140737488355328 ∧ 0 + cur.length ≤ maxLen) := by
        show _ ∧ _
        rw [hsy.len]
        unfold maxLen
        omega
      clear hsy
      go_wp2_with (at_builtin; refine wpAppL EO Try.underlying22 infoO rfl (by decide) rfl _ _ rfl wr.heap.size (.slice (some ⟨wr.heap.size, 0, none⟩) 0 0) 0 [] rfl HO0.out _ cur rfl HZ0.out HNZ.out.1 HNZ.out.2 (by simp) ?_)
      intro v9 w5 h5 g5
      have hK5 := Kp.grownBy (S := fun k => k = wr.heap.size) g5 (fun k e => by simp [Value.ownBlock] at e; exact e.symm)
      have B5 : Below wr.heap.size wr w5 := hG.below.trans (hK5.below hG.size (fun k e => by rw [e]; exact Nat.le_refl _))
      have hs5 := HS.out.below B5
      have HN5 : Hid (Ls EO w5 v9 cur) := owns_ls (owns_re h5 (by simp) (by simp))
      clear h5 g5 hK5 B5 hG HZ0 HO0 HNZ HS
      obtain ⟨q, hq⟩ : ∃ q, q = chk k cur := ⟨_, rfl⟩
      obtain ⟨sm, hsm⟩ : ∃ s, s = mapL cur r := ⟨_, rfl⟩
      obtain ⟨sp, hsp⟩ : ∃ s, s = passL cur r := ⟨_, rfl⟩
      have HQ := hid hq
      have HSM := hid hsm
      have HSP := hid hsp
      have hok := hs5.ok
      have HOK : Hid (∀ o ∈ cur, Ook o) := hok
      have HLC := hid hs5.len
      clear hq hsm hsp hok
      have HL5 := hid hs5.ls
      have HS5 := hid hs5
      clear hs5
      have BY0 : Below w5.heap.size w5 w5.drew := (Gr.refl w5).drew.below
      go_upto_region 7 with fail
      refine wp_regionD (S := (fun W : World => Below w5.heap.size w5 W)) (D := []) hmx ?_
      refine' wpAnyD_take (i := 0) (oi := { dst := some 35, op := Go.Op.move (Go.Operand.tmp 3), type := 3, pos := "law.go:45", after := #[], guard := none }) (v := _) rfl (by kernel_rfl) (by kernel_rfl) (by kernel_rfl) (fun _ _ _ h => h) (by kernel_rfl) (Or.inl ⟨by rfl, ?hy14⟩) BY0 ?rest14
      case hy14 => (intro W hSw; obtain ⟨x0, x1, _⟩ := blk_at ((hSw.block rb (blk_at HS5.out.box).1).trans HS5.out.box); have y0 := x1 0; have y1 := x1 1; simp at y0 y1; clear x1; go_simp; try (with_reducible rfl))
      try simp only [Act.put, List.setIfInBounds_toArray, List.set_cons_zero, List.set_cons_succ]
      refine' wpAnyD_take (i := 1) (oi := { dst := some 36, op := Go.Op.move (Go.Operand.tmp 7), type := 22, pos := "law.go:45", after := #[], guard := none }) (v := _) rfl (by kernel_rfl) (by kernel_rfl) (by kernel_rfl) (fun _ _ _ h => h) (by kernel_rfl) (Or.inl ⟨by rfl, ?hy15⟩) BY0 ?rest15
      case hy15 => (intro W hSw; obtain ⟨x0, x1, _⟩ := blk_at ((hSw.block rb (blk_at HS5.out.box).1).trans HS5.out.box); have y0 := x1 0; have y1 := x1 1; simp at y0 y1; clear x1; go_simp; try (with_reducible rfl))
      try simp only [Act.put, List.setIfInBounds_toArray, List.set_cons_zero, List.set_cons_succ]
      refine' wpAnyD_take (i := 2) (oi := { dst := some 37, op := Go.Op.move (Go.Operand.tmp 4), type := 22, pos := "law.go:45", after := #[], guard := none }) (v := _) rfl (by kernel_rfl) (by kernel_rfl) (by kernel_rfl) (fun _ _ _ h => h) (by kernel_rfl) (Or.inl ⟨by rfl, ?hy16⟩) BY0 ?rest16
      case hy16 => (intro W hSw; obtain ⟨x0, x1, _⟩ := blk_at ((hSw.block rb (blk_at HS5.out.box).1).trans HS5.out.box); have y0 := x1 0; have y1 := x1 1; simp at y0 y1; clear x1; go_simp; try (with_reducible rfl))
      try simp only [Act.put, List.setIfInBounds_toArray, List.set_cons_zero, List.set_cons_succ]
      refine' wpAnyD_take (i := 3) (oi := { dst := some 38, op := Go.Op.call { callee := Go.Callee.builtin Go.Builtin.len, args := #[Go.Operand.tmp 37], argTypes := #[22] }, type := 3, pos := "law.go:45", after := #[{ on := 2, ground := Go.Ground.data }], guard := none }) (v := _) rfl (by kernel_rfl) (by kernel_rfl) (by kernel_rfl) (fun _ _ _ h => h) (by kernel_rfl) (Or.inl ⟨by rfl, ?hy17⟩) BY0 ?rest17
      case hy17 => (intro W hSw; obtain ⟨x0, x1, _⟩ := blk_at ((hSw.block rb (blk_at HS5.out.box).1).trans HS5.out.box); have y0 := x1 0; have y1 := x1 1; simp at y0 y1; clear x1; go_simp; try (with_reducible rfl))
      try simp only [Act.put, List.setIfInBounds_toArray, List.set_cons_zero, List.set_cons_succ]
      refine' wpAnyD_take (i := 4) (oi := { dst := some 39, op := Go.Op.slice 22 (Go.Operand.tmp 36) none (some (Go.Operand.tmp 38)) none, type := 22, pos := "law.go:45", after := #[{ on := 1, ground := Go.Ground.data }, { on := 3, ground := Go.Ground.data }], guard := none }) (v := _) rfl (by kernel_rfl) (by kernel_rfl) (by kernel_rfl) (fun _ _ _ h => h) (by kernel_rfl) (Or.inl ⟨by rfl, ?hy18⟩) BY0 ?rest18
      case hy18 => (intro W hSw; obtain ⟨x0, x1, _⟩ := blk_at ((hSw.block rb (blk_at HS5.out.box).1).trans HS5.out.box); have y0 := x1 0; have y1 := x1 1; simp at y0 y1; clear x1; go_simp; try (with_reducible rfl))
      try simp only [Act.put, List.setIfInBounds_toArray, List.set_cons_zero, List.set_cons_succ]
      refine' wpAnyD_take (i := 6) (oi := { dst := some 41, op := Go.Op.move (Go.Operand.tmp 3), type := 3, pos := "law.go:45", after := #[], guard := none }) (v := _) rfl (by kernel_rfl) (by kernel_rfl) (by kernel_rfl) (fun _ _ _ h => h) (by kernel_rfl) (Or.inl ⟨by rfl, ?hy19⟩) BY0 ?rest19
      case hy19 => (intro W hSw; obtain ⟨x0, x1, _⟩ := blk_at ((hSw.block rb (blk_at HS5.out.box).1).trans HS5.out.box); have y0 := x1 0; have y1 := x1 1; simp at y0 y1; clear x1; go_simp; try (with_reducible rfl))
      try simp only [Act.put, List.setIfInBounds_toArray, List.set_cons_zero, List.set_cons_succ]
      refine' wpAnyD_take (i := 7) (oi := { dst := some 42, op := Go.Op.move (Go.Operand.tmp 9), type := 22, pos := "law.go:45", after := #[], guard := none }) (v := _) rfl (by kernel_rfl) (by kernel_rfl) (by kernel_rfl) (fun _ _ _ h => h) (by kernel_rfl) (Or.inl ⟨by rfl, ?hy20⟩) BY0 ?rest20
      case hy20 => (intro W hSw; obtain ⟨x0, x1, _⟩ := blk_at ((hSw.block rb (blk_at HS5.out.box).1).trans HS5.out.box); have y0 := x1 0; have y1 := x1 1; simp at y0 y1; clear x1; go_simp; try (with_reducible rfl))
      try simp only [Act.put, List.setIfInBounds_toArray, List.set_cons_zero, List.set_cons_succ]
      refine wpAnyD_one (i := 5) (o := { dst := some 40, op := Go.Op.call { callee := Go.Callee.value (Go.Operand.func 8), args := #[Go.Operand.tmp 35, Go.Operand.tmp 39], argTypes := #[3, 22] }, type := 28, pos := "law.go:45", after := #[{ on := 0, ground := Go.Ground.data }, { on := 4, ground := Go.Ground.data }], guard := none }) (by kernel_rfl) rfl (fun K hK => ?_)
      go_simp
      have hc := check_any k _ (HL5.out.below BY0)
      rw [← HQ.out] at hc
      refine hc.mono ?_
      clear hc
      rintro e y1 ⟨rfl, g1⟩
      have BY1 : Below w5.heap.size w5 y1 := BY0.trans (g1.mono BY0.size)
      clear g1
      go_wp2_with fail
      refine hK.out _ _ (fun hD => BY1) ?_
      clear hK K
      try simp only [Act.put, List.setIfInBounds_toArray, List.set_cons_zero, List.set_cons_succ]
      refine wpAnyD_one (i := 8) (o := { dst := some 43, op := Go.Op.call { callee := Go.Callee.value (Go.Operand.func 13), args := #[Go.Operand.tmp 41, Go.Operand.tmp 42], argTypes := #[3, 22] }, type := 3, pos := "law.go:45", after := #[{ on := 6, ground := Go.Ground.data }, { on := 7, ground := Go.Ground.data }, { on := 5, ground := Go.Ground.chain }], guard := none }) (by kernel_rfl) rfl (fun K hK => ?_)
      go_simp
      have hc := rcheck_any k _ (HN5.out.below BY1)
      rw [← HQ.out] at hc
      refine hc.mono ?_
      clear hc
      rintro e y2 ⟨rfl, g2⟩
      have BY2 : Below w5.heap.size w5 y2 := BY1.trans (g2.mono BY1.size)
      clear g2
      go_wp2_with fail
      refine hK.out _ _ (fun hD => BY2) ?_
      clear hK K
      try simp only [Act.put, List.setIfInBounds_toArray, List.set_cons_zero, List.set_cons_succ]
      refine' wpAnyD_take (i := 9) (oi := { dst := some 44, op := Go.Op.binOp Go.BinOp.neq 3 (Go.Operand.tmp 40) (Go.Operand.tmp 43) 3, type := 4, pos := "law.go:45", after := #[{ on := 5, ground := Go.Ground.data }, { on := 8, ground := Go.Ground.data }], guard := none }) (v := .bool false) rfl (by kernel_rfl) (by kernel_rfl) (by kernel_rfl) (fun _ _ _ h => h) (by kernel_rfl) (Or.inl ⟨by rfl, ?hy23⟩) BY2 ?rest23
      case hy23 => (intro W hSw; obtain ⟨x0, x1, _⟩ := blk_at ((hSw.block rb (blk_at HS5.out.box).1).trans HS5.out.box); have y0 := x1 0; have y1 := x1 1; simp at y0 y1; clear x1; go_simp; try (with_reducible rfl))
      try simp only [Act.put, List.setIfInBounds_toArray, List.set_cons_zero, List.set_cons_succ]
      refine' wpAnyD_take (i := 10) (oi := { dst := some 45, op := Go.Op.move (Go.Operand.tmp 44), type := 4, pos := "law.go:45", after := #[{ on := 9, ground := Go.Ground.data }, { on := 8, ground := Go.Ground.chain }], guard := none }) (v := _) rfl (by kernel_rfl) (by kernel_rfl) (by kernel_rfl) (fun _ _ _ h => h) (by kernel_rfl) (Or.inl ⟨by rfl, ?hy24⟩) BY2 ?rest24
      case hy24 => (intro W hSw; obtain ⟨x0, x1, _⟩ := blk_at ((hSw.block rb (blk_at HS5.out.box).1).trans HS5.out.box); have y0 := x1 0; have y1 := x1 1; simp at y0 y1; clear x1; go_simp; try (with_reducible rfl))
      try simp only [Act.put, List.setIfInBounds_toArray, List.set_cons_zero, List.set_cons_succ]
      refine' wpAnyD_take (i := 11) (oi := { dst := some 46, op := Go.Op.move (Go.Operand.tmp 7), type := 22, pos := "law.go:45", after := #[{ on := 10, ground := Go.Ground.guard }], guard := some (10, false) }) (v := _) rfl (by kernel_rfl) (by kernel_rfl) (by kernel_rfl) (fun _ _ _ h => h) (by kernel_rfl) (Or.inl ⟨by rfl, ?hy25⟩) BY2 ?rest25
      case hy25 => (intro W hSw; obtain ⟨x0, x1, _⟩ := blk_at ((hSw.block rb (blk_at HS5.out.box).1).trans HS5.out.box); have y0 := x1 0; have y1 := x1 1; simp at y0 y1; clear x1; go_simp; try (with_reducible rfl))
      try simp only [Act.put, List.setIfInBounds_toArray, List.set_cons_zero, List.set_cons_succ]
      refine' wpAnyD_take (i := 12) (oi := { dst := some 47, op := Go.Op.move (Go.Operand.tmp 4), type := 22, pos := "law.go:45", after := #[{ on := 10, ground := Go.Ground.guard }], guard := some (10, false) }) (v := _) rfl (by kernel_rfl) (by kernel_rfl) (by kernel_rfl) (fun _ _ _ h => h) (by kernel_rfl) (Or.inl ⟨by rfl, ?hy26⟩) BY2 ?rest26
      case hy26 => (intro W hSw; obtain ⟨x0, x1, _⟩ := blk_at ((hSw.block rb (blk_at HS5.out.box).1).trans HS5.out.box); have y0 := x1 0; have y1 := x1 1; simp at y0 y1; clear x1; go_simp; try (with_reducible rfl))
      try simp only [Act.put, List.setIfInBounds_toArray, List.set_cons_zero, List.set_cons_succ]
      refine' wpAnyD_take (i := 13) (oi := { dst := some 48, op := Go.Op.call { callee := Go.Callee.builtin Go.Builtin.len, args := #[Go.Operand.tmp 47], argTypes := #[22] }, type := 3, pos := "law.go:45", after := #[{ on := 12, ground := Go.Ground.data }, { on := 10, ground := Go.Ground.guard }], guard := some (10, false) }) (v := _) rfl (by kernel_rfl) (by kernel_rfl) (by kernel_rfl) (fun _ _ _ h => h) (by kernel_rfl) (Or.inl ⟨by rfl, ?hy27⟩) BY2 ?rest27
      case hy27 => (intro W hSw; obtain ⟨x0, x1, _⟩ := blk_at ((hSw.block rb (blk_at HS5.out.box).1).trans HS5.out.box); have y0 := x1 0; have y1 := x1 1; simp at y0 y1; clear x1; go_simp; try (with_reducible rfl))
      try simp only [Act.put, List.setIfInBounds_toArray, List.set_cons_zero, List.set_cons_succ]
      refine' wpAnyD_take (i := 14) (oi := { dst := some 49, op := Go.Op.slice 22 (Go.Operand.tmp 46) none (some (Go.Operand.tmp 48)) none, type := 22, pos := "law.go:45", after := #[{ on := 11, ground := Go.Ground.data }, { on := 13, ground := Go.Ground.data }, { on := 10, ground := Go.Ground.guard }], guard := some (10, false) }) (v := _) rfl (by kernel_rfl) (by kernel_rfl) (by kernel_rfl) (fun _ _ _ h => h) (by kernel_rfl) (Or.inl ⟨by rfl, ?hy28⟩) BY2 ?rest28
      case hy28 => (intro W hSw; obtain ⟨x0, x1, _⟩ := blk_at ((hSw.block rb (blk_at HS5.out.box).1).trans HS5.out.box); have y0 := x1 0; have y1 := x1 1; simp at y0 y1; clear x1; go_simp; try (with_reducible rfl))
      try simp only [Act.put, List.setIfInBounds_toArray, List.set_cons_zero, List.set_cons_succ]
      refine' wpAnyD_take (i := 15) (oi := { dst := some 50, op := Go.Op.load 25 (Go.Operand.tmp 6), type := 25, pos := "law.go:45", after := #[{ on := 10, ground := Go.Ground.guard }], guard := some (10, false) }) (v := _) rfl (by kernel_rfl) (by kernel_rfl) (by kernel_rfl) (fun _ _ _ h => h) (by kernel_rfl) (Or.inl ⟨by rfl, ?hy29⟩) BY2 ?rest29
      case hy29 => (intro W hSw; obtain ⟨x0, x1, _⟩ := blk_at ((hSw.block rb (blk_at HS5.out.box).1).trans HS5.out.box); have y0 := x1 0; have y1 := x1 1; simp at y0 y1; clear x1; go_simp; try (with_reducible rfl))
      try simp only [Act.put, List.setIfInBounds_toArray, List.set_cons_zero, List.set_cons_succ]
      refine' wpAnyD_take (i := 17) (oi := { dst := some 52, op := Go.Op.move (Go.Operand.tmp 9), type := 22, pos := "law.go:45", after := #[{ on := 10, ground := Go.Ground.guard }], guard := some (10, false) }) (v := _) rfl (by kernel_rfl) (by kernel_rfl) (by kernel_rfl) (fun _ _ _ h => h) (by kernel_rfl) (Or.inl ⟨by rfl, ?hy30⟩) BY2 ?rest30
      case hy30 => (intro W hSw; obtain ⟨x0, x1, _⟩ := blk_at ((hSw.block rb (blk_at HS5.out.box).1).trans HS5.out.box); have y0 := x1 0; have y1 := x1 1; simp at y0 y1; clear x1; go_simp; try (with_reducible rfl))
      try simp only [Act.put, List.setIfInBounds_toArray, List.set_cons_zero, List.set_cons_succ]
      refine' wpAnyD_take (i := 18) (oi := { dst := some 53, op := Go.Op.load 25 (Go.Operand.tmp 6), type := 25, pos := "law.go:45", after := #[{ on := 10, ground := Go.Ground.guard }], guard := some (10, false) }) (v := _) rfl (by kernel_rfl) (by kernel_rfl) (by kernel_rfl) (fun _ _ _ h => h) (by kernel_rfl) (Or.inl ⟨by rfl, ?hy31⟩) BY2 ?rest31
      case hy31 => (intro W hSw; obtain ⟨x0, x1, _⟩ := blk_at ((hSw.block rb (blk_at HS5.out.box).1).trans HS5.out.box); have y0 := x1 0; have y1 := x1 1; simp at y0 y1; clear x1; go_simp; try (with_reducible rfl))
      try simp only [Act.put, List.setIfInBounds_toArray, List.set_cons_zero, List.set_cons_succ]
      refine wpAnyD_one (i := 16) (o := { dst := some 51, op := Go.Op.call { callee := Go.Callee.value (Go.Operand.func 9), args := #[Go.Operand.tmp 49, Go.Operand.tmp 50], argTypes := #[22, 25] }, type := 25, pos := "law.go:45", after := #[{ on := 14, ground := Go.Ground.data }, { on := 15, ground := Go.Ground.data }, { on := 10, ground := Go.Ground.chain }, { on := 10, ground := Go.Ground.guard }], guard := some (10, false) }) (by kernel_rfl) rfl (fun K hK => ?_)
      rw [if_pos (by kernel_rfl)]
      go_simp
      have hc := map_any HR.out HOK.out _ (HL5.out.below BY2)
      rw [← HSM.out] at hc
      refine hc.mono ?_
      clear hc
      rintro e y3 ⟨rfl, g3⟩
      have BY3 : Below w5.heap.size w5 y3 := BY2.trans (g3.mono BY2.size)
      clear g3
      go_wp2_with fail
      refine hK.out _ _ (fun hD => BY3) ?_
      clear hK K
      try simp only [Act.put, List.setIfInBounds_toArray, List.set_cons_zero, List.set_cons_succ]
      refine wpAnyD_one (i := 19) (o := { dst := some 54, op := Go.Op.call { callee := Go.Callee.value (Go.Operand.func 14), args := #[Go.Operand.tmp 52, Go.Operand.tmp 53], argTypes := #[22, 25] }, type := 25, pos := "law.go:45", after := #[{ on := 17, ground := Go.Ground.data }, { on := 18, ground := Go.Ground.data }, { on := 16, ground := Go.Ground.chain }, { on := 10, ground := Go.Ground.guard }], guard := some (10, false) }) (by kernel_rfl) rfl (fun K hK => ?_)
      rw [if_pos (by kernel_rfl)]
      go_simp
      have hc := rmap_any HR.out HOK.out _ (HN5.out.below BY3)
      rw [← HSM.out] at hc
      refine hc.mono ?_
      clear hc
      rintro e y4 ⟨rfl, g4⟩
      have BY4 : Below w5.heap.size w5 y4 := BY3.trans (g4.mono BY3.size)
      clear g4
      go_wp2_with fail
      refine hK.out _ _ (fun hD => BY4) ?_
      clear hK K
      try simp only [Act.put, List.setIfInBounds_toArray, List.set_cons_zero, List.set_cons_succ]
      refine wpAnyD_one (i := 20) (o := { dst := some 55, op := Go.Op.binOp Go.BinOp.neq 25 (Go.Operand.tmp 51) (Go.Operand.tmp 54) 25, type := 4, pos := "law.go:45", after := #[{ on := 16, ground := Go.Ground.data }, { on := 19, ground := Go.Ground.data }, { on := 10, ground := Go.Ground.guard }], guard := some (10, false) }) (by kernel_rfl) rfl (fun K hK => ?_)
      rw [if_pos (by kernel_rfl)]
      go_simp
      refine hK.out _ _ (fun hD => BY4) ?_
      clear hK K
      try simp only [Act.put, List.setIfInBounds_toArray, List.set_cons_zero, List.set_cons_succ]
      refine wpAnyD_one (i := 21) (o := { dst := some 56, op := Go.Op.pick (Go.Operand.tmp 45) (Go.Operand.const (Go.Value.bool true)) (Go.Operand.tmp 55), type := 4, pos := "law.go:45", after := #[{ on := 10, ground := Go.Ground.data }, { on := 20, ground := Go.Ground.data }], guard := none }) (by kernel_rfl) rfl (fun K hK => ?_)
      go_simp
      refine hK.out _ _ (fun hD => BY4) ?_
      clear hK K
      try simp only [Act.put, List.setIfInBounds_toArray, List.set_cons_zero, List.set_cons_succ]
      refine wpAnyD_one (i := 22) (o := { dst := some 57, op := Go.Op.move (Go.Operand.tmp 56), type := 4, pos := "law.go:45", after := #[{ on := 21, ground := Go.Ground.data }, { on := 19, ground := Go.Ground.chain }], guard := none }) (by kernel_rfl) rfl (fun K hK => ?_)
      go_simp
      refine hK.out _ _ (fun hD => BY4) ?_
      clear hK K
      try simp only [Act.put, List.setIfInBounds_toArray, List.set_cons_zero, List.set_cons_succ]
      refine' wpAnyD_take (i := 23) (oi := { dst := some 58, op := Go.Op.move (Go.Operand.tmp 7), type := 22, pos := "law.go:45", after := #[{ on := 22, ground := Go.Ground.guard }], guard := some (22, false) }) (v := _) rfl (by kernel_rfl) (by kernel_rfl) (by kernel_rfl) (fun _ _ _ h => h) (by kernel_rfl) (Or.inl ⟨by rfl, ?hy37⟩) BY4 ?rest37
      case hy37 => (intro W hSw; obtain ⟨x0, x1, _⟩ := blk_at ((hSw.block rb (blk_at HS5.out.box).1).trans HS5.out.box); have y0 := x1 0; have y1 := x1 1; simp at y0 y1; clear x1; go_simp; try (with_reducible rfl))
      try simp only [Act.put, List.setIfInBounds_toArray, List.set_cons_zero, List.set_cons_succ]
      refine' wpAnyD_take (i := 24) (oi := { dst := some 59, op := Go.Op.move (Go.Operand.tmp 4), type := 22, pos := "law.go:45", after := #[{ on := 22, ground := Go.Ground.guard }], guard := some (22, false) }) (v := _) rfl (by kernel_rfl) (by kernel_rfl) (by kernel_rfl) (fun _ _ _ h => h) (by kernel_rfl) (Or.inl ⟨by rfl, ?hy38⟩) BY4 ?rest38
      case hy38 => (intro W hSw; obtain ⟨x0, x1, _⟩ := blk_at ((hSw.block rb (blk_at HS5.out.box).1).trans HS5.out.box); have y0 := x1 0; have y1 := x1 1; simp at y0 y1; clear x1; go_simp; try (with_reducible rfl))
      try simp only [Act.put, List.setIfInBounds_toArray, List.set_cons_zero, List.set_cons_succ]
      refine' wpAnyD_take (i := 25) (oi := { dst := some 60, op := Go.Op.call { callee := Go.Callee.builtin Go.Builtin.len, args := #[Go.Operand.tmp 59], argTypes := #[22] }, type := 3, pos := "law.go:45", after := #[{ on := 24, ground := Go.Ground.data }, { on := 22, ground := Go.Ground.guard }], guard := some (22, false) }) (v := _) rfl (by kernel_rfl) (by kernel_rfl) (by kernel_rfl) (fun _ _ _ h => h) (by kernel_rfl) (Or.inl ⟨by rfl, ?hy39⟩) BY4 ?rest39
      case hy39 => (intro W hSw; obtain ⟨x0, x1, _⟩ := blk_at ((hSw.block rb (blk_at HS5.out.box).1).trans HS5.out.box); have y0 := x1 0; have y1 := x1 1; simp at y0 y1; clear x1; go_simp; try (with_reducible rfl))
      try simp only [Act.put, List.setIfInBounds_toArray, List.set_cons_zero, List.set_cons_succ]
      refine' wpAnyD_take (i := 26) (oi := { dst := some 61, op := Go.Op.slice 22 (Go.Operand.tmp 58) none (some (Go.Operand.tmp 60)) none, type := 22, pos := "law.go:45", after := #[{ on := 23, ground := Go.Ground.data }, { on := 25, ground := Go.Ground.data }, { on := 22, ground := Go.Ground.guard }], guard := some (22, false) }) (v := _) rfl (by kernel_rfl) (by kernel_rfl) (by kernel_rfl) (fun _ _ _ h => h) (by kernel_rfl) (Or.inl ⟨by rfl, ?hy40⟩) BY4 ?rest40
      case hy40 => (intro W hSw; obtain ⟨x0, x1, _⟩ := blk_at ((hSw.block rb (blk_at HS5.out.box).1).trans HS5.out.box); have y0 := x1 0; have y1 := x1 1; simp at y0 y1; clear x1; go_simp; try (with_reducible rfl))
      try simp only [Act.put, List.setIfInBounds_toArray, List.set_cons_zero, List.set_cons_succ]
      refine' wpAnyD_take (i := 27) (oi := { dst := some 62, op := Go.Op.load 25 (Go.Operand.tmp 6), type := 25, pos := "law.go:45", after := #[{ on := 22, ground := Go.Ground.guard }], guard := some (22, false) }) (v := _) rfl (by kernel_rfl) (by kernel_rfl) (by kernel_rfl) (fun _ _ _ h => h) (by kernel_rfl) (Or.inl ⟨by rfl, ?hy41⟩) BY4 ?rest41
      case hy41 => (intro W hSw; obtain ⟨x0, x1, _⟩ := blk_at ((hSw.block rb (blk_at HS5.out.box).1).trans HS5.out.box); have y0 := x1 0; have y1 := x1 1; simp at y0 y1; clear x1; go_simp; try (with_reducible rfl))
      try simp only [Act.put, List.setIfInBounds_toArray, List.set_cons_zero, List.set_cons_succ]
      refine' wpAnyD_take (i := 29) (oi := { dst := some 64, op := Go.Op.move (Go.Operand.tmp 9), type := 22, pos := "law.go:45", after := #[{ on := 22, ground := Go.Ground.guard }], guard := some (22, false) }) (v := _) rfl (by kernel_rfl) (by kernel_rfl) (by kernel_rfl) (fun _ _ _ h => h) (by kernel_rfl) (Or.inl ⟨by rfl, ?hy42⟩) BY4 ?rest42
      case hy42 => (intro W hSw; obtain ⟨x0, x1, _⟩ := blk_at ((hSw.block rb (blk_at HS5.out.box).1).trans HS5.out.box); have y0 := x1 0; have y1 := x1 1; simp at y0 y1; clear x1; go_simp; try (with_reducible rfl))
      try simp only [Act.put, List.setIfInBounds_toArray, List.set_cons_zero, List.set_cons_succ]
      refine' wpAnyD_take (i := 30) (oi := { dst := some 65, op := Go.Op.load 25 (Go.Operand.tmp 6), type := 25, pos := "law.go:45", after := #[{ on := 22, ground := Go.Ground.guard }], guard := some (22, false) }) (v := _) rfl (by kernel_rfl) (by kernel_rfl) (by kernel_rfl) (fun _ _ _ h => h) (by kernel_rfl) (Or.inl ⟨by rfl, ?hy43⟩) BY4 ?rest43
      case hy43 => (intro W hSw; obtain ⟨x0, x1, _⟩ := blk_at ((hSw.block rb (blk_at HS5.out.box).1).trans HS5.out.box); have y0 := x1 0; have y1 := x1 1; simp at y0 y1; clear x1; go_simp; try (with_reducible rfl))
      try simp only [Act.put, List.setIfInBounds_toArray, List.set_cons_zero, List.set_cons_succ]
      refine wpAnyD_one (i := 28) (o := { dst := some 63, op := Go.Op.call { callee := Go.Callee.value (Go.Operand.func 10), args := #[Go.Operand.tmp 61, Go.Operand.tmp 62], argTypes := #[22, 25] }, type := 4, pos := "law.go:45", after := #[{ on := 26, ground := Go.Ground.data }, { on := 27, ground := Go.Ground.data }, { on := 22, ground := Go.Ground.chain }, { on := 22, ground := Go.Ground.guard }], guard := some (22, false) }) (by kernel_rfl) rfl (fun K hK => ?_)
      rw [if_pos (by kernel_rfl)]
      go_simp
      have hc := pass_any r _ (HL5.out.below BY4)
      rw [← HSP.out] at hc
      refine hc.mono ?_
      clear hc
      rintro e y5 ⟨rfl, g5⟩
      have BY5 : Below w5.heap.size w5 y5 := BY4.trans (g5.mono BY4.size)
      clear g5
      go_wp2_with fail
      refine hK.out _ _ (fun hD => BY5) ?_
      clear hK K
      try simp only [Act.put, List.setIfInBounds_toArray, List.set_cons_zero, List.set_cons_succ]
      refine wpAnyD_one (i := 31) (o := { dst := some 66, op := Go.Op.call { callee := Go.Callee.value (Go.Operand.func 15), args := #[Go.Operand.tmp 64, Go.Operand.tmp 65], argTypes := #[22, 25] }, type := 4, pos := "law.go:45", after := #[{ on := 29, ground := Go.Ground.data }, { on := 30, ground := Go.Ground.data }, { on := 28, ground := Go.Ground.chain }, { on := 22, ground := Go.Ground.guard }], guard := some (22, false) }) (by kernel_rfl) rfl (fun K hK => ?_)
      rw [if_pos (by kernel_rfl)]
      go_simp
      have hc := rpass_any r _ (HN5.out.below BY5)
      rw [← HSP.out] at hc
      refine hc.mono ?_
      clear hc
      rintro e y6 ⟨rfl, g6⟩
      have BY6 : Below w5.heap.size w5 y6 := BY5.trans (g6.mono BY5.size)
      clear g6
      go_wp2_with fail
      refine hK.out _ _ (fun hD => BY6) ?_
      clear hK K
      try simp only [Act.put, List.setIfInBounds_toArray, List.set_cons_zero, List.set_cons_succ]
      refine wpAnyD_one (i := 32) (o := { dst := some 67, op := Go.Op.binOp Go.BinOp.neq 4 (Go.Operand.tmp 63) (Go.Operand.tmp 66) 4, type := 4, pos := "law.go:45", after := #[{ on := 28, ground := Go.Ground.data }, { on := 31, ground := Go.Ground.data }, { on := 22, ground := Go.Ground.guard }], guard := some (22, false) }) (by kernel_rfl) rfl (fun K hK => ?_)
      rw [if_pos (by kernel_rfl)]
      go_simp
      refine hK.out _ _ (fun hD => BY6) ?_
      clear hK K
      try simp only [Act.put, List.setIfInBounds_toArray, List.set_cons_zero, List.set_cons_succ]
      refine wpAnyD_one (i := 33) (o := { dst := some 68, op := Go.Op.pick (Go.Operand.tmp 57) (Go.Operand.const (Go.Value.bool true)) (Go.Operand.tmp 67), type := 4, pos := "law.go:45", after := #[{ on := 22, ground := Go.Ground.data }, { on := 32, ground := Go.Ground.data }], guard := none }) (by kernel_rfl) rfl (fun K hK => ?_)
      go_simp
      refine hK.out _ _ (fun hD => BY6) ?_
      clear hK K
      try simp only [Act.put, List.setIfInBounds_toArray, List.set_cons_zero, List.set_cons_succ]
      refine wpAnyD_done (by kernel_rfl) ?_ _
      have HS11 := hid (HS5.out.below BY6)
      have HL11 := hid (HL5.out.below BY6)
      have HN11 := hid (HN5.out.below BY6)
      clear BY0 BY1 BY2 BY3 BY4 BY5 BY6 HS5 HL5 HN5
      go_wp2_with fail
      refine (sameOps_eq _ (HL11.out) (HN11.out) (by rw [HLC.out]; omega)).mono ?_
      rintro e w12 ⟨rfl, G12⟩
      have HS12 := hid (HS11.out.below G12.below)
      clear G12 HS11 HL11 HN11
      obtain ⟨m0, m1, m2⟩ := HS12.out.mark
      have hnc : (n : Int) < ((n + 1 : Nat) : Int) := by omega
      go_wp2_with fail
      have HS13 : Hid (∃ cur, Sy w w12 g cap n rb r cur) := ⟨cur, HS12.out⟩
      clear HS12 m0 m1 m2 HQ HSM HSP HOK HLC
      go_loopw [10] (fun s10 wi => ∃ i : Nat, i ≤ n ∧ s10 = .int .i64 (i : Nat) ∧ Hid (∃ cur, Sy w wi g cap n rb r cur)) (fun s10 _ => n - (RowKit.intOf s10).toNat)
      case atStart => exact ⟨0, Nat.zero_le _, rfl, HS13.out⟩
      case round =>
        clear HS13
        obtain ⟨i, hi, rfl, HI⟩ := hrel
        obtain ⟨cur2, hs⟩ := HI.out
        have HS := hid hs
        clear HI
        by_cases hin : i < n
        · have z1 : (i : Int) < (n : Int) := by omega
          by_cases hit : i < nt
          · have z2 : (i : Int) < (nt : Int) := by omega
            have z3 : (0 : Int) ≤ (i : Int) := by omega
            have z4 : (i : Int) < ((n + 1 : Nat) : Int) := by omega
            obtain ⟨x, hx⟩ : ∃ x, tl[i]? = some x := ⟨tl[i]'(by have := HNT.out; omega), by simp⟩
            obtain ⟨b1, o1, q1, e1, l1, y0, y1⟩ := ls_at ((HVT.out.below hs.bl).ls hx) hx
            simp only [Value.slice.injEq] at e1
            obtain ⟨rfl, -, rfl⟩ := e1
            have HXK : Hid (Ook x) := HT.out x (List.mem_of_getElem? hx)
            obtain ⟨x2, hx2⟩ : ∃ x2, cur2[i]? = some x2 := ⟨cur2[i]'(by have := hs.len; omega), by simp⟩
            obtain ⟨b2, o2, q2, e2, l2, u0, u1⟩ := ls_at hs.ls hx2
            simp only [Value.slice.injEq, Option.some.injEq, Addr.mk.injEq] at e2
            obtain ⟨⟨rfl, rfl, -⟩, -, rfl⟩ := e2
            rw [Nat.zero_add] at u0 u1
            have f0 : ∀ j, wr.frozen? ⟨g, j, none⟩ = false := fun j => by
              rcases hs.own.2 with ⟨h0, _⟩ | ⟨g', _, _, hv, _, hh, _⟩
              · cases h0
              · simp only [Value.slice.injEq, Option.some.injEq, Addr.mk.injEq] at hv
                obtain ⟨⟨rfl, -, -⟩, -, -⟩ := hv
                simp [World.frozen?, hh]
            clear hx hx2 hs
            go_wp2_with fail
            exact ⟨⟨i + 1, by omega, by go_num, _, HS.out.put HNE.out hin HXK.out⟩, by simp [RowKit.intOf]; omega⟩
          · have z2 : ¬ (i : Int) < (nt : Int) := by omega
            clear hs
            go_wp2_with fail
            exact ⟨⟨t + 1, by omega, by go_num, _, HS.out⟩, by simp [RowKit.intOf]; omega⟩
        · have z1 : ¬ (i : Int) < (n : Int) := by omega
          clear hs
          go_wp2_with fail
          exact ⟨⟨t + 1, by omega, by go_num, _, HS.out⟩, by simp [RowKit.intOf]; omega⟩
    · have hz : ¬ (t : Int) < 2 := by omega
      have hkn := known_any wr
      go_wp2_with fail
      refine hkn.mono ?_
      rintro e w6 ⟨rfl, B6⟩
      go_wp2_with fail
      go_ret
      exact ⟨rfl, HS.out.bl.trans (B6.mono HS.out.bl.size)⟩
  end Go.Proofs.Ythekfbillnpkkaa.Cd
