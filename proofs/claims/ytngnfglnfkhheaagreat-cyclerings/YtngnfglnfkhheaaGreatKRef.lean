import Derived.Test.YtngnfglnfkhheaaGreatJ2
import Derived.Test.YtngnfglnfkhheaaGreatGChk6
import Derived.BigQuiet
namespace Go.Proofs.YtngnfglnfkhheaaGreat.Df
open Go.RowKit Go.Sort
attribute [local go_sem ↓] Go.wp_at_zero Go.wp_at_succ
set_option maxHeartbeats 4000000 in
theorem kin_any {nv ev : Value} {a : Int} {xs : List NV} (j : Nat) (p : Int) (hp0 : 0 ≤ p) (hp9 : p ≤ 1000) (hj : j ≤ xs.length) (w : World) (h : Nr w nv xs) : Calls Tryz.prog 60 #[.agg (gvc a nv ev), .int .i64 (j : Nat), .int .i64 p] w fun r w' => r = .returned (.int .i64 ((firstN (xs.map NV.n) j : Nat) + p)) ∧ Gr w w' := by
  have g0 := (Gr.refl w).alloc (.cells (gvc a nv ev) 25)
  have HB := hid (heap_new' w (.cells (gvc a nv ev) 25))
  have HN := hid (h.below g0.below)
  obtain ⟨W0, hW0⟩ : ∃ W, W = w.alloc (.cells (gvc a nv ev) 25) := ⟨_, rfl⟩
  have HW : Hid (w.alloc (.cells #[.int .i64 a, nv, ev] 25) = W0) := hW0.symm
  rw [← hW0] at g0 HB HN
  have G0 := hid g0
  obtain ⟨qn, cn, rfl⟩ := h.nodes.form
  have hnl := h.nl
  have HP := hid h.pok
  obtain ⟨ns, hns⟩ : ∃ ns, ns = xs.map NV.n := ⟨_, rfl⟩
  rw [← hns] at HP ⊢
  have HNS := hid hns
  generalize hxl : xs.length = nl at *
  have HXL := hid hxl
  clear h hW0 g0 hns hxl
  have c0 := (tk_store HB.out).1
  have l0 := tk_lt HB.out
  go_enter Tryz.func60, Tryz.ntmps60
  go_upto_region 1 with fail
  rw [HW.out]
  clear HW
  go_wp2_with fail
  clear c0 l0
  go_loopw [7, 8] (fun sn si wr => ∃ i : Nat, i ≤ j ∧ si = .int .i64 (i : Nat) ∧ sn = .int .i64 (firstN ns i : Nat) ∧ Hid (Gr W0 wr)) (fun _ si _ => j - (RowKit.intOf si).toNat)
  case atStart => exact ⟨0, Nat.zero_le _, rfl, rfl, Gr.refl _⟩
  case round =>
    obtain ⟨i, hi, rfl, rfl, HI⟩ := hrel
    have hb0 := (HI.out.below.block _ (tk_lt HB.out)).trans HB.out
    have c1 := (tk_store hb0).1
    have l1 := tk_lt hb0
    clear hb0
    by_cases hlt : i < j
    · have hltz : (i : Int) < (j : Int) := by omega
      have hi0 : (0 : Int) ≤ (i : Int) := by omega
      have hil : (i : Int) < (nl : Int) := by omega
      obtain ⟨y, hy⟩ : ∃ y, xs[i]? = some y := ⟨xs[i]'(by have := HXL.out; omega), by simp⟩
      have HYN : Hid (ns[i]? = some y.n) := by show _ = _; rw [HNS.out]; simp [hy]
      obtain ⟨b1, o1, q1, ev1, zz1, x0, x1, x2, -⟩ := ls_atV ((HN.out.nodes.below HI.out.below).ls hy) hy
      simp only [Value.slice.injEq] at ev1
      obtain ⟨rfl, -, rfl⟩ := ev1
      have HFS := hid (fn_pos HYN.out HP.out)
      have hf1 := firstN_le HP.out i
      have hq := HP.out y.n (List.mem_of_getElem? HYN.out)
      obtain ⟨m, hm⟩ : ∃ m, m = firstN ns i := ⟨_, rfl⟩
      rw [← hm] at HFS hf1 ⊢
      have hm9 : (m : Int) ≤ 192 := by omega
      have q1 : 0 ≤ y.n.ins := hq.1
      have q2 : y.n.ins ≤ 4 := hq.2.1
      have q3 : 0 ≤ y.n.outs := hq.2.2.1
      have q4 : y.n.outs ≤ 4 := hq.2.2.2
      clear hy hm hq hf1
      go_upto_region 5 with fail
      go_quiet (fail)
      have G1 := hid (HI.out.drewN nq)
      clear x0 x1 x2 zz1 c1 l1
      go_wp2_with fail
      go_roundw
      case rel => exact ⟨i + 1, by omega, by go_num, by rw [← HFS.out], G1.out⟩
      case measure => simp [RowKit.intOf]; omega
    · have hltz : ¬ (i : Int) < (j : Int) := by omega
      obtain rfl : i = j := by omega
      have hf1 := firstN_le HP.out i
      obtain ⟨m, hm⟩ : ∃ m, m = firstN ns i := ⟨_, rfl⟩
      rw [← hm] at hf1 ⊢
      have hm9 : (m : Int) ≤ 192 := by omega
      have HM := hid hm
      clear hm hf1
      go_wp2_with fail
      go_ret
      exact ⟨by rw [show firstN ns i = m from HM.out.symm]; first | rfl | (congr 2; go_num), G0.out.trans HI.out⟩
set_option maxHeartbeats 4000000 in
theorem kout_any {nv ev : Value} {a : Int} {xs : List NV} (j : Nat) (p : Int) (y : NV) (hy : xs[j]? = some y) (hp0 : 0 ≤ p) (hp9 : p ≤ 900) (w : World) (h : Nr w nv xs) : Calls Tryz.prog 61 #[.agg (gvc a nv ev), .int .i64 (j : Nat), .int .i64 p] w fun r w' => r = .returned (.int .i64 ((firstN (xs.map NV.n) j : Nat) + (y.n.ins + p))) ∧ Gr w w' := by
  have hmx : Tryz.prog.follows .mixedOrders = true := by kernel_rfl
  have hq := h.pok y.n (List.mem_map_of_mem (List.mem_of_getElem? hy))
  have g0 := (Gr.refl w).alloc (.cells (gvc a nv ev) 25)
  have HB := hid (heap_new' w (.cells (gvc a nv ev) 25))
  have HN := hid (h.below g0.below)
  obtain ⟨W0, hW0⟩ : ∃ W, W = w.alloc (.cells (gvc a nv ev) 25) := ⟨_, rfl⟩
  obtain ⟨gb, hgb⟩ : ∃ b, b = w.heap.size := ⟨_, rfl⟩
  have HW : Hid (w.alloc (.cells #[.int .i64 a, nv, ev] 25) = W0 ∧ w.heap.size = gb) := ⟨hW0.symm, hgb.symm⟩
  rw [← hW0] at g0 HB HN
  rw [← hgb] at HB
  have G0 := hid g0
  have hjl := (List.getElem?_eq_some_iff.1 hy).1
  have hcall := fun (W : World) (hb : Below W0.heap.size W0 W) => kin_any (nv := nv) (ev := ev) (a := a) j (y.n.ins + p) (by omega) (by omega) (Nat.le_of_lt hjl) W (HN.out.below hb)
  obtain ⟨b1, o1, q1, ev1, zz1, x0, x1, x2, -⟩ := ls_atV (HN.out.nodes.ls hy) hy
  subst ev1
  have HX : Hid (W0.cell? ⟨b1, o1 + j * 10 + 1, none⟩ = some (.int .i64 y.n.ins) ∧ b1 < W0.heap.size) := ⟨x1, zz1⟩
  have hjz : (j : Int) < (xs.length : Int) := by omega
  have hj0 : (0 : Int) ≤ (j : Int) := by omega
  have hwr : IntKind.i64.wrap (y.n.ins + p) = y.n.ins + p := by rw [IntKind.wrap_i64]; omega
  generalize (firstN (xs.map NV.n) j) = m at hcall
  generalize xs.length = nl at hjz HB HW hcall
  clear h hW0 g0 hgb x0 x1 x2 zz1 hy hq hjl HN
  go_enter Tryz.func61, Tryz.ntmps61
  go_upto_region 1 with fail
  rw [HW.out.1, HW.out.2]
  clear HW
  have hS0 : Below W0.heap.size W0 W0.drew := (Gr.refl W0).drew.below
  refine wp_regionD (S := fun W => Below W0.heap.size W0 W) (D := []) hmx ?_
  refine' wpAnyD_take (i := 0) (oi := { dst := some 7, op := Go.Op.load 25 (Go.Operand.tmp 3), type := 25, pos := "ref.go:22", after := #[], guard := none }) (v := _) rfl (by kernel_rfl) (by kernel_rfl) (by kernel_rfl) (fun _ _ _ h => h) (by kernel_rfl) (Or.inl ⟨by rfl, ?hy1⟩) hS0 ?rest1
  case hy1 => (intro W hSw; have hb := (hSw.block _ (tk_lt HB.out)).trans HB.out; have hc := (tk_store hb).1; have hl := tk_lt hb; go_simp; try (with_reducible rfl))
  try simp only [Act.put, List.setIfInBounds_toArray, List.set_cons_zero, List.set_cons_succ]
  refine' wpAnyD_take (i := 1) (oi := { dst := some 8, op := Go.Op.move (Go.Operand.tmp 1), type := 3, pos := "ref.go:22", after := #[], guard := none }) (v := _) rfl (by kernel_rfl) (by kernel_rfl) (by kernel_rfl) (fun _ _ _ h => h) (by kernel_rfl) (Or.inl ⟨by rfl, ?hy2⟩) hS0 ?rest2
  case hy2 => (intro W hSw; go_simp; try (with_reducible rfl))
  try simp only [Act.put, List.setIfInBounds_toArray, List.set_cons_zero, List.set_cons_succ]
  refine' wpAnyD_take (i := 2) (oi := { dst := some 9, op := Go.Op.fieldAddr 25 (Go.Operand.tmp 3) 1, type := 0, pos := "ref.go:22", after := #[], guard := none }) (v := _) rfl (by kernel_rfl) (by kernel_rfl) (by kernel_rfl) (fun _ _ _ h => h) (by kernel_rfl) (Or.inl ⟨by rfl, ?hy3⟩) hS0 ?rest3
  case hy3 => (intro W hSw; have hb := (hSw.block _ (tk_lt HB.out)).trans HB.out; have hc := (tk_store hb).1; have hl := tk_lt hb; go_simp; try (with_reducible rfl))
  try simp only [Act.put, List.setIfInBounds_toArray, List.set_cons_zero, List.set_cons_succ]
  refine' wpAnyD_take (i := 3) (oi := { dst := some 10, op := Go.Op.load 22 (Go.Operand.tmp 9), type := 22, pos := "ref.go:22", after := #[{ on := 2, ground := Go.Ground.data }], guard := none }) (v := _) rfl (by kernel_rfl) (by kernel_rfl) (by kernel_rfl) (fun _ _ _ h => h) (by kernel_rfl) (Or.inl ⟨by rfl, ?hy4⟩) hS0 ?rest4
  case hy4 => (intro W hSw; have hb := (hSw.block _ (tk_lt HB.out)).trans HB.out; have hc := (tk_store hb).1; have hl := tk_lt hb; go_simp; try (with_reducible rfl))
  try simp only [Act.put, List.setIfInBounds_toArray, List.set_cons_zero, List.set_cons_succ]
  refine' wpAnyD_take (i := 4) (oi := { dst := some 11, op := Go.Op.move (Go.Operand.tmp 1), type := 3, pos := "ref.go:22", after := #[], guard := none }) (v := _) rfl (by kernel_rfl) (by kernel_rfl) (by kernel_rfl) (fun _ _ _ h => h) (by kernel_rfl) (Or.inl ⟨by rfl, ?hy5⟩) hS0 ?rest5
  case hy5 => (intro W hSw; go_simp; try (with_reducible rfl))
  try simp only [Act.put, List.setIfInBounds_toArray, List.set_cons_zero, List.set_cons_succ]
  refine' wpAnyD_take (i := 5) (oi := { dst := some 12, op := Go.Op.indexAddr 22 (Go.Operand.tmp 10) (Go.Operand.tmp 11), type := 0, pos := "ref.go:22", after := #[{ on := 3, ground := Go.Ground.data }, { on := 4, ground := Go.Ground.data }], guard := none }) (v := _) rfl (by kernel_rfl) (by kernel_rfl) (by kernel_rfl) (fun _ _ _ h => h) (by kernel_rfl) (Or.inl ⟨by rfl, ?hy6⟩) hS0 ?rest6
  case hy6 => (intro W hSw; go_simp; try (with_reducible rfl))
  try simp only [Act.put, List.setIfInBounds_toArray, List.set_cons_zero, List.set_cons_succ]
  refine' wpAnyD_take (i := 6) (oi := { dst := some 13, op := Go.Op.fieldAddr 58 (Go.Operand.tmp 12) 1, type := 0, pos := "ref.go:22", after := #[{ on := 5, ground := Go.Ground.data }], guard := none }) (v := _) rfl (by kernel_rfl) (by kernel_rfl) (by kernel_rfl) (fun _ _ _ h => h) (by kernel_rfl) (Or.inl ⟨by rfl, ?hy7⟩) hS0 ?rest7
  case hy7 => (intro W hSw; go_simp; try (with_reducible rfl))
  try simp only [Act.put, List.setIfInBounds_toArray, List.set_cons_zero, List.set_cons_succ]
  refine' wpAnyD_take (i := 7) (oi := { dst := some 14, op := Go.Op.load 3 (Go.Operand.tmp 13), type := 3, pos := "ref.go:22", after := #[{ on := 6, ground := Go.Ground.data }], guard := none }) (v := _) rfl (by kernel_rfl) (by kernel_rfl) (by kernel_rfl) (fun _ _ _ h => h) (by kernel_rfl) (Or.inl ⟨by rfl, ?hy8⟩) hS0 ?rest8
  case hy8 => (intro W hSw; have hc := (hSw.cell (p := ⟨b1, o1 + j * 10 + 1, none⟩) HX.out.2).trans HX.out.1; have hl := Nat.lt_of_lt_of_le HX.out.2 hSw.size; go_simp; try (with_reducible rfl))
  try simp only [Act.put, List.setIfInBounds_toArray, List.set_cons_zero, List.set_cons_succ]
  refine' wpAnyD_take (i := 8) (oi := { dst := some 15, op := Go.Op.move (Go.Operand.tmp 2), type := 3, pos := "ref.go:22", after := #[], guard := none }) (v := _) rfl (by kernel_rfl) (by kernel_rfl) (by kernel_rfl) (fun _ _ _ h => h) (by kernel_rfl) (Or.inl ⟨by rfl, ?hy9⟩) hS0 ?rest9
  case hy9 => (intro W hSw; go_simp; try (with_reducible rfl))
  try simp only [Act.put, List.setIfInBounds_toArray, List.set_cons_zero, List.set_cons_succ]
  refine' wpAnyD_take (i := 9) (oi := { dst := some 16, op := Go.Op.binOp Go.BinOp.add 3 (Go.Operand.tmp 14) (Go.Operand.tmp 15) 3, type := 3, pos := "ref.go:22", after := #[{ on := 7, ground := Go.Ground.data }, { on := 8, ground := Go.Ground.data }], guard := none }) (v := _) rfl (by kernel_rfl) (by kernel_rfl) (by kernel_rfl) (fun _ _ _ h => h) (by kernel_rfl) (Or.inl ⟨by rfl, ?hy10⟩) hS0 ?rest10
  case hy10 => (intro W hSw; go_simp; try (with_reducible rfl))
  try simp only [Act.put, List.setIfInBounds_toArray, List.set_cons_zero, List.set_cons_succ]
  refine wpAnyD_one (i := 10) (o := { dst := some 17, op := Go.Op.call { callee := Go.Callee.value (Go.Operand.func 60), args := #[Go.Operand.tmp 7, Go.Operand.tmp 8, Go.Operand.tmp 16], argTypes := #[25, 3, 3] }, type := 3, pos := "ref.go:22", after := #[{ on := 0, ground := Go.Ground.data }, { on := 1, ground := Go.Ground.data }, { on := 9, ground := Go.Ground.data }], guard := none }) (by kernel_rfl) rfl (fun K hK => ?_)
  go_simp
  refine (hcall _ hS0).mono ?_
  rintro r w7 ⟨rfl, g7⟩
  have G7 := hid g7
  have hS7 : Below W0.heap.size W0 w7 := hS0.trans (g7.below.mono hS0.size)
  clear g7
  go_wp2_with fail
  refine hK.out _ _ (fun hD => hS7) ?_
  clear hK K
  try simp only [Act.put, List.setIfInBounds_toArray, List.set_cons_zero, List.set_cons_succ]
  refine' wpAnyD_take (i := 11) (oi := { dst := some 6, op := Go.Op.assign (Go.Operand.tmp 17), type := 3, pos := "ref.go:22", after := #[{ on := 10, ground := Go.Ground.data }, { on := 10, ground := Go.Ground.chain }, { on := 0, ground := Go.Ground.phase }, { on := 1, ground := Go.Ground.phase }, { on := 2, ground := Go.Ground.phase }, { on := 3, ground := Go.Ground.phase }, { on := 4, ground := Go.Ground.phase }, { on := 5, ground := Go.Ground.phase }, { on := 6, ground := Go.Ground.phase }, { on := 7, ground := Go.Ground.phase }, { on := 8, ground := Go.Ground.phase }, { on := 9, ground := Go.Ground.phase }, { on := 10, ground := Go.Ground.phase }], guard := none }) (v := _) rfl (by kernel_rfl) (by kernel_rfl) (by kernel_rfl) (fun _ _ _ h => h) (by kernel_rfl) (Or.inl ⟨by rfl, ?hy12⟩) hS7 ?rest12
  case hy12 => (intro W hSw; go_simp; try (with_reducible rfl))
  try simp only [Act.put, List.setIfInBounds_toArray, List.set_cons_zero, List.set_cons_succ]
  refine wpAnyD_done (by kernel_rfl) ?_ _
  go_wp2_with fail
  go_ret
  exact ⟨rfl, (G0.out.trans (Gr.refl W0).drew).trans G7.out⟩
/-- A list that a function hands back: its own, or one that came in. -/
def Rs (w0 : Nat) (W : World) (v : Value) (l : List Con) : Prop := Lz EC W.heap.size W v l ∧ (l = [] ∨ ∀ k, v.ownBlock = some k → k < w0 ∨ ∃ cs z, W.heap[k]? = some (.cells cs 72 z))
theorem Rs.kp {w0 : Nat} {S : Nat → Prop} {W W' : World} {v : Value} {l : List Con} (h : Rs w0 W v l) (hk : Kp S W W') (hS : ∀ k, S k → w0 ≤ k ∧ ∀ cs z, W.heap[k]? ≠ some (.cells cs 72 z)) : Rs w0 W' v l := by
  rcases h.2 with rfl | h2
  · obtain ⟨p, c, rfl⟩ := h.1.form
    exact ⟨Or.inr ⟨rfl, p, c, rfl⟩, Or.inl rfl⟩
  have hn : ∀ k, v.ownBlock = some k → ¬ S k := fun k e e2 => by
    obtain ⟨h1, h4⟩ := hS k e2
    rcases h2 k e with h3 | ⟨cs, z, h3⟩
    · omega
    · exact h4 cs z h3
  refine ⟨?_, Or.inr fun k e => ?_⟩
  · rcases h.1 with ⟨h1, h2⟩ | h1
    · exact Or.inl ⟨hk.ls h1 hn, fun k e => Nat.lt_of_lt_of_le (h2 k e) hk.size⟩
    · exact Or.inr h1
  · rcases h2 k e with h3 | ⟨cs, z, h3⟩
    · exact Or.inl h3
    · exact Or.inr ⟨cs, z, (hk.block _ (tk_lt h3) (hn k e)).trans h3⟩
theorem Rs.below {w0 : Nat} {W W' : World} {v : Value} {l : List Con} (h : Rs w0 W v l) (hb : Below W.heap.size W W') : Rs w0 W' v l := h.kp (S := fun _ => False) (Kp.of_below hb) (fun _ h => h.elim)
theorem rs_own {w0 B : Nat} {W : World} {v : Value} {l : List Con} (h : W.ownsRow B 72 5 v l.length (fl EC l)) : Rs w0 W v l := ⟨owns_lz (E := EC) h, Or.inr fun k e => Or.inr (by obtain ⟨c, f, hc⟩ := Lib.ownsRow_kind h k e; exact ⟨c, f, hc⟩)⟩
theorem con1_own (w : World) (c : Con) : ((w.alloc (.cells (ccells c) 72))).ownsRow w.heap.size 72 5 (.slice (some ⟨w.heap.size, 0, none⟩) 1 1) 1 (fl EC [c]) :=
  ⟨by rw [fl_one]; rfl, Or.inr ⟨w.heap.size, 1, ccells c, rfl, Nat.le_refl _, heap_new' _ _, Nat.le_refl _, by unfold maxLen; omega, rfl, by rw [fl_one]; rfl⟩⟩
/-- What the document's conns answers. -/
def Kc (w0 : Nat) (w : World) (l : List Con) (r : Ending) (w' : World) : Prop := ∃ v, r = .returned v ∧ Below w.heap.size w w' ∧ Rs w0 w' v l
theorem acr1 (i : Nat) : acrL 1 i = (List.range i).map fun (k : Nat) => (⟨(k : Int), 0, (0, 0, 0)⟩ : Con) := by
  induction i with
  | zero => rfl
  | succ i ih =>
    rw [acrL, ih, List.range_succ, List.map_append]
    rfl
set_option maxRecDepth 100000 in
set_option maxHeartbeats 8000000 in
theorem kconns_any {y : NV} {a : Int} {w0 : Nat} (w : World) (hR : Lz EC w0 w y.dv y.n.conns) (hw0 : w0 ≤ w.heap.size) (hf : nflaw a y.n = 0) : Calls Tryz.prog 59 #[.agg y.cells] w (Kc w0 w (connsN y.n)) := by
  obtain ⟨g0, hW0⟩ : ∃ b, b = w.heap.size := ⟨_, rfl⟩
  obtain ⟨W0, hW⟩ : ∃ W, W = w.alloc (.cells y.cells 58) := ⟨_, rfl⟩
  have HB : Hid (W0.heap[g0]? = some (.cells y.cells 58 (0, 0)) ∧ Below w.heap.size w W0) := by rw [hW, hW0]; exact ⟨heap_new' _ _, ((Gr.refl w).alloc _).below⟩
  have HW : Hid (w.alloc (.cells #[.int .i64 y.n.kind, .int .i64 y.n.ins, .int .i64 y.n.outs, y.cv, .int .u64 (y.n.via.1 : Nat), .int .u64 (y.n.via.2.1 : Nat), .int .u64 (y.n.via.2.2 : Nat), .int .u64 (y.n.bound : Nat), y.dv, .bool y.n.start] 58) = W0 ∧ w.heap.size = g0) := ⟨hW.symm, hW0.symm⟩
  have hk := nflaw_kind hf
  obtain ⟨⟨p1, p2⟩, _⟩ := nflaw_rest hf
  have HR := hid hR
  have c0 := (tk_store HB.out.1).1
  have l0 := tk_lt HB.out.1
  have HONE : Hid (∀ c : Con, connsN y.n = [c] → Kc w0 w (connsN y.n) (.returned (.slice (some ⟨W0.heap.size, 0, none⟩) 1 1)) (W0.alloc (.cells (ccells c) 72))) := fun c hc => by
    rw [hc]
    exact ⟨_, rfl, HB.out.2.trans (((Gr.refl W0).alloc _).below.mono HB.out.2.size), rs_own (con1_own W0 c)⟩
  clear hR hW hW0 hf
  have hk8 : y.n.kind = 1 ∨ y.n.kind = 2 ∨ y.n.kind = 3 ∨ y.n.kind = 4 ∨ y.n.kind = 5 ∨ y.n.kind = 6 ∨ y.n.kind = 7 ∨ y.n.kind = 8 := by omega
  obtain ⟨⟨kind, ins, outs, code, via, bound, conns, start⟩, cq, cm, cc, dq, dm, dc⟩ := y
  dsimp only at hk8 hk p1 p2 HW HR HONE c0 HB ⊢
  rcases hk8 with rfl | rfl | rfl | rfl | rfl | rfl | rfl | rfl
  · have e1 : connsN ⟨1, ins, outs, code, via, bound, conns, start⟩ = [] := by
      simp [pIn] at p1
      simp [pOut] at p2
      subst p1
      unfold connsN
      simp [acrL]
    rw [e1]
    clear HONE p1 p2 e1
    go_enter Tryz.func59, Tryz.ntmps59
    go_upto_region 1 with fail
    rw [HW.out.1, HW.out.2]
    clear HW
    go_wp2_with fail
    go_ret
    exact ⟨_, rfl, HB.out.2, Lz.nil _ _ _, Or.inl rfl⟩
  · have e1 : connsN ⟨2, ins, outs, code, via, bound, conns, start⟩ = [⟨0, 0, (0, 0, 0)⟩] := by
      simp [pIn] at p1
      simp [pOut] at p2
      subst p1
      subst p2
      rfl
    have FIN := HONE.out _ e1
    rw [e1] at FIN ⊢
    have FIN := hid FIN
    clear HONE p1 p2 e1
    go_enter Tryz.func59, Tryz.ntmps59
    go_upto_region 1 with fail
    rw [HW.out.1, HW.out.2]
    clear HW
    go_wp2_with fail
    go_ret
    exact FIN.out
  · have e1 : connsN ⟨3, ins, outs, code, via, bound, conns, start⟩ = [⟨0, 0, (0, 0, 0)⟩] := by
      simp [pIn] at p1
      simp [pOut] at p2
      subst p1
      subst p2
      rfl
    have FIN := HONE.out _ e1
    rw [e1] at FIN ⊢
    have FIN := hid FIN
    clear HONE p1 p2 e1
    go_enter Tryz.func59, Tryz.ntmps59
    go_upto_region 1 with fail
    rw [HW.out.1, HW.out.2]
    clear HW
    go_wp2_with fail
    go_ret
    exact FIN.out
  · simp [pIn] at p1
    simp [pOut] at p2
    subst p2
    obtain ⟨m, rfl⟩ : ∃ m : Nat, ins = (m : Int) := ⟨ins.toNat, by omega⟩
    have e1 : connsN ⟨4, (m : Int), 1, code, via, bound, conns, start⟩ = (List.range m).map fun (k : Nat) => (⟨(k : Int), 0, (0, 0, 0)⟩ : Con) := by
      rw [← acr1]
      simp [connsN]
    rw [e1]
    have hm4 : m ≤ 4 := by omega
    have HBW := hid HB.out.2.size
    clear HONE e1 p1
    go_enter Tryz.func59, Tryz.ntmps59
    go_upto_region 1 with fail
    rw [HW.out.1, HW.out.2]
    clear HW
    go_wp2_with fail
    go_loopw [3, 4] (fun s3 s4 wr => ∃ (i : Nat) (lv : Value), i ≤ m ∧ s4 = .int .i64 (i : Nat) ∧ lv = s3 ∧ Hid (Below W0.heap.size W0 wr ∧ wr.ownsRow W0.heap.size 72 5 lv i (fl EC ((List.range i).map fun (k : Nat) => (⟨(k : Int), 0, (0, 0, 0)⟩ : Con))))) (fun _ s4 _ => m - (RowKit.intOf s4).toNat)
    case atStart => exact ⟨0, _, Nat.zero_le _, rfl, rfl, Below.refl _ _, World.ownsRow_nil _ _ _ _⟩
    case round =>
      obtain ⟨i, lv, hi, rfl, rfl, HI⟩ := hrel
      have c1 := (tk_store ((HI.out.1.block _ (tk_lt HB.out.1)).trans HB.out.1)).1
      have l1 := Nat.lt_of_lt_of_le (tk_lt HB.out.1) HI.out.1.size
      by_cases hlt : i < m
      · have hltz : (i : Int) < (m : Int) := by omega
        have HSZ := hid HI.out.1.size
        go_wp2_with (at_builtin; refine wpApp1 EC Tryz.underlying56 infoC rfl (by decide) rfl _ _ rfl W0.heap.size _ i _ rfl HI.out.2 ⟨(i : Int), 0, (0, 0, 0)⟩ rfl (by omega) (by unfold maxLen; omega) HSZ.out _ rfl _ ?_; intro g9 c9 w9 r1 r2 r3)
        have FIN : Hid (Below W0.heap.size W0 w9 ∧ w9.ownsRow W0.heap.size 72 5 (.slice (some ⟨g9, 0, none⟩) (i + 1) c9) (i + 1) (fl EC ((List.range (i + 1)).map fun (k : Nat) => (⟨(k : Int), 0, (0, 0, 0)⟩ : Con)))) := by
          have k2 := Kp.grownBy (S := fun j => lv.ownBlock = some j) r2 (fun _ h => h)
          refine ⟨HI.out.1.trans (k2.below HI.out.1.size (fun j e => (owns_rd HI.out.2 j e).1)), ?_⟩
          rw [List.range_succ, List.map_append, fl_append]
          exact owns_re r1 rfl (by rw [List.map_singleton, fl_one])
        clear r1 r2 r3 c1 l1
        go_roundw
        case rel => exact ⟨i + 1, _, by omega, by go_num, rfl, FIN.out⟩
        case measure => simp [RowKit.intOf]; omega
      · have hltz : ¬ (i : Int) < (m : Int) := by omega
        obtain rfl : i = m := by omega
        go_wp2_with fail
        go_ret
        exact ⟨_, rfl, HB.out.2.trans (HI.out.1.mono HB.out.2.size), rs_own (owns_re HI.out.2 (by simp) rfl)⟩
  · have e1 : connsN ⟨5, ins, outs, code, via, bound, conns, start⟩ = [⟨0, 0, via⟩] := by
      simp [connsN]
    have FIN := HONE.out _ e1
    rw [e1] at FIN ⊢
    have FIN := hid FIN
    clear HONE p1 p2 e1
    go_enter Tryz.func59, Tryz.ntmps59
    go_upto_region 1 with fail
    rw [HW.out.1, HW.out.2]
    clear HW
    go_wp2_with fail
    go_ret
    exact FIN.out
  · have e1 : connsN ⟨6, ins, outs, code, via, bound, conns, start⟩ = [⟨0, 0, (0, 0, 0)⟩] := by
      simp [pIn] at p1
      simp [pOut] at p2
      subst p1
      subst p2
      rfl
    have FIN := HONE.out _ e1
    rw [e1] at FIN ⊢
    have FIN := hid FIN
    clear HONE p1 p2 e1
    go_enter Tryz.func59, Tryz.ntmps59
    go_upto_region 1 with fail
    rw [HW.out.1, HW.out.2]
    clear HW
    go_wp2_with fail
    go_ret
    exact FIN.out
  · have e1 : connsN ⟨7, ins, outs, code, via, bound, conns, start⟩ = [] := by
      simp [pIn] at p1
      simp [pOut] at p2
      subst p2
      subst p1
      unfold connsN
      simp [acrL, rowL]
    rw [e1]
    clear HONE p1 p2 e1
    go_enter Tryz.func59, Tryz.ntmps59
    go_upto_region 1 with fail
    rw [HW.out.1, HW.out.2]
    clear HW
    go_wp2_with fail
    go_ret
    exact ⟨_, rfl, HB.out.2, Lz.nil _ _ _, Or.inl rfl⟩
  · have e1 : connsN ⟨8, ins, outs, code, via, bound, conns, start⟩ = conns := by simp [connsN]
    rw [e1]
    clear HONE p1 p2 e1
    go_enter Tryz.func59, Tryz.ntmps59
    go_upto_region 1 with fail
    rw [HW.out.1, HW.out.2]
    clear HW
    go_wp2_with fail
    go_ret
    refine ⟨_, rfl, HB.out.2, ((HR.out.up hw0).below HB.out.2).up HB.out.2.size, ?_⟩
    rcases HR.out with ⟨_, h2⟩ | ⟨h2, _⟩
    · exact Or.inr fun k e => Or.inl (h2 k e)
    · exact Or.inl h2
end Go.Proofs.YtngnfglnfkhheaaGreat.Df
