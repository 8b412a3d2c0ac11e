import Derived.Test.YtnclnagpfjmlcaaDRm1
namespace Go.Proofs.Ytnclnagpfjmlcaa.Df
open Go.RowKit Go.Sort Wi
attribute [local go_sem ↓] Go.wp_at_zero Go.wp_at_succ

/-- What roomy answers. -/
def Roomy (w : World) (a : Int) (xs : List NV) (es : List Edg) (e : Ending) (w' : World) : Prop := ∃ nv ev ys, e = .returned (.agg (gvc a nv ev)) ∧ Below w.heap.size w w' ∧ ys.map NV.n = xs.map NV.n ∧ Mk EV w' nv ys mV ∧ Mk ED w' ev es mD ∧ ∀ y ∈ ys, Mk EO w' y.cv y.n.code mO ∧ Mk EC w' y.dv y.n.conns mC
set_option maxRecDepth 100000 in
set_option maxHeartbeats 8000000 in
theorem roomy_any {nv ev : Value} {a : Int} {xs : List NV} {es : List Edg} (w : World) (hG : GR w.heap.size w nv ev xs es) (hbg : xs.length * 112 ≤ 140737488351232 ∧ es.length * 40 ≤ 140737488351232 ∧ ∀ x ∈ xs, x.n.code.length * 16 ≤ 140737488351232 ∧ x.n.conns.length * 40 ≤ 140737488351232) : Calls Try.prog 16 #[.agg (gvc a nv ev)] w (Roomy w a xs es) := by
  have hmx : Try.prog.follows .mixedOrders = true := by kernel_rfl
  obtain ⟨pn, cn, hnv⟩ := hG.nodes.form
  obtain ⟨pe, ce, hev⟩ := hG.edges.form
  obtain ⟨nl, hnl⟩ : ∃ n, n = xs.length := ⟨_, rfl⟩
  obtain ⟨el, hel⟩ : ∃ n, n = es.length := ⟨_, rfl⟩
  rw [← hnl] at hnv
  rw [← hel] at hev
  subst hnv
  subst hev
  have HG := hid hG
  have HBG := hid hbg
  have HNL := hid hnl
  have HEL := hid hel
  obtain ⟨W0, hW0⟩ : ∃ W, W = ((w.alloc (.cells (gvc a (.slice pn nl cn) (.slice pe el ce)) 25)).alloc (.cells (gvc 0 (.slice none 0 0) (.slice none 0 0)) 25)).alloc (.cells (gvc a (.slice none 0 0) (.slice none 0 0)) 25) := ⟨_, rfl⟩
  have R0 : Hid (Rm w W0 (gvc a (.slice pn nl cn) (.slice pe el ce)) (gvc a (.slice none 0 0) (.slice none 0 0)) (.slice none 0 0) []) := by
    have h3 := new3 w (.cells (gvc a (.slice pn nl cn) (.slice pe el ce)) 25) (.cells (gvc 0 (.slice none 0 0) (.slice none 0 0)) 25) (.cells (gvc a (.slice none 0 0) (.slice none 0 0)) 25)
    have hg := (((Gr.refl w).alloc (.cells (gvc a (.slice pn nl cn) (.slice pe el ce)) 25)).alloc (.cells (gvc 0 (.slice none 0 0) (.slice none 0 0)) 25)).alloc (.cells (gvc a (.slice none 0 0) (.slice none 0 0)) 25)
    rw [hW0]
    exact ⟨hg.below, h3.1, h3.2.1, h3.2.2, World.ownsRow_nil _ _ _ _, fun _ h => (by cases h), fun _ h => (by cases h), fun _ h => (by cases h)⟩
  have HW : Hid (((w.alloc (.cells #[.int .i64 a, .slice pn nl cn, .slice pe el ce] 25)).alloc (.cells #[.int .i64 0, .slice none 0 0, .slice none 0 0] 25)).alloc (.cells #[.int .i64 a, .slice none 0 0, .slice none 0 0] 25) = W0) := hW0.symm
  have hz2 : ∀ (A B : Obj), ((w.alloc A).alloc B).heap.size = w.heap.size + 2 := fun A B => by simp
  clear hG hbg hnl hel hW0 hz2
  go_enter Try.func16, Try.ntmps16
  go_upto_region 2 with fail
  rw [HW.out]
  clear HW
  obtain ⟨c0, ⟨c2, f2⟩, l0, l1, l2⟩ := R0.out.facts
  go_wp2_with fail
  clear c0 c2 f2 l0 l1 l2
  go_loopw [13] (fun s13 wr => ∃ (j : Nat) (u : Value) (ys : List NV), j ≤ nl ∧ s13 = .int .i64 (j : Nat) ∧ Hid (Rm w wr (gvc a (.slice pn nl cn) (.slice pe el ce)) (gvc a u (.slice none 0 0)) u ys ∧ ys.length = j ∧ ys.map NV.n = (xs.take j).map NV.n)) (fun s13 _ => nl - (RowKit.intOf s13).toNat)
  case atStart => exact ⟨0, .slice none 0 0, [], Nat.zero_le _, rfl, R0.out, rfl, by simp⟩
  case round =>
    clear R0
    obtain ⟨j, u, ys, hj, rfl, HI⟩ := hrel
    obtain ⟨qu, mu, cu, rfl⟩ := owns_form HI.out.1.row
    by_cases hlt : j < nl
    · have hltz : (j : Int) < (nl : Int) := by omega
      obtain ⟨y, hy⟩ : ∃ y, xs[j]? = some y := ⟨xs[j]'(by have := HNL.out; omega), by simp⟩
      have hym := List.mem_of_getElem? hy
      obtain ⟨b1, o1, q1, ev1, zz1, x0, x1, x2, x3, x4, x5, x6, x7, x8, x9⟩ := ls_atV ((HG.out.nodes.below HI.out.1.bl).ls hy) hy
      simp only [Value.slice.injEq] at ev1
      obtain ⟨rfl, -, rfl⟩ := ev1
      have LC0 := hid (HG.out.each y hym)
      have HSZ := hid (HBG.out.2.2 y hym)
      have HY := hid hy
      clear hy hym
      obtain ⟨⟨yk, yi, yo, cd, via, bd, cnn, st⟩, cq, cm, cc, dq, dm, dc⟩ := y
      have HCM : Hid (cm = cd.length) := by
        obtain ⟨p, c, h⟩ := LC0.out.code.form
        simp only [Value.slice.injEq] at h
        exact h.2.1
      have HDM : Hid (dm = cnn.length) := by
        obtain ⟨p, c, h⟩ := LC0.out.conns.form
        simp only [Value.slice.injEq] at h
        exact h.2.1
      simp only [NV.cv, NV.dv] at x0 x1 x2 x3 x4 x5 x6 x7 x8 x9 HSZ
      obtain ⟨nb, hnb⟩ : ∃ b, b = wr.heap.size := ⟨_, rfl⟩
      obtain ⟨W5, hW5⟩ : ∃ W, W = (wr.alloc (.cells (ncells yk yi yo (.slice cq cm cc) via bd (.slice dq dm dc) st) 67)).alloc (.cells (ncells yk yi yo (.slice cq cm cc) via bd (.slice dq dm dc) st) 67) := ⟨_, rfl⟩
      have P0 : Hid (Below nb wr W5 ∧ W5.heap[nb]? = some (.cells (ncells yk yi yo (.slice cq cm cc) via bd (.slice dq dm dc) st) 67 (0, 0)) ∧ W5.heap[nb + 1]? = some (.cells (ncells yk yi yo (.slice cq cm cc) via bd (.slice dq dm dc) st) 67 (0, 0))) := by
        rw [hW5, hnb]
        exact ⟨(((Gr.refl wr).alloc _).alloc _).below, new1 wr _ _, new2 wr _ _⟩
      have HW5 : Hid ((wr.alloc (.cells #[.int .i64 yk, .int .i64 yi, .int .i64 yo, .slice cq cm cc, .int .u64 (via.1 : Nat), .int .u64 (via.2.1 : Nat), .int .u64 (via.2.2 : Nat), .int .u64 (bd : Nat), .slice dq dm dc, .bool st] 67)).alloc (.cells #[.int .i64 yk, .int .i64 yi, .int .i64 yo, .slice cq cm cc, .int .u64 (via.1 : Nat), .int .u64 (via.2.1 : Nat), .int .u64 (via.2.2 : Nat), .int .u64 (bd : Nat), .slice dq dm dc, .bool st] 67) = W5) := hW5.symm
      have HNB := hid hnb
      clear hW5 hnb
      go_upto_region 6 with fail
      rw [HW5.out, ← HNB.out]
      clear HW5 x0 x1 x2 x3 x4 x5 x6 x7 x8 x9 zz1
      have LC : Hid (Lz EO w.heap.size W5 (.slice cq cm cc) cd ∧ Lz EC w.heap.size W5 (.slice dq dm dc) cnn) := by
        have h1 := HI.out.1.bl
        have h2 := P0.out.1
        rw [HNB.out] at h2
        have h3 := h1.trans (h2.mono h1.size)
        exact ⟨LC0.out.code.below h3, LC0.out.conns.below h3⟩
      go_cut [29] (fun _ w' => ∃ (g1 k1 : Nat), Hid (Below nb wr w' ∧ w'.heap[nb]? = some (.cells (ncells yk yi yo (.slice cq cm cc) via bd (.slice dq dm dc) st) 67 (0, 0)) ∧ w'.heap[nb + 1]? = some (.cells (ncells yk yi yo (.slice (some ⟨g1, 0, none⟩) cm k1) via bd (.slice dq dm dc) st) 67 (0, 0)) ∧ Mk EO w' (.slice (some ⟨g1, 0, none⟩) cm k1) cd mO ∧ nb + 1 < g1 ∧ Below nb W5 w'))
      case first =>
        refine wp_regionD (S := fun W => Below W5.heap.size W5 W) (D := [12]) hmx ?_
        have BD : Hid (Below W5.heap.size W5 W5.drew) := (Gr.refl _).drew.below
        generalize W5.drew = Wd at BD ⊢
        refine' wpAnyD_take (i := 1) (oi := { dst := some 19, op := Go.Op.fieldAddr 67 (Go.Operand.tmp 5) 3, type := 0, pos := "law.go:71", after := #[], guard := none }) (v := _) rfl (by kernel_rfl) (by kernel_rfl) (by kernel_rfl) (fun _ _ _ h => h) (by kernel_rfl) (Or.inl ⟨by rfl, ?hy1⟩) BD.out ?rest1
        case hy1 => (intro W hSw; go_simp; try (with_reducible rfl))
        try simp only [Act.put, List.setIfInBounds_toArray, List.set_cons_zero, List.set_cons_succ]
        refine' wpAnyD_take (i := 2) (oi := { dst := some 20, op := Go.Op.load 61 (Go.Operand.tmp 19), type := 61, pos := "law.go:71", after := #[{ on := 1, ground := Go.Ground.data }], guard := none }) (v := _) rfl (by kernel_rfl) (by kernel_rfl) (by kernel_rfl) (fun _ _ _ h => h) (by kernel_rfl) (Or.inl ⟨by rfl, ?hy2⟩) BD.out ?rest2
        case hy2 => (intro W hSw; have hb := (hSw.block _ (tk_lt P0.out.2.1)).trans P0.out.2.1; have hc := (tk_store hb).1 3; have hl := tk_lt hb; go_simp; try (with_reducible rfl))
        try simp only [Act.put, List.setIfInBounds_toArray, List.set_cons_zero, List.set_cons_succ]
        refine' wpAnyD_take (i := 4) (oi := { dst := some 22, op := Go.Op.build 78 #[(0, Go.Operand.const (Go.Value.int Go.IntKind.i64 (-77)))], type := 78, pos := "law.go:71", after := #[], guard := none }) (v := _) rfl (by kernel_rfl) (by kernel_rfl) (by kernel_rfl) (fun _ _ _ h => h) (by kernel_rfl) (Or.inl ⟨by rfl, ?hy3⟩) BD.out ?rest3
        case hy3 => (intro W hSw; go_simp; try (with_reducible rfl))
        try simp only [Act.put, List.setIfInBounds_toArray, List.set_cons_zero, List.set_cons_succ]
        refine' wpAnyD_take (i := 7) (oi := { dst := some 25, op := Go.Op.fieldAddr 67 (Go.Operand.tmp 5) 3, type := 0, pos := "law.go:71", after := #[], guard := none }) (v := _) rfl (by kernel_rfl) (by kernel_rfl) (by kernel_rfl) (fun _ _ _ h => h) (by kernel_rfl) (Or.inl ⟨by rfl, ?hy4⟩) BD.out ?rest4
        case hy4 => (intro W hSw; go_simp; try (with_reducible rfl))
        try simp only [Act.put, List.setIfInBounds_toArray, List.set_cons_zero, List.set_cons_succ]
        refine' wpAnyD_take (i := 8) (oi := { dst := some 26, op := Go.Op.load 61 (Go.Operand.tmp 25), type := 61, pos := "law.go:71", after := #[{ on := 7, ground := Go.Ground.data }], guard := none }) (v := _) rfl (by kernel_rfl) (by kernel_rfl) (by kernel_rfl) (fun _ _ _ h => h) (by kernel_rfl) (Or.inl ⟨by rfl, ?hy5⟩) BD.out ?rest5
        case hy5 => (intro W hSw; have hb := (hSw.block _ (tk_lt P0.out.2.1)).trans P0.out.2.1; have hc := (tk_store hb).1 3; have hl := tk_lt hb; go_simp; try (with_reducible rfl))
        try simp only [Act.put, List.setIfInBounds_toArray, List.set_cons_zero, List.set_cons_succ]
        refine' wpAnyD_take (i := 9) (oi := { dst := some 27, op := Go.Op.call { callee := Go.Callee.builtin Go.Builtin.len, args := #[Go.Operand.tmp 26], argTypes := #[61] }, type := 3, pos := "law.go:71", after := #[{ on := 8, ground := Go.Ground.data }], guard := none }) (v := _) rfl (by kernel_rfl) (by kernel_rfl) (by kernel_rfl) (fun _ _ _ h => h) (by kernel_rfl) (Or.inl ⟨by rfl, ?hy6⟩) BD.out ?rest6
        case hy6 => (intro W hSw; go_simp; try (with_reducible rfl))
        try simp only [Act.put, List.setIfInBounds_toArray, List.set_cons_zero, List.set_cons_succ]
        refine wpAnyD_two (i := 0) (j := 5) (oi := { dst := some 18, op := Go.Op.buildSlice 61 0 #[], type := 61, pos := "law.go:71", after := #[], guard := none }) (oj := { dst := some 23, op := Go.Op.buildSlice 61 1 #[(0, Go.Operand.tmp 22)], type := 61, pos := "law.go:71", after := #[{ on := 4, ground := Go.Ground.data }], guard := none }) (by kernel_rfl) rfl rfl (fun K hK => ?_) (fun K hK => ?_)
        · go_simp
          have g7 := (Gr.refl Wd).alloc (.cells #[] 78)
          have a7 := heap_new' Wd (.cells #[] 78)
          obtain ⟨b7, hb7⟩ : ∃ b, b = Wd.heap.size := ⟨_, rfl⟩
          obtain ⟨V7, hV7⟩ : ∃ V, V = Wd.alloc (.cells #[] 78) := ⟨_, rfl⟩
          rw [← hV7, ← hb7]
          rw [← hV7] at g7 a7
          have B7 := hid (BD.out.trans (g7.below.mono BD.out.size))
          have O7 : Hid (V7.ownsRow W5.heap.size 78 2 (.slice (some ⟨b7, 0, none⟩) 0 0) 0 []) := by
            rw [hV7, hb7]
            exact World.ownsRow_made Wd #[] 0 BD.out.size (Nat.zero_le _) rfl
          clear g7 a7 hV7 hb7
          refine hK.out _ _ (fun hD => B7.out) ?_
          clear hK K
          try simp only [Act.put, List.setIfInBounds_toArray, List.set_cons_zero, List.set_cons_succ]
          refine wpAnyD_two (i := 3) (j := 5) (oi := { dst := some 21, op := Go.Op.call { callee := Go.Callee.builtin Go.Builtin.append, args := #[Go.Operand.tmp 18, Go.Operand.tmp 20], argTypes := #[61, 61] }, type := 61, pos := "law.go:71", after := #[{ on := 0, ground := Go.Ground.data }, { on := 2, ground := Go.Ground.data }], guard := none }) (oj := { dst := some 23, op := Go.Op.buildSlice 61 1 #[(0, Go.Operand.tmp 22)], type := 61, pos := "law.go:71", after := #[{ on := 4, ground := Go.Ground.data }], guard := none }) (by kernel_rfl) rfl rfl (fun K hK => ?_) (fun K hK => ?_)
          · refine step_appZ EO Try.underlying61 infoO rfl (by decide) rfl _ _ rfl W5.heap.size (.slice (some ⟨b7, 0, none⟩) 0 0) 0 [] rfl O7.out B7.out.size w.heap.size (.slice cq cm cc) cd rfl ((hid LC.out.1).out.below B7.out) (by have := HSZ.out; omega) (by have := HSZ.out; unfold maxLen; omega) ?_
            intro v8 w8 h8 k8
            have K8 := hid (Kp.grownBy (S := fun k => ((.slice (some ⟨b7, 0, none⟩) 0 0) : Value).ownBlock = some k) k8.out (fun _ h => h))
            have B8 := hid (B7.out.trans (K8.out.below B7.out.size (fun k hk => (owns_rd O7.out k hk).1)))
            have O8 : Hid (w8.ownsRow W5.heap.size 78 2 v8 cd.length (fl EO cd)) := owns_re h8.out (by simp) (by simp)
            clear h8 k8
            refine hK.out _ _ (fun hD => B8.out) ?_
            clear hK K
            try simp only [Act.put, List.setIfInBounds_toArray, List.set_cons_zero, List.set_cons_succ]
            refine wpAnyD_one (i := 5) (o := { dst := some 23, op := Go.Op.buildSlice 61 1 #[(0, Go.Operand.tmp 22)], type := 61, pos := "law.go:71", after := #[{ on := 4, ground := Go.Ground.data }], guard := none }) (by kernel_rfl) rfl (fun K hK => ?_)
            go_simp
            have g9 := (Gr.refl w8).alloc (.cells #[.int .i64 (-77), .int .u64 0] 78)
            have a9 := heap_new' w8 (.cells #[.int .i64 (-77), .int .u64 0] 78)
            obtain ⟨b9, hb9⟩ : ∃ b, b = w8.heap.size := ⟨_, rfl⟩
            obtain ⟨V9, hV9⟩ : ∃ V, V = w8.alloc (.cells #[.int .i64 (-77), .int .u64 0] 78) := ⟨_, rfl⟩
            rw [← hV9, ← hb9]
            rw [← hV9] at g9 a9
            have B9 := hid (B8.out.trans (g9.below.mono B8.out.size))
            have M9 : Hid (V9.heap[b9]? = some (.cells #[.int .i64 (-77), .int .u64 0] 78 (0, 0))) := by
              show _ = _
              rw [hb9]
              exact a9
            have O9 := hid (owns_below O8.out g9.below)
            have N9 : Hid (∀ k, (v8 : Value).ownBlock = some k → k ≠ b9) := fun k hk e => by
              have h1 := (owns_rd O8.out k hk).2
              omega
            clear g9 a9 hV9 hb9
            refine hK.out _ _ (fun hD => B9.out) ?_
            clear hK K
            try simp only [Act.put, List.setIfInBounds_toArray, List.set_cons_zero, List.set_cons_succ]
            refine wpAnyD_one (i := 6) (o := { dst := some 24, op := Go.Op.call { callee := Go.Callee.builtin Go.Builtin.append, args := #[Go.Operand.tmp 21, Go.Operand.tmp 23], argTypes := #[61, 61] }, type := 61, pos := "law.go:71", after := #[{ on := 3, ground := Go.Ground.data }, { on := 5, ground := Go.Ground.data }, { on := 3, ground := Go.Ground.chain }], guard := none }) (by kernel_rfl) rfl (fun K hK => ?_)
            refine step_appL EO Try.underlying61 infoO rfl (by decide) rfl _ _ rfl W5.heap.size v8 cd.length (fl EO cd) rfl O9.out B9.out.size (.slice (some ⟨b9, 0, none⟩) 1 1) [mO] rfl (one_ls M9.out rfl) (by have := HSZ.out; simp; omega) (by have := HSZ.out; unfold maxLen; simp; omega) ?_
            intro v10 w10 h10 k10
            have K10 := hid (Kp.grownBy (S := fun k => (v8 : Value).ownBlock = some k) k10.out (fun _ h => h))
            have B10 := hid (B9.out.trans (K10.out.below B9.out.size (fun k hk => (owns_rd O9.out k hk).1)))
            have O10 : Hid (w10.ownsRow W5.heap.size 78 2 v10 (cd.length + 1) (fl EO (cd ++ [mO]))) := owns_re h10.out (by simp) (by rw [fl_append])
            obtain ⟨g10, cap10, hv10, hc10, MK10⟩ := mk_of O10.out
            subst hv10
            have HM10 := hid MK10
            have GL10 := hid ((owns_rd O10.out g10 rfl).1)
            have q0 : (0 : Int) ≤ (cm : Int) := by omega
            have q1 : (cm : Int) ≤ (cap10 : Int) := by have := HCM.out; omega
            have q2 : cd.length + 1 = cm + 1 := by have := HCM.out; omega
            rw [q2]
            clear h10 k10 MK10 hc10 q2
            refine hK.out _ _ (fun hD => B10.out) ?_
            clear hK K
            try simp only [Act.put, List.setIfInBounds_toArray, List.set_cons_zero, List.set_cons_succ]
            refine' wpAnyD_take (i := 10) (oi := { dst := some 28, op := Go.Op.slice 61 (Go.Operand.tmp 24) none (some (Go.Operand.tmp 27)) none, type := 61, pos := "law.go:71", after := #[{ on := 6, ground := Go.Ground.data }, { on := 9, ground := Go.Ground.data }], guard := none }) (v := _) rfl (by kernel_rfl) (by kernel_rfl) (by kernel_rfl) (fun _ _ _ h => h) (by kernel_rfl) (Or.inl ⟨by rfl, ?hy11⟩) B10.out ?rest11
            case hy11 => (intro W hSw; go_simp; try (with_reducible rfl))
            try simp only [Act.put, List.setIfInBounds_toArray, List.set_cons_zero, List.set_cons_succ]
            refine' wpAnyD_take (i := 11) (oi := { dst := some 29, op := Go.Op.fieldAddr 67 (Go.Operand.tmp 6) 3, type := 0, pos := "law.go:71", after := #[{ on := 0, ground := Go.Ground.phase }, { on := 1, ground := Go.Ground.phase }, { on := 2, ground := Go.Ground.phase }, { on := 3, ground := Go.Ground.phase }, { on := 4, ground := Go.Ground.phase }, { on := 5, ground := Go.Ground.phase }, { on := 6, ground := Go.Ground.phase }, { on := 7, ground := Go.Ground.phase }, { on := 8, ground := Go.Ground.phase }, { on := 9, ground := Go.Ground.phase }, { on := 10, ground := Go.Ground.phase }], guard := none }) (v := _) rfl (by kernel_rfl) (by kernel_rfl) (by kernel_rfl) (fun _ _ _ h => h) (by kernel_rfl) (Or.inl ⟨by rfl, ?hy12⟩) B10.out ?rest12
            case hy12 => (intro W hSw; go_simp; try (with_reducible rfl))
            try simp only [Act.put, List.setIfInBounds_toArray, List.set_cons_zero, List.set_cons_succ]
            refine wpAnyD_one (i := 12) (o := { dst := none, op := Go.Op.store 61 (Go.Operand.tmp 29) (Go.Operand.tmp 28), type := 0, pos := "law.go:71", after := #[{ on := 11, ground := Go.Ground.data }, { on := 10, ground := Go.Ground.data }, { on := 6, ground := Go.Ground.chain }, { on := 0, ground := Go.Ground.phase }, { on := 1, ground := Go.Ground.phase }, { on := 2, ground := Go.Ground.phase }, { on := 3, ground := Go.Ground.phase }, { on := 4, ground := Go.Ground.phase }, { on := 5, ground := Go.Ground.phase }, { on := 6, ground := Go.Ground.phase }, { on := 7, ground := Go.Ground.phase }, { on := 8, ground := Go.Ground.phase }, { on := 9, ground := Go.Ground.phase }, { on := 10, ground := Go.Ground.phase }], guard := none }) (by kernel_rfl) rfl (fun K hK => ?_)
            have p6 := (B10.out.block _ (tk_lt P0.out.2.2)).trans P0.out.2.2
            have p5 := (B10.out.block _ (tk_lt P0.out.2.1)).trans P0.out.2.1
            have en := (tk_store p6).1
            have en2 := (tk_store p6).2
            have en3 := tk_lt p6
            have s12 := tk_set p6 3 (.slice (some ⟨g10, 0, none⟩) cm cap10)
            have hz5 := tk_lt P0.out.2.2
            have FIN : Hid (Below nb wr (w10.setCell ⟨nb + 1, 3, none⟩ (.slice (some ⟨g10, 0, none⟩) cm cap10)) ∧ (w10.setCell ⟨nb + 1, 3, none⟩ (.slice (some ⟨g10, 0, none⟩) cm cap10)).heap[nb]? = some (.cells (ncells yk yi yo (.slice cq cm cc) via bd (.slice dq dm dc) st) 67 (0, 0)) ∧ (w10.setCell ⟨nb + 1, 3, none⟩ (.slice (some ⟨g10, 0, none⟩) cm cap10)).heap[nb + 1]? = some (.cells (ncells yk yi yo (.slice (some ⟨g10, 0, none⟩) cm cap10) via bd (.slice dq dm dc) st) 67 (0, 0)) ∧ Mk EO (w10.setCell ⟨nb + 1, 3, none⟩ (.slice (some ⟨g10, 0, none⟩) cm cap10)) (.slice (some ⟨g10, 0, none⟩) cm cap10) cd mO ∧ nb + 1 < g10 ∧ Below nb W5 (w10.setCell ⟨nb + 1, 3, none⟩ (.slice (some ⟨g10, 0, none⟩) cm cap10))) := by
              have h1 := B10.out.mono (show nb ≤ W5.heap.size by omega)
              have h2 := h1.trans (s12.2.below (Nat.le_trans (by omega) h1.size) (fun k e => by omega))
              have hg := GL10.out
              have h3 := HM10.out
              rw [← HCM.out] at h3
              exact ⟨P0.out.1.trans h2, (s12.2.block _ (tk_lt p5) (by omega)).trans p5, s12.1, h3.kp s12.2 (fun k e e2 => by simp [Value.ownBlock] at e; omega), by omega, h2⟩
            clear p6 p5 s12 hz5
            go_simp
            refine hK.out _ _ (fun hD => absurd (by decide) hD) ?_
            clear hK K
            try simp only [Act.put, List.setIfInBounds_toArray, List.set_cons_zero, List.set_cons_succ]
            refine wpAnyD_done (by kernel_rfl) ?_ _
            go_wp2_with fail
            go_meet
            exact ⟨g10, cap10, FIN.out⟩
          · go_simp
            have g13 := (Gr.refl V7).alloc (.cells #[.int .i64 (-77), .int .u64 0] 78)
            have a13 := heap_new' V7 (.cells #[.int .i64 (-77), .int .u64 0] 78)
            obtain ⟨b13, hb13⟩ : ∃ b, b = V7.heap.size := ⟨_, rfl⟩
            obtain ⟨V13, hV13⟩ : ∃ V, V = V7.alloc (.cells #[.int .i64 (-77), .int .u64 0] 78) := ⟨_, rfl⟩
            rw [← hV13, ← hb13]
            rw [← hV13] at g13 a13
            have B13 := hid (B7.out.trans (g13.below.mono B7.out.size))
            have M13 : Hid (V13.heap[b13]? = some (.cells #[.int .i64 (-77), .int .u64 0] 78 (0, 0))) := by
              show _ = _
              rw [hb13]
              exact a13
            have O13 := hid (owns_below O7.out g13.below)
            have N13 : Hid (∀ k, ((.slice (some ⟨b7, 0, none⟩) 0 0) : Value).ownBlock = some k → k ≠ b13) := fun k hk e => by
              have h1 := (owns_rd O7.out k hk).2
              omega
            clear g13 a13 hV13 hb13
            refine hK.out _ _ (fun hD => B13.out) ?_
            clear hK K
            try simp only [Act.put, List.setIfInBounds_toArray, List.set_cons_zero, List.set_cons_succ]
            refine wpAnyD_one (i := 3) (o := { dst := some 21, op := Go.Op.call { callee := Go.Callee.builtin Go.Builtin.append, args := #[Go.Operand.tmp 18, Go.Operand.tmp 20], argTypes := #[61, 61] }, type := 61, pos := "law.go:71", after := #[{ on := 0, ground := Go.Ground.data }, { on := 2, ground := Go.Ground.data }], guard := none }) (by kernel_rfl) rfl (fun K hK => ?_)
            refine step_appZ EO Try.underlying61 infoO rfl (by decide) rfl _ _ rfl W5.heap.size (.slice (some ⟨b7, 0, none⟩) 0 0) 0 [] rfl O13.out B13.out.size w.heap.size (.slice cq cm cc) cd rfl ((hid LC.out.1).out.below B13.out) (by have := HSZ.out; omega) (by have := HSZ.out; unfold maxLen; omega) ?_
            intro v14 w14 h14 k14
            have K14 := hid (Kp.grownBy (S := fun k => ((.slice (some ⟨b7, 0, none⟩) 0 0) : Value).ownBlock = some k) k14.out (fun _ h => h))
            have B14 := hid (B13.out.trans (K14.out.below B13.out.size (fun k hk => (owns_rd O13.out k hk).1)))
            have O14 : Hid (w14.ownsRow W5.heap.size 78 2 v14 cd.length (fl EO cd)) := owns_re h14.out (by simp) (by simp)
            have M14 := hid ((K14.out.block _ (tk_lt M13.out) (fun e => N13.out _ e rfl)).trans M13.out)
            clear h14 k14
            refine hK.out _ _ (fun hD => B14.out) ?_
            clear hK K
            try simp only [Act.put, List.setIfInBounds_toArray, List.set_cons_zero, List.set_cons_succ]
            refine wpAnyD_one (i := 6) (o := { dst := some 24, op := Go.Op.call { callee := Go.Callee.builtin Go.Builtin.append, args := #[Go.Operand.tmp 21, Go.Operand.tmp 23], argTypes := #[61, 61] }, type := 61, pos := "law.go:71", after := #[{ on := 3, ground := Go.Ground.data }, { on := 5, ground := Go.Ground.data }, { on := 3, ground := Go.Ground.chain }], guard := none }) (by kernel_rfl) rfl (fun K hK => ?_)
            refine step_appL EO Try.underlying61 infoO rfl (by decide) rfl _ _ rfl W5.heap.size v14 cd.length (fl EO cd) rfl O14.out B14.out.size (.slice (some ⟨b13, 0, none⟩) 1 1) [mO] rfl (one_ls M14.out rfl) (by have := HSZ.out; simp; omega) (by have := HSZ.out; unfold maxLen; simp; omega) ?_
            intro v15 w15 h15 k15
            have K15 := hid (Kp.grownBy (S := fun k => (v14 : Value).ownBlock = some k) k15.out (fun _ h => h))
            have B15 := hid (B14.out.trans (K15.out.below B14.out.size (fun k hk => (owns_rd O14.out k hk).1)))
            have O15 : Hid (w15.ownsRow W5.heap.size 78 2 v15 (cd.length + 1) (fl EO (cd ++ [mO]))) := owns_re h15.out (by simp) (by rw [fl_append])
            obtain ⟨g15, cap15, hv15, hc15, MK15⟩ := mk_of O15.out
            subst hv15
            have HM15 := hid MK15
            have GL15 := hid ((owns_rd O15.out g15 rfl).1)
            have q0 : (0 : Int) ≤ (cm : Int) := by omega
            have q1 : (cm : Int) ≤ (cap15 : Int) := by have := HCM.out; omega
            have q2 : cd.length + 1 = cm + 1 := by have := HCM.out; omega
            rw [q2]
            clear h15 k15 MK15 hc15 q2
            refine hK.out _ _ (fun hD => B15.out) ?_
            clear hK K
            try simp only [Act.put, List.setIfInBounds_toArray, List.set_cons_zero, List.set_cons_succ]
            refine' wpAnyD_take (i := 10) (oi := { dst := some 28, op := Go.Op.slice 61 (Go.Operand.tmp 24) none (some (Go.Operand.tmp 27)) none, type := 61, pos := "law.go:71", after := #[{ on := 6, ground := Go.Ground.data }, { on := 9, ground := Go.Ground.data }], guard := none }) (v := _) rfl (by kernel_rfl) (by kernel_rfl) (by kernel_rfl) (fun _ _ _ h => h) (by kernel_rfl) (Or.inl ⟨by rfl, ?hy16⟩) B15.out ?rest16
            case hy16 => (intro W hSw; go_simp; try (with_reducible rfl))
            try simp only [Act.put, List.setIfInBounds_toArray, List.set_cons_zero, List.set_cons_succ]
            refine' wpAnyD_take (i := 11) (oi := { dst := some 29, op := Go.Op.fieldAddr 67 (Go.Operand.tmp 6) 3, type := 0, pos := "law.go:71", after := #[{ on := 0, ground := Go.Ground.phase }, { on := 1, ground := Go.Ground.phase }, { on := 2, ground := Go.Ground.phase }, { on := 3, ground := Go.Ground.phase }, { on := 4, ground := Go.Ground.phase }, { on := 5, ground := Go.Ground.phase }, { on := 6, ground := Go.Ground.phase }, { on := 7, ground := Go.Ground.phase }, { on := 8, ground := Go.Ground.phase }, { on := 9, ground := Go.Ground.phase }, { on := 10, ground := Go.Ground.phase }], guard := none }) (v := _) rfl (by kernel_rfl) (by kernel_rfl) (by kernel_rfl) (fun _ _ _ h => h) (by kernel_rfl) (Or.inl ⟨by rfl, ?hy17⟩) B15.out ?rest17
            case hy17 => (intro W hSw; go_simp; try (with_reducible rfl))
            try simp only [Act.put, List.setIfInBounds_toArray, List.set_cons_zero, List.set_cons_succ]
            refine wpAnyD_one (i := 12) (o := { dst := none, op := Go.Op.store 61 (Go.Operand.tmp 29) (Go.Operand.tmp 28), type := 0, pos := "law.go:71", after := #[{ on := 11, ground := Go.Ground.data }, { on := 10, ground := Go.Ground.data }, { on := 6, ground := Go.Ground.chain }, { on := 0, ground := Go.Ground.phase }, { on := 1, ground := Go.Ground.phase }, { on := 2, ground := Go.Ground.phase }, { on := 3, ground := Go.Ground.phase }, { on := 4, ground := Go.Ground.phase }, { on := 5, ground := Go.Ground.phase }, { on := 6, ground := Go.Ground.phase }, { on := 7, ground := Go.Ground.phase }, { on := 8, ground := Go.Ground.phase }, { on := 9, ground := Go.Ground.phase }, { on := 10, ground := Go.Ground.phase }], guard := none }) (by kernel_rfl) rfl (fun K hK => ?_)
            have p6 := (B15.out.block _ (tk_lt P0.out.2.2)).trans P0.out.2.2
            have p5 := (B15.out.block _ (tk_lt P0.out.2.1)).trans P0.out.2.1
            have en := (tk_store p6).1
            have en2 := (tk_store p6).2
            have en3 := tk_lt p6
            have s12 := tk_set p6 3 (.slice (some ⟨g15, 0, none⟩) cm cap15)
            have hz5 := tk_lt P0.out.2.2
            have FIN : Hid (Below nb wr (w15.setCell ⟨nb + 1, 3, none⟩ (.slice (some ⟨g15, 0, none⟩) cm cap15)) ∧ (w15.setCell ⟨nb + 1, 3, none⟩ (.slice (some ⟨g15, 0, none⟩) cm cap15)).heap[nb]? = some (.cells (ncells yk yi yo (.slice cq cm cc) via bd (.slice dq dm dc) st) 67 (0, 0)) ∧ (w15.setCell ⟨nb + 1, 3, none⟩ (.slice (some ⟨g15, 0, none⟩) cm cap15)).heap[nb + 1]? = some (.cells (ncells yk yi yo (.slice (some ⟨g15, 0, none⟩) cm cap15) via bd (.slice dq dm dc) st) 67 (0, 0)) ∧ Mk EO (w15.setCell ⟨nb + 1, 3, none⟩ (.slice (some ⟨g15, 0, none⟩) cm cap15)) (.slice (some ⟨g15, 0, none⟩) cm cap15) cd mO ∧ nb + 1 < g15 ∧ Below nb W5 (w15.setCell ⟨nb + 1, 3, none⟩ (.slice (some ⟨g15, 0, none⟩) cm cap15))) := by
              have h1 := B15.out.mono (show nb ≤ W5.heap.size by omega)
              have h2 := h1.trans (s12.2.below (Nat.le_trans (by omega) h1.size) (fun k e => by omega))
              have hg := GL15.out
              have h3 := HM15.out
              rw [← HCM.out] at h3
              exact ⟨P0.out.1.trans h2, (s12.2.block _ (tk_lt p5) (by omega)).trans p5, s12.1, h3.kp s12.2 (fun k e e2 => by simp [Value.ownBlock] at e; omega), by omega, h2⟩
            clear p6 p5 s12 hz5
            go_simp
            refine hK.out _ _ (fun hD => absurd (by decide) hD) ?_
            clear hK K
            try simp only [Act.put, List.setIfInBounds_toArray, List.set_cons_zero, List.set_cons_succ]
            refine wpAnyD_done (by kernel_rfl) ?_ _
            go_wp2_with fail
            go_meet
            exact ⟨g15, cap15, FIN.out⟩
        · go_simp
          have g18 := (Gr.refl Wd).alloc (.cells #[.int .i64 (-77), .int .u64 0] 78)
          have a18 := heap_new' Wd (.cells #[.int .i64 (-77), .int .u64 0] 78)
          obtain ⟨b18, hb18⟩ : ∃ b, b = Wd.heap.size := ⟨_, rfl⟩
          obtain ⟨V18, hV18⟩ : ∃ V, V = Wd.alloc (.cells #[.int .i64 (-77), .int .u64 0] 78) := ⟨_, rfl⟩
          rw [← hV18, ← hb18]
          rw [← hV18] at g18 a18
          have B18 := hid (BD.out.trans (g18.below.mono BD.out.size))
          have M18 : Hid (V18.heap[b18]? = some (.cells #[.int .i64 (-77), .int .u64 0] 78 (0, 0))) := by
            show _ = _
            rw [hb18]
            exact a18
          clear g18 a18 hV18 hb18
          refine hK.out _ _ (fun hD => B18.out) ?_
          clear hK K
          try simp only [Act.put, List.setIfInBounds_toArray, List.set_cons_zero, List.set_cons_succ]
          refine wpAnyD_one (i := 0) (o := { dst := some 18, op := Go.Op.buildSlice 61 0 #[], type := 61, pos := "law.go:71", after := #[], guard := none }) (by kernel_rfl) rfl (fun K hK => ?_)
          go_simp
          have g19 := (Gr.refl V18).alloc (.cells #[] 78)
          have a19 := heap_new' V18 (.cells #[] 78)
          obtain ⟨b19, hb19⟩ : ∃ b, b = V18.heap.size := ⟨_, rfl⟩
          obtain ⟨V19, hV19⟩ : ∃ V, V = V18.alloc (.cells #[] 78) := ⟨_, rfl⟩
          rw [← hV19, ← hb19]
          rw [← hV19] at g19 a19
          have B19 := hid (B18.out.trans (g19.below.mono B18.out.size))
          have O19 : Hid (V19.ownsRow W5.heap.size 78 2 (.slice (some ⟨b19, 0, none⟩) 0 0) 0 []) := by
            rw [hV19, hb19]
            exact World.ownsRow_made V18 #[] 0 B18.out.size (Nat.zero_le _) rfl
          have M19 := hid ((g19.below.block _ (tk_lt M18.out)).trans M18.out)
          have N19 : Hid (∀ k, (Value.slice (some ⟨b19, 0, none⟩) 0 0).ownBlock = some k → k ≠ b18) := fun k hk e => by
            have h1 := tk_lt M18.out
            simp [Value.ownBlock] at hk
            omega
          clear g19 a19 hV19 hb19
          refine hK.out _ _ (fun hD => B19.out) ?_
          clear hK K
          try simp only [Act.put, List.setIfInBounds_toArray, List.set_cons_zero, List.set_cons_succ]
          refine wpAnyD_one (i := 3) (o := { dst := some 21, op := Go.Op.call { callee := Go.Callee.builtin Go.Builtin.append, args := #[Go.Operand.tmp 18, Go.Operand.tmp 20], argTypes := #[61, 61] }, type := 61, pos := "law.go:71", after := #[{ on := 0, ground := Go.Ground.data }, { on := 2, ground := Go.Ground.data }], guard := none }) (by kernel_rfl) rfl (fun K hK => ?_)
          refine step_appZ EO Try.underlying61 infoO rfl (by decide) rfl _ _ rfl W5.heap.size (.slice (some ⟨b19, 0, none⟩) 0 0) 0 [] rfl O19.out B19.out.size w.heap.size (.slice cq cm cc) cd rfl ((hid LC.out.1).out.below B19.out) (by have := HSZ.out; omega) (by have := HSZ.out; unfold maxLen; omega) ?_
          intro v20 w20 h20 k20
          have K20 := hid (Kp.grownBy (S := fun k => ((.slice (some ⟨b19, 0, none⟩) 0 0) : Value).ownBlock = some k) k20.out (fun _ h => h))
          have B20 := hid (B19.out.trans (K20.out.below B19.out.size (fun k hk => (owns_rd O19.out k hk).1)))
          have O20 : Hid (w20.ownsRow W5.heap.size 78 2 v20 cd.length (fl EO cd)) := owns_re h20.out (by simp) (by simp)
          have M20 := hid ((K20.out.block _ (tk_lt M19.out) (fun e => N19.out _ e rfl)).trans M19.out)
          clear h20 k20
          refine hK.out _ _ (fun hD => B20.out) ?_
          clear hK K
          try simp only [Act.put, List.setIfInBounds_toArray, List.set_cons_zero, List.set_cons_succ]
          refine wpAnyD_one (i := 6) (o := { dst := some 24, op := Go.Op.call { callee := Go.Callee.builtin Go.Builtin.append, args := #[Go.Operand.tmp 21, Go.Operand.tmp 23], argTypes := #[61, 61] }, type := 61, pos := "law.go:71", after := #[{ on := 3, ground := Go.Ground.data }, { on := 5, ground := Go.Ground.data }, { on := 3, ground := Go.Ground.chain }], guard := none }) (by kernel_rfl) rfl (fun K hK => ?_)
          refine step_appL EO Try.underlying61 infoO rfl (by decide) rfl _ _ rfl W5.heap.size v20 cd.length (fl EO cd) rfl O20.out B20.out.size (.slice (some ⟨b18, 0, none⟩) 1 1) [mO] rfl (one_ls M20.out rfl) (by have := HSZ.out; simp; omega) (by have := HSZ.out; unfold maxLen; simp; omega) ?_
          intro v21 w21 h21 k21
          have K21 := hid (Kp.grownBy (S := fun k => (v20 : Value).ownBlock = some k) k21.out (fun _ h => h))
          have B21 := hid (B20.out.trans (K21.out.below B20.out.size (fun k hk => (owns_rd O20.out k hk).1)))
          have O21 : Hid (w21.ownsRow W5.heap.size 78 2 v21 (cd.length + 1) (fl EO (cd ++ [mO]))) := owns_re h21.out (by simp) (by rw [fl_append])
          obtain ⟨g21, cap21, hv21, hc21, MK21⟩ := mk_of O21.out
          subst hv21
          have HM21 := hid MK21
          have GL21 := hid ((owns_rd O21.out g21 rfl).1)
          have q0 : (0 : Int) ≤ (cm : Int) := by omega
          have q1 : (cm : Int) ≤ (cap21 : Int) := by have := HCM.out; omega
          have q2 : cd.length + 1 = cm + 1 := by have := HCM.out; omega
          rw [q2]
          clear h21 k21 MK21 hc21 q2
          refine hK.out _ _ (fun hD => B21.out) ?_
          clear hK K
          try simp only [Act.put, List.setIfInBounds_toArray, List.set_cons_zero, List.set_cons_succ]
          refine' wpAnyD_take (i := 10) (oi := { dst := some 28, op := Go.Op.slice 61 (Go.Operand.tmp 24) none (some (Go.Operand.tmp 27)) none, type := 61, pos := "law.go:71", after := #[{ on := 6, ground := Go.Ground.data }, { on := 9, ground := Go.Ground.data }], guard := none }) (v := _) rfl (by kernel_rfl) (by kernel_rfl) (by kernel_rfl) (fun _ _ _ h => h) (by kernel_rfl) (Or.inl ⟨by rfl, ?hy22⟩) B21.out ?rest22
          case hy22 => (intro W hSw; go_simp; try (with_reducible rfl))
          try simp only [Act.put, List.setIfInBounds_toArray, List.set_cons_zero, List.set_cons_succ]
          refine' wpAnyD_take (i := 11) (oi := { dst := some 29, op := Go.Op.fieldAddr 67 (Go.Operand.tmp 6) 3, type := 0, pos := "law.go:71", after := #[{ on := 0, ground := Go.Ground.phase }, { on := 1, ground := Go.Ground.phase }, { on := 2, ground := Go.Ground.phase }, { on := 3, ground := Go.Ground.phase }, { on := 4, ground := Go.Ground.phase }, { on := 5, ground := Go.Ground.phase }, { on := 6, ground := Go.Ground.phase }, { on := 7, ground := Go.Ground.phase }, { on := 8, ground := Go.Ground.phase }, { on := 9, ground := Go.Ground.phase }, { on := 10, ground := Go.Ground.phase }], guard := none }) (v := _) rfl (by kernel_rfl) (by kernel_rfl) (by kernel_rfl) (fun _ _ _ h => h) (by kernel_rfl) (Or.inl ⟨by rfl, ?hy23⟩) B21.out ?rest23
          case hy23 => (intro W hSw; go_simp; try (with_reducible rfl))
          try simp only [Act.put, List.setIfInBounds_toArray, List.set_cons_zero, List.set_cons_succ]
          refine wpAnyD_one (i := 12) (o := { dst := none, op := Go.Op.store 61 (Go.Operand.tmp 29) (Go.Operand.tmp 28), type := 0, pos := "law.go:71", after := #[{ on := 11, ground := Go.Ground.data }, { on := 10, ground := Go.Ground.data }, { on := 6, ground := Go.Ground.chain }, { on := 0, ground := Go.Ground.phase }, { on := 1, ground := Go.Ground.phase }, { on := 2, ground := Go.Ground.phase }, { on := 3, ground := Go.Ground.phase }, { on := 4, ground := Go.Ground.phase }, { on := 5, ground := Go.Ground.phase }, { on := 6, ground := Go.Ground.phase }, { on := 7, ground := Go.Ground.phase }, { on := 8, ground := Go.Ground.phase }, { on := 9, ground := Go.Ground.phase }, { on := 10, ground := Go.Ground.phase }], guard := none }) (by kernel_rfl) rfl (fun K hK => ?_)
          have p6 := (B21.out.block _ (tk_lt P0.out.2.2)).trans P0.out.2.2
          have p5 := (B21.out.block _ (tk_lt P0.out.2.1)).trans P0.out.2.1
          have en := (tk_store p6).1
          have en2 := (tk_store p6).2
          have en3 := tk_lt p6
          have s12 := tk_set p6 3 (.slice (some ⟨g21, 0, none⟩) cm cap21)
          have hz5 := tk_lt P0.out.2.2
          have FIN : Hid (Below nb wr (w21.setCell ⟨nb + 1, 3, none⟩ (.slice (some ⟨g21, 0, none⟩) cm cap21)) ∧ (w21.setCell ⟨nb + 1, 3, none⟩ (.slice (some ⟨g21, 0, none⟩) cm cap21)).heap[nb]? = some (.cells (ncells yk yi yo (.slice cq cm cc) via bd (.slice dq dm dc) st) 67 (0, 0)) ∧ (w21.setCell ⟨nb + 1, 3, none⟩ (.slice (some ⟨g21, 0, none⟩) cm cap21)).heap[nb + 1]? = some (.cells (ncells yk yi yo (.slice (some ⟨g21, 0, none⟩) cm cap21) via bd (.slice dq dm dc) st) 67 (0, 0)) ∧ Mk EO (w21.setCell ⟨nb + 1, 3, none⟩ (.slice (some ⟨g21, 0, none⟩) cm cap21)) (.slice (some ⟨g21, 0, none⟩) cm cap21) cd mO ∧ nb + 1 < g21 ∧ Below nb W5 (w21.setCell ⟨nb + 1, 3, none⟩ (.slice (some ⟨g21, 0, none⟩) cm cap21))) := by
            have h1 := B21.out.mono (show nb ≤ W5.heap.size by omega)
            have h2 := h1.trans (s12.2.below (Nat.le_trans (by omega) h1.size) (fun k e => by omega))
            have hg := GL21.out
            have h3 := HM21.out
            rw [← HCM.out] at h3
            exact ⟨P0.out.1.trans h2, (s12.2.block _ (tk_lt p5) (by omega)).trans p5, s12.1, h3.kp s12.2 (fun k e e2 => by simp [Value.ownBlock] at e; omega), by omega, h2⟩
          clear p6 p5 s12 hz5
          go_simp
          refine hK.out _ _ (fun hD => absurd (by decide) hD) ?_
          clear hK K
          try simp only [Act.put, List.setIfInBounds_toArray, List.set_cons_zero, List.set_cons_succ]
          refine wpAnyD_done (by kernel_rfl) ?_ _
          go_wp2_with fail
          go_meet
          exact ⟨g21, cap21, FIN.out⟩
      case rest =>
        obtain ⟨g1, k1, HC⟩ := hcut
        have LC2 : Hid (Lz EC w.heap.size wc (.slice dq dm dc) cnn) := by
          have h1 := HI.out.1.bl
          have h2 := HC.out.1
          rw [HNB.out] at h2
          exact LC0.out.conns.below (h1.trans (h2.mono h1.size))
        clear LC
        go_upto_region 7 with fail
        go_cut [41] (fun _ w' => ∃ (g2 k2 : Nat), Hid (Below nb wr w' ∧ w'.heap[nb + 1]? = some (.cells (ncells yk yi yo (.slice (some ⟨g1, 0, none⟩) cm k1) via bd (.slice (some ⟨g2, 0, none⟩) dm k2) st) 67 (0, 0)) ∧ Mk EO w' (.slice (some ⟨g1, 0, none⟩) cm k1) cd mO ∧ Mk EC w' (.slice (some ⟨g2, 0, none⟩) dm k2) cnn mC ∧ nb + 1 < g1 ∧ nb + 1 < g2))
        case first =>
          refine wp_regionD (S := fun W => Below wc.heap.size wc W) (D := [12]) hmx ?_
          have BD : Hid (Below wc.heap.size wc wc.drew) := (Gr.refl _).drew.below
          generalize wc.drew = Wd at BD ⊢
          refine' wpAnyD_take (i := 1) (oi := { dst := some 31, op := Go.Op.fieldAddr 67 (Go.Operand.tmp 5) 6, type := 0, pos := "law.go:72", after := #[], guard := none }) (v := _) rfl (by kernel_rfl) (by kernel_rfl) (by kernel_rfl) (fun _ _ _ h => h) (by kernel_rfl) (Or.inl ⟨by rfl, ?hy24⟩) BD.out ?rest24
          case hy24 => (intro W hSw; go_simp; try (with_reducible rfl))
          try simp only [Act.put, List.setIfInBounds_toArray, List.set_cons_zero, List.set_cons_succ]
          refine' wpAnyD_take (i := 2) (oi := { dst := some 32, op := Go.Op.load 65 (Go.Operand.tmp 31), type := 65, pos := "law.go:72", after := #[{ on := 1, ground := Go.Ground.data }], guard := none }) (v := _) rfl (by kernel_rfl) (by kernel_rfl) (by kernel_rfl) (fun _ _ _ h => h) (by kernel_rfl) (Or.inl ⟨by rfl, ?hy25⟩) BD.out ?rest25
          case hy25 => (intro W hSw; have hb := (hSw.block _ (tk_lt HC.out.2.1)).trans HC.out.2.1; have hc := (tk_store hb).1 8; have hl := tk_lt hb; go_simp; try (with_reducible rfl))
          try simp only [Act.put, List.setIfInBounds_toArray, List.set_cons_zero, List.set_cons_succ]
          refine' wpAnyD_take (i := 4) (oi := { dst := some 34, op := Go.Op.build 80 #[(0, Go.Operand.const (Go.Value.int Go.IntKind.i64 (-77)))], type := 80, pos := "law.go:72", after := #[], guard := none }) (v := _) rfl (by kernel_rfl) (by kernel_rfl) (by kernel_rfl) (fun _ _ _ h => h) (by kernel_rfl) (Or.inl ⟨by rfl, ?hy26⟩) BD.out ?rest26
          case hy26 => (intro W hSw; go_simp; try (with_reducible rfl))
          try simp only [Act.put, List.setIfInBounds_toArray, List.set_cons_zero, List.set_cons_succ]
          refine' wpAnyD_take (i := 7) (oi := { dst := some 37, op := Go.Op.fieldAddr 67 (Go.Operand.tmp 5) 6, type := 0, pos := "law.go:72", after := #[], guard := none }) (v := _) rfl (by kernel_rfl) (by kernel_rfl) (by kernel_rfl) (fun _ _ _ h => h) (by kernel_rfl) (Or.inl ⟨by rfl, ?hy27⟩) BD.out ?rest27
          case hy27 => (intro W hSw; go_simp; try (with_reducible rfl))
          try simp only [Act.put, List.setIfInBounds_toArray, List.set_cons_zero, List.set_cons_succ]
          refine' wpAnyD_take (i := 8) (oi := { dst := some 38, op := Go.Op.load 65 (Go.Operand.tmp 37), type := 65, pos := "law.go:72", after := #[{ on := 7, ground := Go.Ground.data }], guard := none }) (v := _) rfl (by kernel_rfl) (by kernel_rfl) (by kernel_rfl) (fun _ _ _ h => h) (by kernel_rfl) (Or.inl ⟨by rfl, ?hy28⟩) BD.out ?rest28
          case hy28 => (intro W hSw; have hb := (hSw.block _ (tk_lt HC.out.2.1)).trans HC.out.2.1; have hc := (tk_store hb).1 8; have hl := tk_lt hb; go_simp; try (with_reducible rfl))
          try simp only [Act.put, List.setIfInBounds_toArray, List.set_cons_zero, List.set_cons_succ]
          refine' wpAnyD_take (i := 9) (oi := { dst := some 39, op := Go.Op.call { callee := Go.Callee.builtin Go.Builtin.len, args := #[Go.Operand.tmp 38], argTypes := #[65] }, type := 3, pos := "law.go:72", after := #[{ on := 8, ground := Go.Ground.data }], guard := none }) (v := _) rfl (by kernel_rfl) (by kernel_rfl) (by kernel_rfl) (fun _ _ _ h => h) (by kernel_rfl) (Or.inl ⟨by rfl, ?hy29⟩) BD.out ?rest29
          case hy29 => (intro W hSw; go_simp; try (with_reducible rfl))
          try simp only [Act.put, List.setIfInBounds_toArray, List.set_cons_zero, List.set_cons_succ]
          refine wpAnyD_two (i := 0) (j := 5) (oi := { dst := some 30, op := Go.Op.buildSlice 65 0 #[], type := 65, pos := "law.go:72", after := #[], guard := none }) (oj := { dst := some 35, op := Go.Op.buildSlice 65 1 #[(0, Go.Operand.tmp 34)], type := 65, pos := "law.go:72", after := #[{ on := 4, ground := Go.Ground.data }], guard := none }) (by kernel_rfl) rfl rfl (fun K hK => ?_) (fun K hK => ?_)
          · go_simp
            have g30 := (Gr.refl Wd).alloc (.cells #[] 80)
            have a30 := heap_new' Wd (.cells #[] 80)
            obtain ⟨b30, hb30⟩ : ∃ b, b = Wd.heap.size := ⟨_, rfl⟩
            obtain ⟨V30, hV30⟩ : ∃ V, V = Wd.alloc (.cells #[] 80) := ⟨_, rfl⟩
            rw [← hV30, ← hb30]
            rw [← hV30] at g30 a30
            have B30 := hid (BD.out.trans (g30.below.mono BD.out.size))
            have O30 : Hid (V30.ownsRow wc.heap.size 80 5 (.slice (some ⟨b30, 0, none⟩) 0 0) 0 []) := by
              rw [hV30, hb30]
              exact World.ownsRow_made Wd #[] 0 BD.out.size (Nat.zero_le _) rfl
            clear g30 a30 hV30 hb30
            refine hK.out _ _ (fun hD => B30.out) ?_
            clear hK K
            try simp only [Act.put, List.setIfInBounds_toArray, List.set_cons_zero, List.set_cons_succ]
            refine wpAnyD_two (i := 3) (j := 5) (oi := { dst := some 33, op := Go.Op.call { callee := Go.Callee.builtin Go.Builtin.append, args := #[Go.Operand.tmp 30, Go.Operand.tmp 32], argTypes := #[65, 65] }, type := 65, pos := "law.go:72", after := #[{ on := 0, ground := Go.Ground.data }, { on := 2, ground := Go.Ground.data }], guard := none }) (oj := { dst := some 35, op := Go.Op.buildSlice 65 1 #[(0, Go.Operand.tmp 34)], type := 65, pos := "law.go:72", after := #[{ on := 4, ground := Go.Ground.data }], guard := none }) (by kernel_rfl) rfl rfl (fun K hK => ?_) (fun K hK => ?_)
            · refine step_appZ EC Try.underlying65 infoC rfl (by decide) rfl _ _ rfl wc.heap.size (.slice (some ⟨b30, 0, none⟩) 0 0) 0 [] rfl O30.out B30.out.size w.heap.size (.slice dq dm dc) cnn rfl (LC2.out.below B30.out) (by have := HSZ.out; omega) (by have := HSZ.out; unfold maxLen; omega) ?_
              intro v31 w31 h31 k31
              have K31 := hid (Kp.grownBy (S := fun k => ((.slice (some ⟨b30, 0, none⟩) 0 0) : Value).ownBlock = some k) k31.out (fun _ h => h))
              have B31 := hid (B30.out.trans (K31.out.below B30.out.size (fun k hk => (owns_rd O30.out k hk).1)))
              have O31 : Hid (w31.ownsRow wc.heap.size 80 5 v31 cnn.length (fl EC cnn)) := owns_re h31.out (by simp) (by simp)
              clear h31 k31
              refine hK.out _ _ (fun hD => B31.out) ?_
              clear hK K
              try simp only [Act.put, List.setIfInBounds_toArray, List.set_cons_zero, List.set_cons_succ]
              refine wpAnyD_one (i := 5) (o := { dst := some 35, op := Go.Op.buildSlice 65 1 #[(0, Go.Operand.tmp 34)], type := 65, pos := "law.go:72", after := #[{ on := 4, ground := Go.Ground.data }], guard := none }) (by kernel_rfl) rfl (fun K hK => ?_)
              go_simp
              have g32 := (Gr.refl w31).alloc (.cells #[.int .i64 (-77), .int .i64 0, .int .u64 0, .int .u64 0, .int .u64 0] 80)
              have a32 := heap_new' w31 (.cells #[.int .i64 (-77), .int .i64 0, .int .u64 0, .int .u64 0, .int .u64 0] 80)
              obtain ⟨b32, hb32⟩ : ∃ b, b = w31.heap.size := ⟨_, rfl⟩
              obtain ⟨V32, hV32⟩ : ∃ V, V = w31.alloc (.cells #[.int .i64 (-77), .int .i64 0, .int .u64 0, .int .u64 0, .int .u64 0] 80) := ⟨_, rfl⟩
              rw [← hV32, ← hb32]
              rw [← hV32] at g32 a32
              have B32 := hid (B31.out.trans (g32.below.mono B31.out.size))
              have M32 : Hid (V32.heap[b32]? = some (.cells #[.int .i64 (-77), .int .i64 0, .int .u64 0, .int .u64 0, .int .u64 0] 80 (0, 0))) := by
                show _ = _
                rw [hb32]
                exact a32
              have O32 := hid (owns_below O31.out g32.below)
              have N32 : Hid (∀ k, (v31 : Value).ownBlock = some k → k ≠ b32) := fun k hk e => by
                have h1 := (owns_rd O31.out k hk).2
                omega
              clear g32 a32 hV32 hb32
              refine hK.out _ _ (fun hD => B32.out) ?_
              clear hK K
              try simp only [Act.put, List.setIfInBounds_toArray, List.set_cons_zero, List.set_cons_succ]
              refine wpAnyD_one (i := 6) (o := { dst := some 36, op := Go.Op.call { callee := Go.Callee.builtin Go.Builtin.append, args := #[Go.Operand.tmp 33, Go.Operand.tmp 35], argTypes := #[65, 65] }, type := 65, pos := "law.go:72", after := #[{ on := 3, ground := Go.Ground.data }, { on := 5, ground := Go.Ground.data }, { on := 3, ground := Go.Ground.chain }], guard := none }) (by kernel_rfl) rfl (fun K hK => ?_)
              refine step_appL EC Try.underlying65 infoC rfl (by decide) rfl _ _ rfl wc.heap.size v31 cnn.length (fl EC cnn) rfl O32.out B32.out.size (.slice (some ⟨b32, 0, none⟩) 1 1) [mC] rfl (one_ls M32.out rfl) (by have := HSZ.out; simp; omega) (by have := HSZ.out; unfold maxLen; simp; omega) ?_
              intro v33 w33 h33 k33
              have K33 := hid (Kp.grownBy (S := fun k => (v31 : Value).ownBlock = some k) k33.out (fun _ h => h))
              have B33 := hid (B32.out.trans (K33.out.below B32.out.size (fun k hk => (owns_rd O32.out k hk).1)))
              have O33 : Hid (w33.ownsRow wc.heap.size 80 5 v33 (cnn.length + 1) (fl EC (cnn ++ [mC]))) := owns_re h33.out (by simp) (by rw [fl_append])
              obtain ⟨g33, cap33, hv33, hc33, MK33⟩ := mk_of O33.out
              subst hv33
              have HM33 := hid MK33
              have GL33 := hid ((owns_rd O33.out g33 rfl).1)
              have q0 : (0 : Int) ≤ (dm : Int) := by omega
              have q1 : (dm : Int) ≤ (cap33 : Int) := by have := HDM.out; omega
              have q2 : cnn.length + 1 = dm + 1 := by have := HDM.out; omega
              rw [q2]
              clear h33 k33 MK33 hc33 q2
              refine hK.out _ _ (fun hD => B33.out) ?_
              clear hK K
              try simp only [Act.put, List.setIfInBounds_toArray, List.set_cons_zero, List.set_cons_succ]
              refine' wpAnyD_take (i := 10) (oi := { dst := some 40, op := Go.Op.slice 65 (Go.Operand.tmp 36) none (some (Go.Operand.tmp 39)) none, type := 65, pos := "law.go:72", after := #[{ on := 6, ground := Go.Ground.data }, { on := 9, ground := Go.Ground.data }], guard := none }) (v := _) rfl (by kernel_rfl) (by kernel_rfl) (by kernel_rfl) (fun _ _ _ h => h) (by kernel_rfl) (Or.inl ⟨by rfl, ?hy34⟩) B33.out ?rest34
              case hy34 => (intro W hSw; go_simp; try (with_reducible rfl))
              try simp only [Act.put, List.setIfInBounds_toArray, List.set_cons_zero, List.set_cons_succ]
              refine' wpAnyD_take (i := 11) (oi := { dst := some 41, op := Go.Op.fieldAddr 67 (Go.Operand.tmp 6) 6, type := 0, pos := "law.go:72", after := #[{ on := 0, ground := Go.Ground.phase }, { on := 1, ground := Go.Ground.phase }, { on := 2, ground := Go.Ground.phase }, { on := 3, ground := Go.Ground.phase }, { on := 4, ground := Go.Ground.phase }, { on := 5, ground := Go.Ground.phase }, { on := 6, ground := Go.Ground.phase }, { on := 7, ground := Go.Ground.phase }, { on := 8, ground := Go.Ground.phase }, { on := 9, ground := Go.Ground.phase }, { on := 10, ground := Go.Ground.phase }], guard := none }) (v := _) rfl (by kernel_rfl) (by kernel_rfl) (by kernel_rfl) (fun _ _ _ h => h) (by kernel_rfl) (Or.inl ⟨by rfl, ?hy35⟩) B33.out ?rest35
              case hy35 => (intro W hSw; go_simp; try (with_reducible rfl))
              try simp only [Act.put, List.setIfInBounds_toArray, List.set_cons_zero, List.set_cons_succ]
              refine wpAnyD_one (i := 12) (o := { dst := none, op := Go.Op.store 65 (Go.Operand.tmp 41) (Go.Operand.tmp 40), type := 0, pos := "law.go:72", after := #[{ on := 11, ground := Go.Ground.data }, { on := 10, ground := Go.Ground.data }, { on := 6, ground := Go.Ground.chain }, { on := 0, ground := Go.Ground.phase }, { on := 1, ground := Go.Ground.phase }, { on := 2, ground := Go.Ground.phase }, { on := 3, ground := Go.Ground.phase }, { on := 4, ground := Go.Ground.phase }, { on := 5, ground := Go.Ground.phase }, { on := 6, ground := Go.Ground.phase }, { on := 7, ground := Go.Ground.phase }, { on := 8, ground := Go.Ground.phase }, { on := 9, ground := Go.Ground.phase }, { on := 10, ground := Go.Ground.phase }], guard := none }) (by kernel_rfl) rfl (fun K hK => ?_)
              have p6 := (B33.out.block _ (tk_lt HC.out.2.2.1)).trans HC.out.2.2.1
              have en := (tk_store p6).1
              have en2 := (tk_store p6).2
              have en3 := tk_lt p6
              have s12 := tk_set p6 8 (.slice (some ⟨g33, 0, none⟩) dm cap33)
              have hz5 := tk_lt HC.out.2.2.1
              have FIN : Hid (Below nb wr (w33.setCell ⟨nb + 1, 8, none⟩ (.slice (some ⟨g33, 0, none⟩) dm cap33)) ∧ (w33.setCell ⟨nb + 1, 8, none⟩ (.slice (some ⟨g33, 0, none⟩) dm cap33)).heap[nb + 1]? = some (.cells (ncells yk yi yo (.slice (some ⟨g1, 0, none⟩) cm k1) via bd (.slice (some ⟨g33, 0, none⟩) dm cap33) st) 67 (0, 0)) ∧ Mk EO (w33.setCell ⟨nb + 1, 8, none⟩ (.slice (some ⟨g33, 0, none⟩) dm cap33)) (.slice (some ⟨g1, 0, none⟩) cm k1) cd mO ∧ Mk EC (w33.setCell ⟨nb + 1, 8, none⟩ (.slice (some ⟨g33, 0, none⟩) dm cap33)) (.slice (some ⟨g33, 0, none⟩) dm cap33) cnn mC ∧ nb + 1 < g1 ∧ nb + 1 < g33) := by
                have h1 := B33.out.mono (show nb ≤ wc.heap.size by omega)
                have h2 := h1.trans (s12.2.below (Nat.le_trans (by omega) h1.size) (fun k e => by omega))
                have hg := GL33.out
                have h3 := HM33.out
                rw [← HDM.out] at h3
                have h4 := HC.out.2.2.2.2.1
                exact ⟨HC.out.1.trans h2, s12.1, (HC.out.2.2.2.1.below B33.out).kp s12.2 (fun k e e2 => by simp [Value.ownBlock] at e; omega), h3.kp s12.2 (fun k e e2 => by simp [Value.ownBlock] at e; omega), h4, by omega⟩
              clear p6 s12 hz5
              go_simp
              refine hK.out _ _ (fun hD => absurd (by decide) hD) ?_
              clear hK K
              try simp only [Act.put, List.setIfInBounds_toArray, List.set_cons_zero, List.set_cons_succ]
              refine wpAnyD_done (by kernel_rfl) ?_ _
              go_wp2_with fail
              go_meet
              exact ⟨g33, cap33, FIN.out⟩
            · go_simp
              have g36 := (Gr.refl V30).alloc (.cells #[.int .i64 (-77), .int .i64 0, .int .u64 0, .int .u64 0, .int .u64 0] 80)
              have a36 := heap_new' V30 (.cells #[.int .i64 (-77), .int .i64 0, .int .u64 0, .int .u64 0, .int .u64 0] 80)
              obtain ⟨b36, hb36⟩ : ∃ b, b = V30.heap.size := ⟨_, rfl⟩
              obtain ⟨V36, hV36⟩ : ∃ V, V = V30.alloc (.cells #[.int .i64 (-77), .int .i64 0, .int .u64 0, .int .u64 0, .int .u64 0] 80) := ⟨_, rfl⟩
              rw [← hV36, ← hb36]
              rw [← hV36] at g36 a36
              have B36 := hid (B30.out.trans (g36.below.mono B30.out.size))
              have M36 : Hid (V36.heap[b36]? = some (.cells #[.int .i64 (-77), .int .i64 0, .int .u64 0, .int .u64 0, .int .u64 0] 80 (0, 0))) := by
                show _ = _
                rw [hb36]
                exact a36
              have O36 := hid (owns_below O30.out g36.below)
              have N36 : Hid (∀ k, ((.slice (some ⟨b30, 0, none⟩) 0 0) : Value).ownBlock = some k → k ≠ b36) := fun k hk e => by
                have h1 := (owns_rd O30.out k hk).2
                omega
              clear g36 a36 hV36 hb36
              refine hK.out _ _ (fun hD => B36.out) ?_
              clear hK K
              try simp only [Act.put, List.setIfInBounds_toArray, List.set_cons_zero, List.set_cons_succ]
              refine wpAnyD_one (i := 3) (o := { dst := some 33, op := Go.Op.call { callee := Go.Callee.builtin Go.Builtin.append, args := #[Go.Operand.tmp 30, Go.Operand.tmp 32], argTypes := #[65, 65] }, type := 65, pos := "law.go:72", after := #[{ on := 0, ground := Go.Ground.data }, { on := 2, ground := Go.Ground.data }], guard := none }) (by kernel_rfl) rfl (fun K hK => ?_)
              refine step_appZ EC Try.underlying65 infoC rfl (by decide) rfl _ _ rfl wc.heap.size (.slice (some ⟨b30, 0, none⟩) 0 0) 0 [] rfl O36.out B36.out.size w.heap.size (.slice dq dm dc) cnn rfl (LC2.out.below B36.out) (by have := HSZ.out; omega) (by have := HSZ.out; unfold maxLen; omega) ?_
              intro v37 w37 h37 k37
              have K37 := hid (Kp.grownBy (S := fun k => ((.slice (some ⟨b30, 0, none⟩) 0 0) : Value).ownBlock = some k) k37.out (fun _ h => h))
              have B37 := hid (B36.out.trans (K37.out.below B36.out.size (fun k hk => (owns_rd O36.out k hk).1)))
              have O37 : Hid (w37.ownsRow wc.heap.size 80 5 v37 cnn.length (fl EC cnn)) := owns_re h37.out (by simp) (by simp)
              have M37 := hid ((K37.out.block _ (tk_lt M36.out) (fun e => N36.out _ e rfl)).trans M36.out)
              clear h37 k37
              refine hK.out _ _ (fun hD => B37.out) ?_
              clear hK K
              try simp only [Act.put, List.setIfInBounds_toArray, List.set_cons_zero, List.set_cons_succ]
              refine wpAnyD_one (i := 6) (o := { dst := some 36, op := Go.Op.call { callee := Go.Callee.builtin Go.Builtin.append, args := #[Go.Operand.tmp 33, Go.Operand.tmp 35], argTypes := #[65, 65] }, type := 65, pos := "law.go:72", after := #[{ on := 3, ground := Go.Ground.data }, { on := 5, ground := Go.Ground.data }, { on := 3, ground := Go.Ground.chain }], guard := none }) (by kernel_rfl) rfl (fun K hK => ?_)
              refine step_appL EC Try.underlying65 infoC rfl (by decide) rfl _ _ rfl wc.heap.size v37 cnn.length (fl EC cnn) rfl O37.out B37.out.size (.slice (some ⟨b36, 0, none⟩) 1 1) [mC] rfl (one_ls M37.out rfl) (by have := HSZ.out; simp; omega) (by have := HSZ.out; unfold maxLen; simp; omega) ?_
              intro v38 w38 h38 k38
              have K38 := hid (Kp.grownBy (S := fun k => (v37 : Value).ownBlock = some k) k38.out (fun _ h => h))
              have B38 := hid (B37.out.trans (K38.out.below B37.out.size (fun k hk => (owns_rd O37.out k hk).1)))
              have O38 : Hid (w38.ownsRow wc.heap.size 80 5 v38 (cnn.length + 1) (fl EC (cnn ++ [mC]))) := owns_re h38.out (by simp) (by rw [fl_append])
              obtain ⟨g38, cap38, hv38, hc38, MK38⟩ := mk_of O38.out
              subst hv38
              have HM38 := hid MK38
              have GL38 := hid ((owns_rd O38.out g38 rfl).1)
              have q0 : (0 : Int) ≤ (dm : Int) := by omega
              have q1 : (dm : Int) ≤ (cap38 : Int) := by have := HDM.out; omega
              have q2 : cnn.length + 1 = dm + 1 := by have := HDM.out; omega
              rw [q2]
              clear h38 k38 MK38 hc38 q2
              refine hK.out _ _ (fun hD => B38.out) ?_
              clear hK K
              try simp only [Act.put, List.setIfInBounds_toArray, List.set_cons_zero, List.set_cons_succ]
              refine' wpAnyD_take (i := 10) (oi := { dst := some 40, op := Go.Op.slice 65 (Go.Operand.tmp 36) none (some (Go.Operand.tmp 39)) none, type := 65, pos := "law.go:72", after := #[{ on := 6, ground := Go.Ground.data }, { on := 9, ground := Go.Ground.data }], guard := none }) (v := _) rfl (by kernel_rfl) (by kernel_rfl) (by kernel_rfl) (fun _ _ _ h => h) (by kernel_rfl) (Or.inl ⟨by rfl, ?hy39⟩) B38.out ?rest39
              case hy39 => (intro W hSw; go_simp; try (with_reducible rfl))
              try simp only [Act.put, List.setIfInBounds_toArray, List.set_cons_zero, List.set_cons_succ]
              refine' wpAnyD_take (i := 11) (oi := { dst := some 41, op := Go.Op.fieldAddr 67 (Go.Operand.tmp 6) 6, type := 0, pos := "law.go:72", after := #[{ on := 0, ground := Go.Ground.phase }, { on := 1, ground := Go.Ground.phase }, { on := 2, ground := Go.Ground.phase }, { on := 3, ground := Go.Ground.phase }, { on := 4, ground := Go.Ground.phase }, { on := 5, ground := Go.Ground.phase }, { on := 6, ground := Go.Ground.phase }, { on := 7, ground := Go.Ground.phase }, { on := 8, ground := Go.Ground.phase }, { on := 9, ground := Go.Ground.phase }, { on := 10, ground := Go.Ground.phase }], guard := none }) (v := _) rfl (by kernel_rfl) (by kernel_rfl) (by kernel_rfl) (fun _ _ _ h => h) (by kernel_rfl) (Or.inl ⟨by rfl, ?hy40⟩) B38.out ?rest40
              case hy40 => (intro W hSw; go_simp; try (with_reducible rfl))
              try simp only [Act.put, List.setIfInBounds_toArray, List.set_cons_zero, List.set_cons_succ]
              refine wpAnyD_one (i := 12) (o := { dst := none, op := Go.Op.store 65 (Go.Operand.tmp 41) (Go.Operand.tmp 40), type := 0, pos := "law.go:72", after := #[{ on := 11, ground := Go.Ground.data }, { on := 10, ground := Go.Ground.data }, { on := 6, ground := Go.Ground.chain }, { on := 0, ground := Go.Ground.phase }, { on := 1, ground := Go.Ground.phase }, { on := 2, ground := Go.Ground.phase }, { on := 3, ground := Go.Ground.phase }, { on := 4, ground := Go.Ground.phase }, { on := 5, ground := Go.Ground.phase }, { on := 6, ground := Go.Ground.phase }, { on := 7, ground := Go.Ground.phase }, { on := 8, ground := Go.Ground.phase }, { on := 9, ground := Go.Ground.phase }, { on := 10, ground := Go.Ground.phase }], guard := none }) (by kernel_rfl) rfl (fun K hK => ?_)
              have p6 := (B38.out.block _ (tk_lt HC.out.2.2.1)).trans HC.out.2.2.1
              have en := (tk_store p6).1
              have en2 := (tk_store p6).2
              have en3 := tk_lt p6
              have s12 := tk_set p6 8 (.slice (some ⟨g38, 0, none⟩) dm cap38)
              have hz5 := tk_lt HC.out.2.2.1
              have FIN : Hid (Below nb wr (w38.setCell ⟨nb + 1, 8, none⟩ (.slice (some ⟨g38, 0, none⟩) dm cap38)) ∧ (w38.setCell ⟨nb + 1, 8, none⟩ (.slice (some ⟨g38, 0, none⟩) dm cap38)).heap[nb + 1]? = some (.cells (ncells yk yi yo (.slice (some ⟨g1, 0, none⟩) cm k1) via bd (.slice (some ⟨g38, 0, none⟩) dm cap38) st) 67 (0, 0)) ∧ Mk EO (w38.setCell ⟨nb + 1, 8, none⟩ (.slice (some ⟨g38, 0, none⟩) dm cap38)) (.slice (some ⟨g1, 0, none⟩) cm k1) cd mO ∧ Mk EC (w38.setCell ⟨nb + 1, 8, none⟩ (.slice (some ⟨g38, 0, none⟩) dm cap38)) (.slice (some ⟨g38, 0, none⟩) dm cap38) cnn mC ∧ nb + 1 < g1 ∧ nb + 1 < g38) := by
                have h1 := B38.out.mono (show nb ≤ wc.heap.size by omega)
                have h2 := h1.trans (s12.2.below (Nat.le_trans (by omega) h1.size) (fun k e => by omega))
                have hg := GL38.out
                have h3 := HM38.out
                rw [← HDM.out] at h3
                have h4 := HC.out.2.2.2.2.1
                exact ⟨HC.out.1.trans h2, s12.1, (HC.out.2.2.2.1.below B38.out).kp s12.2 (fun k e e2 => by simp [Value.ownBlock] at e; omega), h3.kp s12.2 (fun k e e2 => by simp [Value.ownBlock] at e; omega), h4, by omega⟩
              clear p6 s12 hz5
              go_simp
              refine hK.out _ _ (fun hD => absurd (by decide) hD) ?_
              clear hK K
              try simp only [Act.put, List.setIfInBounds_toArray, List.set_cons_zero, List.set_cons_succ]
              refine wpAnyD_done (by kernel_rfl) ?_ _
              go_wp2_with fail
              go_meet
              exact ⟨g38, cap38, FIN.out⟩
          · go_simp
            have g41 := (Gr.refl Wd).alloc (.cells #[.int .i64 (-77), .int .i64 0, .int .u64 0, .int .u64 0, .int .u64 0] 80)
            have a41 := heap_new' Wd (.cells #[.int .i64 (-77), .int .i64 0, .int .u64 0, .int .u64 0, .int .u64 0] 80)
            obtain ⟨b41, hb41⟩ : ∃ b, b = Wd.heap.size := ⟨_, rfl⟩
            obtain ⟨V41, hV41⟩ : ∃ V, V = Wd.alloc (.cells #[.int .i64 (-77), .int .i64 0, .int .u64 0, .int .u64 0, .int .u64 0] 80) := ⟨_, rfl⟩
            rw [← hV41, ← hb41]
            rw [← hV41] at g41 a41
            have B41 := hid (BD.out.trans (g41.below.mono BD.out.size))
            have M41 : Hid (V41.heap[b41]? = some (.cells #[.int .i64 (-77), .int .i64 0, .int .u64 0, .int .u64 0, .int .u64 0] 80 (0, 0))) := by
              show _ = _
              rw [hb41]
              exact a41
            clear g41 a41 hV41 hb41
            refine hK.out _ _ (fun hD => B41.out) ?_
            clear hK K
            try simp only [Act.put, List.setIfInBounds_toArray, List.set_cons_zero, List.set_cons_succ]
            refine wpAnyD_one (i := 0) (o := { dst := some 30, op := Go.Op.buildSlice 65 0 #[], type := 65, pos := "law.go:72", after := #[], guard := none }) (by kernel_rfl) rfl (fun K hK => ?_)
            go_simp
            have g42 := (Gr.refl V41).alloc (.cells #[] 80)
            have a42 := heap_new' V41 (.cells #[] 80)
            obtain ⟨b42, hb42⟩ : ∃ b, b = V41.heap.size := ⟨_, rfl⟩
            obtain ⟨V42, hV42⟩ : ∃ V, V = V41.alloc (.cells #[] 80) := ⟨_, rfl⟩
            rw [← hV42, ← hb42]
            rw [← hV42] at g42 a42
            have B42 := hid (B41.out.trans (g42.below.mono B41.out.size))
            have O42 : Hid (V42.ownsRow wc.heap.size 80 5 (.slice (some ⟨b42, 0, none⟩) 0 0) 0 []) := by
              rw [hV42, hb42]
              exact World.ownsRow_made V41 #[] 0 B41.out.size (Nat.zero_le _) rfl
            have M42 := hid ((g42.below.block _ (tk_lt M41.out)).trans M41.out)
            have N42 : Hid (∀ k, (Value.slice (some ⟨b42, 0, none⟩) 0 0).ownBlock = some k → k ≠ b41) := fun k hk e => by
              have h1 := tk_lt M41.out
              simp [Value.ownBlock] at hk
              omega
            clear g42 a42 hV42 hb42
            refine hK.out _ _ (fun hD => B42.out) ?_
            clear hK K
            try simp only [Act.put, List.setIfInBounds_toArray, List.set_cons_zero, List.set_cons_succ]
            refine wpAnyD_one (i := 3) (o := { dst := some 33, op := Go.Op.call { callee := Go.Callee.builtin Go.Builtin.append, args := #[Go.Operand.tmp 30, Go.Operand.tmp 32], argTypes := #[65, 65] }, type := 65, pos := "law.go:72", after := #[{ on := 0, ground := Go.Ground.data }, { on := 2, ground := Go.Ground.data }], guard := none }) (by kernel_rfl) rfl (fun K hK => ?_)
            refine step_appZ EC Try.underlying65 infoC rfl (by decide) rfl _ _ rfl wc.heap.size (.slice (some ⟨b42, 0, none⟩) 0 0) 0 [] rfl O42.out B42.out.size w.heap.size (.slice dq dm dc) cnn rfl (LC2.out.below B42.out) (by have := HSZ.out; omega) (by have := HSZ.out; unfold maxLen; omega) ?_
            intro v43 w43 h43 k43
            have K43 := hid (Kp.grownBy (S := fun k => ((.slice (some ⟨b42, 0, none⟩) 0 0) : Value).ownBlock = some k) k43.out (fun _ h => h))
            have B43 := hid (B42.out.trans (K43.out.below B42.out.size (fun k hk => (owns_rd O42.out k hk).1)))
            have O43 : Hid (w43.ownsRow wc.heap.size 80 5 v43 cnn.length (fl EC cnn)) := owns_re h43.out (by simp) (by simp)
            have M43 := hid ((K43.out.block _ (tk_lt M42.out) (fun e => N42.out _ e rfl)).trans M42.out)
            clear h43 k43
            refine hK.out _ _ (fun hD => B43.out) ?_
            clear hK K
            try simp only [Act.put, List.setIfInBounds_toArray, List.set_cons_zero, List.set_cons_succ]
            refine wpAnyD_one (i := 6) (o := { dst := some 36, op := Go.Op.call { callee := Go.Callee.builtin Go.Builtin.append, args := #[Go.Operand.tmp 33, Go.Operand.tmp 35], argTypes := #[65, 65] }, type := 65, pos := "law.go:72", after := #[{ on := 3, ground := Go.Ground.data }, { on := 5, ground := Go.Ground.data }, { on := 3, ground := Go.Ground.chain }], guard := none }) (by kernel_rfl) rfl (fun K hK => ?_)
            refine step_appL EC Try.underlying65 infoC rfl (by decide) rfl _ _ rfl wc.heap.size v43 cnn.length (fl EC cnn) rfl O43.out B43.out.size (.slice (some ⟨b41, 0, none⟩) 1 1) [mC] rfl (one_ls M43.out rfl) (by have := HSZ.out; simp; omega) (by have := HSZ.out; unfold maxLen; simp; omega) ?_
            intro v44 w44 h44 k44
            have K44 := hid (Kp.grownBy (S := fun k => (v43 : Value).ownBlock = some k) k44.out (fun _ h => h))
            have B44 := hid (B43.out.trans (K44.out.below B43.out.size (fun k hk => (owns_rd O43.out k hk).1)))
            have O44 : Hid (w44.ownsRow wc.heap.size 80 5 v44 (cnn.length + 1) (fl EC (cnn ++ [mC]))) := owns_re h44.out (by simp) (by rw [fl_append])
            obtain ⟨g44, cap44, hv44, hc44, MK44⟩ := mk_of O44.out
            subst hv44
            have HM44 := hid MK44
            have GL44 := hid ((owns_rd O44.out g44 rfl).1)
            have q0 : (0 : Int) ≤ (dm : Int) := by omega
            have q1 : (dm : Int) ≤ (cap44 : Int) := by have := HDM.out; omega
            have q2 : cnn.length + 1 = dm + 1 := by have := HDM.out; omega
            rw [q2]
            clear h44 k44 MK44 hc44 q2
            refine hK.out _ _ (fun hD => B44.out) ?_
            clear hK K
            try simp only [Act.put, List.setIfInBounds_toArray, List.set_cons_zero, List.set_cons_succ]
            refine' wpAnyD_take (i := 10) (oi := { dst := some 40, op := Go.Op.slice 65 (Go.Operand.tmp 36) none (some (Go.Operand.tmp 39)) none, type := 65, pos := "law.go:72", after := #[{ on := 6, ground := Go.Ground.data }, { on := 9, ground := Go.Ground.data }], guard := none }) (v := _) rfl (by kernel_rfl) (by kernel_rfl) (by kernel_rfl) (fun _ _ _ h => h) (by kernel_rfl) (Or.inl ⟨by rfl, ?hy45⟩) B44.out ?rest45
            case hy45 => (intro W hSw; go_simp; try (with_reducible rfl))
            try simp only [Act.put, List.setIfInBounds_toArray, List.set_cons_zero, List.set_cons_succ]
            refine' wpAnyD_take (i := 11) (oi := { dst := some 41, op := Go.Op.fieldAddr 67 (Go.Operand.tmp 6) 6, type := 0, pos := "law.go:72", after := #[{ on := 0, ground := Go.Ground.phase }, { on := 1, ground := Go.Ground.phase }, { on := 2, ground := Go.Ground.phase }, { on := 3, ground := Go.Ground.phase }, { on := 4, ground := Go.Ground.phase }, { on := 5, ground := Go.Ground.phase }, { on := 6, ground := Go.Ground.phase }, { on := 7, ground := Go.Ground.phase }, { on := 8, ground := Go.Ground.phase }, { on := 9, ground := Go.Ground.phase }, { on := 10, ground := Go.Ground.phase }], guard := none }) (v := _) rfl (by kernel_rfl) (by kernel_rfl) (by kernel_rfl) (fun _ _ _ h => h) (by kernel_rfl) (Or.inl ⟨by rfl, ?hy46⟩) B44.out ?rest46
            case hy46 => (intro W hSw; go_simp; try (with_reducible rfl))
            try simp only [Act.put, List.setIfInBounds_toArray, List.set_cons_zero, List.set_cons_succ]
            refine wpAnyD_one (i := 12) (o := { dst := none, op := Go.Op.store 65 (Go.Operand.tmp 41) (Go.Operand.tmp 40), type := 0, pos := "law.go:72", after := #[{ on := 11, ground := Go.Ground.data }, { on := 10, ground := Go.Ground.data }, { on := 6, ground := Go.Ground.chain }, { on := 0, ground := Go.Ground.phase }, { on := 1, ground := Go.Ground.phase }, { on := 2, ground := Go.Ground.phase }, { on := 3, ground := Go.Ground.phase }, { on := 4, ground := Go.Ground.phase }, { on := 5, ground := Go.Ground.phase }, { on := 6, ground := Go.Ground.phase }, { on := 7, ground := Go.Ground.phase }, { on := 8, ground := Go.Ground.phase }, { on := 9, ground := Go.Ground.phase }, { on := 10, ground := Go.Ground.phase }], guard := none }) (by kernel_rfl) rfl (fun K hK => ?_)
            have p6 := (B44.out.block _ (tk_lt HC.out.2.2.1)).trans HC.out.2.2.1
            have en := (tk_store p6).1
            have en2 := (tk_store p6).2
            have en3 := tk_lt p6
            have s12 := tk_set p6 8 (.slice (some ⟨g44, 0, none⟩) dm cap44)
            have hz5 := tk_lt HC.out.2.2.1
            have FIN : Hid (Below nb wr (w44.setCell ⟨nb + 1, 8, none⟩ (.slice (some ⟨g44, 0, none⟩) dm cap44)) ∧ (w44.setCell ⟨nb + 1, 8, none⟩ (.slice (some ⟨g44, 0, none⟩) dm cap44)).heap[nb + 1]? = some (.cells (ncells yk yi yo (.slice (some ⟨g1, 0, none⟩) cm k1) via bd (.slice (some ⟨g44, 0, none⟩) dm cap44) st) 67 (0, 0)) ∧ Mk EO (w44.setCell ⟨nb + 1, 8, none⟩ (.slice (some ⟨g44, 0, none⟩) dm cap44)) (.slice (some ⟨g1, 0, none⟩) cm k1) cd mO ∧ Mk EC (w44.setCell ⟨nb + 1, 8, none⟩ (.slice (some ⟨g44, 0, none⟩) dm cap44)) (.slice (some ⟨g44, 0, none⟩) dm cap44) cnn mC ∧ nb + 1 < g1 ∧ nb + 1 < g44) := by
              have h1 := B44.out.mono (show nb ≤ wc.heap.size by omega)
              have h2 := h1.trans (s12.2.below (Nat.le_trans (by omega) h1.size) (fun k e => by omega))
              have hg := GL44.out
              have h3 := HM44.out
              rw [← HDM.out] at h3
              have h4 := HC.out.2.2.2.2.1
              exact ⟨HC.out.1.trans h2, s12.1, (HC.out.2.2.2.1.below B44.out).kp s12.2 (fun k e e2 => by simp [Value.ownBlock] at e; omega), h3.kp s12.2 (fun k e e2 => by simp [Value.ownBlock] at e; omega), h4, by omega⟩
            clear p6 s12 hz5
            go_simp
            refine hK.out _ _ (fun hD => absurd (by decide) hD) ?_
            clear hK K
            try simp only [Act.put, List.setIfInBounds_toArray, List.set_cons_zero, List.set_cons_succ]
            refine wpAnyD_done (by kernel_rfl) ?_ _
            go_wp2_with fail
            go_meet
            exact ⟨g44, cap44, FIN.out⟩
        case rest =>
          obtain ⟨g2, k2, HD⟩ := hcut
          clear HC LC2
          have HBW : Hid (Below wr.heap.size wr wc) := by
            have h := HD.out.1
            rw [HNB.out] at h
            exact h
          have R8 := hid (HI.out.1.below HBW.out)
          obtain ⟨-, ⟨c2, f2⟩, -, -, l2⟩ := R8.out.facts
          have cm2 := (tk_store HD.out.2.1).1
          have lm2 := tk_lt HD.out.2.1
          have hyl : Hid (ys.length ≤ nl ∧ (ys.length + 1) * 112 ≤ 140737488355328 ∧ ys.length + 1 ≤ maxLen) := by
            have h1 := HI.out.2.1
            have h2 := HBG.out.1
            have h3 := HNL.out
            refine ⟨by omega, by omega, by unfold maxLen; omega⟩
          have hb3 : Hid (w.heap.size + 3 ≤ wc.heap.size) := by show _ ≤ _; omega
          go_wp2_with (at_builtin; refine wpApp1 EV Try.underlying22 infoV rfl (by decide) rfl _ _ rfl (w.heap.size + 3) _ ys.length _ rfl R8.out.row ⟨⟨yk, yi, yo, cd, via, bd, cnn, st⟩, some ⟨g1, 0, none⟩, cm, k1, some ⟨g2, 0, none⟩, dm, k2⟩ (by first | rfl | (go_simp; done)) hyl.out.2.1 hyl.out.2.2 hb3.out _ rfl _ ?_)
          intro g cap w9 h1 h2 h3
          have R9 := hid (HI.out.1.more (x := ⟨⟨yk, yi, yo, cd, via, bd, cnn, st⟩, some ⟨g1, 0, none⟩, cm, k1, some ⟨g2, 0, none⟩, dm, k2⟩) HBW.out ⟨HD.out.2.2.1, HD.out.2.2.2.1⟩ ⟨fun k e => by have h5 := HD.out.2.2.2.2.1; have h6 := HNB.out; simp [Value.ownBlock] at e; omega, fun k e => by have h5 := HD.out.2.2.2.2.2; have h6 := HNB.out; simp [Value.ownBlock] at e; omega⟩ h1 h2 h3)
          clear h1 h2 h3 c2 f2 l2 cm2 lm2 R8
          obtain ⟨-, ⟨c2, f2⟩, -, -, l2⟩ := R9.out.facts
          have hnl9 : nl ≤ 140737488351232 := by have h1 := HBG.out.1; have h2 := HNL.out; omega
          go_wp2_with fail
          go_roundw
          case rel =>
            refine ⟨j + 1, .slice (some ⟨g, 0, none⟩) (ys.length + 1) cap, _, by omega, by go_num, R9.out.set 1 _, by rw [List.length_append, List.length_singleton, HI.out.2.1], ?_⟩
            rw [List.take_add_one, HY.out, List.map_append, List.map_append, HI.out.2.2]
            rfl
          case measure => simp [RowKit.intOf]; omega
    · have hltz : ¬ (j : Int) < (nl : Int) := by omega
      have hyx : Hid (ys.length = nl ∧ ys.map NV.n = xs.map NV.n ∧ ys.length = xs.length) := by
        have h1 := HI.out.2.1
        have h2 := HI.out.2.2
        have h3 := HNL.out
        have hjl : j = xs.length := by omega
        rw [hjl, List.take_length] at h2
        exact ⟨by omega, h2, by omega⟩
      have R10 := hid HI.out.1
      obtain ⟨c0, ⟨c2, f2⟩, l0, l1, l2⟩ := R10.out.facts
      go_upto_region 10 with fail
      clear c0 c2 f2 l0 l1 l2
      refine wp_regionD (S := fun W => W.heap[w.heap.size + 2]? = some (.cells (gvc a (.slice qu mu cu) (.slice none 0 0)) 25 (0, 0)) ∧ W.heap[w.heap.size]? = some (.cells (gvc a (.slice pn nl cn) (.slice pe el ce)) 25 (0, 0))) (D := [10]) hmx ?_
      have BD : Hid (Below wr.heap.size wr wr.drew) := (Gr.refl _).drew.below
      generalize wr.drew = Wd at BD ⊢
      have S0 : Hid (Wd.heap[w.heap.size + 2]? = some (.cells (gvc a (.slice qu mu cu) (.slice none 0 0)) 25 (0, 0)) ∧ Wd.heap[w.heap.size]? = some (.cells (gvc a (.slice pn nl cn) (.slice pe el ce)) 25 (0, 0))) := ⟨(BD.out.block _ (tk_lt R10.out.h3)).trans R10.out.h3, (BD.out.block _ (tk_lt R10.out.h1)).trans R10.out.h1⟩
      refine' wpAnyD_take (i := 0) (oi := { dst := some 49, op := Go.Op.fieldAddr 25 (Go.Operand.tmp 3) 1, type := 0, pos := "law.go:75", after := #[], guard := none }) (v := _) rfl (by kernel_rfl) (by kernel_rfl) (by kernel_rfl) (fun _ _ _ h => h) (by kernel_rfl) (Or.inl ⟨by rfl, ?hy47⟩) S0.out ?rest47
      case hy47 => (intro W hSw; go_simp; try (with_reducible rfl))
      try simp only [Act.put, List.setIfInBounds_toArray, List.set_cons_zero, List.set_cons_succ]
      refine' wpAnyD_take (i := 1) (oi := { dst := some 50, op := Go.Op.load 22 (Go.Operand.tmp 49), type := 22, pos := "law.go:75", after := #[{ on := 0, ground := Go.Ground.data }], guard := none }) (v := _) rfl (by kernel_rfl) (by kernel_rfl) (by kernel_rfl) (fun _ _ _ h => h) (by kernel_rfl) (Or.inl ⟨by rfl, ?hy48⟩) S0.out ?rest48
      case hy48 => (intro W hSw; have hc := (tk_store hSw.1).1 1; have hl := tk_lt hSw.1; go_simp; try (with_reducible rfl))
      try simp only [Act.put, List.setIfInBounds_toArray, List.set_cons_zero, List.set_cons_succ]
      refine' wpAnyD_take (i := 2) (oi := { dst := some 51, op := Go.Op.build 67 #[(0, Go.Operand.const (Go.Value.int Go.IntKind.i64 (-77)))], type := 67, pos := "law.go:75", after := #[], guard := none }) (v := _) rfl (by kernel_rfl) (by kernel_rfl) (by kernel_rfl) (fun _ _ _ h => h) (by kernel_rfl) (Or.inl ⟨by rfl, ?hy49⟩) S0.out ?rest49
      case hy49 => (intro W hSw; go_simp; try (with_reducible rfl))
      try simp only [Act.put, List.setIfInBounds_toArray, List.set_cons_zero, List.set_cons_succ]
      refine' wpAnyD_take (i := 5) (oi := { dst := some 54, op := Go.Op.fieldAddr 25 (Go.Operand.tmp 1) 1, type := 0, pos := "law.go:75", after := #[], guard := none }) (v := _) rfl (by kernel_rfl) (by kernel_rfl) (by kernel_rfl) (fun _ _ _ h => h) (by kernel_rfl) (Or.inl ⟨by rfl, ?hy50⟩) S0.out ?rest50
      case hy50 => (intro W hSw; go_simp; try (with_reducible rfl))
      try simp only [Act.put, List.setIfInBounds_toArray, List.set_cons_zero, List.set_cons_succ]
      refine' wpAnyD_take (i := 6) (oi := { dst := some 55, op := Go.Op.load 22 (Go.Operand.tmp 54), type := 22, pos := "law.go:75", after := #[{ on := 5, ground := Go.Ground.data }], guard := none }) (v := _) rfl (by kernel_rfl) (by kernel_rfl) (by kernel_rfl) (fun _ _ _ h => h) (by kernel_rfl) (Or.inl ⟨by rfl, ?hy51⟩) S0.out ?rest51
      case hy51 => (intro W hSw; have hc := (tk_store hSw.2).1 1; have hl := tk_lt hSw.2; go_simp; try (with_reducible rfl))
      try simp only [Act.put, List.setIfInBounds_toArray, List.set_cons_zero, List.set_cons_succ]
      refine' wpAnyD_take (i := 7) (oi := { dst := some 56, op := Go.Op.call { callee := Go.Callee.builtin Go.Builtin.len, args := #[Go.Operand.tmp 55], argTypes := #[22] }, type := 3, pos := "law.go:75", after := #[{ on := 6, ground := Go.Ground.data }], guard := none }) (v := _) rfl (by kernel_rfl) (by kernel_rfl) (by kernel_rfl) (fun _ _ _ h => h) (by kernel_rfl) (Or.inl ⟨by rfl, ?hy52⟩) S0.out ?rest52
      case hy52 => (intro W hSw; go_simp; try (with_reducible rfl))
      try simp only [Act.put, List.setIfInBounds_toArray, List.set_cons_zero, List.set_cons_succ]
      refine wpAnyD_one (i := 3) (o := { dst := some 52, op := Go.Op.buildSlice 22 1 #[(0, Go.Operand.tmp 51)], type := 22, pos := "law.go:75", after := #[{ on := 2, ground := Go.Ground.data }], guard := none }) (by kernel_rfl) rfl (fun K hK => ?_)
      go_simp
      have g900 := (Gr.refl Wd).alloc (.cells #[.int .i64 (-77), .int .i64 0, .int .i64 0, .slice none 0 0, .int .u64 0, .int .u64 0, .int .u64 0, .int .u64 0, .slice none 0 0, .bool false] 67)
      have a900 := heap_new' Wd (.cells #[.int .i64 (-77), .int .i64 0, .int .i64 0, .slice none 0 0, .int .u64 0, .int .u64 0, .int .u64 0, .int .u64 0, .slice none 0 0, .bool false] 67)
      obtain ⟨b900, hb900⟩ : ∃ b, b = Wd.heap.size := ⟨_, rfl⟩
      obtain ⟨V900, hV900⟩ : ∃ V, V = Wd.alloc (.cells #[.int .i64 (-77), .int .i64 0, .int .i64 0, .slice none 0 0, .int .u64 0, .int .u64 0, .int .u64 0, .int .u64 0, .slice none 0 0, .bool false] 67) := ⟨_, rfl⟩
      rw [← hV900, ← hb900]
      rw [← hV900] at g900 a900
      have B900 := hid (BD.out.trans (g900.below.mono BD.out.size))
      have M900 : Hid (V900.heap[b900]? = some (.cells #[.int .i64 (-77), .int .i64 0, .int .i64 0, .slice none 0 0, .int .u64 0, .int .u64 0, .int .u64 0, .int .u64 0, .slice none 0 0, .bool false] 67 (0, 0))) := by
        show _ = _
        rw [hb900]
        exact a900
      have S900 := hid (And.intro ((g900.below.block _ (tk_lt S0.out.1)).trans S0.out.1) ((g900.below.block _ (tk_lt S0.out.2)).trans S0.out.2))
      clear g900 a900 hV900 hb900
      refine hK.out _ _ (fun hD => S900.out) ?_
      clear hK K
      try simp only [Act.put, List.setIfInBounds_toArray, List.set_cons_zero, List.set_cons_succ]
      refine wpAnyD_one (i := 4) (o := { dst := some 53, op := Go.Op.call { callee := Go.Callee.builtin Go.Builtin.append, args := #[Go.Operand.tmp 50, Go.Operand.tmp 52], argTypes := #[22, 22] }, type := 22, pos := "law.go:75", after := #[{ on := 1, ground := Go.Ground.data }, { on := 3, ground := Go.Ground.data }], guard := none }) (by kernel_rfl) rfl (fun K hK => ?_)
      have hb4 : Hid (w.heap.size + 3 ≤ V900.heap.size ∧ (ys.length + 1) * 112 ≤ 140737488355328 ∧ ys.length + 1 ≤ maxLen) := by
        have h1 := tk_lt R10.out.h3
        have h2 := B900.out.size
        have h4 := HBG.out.1
        have h5 := hyx.out.2.2
        refine ⟨by omega, by omega, by unfold maxLen; omega⟩
      refine step_appL EV Try.underlying22 infoV rfl (by decide) rfl _ _ rfl (w.heap.size + 3) (.slice qu mu cu) ys.length (fl EV ys) rfl (owns_below R10.out.row B900.out) hb4.out.1 (.slice (some ⟨b900, 0, none⟩) 1 1) [mV] rfl (one_ls M900.out rfl) (by have := hb4.out.2.1; simp; omega) (by have := hb4.out.2.2; simp; omega) ?_
      intro v11 w11 h11 k11
      obtain ⟨g, cap, hv, hc, RZ⟩ := R10.out.mark B900.out (owns_re h11.out (by simp) (by rw [fl_append])) k11.out
      subst hv
      rw [hyx.out.1] at RZ
      have RH := hid RZ
      have q0 : (0 : Int) ≤ (nl : Int) := by omega
      have q1 : (nl : Int) ≤ (cap : Int) := by have := hyx.out.1; omega
      have q2 : ys.length + 1 = nl + 1 := by have := hyx.out.1; omega
      rw [q2]
      clear h11 k11 RZ hc q2 hb4 M900
      refine hK.out _ _ (fun hD => ⟨RH.out.h3, RH.out.h1⟩) ?_
      clear hK K
      try simp only [Act.put, List.setIfInBounds_toArray, List.set_cons_zero, List.set_cons_succ]
      have S11 := hid (And.intro RH.out.h3 RH.out.h1)
      refine' wpAnyD_take (i := 8) (oi := { dst := some 57, op := Go.Op.slice 22 (Go.Operand.tmp 53) none (some (Go.Operand.tmp 56)) none, type := 22, pos := "law.go:75", after := #[{ on := 4, ground := Go.Ground.data }, { on := 7, ground := Go.Ground.data }], guard := none }) (v := _) rfl (by kernel_rfl) (by kernel_rfl) (by kernel_rfl) (fun _ _ _ h => h) (by kernel_rfl) (Or.inl ⟨by rfl, ?hy53⟩) S11.out ?rest53
      case hy53 => (intro W hSw; go_simp; try (with_reducible rfl))
      try simp only [Act.put, List.setIfInBounds_toArray, List.set_cons_zero, List.set_cons_succ]
      refine' wpAnyD_take (i := 9) (oi := { dst := some 58, op := Go.Op.fieldAddr 25 (Go.Operand.tmp 3) 1, type := 0, pos := "law.go:75", after := #[{ on := 0, ground := Go.Ground.phase }, { on := 1, ground := Go.Ground.phase }, { on := 2, ground := Go.Ground.phase }, { on := 3, ground := Go.Ground.phase }, { on := 4, ground := Go.Ground.phase }, { on := 5, ground := Go.Ground.phase }, { on := 6, ground := Go.Ground.phase }, { on := 7, ground := Go.Ground.phase }, { on := 8, ground := Go.Ground.phase }], guard := none }) (v := _) rfl (by kernel_rfl) (by kernel_rfl) (by kernel_rfl) (fun _ _ _ h => h) (by kernel_rfl) (Or.inl ⟨by rfl, ?hy54⟩) S11.out ?rest54
      case hy54 => (intro W hSw; go_simp; try (with_reducible rfl))
      try simp only [Act.put, List.setIfInBounds_toArray, List.set_cons_zero, List.set_cons_succ]
      refine wpAnyD_one (i := 10) (o := { dst := none, op := Go.Op.store 22 (Go.Operand.tmp 58) (Go.Operand.tmp 57), type := 0, pos := "law.go:75", after := #[{ on := 9, ground := Go.Ground.data }, { on := 8, ground := Go.Ground.data }, { on := 4, ground := Go.Ground.chain }, { on := 0, ground := Go.Ground.phase }, { on := 1, ground := Go.Ground.phase }, { on := 2, ground := Go.Ground.phase }, { on := 3, ground := Go.Ground.phase }, { on := 4, ground := Go.Ground.phase }, { on := 5, ground := Go.Ground.phase }, { on := 6, ground := Go.Ground.phase }, { on := 7, ground := Go.Ground.phase }, { on := 8, ground := Go.Ground.phase }], guard := none }) (by kernel_rfl) rfl (fun K hK => ?_)
      have en := (tk_store RH.out.h3).1
      have en2 := (tk_store RH.out.h3).2
      have en3 := tk_lt RH.out.h3
      go_simp
      refine hK.out _ _ (fun hD => absurd (by decide) hD) ?_
      clear hK K en en2 en3
      try simp only [Act.put, List.setIfInBounds_toArray, List.set_cons_zero, List.set_cons_succ]
      refine wpAnyD_done (by kernel_rfl) ?_ _
      have RQ : Hid (Rz w (w11.setCell ⟨w.heap.size + 2, 1, none⟩ (.slice (some ⟨g, 0, none⟩) nl cap)) (gvc a (.slice pn nl cn) (.slice pe el ce)) (gvc a (.slice (some ⟨g, 0, none⟩) nl cap) (.slice none 0 0)) (.slice (some ⟨g, 0, none⟩) nl cap) ys) := RH.out.set 1 _
      clear RH S11 S900 S0 BD B900 R10 HI
      go_upto_region 11 with fail
      generalize w11.setCell ⟨w.heap.size + 2, 1, none⟩ (.slice (some ⟨g, 0, none⟩) nl cap) = W12 at RQ ⊢
      have LC : Hid (Lz ED w.heap.size W12 (.slice pe el ce) es) := HG.out.edges.below RQ.out.bl
      have HSZ : Hid (es.length * 40 ≤ 140737488351232) := HBG.out.2.1
      refine wp_regionD (S := fun W => Below W12.heap.size W12 W) (D := [13]) hmx ?_
      have BD : Hid (Below W12.heap.size W12 W12.drew) := (Gr.refl _).drew.below
      generalize W12.drew = Wd at BD ⊢
      have ON : Hid (Wd.ownsRow W12.heap.size 69 5 (.slice none 0 0) 0 []) := World.ownsRow_nil _ _ _ _
      refine' wpAnyD_take (i := 0) (oi := { dst := some 59, op := Go.Op.fieldAddr 25 (Go.Operand.tmp 3) 2, type := 0, pos := "law.go:76", after := #[], guard := none }) (v := _) rfl (by kernel_rfl) (by kernel_rfl) (by kernel_rfl) (fun _ _ _ h => h) (by kernel_rfl) (Or.inl ⟨by rfl, ?hy55⟩) BD.out ?rest55
      case hy55 => (intro W hSw; go_simp; try (with_reducible rfl))
      try simp only [Act.put, List.setIfInBounds_toArray, List.set_cons_zero, List.set_cons_succ]
      refine' wpAnyD_take (i := 1) (oi := { dst := some 60, op := Go.Op.load 23 (Go.Operand.tmp 59), type := 23, pos := "law.go:76", after := #[{ on := 0, ground := Go.Ground.data }], guard := none }) (v := _) rfl (by kernel_rfl) (by kernel_rfl) (by kernel_rfl) (fun _ _ _ h => h) (by kernel_rfl) (Or.inl ⟨by rfl, ?hy56⟩) BD.out ?rest56
      case hy56 => (intro W hSw; have hb := (hSw.block _ (tk_lt RQ.out.h3)).trans RQ.out.h3; have hc := (tk_store hb).1 2; have hl := tk_lt hb; go_simp; try (with_reducible rfl))
      try simp only [Act.put, List.setIfInBounds_toArray, List.set_cons_zero, List.set_cons_succ]
      refine' wpAnyD_take (i := 2) (oi := { dst := some 61, op := Go.Op.fieldAddr 25 (Go.Operand.tmp 1) 2, type := 0, pos := "law.go:76", after := #[], guard := none }) (v := _) rfl (by kernel_rfl) (by kernel_rfl) (by kernel_rfl) (fun _ _ _ h => h) (by kernel_rfl) (Or.inl ⟨by rfl, ?hy57⟩) BD.out ?rest57
      case hy57 => (intro W hSw; go_simp; try (with_reducible rfl))
      try simp only [Act.put, List.setIfInBounds_toArray, List.set_cons_zero, List.set_cons_succ]
      refine' wpAnyD_take (i := 3) (oi := { dst := some 62, op := Go.Op.load 23 (Go.Operand.tmp 61), type := 23, pos := "law.go:76", after := #[{ on := 2, ground := Go.Ground.data }], guard := none }) (v := _) rfl (by kernel_rfl) (by kernel_rfl) (by kernel_rfl) (fun _ _ _ h => h) (by kernel_rfl) (Or.inl ⟨by rfl, ?hy58⟩) BD.out ?rest58
      case hy58 => (intro W hSw; have hb := (hSw.block _ (tk_lt RQ.out.h1)).trans RQ.out.h1; have hc := (tk_store hb).1 2; have hl := tk_lt hb; go_simp; try (with_reducible rfl))
      try simp only [Act.put, List.setIfInBounds_toArray, List.set_cons_zero, List.set_cons_succ]
      refine' wpAnyD_take (i := 5) (oi := { dst := some 64, op := Go.Op.build 69 #[(0, Go.Operand.const (Go.Value.int Go.IntKind.i64 (-77)))], type := 69, pos := "law.go:76", after := #[], guard := none }) (v := _) rfl (by kernel_rfl) (by kernel_rfl) (by kernel_rfl) (fun _ _ _ h => h) (by kernel_rfl) (Or.inl ⟨by rfl, ?hy59⟩) BD.out ?rest59
      case hy59 => (intro W hSw; go_simp; try (with_reducible rfl))
      try simp only [Act.put, List.setIfInBounds_toArray, List.set_cons_zero, List.set_cons_succ]
      refine' wpAnyD_take (i := 8) (oi := { dst := some 67, op := Go.Op.fieldAddr 25 (Go.Operand.tmp 1) 2, type := 0, pos := "law.go:76", after := #[], guard := none }) (v := _) rfl (by kernel_rfl) (by kernel_rfl) (by kernel_rfl) (fun _ _ _ h => h) (by kernel_rfl) (Or.inl ⟨by rfl, ?hy60⟩) BD.out ?rest60
      case hy60 => (intro W hSw; go_simp; try (with_reducible rfl))
      try simp only [Act.put, List.setIfInBounds_toArray, List.set_cons_zero, List.set_cons_succ]
      refine' wpAnyD_take (i := 9) (oi := { dst := some 68, op := Go.Op.load 23 (Go.Operand.tmp 67), type := 23, pos := "law.go:76", after := #[{ on := 8, ground := Go.Ground.data }], guard := none }) (v := _) rfl (by kernel_rfl) (by kernel_rfl) (by kernel_rfl) (fun _ _ _ h => h) (by kernel_rfl) (Or.inl ⟨by rfl, ?hy61⟩) BD.out ?rest61
      case hy61 => (intro W hSw; have hb := (hSw.block _ (tk_lt RQ.out.h1)).trans RQ.out.h1; have hc := (tk_store hb).1 2; have hl := tk_lt hb; go_simp; try (with_reducible rfl))
      try simp only [Act.put, List.setIfInBounds_toArray, List.set_cons_zero, List.set_cons_succ]
      refine' wpAnyD_take (i := 10) (oi := { dst := some 69, op := Go.Op.call { callee := Go.Callee.builtin Go.Builtin.len, args := #[Go.Operand.tmp 68], argTypes := #[23] }, type := 3, pos := "law.go:76", after := #[{ on := 9, ground := Go.Ground.data }], guard := none }) (v := _) rfl (by kernel_rfl) (by kernel_rfl) (by kernel_rfl) (fun _ _ _ h => h) (by kernel_rfl) (Or.inl ⟨by rfl, ?hy62⟩) BD.out ?rest62
      case hy62 => (intro W hSw; go_simp; try (with_reducible rfl))
      try simp only [Act.put, List.setIfInBounds_toArray, List.set_cons_zero, List.set_cons_succ]
      refine wpAnyD_two (i := 4) (j := 6) (oi := { dst := some 63, op := Go.Op.call { callee := Go.Callee.builtin Go.Builtin.append, args := #[Go.Operand.tmp 60, Go.Operand.tmp 62], argTypes := #[23, 23] }, type := 23, pos := "law.go:76", after := #[{ on := 1, ground := Go.Ground.data }, { on := 3, ground := Go.Ground.data }], guard := none }) (oj := { dst := some 65, op := Go.Op.buildSlice 23 1 #[(0, Go.Operand.tmp 64)], type := 23, pos := "law.go:76", after := #[{ on := 5, ground := Go.Ground.data }], guard := none }) (by kernel_rfl) rfl rfl (fun K hK => ?_) (fun K hK => ?_)
      · refine step_appZ ED Try.underlying23 infoD rfl (by decide) rfl _ _ rfl W12.heap.size (.slice none 0 0) 0 [] rfl ON.out BD.out.size w.heap.size (.slice pe el ce) es rfl (LC.out.below BD.out) (by have := HSZ.out; omega) (by have := HSZ.out; unfold maxLen; omega) ?_
        intro v63 w63 h63 k63
        have K63 := hid (Kp.grownBy (S := fun k => ((.slice none 0 0) : Value).ownBlock = some k) k63.out (fun _ h => h))
        have B63 := hid (BD.out.trans (K63.out.below BD.out.size (fun k hk => (owns_rd ON.out k hk).1)))
        have O63 : Hid (w63.ownsRow W12.heap.size 69 5 v63 es.length (fl ED es)) := owns_re h63.out (by simp) (by simp)
        clear h63 k63
        refine hK.out _ _ (fun hD => B63.out) ?_
        clear hK K
        try simp only [Act.put, List.setIfInBounds_toArray, List.set_cons_zero, List.set_cons_succ]
        refine wpAnyD_one (i := 6) (o := { dst := some 65, op := Go.Op.buildSlice 23 1 #[(0, Go.Operand.tmp 64)], type := 23, pos := "law.go:76", after := #[{ on := 5, ground := Go.Ground.data }], guard := none }) (by kernel_rfl) rfl (fun K hK => ?_)
        go_simp
        have g64 := (Gr.refl w63).alloc (.cells #[.int .i64 (-77), .int .i64 0, .int .i64 0, .int .i64 0, .bool false] 69)
        have a64 := heap_new' w63 (.cells #[.int .i64 (-77), .int .i64 0, .int .i64 0, .int .i64 0, .bool false] 69)
        obtain ⟨b64, hb64⟩ : ∃ b, b = w63.heap.size := ⟨_, rfl⟩
        obtain ⟨V64, hV64⟩ : ∃ V, V = w63.alloc (.cells #[.int .i64 (-77), .int .i64 0, .int .i64 0, .int .i64 0, .bool false] 69) := ⟨_, rfl⟩
        rw [← hV64, ← hb64]
        rw [← hV64] at g64 a64
        have B64 := hid (B63.out.trans (g64.below.mono B63.out.size))
        have M64 : Hid (V64.heap[b64]? = some (.cells #[.int .i64 (-77), .int .i64 0, .int .i64 0, .int .i64 0, .bool false] 69 (0, 0))) := by
          show _ = _
          rw [hb64]
          exact a64
        have O64 := hid (owns_below O63.out g64.below)
        have N64 : Hid (∀ k, (v63 : Value).ownBlock = some k → k ≠ b64) := fun k hk e => by
          have h1 := (owns_rd O63.out k hk).2
          omega
        clear g64 a64 hV64 hb64
        refine hK.out _ _ (fun hD => B64.out) ?_
        clear hK K
        try simp only [Act.put, List.setIfInBounds_toArray, List.set_cons_zero, List.set_cons_succ]
        refine wpAnyD_one (i := 7) (o := { dst := some 66, op := Go.Op.call { callee := Go.Callee.builtin Go.Builtin.append, args := #[Go.Operand.tmp 63, Go.Operand.tmp 65], argTypes := #[23, 23] }, type := 23, pos := "law.go:76", after := #[{ on := 4, ground := Go.Ground.data }, { on := 6, ground := Go.Ground.data }, { on := 4, ground := Go.Ground.chain }], guard := none }) (by kernel_rfl) rfl (fun K hK => ?_)
        refine step_appL ED Try.underlying23 infoD rfl (by decide) rfl _ _ rfl W12.heap.size v63 es.length (fl ED es) rfl O64.out B64.out.size (.slice (some ⟨b64, 0, none⟩) 1 1) [mD] rfl (one_ls M64.out rfl) (by have := HSZ.out; simp; omega) (by have := HSZ.out; unfold maxLen; simp; omega) ?_
        intro v65 w65 h65 k65
        have K65 := hid (Kp.grownBy (S := fun k => (v63 : Value).ownBlock = some k) k65.out (fun _ h => h))
        have B65 := hid (B64.out.trans (K65.out.below B64.out.size (fun k hk => (owns_rd O64.out k hk).1)))
        have O65 : Hid (w65.ownsRow W12.heap.size 69 5 v65 (es.length + 1) (fl ED (es ++ [mD]))) := owns_re h65.out (by simp) (by rw [fl_append])
        obtain ⟨g65, cap65, hv65, hc65, MK65⟩ := mk_of O65.out
        subst hv65
        have HM65 := hid MK65
        have GL65 := hid ((owns_rd O65.out g65 rfl).1)
        have q0 : (0 : Int) ≤ (el : Int) := by omega
        have q1 : (el : Int) ≤ (cap65 : Int) := by have := HEL.out; omega
        have q2 : es.length + 1 = el + 1 := by have := HEL.out; omega
        rw [q2]
        clear h65 k65 MK65 hc65 q2
        refine hK.out _ _ (fun hD => B65.out) ?_
        clear hK K
        try simp only [Act.put, List.setIfInBounds_toArray, List.set_cons_zero, List.set_cons_succ]
        refine' wpAnyD_take (i := 11) (oi := { dst := some 70, op := Go.Op.slice 23 (Go.Operand.tmp 66) none (some (Go.Operand.tmp 69)) none, type := 23, pos := "law.go:76", after := #[{ on := 7, ground := Go.Ground.data }, { on := 10, ground := Go.Ground.data }], guard := none }) (v := _) rfl (by kernel_rfl) (by kernel_rfl) (by kernel_rfl) (fun _ _ _ h => h) (by kernel_rfl) (Or.inl ⟨by rfl, ?hy66⟩) B65.out ?rest66
        case hy66 => (intro W hSw; go_simp; try (with_reducible rfl))
        try simp only [Act.put, List.setIfInBounds_toArray, List.set_cons_zero, List.set_cons_succ]
        refine' wpAnyD_take (i := 12) (oi := { dst := some 71, op := Go.Op.fieldAddr 25 (Go.Operand.tmp 3) 2, type := 0, pos := "law.go:76", after := #[{ on := 0, ground := Go.Ground.phase }, { on := 1, ground := Go.Ground.phase }, { on := 2, ground := Go.Ground.phase }, { on := 3, ground := Go.Ground.phase }, { on := 4, ground := Go.Ground.phase }, { on := 5, ground := Go.Ground.phase }, { on := 6, ground := Go.Ground.phase }, { on := 7, ground := Go.Ground.phase }, { on := 8, ground := Go.Ground.phase }, { on := 9, ground := Go.Ground.phase }, { on := 10, ground := Go.Ground.phase }, { on := 11, ground := Go.Ground.phase }], guard := none }) (v := _) rfl (by kernel_rfl) (by kernel_rfl) (by kernel_rfl) (fun _ _ _ h => h) (by kernel_rfl) (Or.inl ⟨by rfl, ?hy67⟩) B65.out ?rest67
        case hy67 => (intro W hSw; go_simp; try (with_reducible rfl))
        try simp only [Act.put, List.setIfInBounds_toArray, List.set_cons_zero, List.set_cons_succ]
        refine wpAnyD_one (i := 13) (o := { dst := none, op := Go.Op.store 23 (Go.Operand.tmp 71) (Go.Operand.tmp 70), type := 0, pos := "law.go:76", after := #[{ on := 12, ground := Go.Ground.data }, { on := 11, ground := Go.Ground.data }, { on := 7, ground := Go.Ground.chain }, { on := 0, ground := Go.Ground.phase }, { on := 1, ground := Go.Ground.phase }, { on := 2, ground := Go.Ground.phase }, { on := 3, ground := Go.Ground.phase }, { on := 4, ground := Go.Ground.phase }, { on := 5, ground := Go.Ground.phase }, { on := 6, ground := Go.Ground.phase }, { on := 7, ground := Go.Ground.phase }, { on := 8, ground := Go.Ground.phase }, { on := 9, ground := Go.Ground.phase }, { on := 10, ground := Go.Ground.phase }, { on := 11, ground := Go.Ground.phase }], guard := none }) (by kernel_rfl) rfl (fun K hK => ?_)
        have RA := hid (RQ.out.below B65.out)
        have en := (tk_store RA.out.h3).1
        have en2 := (tk_store RA.out.h3).2
        have en3 := tk_lt RA.out.h3
        have RB : Hid (Rz w (w65.setCell ⟨w.heap.size + 2, 2, none⟩ (.slice (some ⟨g65, 0, none⟩) el cap65)) (gvc a (.slice pn nl cn) (.slice pe el ce)) (gvc a (.slice (some ⟨g, 0, none⟩) nl cap) (.slice (some ⟨g65, 0, none⟩) el cap65)) (.slice (some ⟨g, 0, none⟩) nl cap) ys ∧ Mk ED (w65.setCell ⟨w.heap.size + 2, 2, none⟩ (.slice (some ⟨g65, 0, none⟩) el cap65)) (.slice (some ⟨g65, 0, none⟩) el cap65) es mD ∧ w.heap.size + 3 ≤ g65) := by
          have s13 := tk_set RA.out.h3 2 (.slice (some ⟨g65, 0, none⟩) el cap65)
          have hg := GL65.out
          have hl := tk_lt RQ.out.h3
          have h3 := HM65.out
          rw [← HEL.out] at h3
          exact ⟨RA.out.set 2 _, h3.kp s13.2 (fun k e e2 => by simp [Value.ownBlock] at e; omega), by omega⟩
        go_simp
        refine hK.out _ _ (fun hD => absurd (by decide) hD) ?_
        clear hK K en en2 en3
        try simp only [Act.put, List.setIfInBounds_toArray, List.set_cons_zero, List.set_cons_succ]
        refine wpAnyD_done (by kernel_rfl) ?_ _
        generalize (w65.setCell ⟨w.heap.size + 2, 2, none⟩ (.slice (some ⟨g65, 0, none⟩) el cap65)) = W14 at RB ⊢
        have e1 := (tk_store RB.out.1.h3).1
        have e2 := tk_lt RB.out.1.h3
        have e3 := (tk_store RB.out.1.h2).1
        have e4 := (tk_store RB.out.1.h2).2
        have e5 := tk_lt RB.out.1.h2
        go_wp2_with fail
        obtain ⟨wf, hwf⟩ : ∃ wf, wf = ((W14.setCell ⟨w.heap.size + 1, 0, none⟩ (.int .i64 a)).setCell ⟨w.heap.size + 1, 1, none⟩ (.slice (some ⟨g, 0, none⟩) nl cap)).setCell ⟨w.heap.size + 1, 2, none⟩ (.slice (some ⟨g65, 0, none⟩) el cap65) := ⟨_, rfl⟩
        rw [← hwf]
        obtain ⟨hbf, hkf⟩ : wf.heap[w.heap.size + 1]? = some (.cells #[.int .i64 a, .slice (some ⟨g, 0, none⟩) nl cap, (.slice (some ⟨g65, 0, none⟩) el cap65)] 25 (0, 0)) ∧ Kp (fun k => k = w.heap.size + 1) W14 wf := by
          rw [hwf]
          exact fill3 RB.out.1.h2 _ _ _
        clear hwf e1 e2 e3 e4 e5
        obtain ⟨qf, -⟩ := tk_store hbf
        have hlf := tk_lt hbf
        refine bodyPost_ret (v := .agg #[.int .i64 a, .slice (some ⟨g, 0, none⟩) nl cap, (.slice (some ⟨g65, 0, none⟩) el cap65)]) (by simp [results, Try.results16, go_sem, qf]) rfl ?_
        have hlo := RB.out.1.lo
        exact ⟨_, _, ys, rfl, RB.out.1.bl.trans (hkf.below RB.out.1.bl.size (fun k e => by omega)), hyx.out.2.1, RB.out.1.nds.kp hkf (fun k e e2 => by have := hlo.1 k e; omega), RB.out.2.1.kp hkf (fun k e e2 => by have := RB.out.2.2; simp [Value.ownBlock] at e; omega), fun y hy => ⟨(RB.out.1.each y hy).1.kp hkf (fun k e e2 => by have := (hlo.2 y hy).1 k e; omega), (RB.out.1.each y hy).2.kp hkf (fun k e e2 => by have := (hlo.2 y hy).2 k e; omega)⟩⟩
      · go_simp
        have g68 := (Gr.refl Wd).alloc (.cells #[.int .i64 (-77), .int .i64 0, .int .i64 0, .int .i64 0, .bool false] 69)
        have a68 := heap_new' Wd (.cells #[.int .i64 (-77), .int .i64 0, .int .i64 0, .int .i64 0, .bool false] 69)
        obtain ⟨b68, hb68⟩ : ∃ b, b = Wd.heap.size := ⟨_, rfl⟩
        obtain ⟨V68, hV68⟩ : ∃ V, V = Wd.alloc (.cells #[.int .i64 (-77), .int .i64 0, .int .i64 0, .int .i64 0, .bool false] 69) := ⟨_, rfl⟩
        rw [← hV68, ← hb68]
        rw [← hV68] at g68 a68
        have B68 := hid (BD.out.trans (g68.below.mono BD.out.size))
        have M68 : Hid (V68.heap[b68]? = some (.cells #[.int .i64 (-77), .int .i64 0, .int .i64 0, .int .i64 0, .bool false] 69 (0, 0))) := by
          show _ = _
          rw [hb68]
          exact a68
        have O68 := hid (owns_below ON.out g68.below)
        have N68 : Hid (∀ k, ((.slice none 0 0) : Value).ownBlock = some k → k ≠ b68) := fun k hk e => by
          have h1 := (owns_rd ON.out k hk).2
          omega
        clear g68 a68 hV68 hb68
        refine hK.out _ _ (fun hD => B68.out) ?_
        clear hK K
        try simp only [Act.put, List.setIfInBounds_toArray, List.set_cons_zero, List.set_cons_succ]
        refine wpAnyD_one (i := 4) (o := { dst := some 63, op := Go.Op.call { callee := Go.Callee.builtin Go.Builtin.append, args := #[Go.Operand.tmp 60, Go.Operand.tmp 62], argTypes := #[23, 23] }, type := 23, pos := "law.go:76", after := #[{ on := 1, ground := Go.Ground.data }, { on := 3, ground := Go.Ground.data }], guard := none }) (by kernel_rfl) rfl (fun K hK => ?_)
        refine step_appZ ED Try.underlying23 infoD rfl (by decide) rfl _ _ rfl W12.heap.size (.slice none 0 0) 0 [] rfl O68.out B68.out.size w.heap.size (.slice pe el ce) es rfl (LC.out.below B68.out) (by have := HSZ.out; omega) (by have := HSZ.out; unfold maxLen; omega) ?_
        intro v69 w69 h69 k69
        have K69 := hid (Kp.grownBy (S := fun k => ((.slice none 0 0) : Value).ownBlock = some k) k69.out (fun _ h => h))
        have B69 := hid (B68.out.trans (K69.out.below B68.out.size (fun k hk => (owns_rd O68.out k hk).1)))
        have O69 : Hid (w69.ownsRow W12.heap.size 69 5 v69 es.length (fl ED es)) := owns_re h69.out (by simp) (by simp)
        have M69 := hid ((K69.out.block _ (tk_lt M68.out) (fun e => N68.out _ e rfl)).trans M68.out)
        clear h69 k69
        refine hK.out _ _ (fun hD => B69.out) ?_
        clear hK K
        try simp only [Act.put, List.setIfInBounds_toArray, List.set_cons_zero, List.set_cons_succ]
        refine wpAnyD_one (i := 7) (o := { dst := some 66, op := Go.Op.call { callee := Go.Callee.builtin Go.Builtin.append, args := #[Go.Operand.tmp 63, Go.Operand.tmp 65], argTypes := #[23, 23] }, type := 23, pos := "law.go:76", after := #[{ on := 4, ground := Go.Ground.data }, { on := 6, ground := Go.Ground.data }, { on := 4, ground := Go.Ground.chain }], guard := none }) (by kernel_rfl) rfl (fun K hK => ?_)
        refine step_appL ED Try.underlying23 infoD rfl (by decide) rfl _ _ rfl W12.heap.size v69 es.length (fl ED es) rfl O69.out B69.out.size (.slice (some ⟨b68, 0, none⟩) 1 1) [mD] rfl (one_ls M69.out rfl) (by have := HSZ.out; simp; omega) (by have := HSZ.out; unfold maxLen; simp; omega) ?_
        intro v70 w70 h70 k70
        have K70 := hid (Kp.grownBy (S := fun k => (v69 : Value).ownBlock = some k) k70.out (fun _ h => h))
        have B70 := hid (B69.out.trans (K70.out.below B69.out.size (fun k hk => (owns_rd O69.out k hk).1)))
        have O70 : Hid (w70.ownsRow W12.heap.size 69 5 v70 (es.length + 1) (fl ED (es ++ [mD]))) := owns_re h70.out (by simp) (by rw [fl_append])
        obtain ⟨g70, cap70, hv70, hc70, MK70⟩ := mk_of O70.out
        subst hv70
        have HM70 := hid MK70
        have GL70 := hid ((owns_rd O70.out g70 rfl).1)
        have q0 : (0 : Int) ≤ (el : Int) := by omega
        have q1 : (el : Int) ≤ (cap70 : Int) := by have := HEL.out; omega
        have q2 : es.length + 1 = el + 1 := by have := HEL.out; omega
        rw [q2]
        clear h70 k70 MK70 hc70 q2
        refine hK.out _ _ (fun hD => B70.out) ?_
        clear hK K
        try simp only [Act.put, List.setIfInBounds_toArray, List.set_cons_zero, List.set_cons_succ]
        refine' wpAnyD_take (i := 11) (oi := { dst := some 70, op := Go.Op.slice 23 (Go.Operand.tmp 66) none (some (Go.Operand.tmp 69)) none, type := 23, pos := "law.go:76", after := #[{ on := 7, ground := Go.Ground.data }, { on := 10, ground := Go.Ground.data }], guard := none }) (v := _) rfl (by kernel_rfl) (by kernel_rfl) (by kernel_rfl) (fun _ _ _ h => h) (by kernel_rfl) (Or.inl ⟨by rfl, ?hy71⟩) B70.out ?rest71
        case hy71 => (intro W hSw; go_simp; try (with_reducible rfl))
        try simp only [Act.put, List.setIfInBounds_toArray, List.set_cons_zero, List.set_cons_succ]
        refine' wpAnyD_take (i := 12) (oi := { dst := some 71, op := Go.Op.fieldAddr 25 (Go.Operand.tmp 3) 2, type := 0, pos := "law.go:76", after := #[{ on := 0, ground := Go.Ground.phase }, { on := 1, ground := Go.Ground.phase }, { on := 2, ground := Go.Ground.phase }, { on := 3, ground := Go.Ground.phase }, { on := 4, ground := Go.Ground.phase }, { on := 5, ground := Go.Ground.phase }, { on := 6, ground := Go.Ground.phase }, { on := 7, ground := Go.Ground.phase }, { on := 8, ground := Go.Ground.phase }, { on := 9, ground := Go.Ground.phase }, { on := 10, ground := Go.Ground.phase }, { on := 11, ground := Go.Ground.phase }], guard := none }) (v := _) rfl (by kernel_rfl) (by kernel_rfl) (by kernel_rfl) (fun _ _ _ h => h) (by kernel_rfl) (Or.inl ⟨by rfl, ?hy72⟩) B70.out ?rest72
        case hy72 => (intro W hSw; go_simp; try (with_reducible rfl))
        try simp only [Act.put, List.setIfInBounds_toArray, List.set_cons_zero, List.set_cons_succ]
        refine wpAnyD_one (i := 13) (o := { dst := none, op := Go.Op.store 23 (Go.Operand.tmp 71) (Go.Operand.tmp 70), type := 0, pos := "law.go:76", after := #[{ on := 12, ground := Go.Ground.data }, { on := 11, ground := Go.Ground.data }, { on := 7, ground := Go.Ground.chain }, { on := 0, ground := Go.Ground.phase }, { on := 1, ground := Go.Ground.phase }, { on := 2, ground := Go.Ground.phase }, { on := 3, ground := Go.Ground.phase }, { on := 4, ground := Go.Ground.phase }, { on := 5, ground := Go.Ground.phase }, { on := 6, ground := Go.Ground.phase }, { on := 7, ground := Go.Ground.phase }, { on := 8, ground := Go.Ground.phase }, { on := 9, ground := Go.Ground.phase }, { on := 10, ground := Go.Ground.phase }, { on := 11, ground := Go.Ground.phase }], guard := none }) (by kernel_rfl) rfl (fun K hK => ?_)
        have RA := hid (RQ.out.below B70.out)
        have en := (tk_store RA.out.h3).1
        have en2 := (tk_store RA.out.h3).2
        have en3 := tk_lt RA.out.h3
        have RB : Hid (Rz w (w70.setCell ⟨w.heap.size + 2, 2, none⟩ (.slice (some ⟨g70, 0, none⟩) el cap70)) (gvc a (.slice pn nl cn) (.slice pe el ce)) (gvc a (.slice (some ⟨g, 0, none⟩) nl cap) (.slice (some ⟨g70, 0, none⟩) el cap70)) (.slice (some ⟨g, 0, none⟩) nl cap) ys ∧ Mk ED (w70.setCell ⟨w.heap.size + 2, 2, none⟩ (.slice (some ⟨g70, 0, none⟩) el cap70)) (.slice (some ⟨g70, 0, none⟩) el cap70) es mD ∧ w.heap.size + 3 ≤ g70) := by
          have s13 := tk_set RA.out.h3 2 (.slice (some ⟨g70, 0, none⟩) el cap70)
          have hg := GL70.out
          have hl := tk_lt RQ.out.h3
          have h3 := HM70.out
          rw [← HEL.out] at h3
          exact ⟨RA.out.set 2 _, h3.kp s13.2 (fun k e e2 => by simp [Value.ownBlock] at e; omega), by omega⟩
        go_simp
        refine hK.out _ _ (fun hD => absurd (by decide) hD) ?_
        clear hK K en en2 en3
        try simp only [Act.put, List.setIfInBounds_toArray, List.set_cons_zero, List.set_cons_succ]
        refine wpAnyD_done (by kernel_rfl) ?_ _
        generalize (w70.setCell ⟨w.heap.size + 2, 2, none⟩ (.slice (some ⟨g70, 0, none⟩) el cap70)) = W14 at RB ⊢
        have e1 := (tk_store RB.out.1.h3).1
        have e2 := tk_lt RB.out.1.h3
        have e3 := (tk_store RB.out.1.h2).1
        have e4 := (tk_store RB.out.1.h2).2
        have e5 := tk_lt RB.out.1.h2
        go_wp2_with fail
        obtain ⟨wf, hwf⟩ : ∃ wf, wf = ((W14.setCell ⟨w.heap.size + 1, 0, none⟩ (.int .i64 a)).setCell ⟨w.heap.size + 1, 1, none⟩ (.slice (some ⟨g, 0, none⟩) nl cap)).setCell ⟨w.heap.size + 1, 2, none⟩ (.slice (some ⟨g70, 0, none⟩) el cap70) := ⟨_, rfl⟩
        rw [← hwf]
        obtain ⟨hbf, hkf⟩ : wf.heap[w.heap.size + 1]? = some (.cells #[.int .i64 a, .slice (some ⟨g, 0, none⟩) nl cap, (.slice (some ⟨g70, 0, none⟩) el cap70)] 25 (0, 0)) ∧ Kp (fun k => k = w.heap.size + 1) W14 wf := by
          rw [hwf]
          exact fill3 RB.out.1.h2 _ _ _
        clear hwf e1 e2 e3 e4 e5
        obtain ⟨qf, -⟩ := tk_store hbf
        have hlf := tk_lt hbf
        refine bodyPost_ret (v := .agg #[.int .i64 a, .slice (some ⟨g, 0, none⟩) nl cap, (.slice (some ⟨g70, 0, none⟩) el cap70)]) (by simp [results, Try.results16, go_sem, qf]) rfl ?_
        have hlo := RB.out.1.lo
        exact ⟨_, _, ys, rfl, RB.out.1.bl.trans (hkf.below RB.out.1.bl.size (fun k e => by omega)), hyx.out.2.1, RB.out.1.nds.kp hkf (fun k e e2 => by have := hlo.1 k e; omega), RB.out.2.1.kp hkf (fun k e e2 => by have := RB.out.2.2; simp [Value.ownBlock] at e; omega), fun y hy => ⟨(RB.out.1.each y hy).1.kp hkf (fun k e e2 => by have := (hlo.2 y hy).1 k e; omega), (RB.out.1.each y hy).2.kp hkf (fun k e e2 => by have := (hlo.2 y hy).2 k e; omega)⟩⟩
end Go.Proofs.Ytnclnagpfjmlcaa.Df
