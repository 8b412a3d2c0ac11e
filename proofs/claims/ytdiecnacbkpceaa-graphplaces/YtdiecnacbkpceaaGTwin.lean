import Derived.Test.YtdiecnacbkpceaaGM1
namespace Go.Proofs.Ytdiecnacbkpceaa.Df
open Go.RowKit Go.Sort
attribute [local go_sem ↓] Go.wp_at_zero Go.wp_at_succ

/-- What twin answers. -/
def Twin (w : World) (a : Int) (xs : List NV) (es : List Edg) (e : Ending) (w' : World) : Prop := ∃ nv ev ys, e = .returned (.agg (gvc a nv ev)) ∧ Below w.heap.size w w' ∧ ys.map NV.n = xs.map NV.n ∧ Mk EV 39 w' nv ys mV ∧ Mk ED 47 w' ev es mD ∧ (∀ y ∈ ys, Mk EO 72 w' y.cv y.n.code mO ∧ Mk EC 64 w' y.dv y.n.conns mC) ∧ (∀ k, nv.ownBlock = some k → w.heap.size ≤ k) ∧ (∀ k, ev.ownBlock = some k → w.heap.size ≤ k) ∧ ∀ y ∈ ys, (∀ k, y.cv.ownBlock = some k → w.heap.size ≤ k) ∧ ∀ k, y.dv.ownBlock = some k → w.heap.size ≤ k
set_option maxRecDepth 100000 in
set_option maxHeartbeats 8000000 in
theorem twin_any {nv ev : Value} {a : Int} {xs : List NV} {es : List Edg} (w : World) (hG : GR w.heap.size w nv ev xs es) (hbg : xs.length * 112 ≤ 140737488351232 ∧ es.length * 40 ≤ 140737488351232 ∧ ∀ x ∈ xs, x.n.code.length * 16 ≤ 140737488351232 ∧ x.n.conns.length * 40 ≤ 140737488351232) : Calls Try.prog 6 #[.agg (gvc a nv ev)] w (Twin w a xs es) := by
  have hmx : Try.prog.follows .mixedOrders = true := by kernel_rfl
  obtain ⟨pn, cn, hnv⟩ := hG.nodes.form
  obtain ⟨pe, ce, hev⟩ := hG.edges.form
  obtain ⟨nl, hnl⟩ : ∃ n, n = xs.length := ⟨_, rfl⟩
  obtain ⟨el, hel⟩ : ∃ n, n = es.length := ⟨_, rfl⟩
  rw [← hnl] at hnv
  rw [← hel] at hev
  subst hnv
  subst hev
  have HG := hid hG
  have HBG := hid hbg
  have HNL := hid hnl
  have HEL := hid hel
  obtain ⟨W0, hW0⟩ : ∃ W, W = ((w.alloc (.cells (gvc a (.slice pn nl cn) (.slice pe el ce)) 25)).alloc (.cells (gvc 0 (.slice none 0 0) (.slice none 0 0)) 25)).alloc (.cells (gvc a (.slice none 0 0) (.slice none 0 0)) 25) := ⟨_, rfl⟩
  have R0 : Hid (Rm w W0 (gvc a (.slice pn nl cn) (.slice pe el ce)) (gvc a (.slice none 0 0) (.slice none 0 0)) (.slice none 0 0) []) := by
    have h3 := new3 w (.cells (gvc a (.slice pn nl cn) (.slice pe el ce)) 25) (.cells (gvc 0 (.slice none 0 0) (.slice none 0 0)) 25) (.cells (gvc a (.slice none 0 0) (.slice none 0 0)) 25)
    have hg := (((Gr.refl w).alloc (.cells (gvc a (.slice pn nl cn) (.slice pe el ce)) 25)).alloc (.cells (gvc 0 (.slice none 0 0) (.slice none 0 0)) 25)).alloc (.cells (gvc a (.slice none 0 0) (.slice none 0 0)) 25)
    rw [hW0]
    exact ⟨hg.below, h3.1, h3.2.1, h3.2.2, World.ownsRow_nil _ _ _ _, fun _ h => (by cases h), fun _ h => (by cases h), fun _ h => (by cases h)⟩
  have HW : Hid (((w.alloc (.cells #[.int .i64 a, .slice pn nl cn, .slice pe el ce] 25)).alloc (.cells #[.int .i64 0, .slice none 0 0, .slice none 0 0] 25)).alloc (.cells #[.int .i64 a, .slice none 0 0, .slice none 0 0] 25) = W0) := hW0.symm
  have hz2 : ∀ (A B : Obj), ((w.alloc A).alloc B).heap.size = w.heap.size + 2 := fun A B => by simp
  clear hG hbg hnl hel hW0 hz2
  go_enter Try.func6, Try.ntmps6
  go_upto_region 2 with fail
  rw [HW.out]
  clear HW
  go_wp2_with fail
  go_loopw [4] (fun s13 wr => ∃ (j : Nat) (u : Value) (ys : List NV), j ≤ nl ∧ s13 = .int .i64 (j : Nat) ∧ Hid (Rm w wr (gvc a (.slice pn nl cn) (.slice pe el ce)) (gvc a u (.slice none 0 0)) u ys ∧ ys.length = j ∧ ys.map NV.n = (xs.take j).map NV.n)) (fun s13 _ => nl - (RowKit.intOf s13).toNat)
  case atStart => exact ⟨0, .slice none 0 0, [], Nat.zero_le _, rfl, R0.out, rfl, by simp⟩
  case round =>
    clear R0
    obtain ⟨j, u, ys, hj, rfl, HI⟩ := hrel
    obtain ⟨qu, mu, cu, rfl⟩ := owns_form HI.out.1.row
    obtain ⟨c0, -, l0, -, -⟩ := HI.out.1.facts
    by_cases hlt : j < nl
    · have hltz : (j : Int) < (nl : Int) := by omega
      obtain ⟨y, hy⟩ : ∃ y, xs[j]? = some y := ⟨xs[j]'(by have := HNL.out; omega), by simp⟩
      have hym := List.mem_of_getElem? hy
      obtain ⟨b1, o1, q1, ev1, zz1, x0, x1, x2, x3, x4, x5, x6, x7, x8, x9⟩ := ls_atV ((HG.out.nodes.below HI.out.1.bl).ls hy) hy
      simp only [Value.slice.injEq] at ev1
      obtain ⟨rfl, -, rfl⟩ := ev1
      have LC0 := hid (HG.out.each y hym)
      have HSZ := hid (HBG.out.2.2 y hym)
      have HY := hid hy
      clear hy hym
      obtain ⟨⟨yk, yi, yo, cd, via, bd, cnn, st⟩, cq, cm, cc, dq, dm, dc⟩ := y
      have HCM : Hid (cm = cd.length) := by
        obtain ⟨p, c, h⟩ := LC0.out.code.form
        simp only [Value.slice.injEq] at h
        exact h.2.1
      have HDM : Hid (dm = cnn.length) := by
        obtain ⟨p, c, h⟩ := LC0.out.conns.form
        simp only [Value.slice.injEq] at h
        exact h.2.1
      simp only [NV.cv, NV.dv] at x0 x1 x2 x3 x4 x5 x6 x7 x8 x9 HSZ
      have HXR : Hid (wr.cell? ⟨b1, o1 + j * 10 + 3, none⟩ = some (.slice cq cm cc) ∧ wr.cell? ⟨b1, o1 + j * 10 + 8, none⟩ = some (.slice dq dm dc) ∧ b1 < wr.heap.size) := ⟨x3, x8, zz1⟩
      obtain ⟨nb, hnb⟩ : ∃ b, b = wr.heap.size := ⟨_, rfl⟩
      obtain ⟨W5, hW5⟩ : ∃ W, W = wr.alloc (.cells (ncells yk yi yo (.slice cq cm cc) via bd (.slice dq dm dc) st) 39) := ⟨_, rfl⟩
      have P0 : Hid (Below nb wr W5 ∧ W5.heap[nb]? = some (.cells (ncells yk yi yo (.slice cq cm cc) via bd (.slice dq dm dc) st) 39 (0, 0)) ∧ W5.heap[w.heap.size]? = some (.cells (gvc a (.slice (some ⟨b1, o1, none⟩) nl cn) (.slice pe el ce)) 25 (0, 0))) := by
        have h1 := ((Gr.refl wr).alloc (.cells (ncells yk yi yo (.slice cq cm cc) via bd (.slice dq dm dc) st) 39)).below
        rw [hW5, hnb]
        exact ⟨h1, heap_new' _ _, (h1.block _ (tk_lt HI.out.1.h1)).trans HI.out.1.h1⟩
      have HW5 : Hid (wr.alloc (.cells #[.int .i64 yk, .int .i64 yi, .int .i64 yo, .slice cq cm cc, .int .u64 (via.1 : Nat), .int .u64 (via.2.1 : Nat), .int .u64 (via.2.2 : Nat), .int .u64 (bd : Nat), .slice dq dm dc, .bool st] 39) = W5) := hW5.symm
      have HNB := hid hnb
      clear hW5 hnb
      go_upto_region 6 with fail
      rw [HW5.out, ← HNB.out]
      clear HW5 x0 x1 x2 x3 x4 x5 x6 x7 x8 x9 zz1 c0 l0
      have XR : Hid (∀ W, Below nb wr W → W.cell? ⟨b1, o1 + j * 10 + 3, none⟩ = some (.slice cq cm cc) ∧ W.cell? ⟨b1, o1 + j * 10 + 8, none⟩ = some (.slice dq dm dc) ∧ b1 < W.heap.size) := fun W hb => by
        rw [HNB.out] at hb
        have h := HXR.out
        exact ⟨(World.cell?_of_block (a := ⟨b1, o1 + j * 10 + 3, none⟩) (hb.block b1 h.2.2)).trans h.1, (World.cell?_of_block (a := ⟨b1, o1 + j * 10 + 8, none⟩) (hb.block b1 h.2.2)).trans h.2.1, Nat.lt_of_lt_of_le h.2.2 hb.size⟩
      have LC : Hid (Lz EO w.heap.size W5 (.slice cq cm cc) cd) := by
        have h1 := HI.out.1.bl
        have h2 := P0.out.1
        rw [HNB.out] at h2
        exact LC0.out.code.below (h1.trans (h2.mono h1.size))
      go_cut [36] (fun _ w' => ∃ (g1 k1 : Nat), Hid (Below nb wr w' ∧ w'.heap[nb]? = some (.cells (ncells yk yi yo (.slice (some ⟨g1, 0, none⟩) cm k1) via bd (.slice dq dm dc) st) 39 (0, 0)) ∧ w'.heap[w.heap.size]? = some (.cells (gvc a (.slice (some ⟨b1, o1, none⟩) nl cn) (.slice pe el ce)) 25 (0, 0)) ∧ Mk EO 72 w' (.slice (some ⟨g1, 0, none⟩) cm k1) cd mO ∧ nb < g1))
      case first =>
        refine wp_regionD (S := fun W => Below W5.heap.size W5 W) (D := [16]) hmx ?_
        have BD : Hid (Below W5.heap.size W5 W5.drew) := (Gr.refl _).drew.below
        generalize W5.drew = Wd at BD ⊢
        have HZ5 : Hid (nb ≤ W5.heap.size) := by have := tk_lt P0.out.2.1; show nb ≤ _; omega
        have jz0 : (0 : Int) ≤ (j : Int) := by omega
        have jz1 : (j : Int) < (nl : Int) := by omega
        refine' wpAnyD_take (i := 1) (oi := { dst := some 22, op := Go.Op.fieldAddr 25 (Go.Operand.tmp 1) 1, type := 0, pos := "law.go:75", after := #[], guard := none }) (v := _) rfl (by kernel_rfl) (by kernel_rfl) (by kernel_rfl) (fun _ _ _ h => h) (by kernel_rfl) (Or.inl ⟨by rfl, ?hy1⟩) BD.out ?rest1
        case hy1 => (intro W hSw; go_simp; try (with_reducible rfl))
        try simp only [Act.put, List.setIfInBounds_toArray, List.set_cons_zero, List.set_cons_succ]
        refine' wpAnyD_take (i := 2) (oi := { dst := some 23, op := Go.Op.load 22 (Go.Operand.tmp 22), type := 22, pos := "law.go:75", after := #[{ on := 1, ground := Go.Ground.data }], guard := none }) (v := _) rfl (by kernel_rfl) (by kernel_rfl) (by kernel_rfl) (fun _ _ _ h => h) (by kernel_rfl) (Or.inl ⟨by rfl, ?hy2⟩) BD.out ?rest2
        case hy2 => (intro W hSw; have hb := (hSw.block _ (tk_lt P0.out.2.2)).trans P0.out.2.2; have hc := (tk_store hb).1 1; have hl := tk_lt hb; go_simp; try (with_reducible rfl))
        try simp only [Act.put, List.setIfInBounds_toArray, List.set_cons_zero, List.set_cons_succ]
        refine' wpAnyD_take (i := 3) (oi := { dst := some 24, op := Go.Op.move (Go.Operand.tmp 4), type := 3, pos := "law.go:75", after := #[], guard := none }) (v := _) rfl (by kernel_rfl) (by kernel_rfl) (by kernel_rfl) (fun _ _ _ h => h) (by kernel_rfl) (Or.inl ⟨by rfl, ?hy3⟩) BD.out ?rest3
        case hy3 => (intro W hSw; go_simp; try (with_reducible rfl))
        try simp only [Act.put, List.setIfInBounds_toArray, List.set_cons_zero, List.set_cons_succ]
        refine' wpAnyD_take (i := 4) (oi := { dst := some 25, op := Go.Op.indexAddr 22 (Go.Operand.tmp 23) (Go.Operand.tmp 24), type := 0, pos := "law.go:75", after := #[{ on := 2, ground := Go.Ground.data }, { on := 3, ground := Go.Ground.data }], guard := none }) (v := _) rfl (by kernel_rfl) (by kernel_rfl) (by kernel_rfl) (fun _ _ _ h => h) (by kernel_rfl) (Or.inl ⟨by rfl, ?hy4⟩) BD.out ?rest4
        case hy4 => (intro W hSw; go_simp; try (with_reducible rfl))
        try simp only [Act.put, List.setIfInBounds_toArray, List.set_cons_zero, List.set_cons_succ]
        refine' wpAnyD_take (i := 5) (oi := { dst := some 26, op := Go.Op.fieldAddr 39 (Go.Operand.tmp 25) 3, type := 0, pos := "law.go:75", after := #[{ on := 4, ground := Go.Ground.data }], guard := none }) (v := _) rfl (by kernel_rfl) (by kernel_rfl) (by kernel_rfl) (fun _ _ _ h => h) (by kernel_rfl) (Or.inl ⟨by rfl, ?hy5⟩) BD.out ?rest5
        case hy5 => (intro W hSw; go_simp; try (with_reducible rfl))
        try simp only [Act.put, List.setIfInBounds_toArray, List.set_cons_zero, List.set_cons_succ]
        refine' wpAnyD_take (i := 6) (oi := { dst := some 27, op := Go.Op.load 33 (Go.Operand.tmp 26), type := 33, pos := "law.go:75", after := #[{ on := 5, ground := Go.Ground.data }], guard := none }) (v := _) rfl (by kernel_rfl) (by kernel_rfl) (by kernel_rfl) (fun _ _ _ h => h) (by kernel_rfl) (Or.inl ⟨by rfl, ?hy6⟩) BD.out ?rest6
        case hy6 => (intro W hSw; obtain ⟨r3, r8, rl⟩ := XR.out W (P0.out.1.trans (hSw.mono HZ5.out)); go_simp; try (with_reducible rfl))
        try simp only [Act.put, List.setIfInBounds_toArray, List.set_cons_zero, List.set_cons_succ]
        refine' wpAnyD_take (i := 8) (oi := { dst := some 29, op := Go.Op.build 72 #[(0, Go.Operand.const (Go.Value.int Go.IntKind.i64 777))], type := 72, pos := "law.go:75", after := #[], guard := none }) (v := _) rfl (by kernel_rfl) (by kernel_rfl) (by kernel_rfl) (fun _ _ _ h => h) (by kernel_rfl) (Or.inl ⟨by rfl, ?hy7⟩) BD.out ?rest7
        case hy7 => (intro W hSw; go_simp; try (with_reducible rfl))
        try simp only [Act.put, List.setIfInBounds_toArray, List.set_cons_zero, List.set_cons_succ]
        refine' wpAnyD_take (i := 11) (oi := { dst := some 32, op := Go.Op.fieldAddr 39 (Go.Operand.tmp 5) 3, type := 0, pos := "law.go:75", after := #[], guard := none }) (v := _) rfl (by kernel_rfl) (by kernel_rfl) (by kernel_rfl) (fun _ _ _ h => h) (by kernel_rfl) (Or.inl ⟨by rfl, ?hy8⟩) BD.out ?rest8
        case hy8 => (intro W hSw; go_simp; try (with_reducible rfl))
        try simp only [Act.put, List.setIfInBounds_toArray, List.set_cons_zero, List.set_cons_succ]
        refine' wpAnyD_take (i := 12) (oi := { dst := some 33, op := Go.Op.load 33 (Go.Operand.tmp 32), type := 33, pos := "law.go:75", after := #[{ on := 11, ground := Go.Ground.data }], guard := none }) (v := _) rfl (by kernel_rfl) (by kernel_rfl) (by kernel_rfl) (fun _ _ _ h => h) (by kernel_rfl) (Or.inl ⟨by rfl, ?hy9⟩) BD.out ?rest9
        case hy9 => (intro W hSw; have hb := (hSw.block _ (tk_lt P0.out.2.1)).trans P0.out.2.1; have hc := (tk_store hb).1 3; have hl := tk_lt hb; go_simp; try (with_reducible rfl))
        try simp only [Act.put, List.setIfInBounds_toArray, List.set_cons_zero, List.set_cons_succ]
        refine' wpAnyD_take (i := 13) (oi := { dst := some 34, op := Go.Op.call { callee := Go.Callee.builtin Go.Builtin.len, args := #[Go.Operand.tmp 33], argTypes := #[33] }, type := 3, pos := "law.go:75", after := #[{ on := 12, ground := Go.Ground.data }], guard := none }) (v := _) rfl (by kernel_rfl) (by kernel_rfl) (by kernel_rfl) (fun _ _ _ h => h) (by kernel_rfl) (Or.inl ⟨by rfl, ?hy10⟩) BD.out ?rest10
        case hy10 => (intro W hSw; go_simp; try (with_reducible rfl))
        try simp only [Act.put, List.setIfInBounds_toArray, List.set_cons_zero, List.set_cons_succ]
        refine wpAnyD_two (i := 0) (j := 9) (oi := { dst := some 21, op := Go.Op.buildSlice 33 0 #[], type := 33, pos := "law.go:75", after := #[], guard := none }) (oj := { dst := some 30, op := Go.Op.buildSlice 33 1 #[(0, Go.Operand.tmp 29)], type := 33, pos := "law.go:75", after := #[{ on := 8, ground := Go.Ground.data }], guard := none }) (by kernel_rfl) rfl rfl (fun K hK => ?_) (fun K hK => ?_)
        · go_simp
          have g11 := (Gr.refl Wd).alloc (.cells #[] 72)
          have a11 := heap_new' Wd (.cells #[] 72)
          obtain ⟨b11, hb11⟩ : ∃ b, b = Wd.heap.size := ⟨_, rfl⟩
          obtain ⟨V11, hV11⟩ : ∃ V, V = Wd.alloc (.cells #[] 72) := ⟨_, rfl⟩
          rw [← hV11, ← hb11]
          rw [← hV11] at g11 a11
          have B11 := hid (BD.out.trans (g11.below.mono BD.out.size))
          have O11 : Hid (V11.ownsRow W5.heap.size 72 2 (.slice (some ⟨b11, 0, none⟩) 0 0) 0 []) := by
            rw [hV11, hb11]
            exact World.ownsRow_made Wd #[] 0 BD.out.size (Nat.zero_le _) rfl
          clear g11 a11 hV11 hb11
          refine hK.out _ _ (fun hD => B11.out) ?_
          clear hK K
          try simp only [Act.put, List.setIfInBounds_toArray, List.set_cons_zero, List.set_cons_succ]
          refine wpAnyD_two (i := 7) (j := 9) (oi := { dst := some 28, op := Go.Op.call { callee := Go.Callee.builtin Go.Builtin.append, args := #[Go.Operand.tmp 21, Go.Operand.tmp 27], argTypes := #[33, 33] }, type := 33, pos := "law.go:75", after := #[{ on := 0, ground := Go.Ground.data }, { on := 6, ground := Go.Ground.data }], guard := none }) (oj := { dst := some 30, op := Go.Op.buildSlice 33 1 #[(0, Go.Operand.tmp 29)], type := 33, pos := "law.go:75", after := #[{ on := 8, ground := Go.Ground.data }], guard := none }) (by kernel_rfl) rfl rfl (fun K hK => ?_) (fun K hK => ?_)
          · refine step_appZ EO Try.underlying33 infoO rfl (by decide) rfl _ _ rfl W5.heap.size (.slice (some ⟨b11, 0, none⟩) 0 0) 0 [] rfl O11.out B11.out.size w.heap.size (.slice cq cm cc) cd rfl (LC.out.below B11.out) (by have := HSZ.out; omega) (by have := HSZ.out; unfold maxLen; omega) ?_
            intro v12 w12 h12 k12
            have K12 := hid (Kp.grownBy (S := fun k => ((.slice (some ⟨b11, 0, none⟩) 0 0) : Value).ownBlock = some k) k12.out (fun _ h => h))
            have B12 := hid (B11.out.trans (K12.out.below B11.out.size (fun k hk => (owns_rd O11.out k hk).1)))
            have O12 : Hid (w12.ownsRow W5.heap.size 72 2 v12 cd.length (fl EO cd)) := owns_re h12.out (by simp) (by simp)
            clear h12 k12
            refine hK.out _ _ (fun hD => B12.out) ?_
            clear hK K
            try simp only [Act.put, List.setIfInBounds_toArray, List.set_cons_zero, List.set_cons_succ]
            refine wpAnyD_one (i := 9) (o := { dst := some 30, op := Go.Op.buildSlice 33 1 #[(0, Go.Operand.tmp 29)], type := 33, pos := "law.go:75", after := #[{ on := 8, ground := Go.Ground.data }], guard := none }) (by kernel_rfl) rfl (fun K hK => ?_)
            go_simp
            have g13 := (Gr.refl w12).alloc (.cells #[.int .i64 777, .int .u64 0] 72)
            have a13 := heap_new' w12 (.cells #[.int .i64 777, .int .u64 0] 72)
            obtain ⟨b13, hb13⟩ : ∃ b, b = w12.heap.size := ⟨_, rfl⟩
            obtain ⟨V13, hV13⟩ : ∃ V, V = w12.alloc (.cells #[.int .i64 777, .int .u64 0] 72) := ⟨_, rfl⟩
            rw [← hV13, ← hb13]
            rw [← hV13] at g13 a13
            have B13 := hid (B12.out.trans (g13.below.mono B12.out.size))
            have M13 : Hid (V13.heap[b13]? = some (.cells #[.int .i64 777, .int .u64 0] 72 (0, 0))) := by
              show _ = _
              rw [hb13]
              exact a13
            have O13 := hid (owns_below O12.out g13.below)
            have N13 : Hid (∀ k, (v12 : Value).ownBlock = some k → k ≠ b13) := fun k hk e => by
              have h1 := (owns_rd O12.out k hk).2
              omega
            clear g13 a13 hV13 hb13
            refine hK.out _ _ (fun hD => B13.out) ?_
            clear hK K
            try simp only [Act.put, List.setIfInBounds_toArray, List.set_cons_zero, List.set_cons_succ]
            refine wpAnyD_one (i := 10) (o := { dst := some 31, op := Go.Op.call { callee := Go.Callee.builtin Go.Builtin.append, args := #[Go.Operand.tmp 28, Go.Operand.tmp 30], argTypes := #[33, 33] }, type := 33, pos := "law.go:75", after := #[{ on := 7, ground := Go.Ground.data }, { on := 9, ground := Go.Ground.data }, { on := 7, ground := Go.Ground.chain }], guard := none }) (by kernel_rfl) rfl (fun K hK => ?_)
            refine step_appL EO Try.underlying33 infoO rfl (by decide) rfl _ _ rfl W5.heap.size v12 cd.length (fl EO cd) rfl O13.out B13.out.size (.slice (some ⟨b13, 0, none⟩) 1 1) [mO] rfl (one_ls M13.out rfl) (by have := HSZ.out; simp; omega) (by have := HSZ.out; unfold maxLen; simp; omega) ?_
            intro v14 w14 h14 k14
            have K14 := hid (Kp.grownBy (S := fun k => (v12 : Value).ownBlock = some k) k14.out (fun _ h => h))
            have B14 := hid (B13.out.trans (K14.out.below B13.out.size (fun k hk => (owns_rd O13.out k hk).1)))
            have O14 : Hid (w14.ownsRow W5.heap.size 72 2 v14 (cd.length + 1) (fl EO (cd ++ [mO]))) := owns_re h14.out (by simp) (by rw [fl_append])
            obtain ⟨g14, cap14, hv14, hc14, MK14⟩ := mk_of O14.out
            subst hv14
            have HM14 := hid MK14
            have GL14 := hid ((owns_rd O14.out g14 rfl).1)
            have q0 : (0 : Int) ≤ (cm : Int) := by omega
            have q1 : (cm : Int) ≤ (cap14 : Int) := by have := HCM.out; omega
            have q2 : cd.length + 1 = cm + 1 := by have := HCM.out; omega
            rw [q2]
            clear h14 k14 MK14 hc14 q2
            refine hK.out _ _ (fun hD => B14.out) ?_
            clear hK K
            try simp only [Act.put, List.setIfInBounds_toArray, List.set_cons_zero, List.set_cons_succ]
            refine' wpAnyD_take (i := 14) (oi := { dst := some 35, op := Go.Op.slice 33 (Go.Operand.tmp 31) none (some (Go.Operand.tmp 34)) none, type := 33, pos := "law.go:75", after := #[{ on := 10, ground := Go.Ground.data }, { on := 13, ground := Go.Ground.data }], guard := none }) (v := _) rfl (by kernel_rfl) (by kernel_rfl) (by kernel_rfl) (fun _ _ _ h => h) (by kernel_rfl) (Or.inl ⟨by rfl, ?hy15⟩) B14.out ?rest15
            case hy15 => (intro W hSw; go_simp; try (with_reducible rfl))
            try simp only [Act.put, List.setIfInBounds_toArray, List.set_cons_zero, List.set_cons_succ]
            refine' wpAnyD_take (i := 15) (oi := { dst := some 36, op := Go.Op.fieldAddr 39 (Go.Operand.tmp 5) 3, type := 0, pos := "law.go:75", after := #[{ on := 0, ground := Go.Ground.phase }, { on := 1, ground := Go.Ground.phase }, { on := 2, ground := Go.Ground.phase }, { on := 3, ground := Go.Ground.phase }, { on := 4, ground := Go.Ground.phase }, { on := 5, ground := Go.Ground.phase }, { on := 6, ground := Go.Ground.phase }, { on := 7, ground := Go.Ground.phase }, { on := 8, ground := Go.Ground.phase }, { on := 9, ground := Go.Ground.phase }, { on := 10, ground := Go.Ground.phase }, { on := 11, ground := Go.Ground.phase }, { on := 12, ground := Go.Ground.phase }, { on := 13, ground := Go.Ground.phase }, { on := 14, ground := Go.Ground.phase }], guard := none }) (v := _) rfl (by kernel_rfl) (by kernel_rfl) (by kernel_rfl) (fun _ _ _ h => h) (by kernel_rfl) (Or.inl ⟨by rfl, ?hy16⟩) B14.out ?rest16
            case hy16 => (intro W hSw; go_simp; try (with_reducible rfl))
            try simp only [Act.put, List.setIfInBounds_toArray, List.set_cons_zero, List.set_cons_succ]
            refine wpAnyD_one (i := 16) (o := { dst := none, op := Go.Op.store 33 (Go.Operand.tmp 36) (Go.Operand.tmp 35), type := 0, pos := "law.go:75", after := #[{ on := 15, ground := Go.Ground.data }, { on := 14, ground := Go.Ground.data }, { on := 10, ground := Go.Ground.chain }, { on := 0, ground := Go.Ground.phase }, { on := 1, ground := Go.Ground.phase }, { on := 2, ground := Go.Ground.phase }, { on := 3, ground := Go.Ground.phase }, { on := 4, ground := Go.Ground.phase }, { on := 5, ground := Go.Ground.phase }, { on := 6, ground := Go.Ground.phase }, { on := 7, ground := Go.Ground.phase }, { on := 8, ground := Go.Ground.phase }, { on := 9, ground := Go.Ground.phase }, { on := 10, ground := Go.Ground.phase }, { on := 11, ground := Go.Ground.phase }, { on := 12, ground := Go.Ground.phase }, { on := 13, ground := Go.Ground.phase }, { on := 14, ground := Go.Ground.phase }], guard := none }) (by kernel_rfl) rfl (fun K hK => ?_)
            have p6 := (B14.out.block _ (tk_lt P0.out.2.1)).trans P0.out.2.1
            have p5 := (B14.out.block _ (tk_lt P0.out.2.2)).trans P0.out.2.2
            have en := (tk_store p6).1
            have en2 := (tk_store p6).2
            have en3 := tk_lt p6
            have s12 := tk_set p6 3 (.slice (some ⟨g14, 0, none⟩) cm cap14)
            have hz5 := tk_lt P0.out.2.1
            have hzw := HI.out.1.bl.size
            have hzl := tk_lt HI.out.1.h1
            have FIN : Hid (Below nb wr (w14.setCell ⟨nb, 3, none⟩ (.slice (some ⟨g14, 0, none⟩) cm cap14)) ∧ (w14.setCell ⟨nb, 3, none⟩ (.slice (some ⟨g14, 0, none⟩) cm cap14)).heap[nb]? = some (.cells (ncells yk yi yo (.slice (some ⟨g14, 0, none⟩) cm cap14) via bd (.slice dq dm dc) st) 39 (0, 0)) ∧ (w14.setCell ⟨nb, 3, none⟩ (.slice (some ⟨g14, 0, none⟩) cm cap14)).heap[w.heap.size]? = some (.cells (gvc a (.slice (some ⟨b1, o1, none⟩) nl cn) (.slice pe el ce)) 25 (0, 0)) ∧ Mk EO 72 (w14.setCell ⟨nb, 3, none⟩ (.slice (some ⟨g14, 0, none⟩) cm cap14)) (.slice (some ⟨g14, 0, none⟩) cm cap14) cd mO ∧ nb < g14) := by
              have h1 := B14.out.mono (show nb ≤ W5.heap.size by omega)
              have h2 := h1.trans (s12.2.below (Nat.le_trans (by omega) h1.size) (fun k e => by omega))
              have hg := GL14.out
              have h3 := HM14.out
              have hn := HNB.out
              rw [← HCM.out] at h3
              exact ⟨P0.out.1.trans h2, s12.1, (s12.2.block _ (tk_lt p5) (by omega)).trans p5, h3.kp s12.2 (fun k e e2 => by simp [Value.ownBlock] at e; omega), by omega⟩
            clear p6 p5 s12 hz5 hzw hzl
            go_simp
            refine hK.out _ _ (fun hD => absurd (by decide) hD) ?_
            clear hK K
            try simp only [Act.put, List.setIfInBounds_toArray, List.set_cons_zero, List.set_cons_succ]
            refine wpAnyD_done (by kernel_rfl) ?_ _
            go_wp2_with fail
            go_meet
            exact ⟨g14, cap14, FIN.out⟩
          · go_simp
            have g17 := (Gr.refl V11).alloc (.cells #[.int .i64 777, .int .u64 0] 72)
            have a17 := heap_new' V11 (.cells #[.int .i64 777, .int .u64 0] 72)
            obtain ⟨b17, hb17⟩ : ∃ b, b = V11.heap.size := ⟨_, rfl⟩
            obtain ⟨V17, hV17⟩ : ∃ V, V = V11.alloc (.cells #[.int .i64 777, .int .u64 0] 72) := ⟨_, rfl⟩
            rw [← hV17, ← hb17]
            rw [← hV17] at g17 a17
            have B17 := hid (B11.out.trans (g17.below.mono B11.out.size))
            have M17 : Hid (V17.heap[b17]? = some (.cells #[.int .i64 777, .int .u64 0] 72 (0, 0))) := by
              show _ = _
              rw [hb17]
              exact a17
            have O17 := hid (owns_below O11.out g17.below)
            have N17 : Hid (∀ k, ((.slice (some ⟨b11, 0, none⟩) 0 0) : Value).ownBlock = some k → k ≠ b17) := fun k hk e => by
              have h1 := (owns_rd O11.out k hk).2
              omega
            clear g17 a17 hV17 hb17
            refine hK.out _ _ (fun hD => B17.out) ?_
            clear hK K
            try simp only [Act.put, List.setIfInBounds_toArray, List.set_cons_zero, List.set_cons_succ]
            refine wpAnyD_one (i := 7) (o := { dst := some 28, op := Go.Op.call { callee := Go.Callee.builtin Go.Builtin.append, args := #[Go.Operand.tmp 21, Go.Operand.tmp 27], argTypes := #[33, 33] }, type := 33, pos := "law.go:75", after := #[{ on := 0, ground := Go.Ground.data }, { on := 6, ground := Go.Ground.data }], guard := none }) (by kernel_rfl) rfl (fun K hK => ?_)
            refine step_appZ EO Try.underlying33 infoO rfl (by decide) rfl _ _ rfl W5.heap.size (.slice (some ⟨b11, 0, none⟩) 0 0) 0 [] rfl O17.out B17.out.size w.heap.size (.slice cq cm cc) cd rfl (LC.out.below B17.out) (by have := HSZ.out; omega) (by have := HSZ.out; unfold maxLen; omega) ?_
            intro v18 w18 h18 k18
            have K18 := hid (Kp.grownBy (S := fun k => ((.slice (some ⟨b11, 0, none⟩) 0 0) : Value).ownBlock = some k) k18.out (fun _ h => h))
            have B18 := hid (B17.out.trans (K18.out.below B17.out.size (fun k hk => (owns_rd O17.out k hk).1)))
            have O18 : Hid (w18.ownsRow W5.heap.size 72 2 v18 cd.length (fl EO cd)) := owns_re h18.out (by simp) (by simp)
            have M18 := hid ((K18.out.block _ (tk_lt M17.out) (fun e => N17.out _ e rfl)).trans M17.out)
            clear h18 k18
            refine hK.out _ _ (fun hD => B18.out) ?_
            clear hK K
            try simp only [Act.put, List.setIfInBounds_toArray, List.set_cons_zero, List.set_cons_succ]
            refine wpAnyD_one (i := 10) (o := { dst := some 31, op := Go.Op.call { callee := Go.Callee.builtin Go.Builtin.append, args := #[Go.Operand.tmp 28, Go.Operand.tmp 30], argTypes := #[33, 33] }, type := 33, pos := "law.go:75", after := #[{ on := 7, ground := Go.Ground.data }, { on := 9, ground := Go.Ground.data }, { on := 7, ground := Go.Ground.chain }], guard := none }) (by kernel_rfl) rfl (fun K hK => ?_)
            refine step_appL EO Try.underlying33 infoO rfl (by decide) rfl _ _ rfl W5.heap.size v18 cd.length (fl EO cd) rfl O18.out B18.out.size (.slice (some ⟨b17, 0, none⟩) 1 1) [mO] rfl (one_ls M18.out rfl) (by have := HSZ.out; simp; omega) (by have := HSZ.out; unfold maxLen; simp; omega) ?_
            intro v19 w19 h19 k19
            have K19 := hid (Kp.grownBy (S := fun k => (v18 : Value).ownBlock = some k) k19.out (fun _ h => h))
            have B19 := hid (B18.out.trans (K19.out.below B18.out.size (fun k hk => (owns_rd O18.out k hk).1)))
            have O19 : Hid (w19.ownsRow W5.heap.size 72 2 v19 (cd.length + 1) (fl EO (cd ++ [mO]))) := owns_re h19.out (by simp) (by rw [fl_append])
            obtain ⟨g19, cap19, hv19, hc19, MK19⟩ := mk_of O19.out
            subst hv19
            have HM19 := hid MK19
            have GL19 := hid ((owns_rd O19.out g19 rfl).1)
            have q0 : (0 : Int) ≤ (cm : Int) := by omega
            have q1 : (cm : Int) ≤ (cap19 : Int) := by have := HCM.out; omega
            have q2 : cd.length + 1 = cm + 1 := by have := HCM.out; omega
            rw [q2]
            clear h19 k19 MK19 hc19 q2
            refine hK.out _ _ (fun hD => B19.out) ?_
            clear hK K
            try simp only [Act.put, List.setIfInBounds_toArray, List.set_cons_zero, List.set_cons_succ]
            refine' wpAnyD_take (i := 14) (oi := { dst := some 35, op := Go.Op.slice 33 (Go.Operand.tmp 31) none (some (Go.Operand.tmp 34)) none, type := 33, pos := "law.go:75", after := #[{ on := 10, ground := Go.Ground.data }, { on := 13, ground := Go.Ground.data }], guard := none }) (v := _) rfl (by kernel_rfl) (by kernel_rfl) (by kernel_rfl) (fun _ _ _ h => h) (by kernel_rfl) (Or.inl ⟨by rfl, ?hy20⟩) B19.out ?rest20
            case hy20 => (intro W hSw; go_simp; try (with_reducible rfl))
            try simp only [Act.put, List.setIfInBounds_toArray, List.set_cons_zero, List.set_cons_succ]
            refine' wpAnyD_take (i := 15) (oi := { dst := some 36, op := Go.Op.fieldAddr 39 (Go.Operand.tmp 5) 3, type := 0, pos := "law.go:75", after := #[{ on := 0, ground := Go.Ground.phase }, { on := 1, ground := Go.Ground.phase }, { on := 2, ground := Go.Ground.phase }, { on := 3, ground := Go.Ground.phase }, { on := 4, ground := Go.Ground.phase }, { on := 5, ground := Go.Ground.phase }, { on := 6, ground := Go.Ground.phase }, { on := 7, ground := Go.Ground.phase }, { on := 8, ground := Go.Ground.phase }, { on := 9, ground := Go.Ground.phase }, { on := 10, ground := Go.Ground.phase }, { on := 11, ground := Go.Ground.phase }, { on := 12, ground := Go.Ground.phase }, { on := 13, ground := Go.Ground.phase }, { on := 14, ground := Go.Ground.phase }], guard := none }) (v := _) rfl (by kernel_rfl) (by kernel_rfl) (by kernel_rfl) (fun _ _ _ h => h) (by kernel_rfl) (Or.inl ⟨by rfl, ?hy21⟩) B19.out ?rest21
            case hy21 => (intro W hSw; go_simp; try (with_reducible rfl))
            try simp only [Act.put, List.setIfInBounds_toArray, List.set_cons_zero, List.set_cons_succ]
            refine wpAnyD_one (i := 16) (o := { dst := none, op := Go.Op.store 33 (Go.Operand.tmp 36) (Go.Operand.tmp 35), type := 0, pos := "law.go:75", after := #[{ on := 15, ground := Go.Ground.data }, { on := 14, ground := Go.Ground.data }, { on := 10, ground := Go.Ground.chain }, { on := 0, ground := Go.Ground.phase }, { on := 1, ground := Go.Ground.phase }, { on := 2, ground := Go.Ground.phase }, { on := 3, ground := Go.Ground.phase }, { on := 4, ground := Go.Ground.phase }, { on := 5, ground := Go.Ground.phase }, { on := 6, ground := Go.Ground.phase }, { on := 7, ground := Go.Ground.phase }, { on := 8, ground := Go.Ground.phase }, { on := 9, ground := Go.Ground.phase }, { on := 10, ground := Go.Ground.phase }, { on := 11, ground := Go.Ground.phase }, { on := 12, ground := Go.Ground.phase }, { on := 13, ground := Go.Ground.phase }, { on := 14, ground := Go.Ground.phase }], guard := none }) (by kernel_rfl) rfl (fun K hK => ?_)
            have p6 := (B19.out.block _ (tk_lt P0.out.2.1)).trans P0.out.2.1
            have p5 := (B19.out.block _ (tk_lt P0.out.2.2)).trans P0.out.2.2
            have en := (tk_store p6).1
            have en2 := (tk_store p6).2
            have en3 := tk_lt p6
            have s12 := tk_set p6 3 (.slice (some ⟨g19, 0, none⟩) cm cap19)
            have hz5 := tk_lt P0.out.2.1
            have hzw := HI.out.1.bl.size
            have hzl := tk_lt HI.out.1.h1
            have FIN : Hid (Below nb wr (w19.setCell ⟨nb, 3, none⟩ (.slice (some ⟨g19, 0, none⟩) cm cap19)) ∧ (w19.setCell ⟨nb, 3, none⟩ (.slice (some ⟨g19, 0, none⟩) cm cap19)).heap[nb]? = some (.cells (ncells yk yi yo (.slice (some ⟨g19, 0, none⟩) cm cap19) via bd (.slice dq dm dc) st) 39 (0, 0)) ∧ (w19.setCell ⟨nb, 3, none⟩ (.slice (some ⟨g19, 0, none⟩) cm cap19)).heap[w.heap.size]? = some (.cells (gvc a (.slice (some ⟨b1, o1, none⟩) nl cn) (.slice pe el ce)) 25 (0, 0)) ∧ Mk EO 72 (w19.setCell ⟨nb, 3, none⟩ (.slice (some ⟨g19, 0, none⟩) cm cap19)) (.slice (some ⟨g19, 0, none⟩) cm cap19) cd mO ∧ nb < g19) := by
              have h1 := B19.out.mono (show nb ≤ W5.heap.size by omega)
              have h2 := h1.trans (s12.2.below (Nat.le_trans (by omega) h1.size) (fun k e => by omega))
              have hg := GL19.out
              have h3 := HM19.out
              have hn := HNB.out
              rw [← HCM.out] at h3
              exact ⟨P0.out.1.trans h2, s12.1, (s12.2.block _ (tk_lt p5) (by omega)).trans p5, h3.kp s12.2 (fun k e e2 => by simp [Value.ownBlock] at e; omega), by omega⟩
            clear p6 p5 s12 hz5 hzw hzl
            go_simp
            refine hK.out _ _ (fun hD => absurd (by decide) hD) ?_
            clear hK K
            try simp only [Act.put, List.setIfInBounds_toArray, List.set_cons_zero, List.set_cons_succ]
            refine wpAnyD_done (by kernel_rfl) ?_ _
            go_wp2_with fail
            go_meet
            exact ⟨g19, cap19, FIN.out⟩
        · go_simp
          have g22 := (Gr.refl Wd).alloc (.cells #[.int .i64 777, .int .u64 0] 72)
          have a22 := heap_new' Wd (.cells #[.int .i64 777, .int .u64 0] 72)
          obtain ⟨b22, hb22⟩ : ∃ b, b = Wd.heap.size := ⟨_, rfl⟩
          obtain ⟨V22, hV22⟩ : ∃ V, V = Wd.alloc (.cells #[.int .i64 777, .int .u64 0] 72) := ⟨_, rfl⟩
          rw [← hV22, ← hb22]
          rw [← hV22] at g22 a22
          have B22 := hid (BD.out.trans (g22.below.mono BD.out.size))
          have M22 : Hid (V22.heap[b22]? = some (.cells #[.int .i64 777, .int .u64 0] 72 (0, 0))) := by
            show _ = _
            rw [hb22]
            exact a22
          clear g22 a22 hV22 hb22
          refine hK.out _ _ (fun hD => B22.out) ?_
          clear hK K
          try simp only [Act.put, List.setIfInBounds_toArray, List.set_cons_zero, List.set_cons_succ]
          refine wpAnyD_one (i := 0) (o := { dst := some 21, op := Go.Op.buildSlice 33 0 #[], type := 33, pos := "law.go:75", after := #[], guard := none }) (by kernel_rfl) rfl (fun K hK => ?_)
          go_simp
          have g23 := (Gr.refl V22).alloc (.cells #[] 72)
          have a23 := heap_new' V22 (.cells #[] 72)
          obtain ⟨b23, hb23⟩ : ∃ b, b = V22.heap.size := ⟨_, rfl⟩
          obtain ⟨V23, hV23⟩ : ∃ V, V = V22.alloc (.cells #[] 72) := ⟨_, rfl⟩
          rw [← hV23, ← hb23]
          rw [← hV23] at g23 a23
          have B23 := hid (B22.out.trans (g23.below.mono B22.out.size))
          have O23 : Hid (V23.ownsRow W5.heap.size 72 2 (.slice (some ⟨b23, 0, none⟩) 0 0) 0 []) := by
            rw [hV23, hb23]
            exact World.ownsRow_made V22 #[] 0 B22.out.size (Nat.zero_le _) rfl
          have M23 := hid ((g23.below.block _ (tk_lt M22.out)).trans M22.out)
          have N23 : Hid (∀ k, (Value.slice (some ⟨b23, 0, none⟩) 0 0).ownBlock = some k → k ≠ b22) := fun k hk e => by
            have h1 := tk_lt M22.out
            simp [Value.ownBlock] at hk
            omega
          clear g23 a23 hV23 hb23
          refine hK.out _ _ (fun hD => B23.out) ?_
          clear hK K
          try simp only [Act.put, List.setIfInBounds_toArray, List.set_cons_zero, List.set_cons_succ]
          refine wpAnyD_one (i := 7) (o := { dst := some 28, op := Go.Op.call { callee := Go.Callee.builtin Go.Builtin.append, args := #[Go.Operand.tmp 21, Go.Operand.tmp 27], argTypes := #[33, 33] }, type := 33, pos := "law.go:75", after := #[{ on := 0, ground := Go.Ground.data }, { on := 6, ground := Go.Ground.data }], guard := none }) (by kernel_rfl) rfl (fun K hK => ?_)
          refine step_appZ EO Try.underlying33 infoO rfl (by decide) rfl _ _ rfl W5.heap.size (.slice (some ⟨b23, 0, none⟩) 0 0) 0 [] rfl O23.out B23.out.size w.heap.size (.slice cq cm cc) cd rfl (LC.out.below B23.out) (by have := HSZ.out; omega) (by have := HSZ.out; unfold maxLen; omega) ?_
          intro v24 w24 h24 k24
          have K24 := hid (Kp.grownBy (S := fun k => ((.slice (some ⟨b23, 0, none⟩) 0 0) : Value).ownBlock = some k) k24.out (fun _ h => h))
          have B24 := hid (B23.out.trans (K24.out.below B23.out.size (fun k hk => (owns_rd O23.out k hk).1)))
          have O24 : Hid (w24.ownsRow W5.heap.size 72 2 v24 cd.length (fl EO cd)) := owns_re h24.out (by simp) (by simp)
          have M24 := hid ((K24.out.block _ (tk_lt M23.out) (fun e => N23.out _ e rfl)).trans M23.out)
          clear h24 k24
          refine hK.out _ _ (fun hD => B24.out) ?_
          clear hK K
          try simp only [Act.put, List.setIfInBounds_toArray, List.set_cons_zero, List.set_cons_succ]
          refine wpAnyD_one (i := 10) (o := { dst := some 31, op := Go.Op.call { callee := Go.Callee.builtin Go.Builtin.append, args := #[Go.Operand.tmp 28, Go.Operand.tmp 30], argTypes := #[33, 33] }, type := 33, pos := "law.go:75", after := #[{ on := 7, ground := Go.Ground.data }, { on := 9, ground := Go.Ground.data }, { on := 7, ground := Go.Ground.chain }], guard := none }) (by kernel_rfl) rfl (fun K hK => ?_)
          refine step_appL EO Try.underlying33 infoO rfl (by decide) rfl _ _ rfl W5.heap.size v24 cd.length (fl EO cd) rfl O24.out B24.out.size (.slice (some ⟨b22, 0, none⟩) 1 1) [mO] rfl (one_ls M24.out rfl) (by have := HSZ.out; simp; omega) (by have := HSZ.out; unfold maxLen; simp; omega) ?_
          intro v25 w25 h25 k25
          have K25 := hid (Kp.grownBy (S := fun k => (v24 : Value).ownBlock = some k) k25.out (fun _ h => h))
          have B25 := hid (B24.out.trans (K25.out.below B24.out.size (fun k hk => (owns_rd O24.out k hk).1)))
          have O25 : Hid (w25.ownsRow W5.heap.size 72 2 v25 (cd.length + 1) (fl EO (cd ++ [mO]))) := owns_re h25.out (by simp) (by rw [fl_append])
          obtain ⟨g25, cap25, hv25, hc25, MK25⟩ := mk_of O25.out
          subst hv25
          have HM25 := hid MK25
          have GL25 := hid ((owns_rd O25.out g25 rfl).1)
          have q0 : (0 : Int) ≤ (cm : Int) := by omega
          have q1 : (cm : Int) ≤ (cap25 : Int) := by have := HCM.out; omega
          have q2 : cd.length + 1 = cm + 1 := by have := HCM.out; omega
          rw [q2]
          clear h25 k25 MK25 hc25 q2
          refine hK.out _ _ (fun hD => B25.out) ?_
          clear hK K
          try simp only [Act.put, List.setIfInBounds_toArray, List.set_cons_zero, List.set_cons_succ]
          refine' wpAnyD_take (i := 14) (oi := { dst := some 35, op := Go.Op.slice 33 (Go.Operand.tmp 31) none (some (Go.Operand.tmp 34)) none, type := 33, pos := "law.go:75", after := #[{ on := 10, ground := Go.Ground.data }, { on := 13, ground := Go.Ground.data }], guard := none }) (v := _) rfl (by kernel_rfl) (by kernel_rfl) (by kernel_rfl) (fun _ _ _ h => h) (by kernel_rfl) (Or.inl ⟨by rfl, ?hy26⟩) B25.out ?rest26
          case hy26 => (intro W hSw; go_simp; try (with_reducible rfl))
          try simp only [Act.put, List.setIfInBounds_toArray, List.set_cons_zero, List.set_cons_succ]
          refine' wpAnyD_take (i := 15) (oi := { dst := some 36, op := Go.Op.fieldAddr 39 (Go.Operand.tmp 5) 3, type := 0, pos := "law.go:75", after := #[{ on := 0, ground := Go.Ground.phase }, { on := 1, ground := Go.Ground.phase }, { on := 2, ground := Go.Ground.phase }, { on := 3, ground := Go.Ground.phase }, { on := 4, ground := Go.Ground.phase }, { on := 5, ground := Go.Ground.phase }, { on := 6, ground := Go.Ground.phase }, { on := 7, ground := Go.Ground.phase }, { on := 8, ground := Go.Ground.phase }, { on := 9, ground := Go.Ground.phase }, { on := 10, ground := Go.Ground.phase }, { on := 11, ground := Go.Ground.phase }, { on := 12, ground := Go.Ground.phase }, { on := 13, ground := Go.Ground.phase }, { on := 14, ground := Go.Ground.phase }], guard := none }) (v := _) rfl (by kernel_rfl) (by kernel_rfl) (by kernel_rfl) (fun _ _ _ h => h) (by kernel_rfl) (Or.inl ⟨by rfl, ?hy27⟩) B25.out ?rest27
          case hy27 => (intro W hSw; go_simp; try (with_reducible rfl))
          try simp only [Act.put, List.setIfInBounds_toArray, List.set_cons_zero, List.set_cons_succ]
          refine wpAnyD_one (i := 16) (o := { dst := none, op := Go.Op.store 33 (Go.Operand.tmp 36) (Go.Operand.tmp 35), type := 0, pos := "law.go:75", after := #[{ on := 15, ground := Go.Ground.data }, { on := 14, ground := Go.Ground.data }, { on := 10, ground := Go.Ground.chain }, { on := 0, ground := Go.Ground.phase }, { on := 1, ground := Go.Ground.phase }, { on := 2, ground := Go.Ground.phase }, { on := 3, ground := Go.Ground.phase }, { on := 4, ground := Go.Ground.phase }, { on := 5, ground := Go.Ground.phase }, { on := 6, ground := Go.Ground.phase }, { on := 7, ground := Go.Ground.phase }, { on := 8, ground := Go.Ground.phase }, { on := 9, ground := Go.Ground.phase }, { on := 10, ground := Go.Ground.phase }, { on := 11, ground := Go.Ground.phase }, { on := 12, ground := Go.Ground.phase }, { on := 13, ground := Go.Ground.phase }, { on := 14, ground := Go.Ground.phase }], guard := none }) (by kernel_rfl) rfl (fun K hK => ?_)
          have p6 := (B25.out.block _ (tk_lt P0.out.2.1)).trans P0.out.2.1
          have p5 := (B25.out.block _ (tk_lt P0.out.2.2)).trans P0.out.2.2
          have en := (tk_store p6).1
          have en2 := (tk_store p6).2
          have en3 := tk_lt p6
          have s12 := tk_set p6 3 (.slice (some ⟨g25, 0, none⟩) cm cap25)
          have hz5 := tk_lt P0.out.2.1
          have hzw := HI.out.1.bl.size
          have hzl := tk_lt HI.out.1.h1
          have FIN : Hid (Below nb wr (w25.setCell ⟨nb, 3, none⟩ (.slice (some ⟨g25, 0, none⟩) cm cap25)) ∧ (w25.setCell ⟨nb, 3, none⟩ (.slice (some ⟨g25, 0, none⟩) cm cap25)).heap[nb]? = some (.cells (ncells yk yi yo (.slice (some ⟨g25, 0, none⟩) cm cap25) via bd (.slice dq dm dc) st) 39 (0, 0)) ∧ (w25.setCell ⟨nb, 3, none⟩ (.slice (some ⟨g25, 0, none⟩) cm cap25)).heap[w.heap.size]? = some (.cells (gvc a (.slice (some ⟨b1, o1, none⟩) nl cn) (.slice pe el ce)) 25 (0, 0)) ∧ Mk EO 72 (w25.setCell ⟨nb, 3, none⟩ (.slice (some ⟨g25, 0, none⟩) cm cap25)) (.slice (some ⟨g25, 0, none⟩) cm cap25) cd mO ∧ nb < g25) := by
            have h1 := B25.out.mono (show nb ≤ W5.heap.size by omega)
            have h2 := h1.trans (s12.2.below (Nat.le_trans (by omega) h1.size) (fun k e => by omega))
            have hg := GL25.out
            have h3 := HM25.out
            have hn := HNB.out
            rw [← HCM.out] at h3
            exact ⟨P0.out.1.trans h2, s12.1, (s12.2.block _ (tk_lt p5) (by omega)).trans p5, h3.kp s12.2 (fun k e e2 => by simp [Value.ownBlock] at e; omega), by omega⟩
          clear p6 p5 s12 hz5 hzw hzl
          go_simp
          refine hK.out _ _ (fun hD => absurd (by decide) hD) ?_
          clear hK K
          try simp only [Act.put, List.setIfInBounds_toArray, List.set_cons_zero, List.set_cons_succ]
          refine wpAnyD_done (by kernel_rfl) ?_ _
          go_wp2_with fail
          go_meet
          exact ⟨g25, cap25, FIN.out⟩
      case rest =>
        obtain ⟨g1, k1, HC⟩ := hcut
        have LC2 : Hid (Lz EC w.heap.size wc (.slice dq dm dc) cnn) := by
          have h1 := HI.out.1.bl
          have h2 := HC.out.1
          rw [HNB.out] at h2
          exact LC0.out.conns.below (h1.trans (h2.mono h1.size))
        clear LC
        go_upto_region 7 with fail
        go_cut [52] (fun _ w' => ∃ (g2 k2 : Nat), Hid (Below nb wr w' ∧ w'.heap[nb]? = some (.cells (ncells yk yi yo (.slice (some ⟨g1, 0, none⟩) cm k1) via bd (.slice (some ⟨g2, 0, none⟩) dm k2) st) 39 (0, 0)) ∧ Mk EO 72 w' (.slice (some ⟨g1, 0, none⟩) cm k1) cd mO ∧ Mk EC 64 w' (.slice (some ⟨g2, 0, none⟩) dm k2) cnn mC ∧ nb < g1 ∧ nb < g2))
        case first =>
          refine wp_regionD (S := fun W => Below wc.heap.size wc W) (D := [16]) hmx ?_
          have BD : Hid (Below wc.heap.size wc wc.drew) := (Gr.refl _).drew.below
          generalize wc.drew = Wd at BD ⊢
          have HZ6 : Hid (nb ≤ wc.heap.size) := by have := tk_lt HC.out.2.1; show nb ≤ _; omega
          have jz0 : (0 : Int) ≤ (j : Int) := by omega
          have jz1 : (j : Int) < (nl : Int) := by omega
          refine' wpAnyD_take (i := 1) (oi := { dst := some 38, op := Go.Op.fieldAddr 25 (Go.Operand.tmp 1) 1, type := 0, pos := "law.go:76", after := #[], guard := none }) (v := _) rfl (by kernel_rfl) (by kernel_rfl) (by kernel_rfl) (fun _ _ _ h => h) (by kernel_rfl) (Or.inl ⟨by rfl, ?hy28⟩) BD.out ?rest28
          case hy28 => (intro W hSw; go_simp; try (with_reducible rfl))
          try simp only [Act.put, List.setIfInBounds_toArray, List.set_cons_zero, List.set_cons_succ]
          refine' wpAnyD_take (i := 2) (oi := { dst := some 39, op := Go.Op.load 22 (Go.Operand.tmp 38), type := 22, pos := "law.go:76", after := #[{ on := 1, ground := Go.Ground.data }], guard := none }) (v := _) rfl (by kernel_rfl) (by kernel_rfl) (by kernel_rfl) (fun _ _ _ h => h) (by kernel_rfl) (Or.inl ⟨by rfl, ?hy29⟩) BD.out ?rest29
          case hy29 => (intro W hSw; have hb := (hSw.block _ (tk_lt HC.out.2.2.1)).trans HC.out.2.2.1; have hc := (tk_store hb).1 1; have hl := tk_lt hb; go_simp; try (with_reducible rfl))
          try simp only [Act.put, List.setIfInBounds_toArray, List.set_cons_zero, List.set_cons_succ]
          refine' wpAnyD_take (i := 3) (oi := { dst := some 40, op := Go.Op.move (Go.Operand.tmp 4), type := 3, pos := "law.go:76", after := #[], guard := none }) (v := _) rfl (by kernel_rfl) (by kernel_rfl) (by kernel_rfl) (fun _ _ _ h => h) (by kernel_rfl) (Or.inl ⟨by rfl, ?hy30⟩) BD.out ?rest30
          case hy30 => (intro W hSw; go_simp; try (with_reducible rfl))
          try simp only [Act.put, List.setIfInBounds_toArray, List.set_cons_zero, List.set_cons_succ]
          refine' wpAnyD_take (i := 4) (oi := { dst := some 41, op := Go.Op.indexAddr 22 (Go.Operand.tmp 39) (Go.Operand.tmp 40), type := 0, pos := "law.go:76", after := #[{ on := 2, ground := Go.Ground.data }, { on := 3, ground := Go.Ground.data }], guard := none }) (v := _) rfl (by kernel_rfl) (by kernel_rfl) (by kernel_rfl) (fun _ _ _ h => h) (by kernel_rfl) (Or.inl ⟨by rfl, ?hy31⟩) BD.out ?rest31
          case hy31 => (intro W hSw; go_simp; try (with_reducible rfl))
          try simp only [Act.put, List.setIfInBounds_toArray, List.set_cons_zero, List.set_cons_succ]
          refine' wpAnyD_take (i := 5) (oi := { dst := some 42, op := Go.Op.fieldAddr 39 (Go.Operand.tmp 41) 6, type := 0, pos := "law.go:76", after := #[{ on := 4, ground := Go.Ground.data }], guard := none }) (v := _) rfl (by kernel_rfl) (by kernel_rfl) (by kernel_rfl) (fun _ _ _ h => h) (by kernel_rfl) (Or.inl ⟨by rfl, ?hy32⟩) BD.out ?rest32
          case hy32 => (intro W hSw; go_simp; try (with_reducible rfl))
          try simp only [Act.put, List.setIfInBounds_toArray, List.set_cons_zero, List.set_cons_succ]
          refine' wpAnyD_take (i := 6) (oi := { dst := some 43, op := Go.Op.load 37 (Go.Operand.tmp 42), type := 37, pos := "law.go:76", after := #[{ on := 5, ground := Go.Ground.data }], guard := none }) (v := _) rfl (by kernel_rfl) (by kernel_rfl) (by kernel_rfl) (fun _ _ _ h => h) (by kernel_rfl) (Or.inl ⟨by rfl, ?hy33⟩) BD.out ?rest33
          case hy33 => (intro W hSw; obtain ⟨r3, r8, rl⟩ := XR.out W (HC.out.1.trans (hSw.mono HZ6.out)); go_simp; try (with_reducible rfl))
          try simp only [Act.put, List.setIfInBounds_toArray, List.set_cons_zero, List.set_cons_succ]
          refine' wpAnyD_take (i := 8) (oi := { dst := some 45, op := Go.Op.build 64 #[(0, Go.Operand.const (Go.Value.int Go.IntKind.i64 777))], type := 64, pos := "law.go:76", after := #[], guard := none }) (v := _) rfl (by kernel_rfl) (by kernel_rfl) (by kernel_rfl) (fun _ _ _ h => h) (by kernel_rfl) (Or.inl ⟨by rfl, ?hy34⟩) BD.out ?rest34
          case hy34 => (intro W hSw; go_simp; try (with_reducible rfl))
          try simp only [Act.put, List.setIfInBounds_toArray, List.set_cons_zero, List.set_cons_succ]
          refine' wpAnyD_take (i := 11) (oi := { dst := some 48, op := Go.Op.fieldAddr 39 (Go.Operand.tmp 5) 6, type := 0, pos := "law.go:76", after := #[], guard := none }) (v := _) rfl (by kernel_rfl) (by kernel_rfl) (by kernel_rfl) (fun _ _ _ h => h) (by kernel_rfl) (Or.inl ⟨by rfl, ?hy35⟩) BD.out ?rest35
          case hy35 => (intro W hSw; go_simp; try (with_reducible rfl))
          try simp only [Act.put, List.setIfInBounds_toArray, List.set_cons_zero, List.set_cons_succ]
          refine' wpAnyD_take (i := 12) (oi := { dst := some 49, op := Go.Op.load 37 (Go.Operand.tmp 48), type := 37, pos := "law.go:76", after := #[{ on := 11, ground := Go.Ground.data }], guard := none }) (v := _) rfl (by kernel_rfl) (by kernel_rfl) (by kernel_rfl) (fun _ _ _ h => h) (by kernel_rfl) (Or.inl ⟨by rfl, ?hy36⟩) BD.out ?rest36
          case hy36 => (intro W hSw; have hb := (hSw.block _ (tk_lt HC.out.2.1)).trans HC.out.2.1; have hc := (tk_store hb).1 8; have hl := tk_lt hb; go_simp; try (with_reducible rfl))
          try simp only [Act.put, List.setIfInBounds_toArray, List.set_cons_zero, List.set_cons_succ]
          refine' wpAnyD_take (i := 13) (oi := { dst := some 50, op := Go.Op.call { callee := Go.Callee.builtin Go.Builtin.len, args := #[Go.Operand.tmp 49], argTypes := #[37] }, type := 3, pos := "law.go:76", after := #[{ on := 12, ground := Go.Ground.data }], guard := none }) (v := _) rfl (by kernel_rfl) (by kernel_rfl) (by kernel_rfl) (fun _ _ _ h => h) (by kernel_rfl) (Or.inl ⟨by rfl, ?hy37⟩) BD.out ?rest37
          case hy37 => (intro W hSw; go_simp; try (with_reducible rfl))
          try simp only [Act.put, List.setIfInBounds_toArray, List.set_cons_zero, List.set_cons_succ]
          refine wpAnyD_two (i := 0) (j := 9) (oi := { dst := some 37, op := Go.Op.buildSlice 37 0 #[], type := 37, pos := "law.go:76", after := #[], guard := none }) (oj := { dst := some 46, op := Go.Op.buildSlice 37 1 #[(0, Go.Operand.tmp 45)], type := 37, pos := "law.go:76", after := #[{ on := 8, ground := Go.Ground.data }], guard := none }) (by kernel_rfl) rfl rfl (fun K hK => ?_) (fun K hK => ?_)
          · go_simp
            have g38 := (Gr.refl Wd).alloc (.cells #[] 64)
            have a38 := heap_new' Wd (.cells #[] 64)
            obtain ⟨b38, hb38⟩ : ∃ b, b = Wd.heap.size := ⟨_, rfl⟩
            obtain ⟨V38, hV38⟩ : ∃ V, V = Wd.alloc (.cells #[] 64) := ⟨_, rfl⟩
            rw [← hV38, ← hb38]
            rw [← hV38] at g38 a38
            have B38 := hid (BD.out.trans (g38.below.mono BD.out.size))
            have O38 : Hid (V38.ownsRow wc.heap.size 64 5 (.slice (some ⟨b38, 0, none⟩) 0 0) 0 []) := by
              rw [hV38, hb38]
              exact World.ownsRow_made Wd #[] 0 BD.out.size (Nat.zero_le _) rfl
            clear g38 a38 hV38 hb38
            refine hK.out _ _ (fun hD => B38.out) ?_
            clear hK K
            try simp only [Act.put, List.setIfInBounds_toArray, List.set_cons_zero, List.set_cons_succ]
            refine wpAnyD_two (i := 7) (j := 9) (oi := { dst := some 44, op := Go.Op.call { callee := Go.Callee.builtin Go.Builtin.append, args := #[Go.Operand.tmp 37, Go.Operand.tmp 43], argTypes := #[37, 37] }, type := 37, pos := "law.go:76", after := #[{ on := 0, ground := Go.Ground.data }, { on := 6, ground := Go.Ground.data }], guard := none }) (oj := { dst := some 46, op := Go.Op.buildSlice 37 1 #[(0, Go.Operand.tmp 45)], type := 37, pos := "law.go:76", after := #[{ on := 8, ground := Go.Ground.data }], guard := none }) (by kernel_rfl) rfl rfl (fun K hK => ?_) (fun K hK => ?_)
            · refine step_appZ EC Try.underlying37 infoC rfl (by decide) rfl _ _ rfl wc.heap.size (.slice (some ⟨b38, 0, none⟩) 0 0) 0 [] rfl O38.out B38.out.size w.heap.size (.slice dq dm dc) cnn rfl (LC2.out.below B38.out) (by have := HSZ.out; omega) (by have := HSZ.out; unfold maxLen; omega) ?_
              intro v39 w39 h39 k39
              have K39 := hid (Kp.grownBy (S := fun k => ((.slice (some ⟨b38, 0, none⟩) 0 0) : Value).ownBlock = some k) k39.out (fun _ h => h))
              have B39 := hid (B38.out.trans (K39.out.below B38.out.size (fun k hk => (owns_rd O38.out k hk).1)))
              have O39 : Hid (w39.ownsRow wc.heap.size 64 5 v39 cnn.length (fl EC cnn)) := owns_re h39.out (by simp) (by simp)
              clear h39 k39
              refine hK.out _ _ (fun hD => B39.out) ?_
              clear hK K
              try simp only [Act.put, List.setIfInBounds_toArray, List.set_cons_zero, List.set_cons_succ]
              refine wpAnyD_one (i := 9) (o := { dst := some 46, op := Go.Op.buildSlice 37 1 #[(0, Go.Operand.tmp 45)], type := 37, pos := "law.go:76", after := #[{ on := 8, ground := Go.Ground.data }], guard := none }) (by kernel_rfl) rfl (fun K hK => ?_)
              go_simp
              have g40 := (Gr.refl w39).alloc (.cells #[.int .i64 777, .int .i64 0, .int .u64 0, .int .u64 0, .int .u64 0] 64)
              have a40 := heap_new' w39 (.cells #[.int .i64 777, .int .i64 0, .int .u64 0, .int .u64 0, .int .u64 0] 64)
              obtain ⟨b40, hb40⟩ : ∃ b, b = w39.heap.size := ⟨_, rfl⟩
              obtain ⟨V40, hV40⟩ : ∃ V, V = w39.alloc (.cells #[.int .i64 777, .int .i64 0, .int .u64 0, .int .u64 0, .int .u64 0] 64) := ⟨_, rfl⟩
              rw [← hV40, ← hb40]
              rw [← hV40] at g40 a40
              have B40 := hid (B39.out.trans (g40.below.mono B39.out.size))
              have M40 : Hid (V40.heap[b40]? = some (.cells #[.int .i64 777, .int .i64 0, .int .u64 0, .int .u64 0, .int .u64 0] 64 (0, 0))) := by
                show _ = _
                rw [hb40]
                exact a40
              have O40 := hid (owns_below O39.out g40.below)
              have N40 : Hid (∀ k, (v39 : Value).ownBlock = some k → k ≠ b40) := fun k hk e => by
                have h1 := (owns_rd O39.out k hk).2
                omega
              clear g40 a40 hV40 hb40
              refine hK.out _ _ (fun hD => B40.out) ?_
              clear hK K
              try simp only [Act.put, List.setIfInBounds_toArray, List.set_cons_zero, List.set_cons_succ]
              refine wpAnyD_one (i := 10) (o := { dst := some 47, op := Go.Op.call { callee := Go.Callee.builtin Go.Builtin.append, args := #[Go.Operand.tmp 44, Go.Operand.tmp 46], argTypes := #[37, 37] }, type := 37, pos := "law.go:76", after := #[{ on := 7, ground := Go.Ground.data }, { on := 9, ground := Go.Ground.data }, { on := 7, ground := Go.Ground.chain }], guard := none }) (by kernel_rfl) rfl (fun K hK => ?_)
              refine step_appL EC Try.underlying37 infoC rfl (by decide) rfl _ _ rfl wc.heap.size v39 cnn.length (fl EC cnn) rfl O40.out B40.out.size (.slice (some ⟨b40, 0, none⟩) 1 1) [mC] rfl (one_ls M40.out rfl) (by have := HSZ.out; simp; omega) (by have := HSZ.out; unfold maxLen; simp; omega) ?_
              intro v41 w41 h41 k41
              have K41 := hid (Kp.grownBy (S := fun k => (v39 : Value).ownBlock = some k) k41.out (fun _ h => h))
              have B41 := hid (B40.out.trans (K41.out.below B40.out.size (fun k hk => (owns_rd O40.out k hk).1)))
              have O41 : Hid (w41.ownsRow wc.heap.size 64 5 v41 (cnn.length + 1) (fl EC (cnn ++ [mC]))) := owns_re h41.out (by simp) (by rw [fl_append])
              obtain ⟨g41, cap41, hv41, hc41, MK41⟩ := mk_of O41.out
              subst hv41
              have HM41 := hid MK41
              have GL41 := hid ((owns_rd O41.out g41 rfl).1)
              have q0 : (0 : Int) ≤ (dm : Int) := by omega
              have q1 : (dm : Int) ≤ (cap41 : Int) := by have := HDM.out; omega
              have q2 : cnn.length + 1 = dm + 1 := by have := HDM.out; omega
              rw [q2]
              clear h41 k41 MK41 hc41 q2
              refine hK.out _ _ (fun hD => B41.out) ?_
              clear hK K
              try simp only [Act.put, List.setIfInBounds_toArray, List.set_cons_zero, List.set_cons_succ]
              refine' wpAnyD_take (i := 14) (oi := { dst := some 51, op := Go.Op.slice 37 (Go.Operand.tmp 47) none (some (Go.Operand.tmp 50)) none, type := 37, pos := "law.go:76", after := #[{ on := 10, ground := Go.Ground.data }, { on := 13, ground := Go.Ground.data }], guard := none }) (v := _) rfl (by kernel_rfl) (by kernel_rfl) (by kernel_rfl) (fun _ _ _ h => h) (by kernel_rfl) (Or.inl ⟨by rfl, ?hy42⟩) B41.out ?rest42
              case hy42 => (intro W hSw; go_simp; try (with_reducible rfl))
              try simp only [Act.put, List.setIfInBounds_toArray, List.set_cons_zero, List.set_cons_succ]
              refine' wpAnyD_take (i := 15) (oi := { dst := some 52, op := Go.Op.fieldAddr 39 (Go.Operand.tmp 5) 6, type := 0, pos := "law.go:76", after := #[{ on := 0, ground := Go.Ground.phase }, { on := 1, ground := Go.Ground.phase }, { on := 2, ground := Go.Ground.phase }, { on := 3, ground := Go.Ground.phase }, { on := 4, ground := Go.Ground.phase }, { on := 5, ground := Go.Ground.phase }, { on := 6, ground := Go.Ground.phase }, { on := 7, ground := Go.Ground.phase }, { on := 8, ground := Go.Ground.phase }, { on := 9, ground := Go.Ground.phase }, { on := 10, ground := Go.Ground.phase }, { on := 11, ground := Go.Ground.phase }, { on := 12, ground := Go.Ground.phase }, { on := 13, ground := Go.Ground.phase }, { on := 14, ground := Go.Ground.phase }], guard := none }) (v := _) rfl (by kernel_rfl) (by kernel_rfl) (by kernel_rfl) (fun _ _ _ h => h) (by kernel_rfl) (Or.inl ⟨by rfl, ?hy43⟩) B41.out ?rest43
              case hy43 => (intro W hSw; go_simp; try (with_reducible rfl))
              try simp only [Act.put, List.setIfInBounds_toArray, List.set_cons_zero, List.set_cons_succ]
              refine wpAnyD_one (i := 16) (o := { dst := none, op := Go.Op.store 37 (Go.Operand.tmp 52) (Go.Operand.tmp 51), type := 0, pos := "law.go:76", after := #[{ on := 15, ground := Go.Ground.data }, { on := 14, ground := Go.Ground.data }, { on := 10, ground := Go.Ground.chain }, { on := 0, ground := Go.Ground.phase }, { on := 1, ground := Go.Ground.phase }, { on := 2, ground := Go.Ground.phase }, { on := 3, ground := Go.Ground.phase }, { on := 4, ground := Go.Ground.phase }, { on := 5, ground := Go.Ground.phase }, { on := 6, ground := Go.Ground.phase }, { on := 7, ground := Go.Ground.phase }, { on := 8, ground := Go.Ground.phase }, { on := 9, ground := Go.Ground.phase }, { on := 10, ground := Go.Ground.phase }, { on := 11, ground := Go.Ground.phase }, { on := 12, ground := Go.Ground.phase }, { on := 13, ground := Go.Ground.phase }, { on := 14, ground := Go.Ground.phase }], guard := none }) (by kernel_rfl) rfl (fun K hK => ?_)
              have p6 := (B41.out.block _ (tk_lt HC.out.2.1)).trans HC.out.2.1
              have en := (tk_store p6).1
              have en2 := (tk_store p6).2
              have en3 := tk_lt p6
              have s12 := tk_set p6 8 (.slice (some ⟨g41, 0, none⟩) dm cap41)
              have hz5 := tk_lt HC.out.2.1
              have FIN : Hid (Below nb wr (w41.setCell ⟨nb, 8, none⟩ (.slice (some ⟨g41, 0, none⟩) dm cap41)) ∧ (w41.setCell ⟨nb, 8, none⟩ (.slice (some ⟨g41, 0, none⟩) dm cap41)).heap[nb]? = some (.cells (ncells yk yi yo (.slice (some ⟨g1, 0, none⟩) cm k1) via bd (.slice (some ⟨g41, 0, none⟩) dm cap41) st) 39 (0, 0)) ∧ Mk EO 72 (w41.setCell ⟨nb, 8, none⟩ (.slice (some ⟨g41, 0, none⟩) dm cap41)) (.slice (some ⟨g1, 0, none⟩) cm k1) cd mO ∧ Mk EC 64 (w41.setCell ⟨nb, 8, none⟩ (.slice (some ⟨g41, 0, none⟩) dm cap41)) (.slice (some ⟨g41, 0, none⟩) dm cap41) cnn mC ∧ nb < g1 ∧ nb < g41) := by
                have h1 := B41.out.mono (show nb ≤ wc.heap.size by omega)
                have h2 := h1.trans (s12.2.below (Nat.le_trans (by omega) h1.size) (fun k e => by omega))
                have hg := GL41.out
                have h3 := HM41.out
                rw [← HDM.out] at h3
                have h4 := HC.out.2.2.2.2
                exact ⟨HC.out.1.trans h2, s12.1, (HC.out.2.2.2.1.below B41.out).kp s12.2 (fun k e e2 => by simp [Value.ownBlock] at e; omega), h3.kp s12.2 (fun k e e2 => by simp [Value.ownBlock] at e; omega), h4, by omega⟩
              clear p6 s12 hz5
              go_simp
              refine hK.out _ _ (fun hD => absurd (by decide) hD) ?_
              clear hK K
              try simp only [Act.put, List.setIfInBounds_toArray, List.set_cons_zero, List.set_cons_succ]
              refine wpAnyD_done (by kernel_rfl) ?_ _
              go_wp2_with fail
              go_meet
              exact ⟨g41, cap41, FIN.out⟩
            · go_simp
              have g44 := (Gr.refl V38).alloc (.cells #[.int .i64 777, .int .i64 0, .int .u64 0, .int .u64 0, .int .u64 0] 64)
              have a44 := heap_new' V38 (.cells #[.int .i64 777, .int .i64 0, .int .u64 0, .int .u64 0, .int .u64 0] 64)
              obtain ⟨b44, hb44⟩ : ∃ b, b = V38.heap.size := ⟨_, rfl⟩
              obtain ⟨V44, hV44⟩ : ∃ V, V = V38.alloc (.cells #[.int .i64 777, .int .i64 0, .int .u64 0, .int .u64 0, .int .u64 0] 64) := ⟨_, rfl⟩
              rw [← hV44, ← hb44]
              rw [← hV44] at g44 a44
              have B44 := hid (B38.out.trans (g44.below.mono B38.out.size))
              have M44 : Hid (V44.heap[b44]? = some (.cells #[.int .i64 777, .int .i64 0, .int .u64 0, .int .u64 0, .int .u64 0] 64 (0, 0))) := by
                show _ = _
                rw [hb44]
                exact a44
              have O44 := hid (owns_below O38.out g44.below)
              have N44 : Hid (∀ k, ((.slice (some ⟨b38, 0, none⟩) 0 0) : Value).ownBlock = some k → k ≠ b44) := fun k hk e => by
                have h1 := (owns_rd O38.out k hk).2
                omega
              clear g44 a44 hV44 hb44
              refine hK.out _ _ (fun hD => B44.out) ?_
              clear hK K
              try simp only [Act.put, List.setIfInBounds_toArray, List.set_cons_zero, List.set_cons_succ]
              refine wpAnyD_one (i := 7) (o := { dst := some 44, op := Go.Op.call { callee := Go.Callee.builtin Go.Builtin.append, args := #[Go.Operand.tmp 37, Go.Operand.tmp 43], argTypes := #[37, 37] }, type := 37, pos := "law.go:76", after := #[{ on := 0, ground := Go.Ground.data }, { on := 6, ground := Go.Ground.data }], guard := none }) (by kernel_rfl) rfl (fun K hK => ?_)
              refine step_appZ EC Try.underlying37 infoC rfl (by decide) rfl _ _ rfl wc.heap.size (.slice (some ⟨b38, 0, none⟩) 0 0) 0 [] rfl O44.out B44.out.size w.heap.size (.slice dq dm dc) cnn rfl (LC2.out.below B44.out) (by have := HSZ.out; omega) (by have := HSZ.out; unfold maxLen; omega) ?_
              intro v45 w45 h45 k45
              have K45 := hid (Kp.grownBy (S := fun k => ((.slice (some ⟨b38, 0, none⟩) 0 0) : Value).ownBlock = some k) k45.out (fun _ h => h))
              have B45 := hid (B44.out.trans (K45.out.below B44.out.size (fun k hk => (owns_rd O44.out k hk).1)))
              have O45 : Hid (w45.ownsRow wc.heap.size 64 5 v45 cnn.length (fl EC cnn)) := owns_re h45.out (by simp) (by simp)
              have M45 := hid ((K45.out.block _ (tk_lt M44.out) (fun e => N44.out _ e rfl)).trans M44.out)
              clear h45 k45
              refine hK.out _ _ (fun hD => B45.out) ?_
              clear hK K
              try simp only [Act.put, List.setIfInBounds_toArray, List.set_cons_zero, List.set_cons_succ]
              refine wpAnyD_one (i := 10) (o := { dst := some 47, op := Go.Op.call { callee := Go.Callee.builtin Go.Builtin.append, args := #[Go.Operand.tmp 44, Go.Operand.tmp 46], argTypes := #[37, 37] }, type := 37, pos := "law.go:76", after := #[{ on := 7, ground := Go.Ground.data }, { on := 9, ground := Go.Ground.data }, { on := 7, ground := Go.Ground.chain }], guard := none }) (by kernel_rfl) rfl (fun K hK => ?_)
              refine step_appL EC Try.underlying37 infoC rfl (by decide) rfl _ _ rfl wc.heap.size v45 cnn.length (fl EC cnn) rfl O45.out B45.out.size (.slice (some ⟨b44, 0, none⟩) 1 1) [mC] rfl (one_ls M45.out rfl) (by have := HSZ.out; simp; omega) (by have := HSZ.out; unfold maxLen; simp; omega) ?_
              intro v46 w46 h46 k46
              have K46 := hid (Kp.grownBy (S := fun k => (v45 : Value).ownBlock = some k) k46.out (fun _ h => h))
              have B46 := hid (B45.out.trans (K46.out.below B45.out.size (fun k hk => (owns_rd O45.out k hk).1)))
              have O46 : Hid (w46.ownsRow wc.heap.size 64 5 v46 (cnn.length + 1) (fl EC (cnn ++ [mC]))) := owns_re h46.out (by simp) (by rw [fl_append])
              obtain ⟨g46, cap46, hv46, hc46, MK46⟩ := mk_of O46.out
              subst hv46
              have HM46 := hid MK46
              have GL46 := hid ((owns_rd O46.out g46 rfl).1)
              have q0 : (0 : Int) ≤ (dm : Int) := by omega
              have q1 : (dm : Int) ≤ (cap46 : Int) := by have := HDM.out; omega
              have q2 : cnn.length + 1 = dm + 1 := by have := HDM.out; omega
              rw [q2]
              clear h46 k46 MK46 hc46 q2
              refine hK.out _ _ (fun hD => B46.out) ?_
              clear hK K
              try simp only [Act.put, List.setIfInBounds_toArray, List.set_cons_zero, List.set_cons_succ]
              refine' wpAnyD_take (i := 14) (oi := { dst := some 51, op := Go.Op.slice 37 (Go.Operand.tmp 47) none (some (Go.Operand.tmp 50)) none, type := 37, pos := "law.go:76", after := #[{ on := 10, ground := Go.Ground.data }, { on := 13, ground := Go.Ground.data }], guard := none }) (v := _) rfl (by kernel_rfl) (by kernel_rfl) (by kernel_rfl) (fun _ _ _ h => h) (by kernel_rfl) (Or.inl ⟨by rfl, ?hy47⟩) B46.out ?rest47
              case hy47 => (intro W hSw; go_simp; try (with_reducible rfl))
              try simp only [Act.put, List.setIfInBounds_toArray, List.set_cons_zero, List.set_cons_succ]
              refine' wpAnyD_take (i := 15) (oi := { dst := some 52, op := Go.Op.fieldAddr 39 (Go.Operand.tmp 5) 6, type := 0, pos := "law.go:76", after := #[{ on := 0, ground := Go.Ground.phase }, { on := 1, ground := Go.Ground.phase }, { on := 2, ground := Go.Ground.phase }, { on := 3, ground := Go.Ground.phase }, { on := 4, ground := Go.Ground.phase }, { on := 5, ground := Go.Ground.phase }, { on := 6, ground := Go.Ground.phase }, { on := 7, ground := Go.Ground.phase }, { on := 8, ground := Go.Ground.phase }, { on := 9, ground := Go.Ground.phase }, { on := 10, ground := Go.Ground.phase }, { on := 11, ground := Go.Ground.phase }, { on := 12, ground := Go.Ground.phase }, { on := 13, ground := Go.Ground.phase }, { on := 14, ground := Go.Ground.phase }], guard := none }) (v := _) rfl (by kernel_rfl) (by kernel_rfl) (by kernel_rfl) (fun _ _ _ h => h) (by kernel_rfl) (Or.inl ⟨by rfl, ?hy48⟩) B46.out ?rest48
              case hy48 => (intro W hSw; go_simp; try (with_reducible rfl))
              try simp only [Act.put, List.setIfInBounds_toArray, List.set_cons_zero, List.set_cons_succ]
              refine wpAnyD_one (i := 16) (o := { dst := none, op := Go.Op.store 37 (Go.Operand.tmp 52) (Go.Operand.tmp 51), type := 0, pos := "law.go:76", after := #[{ on := 15, ground := Go.Ground.data }, { on := 14, ground := Go.Ground.data }, { on := 10, ground := Go.Ground.chain }, { on := 0, ground := Go.Ground.phase }, { on := 1, ground := Go.Ground.phase }, { on := 2, ground := Go.Ground.phase }, { on := 3, ground := Go.Ground.phase }, { on := 4, ground := Go.Ground.phase }, { on := 5, ground := Go.Ground.phase }, { on := 6, ground := Go.Ground.phase }, { on := 7, ground := Go.Ground.phase }, { on := 8, ground := Go.Ground.phase }, { on := 9, ground := Go.Ground.phase }, { on := 10, ground := Go.Ground.phase }, { on := 11, ground := Go.Ground.phase }, { on := 12, ground := Go.Ground.phase }, { on := 13, ground := Go.Ground.phase }, { on := 14, ground := Go.Ground.phase }], guard := none }) (by kernel_rfl) rfl (fun K hK => ?_)
              have p6 := (B46.out.block _ (tk_lt HC.out.2.1)).trans HC.out.2.1
              have en := (tk_store p6).1
              have en2 := (tk_store p6).2
              have en3 := tk_lt p6
              have s12 := tk_set p6 8 (.slice (some ⟨g46, 0, none⟩) dm cap46)
              have hz5 := tk_lt HC.out.2.1
              have FIN : Hid (Below nb wr (w46.setCell ⟨nb, 8, none⟩ (.slice (some ⟨g46, 0, none⟩) dm cap46)) ∧ (w46.setCell ⟨nb, 8, none⟩ (.slice (some ⟨g46, 0, none⟩) dm cap46)).heap[nb]? = some (.cells (ncells yk yi yo (.slice (some ⟨g1, 0, none⟩) cm k1) via bd (.slice (some ⟨g46, 0, none⟩) dm cap46) st) 39 (0, 0)) ∧ Mk EO 72 (w46.setCell ⟨nb, 8, none⟩ (.slice (some ⟨g46, 0, none⟩) dm cap46)) (.slice (some ⟨g1, 0, none⟩) cm k1) cd mO ∧ Mk EC 64 (w46.setCell ⟨nb, 8, none⟩ (.slice (some ⟨g46, 0, none⟩) dm cap46)) (.slice (some ⟨g46, 0, none⟩) dm cap46) cnn mC ∧ nb < g1 ∧ nb < g46) := by
                have h1 := B46.out.mono (show nb ≤ wc.heap.size by omega)
                have h2 := h1.trans (s12.2.below (Nat.le_trans (by omega) h1.size) (fun k e => by omega))
                have hg := GL46.out
                have h3 := HM46.out
                rw [← HDM.out] at h3
                have h4 := HC.out.2.2.2.2
                exact ⟨HC.out.1.trans h2, s12.1, (HC.out.2.2.2.1.below B46.out).kp s12.2 (fun k e e2 => by simp [Value.ownBlock] at e; omega), h3.kp s12.2 (fun k e e2 => by simp [Value.ownBlock] at e; omega), h4, by omega⟩
              clear p6 s12 hz5
              go_simp
              refine hK.out _ _ (fun hD => absurd (by decide) hD) ?_
              clear hK K
              try simp only [Act.put, List.setIfInBounds_toArray, List.set_cons_zero, List.set_cons_succ]
              refine wpAnyD_done (by kernel_rfl) ?_ _
              go_wp2_with fail
              go_meet
              exact ⟨g46, cap46, FIN.out⟩
          · go_simp
            have g49 := (Gr.refl Wd).alloc (.cells #[.int .i64 777, .int .i64 0, .int .u64 0, .int .u64 0, .int .u64 0] 64)
            have a49 := heap_new' Wd (.cells #[.int .i64 777, .int .i64 0, .int .u64 0, .int .u64 0, .int .u64 0] 64)
            obtain ⟨b49, hb49⟩ : ∃ b, b = Wd.heap.size := ⟨_, rfl⟩
            obtain ⟨V49, hV49⟩ : ∃ V, V = Wd.alloc (.cells #[.int .i64 777, .int .i64 0, .int .u64 0, .int .u64 0, .int .u64 0] 64) := ⟨_, rfl⟩
            rw [← hV49, ← hb49]
            rw [← hV49] at g49 a49
            have B49 := hid (BD.out.trans (g49.below.mono BD.out.size))
            have M49 : Hid (V49.heap[b49]? = some (.cells #[.int .i64 777, .int .i64 0, .int .u64 0, .int .u64 0, .int .u64 0] 64 (0, 0))) := by
              show _ = _
              rw [hb49]
              exact a49
            clear g49 a49 hV49 hb49
            refine hK.out _ _ (fun hD => B49.out) ?_
            clear hK K
            try simp only [Act.put, List.setIfInBounds_toArray, List.set_cons_zero, List.set_cons_succ]
            refine wpAnyD_one (i := 0) (o := { dst := some 37, op := Go.Op.buildSlice 37 0 #[], type := 37, pos := "law.go:76", after := #[], guard := none }) (by kernel_rfl) rfl (fun K hK => ?_)
            go_simp
            have g50 := (Gr.refl V49).alloc (.cells #[] 64)
            have a50 := heap_new' V49 (.cells #[] 64)
            obtain ⟨b50, hb50⟩ : ∃ b, b = V49.heap.size := ⟨_, rfl⟩
            obtain ⟨V50, hV50⟩ : ∃ V, V = V49.alloc (.cells #[] 64) := ⟨_, rfl⟩
            rw [← hV50, ← hb50]
            rw [← hV50] at g50 a50
            have B50 := hid (B49.out.trans (g50.below.mono B49.out.size))
            have O50 : Hid (V50.ownsRow wc.heap.size 64 5 (.slice (some ⟨b50, 0, none⟩) 0 0) 0 []) := by
              rw [hV50, hb50]
              exact World.ownsRow_made V49 #[] 0 B49.out.size (Nat.zero_le _) rfl
            have M50 := hid ((g50.below.block _ (tk_lt M49.out)).trans M49.out)
            have N50 : Hid (∀ k, (Value.slice (some ⟨b50, 0, none⟩) 0 0).ownBlock = some k → k ≠ b49) := fun k hk e => by
              have h1 := tk_lt M49.out
              simp [Value.ownBlock] at hk
              omega
            clear g50 a50 hV50 hb50
            refine hK.out _ _ (fun hD => B50.out) ?_
            clear hK K
            try simp only [Act.put, List.setIfInBounds_toArray, List.set_cons_zero, List.set_cons_succ]
            refine wpAnyD_one (i := 7) (o := { dst := some 44, op := Go.Op.call { callee := Go.Callee.builtin Go.Builtin.append, args := #[Go.Operand.tmp 37, Go.Operand.tmp 43], argTypes := #[37, 37] }, type := 37, pos := "law.go:76", after := #[{ on := 0, ground := Go.Ground.data }, { on := 6, ground := Go.Ground.data }], guard := none }) (by kernel_rfl) rfl (fun K hK => ?_)
            refine step_appZ EC Try.underlying37 infoC rfl (by decide) rfl _ _ rfl wc.heap.size (.slice (some ⟨b50, 0, none⟩) 0 0) 0 [] rfl O50.out B50.out.size w.heap.size (.slice dq dm dc) cnn rfl (LC2.out.below B50.out) (by have := HSZ.out; omega) (by have := HSZ.out; unfold maxLen; omega) ?_
            intro v51 w51 h51 k51
            have K51 := hid (Kp.grownBy (S := fun k => ((.slice (some ⟨b50, 0, none⟩) 0 0) : Value).ownBlock = some k) k51.out (fun _ h => h))
            have B51 := hid (B50.out.trans (K51.out.below B50.out.size (fun k hk => (owns_rd O50.out k hk).1)))
            have O51 : Hid (w51.ownsRow wc.heap.size 64 5 v51 cnn.length (fl EC cnn)) := owns_re h51.out (by simp) (by simp)
            have M51 := hid ((K51.out.block _ (tk_lt M50.out) (fun e => N50.out _ e rfl)).trans M50.out)
            clear h51 k51
            refine hK.out _ _ (fun hD => B51.out) ?_
            clear hK K
            try simp only [Act.put, List.setIfInBounds_toArray, List.set_cons_zero, List.set_cons_succ]
            refine wpAnyD_one (i := 10) (o := { dst := some 47, op := Go.Op.call { callee := Go.Callee.builtin Go.Builtin.append, args := #[Go.Operand.tmp 44, Go.Operand.tmp 46], argTypes := #[37, 37] }, type := 37, pos := "law.go:76", after := #[{ on := 7, ground := Go.Ground.data }, { on := 9, ground := Go.Ground.data }, { on := 7, ground := Go.Ground.chain }], guard := none }) (by kernel_rfl) rfl (fun K hK => ?_)
            refine step_appL EC Try.underlying37 infoC rfl (by decide) rfl _ _ rfl wc.heap.size v51 cnn.length (fl EC cnn) rfl O51.out B51.out.size (.slice (some ⟨b49, 0, none⟩) 1 1) [mC] rfl (one_ls M51.out rfl) (by have := HSZ.out; simp; omega) (by have := HSZ.out; unfold maxLen; simp; omega) ?_
            intro v52 w52 h52 k52
            have K52 := hid (Kp.grownBy (S := fun k => (v51 : Value).ownBlock = some k) k52.out (fun _ h => h))
            have B52 := hid (B51.out.trans (K52.out.below B51.out.size (fun k hk => (owns_rd O51.out k hk).1)))
            have O52 : Hid (w52.ownsRow wc.heap.size 64 5 v52 (cnn.length + 1) (fl EC (cnn ++ [mC]))) := owns_re h52.out (by simp) (by rw [fl_append])
            obtain ⟨g52, cap52, hv52, hc52, MK52⟩ := mk_of O52.out
            subst hv52
            have HM52 := hid MK52
            have GL52 := hid ((owns_rd O52.out g52 rfl).1)
            have q0 : (0 : Int) ≤ (dm : Int) := by omega
            have q1 : (dm : Int) ≤ (cap52 : Int) := by have := HDM.out; omega
            have q2 : cnn.length + 1 = dm + 1 := by have := HDM.out; omega
            rw [q2]
            clear h52 k52 MK52 hc52 q2
            refine hK.out _ _ (fun hD => B52.out) ?_
            clear hK K
            try simp only [Act.put, List.setIfInBounds_toArray, List.set_cons_zero, List.set_cons_succ]
            refine' wpAnyD_take (i := 14) (oi := { dst := some 51, op := Go.Op.slice 37 (Go.Operand.tmp 47) none (some (Go.Operand.tmp 50)) none, type := 37, pos := "law.go:76", after := #[{ on := 10, ground := Go.Ground.data }, { on := 13, ground := Go.Ground.data }], guard := none }) (v := _) rfl (by kernel_rfl) (by kernel_rfl) (by kernel_rfl) (fun _ _ _ h => h) (by kernel_rfl) (Or.inl ⟨by rfl, ?hy53⟩) B52.out ?rest53
            case hy53 => (intro W hSw; go_simp; try (with_reducible rfl))
            try simp only [Act.put, List.setIfInBounds_toArray, List.set_cons_zero, List.set_cons_succ]
            refine' wpAnyD_take (i := 15) (oi := { dst := some 52, op := Go.Op.fieldAddr 39 (Go.Operand.tmp 5) 6, type := 0, pos := "law.go:76", after := #[{ on := 0, ground := Go.Ground.phase }, { on := 1, ground := Go.Ground.phase }, { on := 2, ground := Go.Ground.phase }, { on := 3, ground := Go.Ground.phase }, { on := 4, ground := Go.Ground.phase }, { on := 5, ground := Go.Ground.phase }, { on := 6, ground := Go.Ground.phase }, { on := 7, ground := Go.Ground.phase }, { on := 8, ground := Go.Ground.phase }, { on := 9, ground := Go.Ground.phase }, { on := 10, ground := Go.Ground.phase }, { on := 11, ground := Go.Ground.phase }, { on := 12, ground := Go.Ground.phase }, { on := 13, ground := Go.Ground.phase }, { on := 14, ground := Go.Ground.phase }], guard := none }) (v := _) rfl (by kernel_rfl) (by kernel_rfl) (by kernel_rfl) (fun _ _ _ h => h) (by kernel_rfl) (Or.inl ⟨by rfl, ?hy54⟩) B52.out ?rest54
            case hy54 => (intro W hSw; go_simp; try (with_reducible rfl))
            try simp only [Act.put, List.setIfInBounds_toArray, List.set_cons_zero, List.set_cons_succ]
            refine wpAnyD_one (i := 16) (o := { dst := none, op := Go.Op.store 37 (Go.Operand.tmp 52) (Go.Operand.tmp 51), type := 0, pos := "law.go:76", after := #[{ on := 15, ground := Go.Ground.data }, { on := 14, ground := Go.Ground.data }, { on := 10, ground := Go.Ground.chain }, { on := 0, ground := Go.Ground.phase }, { on := 1, ground := Go.Ground.phase }, { on := 2, ground := Go.Ground.phase }, { on := 3, ground := Go.Ground.phase }, { on := 4, ground := Go.Ground.phase }, { on := 5, ground := Go.Ground.phase }, { on := 6, ground := Go.Ground.phase }, { on := 7, ground := Go.Ground.phase }, { on := 8, ground := Go.Ground.phase }, { on := 9, ground := Go.Ground.phase }, { on := 10, ground := Go.Ground.phase }, { on := 11, ground := Go.Ground.phase }, { on := 12, ground := Go.Ground.phase }, { on := 13, ground := Go.Ground.phase }, { on := 14, ground := Go.Ground.phase }], guard := none }) (by kernel_rfl) rfl (fun K hK => ?_)
            have p6 := (B52.out.block _ (tk_lt HC.out.2.1)).trans HC.out.2.1
            have en := (tk_store p6).1
            have en2 := (tk_store p6).2
            have en3 := tk_lt p6
            have s12 := tk_set p6 8 (.slice (some ⟨g52, 0, none⟩) dm cap52)
            have hz5 := tk_lt HC.out.2.1
            have FIN : Hid (Below nb wr (w52.setCell ⟨nb, 8, none⟩ (.slice (some ⟨g52, 0, none⟩) dm cap52)) ∧ (w52.setCell ⟨nb, 8, none⟩ (.slice (some ⟨g52, 0, none⟩) dm cap52)).heap[nb]? = some (.cells (ncells yk yi yo (.slice (some ⟨g1, 0, none⟩) cm k1) via bd (.slice (some ⟨g52, 0, none⟩) dm cap52) st) 39 (0, 0)) ∧ Mk EO 72 (w52.setCell ⟨nb, 8, none⟩ (.slice (some ⟨g52, 0, none⟩) dm cap52)) (.slice (some ⟨g1, 0, none⟩) cm k1) cd mO ∧ Mk EC 64 (w52.setCell ⟨nb, 8, none⟩ (.slice (some ⟨g52, 0, none⟩) dm cap52)) (.slice (some ⟨g52, 0, none⟩) dm cap52) cnn mC ∧ nb < g1 ∧ nb < g52) := by
              have h1 := B52.out.mono (show nb ≤ wc.heap.size by omega)
              have h2 := h1.trans (s12.2.below (Nat.le_trans (by omega) h1.size) (fun k e => by omega))
              have hg := GL52.out
              have h3 := HM52.out
              rw [← HDM.out] at h3
              have h4 := HC.out.2.2.2.2
              exact ⟨HC.out.1.trans h2, s12.1, (HC.out.2.2.2.1.below B52.out).kp s12.2 (fun k e e2 => by simp [Value.ownBlock] at e; omega), h3.kp s12.2 (fun k e e2 => by simp [Value.ownBlock] at e; omega), h4, by omega⟩
            clear p6 s12 hz5
            go_simp
            refine hK.out _ _ (fun hD => absurd (by decide) hD) ?_
            clear hK K
            try simp only [Act.put, List.setIfInBounds_toArray, List.set_cons_zero, List.set_cons_succ]
            refine wpAnyD_done (by kernel_rfl) ?_ _
            go_wp2_with fail
            go_meet
            exact ⟨g52, cap52, FIN.out⟩
        case rest =>
          obtain ⟨g2, k2, HD⟩ := hcut
          clear HC LC2
          have HBW : Hid (Below wr.heap.size wr wc) := by
            have h := HD.out.1
            rw [HNB.out] at h
            exact h
          have R8 := hid (HI.out.1.below HBW.out)
          obtain ⟨-, ⟨c2, f2⟩, -, -, l2⟩ := R8.out.facts
          have cm2 := (tk_store HD.out.2.1).1
          have lm2 := tk_lt HD.out.2.1
          have hyl : Hid (ys.length ≤ nl ∧ (ys.length + 1) * 112 ≤ 140737488355328 ∧ ys.length + 1 ≤ maxLen) := by
            have h1 := HI.out.2.1
            have h2 := HBG.out.1
            have h3 := HNL.out
            refine ⟨by omega, by omega, by unfold maxLen; omega⟩
          have hb3 : Hid (w.heap.size + 3 ≤ wc.heap.size) := by show _ ≤ _; omega
          go_wp2_with (at_builtin; refine wpApp1 EV Try.underlying22 infoV rfl (by decide) rfl _ _ rfl (w.heap.size + 3) _ ys.length _ rfl R8.out.row ⟨⟨yk, yi, yo, cd, via, bd, cnn, st⟩, some ⟨g1, 0, none⟩, cm, k1, some ⟨g2, 0, none⟩, dm, k2⟩ (by first | rfl | (go_simp; done)) hyl.out.2.1 hyl.out.2.2 hb3.out _ rfl _ ?_)
          intro g cap w9 h1 h2 h3
          have R9 := hid (HI.out.1.more (x := ⟨⟨yk, yi, yo, cd, via, bd, cnn, st⟩, some ⟨g1, 0, none⟩, cm, k1, some ⟨g2, 0, none⟩, dm, k2⟩) HBW.out ⟨HD.out.2.2.1, HD.out.2.2.2.1⟩ ⟨fun k e => by have h5 := HD.out.2.2.2.2.1; have h6 := HNB.out; simp [Value.ownBlock] at e; omega, fun k e => by have h5 := HD.out.2.2.2.2.2; have h6 := HNB.out; simp [Value.ownBlock] at e; omega⟩ h1 h2 h3)
          clear h1 h2 h3 c2 f2 l2 cm2 lm2 R8
          obtain ⟨-, ⟨c2, f2⟩, -, -, l2⟩ := R9.out.facts
          have hnl9 : nl ≤ 140737488351232 := by have h1 := HBG.out.1; have h2 := HNL.out; omega
          go_wp2_with fail
          go_roundw
          case rel =>
            refine ⟨j + 1, .slice (some ⟨g, 0, none⟩) (ys.length + 1) cap, _, by omega, by go_num, R9.out.set 1 _, by rw [List.length_append, List.length_singleton, HI.out.2.1], ?_⟩
            rw [List.take_add_one, HY.out, List.map_append, List.map_append, HI.out.2.2]
            rfl
          case measure => simp [RowKit.intOf]; omega
    · have hltz : ¬ (j : Int) < (nl : Int) := by omega
      have hyx : Hid (ys.length = nl ∧ ys.map NV.n = xs.map NV.n ∧ ys.length = xs.length) := by
        have h1 := HI.out.2.1
        have h2 := HI.out.2.2
        have h3 := HNL.out
        have hjl : j = xs.length := by omega
        rw [hjl, List.take_length] at h2
        exact ⟨by omega, h2, by omega⟩
      have R10 := hid HI.out.1
      go_upto_region 9 with fail
      clear c0 l0
      refine wp_regionD (S := fun W => W.heap[w.heap.size + 2]? = some (.cells (gvc a (.slice qu mu cu) (.slice none 0 0)) 25 (0, 0)) ∧ W.heap[w.heap.size]? = some (.cells (gvc a (.slice pn nl cn) (.slice pe el ce)) 25 (0, 0))) (D := [10]) hmx ?_
      have BD : Hid (Below wr.heap.size wr wr.drew) := (Gr.refl _).drew.below
      generalize wr.drew = Wd at BD ⊢
      have S0 : Hid (Wd.heap[w.heap.size + 2]? = some (.cells (gvc a (.slice qu mu cu) (.slice none 0 0)) 25 (0, 0)) ∧ Wd.heap[w.heap.size]? = some (.cells (gvc a (.slice pn nl cn) (.slice pe el ce)) 25 (0, 0))) := ⟨(BD.out.block _ (tk_lt R10.out.h3)).trans R10.out.h3, (BD.out.block _ (tk_lt R10.out.h1)).trans R10.out.h1⟩
      refine' wpAnyD_take (i := 0) (oi := { dst := some 59, op := Go.Op.fieldAddr 25 (Go.Operand.tmp 3) 1, type := 0, pos := "law.go:79", after := #[], guard := none }) (v := _) rfl (by kernel_rfl) (by kernel_rfl) (by kernel_rfl) (fun _ _ _ h => h) (by kernel_rfl) (Or.inl ⟨by rfl, ?hy55⟩) S0.out ?rest55
      case hy55 => (intro W hSw; go_simp; try (with_reducible rfl))
      try simp only [Act.put, List.setIfInBounds_toArray, List.set_cons_zero, List.set_cons_succ]
      refine' wpAnyD_take (i := 1) (oi := { dst := some 60, op := Go.Op.load 22 (Go.Operand.tmp 59), type := 22, pos := "law.go:79", after := #[{ on := 0, ground := Go.Ground.data }], guard := none }) (v := _) rfl (by kernel_rfl) (by kernel_rfl) (by kernel_rfl) (fun _ _ _ h => h) (by kernel_rfl) (Or.inl ⟨by rfl, ?hy56⟩) S0.out ?rest56
      case hy56 => (intro W hSw; have hc := (tk_store hSw.1).1 1; have hl := tk_lt hSw.1; go_simp; try (with_reducible rfl))
      try simp only [Act.put, List.setIfInBounds_toArray, List.set_cons_zero, List.set_cons_succ]
      refine' wpAnyD_take (i := 2) (oi := { dst := some 61, op := Go.Op.build 39 #[(0, Go.Operand.const (Go.Value.int Go.IntKind.i64 777))], type := 39, pos := "law.go:79", after := #[], guard := none }) (v := _) rfl (by kernel_rfl) (by kernel_rfl) (by kernel_rfl) (fun _ _ _ h => h) (by kernel_rfl) (Or.inl ⟨by rfl, ?hy57⟩) S0.out ?rest57
      case hy57 => (intro W hSw; go_simp; try (with_reducible rfl))
      try simp only [Act.put, List.setIfInBounds_toArray, List.set_cons_zero, List.set_cons_succ]
      refine' wpAnyD_take (i := 5) (oi := { dst := some 64, op := Go.Op.fieldAddr 25 (Go.Operand.tmp 1) 1, type := 0, pos := "law.go:79", after := #[], guard := none }) (v := _) rfl (by kernel_rfl) (by kernel_rfl) (by kernel_rfl) (fun _ _ _ h => h) (by kernel_rfl) (Or.inl ⟨by rfl, ?hy58⟩) S0.out ?rest58
      case hy58 => (intro W hSw; go_simp; try (with_reducible rfl))
      try simp only [Act.put, List.setIfInBounds_toArray, List.set_cons_zero, List.set_cons_succ]
      refine' wpAnyD_take (i := 6) (oi := { dst := some 65, op := Go.Op.load 22 (Go.Operand.tmp 64), type := 22, pos := "law.go:79", after := #[{ on := 5, ground := Go.Ground.data }], guard := none }) (v := _) rfl (by kernel_rfl) (by kernel_rfl) (by kernel_rfl) (fun _ _ _ h => h) (by kernel_rfl) (Or.inl ⟨by rfl, ?hy59⟩) S0.out ?rest59
      case hy59 => (intro W hSw; have hc := (tk_store hSw.2).1 1; have hl := tk_lt hSw.2; go_simp; try (with_reducible rfl))
      try simp only [Act.put, List.setIfInBounds_toArray, List.set_cons_zero, List.set_cons_succ]
      refine' wpAnyD_take (i := 7) (oi := { dst := some 66, op := Go.Op.call { callee := Go.Callee.builtin Go.Builtin.len, args := #[Go.Operand.tmp 65], argTypes := #[22] }, type := 3, pos := "law.go:79", after := #[{ on := 6, ground := Go.Ground.data }], guard := none }) (v := _) rfl (by kernel_rfl) (by kernel_rfl) (by kernel_rfl) (fun _ _ _ h => h) (by kernel_rfl) (Or.inl ⟨by rfl, ?hy60⟩) S0.out ?rest60
      case hy60 => (intro W hSw; go_simp; try (with_reducible rfl))
      try simp only [Act.put, List.setIfInBounds_toArray, List.set_cons_zero, List.set_cons_succ]
      refine wpAnyD_one (i := 3) (o := { dst := some 62, op := Go.Op.buildSlice 22 1 #[(0, Go.Operand.tmp 61)], type := 22, pos := "law.go:79", after := #[{ on := 2, ground := Go.Ground.data }], guard := none }) (by kernel_rfl) rfl (fun K hK => ?_)
      go_simp
      have g900 := (Gr.refl Wd).alloc (.cells #[.int .i64 777, .int .i64 0, .int .i64 0, .slice none 0 0, .int .u64 0, .int .u64 0, .int .u64 0, .int .u64 0, .slice none 0 0, .bool false] 39)
      have a900 := heap_new' Wd (.cells #[.int .i64 777, .int .i64 0, .int .i64 0, .slice none 0 0, .int .u64 0, .int .u64 0, .int .u64 0, .int .u64 0, .slice none 0 0, .bool false] 39)
      obtain ⟨b900, hb900⟩ : ∃ b, b = Wd.heap.size := ⟨_, rfl⟩
      obtain ⟨V900, hV900⟩ : ∃ V, V = Wd.alloc (.cells #[.int .i64 777, .int .i64 0, .int .i64 0, .slice none 0 0, .int .u64 0, .int .u64 0, .int .u64 0, .int .u64 0, .slice none 0 0, .bool false] 39) := ⟨_, rfl⟩
      rw [← hV900, ← hb900]
      rw [← hV900] at g900 a900
      have B900 := hid (BD.out.trans (g900.below.mono BD.out.size))
      have M900 : Hid (V900.heap[b900]? = some (.cells #[.int .i64 777, .int .i64 0, .int .i64 0, .slice none 0 0, .int .u64 0, .int .u64 0, .int .u64 0, .int .u64 0, .slice none 0 0, .bool false] 39 (0, 0))) := by
        show _ = _
        rw [hb900]
        exact a900
      have S900 := hid (And.intro ((g900.below.block _ (tk_lt S0.out.1)).trans S0.out.1) ((g900.below.block _ (tk_lt S0.out.2)).trans S0.out.2))
      clear g900 a900 hV900 hb900
      refine hK.out _ _ (fun hD => S900.out) ?_
      clear hK K
      try simp only [Act.put, List.setIfInBounds_toArray, List.set_cons_zero, List.set_cons_succ]
      refine wpAnyD_one (i := 4) (o := { dst := some 63, op := Go.Op.call { callee := Go.Callee.builtin Go.Builtin.append, args := #[Go.Operand.tmp 60, Go.Operand.tmp 62], argTypes := #[22, 22] }, type := 22, pos := "law.go:79", after := #[{ on := 1, ground := Go.Ground.data }, { on := 3, ground := Go.Ground.data }], guard := none }) (by kernel_rfl) rfl (fun K hK => ?_)
      have hb4 : Hid (w.heap.size + 3 ≤ V900.heap.size ∧ (ys.length + 1) * 112 ≤ 140737488355328 ∧ ys.length + 1 ≤ maxLen) := by
        have h1 := tk_lt R10.out.h3
        have h2 := B900.out.size
        have h4 := HBG.out.1
        have h5 := hyx.out.2.2
        refine ⟨by omega, by omega, by unfold maxLen; omega⟩
      refine step_appL EV Try.underlying22 infoV rfl (by decide) rfl _ _ rfl (w.heap.size + 3) (.slice qu mu cu) ys.length (fl EV ys) rfl (owns_below R10.out.row B900.out) hb4.out.1 (.slice (some ⟨b900, 0, none⟩) 1 1) [mV] rfl (one_ls M900.out rfl) (by have := hb4.out.2.1; simp; omega) (by have := hb4.out.2.2; simp; omega) ?_
      intro v11 w11 h11 k11
      obtain ⟨g, cap, hv, hc, RZ⟩ := R10.out.mark B900.out (owns_re h11.out (by simp) (by rw [fl_append])) k11.out
      subst hv
      rw [hyx.out.1] at RZ
      have RH := hid RZ
      have q0 : (0 : Int) ≤ (nl : Int) := by omega
      have q1 : (nl : Int) ≤ (cap : Int) := by have := hyx.out.1; omega
      have q2 : ys.length + 1 = nl + 1 := by have := hyx.out.1; omega
      rw [q2]
      clear h11 k11 RZ hc q2 hb4 M900
      refine hK.out _ _ (fun hD => ⟨RH.out.h3, RH.out.h1⟩) ?_
      clear hK K
      try simp only [Act.put, List.setIfInBounds_toArray, List.set_cons_zero, List.set_cons_succ]
      have S11 := hid (And.intro RH.out.h3 RH.out.h1)
      refine' wpAnyD_take (i := 8) (oi := { dst := some 67, op := Go.Op.slice 22 (Go.Operand.tmp 63) none (some (Go.Operand.tmp 66)) none, type := 22, pos := "law.go:79", after := #[{ on := 4, ground := Go.Ground.data }, { on := 7, ground := Go.Ground.data }], guard := none }) (v := _) rfl (by kernel_rfl) (by kernel_rfl) (by kernel_rfl) (fun _ _ _ h => h) (by kernel_rfl) (Or.inl ⟨by rfl, ?hy61⟩) S11.out ?rest61
      case hy61 => (intro W hSw; go_simp; try (with_reducible rfl))
      try simp only [Act.put, List.setIfInBounds_toArray, List.set_cons_zero, List.set_cons_succ]
      refine' wpAnyD_take (i := 9) (oi := { dst := some 68, op := Go.Op.fieldAddr 25 (Go.Operand.tmp 3) 1, type := 0, pos := "law.go:79", after := #[{ on := 0, ground := Go.Ground.phase }, { on := 1, ground := Go.Ground.phase }, { on := 2, ground := Go.Ground.phase }, { on := 3, ground := Go.Ground.phase }, { on := 4, ground := Go.Ground.phase }, { on := 5, ground := Go.Ground.phase }, { on := 6, ground := Go.Ground.phase }, { on := 7, ground := Go.Ground.phase }, { on := 8, ground := Go.Ground.phase }], guard := none }) (v := _) rfl (by kernel_rfl) (by kernel_rfl) (by kernel_rfl) (fun _ _ _ h => h) (by kernel_rfl) (Or.inl ⟨by rfl, ?hy62⟩) S11.out ?rest62
      case hy62 => (intro W hSw; go_simp; try (with_reducible rfl))
      try simp only [Act.put, List.setIfInBounds_toArray, List.set_cons_zero, List.set_cons_succ]
      refine wpAnyD_one (i := 10) (o := { dst := none, op := Go.Op.store 22 (Go.Operand.tmp 68) (Go.Operand.tmp 67), type := 0, pos := "law.go:79", after := #[{ on := 9, ground := Go.Ground.data }, { on := 8, ground := Go.Ground.data }, { on := 4, ground := Go.Ground.chain }, { on := 0, ground := Go.Ground.phase }, { on := 1, ground := Go.Ground.phase }, { on := 2, ground := Go.Ground.phase }, { on := 3, ground := Go.Ground.phase }, { on := 4, ground := Go.Ground.phase }, { on := 5, ground := Go.Ground.phase }, { on := 6, ground := Go.Ground.phase }, { on := 7, ground := Go.Ground.phase }, { on := 8, ground := Go.Ground.phase }], guard := none }) (by kernel_rfl) rfl (fun K hK => ?_)
      have en := (tk_store RH.out.h3).1
      have en2 := (tk_store RH.out.h3).2
      have en3 := tk_lt RH.out.h3
      go_simp
      refine hK.out _ _ (fun hD => absurd (by decide) hD) ?_
      clear hK K en en2 en3
      try simp only [Act.put, List.setIfInBounds_toArray, List.set_cons_zero, List.set_cons_succ]
      refine wpAnyD_done (by kernel_rfl) ?_ _
      have RQ : Hid (Rz w (w11.setCell ⟨w.heap.size + 2, 1, none⟩ (.slice (some ⟨g, 0, none⟩) nl cap)) (gvc a (.slice pn nl cn) (.slice pe el ce)) (gvc a (.slice (some ⟨g, 0, none⟩) nl cap) (.slice none 0 0)) (.slice (some ⟨g, 0, none⟩) nl cap) ys) := RH.out.set 1 _
      clear RH S11 S900 S0 BD B900 R10 HI
      go_upto_region 10 with fail
      generalize w11.setCell ⟨w.heap.size + 2, 1, none⟩ (.slice (some ⟨g, 0, none⟩) nl cap) = W12 at RQ ⊢
      have LC : Hid (Lz ED w.heap.size W12 (.slice pe el ce) es) := HG.out.edges.below RQ.out.bl
      have HSZ : Hid (es.length * 40 ≤ 140737488351232) := HBG.out.2.1
      refine wp_regionD (S := fun W => Below W12.heap.size W12 W) (D := [12]) hmx ?_
      have BD : Hid (Below W12.heap.size W12 W12.drew) := (Gr.refl _).drew.below
      generalize W12.drew = Wd at BD ⊢
      refine' wpAnyD_take (i := 1) (oi := { dst := some 70, op := Go.Op.fieldAddr 25 (Go.Operand.tmp 1) 2, type := 0, pos := "law.go:80", after := #[], guard := none }) (v := _) rfl (by kernel_rfl) (by kernel_rfl) (by kernel_rfl) (fun _ _ _ h => h) (by kernel_rfl) (Or.inl ⟨by rfl, ?hy63⟩) BD.out ?rest63
      case hy63 => (intro W hSw; go_simp; try (with_reducible rfl))
      try simp only [Act.put, List.setIfInBounds_toArray, List.set_cons_zero, List.set_cons_succ]
      refine' wpAnyD_take (i := 2) (oi := { dst := some 71, op := Go.Op.load 23 (Go.Operand.tmp 70), type := 23, pos := "law.go:80", after := #[{ on := 1, ground := Go.Ground.data }], guard := none }) (v := _) rfl (by kernel_rfl) (by kernel_rfl) (by kernel_rfl) (fun _ _ _ h => h) (by kernel_rfl) (Or.inl ⟨by rfl, ?hy64⟩) BD.out ?rest64
      case hy64 => (intro W hSw; have hb := (hSw.block _ (tk_lt RQ.out.h1)).trans RQ.out.h1; have hc := (tk_store hb).1 2; have hl := tk_lt hb; go_simp; try (with_reducible rfl))
      try simp only [Act.put, List.setIfInBounds_toArray, List.set_cons_zero, List.set_cons_succ]
      refine' wpAnyD_take (i := 4) (oi := { dst := some 73, op := Go.Op.build 47 #[(0, Go.Operand.const (Go.Value.int Go.IntKind.i64 777))], type := 47, pos := "law.go:80", after := #[], guard := none }) (v := _) rfl (by kernel_rfl) (by kernel_rfl) (by kernel_rfl) (fun _ _ _ h => h) (by kernel_rfl) (Or.inl ⟨by rfl, ?hy65⟩) BD.out ?rest65
      case hy65 => (intro W hSw; go_simp; try (with_reducible rfl))
      try simp only [Act.put, List.setIfInBounds_toArray, List.set_cons_zero, List.set_cons_succ]
      refine' wpAnyD_take (i := 7) (oi := { dst := some 76, op := Go.Op.fieldAddr 25 (Go.Operand.tmp 1) 2, type := 0, pos := "law.go:80", after := #[], guard := none }) (v := _) rfl (by kernel_rfl) (by kernel_rfl) (by kernel_rfl) (fun _ _ _ h => h) (by kernel_rfl) (Or.inl ⟨by rfl, ?hy66⟩) BD.out ?rest66
      case hy66 => (intro W hSw; go_simp; try (with_reducible rfl))
      try simp only [Act.put, List.setIfInBounds_toArray, List.set_cons_zero, List.set_cons_succ]
      refine' wpAnyD_take (i := 8) (oi := { dst := some 77, op := Go.Op.load 23 (Go.Operand.tmp 76), type := 23, pos := "law.go:80", after := #[{ on := 7, ground := Go.Ground.data }], guard := none }) (v := _) rfl (by kernel_rfl) (by kernel_rfl) (by kernel_rfl) (fun _ _ _ h => h) (by kernel_rfl) (Or.inl ⟨by rfl, ?hy67⟩) BD.out ?rest67
      case hy67 => (intro W hSw; have hb := (hSw.block _ (tk_lt RQ.out.h1)).trans RQ.out.h1; have hc := (tk_store hb).1 2; have hl := tk_lt hb; go_simp; try (with_reducible rfl))
      try simp only [Act.put, List.setIfInBounds_toArray, List.set_cons_zero, List.set_cons_succ]
      refine' wpAnyD_take (i := 9) (oi := { dst := some 78, op := Go.Op.call { callee := Go.Callee.builtin Go.Builtin.len, args := #[Go.Operand.tmp 77], argTypes := #[23] }, type := 3, pos := "law.go:80", after := #[{ on := 8, ground := Go.Ground.data }], guard := none }) (v := _) rfl (by kernel_rfl) (by kernel_rfl) (by kernel_rfl) (fun _ _ _ h => h) (by kernel_rfl) (Or.inl ⟨by rfl, ?hy68⟩) BD.out ?rest68
      case hy68 => (intro W hSw; go_simp; try (with_reducible rfl))
      try simp only [Act.put, List.setIfInBounds_toArray, List.set_cons_zero, List.set_cons_succ]
      refine wpAnyD_two (i := 0) (j := 5) (oi := { dst := some 69, op := Go.Op.buildSlice 23 0 #[], type := 23, pos := "law.go:80", after := #[], guard := none }) (oj := { dst := some 74, op := Go.Op.buildSlice 23 1 #[(0, Go.Operand.tmp 73)], type := 23, pos := "law.go:80", after := #[{ on := 4, ground := Go.Ground.data }], guard := none }) (by kernel_rfl) rfl rfl (fun K hK => ?_) (fun K hK => ?_)
      · go_simp
        have g69 := (Gr.refl Wd).alloc (.cells #[] 47)
        have a69 := heap_new' Wd (.cells #[] 47)
        obtain ⟨b69, hb69⟩ : ∃ b, b = Wd.heap.size := ⟨_, rfl⟩
        obtain ⟨V69, hV69⟩ : ∃ V, V = Wd.alloc (.cells #[] 47) := ⟨_, rfl⟩
        rw [← hV69, ← hb69]
        rw [← hV69] at g69 a69
        have B69 := hid (BD.out.trans (g69.below.mono BD.out.size))
        have O69 : Hid (V69.ownsRow W12.heap.size 47 5 (.slice (some ⟨b69, 0, none⟩) 0 0) 0 []) := by
          rw [hV69, hb69]
          exact World.ownsRow_made Wd #[] 0 BD.out.size (Nat.zero_le _) rfl
        clear g69 a69 hV69 hb69
        refine hK.out _ _ (fun hD => B69.out) ?_
        clear hK K
        try simp only [Act.put, List.setIfInBounds_toArray, List.set_cons_zero, List.set_cons_succ]
        refine wpAnyD_two (i := 3) (j := 5) (oi := { dst := some 72, op := Go.Op.call { callee := Go.Callee.builtin Go.Builtin.append, args := #[Go.Operand.tmp 69, Go.Operand.tmp 71], argTypes := #[23, 23] }, type := 23, pos := "law.go:80", after := #[{ on := 0, ground := Go.Ground.data }, { on := 2, ground := Go.Ground.data }], guard := none }) (oj := { dst := some 74, op := Go.Op.buildSlice 23 1 #[(0, Go.Operand.tmp 73)], type := 23, pos := "law.go:80", after := #[{ on := 4, ground := Go.Ground.data }], guard := none }) (by kernel_rfl) rfl rfl (fun K hK => ?_) (fun K hK => ?_)
        · refine step_appZ ED Try.underlying23 infoD rfl (by decide) rfl _ _ rfl W12.heap.size (.slice (some ⟨b69, 0, none⟩) 0 0) 0 [] rfl O69.out B69.out.size w.heap.size (.slice pe el ce) es rfl (LC.out.below B69.out) (by have := HSZ.out; omega) (by have := HSZ.out; unfold maxLen; omega) ?_
          intro v70 w70 h70 k70
          have K70 := hid (Kp.grownBy (S := fun k => ((.slice (some ⟨b69, 0, none⟩) 0 0) : Value).ownBlock = some k) k70.out (fun _ h => h))
          have B70 := hid (B69.out.trans (K70.out.below B69.out.size (fun k hk => (owns_rd O69.out k hk).1)))
          have O70 : Hid (w70.ownsRow W12.heap.size 47 5 v70 es.length (fl ED es)) := owns_re h70.out (by simp) (by simp)
          clear h70 k70
          refine hK.out _ _ (fun hD => B70.out) ?_
          clear hK K
          try simp only [Act.put, List.setIfInBounds_toArray, List.set_cons_zero, List.set_cons_succ]
          refine wpAnyD_one (i := 5) (o := { dst := some 74, op := Go.Op.buildSlice 23 1 #[(0, Go.Operand.tmp 73)], type := 23, pos := "law.go:80", after := #[{ on := 4, ground := Go.Ground.data }], guard := none }) (by kernel_rfl) rfl (fun K hK => ?_)
          go_simp
          have g71 := (Gr.refl w70).alloc (.cells #[.int .i64 777, .int .i64 0, .int .i64 0, .int .i64 0, .bool false] 47)
          have a71 := heap_new' w70 (.cells #[.int .i64 777, .int .i64 0, .int .i64 0, .int .i64 0, .bool false] 47)
          obtain ⟨b71, hb71⟩ : ∃ b, b = w70.heap.size := ⟨_, rfl⟩
          obtain ⟨V71, hV71⟩ : ∃ V, V = w70.alloc (.cells #[.int .i64 777, .int .i64 0, .int .i64 0, .int .i64 0, .bool false] 47) := ⟨_, rfl⟩
          rw [← hV71, ← hb71]
          rw [← hV71] at g71 a71
          have B71 := hid (B70.out.trans (g71.below.mono B70.out.size))
          have M71 : Hid (V71.heap[b71]? = some (.cells #[.int .i64 777, .int .i64 0, .int .i64 0, .int .i64 0, .bool false] 47 (0, 0))) := by
            show _ = _
            rw [hb71]
            exact a71
          have O71 := hid (owns_below O70.out g71.below)
          have N71 : Hid (∀ k, (v70 : Value).ownBlock = some k → k ≠ b71) := fun k hk e => by
            have h1 := (owns_rd O70.out k hk).2
            omega
          clear g71 a71 hV71 hb71
          refine hK.out _ _ (fun hD => B71.out) ?_
          clear hK K
          try simp only [Act.put, List.setIfInBounds_toArray, List.set_cons_zero, List.set_cons_succ]
          refine wpAnyD_one (i := 6) (o := { dst := some 75, op := Go.Op.call { callee := Go.Callee.builtin Go.Builtin.append, args := #[Go.Operand.tmp 72, Go.Operand.tmp 74], argTypes := #[23, 23] }, type := 23, pos := "law.go:80", after := #[{ on := 3, ground := Go.Ground.data }, { on := 5, ground := Go.Ground.data }, { on := 3, ground := Go.Ground.chain }], guard := none }) (by kernel_rfl) rfl (fun K hK => ?_)
          refine step_appL ED Try.underlying23 infoD rfl (by decide) rfl _ _ rfl W12.heap.size v70 es.length (fl ED es) rfl O71.out B71.out.size (.slice (some ⟨b71, 0, none⟩) 1 1) [mD] rfl (one_ls M71.out rfl) (by have := HSZ.out; simp; omega) (by have := HSZ.out; unfold maxLen; simp; omega) ?_
          intro v72 w72 h72 k72
          have K72 := hid (Kp.grownBy (S := fun k => (v70 : Value).ownBlock = some k) k72.out (fun _ h => h))
          have B72 := hid (B71.out.trans (K72.out.below B71.out.size (fun k hk => (owns_rd O71.out k hk).1)))
          have O72 : Hid (w72.ownsRow W12.heap.size 47 5 v72 (es.length + 1) (fl ED (es ++ [mD]))) := owns_re h72.out (by simp) (by rw [fl_append])
          obtain ⟨g72, cap72, hv72, hc72, MK72⟩ := mk_of O72.out
          subst hv72
          have HM72 := hid MK72
          have GL72 := hid ((owns_rd O72.out g72 rfl).1)
          have q0 : (0 : Int) ≤ (el : Int) := by omega
          have q1 : (el : Int) ≤ (cap72 : Int) := by have := HEL.out; omega
          have q2 : es.length + 1 = el + 1 := by have := HEL.out; omega
          rw [q2]
          clear h72 k72 MK72 hc72 q2
          refine hK.out _ _ (fun hD => B72.out) ?_
          clear hK K
          try simp only [Act.put, List.setIfInBounds_toArray, List.set_cons_zero, List.set_cons_succ]
          refine' wpAnyD_take (i := 10) (oi := { dst := some 79, op := Go.Op.slice 23 (Go.Operand.tmp 75) none (some (Go.Operand.tmp 78)) none, type := 23, pos := "law.go:80", after := #[{ on := 6, ground := Go.Ground.data }, { on := 9, ground := Go.Ground.data }], guard := none }) (v := _) rfl (by kernel_rfl) (by kernel_rfl) (by kernel_rfl) (fun _ _ _ h => h) (by kernel_rfl) (Or.inl ⟨by rfl, ?hy73⟩) B72.out ?rest73
          case hy73 => (intro W hSw; go_simp; try (with_reducible rfl))
          try simp only [Act.put, List.setIfInBounds_toArray, List.set_cons_zero, List.set_cons_succ]
          refine' wpAnyD_take (i := 11) (oi := { dst := some 80, op := Go.Op.fieldAddr 25 (Go.Operand.tmp 3) 2, type := 0, pos := "law.go:80", after := #[{ on := 0, ground := Go.Ground.phase }, { on := 1, ground := Go.Ground.phase }, { on := 2, ground := Go.Ground.phase }, { on := 3, ground := Go.Ground.phase }, { on := 4, ground := Go.Ground.phase }, { on := 5, ground := Go.Ground.phase }, { on := 6, ground := Go.Ground.phase }, { on := 7, ground := Go.Ground.phase }, { on := 8, ground := Go.Ground.phase }, { on := 9, ground := Go.Ground.phase }, { on := 10, ground := Go.Ground.phase }], guard := none }) (v := _) rfl (by kernel_rfl) (by kernel_rfl) (by kernel_rfl) (fun _ _ _ h => h) (by kernel_rfl) (Or.inl ⟨by rfl, ?hy74⟩) B72.out ?rest74
          case hy74 => (intro W hSw; go_simp; try (with_reducible rfl))
          try simp only [Act.put, List.setIfInBounds_toArray, List.set_cons_zero, List.set_cons_succ]
          refine wpAnyD_one (i := 12) (o := { dst := none, op := Go.Op.store 23 (Go.Operand.tmp 80) (Go.Operand.tmp 79), type := 0, pos := "law.go:80", after := #[{ on := 11, ground := Go.Ground.data }, { on := 10, ground := Go.Ground.data }, { on := 6, ground := Go.Ground.chain }, { on := 0, ground := Go.Ground.phase }, { on := 1, ground := Go.Ground.phase }, { on := 2, ground := Go.Ground.phase }, { on := 3, ground := Go.Ground.phase }, { on := 4, ground := Go.Ground.phase }, { on := 5, ground := Go.Ground.phase }, { on := 6, ground := Go.Ground.phase }, { on := 7, ground := Go.Ground.phase }, { on := 8, ground := Go.Ground.phase }, { on := 9, ground := Go.Ground.phase }, { on := 10, ground := Go.Ground.phase }], guard := none }) (by kernel_rfl) rfl (fun K hK => ?_)
          have RA := hid (RQ.out.below B72.out)
          have en := (tk_store RA.out.h3).1
          have en2 := (tk_store RA.out.h3).2
          have en3 := tk_lt RA.out.h3
          have RB : Hid (Rz w (w72.setCell ⟨w.heap.size + 2, 2, none⟩ (.slice (some ⟨g72, 0, none⟩) el cap72)) (gvc a (.slice pn nl cn) (.slice pe el ce)) (gvc a (.slice (some ⟨g, 0, none⟩) nl cap) (.slice (some ⟨g72, 0, none⟩) el cap72)) (.slice (some ⟨g, 0, none⟩) nl cap) ys ∧ Mk ED 47 (w72.setCell ⟨w.heap.size + 2, 2, none⟩ (.slice (some ⟨g72, 0, none⟩) el cap72)) (.slice (some ⟨g72, 0, none⟩) el cap72) es mD ∧ w.heap.size + 3 ≤ g72) := by
            have s13 := tk_set RA.out.h3 2 (.slice (some ⟨g72, 0, none⟩) el cap72)
            have hg := GL72.out
            have hl := tk_lt RQ.out.h3
            have h3 := HM72.out
            rw [← HEL.out] at h3
            exact ⟨RA.out.set 2 _, h3.kp s13.2 (fun k e e2 => by simp [Value.ownBlock] at e; omega), by omega⟩
          go_simp
          refine hK.out _ _ (fun hD => absurd (by decide) hD) ?_
          clear hK K en en2 en3
          try simp only [Act.put, List.setIfInBounds_toArray, List.set_cons_zero, List.set_cons_succ]
          refine wpAnyD_done (by kernel_rfl) ?_ _
          generalize (w72.setCell ⟨w.heap.size + 2, 2, none⟩ (.slice (some ⟨g72, 0, none⟩) el cap72)) = W14 at RB ⊢
          have e1 := (tk_store RB.out.1.h3).1
          have e2 := tk_lt RB.out.1.h3
          have e3 := (tk_store RB.out.1.h2).1
          have e4 := (tk_store RB.out.1.h2).2
          have e5 := tk_lt RB.out.1.h2
          go_wp2_with fail
          obtain ⟨wf, hwf⟩ : ∃ wf, wf = ((W14.setCell ⟨w.heap.size + 1, 0, none⟩ (.int .i64 a)).setCell ⟨w.heap.size + 1, 1, none⟩ (.slice (some ⟨g, 0, none⟩) nl cap)).setCell ⟨w.heap.size + 1, 2, none⟩ (.slice (some ⟨g72, 0, none⟩) el cap72) := ⟨_, rfl⟩
          rw [← hwf]
          obtain ⟨hbf, hkf⟩ : wf.heap[w.heap.size + 1]? = some (.cells #[.int .i64 a, .slice (some ⟨g, 0, none⟩) nl cap, (.slice (some ⟨g72, 0, none⟩) el cap72)] 25 (0, 0)) ∧ Kp (fun k => k = w.heap.size + 1) W14 wf := by
            rw [hwf]
            exact fill3 RB.out.1.h2 _ _ _
          clear hwf e1 e2 e3 e4 e5
          obtain ⟨qf, -⟩ := tk_store hbf
          have hlf := tk_lt hbf
          refine bodyPost_ret (v := .agg #[.int .i64 a, .slice (some ⟨g, 0, none⟩) nl cap, (.slice (some ⟨g72, 0, none⟩) el cap72)]) (by simp [results, Try.results6, go_sem, qf]) rfl ?_
          have hlo := RB.out.1.lo
          exact ⟨_, _, ys, rfl, RB.out.1.bl.trans (hkf.below RB.out.1.bl.size (fun k e => by omega)), hyx.out.2.1, RB.out.1.nds.kp hkf (fun k e e2 => by have := hlo.1 k e; omega), RB.out.2.1.kp hkf (fun k e e2 => by have := RB.out.2.2; simp [Value.ownBlock] at e; omega), fun y hy => ⟨(RB.out.1.each y hy).1.kp hkf (fun k e e2 => by have := (hlo.2 y hy).1 k e; omega), (RB.out.1.each y hy).2.kp hkf (fun k e e2 => by have := (hlo.2 y hy).2 k e; omega)⟩, fun k e => by have := hlo.1 k e; omega, fun k e => by have := RB.out.2.2; simp [Value.ownBlock] at e; omega, fun y hy => ⟨fun k e => by have := (hlo.2 y hy).1 k e; omega, fun k e => by have := (hlo.2 y hy).2 k e; omega⟩⟩
        · go_simp
          have g75 := (Gr.refl V69).alloc (.cells #[.int .i64 777, .int .i64 0, .int .i64 0, .int .i64 0, .bool false] 47)
          have a75 := heap_new' V69 (.cells #[.int .i64 777, .int .i64 0, .int .i64 0, .int .i64 0, .bool false] 47)
          obtain ⟨b75, hb75⟩ : ∃ b, b = V69.heap.size := ⟨_, rfl⟩
          obtain ⟨V75, hV75⟩ : ∃ V, V = V69.alloc (.cells #[.int .i64 777, .int .i64 0, .int .i64 0, .int .i64 0, .bool false] 47) := ⟨_, rfl⟩
          rw [← hV75, ← hb75]
          rw [← hV75] at g75 a75
          have B75 := hid (B69.out.trans (g75.below.mono B69.out.size))
          have M75 : Hid (V75.heap[b75]? = some (.cells #[.int .i64 777, .int .i64 0, .int .i64 0, .int .i64 0, .bool false] 47 (0, 0))) := by
            show _ = _
            rw [hb75]
            exact a75
          have O75 := hid (owns_below O69.out g75.below)
          have N75 : Hid (∀ k, ((.slice (some ⟨b69, 0, none⟩) 0 0) : Value).ownBlock = some k → k ≠ b75) := fun k hk e => by
            have h1 := (owns_rd O69.out k hk).2
            omega
          clear g75 a75 hV75 hb75
          refine hK.out _ _ (fun hD => B75.out) ?_
          clear hK K
          try simp only [Act.put, List.setIfInBounds_toArray, List.set_cons_zero, List.set_cons_succ]
          refine wpAnyD_one (i := 3) (o := { dst := some 72, op := Go.Op.call { callee := Go.Callee.builtin Go.Builtin.append, args := #[Go.Operand.tmp 69, Go.Operand.tmp 71], argTypes := #[23, 23] }, type := 23, pos := "law.go:80", after := #[{ on := 0, ground := Go.Ground.data }, { on := 2, ground := Go.Ground.data }], guard := none }) (by kernel_rfl) rfl (fun K hK => ?_)
          refine step_appZ ED Try.underlying23 infoD rfl (by decide) rfl _ _ rfl W12.heap.size (.slice (some ⟨b69, 0, none⟩) 0 0) 0 [] rfl O75.out B75.out.size w.heap.size (.slice pe el ce) es rfl (LC.out.below B75.out) (by have := HSZ.out; omega) (by have := HSZ.out; unfold maxLen; omega) ?_
          intro v76 w76 h76 k76
          have K76 := hid (Kp.grownBy (S := fun k => ((.slice (some ⟨b69, 0, none⟩) 0 0) : Value).ownBlock = some k) k76.out (fun _ h => h))
          have B76 := hid (B75.out.trans (K76.out.below B75.out.size (fun k hk => (owns_rd O75.out k hk).1)))
          have O76 : Hid (w76.ownsRow W12.heap.size 47 5 v76 es.length (fl ED es)) := owns_re h76.out (by simp) (by simp)
          have M76 := hid ((K76.out.block _ (tk_lt M75.out) (fun e => N75.out _ e rfl)).trans M75.out)
          clear h76 k76
          refine hK.out _ _ (fun hD => B76.out) ?_
          clear hK K
          try simp only [Act.put, List.setIfInBounds_toArray, List.set_cons_zero, List.set_cons_succ]
          refine wpAnyD_one (i := 6) (o := { dst := some 75, op := Go.Op.call { callee := Go.Callee.builtin Go.Builtin.append, args := #[Go.Operand.tmp 72, Go.Operand.tmp 74], argTypes := #[23, 23] }, type := 23, pos := "law.go:80", after := #[{ on := 3, ground := Go.Ground.data }, { on := 5, ground := Go.Ground.data }, { on := 3, ground := Go.Ground.chain }], guard := none }) (by kernel_rfl) rfl (fun K hK => ?_)
          refine step_appL ED Try.underlying23 infoD rfl (by decide) rfl _ _ rfl W12.heap.size v76 es.length (fl ED es) rfl O76.out B76.out.size (.slice (some ⟨b75, 0, none⟩) 1 1) [mD] rfl (one_ls M76.out rfl) (by have := HSZ.out; simp; omega) (by have := HSZ.out; unfold maxLen; simp; omega) ?_
          intro v77 w77 h77 k77
          have K77 := hid (Kp.grownBy (S := fun k => (v76 : Value).ownBlock = some k) k77.out (fun _ h => h))
          have B77 := hid (B76.out.trans (K77.out.below B76.out.size (fun k hk => (owns_rd O76.out k hk).1)))
          have O77 : Hid (w77.ownsRow W12.heap.size 47 5 v77 (es.length + 1) (fl ED (es ++ [mD]))) := owns_re h77.out (by simp) (by rw [fl_append])
          obtain ⟨g77, cap77, hv77, hc77, MK77⟩ := mk_of O77.out
          subst hv77
          have HM77 := hid MK77
          have GL77 := hid ((owns_rd O77.out g77 rfl).1)
          have q0 : (0 : Int) ≤ (el : Int) := by omega
          have q1 : (el : Int) ≤ (cap77 : Int) := by have := HEL.out; omega
          have q2 : es.length + 1 = el + 1 := by have := HEL.out; omega
          rw [q2]
          clear h77 k77 MK77 hc77 q2
          refine hK.out _ _ (fun hD => B77.out) ?_
          clear hK K
          try simp only [Act.put, List.setIfInBounds_toArray, List.set_cons_zero, List.set_cons_succ]
          refine' wpAnyD_take (i := 10) (oi := { dst := some 79, op := Go.Op.slice 23 (Go.Operand.tmp 75) none (some (Go.Operand.tmp 78)) none, type := 23, pos := "law.go:80", after := #[{ on := 6, ground := Go.Ground.data }, { on := 9, ground := Go.Ground.data }], guard := none }) (v := _) rfl (by kernel_rfl) (by kernel_rfl) (by kernel_rfl) (fun _ _ _ h => h) (by kernel_rfl) (Or.inl ⟨by rfl, ?hy78⟩) B77.out ?rest78
          case hy78 => (intro W hSw; go_simp; try (with_reducible rfl))
          try simp only [Act.put, List.setIfInBounds_toArray, List.set_cons_zero, List.set_cons_succ]
          refine' wpAnyD_take (i := 11) (oi := { dst := some 80, op := Go.Op.fieldAddr 25 (Go.Operand.tmp 3) 2, type := 0, pos := "law.go:80", after := #[{ on := 0, ground := Go.Ground.phase }, { on := 1, ground := Go.Ground.phase }, { on := 2, ground := Go.Ground.phase }, { on := 3, ground := Go.Ground.phase }, { on := 4, ground := Go.Ground.phase }, { on := 5, ground := Go.Ground.phase }, { on := 6, ground := Go.Ground.phase }, { on := 7, ground := Go.Ground.phase }, { on := 8, ground := Go.Ground.phase }, { on := 9, ground := Go.Ground.phase }, { on := 10, ground := Go.Ground.phase }], guard := none }) (v := _) rfl (by kernel_rfl) (by kernel_rfl) (by kernel_rfl) (fun _ _ _ h => h) (by kernel_rfl) (Or.inl ⟨by rfl, ?hy79⟩) B77.out ?rest79
          case hy79 => (intro W hSw; go_simp; try (with_reducible rfl))
          try simp only [Act.put, List.setIfInBounds_toArray, List.set_cons_zero, List.set_cons_succ]
          refine wpAnyD_one (i := 12) (o := { dst := none, op := Go.Op.store 23 (Go.Operand.tmp 80) (Go.Operand.tmp 79), type := 0, pos := "law.go:80", after := #[{ on := 11, ground := Go.Ground.data }, { on := 10, ground := Go.Ground.data }, { on := 6, ground := Go.Ground.chain }, { on := 0, ground := Go.Ground.phase }, { on := 1, ground := Go.Ground.phase }, { on := 2, ground := Go.Ground.phase }, { on := 3, ground := Go.Ground.phase }, { on := 4, ground := Go.Ground.phase }, { on := 5, ground := Go.Ground.phase }, { on := 6, ground := Go.Ground.phase }, { on := 7, ground := Go.Ground.phase }, { on := 8, ground := Go.Ground.phase }, { on := 9, ground := Go.Ground.phase }, { on := 10, ground := Go.Ground.phase }], guard := none }) (by kernel_rfl) rfl (fun K hK => ?_)
          have RA := hid (RQ.out.below B77.out)
          have en := (tk_store RA.out.h3).1
          have en2 := (tk_store RA.out.h3).2
          have en3 := tk_lt RA.out.h3
          have RB : Hid (Rz w (w77.setCell ⟨w.heap.size + 2, 2, none⟩ (.slice (some ⟨g77, 0, none⟩) el cap77)) (gvc a (.slice pn nl cn) (.slice pe el ce)) (gvc a (.slice (some ⟨g, 0, none⟩) nl cap) (.slice (some ⟨g77, 0, none⟩) el cap77)) (.slice (some ⟨g, 0, none⟩) nl cap) ys ∧ Mk ED 47 (w77.setCell ⟨w.heap.size + 2, 2, none⟩ (.slice (some ⟨g77, 0, none⟩) el cap77)) (.slice (some ⟨g77, 0, none⟩) el cap77) es mD ∧ w.heap.size + 3 ≤ g77) := by
            have s13 := tk_set RA.out.h3 2 (.slice (some ⟨g77, 0, none⟩) el cap77)
            have hg := GL77.out
            have hl := tk_lt RQ.out.h3
            have h3 := HM77.out
            rw [← HEL.out] at h3
            exact ⟨RA.out.set 2 _, h3.kp s13.2 (fun k e e2 => by simp [Value.ownBlock] at e; omega), by omega⟩
          go_simp
          refine hK.out _ _ (fun hD => absurd (by decide) hD) ?_
          clear hK K en en2 en3
          try simp only [Act.put, List.setIfInBounds_toArray, List.set_cons_zero, List.set_cons_succ]
          refine wpAnyD_done (by kernel_rfl) ?_ _
          generalize (w77.setCell ⟨w.heap.size + 2, 2, none⟩ (.slice (some ⟨g77, 0, none⟩) el cap77)) = W14 at RB ⊢
          have e1 := (tk_store RB.out.1.h3).1
          have e2 := tk_lt RB.out.1.h3
          have e3 := (tk_store RB.out.1.h2).1
          have e4 := (tk_store RB.out.1.h2).2
          have e5 := tk_lt RB.out.1.h2
          go_wp2_with fail
          obtain ⟨wf, hwf⟩ : ∃ wf, wf = ((W14.setCell ⟨w.heap.size + 1, 0, none⟩ (.int .i64 a)).setCell ⟨w.heap.size + 1, 1, none⟩ (.slice (some ⟨g, 0, none⟩) nl cap)).setCell ⟨w.heap.size + 1, 2, none⟩ (.slice (some ⟨g77, 0, none⟩) el cap77) := ⟨_, rfl⟩
          rw [← hwf]
          obtain ⟨hbf, hkf⟩ : wf.heap[w.heap.size + 1]? = some (.cells #[.int .i64 a, .slice (some ⟨g, 0, none⟩) nl cap, (.slice (some ⟨g77, 0, none⟩) el cap77)] 25 (0, 0)) ∧ Kp (fun k => k = w.heap.size + 1) W14 wf := by
            rw [hwf]
            exact fill3 RB.out.1.h2 _ _ _
          clear hwf e1 e2 e3 e4 e5
          obtain ⟨qf, -⟩ := tk_store hbf
          have hlf := tk_lt hbf
          refine bodyPost_ret (v := .agg #[.int .i64 a, .slice (some ⟨g, 0, none⟩) nl cap, (.slice (some ⟨g77, 0, none⟩) el cap77)]) (by simp [results, Try.results6, go_sem, qf]) rfl ?_
          have hlo := RB.out.1.lo
          exact ⟨_, _, ys, rfl, RB.out.1.bl.trans (hkf.below RB.out.1.bl.size (fun k e => by omega)), hyx.out.2.1, RB.out.1.nds.kp hkf (fun k e e2 => by have := hlo.1 k e; omega), RB.out.2.1.kp hkf (fun k e e2 => by have := RB.out.2.2; simp [Value.ownBlock] at e; omega), fun y hy => ⟨(RB.out.1.each y hy).1.kp hkf (fun k e e2 => by have := (hlo.2 y hy).1 k e; omega), (RB.out.1.each y hy).2.kp hkf (fun k e e2 => by have := (hlo.2 y hy).2 k e; omega)⟩, fun k e => by have := hlo.1 k e; omega, fun k e => by have := RB.out.2.2; simp [Value.ownBlock] at e; omega, fun y hy => ⟨fun k e => by have := (hlo.2 y hy).1 k e; omega, fun k e => by have := (hlo.2 y hy).2 k e; omega⟩⟩
      · go_simp
        have g80 := (Gr.refl Wd).alloc (.cells #[.int .i64 777, .int .i64 0, .int .i64 0, .int .i64 0, .bool false] 47)
        have a80 := heap_new' Wd (.cells #[.int .i64 777, .int .i64 0, .int .i64 0, .int .i64 0, .bool false] 47)
        obtain ⟨b80, hb80⟩ : ∃ b, b = Wd.heap.size := ⟨_, rfl⟩
        obtain ⟨V80, hV80⟩ : ∃ V, V = Wd.alloc (.cells #[.int .i64 777, .int .i64 0, .int .i64 0, .int .i64 0, .bool false] 47) := ⟨_, rfl⟩
        rw [← hV80, ← hb80]
        rw [← hV80] at g80 a80
        have B80 := hid (BD.out.trans (g80.below.mono BD.out.size))
        have M80 : Hid (V80.heap[b80]? = some (.cells #[.int .i64 777, .int .i64 0, .int .i64 0, .int .i64 0, .bool false] 47 (0, 0))) := by
          show _ = _
          rw [hb80]
          exact a80
        clear g80 a80 hV80 hb80
        refine hK.out _ _ (fun hD => B80.out) ?_
        clear hK K
        try simp only [Act.put, List.setIfInBounds_toArray, List.set_cons_zero, List.set_cons_succ]
        refine wpAnyD_one (i := 0) (o := { dst := some 69, op := Go.Op.buildSlice 23 0 #[], type := 23, pos := "law.go:80", after := #[], guard := none }) (by kernel_rfl) rfl (fun K hK => ?_)
        go_simp
        have g81 := (Gr.refl V80).alloc (.cells #[] 47)
        have a81 := heap_new' V80 (.cells #[] 47)
        obtain ⟨b81, hb81⟩ : ∃ b, b = V80.heap.size := ⟨_, rfl⟩
        obtain ⟨V81, hV81⟩ : ∃ V, V = V80.alloc (.cells #[] 47) := ⟨_, rfl⟩
        rw [← hV81, ← hb81]
        rw [← hV81] at g81 a81
        have B81 := hid (B80.out.trans (g81.below.mono B80.out.size))
        have O81 : Hid (V81.ownsRow W12.heap.size 47 5 (.slice (some ⟨b81, 0, none⟩) 0 0) 0 []) := by
          rw [hV81, hb81]
          exact World.ownsRow_made V80 #[] 0 B80.out.size (Nat.zero_le _) rfl
        have M81 := hid ((g81.below.block _ (tk_lt M80.out)).trans M80.out)
        have N81 : Hid (∀ k, (Value.slice (some ⟨b81, 0, none⟩) 0 0).ownBlock = some k → k ≠ b80) := fun k hk e => by
          have h1 := tk_lt M80.out
          simp [Value.ownBlock] at hk
          omega
        clear g81 a81 hV81 hb81
        refine hK.out _ _ (fun hD => B81.out) ?_
        clear hK K
        try simp only [Act.put, List.setIfInBounds_toArray, List.set_cons_zero, List.set_cons_succ]
        refine wpAnyD_one (i := 3) (o := { dst := some 72, op := Go.Op.call { callee := Go.Callee.builtin Go.Builtin.append, args := #[Go.Operand.tmp 69, Go.Operand.tmp 71], argTypes := #[23, 23] }, type := 23, pos := "law.go:80", after := #[{ on := 0, ground := Go.Ground.data }, { on := 2, ground := Go.Ground.data }], guard := none }) (by kernel_rfl) rfl (fun K hK => ?_)
        refine step_appZ ED Try.underlying23 infoD rfl (by decide) rfl _ _ rfl W12.heap.size (.slice (some ⟨b81, 0, none⟩) 0 0) 0 [] rfl O81.out B81.out.size w.heap.size (.slice pe el ce) es rfl (LC.out.below B81.out) (by have := HSZ.out; omega) (by have := HSZ.out; unfold maxLen; omega) ?_
        intro v82 w82 h82 k82
        have K82 := hid (Kp.grownBy (S := fun k => ((.slice (some ⟨b81, 0, none⟩) 0 0) : Value).ownBlock = some k) k82.out (fun _ h => h))
        have B82 := hid (B81.out.trans (K82.out.below B81.out.size (fun k hk => (owns_rd O81.out k hk).1)))
        have O82 : Hid (w82.ownsRow W12.heap.size 47 5 v82 es.length (fl ED es)) := owns_re h82.out (by simp) (by simp)
        have M82 := hid ((K82.out.block _ (tk_lt M81.out) (fun e => N81.out _ e rfl)).trans M81.out)
        clear h82 k82
        refine hK.out _ _ (fun hD => B82.out) ?_
        clear hK K
        try simp only [Act.put, List.setIfInBounds_toArray, List.set_cons_zero, List.set_cons_succ]
        refine wpAnyD_one (i := 6) (o := { dst := some 75, op := Go.Op.call { callee := Go.Callee.builtin Go.Builtin.append, args := #[Go.Operand.tmp 72, Go.Operand.tmp 74], argTypes := #[23, 23] }, type := 23, pos := "law.go:80", after := #[{ on := 3, ground := Go.Ground.data }, { on := 5, ground := Go.Ground.data }, { on := 3, ground := Go.Ground.chain }], guard := none }) (by kernel_rfl) rfl (fun K hK => ?_)
        refine step_appL ED Try.underlying23 infoD rfl (by decide) rfl _ _ rfl W12.heap.size v82 es.length (fl ED es) rfl O82.out B82.out.size (.slice (some ⟨b80, 0, none⟩) 1 1) [mD] rfl (one_ls M82.out rfl) (by have := HSZ.out; simp; omega) (by have := HSZ.out; unfold maxLen; simp; omega) ?_
        intro v83 w83 h83 k83
        have K83 := hid (Kp.grownBy (S := fun k => (v82 : Value).ownBlock = some k) k83.out (fun _ h => h))
        have B83 := hid (B82.out.trans (K83.out.below B82.out.size (fun k hk => (owns_rd O82.out k hk).1)))
        have O83 : Hid (w83.ownsRow W12.heap.size 47 5 v83 (es.length + 1) (fl ED (es ++ [mD]))) := owns_re h83.out (by simp) (by rw [fl_append])
        obtain ⟨g83, cap83, hv83, hc83, MK83⟩ := mk_of O83.out
        subst hv83
        have HM83 := hid MK83
        have GL83 := hid ((owns_rd O83.out g83 rfl).1)
        have q0 : (0 : Int) ≤ (el : Int) := by omega
        have q1 : (el : Int) ≤ (cap83 : Int) := by have := HEL.out; omega
        have q2 : es.length + 1 = el + 1 := by have := HEL.out; omega
        rw [q2]
        clear h83 k83 MK83 hc83 q2
        refine hK.out _ _ (fun hD => B83.out) ?_
        clear hK K
        try simp only [Act.put, List.setIfInBounds_toArray, List.set_cons_zero, List.set_cons_succ]
        refine' wpAnyD_take (i := 10) (oi := { dst := some 79, op := Go.Op.slice 23 (Go.Operand.tmp 75) none (some (Go.Operand.tmp 78)) none, type := 23, pos := "law.go:80", after := #[{ on := 6, ground := Go.Ground.data }, { on := 9, ground := Go.Ground.data }], guard := none }) (v := _) rfl (by kernel_rfl) (by kernel_rfl) (by kernel_rfl) (fun _ _ _ h => h) (by kernel_rfl) (Or.inl ⟨by rfl, ?hy84⟩) B83.out ?rest84
        case hy84 => (intro W hSw; go_simp; try (with_reducible rfl))
        try simp only [Act.put, List.setIfInBounds_toArray, List.set_cons_zero, List.set_cons_succ]
        refine' wpAnyD_take (i := 11) (oi := { dst := some 80, op := Go.Op.fieldAddr 25 (Go.Operand.tmp 3) 2, type := 0, pos := "law.go:80", after := #[{ on := 0, ground := Go.Ground.phase }, { on := 1, ground := Go.Ground.phase }, { on := 2, ground := Go.Ground.phase }, { on := 3, ground := Go.Ground.phase }, { on := 4, ground := Go.Ground.phase }, { on := 5, ground := Go.Ground.phase }, { on := 6, ground := Go.Ground.phase }, { on := 7, ground := Go.Ground.phase }, { on := 8, ground := Go.Ground.phase }, { on := 9, ground := Go.Ground.phase }, { on := 10, ground := Go.Ground.phase }], guard := none }) (v := _) rfl (by kernel_rfl) (by kernel_rfl) (by kernel_rfl) (fun _ _ _ h => h) (by kernel_rfl) (Or.inl ⟨by rfl, ?hy85⟩) B83.out ?rest85
        case hy85 => (intro W hSw; go_simp; try (with_reducible rfl))
        try simp only [Act.put, List.setIfInBounds_toArray, List.set_cons_zero, List.set_cons_succ]
        refine wpAnyD_one (i := 12) (o := { dst := none, op := Go.Op.store 23 (Go.Operand.tmp 80) (Go.Operand.tmp 79), type := 0, pos := "law.go:80", after := #[{ on := 11, ground := Go.Ground.data }, { on := 10, ground := Go.Ground.data }, { on := 6, ground := Go.Ground.chain }, { on := 0, ground := Go.Ground.phase }, { on := 1, ground := Go.Ground.phase }, { on := 2, ground := Go.Ground.phase }, { on := 3, ground := Go.Ground.phase }, { on := 4, ground := Go.Ground.phase }, { on := 5, ground := Go.Ground.phase }, { on := 6, ground := Go.Ground.phase }, { on := 7, ground := Go.Ground.phase }, { on := 8, ground := Go.Ground.phase }, { on := 9, ground := Go.Ground.phase }, { on := 10, ground := Go.Ground.phase }], guard := none }) (by kernel_rfl) rfl (fun K hK => ?_)
        have RA := hid (RQ.out.below B83.out)
        have en := (tk_store RA.out.h3).1
        have en2 := (tk_store RA.out.h3).2
        have en3 := tk_lt RA.out.h3
        have RB : Hid (Rz w (w83.setCell ⟨w.heap.size + 2, 2, none⟩ (.slice (some ⟨g83, 0, none⟩) el cap83)) (gvc a (.slice pn nl cn) (.slice pe el ce)) (gvc a (.slice (some ⟨g, 0, none⟩) nl cap) (.slice (some ⟨g83, 0, none⟩) el cap83)) (.slice (some ⟨g, 0, none⟩) nl cap) ys ∧ Mk ED 47 (w83.setCell ⟨w.heap.size + 2, 2, none⟩ (.slice (some ⟨g83, 0, none⟩) el cap83)) (.slice (some ⟨g83, 0, none⟩) el cap83) es mD ∧ w.heap.size + 3 ≤ g83) := by
          have s13 := tk_set RA.out.h3 2 (.slice (some ⟨g83, 0, none⟩) el cap83)
          have hg := GL83.out
          have hl := tk_lt RQ.out.h3
          have h3 := HM83.out
          rw [← HEL.out] at h3
          exact ⟨RA.out.set 2 _, h3.kp s13.2 (fun k e e2 => by simp [Value.ownBlock] at e; omega), by omega⟩
        go_simp
        refine hK.out _ _ (fun hD => absurd (by decide) hD) ?_
        clear hK K en en2 en3
        try simp only [Act.put, List.setIfInBounds_toArray, List.set_cons_zero, List.set_cons_succ]
        refine wpAnyD_done (by kernel_rfl) ?_ _
        generalize (w83.setCell ⟨w.heap.size + 2, 2, none⟩ (.slice (some ⟨g83, 0, none⟩) el cap83)) = W14 at RB ⊢
        have e1 := (tk_store RB.out.1.h3).1
        have e2 := tk_lt RB.out.1.h3
        have e3 := (tk_store RB.out.1.h2).1
        have e4 := (tk_store RB.out.1.h2).2
        have e5 := tk_lt RB.out.1.h2
        go_wp2_with fail
        obtain ⟨wf, hwf⟩ : ∃ wf, wf = ((W14.setCell ⟨w.heap.size + 1, 0, none⟩ (.int .i64 a)).setCell ⟨w.heap.size + 1, 1, none⟩ (.slice (some ⟨g, 0, none⟩) nl cap)).setCell ⟨w.heap.size + 1, 2, none⟩ (.slice (some ⟨g83, 0, none⟩) el cap83) := ⟨_, rfl⟩
        rw [← hwf]
        obtain ⟨hbf, hkf⟩ : wf.heap[w.heap.size + 1]? = some (.cells #[.int .i64 a, .slice (some ⟨g, 0, none⟩) nl cap, (.slice (some ⟨g83, 0, none⟩) el cap83)] 25 (0, 0)) ∧ Kp (fun k => k = w.heap.size + 1) W14 wf := by
          rw [hwf]
          exact fill3 RB.out.1.h2 _ _ _
        clear hwf e1 e2 e3 e4 e5
        obtain ⟨qf, -⟩ := tk_store hbf
        have hlf := tk_lt hbf
        refine bodyPost_ret (v := .agg #[.int .i64 a, .slice (some ⟨g, 0, none⟩) nl cap, (.slice (some ⟨g83, 0, none⟩) el cap83)]) (by simp [results, Try.results6, go_sem, qf]) rfl ?_
        have hlo := RB.out.1.lo
        exact ⟨_, _, ys, rfl, RB.out.1.bl.trans (hkf.below RB.out.1.bl.size (fun k e => by omega)), hyx.out.2.1, RB.out.1.nds.kp hkf (fun k e e2 => by have := hlo.1 k e; omega), RB.out.2.1.kp hkf (fun k e e2 => by have := RB.out.2.2; simp [Value.ownBlock] at e; omega), fun y hy => ⟨(RB.out.1.each y hy).1.kp hkf (fun k e e2 => by have := (hlo.2 y hy).1 k e; omega), (RB.out.1.each y hy).2.kp hkf (fun k e e2 => by have := (hlo.2 y hy).2 k e; omega)⟩, fun k e => by have := hlo.1 k e; omega, fun k e => by have := RB.out.2.2; simp [Value.ownBlock] at e; omega, fun y hy => ⟨fun k e => by have := (hlo.2 y hy).1 k e; omega, fun k e => by have := (hlo.2 y hy).2 k e; omega⟩⟩
end Go.Proofs.Ytdiecnacbkpceaa.Df
