import Derived.Test.YtabcibmdbancdaaXRef2
namespace Go.Proofs.Ytabcibmdbancdaa
open Go.RowKit Go.Sort Go.Maps
attribute [local go_sem ↓] Go.wp_at_zero Go.wp_at_succ
theorem fl_time (L : List Hd) (i : Nat) (id p a b c x y z : Int) (hi : L[i]? = some (id, p, a, b, c)) : ((((fl EH L).set (i * 5 + 2) (.int .u64 x)).set (i * 5 + 3) (.int .u64 y)).set (i * 5 + 4) (.int .u64 z)) = fl EH (L.set i (id, p, x, y, z)) := by
  have h := fl_stamp L i _ (p, x, y, z) hi
  have e : (fl EH L).set (i * 5 + 1) (.int .i64 p) = fl EH L := by
    apply List.ext_getElem?
    intro j
    rw [List.getElem?_set]
    by_cases ej : i * 5 + 1 = j
    · subst ej
      have h1 : (fl EH L)[i * 5 + 1]? = (EH.enc (id, p, a, b, c))[1]? := fl_get EH L i 1 _ hi (by decide)
      rw [if_pos rfl, h1]
      have := (List.getElem?_eq_some_iff.1 (h1.trans (show (EH.enc (id, p, a, b, c))[1]? = some (.int .i64 p) from rfl))).1
      rw [if_pos this]
      rfl
    · rw [if_neg ej]
  rw [e] at h
  exact h
set_option maxHeartbeats 1000000 in
theorem rlower_none {rb : Nat} {v : Value} {most last : Int} {L : List Hd} (id x y z : Int) (w : World) (h : Rc w rb v most last L) (hr : L.Pairwise fun x y => x.1 < y.1) (hl : L.length ≤ 3000000000000) (hk : look L id = none) :
    Calls Try.prog 25 #[.pointer (some ⟨rb, 0, none⟩), .int .i64 id, tm x y z] w fun e w' => e = .returned (.int .i64 47) ∧ Gr w w' := by
  have ha := rat_any id _ (h.gr ((Gr.refl w).alloc (.cells #[.int .u64 x, .int .u64 y, .int .u64 z] 29))) hr hl
  clear h
  go_enter Try.func25, Try.ntmps25
  go_wp2_with fail
  refine ha.mono ?_
  rintro e w1 ⟨n, rfl, hn, hw1⟩
  rcases hn with ⟨_, rfl⟩ | ⟨_, _, _, _, h2⟩
  · rw [hw1]
    go_wp2
    go_ret
    exact ⟨rfl, (Gr.refl _).alloc _⟩
  · rw [hk] at h2; cases h2
set_option maxRecDepth 100000 in
set_option maxHeartbeats 2000000 in
theorem rlower_back {rb : Nat} {v : Value} {most last : Int} {L : List Hd} (id x y z : Int) (s : Sp) (w : World) (h : Rc w rb v most last L) (hr : L.Pairwise fun x y => x.1 < y.1) (hl : L.length ≤ 3000000000000) (hk : look L id = some s) (ht : tle s.2.1 s.2.2.1 s.2.2.2 x y z = false) :
    Calls Try.prog 25 #[.pointer (some ⟨rb, 0, none⟩), .int .i64 id, tm x y z] w fun e w' => e = .returned (.int .i64 48) ∧ Gr w w' := by
  have hmx : Try.prog.follows .mixedOrders = true := by kernel_rfl
  have h1 := h.gr ((Gr.refl w).alloc (.cells #[.int .u64 x, .int .u64 y, .int .u64 z] 29))
  have ha := rat_any id _ h1 hr hl
  have HC := hid h
  have H1 := hid h1
  have HR := hid hr
  obtain ⟨pv, cv, rfl⟩ := h.ls.form
  obtain ⟨p, a, b, c⟩ := s
  have hA := fun W => refAhead_any a b c x y z W
  rw [show tle a b c x y z = false from ht] at hA
  clear h h1 hr ht
  go_enter Try.func25, Try.ntmps25
  go_wp2_with fail
  refine ha.mono ?_
  rintro e w1 ⟨n, rfl, hn, hw1⟩
  rcases hn with ⟨h2, _⟩ | ⟨i, s', rfl, h1, h2⟩
  · rw [hk] at h2; cases h2
  · rw [hw1]
    rw [hk] at h2
    cases h2
    have hil := (List.getElem?_eq_some_iff.1 h1).1
    have hltz : (i : Int) < (L.length : Int) := by omega
    have hk0 : (0 : Int) ≤ (i : Int) := by omega
    have hk1 : ¬ (i : Int) < 0 := by omega
    obtain ⟨_, ⟨_, hn0⟩ | ⟨gb, cap, cur, hvv, _, hgg, hcap, hcm, _, _⟩⟩ := H1.out.row
    · omega
    simp only [Value.slice.injEq] at hvv
    obtain ⟨rfl, -, rfl⟩ := hvv
    obtain ⟨b1, o1, c1, e1, z1, x0, x1, x2, x3, x4⟩ := H1.out.ls.atH h1
    simp only [Value.slice.injEq, Option.some.injEq, Addr.mk.injEq] at e1
    obtain ⟨⟨rfl, rfl, -⟩, -, rfl⟩ := e1
    simp only [Nat.zero_add] at x0 x1 x2 x3 x4
    have HI := hid h1
    have G1 := hid ((Gr.refl w).alloc (.cells #[.int .u64 x, .int .u64 y, .int .u64 z] 29))
    have y0 := cell_new w #[.int .u64 x, .int .u64 y, .int .u64 z] 29 0 _ rfl
    have y1 := cell_new w #[.int .u64 x, .int .u64 y, .int .u64 z] 29 1 _ rfl
    have y2 := cell_new w #[.int .u64 x, .int .u64 y, .int .u64 z] 29 2 _ rfl
    have c2 := H1.out.c2
    have hlt := H1.out.lt
    have hlw : w.heap.size < (w.alloc (.cells #[.int .u64 x, .int .u64 y, .int .u64 z] 29)).heap.size := by simp
    clear h1 hw1 ha x0 x1 hgg
    go_upto_region 4 with fail
    generalize (w.alloc (.cells #[.int .u64 x, .int .u64 y, .int .u64 z] 29)) = V at *
    have hS0 : Gr V V.drew := (Gr.refl V).drew
    refine wp_regionD (S := fun W => Gr V W) (D := []) hmx ?_
    refine' wpAnyD_take (i := 0) (oi := { dst := some 13, op := Go.Op.move (Go.Operand.tmp 0), type := 46, pos := "ref.go:61", after := #[], guard := none }) (v := _) rfl (by kernel_rfl) (by kernel_rfl) (by kernel_rfl) (fun _ _ _ h => h) (by kernel_rfl) (Or.inl ⟨by rfl, ?hy1⟩) hS0 ?rest1
    case hy1 => (intro W hSw; go_simp; try (with_reducible rfl))
    try simp only [Act.put, List.setIfInBounds_toArray, List.set_cons_zero, List.set_cons_succ]
    refine' wpAnyD_take (i := 1) (oi := { dst := some 14, op := Go.Op.nilCheck (Go.Operand.tmp 13), type := 0, pos := "ref.go:61", after := #[{ on := 0, ground := Go.Ground.data }], guard := none }) (v := _) rfl (by kernel_rfl) (by kernel_rfl) (by kernel_rfl) (fun _ _ _ h => h) (by kernel_rfl) (Or.inl ⟨by rfl, ?hy2⟩) hS0 ?rest2
    case hy2 => (intro W hSw; go_simp; try (with_reducible rfl))
    try simp only [Act.put, List.setIfInBounds_toArray, List.set_cons_zero, List.set_cons_succ]
    refine' wpAnyD_take (i := 2) (oi := { dst := some 15, op := Go.Op.fieldAddr 66 (Go.Operand.tmp 14) 2, type := 0, pos := "ref.go:61", after := #[{ on := 1, ground := Go.Ground.data }], guard := none }) (v := _) rfl (by kernel_rfl) (by kernel_rfl) (by kernel_rfl) (fun _ _ _ h => h) (by kernel_rfl) (Or.inl ⟨by rfl, ?hy3⟩) hS0 ?rest3
    case hy3 => (intro W hSw; go_simp; try (with_reducible rfl))
    try simp only [Act.put, List.setIfInBounds_toArray, List.set_cons_zero, List.set_cons_succ]
    refine' wpAnyD_take (i := 3) (oi := { dst := some 16, op := Go.Op.load 26 (Go.Operand.tmp 15), type := 26, pos := "ref.go:61", after := #[{ on := 2, ground := Go.Ground.data }], guard := none }) (v := _) rfl (by kernel_rfl) (by kernel_rfl) (by kernel_rfl) (fun _ _ _ h => h) (by kernel_rfl) (Or.inl ⟨by rfl, ?hy4⟩) hS0 ?rest4
    case hy4 => (intro W hSw; have s0 := (hSw.cell (o := 2) hlt).trans c2; go_simp; try (with_reducible rfl))
    try simp only [Act.put, List.setIfInBounds_toArray, List.set_cons_zero, List.set_cons_succ]
    refine' wpAnyD_take (i := 4) (oi := { dst := some 17, op := Go.Op.move (Go.Operand.tmp 7), type := 3, pos := "ref.go:61", after := #[], guard := none }) (v := _) rfl (by kernel_rfl) (by kernel_rfl) (by kernel_rfl) (fun _ _ _ h => h) (by kernel_rfl) (Or.inl ⟨by rfl, ?hy5⟩) hS0 ?rest5
    case hy5 => (intro W hSw; go_simp; try (with_reducible rfl))
    try simp only [Act.put, List.setIfInBounds_toArray, List.set_cons_zero, List.set_cons_succ]
    refine' wpAnyD_take (i := 5) (oi := { dst := some 18, op := Go.Op.indexAddr 26 (Go.Operand.tmp 16) (Go.Operand.tmp 17), type := 0, pos := "ref.go:61", after := #[{ on := 3, ground := Go.Ground.data }, { on := 4, ground := Go.Ground.data }], guard := none }) (v := _) rfl (by kernel_rfl) (by kernel_rfl) (by kernel_rfl) (fun _ _ _ h => h) (by kernel_rfl) (Or.inl ⟨by rfl, ?hy6⟩) hS0 ?rest6
    case hy6 => (intro W hSw; go_simp; try (with_reducible rfl))
    try simp only [Act.put, List.setIfInBounds_toArray, List.set_cons_zero, List.set_cons_succ]
    refine' wpAnyD_take (i := 6) (oi := { dst := some 19, op := Go.Op.fieldAddr 38 (Go.Operand.tmp 18) 1, type := 0, pos := "ref.go:61", after := #[{ on := 5, ground := Go.Ground.data }], guard := none }) (v := _) rfl (by kernel_rfl) (by kernel_rfl) (by kernel_rfl) (fun _ _ _ h => h) (by kernel_rfl) (Or.inl ⟨by rfl, ?hy7⟩) hS0 ?rest7
    case hy7 => (intro W hSw; go_simp; try (with_reducible rfl))
    try simp only [Act.put, List.setIfInBounds_toArray, List.set_cons_zero, List.set_cons_succ]
    refine' wpAnyD_take (i := 7) (oi := { dst := some 20, op := Go.Op.fieldAddr 31 (Go.Operand.tmp 19) 1, type := 0, pos := "ref.go:61", after := #[{ on := 6, ground := Go.Ground.data }], guard := none }) (v := _) rfl (by kernel_rfl) (by kernel_rfl) (by kernel_rfl) (fun _ _ _ h => h) (by kernel_rfl) (Or.inl ⟨by rfl, ?hy8⟩) hS0 ?rest8
    case hy8 => (intro W hSw; go_simp; try (with_reducible rfl))
    try simp only [Act.put, List.setIfInBounds_toArray, List.set_cons_zero, List.set_cons_succ]
    refine' wpAnyD_take (i := 8) (oi := { dst := some 21, op := Go.Op.load 29 (Go.Operand.tmp 20), type := 29, pos := "ref.go:61", after := #[{ on := 7, ground := Go.Ground.data }], guard := none }) (v := _) rfl (by kernel_rfl) (by kernel_rfl) (by kernel_rfl) (fun _ _ _ h => h) (by kernel_rfl) (Or.inl ⟨by rfl, ?hy9⟩) hS0 ?rest9
    case hy9 => (intro W hSw; have s2 := (hSw.cell (o := i * 5 + 2) z1).trans x2; have s3 := (hSw.cell (o := i * 5 + 3) z1).trans x3; have s4 := (hSw.cell (o := i * 5 + 4) z1).trans x4; go_simp; try (with_reducible rfl))
    try simp only [Act.put, List.setIfInBounds_toArray, List.set_cons_zero, List.set_cons_succ]
    refine' wpAnyD_take (i := 9) (oi := { dst := some 22, op := Go.Op.load 29 (Go.Operand.tmp 5), type := 29, pos := "ref.go:61", after := #[], guard := none }) (v := _) rfl (by kernel_rfl) (by kernel_rfl) (by kernel_rfl) (fun _ _ _ h => h) (by kernel_rfl) (Or.inl ⟨by rfl, ?hy10⟩) hS0 ?rest10
    case hy10 => (intro W hSw; have s2 := (hSw.cell (o := 0) hlw).trans y0; have s3 := (hSw.cell (o := 1) hlw).trans y1; have s4 := (hSw.cell (o := 2) hlw).trans y2; go_simp; try (with_reducible rfl))
    try simp only [Act.put, List.setIfInBounds_toArray, List.set_cons_zero, List.set_cons_succ]
    refine wpAnyD_one (i := 10) (o := { dst := some 23, op := Go.Op.call { callee := Go.Callee.value (Go.Operand.func 34), args := #[Go.Operand.tmp 21, Go.Operand.tmp 22], argTypes := #[29, 29] }, type := 4, pos := "ref.go:61", after := #[{ on := 8, ground := Go.Ground.data }, { on := 9, ground := Go.Ground.data }], guard := none }) (by kernel_rfl) rfl (fun K hK => ?_)
    go_simp
    refine (hA _).mono ?_
    rintro r w6 ⟨rfl, g6⟩
    have hS6 : Gr V w6 := (Gr.refl V).drew.trans g6
    clear g6
    go_wp2_with fail
    refine hK.out _ _ (fun hD => hS6) ?_
    clear hK K
    try simp only [Act.put, List.setIfInBounds_toArray, List.set_cons_zero, List.set_cons_succ]
    refine' wpAnyD_take (i := 11) (oi := { dst := some 24, op := Go.Op.unOp Go.UnOp.not 4 (Go.Operand.tmp 23), type := 4, pos := "ref.go:61", after := #[{ on := 10, ground := Go.Ground.data }], guard := none }) (v := _) rfl (by kernel_rfl) (by kernel_rfl) (by kernel_rfl) (fun _ _ _ h => h) (by kernel_rfl) (Or.inl ⟨by rfl, ?hy12⟩) hS6 ?rest12
    case hy12 => (intro W hSw; go_simp; try (with_reducible rfl))
    try simp only [Act.put, List.setIfInBounds_toArray, List.set_cons_zero, List.set_cons_succ]
    refine wpAnyD_done (by kernel_rfl) ?_ _
    go_wp2
    go_ret
    exact ⟨rfl, G1.out.trans hS6⟩
set_option maxRecDepth 100000 in
set_option maxHeartbeats 2000000 in
theorem rlower_ok {rb : Nat} {v : Value} {most last : Int} {L : List Hd} (id x y z : Int) (s : Sp) (w : World) (h : Rc w rb v most last L) (hr : L.Pairwise fun x y => x.1 < y.1) (hl : L.length ≤ 3000000000000) (hk : look L id = some s) (ht : tle s.2.1 s.2.2.1 s.2.2.2 x y z = true) :
    Calls Try.prog 25 #[.pointer (some ⟨rb, 0, none⟩), .int .i64 id, tm x y z] w fun e w' => e = .returned (.int .i64 0) ∧ Rc w' rb v most last (setL L id (s.1, x, y, z)) ∧ Kp (fun k => v.ownBlock = some k) w w' := by
  have hmx : Try.prog.follows .mixedOrders = true := by kernel_rfl
  have h1 := h.gr ((Gr.refl w).alloc (.cells #[.int .u64 x, .int .u64 y, .int .u64 z] 29))
  have ha := rat_any id _ h1 hr hl
  have HC := hid h
  have H1 := hid h1
  have HR := hid hr
  obtain ⟨pv, cv, rfl⟩ := h.ls.form
  obtain ⟨p, a, b, c⟩ := s
  have hA := fun W => refAhead_any a b c x y z W
  rw [show tle a b c x y z = true from ht] at hA
  clear h h1 hr ht
  go_enter Try.func25, Try.ntmps25
  go_wp2_with fail
  refine ha.mono ?_
  rintro e w1 ⟨n, rfl, hn, hw1⟩
  rcases hn with ⟨h2, _⟩ | ⟨i, s', rfl, h1, h2⟩
  · rw [hk] at h2; cases h2
  · rw [hw1]
    rw [hk] at h2
    cases h2
    have hil := (List.getElem?_eq_some_iff.1 h1).1
    have hltz : (i : Int) < (L.length : Int) := by omega
    have hk0 : (0 : Int) ≤ (i : Int) := by omega
    have hk1 : ¬ (i : Int) < 0 := by omega
    obtain ⟨_, ⟨_, hn0⟩ | ⟨gb, cap, cur, hvv, _, hgg, hcap, hcm, _, _⟩⟩ := H1.out.row
    · omega
    simp only [Value.slice.injEq] at hvv
    obtain ⟨rfl, -, rfl⟩ := hvv
    obtain ⟨b1, o1, c1, e1, z1, x0, x1, x2, x3, x4⟩ := H1.out.ls.atH h1
    simp only [Value.slice.injEq, Option.some.injEq, Addr.mk.injEq] at e1
    obtain ⟨⟨rfl, rfl, -⟩, -, rfl⟩ := e1
    simp only [Nat.zero_add] at x0 x1 x2 x3 x4
    have HI := hid h1
    have G1 := hid ((Gr.refl w).alloc (.cells #[.int .u64 x, .int .u64 y, .int .u64 z] 29))
    have y0 := cell_new w #[.int .u64 x, .int .u64 y, .int .u64 z] 29 0 _ rfl
    have y1 := cell_new w #[.int .u64 x, .int .u64 y, .int .u64 z] 29 1 _ rfl
    have y2 := cell_new w #[.int .u64 x, .int .u64 y, .int .u64 z] 29 2 _ rfl
    have c2 := H1.out.c2
    have hlt := H1.out.lt
    have hlw : w.heap.size < (w.alloc (.cells #[.int .u64 x, .int .u64 y, .int .u64 z] 29)).heap.size := by simp
    clear h1 hw1 ha x0 x1 hgg
    go_upto_region 4 with fail
    generalize (w.alloc (.cells #[.int .u64 x, .int .u64 y, .int .u64 z] 29)) = V at *
    have hS0 : Gr V V.drew := (Gr.refl V).drew
    refine wp_regionD (S := fun W => Gr V W) (D := []) hmx ?_
    refine' wpAnyD_take (i := 0) (oi := { dst := some 13, op := Go.Op.move (Go.Operand.tmp 0), type := 46, pos := "ref.go:61", after := #[], guard := none }) (v := _) rfl (by kernel_rfl) (by kernel_rfl) (by kernel_rfl) (fun _ _ _ h => h) (by kernel_rfl) (Or.inl ⟨by rfl, ?hy13⟩) hS0 ?rest13
    case hy13 => (intro W hSw; go_simp; try (with_reducible rfl))
    try simp only [Act.put, List.setIfInBounds_toArray, List.set_cons_zero, List.set_cons_succ]
    refine' wpAnyD_take (i := 1) (oi := { dst := some 14, op := Go.Op.nilCheck (Go.Operand.tmp 13), type := 0, pos := "ref.go:61", after := #[{ on := 0, ground := Go.Ground.data }], guard := none }) (v := _) rfl (by kernel_rfl) (by kernel_rfl) (by kernel_rfl) (fun _ _ _ h => h) (by kernel_rfl) (Or.inl ⟨by rfl, ?hy14⟩) hS0 ?rest14
    case hy14 => (intro W hSw; go_simp; try (with_reducible rfl))
    try simp only [Act.put, List.setIfInBounds_toArray, List.set_cons_zero, List.set_cons_succ]
    refine' wpAnyD_take (i := 2) (oi := { dst := some 15, op := Go.Op.fieldAddr 66 (Go.Operand.tmp 14) 2, type := 0, pos := "ref.go:61", after := #[{ on := 1, ground := Go.Ground.data }], guard := none }) (v := _) rfl (by kernel_rfl) (by kernel_rfl) (by kernel_rfl) (fun _ _ _ h => h) (by kernel_rfl) (Or.inl ⟨by rfl, ?hy15⟩) hS0 ?rest15
    case hy15 => (intro W hSw; go_simp; try (with_reducible rfl))
    try simp only [Act.put, List.setIfInBounds_toArray, List.set_cons_zero, List.set_cons_succ]
    refine' wpAnyD_take (i := 3) (oi := { dst := some 16, op := Go.Op.load 26 (Go.Operand.tmp 15), type := 26, pos := "ref.go:61", after := #[{ on := 2, ground := Go.Ground.data }], guard := none }) (v := _) rfl (by kernel_rfl) (by kernel_rfl) (by kernel_rfl) (fun _ _ _ h => h) (by kernel_rfl) (Or.inl ⟨by rfl, ?hy16⟩) hS0 ?rest16
    case hy16 => (intro W hSw; have s0 := (hSw.cell (o := 2) hlt).trans c2; go_simp; try (with_reducible rfl))
    try simp only [Act.put, List.setIfInBounds_toArray, List.set_cons_zero, List.set_cons_succ]
    refine' wpAnyD_take (i := 4) (oi := { dst := some 17, op := Go.Op.move (Go.Operand.tmp 7), type := 3, pos := "ref.go:61", after := #[], guard := none }) (v := _) rfl (by kernel_rfl) (by kernel_rfl) (by kernel_rfl) (fun _ _ _ h => h) (by kernel_rfl) (Or.inl ⟨by rfl, ?hy17⟩) hS0 ?rest17
    case hy17 => (intro W hSw; go_simp; try (with_reducible rfl))
    try simp only [Act.put, List.setIfInBounds_toArray, List.set_cons_zero, List.set_cons_succ]
    refine' wpAnyD_take (i := 5) (oi := { dst := some 18, op := Go.Op.indexAddr 26 (Go.Operand.tmp 16) (Go.Operand.tmp 17), type := 0, pos := "ref.go:61", after := #[{ on := 3, ground := Go.Ground.data }, { on := 4, ground := Go.Ground.data }], guard := none }) (v := _) rfl (by kernel_rfl) (by kernel_rfl) (by kernel_rfl) (fun _ _ _ h => h) (by kernel_rfl) (Or.inl ⟨by rfl, ?hy18⟩) hS0 ?rest18
    case hy18 => (intro W hSw; go_simp; try (with_reducible rfl))
    try simp only [Act.put, List.setIfInBounds_toArray, List.set_cons_zero, List.set_cons_succ]
    refine' wpAnyD_take (i := 6) (oi := { dst := some 19, op := Go.Op.fieldAddr 38 (Go.Operand.tmp 18) 1, type := 0, pos := "ref.go:61", after := #[{ on := 5, ground := Go.Ground.data }], guard := none }) (v := _) rfl (by kernel_rfl) (by kernel_rfl) (by kernel_rfl) (fun _ _ _ h => h) (by kernel_rfl) (Or.inl ⟨by rfl, ?hy19⟩) hS0 ?rest19
    case hy19 => (intro W hSw; go_simp; try (with_reducible rfl))
    try simp only [Act.put, List.setIfInBounds_toArray, List.set_cons_zero, List.set_cons_succ]
    refine' wpAnyD_take (i := 7) (oi := { dst := some 20, op := Go.Op.fieldAddr 31 (Go.Operand.tmp 19) 1, type := 0, pos := "ref.go:61", after := #[{ on := 6, ground := Go.Ground.data }], guard := none }) (v := _) rfl (by kernel_rfl) (by kernel_rfl) (by kernel_rfl) (fun _ _ _ h => h) (by kernel_rfl) (Or.inl ⟨by rfl, ?hy20⟩) hS0 ?rest20
    case hy20 => (intro W hSw; go_simp; try (with_reducible rfl))
    try simp only [Act.put, List.setIfInBounds_toArray, List.set_cons_zero, List.set_cons_succ]
    refine' wpAnyD_take (i := 8) (oi := { dst := some 21, op := Go.Op.load 29 (Go.Operand.tmp 20), type := 29, pos := "ref.go:61", after := #[{ on := 7, ground := Go.Ground.data }], guard := none }) (v := _) rfl (by kernel_rfl) (by kernel_rfl) (by kernel_rfl) (fun _ _ _ h => h) (by kernel_rfl) (Or.inl ⟨by rfl, ?hy21⟩) hS0 ?rest21
    case hy21 => (intro W hSw; have s2 := (hSw.cell (o := i * 5 + 2) z1).trans x2; have s3 := (hSw.cell (o := i * 5 + 3) z1).trans x3; have s4 := (hSw.cell (o := i * 5 + 4) z1).trans x4; go_simp; try (with_reducible rfl))
    try simp only [Act.put, List.setIfInBounds_toArray, List.set_cons_zero, List.set_cons_succ]
    refine' wpAnyD_take (i := 9) (oi := { dst := some 22, op := Go.Op.load 29 (Go.Operand.tmp 5), type := 29, pos := "ref.go:61", after := #[], guard := none }) (v := _) rfl (by kernel_rfl) (by kernel_rfl) (by kernel_rfl) (fun _ _ _ h => h) (by kernel_rfl) (Or.inl ⟨by rfl, ?hy22⟩) hS0 ?rest22
    case hy22 => (intro W hSw; have s2 := (hSw.cell (o := 0) hlw).trans y0; have s3 := (hSw.cell (o := 1) hlw).trans y1; have s4 := (hSw.cell (o := 2) hlw).trans y2; go_simp; try (with_reducible rfl))
    try simp only [Act.put, List.setIfInBounds_toArray, List.set_cons_zero, List.set_cons_succ]
    refine wpAnyD_one (i := 10) (o := { dst := some 23, op := Go.Op.call { callee := Go.Callee.value (Go.Operand.func 34), args := #[Go.Operand.tmp 21, Go.Operand.tmp 22], argTypes := #[29, 29] }, type := 4, pos := "ref.go:61", after := #[{ on := 8, ground := Go.Ground.data }, { on := 9, ground := Go.Ground.data }], guard := none }) (by kernel_rfl) rfl (fun K hK => ?_)
    go_simp
    refine (hA _).mono ?_
    rintro r w6 ⟨rfl, g6⟩
    have hS6 : Gr V w6 := (Gr.refl V).drew.trans g6
    clear g6
    go_wp2_with fail
    refine hK.out _ _ (fun hD => hS6) ?_
    clear hK K
    try simp only [Act.put, List.setIfInBounds_toArray, List.set_cons_zero, List.set_cons_succ]
    refine' wpAnyD_take (i := 11) (oi := { dst := some 24, op := Go.Op.unOp Go.UnOp.not 4 (Go.Operand.tmp 23), type := 4, pos := "ref.go:61", after := #[{ on := 10, ground := Go.Ground.data }], guard := none }) (v := _) rfl (by kernel_rfl) (by kernel_rfl) (by kernel_rfl) (fun _ _ _ h => h) (by kernel_rfl) (Or.inl ⟨by rfl, ?hy24⟩) hS6 ?rest24
    case hy24 => (intro W hSw; go_simp; try (with_reducible rfl))
    try simp only [Act.put, List.setIfInBounds_toArray, List.set_cons_zero, List.set_cons_succ]
    refine wpAnyD_done (by kernel_rfl) ?_ _
    go_upto_region 6 with fail
    have s0 := (hS6.cell (o := 2) hlt).trans c2
    have q0 := (hS6.cell (o := 0) hlw).trans y0
    have q1 := (hS6.cell (o := 1) hlw).trans y1
    have q2 := (hS6.cell (o := 2) hlw).trans y2
    have x2' := (hS6.cell (o := i * 5 + 2) z1).trans x2
    have x3' := (hS6.cell (o := i * 5 + 3) z1).trans x3
    have x4' := (hS6.cell (o := i * 5 + 4) z1).trans x4
    have HR6 : Hid (w6.ownsRow 0 38 5 (.slice (some ⟨gb, 0, none⟩) L.length cv) L.length (fl EH L)) := owns_below H1.out.row hS6.below
    have HB6 : Hid (w6.heap[rb]? = some (.cells #[.int .i64 most, .int .i64 last, .slice (some ⟨gb, 0, none⟩) L.length cv] 66 (0, 0))) := (hS6.below.block rb hlt).trans H1.out.blk
    have hz6 : gb < w6.heap.size := Nat.lt_of_lt_of_le z1 hS6.size
    have G6 := hid (G1.out.trans hS6)
    have hS0 : w6.cell? ⟨rb, 2, none⟩ = some (.slice (some ⟨gb, 0, none⟩) L.length cv) ∧ w6.cell? ⟨w.heap.size, 0, none⟩ = some (.int .u64 x) ∧ w6.cell? ⟨w.heap.size, 1, none⟩ = some (.int .u64 y) ∧ w6.cell? ⟨w.heap.size, 2, none⟩ = some (.int .u64 z) := ⟨s0, q0, q1, q2⟩
    clear s0 q0 q1 q2 hS6 x2 x3 x4 y0 y1 y2
    refine wp_regionD (S := fun W => W.cell? ⟨rb, 2, none⟩ = some (.slice (some ⟨gb, 0, none⟩) L.length cv) ∧ W.cell? ⟨w.heap.size, 0, none⟩ = some (.int .u64 x) ∧ W.cell? ⟨w.heap.size, 1, none⟩ = some (.int .u64 y) ∧ W.cell? ⟨w.heap.size, 2, none⟩ = some (.int .u64 z)) (D := [9]) hmx ?_
    refine' wpAnyD_take (i := 0) (oi := { dst := some 25, op := Go.Op.move (Go.Operand.tmp 0), type := 46, pos := "ref.go:64", after := #[], guard := none }) (v := _) rfl (by kernel_rfl) (by kernel_rfl) (by kernel_rfl) (fun _ _ _ h => h) (by kernel_rfl) (Or.inl ⟨by rfl, ?hy25⟩) hS0 ?rest25
    case hy25 => (intro W hSw; go_simp; try (with_reducible rfl))
    try simp only [Act.put, List.setIfInBounds_toArray, List.set_cons_zero, List.set_cons_succ]
    refine' wpAnyD_take (i := 1) (oi := { dst := some 26, op := Go.Op.nilCheck (Go.Operand.tmp 25), type := 0, pos := "ref.go:64", after := #[{ on := 0, ground := Go.Ground.data }], guard := none }) (v := _) rfl (by kernel_rfl) (by kernel_rfl) (by kernel_rfl) (fun _ _ _ h => h) (by kernel_rfl) (Or.inl ⟨by rfl, ?hy26⟩) hS0 ?rest26
    case hy26 => (intro W hSw; go_simp; try (with_reducible rfl))
    try simp only [Act.put, List.setIfInBounds_toArray, List.set_cons_zero, List.set_cons_succ]
    refine' wpAnyD_take (i := 2) (oi := { dst := some 27, op := Go.Op.fieldAddr 66 (Go.Operand.tmp 26) 2, type := 0, pos := "ref.go:64", after := #[{ on := 1, ground := Go.Ground.data }], guard := none }) (v := _) rfl (by kernel_rfl) (by kernel_rfl) (by kernel_rfl) (fun _ _ _ h => h) (by kernel_rfl) (Or.inl ⟨by rfl, ?hy27⟩) hS0 ?rest27
    case hy27 => (intro W hSw; go_simp; try (with_reducible rfl))
    try simp only [Act.put, List.setIfInBounds_toArray, List.set_cons_zero, List.set_cons_succ]
    refine' wpAnyD_take (i := 3) (oi := { dst := some 28, op := Go.Op.load 26 (Go.Operand.tmp 27), type := 26, pos := "ref.go:64", after := #[{ on := 2, ground := Go.Ground.data }], guard := none }) (v := _) rfl (by kernel_rfl) (by kernel_rfl) (by kernel_rfl) (fun _ _ _ h => h) (by kernel_rfl) (Or.inl ⟨by rfl, ?hy28⟩) hS0 ?rest28
    case hy28 => (intro W hSw; obtain ⟨s0, s1, s2, s3⟩ := hSw; go_simp; try (with_reducible rfl))
    try simp only [Act.put, List.setIfInBounds_toArray, List.set_cons_zero, List.set_cons_succ]
    refine' wpAnyD_take (i := 4) (oi := { dst := some 29, op := Go.Op.move (Go.Operand.tmp 7), type := 3, pos := "ref.go:64", after := #[], guard := none }) (v := _) rfl (by kernel_rfl) (by kernel_rfl) (by kernel_rfl) (fun _ _ _ h => h) (by kernel_rfl) (Or.inl ⟨by rfl, ?hy29⟩) hS0 ?rest29
    case hy29 => (intro W hSw; go_simp; try (with_reducible rfl))
    try simp only [Act.put, List.setIfInBounds_toArray, List.set_cons_zero, List.set_cons_succ]
    refine' wpAnyD_take (i := 5) (oi := { dst := some 30, op := Go.Op.load 29 (Go.Operand.tmp 5), type := 29, pos := "ref.go:64", after := #[], guard := none }) (v := _) rfl (by kernel_rfl) (by kernel_rfl) (by kernel_rfl) (fun _ _ _ h => h) (by kernel_rfl) (Or.inl ⟨by rfl, ?hy30⟩) hS0 ?rest30
    case hy30 => (intro W hSw; obtain ⟨s0, s1, s2, s3⟩ := hSw; go_simp; try (with_reducible rfl))
    try simp only [Act.put, List.setIfInBounds_toArray, List.set_cons_zero, List.set_cons_succ]
    refine wpAnyD_one (i := 6) (o := { dst := some 31, op := Go.Op.indexAddr 26 (Go.Operand.tmp 28) (Go.Operand.tmp 29), type := 0, pos := "ref.go:64", after := #[{ on := 3, ground := Go.Ground.data }, { on := 4, ground := Go.Ground.data }, { on := 0, ground := Go.Ground.phase }, { on := 1, ground := Go.Ground.phase }, { on := 2, ground := Go.Ground.phase }, { on := 3, ground := Go.Ground.phase }, { on := 4, ground := Go.Ground.phase }, { on := 5, ground := Go.Ground.phase }], guard := none }) (by kernel_rfl) rfl (fun K hK => ?_)
    go_simp
    refine hK.out _ _ (fun hD => hS0) ?_
    clear hK K
    try simp only [Act.put, List.setIfInBounds_toArray, List.set_cons_zero, List.set_cons_succ]
    refine wpAnyD_one (i := 7) (o := { dst := some 32, op := Go.Op.fieldAddr 38 (Go.Operand.tmp 31) 1, type := 0, pos := "ref.go:64", after := #[{ on := 6, ground := Go.Ground.data }, { on := 0, ground := Go.Ground.phase }, { on := 1, ground := Go.Ground.phase }, { on := 2, ground := Go.Ground.phase }, { on := 3, ground := Go.Ground.phase }, { on := 4, ground := Go.Ground.phase }, { on := 5, ground := Go.Ground.phase }], guard := none }) (by kernel_rfl) rfl (fun K hK => ?_)
    go_simp
    refine hK.out _ _ (fun hD => hS0) ?_
    clear hK K
    try simp only [Act.put, List.setIfInBounds_toArray, List.set_cons_zero, List.set_cons_succ]
    refine wpAnyD_one (i := 8) (o := { dst := some 33, op := Go.Op.fieldAddr 31 (Go.Operand.tmp 32) 1, type := 0, pos := "ref.go:64", after := #[{ on := 7, ground := Go.Ground.data }, { on := 0, ground := Go.Ground.phase }, { on := 1, ground := Go.Ground.phase }, { on := 2, ground := Go.Ground.phase }, { on := 3, ground := Go.Ground.phase }, { on := 4, ground := Go.Ground.phase }, { on := 5, ground := Go.Ground.phase }], guard := none }) (by kernel_rfl) rfl (fun K hK => ?_)
    go_simp
    refine hK.out _ _ (fun hD => hS0) ?_
    clear hK K
    try simp only [Act.put, List.setIfInBounds_toArray, List.set_cons_zero, List.set_cons_succ]
    refine wpAnyD_one (i := 9) (o := { dst := none, op := Go.Op.store 29 (Go.Operand.tmp 33) (Go.Operand.tmp 30), type := 0, pos := "ref.go:64", after := #[{ on := 8, ground := Go.Ground.data }, { on := 5, ground := Go.Ground.data }, { on := 0, ground := Go.Ground.phase }, { on := 1, ground := Go.Ground.phase }, { on := 2, ground := Go.Ground.phase }, { on := 3, ground := Go.Ground.phase }, { on := 4, ground := Go.Ground.phase }, { on := 5, ground := Go.Ground.phase }], guard := none }) (by kernel_rfl) rfl (fun K hK => ?_)
    have f1 : ∀ q, (w6.drew).frozen? ⟨gb, q, none⟩ = false := owns_fz HR6.out
    have f2 : ∀ q, w6.frozen? ⟨gb, q, none⟩ = false := owns_fz HR6.out
    go_simp
    clear f1 f2
    refine hK.out _ _ (fun hD => absurd (by decide) hD) ?_
    clear hK K
    try simp only [Act.put, List.setIfInBounds_toArray, List.set_cons_zero, List.set_cons_succ]
    refine wpAnyD_done (by kernel_rfl) ?_ _
    go_wp2
    go_ret
    obtain ⟨p2, k2⟩ := owns_cell (q := i * 5 + 2) (.int .u64 x) (show w6.drew.ownsRow 0 38 5 (.slice (some ⟨gb, 0, none⟩) L.length cv) L.length (fl EH L) from HR6.out)
    obtain ⟨p3, k3⟩ := owns_cell (q := i * 5 + 3) (.int .u64 y) p2
    obtain ⟨p4, k4⟩ := owns_cell (q := i * 5 + 4) (.int .u64 z) p3
    rw [fl_time L i _ _ _ _ _ x y z HI.out, set_eq' HR.out HI.out (p, x, y, z)] at p4
    have hk' := (k2.trans k3 (fun _ _ h => h)).trans k4 (fun _ _ h => h)
    refine ⟨rfl, ⟨?_, ?_⟩, ?_⟩
    · exact (hk'.block rb (blkLt HB6.out) (fun e => HC.out.off (by rw [e]; rfl))).trans HB6.out
    · rw [setL_length]
      exact p4
    · exact ((Kp.of_gr (S := fun k => (Value.slice (some ⟨gb, 0, none⟩) L.length cv).ownBlock = some k) G6.out.drew)).trans hk' (fun _ _ h => by rw [h]; rfl)
end Go.Proofs.Ytabcibmdbancdaa
