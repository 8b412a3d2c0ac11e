import Derived.Test.YtinggeflllgdmaaSoMeth
namespace Go.Proofs.Ytinggeflllgdmaa
open Go.RowKit Go.Sort
attribute [local go_sem ↓] Go.wp_at_zero Go.wp_at_succ
set_option maxHeartbeats 2000000 in
theorem newOk_any {n : Int} (hn : tfits 0 0 0 n = 0) (w : World) : Calls Try.prog 5 #[.int .i64 n] w fun e w' => ∃ b, e = .returned (.tuple #[.pointer (some ⟨b, 0, none⟩), .int .i64 0]) ∧ Hid (So w' b n (some (0, 0, 0)) ∧ w.heap.size ≤ b ∧ Gr w w') := by
  have HF := hid (fun W => Fits_any 0 0 0 n W)
  rw [hn] at HF
  clear hn
  go_enter Try.func5, Try.ntmps5
  go_wp2_with fail
  refine (HF.out _).mono ?_
  rintro e w1 ⟨rfl, g1⟩
  go_wp2_with fail
  exact bodyPost_ret (v := .tuple #[.pointer (some ⟨w1.heap.size, 0, none⟩), .int .i64 0]) (by simp [results, Try.results5, go_sem]) rfl ⟨_, rfl, heap_new' _ _, g1.size, g1.alloc _⟩
set_option maxHeartbeats 2000000 in
theorem newNo_any {n : Int} (hn : tfits 0 0 0 n = 10) (w : World) : Calls Try.prog 5 #[.int .i64 n] w fun e w' => e = .returned (.tuple #[.pointer none, .int .i64 10]) ∧ Gr w w' := by
  have HF := hid (fun W => Fits_any 0 0 0 n W)
  rw [hn] at HF
  clear hn
  go_enter Try.func5, Try.ntmps5
  go_wp2_with fail
  refine (HF.out _).mono ?_
  rintro e w1 ⟨rfl, g1⟩
  go_wp2_with fail
  exact bodyPost_ret (v := .tuple #[.pointer none, .int .i64 10]) (by simp [results, Try.results5, go_sem]) rfl ⟨rfl, g1⟩
/-- What an input is behind Advance. -/
def adv (n : Int) (s : Option T3) (t : T3) : Option T3 := if snd n s t = 0 then some t else s
set_option maxHeartbeats 4000000 in
set_option maxRecDepth 100000 in
theorem advance_any {b : Nat} {n : Int} {s : Option T3} (t : T3) (w : World) (h : So w b n s) : Calls Try.prog 9 #[.pointer (some ⟨b, 0, none⟩), tv t] w fun e w' => e = .returned (.int .i64 (snd n s t)) ∧ Hid (So w' b n (adv n s t) ∧ Kp (fun k => k = b) w w') := by
  obtain ⟨W1, hW1⟩ : ∃ W1, W1 = w.alloc (.cells (tc t) 30) := ⟨_, rfl⟩
  obtain ⟨b3, hb3⟩ : ∃ b3, b3 = w.heap.size := ⟨_, rfl⟩
  have G1 : Hid (Gr w W1) := by rw [hW1]; exact (Gr.refl _).alloc _
  have HX1 : Hid (W1.heap[b3]? = some (.cells (tc t) 30 (0, 0))) := by rw [hW1, hb3]; exact heap_new' _ _
  have HS1 : Hid (So W1 b n s) := h.below G1.out.below
  have HE := hid (fun W (hW : So W b n s) => send_any t W hW)
  have HD : Hid (adv n s t = if snd n s t = 0 then some t else s) := rfl
  generalize adv n s t = s2 at HD ⊢
  generalize snd n s t = r at HE HD ⊢
  obtain ⟨y0, y1, y2, yz⟩ := box3 HX1.out
  clear h
  simp only [tv] at HE
  simp only [tv]
  simp only [tc] at hW1
  go_enter Try.func9, Try.ntmps9
  go_upto_region 3 with fail
  rw [← hW1, ← hb3]
  clear hW1 hb3
  go_wp2_with fail
  refine (HE.out _ HS1.out).mono ?_
  rintro e w2 ⟨rfl, g2⟩
  have HX2 : Hid (w2.heap[b3]? = some (.cells (tc t) 30 (0, 0))) := (g2.below.block b3 yz).trans HX1.out
  have HS2 : Hid (So w2 b n s) := HS1.out.below g2.below
  have HG2 : Hid (Gr w w2) := G1.out.trans g2
  clear HE HS1 HX1 G1 g2 y0 y1 y2 yz
  obtain ⟨y0, y1, y2, yz⟩ := box3 HX2.out
  obtain ⟨z0, z1, z2, zz⟩ := HS2.out.cells
  by_cases hr : r = 0
  · have hr2 : (r == 0) = true := by rw [hr]; rfl
    have HD2 : Hid (s2 = some t) := HD.out.trans (if_pos hr)
    have HR := hid hr
    clear HD hr z0
    go_upto_region 6 with fail
    obtain ⟨q1, k1⟩ := tk_set HS2.out 1 (opn t)
    have HF : Hid (So (w2.setCell ⟨b, 1, none⟩ (opn t)) b n s2 ∧ Kp (fun k => k = b) w (w2.setCell ⟨b, 1, none⟩ (opn t))) := by
      rw [HD2.out]
      exact ⟨q1, (Kp.of_gr HG2.out).trans k1 (fun _ _ h => h)⟩
    clear q1 k1 HS2 HX2 HG2 HD2
    simp only [opn, tv] at HF
    go_wp2_with fail
    go_ret
    exact ⟨by rw [HR.out]; rfl, HF.out⟩
  · have hr2 : (r == 0) = false := beq_eq_false_iff_ne.2 hr
    have HD2 : Hid (s2 = s) := HD.out.trans (if_neg hr)
    clear HD hr
    go_wp2_with fail
    go_ret
    exact ⟨rfl, by rw [HD2.out]; exact HS2.out, Kp.of_gr HG2.out⟩
def cl (s : Option T3) : Int := if s.isSome then 0 else 45
set_option maxHeartbeats 4000000 in
set_option maxRecDepth 100000 in
theorem close_any {b : Nat} {n : Int} {s : Option T3} (w : World) (h : So w b n s) : Calls Try.prog 10 #[.pointer (some ⟨b, 0, none⟩)] w fun e w' => e = .returned (.int .i64 (cl s)) ∧ Hid (So w' b n none ∧ Kp (fun k => k = b) w w') := by
  have hs1 := hid (state_any w h)
  have HS := hid h
  clear h
  cases s with
  | none =>
    have hm := md_cc
    have he : ∀ (args : Array Value) (W : World), (callFunc 49 args).run Try.prog W = .ok (.enter 49 args) W := fun _ _ => by kernel_rfl
    simp only [now] at hs1
    simp only [cl, Option.isSome_none, Bool.false_eq_true, if_false]
    go_enter Try.func10, Try.ntmps10
    go_wp2_with fail
    refine hs1.out.mono ?_
    rintro e w1 ⟨rfl, rfl⟩
    go_wp2_with fail
    refine (cClose_any _).mono ?_
    rintro e w2 ⟨rfl, g2⟩
    go_wp2_with fail
    go_ret
    exact ⟨rfl, HS.out.below g2.below, Kp.of_gr g2⟩
  | some u =>
    have hm := md_oc u
    have he : ∀ (args : Array Value) (W : World), (callFunc 43 args).run Try.prog W = .ok (.enter 43 args) W := fun _ _ => by kernel_rfl
    simp only [now, tv] at hs1 hm
    simp only [cl, Option.isSome_some, if_true]
    go_enter Try.func10, Try.ntmps10
    go_wp2_with fail
    refine hs1.out.mono ?_
    rintro e w1 ⟨rfl, rfl⟩
    go_wp2_with fail
    refine (oClose_any u _).mono ?_
    rintro e w2 ⟨rfl, g2⟩
    have HS2 := hid (HS.out.below g2.below)
    obtain ⟨z0, z1, z2, zz⟩ := HS2.out.cells
    obtain ⟨q1, k1⟩ := tk_set HS2.out 1 cls
    have HF : Hid (So (w2.setCell ⟨b, 1, none⟩ cls) b n none ∧ Kp (fun k => k = b) w1 (w2.setCell ⟨b, 1, none⟩ cls)) := ⟨q1, (Kp.of_gr g2).trans k1 (fun _ _ h => h)⟩
    clear q1 k1 g2 HS2 HS hs1 hm he z0
    go_wp2_with fail
    go_ret
    exact ⟨rfl, HF.out⟩
set_option maxHeartbeats 4000000 in
set_option maxRecDepth 100000 in
theorem epoch_any {b : Nat} {n : Int} {s : Option T3} (w : World) (h : So w b n s) : Calls Try.prog 7 #[.pointer (some ⟨b, 0, none⟩)] w fun e w' => e = .returned (ep s) ∧ Below w.heap.size w w' := by
  obtain ⟨W1, hW1⟩ : ∃ W1, W1 = w.alloc (.cells (tc (0, 0, 0)) 30) := ⟨_, rfl⟩
  obtain ⟨b3, hb3⟩ : ∃ b3, b3 = w.heap.size := ⟨_, rfl⟩
  have G1 : Hid (Gr w W1) := by rw [hW1]; exact (Gr.refl _).alloc _
  have HX1 : Hid (W1.heap[b3]? = some (.cells (tc (0, 0, 0)) 30 (0, 0))) := by rw [hW1, hb3]; exact heap_new' _ _
  have hs1 := hid (state_any W1 (h.below G1.out.below))
  have HB3 : Hid (w.heap.size ≤ b3) := by rw [hb3]; exact Nat.le_refl _
  clear h
  simp only [tc] at hW1
  cases s with
  | none =>
    have hm := md_ce
    have he : ∀ (args : Array Value) (W : World), (callFunc 48 args).run Try.prog W = .ok (.enter 48 args) W := fun _ _ => by kernel_rfl
    simp only [now] at hs1
    go_enter Try.func7, Try.ntmps7
    go_upto_region 3 with fail
    rw [← hW1, ← hb3]
    clear hW1 hb3
    go_wp2_with fail
    refine hs1.out.mono ?_
    rintro e w1 ⟨rfl, rfl⟩
    go_wp2_with fail
    refine (cEpoch_any _).mono ?_
    rintro e w2 ⟨rfl, g2⟩
    simp only [ep, tv, Option.getD_none, Option.isSome_none]
    have HX2 : Hid (w2.heap[b3]? = some (.cells (tc (0, 0, 0)) 30 (0, 0))) := (g2.below.block b3 (tk_lt HX1.out)).trans HX1.out
    have HB2 : Hid (Below w.heap.size w w2) := G1.out.below.trans (g2.below.mono G1.out.size)
    obtain ⟨cb, fb⟩ := tk_store HX2.out
    have lb := tk_lt HX2.out
    obtain ⟨q0, k0⟩ := tk_set HX2.out 0 (.int .u64 0)
    obtain ⟨q1, k1⟩ := tk_set q0 1 (.int .u64 0)
    obtain ⟨q2, k2⟩ := tk_set q1 2 (.int .u64 0)
    have HF : Hid (Below w.heap.size w (((w2.setCell ⟨b3, 0, none⟩ (.int .u64 0)).setCell ⟨b3, 1, none⟩ (.int .u64 0)).setCell ⟨b3, 2, none⟩ (.int .u64 0))) := HB2.out.trans (((k0.trans k1 (fun _ _ h => h)).trans k2 (fun _ _ h => h)).below HB2.out.size (fun k hk => by rw [hk]; exact HB3.out))
    have HQ := hid (tk_store q2).1
    clear q0 q1 q2 k0 k1 k2 g2 hs1 hm he HX1 HX2
    go_wp2_with fail
    refine bodyPost_ret (v := .tuple #[.agg #[.int .u64 0, .int .u64 0, .int .u64 0], .bool false]) ?_ rfl ⟨rfl, HF.out⟩
    have q0 := HQ.out 0
    have q1 := HQ.out 1
    have q2 := HQ.out 2
    simp [results, Try.results7, go_sem, q0, q1, q2]
  | some u =>
    have hm := md_oe u
    have he : ∀ (args : Array Value) (W : World), (callFunc 42 args).run Try.prog W = .ok (.enter 42 args) W := fun _ _ => by kernel_rfl
    simp only [now, tv] at hs1 hm
    go_enter Try.func7, Try.ntmps7
    go_upto_region 3 with fail
    rw [← hW1, ← hb3]
    clear hW1 hb3
    go_wp2_with fail
    refine hs1.out.mono ?_
    rintro e w1 ⟨rfl, rfl⟩
    go_wp2_with fail
    refine (oEpoch_any u _).mono ?_
    rintro e w2 ⟨rfl, g2⟩
    simp only [ep, tv, Option.getD_some, Option.isSome_some]
    have HX2 : Hid (w2.heap[b3]? = some (.cells (tc (0, 0, 0)) 30 (0, 0))) := (g2.below.block b3 (tk_lt HX1.out)).trans HX1.out
    have HB2 : Hid (Below w.heap.size w w2) := G1.out.below.trans (g2.below.mono G1.out.size)
    obtain ⟨cb, fb⟩ := tk_store HX2.out
    have lb := tk_lt HX2.out
    obtain ⟨q0, k0⟩ := tk_set HX2.out 0 (.int .u64 u.1)
    obtain ⟨q1, k1⟩ := tk_set q0 1 (.int .u64 u.2.1)
    obtain ⟨q2, k2⟩ := tk_set q1 2 (.int .u64 u.2.2)
    have HF : Hid (Below w.heap.size w (((w2.setCell ⟨b3, 0, none⟩ (.int .u64 u.1)).setCell ⟨b3, 1, none⟩ (.int .u64 u.2.1)).setCell ⟨b3, 2, none⟩ (.int .u64 u.2.2))) := HB2.out.trans (((k0.trans k1 (fun _ _ h => h)).trans k2 (fun _ _ h => h)).below HB2.out.size (fun k hk => by rw [hk]; exact HB3.out))
    have HQ := hid (tk_store q2).1
    clear q0 q1 q2 k0 k1 k2 g2 hs1 hm he HX1 HX2
    go_wp2_with fail
    refine bodyPost_ret (v := .tuple #[tv u, .bool true]) ?_ rfl ⟨rfl, HF.out⟩
    have q0 := HQ.out 0
    have q1 := HQ.out 1
    have q2 := HQ.out 2
    simp [results, Try.results7, go_sem, q0, q1, q2]
set_option maxHeartbeats 4000000 in
set_option maxRecDepth 100000 in
theorem copy_any {b : Nat} {n : Int} {s : Option T3} (w : World) (h : So w b n s) : Calls Try.prog 12 #[.pointer (some ⟨b, 0, none⟩)] w fun e w' => ∃ c, e = .returned (.pointer (some ⟨c, 0, none⟩)) ∧ Hid (So w' c n s ∧ w.heap.size ≤ c ∧ Gr w w') := by
  have hmx : Try.prog.follows .mixedOrders = true := by kernel_rfl
  have HF : Hid (So (w.drew.alloc (.cells #[.int .i64 n, now s] 55)) w.heap.size n s ∧ w.heap.size ≤ w.heap.size ∧ Gr w (w.drew.alloc (.cells #[.int .i64 n, now s] 55))) := ⟨heap_new' w.drew _, Nat.le_refl _, (Gr.refl w).drew.alloc _⟩
  have hS0 : (fun W : World => So W b n s) w.drew := h
  clear h
  cases s with
  | none =>
    simp only [now] at HF
    go_enter Try.func12, Try.ntmps12
    go_upto_region 3 with fail
    refine wp_regionD (S := fun W => So W b n none) (D := []) hmx ?_
    refine' wpAnyD_take (i := 0) (oi := { dst := some 5, op := Go.Op.move (Go.Operand.tmp 0), type := 23, pos := "source.go:80", after := #[], guard := none }) (v := _) rfl (by kernel_rfl) (by kernel_rfl) (by kernel_rfl) (fun _ _ _ h => h) (by kernel_rfl) (Or.inl ⟨by rfl, ?hy1⟩) hS0 ?rest1
    case hy1 => (intro W hSw; go_simp; try (with_reducible rfl))
    try simp only [Act.put, List.setIfInBounds_toArray, List.set_cons_zero, List.set_cons_succ]
    refine' wpAnyD_take (i := 1) (oi := { dst := some 6, op := Go.Op.nilCheck (Go.Operand.tmp 5), type := 0, pos := "source.go:80", after := #[{ on := 0, ground := Go.Ground.data }], guard := none }) (v := _) rfl (by kernel_rfl) (by kernel_rfl) (by kernel_rfl) (fun _ _ _ h => h) (by kernel_rfl) (Or.inl ⟨by rfl, ?hy2⟩) hS0 ?rest2
    case hy2 => (intro W hSw; go_simp; try (with_reducible rfl))
    try simp only [Act.put, List.setIfInBounds_toArray, List.set_cons_zero, List.set_cons_succ]
    refine' wpAnyD_take (i := 2) (oi := { dst := some 7, op := Go.Op.fieldAddr 55 (Go.Operand.tmp 6) 0, type := 0, pos := "source.go:80", after := #[{ on := 1, ground := Go.Ground.data }], guard := none }) (v := _) rfl (by kernel_rfl) (by kernel_rfl) (by kernel_rfl) (fun _ _ _ h => h) (by kernel_rfl) (Or.inl ⟨by rfl, ?hy3⟩) hS0 ?rest3
    case hy3 => (intro W hSw; go_simp; try (with_reducible rfl))
    try simp only [Act.put, List.setIfInBounds_toArray, List.set_cons_zero, List.set_cons_succ]
    refine' wpAnyD_take (i := 3) (oi := { dst := some 8, op := Go.Op.load 3 (Go.Operand.tmp 7), type := 3, pos := "source.go:80", after := #[{ on := 2, ground := Go.Ground.data }], guard := none }) (v := _) rfl (by kernel_rfl) (by kernel_rfl) (by kernel_rfl) (fun _ _ _ h => h) (by kernel_rfl) (Or.inl ⟨by rfl, ?hy4⟩) hS0 ?rest4
    case hy4 => (intro W hSw; obtain ⟨y0, y1, y2, yz⟩ := So.cells hSw; simp only [now, cls] at y1; go_simp; try (with_reducible rfl))
    try simp only [Act.put, List.setIfInBounds_toArray, List.set_cons_zero, List.set_cons_succ]
    refine' wpAnyD_take (i := 4) (oi := { dst := some 9, op := Go.Op.move (Go.Operand.tmp 0), type := 23, pos := "source.go:80", after := #[], guard := none }) (v := _) rfl (by kernel_rfl) (by kernel_rfl) (by kernel_rfl) (fun _ _ _ h => h) (by kernel_rfl) (Or.inl ⟨by rfl, ?hy5⟩) hS0 ?rest5
    case hy5 => (intro W hSw; go_simp; try (with_reducible rfl))
    try simp only [Act.put, List.setIfInBounds_toArray, List.set_cons_zero, List.set_cons_succ]
    refine' wpAnyD_take (i := 5) (oi := { dst := some 10, op := Go.Op.nilCheck (Go.Operand.tmp 9), type := 0, pos := "source.go:80", after := #[{ on := 4, ground := Go.Ground.data }], guard := none }) (v := _) rfl (by kernel_rfl) (by kernel_rfl) (by kernel_rfl) (fun _ _ _ h => h) (by kernel_rfl) (Or.inl ⟨by rfl, ?hy6⟩) hS0 ?rest6
    case hy6 => (intro W hSw; go_simp; try (with_reducible rfl))
    try simp only [Act.put, List.setIfInBounds_toArray, List.set_cons_zero, List.set_cons_succ]
    refine' wpAnyD_take (i := 6) (oi := { dst := some 11, op := Go.Op.fieldAddr 55 (Go.Operand.tmp 10) 1, type := 0, pos := "source.go:80", after := #[{ on := 5, ground := Go.Ground.data }], guard := none }) (v := _) rfl (by kernel_rfl) (by kernel_rfl) (by kernel_rfl) (fun _ _ _ h => h) (by kernel_rfl) (Or.inl ⟨by rfl, ?hy7⟩) hS0 ?rest7
    case hy7 => (intro W hSw; go_simp; try (with_reducible rfl))
    try simp only [Act.put, List.setIfInBounds_toArray, List.set_cons_zero, List.set_cons_succ]
    refine' wpAnyD_take (i := 7) (oi := { dst := some 12, op := Go.Op.load 53 (Go.Operand.tmp 11), type := 53, pos := "source.go:80", after := #[{ on := 6, ground := Go.Ground.data }], guard := none }) (v := _) rfl (by kernel_rfl) (by kernel_rfl) (by kernel_rfl) (fun _ _ _ h => h) (by kernel_rfl) (Or.inl ⟨by rfl, ?hy8⟩) hS0 ?rest8
    case hy8 => (intro W hSw; obtain ⟨y0, y1, y2, yz⟩ := So.cells hSw; simp only [now, cls] at y1; go_simp; try (with_reducible rfl))
    try simp only [Act.put, List.setIfInBounds_toArray, List.set_cons_zero, List.set_cons_succ]
    refine' wpAnyD_take (i := 8) (oi := { dst := some 13, op := Go.Op.build 55 #[(0, Go.Operand.tmp 8), (1, Go.Operand.tmp 12)], type := 55, pos := "source.go:80", after := #[{ on := 3, ground := Go.Ground.data }, { on := 7, ground := Go.Ground.data }], guard := none }) (v := _) rfl (by kernel_rfl) (by kernel_rfl) (by kernel_rfl) (fun _ _ _ h => h) (by kernel_rfl) (Or.inl ⟨by rfl, ?hy9⟩) hS0 ?rest9
    case hy9 => (intro W hSw; go_simp; try (with_reducible rfl))
    try simp only [Act.put, List.setIfInBounds_toArray, List.set_cons_zero, List.set_cons_succ]
    refine wpAnyD_one (i := 9) (o := { dst := some 14, op := Go.Op.box 55 (Go.Operand.tmp 13), type := 23, pos := "source.go:80", after := #[{ on := 8, ground := Go.Ground.data }], guard := none }) (by kernel_rfl) rfl (fun K hK => ?_)
    go_simp
    refine hK.out _ _ (fun hD => (So.below hS0 ((Gr.refl w.drew).alloc _).below)) ?_
    clear hK K
    try simp only [Act.put, List.setIfInBounds_toArray, List.set_cons_zero, List.set_cons_succ]
    refine' wpAnyD_take (i := 10) (oi := { dst := some 2, op := Go.Op.assign (Go.Operand.tmp 14), type := 23, pos := "source.go:80", after := #[{ on := 9, ground := Go.Ground.data }, { on := 0, ground := Go.Ground.phase }, { on := 1, ground := Go.Ground.phase }, { on := 2, ground := Go.Ground.phase }, { on := 3, ground := Go.Ground.phase }, { on := 4, ground := Go.Ground.phase }, { on := 5, ground := Go.Ground.phase }, { on := 6, ground := Go.Ground.phase }, { on := 7, ground := Go.Ground.phase }, { on := 8, ground := Go.Ground.phase }, { on := 9, ground := Go.Ground.phase }], guard := none }) (v := _) rfl (by kernel_rfl) (by kernel_rfl) (by kernel_rfl) (fun _ _ _ h => h) (by kernel_rfl) (Or.inl ⟨by rfl, ?hy11⟩) (So.below hS0 ((Gr.refl w.drew).alloc _).below) ?rest11
    case hy11 => (intro W hSw; go_simp; try (with_reducible rfl))
    try simp only [Act.put, List.setIfInBounds_toArray, List.set_cons_zero, List.set_cons_succ]
    refine wpAnyD_done (by kernel_rfl) ?_ _
    go_wp2_with fail
    go_ret
    exact ⟨_, rfl, HF.out⟩
  | some u =>
    simp only [now] at HF
    go_enter Try.func12, Try.ntmps12
    go_upto_region 3 with fail
    refine wp_regionD (S := fun W => So W b n (some u)) (D := []) hmx ?_
    refine' wpAnyD_take (i := 0) (oi := { dst := some 5, op := Go.Op.move (Go.Operand.tmp 0), type := 23, pos := "source.go:80", after := #[], guard := none }) (v := _) rfl (by kernel_rfl) (by kernel_rfl) (by kernel_rfl) (fun _ _ _ h => h) (by kernel_rfl) (Or.inl ⟨by rfl, ?hy12⟩) hS0 ?rest12
    case hy12 => (intro W hSw; go_simp; try (with_reducible rfl))
    try simp only [Act.put, List.setIfInBounds_toArray, List.set_cons_zero, List.set_cons_succ]
    refine' wpAnyD_take (i := 1) (oi := { dst := some 6, op := Go.Op.nilCheck (Go.Operand.tmp 5), type := 0, pos := "source.go:80", after := #[{ on := 0, ground := Go.Ground.data }], guard := none }) (v := _) rfl (by kernel_rfl) (by kernel_rfl) (by kernel_rfl) (fun _ _ _ h => h) (by kernel_rfl) (Or.inl ⟨by rfl, ?hy13⟩) hS0 ?rest13
    case hy13 => (intro W hSw; go_simp; try (with_reducible rfl))
    try simp only [Act.put, List.setIfInBounds_toArray, List.set_cons_zero, List.set_cons_succ]
    refine' wpAnyD_take (i := 2) (oi := { dst := some 7, op := Go.Op.fieldAddr 55 (Go.Operand.tmp 6) 0, type := 0, pos := "source.go:80", after := #[{ on := 1, ground := Go.Ground.data }], guard := none }) (v := _) rfl (by kernel_rfl) (by kernel_rfl) (by kernel_rfl) (fun _ _ _ h => h) (by kernel_rfl) (Or.inl ⟨by rfl, ?hy14⟩) hS0 ?rest14
    case hy14 => (intro W hSw; go_simp; try (with_reducible rfl))
    try simp only [Act.put, List.setIfInBounds_toArray, List.set_cons_zero, List.set_cons_succ]
    refine' wpAnyD_take (i := 3) (oi := { dst := some 8, op := Go.Op.load 3 (Go.Operand.tmp 7), type := 3, pos := "source.go:80", after := #[{ on := 2, ground := Go.Ground.data }], guard := none }) (v := _) rfl (by kernel_rfl) (by kernel_rfl) (by kernel_rfl) (fun _ _ _ h => h) (by kernel_rfl) (Or.inl ⟨by rfl, ?hy15⟩) hS0 ?rest15
    case hy15 => (intro W hSw; obtain ⟨y0, y1, y2, yz⟩ := So.cells hSw; simp only [now, opn, tv] at y1; go_simp; try (with_reducible rfl))
    try simp only [Act.put, List.setIfInBounds_toArray, List.set_cons_zero, List.set_cons_succ]
    refine' wpAnyD_take (i := 4) (oi := { dst := some 9, op := Go.Op.move (Go.Operand.tmp 0), type := 23, pos := "source.go:80", after := #[], guard := none }) (v := _) rfl (by kernel_rfl) (by kernel_rfl) (by kernel_rfl) (fun _ _ _ h => h) (by kernel_rfl) (Or.inl ⟨by rfl, ?hy16⟩) hS0 ?rest16
    case hy16 => (intro W hSw; go_simp; try (with_reducible rfl))
    try simp only [Act.put, List.setIfInBounds_toArray, List.set_cons_zero, List.set_cons_succ]
    refine' wpAnyD_take (i := 5) (oi := { dst := some 10, op := Go.Op.nilCheck (Go.Operand.tmp 9), type := 0, pos := "source.go:80", after := #[{ on := 4, ground := Go.Ground.data }], guard := none }) (v := _) rfl (by kernel_rfl) (by kernel_rfl) (by kernel_rfl) (fun _ _ _ h => h) (by kernel_rfl) (Or.inl ⟨by rfl, ?hy17⟩) hS0 ?rest17
    case hy17 => (intro W hSw; go_simp; try (with_reducible rfl))
    try simp only [Act.put, List.setIfInBounds_toArray, List.set_cons_zero, List.set_cons_succ]
    refine' wpAnyD_take (i := 6) (oi := { dst := some 11, op := Go.Op.fieldAddr 55 (Go.Operand.tmp 10) 1, type := 0, pos := "source.go:80", after := #[{ on := 5, ground := Go.Ground.data }], guard := none }) (v := _) rfl (by kernel_rfl) (by kernel_rfl) (by kernel_rfl) (fun _ _ _ h => h) (by kernel_rfl) (Or.inl ⟨by rfl, ?hy18⟩) hS0 ?rest18
    case hy18 => (intro W hSw; go_simp; try (with_reducible rfl))
    try simp only [Act.put, List.setIfInBounds_toArray, List.set_cons_zero, List.set_cons_succ]
    refine' wpAnyD_take (i := 7) (oi := { dst := some 12, op := Go.Op.load 53 (Go.Operand.tmp 11), type := 53, pos := "source.go:80", after := #[{ on := 6, ground := Go.Ground.data }], guard := none }) (v := _) rfl (by kernel_rfl) (by kernel_rfl) (by kernel_rfl) (fun _ _ _ h => h) (by kernel_rfl) (Or.inl ⟨by rfl, ?hy19⟩) hS0 ?rest19
    case hy19 => (intro W hSw; obtain ⟨y0, y1, y2, yz⟩ := So.cells hSw; simp only [now, opn, tv] at y1; go_simp; try (with_reducible rfl))
    try simp only [Act.put, List.setIfInBounds_toArray, List.set_cons_zero, List.set_cons_succ]
    refine' wpAnyD_take (i := 8) (oi := { dst := some 13, op := Go.Op.build 55 #[(0, Go.Operand.tmp 8), (1, Go.Operand.tmp 12)], type := 55, pos := "source.go:80", after := #[{ on := 3, ground := Go.Ground.data }, { on := 7, ground := Go.Ground.data }], guard := none }) (v := _) rfl (by kernel_rfl) (by kernel_rfl) (by kernel_rfl) (fun _ _ _ h => h) (by kernel_rfl) (Or.inl ⟨by rfl, ?hy20⟩) hS0 ?rest20
    case hy20 => (intro W hSw; go_simp; try (with_reducible rfl))
    try simp only [Act.put, List.setIfInBounds_toArray, List.set_cons_zero, List.set_cons_succ]
    refine wpAnyD_one (i := 9) (o := { dst := some 14, op := Go.Op.box 55 (Go.Operand.tmp 13), type := 23, pos := "source.go:80", after := #[{ on := 8, ground := Go.Ground.data }], guard := none }) (by kernel_rfl) rfl (fun K hK => ?_)
    go_simp
    refine hK.out _ _ (fun hD => (So.below hS0 ((Gr.refl w.drew).alloc _).below)) ?_
    clear hK K
    try simp only [Act.put, List.setIfInBounds_toArray, List.set_cons_zero, List.set_cons_succ]
    refine' wpAnyD_take (i := 10) (oi := { dst := some 2, op := Go.Op.assign (Go.Operand.tmp 14), type := 23, pos := "source.go:80", after := #[{ on := 9, ground := Go.Ground.data }, { on := 0, ground := Go.Ground.phase }, { on := 1, ground := Go.Ground.phase }, { on := 2, ground := Go.Ground.phase }, { on := 3, ground := Go.Ground.phase }, { on := 4, ground := Go.Ground.phase }, { on := 5, ground := Go.Ground.phase }, { on := 6, ground := Go.Ground.phase }, { on := 7, ground := Go.Ground.phase }, { on := 8, ground := Go.Ground.phase }, { on := 9, ground := Go.Ground.phase }], guard := none }) (v := _) rfl (by kernel_rfl) (by kernel_rfl) (by kernel_rfl) (fun _ _ _ h => h) (by kernel_rfl) (Or.inl ⟨by rfl, ?hy22⟩) (So.below hS0 ((Gr.refl w.drew).alloc _).below) ?rest22
    case hy22 => (intro W hSw; go_simp; try (with_reducible rfl))
    try simp only [Act.put, List.setIfInBounds_toArray, List.set_cons_zero, List.set_cons_succ]
    refine wpAnyD_done (by kernel_rfl) ?_ _
    go_wp2_with fail
    go_ret
    exact ⟨_, rfl, HF.out⟩
end Go.Proofs.Ytinggeflllgdmaa
