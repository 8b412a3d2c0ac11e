import Derived.Test.YtcmgmgnmhhkdgaaLgRef1
import Derived.Test.YtcmgmgnmhhkdgaaLStep
namespace Go.Proofs.Ytcmgmgnmhhkdgaa
open Go.RowKit Go.Sort Go.Maps Go.Shelf
attribute [local go_sem ↓] Go.wp_at_zero Go.wp_at_succ
theorem slt_def (a b : Sm) : slt b a = (if a.1.1 != b.1.1 then decide (b.1.1 < a.1.1) else if a.1.2.1 != b.1.2.1 then decide (b.1.2.1 < a.1.2.1) else if a.1.2.2.1 != b.1.2.2.1 then decide (b.1.2.2.1 < a.1.2.2.1) else decide (b.1.2.2.2 < a.1.2.2.2)) := by
  rw [Bool.eq_iff_iff, slt_iff]
  by_cases h0 : a.1.1 = b.1.1
  · rw [if_neg (by simp [h0])]
    by_cases h1 : a.1.2.1 = b.1.2.1
    · rw [if_neg (by simp [h1])]
      by_cases h2 : a.1.2.2.1 = b.1.2.2.1
      · rw [if_neg (by simp [h2]), decide_eq_true_iff]; omega
      · rw [if_pos (by simp [h2]), decide_eq_true_iff]; omega
    · rw [if_pos (by simp [h1]), decide_eq_true_iff]; omega
  · rw [if_pos (by simp [h0]), decide_eq_true_iff]; omega
set_option maxHeartbeats 2000000 in
/-- Behind. -/
theorem behind_any (a b : Sm) (w : World) : Calls Try.prog 40 #[mv a, mv b] w fun e w' => e = .returned (.bool (slt b a)) ∧ Gr w w' := by
  rw [slt_def]
  have HG : Hid (∀ o p, Gr w ((w.alloc o).alloc p)) := fun o p => ((Gr.refl _).alloc _).alloc _
  by_cases h0 : a.1.1 = b.1.1
  · have g0 : (a.1.1 != b.1.1) = false := by simp [h0]
    by_cases h1 : a.1.2.1 = b.1.2.1
    · have g1 : (a.1.2.1 != b.1.2.1) = false := by simp [h1]
      by_cases h2 : a.1.2.2.1 = b.1.2.2.1
      · have g2 : (a.1.2.2.1 != b.1.2.2.1) = false := by simp [h2]
        rw [if_neg (by simp [g0]), if_neg (by simp [g1]), if_neg (by simp [g2])]
        clear h0 h1 h2
        go_enter Try.func40, Try.ntmps40
        go_wp2
        all_goals (go_ret; refine ⟨?_, HG.out _ _⟩; first | rfl | simp_all)
      · have g2 : (a.1.2.2.1 != b.1.2.2.1) = true := by simp [h2]
        rw [if_neg (by simp [g0]), if_neg (by simp [g1]), if_pos g2]
        clear h0 h1 h2
        go_enter Try.func40, Try.ntmps40
        go_wp2
        all_goals (go_ret; refine ⟨?_, HG.out _ _⟩; first | rfl | simp_all)
    · have g1 : (a.1.2.1 != b.1.2.1) = true := by simp [h1]
      rw [if_neg (by simp [g0]), if_pos g1]
      clear h0 h1
      go_enter Try.func40, Try.ntmps40
      go_wp2
      all_goals (go_ret; refine ⟨?_, HG.out _ _⟩; first | rfl | simp_all)
  · have g0 : (a.1.1 != b.1.1) = true := by simp [h0]
    rw [if_pos g0]
    clear h0
    go_enter Try.func40, Try.ntmps40
    go_wp2
    all_goals (go_ret; refine ⟨?_, HG.out _ _⟩; first | rfl | simp_all)
set_option maxHeartbeats 2000000 in
/-- Copy. -/
theorem rcopy_any {rb : Nat} {v : Value} {L : List Cg} (w : World) (h : RL w rb v L) (hl : L.length ≤ 100000) :
    Calls Try.prog 20 #[rp rb] w fun e w' => ∃ rb' v', e = .returned (rp rb') ∧ w.heap.size ≤ rb' ∧ (∀ k, v'.ownBlock = some k → w.heap.size ≤ k) ∧ RL w' rb' v' L ∧ Below w.heap.size w w' := by
  obtain ⟨p, c, rfl⟩ := owns_form h.row
  have c0 := h.c0
  have HL := hid h.ls
  have hlt := h.lt
  clear h
  go_enter Try.func20, Try.ntmps20
  go_wp2_with (first | (at_builtin; refine wpAppL (E := EC) Try.underlying27 infoC rfl (by decide) rfl _ _ rfl w.heap.size (.slice (some ⟨w.heap.size, 0, none⟩) 0 0) 0 [] rfl (World.ownsRow_made w #[] 0 (Nat.le_refl _) (by unfold maxLen; omega) rfl) _ L rfl (HL.out.below ((Gr.refl w).alloc _).below) (by omega) (by unfold maxLen; omega) (by simp) ?_; intro v1 w1 ho1 hg1; rw [Nat.zero_add, List.nil_append] at ho1; obtain ⟨p1, c1, rfl⟩ := owns_form ho1) | go_in)
  have b1 : Below w.heap.size w w1 := ((Gr.refl w).alloc _).below.trans ((Kp.grownBy (S := fun k => k = w.heap.size) hg1 (fun k hk => by simpa [Value.ownBlock] using hk.symm)).below (by simp) (fun k hk => by omega))
  go_ret
  refine ⟨_, .slice p1 L.length c1, rfl, b1.size, fun k hk => (ho1.lt k hk).1, ⟨heap_new' _ _, owns_below (owns_base ho1 (Nat.zero_le _)) ((Gr.refl _).alloc _).below, fun e => by have := (ho1.lt _ e).2; omega⟩, b1.trans (((Gr.refl _).alloc _).below.mono b1.size)⟩
set_option maxHeartbeats 4000000 in
set_option maxRecDepth 100000 in
/-- Add: within the range. -/
theorem radd_any {rb : Nat} {v : Value} {L : List Cg} (s : Sm) (m : Int) (w : World) (h : RL w rb v L) (ho : Ones L) (hl : L.length ≤ 90000) (hm : m = 1 ∨ m = -1) :
    Calls Try.prog 19 #[rp rb, mv s, .int .i64 m] w fun e w' => e = .returned (.int .i64 0) ∧ ∃ v', RL w' rb v' (L ++ [(s, m)]) ∧ Kp (fun k => k = rb ∨ v.ownBlock = some k) w w' ∧ ∀ g, v'.ownBlock = some g → v.ownBlock = some g ∨ w.heap.size ≤ g := by
  have hmx : Try.prog.follows .mixedOrders = true := by kernel_rfl
  obtain ⟨p, c, rfl⟩ := owns_form h.row
  obtain ⟨W0, hW0⟩ : ∃ W, W = Tt.bx s w := ⟨_, rfl⟩
  have G0 : Gr w W0 := by rw [hW0]; exact (Gr.refl _).alloc _
  have z0 : w.heap.size < W0.heap.size := by rw [hW0]; simp
  obtain ⟨a0, a1, a2, a3⟩ : W0.cell? ⟨w.heap.size, 0, none⟩ = some (.int .i64 s.1.1) ∧ W0.cell? ⟨w.heap.size, 1, none⟩ = some (.int .u64 s.1.2.1) ∧ W0.cell? ⟨w.heap.size, 2, none⟩ = some (.int .u64 s.1.2.2.1) ∧ W0.cell? ⟨w.heap.size, 3, none⟩ = some (.int .u64 s.1.2.2.2) := by rw [hW0]; exact Tt.bx_cells s w
  have hg := rget_any s W0 (h.gr G0) ho (Nat.le_trans hl (by decide))
  have hb := smf_bd ho s
  have hw : IntKind.i64.wrap (smf L s + m) = smf L s + m := wrap_ok (by rcases hm with rfl | rfl <;> omega)
  have hlo : ¬ smf L s + m < -2147483647 := by rcases hm with rfl | rfl <;> omega
  have hhi : ¬ 2147483647 < smf L s + m := by rcases hm with rfl | rfl <;> omega
  have H0 := hid h
  have HG := hid G0
  have hlw := h.lt
  have hvl : Hid (∀ g, (Value.slice p L.length c).ownBlock = some g → g < w.heap.size) := fun g hg => (h.row.lt g hg).2
  clear h G0 hb hm ho
  generalize smf L s = q at *
  go_enter Try.func19, Try.ntmps19
  go_upto_region 1 with fail
  rw [show w.alloc (.cells #[.int .i64 s.1.1, .int .u64 s.1.2.1, .int .u64 s.1.2.2.1, .int .u64 s.1.2.2.2] 35) = W0 from hW0.symm]
  clear hW0
  go_wp2_with fail
  refine hg.mono ?_
  rintro e w1 ⟨rfl, g1⟩
  clear hg
  have R1 := hid (H0.out.gr (HG.out.trans (g1.trans (Gr.refl w1).drew)))
  have d0 := (g1.cell z0).trans a0
  have d1 := (g1.cell z0).trans a1
  have d2 := (g1.cell z0).trans a2
  have d3 := (g1.cell z0).trans a3
  have z1 : w.heap.size < w1.drew.heap.size := Nat.lt_of_lt_of_le z0 g1.size
  have zr : rb < w1.drew.heap.size := R1.out.lt
  have K1 : Hid (Gr w w1.drew) := HG.out.trans (g1.trans (Gr.refl w1).drew)
  clear g1 a0 a1 a2 a3
  go_upto_region 4 with fail
  have hS0 : (fun W : World => W.cell? ⟨rb, 0, none⟩ = some (.slice p L.length c) ∧ W.cell? ⟨w.heap.size, 0, none⟩ = some (.int .i64 s.1.1) ∧ W.cell? ⟨w.heap.size, 1, none⟩ = some (.int .u64 s.1.2.1) ∧ W.cell? ⟨w.heap.size, 2, none⟩ = some (.int .u64 s.1.2.2.1) ∧ W.cell? ⟨w.heap.size, 3, none⟩ = some (.int .u64 s.1.2.2.2)) w1.drew := ⟨R1.out.c0, d0, d1, d2, d3⟩
  refine wp_regionD (S := fun W => W.cell? ⟨rb, 0, none⟩ = some (.slice p L.length c) ∧ W.cell? ⟨w.heap.size, 0, none⟩ = some (.int .i64 s.1.1) ∧ W.cell? ⟨w.heap.size, 1, none⟩ = some (.int .u64 s.1.2.1) ∧ W.cell? ⟨w.heap.size, 2, none⟩ = some (.int .u64 s.1.2.2.1) ∧ W.cell? ⟨w.heap.size, 3, none⟩ = some (.int .u64 s.1.2.2.2)) (D := [12]) hmx ?_
  refine' wpAnyD_take (i := 0) (oi := { dst := some 19, op := Go.Op.move (Go.Operand.tmp 0), type := 51, pos := "ref.go:36", after := #[], guard := none }) (v := _) rfl (by kernel_rfl) (by kernel_rfl) (by kernel_rfl) (fun _ _ _ h => h) (by kernel_rfl) (Or.inl ⟨by rfl, ?hy1⟩) hS0 ?rest1
  case hy1 => (intro W hSw; go_simp; try (with_reducible rfl))
  try simp only [Act.put, List.setIfInBounds_toArray, List.set_cons_zero, List.set_cons_succ]
  refine' wpAnyD_take (i := 1) (oi := { dst := some 20, op := Go.Op.move (Go.Operand.tmp 0), type := 51, pos := "ref.go:36", after := #[], guard := none }) (v := _) rfl (by kernel_rfl) (by kernel_rfl) (by kernel_rfl) (fun _ _ _ h => h) (by kernel_rfl) (Or.inl ⟨by rfl, ?hy2⟩) hS0 ?rest2
  case hy2 => (intro W hSw; go_simp; try (with_reducible rfl))
  try simp only [Act.put, List.setIfInBounds_toArray, List.set_cons_zero, List.set_cons_succ]
  refine' wpAnyD_take (i := 2) (oi := { dst := some 21, op := Go.Op.nilCheck (Go.Operand.tmp 20), type := 0, pos := "ref.go:36", after := #[{ on := 1, ground := Go.Ground.data }], guard := none }) (v := _) rfl (by kernel_rfl) (by kernel_rfl) (by kernel_rfl) (fun _ _ _ h => h) (by kernel_rfl) (Or.inl ⟨by rfl, ?hy3⟩) hS0 ?rest3
  case hy3 => (intro W hSw; go_simp; try (with_reducible rfl))
  try simp only [Act.put, List.setIfInBounds_toArray, List.set_cons_zero, List.set_cons_succ]
  refine' wpAnyD_take (i := 3) (oi := { dst := some 22, op := Go.Op.fieldAddr 53 (Go.Operand.tmp 21) 0, type := 0, pos := "ref.go:36", after := #[{ on := 2, ground := Go.Ground.data }], guard := none }) (v := _) rfl (by kernel_rfl) (by kernel_rfl) (by kernel_rfl) (fun _ _ _ h => h) (by kernel_rfl) (Or.inl ⟨by rfl, ?hy4⟩) hS0 ?rest4
  case hy4 => (intro W hSw; go_simp; try (with_reducible rfl))
  try simp only [Act.put, List.setIfInBounds_toArray, List.set_cons_zero, List.set_cons_succ]
  refine' wpAnyD_take (i := 4) (oi := { dst := some 23, op := Go.Op.load 27 (Go.Operand.tmp 22), type := 27, pos := "ref.go:36", after := #[{ on := 3, ground := Go.Ground.data }], guard := none }) (v := _) rfl (by kernel_rfl) (by kernel_rfl) (by kernel_rfl) (fun _ _ _ h => h) (by kernel_rfl) (Or.inl ⟨by rfl, ?hy5⟩) hS0 ?rest5
  case hy5 => (intro W hSw; obtain ⟨s0, s1, s2, s3, s4⟩ := hSw; go_simp; try (with_reducible rfl))
  try simp only [Act.put, List.setIfInBounds_toArray, List.set_cons_zero, List.set_cons_succ]
  refine' wpAnyD_take (i := 5) (oi := { dst := some 24, op := Go.Op.load 35 (Go.Operand.tmp 4), type := 35, pos := "ref.go:36", after := #[], guard := none }) (v := _) rfl (by kernel_rfl) (by kernel_rfl) (by kernel_rfl) (fun _ _ _ h => h) (by kernel_rfl) (Or.inl ⟨by rfl, ?hy6⟩) hS0 ?rest6
  case hy6 => (intro W hSw; obtain ⟨s0, s1, s2, s3, s4⟩ := hSw; go_simp; try (with_reducible rfl))
  try simp only [Act.put, List.setIfInBounds_toArray, List.set_cons_zero, List.set_cons_succ]
  refine' wpAnyD_take (i := 6) (oi := { dst := some 25, op := Go.Op.move (Go.Operand.tmp 2), type := 2, pos := "ref.go:36", after := #[], guard := none }) (v := _) rfl (by kernel_rfl) (by kernel_rfl) (by kernel_rfl) (fun _ _ _ h => h) (by kernel_rfl) (Or.inl ⟨by rfl, ?hy7⟩) hS0 ?rest7
  case hy7 => (intro W hSw; go_simp; try (with_reducible rfl))
  try simp only [Act.put, List.setIfInBounds_toArray, List.set_cons_zero, List.set_cons_succ]
  refine' wpAnyD_take (i := 7) (oi := { dst := some 26, op := Go.Op.build 47 #[(0, Go.Operand.tmp 24), (1, Go.Operand.tmp 25)], type := 47, pos := "ref.go:36", after := #[{ on := 5, ground := Go.Ground.data }, { on := 6, ground := Go.Ground.data }], guard := none }) (v := _) rfl (by kernel_rfl) (by kernel_rfl) (by kernel_rfl) (fun _ _ _ h => h) (by kernel_rfl) (Or.inl ⟨by rfl, ?hy8⟩) hS0 ?rest8
  case hy8 => (intro W hSw; go_simp; try (with_reducible rfl))
  try simp only [Act.put, List.setIfInBounds_toArray, List.set_cons_zero, List.set_cons_succ]
  refine wpAnyD_one (i := 8) (o := { dst := some 27, op := Go.Op.buildSlice 27 1 #[(0, Go.Operand.tmp 26)], type := 27, pos := "ref.go:36", after := #[{ on := 7, ground := Go.Ground.data }], guard := none }) (by kernel_rfl) rfl (fun K hK => ?_)
  go_simp
  have hS7 : (fun W => W.cell? ⟨rb, 0, none⟩ = some (.slice p L.length c) ∧ W.cell? ⟨w.heap.size, 0, none⟩ = some (.int .i64 s.1.1) ∧ W.cell? ⟨w.heap.size, 1, none⟩ = some (.int .u64 s.1.2.1) ∧ W.cell? ⟨w.heap.size, 2, none⟩ = some (.int .u64 s.1.2.2.1) ∧ W.cell? ⟨w.heap.size, 3, none⟩ = some (.int .u64 s.1.2.2.2)) (w1.drew.alloc (.cells #[.int .i64 s.1.1, .int .u64 s.1.2.1, .int .u64 s.1.2.2.1, .int .u64 s.1.2.2.2, .int .i64 m] 47)) := by
    have g := (Gr.refl w1.drew).alloc (.cells #[.int .i64 s.1.1, .int .u64 s.1.2.1, .int .u64 s.1.2.2.1, .int .u64 s.1.2.2.2, .int .i64 m] 47)
    exact ⟨(g.cell zr).trans hS0.1, (g.cell z1).trans hS0.2.1, (g.cell z1).trans hS0.2.2.1, (g.cell z1).trans hS0.2.2.2.1, (g.cell z1).trans hS0.2.2.2.2⟩
  refine hK.out _ _ (fun hD => hS7) ?_
  clear hK K
  try simp only [Act.put, List.setIfInBounds_toArray, List.set_cons_zero, List.set_cons_succ]
  refine wpAnyD_one (i := 9) (o := { dst := some 28, op := Go.Op.call { callee := Go.Callee.builtin Go.Builtin.append, args := #[Go.Operand.tmp 23, Go.Operand.tmp 27], argTypes := #[27, 27] }, type := 27, pos := "ref.go:36", after := #[{ on := 4, ground := Go.Ground.data }, { on := 8, ground := Go.Ground.data }], guard := none }) (by kernel_rfl) rfl (fun K hK => ?_)
  refine step_app1 EC Try.underlying27 infoC rfl (by decide) rfl _ _ rfl 0 (.slice p L.length c) L.length _ rfl R1.out.row (s, m) (by first | rfl | simp) (by omega) (by unfold maxLen; omega) (Nat.zero_le _) _ rfl _ ?_
  intro g8 cap8 w8 HO8 HG8 HB8
  have K8 := hid (Kp.grownBy (S := fun k => (Value.slice p L.length c).ownBlock = some k) HG8.out (fun _ h => h))
  have hS8 : (fun W => W.cell? ⟨rb, 0, none⟩ = some (.slice p L.length c) ∧ W.cell? ⟨w.heap.size, 0, none⟩ = some (.int .i64 s.1.1) ∧ W.cell? ⟨w.heap.size, 1, none⟩ = some (.int .u64 s.1.2.1) ∧ W.cell? ⟨w.heap.size, 2, none⟩ = some (.int .u64 s.1.2.2.1) ∧ W.cell? ⟨w.heap.size, 3, none⟩ = some (.int .u64 s.1.2.2.2)) w8 := by
    have c1 : ∀ o, w8.cell? ⟨rb, o, none⟩ = w1.drew.cell? ⟨rb, o, none⟩ := fun o => K8.out.cell zr R1.out.off
    have c2 : ∀ o, w8.cell? ⟨w.heap.size, o, none⟩ = w1.drew.cell? ⟨w.heap.size, o, none⟩ := fun o => K8.out.cell z1 (fun e => by have := hvl.out _ e; omega)
    exact ⟨(c1 0).trans hS0.1, (c2 0).trans hS0.2.1, (c2 1).trans hS0.2.2.1, (c2 2).trans hS0.2.2.2.1, (c2 3).trans hS0.2.2.2.2⟩
  have B8 : w8.heap[rb]? = some (.cells #[.slice p L.length c] 53 (0, 0)) := (K8.out.block rb zr R1.out.off).trans R1.out.blk
  have f8 : w8.frozen? ⟨rb, 0, none⟩ = false := by simp [World.frozen?, B8]
  refine hK.out _ _ (fun hD => hS8) ?_
  clear hK K
  try simp only [Act.put, List.setIfInBounds_toArray, List.set_cons_zero, List.set_cons_succ]
  refine wpAnyD_one (i := 10) (o := { dst := some 29, op := Go.Op.nilCheck (Go.Operand.tmp 19), type := 0, pos := "ref.go:36", after := #[{ on := 0, ground := Go.Ground.data }, { on := 0, ground := Go.Ground.phase }, { on := 1, ground := Go.Ground.phase }, { on := 2, ground := Go.Ground.phase }, { on := 3, ground := Go.Ground.phase }, { on := 4, ground := Go.Ground.phase }, { on := 5, ground := Go.Ground.phase }, { on := 6, ground := Go.Ground.phase }, { on := 7, ground := Go.Ground.phase }, { on := 8, ground := Go.Ground.phase }, { on := 9, ground := Go.Ground.phase }], guard := none }) (by kernel_rfl) rfl (fun K hK => ?_)
  go_simp
  refine hK.out _ _ (fun hD => hS8) ?_
  clear hK K
  try simp only [Act.put, List.setIfInBounds_toArray, List.set_cons_zero, List.set_cons_succ]
  refine' wpAnyD_take (i := 11) (oi := { dst := some 30, op := Go.Op.fieldAddr 53 (Go.Operand.tmp 29) 0, type := 0, pos := "ref.go:36", after := #[{ on := 10, ground := Go.Ground.data }, { on := 0, ground := Go.Ground.phase }, { on := 1, ground := Go.Ground.phase }, { on := 2, ground := Go.Ground.phase }, { on := 3, ground := Go.Ground.phase }, { on := 4, ground := Go.Ground.phase }, { on := 5, ground := Go.Ground.phase }, { on := 6, ground := Go.Ground.phase }, { on := 7, ground := Go.Ground.phase }, { on := 8, ground := Go.Ground.phase }, { on := 9, ground := Go.Ground.phase }], guard := none }) (v := _) rfl (by kernel_rfl) (by kernel_rfl) (by kernel_rfl) (fun _ _ _ h => h) (by kernel_rfl) (Or.inl ⟨by rfl, ?hy12⟩) hS8 ?rest12
  case hy12 => (intro W hSw; go_simp; try (with_reducible rfl))
  try simp only [Act.put, List.setIfInBounds_toArray, List.set_cons_zero, List.set_cons_succ]
  refine wpAnyD_one (i := 12) (o := { dst := none, op := Go.Op.store 27 (Go.Operand.tmp 30) (Go.Operand.tmp 28), type := 0, pos := "ref.go:36", after := #[{ on := 11, ground := Go.Ground.data }, { on := 9, ground := Go.Ground.data }, { on := 9, ground := Go.Ground.chain }, { on := 0, ground := Go.Ground.phase }, { on := 1, ground := Go.Ground.phase }, { on := 2, ground := Go.Ground.phase }, { on := 3, ground := Go.Ground.phase }, { on := 4, ground := Go.Ground.phase }, { on := 5, ground := Go.Ground.phase }, { on := 6, ground := Go.Ground.phase }, { on := 7, ground := Go.Ground.phase }, { on := 8, ground := Go.Ground.phase }, { on := 9, ground := Go.Ground.phase }], guard := none }) (by kernel_rfl) rfl (fun K hK => ?_)
  have en := hS8.1
  have enl : rb < w8.heap.size := Nat.lt_of_lt_of_le zr K8.out.size
  go_simp
  refine hK.out _ _ (fun hD => absurd (by decide) hD) ?_
  clear hK K
  try simp only [Act.put, List.setIfInBounds_toArray, List.set_cons_zero, List.set_cons_succ]
  refine wpAnyD_done (by kernel_rfl) ?_ _
  obtain ⟨q1, q2, q3⟩ := setCell_blk (k := 0) (v := .slice (some ⟨g8, 0, none⟩) (L.length + 1) cap8) B8
  have gne : g8 ≠ rb := fun e => by
    rcases HB8.out with h | h
    · exact R1.out.off (by rw [h, e])
    · omega
  have FIN : Hid (RL (w8.setCell ⟨rb, 0, none⟩ (.slice (some ⟨g8, 0, none⟩) (L.length + 1) cap8)) rb (.slice (some ⟨g8, 0, none⟩) (L.length + 1) cap8) (L ++ [(s, m)])) := by
    refine ⟨q1, ?_, fun e => gne (by simpa [Value.ownBlock] using e)⟩
    rw [List.length_append, fl_append, fl_one]
    exact owns_kp q2 HO8.out (fun k hk e => gne (by have : k = g8 := by simpa [Value.ownBlock] using hk.symm
                                                    omega))
  have FK : Hid (Kp (fun k => k = rb ∨ (Value.slice p L.length c).ownBlock = some k) w (w8.setCell ⟨rb, 0, none⟩ (.slice (some ⟨g8, 0, none⟩) (L.length + 1) cap8))) := ((Kp.of_gr K1.out).trans (K8.out.mono (fun _ h => Or.inr h)) (fun _ _ h => h)).trans (q2.mono (fun _ h => Or.inl h)) (fun _ _ h => h)
  have FB : Hid (∀ g, (Value.slice (some ⟨g8, 0, none⟩) (L.length + 1) cap8).ownBlock = some g → (Value.slice p L.length c).ownBlock = some g ∨ w.heap.size ≤ g) := fun g hg => by
    have e : g = g8 := by simpa [Value.ownBlock] using hg.symm
    subst e
    rcases HB8.out with h | h
    · exact Or.inl h
    · exact Or.inr (Nat.le_trans K1.out.size h)
  clear q1 q2 q3 HO8 HG8 HB8 K8 hS0 hS7 hS8 B8
  go_wp2_with fail
  go_ret
  exact ⟨rfl, _, FIN.out, FK.out, FB.out⟩
end Go.Proofs.Ytcmgmgnmhhkdgaa
