import Derived.Test.YtabcibmdbancdaaXRef
namespace Go.Proofs.Ytabcibmdbancdaa
open Go.RowKit Go.Sort Go.Maps
attribute [local go_sem ↓] Go.wp_at_zero Go.wp_at_succ
set_option maxHeartbeats 1000000 in
theorem rmint_full {rb : Nat} {v : Value} {most last : Int} {L : List Hd} (s : Sp) (w : World) (h : Rc w rb v most last L) (hm : most ≤ (L.length : Int)) :
    Calls Try.prog 23 #[.pointer (some ⟨rb, 0, none⟩), sv s] w fun e w' => e = .returned (.tuple #[.int .i64 0, .int .i64 44]) ∧ Gr w w' := by
  have hmx : Try.prog.follows .mixedOrders = true := by kernel_rfl
  have c0 := h.c0
  have c2 := h.c2
  have hlt := h.lt
  obtain ⟨pv, cv, rfl⟩ := h.ls.form
  obtain ⟨p, x, y, z⟩ := s
  clear h
  go_enter Try.func23, Try.ntmps23
  go_upto_region 1 with fail
  go_quiet (fail)
  go_wp2
  exact bodyPost_ret (v := .tuple #[.int .i64 0, .int .i64 44]) (by simp [results, Try.results23, go_sem]) rfl ⟨rfl, ((Gr.refl _).alloc _).drewN _⟩
set_option maxRecDepth 100000 in
set_option maxHeartbeats 2000000 in
theorem rmint_ok {rb : Nat} {v : Value} {most last : Int} {L : List Hd} (s : Sp) (w : World) (h : Rc w rb v most last L) (hm : (L.length : Int) < most) (hlo : 0 ≤ last) (hl : last < 3000000000000) (hl2 : L.length < 3000000000000) :
    Calls Try.prog 23 #[.pointer (some ⟨rb, 0, none⟩), sv s] w fun e w' => e = .returned (.tuple #[.int .i64 (last + 1), .int .i64 0]) ∧ ∃ v', Rc w' rb v' most (last + 1) (L ++ [(last + 1, s)]) ∧ Kp (fun k => k = rb ∨ v.ownBlock = some k) w w' ∧ (∀ g, v'.ownBlock = some g → v.ownBlock = some g ∨ w.heap.size ≤ g) := by
  have hmx : Try.prog.follows .mixedOrders = true := by kernel_rfl
  have HC := hid h
  have c0 := h.c0
  have c1 := h.c1
  have c2 := h.c2
  have fz := h.fz 1
  have hlt := h.lt
  have hnm : ¬ most ≤ (L.length : Int) := by omega
  have hwr : IntKind.i64.wrap (last + 1) = last + 1 := by rw [IntKind.wrap_i64]; omega
  obtain ⟨pv, cv, rfl⟩ := h.ls.form
  obtain ⟨p, x, y, z⟩ := s
  clear h
  go_enter Try.func23, Try.ntmps23
  go_upto_region 1 with fail
  go_quiet (fail)
  go_upto_region 4 with fail
  have HC5 : Hid (Rc ((w.alloc (.cells #[.int .i64 p, .int .u64 x, .int .u64 y, .int .u64 z] 31)).drewN nq) rb (.slice pv L.length cv) most last L) := HC.out.gr (((Gr.refl w).alloc _).drewN nq)
  have hcell : ∀ i v, (#[Value.int .i64 p, .int .u64 x, .int .u64 y, .int .u64 z])[i]? = some v → ((w.alloc (.cells #[.int .i64 p, .int .u64 x, .int .u64 y, .int .u64 z] 31)).drewN nq).cell? ⟨w.heap.size, i, none⟩ = some v := fun i v hv => cell_new w _ _ i v hv
  have G5 : Hid (Gr w ((w.alloc (.cells #[.int .i64 p, .int .u64 x, .int .u64 y, .int .u64 z] 31)).drewN nq)) := ((Gr.refl w).alloc _).drewN nq
  have hsz : w.heap.size < ((w.alloc (.cells #[.int .i64 p, .int .u64 x, .int .u64 y, .int .u64 z] 31)).drewN nq).heap.size := by simp [World.drewN]
  have hvl : ∀ g, (Value.slice pv L.length cv).ownBlock = some g → g < w.heap.size := fun g hg => (HC.out.row.lt g hg).2
  generalize ((w.alloc (.cells #[.int .i64 p, .int .u64 x, .int .u64 y, .int .u64 z] 31)).drewN nq) = W5 at *
  obtain ⟨b6, k6, z6⟩ := setCell_blk (k := 1) (v := .int .i64 (last + 1)) HC5.out.blk
  have HRW : Hid ((W5.setCell ⟨rb, 1, none⟩ (.int .i64 (last + 1))).ownsRow 0 38 5 (.slice pv L.length cv) L.length (fl EH L)) := owns_kp k6 HC5.out.row (fun k hk e => HC.out.off (e ▸ hk))
  have k6' := hid k6
  generalize (W5.setCell ⟨rb, 1, none⟩ (.int .i64 (last + 1))) = W6 at *
  have b6' : W6.heap[rb]? = some (.cells #[.int .i64 most, .int .i64 (last + 1), .slice pv L.length cv] 66 (0, 0)) := b6
  have hrb6 : rb < W6.heap.size := by rw [z6]; exact HC5.out.lt
  have hS0 : W6.cell? ⟨rb, 2, none⟩ = some (.slice pv L.length cv) ∧ W6.cell? ⟨rb, 1, none⟩ = some (.int .i64 (last + 1)) ∧ W6.cell? ⟨w.heap.size, 0, none⟩ = some (.int .i64 p) ∧ W6.cell? ⟨w.heap.size, 1, none⟩ = some (.int .u64 x) ∧ W6.cell? ⟨w.heap.size, 2, none⟩ = some (.int .u64 y) ∧ W6.cell? ⟨w.heap.size, 3, none⟩ = some (.int .u64 z) := by
    have hk : ∀ i, W6.cell? ⟨w.heap.size, i, none⟩ = W5.cell? ⟨w.heap.size, i, none⟩ := fun i => k6.cell hsz (by omega)
    refine ⟨by simp [World.cell?, b6], by simp [World.cell?, b6], (hk 0).trans (hcell 0 _ rfl), (hk 1).trans (hcell 1 _ rfl), (hk 2).trans (hcell 2 _ rfl), (hk 3).trans (hcell 3 _ rfl)⟩
  have hz6 : w.heap.size < W6.heap.size := by omega
  have B6 := hid b6'
  clear c0 c1 c2 fz k6 b6 b6' hcell hsz z6
  refine wp_regionD (S := fun W => W.cell? ⟨rb, 2, none⟩ = some (.slice pv L.length cv) ∧ W.cell? ⟨rb, 1, none⟩ = some (.int .i64 (last + 1)) ∧ W.cell? ⟨w.heap.size, 0, none⟩ = some (.int .i64 p) ∧ W.cell? ⟨w.heap.size, 1, none⟩ = some (.int .u64 x) ∧ W.cell? ⟨w.heap.size, 2, none⟩ = some (.int .u64 y) ∧ W.cell? ⟨w.heap.size, 3, none⟩ = some (.int .u64 z)) (D := [15]) hmx ?_
  refine' wpAnyD_take (i := 0) (oi := { dst := some 23, op := Go.Op.move (Go.Operand.tmp 0), type := 46, pos := "ref.go:42", after := #[], guard := none }) (v := _) rfl (by kernel_rfl) (by kernel_rfl) (by kernel_rfl) (fun _ _ _ h => h) (by kernel_rfl) (Or.inl ⟨by rfl, ?hy1⟩) hS0 ?rest1
  case hy1 => (intro W hSw; go_simp; try (with_reducible rfl))
  try simp only [Act.put, List.setIfInBounds_toArray, List.set_cons_zero, List.set_cons_succ]
  refine' wpAnyD_take (i := 1) (oi := { dst := some 24, op := Go.Op.move (Go.Operand.tmp 0), type := 46, pos := "ref.go:42", after := #[], guard := none }) (v := _) rfl (by kernel_rfl) (by kernel_rfl) (by kernel_rfl) (fun _ _ _ h => h) (by kernel_rfl) (Or.inl ⟨by rfl, ?hy2⟩) hS0 ?rest2
  case hy2 => (intro W hSw; go_simp; try (with_reducible rfl))
  try simp only [Act.put, List.setIfInBounds_toArray, List.set_cons_zero, List.set_cons_succ]
  refine' wpAnyD_take (i := 2) (oi := { dst := some 25, op := Go.Op.nilCheck (Go.Operand.tmp 24), type := 0, pos := "ref.go:42", after := #[{ on := 1, ground := Go.Ground.data }], guard := none }) (v := _) rfl (by kernel_rfl) (by kernel_rfl) (by kernel_rfl) (fun _ _ _ h => h) (by kernel_rfl) (Or.inl ⟨by rfl, ?hy3⟩) hS0 ?rest3
  case hy3 => (intro W hSw; go_simp; try (with_reducible rfl))
  try simp only [Act.put, List.setIfInBounds_toArray, List.set_cons_zero, List.set_cons_succ]
  refine' wpAnyD_take (i := 3) (oi := { dst := some 26, op := Go.Op.fieldAddr 66 (Go.Operand.tmp 25) 2, type := 0, pos := "ref.go:42", after := #[{ on := 2, ground := Go.Ground.data }], guard := none }) (v := _) rfl (by kernel_rfl) (by kernel_rfl) (by kernel_rfl) (fun _ _ _ h => h) (by kernel_rfl) (Or.inl ⟨by rfl, ?hy4⟩) hS0 ?rest4
  case hy4 => (intro W hSw; go_simp; try (with_reducible rfl))
  try simp only [Act.put, List.setIfInBounds_toArray, List.set_cons_zero, List.set_cons_succ]
  refine' wpAnyD_take (i := 4) (oi := { dst := some 27, op := Go.Op.load 26 (Go.Operand.tmp 26), type := 26, pos := "ref.go:42", after := #[{ on := 3, ground := Go.Ground.data }], guard := none }) (v := _) rfl (by kernel_rfl) (by kernel_rfl) (by kernel_rfl) (fun _ _ _ h => h) (by kernel_rfl) (Or.inl ⟨by rfl, ?hy5⟩) hS0 ?rest5
  case hy5 => (intro W hSw; obtain ⟨s0, s1, s2, s3, s4, s5⟩ := hSw; go_simp; try (with_reducible rfl))
  try simp only [Act.put, List.setIfInBounds_toArray, List.set_cons_zero, List.set_cons_succ]
  refine' wpAnyD_take (i := 5) (oi := { dst := some 28, op := Go.Op.move (Go.Operand.tmp 0), type := 46, pos := "ref.go:42", after := #[], guard := none }) (v := _) rfl (by kernel_rfl) (by kernel_rfl) (by kernel_rfl) (fun _ _ _ h => h) (by kernel_rfl) (Or.inl ⟨by rfl, ?hy6⟩) hS0 ?rest6
  case hy6 => (intro W hSw; go_simp; try (with_reducible rfl))
  try simp only [Act.put, List.setIfInBounds_toArray, List.set_cons_zero, List.set_cons_succ]
  refine' wpAnyD_take (i := 6) (oi := { dst := some 29, op := Go.Op.nilCheck (Go.Operand.tmp 28), type := 0, pos := "ref.go:42", after := #[{ on := 5, ground := Go.Ground.data }], guard := none }) (v := _) rfl (by kernel_rfl) (by kernel_rfl) (by kernel_rfl) (fun _ _ _ h => h) (by kernel_rfl) (Or.inl ⟨by rfl, ?hy7⟩) hS0 ?rest7
  case hy7 => (intro W hSw; go_simp; try (with_reducible rfl))
  try simp only [Act.put, List.setIfInBounds_toArray, List.set_cons_zero, List.set_cons_succ]
  refine' wpAnyD_take (i := 7) (oi := { dst := some 30, op := Go.Op.fieldAddr 66 (Go.Operand.tmp 29) 1, type := 0, pos := "ref.go:42", after := #[{ on := 6, ground := Go.Ground.data }], guard := none }) (v := _) rfl (by kernel_rfl) (by kernel_rfl) (by kernel_rfl) (fun _ _ _ h => h) (by kernel_rfl) (Or.inl ⟨by rfl, ?hy8⟩) hS0 ?rest8
  case hy8 => (intro W hSw; go_simp; try (with_reducible rfl))
  try simp only [Act.put, List.setIfInBounds_toArray, List.set_cons_zero, List.set_cons_succ]
  refine' wpAnyD_take (i := 8) (oi := { dst := some 31, op := Go.Op.load 3 (Go.Operand.tmp 30), type := 3, pos := "ref.go:42", after := #[{ on := 7, ground := Go.Ground.data }], guard := none }) (v := _) rfl (by kernel_rfl) (by kernel_rfl) (by kernel_rfl) (fun _ _ _ h => h) (by kernel_rfl) (Or.inl ⟨by rfl, ?hy9⟩) hS0 ?rest9
  case hy9 => (intro W hSw; obtain ⟨s0, s1, s2, s3, s4, s5⟩ := hSw; go_simp; try (with_reducible rfl))
  try simp only [Act.put, List.setIfInBounds_toArray, List.set_cons_zero, List.set_cons_succ]
  refine' wpAnyD_take (i := 9) (oi := { dst := some 32, op := Go.Op.load 31 (Go.Operand.tmp 3), type := 31, pos := "ref.go:42", after := #[], guard := none }) (v := _) rfl (by kernel_rfl) (by kernel_rfl) (by kernel_rfl) (fun _ _ _ h => h) (by kernel_rfl) (Or.inl ⟨by rfl, ?hy10⟩) hS0 ?rest10
  case hy10 => (intro W hSw; obtain ⟨s0, s1, s2, s3, s4, s5⟩ := hSw; go_simp; try (with_reducible rfl))
  try simp only [Act.put, List.setIfInBounds_toArray, List.set_cons_zero, List.set_cons_succ]
  refine' wpAnyD_take (i := 10) (oi := { dst := some 33, op := Go.Op.build 38 #[(0, Go.Operand.tmp 31), (1, Go.Operand.tmp 32)], type := 38, pos := "ref.go:42", after := #[{ on := 8, ground := Go.Ground.data }, { on := 9, ground := Go.Ground.data }], guard := none }) (v := _) rfl (by kernel_rfl) (by kernel_rfl) (by kernel_rfl) (fun _ _ _ h => h) (by kernel_rfl) (Or.inl ⟨by rfl, ?hy11⟩) hS0 ?rest11
  case hy11 => (intro W hSw; go_simp; try (with_reducible rfl))
  try simp only [Act.put, List.setIfInBounds_toArray, List.set_cons_zero, List.set_cons_succ]
  refine wpAnyD_one (i := 11) (o := { dst := some 34, op := Go.Op.buildSlice 26 1 #[(0, Go.Operand.tmp 33)], type := 26, pos := "ref.go:42", after := #[{ on := 10, ground := Go.Ground.data }], guard := none }) (by kernel_rfl) rfl (fun K hK => ?_)
  go_simp
  have hS1 : (fun W => W.cell? ⟨rb, 2, none⟩ = some (.slice pv L.length cv) ∧ W.cell? ⟨rb, 1, none⟩ = some (.int .i64 (last + 1)) ∧ W.cell? ⟨w.heap.size, 0, none⟩ = some (.int .i64 p) ∧ W.cell? ⟨w.heap.size, 1, none⟩ = some (.int .u64 x) ∧ W.cell? ⟨w.heap.size, 2, none⟩ = some (.int .u64 y) ∧ W.cell? ⟨w.heap.size, 3, none⟩ = some (.int .u64 z)) (W6.drew.alloc (.cells #[.int .i64 (last + 1), .int .i64 p, .int .u64 x, .int .u64 y, .int .u64 z] 38)) := by
    have g := ((Gr.refl W6).drew.alloc (.cells #[.int .i64 (last + 1), .int .i64 p, .int .u64 x, .int .u64 y, .int .u64 z] 38))
    exact ⟨(g.cell hrb6).trans hS0.1, (g.cell hrb6).trans hS0.2.1, (g.cell hz6).trans hS0.2.2.1, (g.cell hz6).trans hS0.2.2.2.1, (g.cell hz6).trans hS0.2.2.2.2.1, (g.cell hz6).trans hS0.2.2.2.2.2⟩
  refine hK.out _ _ (fun hD => hS1) ?_
  clear hK K
  try simp only [Act.put, List.setIfInBounds_toArray, List.set_cons_zero, List.set_cons_succ]
  refine wpAnyD_one (i := 12) (o := { dst := some 35, op := Go.Op.call { callee := Go.Callee.builtin Go.Builtin.append, args := #[Go.Operand.tmp 27, Go.Operand.tmp 34], argTypes := #[26, 26] }, type := 26, pos := "ref.go:42", after := #[{ on := 4, ground := Go.Ground.data }, { on := 11, ground := Go.Ground.data }], guard := none }) (by kernel_rfl) rfl (fun K hK => ?_)
  refine step_app1 EH Try.underlying26 infoH rfl (by decide) rfl _ _ rfl 0 (.slice pv L.length cv) L.length (fl EH L) rfl (show (W6.drew).ownsRow 0 38 5 (.slice pv L.length cv) L.length (fl EH L) from HRW.out) (last + 1, p, x, y, z) (by first | rfl | simp) (by omega) (by unfold maxLen; omega) (Nat.zero_le _) _ rfl _ ?_
  intro g8 cap8 w8 HO8 HG8 HB8
  have k8 : Kp (fun k => (Value.slice pv L.length cv).ownBlock = some k) W6 w8 := Kp.grownBy (show W6.grownBy w8 (Value.slice pv L.length cv).ownBlock from ⟨HG8.out.os, HG8.out.tape, HG8.out.output, HG8.out.size, HG8.out.block⟩) (fun k hk => hk)
  have hS8 : (fun W => W.cell? ⟨rb, 2, none⟩ = some (.slice pv L.length cv) ∧ W.cell? ⟨rb, 1, none⟩ = some (.int .i64 (last + 1)) ∧ W.cell? ⟨w.heap.size, 0, none⟩ = some (.int .i64 p) ∧ W.cell? ⟨w.heap.size, 1, none⟩ = some (.int .u64 x) ∧ W.cell? ⟨w.heap.size, 2, none⟩ = some (.int .u64 y) ∧ W.cell? ⟨w.heap.size, 3, none⟩ = some (.int .u64 z)) w8 := by
    have c1 : ∀ o, w8.cell? ⟨rb, o, none⟩ = W6.cell? ⟨rb, o, none⟩ := fun o => k8.cell hrb6 HC.out.off
    have c2 : ∀ o, w8.cell? ⟨w.heap.size, o, none⟩ = W6.cell? ⟨w.heap.size, o, none⟩ := fun o => k8.cell hz6 (fun e => by have := hvl _ e; omega)
    exact ⟨(c1 2).trans hS0.1, (c1 1).trans hS0.2.1, (c2 0).trans hS0.2.2.1, (c2 1).trans hS0.2.2.2.1, (c2 2).trans hS0.2.2.2.2.1, (c2 3).trans hS0.2.2.2.2.2⟩
  have B8 : Hid (w8.heap[rb]? = some (.cells #[.int .i64 most, .int .i64 (last + 1), .slice pv L.length cv] 66 (0, 0))) := (k8.block rb hrb6 HC.out.off).trans B6.out
  have K8 := hid k8
  clear k8
  refine hK.out _ _ (fun hD => hS8) ?_
  clear hK K
  try simp only [Act.put, List.setIfInBounds_toArray, List.set_cons_zero, List.set_cons_succ]
  refine wpAnyD_one (i := 13) (o := { dst := some 36, op := Go.Op.nilCheck (Go.Operand.tmp 23), type := 0, pos := "ref.go:42", after := #[{ on := 0, ground := Go.Ground.data }, { on := 0, ground := Go.Ground.phase }, { on := 1, ground := Go.Ground.phase }, { on := 2, ground := Go.Ground.phase }, { on := 3, ground := Go.Ground.phase }, { on := 4, ground := Go.Ground.phase }, { on := 5, ground := Go.Ground.phase }, { on := 6, ground := Go.Ground.phase }, { on := 7, ground := Go.Ground.phase }, { on := 8, ground := Go.Ground.phase }, { on := 9, ground := Go.Ground.phase }, { on := 10, ground := Go.Ground.phase }, { on := 11, ground := Go.Ground.phase }, { on := 12, ground := Go.Ground.phase }], guard := none }) (by kernel_rfl) rfl (fun K hK => ?_)
  go_simp
  refine hK.out _ _ (fun hD => hS8) ?_
  clear hK K
  try simp only [Act.put, List.setIfInBounds_toArray, List.set_cons_zero, List.set_cons_succ]
  refine' wpAnyD_take (i := 14) (oi := { dst := some 37, op := Go.Op.fieldAddr 66 (Go.Operand.tmp 36) 2, type := 0, pos := "ref.go:42", after := #[{ on := 13, ground := Go.Ground.data }, { on := 0, ground := Go.Ground.phase }, { on := 1, ground := Go.Ground.phase }, { on := 2, ground := Go.Ground.phase }, { on := 3, ground := Go.Ground.phase }, { on := 4, ground := Go.Ground.phase }, { on := 5, ground := Go.Ground.phase }, { on := 6, ground := Go.Ground.phase }, { on := 7, ground := Go.Ground.phase }, { on := 8, ground := Go.Ground.phase }, { on := 9, ground := Go.Ground.phase }, { on := 10, ground := Go.Ground.phase }, { on := 11, ground := Go.Ground.phase }, { on := 12, ground := Go.Ground.phase }], guard := none }) (v := _) rfl (by kernel_rfl) (by kernel_rfl) (by kernel_rfl) (fun _ _ _ h => h) (by kernel_rfl) (Or.inl ⟨by rfl, ?hy15⟩) hS8 ?rest15
  case hy15 => (intro W hSw; go_simp; try (with_reducible rfl))
  try simp only [Act.put, List.setIfInBounds_toArray, List.set_cons_zero, List.set_cons_succ]
  refine wpAnyD_one (i := 15) (o := { dst := none, op := Go.Op.store 26 (Go.Operand.tmp 37) (Go.Operand.tmp 35), type := 0, pos := "ref.go:42", after := #[{ on := 14, ground := Go.Ground.data }, { on := 12, ground := Go.Ground.data }, { on := 12, ground := Go.Ground.chain }, { on := 0, ground := Go.Ground.phase }, { on := 1, ground := Go.Ground.phase }, { on := 2, ground := Go.Ground.phase }, { on := 3, ground := Go.Ground.phase }, { on := 4, ground := Go.Ground.phase }, { on := 5, ground := Go.Ground.phase }, { on := 6, ground := Go.Ground.phase }, { on := 7, ground := Go.Ground.phase }, { on := 8, ground := Go.Ground.phase }, { on := 9, ground := Go.Ground.phase }, { on := 10, ground := Go.Ground.phase }, { on := 11, ground := Go.Ground.phase }, { on := 12, ground := Go.Ground.phase }], guard := none }) (by kernel_rfl) rfl (fun K hK => ?_)
  have s0 := hS8.1
  have f0 : w8.frozen? ⟨rb, 2, none⟩ = false := by simp [World.frozen?, B8.out]
  have l0 : rb < w8.heap.size := blkLt B8.out
  go_simp
  clear s0 f0 l0
  refine hK.out _ _ (fun hD => absurd (by decide) hD) ?_
  clear hK K
  try simp only [Act.put, List.setIfInBounds_toArray, List.set_cons_zero, List.set_cons_succ]
  refine wpAnyD_done (by kernel_rfl) ?_ _
  obtain ⟨b9, k9, z9⟩ := setCell_blk (k := 2) (v := .slice (some ⟨g8, 0, none⟩) (L.length + 1) cap8) B8.out
  have R9 := owns_kp k9 HO8.out (fun k hk e => by
    simp [Value.ownBlock] at hk
    rcases HB8.out with hb | hb
    · exact HC.out.off (by rw [hb, hk, e])
    · have : W6.heap.size ≤ g8 := hb
      omega)
  have K9 := hid (And.intro b9 (And.intro k9 R9))
  clear b9 k9 z9 R9
  generalize (w8.setCell ⟨rb, 2, none⟩ (.slice (some ⟨g8, 0, none⟩) (L.length + 1) cap8)) = W9 at *
  have c19 : W9.cell? ⟨rb, 1, none⟩ = some (.int .i64 (last + 1)) := by simp [World.cell?, K9.out.1]
  have l19 : rb < W9.heap.size := blkLt K9.out.1
  go_wp2
  refine bodyPost_ret (v := .tuple #[.int .i64 (last + 1), .int .i64 0]) (by simp [results, Try.results23, go_sem]) rfl ?_
  refine ⟨rfl, .slice (some ⟨g8, 0, none⟩) (L.length + 1) cap8, ⟨K9.out.1, ?_⟩, ?_, fun g hg => ?_⟩
  · rw [List.length_append, fl_append]
    exact K9.out.2.2
  · exact (((Kp.of_gr (S := fun k => k = rb ∨ (Value.slice pv L.length cv).ownBlock = some k) G5.out).trans k6'.out (fun _ _ h => Or.inl h)).trans K8.out (fun _ _ h => Or.inr h)).trans K9.out.2.1 (fun _ _ h => Or.inl h)
  · simp [Value.ownBlock] at hg
    subst hg
    rcases HB8.out with hb | hb
    · exact Or.inl hb
    · have : W6.heap.size ≤ g8 := hb
      right
      omega
end Go.Proofs.Ytabcibmdbancdaa
