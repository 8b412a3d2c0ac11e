import Derived.Test.YtcdmgclkgojgaaaPoNewI
namespace Go.Proofs.Ytcdmgclkgojgaaa.Pi
open Go.RowKit Go.Sort
attribute [local go_sem ↓] Go.wp_at_zero Go.wp_at_succ

/-- Copied so far. -/
def part (Q : Nat → List Th) (n : Nat) : Nat → List Th := fun j => if j < n then Q j else []
theorem part_succ (Q : Nat → List Th) (n : Nat) : upd (part Q n) n (Q n) = part Q (n + 1) := by
  funext j
  unfold part
  by_cases e : j = n
  · subst e; rw [upd_self, if_pos (by omega)]
  · rw [upd_ne _ _ e]
    by_cases h : j < n
    · rw [if_pos h, if_pos (by omega)]
    · rw [if_neg h, if_neg (by omega)]
theorem upd_const {β : Type} (x : β) (i : Nat) : upd (fun _ => x) i x = fun _ => x := by
  funext j
  unfold upd
  split <;> rfl
set_option maxHeartbeats 4000000 in
set_option maxRecDepth 100000 in
theorem copy_any {S : Nat → Prop} {hb W N : Nat} {Q : Nat → List Th} (w : World) (h : Pq w S hb W N Q) (hN : N * 8 ≤ 140737488355328) : Calls Try.prog 25 #[.pointer (some ⟨hb, 0, none⟩)] w fun e w' => e = .returned (.pointer (some ⟨w.heap.size, 0, none⟩)) ∧ Pq w' (fun k => w.heap.size ≤ k ∧ k < w'.heap.size) w.heap.size W N Q ∧ Below w.heap.size w w' := by
  have hmx : Try.prog.follows .mixedOrders = true := by kernel_rfl
  obtain ⟨v, tk, X, hP, e1, e2, e3, e4⟩ := h
  have HP := hid hP
  have HE := hid (And.intro e1 (And.intro e2 hN))
  have c0 := hP.blk.c0
  have hl := hP.blk.lt
  have HW8 := hid hP.w8
  obtain ⟨b2, hb2⟩ : ∃ b2, b2 = w.heap.size := ⟨_, rfl⟩
  obtain ⟨W1, hW1⟩ : ∃ W1, W1 = w.alloc (.cells (Try.zeroCells98.setIfInBounds 0 (.int .i64 (W : Nat))) 98) := ⟨_, rfl⟩
  have G1 : Gr w W1 := by rw [hW1]; exact (Gr.refl _).alloc _
  have HX1 : Hid (W1.heap[b2]? = some (.cells (nil0 W) 98 (0, 0))) := by rw [hW1, hb2, zero_cells]; exact heap_new' _ _
  have HB0 : Hid (w.heap.size ≤ b2) := Nat.le_of_eq hb2.symm
  have HG1 := hid G1
  clear hP e1 e2 e3 e4 hN G1
  go_enter Try.func25, Try.ntmps25
  go_upto_region 4 with fail
  rw [← hb2, ← hW1]
  have HWB : Hid (b2 = w.heap.size) := hb2
  clear hb2 hW1 c0
  have HI0 : Hid (Below w.heap.size w W1 ∧ ∃ v2, Pb W1 b2 W v2 (fun _ => 0) (part Q 0) ∧ ∀ i g, i < 64 → (v2 i).ownBlock = some g → w.heap.size ≤ g) :=
    ⟨HG1.out.below, _, ⟨Bk.nil0 HX1.out, fun _ _ => owns_nil _ _ _ _, fun _ _ => Nat.le_refl _, fun _ _ _ _ _ h => by simp [Value.ownBlock] at h, fun _ _ h => by simp [Value.ownBlock] at h, HW8.out⟩, fun _ _ _ h => by simp [Value.ownBlock] at h⟩
  go_wp2_with fail
  go_loopw [14] (fun s14 wr => ∃ F : Nat, F ≤ 8 ∧ s14 = .int .i64 F ∧ Hid (Below w.heap.size w wr ∧ ∃ v2, Pb wr b2 W v2 (fun _ => 0) (part Q (8 * F)) ∧ ∀ i g, i < 64 → (v2 i).ownBlock = some g → w.heap.size ≤ g)) (fun s14 _ => 8 - (RowKit.intOf s14).toNat)
  case atStart => exact ⟨0, by omega, rfl, HI0⟩
  case round =>
    clear HI0
    obtain ⟨F, hF, rfl, HI⟩ := hrel
    by_cases hlt : F < 8
    · have hltz : (F : Int) < 8 := by omega
      go_wp2_with fail
      go_loopw [17] (fun s17 wr => ∃ T : Nat, T ≤ 8 ∧ s17 = .int .i64 T ∧ Hid (Below w.heap.size w wr ∧ ∃ v2, Pb wr b2 W v2 (fun _ => 0) (part Q (8 * F + T)) ∧ ∀ i g, i < 64 → (v2 i).ownBlock = some g → w.heap.size ≤ g)) (fun s17 _ => 8 - (RowKit.intOf s17).toNat)
      case atStart => exact ⟨0, by omega, rfl, HI⟩
      case round =>
        clear HI
        obtain ⟨T, hT, rfl, HI⟩ := hrel
        by_cases hlt2 : T < 8
        · have hlt2z : (T : Int) < 8 := by omega
          have F0 : (0 : Int) ≤ (F : Int) := by omega
          have T0 : (0 : Int) ≤ (T : Int) := by omega
          have HO : Hid (1 + F * 16 + T * 2 = 1 + 2 * (8 * F + T)) := by show _ = _; omega
          have HIX : Hid (8 * F + T < 64) := by show _ < _; omega
          have hPr := HP.out.below HI.out.1
          have hcp := copied_any (hb := hb) (o := 1 + F * 16 + T * 2) wr.drew (hPr.gr (Gr.refl _).drew).blk.lt (by rw [HO.out]; exact (hPr.gr (Gr.refl _).drew).blk.cv HIX.out) (by rw [HO.out]; exact (hPr.gr (Gr.refl _).drew).blk.ct HIX.out) ((hPr.gr (Gr.refl _).drew).own _ HIX.out) (hPr.le _ HIX.out) (Nat.le_trans (Nat.mul_le_mul_right _ (HE.out.2.1 _ HIX.out)) HE.out.2.2)
          rw [HE.out.1 _ HIX.out] at hcp
          clear hPr
          go_upto_region 10 with fail
          refine wp_regionD (S := fun _ => True) (D := []) hmx ?_
          refine' wpAnyD_take (i := 0) (oi := { dst := some 20, op := Go.Op.move (Go.Operand.tmp 3), type := 49, pos := "post.go:111", after := #[], guard := none }) (v := _) rfl (by kernel_rfl) (by kernel_rfl) (by kernel_rfl) (fun _ _ _ h => h) (by kernel_rfl) (Or.inl ⟨by rfl, ?hy1⟩) trivial ?rest1
          case hy1 => (intro W hSw; go_simp; try (with_reducible rfl))
          try simp only [Act.put, List.setIfInBounds_toArray, List.set_cons_zero, List.set_cons_succ]
          refine' wpAnyD_take (i := 1) (oi := { dst := some 21, op := Go.Op.move (Go.Operand.tmp 4), type := 3, pos := "post.go:111", after := #[], guard := none }) (v := _) rfl (by kernel_rfl) (by kernel_rfl) (by kernel_rfl) (fun _ _ _ h => h) (by kernel_rfl) (Or.inl ⟨by rfl, ?hy2⟩) trivial ?rest2
          case hy2 => (intro W hSw; go_simp; try (with_reducible rfl))
          try simp only [Act.put, List.setIfInBounds_toArray, List.set_cons_zero, List.set_cons_succ]
          refine' wpAnyD_take (i := 2) (oi := { dst := some 22, op := Go.Op.move (Go.Operand.tmp 5), type := 3, pos := "post.go:111", after := #[], guard := none }) (v := _) rfl (by kernel_rfl) (by kernel_rfl) (by kernel_rfl) (fun _ _ _ h => h) (by kernel_rfl) (Or.inl ⟨by rfl, ?hy3⟩) trivial ?rest3
          case hy3 => (intro W hSw; go_simp; try (with_reducible rfl))
          try simp only [Act.put, List.setIfInBounds_toArray, List.set_cons_zero, List.set_cons_succ]
          refine' wpAnyD_take (i := 3) (oi := { dst := some 23, op := Go.Op.move (Go.Operand.tmp 0), type := 49, pos := "post.go:111", after := #[], guard := none }) (v := _) rfl (by kernel_rfl) (by kernel_rfl) (by kernel_rfl) (fun _ _ _ h => h) (by kernel_rfl) (Or.inl ⟨by rfl, ?hy4⟩) trivial ?rest4
          case hy4 => (intro W hSw; go_simp; try (with_reducible rfl))
          try simp only [Act.put, List.setIfInBounds_toArray, List.set_cons_zero, List.set_cons_succ]
          refine' wpAnyD_take (i := 4) (oi := { dst := some 24, op := Go.Op.move (Go.Operand.tmp 4), type := 3, pos := "post.go:111", after := #[], guard := none }) (v := _) rfl (by kernel_rfl) (by kernel_rfl) (by kernel_rfl) (fun _ _ _ h => h) (by kernel_rfl) (Or.inl ⟨by rfl, ?hy5⟩) trivial ?rest5
          case hy5 => (intro W hSw; go_simp; try (with_reducible rfl))
          try simp only [Act.put, List.setIfInBounds_toArray, List.set_cons_zero, List.set_cons_succ]
          refine' wpAnyD_take (i := 5) (oi := { dst := some 25, op := Go.Op.move (Go.Operand.tmp 5), type := 3, pos := "post.go:111", after := #[], guard := none }) (v := _) rfl (by kernel_rfl) (by kernel_rfl) (by kernel_rfl) (fun _ _ _ h => h) (by kernel_rfl) (Or.inl ⟨by rfl, ?hy6⟩) trivial ?rest6
          case hy6 => (intro W hSw; go_simp; try (with_reducible rfl))
          try simp only [Act.put, List.setIfInBounds_toArray, List.set_cons_zero, List.set_cons_succ]
          refine' wpAnyD_take (i := 6) (oi := { dst := some 26, op := Go.Op.nilCheck (Go.Operand.tmp 23), type := 0, pos := "post.go:111", after := #[{ on := 3, ground := Go.Ground.data }], guard := none }) (v := _) rfl (by kernel_rfl) (by kernel_rfl) (by kernel_rfl) (fun _ _ _ h => h) (by kernel_rfl) (Or.inl ⟨by rfl, ?hy7⟩) trivial ?rest7
          case hy7 => (intro W hSw; go_simp; try (with_reducible rfl))
          try simp only [Act.put, List.setIfInBounds_toArray, List.set_cons_zero, List.set_cons_succ]
          refine' wpAnyD_take (i := 7) (oi := { dst := some 27, op := Go.Op.fieldAddr 98 (Go.Operand.tmp 26) 1, type := 0, pos := "post.go:111", after := #[{ on := 6, ground := Go.Ground.data }], guard := none }) (v := _) rfl (by kernel_rfl) (by kernel_rfl) (by kernel_rfl) (fun _ _ _ h => h) (by kernel_rfl) (Or.inl ⟨by rfl, ?hy8⟩) trivial ?rest8
          case hy8 => (intro W hSw; go_simp; try (with_reducible rfl))
          try simp only [Act.put, List.setIfInBounds_toArray, List.set_cons_zero, List.set_cons_succ]
          refine' wpAnyD_take (i := 8) (oi := { dst := some 28, op := Go.Op.indexAddr 96 (Go.Operand.tmp 27) (Go.Operand.tmp 24), type := 0, pos := "post.go:111", after := #[{ on := 7, ground := Go.Ground.data }, { on := 4, ground := Go.Ground.data }], guard := none }) (v := _) rfl (by kernel_rfl) (by kernel_rfl) (by kernel_rfl) (fun _ _ _ h => h) (by kernel_rfl) (Or.inl ⟨by rfl, ?hy9⟩) trivial ?rest9
          case hy9 => (intro W hSw; go_simp; try (with_reducible rfl))
          try simp only [Act.put, List.setIfInBounds_toArray, List.set_cons_zero, List.set_cons_succ]
          refine' wpAnyD_take (i := 9) (oi := { dst := some 29, op := Go.Op.indexAddr 95 (Go.Operand.tmp 28) (Go.Operand.tmp 25), type := 0, pos := "post.go:111", after := #[{ on := 8, ground := Go.Ground.data }, { on := 5, ground := Go.Ground.data }], guard := none }) (v := _) rfl (by kernel_rfl) (by kernel_rfl) (by kernel_rfl) (fun _ _ _ h => h) (by kernel_rfl) (Or.inl ⟨by rfl, ?hy10⟩) trivial ?rest10
          case hy10 => (intro W hSw; go_simp; try (with_reducible rfl))
          try simp only [Act.put, List.setIfInBounds_toArray, List.set_cons_zero, List.set_cons_succ]
          refine' wpAnyD_take (i := 11) (oi := { dst := some 31, op := Go.Op.nilCheck (Go.Operand.tmp 20), type := 0, pos := "post.go:111", after := #[{ on := 0, ground := Go.Ground.data }], guard := none }) (v := _) rfl (by kernel_rfl) (by kernel_rfl) (by kernel_rfl) (fun _ _ _ h => h) (by kernel_rfl) (Or.inl ⟨by rfl, ?hy11⟩) trivial ?rest11
          case hy11 => (intro W hSw; go_simp; try (with_reducible rfl))
          try simp only [Act.put, List.setIfInBounds_toArray, List.set_cons_zero, List.set_cons_succ]
          refine' wpAnyD_take (i := 12) (oi := { dst := some 32, op := Go.Op.fieldAddr 98 (Go.Operand.tmp 31) 1, type := 0, pos := "post.go:111", after := #[{ on := 11, ground := Go.Ground.data }], guard := none }) (v := _) rfl (by kernel_rfl) (by kernel_rfl) (by kernel_rfl) (fun _ _ _ h => h) (by kernel_rfl) (Or.inl ⟨by rfl, ?hy12⟩) trivial ?rest12
          case hy12 => (intro W hSw; go_simp; try (with_reducible rfl))
          try simp only [Act.put, List.setIfInBounds_toArray, List.set_cons_zero, List.set_cons_succ]
          refine' wpAnyD_take (i := 13) (oi := { dst := some 33, op := Go.Op.indexAddr 96 (Go.Operand.tmp 32) (Go.Operand.tmp 21), type := 0, pos := "post.go:111", after := #[{ on := 12, ground := Go.Ground.data }, { on := 1, ground := Go.Ground.data }], guard := none }) (v := _) rfl (by kernel_rfl) (by kernel_rfl) (by kernel_rfl) (fun _ _ _ h => h) (by kernel_rfl) (Or.inl ⟨by rfl, ?hy13⟩) trivial ?rest13
          case hy13 => (intro W hSw; go_simp; try (with_reducible rfl))
          try simp only [Act.put, List.setIfInBounds_toArray, List.set_cons_zero, List.set_cons_succ]
          refine wpAnyD_one (i := 10) (o := { dst := some 30, op := Go.Op.call { callee := Go.Callee.value (Go.Operand.func 51), args := #[Go.Operand.tmp 29], argTypes := #[94] }, type := 94, pos := "post.go:111", after := #[{ on := 9, ground := Go.Ground.data }], guard := none }) (by kernel_rfl) rfl (fun K hK => ?_)
          rw [if_pos (by kernel_rfl)]
          go_simp
          refine hcp.mono ?_
          rintro e w6 ⟨v', rfl, ho6, hB6⟩
          have HC : Hid (∃ v2, Pb ((w6.setCell ⟨b2, 1 + F * 16 + T * 2, none⟩ v').setCell ⟨b2, 1 + F * 16 + T * 2 + 1, none⟩ (.int .i64 ((0 : Nat)))) b2 W v2 (fun _ => 0) (part Q (8 * F + T + 1)) ∧ (∀ i g, i < 64 → (v2 i).ownBlock = some g → w.heap.size ≤ g) ∧ Kp (fun k => w.heap.size ≤ k) w6 ((w6.setCell ⟨b2, 1 + F * 16 + T * 2, none⟩ v').setCell ⟨b2, 1 + F * 16 + T * 2 + 1, none⟩ (.int .i64 ((0 : Nat))))) := by
            obtain ⟨hb, v2, h2, h3⟩ := HI.out
            have h2d := h2.gr (Gr.refl _).drew
            obtain ⟨hc1, hc2⟩ := h2d.copied HIX.out ho6 hB6
            rw [upd_const, part_succ] at hc1
            rw [HO.out]
            refine ⟨_, hc1, fun i g hi hg => ?_, ?_⟩
            · by_cases e : i = 8 * F + T
              · subst e; rw [upd_self] at hg
                exact Nat.le_trans hb.size (ho6.lt g hg).1
              · rw [upd_ne _ _ e] at hg
                exact h3 i g hi hg
            · have hB : Bk w6 b2 W v2 (fun _ => 0) := h2d.blk.kept (hB6.block b2 h2d.blk.lt)
              obtain ⟨y1, y2⟩ := hB.setV HIX.out v'
              obtain ⟨y3, y4⟩ := y1.setT HIX.out 0
              exact (y2.trans y4 (fun _ _ h => h)).mono (fun k e => by rw [e]; exact HB0.out)
          have HFC : Hid ((∀ q, w6.frozen? ⟨b2, q, none⟩ = false) ∧ (∃ x0, w6.cell? ⟨b2, 1 + F * 16 + T * 2, none⟩ = some x0) ∧ (∃ x1, w6.cell? ⟨b2, 1 + F * 16 + T * 2 + 1, none⟩ = some x1) ∧ b2 < w6.heap.size) := by
            obtain ⟨hb, v2, h2, h3⟩ := HI.out
            have h2d := h2.gr (Gr.refl _).drew
            have hB : Bk w6 b2 W v2 (fun _ => 0) := h2d.blk.kept (hB6.block b2 h2d.blk.lt)
            rw [HO.out]
            exact ⟨hB.fz, ⟨_, hB.cv HIX.out⟩, ⟨_, hB.ct HIX.out⟩, hB.lt⟩
          have HB6 : Hid (Below w.heap.size w w6) := HI.out.1.trans (((Gr.refl wr).drew.below.trans hB6).mono HI.out.1.size)
          obtain ⟨p2, n2, c2, rfl⟩ : ∃ p2 n2 c2, v' = .slice p2 n2 c2 := by
            rcases owns_form (owns_base ho6 (Nat.zero_le _)) with ⟨rfl, _⟩ | ⟨g, cap, rfl, _⟩
            · exact ⟨_, _, _, rfl⟩
            · exact ⟨_, _, _, rfl⟩
          clear ho6 hB6 hcp
          dsimp only
          refine hK.out _ _ (fun hD => trivial) ?_
          clear hK K
          try simp only [Act.put, List.setIfInBounds_toArray, List.set_cons_zero, List.set_cons_succ]
          refine' wpAnyD_take (i := 14) (oi := { dst := some 34, op := Go.Op.indexAddr 95 (Go.Operand.tmp 33) (Go.Operand.tmp 22), type := 0, pos := "post.go:111", after := #[{ on := 13, ground := Go.Ground.data }, { on := 2, ground := Go.Ground.data }, { on := 0, ground := Go.Ground.phase }, { on := 1, ground := Go.Ground.phase }, { on := 2, ground := Go.Ground.phase }, { on := 3, ground := Go.Ground.phase }, { on := 4, ground := Go.Ground.phase }, { on := 5, ground := Go.Ground.phase }, { on := 6, ground := Go.Ground.phase }, { on := 7, ground := Go.Ground.phase }, { on := 8, ground := Go.Ground.phase }, { on := 9, ground := Go.Ground.phase }, { on := 10, ground := Go.Ground.phase }], guard := none }) (v := _) rfl (by kernel_rfl) (by kernel_rfl) (by kernel_rfl) (fun _ _ _ h => h) (by kernel_rfl) (Or.inl ⟨by rfl, ?hy15⟩) trivial ?rest15
          case hy15 => (intro W hSw; go_simp; try (with_reducible rfl))
          try simp only [Act.put, List.setIfInBounds_toArray, List.set_cons_zero, List.set_cons_succ]
          refine wpAnyD_one (i := 15) (o := { dst := none, op := Go.Op.store 94 (Go.Operand.tmp 34) (Go.Operand.tmp 30), type := 0, pos := "post.go:111", after := #[{ on := 14, ground := Go.Ground.data }, { on := 10, ground := Go.Ground.data }, { on := 10, ground := Go.Ground.chain }, { on := 0, ground := Go.Ground.phase }, { on := 1, ground := Go.Ground.phase }, { on := 2, ground := Go.Ground.phase }, { on := 3, ground := Go.Ground.phase }, { on := 4, ground := Go.Ground.phase }, { on := 5, ground := Go.Ground.phase }, { on := 6, ground := Go.Ground.phase }, { on := 7, ground := Go.Ground.phase }, { on := 8, ground := Go.Ground.phase }, { on := 9, ground := Go.Ground.phase }, { on := 10, ground := Go.Ground.phase }], guard := none }) (by kernel_rfl) rfl (fun K hK => ?_)
          obtain ⟨hfz, ⟨x0, hx0⟩, ⟨x1, hx1⟩, hb6⟩ := HFC.out
          have hf0 := hfz (1 + F * 16 + T * 2)
          have hf1 := hfz (1 + F * 16 + T * 2 + 1)
          clear hfz
          rw [if_pos (by kernel_rfl)]
          go_simp
          refine hK.out _ _ (fun hD => trivial) ?_
          clear hK K
          try simp only [Act.put, List.setIfInBounds_toArray, List.set_cons_zero, List.set_cons_succ]
          refine wpAnyD_done (by kernel_rfl) ?_ _
          have HI2 : Hid (Below w.heap.size w ((w6.setCell ⟨b2, 1 + F * 16 + T * 2, none⟩ (.slice p2 n2 c2)).setCell ⟨b2, 1 + F * 16 + T * 2 + 1, none⟩ (.int .i64 0)) ∧ ∃ v2, Pb ((w6.setCell ⟨b2, 1 + F * 16 + T * 2, none⟩ (.slice p2 n2 c2)).setCell ⟨b2, 1 + F * 16 + T * 2 + 1, none⟩ (.int .i64 0)) b2 W v2 (fun _ => 0) (part Q (8 * F + (T + 1))) ∧ ∀ i g, i < 64 → (v2 i).ownBlock = some g → w.heap.size ≤ g) := by
            obtain ⟨v2, h2, h3, h4⟩ := HC.out
            exact ⟨HB6.out.trans (h4.below HB6.out.size (fun _ h => h)), v2, h2, h3⟩
          generalize (w6.setCell ⟨b2, 1 + F * 16 + T * 2, none⟩ (.slice p2 n2 c2)).setCell ⟨b2, 1 + F * 16 + T * 2 + 1, none⟩ (.int .i64 0) = w7 at *
          clear hx0 hx1 hb6 hf0 hf1
          go_wp2_with fail
          go_roundw
          case rel => exact ⟨T + 1, hlt2, by simp, HI2⟩
          case measure => simp [RowKit.intOf]; omega
        · have hlt2z : ¬ (T : Int) < 8 := by omega
          have hTW : T = 8 := by omega
          subst hTW
          go_wp2_with fail
          go_roundw
          case rel => exact ⟨F + 1, hlt, by simp, HI⟩
          case measure => simp [RowKit.intOf]; omega
    · have hltz : ¬ (F : Int) < 8 := by omega
      have hFW : F = 8 := by omega
      subst hFW
      go_wp2
      go_ret
      obtain ⟨hb, v2, h2, h3⟩ := HI.out
      rw [← HWB.out]
      refine ⟨rfl, ⟨v2, _, _, h2, fun i hi => ?_, fun i hi => ?_, ⟨Nat.le_refl _, h2.blk.lt⟩, fun i g hi hg => ⟨by rw [HWB.out]; exact h3 i g hi hg, h2.row hi g hg⟩⟩, by rw [HWB.out]; exact hb⟩
      · rw [List.drop_zero]; unfold part; rw [if_pos (by omega)]
      · unfold part; rw [if_pos (by omega), ← HE.out.1 i hi, List.length_drop]
        exact Nat.le_trans (Nat.sub_le _ _) (HE.out.2.1 i hi)
end Go.Proofs.Ytcdmgclkgojgaaa.Pi
