import Derived.Test.YtcdmgclkgojgaaaPoPutI
namespace Go.Proofs.Ytcdmgclkgojgaaa.Pi
open Go.RowKit Go.Sort
attribute [local go_sem ↓] Go.wp_at_zero Go.wp_at_succ

/-- What a drop leaves of a link. -/
def Drp (w : World) (hb W : Nat) (v : Nat → Value) (tk : Nat → Nat) (X : Nat → List Th) (i : Nat) (w' : World) : Prop :=
  ∃ u t Y, Pb w' hb W (upd v i u) (upd tk i t) (upd X i Y) ∧ Y.drop t = (X i).drop (tk i + 1) ∧ Y.length ≤ (X i).length ∧ Trn hb (v i) w w' ∧ ∀ g, u.ownBlock = some g → (v i).ownBlock = some g ∨ w.heap.size ≤ g
theorem Pb.dropped {w w3 : World} {hb W : Nat} {v : Nat → Value} {tk : Nat → Nat} {X : Nat → List Th} (h : Pb w hb W v tk X) {i : Nat} (hi : i < 64) (hlt : tk i < (X i).length) (ho : w3.ownsRow 0 3 1 (v i) (X i).length (fl ET ((X i).set (tk i) tz)))
    (hk : Kp (fun k => (v i).ownBlock = some k) w w3) : Pb (w3.setCell ⟨hb, 1 + 2 * i + 1, none⟩ (.int .i64 ((tk i + 1 : Nat)))) hb W (upd v i (v i)) (upd tk i (tk i + 1)) (upd X i ((X i).set (tk i) tz)) ∧ Trn hb (v i) w (w3.setCell ⟨hb, 1 + 2 * i + 1, none⟩ (.int .i64 ((tk i + 1 : Nat)))) := by
  have hB : Bk w3 hb W v tk := h.blk.kept (hk.block hb h.blk.lt (h.off i hi))
  obtain ⟨b1, b2⟩ := hB.setT hi (tk i + 1)
  have hK : Trn hb (v i) w (w3.setCell ⟨hb, 1 + 2 * i + 1, none⟩ (.int .i64 ((tk i + 1 : Nat)))) := (hk.mono (fun _ h => Or.inr h)).trans b2 (fun _ _ h => Or.inl h)
  refine ⟨h.turn hi (by rw [upd_id]; exact b1) ?_ ?_ hK (fun g hg => Or.inl hg), hK⟩
  · have := owns_kp b2 ho (fun k hk e => h.off i hi (e ▸ hk))
    exact owns_re this (by simp) rfl
  · simp; omega
theorem upd_upd {β : Type} (f : Nat → β) (i : Nat) (x y : β) : upd (upd f i x) i y = upd f i y := by
  funext j
  by_cases e : j = i <;> simp [upd, e]
theorem drop_set {α : Type} (l : List α) (n : Nat) (z : α) : (l.set n z).drop (n + 1) = l.drop (n + 1) := by
  rw [List.drop_set]
  simp
/-- The link is copied. -/
theorem Pb.copied {w w3 : World} {hb W : Nat} {v : Nat → Value} {tk : Nat → Nat} {X : Nat → List Th} (h : Pb w hb W v tk X) {i : Nat} (hi : i < 64) {u : Value} {Y : List Th} (ho : w3.ownsRow w.heap.size 3 1 u Y.length (fl ET Y))
    (hk : Below w.heap.size w w3) : Pb ((w3.setCell ⟨hb, 1 + 2 * i, none⟩ u).setCell ⟨hb, 1 + 2 * i + 1, none⟩ (.int .i64 ((0 : Nat)))) hb W (upd v i u) (upd tk i 0) (upd X i Y) ∧ Trn hb (v i) w ((w3.setCell ⟨hb, 1 + 2 * i, none⟩ u).setCell ⟨hb, 1 + 2 * i + 1, none⟩ (.int .i64 ((0 : Nat)))) := by
  have hB : Bk w3 hb W v tk := h.blk.kept (hk.block hb h.blk.lt)
  obtain ⟨b1, b2⟩ := hB.setV hi u
  obtain ⟨b3, b4⟩ := b1.setT hi 0
  have b5 := b2.trans b4 (fun _ _ h => h)
  have hK : Trn hb (v i) w ((w3.setCell ⟨hb, 1 + 2 * i, none⟩ u).setCell ⟨hb, 1 + 2 * i + 1, none⟩ (.int .i64 ((0 : Nat)))) := (Kp.of_below hk).trans b5 (fun _ _ h => Or.inl h)
  refine ⟨h.turn hi b3 ?_ (Nat.zero_le _) hK (fun g hg => Or.inr (ho.lt g hg).1), hK⟩
  exact owns_base (owns_kp b5 ho (fun k hk e => by have h1 := (ho.lt k hk).1; have h2 := h.blk.lt; omega)) (Nat.zero_le _)
set_option maxHeartbeats 4000000 in
set_option maxRecDepth 100000 in
theorem ldrop_any {hb W : Nat} {v : Nat → Value} {tk : Nat → Nat} {X : Nat → List Th} {i : Nat} (w : World) (h : Pb w hb W v tk X) (hi : i < 64) (hlt : tk i < (X i).length) (hbig : (X i).length * 8 ≤ 140737488355328) :
    Calls Try.prog 61 #[.pointer (some ⟨hb, 1 + 2 * i, none⟩)] w fun e w' => e = .returned (.tuple #[]) ∧ Drp w hb W v tk X i w' := by
  have hmx : Try.prog.follows .mixedOrders = true := by kernel_rfl
  have HP := hid h
  have HI := hid hi
  obtain ⟨o, ho⟩ : ∃ o, o = 1 + 2 * i := ⟨_, rfl⟩
  have c0 := h.blk.cv hi
  have c1 := h.blk.ct hi
  rw [← ho] at c0 c1 ⊢
  have HO := hid ho
  have hl := h.blk.lt
  obtain ⟨T, hT⟩ : ∃ T, T = tk i := ⟨_, rfl⟩
  rw [← hT] at c1 hlt
  have HT := hid hT
  rcases owns_form (h.own i hi) with ⟨_, h0⟩ | ⟨g, cap, hv, hn, hm, hgl⟩
  · omega
  rw [hv] at c0
  have HV := hid hv
  have HOW : Hid (w.drew.ownsRow 0 3 1 (.slice (some ⟨g, 0, none⟩) (X i).length cap) (X i).length (fl ET (X i))) := by
    rw [← hv]; exact owns_below (h.own i hi) (Gr.refl _).drew.below
  have hgh : g ≠ hb := fun e => h.off i hi (by rw [hv, e]; rfl)
  obtain ⟨w3, hrun, ho3, hk3⟩ := owns_clear1 (P := Try.prog) (E := ET) (w := w.drew) (sT := 63) (z := .int .i64 0) (i := T) 0 (cap - T) Try.underlying63 zeroI tz zcI HOW.out rfl hlt
  have hrun : Sem.run Try.prog (Builtin.clear_ #[63] 0 #[.slice (some ⟨g, T, none⟩) 1 (cap - T)]) w.drew = .ok (.tuple #[]) w3 := by
    have e : T * ET.k = T := by simp [ET]
    rw [e] at hrun
    exact hrun
  have hk30 : Kp (fun k => k = g) w w3 := (Kp.of_gr (Gr.refl _).drew).trans hk3 (fun _ _ h => h)
  have d0 : w3.cell? ⟨hb, o, none⟩ = some (.slice (some ⟨g, 0, none⟩) (X i).length cap) := (hk30.cell hl (fun e => hgh e.symm)).trans c0
  have d1 : w3.cell? ⟨hb, o + 1, none⟩ = some (.int .i64 (T : Nat)) := (hk30.cell hl (fun e => hgh e.symm)).trans c1
  have hl3 : hb < w3.heap.size := Nat.lt_of_lt_of_le hl hk30.size
  have HKV : Hid (Kp (fun k => (v i).ownBlock = some k) w w3) := hk30.mono (fun k e => by rw [hv, e]; rfl)
  have e1 : w3.frozen? ⟨hb, o + 1, none⟩ = false := (h.blk.kept (hk30.block hb hl (fun e => hgh e.symm))).fz _
  have HP4 := hid (h.dropped hi (by omega) (by rw [hv, ← hT]; exact ho3) HKV.out)
  rw [← ho, ← hT] at HP4
  have a1 : (0 : Int) ≤ (T : Int) := by omega
  have a2 : (T : Int) ≤ (T : Int) + 1 := by omega
  have a3 : (T : Int) + 1 ≤ (cap : Int) := by omega
  have a4 : (T : Int) < 9223372036854775807 := by unfold maxLen at hm; omega
  have a5 : ¬ (cap = T) := by omega
  have a6 : T + 1 - T = 1 := by omega
  have HLT := hid hlt
  have HW : Hid (IntKind.i64.wrap ((T : Int) + 1) = (T : Int) + 1) := by show _ = _; rw [IntKind.wrap_i64]; omega
  have HBG := hid hbig
  clear h hi ho hT hv ho3 hk3 hk30 hn hlt hbig HKV HOW
  have hS0 : w.drew.cell? ⟨hb, o, none⟩ = some (.slice (some ⟨g, 0, none⟩) (X i).length cap) ∧ w.drew.cell? ⟨hb, o + 1, none⟩ = some (.int .i64 (T : Nat)) ∧ hb < w.drew.heap.size := ⟨c0, c1, hl⟩
  go_enter Try.func61, Try.ntmps61
  go_upto_region 0 with fail
  refine wp_regionD (S := fun W => W.cell? ⟨hb, o, none⟩ = some (.slice (some ⟨g, 0, none⟩) (X i).length cap) ∧ W.cell? ⟨hb, o + 1, none⟩ = some (.int .i64 (T : Nat)) ∧ hb < W.heap.size) (D := []) hmx ?_
  refine' wpAnyD_take (i := 0) (oi := { dst := some 2, op := Go.Op.move (Go.Operand.tmp 0), type := 110, pos := "link.go:17", after := #[], guard := none }) (v := _) rfl (by kernel_rfl) (by kernel_rfl) (by kernel_rfl) (fun _ _ _ h => h) (by kernel_rfl) (Or.inl ⟨by rfl, ?hy1⟩) hS0 ?rest1
  case hy1 => (intro W hSw; go_simp; try (with_reducible rfl))
  try simp only [Act.put, List.setIfInBounds_toArray, List.set_cons_zero, List.set_cons_succ]
  refine' wpAnyD_take (i := 1) (oi := { dst := some 3, op := Go.Op.nilCheck (Go.Operand.tmp 2), type := 0, pos := "link.go:17", after := #[{ on := 0, ground := Go.Ground.data }], guard := none }) (v := _) rfl (by kernel_rfl) (by kernel_rfl) (by kernel_rfl) (fun _ _ _ h => h) (by kernel_rfl) (Or.inl ⟨by rfl, ?hy2⟩) hS0 ?rest2
  case hy2 => (intro W hSw; go_simp; try (with_reducible rfl))
  try simp only [Act.put, List.setIfInBounds_toArray, List.set_cons_zero, List.set_cons_succ]
  refine' wpAnyD_take (i := 2) (oi := { dst := some 4, op := Go.Op.fieldAddr 94 (Go.Operand.tmp 3) 0, type := 0, pos := "link.go:17", after := #[{ on := 1, ground := Go.Ground.data }], guard := none }) (v := _) rfl (by kernel_rfl) (by kernel_rfl) (by kernel_rfl) (fun _ _ _ h => h) (by kernel_rfl) (Or.inl ⟨by rfl, ?hy3⟩) hS0 ?rest3
  case hy3 => (intro W hSw; go_simp; try (with_reducible rfl))
  try simp only [Act.put, List.setIfInBounds_toArray, List.set_cons_zero, List.set_cons_succ]
  refine' wpAnyD_take (i := 3) (oi := { dst := some 5, op := Go.Op.load 63 (Go.Operand.tmp 4), type := 63, pos := "link.go:17", after := #[{ on := 2, ground := Go.Ground.data }], guard := none }) (v := _) rfl (by kernel_rfl) (by kernel_rfl) (by kernel_rfl) (fun _ _ _ h => h) (by kernel_rfl) (Or.inl ⟨by rfl, ?hy4⟩) hS0 ?rest4
  case hy4 => (intro W hSw; obtain ⟨s0, s1, s2⟩ := hSw; go_simp; try (with_reducible rfl))
  try simp only [Act.put, List.setIfInBounds_toArray, List.set_cons_zero, List.set_cons_succ]
  refine' wpAnyD_take (i := 4) (oi := { dst := some 6, op := Go.Op.move (Go.Operand.tmp 0), type := 110, pos := "link.go:17", after := #[], guard := none }) (v := _) rfl (by kernel_rfl) (by kernel_rfl) (by kernel_rfl) (fun _ _ _ h => h) (by kernel_rfl) (Or.inl ⟨by rfl, ?hy5⟩) hS0 ?rest5
  case hy5 => (intro W hSw; go_simp; try (with_reducible rfl))
  try simp only [Act.put, List.setIfInBounds_toArray, List.set_cons_zero, List.set_cons_succ]
  refine' wpAnyD_take (i := 5) (oi := { dst := some 7, op := Go.Op.nilCheck (Go.Operand.tmp 6), type := 0, pos := "link.go:17", after := #[{ on := 4, ground := Go.Ground.data }], guard := none }) (v := _) rfl (by kernel_rfl) (by kernel_rfl) (by kernel_rfl) (fun _ _ _ h => h) (by kernel_rfl) (Or.inl ⟨by rfl, ?hy6⟩) hS0 ?rest6
  case hy6 => (intro W hSw; go_simp; try (with_reducible rfl))
  try simp only [Act.put, List.setIfInBounds_toArray, List.set_cons_zero, List.set_cons_succ]
  refine' wpAnyD_take (i := 6) (oi := { dst := some 8, op := Go.Op.fieldAddr 94 (Go.Operand.tmp 7) 1, type := 0, pos := "link.go:17", after := #[{ on := 5, ground := Go.Ground.data }], guard := none }) (v := _) rfl (by kernel_rfl) (by kernel_rfl) (by kernel_rfl) (fun _ _ _ h => h) (by kernel_rfl) (Or.inl ⟨by rfl, ?hy7⟩) hS0 ?rest7
  case hy7 => (intro W hSw; go_simp; try (with_reducible rfl))
  try simp only [Act.put, List.setIfInBounds_toArray, List.set_cons_zero, List.set_cons_succ]
  refine' wpAnyD_take (i := 7) (oi := { dst := some 9, op := Go.Op.load 3 (Go.Operand.tmp 8), type := 3, pos := "link.go:17", after := #[{ on := 6, ground := Go.Ground.data }], guard := none }) (v := _) rfl (by kernel_rfl) (by kernel_rfl) (by kernel_rfl) (fun _ _ _ h => h) (by kernel_rfl) (Or.inl ⟨by rfl, ?hy8⟩) hS0 ?rest8
  case hy8 => (intro W hSw; obtain ⟨s0, s1, s2⟩ := hSw; go_simp; try (with_reducible rfl))
  try simp only [Act.put, List.setIfInBounds_toArray, List.set_cons_zero, List.set_cons_succ]
  refine' wpAnyD_take (i := 8) (oi := { dst := some 10, op := Go.Op.move (Go.Operand.tmp 0), type := 110, pos := "link.go:17", after := #[], guard := none }) (v := _) rfl (by kernel_rfl) (by kernel_rfl) (by kernel_rfl) (fun _ _ _ h => h) (by kernel_rfl) (Or.inl ⟨by rfl, ?hy9⟩) hS0 ?rest9
  case hy9 => (intro W hSw; go_simp; try (with_reducible rfl))
  try simp only [Act.put, List.setIfInBounds_toArray, List.set_cons_zero, List.set_cons_succ]
  refine' wpAnyD_take (i := 9) (oi := { dst := some 11, op := Go.Op.nilCheck (Go.Operand.tmp 10), type := 0, pos := "link.go:17", after := #[{ on := 8, ground := Go.Ground.data }], guard := none }) (v := _) rfl (by kernel_rfl) (by kernel_rfl) (by kernel_rfl) (fun _ _ _ h => h) (by kernel_rfl) (Or.inl ⟨by rfl, ?hy10⟩) hS0 ?rest10
  case hy10 => (intro W hSw; go_simp; try (with_reducible rfl))
  try simp only [Act.put, List.setIfInBounds_toArray, List.set_cons_zero, List.set_cons_succ]
  refine' wpAnyD_take (i := 10) (oi := { dst := some 12, op := Go.Op.fieldAddr 94 (Go.Operand.tmp 11) 1, type := 0, pos := "link.go:17", after := #[{ on := 9, ground := Go.Ground.data }], guard := none }) (v := _) rfl (by kernel_rfl) (by kernel_rfl) (by kernel_rfl) (fun _ _ _ h => h) (by kernel_rfl) (Or.inl ⟨by rfl, ?hy11⟩) hS0 ?rest11
  case hy11 => (intro W hSw; go_simp; try (with_reducible rfl))
  try simp only [Act.put, List.setIfInBounds_toArray, List.set_cons_zero, List.set_cons_succ]
  refine' wpAnyD_take (i := 11) (oi := { dst := some 13, op := Go.Op.load 3 (Go.Operand.tmp 12), type := 3, pos := "link.go:17", after := #[{ on := 10, ground := Go.Ground.data }], guard := none }) (v := _) rfl (by kernel_rfl) (by kernel_rfl) (by kernel_rfl) (fun _ _ _ h => h) (by kernel_rfl) (Or.inl ⟨by rfl, ?hy12⟩) hS0 ?rest12
  case hy12 => (intro W hSw; obtain ⟨s0, s1, s2⟩ := hSw; go_simp; try (with_reducible rfl))
  try simp only [Act.put, List.setIfInBounds_toArray, List.set_cons_zero, List.set_cons_succ]
  refine' wpAnyD_take (i := 12) (oi := { dst := some 14, op := Go.Op.binOp Go.BinOp.add 3 (Go.Operand.tmp 13) (Go.Operand.const (Go.Value.int Go.IntKind.i64 1)) 3, type := 3, pos := "link.go:17", after := #[{ on := 11, ground := Go.Ground.data }], guard := none }) (v := (.int .i64 ((T : Int) + 1))) rfl (by kernel_rfl) (by kernel_rfl) (by kernel_rfl) (fun _ _ _ h => h) (by kernel_rfl) (Or.inl ⟨by rfl, ?hy13⟩) hS0 ?rest13
  case hy13 => (intro W hSw; go_simp; rw [HW.out])
  try simp only [Act.put, List.setIfInBounds_toArray, List.set_cons_zero, List.set_cons_succ]
  refine' wpAnyD_take (i := 13) (oi := { dst := some 15, op := Go.Op.slice 63 (Go.Operand.tmp 5) (some (Go.Operand.tmp 9)) (some (Go.Operand.tmp 14)) none, type := 63, pos := "link.go:17", after := #[{ on := 3, ground := Go.Ground.data }, { on := 7, ground := Go.Ground.data }, { on := 12, ground := Go.Ground.data }], guard := none }) (v := _) rfl (by kernel_rfl) (by kernel_rfl) (by kernel_rfl) (fun _ _ _ h => h) (by kernel_rfl) (Or.inl ⟨by rfl, ?hy14⟩) hS0 ?rest14
  case hy14 => (intro W hSw; go_simp; try (with_reducible rfl))
  try simp only [Act.put, List.setIfInBounds_toArray, List.set_cons_zero, List.set_cons_succ]
  refine wpAnyD_one (i := 14) (o := { dst := none, op := Go.Op.call { callee := Go.Callee.builtin Go.Builtin.clear, args := #[Go.Operand.tmp 15], argTypes := #[63] }, type := 0, pos := "link.go:17", after := #[{ on := 13, ground := Go.Ground.data }], guard := none }) (by kernel_rfl) rfl (fun K hK => ?_)
  rw [if_pos (by kernel_rfl)]
  go_simp
  refine hK.out _ _ (fun hD => ⟨d0, d1, hl3⟩) ?_
  clear hK K
  try simp only [Act.put, List.setIfInBounds_toArray, List.set_cons_zero, List.set_cons_succ]
  refine wpAnyD_done (by kernel_rfl) ?_ _
  clear hS0 c0 c1 hrun
  go_upto_region 2 with fail
  have eT : ((T + 1 : Nat) : Int) = (T : Int) + 1 := by omega
  rw [eT] at HP4
  clear eT
  have HSZ : Hid (w.heap.size ≤ (w3.setCell ⟨hb, o + 1, none⟩ (.int .i64 ((T : Int) + 1))).heap.size) := HP4.out.2.size
  obtain ⟨W4, hW4⟩ : ∃ W4, W4 = w3.setCell ⟨hb, o + 1, none⟩ (.int .i64 ((T : Int) + 1)) := ⟨_, rfl⟩
  rw [← hW4] at HP4 HSZ ⊢
  clear hW4 d0 d1 e1 hl3
  have q0 : W4.cell? ⟨hb, o, none⟩ = some (.slice (some ⟨g, 0, none⟩) (X i).length cap) := by
    have := HP4.out.1.blk.cv HI.out
    rw [upd_self, HV.out, ← HO.out] at this
    exact this
  have q1 : W4.cell? ⟨hb, o + 1, none⟩ = some (.int .i64 ((T + 1 : Nat) : Int)) := by
    have := HP4.out.1.blk.ct HI.out
    rw [upd_self, ← HO.out] at this
    exact this
  have hl4 := HP4.out.1.blk.lt
  obtain ⟨Y, hY⟩ : ∃ Y, Y = (X i).set T tz := ⟨_, rfl⟩
  have HYL : Hid (Y.length = (X i).length) := by show _ = _; rw [hY]; simp
  have HOW4 : Hid (W4.ownsRow 0 3 1 (.slice (some ⟨g, 0, none⟩) (X i).length cap) Y.length (fl ET Y)) := by
    have := HP4.out.1.own i HI.out
    rw [upd_self, upd_self, HV.out, ← hY] at this
    exact this
  have HYD : Hid (Y.drop (T + 1) = (X i).drop (tk i + 1)) := by rw [hY, ← HT.out]; exact drop_set _ _ _
  rw [← hY] at HP4
  clear hY
  obtain ⟨p, c, hL, hon⟩ := on_any (hb := hb) (o := o) (tk := T + 1) W4 HOW4.out (by have := HYL.out; have := HLT.out; omega)
  have hon2 : ∀ n, Calls Try.prog 53 #[.pointer (some ⟨hb, o, none⟩)] (W4.drewN n) fun e w' => e = .returned (.slice p (Y.length - (T + 1) : Nat) c) ∧ ∃ m, w' = (W4.drewN n).drewN m := fun n => hon (W4.drewN n) hl4 q0 q1
  have hcop : ∀ n, Calls Try.prog 51 #[.pointer (some ⟨hb, o, none⟩)] (W4.drewN n) fun e w' => ∃ v', e = .returned (.agg #[v', .int .i64 0]) ∧ w'.ownsRow (W4.drewN n).heap.size 3 1 v' (Y.drop (T + 1)).length (fl ET (Y.drop (T + 1))) ∧ Below (W4.drewN n).heap.size (W4.drewN n) w' := fun n => copied_any (W4.drewN n) hl4 q0 q1 (owns_below HOW4.out ((Gr.refl W4).drewN n).below) (by have := HYL.out; have := HLT.out; omega) (by rw [HYL.out]; exact HBG.out)
  clear hon hL
  obtain ⟨N, hN⟩ : ∃ N, N = Y.length - (T + 1) := ⟨_, rfl⟩
  rw [← hN] at hon2
  clear hN
  by_cases hge : (N : Int) ≤ (T : Int) + 1
  · go_quiet (first | (go_at_call 53; refine Calls.quiet_of (hon2 _)))
    have HG5 := hid ((Gr.refl W4).drewN nq)
    have hcop := hcop nq
    have l5 : hb < (W4.drewN nq).heap.size := hl4
    have z5 : Hid ((W4.drewN nq).heap.size = W4.heap.size) := rfl
    have HP5 := hid (HP4.out.1.gr HG5.out)
    generalize W4.drewN nq = W5 at *
    clear hon2 q0 q1 hl4
    go_wp2_with fail
    refine hcop.mono ?_
    rintro e w6 ⟨v', rfl, ho6, hB6⟩
    have s0 : w6.frozen? ⟨hb, o, none⟩ = false := (HP5.out.blk.kept (hB6.block hb l5)).fz _
    have s1 : w6.frozen? ⟨hb, o + 1, none⟩ = false := (HP5.out.blk.kept (hB6.block hb l5)).fz _
    obtain ⟨x0, hx0⟩ : ∃ x0, w6.cell? ⟨hb, o, none⟩ = some x0 := ⟨_, by rw [HO.out]; exact (HP5.out.blk.kept (hB6.block hb l5)).cv HI.out⟩
    obtain ⟨x1, hx1⟩ : ∃ x1, w6.cell? ⟨hb, o + 1, none⟩ = some x1 := ⟨_, by rw [HO.out]; exact (HP5.out.blk.kept (hB6.block hb l5)).ct HI.out⟩
    have l6 : hb < w6.heap.size := Nat.lt_of_lt_of_le l5 hB6.size
    have HP7 := hid (HP5.out.copied HI.out ho6 hB6)
    have HNW : Hid (∀ g, v'.ownBlock = some g → w.heap.size ≤ g) := fun g hg => by
      have h1 := (ho6.lt g hg).1
      have h2 := HSZ.out
      have h3 := z5.out
      omega
    obtain ⟨p2, n2, c2, rfl⟩ : ∃ p2 n2 c2, v' = .slice p2 n2 c2 := by
      rcases owns_form (owns_base ho6 (Nat.zero_le _)) with ⟨rfl, _⟩ | ⟨g, cap, rfl, _⟩
      · exact ⟨_, _, _, rfl⟩
      · exact ⟨_, _, _, rfl⟩
    clear ho6 hB6 hcop
    go_wp2
    go_end0
    rw [← HO.out] at HP7
    have h7 := HP7.out
    rw [upd_upd, upd_upd, upd_upd, upd_self] at h7
    refine ⟨rfl, .slice p2 n2 c2, 0, Y.drop (T + 1), h7.1, ?_, ?_, ?_, fun g hg => Or.inr (HNW.out g hg)⟩
    · rw [List.drop_zero]; exact HYD.out
    · rw [List.length_drop, HYL.out]; omega
    · exact Kp.trans (Kp.trans HP4.out.2 (Kp.of_gr (S := fun k => k = hb ∨ (v i).ownBlock = some k) HG5.out) (fun _ _ h => h)) h7.2 (fun _ _ h => h)
  · go_quiet (first | (go_at_call 53; refine Calls.quiet_of (hon2 _)))
    go_wp2
    go_end0
    refine ⟨rfl, v i, T + 1, Y, ?_, HYD.out, by rw [HYL.out]; exact Nat.le_refl _, ?_, fun g hg => Or.inl hg⟩
    · exact HP4.out.1.gr ((Gr.refl W4).drewN nq)
    · exact Kp.trans HP4.out.2 (Kp.of_gr ((Gr.refl W4).drewN nq)) (fun _ _ h => h)
end Go.Proofs.Ytcdmgclkgojgaaa.Pi
