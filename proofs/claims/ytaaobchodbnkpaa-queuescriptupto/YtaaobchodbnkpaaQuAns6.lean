import Derived.Test.YtaaobchodbnkpaaQuAns3
namespace Go.Proofs.Ytaaobchodbnkpaa.Qe
open Go.RowKit Go.Sort
attribute [local go_sem ↓] Go.wp_at_zero Go.wp_at_succ

set_option maxHeartbeats 4000000 in
set_option maxRecDepth 100000 in
theorem ans6 {w : World} {tag : Nat → Nat} {a b qb rb N K kb nT nD : Nat} {Q : Nat → List Ms} {L : List Ms} {sT sU sD sX : Value} {VT VU VD VX : Nat → Value} {CT : Nat → List Ms} {CD : Nat → List Cg} (h : Pr w tag a b qb rb N K Q L) (hbo : Bo w tag kb nT nT nD nD sT sU sD sX VT VU VD VX CT CT CD CD) (ha : a ≠ 3 ∧ a < 15) (hb : b ≠ 3 ∧ b < 15) (hK : K ≤ 900000) (hnD : nD ≤ 1000000) (hN : N ≤ 192) (on : Int) (x : Ms) (hl : (∀ i, i < nT → (CT i).length ≤ K) ∧ ∀ i, i < nD → (CD i).length ≤ K) : Calls Try.prog 17 #[.pointer (some ⟨qb, 0, none⟩), .pointer (some ⟨rb, 0, none⟩), opv 6 on x, .pointer (some ⟨kb, 0, none⟩)] w fun e w' => e = .returned (.bool true) ∧ Hid (Ab w tag a b qb rb N K kb nT (nD + 2) w') := by
  have hmx : Try.prog.follows .mixedOrders = true := by kernel_rfl
  obtain ⟨W1, hW1⟩ : ∃ W, W = w.alloc (.cells #[.int .i64 6, .int .i64 on, .int .i64 x.at_, .int .u64 x.a, .int .u64 x.b, .int .u64 x.c, .int .u64 x.k, .int .u64 x.v] 66) := ⟨_, rfl⟩
  obtain ⟨ob, hob⟩ : ∃ o, o = w.heap.size := ⟨_, rfl⟩
  have hB : Below w.heap.size w W1 := by rw [hW1]; exact ((Gr.refl w).alloc _).below
  have hbk : W1.heap[ob]? = some (.cells #[.int .i64 6, .int .i64 on, .int .i64 x.at_, .int .u64 x.a, .int .u64 x.b, .int .u64 x.c, .int .u64 x.k, .int .u64 x.v] 66 (0, 0)) := by rw [hW1, hob]; exact heap_new' _ _
  have HP := hid (h.below hB 0)
  have HBO := hid (hbo.below hB 0)
  have HN := hid (Nx.below (fun k => k = a ∨ k = b ∨ k = 3 ∨ (15 ≤ k ∧ k < 19)) tag 0 hB)
  have HOB := hid hbk
  have HT : Hid (tg tag w 0 ob = 0) := tg_new (by rw [hob]; exact Nat.le_refl _)
  have HW : Hid (w.alloc (.cells #[.int .i64 6, .int .i64 on, .int .i64 x.at_, .int .u64 x.a, .int .u64 x.b, .int .u64 x.c, .int .u64 x.k, .int .u64 x.v] 66) = W1 ∧ w.heap.size = ob) := ⟨hW1.symm, hob.symm⟩
  have HAB : Hid ((a ≠ 3 ∧ a < 15) ∧ b ≠ 3 ∧ b < 15) := ⟨ha, hb⟩
  have HL := hid hl
  generalize htg : tg tag w 0 = tag1 at HP HN HT HBO
  clear htg hW1 hob hB hbk h ha hb hbo hl
  obtain ⟨iT, hiT, ht0, ht1, ht2⟩ := info_parts Qs.infoLd
  have IT : Hid (Try.prog.info? 45 = some iT ∧ iT.zero = some (.slice none 0 0) ∧ iT.size = 1 ∧ iT.bytes = 24) := ⟨hiT, ht0, ht1, ht2⟩
  clear hiT ht0 ht1 ht2
  obtain ⟨l, hll⟩ : ∃ l, l = ctsTo (fun p : Nat => atp L (p : Int)) N := ⟨_, rfl⟩
  have HLL : Hid (l.length ≤ K) := by
    show _ ≤ _
    rw [hll]
    have h1 := ctsTo_len Q N
    rw [HP.out.rel.cts] at h1
    have h2 := HP.out.rel.tot
    have h3 := HP.out.le
    unfold tot at h2
    omega
  have HLE := hid hll
  obtain ⟨m, hm⟩ : ∃ m, m = l.length := ⟨_, rfl⟩
  have HM := hid hm
  clear hll hm
  go_enter Try.func17, Try.ntmps17
  go_upto_region 22 with fail
  rw [HW.out.1, HW.out.2]
  clear HW
  have HSBa : Hid (∀ X : World, Below W1.heap.size W1 X → (fun X : World => X.heap[ob]? = some (.cells #[.int .i64 6, .int .i64 on, .int .i64 x.at_, .int .u64 x.a, .int .u64 x.b, .int .u64 x.c, .int .u64 x.k, .int .u64 x.v] 66 (0, 0)) ∧ X.heap[kb]? = some (.cells #[sT, sU, sD, sX] 64 (0, 0))) X) := fun X hX => ⟨(hX.block ob (blk8 HOB.out).1).trans HOB.out, (hX.block kb HBO.out.lt).trans HBO.out.blk⟩
  have B0a : Below W1.heap.size W1 W1.drew := (Gr.refl _).drew.below
  have hS0a := HSBa.out _ B0a
  have hP0a := HP.out.same B0a
  have hB0a := HBO.out.nx (Nx.same (fun _ => False) tag1 B0a) (fun h => h) (fun _ h => h.elim)
  refine wp_regionD (S := (fun X : World => X.heap[ob]? = some (.cells #[.int .i64 6, .int .i64 on, .int .i64 x.at_, .int .u64 x.a, .int .u64 x.b, .int .u64 x.c, .int .u64 x.k, .int .u64 x.v] 66 (0, 0)) ∧ X.heap[kb]? = some (.cells #[sT, sU, sD, sX] 64 (0, 0)))) (D := [13]) hmx ?_
  refine' wpAnyD_take (i := 0) (oi := { dst := some 168, op := Go.Op.move (Go.Operand.tmp 3), type := 60, pos := "law.go:135", after := #[], guard := none }) (v := _) rfl (by kernel_rfl) (by kernel_rfl) (by kernel_rfl) (fun _ _ _ h => h) (by kernel_rfl) (Or.inl ⟨by rfl, ?hy1⟩) hS0a ?rest1
  case hy1 => (intro W hSw; obtain ⟨l0, c0, _⟩ := blk8 hSw.1; obtain ⟨l1, c1, _⟩ := blk8 hSw.2; go_simp; try (with_reducible rfl))
  try simp only [Act.put, List.setIfInBounds_toArray, List.set_cons_zero, List.set_cons_succ]
  refine' wpAnyD_take (i := 1) (oi := { dst := some 169, op := Go.Op.move (Go.Operand.tmp 3), type := 60, pos := "law.go:135", after := #[], guard := none }) (v := _) rfl (by kernel_rfl) (by kernel_rfl) (by kernel_rfl) (fun _ _ _ h => h) (by kernel_rfl) (Or.inl ⟨by rfl, ?hy2⟩) hS0a ?rest2
  case hy2 => (intro W hSw; obtain ⟨l0, c0, _⟩ := blk8 hSw.1; obtain ⟨l1, c1, _⟩ := blk8 hSw.2; go_simp; try (with_reducible rfl))
  try simp only [Act.put, List.setIfInBounds_toArray, List.set_cons_zero, List.set_cons_succ]
  refine' wpAnyD_take (i := 2) (oi := { dst := some 170, op := Go.Op.nilCheck (Go.Operand.tmp 169), type := 0, pos := "law.go:135", after := #[{ on := 1, ground := Go.Ground.data }], guard := none }) (v := _) rfl (by kernel_rfl) (by kernel_rfl) (by kernel_rfl) (fun _ _ _ h => h) (by kernel_rfl) (Or.inl ⟨by rfl, ?hy3⟩) hS0a ?rest3
  case hy3 => (intro W hSw; obtain ⟨l0, c0, _⟩ := blk8 hSw.1; obtain ⟨l1, c1, _⟩ := blk8 hSw.2; go_simp; try (with_reducible rfl))
  try simp only [Act.put, List.setIfInBounds_toArray, List.set_cons_zero, List.set_cons_succ]
  refine' wpAnyD_take (i := 3) (oi := { dst := some 171, op := Go.Op.fieldAddr 64 (Go.Operand.tmp 170) 2, type := 0, pos := "law.go:135", after := #[{ on := 2, ground := Go.Ground.data }], guard := none }) (v := _) rfl (by kernel_rfl) (by kernel_rfl) (by kernel_rfl) (fun _ _ _ h => h) (by kernel_rfl) (Or.inl ⟨by rfl, ?hy4⟩) hS0a ?rest4
  case hy4 => (intro W hSw; obtain ⟨l0, c0, _⟩ := blk8 hSw.1; obtain ⟨l1, c1, _⟩ := blk8 hSw.2; go_simp; try (with_reducible rfl))
  try simp only [Act.put, List.setIfInBounds_toArray, List.set_cons_zero, List.set_cons_succ]
  refine' wpAnyD_take (i := 4) (oi := { dst := some 172, op := Go.Op.load 62 (Go.Operand.tmp 171), type := 62, pos := "law.go:135", after := #[{ on := 3, ground := Go.Ground.data }], guard := none }) (v := _) rfl (by kernel_rfl) (by kernel_rfl) (by kernel_rfl) (fun _ _ _ h => h) (by kernel_rfl) (Or.inl ⟨by rfl, ?hy5⟩) hS0a ?rest5
  case hy5 => (intro W hSw; obtain ⟨l0, c0, _⟩ := blk8 hSw.1; obtain ⟨l1, c1, _⟩ := blk8 hSw.2; go_simp; try (with_reducible rfl))
  try simp only [Act.put, List.setIfInBounds_toArray, List.set_cons_zero, List.set_cons_succ]
  refine' wpAnyD_take (i := 5) (oi := { dst := some 173, op := Go.Op.move (Go.Operand.tmp 0), type := 24, pos := "law.go:135", after := #[], guard := none }) (v := _) rfl (by kernel_rfl) (by kernel_rfl) (by kernel_rfl) (fun _ _ _ h => h) (by kernel_rfl) (Or.inl ⟨by rfl, ?hy6⟩) hS0a ?rest6
  case hy6 => (intro W hSw; obtain ⟨l0, c0, _⟩ := blk8 hSw.1; obtain ⟨l1, c1, _⟩ := blk8 hSw.2; go_simp; try (with_reducible rfl))
  try simp only [Act.put, List.setIfInBounds_toArray, List.set_cons_zero, List.set_cons_succ]
  refine' wpAnyD_take (i := 7) (oi := { dst := some 175, op := Go.Op.move (Go.Operand.tmp 0), type := 24, pos := "law.go:135", after := #[], guard := none }) (v := _) rfl (by kernel_rfl) (by kernel_rfl) (by kernel_rfl) (fun _ _ _ h => h) (by kernel_rfl) (Or.inl ⟨by rfl, ?hy7⟩) hS0a ?rest7
  case hy7 => (intro W hSw; obtain ⟨l0, c0, _⟩ := blk8 hSw.1; obtain ⟨l1, c1, _⟩ := blk8 hSw.2; go_simp; try (with_reducible rfl))
  try simp only [Act.put, List.setIfInBounds_toArray, List.set_cons_zero, List.set_cons_succ]
  refine wpAnyD_one (i := 6) (o := { dst := some 174, op := Go.Op.call { callee := Go.Callee.value (Go.Operand.func 14), args := #[Go.Operand.tmp 173], argTypes := #[24] }, type := 45, pos := "law.go:135", after := #[{ on := 5, ground := Go.Ground.data }], guard := none }) (by kernel_rfl) rfl (fun K hK => ?_)
  go_simp
  refine (hP0a.cntP (22 + 4 * nD) (by omega)).mono ?_
  rintro e w2 ⟨u, rfl, ⟨p2, c2, rfl⟩, H2⟩
  rw [← HLE.out] at H2 ⊢
  have B2 := B0a.trans (H2.out.2.mono B0a.size)
  have hS2 := HSBa.out _ B2
  have hP2 := hP0a.below H2.out.2 (22 + 4 * nD)
  have hB2 := hB0a.below H2.out.2 (22 + 4 * nD)
  go_wp2_with fail
  refine hK.out _ _ (fun hD => hS2) ?_
  clear hK K
  try simp only [Act.put, List.setIfInBounds_toArray, List.set_cons_zero, List.set_cons_succ]
  refine wpAnyD_one (i := 8) (o := { dst := some 176, op := Go.Op.call { callee := Go.Callee.value (Go.Operand.func 14), args := #[Go.Operand.tmp 175], argTypes := #[24] }, type := 45, pos := "law.go:135", after := #[{ on := 7, ground := Go.Ground.data }, { on := 6, ground := Go.Ground.chain }], guard := none }) (by kernel_rfl) rfl (fun K hK => ?_)
  go_simp
  refine (hP2.cntP (22 + 4 * (nD + 1)) (by omega)).mono ?_
  rintro e w3 ⟨u, rfl, ⟨p3, c3, rfl⟩, H3⟩
  rw [← HLE.out] at H3 ⊢
  have B3 := B2.trans (H3.out.2.mono B2.size)
  have hS3 := HSBa.out _ B3
  have hP3 := hP2.below H3.out.2 (22 + 4 * (nD + 1))
  have hB3 := hB2.below H3.out.2 (22 + 4 * (nD + 1))
  have hU3 := Ow.nx H2.out.1 (Nx.below (fun _ => False) _ (22 + 4 * (nD + 1)) H3.out.2) (fun h => h)
  have n3 := (Nx.same (fun k => k = a ∨ k = b ∨ k = 3 ∨ (15 ≤ k ∧ k < 19)) tag1 B0a).trans ((Nx.below _ tag1 (22 + 4 * nD) H2.out.2).trans (Nx.below _ _ (22 + 4 * (nD + 1)) H3.out.2))
  generalize tg (tg tag1 W1.drew (22 + 4 * nD)) w2 (22 + 4 * (nD + 1)) = tag3 at H3 hP3 hB3 hU3 n3
  have HO3 := hid ((n3.old ob (blk8 HOB.out).1).trans HT.out)
  have HN3 := hid (HN.out.trans n3)
  have HB3 := hid hB3
  have HP3 := hid hP3
  have HU3 := hid hU3
  clear hP2 hB2 hP3 hB3 hU3 n3
  go_wp2_with fail
  refine hK.out _ _ (fun hD => hS3) ?_
  clear hK K
  try simp only [Act.put, List.setIfInBounds_toArray, List.set_cons_zero, List.set_cons_succ]
  refine wpAnyD_one (i := 9) (o := { dst := some 177, op := Go.Op.buildSlice 62 2 #[(0, Go.Operand.tmp 174), (1, Go.Operand.tmp 176)], type := 62, pos := "law.go:135", after := #[{ on := 6, ground := Go.Ground.data }, { on := 8, ground := Go.Ground.data }], guard := none }) (by kernel_rfl) rfl (fun K hK => ?_)
  go_simp
  have hS4 := HSBa.out _ (B3.trans (((Gr.refl w3).alloc (.cells #[.slice p2 l.length c2, .slice p3 l.length c3] 45)).below.mono B3.size))
  refine hK.out _ _ (fun hD => hS4) ?_
  clear hK K
  try simp only [Act.put, List.setIfInBounds_toArray, List.set_cons_zero, List.set_cons_succ]
  refine wpAnyD_one (i := 10) (o := { dst := some 178, op := Go.Op.call { callee := Go.Callee.builtin Go.Builtin.append, args := #[Go.Operand.tmp 172, Go.Operand.tmp 177], argTypes := #[62, 62] }, type := 62, pos := "law.go:135", after := #[{ on := 4, ground := Go.Ground.data }, { on := 9, ground := Go.Ground.data }, { on := 8, ground := Go.Ground.chain }], guard := none }) (by kernel_rfl) rfl (fun K hK => ?_)
  refine step_append_lies _ rfl _ _ 62 rfl 0 45 iT (.slice none 0 0) 1 24 Try.underlying62 IT.out.1 IT.out.2.1 IT.out.2.2.1 IT.out.2.2.2 rfl (by decide) sD nD _ rfl (World.ownsRow.alloc HB3.out.cD.row.1 _) ⟨w3.heap.size, 0, none⟩ 2 2 [.slice p2 l.length c2, .slice p3 l.length c3] rfl rfl (World.news_of_block (heap_new' _ _)) (two_one _ _ _ _ _) (by decide) (by unfold maxLen; omega) (by omega) (Nat.zero_le _) _ rfl ?_
  intro g7 c7 w7 ho7 hg7 hl7 hlt7
  have K7 : Kp (fun q => sD.ownBlock = some q) w3 w7 := (Kp.of_below ((Gr.refl w3).alloc _).below).trans (Kp.grownBy (S := fun q => sD.ownBlock = some q) hg7 (fun _ h => h)) (fun _ _ h => h)
  have hx7 := HB3.out.cD.turn K7
  obtain ⟨hb7, hset7⟩ := HB3.out.setD hx7 (HB3.out.cD.push2 HU3.out H3.out.1 ho7 hx7 (fun g hg => by rw [own_one hg]; exact hl7.imp id (fun e => by rw [e]; simp)) (by omega))
  have hS7 : (fun X : World => X.heap[ob]? = some (.cells #[.int .i64 6, .int .i64 on, .int .i64 x.at_, .int .u64 x.a, .int .u64 x.b, .int .u64 x.c, .int .u64 x.k, .int .u64 x.v] 66 (0, 0)) ∧ X.heap[kb]? = some (.cells #[sT, sU, sD, sX] 64 (0, 0))) w7 := ⟨(hx7.kp.block ob (blk8 hS3.1).1 (fun e => by have := HO3.out; omega)).trans hS3.1, hb7⟩
  obtain ⟨b8, k8, _⟩ := setCell_blk (k := 2) (v := .slice (some ⟨g7, 0, none⟩) (nD + 2) c7) hb7
  obtain ⟨n8, B8⟩ := hset7 _ k8 (by simpa using b8)
  obtain ⟨kl7, kc7, kf7⟩ := blk8 hb7
  refine hK.out _ _ (fun hD => hS7) ?_
  clear hK K
  try simp only [Act.put, List.setIfInBounds_toArray, List.set_cons_zero, List.set_cons_succ]
  refine wpAnyD_one (i := 11) (o := { dst := some 179, op := Go.Op.nilCheck (Go.Operand.tmp 168), type := 0, pos := "law.go:135", after := #[{ on := 0, ground := Go.Ground.data }, { on := 0, ground := Go.Ground.phase }, { on := 1, ground := Go.Ground.phase }, { on := 2, ground := Go.Ground.phase }, { on := 3, ground := Go.Ground.phase }, { on := 4, ground := Go.Ground.phase }, { on := 5, ground := Go.Ground.phase }, { on := 6, ground := Go.Ground.phase }, { on := 7, ground := Go.Ground.phase }, { on := 8, ground := Go.Ground.phase }, { on := 9, ground := Go.Ground.phase }, { on := 10, ground := Go.Ground.phase }], guard := none }) (by kernel_rfl) rfl (fun K hK => ?_)
  go_simp
  refine hK.out _ _ (fun hD => hS7) ?_
  clear hK K
  try simp only [Act.put, List.setIfInBounds_toArray, List.set_cons_zero, List.set_cons_succ]
  refine wpAnyD_one (i := 12) (o := { dst := some 180, op := Go.Op.fieldAddr 64 (Go.Operand.tmp 179) 2, type := 0, pos := "law.go:135", after := #[{ on := 11, ground := Go.Ground.data }, { on := 0, ground := Go.Ground.phase }, { on := 1, ground := Go.Ground.phase }, { on := 2, ground := Go.Ground.phase }, { on := 3, ground := Go.Ground.phase }, { on := 4, ground := Go.Ground.phase }, { on := 5, ground := Go.Ground.phase }, { on := 6, ground := Go.Ground.phase }, { on := 7, ground := Go.Ground.phase }, { on := 8, ground := Go.Ground.phase }, { on := 9, ground := Go.Ground.phase }, { on := 10, ground := Go.Ground.phase }], guard := none }) (by kernel_rfl) rfl (fun K hK => ?_)
  go_simp
  refine hK.out _ _ (fun hD => hS7) ?_
  clear hK K
  try simp only [Act.put, List.setIfInBounds_toArray, List.set_cons_zero, List.set_cons_succ]
  refine wpAnyD_one (i := 13) (o := { dst := none, op := Go.Op.store 62 (Go.Operand.tmp 180) (Go.Operand.tmp 178), type := 0, pos := "law.go:135", after := #[{ on := 12, ground := Go.Ground.data }, { on := 10, ground := Go.Ground.data }, { on := 10, ground := Go.Ground.chain }, { on := 0, ground := Go.Ground.phase }, { on := 1, ground := Go.Ground.phase }, { on := 2, ground := Go.Ground.phase }, { on := 3, ground := Go.Ground.phase }, { on := 4, ground := Go.Ground.phase }, { on := 5, ground := Go.Ground.phase }, { on := 6, ground := Go.Ground.phase }, { on := 7, ground := Go.Ground.phase }, { on := 8, ground := Go.Ground.phase }, { on := 9, ground := Go.Ground.phase }, { on := 10, ground := Go.Ground.phase }], guard := none }) (by kernel_rfl) rfl (fun K hK => ?_)
  go_simp
  refine hK.out _ _ (fun hD => absurd (by decide) hD) ?_
  clear hK K
  try simp only [Act.put, List.setIfInBounds_toArray, List.set_cons_zero, List.set_cons_succ]
  refine wpAnyD_done (by kernel_rfl) ?_ _
  have HP2 := hid (HP3.out.nx n8 (by have := HAB.out.1; omega) (by have := HAB.out.2; omega))
  have HBO2 := hid B8
  have HN2 := hid (HN3.out.trans (n8.mono (B := fun k => k = a ∨ k = b ∨ k = 3 ∨ (15 ≤ k ∧ k < 19)) (fun k e => by omega)))
  have HOB2 := hid ((n8.kp.block ob (blk8 hS3.1).1 (fun e => by have := HO3.out; omega)).trans hS3.1)
  have HT2 := hid ((n8.old ob (blk8 hS3.1).1).trans HO3.out)
  clear HP HBO HN HOB HT HSBa B0a hS0a hP0a hB0a H2 B2 hS2 H3 B3 hS3 HO3 HN3 HB3 HP3 HU3 hS4 ho7 hg7 hl7 hlt7 K7 hx7 hb7 hset7 hS7 b8 k8 n8 B8 kl7 kc7 kf7
  generalize tg tag3 w3 17 = tag8 at HP2 HBO2 HN2 HT2
  go_upto_region 23 with fail
  generalize w7.setCell ⟨kb, 2, none⟩ (.slice (some ⟨g7, 0, none⟩) (nD + 2) c7) = W8 at HP2 HBO2 HN2 HOB2 ⊢
  obtain ⟨s8, hs8⟩ : ∃ s, s = Value.slice (some ⟨g7, 0, none⟩) (nD + 2) c7 := ⟨_, rfl⟩
  rw [← hs8] at HBO2
  clear hs8
  have HSBb : Hid (∀ X : World, Below W8.heap.size W8 X → (fun X : World => X.heap[ob]? = some (.cells #[.int .i64 6, .int .i64 on, .int .i64 x.at_, .int .u64 x.a, .int .u64 x.b, .int .u64 x.c, .int .u64 x.k, .int .u64 x.v] 66 (0, 0)) ∧ X.heap[kb]? = some (.cells #[sT, sU, s8, sX] 64 (0, 0))) X) := fun X hX => ⟨(hX.block ob (blk8 HOB2.out).1).trans HOB2.out, (hX.block kb HBO2.out.lt).trans HBO2.out.blk⟩
  have B0b : Below W8.heap.size W8 W8.drew := (Gr.refl _).drew.below
  have hS0b := HSBb.out _ B0b
  have hP0b := HP2.out.same B0b
  have hB0b := HBO2.out.nx (Nx.same (fun _ => False) tag8 B0b) (fun h => h) (fun _ h => h.elim)
  refine wp_regionD (S := (fun X : World => X.heap[ob]? = some (.cells #[.int .i64 6, .int .i64 on, .int .i64 x.at_, .int .u64 x.a, .int .u64 x.b, .int .u64 x.c, .int .u64 x.k, .int .u64 x.v] 66 (0, 0)) ∧ X.heap[kb]? = some (.cells #[sT, sU, s8, sX] 64 (0, 0)))) (D := [13]) hmx ?_
  refine' wpAnyD_take (i := 0) (oi := { dst := some 181, op := Go.Op.move (Go.Operand.tmp 3), type := 60, pos := "law.go:136", after := #[], guard := none }) (v := _) rfl (by kernel_rfl) (by kernel_rfl) (by kernel_rfl) (fun _ _ _ h => h) (by kernel_rfl) (Or.inl ⟨by rfl, ?hy15⟩) hS0b ?rest15
  case hy15 => (intro W hSw; obtain ⟨l0, c0, _⟩ := blk8 hSw.1; obtain ⟨l1, c1, _⟩ := blk8 hSw.2; go_simp; try (with_reducible rfl))
  try simp only [Act.put, List.setIfInBounds_toArray, List.set_cons_zero, List.set_cons_succ]
  refine' wpAnyD_take (i := 1) (oi := { dst := some 182, op := Go.Op.move (Go.Operand.tmp 3), type := 60, pos := "law.go:136", after := #[], guard := none }) (v := _) rfl (by kernel_rfl) (by kernel_rfl) (by kernel_rfl) (fun _ _ _ h => h) (by kernel_rfl) (Or.inl ⟨by rfl, ?hy16⟩) hS0b ?rest16
  case hy16 => (intro W hSw; obtain ⟨l0, c0, _⟩ := blk8 hSw.1; obtain ⟨l1, c1, _⟩ := blk8 hSw.2; go_simp; try (with_reducible rfl))
  try simp only [Act.put, List.setIfInBounds_toArray, List.set_cons_zero, List.set_cons_succ]
  refine' wpAnyD_take (i := 2) (oi := { dst := some 183, op := Go.Op.nilCheck (Go.Operand.tmp 182), type := 0, pos := "law.go:136", after := #[{ on := 1, ground := Go.Ground.data }], guard := none }) (v := _) rfl (by kernel_rfl) (by kernel_rfl) (by kernel_rfl) (fun _ _ _ h => h) (by kernel_rfl) (Or.inl ⟨by rfl, ?hy17⟩) hS0b ?rest17
  case hy17 => (intro W hSw; obtain ⟨l0, c0, _⟩ := blk8 hSw.1; obtain ⟨l1, c1, _⟩ := blk8 hSw.2; go_simp; try (with_reducible rfl))
  try simp only [Act.put, List.setIfInBounds_toArray, List.set_cons_zero, List.set_cons_succ]
  refine' wpAnyD_take (i := 3) (oi := { dst := some 184, op := Go.Op.fieldAddr 64 (Go.Operand.tmp 183) 3, type := 0, pos := "law.go:136", after := #[{ on := 2, ground := Go.Ground.data }], guard := none }) (v := _) rfl (by kernel_rfl) (by kernel_rfl) (by kernel_rfl) (fun _ _ _ h => h) (by kernel_rfl) (Or.inl ⟨by rfl, ?hy18⟩) hS0b ?rest18
  case hy18 => (intro W hSw; obtain ⟨l0, c0, _⟩ := blk8 hSw.1; obtain ⟨l1, c1, _⟩ := blk8 hSw.2; go_simp; try (with_reducible rfl))
  try simp only [Act.put, List.setIfInBounds_toArray, List.set_cons_zero, List.set_cons_succ]
  refine' wpAnyD_take (i := 4) (oi := { dst := some 185, op := Go.Op.load 62 (Go.Operand.tmp 184), type := 62, pos := "law.go:136", after := #[{ on := 3, ground := Go.Ground.data }], guard := none }) (v := _) rfl (by kernel_rfl) (by kernel_rfl) (by kernel_rfl) (fun _ _ _ h => h) (by kernel_rfl) (Or.inl ⟨by rfl, ?hy19⟩) hS0b ?rest19
  case hy19 => (intro W hSw; obtain ⟨l0, c0, _⟩ := blk8 hSw.1; obtain ⟨l1, c1, _⟩ := blk8 hSw.2; go_simp; try (with_reducible rfl))
  try simp only [Act.put, List.setIfInBounds_toArray, List.set_cons_zero, List.set_cons_succ]
  refine' wpAnyD_take (i := 5) (oi := { dst := some 186, op := Go.Op.move (Go.Operand.tmp 1), type := 55, pos := "law.go:136", after := #[], guard := none }) (v := _) rfl (by kernel_rfl) (by kernel_rfl) (by kernel_rfl) (fun _ _ _ h => h) (by kernel_rfl) (Or.inl ⟨by rfl, ?hy20⟩) hS0b ?rest20
  case hy20 => (intro W hSw; obtain ⟨l0, c0, _⟩ := blk8 hSw.1; obtain ⟨l1, c1, _⟩ := blk8 hSw.2; go_simp; try (with_reducible rfl))
  try simp only [Act.put, List.setIfInBounds_toArray, List.set_cons_zero, List.set_cons_succ]
  refine' wpAnyD_take (i := 7) (oi := { dst := some 188, op := Go.Op.move (Go.Operand.tmp 1), type := 55, pos := "law.go:136", after := #[], guard := none }) (v := _) rfl (by kernel_rfl) (by kernel_rfl) (by kernel_rfl) (fun _ _ _ h => h) (by kernel_rfl) (Or.inl ⟨by rfl, ?hy21⟩) hS0b ?rest21
  case hy21 => (intro W hSw; obtain ⟨l0, c0, _⟩ := blk8 hSw.1; obtain ⟨l1, c1, _⟩ := blk8 hSw.2; go_simp; try (with_reducible rfl))
  try simp only [Act.put, List.setIfInBounds_toArray, List.set_cons_zero, List.set_cons_succ]
  refine wpAnyD_one (i := 6) (o := { dst := some 187, op := Go.Op.call { callee := Go.Callee.value (Go.Operand.func 21), args := #[Go.Operand.tmp 186], argTypes := #[55] }, type := 45, pos := "law.go:136", after := #[{ on := 5, ground := Go.Ground.data }], guard := none }) (by kernel_rfl) rfl (fun K hK => ?_)
  go_simp
  refine (hP0b.cntR hN (23 + 4 * nD) (by omega)).mono ?_
  rintro e w2 ⟨u, rfl, ⟨p2, c2, rfl⟩, H2⟩
  rw [← HLE.out] at H2 ⊢
  have B2 := B0b.trans (H2.out.2.mono B0b.size)
  have hS2 := HSBb.out _ B2
  have hP2 := hP0b.below H2.out.2 (23 + 4 * nD)
  have hB2 := hB0b.below H2.out.2 (23 + 4 * nD)
  go_wp2_with fail
  refine hK.out _ _ (fun hD => hS2) ?_
  clear hK K
  try simp only [Act.put, List.setIfInBounds_toArray, List.set_cons_zero, List.set_cons_succ]
  refine wpAnyD_one (i := 8) (o := { dst := some 189, op := Go.Op.call { callee := Go.Callee.value (Go.Operand.func 21), args := #[Go.Operand.tmp 188], argTypes := #[55] }, type := 45, pos := "law.go:136", after := #[{ on := 7, ground := Go.Ground.data }, { on := 6, ground := Go.Ground.chain }], guard := none }) (by kernel_rfl) rfl (fun K hK => ?_)
  go_simp
  refine (hP2.cntR hN (23 + 4 * (nD + 1)) (by omega)).mono ?_
  rintro e w3 ⟨u, rfl, ⟨p3, c3, rfl⟩, H3⟩
  rw [← HLE.out] at H3 ⊢
  have B3 := B2.trans (H3.out.2.mono B2.size)
  have hS3 := HSBb.out _ B3
  have hP3 := hP2.below H3.out.2 (23 + 4 * (nD + 1))
  have hB3 := hB2.below H3.out.2 (23 + 4 * (nD + 1))
  have hU3 := Ow.nx H2.out.1 (Nx.below (fun _ => False) _ (23 + 4 * (nD + 1)) H3.out.2) (fun h => h)
  have n3 := (Nx.same (fun k => k = a ∨ k = b ∨ k = 3 ∨ (15 ≤ k ∧ k < 19)) tag8 B0b).trans ((Nx.below _ tag8 (23 + 4 * nD) H2.out.2).trans (Nx.below _ _ (23 + 4 * (nD + 1)) H3.out.2))
  generalize tg (tg tag8 W8.drew (23 + 4 * nD)) w2 (23 + 4 * (nD + 1)) = tag3 at H3 hP3 hB3 hU3 n3
  have HO3 := hid ((n3.old ob (blk8 HOB2.out).1).trans HT2.out)
  have HN3 := hid (HN2.out.trans n3)
  have HB3 := hid hB3
  have HP3 := hid hP3
  have HU3 := hid hU3
  clear hP2 hB2 hP3 hB3 hU3 n3
  go_wp2_with fail
  refine hK.out _ _ (fun hD => hS3) ?_
  clear hK K
  try simp only [Act.put, List.setIfInBounds_toArray, List.set_cons_zero, List.set_cons_succ]
  refine wpAnyD_one (i := 9) (o := { dst := some 190, op := Go.Op.buildSlice 62 2 #[(0, Go.Operand.tmp 187), (1, Go.Operand.tmp 189)], type := 62, pos := "law.go:136", after := #[{ on := 6, ground := Go.Ground.data }, { on := 8, ground := Go.Ground.data }], guard := none }) (by kernel_rfl) rfl (fun K hK => ?_)
  go_simp
  have hS4 := HSBb.out _ (B3.trans (((Gr.refl w3).alloc (.cells #[.slice p2 l.length c2, .slice p3 l.length c3] 45)).below.mono B3.size))
  refine hK.out _ _ (fun hD => hS4) ?_
  clear hK K
  try simp only [Act.put, List.setIfInBounds_toArray, List.set_cons_zero, List.set_cons_succ]
  refine wpAnyD_one (i := 10) (o := { dst := some 191, op := Go.Op.call { callee := Go.Callee.builtin Go.Builtin.append, args := #[Go.Operand.tmp 185, Go.Operand.tmp 190], argTypes := #[62, 62] }, type := 62, pos := "law.go:136", after := #[{ on := 4, ground := Go.Ground.data }, { on := 9, ground := Go.Ground.data }, { on := 8, ground := Go.Ground.chain }], guard := none }) (by kernel_rfl) rfl (fun K hK => ?_)
  refine step_append_lies _ rfl _ _ 62 rfl 0 45 iT (.slice none 0 0) 1 24 Try.underlying62 IT.out.1 IT.out.2.1 IT.out.2.2.1 IT.out.2.2.2 rfl (by decide) sX nD _ rfl (World.ownsRow.alloc HB3.out.cX.row.1 _) ⟨w3.heap.size, 0, none⟩ 2 2 [.slice p2 l.length c2, .slice p3 l.length c3] rfl rfl (World.news_of_block (heap_new' _ _)) (two_one _ _ _ _ _) (by decide) (by unfold maxLen; omega) (by omega) (Nat.zero_le _) _ rfl ?_
  intro g7 c7 w7 ho7 hg7 hl7 hlt7
  have K7 : Kp (fun q => sX.ownBlock = some q) w3 w7 := (Kp.of_below ((Gr.refl w3).alloc _).below).trans (Kp.grownBy (S := fun q => sX.ownBlock = some q) hg7 (fun _ h => h)) (fun _ _ h => h)
  have hx7 := HB3.out.cX.turn K7
  obtain ⟨hb7, hset7⟩ := HB3.out.setX hx7 (HB3.out.cX.push2 HU3.out H3.out.1 ho7 hx7 (fun g hg => by rw [own_one hg]; exact hl7.imp id (fun e => by rw [e]; simp)) (by omega))
  have hS7 : (fun X : World => X.heap[ob]? = some (.cells #[.int .i64 6, .int .i64 on, .int .i64 x.at_, .int .u64 x.a, .int .u64 x.b, .int .u64 x.c, .int .u64 x.k, .int .u64 x.v] 66 (0, 0)) ∧ X.heap[kb]? = some (.cells #[sT, sU, s8, sX] 64 (0, 0))) w7 := ⟨(hx7.kp.block ob (blk8 hS3.1).1 (fun e => by have := HO3.out; omega)).trans hS3.1, hb7⟩
  obtain ⟨b8, k8, _⟩ := setCell_blk (k := 3) (v := .slice (some ⟨g7, 0, none⟩) (nD + 2) c7) hb7
  obtain ⟨n8, B8⟩ := hset7 _ k8 (by simpa using b8)
  obtain ⟨kl7, kc7, kf7⟩ := blk8 hb7
  refine hK.out _ _ (fun hD => hS7) ?_
  clear hK K
  try simp only [Act.put, List.setIfInBounds_toArray, List.set_cons_zero, List.set_cons_succ]
  refine wpAnyD_one (i := 11) (o := { dst := some 192, op := Go.Op.nilCheck (Go.Operand.tmp 181), type := 0, pos := "law.go:136", after := #[{ on := 0, ground := Go.Ground.data }, { on := 0, ground := Go.Ground.phase }, { on := 1, ground := Go.Ground.phase }, { on := 2, ground := Go.Ground.phase }, { on := 3, ground := Go.Ground.phase }, { on := 4, ground := Go.Ground.phase }, { on := 5, ground := Go.Ground.phase }, { on := 6, ground := Go.Ground.phase }, { on := 7, ground := Go.Ground.phase }, { on := 8, ground := Go.Ground.phase }, { on := 9, ground := Go.Ground.phase }, { on := 10, ground := Go.Ground.phase }], guard := none }) (by kernel_rfl) rfl (fun K hK => ?_)
  go_simp
  refine hK.out _ _ (fun hD => hS7) ?_
  clear hK K
  try simp only [Act.put, List.setIfInBounds_toArray, List.set_cons_zero, List.set_cons_succ]
  refine wpAnyD_one (i := 12) (o := { dst := some 193, op := Go.Op.fieldAddr 64 (Go.Operand.tmp 192) 3, type := 0, pos := "law.go:136", after := #[{ on := 11, ground := Go.Ground.data }, { on := 0, ground := Go.Ground.phase }, { on := 1, ground := Go.Ground.phase }, { on := 2, ground := Go.Ground.phase }, { on := 3, ground := Go.Ground.phase }, { on := 4, ground := Go.Ground.phase }, { on := 5, ground := Go.Ground.phase }, { on := 6, ground := Go.Ground.phase }, { on := 7, ground := Go.Ground.phase }, { on := 8, ground := Go.Ground.phase }, { on := 9, ground := Go.Ground.phase }, { on := 10, ground := Go.Ground.phase }], guard := none }) (by kernel_rfl) rfl (fun K hK => ?_)
  go_simp
  refine hK.out _ _ (fun hD => hS7) ?_
  clear hK K
  try simp only [Act.put, List.setIfInBounds_toArray, List.set_cons_zero, List.set_cons_succ]
  refine wpAnyD_one (i := 13) (o := { dst := none, op := Go.Op.store 62 (Go.Operand.tmp 193) (Go.Operand.tmp 191), type := 0, pos := "law.go:136", after := #[{ on := 12, ground := Go.Ground.data }, { on := 10, ground := Go.Ground.data }, { on := 10, ground := Go.Ground.chain }, { on := 0, ground := Go.Ground.phase }, { on := 1, ground := Go.Ground.phase }, { on := 2, ground := Go.Ground.phase }, { on := 3, ground := Go.Ground.phase }, { on := 4, ground := Go.Ground.phase }, { on := 5, ground := Go.Ground.phase }, { on := 6, ground := Go.Ground.phase }, { on := 7, ground := Go.Ground.phase }, { on := 8, ground := Go.Ground.phase }, { on := 9, ground := Go.Ground.phase }, { on := 10, ground := Go.Ground.phase }], guard := none }) (by kernel_rfl) rfl (fun K hK => ?_)
  go_simp
  refine hK.out _ _ (fun hD => absurd (by decide) hD) ?_
  clear hK K
  try simp only [Act.put, List.setIfInBounds_toArray, List.set_cons_zero, List.set_cons_succ]
  refine wpAnyD_done (by kernel_rfl) ?_ _
  have HP4 := hid (HP3.out.nx n8 (by have := HAB.out.1; omega) (by have := HAB.out.2; omega))
  have HB4 := hid B8
  have HN4 := hid (HN3.out.trans (n8.mono (B := fun k => k = a ∨ k = b ∨ k = 3 ∨ (15 ≤ k ∧ k < 19)) (fun k e => by omega)))
  clear HP2 HBO2 HN2 HOB2 HT2 HSBb B0b hS0b hP0b hB0b H2 B2 hS2 H3 B3 hS3 HO3 HN3 HB3 HP3 HU3 hS4 ho7 hg7 hl7 hlt7 K7 hx7 hb7 hset7 hS7 b8 k8 n8 B8 kl7 kc7 kf7
  go_wp2_with fail
  go_ret
  refine ⟨by simp, _, _, _, nT, nD + 2, _, _, _, _, _, _, _, _, _, fun i => if i = nD + 1 then l else if i = nD then l else CD i, HP4.out, HB4.out, Nat.le_refl _, Nat.le_refl _, HL.out.1, fun i hi => ?_, HN4.out⟩
  have := HLL.out
  by_cases e : i = nD + 1 <;> dsimp only
  · rw [if_pos e]; omega
  · rw [if_neg e]
    by_cases e2 : i = nD
    · rw [if_pos e2]; omega
    · rw [if_neg e2]; exact HL.out.2 i (by omega)
end Go.Proofs.Ytaaobchodbnkpaa.Qe
