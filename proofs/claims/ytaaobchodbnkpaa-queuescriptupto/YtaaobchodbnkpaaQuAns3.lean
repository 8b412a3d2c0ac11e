import Derived.Test.YtaaobchodbnkpaaQuAppV
namespace Go.Proofs.Ytaaobchodbnkpaa.Qe
open Go.RowKit Go.Sort
attribute [local go_sem ↓] Go.wp_at_zero Go.wp_at_succ

theorem two_one (p q : Option Addr) (n c d : Nat) : ∀ u ∈ [Value.slice p n c, Value.slice q n d], u.oneCell' = true := fun u hu => by
  simp at hu
  rcases hu with rfl | rfl <;> rfl
set_option maxHeartbeats 4000000 in
set_option maxRecDepth 100000 in
theorem ans3 {w : World} {tag : Nat → Nat} {a b qb rb N K kb nT nD : Nat} {Q : Nat → List Ms} {L : List Ms} {sT sU sD sX : Value} {VT VU VD VX : Nat → Value} {CT : Nat → List Ms} {CD : Nat → List Cg} (h : Pr w tag a b qb rb N K Q L) (hbo : Bo w tag kb nT nT nD nD sT sU sD sX VT VU VD VX CT CT CD CD) (ha : a ≠ 3 ∧ a < 15) (hb : b ≠ 3 ∧ b < 15) (hK : K ≤ 900000) (hnT : nT ≤ 1000000) (on : Int) (x : Ms) (hl : (∀ i, i < nT → (CT i).length ≤ K) ∧ ∀ i, i < nD → (CD i).length ≤ K) : Calls Try.prog 17 #[.pointer (some ⟨qb, 0, none⟩), .pointer (some ⟨rb, 0, none⟩), opv 3 on x, .pointer (some ⟨kb, 0, none⟩)] w fun e w' => e = .returned (.bool true) ∧ Hid (Ab w tag a b qb rb N K kb (nT + 2) nD w') := by
  have hmx : Try.prog.follows .mixedOrders = true := by kernel_rfl
  obtain ⟨W1, hW1⟩ : ∃ W, W = w.alloc (.cells #[.int .i64 3, .int .i64 on, .int .i64 x.at_, .int .u64 x.a, .int .u64 x.b, .int .u64 x.c, .int .u64 x.k, .int .u64 x.v] 66) := ⟨_, rfl⟩
  obtain ⟨ob, hob⟩ : ∃ o, o = w.heap.size := ⟨_, rfl⟩
  have hB : Below w.heap.size w W1 := by rw [hW1]; exact ((Gr.refl w).alloc _).below
  have hbk : W1.heap[ob]? = some (.cells #[.int .i64 3, .int .i64 on, .int .i64 x.at_, .int .u64 x.a, .int .u64 x.b, .int .u64 x.c, .int .u64 x.k, .int .u64 x.v] 66 (0, 0)) := by rw [hW1, hob]; exact heap_new' _ _
  have HP := hid (h.below hB 0)
  have HBO := hid (hbo.below hB 0)
  have HN := hid (Nx.below (fun k => k = a ∨ k = b ∨ k = 3 ∨ (15 ≤ k ∧ k < 19)) tag 0 hB)
  have HOB := hid hbk
  have HT : Hid (tg tag w 0 ob = 0) := tg_new (by rw [hob]; exact Nat.le_refl _)
  have HW : Hid (w.alloc (.cells #[.int .i64 3, .int .i64 on, .int .i64 x.at_, .int .u64 x.a, .int .u64 x.b, .int .u64 x.c, .int .u64 x.k, .int .u64 x.v] 66) = W1 ∧ w.heap.size = ob) := ⟨hW1.symm, hob.symm⟩
  have HAB : Hid ((a ≠ 3 ∧ a < 15) ∧ b ≠ 3 ∧ b < 15) := ⟨ha, hb⟩
  have HL := hid hl
  generalize htg : tg tag w 0 = tag1 at HP HN HT HBO
  clear htg hW1 hob hB hbk h ha hb hbo hl
  obtain ⟨iT, hiT, ht0, ht1, ht2⟩ := info_parts Qs.infoLt
  have IT : Hid (Try.prog.info? 22 = some iT ∧ iT.zero = some (.slice none 0 0) ∧ iT.size = 1 ∧ iT.bytes = 24) := ⟨hiT, ht0, ht1, ht2⟩
  clear hiT ht0 ht1 ht2
  obtain ⟨l, hll⟩ : ∃ l, l = atp L x.at_ := ⟨_, rfl⟩
  have HLL : Hid (l.length ≤ K) := by
    show _ ≤ _
    rw [hll]
    exact Nat.le_trans (List.length_filter_le _ _) HP.out.le
  have HLE := hid hll
  obtain ⟨m, hm⟩ : ∃ m, m = l.length := ⟨_, rfl⟩
  have HM := hid hm
  clear hll hm
  go_enter Try.func17, Try.ntmps17
  go_upto_region 15 with fail
  rw [HW.out.1, HW.out.2]
  clear HW
  have HSBa : Hid (∀ X : World, Below W1.heap.size W1 X → (fun X : World => X.heap[ob]? = some (.cells #[.int .i64 3, .int .i64 on, .int .i64 x.at_, .int .u64 x.a, .int .u64 x.b, .int .u64 x.c, .int .u64 x.k, .int .u64 x.v] 66 (0, 0)) ∧ X.heap[kb]? = some (.cells #[sT, sU, sD, sX] 64 (0, 0))) X) := fun X hX => ⟨(hX.block ob (blk8 HOB.out).1).trans HOB.out, (hX.block kb HBO.out.lt).trans HBO.out.blk⟩
  have B0a : Below W1.heap.size W1 W1.drew := (Gr.refl _).drew.below
  have hS0a := HSBa.out _ B0a
  have hP0a := HP.out.same B0a
  have hB0a := HBO.out.nx (Nx.same (fun _ => False) tag1 B0a) (fun h => h) (fun _ h => h.elim)
  refine wp_regionD (S := (fun X : World => X.heap[ob]? = some (.cells #[.int .i64 3, .int .i64 on, .int .i64 x.at_, .int .u64 x.a, .int .u64 x.b, .int .u64 x.c, .int .u64 x.k, .int .u64 x.v] 66 (0, 0)) ∧ X.heap[kb]? = some (.cells #[sT, sU, sD, sX] 64 (0, 0)))) (D := [19]) hmx ?_
  refine' wpAnyD_take (i := 0) (oi := { dst := some 104, op := Go.Op.move (Go.Operand.tmp 3), type := 60, pos := "law.go:128", after := #[], guard := none }) (v := _) rfl (by kernel_rfl) (by kernel_rfl) (by kernel_rfl) (fun _ _ _ h => h) (by kernel_rfl) (Or.inl ⟨by rfl, ?hy1⟩) hS0a ?rest1
  case hy1 => (intro W hSw; obtain ⟨l0, c0, _⟩ := blk8 hSw.1; obtain ⟨l1, c1, _⟩ := blk8 hSw.2; go_simp; try (with_reducible rfl))
  try simp only [Act.put, List.setIfInBounds_toArray, List.set_cons_zero, List.set_cons_succ]
  refine' wpAnyD_take (i := 1) (oi := { dst := some 105, op := Go.Op.move (Go.Operand.tmp 3), type := 60, pos := "law.go:128", after := #[], guard := none }) (v := _) rfl (by kernel_rfl) (by kernel_rfl) (by kernel_rfl) (fun _ _ _ h => h) (by kernel_rfl) (Or.inl ⟨by rfl, ?hy2⟩) hS0a ?rest2
  case hy2 => (intro W hSw; obtain ⟨l0, c0, _⟩ := blk8 hSw.1; obtain ⟨l1, c1, _⟩ := blk8 hSw.2; go_simp; try (with_reducible rfl))
  try simp only [Act.put, List.setIfInBounds_toArray, List.set_cons_zero, List.set_cons_succ]
  refine' wpAnyD_take (i := 2) (oi := { dst := some 106, op := Go.Op.nilCheck (Go.Operand.tmp 105), type := 0, pos := "law.go:128", after := #[{ on := 1, ground := Go.Ground.data }], guard := none }) (v := _) rfl (by kernel_rfl) (by kernel_rfl) (by kernel_rfl) (fun _ _ _ h => h) (by kernel_rfl) (Or.inl ⟨by rfl, ?hy3⟩) hS0a ?rest3
  case hy3 => (intro W hSw; obtain ⟨l0, c0, _⟩ := blk8 hSw.1; obtain ⟨l1, c1, _⟩ := blk8 hSw.2; go_simp; try (with_reducible rfl))
  try simp only [Act.put, List.setIfInBounds_toArray, List.set_cons_zero, List.set_cons_succ]
  refine' wpAnyD_take (i := 3) (oi := { dst := some 107, op := Go.Op.fieldAddr 64 (Go.Operand.tmp 106) 0, type := 0, pos := "law.go:128", after := #[{ on := 2, ground := Go.Ground.data }], guard := none }) (v := _) rfl (by kernel_rfl) (by kernel_rfl) (by kernel_rfl) (fun _ _ _ h => h) (by kernel_rfl) (Or.inl ⟨by rfl, ?hy4⟩) hS0a ?rest4
  case hy4 => (intro W hSw; obtain ⟨l0, c0, _⟩ := blk8 hSw.1; obtain ⟨l1, c1, _⟩ := blk8 hSw.2; go_simp; try (with_reducible rfl))
  try simp only [Act.put, List.setIfInBounds_toArray, List.set_cons_zero, List.set_cons_succ]
  refine' wpAnyD_take (i := 4) (oi := { dst := some 108, op := Go.Op.load 61 (Go.Operand.tmp 107), type := 61, pos := "law.go:128", after := #[{ on := 3, ground := Go.Ground.data }], guard := none }) (v := _) rfl (by kernel_rfl) (by kernel_rfl) (by kernel_rfl) (fun _ _ _ h => h) (by kernel_rfl) (Or.inl ⟨by rfl, ?hy5⟩) hS0a ?rest5
  case hy5 => (intro W hSw; obtain ⟨l0, c0, _⟩ := blk8 hSw.1; obtain ⟨l1, c1, _⟩ := blk8 hSw.2; go_simp; try (with_reducible rfl))
  try simp only [Act.put, List.setIfInBounds_toArray, List.set_cons_zero, List.set_cons_succ]
  refine' wpAnyD_take (i := 5) (oi := { dst := some 109, op := Go.Op.move (Go.Operand.tmp 0), type := 24, pos := "law.go:128", after := #[], guard := none }) (v := _) rfl (by kernel_rfl) (by kernel_rfl) (by kernel_rfl) (fun _ _ _ h => h) (by kernel_rfl) (Or.inl ⟨by rfl, ?hy6⟩) hS0a ?rest6
  case hy6 => (intro W hSw; obtain ⟨l0, c0, _⟩ := blk8 hSw.1; obtain ⟨l1, c1, _⟩ := blk8 hSw.2; go_simp; try (with_reducible rfl))
  try simp only [Act.put, List.setIfInBounds_toArray, List.set_cons_zero, List.set_cons_succ]
  refine' wpAnyD_take (i := 6) (oi := { dst := some 110, op := Go.Op.fieldAddr 66 (Go.Operand.tmp 6) 2, type := 0, pos := "law.go:128", after := #[], guard := none }) (v := _) rfl (by kernel_rfl) (by kernel_rfl) (by kernel_rfl) (fun _ _ _ h => h) (by kernel_rfl) (Or.inl ⟨by rfl, ?hy7⟩) hS0a ?rest7
  case hy7 => (intro W hSw; obtain ⟨l0, c0, _⟩ := blk8 hSw.1; obtain ⟨l1, c1, _⟩ := blk8 hSw.2; go_simp; try (with_reducible rfl))
  try simp only [Act.put, List.setIfInBounds_toArray, List.set_cons_zero, List.set_cons_succ]
  refine' wpAnyD_take (i := 7) (oi := { dst := some 111, op := Go.Op.fieldAddr 36 (Go.Operand.tmp 110) 0, type := 0, pos := "law.go:128", after := #[{ on := 6, ground := Go.Ground.data }], guard := none }) (v := _) rfl (by kernel_rfl) (by kernel_rfl) (by kernel_rfl) (fun _ _ _ h => h) (by kernel_rfl) (Or.inl ⟨by rfl, ?hy8⟩) hS0a ?rest8
  case hy8 => (intro W hSw; obtain ⟨l0, c0, _⟩ := blk8 hSw.1; obtain ⟨l1, c1, _⟩ := blk8 hSw.2; go_simp; try (with_reducible rfl))
  try simp only [Act.put, List.setIfInBounds_toArray, List.set_cons_zero, List.set_cons_succ]
  refine' wpAnyD_take (i := 8) (oi := { dst := some 112, op := Go.Op.load 3 (Go.Operand.tmp 111), type := 3, pos := "law.go:128", after := #[{ on := 7, ground := Go.Ground.data }], guard := none }) (v := _) rfl (by kernel_rfl) (by kernel_rfl) (by kernel_rfl) (fun _ _ _ h => h) (by kernel_rfl) (Or.inl ⟨by rfl, ?hy9⟩) hS0a ?rest9
  case hy9 => (intro W hSw; obtain ⟨l0, c0, _⟩ := blk8 hSw.1; obtain ⟨l1, c1, _⟩ := blk8 hSw.2; go_simp; try (with_reducible rfl))
  try simp only [Act.put, List.setIfInBounds_toArray, List.set_cons_zero, List.set_cons_succ]
  refine' wpAnyD_take (i := 10) (oi := { dst := some 114, op := Go.Op.move (Go.Operand.tmp 0), type := 24, pos := "law.go:128", after := #[], guard := none }) (v := _) rfl (by kernel_rfl) (by kernel_rfl) (by kernel_rfl) (fun _ _ _ h => h) (by kernel_rfl) (Or.inl ⟨by rfl, ?hy10⟩) hS0a ?rest10
  case hy10 => (intro W hSw; obtain ⟨l0, c0, _⟩ := blk8 hSw.1; obtain ⟨l1, c1, _⟩ := blk8 hSw.2; go_simp; try (with_reducible rfl))
  try simp only [Act.put, List.setIfInBounds_toArray, List.set_cons_zero, List.set_cons_succ]
  refine' wpAnyD_take (i := 11) (oi := { dst := some 115, op := Go.Op.fieldAddr 66 (Go.Operand.tmp 6) 2, type := 0, pos := "law.go:128", after := #[], guard := none }) (v := _) rfl (by kernel_rfl) (by kernel_rfl) (by kernel_rfl) (fun _ _ _ h => h) (by kernel_rfl) (Or.inl ⟨by rfl, ?hy11⟩) hS0a ?rest11
  case hy11 => (intro W hSw; obtain ⟨l0, c0, _⟩ := blk8 hSw.1; obtain ⟨l1, c1, _⟩ := blk8 hSw.2; go_simp; try (with_reducible rfl))
  try simp only [Act.put, List.setIfInBounds_toArray, List.set_cons_zero, List.set_cons_succ]
  refine' wpAnyD_take (i := 12) (oi := { dst := some 116, op := Go.Op.fieldAddr 36 (Go.Operand.tmp 115) 0, type := 0, pos := "law.go:128", after := #[{ on := 11, ground := Go.Ground.data }], guard := none }) (v := _) rfl (by kernel_rfl) (by kernel_rfl) (by kernel_rfl) (fun _ _ _ h => h) (by kernel_rfl) (Or.inl ⟨by rfl, ?hy12⟩) hS0a ?rest12
  case hy12 => (intro W hSw; obtain ⟨l0, c0, _⟩ := blk8 hSw.1; obtain ⟨l1, c1, _⟩ := blk8 hSw.2; go_simp; try (with_reducible rfl))
  try simp only [Act.put, List.setIfInBounds_toArray, List.set_cons_zero, List.set_cons_succ]
  refine' wpAnyD_take (i := 13) (oi := { dst := some 117, op := Go.Op.load 3 (Go.Operand.tmp 116), type := 3, pos := "law.go:128", after := #[{ on := 12, ground := Go.Ground.data }], guard := none }) (v := _) rfl (by kernel_rfl) (by kernel_rfl) (by kernel_rfl) (fun _ _ _ h => h) (by kernel_rfl) (Or.inl ⟨by rfl, ?hy13⟩) hS0a ?rest13
  case hy13 => (intro W hSw; obtain ⟨l0, c0, _⟩ := blk8 hSw.1; obtain ⟨l1, c1, _⟩ := blk8 hSw.2; go_simp; try (with_reducible rfl))
  try simp only [Act.put, List.setIfInBounds_toArray, List.set_cons_zero, List.set_cons_succ]
  refine wpAnyD_one (i := 9) (o := { dst := some 113, op := Go.Op.call { callee := Go.Callee.value (Go.Operand.func 22), args := #[Go.Operand.tmp 109, Go.Operand.tmp 112], argTypes := #[24, 3] }, type := 22, pos := "law.go:128", after := #[{ on := 5, ground := Go.Ground.data }, { on := 8, ground := Go.Ground.data }], guard := none }) (by kernel_rfl) rfl (fun K hK => ?_)
  go_simp
  refine (hP0a.listP x.at_ (20 + 4 * nT) (by omega)).mono ?_
  rintro e w2 ⟨u, rfl, ⟨p2, c2, rfl⟩, H2⟩
  rw [← HLE.out] at H2 ⊢
  have B2 := B0a.trans (H2.out.2.mono B0a.size)
  have hS2 := HSBa.out _ B2
  have hP2 := hP0a.below H2.out.2 (20 + 4 * nT)
  have hB2 := hB0a.below H2.out.2 (20 + 4 * nT)
  go_wp2_with fail
  refine hK.out _ _ (fun hD => hS2) ?_
  clear hK K
  try simp only [Act.put, List.setIfInBounds_toArray, List.set_cons_zero, List.set_cons_succ]
  refine wpAnyD_one (i := 14) (o := { dst := some 118, op := Go.Op.call { callee := Go.Callee.value (Go.Operand.func 22), args := #[Go.Operand.tmp 114, Go.Operand.tmp 117], argTypes := #[24, 3] }, type := 22, pos := "law.go:128", after := #[{ on := 10, ground := Go.Ground.data }, { on := 13, ground := Go.Ground.data }, { on := 9, ground := Go.Ground.chain }], guard := none }) (by kernel_rfl) rfl (fun K hK => ?_)
  go_simp
  refine (hP2.listP x.at_ (20 + 4 * (nT + 1)) (by omega)).mono ?_
  rintro e w3 ⟨u, rfl, ⟨p3, c3, rfl⟩, H3⟩
  rw [← HLE.out] at H3 ⊢
  have B3 := B2.trans (H3.out.2.mono B2.size)
  have hS3 := HSBa.out _ B3
  have hP3 := hP2.below H3.out.2 (20 + 4 * (nT + 1))
  have hB3 := hB2.below H3.out.2 (20 + 4 * (nT + 1))
  have hU3 := Ow.nx H2.out.1 (Nx.below (fun _ => False) _ (20 + 4 * (nT + 1)) H3.out.2) (fun h => h)
  have n3 := (Nx.same (fun k => k = a ∨ k = b ∨ k = 3 ∨ (15 ≤ k ∧ k < 19)) tag1 B0a).trans ((Nx.below _ tag1 (20 + 4 * nT) H2.out.2).trans (Nx.below _ _ (20 + 4 * (nT + 1)) H3.out.2))
  generalize tg (tg tag1 W1.drew (20 + 4 * nT)) w2 (20 + 4 * (nT + 1)) = tag3 at H3 hP3 hB3 hU3 n3
  have HO3 := hid ((n3.old ob (blk8 HOB.out).1).trans HT.out)
  have HN3 := hid (HN.out.trans n3)
  have HB3 := hid hB3
  have HP3 := hid hP3
  have HU3 := hid hU3
  clear hP2 hB2 hP3 hB3 hU3 n3
  go_wp2_with fail
  refine hK.out _ _ (fun hD => hS3) ?_
  clear hK K
  try simp only [Act.put, List.setIfInBounds_toArray, List.set_cons_zero, List.set_cons_succ]
  refine wpAnyD_one (i := 15) (o := { dst := some 119, op := Go.Op.buildSlice 61 2 #[(0, Go.Operand.tmp 113), (1, Go.Operand.tmp 118)], type := 61, pos := "law.go:128", after := #[{ on := 9, ground := Go.Ground.data }, { on := 14, ground := Go.Ground.data }], guard := none }) (by kernel_rfl) rfl (fun K hK => ?_)
  go_simp
  have hS4 := HSBa.out _ (B3.trans (((Gr.refl w3).alloc (.cells #[.slice p2 l.length c2, .slice p3 l.length c3] 22)).below.mono B3.size))
  refine hK.out _ _ (fun hD => hS4) ?_
  clear hK K
  try simp only [Act.put, List.setIfInBounds_toArray, List.set_cons_zero, List.set_cons_succ]
  refine wpAnyD_one (i := 16) (o := { dst := some 120, op := Go.Op.call { callee := Go.Callee.builtin Go.Builtin.append, args := #[Go.Operand.tmp 108, Go.Operand.tmp 119], argTypes := #[61, 61] }, type := 61, pos := "law.go:128", after := #[{ on := 4, ground := Go.Ground.data }, { on := 15, ground := Go.Ground.data }, { on := 14, ground := Go.Ground.chain }], guard := none }) (by kernel_rfl) rfl (fun K hK => ?_)
  refine step_append_lies _ rfl _ _ 61 rfl 0 22 iT (.slice none 0 0) 1 24 Try.underlying61 IT.out.1 IT.out.2.1 IT.out.2.2.1 IT.out.2.2.2 rfl (by decide) sT nT _ rfl (World.ownsRow.alloc HB3.out.cT.row.1 _) ⟨w3.heap.size, 0, none⟩ 2 2 [.slice p2 l.length c2, .slice p3 l.length c3] rfl rfl (World.news_of_block (heap_new' _ _)) (two_one _ _ _ _ _) (by decide) (by unfold maxLen; omega) (by omega) (Nat.zero_le _) _ rfl ?_
  intro g7 c7 w7 ho7 hg7 hl7 hlt7
  have K7 : Kp (fun q => sT.ownBlock = some q) w3 w7 := (Kp.of_below ((Gr.refl w3).alloc _).below).trans (Kp.grownBy (S := fun q => sT.ownBlock = some q) hg7 (fun _ h => h)) (fun _ _ h => h)
  have hx7 := HB3.out.cT.turn K7
  obtain ⟨hb7, hset7⟩ := HB3.out.setT hx7 (HB3.out.cT.push2 HU3.out H3.out.1 ho7 hx7 (fun g hg => by rw [own_one hg]; exact hl7.imp id (fun e => by rw [e]; simp)) (by omega))
  have hS7 : (fun X : World => X.heap[ob]? = some (.cells #[.int .i64 3, .int .i64 on, .int .i64 x.at_, .int .u64 x.a, .int .u64 x.b, .int .u64 x.c, .int .u64 x.k, .int .u64 x.v] 66 (0, 0)) ∧ X.heap[kb]? = some (.cells #[sT, sU, sD, sX] 64 (0, 0))) w7 := ⟨(hx7.kp.block ob (blk8 hS3.1).1 (fun e => by have := HO3.out; omega)).trans hS3.1, hb7⟩
  obtain ⟨b8, k8, _⟩ := setCell_blk (k := 0) (v := .slice (some ⟨g7, 0, none⟩) (nT + 2) c7) hb7
  obtain ⟨n8, B8⟩ := hset7 _ k8 (by simpa using b8)
  obtain ⟨kl7, kc7, kf7⟩ := blk8 hb7
  refine hK.out _ _ (fun hD => hS7) ?_
  clear hK K
  try simp only [Act.put, List.setIfInBounds_toArray, List.set_cons_zero, List.set_cons_succ]
  refine wpAnyD_one (i := 17) (o := { dst := some 121, op := Go.Op.nilCheck (Go.Operand.tmp 104), type := 0, pos := "law.go:128", after := #[{ on := 0, ground := Go.Ground.data }, { on := 0, ground := Go.Ground.phase }, { on := 1, ground := Go.Ground.phase }, { on := 2, ground := Go.Ground.phase }, { on := 3, ground := Go.Ground.phase }, { on := 4, ground := Go.Ground.phase }, { on := 5, ground := Go.Ground.phase }, { on := 6, ground := Go.Ground.phase }, { on := 7, ground := Go.Ground.phase }, { on := 8, ground := Go.Ground.phase }, { on := 9, ground := Go.Ground.phase }, { on := 10, ground := Go.Ground.phase }, { on := 11, ground := Go.Ground.phase }, { on := 12, ground := Go.Ground.phase }, { on := 13, ground := Go.Ground.phase }, { on := 14, ground := Go.Ground.phase }, { on := 15, ground := Go.Ground.phase }, { on := 16, ground := Go.Ground.phase }], guard := none }) (by kernel_rfl) rfl (fun K hK => ?_)
  go_simp
  refine hK.out _ _ (fun hD => hS7) ?_
  clear hK K
  try simp only [Act.put, List.setIfInBounds_toArray, List.set_cons_zero, List.set_cons_succ]
  refine wpAnyD_one (i := 18) (o := { dst := some 122, op := Go.Op.fieldAddr 64 (Go.Operand.tmp 121) 0, type := 0, pos := "law.go:128", after := #[{ on := 17, ground := Go.Ground.data }, { on := 0, ground := Go.Ground.phase }, { on := 1, ground := Go.Ground.phase }, { on := 2, ground := Go.Ground.phase }, { on := 3, ground := Go.Ground.phase }, { on := 4, ground := Go.Ground.phase }, { on := 5, ground := Go.Ground.phase }, { on := 6, ground := Go.Ground.phase }, { on := 7, ground := Go.Ground.phase }, { on := 8, ground := Go.Ground.phase }, { on := 9, ground := Go.Ground.phase }, { on := 10, ground := Go.Ground.phase }, { on := 11, ground := Go.Ground.phase }, { on := 12, ground := Go.Ground.phase }, { on := 13, ground := Go.Ground.phase }, { on := 14, ground := Go.Ground.phase }, { on := 15, ground := Go.Ground.phase }, { on := 16, ground := Go.Ground.phase }], guard := none }) (by kernel_rfl) rfl (fun K hK => ?_)
  go_simp
  refine hK.out _ _ (fun hD => hS7) ?_
  clear hK K
  try simp only [Act.put, List.setIfInBounds_toArray, List.set_cons_zero, List.set_cons_succ]
  refine wpAnyD_one (i := 19) (o := { dst := none, op := Go.Op.store 61 (Go.Operand.tmp 122) (Go.Operand.tmp 120), type := 0, pos := "law.go:128", after := #[{ on := 18, ground := Go.Ground.data }, { on := 16, ground := Go.Ground.data }, { on := 16, ground := Go.Ground.chain }, { on := 0, ground := Go.Ground.phase }, { on := 1, ground := Go.Ground.phase }, { on := 2, ground := Go.Ground.phase }, { on := 3, ground := Go.Ground.phase }, { on := 4, ground := Go.Ground.phase }, { on := 5, ground := Go.Ground.phase }, { on := 6, ground := Go.Ground.phase }, { on := 7, ground := Go.Ground.phase }, { on := 8, ground := Go.Ground.phase }, { on := 9, ground := Go.Ground.phase }, { on := 10, ground := Go.Ground.phase }, { on := 11, ground := Go.Ground.phase }, { on := 12, ground := Go.Ground.phase }, { on := 13, ground := Go.Ground.phase }, { on := 14, ground := Go.Ground.phase }, { on := 15, ground := Go.Ground.phase }, { on := 16, ground := Go.Ground.phase }], guard := none }) (by kernel_rfl) rfl (fun K hK => ?_)
  go_simp
  refine hK.out _ _ (fun hD => absurd (by decide) hD) ?_
  clear hK K
  try simp only [Act.put, List.setIfInBounds_toArray, List.set_cons_zero, List.set_cons_succ]
  refine wpAnyD_done (by kernel_rfl) ?_ _
  have HP2 := hid (HP3.out.nx n8 (by have := HAB.out.1; omega) (by have := HAB.out.2; omega))
  have HBO2 := hid B8
  have HN2 := hid (HN3.out.trans (n8.mono (B := fun k => k = a ∨ k = b ∨ k = 3 ∨ (15 ≤ k ∧ k < 19)) (fun k e => by omega)))
  have HOB2 := hid ((n8.kp.block ob (blk8 hS3.1).1 (fun e => by have := HO3.out; omega)).trans hS3.1)
  have HT2 := hid ((n8.old ob (blk8 hS3.1).1).trans HO3.out)
  clear HP HBO HN HOB HT HSBa B0a hS0a hP0a hB0a H2 B2 hS2 H3 B3 hS3 HO3 HN3 HB3 HP3 HU3 hS4 ho7 hg7 hl7 hlt7 K7 hx7 hb7 hset7 hS7 b8 k8 n8 B8 kl7 kc7 kf7
  generalize tg tag3 w3 15 = tag8 at HP2 HBO2 HN2 HT2
  go_upto_region 16 with fail
  generalize w7.setCell ⟨kb, 0, none⟩ (.slice (some ⟨g7, 0, none⟩) (nT + 2) c7) = W8 at HP2 HBO2 HN2 HOB2 ⊢
  obtain ⟨s8, hs8⟩ : ∃ s, s = Value.slice (some ⟨g7, 0, none⟩) (nT + 2) c7 := ⟨_, rfl⟩
  rw [← hs8] at HBO2
  clear hs8
  have HSBb : Hid (∀ X : World, Below W8.heap.size W8 X → (fun X : World => X.heap[ob]? = some (.cells #[.int .i64 3, .int .i64 on, .int .i64 x.at_, .int .u64 x.a, .int .u64 x.b, .int .u64 x.c, .int .u64 x.k, .int .u64 x.v] 66 (0, 0)) ∧ X.heap[kb]? = some (.cells #[s8, sU, sD, sX] 64 (0, 0))) X) := fun X hX => ⟨(hX.block ob (blk8 HOB2.out).1).trans HOB2.out, (hX.block kb HBO2.out.lt).trans HBO2.out.blk⟩
  have B0b : Below W8.heap.size W8 W8.drew := (Gr.refl _).drew.below
  have hS0b := HSBb.out _ B0b
  have hP0b := HP2.out.same B0b
  have hB0b := HBO2.out.nx (Nx.same (fun _ => False) tag8 B0b) (fun h => h) (fun _ h => h.elim)
  refine wp_regionD (S := (fun X : World => X.heap[ob]? = some (.cells #[.int .i64 3, .int .i64 on, .int .i64 x.at_, .int .u64 x.a, .int .u64 x.b, .int .u64 x.c, .int .u64 x.k, .int .u64 x.v] 66 (0, 0)) ∧ X.heap[kb]? = some (.cells #[s8, sU, sD, sX] 64 (0, 0)))) (D := [19]) hmx ?_
  refine' wpAnyD_take (i := 0) (oi := { dst := some 123, op := Go.Op.move (Go.Operand.tmp 3), type := 60, pos := "law.go:129", after := #[], guard := none }) (v := _) rfl (by kernel_rfl) (by kernel_rfl) (by kernel_rfl) (fun _ _ _ h => h) (by kernel_rfl) (Or.inl ⟨by rfl, ?hy21⟩) hS0b ?rest21
  case hy21 => (intro W hSw; obtain ⟨l0, c0, _⟩ := blk8 hSw.1; obtain ⟨l1, c1, _⟩ := blk8 hSw.2; go_simp; try (with_reducible rfl))
  try simp only [Act.put, List.setIfInBounds_toArray, List.set_cons_zero, List.set_cons_succ]
  refine' wpAnyD_take (i := 1) (oi := { dst := some 124, op := Go.Op.move (Go.Operand.tmp 3), type := 60, pos := "law.go:129", after := #[], guard := none }) (v := _) rfl (by kernel_rfl) (by kernel_rfl) (by kernel_rfl) (fun _ _ _ h => h) (by kernel_rfl) (Or.inl ⟨by rfl, ?hy22⟩) hS0b ?rest22
  case hy22 => (intro W hSw; obtain ⟨l0, c0, _⟩ := blk8 hSw.1; obtain ⟨l1, c1, _⟩ := blk8 hSw.2; go_simp; try (with_reducible rfl))
  try simp only [Act.put, List.setIfInBounds_toArray, List.set_cons_zero, List.set_cons_succ]
  refine' wpAnyD_take (i := 2) (oi := { dst := some 125, op := Go.Op.nilCheck (Go.Operand.tmp 124), type := 0, pos := "law.go:129", after := #[{ on := 1, ground := Go.Ground.data }], guard := none }) (v := _) rfl (by kernel_rfl) (by kernel_rfl) (by kernel_rfl) (fun _ _ _ h => h) (by kernel_rfl) (Or.inl ⟨by rfl, ?hy23⟩) hS0b ?rest23
  case hy23 => (intro W hSw; obtain ⟨l0, c0, _⟩ := blk8 hSw.1; obtain ⟨l1, c1, _⟩ := blk8 hSw.2; go_simp; try (with_reducible rfl))
  try simp only [Act.put, List.setIfInBounds_toArray, List.set_cons_zero, List.set_cons_succ]
  refine' wpAnyD_take (i := 3) (oi := { dst := some 126, op := Go.Op.fieldAddr 64 (Go.Operand.tmp 125) 1, type := 0, pos := "law.go:129", after := #[{ on := 2, ground := Go.Ground.data }], guard := none }) (v := _) rfl (by kernel_rfl) (by kernel_rfl) (by kernel_rfl) (fun _ _ _ h => h) (by kernel_rfl) (Or.inl ⟨by rfl, ?hy24⟩) hS0b ?rest24
  case hy24 => (intro W hSw; obtain ⟨l0, c0, _⟩ := blk8 hSw.1; obtain ⟨l1, c1, _⟩ := blk8 hSw.2; go_simp; try (with_reducible rfl))
  try simp only [Act.put, List.setIfInBounds_toArray, List.set_cons_zero, List.set_cons_succ]
  refine' wpAnyD_take (i := 4) (oi := { dst := some 127, op := Go.Op.load 61 (Go.Operand.tmp 126), type := 61, pos := "law.go:129", after := #[{ on := 3, ground := Go.Ground.data }], guard := none }) (v := _) rfl (by kernel_rfl) (by kernel_rfl) (by kernel_rfl) (fun _ _ _ h => h) (by kernel_rfl) (Or.inl ⟨by rfl, ?hy25⟩) hS0b ?rest25
  case hy25 => (intro W hSw; obtain ⟨l0, c0, _⟩ := blk8 hSw.1; obtain ⟨l1, c1, _⟩ := blk8 hSw.2; go_simp; try (with_reducible rfl))
  try simp only [Act.put, List.setIfInBounds_toArray, List.set_cons_zero, List.set_cons_succ]
  refine' wpAnyD_take (i := 5) (oi := { dst := some 128, op := Go.Op.move (Go.Operand.tmp 1), type := 55, pos := "law.go:129", after := #[], guard := none }) (v := _) rfl (by kernel_rfl) (by kernel_rfl) (by kernel_rfl) (fun _ _ _ h => h) (by kernel_rfl) (Or.inl ⟨by rfl, ?hy26⟩) hS0b ?rest26
  case hy26 => (intro W hSw; obtain ⟨l0, c0, _⟩ := blk8 hSw.1; obtain ⟨l1, c1, _⟩ := blk8 hSw.2; go_simp; try (with_reducible rfl))
  try simp only [Act.put, List.setIfInBounds_toArray, List.set_cons_zero, List.set_cons_succ]
  refine' wpAnyD_take (i := 6) (oi := { dst := some 129, op := Go.Op.fieldAddr 66 (Go.Operand.tmp 6) 2, type := 0, pos := "law.go:129", after := #[], guard := none }) (v := _) rfl (by kernel_rfl) (by kernel_rfl) (by kernel_rfl) (fun _ _ _ h => h) (by kernel_rfl) (Or.inl ⟨by rfl, ?hy27⟩) hS0b ?rest27
  case hy27 => (intro W hSw; obtain ⟨l0, c0, _⟩ := blk8 hSw.1; obtain ⟨l1, c1, _⟩ := blk8 hSw.2; go_simp; try (with_reducible rfl))
  try simp only [Act.put, List.setIfInBounds_toArray, List.set_cons_zero, List.set_cons_succ]
  refine' wpAnyD_take (i := 7) (oi := { dst := some 130, op := Go.Op.fieldAddr 36 (Go.Operand.tmp 129) 0, type := 0, pos := "law.go:129", after := #[{ on := 6, ground := Go.Ground.data }], guard := none }) (v := _) rfl (by kernel_rfl) (by kernel_rfl) (by kernel_rfl) (fun _ _ _ h => h) (by kernel_rfl) (Or.inl ⟨by rfl, ?hy28⟩) hS0b ?rest28
  case hy28 => (intro W hSw; obtain ⟨l0, c0, _⟩ := blk8 hSw.1; obtain ⟨l1, c1, _⟩ := blk8 hSw.2; go_simp; try (with_reducible rfl))
  try simp only [Act.put, List.setIfInBounds_toArray, List.set_cons_zero, List.set_cons_succ]
  refine' wpAnyD_take (i := 8) (oi := { dst := some 131, op := Go.Op.load 3 (Go.Operand.tmp 130), type := 3, pos := "law.go:129", after := #[{ on := 7, ground := Go.Ground.data }], guard := none }) (v := _) rfl (by kernel_rfl) (by kernel_rfl) (by kernel_rfl) (fun _ _ _ h => h) (by kernel_rfl) (Or.inl ⟨by rfl, ?hy29⟩) hS0b ?rest29
  case hy29 => (intro W hSw; obtain ⟨l0, c0, _⟩ := blk8 hSw.1; obtain ⟨l1, c1, _⟩ := blk8 hSw.2; go_simp; try (with_reducible rfl))
  try simp only [Act.put, List.setIfInBounds_toArray, List.set_cons_zero, List.set_cons_succ]
  refine' wpAnyD_take (i := 10) (oi := { dst := some 133, op := Go.Op.move (Go.Operand.tmp 1), type := 55, pos := "law.go:129", after := #[], guard := none }) (v := _) rfl (by kernel_rfl) (by kernel_rfl) (by kernel_rfl) (fun _ _ _ h => h) (by kernel_rfl) (Or.inl ⟨by rfl, ?hy30⟩) hS0b ?rest30
  case hy30 => (intro W hSw; obtain ⟨l0, c0, _⟩ := blk8 hSw.1; obtain ⟨l1, c1, _⟩ := blk8 hSw.2; go_simp; try (with_reducible rfl))
  try simp only [Act.put, List.setIfInBounds_toArray, List.set_cons_zero, List.set_cons_succ]
  refine' wpAnyD_take (i := 11) (oi := { dst := some 134, op := Go.Op.fieldAddr 66 (Go.Operand.tmp 6) 2, type := 0, pos := "law.go:129", after := #[], guard := none }) (v := _) rfl (by kernel_rfl) (by kernel_rfl) (by kernel_rfl) (fun _ _ _ h => h) (by kernel_rfl) (Or.inl ⟨by rfl, ?hy31⟩) hS0b ?rest31
  case hy31 => (intro W hSw; obtain ⟨l0, c0, _⟩ := blk8 hSw.1; obtain ⟨l1, c1, _⟩ := blk8 hSw.2; go_simp; try (with_reducible rfl))
  try simp only [Act.put, List.setIfInBounds_toArray, List.set_cons_zero, List.set_cons_succ]
  refine' wpAnyD_take (i := 12) (oi := { dst := some 135, op := Go.Op.fieldAddr 36 (Go.Operand.tmp 134) 0, type := 0, pos := "law.go:129", after := #[{ on := 11, ground := Go.Ground.data }], guard := none }) (v := _) rfl (by kernel_rfl) (by kernel_rfl) (by kernel_rfl) (fun _ _ _ h => h) (by kernel_rfl) (Or.inl ⟨by rfl, ?hy32⟩) hS0b ?rest32
  case hy32 => (intro W hSw; obtain ⟨l0, c0, _⟩ := blk8 hSw.1; obtain ⟨l1, c1, _⟩ := blk8 hSw.2; go_simp; try (with_reducible rfl))
  try simp only [Act.put, List.setIfInBounds_toArray, List.set_cons_zero, List.set_cons_succ]
  refine' wpAnyD_take (i := 13) (oi := { dst := some 136, op := Go.Op.load 3 (Go.Operand.tmp 135), type := 3, pos := "law.go:129", after := #[{ on := 12, ground := Go.Ground.data }], guard := none }) (v := _) rfl (by kernel_rfl) (by kernel_rfl) (by kernel_rfl) (fun _ _ _ h => h) (by kernel_rfl) (Or.inl ⟨by rfl, ?hy33⟩) hS0b ?rest33
  case hy33 => (intro W hSw; obtain ⟨l0, c0, _⟩ := blk8 hSw.1; obtain ⟨l1, c1, _⟩ := blk8 hSw.2; go_simp; try (with_reducible rfl))
  try simp only [Act.put, List.setIfInBounds_toArray, List.set_cons_zero, List.set_cons_succ]
  refine wpAnyD_one (i := 9) (o := { dst := some 132, op := Go.Op.call { callee := Go.Callee.value (Go.Operand.func 23), args := #[Go.Operand.tmp 128, Go.Operand.tmp 131], argTypes := #[55, 3] }, type := 22, pos := "law.go:129", after := #[{ on := 5, ground := Go.Ground.data }, { on := 8, ground := Go.Ground.data }], guard := none }) (by kernel_rfl) rfl (fun K hK => ?_)
  go_simp
  refine (hP0b.listR x.at_ (21 + 4 * nT) (by omega)).mono ?_
  rintro e w2 ⟨u, rfl, ⟨p2, c2, rfl⟩, H2⟩
  rw [← HLE.out] at H2 ⊢
  have B2 := B0b.trans (H2.out.2.mono B0b.size)
  have hS2 := HSBb.out _ B2
  have hP2 := hP0b.below H2.out.2 (21 + 4 * nT)
  have hB2 := hB0b.below H2.out.2 (21 + 4 * nT)
  go_wp2_with fail
  refine hK.out _ _ (fun hD => hS2) ?_
  clear hK K
  try simp only [Act.put, List.setIfInBounds_toArray, List.set_cons_zero, List.set_cons_succ]
  refine wpAnyD_one (i := 14) (o := { dst := some 137, op := Go.Op.call { callee := Go.Callee.value (Go.Operand.func 23), args := #[Go.Operand.tmp 133, Go.Operand.tmp 136], argTypes := #[55, 3] }, type := 22, pos := "law.go:129", after := #[{ on := 10, ground := Go.Ground.data }, { on := 13, ground := Go.Ground.data }, { on := 9, ground := Go.Ground.chain }], guard := none }) (by kernel_rfl) rfl (fun K hK => ?_)
  go_simp
  refine (hP2.listR x.at_ (21 + 4 * (nT + 1)) (by omega)).mono ?_
  rintro e w3 ⟨u, rfl, ⟨p3, c3, rfl⟩, H3⟩
  rw [← HLE.out] at H3 ⊢
  have B3 := B2.trans (H3.out.2.mono B2.size)
  have hS3 := HSBb.out _ B3
  have hP3 := hP2.below H3.out.2 (21 + 4 * (nT + 1))
  have hB3 := hB2.below H3.out.2 (21 + 4 * (nT + 1))
  have hU3 := Ow.nx H2.out.1 (Nx.below (fun _ => False) _ (21 + 4 * (nT + 1)) H3.out.2) (fun h => h)
  have n3 := (Nx.same (fun k => k = a ∨ k = b ∨ k = 3 ∨ (15 ≤ k ∧ k < 19)) tag8 B0b).trans ((Nx.below _ tag8 (21 + 4 * nT) H2.out.2).trans (Nx.below _ _ (21 + 4 * (nT + 1)) H3.out.2))
  generalize tg (tg tag8 W8.drew (21 + 4 * nT)) w2 (21 + 4 * (nT + 1)) = tag3 at H3 hP3 hB3 hU3 n3
  have HO3 := hid ((n3.old ob (blk8 HOB2.out).1).trans HT2.out)
  have HN3 := hid (HN2.out.trans n3)
  have HB3 := hid hB3
  have HP3 := hid hP3
  have HU3 := hid hU3
  clear hP2 hB2 hP3 hB3 hU3 n3
  go_wp2_with fail
  refine hK.out _ _ (fun hD => hS3) ?_
  clear hK K
  try simp only [Act.put, List.setIfInBounds_toArray, List.set_cons_zero, List.set_cons_succ]
  refine wpAnyD_one (i := 15) (o := { dst := some 138, op := Go.Op.buildSlice 61 2 #[(0, Go.Operand.tmp 132), (1, Go.Operand.tmp 137)], type := 61, pos := "law.go:129", after := #[{ on := 9, ground := Go.Ground.data }, { on := 14, ground := Go.Ground.data }], guard := none }) (by kernel_rfl) rfl (fun K hK => ?_)
  go_simp
  have hS4 := HSBb.out _ (B3.trans (((Gr.refl w3).alloc (.cells #[.slice p2 l.length c2, .slice p3 l.length c3] 22)).below.mono B3.size))
  refine hK.out _ _ (fun hD => hS4) ?_
  clear hK K
  try simp only [Act.put, List.setIfInBounds_toArray, List.set_cons_zero, List.set_cons_succ]
  refine wpAnyD_one (i := 16) (o := { dst := some 139, op := Go.Op.call { callee := Go.Callee.builtin Go.Builtin.append, args := #[Go.Operand.tmp 127, Go.Operand.tmp 138], argTypes := #[61, 61] }, type := 61, pos := "law.go:129", after := #[{ on := 4, ground := Go.Ground.data }, { on := 15, ground := Go.Ground.data }, { on := 14, ground := Go.Ground.chain }], guard := none }) (by kernel_rfl) rfl (fun K hK => ?_)
  refine step_append_lies _ rfl _ _ 61 rfl 0 22 iT (.slice none 0 0) 1 24 Try.underlying61 IT.out.1 IT.out.2.1 IT.out.2.2.1 IT.out.2.2.2 rfl (by decide) sU nT _ rfl (World.ownsRow.alloc HB3.out.cU.row.1 _) ⟨w3.heap.size, 0, none⟩ 2 2 [.slice p2 l.length c2, .slice p3 l.length c3] rfl rfl (World.news_of_block (heap_new' _ _)) (two_one _ _ _ _ _) (by decide) (by unfold maxLen; omega) (by omega) (Nat.zero_le _) _ rfl ?_
  intro g7 c7 w7 ho7 hg7 hl7 hlt7
  have K7 : Kp (fun q => sU.ownBlock = some q) w3 w7 := (Kp.of_below ((Gr.refl w3).alloc _).below).trans (Kp.grownBy (S := fun q => sU.ownBlock = some q) hg7 (fun _ h => h)) (fun _ _ h => h)
  have hx7 := HB3.out.cU.turn K7
  obtain ⟨hb7, hset7⟩ := HB3.out.setU hx7 (HB3.out.cU.push2 HU3.out H3.out.1 ho7 hx7 (fun g hg => by rw [own_one hg]; exact hl7.imp id (fun e => by rw [e]; simp)) (by omega))
  have hS7 : (fun X : World => X.heap[ob]? = some (.cells #[.int .i64 3, .int .i64 on, .int .i64 x.at_, .int .u64 x.a, .int .u64 x.b, .int .u64 x.c, .int .u64 x.k, .int .u64 x.v] 66 (0, 0)) ∧ X.heap[kb]? = some (.cells #[s8, sU, sD, sX] 64 (0, 0))) w7 := ⟨(hx7.kp.block ob (blk8 hS3.1).1 (fun e => by have := HO3.out; omega)).trans hS3.1, hb7⟩
  obtain ⟨b8, k8, _⟩ := setCell_blk (k := 1) (v := .slice (some ⟨g7, 0, none⟩) (nT + 2) c7) hb7
  obtain ⟨n8, B8⟩ := hset7 _ k8 (by simpa using b8)
  obtain ⟨kl7, kc7, kf7⟩ := blk8 hb7
  refine hK.out _ _ (fun hD => hS7) ?_
  clear hK K
  try simp only [Act.put, List.setIfInBounds_toArray, List.set_cons_zero, List.set_cons_succ]
  refine wpAnyD_one (i := 17) (o := { dst := some 140, op := Go.Op.nilCheck (Go.Operand.tmp 123), type := 0, pos := "law.go:129", after := #[{ on := 0, ground := Go.Ground.data }, { on := 0, ground := Go.Ground.phase }, { on := 1, ground := Go.Ground.phase }, { on := 2, ground := Go.Ground.phase }, { on := 3, ground := Go.Ground.phase }, { on := 4, ground := Go.Ground.phase }, { on := 5, ground := Go.Ground.phase }, { on := 6, ground := Go.Ground.phase }, { on := 7, ground := Go.Ground.phase }, { on := 8, ground := Go.Ground.phase }, { on := 9, ground := Go.Ground.phase }, { on := 10, ground := Go.Ground.phase }, { on := 11, ground := Go.Ground.phase }, { on := 12, ground := Go.Ground.phase }, { on := 13, ground := Go.Ground.phase }, { on := 14, ground := Go.Ground.phase }, { on := 15, ground := Go.Ground.phase }, { on := 16, ground := Go.Ground.phase }], guard := none }) (by kernel_rfl) rfl (fun K hK => ?_)
  go_simp
  refine hK.out _ _ (fun hD => hS7) ?_
  clear hK K
  try simp only [Act.put, List.setIfInBounds_toArray, List.set_cons_zero, List.set_cons_succ]
  refine wpAnyD_one (i := 18) (o := { dst := some 141, op := Go.Op.fieldAddr 64 (Go.Operand.tmp 140) 1, type := 0, pos := "law.go:129", after := #[{ on := 17, ground := Go.Ground.data }, { on := 0, ground := Go.Ground.phase }, { on := 1, ground := Go.Ground.phase }, { on := 2, ground := Go.Ground.phase }, { on := 3, ground := Go.Ground.phase }, { on := 4, ground := Go.Ground.phase }, { on := 5, ground := Go.Ground.phase }, { on := 6, ground := Go.Ground.phase }, { on := 7, ground := Go.Ground.phase }, { on := 8, ground := Go.Ground.phase }, { on := 9, ground := Go.Ground.phase }, { on := 10, ground := Go.Ground.phase }, { on := 11, ground := Go.Ground.phase }, { on := 12, ground := Go.Ground.phase }, { on := 13, ground := Go.Ground.phase }, { on := 14, ground := Go.Ground.phase }, { on := 15, ground := Go.Ground.phase }, { on := 16, ground := Go.Ground.phase }], guard := none }) (by kernel_rfl) rfl (fun K hK => ?_)
  go_simp
  refine hK.out _ _ (fun hD => hS7) ?_
  clear hK K
  try simp only [Act.put, List.setIfInBounds_toArray, List.set_cons_zero, List.set_cons_succ]
  refine wpAnyD_one (i := 19) (o := { dst := none, op := Go.Op.store 61 (Go.Operand.tmp 141) (Go.Operand.tmp 139), type := 0, pos := "law.go:129", after := #[{ on := 18, ground := Go.Ground.data }, { on := 16, ground := Go.Ground.data }, { on := 16, ground := Go.Ground.chain }, { on := 0, ground := Go.Ground.phase }, { on := 1, ground := Go.Ground.phase }, { on := 2, ground := Go.Ground.phase }, { on := 3, ground := Go.Ground.phase }, { on := 4, ground := Go.Ground.phase }, { on := 5, ground := Go.Ground.phase }, { on := 6, ground := Go.Ground.phase }, { on := 7, ground := Go.Ground.phase }, { on := 8, ground := Go.Ground.phase }, { on := 9, ground := Go.Ground.phase }, { on := 10, ground := Go.Ground.phase }, { on := 11, ground := Go.Ground.phase }, { on := 12, ground := Go.Ground.phase }, { on := 13, ground := Go.Ground.phase }, { on := 14, ground := Go.Ground.phase }, { on := 15, ground := Go.Ground.phase }, { on := 16, ground := Go.Ground.phase }], guard := none }) (by kernel_rfl) rfl (fun K hK => ?_)
  go_simp
  refine hK.out _ _ (fun hD => absurd (by decide) hD) ?_
  clear hK K
  try simp only [Act.put, List.setIfInBounds_toArray, List.set_cons_zero, List.set_cons_succ]
  refine wpAnyD_done (by kernel_rfl) ?_ _
  have HP4 := hid (HP3.out.nx n8 (by have := HAB.out.1; omega) (by have := HAB.out.2; omega))
  have HB4 := hid B8
  have HN4 := hid (HN3.out.trans (n8.mono (B := fun k => k = a ∨ k = b ∨ k = 3 ∨ (15 ≤ k ∧ k < 19)) (fun k e => by omega)))
  clear HP2 HBO2 HN2 HOB2 HT2 HSBb B0b hS0b hP0b hB0b H2 B2 hS2 H3 B3 hS3 HO3 HN3 HB3 HP3 HU3 hS4 ho7 hg7 hl7 hlt7 K7 hx7 hb7 hset7 hS7 b8 k8 n8 B8 kl7 kc7 kf7
  go_wp2_with fail
  go_ret
  refine ⟨by simp, _, _, _, nT + 2, nD, _, _, _, _, _, _, _, _, fun i => if i = nT + 1 then l else if i = nT then l else CT i, _, HP4.out, HB4.out, Nat.le_refl _, Nat.le_refl _, fun i hi => ?_, HL.out.2, HN4.out⟩
  by_cases e : i = nT + 1 <;> dsimp only
  · rw [if_pos e]; exact HLL.out
  · rw [if_neg e]
    by_cases e2 : i = nT
    · rw [if_pos e2]; exact HLL.out
    · rw [if_neg e2]; exact HL.out.1 i (by omega)
end Go.Proofs.Ytaaobchodbnkpaa.Qe
