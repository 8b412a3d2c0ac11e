import Derived.Test.YtaaobchodbnkpaaQuPr2
import Derived.Test.YtaaobchodbnkpaaQuEq
namespace Go.Proofs.Ytaaobchodbnkpaa.Qe
open Go.RowKit Go.Sort
attribute [local go_sem ↓] Go.wp_at_zero Go.wp_at_succ

abbrev opv (kind on : Int) (x : Ms) : Value := .agg #[.int .i64 kind, .int .i64 on, .int .i64 x.at_, .int .u64 x.a, .int .u64 x.b, .int .u64 x.c, .int .u64 x.k, .int .u64 x.v]
theorem blk8 {w : World} {b : Nat} {T : TypeId} {cs : Array Value} (h : w.heap[b]? = some (.cells cs T (0, 0))) : b < w.heap.size ∧ (∀ i, w.cell? ⟨b, i, none⟩ = cs[i]?) ∧ (∀ i, w.frozen? ⟨b, i, none⟩ = false) :=
  ⟨(Array.getElem?_eq_some_iff.1 h).1, fun i => by simp [World.cell?, h], fun i => by simp [World.frozen?, h]⟩
theorem Af.below {w w1 w2 : World} {tag tag1 : Nat → Nat} {a b qb rb N K : Nat} {Q : Nat → List Ms} {L : List Ms} (h : Nx (fun k => k = a ∨ k = b) tag tag1 w w1) (hP : Pr w1 tag1 a b qb rb N K Q L) (hB : Below w1.heap.size w1 w2) : Af w tag a b qb rb N K w2 :=
  ⟨_, _, _, hP.below hB 0, h.trans (Nx.below _ _ 0 hB)⟩
theorem Af.pre {w w1 w2 : World} {tag tag1 : Nat → Nat} {a b qb rb N K : Nat} (h : Nx (fun k => k = a ∨ k = b) tag tag1 w w1) (h2 : Af w1 tag1 a b qb rb N K w2) : Af w tag a b qb rb N K w2 := by
  obtain ⟨t2, q2, l2, k1, k2⟩ := h2
  exact ⟨t2, q2, l2, k1, h.trans k2⟩
theorem Af.more {w w2 : World} {tag : Nat → Nat} {a b qb rb N K K' : Nat} (h : Af w tag a b qb rb N K w2) (hK : K ≤ K') : Af w tag a b qb rb N K' w2 := by
  obtain ⟨t2, q2, l2, k1, k2⟩ := h
  exact ⟨t2, q2, l2, k1.mono hK, k2⟩
/-- The document's Take, which also says that it keeps all blocks but its own. -/
theorem Pr.takeR2 {w wP : World} {tag tagP : Nat → Nat} {a b qb rb N K : Nat} {Q : Nat → List Ms} {L : List Ms} (h : Pr w tag a b qb rb N K Q L) (hab : a ≠ b) (p : Int) (hK : (2 * K + 1) * 48 ≤ 140737488355328) (hP : Pt wP tagP a qb N K (tkn N Q p)) (hn : Nx (fun k => k = a) tag tagP w wP) : Calls Try.prog 31 #[.pointer (some ⟨rb, 0, none⟩), .int .i64 p] wP fun e w' => e = .returned (tkv (tk N Q p)) ∧ Hid (Af w tag a b qb rb N K w' ∧ Nx (fun k => k = b) tagP (tg tagP wP b) wP w') := by
  obtain ⟨v, h1⟩ := h.r.nx hn (fun e => hab e.symm)
  have hle := h.le
  obtain ⟨t1, t2⟩ := h.rel.take p
  refine (rtake_doc p wP h1 (by omega)).mono ?_
  rintro e w' ⟨he, hR⟩
  obtain ⟨v', r1, r2⟩ := hR.out
  have hn2 : Nx (fun k => k = b) tagP (tg tagP wP b) wP w' := Nx.one r2 rfl
  exact ⟨by rw [t1]; exact he, ⟨_, _, _, ⟨hP.nx hn2 hab, Rq.of r1, t2, by have := rtn_le N L p; omega⟩, (hn.mono (fun k e => Or.inl e)).trans (hn2.mono (fun k e => Or.inr e))⟩, hn2⟩
set_option maxHeartbeats 4000000 in
set_option maxRecDepth 100000 in
theorem ans0 {w : World} {tag : Nat → Nat} {a b qb rb N K kb : Nat} {Q : Nat → List Ms} {L : List Ms} (h : Pr w tag a b qb rb N K Q L) (hab : a ≠ b) (ha : a ≠ 0) (hb : b ≠ 0) (hK : K ≤ 900000) (on : Int) (x : Ms) : Calls Try.prog 17 #[.pointer (some ⟨qb, 0, none⟩), .pointer (some ⟨rb, 0, none⟩), opv 0 on x, .pointer (some ⟨kb, 0, none⟩)] w fun e w' => e = .returned (.bool true) ∧ Hid (Af w tag a b qb rb N (K + 1) w') := by
  have hmx : Try.prog.follows .mixedOrders = true := by kernel_rfl
  obtain ⟨W1, hW1⟩ : ∃ W, W = w.alloc (.cells #[.int .i64 0, .int .i64 on, .int .i64 x.at_, .int .u64 x.a, .int .u64 x.b, .int .u64 x.c, .int .u64 x.k, .int .u64 x.v] 66) := ⟨_, rfl⟩
  obtain ⟨ob, hob⟩ : ∃ o, o = w.heap.size := ⟨_, rfl⟩
  have hB : Below w.heap.size w W1 := by rw [hW1]; exact ((Gr.refl w).alloc _).below
  have hbk : W1.heap[ob]? = some (.cells #[.int .i64 0, .int .i64 on, .int .i64 x.at_, .int .u64 x.a, .int .u64 x.b, .int .u64 x.c, .int .u64 x.k, .int .u64 x.v] 66 (0, 0)) := by rw [hW1, hob]; exact heap_new' _ _
  have HP := hid (h.below hB 0)
  have HN0 : Hid (Nx (fun k => k = a ∨ k = b) tag (tg tag w 0) w W1) := Nx.below _ tag 0 hB
  have HOB := hid hbk
  have HT : Hid (tg tag w 0 ob = 0) := tg_new (by rw [hob]; exact Nat.le_refl _)
  have HW : Hid (w.alloc (.cells #[.int .i64 0, .int .i64 on, .int .i64 x.at_, .int .u64 x.a, .int .u64 x.b, .int .u64 x.c, .int .u64 x.k, .int .u64 x.v] 66) = W1 ∧ w.heap.size = ob) := ⟨hW1.symm, hob.symm⟩
  have HAB : Hid (a ≠ b ∧ a ≠ 0 ∧ b ≠ 0) := ⟨hab, ha, hb⟩
  generalize htg : tg tag w 0 = tag1 at HP HN0 HT
  clear htg hW1 hob hB hbk h hab ha hb
  go_enter Try.func17, Try.ntmps17
  go_upto_region 3 with fail
  rw [HW.out.1, HW.out.2]
  have hD := (HP.out.same ((Gr.refl W1).drew.below))
  have hS0 : W1.drew.heap[ob]? = some (.cells #[.int .i64 0, .int .i64 on, .int .i64 x.at_, .int .u64 x.a, .int .u64 x.b, .int .u64 x.c, .int .u64 x.k, .int .u64 x.v] 66 (0, 0)) := HOB.out
  refine wp_regionD (S := (fun W : World => W.heap[ob]? = some (.cells #[.int .i64 0, .int .i64 on, .int .i64 x.at_, .int .u64 x.a, .int .u64 x.b, .int .u64 x.c, .int .u64 x.k, .int .u64 x.v] 66 (0, 0)))) (D := []) hmx ?_
  refine' wpAnyD_take (i := 0) (oi := { dst := some 21, op := Go.Op.move (Go.Operand.tmp 0), type := 24, pos := "law.go:116", after := #[], guard := none }) (v := _) rfl (by kernel_rfl) (by kernel_rfl) (by kernel_rfl) (fun _ _ _ h => h) (by kernel_rfl) (Or.inl ⟨by rfl, ?hy1⟩) hS0 ?rest1
  case hy1 => (intro W hSw; obtain ⟨l0, c0, _⟩ := blk8 hSw; go_simp; try (with_reducible rfl))
  try simp only [Act.put, List.setIfInBounds_toArray, List.set_cons_zero, List.set_cons_succ]
  refine' wpAnyD_take (i := 1) (oi := { dst := some 22, op := Go.Op.fieldAddr 66 (Go.Operand.tmp 6) 2, type := 0, pos := "law.go:116", after := #[], guard := none }) (v := _) rfl (by kernel_rfl) (by kernel_rfl) (by kernel_rfl) (fun _ _ _ h => h) (by kernel_rfl) (Or.inl ⟨by rfl, ?hy2⟩) hS0 ?rest2
  case hy2 => (intro W hSw; obtain ⟨l0, c0, _⟩ := blk8 hSw; go_simp; try (with_reducible rfl))
  try simp only [Act.put, List.setIfInBounds_toArray, List.set_cons_zero, List.set_cons_succ]
  refine' wpAnyD_take (i := 2) (oi := { dst := some 23, op := Go.Op.load 36 (Go.Operand.tmp 22), type := 36, pos := "law.go:116", after := #[{ on := 1, ground := Go.Ground.data }], guard := none }) (v := _) rfl (by kernel_rfl) (by kernel_rfl) (by kernel_rfl) (fun _ _ _ h => h) (by kernel_rfl) (Or.inl ⟨by rfl, ?hy3⟩) hS0 ?rest3
  case hy3 => (intro W hSw; obtain ⟨l0, c0, _⟩ := blk8 hSw; go_simp; try (with_reducible rfl))
  try simp only [Act.put, List.setIfInBounds_toArray, List.set_cons_zero, List.set_cons_succ]
  refine' wpAnyD_take (i := 4) (oi := { dst := some 25, op := Go.Op.move (Go.Operand.tmp 1), type := 55, pos := "law.go:116", after := #[], guard := none }) (v := _) rfl (by kernel_rfl) (by kernel_rfl) (by kernel_rfl) (fun _ _ _ h => h) (by kernel_rfl) (Or.inl ⟨by rfl, ?hy4⟩) hS0 ?rest4
  case hy4 => (intro W hSw; obtain ⟨l0, c0, _⟩ := blk8 hSw; go_simp; try (with_reducible rfl))
  try simp only [Act.put, List.setIfInBounds_toArray, List.set_cons_zero, List.set_cons_succ]
  refine' wpAnyD_take (i := 5) (oi := { dst := some 26, op := Go.Op.fieldAddr 66 (Go.Operand.tmp 6) 2, type := 0, pos := "law.go:116", after := #[], guard := none }) (v := _) rfl (by kernel_rfl) (by kernel_rfl) (by kernel_rfl) (fun _ _ _ h => h) (by kernel_rfl) (Or.inl ⟨by rfl, ?hy5⟩) hS0 ?rest5
  case hy5 => (intro W hSw; obtain ⟨l0, c0, _⟩ := blk8 hSw; go_simp; try (with_reducible rfl))
  try simp only [Act.put, List.setIfInBounds_toArray, List.set_cons_zero, List.set_cons_succ]
  refine' wpAnyD_take (i := 6) (oi := { dst := some 27, op := Go.Op.load 36 (Go.Operand.tmp 26), type := 36, pos := "law.go:116", after := #[{ on := 5, ground := Go.Ground.data }], guard := none }) (v := _) rfl (by kernel_rfl) (by kernel_rfl) (by kernel_rfl) (fun _ _ _ h => h) (by kernel_rfl) (Or.inl ⟨by rfl, ?hy6⟩) hS0 ?rest6
  case hy6 => (intro W hSw; obtain ⟨l0, c0, _⟩ := blk8 hSw; go_simp; try (with_reducible rfl))
  try simp only [Act.put, List.setIfInBounds_toArray, List.set_cons_zero, List.set_cons_succ]
  refine wpAnyD_one (i := 3) (o := { dst := some 24, op := Go.Op.call { callee := Go.Callee.value (Go.Operand.func 8), args := #[Go.Operand.tmp 21, Go.Operand.tmp 23], argTypes := #[24, 36] }, type := 25, pos := "law.go:116", after := #[{ on := 0, ground := Go.Ground.data }, { on := 2, ground := Go.Ground.data }], guard := none }) (by kernel_rfl) rfl (fun K hK => ?_)
  go_simp
  refine (hD.putP x (by omega)).mono ?_
  rintro e w2 ⟨rfl, H2⟩
  have hS2 : w2.heap[ob]? = some (.cells #[.int .i64 0, .int .i64 on, .int .i64 x.at_, .int .u64 x.a, .int .u64 x.b, .int .u64 x.c, .int .u64 x.k, .int .u64 x.v] 66 (0, 0)) := (H2.out.2.kp.block ob (blk8 hS0).1 (fun e => HAB.out.2.1 (e.symm.trans HT.out))).trans hS0
  go_wp2_with fail
  refine hK.out _ _ (fun hD => hS2) ?_
  clear hK K
  try simp only [Act.put, List.setIfInBounds_toArray, List.set_cons_zero, List.set_cons_succ]
  refine wpAnyD_one (i := 7) (o := { dst := some 28, op := Go.Op.call { callee := Go.Callee.value (Go.Operand.func 30), args := #[Go.Operand.tmp 25, Go.Operand.tmp 27], argTypes := #[55, 36] }, type := 3, pos := "law.go:116", after := #[{ on := 4, ground := Go.Ground.data }, { on := 6, ground := Go.Ground.data }, { on := 3, ground := Go.Ground.chain }], guard := none }) (by kernel_rfl) rfl (fun K hK => ?_)
  go_simp
  refine (hD.putR HAB.out.1 x (by omega) H2.out.1 H2.out.2).mono ?_
  rintro e w3 ⟨rfl, H3⟩
  have hS3 : w3.heap[ob]? = some (.cells #[.int .i64 0, .int .i64 on, .int .i64 x.at_, .int .u64 x.a, .int .u64 x.b, .int .u64 x.c, .int .u64 x.k, .int .u64 x.v] 66 (0, 0)) := by
    obtain ⟨t2, q2, l2, _, k2⟩ := H3.out
    exact (k2.kp.block ob (blk8 hS0).1 (fun e => e.elim (fun e => HAB.out.2.1 (e.symm.trans HT.out)) (fun e => HAB.out.2.2 (e.symm.trans HT.out)))).trans hS0
  go_wp2_with fail
  refine hK.out _ _ (fun hD => hS3) ?_
  clear hK K
  try simp only [Act.put, List.setIfInBounds_toArray, List.set_cons_zero, List.set_cons_succ]
  refine wpAnyD_one (i := 8) (o := { dst := some 29, op := Go.Op.binOp Go.BinOp.eql 3 (Go.Operand.tmp 24) (Go.Operand.tmp 28) 3, type := 4, pos := "law.go:116", after := #[{ on := 3, ground := Go.Ground.data }, { on := 7, ground := Go.Ground.data }], guard := none }) (by kernel_rfl) rfl (fun K hK => ?_)
  go_simp
  refine hK.out _ _ (fun hD => hS3) ?_
  clear hK K
  try simp only [Act.put, List.setIfInBounds_toArray, List.set_cons_zero, List.set_cons_succ]
  refine wpAnyD_one (i := 9) (o := { dst := some 8, op := Go.Op.assign (Go.Operand.tmp 29), type := 4, pos := "law.go:116", after := #[{ on := 8, ground := Go.Ground.data }, { on := 7, ground := Go.Ground.chain }, { on := 0, ground := Go.Ground.phase }, { on := 1, ground := Go.Ground.phase }, { on := 2, ground := Go.Ground.phase }, { on := 3, ground := Go.Ground.phase }, { on := 4, ground := Go.Ground.phase }, { on := 5, ground := Go.Ground.phase }, { on := 6, ground := Go.Ground.phase }, { on := 7, ground := Go.Ground.phase }, { on := 8, ground := Go.Ground.phase }], guard := none }) (by kernel_rfl) rfl (fun K hK => ?_)
  go_simp
  refine hK.out _ _ (fun hD => hS3) ?_
  clear hK K
  try simp only [Act.put, List.setIfInBounds_toArray, List.set_cons_zero, List.set_cons_succ]
  refine wpAnyD_done (by kernel_rfl) ?_ _
  go_wp2_with fail
  go_ret
  exact ⟨by simp, Af.pre (HN0.out.trans (Nx.same _ _ (Gr.refl W1).drew.below)) H3.out⟩
set_option maxHeartbeats 4000000 in
set_option maxRecDepth 100000 in
theorem ans1 {w : World} {tag : Nat → Nat} {a b qb rb N K kb : Nat} {Q : Nat → List Ms} {L : List Ms} (h : Pr w tag a b qb rb N K Q L) (hab : a ≠ b) (ha : a ≠ 0) (hb : b ≠ 0) (hK : K ≤ 900000) (on : Int) (x : Ms) : Calls Try.prog 17 #[.pointer (some ⟨qb, 0, none⟩), .pointer (some ⟨rb, 0, none⟩), opv 1 on x, .pointer (some ⟨kb, 0, none⟩)] w fun e w' => e = .returned (.bool true) ∧ Hid (Af w tag a b qb rb N (K + 1) w') := by
  have hmx : Try.prog.follows .mixedOrders = true := by kernel_rfl
  obtain ⟨W1, hW1⟩ : ∃ W, W = w.alloc (.cells #[.int .i64 1, .int .i64 on, .int .i64 x.at_, .int .u64 x.a, .int .u64 x.b, .int .u64 x.c, .int .u64 x.k, .int .u64 x.v] 66) := ⟨_, rfl⟩
  obtain ⟨ob, hob⟩ : ∃ o, o = w.heap.size := ⟨_, rfl⟩
  have hB : Below w.heap.size w W1 := by rw [hW1]; exact ((Gr.refl w).alloc _).below
  have hbk : W1.heap[ob]? = some (.cells #[.int .i64 1, .int .i64 on, .int .i64 x.at_, .int .u64 x.a, .int .u64 x.b, .int .u64 x.c, .int .u64 x.k, .int .u64 x.v] 66 (0, 0)) := by rw [hW1, hob]; exact heap_new' _ _
  have HP := hid (h.below hB 0)
  have HN0 : Hid (Nx (fun k => k = a ∨ k = b) tag (tg tag w 0) w W1) := Nx.below _ tag 0 hB
  have HOB := hid hbk
  have HT : Hid (tg tag w 0 ob = 0) := tg_new (by rw [hob]; exact Nat.le_refl _)
  have HW : Hid (w.alloc (.cells #[.int .i64 1, .int .i64 on, .int .i64 x.at_, .int .u64 x.a, .int .u64 x.b, .int .u64 x.c, .int .u64 x.k, .int .u64 x.v] 66) = W1 ∧ w.heap.size = ob) := ⟨hW1.symm, hob.symm⟩
  have HAB : Hid (a ≠ b ∧ a ≠ 0 ∧ b ≠ 0) := ⟨hab, ha, hb⟩
  generalize htg : tg tag w 0 = tag1 at HP HN0 HT
  clear htg hW1 hob hB hbk h hab ha hb
  go_enter Try.func17, Try.ntmps17
  have heq := fun p a b c k v W => run_eqM p a b c k v W
  have htk := HP.out.takeP x.at_ (by omega)
  obtain ⟨r, hr⟩ : ∃ r, r = tk N Q x.at_ := ⟨_, rfl⟩
  have HRR := hid hr
  rw [← hr] at htk
  obtain ⟨m, f⟩ := r
  clear hr
  obtain ⟨l0, c0, _⟩ := blk8 HOB.out
  go_upto_region 5 with fail
  rw [HW.out.1, HW.out.2]
  go_wp2_with fail
  refine htk.mono ?_
  rintro e w2 ⟨rfl, H2⟩
  have hb2 : w2.heap[ob]? = some (.cells #[.int .i64 1, .int .i64 on, .int .i64 x.at_, .int .u64 x.a, .int .u64 x.b, .int .u64 x.c, .int .u64 x.k, .int .u64 x.v] 66 (0, 0)) := (H2.out.2.kp.block ob l0 (fun e => HAB.out.2.1 (e.symm.trans HT.out))).trans HOB.out
  clear htk c0 l0
  go_upto_region 6 with fail
  obtain ⟨W3, hW3⟩ : ∃ W, W = w2.alloc (.cells #[.int .i64 m.at_, .int .u64 m.a, .int .u64 m.b, .int .u64 m.c, .int .u64 m.k, .int .u64 m.v] 36) := ⟨_, rfl⟩
  obtain ⟨mb, hmb⟩ : ∃ o, o = w2.heap.size := ⟨_, rfl⟩
  rw [← hW3, ← hmb]
  have g3 : Gr w2 W3 := by rw [hW3]; exact (Gr.refl _).alloc _
  have hb3 : W3.heap[ob]? = some (.cells #[.int .i64 1, .int .i64 on, .int .i64 x.at_, .int .u64 x.a, .int .u64 x.b, .int .u64 x.c, .int .u64 x.k, .int .u64 x.v] 66 (0, 0)) := (g3.below.block ob (blk8 hb2).1).trans hb2
  have hm3 : W3.heap[mb]? = some (.cells #[.int .i64 m.at_, .int .u64 m.a, .int .u64 m.b, .int .u64 m.c, .int .u64 m.k, .int .u64 m.v] 36 (0, 0)) := by rw [hW3, hmb]; exact heap_new' _ _
  have HMB := hid hm3
  obtain ⟨tag3, hT3⟩ : ∃ t, t = tg (tg tag1 W1 a) w2 0 := ⟨_, rfl⟩
  have hn3 : Nx (fun k => k = a) tag1 tag3 W1 W3 := by rw [hT3]; exact H2.out.2.trans (Nx.below _ _ 0 g3.below)
  have hP3 : Pt W3 tag3 a qb N K (tkn N Q x.at_) := by rw [hT3]; exact H2.out.1.nx (Nx.below (fun _ => False) _ 0 g3.below) (fun h => h)
  have HTM : Hid (tag3 mb = 0) := by show _ = _; rw [hT3, hmb]; exact tg_new (Nat.le_refl _)
  have htr := HP.out.takeR2 HAB.out.1 x.at_ (by omega) hP3 hn3
  rw [← HRR.out] at htr
  obtain ⟨l0, c0, _⟩ := blk8 hb3
  have HN3 := hid hn3
  clear hW3 hmb hT3 hP3 hn3 g3 H2 hb2 hm3
  go_wp2_with fail
  refine htr.mono ?_
  rintro e w4 ⟨rfl, H4⟩
  clear htr c0 l0 hb3
  go_upto_region 7 with fail
  obtain ⟨W5, hW5⟩ : ∃ W, W = w4.alloc (.cells #[.int .i64 m.at_, .int .u64 m.a, .int .u64 m.b, .int .u64 m.c, .int .u64 m.k, .int .u64 m.v] 36) := ⟨_, rfl⟩
  obtain ⟨nb, hnb⟩ : ∃ o, o = w4.heap.size := ⟨_, rfl⟩
  rw [← hW5, ← hnb]
  have g5 : Gr w4 W5 := by rw [hW5]; exact (Gr.refl _).alloc _
  have hm4 : w4.heap[mb]? = some (.cells #[.int .i64 m.at_, .int .u64 m.a, .int .u64 m.b, .int .u64 m.c, .int .u64 m.k, .int .u64 m.v] 36 (0, 0)) := (H4.out.2.kp.block mb (blk8 HMB.out).1 (fun e => HAB.out.2.2 (e.symm.trans HTM.out))).trans HMB.out
  have hm5 : W5.heap[mb]? = some (.cells #[.int .i64 m.at_, .int .u64 m.a, .int .u64 m.b, .int .u64 m.c, .int .u64 m.k, .int .u64 m.v] 36 (0, 0)) := (g5.below.block mb (blk8 hm4).1).trans hm4
  have hn5 : W5.heap[nb]? = some (.cells #[.int .i64 m.at_, .int .u64 m.a, .int .u64 m.b, .int .u64 m.c, .int .u64 m.k, .int .u64 m.v] 36 (0, 0)) := by rw [hW5, hnb]; exact heap_new' _ _
  have HG5 := hid g5
  obtain ⟨l1, c1, _⟩ := blk8 hm5
  obtain ⟨l2, c2, _⟩ := blk8 hn5
  clear hW5 hnb hm4 hm5 hn5 g5
  go_wp2_with fail
  go_ret
  refine ⟨by simp, ?_⟩
  obtain ⟨t2, q2, l2, k1, k2⟩ := H4.out.1
  exact (Af.below (HN0.out.trans k2) k1 HG5.out.below).more (by omega)
set_option maxHeartbeats 4000000 in
set_option maxRecDepth 100000 in
theorem ans4 {w : World} {tag : Nat → Nat} {a b qb rb N K kb : Nat} {Q : Nat → List Ms} {L : List Ms} (h : Pr w tag a b qb rb N K Q L) (hab : a ≠ b) (ha : a ≠ 0) (hb : b ≠ 0) (hK : K ≤ 900000) (on : Int) (x : Ms) : Calls Try.prog 17 #[.pointer (some ⟨qb, 0, none⟩), .pointer (some ⟨rb, 0, none⟩), opv 4 on x, .pointer (some ⟨kb, 0, none⟩)] w fun e w' => e = .returned (.bool true) ∧ Hid (Af w tag a b qb rb N (K + 1) w') := by
  have hmx : Try.prog.follows .mixedOrders = true := by kernel_rfl
  obtain ⟨W1, hW1⟩ : ∃ W, W = w.alloc (.cells #[.int .i64 4, .int .i64 on, .int .i64 x.at_, .int .u64 x.a, .int .u64 x.b, .int .u64 x.c, .int .u64 x.k, .int .u64 x.v] 66) := ⟨_, rfl⟩
  obtain ⟨ob, hob⟩ : ∃ o, o = w.heap.size := ⟨_, rfl⟩
  have hB : Below w.heap.size w W1 := by rw [hW1]; exact ((Gr.refl w).alloc _).below
  have hbk : W1.heap[ob]? = some (.cells #[.int .i64 4, .int .i64 on, .int .i64 x.at_, .int .u64 x.a, .int .u64 x.b, .int .u64 x.c, .int .u64 x.k, .int .u64 x.v] 66 (0, 0)) := by rw [hW1, hob]; exact heap_new' _ _
  have HP := hid (h.below hB 0)
  have HN0 : Hid (Nx (fun k => k = a ∨ k = b) tag (tg tag w 0) w W1) := Nx.below _ tag 0 hB
  have HOB := hid hbk
  have HT : Hid (tg tag w 0 ob = 0) := tg_new (by rw [hob]; exact Nat.le_refl _)
  have HW : Hid (w.alloc (.cells #[.int .i64 4, .int .i64 on, .int .i64 x.at_, .int .u64 x.a, .int .u64 x.b, .int .u64 x.c, .int .u64 x.k, .int .u64 x.v] 66) = W1 ∧ w.heap.size = ob) := ⟨hW1.symm, hob.symm⟩
  have HAB : Hid (a ≠ b ∧ a ≠ 0 ∧ b ≠ 0) := ⟨hab, ha, hb⟩
  generalize htg : tg tag w 0 = tag1 at HP HN0 HT
  clear htg hW1 hob hB hbk h hab ha hb
  go_enter Try.func17, Try.ntmps17
  go_upto_region 18 with fail
  rw [HW.out.1, HW.out.2]
  have hD := (HP.out.same ((Gr.refl W1).drew.below))
  have hS0 : W1.drew.heap[ob]? = some (.cells #[.int .i64 4, .int .i64 on, .int .i64 x.at_, .int .u64 x.a, .int .u64 x.b, .int .u64 x.c, .int .u64 x.k, .int .u64 x.v] 66 (0, 0)) := HOB.out
  refine wp_regionD (S := (fun W : World => W.heap[ob]? = some (.cells #[.int .i64 4, .int .i64 on, .int .i64 x.at_, .int .u64 x.a, .int .u64 x.b, .int .u64 x.c, .int .u64 x.k, .int .u64 x.v] 66 (0, 0)))) (D := []) hmx ?_
  refine' wpAnyD_take (i := 0) (oi := { dst := some 144, op := Go.Op.move (Go.Operand.tmp 0), type := 24, pos := "law.go:131", after := #[], guard := none }) (v := _) rfl (by kernel_rfl) (by kernel_rfl) (by kernel_rfl) (fun _ _ _ h => h) (by kernel_rfl) (Or.inl ⟨by rfl, ?hy11⟩) hS0 ?rest11
  case hy11 => (intro W hSw; obtain ⟨l0, c0, _⟩ := blk8 hSw; go_simp; try (with_reducible rfl))
  try simp only [Act.put, List.setIfInBounds_toArray, List.set_cons_zero, List.set_cons_succ]
  refine' wpAnyD_take (i := 1) (oi := { dst := some 145, op := Go.Op.fieldAddr 66 (Go.Operand.tmp 6) 2, type := 0, pos := "law.go:131", after := #[], guard := none }) (v := _) rfl (by kernel_rfl) (by kernel_rfl) (by kernel_rfl) (fun _ _ _ h => h) (by kernel_rfl) (Or.inl ⟨by rfl, ?hy12⟩) hS0 ?rest12
  case hy12 => (intro W hSw; obtain ⟨l0, c0, _⟩ := blk8 hSw; go_simp; try (with_reducible rfl))
  try simp only [Act.put, List.setIfInBounds_toArray, List.set_cons_zero, List.set_cons_succ]
  refine' wpAnyD_take (i := 2) (oi := { dst := some 146, op := Go.Op.fieldAddr 36 (Go.Operand.tmp 145) 0, type := 0, pos := "law.go:131", after := #[{ on := 1, ground := Go.Ground.data }], guard := none }) (v := _) rfl (by kernel_rfl) (by kernel_rfl) (by kernel_rfl) (fun _ _ _ h => h) (by kernel_rfl) (Or.inl ⟨by rfl, ?hy13⟩) hS0 ?rest13
  case hy13 => (intro W hSw; obtain ⟨l0, c0, _⟩ := blk8 hSw; go_simp; try (with_reducible rfl))
  try simp only [Act.put, List.setIfInBounds_toArray, List.set_cons_zero, List.set_cons_succ]
  refine' wpAnyD_take (i := 3) (oi := { dst := some 147, op := Go.Op.load 3 (Go.Operand.tmp 146), type := 3, pos := "law.go:131", after := #[{ on := 2, ground := Go.Ground.data }], guard := none }) (v := _) rfl (by kernel_rfl) (by kernel_rfl) (by kernel_rfl) (fun _ _ _ h => h) (by kernel_rfl) (Or.inl ⟨by rfl, ?hy14⟩) hS0 ?rest14
  case hy14 => (intro W hSw; obtain ⟨l0, c0, _⟩ := blk8 hSw; go_simp; try (with_reducible rfl))
  try simp only [Act.put, List.setIfInBounds_toArray, List.set_cons_zero, List.set_cons_succ]
  refine' wpAnyD_take (i := 5) (oi := { dst := some 149, op := Go.Op.move (Go.Operand.tmp 1), type := 55, pos := "law.go:131", after := #[], guard := none }) (v := _) rfl (by kernel_rfl) (by kernel_rfl) (by kernel_rfl) (fun _ _ _ h => h) (by kernel_rfl) (Or.inl ⟨by rfl, ?hy15⟩) hS0 ?rest15
  case hy15 => (intro W hSw; obtain ⟨l0, c0, _⟩ := blk8 hSw; go_simp; try (with_reducible rfl))
  try simp only [Act.put, List.setIfInBounds_toArray, List.set_cons_zero, List.set_cons_succ]
  refine' wpAnyD_take (i := 6) (oi := { dst := some 150, op := Go.Op.fieldAddr 66 (Go.Operand.tmp 6) 2, type := 0, pos := "law.go:131", after := #[], guard := none }) (v := _) rfl (by kernel_rfl) (by kernel_rfl) (by kernel_rfl) (fun _ _ _ h => h) (by kernel_rfl) (Or.inl ⟨by rfl, ?hy16⟩) hS0 ?rest16
  case hy16 => (intro W hSw; obtain ⟨l0, c0, _⟩ := blk8 hSw; go_simp; try (with_reducible rfl))
  try simp only [Act.put, List.setIfInBounds_toArray, List.set_cons_zero, List.set_cons_succ]
  refine' wpAnyD_take (i := 7) (oi := { dst := some 151, op := Go.Op.fieldAddr 36 (Go.Operand.tmp 150) 0, type := 0, pos := "law.go:131", after := #[{ on := 6, ground := Go.Ground.data }], guard := none }) (v := _) rfl (by kernel_rfl) (by kernel_rfl) (by kernel_rfl) (fun _ _ _ h => h) (by kernel_rfl) (Or.inl ⟨by rfl, ?hy17⟩) hS0 ?rest17
  case hy17 => (intro W hSw; obtain ⟨l0, c0, _⟩ := blk8 hSw; go_simp; try (with_reducible rfl))
  try simp only [Act.put, List.setIfInBounds_toArray, List.set_cons_zero, List.set_cons_succ]
  refine' wpAnyD_take (i := 8) (oi := { dst := some 152, op := Go.Op.load 3 (Go.Operand.tmp 151), type := 3, pos := "law.go:131", after := #[{ on := 7, ground := Go.Ground.data }], guard := none }) (v := _) rfl (by kernel_rfl) (by kernel_rfl) (by kernel_rfl) (fun _ _ _ h => h) (by kernel_rfl) (Or.inl ⟨by rfl, ?hy18⟩) hS0 ?rest18
  case hy18 => (intro W hSw; obtain ⟨l0, c0, _⟩ := blk8 hSw; go_simp; try (with_reducible rfl))
  try simp only [Act.put, List.setIfInBounds_toArray, List.set_cons_zero, List.set_cons_succ]
  refine wpAnyD_one (i := 4) (o := { dst := some 148, op := Go.Op.call { callee := Go.Callee.value (Go.Operand.func 11), args := #[Go.Operand.tmp 144, Go.Operand.tmp 147], argTypes := #[24, 3] }, type := 3, pos := "law.go:131", after := #[{ on := 0, ground := Go.Ground.data }, { on := 3, ground := Go.Ground.data }], guard := none }) (by kernel_rfl) rfl (fun K hK => ?_)
  go_simp
  refine (hD.lenP x.at_).mono ?_
  rintro e w2 ⟨rfl, hw2⟩
  subst hw2
  go_wp2_with fail
  refine hK.out _ _ (fun hD => hS0) ?_
  clear hK K
  try simp only [Act.put, List.setIfInBounds_toArray, List.set_cons_zero, List.set_cons_succ]
  refine wpAnyD_one (i := 9) (o := { dst := some 153, op := Go.Op.call { callee := Go.Callee.value (Go.Operand.func 23), args := #[Go.Operand.tmp 149, Go.Operand.tmp 152], argTypes := #[55, 3] }, type := 22, pos := "law.go:131", after := #[{ on := 5, ground := Go.Ground.data }, { on := 8, ground := Go.Ground.data }, { on := 4, ground := Go.Ground.chain }], guard := none }) (by kernel_rfl) rfl (fun K hK => ?_)
  go_simp
  refine (hD.listR x.at_ 0 (by omega)).mono ?_
  rintro e w3 ⟨u, rfl, ⟨q, c, rfl⟩, H3⟩
  have hS3 : w3.heap[ob]? = some (.cells #[.int .i64 4, .int .i64 on, .int .i64 x.at_, .int .u64 x.a, .int .u64 x.b, .int .u64 x.c, .int .u64 x.k, .int .u64 x.v] 66 (0, 0)) := (H3.out.2.block ob (blk8 hS0).1).trans hS0
  go_wp2_with fail
  refine hK.out _ _ (fun hD => hS3) ?_
  clear hK K
  try simp only [Act.put, List.setIfInBounds_toArray, List.set_cons_zero, List.set_cons_succ]
  refine wpAnyD_one (i := 10) (o := { dst := some 154, op := Go.Op.call { callee := Go.Callee.builtin Go.Builtin.len, args := #[Go.Operand.tmp 153], argTypes := #[22] }, type := 3, pos := "law.go:131", after := #[{ on := 9, ground := Go.Ground.data }], guard := none }) (by kernel_rfl) rfl (fun K hK => ?_)
  go_simp
  refine hK.out _ _ (fun hD => hS3) ?_
  clear hK K
  try simp only [Act.put, List.setIfInBounds_toArray, List.set_cons_zero, List.set_cons_succ]
  refine wpAnyD_one (i := 11) (o := { dst := some 155, op := Go.Op.binOp Go.BinOp.eql 3 (Go.Operand.tmp 148) (Go.Operand.tmp 154) 3, type := 4, pos := "law.go:131", after := #[{ on := 4, ground := Go.Ground.data }, { on := 10, ground := Go.Ground.data }], guard := none }) (by kernel_rfl) rfl (fun K hK => ?_)
  go_simp
  refine hK.out _ _ (fun hD => hS3) ?_
  clear hK K
  try simp only [Act.put, List.setIfInBounds_toArray, List.set_cons_zero, List.set_cons_succ]
  refine wpAnyD_one (i := 12) (o := { dst := some 8, op := Go.Op.assign (Go.Operand.tmp 155), type := 4, pos := "law.go:131", after := #[{ on := 11, ground := Go.Ground.data }, { on := 9, ground := Go.Ground.chain }, { on := 0, ground := Go.Ground.phase }, { on := 1, ground := Go.Ground.phase }, { on := 2, ground := Go.Ground.phase }, { on := 3, ground := Go.Ground.phase }, { on := 4, ground := Go.Ground.phase }, { on := 5, ground := Go.Ground.phase }, { on := 6, ground := Go.Ground.phase }, { on := 7, ground := Go.Ground.phase }, { on := 8, ground := Go.Ground.phase }, { on := 9, ground := Go.Ground.phase }, { on := 10, ground := Go.Ground.phase }, { on := 11, ground := Go.Ground.phase }], guard := none }) (by kernel_rfl) rfl (fun K hK => ?_)
  go_simp
  refine hK.out _ _ (fun hD => hS3) ?_
  clear hK K
  try simp only [Act.put, List.setIfInBounds_toArray, List.set_cons_zero, List.set_cons_succ]
  refine wpAnyD_done (by kernel_rfl) ?_ _
  go_wp2_with fail
  go_ret
  exact ⟨by simp, (Af.below (HN0.out.trans (Nx.same _ _ (Gr.refl W1).drew.below)) hD H3.out.2).more (by omega)⟩
set_option maxHeartbeats 4000000 in
set_option maxRecDepth 100000 in
theorem ans5 {w : World} {tag : Nat → Nat} {a b qb rb N K kb : Nat} {Q : Nat → List Ms} {L : List Ms} (h : Pr w tag a b qb rb N K Q L) (hab : a ≠ b) (ha : a ≠ 0) (hb : b ≠ 0) (hK : K ≤ 900000) (on : Int) (x : Ms) : Calls Try.prog 17 #[.pointer (some ⟨qb, 0, none⟩), .pointer (some ⟨rb, 0, none⟩), opv 5 on x, .pointer (some ⟨kb, 0, none⟩)] w fun e w' => e = .returned (.bool true) ∧ Hid (Af w tag a b qb rb N (K + 1) w') := by
  have hmx : Try.prog.follows .mixedOrders = true := by kernel_rfl
  obtain ⟨W1, hW1⟩ : ∃ W, W = w.alloc (.cells #[.int .i64 5, .int .i64 on, .int .i64 x.at_, .int .u64 x.a, .int .u64 x.b, .int .u64 x.c, .int .u64 x.k, .int .u64 x.v] 66) := ⟨_, rfl⟩
  obtain ⟨ob, hob⟩ : ∃ o, o = w.heap.size := ⟨_, rfl⟩
  have hB : Below w.heap.size w W1 := by rw [hW1]; exact ((Gr.refl w).alloc _).below
  have hbk : W1.heap[ob]? = some (.cells #[.int .i64 5, .int .i64 on, .int .i64 x.at_, .int .u64 x.a, .int .u64 x.b, .int .u64 x.c, .int .u64 x.k, .int .u64 x.v] 66 (0, 0)) := by rw [hW1, hob]; exact heap_new' _ _
  have HP := hid (h.below hB 0)
  have HN0 : Hid (Nx (fun k => k = a ∨ k = b) tag (tg tag w 0) w W1) := Nx.below _ tag 0 hB
  have HOB := hid hbk
  have HT : Hid (tg tag w 0 ob = 0) := tg_new (by rw [hob]; exact Nat.le_refl _)
  have HW : Hid (w.alloc (.cells #[.int .i64 5, .int .i64 on, .int .i64 x.at_, .int .u64 x.a, .int .u64 x.b, .int .u64 x.c, .int .u64 x.k, .int .u64 x.v] 66) = W1 ∧ w.heap.size = ob) := ⟨hW1.symm, hob.symm⟩
  have HAB : Hid (a ≠ b ∧ a ≠ 0 ∧ b ≠ 0) := ⟨hab, ha, hb⟩
  generalize htg : tg tag w 0 = tag1 at HP HN0 HT
  clear htg hW1 hob hB hbk h hab ha hb
  go_enter Try.func17, Try.ntmps17
  have hD := (HP.out.same ((Gr.refl W1).drew.below))
  obtain ⟨v, q, c, hv, hc1, hfz, hlt⟩ : ∃ v q c, v = .slice q L.length c ∧ W1.drew.cell? ⟨rb, 1, none⟩ = some v ∧ W1.drew.frozen? ⟨rb, 1, none⟩ = false ∧ rb < W1.drew.heap.size := by
    obtain ⟨v, h1⟩ := hD.r
    rcases owns_form h1.own with ⟨hv, hl⟩ | ⟨g, cap, hv, _⟩
    · exact ⟨v, none, 0, by rw [hl]; exact hv, h1.c1, h1.fz 1, h1.lt⟩
    · exact ⟨v, _, cap, hv, h1.c1, h1.fz 1, h1.lt⟩
  subst hv
  go_upto_region 20 with fail
  rw [HW.out.1, HW.out.2]
  have hS0 : W1.drew = W1.drew := rfl
  refine wp_regionD (S := (fun W : World => W = W1.drew)) (D := []) hmx ?_
  refine' wpAnyD_take (i := 0) (oi := { dst := some 158, op := Go.Op.move (Go.Operand.tmp 0), type := 24, pos := "law.go:133", after := #[], guard := none }) (v := _) rfl (by kernel_rfl) (by kernel_rfl) (by kernel_rfl) (fun _ _ _ h => h) (by kernel_rfl) (Or.inl ⟨by rfl, ?hy24⟩) rfl ?rest24
  case hy24 => (intro W hSw; subst hSw; go_simp; try (with_reducible rfl))
  try simp only [Act.put, List.setIfInBounds_toArray, List.set_cons_zero, List.set_cons_succ]
  refine' wpAnyD_take (i := 2) (oi := { dst := some 160, op := Go.Op.move (Go.Operand.tmp 1), type := 55, pos := "law.go:133", after := #[], guard := none }) (v := _) rfl (by kernel_rfl) (by kernel_rfl) (by kernel_rfl) (fun _ _ _ h => h) (by kernel_rfl) (Or.inl ⟨by rfl, ?hy25⟩) rfl ?rest25
  case hy25 => (intro W hSw; subst hSw; go_simp; try (with_reducible rfl))
  try simp only [Act.put, List.setIfInBounds_toArray, List.set_cons_zero, List.set_cons_succ]
  refine' wpAnyD_take (i := 3) (oi := { dst := some 161, op := Go.Op.nilCheck (Go.Operand.tmp 160), type := 0, pos := "law.go:133", after := #[{ on := 2, ground := Go.Ground.data }], guard := none }) (v := _) rfl (by kernel_rfl) (by kernel_rfl) (by kernel_rfl) (fun _ _ _ h => h) (by kernel_rfl) (Or.inl ⟨by rfl, ?hy26⟩) rfl ?rest26
  case hy26 => (intro W hSw; subst hSw; go_simp; try (with_reducible rfl))
  try simp only [Act.put, List.setIfInBounds_toArray, List.set_cons_zero, List.set_cons_succ]
  refine' wpAnyD_take (i := 4) (oi := { dst := some 162, op := Go.Op.fieldAddr 71 (Go.Operand.tmp 161) 1, type := 0, pos := "law.go:133", after := #[{ on := 3, ground := Go.Ground.data }], guard := none }) (v := _) rfl (by kernel_rfl) (by kernel_rfl) (by kernel_rfl) (fun _ _ _ h => h) (by kernel_rfl) (Or.inl ⟨by rfl, ?hy27⟩) rfl ?rest27
  case hy27 => (intro W hSw; subst hSw; go_simp; try (with_reducible rfl))
  try simp only [Act.put, List.setIfInBounds_toArray, List.set_cons_zero, List.set_cons_succ]
  refine' wpAnyD_take (i := 5) (oi := { dst := some 163, op := Go.Op.load 22 (Go.Operand.tmp 162), type := 22, pos := "law.go:133", after := #[{ on := 4, ground := Go.Ground.data }], guard := none }) (v := _) rfl (by kernel_rfl) (by kernel_rfl) (by kernel_rfl) (fun _ _ _ h => h) (by kernel_rfl) (Or.inl ⟨by rfl, ?hy28⟩) rfl ?rest28
  case hy28 => (intro W hSw; subst hSw; go_simp; try (with_reducible rfl))
  try simp only [Act.put, List.setIfInBounds_toArray, List.set_cons_zero, List.set_cons_succ]
  refine' wpAnyD_take (i := 6) (oi := { dst := some 164, op := Go.Op.call { callee := Go.Callee.builtin Go.Builtin.len, args := #[Go.Operand.tmp 163], argTypes := #[22] }, type := 3, pos := "law.go:133", after := #[{ on := 5, ground := Go.Ground.data }], guard := none }) (v := _) rfl (by kernel_rfl) (by kernel_rfl) (by kernel_rfl) (fun _ _ _ h => h) (by kernel_rfl) (Or.inl ⟨by rfl, ?hy29⟩) rfl ?rest29
  case hy29 => (intro W hSw; subst hSw; go_simp; try (with_reducible rfl))
  try simp only [Act.put, List.setIfInBounds_toArray, List.set_cons_zero, List.set_cons_succ]
  refine wpAnyD_one (i := 1) (o := { dst := some 159, op := Go.Op.call { callee := Go.Callee.value (Go.Operand.func 13), args := #[Go.Operand.tmp 158], argTypes := #[24] }, type := 3, pos := "law.go:133", after := #[{ on := 0, ground := Go.Ground.data }], guard := none }) (by kernel_rfl) rfl (fun K hK => ?_)
  go_simp
  refine (hD.totP (by omega)).mono ?_
  rintro e w2 ⟨rfl, hw2⟩
  subst hw2
  go_wp2_with fail
  refine hK.out _ _ (fun hD => rfl) ?_
  clear hK K
  try simp only [Act.put, List.setIfInBounds_toArray, List.set_cons_zero, List.set_cons_succ]
  refine wpAnyD_one (i := 7) (o := { dst := some 165, op := Go.Op.binOp Go.BinOp.eql 3 (Go.Operand.tmp 159) (Go.Operand.tmp 164) 3, type := 4, pos := "law.go:133", after := #[{ on := 1, ground := Go.Ground.data }, { on := 6, ground := Go.Ground.data }], guard := none }) (by kernel_rfl) rfl (fun K hK => ?_)
  go_simp
  refine hK.out _ _ (fun hD => rfl) ?_
  clear hK K
  try simp only [Act.put, List.setIfInBounds_toArray, List.set_cons_zero, List.set_cons_succ]
  refine wpAnyD_one (i := 8) (o := { dst := some 8, op := Go.Op.assign (Go.Operand.tmp 165), type := 4, pos := "law.go:133", after := #[{ on := 7, ground := Go.Ground.data }, { on := 1, ground := Go.Ground.chain }, { on := 0, ground := Go.Ground.phase }, { on := 1, ground := Go.Ground.phase }, { on := 2, ground := Go.Ground.phase }, { on := 3, ground := Go.Ground.phase }, { on := 4, ground := Go.Ground.phase }, { on := 5, ground := Go.Ground.phase }, { on := 6, ground := Go.Ground.phase }, { on := 7, ground := Go.Ground.phase }], guard := none }) (by kernel_rfl) rfl (fun K hK => ?_)
  go_simp
  refine hK.out _ _ (fun hD => rfl) ?_
  clear hK K
  try simp only [Act.put, List.setIfInBounds_toArray, List.set_cons_zero, List.set_cons_succ]
  refine wpAnyD_done (by kernel_rfl) ?_ _
  go_wp2_with fail
  go_ret
  exact ⟨by simp, (Af.below HN0.out HP.out (Gr.refl W1).drew.below).more (by omega)⟩
set_option maxHeartbeats 4000000 in
set_option maxRecDepth 100000 in
theorem ansN {w : World} {tag : Nat → Nat} {a b qb rb N K kb : Nat} {Q : Nat → List Ms} {L : List Ms} (h : Pr w tag a b qb rb N K Q L) (hab : a ≠ b) (ha : a ≠ 0) (hb : b ≠ 0) (kind on : Int) (x : Ms) (h0 : kind ≠ 0) (h1 : kind ≠ 1) (h2 : kind ≠ 2) (h3 : kind ≠ 3) (h4 : kind ≠ 4) (h5 : kind ≠ 5) (h6 : kind ≠ 6) : Calls Try.prog 17 #[.pointer (some ⟨qb, 0, none⟩), .pointer (some ⟨rb, 0, none⟩), opv kind on x, .pointer (some ⟨kb, 0, none⟩)] w fun e w' => e = .returned (.bool true) ∧ Hid (Af w tag a b qb rb N (K + 1) w') := by
  have hmx : Try.prog.follows .mixedOrders = true := by kernel_rfl
  obtain ⟨W1, hW1⟩ : ∃ W, W = w.alloc (.cells #[.int .i64 kind, .int .i64 on, .int .i64 x.at_, .int .u64 x.a, .int .u64 x.b, .int .u64 x.c, .int .u64 x.k, .int .u64 x.v] 66) := ⟨_, rfl⟩
  obtain ⟨ob, hob⟩ : ∃ o, o = w.heap.size := ⟨_, rfl⟩
  have hB : Below w.heap.size w W1 := by rw [hW1]; exact ((Gr.refl w).alloc _).below
  have hbk : W1.heap[ob]? = some (.cells #[.int .i64 kind, .int .i64 on, .int .i64 x.at_, .int .u64 x.a, .int .u64 x.b, .int .u64 x.c, .int .u64 x.k, .int .u64 x.v] 66 (0, 0)) := by rw [hW1, hob]; exact heap_new' _ _
  have HP := hid (h.below hB 0)
  have HN0 : Hid (Nx (fun k => k = a ∨ k = b) tag (tg tag w 0) w W1) := Nx.below _ tag 0 hB
  have HOB := hid hbk
  have HT : Hid (tg tag w 0 ob = 0) := tg_new (by rw [hob]; exact Nat.le_refl _)
  have HW : Hid (w.alloc (.cells #[.int .i64 kind, .int .i64 on, .int .i64 x.at_, .int .u64 x.a, .int .u64 x.b, .int .u64 x.c, .int .u64 x.k, .int .u64 x.v] 66) = W1 ∧ w.heap.size = ob) := ⟨hW1.symm, hob.symm⟩
  have HAB : Hid (a ≠ b ∧ a ≠ 0 ∧ b ≠ 0) := ⟨hab, ha, hb⟩
  generalize htg : tg tag w 0 = tag1 at HP HN0 HT
  clear htg hW1 hob hB hbk h hab ha hb
  have d0 : decide (kind = 0) = false := decide_eq_false h0
  have d1 : decide (kind = 1) = false := decide_eq_false h1
  have d2 : decide (kind = 2) = false := decide_eq_false h2
  have d3 : decide (kind = 3) = false := decide_eq_false h3
  have d4 : decide (kind = 4) = false := decide_eq_false h4
  have d5 : decide (kind = 5) = false := decide_eq_false h5
  have d6 : decide (kind = 6) = false := decide_eq_false h6
  go_enter Try.func17, Try.ntmps17
  go_wp2_with fail
  go_ret
  rw [HW.out.1]
  exact ⟨by simp, (Af.below HN0.out HP.out (Gr.refl W1).below).more (by omega)⟩
end Go.Proofs.Ytaaobchodbnkpaa.Qe
