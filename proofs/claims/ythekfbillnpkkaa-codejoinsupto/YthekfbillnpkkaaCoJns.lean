import Derived.Test.YthekfbillnpkkaaCoJn
namespace Go.Proofs.Ythekfbillnpkkaa.Cd
open Go.RowKit Go.Sort
attribute [local go_sem ↓] Go.wp_at_zero Go.wp_at_succ

theorem chk_iff {k : Int} {l : List Op2} : chk k l = 0 ↔ (k = 2 ∨ k = 3) ∧ l.length ≤ 16 ∧ ∀ o ∈ l, may k o = true := by
  refine ⟨chk_ok, fun ⟨h1, h2, h3⟩ => ?_⟩
  unfold chk
  rw [if_neg (by omega), if_neg (by omega), if_neg]
  intro h
  obtain ⟨o, ho, h4⟩ := List.any_eq_true.1 h
  rw [h3 o ho] at h4
  cases h4
theorem chk_app {k : Int} (l m : List Op2) : chk k (l ++ m) = 0 ↔ chk k l = 0 ∧ chk k m = 0 ∧ (l ++ m).length ≤ 16 := by
  rw [chk_iff, chk_iff, chk_iff]
  constructor
  · rintro ⟨h1, h2, h3⟩
    have h4 := h2
    rw [List.length_append] at h4
    exact ⟨⟨h1, by omega, fun o ho => h3 o (by simp [ho])⟩, ⟨h1, by omega, fun o ho => h3 o (by simp [ho])⟩, h2⟩
  · rintro ⟨⟨h1, _, h3⟩, ⟨_, _, h6⟩, h7⟩
    refine ⟨h1, h7, fun o ho => ?_⟩
    rcases List.mem_append.1 ho with h | h
    · exact h3 o h
    · exact h6 o h
theorem map_app {l m : List Op2} (h : chk 2 (l ++ m) = 0) (r : Rc) : mapL (l ++ m) r = mapL m (mapL l r) := by
  obtain ⟨h1, h2, _⟩ := (chk_app l m).1 h
  unfold mapL
  rw [if_pos h, if_pos h1, if_pos h2, List.foldl_append]
theorem pass_app {l m : List Op2} (h : chk 3 (l ++ m) = 0) (r : Rc) : passL (l ++ m) r = (passL l r && passL m r) := by
  obtain ⟨h1, h2, _⟩ := (chk_app l m).1 h
  unfold passL
  rw [if_pos h, if_pos h1, if_pos h2, List.all_append]
theorem mapL_ok {l : List Op2} (hl : ∀ o ∈ l, Ook o) {r : Rc} (hr : Rok r) : Rok (mapL l r) := by
  unfold mapL
  split
  · rename_i h
    exact fold_ok (fun o ho => ⟨(chk_ok h).2.2 o ho, hl o ho⟩) hr
  · exact hr
set_option maxHeartbeats 2000000 in
set_option maxRecDepth 100000 in
theorem mayJ_any {k : Int} {vl vm : Value} {pb : Option Addr} {nb cb : Nat} {l m : List Op2} (w : World) (hl : Ls EO w vl l) (hm : Ls EO w vm m) (hn : nb = (l ++ m).length) (b1 b2 b3 : Nat)
    (h1 : w.heap[b1]? = some (.cells #[vl] 22 (0, 0))) (h2 : w.heap[b2]? = some (.cells #[vm] 22 (0, 0))) (h3 : w.heap[b3]? = some (.cells #[.slice pb nb cb] 22 (0, 0))) :
    Calls Try.prog 11 #[.int .i64 k, .pointer (some ⟨b1, 0, none⟩), .pointer (some ⟨b2, 0, none⟩), .pointer (some ⟨b3, 0, none⟩)] w fun e w' => e = .returned (.bool (decide (chk k (l ++ m) = 0))) ∧ Below w.heap.size w w' := by
  have HA := hid (chk_app (k := k) l m)
  have hc1 := check_any k w hl
  have hc2 := fun (W : World) (h : Below w.heap.size w W) => check_any k W (hm.below h)
  obtain ⟨p1, c1, rfl⟩ := hl.form
  obtain ⟨p2, c2, rfl⟩ := hm.form
  obtain ⟨q1, hq1⟩ : ∃ q, q = chk k l := ⟨_, rfl⟩
  obtain ⟨q2, hq2⟩ : ∃ q, q = chk k m := ⟨_, rfl⟩
  obtain ⟨z, hz⟩ : ∃ z, z = decide (chk k (l ++ m) = 0) := ⟨_, rfl⟩
  rw [← hq1] at hc1
  rw [← hq2] at hc2
  rw [← hz]
  have HZ : Hid (z = decide (q1 = 0 ∧ q2 = 0 ∧ nb ≤ 16)) := by
    show _ = _
    rw [hz, hq1, hq2, hn]
    exact decide_eq_decide.2 HA.out
  have x1 : w.cell? ⟨b1, 0, none⟩ = some (.slice p1 l.length c1) := by simp [World.cell?, h1]
  have x2 : w.cell? ⟨b2, 0, none⟩ = some (.slice p2 m.length c2) := by simp [World.cell?, h2]
  have x3 : w.cell? ⟨b3, 0, none⟩ = some (.slice pb nb cb) := by simp [World.cell?, h3]
  have y1 : b1 < w.heap.size := (Array.getElem?_eq_some_iff.1 h1).1
  have y2 : b2 < w.heap.size := (Array.getElem?_eq_some_iff.1 h2).1
  have y3 : b3 < w.heap.size := (Array.getElem?_eq_some_iff.1 h3).1
  clear h1 h2 h3 hl hm hz hq1 hq2 hn
  go_enter Try.func11, Try.ntmps11
  go_wp2_with fail
  refine hc1.mono ?_
  rintro e w1 ⟨rfl, B1⟩
  have u2 := (below_cells B1).1 b2 0 y2
  have u3 := (below_cells B1).1 b3 0 y3
  rw [x2] at u2
  rw [x3] at u3
  have t2 : b2 < w1.heap.size := Nat.lt_of_lt_of_le y2 B1.size
  have t3 : b3 < w1.heap.size := Nat.lt_of_lt_of_le y3 B1.size
  have HB1 := hid B1
  have hc3 := hc2 w1 B1
  clear x1 x2 x3 y1 hc1 hc2 B1
  by_cases e1 : q1 = 0
  · have f1 : (q1 == 0) = true := by simpa using e1
    by_cases e2 : q2 = 0
    · have f2 : (q2 == 0) = true := by simpa using e2
      have hz : z = decide ((nb : Int) ≤ 16) := by rw [HZ.out]; simp only [e1, e2, true_and]; exact decide_eq_decide.2 (by omega)
      clear e1 e2
      subst hz
      go_wp2_with fail
      refine hc3.mono ?_
      rintro e w2 ⟨rfl, B2⟩
      have v3 := (below_cells B2).1 b3 0 t3
      rw [u3] at v3
      have s3 : b3 < w2.heap.size := Nat.lt_of_lt_of_le t3 B2.size
      have HB2 := hid (HB1.out.trans (B2.mono HB1.out.size))
      clear B2
      go_wp2_with fail
      go_ret
      exact ⟨by simp, HB2.out⟩
    · have f2 : (q2 == 0) = false := by simpa using e2
      have hz : z = false := by rw [HZ.out]; simp [e2]
      clear e1 e2
      subst hz
      go_wp2_with fail
      refine hc3.mono ?_
      rintro e w2 ⟨rfl, B2⟩
      have HB2 := hid (HB1.out.trans (B2.mono HB1.out.size))
      clear B2
      go_wp2_with fail
      go_ret
      exact ⟨rfl, HB2.out⟩
  · have f1 : (q1 == 0) = false := by simpa using e1
    have hz : z = false := by rw [HZ.out]; simp [e1]
    clear e1
    subst hz
    go_wp2_with fail
    go_ret
    exact ⟨rfl, HB1.out⟩
set_option maxHeartbeats 8000000 in
set_option maxRecDepth 100000 in
theorem codeJoins_any {vl vm : Value} {l m : List Op2} {r : Rc} (hl : ∀ o ∈ l, Ook o) (hm : ∀ o ∈ m, Ook o) (hr : Rok r) (w : World) (hvl : Ls EO w vl l) (hvm : Ls EO w vm m) (hs : (l.length + m.length) * 16 ≤ 140737488355328) : Calls Try.prog 3 #[vl, vm, rv r] w fun e w' => e = .returned (.bool true) ∧ Below w.heap.size w w' := by
  have hmx : Try.prog.follows .mixedOrders = true := by kernel_rfl
  have hR := fun x y W => run_eqR x y W
  obtain ⟨p1, c1, rfl⟩ := hvl.form
  obtain ⟨p2, c2, rfl⟩ := hvm.form
  obtain ⟨n1, hn1⟩ : ∃ n, n = l.length := ⟨_, rfl⟩
  obtain ⟨n2, hn2⟩ : ∃ n, n = m.length := ⟨_, rfl⟩
  have HVL := hid hvl
  have HVM := hid hvm
  rw [← hn1] at HVL ⊢
  rw [← hn2] at HVM ⊢
  have HL : Hid (∀ o ∈ l, Ook o) := hl
  have HM : Hid (∀ o ∈ m, Ook o) := hm
  have HLM : Hid (∀ o ∈ l ++ m, Ook o) := fun o ho => (List.mem_append.1 ho).elim (hl o) (hm o)
  have HR := hid hr
  have HS := hid hs
  clear hl hm hr hvl hvm hs hn1 hn2
  go_enter Try.func3, Try.ntmps3
  go_upto_region 1 with fail
  obtain ⟨W1, hW1⟩ : ∃ W1, W1 = ((w.alloc (.cells #[.slice p1 n1 c1] 22)).alloc (.cells #[.slice p2 n2 c2] 22)).alloc (.cells #[.int .u64 r.key, .int .u64 r.val] 25) := ⟨_, rfl⟩
  have hG : Gr w W1 := by rw [hW1]; exact (((Gr.refl w).alloc _).alloc _).alloc _
  obtain ⟨k1, k2⟩ := two_new w (.cells #[.slice p1 n1 c1] 22) (.cells #[.slice p2 n2 c2] 22)
  have k3 := heap_new' ((w.alloc (.cells #[.slice p1 n1 c1] 22)).alloc (.cells #[.slice p2 n2 c2] 22)) (.cells #[.int .u64 r.key, .int .u64 r.val] 25)
  have g3 := ((Gr.refl ((w.alloc (.cells #[.slice p1 n1 c1] 22)).alloc (.cells #[.slice p2 n2 c2] 22))).alloc (.cells #[.int .u64 r.key, .int .u64 r.val] 25)).below
  have j1 := (g3.block _ (blk_at k1).1).trans k1
  have j2 := (g3.block _ (blk_at k2).1).trans k2
  rw [show ((w.alloc (.cells #[.slice p1 n1 c1] 22)).alloc (.cells #[.slice p2 n2 c2] 22)).heap.size = w.heap.size + 1 + 1 by simp] at k3
  rw [← hW1] at j1 j2 k3
  obtain ⟨lb, hlb⟩ : ∃ b, b = w.heap.size := ⟨_, rfl⟩
  obtain ⟨mb, hmb⟩ : ∃ b, b = lb + 1 := ⟨_, rfl⟩
  obtain ⟨rb, hrb⟩ : ∃ b, b = mb + 1 := ⟨_, rfl⟩
  rw [← hlb] at j1
  rw [← hlb, ← hmb] at j2
  rw [← hlb, ← hmb, ← hrb] at k3
  rw [← hW1, ← hlb, ← hmb, ← hrb]
  have HB1 := hid hG.below
  have HJ := hid (And.intro j1 (And.intro j2 k3))
  have hjn := joined_any W1 (HVL.out.below hG.below) (HVM.out.below hG.below) HS.out
  obtain ⟨a1, a2, _⟩ := blk_at j1
  obtain ⟨a3, a4, _⟩ := blk_at j2
  have a5 := a2 0
  have a6 := a4 0
  simp at a5 a6
  clear hW1 hlb hmb hrb j1 j2 k1 k2 k3 g3 hG a2 a4
  go_wp2_with fail
  refine hjn.mono ?_
  rintro e w2 ⟨vb, rfl, hlb2, B2⟩
  obtain ⟨pb, cb, rfl⟩ := hlb2.form
  obtain ⟨nb, hnb⟩ : ∃ n, n = (l ++ m).length := ⟨_, rfl⟩
  rw [← hnb] at hlb2 ⊢
  have HNB := hid hnb
  clear hnb a1 a3 a5 a6 hjn
  go_upto_region 2 with fail
  obtain ⟨W0, hW0⟩ : ∃ W0, W0 = w2.alloc (.cells #[.slice pb nb cb] 22) := ⟨_, rfl⟩
  have g4 : Gr w2 W0 := by rw [hW0]; exact (Gr.refl _).alloc _
  have k4 : W0.heap[w2.heap.size]? = some (.cells #[.slice pb nb cb] 22 (0, 0)) := by rw [hW0]; exact heap_new' _ _
  obtain ⟨bb, hbb⟩ : ∃ b, b = w2.heap.size := ⟨_, rfl⟩
  rw [← hW0, ← hbb]
  rw [← hbb] at k4
  have B3 : Below W1.heap.size W1 W0 := B2.trans (g4.below.mono B2.size)
  have HBW : Hid (Below w.heap.size w W0) := HB1.out.trans (B3.mono HB1.out.size)
  have i1 := (B3.block _ (blk_at HJ.out.1).1).trans HJ.out.1
  have i2 := (B3.block _ (blk_at HJ.out.2.1).1).trans HJ.out.2.1
  have i3 := (B3.block _ (blk_at HJ.out.2.2).1).trans HJ.out.2.2
  have LB := hid (hlb2.below g4.below)
  have LL := hid (HVL.out.below HBW.out)
  have LM := hid (HVM.out.below HBW.out)
  have LR : Hid (∀ W : World, Below W0.heap.size W0 W → W.cell? ⟨rb, 0, none⟩ = some (.int .u64 r.key) ∧ W.cell? ⟨rb, 1, none⟩ = some (.int .u64 r.val) ∧ W.cell? ⟨lb, 0, none⟩ = some (.slice p1 n1 c1) ∧ W.cell? ⟨mb, 0, none⟩ = some (.slice p2 n2 c2) ∧ W.cell? ⟨bb, 0, none⟩ = some (.slice pb nb cb) ∧ rb < W.heap.size ∧ lb < W.heap.size ∧ mb < W.heap.size ∧ bb < W.heap.size) := fun W hW => by
    have h1 := (hW.block lb (blk_at i1).1).trans i1
    have h2 := (hW.block mb (blk_at i2).1).trans i2
    have h3 := (hW.block rb (blk_at i3).1).trans i3
    have h4 := (hW.block bb (blk_at k4).1).trans k4
    exact ⟨by simp [World.cell?, h3], by simp [World.cell?, h3], by simp [World.cell?, h1], by simp [World.cell?, h2], by simp [World.cell?, h4], (blk_at h3).1, (blk_at h1).1, (blk_at h2).1, (blk_at h4).1⟩
  have HC : Hid (∀ (k : Int) (W : World), Below W0.heap.size W0 W → Calls Try.prog 8 #[.int .i64 k, .slice pb nb cb] W fun e w' => e = .returned (.int .i64 (chk k (l ++ m))) ∧ Below W.heap.size W w') := fun k W hW => check_any k W (LB.out.below hW)
  have HMJ : Hid (∀ (k : Int) (W : World), Below W0.heap.size W0 W → Calls Try.prog 11 #[.int .i64 k, .pointer (some ⟨lb, 0, none⟩), .pointer (some ⟨mb, 0, none⟩), .pointer (some ⟨bb, 0, none⟩)] W fun e w' => e = .returned (.bool (decide (chk k (l ++ m) = 0))) ∧ Below W.heap.size W w') := fun k W hW => mayJ_any W (LL.out.below hW) (LM.out.below hW) HNB.out lb mb bb ((hW.block lb (blk_at i1).1).trans i1) ((hW.block mb (blk_at i2).1).trans i2) ((hW.block bb (blk_at k4).1).trans k4)
  obtain ⟨q2, hq2⟩ : ∃ q, q = chk 2 (l ++ m) := ⟨_, rfl⟩
  obtain ⟨q3, hq3⟩ : ∃ q, q = chk 3 (l ++ m) := ⟨_, rfl⟩
  have HQ2 := hid hq2
  have HQ3 := hid hq3
  have B0 : Below W0.heap.size W0 W0 := (Gr.refl W0).below
  have hkn := known_any W0
  clear hW0 hbb g4 k4 B2 B3 i1 i2 i3 hlb2 hq2 hq3 HB1 HJ
  go_wp2_with fail
  refine hkn.mono ?_
  rintro e w3 ⟨rfl, B4⟩
  clear hkn B0
  go_upto_region 4 with fail
  go_cut [27] from 14 to 26 (fun s27 w' => s27 = .bool false ∧ Hid (Below w3.heap.size w3 w'))
  case first =>
    have BD : Below W0.heap.size W0 w3.drew := B4.trans ((Gr.refl w3).drew.below.mono B4.size)
    have BG : Below w3.heap.size w3 w3.drew := (Gr.refl w3).drew.below
    by_cases e2 : q2 = 0
    · have f2 : (q2 == 0) = true := by simpa using e2
      have hce : chk 2 (l ++ m) = 0 := by rw [← HQ2.out]; exact e2
      have HMA := hid (map_app hce r)
      obtain ⟨s1, hs1⟩ : ∃ s, s = mapL l r := ⟨_, rfl⟩
      have HS1 := hid hs1
      obtain ⟨s2, hs2⟩ : ∃ s, s = mapL m s1 := ⟨_, rfl⟩
      have HS2 := hid hs2
      clear e2 hce hs1 hs2
      refine wp_regionD (S := (fun W : World => Below W0.heap.size W0 W)) (D := []) hmx ?_
      refine' wpAnyD_take (i := 0) (oi := { dst := some 14, op := Go.Op.load 22 (Go.Operand.tmp 7), type := 22, pos := "outright.go:19", after := #[], guard := none }) (v := _) rfl (by kernel_rfl) (by kernel_rfl) (by kernel_rfl) (fun _ _ _ h => h) (by kernel_rfl) (Or.inl ⟨by rfl, ?hy1⟩) BD ?rest1
      case hy1 => (intro W hSw; obtain ⟨z0, z1, z2, z3, z4, z5, z6, z7, z8⟩ := LR.out W hSw; go_simp; try (with_reducible rfl))
      try simp only [Act.put, List.setIfInBounds_toArray, List.set_cons_zero, List.set_cons_succ]
      refine wpAnyD_one (i := 1) (o := { dst := some 15, op := Go.Op.call { callee := Go.Callee.value (Go.Operand.func 8), args := #[Go.Operand.const (Go.Value.int Go.IntKind.i64 2), Go.Operand.tmp 14], argTypes := #[3, 22] }, type := 28, pos := "outright.go:19", after := #[{ on := 0, ground := Go.Ground.data }], guard := none }) (by kernel_rfl) rfl (fun K hK => ?_)
      go_simp
      have hc := HC.out 2 _ BD
      rw [← HQ2.out] at hc
      refine hc.mono ?_
      clear hc
      rintro e y1 ⟨rfl, g1⟩
      have BY1 : Below W0.heap.size W0 y1 := BD.trans (g1.mono BD.size)
      have BU1 : Below w3.heap.size w3 y1 := BG.trans (g1.mono BG.size)
      clear g1
      go_wp2_with fail
      refine hK.out _ _ (fun hD => BY1) ?_
      clear hK K
      try simp only [Act.put, List.setIfInBounds_toArray, List.set_cons_zero, List.set_cons_succ]
      refine' wpAnyD_take (i := 2) (oi := { dst := some 16, op := Go.Op.binOp Go.BinOp.eql 28 (Go.Operand.tmp 15) (Go.Operand.const (Go.Value.int Go.IntKind.i64 0)) 28, type := 4, pos := "outright.go:19", after := #[{ on := 1, ground := Go.Ground.data }], guard := none }) (v := .bool true) rfl (by kernel_rfl) (by kernel_rfl) (by kernel_rfl) (fun _ _ _ h => h) (by kernel_rfl) (Or.inl ⟨by rfl, ?hy3⟩) BY1 ?rest3
      case hy3 => (intro W hSw; obtain ⟨z0, z1, z2, z3, z4, z5, z6, z7, z8⟩ := LR.out W hSw; go_simp; try (with_reducible rfl))
      try simp only [Act.put, List.setIfInBounds_toArray, List.set_cons_zero, List.set_cons_succ]
      refine' wpAnyD_take (i := 3) (oi := { dst := some 17, op := Go.Op.move (Go.Operand.tmp 16), type := 4, pos := "outright.go:19", after := #[{ on := 2, ground := Go.Ground.data }, { on := 1, ground := Go.Ground.chain }], guard := none }) (v := _) rfl (by kernel_rfl) (by kernel_rfl) (by kernel_rfl) (fun _ _ _ h => h) (by kernel_rfl) (Or.inl ⟨by rfl, ?hy4⟩) BY1 ?rest4
      case hy4 => (intro W hSw; obtain ⟨z0, z1, z2, z3, z4, z5, z6, z7, z8⟩ := LR.out W hSw; go_simp; try (with_reducible rfl))
      try simp only [Act.put, List.setIfInBounds_toArray, List.set_cons_zero, List.set_cons_succ]
      refine' wpAnyD_take (i := 4) (oi := { dst := some 18, op := Go.Op.load 22 (Go.Operand.tmp 7), type := 22, pos := "outright.go:19", after := #[{ on := 3, ground := Go.Ground.guard }], guard := some (3, true) }) (v := _) rfl (by kernel_rfl) (by kernel_rfl) (by kernel_rfl) (fun _ _ _ h => h) (by kernel_rfl) (Or.inl ⟨by rfl, ?hy5⟩) BY1 ?rest5
      case hy5 => (intro W hSw; obtain ⟨z0, z1, z2, z3, z4, z5, z6, z7, z8⟩ := LR.out W hSw; go_simp; try (with_reducible rfl))
      try simp only [Act.put, List.setIfInBounds_toArray, List.set_cons_zero, List.set_cons_succ]
      refine' wpAnyD_take (i := 5) (oi := { dst := some 19, op := Go.Op.load 25 (Go.Operand.tmp 5), type := 25, pos := "outright.go:19", after := #[{ on := 3, ground := Go.Ground.guard }], guard := some (3, true) }) (v := _) rfl (by kernel_rfl) (by kernel_rfl) (by kernel_rfl) (fun _ _ _ h => h) (by kernel_rfl) (Or.inl ⟨by rfl, ?hy6⟩) BY1 ?rest6
      case hy6 => (intro W hSw; obtain ⟨z0, z1, z2, z3, z4, z5, z6, z7, z8⟩ := LR.out W hSw; go_simp; try (with_reducible rfl))
      try simp only [Act.put, List.setIfInBounds_toArray, List.set_cons_zero, List.set_cons_succ]
      refine' wpAnyD_take (i := 7) (oi := { dst := some 21, op := Go.Op.load 22 (Go.Operand.tmp 4), type := 22, pos := "outright.go:19", after := #[{ on := 3, ground := Go.Ground.guard }], guard := some (3, true) }) (v := _) rfl (by kernel_rfl) (by kernel_rfl) (by kernel_rfl) (fun _ _ _ h => h) (by kernel_rfl) (Or.inl ⟨by rfl, ?hy7⟩) BY1 ?rest7
      case hy7 => (intro W hSw; obtain ⟨z0, z1, z2, z3, z4, z5, z6, z7, z8⟩ := LR.out W hSw; go_simp; try (with_reducible rfl))
      try simp only [Act.put, List.setIfInBounds_toArray, List.set_cons_zero, List.set_cons_succ]
      refine' wpAnyD_take (i := 8) (oi := { dst := some 22, op := Go.Op.load 22 (Go.Operand.tmp 3), type := 22, pos := "outright.go:19", after := #[{ on := 3, ground := Go.Ground.guard }], guard := some (3, true) }) (v := _) rfl (by kernel_rfl) (by kernel_rfl) (by kernel_rfl) (fun _ _ _ h => h) (by kernel_rfl) (Or.inl ⟨by rfl, ?hy8⟩) BY1 ?rest8
      case hy8 => (intro W hSw; obtain ⟨z0, z1, z2, z3, z4, z5, z6, z7, z8⟩ := LR.out W hSw; go_simp; try (with_reducible rfl))
      try simp only [Act.put, List.setIfInBounds_toArray, List.set_cons_zero, List.set_cons_succ]
      refine' wpAnyD_take (i := 9) (oi := { dst := some 23, op := Go.Op.load 25 (Go.Operand.tmp 5), type := 25, pos := "outright.go:19", after := #[{ on := 3, ground := Go.Ground.guard }], guard := some (3, true) }) (v := _) rfl (by kernel_rfl) (by kernel_rfl) (by kernel_rfl) (fun _ _ _ h => h) (by kernel_rfl) (Or.inl ⟨by rfl, ?hy9⟩) BY1 ?rest9
      case hy9 => (intro W hSw; obtain ⟨z0, z1, z2, z3, z4, z5, z6, z7, z8⟩ := LR.out W hSw; go_simp; try (with_reducible rfl))
      try simp only [Act.put, List.setIfInBounds_toArray, List.set_cons_zero, List.set_cons_succ]
      refine wpAnyD_one (i := 6) (o := { dst := some 20, op := Go.Op.call { callee := Go.Callee.value (Go.Operand.func 9), args := #[Go.Operand.tmp 18, Go.Operand.tmp 19], argTypes := #[22, 25] }, type := 25, pos := "outright.go:19", after := #[{ on := 4, ground := Go.Ground.data }, { on := 5, ground := Go.Ground.data }, { on := 3, ground := Go.Ground.chain }, { on := 3, ground := Go.Ground.guard }], guard := some (3, true) }) (by kernel_rfl) rfl (fun K hK => ?_)
      rw [if_pos (by kernel_rfl)]
      go_simp
      have hc := map_any HR.out HLM.out _ (LB.out.below BY1)
      rw [HMA.out, ← HS1.out, ← HS2.out] at hc
      refine hc.mono ?_
      clear hc
      rintro e y2 ⟨rfl, g2⟩
      have BY2 : Below W0.heap.size W0 y2 := BY1.trans (g2.mono BY1.size)
      have BU2 : Below w3.heap.size w3 y2 := BU1.trans (g2.mono BU1.size)
      clear g2
      go_wp2_with fail
      refine hK.out _ _ (fun hD => BY2) ?_
      clear hK K
      try simp only [Act.put, List.setIfInBounds_toArray, List.set_cons_zero, List.set_cons_succ]
      refine wpAnyD_one (i := 10) (o := { dst := some 24, op := Go.Op.call { callee := Go.Callee.value (Go.Operand.func 9), args := #[Go.Operand.tmp 22, Go.Operand.tmp 23], argTypes := #[22, 25] }, type := 25, pos := "outright.go:19", after := #[{ on := 8, ground := Go.Ground.data }, { on := 9, ground := Go.Ground.data }, { on := 6, ground := Go.Ground.chain }, { on := 3, ground := Go.Ground.guard }], guard := some (3, true) }) (by kernel_rfl) rfl (fun K hK => ?_)
      rw [if_pos (by kernel_rfl)]
      go_simp
      have hc := map_any HR.out HL.out _ (LL.out.below BY2)
      rw [← HS1.out] at hc
      refine hc.mono ?_
      clear hc
      rintro e y3 ⟨rfl, g3⟩
      have BY3 : Below W0.heap.size W0 y3 := BY2.trans (g3.mono BY2.size)
      have BU3 : Below w3.heap.size w3 y3 := BU2.trans (g3.mono BU2.size)
      clear g3
      go_wp2_with fail
      refine hK.out _ _ (fun hD => BY3) ?_
      clear hK K
      try simp only [Act.put, List.setIfInBounds_toArray, List.set_cons_zero, List.set_cons_succ]
      refine wpAnyD_one (i := 11) (o := { dst := some 25, op := Go.Op.call { callee := Go.Callee.value (Go.Operand.func 9), args := #[Go.Operand.tmp 21, Go.Operand.tmp 24], argTypes := #[22, 25] }, type := 25, pos := "outright.go:19", after := #[{ on := 7, ground := Go.Ground.data }, { on := 10, ground := Go.Ground.data }, { on := 10, ground := Go.Ground.chain }, { on := 3, ground := Go.Ground.guard }], guard := some (3, true) }) (by kernel_rfl) rfl (fun K hK => ?_)
      rw [if_pos (by kernel_rfl)]
      go_simp
      have hc := map_any (r := s1) (by rw [HS1.out]; exact mapL_ok HL.out HR.out) HM.out _ (LM.out.below BY3)
      rw [← HS2.out] at hc
      refine hc.mono ?_
      clear hc
      rintro e y4 ⟨rfl, g4⟩
      have BY4 : Below W0.heap.size W0 y4 := BY3.trans (g4.mono BY3.size)
      have BU4 : Below w3.heap.size w3 y4 := BU3.trans (g4.mono BU3.size)
      clear g4
      go_wp2_with fail
      refine hK.out _ _ (fun hD => BY4) ?_
      clear hK K
      try simp only [Act.put, List.setIfInBounds_toArray, List.set_cons_zero, List.set_cons_succ]
      refine wpAnyD_one (i := 12) (o := { dst := some 26, op := Go.Op.binOp Go.BinOp.neq 25 (Go.Operand.tmp 20) (Go.Operand.tmp 25) 25, type := 4, pos := "outright.go:19", after := #[{ on := 6, ground := Go.Ground.data }, { on := 11, ground := Go.Ground.data }, { on := 3, ground := Go.Ground.guard }], guard := some (3, true) }) (by kernel_rfl) rfl (fun K hK => ?_)
      rw [if_pos (by kernel_rfl)]
      go_simp
      refine hK.out _ _ (fun hD => BY4) ?_
      clear hK K
      try simp only [Act.put, List.setIfInBounds_toArray, List.set_cons_zero, List.set_cons_succ]
      refine wpAnyD_one (i := 13) (o := { dst := some 27, op := Go.Op.pick (Go.Operand.tmp 17) (Go.Operand.tmp 26) (Go.Operand.const (Go.Value.bool false)), type := 4, pos := "outright.go:19", after := #[{ on := 3, ground := Go.Ground.data }, { on := 12, ground := Go.Ground.data }], guard := none }) (by kernel_rfl) rfl (fun K hK => ?_)
      go_simp
      refine hK.out _ _ (fun hD => BY4) ?_
      clear hK K
      try simp only [Act.put, List.setIfInBounds_toArray, List.set_cons_zero, List.set_cons_succ]
      refine wpAnyD_done (by kernel_rfl) ?_ _
      go_wp2_with fail
      go_meet
      exact ⟨rfl, BU4⟩
    · have f2 : (q2 == 0) = false := by simpa using e2
      clear e2
      refine wp_regionD (S := (fun W : World => Below W0.heap.size W0 W)) (D := []) hmx ?_
      refine' wpAnyD_take (i := 0) (oi := { dst := some 14, op := Go.Op.load 22 (Go.Operand.tmp 7), type := 22, pos := "outright.go:19", after := #[], guard := none }) (v := _) rfl (by kernel_rfl) (by kernel_rfl) (by kernel_rfl) (fun _ _ _ h => h) (by kernel_rfl) (Or.inl ⟨by rfl, ?hy15⟩) BD ?rest15
      case hy15 => (intro W hSw; obtain ⟨z0, z1, z2, z3, z4, z5, z6, z7, z8⟩ := LR.out W hSw; go_simp; try (with_reducible rfl))
      try simp only [Act.put, List.setIfInBounds_toArray, List.set_cons_zero, List.set_cons_succ]
      refine wpAnyD_one (i := 1) (o := { dst := some 15, op := Go.Op.call { callee := Go.Callee.value (Go.Operand.func 8), args := #[Go.Operand.const (Go.Value.int Go.IntKind.i64 2), Go.Operand.tmp 14], argTypes := #[3, 22] }, type := 28, pos := "outright.go:19", after := #[{ on := 0, ground := Go.Ground.data }], guard := none }) (by kernel_rfl) rfl (fun K hK => ?_)
      go_simp
      have hc := HC.out 2 _ BD
      rw [← HQ2.out] at hc
      refine hc.mono ?_
      clear hc
      rintro e y1 ⟨rfl, g1⟩
      have BY1 : Below W0.heap.size W0 y1 := BD.trans (g1.mono BD.size)
      have BU1 : Below w3.heap.size w3 y1 := BG.trans (g1.mono BG.size)
      clear g1
      go_wp2_with fail
      refine hK.out _ _ (fun hD => BY1) ?_
      clear hK K
      try simp only [Act.put, List.setIfInBounds_toArray, List.set_cons_zero, List.set_cons_succ]
      refine' wpAnyD_take (i := 2) (oi := { dst := some 16, op := Go.Op.binOp Go.BinOp.eql 28 (Go.Operand.tmp 15) (Go.Operand.const (Go.Value.int Go.IntKind.i64 0)) 28, type := 4, pos := "outright.go:19", after := #[{ on := 1, ground := Go.Ground.data }], guard := none }) (v := .bool false) rfl (by kernel_rfl) (by kernel_rfl) (by kernel_rfl) (fun _ _ _ h => h) (by kernel_rfl) (Or.inl ⟨by rfl, ?hy17⟩) BY1 ?rest17
      case hy17 => (intro W hSw; obtain ⟨z0, z1, z2, z3, z4, z5, z6, z7, z8⟩ := LR.out W hSw; go_simp; try (with_reducible rfl))
      try simp only [Act.put, List.setIfInBounds_toArray, List.set_cons_zero, List.set_cons_succ]
      refine' wpAnyD_take (i := 3) (oi := { dst := some 17, op := Go.Op.move (Go.Operand.tmp 16), type := 4, pos := "outright.go:19", after := #[{ on := 2, ground := Go.Ground.data }, { on := 1, ground := Go.Ground.chain }], guard := none }) (v := _) rfl (by kernel_rfl) (by kernel_rfl) (by kernel_rfl) (fun _ _ _ h => h) (by kernel_rfl) (Or.inl ⟨by rfl, ?hy18⟩) BY1 ?rest18
      case hy18 => (intro W hSw; obtain ⟨z0, z1, z2, z3, z4, z5, z6, z7, z8⟩ := LR.out W hSw; go_simp; try (with_reducible rfl))
      try simp only [Act.put, List.setIfInBounds_toArray, List.set_cons_zero, List.set_cons_succ]
      refine' wpAnyD_take (i := 4) (oi := { dst := some 18, op := Go.Op.load 22 (Go.Operand.tmp 7), type := 22, pos := "outright.go:19", after := #[{ on := 3, ground := Go.Ground.guard }], guard := some (3, true) }) (v := undef) rfl (by kernel_rfl) (by kernel_rfl) (by kernel_rfl) (fun _ _ _ h => h) (by kernel_rfl) (Or.inr ⟨by rfl, rfl⟩) BY1 ?rest19
      try simp only [Act.put, List.setIfInBounds_toArray, List.set_cons_zero, List.set_cons_succ]
      refine' wpAnyD_take (i := 5) (oi := { dst := some 19, op := Go.Op.load 25 (Go.Operand.tmp 5), type := 25, pos := "outright.go:19", after := #[{ on := 3, ground := Go.Ground.guard }], guard := some (3, true) }) (v := undef) rfl (by kernel_rfl) (by kernel_rfl) (by kernel_rfl) (fun _ _ _ h => h) (by kernel_rfl) (Or.inr ⟨by rfl, rfl⟩) BY1 ?rest20
      try simp only [Act.put, List.setIfInBounds_toArray, List.set_cons_zero, List.set_cons_succ]
      refine' wpAnyD_take (i := 7) (oi := { dst := some 21, op := Go.Op.load 22 (Go.Operand.tmp 4), type := 22, pos := "outright.go:19", after := #[{ on := 3, ground := Go.Ground.guard }], guard := some (3, true) }) (v := undef) rfl (by kernel_rfl) (by kernel_rfl) (by kernel_rfl) (fun _ _ _ h => h) (by kernel_rfl) (Or.inr ⟨by rfl, rfl⟩) BY1 ?rest21
      try simp only [Act.put, List.setIfInBounds_toArray, List.set_cons_zero, List.set_cons_succ]
      refine' wpAnyD_take (i := 8) (oi := { dst := some 22, op := Go.Op.load 22 (Go.Operand.tmp 3), type := 22, pos := "outright.go:19", after := #[{ on := 3, ground := Go.Ground.guard }], guard := some (3, true) }) (v := undef) rfl (by kernel_rfl) (by kernel_rfl) (by kernel_rfl) (fun _ _ _ h => h) (by kernel_rfl) (Or.inr ⟨by rfl, rfl⟩) BY1 ?rest22
      try simp only [Act.put, List.setIfInBounds_toArray, List.set_cons_zero, List.set_cons_succ]
      refine' wpAnyD_take (i := 9) (oi := { dst := some 23, op := Go.Op.load 25 (Go.Operand.tmp 5), type := 25, pos := "outright.go:19", after := #[{ on := 3, ground := Go.Ground.guard }], guard := some (3, true) }) (v := undef) rfl (by kernel_rfl) (by kernel_rfl) (by kernel_rfl) (fun _ _ _ h => h) (by kernel_rfl) (Or.inr ⟨by rfl, rfl⟩) BY1 ?rest23
      try simp only [Act.put, List.setIfInBounds_toArray, List.set_cons_zero, List.set_cons_succ]
      refine wpAnyD_one (i := 6) (o := { dst := some 20, op := Go.Op.call { callee := Go.Callee.value (Go.Operand.func 9), args := #[Go.Operand.tmp 18, Go.Operand.tmp 19], argTypes := #[22, 25] }, type := 25, pos := "outright.go:19", after := #[{ on := 4, ground := Go.Ground.data }, { on := 5, ground := Go.Ground.data }, { on := 3, ground := Go.Ground.chain }, { on := 3, ground := Go.Ground.guard }], guard := some (3, true) }) (by kernel_rfl) rfl (fun K hK => ?_)
      rw [if_neg (Bool.eq_false_iff.1 (by kernel_rfl))]
      refine hK.out _ _ (fun hD => BY1) ?_
      clear hK K
      try simp only [Act.put, List.setIfInBounds_toArray, List.set_cons_zero, List.set_cons_succ]
      refine wpAnyD_one (i := 10) (o := { dst := some 24, op := Go.Op.call { callee := Go.Callee.value (Go.Operand.func 9), args := #[Go.Operand.tmp 22, Go.Operand.tmp 23], argTypes := #[22, 25] }, type := 25, pos := "outright.go:19", after := #[{ on := 8, ground := Go.Ground.data }, { on := 9, ground := Go.Ground.data }, { on := 6, ground := Go.Ground.chain }, { on := 3, ground := Go.Ground.guard }], guard := some (3, true) }) (by kernel_rfl) rfl (fun K hK => ?_)
      rw [if_neg (Bool.eq_false_iff.1 (by kernel_rfl))]
      refine hK.out _ _ (fun hD => BY1) ?_
      clear hK K
      try simp only [Act.put, List.setIfInBounds_toArray, List.set_cons_zero, List.set_cons_succ]
      refine wpAnyD_one (i := 11) (o := { dst := some 25, op := Go.Op.call { callee := Go.Callee.value (Go.Operand.func 9), args := #[Go.Operand.tmp 21, Go.Operand.tmp 24], argTypes := #[22, 25] }, type := 25, pos := "outright.go:19", after := #[{ on := 7, ground := Go.Ground.data }, { on := 10, ground := Go.Ground.data }, { on := 10, ground := Go.Ground.chain }, { on := 3, ground := Go.Ground.guard }], guard := some (3, true) }) (by kernel_rfl) rfl (fun K hK => ?_)
      rw [if_neg (Bool.eq_false_iff.1 (by kernel_rfl))]
      refine hK.out _ _ (fun hD => BY1) ?_
      clear hK K
      try simp only [Act.put, List.setIfInBounds_toArray, List.set_cons_zero, List.set_cons_succ]
      refine' wpAnyD_take (i := 12) (oi := { dst := some 26, op := Go.Op.binOp Go.BinOp.neq 25 (Go.Operand.tmp 20) (Go.Operand.tmp 25) 25, type := 4, pos := "outright.go:19", after := #[{ on := 6, ground := Go.Ground.data }, { on := 11, ground := Go.Ground.data }, { on := 3, ground := Go.Ground.guard }], guard := some (3, true) }) (v := undef) rfl (by kernel_rfl) (by kernel_rfl) (by kernel_rfl) (fun _ _ _ h => h) (by kernel_rfl) (Or.inr ⟨by rfl, rfl⟩) BY1 ?rest27
      try simp only [Act.put, List.setIfInBounds_toArray, List.set_cons_zero, List.set_cons_succ]
      refine wpAnyD_one (i := 13) (o := { dst := some 27, op := Go.Op.pick (Go.Operand.tmp 17) (Go.Operand.tmp 26) (Go.Operand.const (Go.Value.bool false)), type := 4, pos := "outright.go:19", after := #[{ on := 3, ground := Go.Ground.data }, { on := 12, ground := Go.Ground.data }], guard := none }) (by kernel_rfl) rfl (fun K hK => ?_)
      go_simp
      refine hK.out _ _ (fun hD => BY1) ?_
      clear hK K
      try simp only [Act.put, List.setIfInBounds_toArray, List.set_cons_zero, List.set_cons_succ]
      refine wpAnyD_done (by kernel_rfl) ?_ _
      go_wp2_with fail
      go_meet
      exact ⟨rfl, BU1⟩
  case rest =>
    obtain ⟨rfl, HZ⟩ := hcut
    have B5 : Below W0.heap.size W0 wc := B4.trans (HZ.out.mono B4.size)
    clear HZ B4
    go_upto_region 6 with fail
    generalize hwc : wc = w4 at *
    clear hwc
    go_cut [44] from 28 to 43 (fun s44 w' => s44 = .bool false ∧ Hid (Below w4.heap.size w4 w'))
    case first =>
      have BD : Below W0.heap.size W0 w4.drew := B5.trans ((Gr.refl w4).drew.below.mono B5.size)
      have BG : Below w4.heap.size w4 w4.drew := (Gr.refl w4).drew.below
      by_cases e3 : q3 = 0
      · have f3 : (q3 == 0) = true := by simpa using e3
        have hce : chk 3 (l ++ m) = 0 := by rw [← HQ3.out]; exact e3
        have HPA := hid (pass_app hce r)
        obtain ⟨s2, hs2⟩ : ∃ s, s = passL m r := ⟨_, rfl⟩
        have HS2 := hid hs2
        clear e3 hce hs2
        cases hs1 : passL l r with
        | true =>
          have HS1 := hid hs1
          clear hs1
          refine wp_regionD (S := (fun W : World => Below W0.heap.size W0 W)) (D := []) hmx ?_
          refine' wpAnyD_take (i := 0) (oi := { dst := some 28, op := Go.Op.load 22 (Go.Operand.tmp 7), type := 22, pos := "outright.go:22", after := #[], guard := none }) (v := _) rfl (by kernel_rfl) (by kernel_rfl) (by kernel_rfl) (fun _ _ _ h => h) (by kernel_rfl) (Or.inl ⟨by rfl, ?hy29⟩) BD ?rest29
          case hy29 => (intro W hSw; obtain ⟨z0, z1, z2, z3, z4, z5, z6, z7, z8⟩ := LR.out W hSw; go_simp; try (with_reducible rfl))
          try simp only [Act.put, List.setIfInBounds_toArray, List.set_cons_zero, List.set_cons_succ]
          refine wpAnyD_one (i := 1) (o := { dst := some 29, op := Go.Op.call { callee := Go.Callee.value (Go.Operand.func 8), args := #[Go.Operand.const (Go.Value.int Go.IntKind.i64 3), Go.Operand.tmp 28], argTypes := #[3, 22] }, type := 28, pos := "outright.go:22", after := #[{ on := 0, ground := Go.Ground.data }], guard := none }) (by kernel_rfl) rfl (fun K hK => ?_)
          go_simp
          have hc := HC.out 3 _ BD
          rw [← HQ3.out] at hc
          refine hc.mono ?_
          clear hc
          rintro e y1 ⟨rfl, g1⟩
          have BY1 : Below W0.heap.size W0 y1 := BD.trans (g1.mono BD.size)
          have BU1 : Below w4.heap.size w4 y1 := BG.trans (g1.mono BG.size)
          clear g1
          go_wp2_with fail
          refine hK.out _ _ (fun hD => BY1) ?_
          clear hK K
          try simp only [Act.put, List.setIfInBounds_toArray, List.set_cons_zero, List.set_cons_succ]
          refine' wpAnyD_take (i := 2) (oi := { dst := some 30, op := Go.Op.binOp Go.BinOp.eql 28 (Go.Operand.tmp 29) (Go.Operand.const (Go.Value.int Go.IntKind.i64 0)) 28, type := 4, pos := "outright.go:22", after := #[{ on := 1, ground := Go.Ground.data }], guard := none }) (v := .bool true) rfl (by kernel_rfl) (by kernel_rfl) (by kernel_rfl) (fun _ _ _ h => h) (by kernel_rfl) (Or.inl ⟨by rfl, ?hy31⟩) BY1 ?rest31
          case hy31 => (intro W hSw; obtain ⟨z0, z1, z2, z3, z4, z5, z6, z7, z8⟩ := LR.out W hSw; go_simp; try (with_reducible rfl))
          try simp only [Act.put, List.setIfInBounds_toArray, List.set_cons_zero, List.set_cons_succ]
          refine' wpAnyD_take (i := 3) (oi := { dst := some 31, op := Go.Op.move (Go.Operand.tmp 30), type := 4, pos := "outright.go:22", after := #[{ on := 2, ground := Go.Ground.data }, { on := 1, ground := Go.Ground.chain }], guard := none }) (v := _) rfl (by kernel_rfl) (by kernel_rfl) (by kernel_rfl) (fun _ _ _ h => h) (by kernel_rfl) (Or.inl ⟨by rfl, ?hy32⟩) BY1 ?rest32
          case hy32 => (intro W hSw; obtain ⟨z0, z1, z2, z3, z4, z5, z6, z7, z8⟩ := LR.out W hSw; go_simp; try (with_reducible rfl))
          try simp only [Act.put, List.setIfInBounds_toArray, List.set_cons_zero, List.set_cons_succ]
          refine' wpAnyD_take (i := 4) (oi := { dst := some 32, op := Go.Op.load 22 (Go.Operand.tmp 7), type := 22, pos := "outright.go:22", after := #[{ on := 3, ground := Go.Ground.guard }], guard := some (3, true) }) (v := _) rfl (by kernel_rfl) (by kernel_rfl) (by kernel_rfl) (fun _ _ _ h => h) (by kernel_rfl) (Or.inl ⟨by rfl, ?hy33⟩) BY1 ?rest33
          case hy33 => (intro W hSw; obtain ⟨z0, z1, z2, z3, z4, z5, z6, z7, z8⟩ := LR.out W hSw; go_simp; try (with_reducible rfl))
          try simp only [Act.put, List.setIfInBounds_toArray, List.set_cons_zero, List.set_cons_succ]
          refine' wpAnyD_take (i := 5) (oi := { dst := some 33, op := Go.Op.load 25 (Go.Operand.tmp 5), type := 25, pos := "outright.go:22", after := #[{ on := 3, ground := Go.Ground.guard }], guard := some (3, true) }) (v := _) rfl (by kernel_rfl) (by kernel_rfl) (by kernel_rfl) (fun _ _ _ h => h) (by kernel_rfl) (Or.inl ⟨by rfl, ?hy34⟩) BY1 ?rest34
          case hy34 => (intro W hSw; obtain ⟨z0, z1, z2, z3, z4, z5, z6, z7, z8⟩ := LR.out W hSw; go_simp; try (with_reducible rfl))
          try simp only [Act.put, List.setIfInBounds_toArray, List.set_cons_zero, List.set_cons_succ]
          refine' wpAnyD_take (i := 7) (oi := { dst := some 35, op := Go.Op.load 22 (Go.Operand.tmp 3), type := 22, pos := "outright.go:22", after := #[{ on := 3, ground := Go.Ground.guard }], guard := some (3, true) }) (v := _) rfl (by kernel_rfl) (by kernel_rfl) (by kernel_rfl) (fun _ _ _ h => h) (by kernel_rfl) (Or.inl ⟨by rfl, ?hy35⟩) BY1 ?rest35
          case hy35 => (intro W hSw; obtain ⟨z0, z1, z2, z3, z4, z5, z6, z7, z8⟩ := LR.out W hSw; go_simp; try (with_reducible rfl))
          try simp only [Act.put, List.setIfInBounds_toArray, List.set_cons_zero, List.set_cons_succ]
          refine' wpAnyD_take (i := 8) (oi := { dst := some 36, op := Go.Op.load 25 (Go.Operand.tmp 5), type := 25, pos := "outright.go:22", after := #[{ on := 3, ground := Go.Ground.guard }], guard := some (3, true) }) (v := _) rfl (by kernel_rfl) (by kernel_rfl) (by kernel_rfl) (fun _ _ _ h => h) (by kernel_rfl) (Or.inl ⟨by rfl, ?hy36⟩) BY1 ?rest36
          case hy36 => (intro W hSw; obtain ⟨z0, z1, z2, z3, z4, z5, z6, z7, z8⟩ := LR.out W hSw; go_simp; try (with_reducible rfl))
          try simp only [Act.put, List.setIfInBounds_toArray, List.set_cons_zero, List.set_cons_succ]
          refine wpAnyD_one (i := 6) (o := { dst := some 34, op := Go.Op.call { callee := Go.Callee.value (Go.Operand.func 10), args := #[Go.Operand.tmp 32, Go.Operand.tmp 33], argTypes := #[22, 25] }, type := 4, pos := "outright.go:22", after := #[{ on := 4, ground := Go.Ground.data }, { on := 5, ground := Go.Ground.data }, { on := 3, ground := Go.Ground.chain }, { on := 3, ground := Go.Ground.guard }], guard := some (3, true) }) (by kernel_rfl) rfl (fun K hK => ?_)
          rw [if_pos (by kernel_rfl)]
          go_simp
          have hc := pass_any r _ (LB.out.below BY1)
          rw [HPA.out, HS1.out, ← HS2.out, Bool.true_and] at hc
          refine hc.mono ?_
          clear hc
          rintro e y2 ⟨rfl, g2⟩
          have BY2 : Below W0.heap.size W0 y2 := BY1.trans (g2.mono BY1.size)
          have BU2 : Below w4.heap.size w4 y2 := BU1.trans (g2.mono BU1.size)
          clear g2
          go_wp2_with fail
          refine hK.out _ _ (fun hD => BY2) ?_
          clear hK K
          try simp only [Act.put, List.setIfInBounds_toArray, List.set_cons_zero, List.set_cons_succ]
          refine wpAnyD_one (i := 9) (o := { dst := some 37, op := Go.Op.call { callee := Go.Callee.value (Go.Operand.func 10), args := #[Go.Operand.tmp 35, Go.Operand.tmp 36], argTypes := #[22, 25] }, type := 4, pos := "outright.go:22", after := #[{ on := 7, ground := Go.Ground.data }, { on := 8, ground := Go.Ground.data }, { on := 6, ground := Go.Ground.chain }, { on := 3, ground := Go.Ground.guard }], guard := some (3, true) }) (by kernel_rfl) rfl (fun K hK => ?_)
          rw [if_pos (by kernel_rfl)]
          go_simp
          have hc := pass_any r _ (LL.out.below BY2)
          rw [HS1.out] at hc
          refine hc.mono ?_
          clear hc
          rintro e y3 ⟨rfl, g3⟩
          have BY3 : Below W0.heap.size W0 y3 := BY2.trans (g3.mono BY2.size)
          have BU3 : Below w4.heap.size w4 y3 := BU2.trans (g3.mono BU2.size)
          clear g3
          go_wp2_with fail
          refine hK.out _ _ (fun hD => BY3) ?_
          clear hK K
          try simp only [Act.put, List.setIfInBounds_toArray, List.set_cons_zero, List.set_cons_succ]
          refine' wpAnyD_take (i := 10) (oi := { dst := some 38, op := Go.Op.move (Go.Operand.tmp 37), type := 4, pos := "outright.go:22", after := #[{ on := 9, ground := Go.Ground.data }, { on := 9, ground := Go.Ground.chain }, { on := 3, ground := Go.Ground.guard }], guard := some (3, true) }) (v := _) rfl (by kernel_rfl) (by kernel_rfl) (by kernel_rfl) (fun _ _ _ h => h) (by kernel_rfl) (Or.inl ⟨by rfl, ?hy39⟩) BY3 ?rest39
          case hy39 => (intro W hSw; obtain ⟨z0, z1, z2, z3, z4, z5, z6, z7, z8⟩ := LR.out W hSw; go_simp; try (with_reducible rfl))
          try simp only [Act.put, List.setIfInBounds_toArray, List.set_cons_zero, List.set_cons_succ]
          refine' wpAnyD_take (i := 11) (oi := { dst := some 39, op := Go.Op.load 22 (Go.Operand.tmp 4), type := 22, pos := "outright.go:22", after := #[{ on := 10, ground := Go.Ground.guard }], guard := some (10, true) }) (v := _) rfl (by kernel_rfl) (by kernel_rfl) (by kernel_rfl) (fun _ _ _ h => h) (by kernel_rfl) (Or.inl ⟨by rfl, ?hy40⟩) BY3 ?rest40
          case hy40 => (intro W hSw; obtain ⟨z0, z1, z2, z3, z4, z5, z6, z7, z8⟩ := LR.out W hSw; go_simp; try (with_reducible rfl))
          try simp only [Act.put, List.setIfInBounds_toArray, List.set_cons_zero, List.set_cons_succ]
          refine' wpAnyD_take (i := 12) (oi := { dst := some 40, op := Go.Op.load 25 (Go.Operand.tmp 5), type := 25, pos := "outright.go:22", after := #[{ on := 10, ground := Go.Ground.guard }], guard := some (10, true) }) (v := _) rfl (by kernel_rfl) (by kernel_rfl) (by kernel_rfl) (fun _ _ _ h => h) (by kernel_rfl) (Or.inl ⟨by rfl, ?hy41⟩) BY3 ?rest41
          case hy41 => (intro W hSw; obtain ⟨z0, z1, z2, z3, z4, z5, z6, z7, z8⟩ := LR.out W hSw; go_simp; try (with_reducible rfl))
          try simp only [Act.put, List.setIfInBounds_toArray, List.set_cons_zero, List.set_cons_succ]
          refine wpAnyD_one (i := 13) (o := { dst := some 41, op := Go.Op.call { callee := Go.Callee.value (Go.Operand.func 10), args := #[Go.Operand.tmp 39, Go.Operand.tmp 40], argTypes := #[22, 25] }, type := 4, pos := "outright.go:22", after := #[{ on := 11, ground := Go.Ground.data }, { on := 12, ground := Go.Ground.data }, { on := 10, ground := Go.Ground.chain }, { on := 10, ground := Go.Ground.guard }], guard := some (10, true) }) (by kernel_rfl) rfl (fun K hK => ?_)
          rw [if_pos (by kernel_rfl)]
          go_simp
          have hc := pass_any r _ (LM.out.below BY3)
          rw [← HS2.out] at hc
          refine hc.mono ?_
          clear hc
          rintro e y4 ⟨rfl, g4⟩
          have BY4 : Below W0.heap.size W0 y4 := BY3.trans (g4.mono BY3.size)
          have BU4 : Below w4.heap.size w4 y4 := BU3.trans (g4.mono BU3.size)
          clear g4
          go_wp2_with fail
          refine hK.out _ _ (fun hD => BY4) ?_
          clear hK K
          try simp only [Act.put, List.setIfInBounds_toArray, List.set_cons_zero, List.set_cons_succ]
          refine wpAnyD_one (i := 14) (o := { dst := some 42, op := Go.Op.pick (Go.Operand.tmp 38) (Go.Operand.tmp 41) (Go.Operand.const (Go.Value.bool false)), type := 4, pos := "outright.go:22", after := #[{ on := 10, ground := Go.Ground.data }, { on := 13, ground := Go.Ground.data }, { on := 3, ground := Go.Ground.guard }], guard := some (3, true) }) (by kernel_rfl) rfl (fun K hK => ?_)
          rw [if_pos (by kernel_rfl)]
          go_simp
          refine hK.out _ _ (fun hD => BY4) ?_
          clear hK K
          try simp only [Act.put, List.setIfInBounds_toArray, List.set_cons_zero, List.set_cons_succ]
          refine wpAnyD_one (i := 15) (o := { dst := some 43, op := Go.Op.binOp Go.BinOp.neq 4 (Go.Operand.tmp 34) (Go.Operand.tmp 42) 4, type := 4, pos := "outright.go:22", after := #[{ on := 6, ground := Go.Ground.data }, { on := 14, ground := Go.Ground.data }, { on := 3, ground := Go.Ground.guard }], guard := some (3, true) }) (by kernel_rfl) rfl (fun K hK => ?_)
          rw [if_pos (by kernel_rfl)]
          go_simp
          refine hK.out _ _ (fun hD => BY4) ?_
          clear hK K
          try simp only [Act.put, List.setIfInBounds_toArray, List.set_cons_zero, List.set_cons_succ]
          refine wpAnyD_one (i := 16) (o := { dst := some 44, op := Go.Op.pick (Go.Operand.tmp 31) (Go.Operand.tmp 43) (Go.Operand.const (Go.Value.bool false)), type := 4, pos := "outright.go:22", after := #[{ on := 3, ground := Go.Ground.data }, { on := 15, ground := Go.Ground.data }], guard := none }) (by kernel_rfl) rfl (fun K hK => ?_)
          go_simp
          refine hK.out _ _ (fun hD => BY4) ?_
          clear hK K
          try simp only [Act.put, List.setIfInBounds_toArray, List.set_cons_zero, List.set_cons_succ]
          refine wpAnyD_done (by kernel_rfl) ?_ _
          go_wp2_with fail
          go_meet
          exact ⟨rfl, BU4⟩
        | false =>
          have HS1 := hid hs1
          clear hs1
          refine wp_regionD (S := (fun W : World => Below W0.heap.size W0 W)) (D := []) hmx ?_
          refine' wpAnyD_take (i := 0) (oi := { dst := some 28, op := Go.Op.load 22 (Go.Operand.tmp 7), type := 22, pos := "outright.go:22", after := #[], guard := none }) (v := _) rfl (by kernel_rfl) (by kernel_rfl) (by kernel_rfl) (fun _ _ _ h => h) (by kernel_rfl) (Or.inl ⟨by rfl, ?hy46⟩) BD ?rest46
          case hy46 => (intro W hSw; obtain ⟨z0, z1, z2, z3, z4, z5, z6, z7, z8⟩ := LR.out W hSw; go_simp; try (with_reducible rfl))
          try simp only [Act.put, List.setIfInBounds_toArray, List.set_cons_zero, List.set_cons_succ]
          refine wpAnyD_one (i := 1) (o := { dst := some 29, op := Go.Op.call { callee := Go.Callee.value (Go.Operand.func 8), args := #[Go.Operand.const (Go.Value.int Go.IntKind.i64 3), Go.Operand.tmp 28], argTypes := #[3, 22] }, type := 28, pos := "outright.go:22", after := #[{ on := 0, ground := Go.Ground.data }], guard := none }) (by kernel_rfl) rfl (fun K hK => ?_)
          go_simp
          have hc := HC.out 3 _ BD
          rw [← HQ3.out] at hc
          refine hc.mono ?_
          clear hc
          rintro e y1 ⟨rfl, g1⟩
          have BY1 : Below W0.heap.size W0 y1 := BD.trans (g1.mono BD.size)
          have BU1 : Below w4.heap.size w4 y1 := BG.trans (g1.mono BG.size)
          clear g1
          go_wp2_with fail
          refine hK.out _ _ (fun hD => BY1) ?_
          clear hK K
          try simp only [Act.put, List.setIfInBounds_toArray, List.set_cons_zero, List.set_cons_succ]
          refine' wpAnyD_take (i := 2) (oi := { dst := some 30, op := Go.Op.binOp Go.BinOp.eql 28 (Go.Operand.tmp 29) (Go.Operand.const (Go.Value.int Go.IntKind.i64 0)) 28, type := 4, pos := "outright.go:22", after := #[{ on := 1, ground := Go.Ground.data }], guard := none }) (v := .bool true) rfl (by kernel_rfl) (by kernel_rfl) (by kernel_rfl) (fun _ _ _ h => h) (by kernel_rfl) (Or.inl ⟨by rfl, ?hy48⟩) BY1 ?rest48
          case hy48 => (intro W hSw; obtain ⟨z0, z1, z2, z3, z4, z5, z6, z7, z8⟩ := LR.out W hSw; go_simp; try (with_reducible rfl))
          try simp only [Act.put, List.setIfInBounds_toArray, List.set_cons_zero, List.set_cons_succ]
          refine' wpAnyD_take (i := 3) (oi := { dst := some 31, op := Go.Op.move (Go.Operand.tmp 30), type := 4, pos := "outright.go:22", after := #[{ on := 2, ground := Go.Ground.data }, { on := 1, ground := Go.Ground.chain }], guard := none }) (v := _) rfl (by kernel_rfl) (by kernel_rfl) (by kernel_rfl) (fun _ _ _ h => h) (by kernel_rfl) (Or.inl ⟨by rfl, ?hy49⟩) BY1 ?rest49
          case hy49 => (intro W hSw; obtain ⟨z0, z1, z2, z3, z4, z5, z6, z7, z8⟩ := LR.out W hSw; go_simp; try (with_reducible rfl))
          try simp only [Act.put, List.setIfInBounds_toArray, List.set_cons_zero, List.set_cons_succ]
          refine' wpAnyD_take (i := 4) (oi := { dst := some 32, op := Go.Op.load 22 (Go.Operand.tmp 7), type := 22, pos := "outright.go:22", after := #[{ on := 3, ground := Go.Ground.guard }], guard := some (3, true) }) (v := _) rfl (by kernel_rfl) (by kernel_rfl) (by kernel_rfl) (fun _ _ _ h => h) (by kernel_rfl) (Or.inl ⟨by rfl, ?hy50⟩) BY1 ?rest50
          case hy50 => (intro W hSw; obtain ⟨z0, z1, z2, z3, z4, z5, z6, z7, z8⟩ := LR.out W hSw; go_simp; try (with_reducible rfl))
          try simp only [Act.put, List.setIfInBounds_toArray, List.set_cons_zero, List.set_cons_succ]
          refine' wpAnyD_take (i := 5) (oi := { dst := some 33, op := Go.Op.load 25 (Go.Operand.tmp 5), type := 25, pos := "outright.go:22", after := #[{ on := 3, ground := Go.Ground.guard }], guard := some (3, true) }) (v := _) rfl (by kernel_rfl) (by kernel_rfl) (by kernel_rfl) (fun _ _ _ h => h) (by kernel_rfl) (Or.inl ⟨by rfl, ?hy51⟩) BY1 ?rest51
          case hy51 => (intro W hSw; obtain ⟨z0, z1, z2, z3, z4, z5, z6, z7, z8⟩ := LR.out W hSw; go_simp; try (with_reducible rfl))
          try simp only [Act.put, List.setIfInBounds_toArray, List.set_cons_zero, List.set_cons_succ]
          refine' wpAnyD_take (i := 7) (oi := { dst := some 35, op := Go.Op.load 22 (Go.Operand.tmp 3), type := 22, pos := "outright.go:22", after := #[{ on := 3, ground := Go.Ground.guard }], guard := some (3, true) }) (v := _) rfl (by kernel_rfl) (by kernel_rfl) (by kernel_rfl) (fun _ _ _ h => h) (by kernel_rfl) (Or.inl ⟨by rfl, ?hy52⟩) BY1 ?rest52
          case hy52 => (intro W hSw; obtain ⟨z0, z1, z2, z3, z4, z5, z6, z7, z8⟩ := LR.out W hSw; go_simp; try (with_reducible rfl))
          try simp only [Act.put, List.setIfInBounds_toArray, List.set_cons_zero, List.set_cons_succ]
          refine' wpAnyD_take (i := 8) (oi := { dst := some 36, op := Go.Op.load 25 (Go.Operand.tmp 5), type := 25, pos := "outright.go:22", after := #[{ on := 3, ground := Go.Ground.guard }], guard := some (3, true) }) (v := _) rfl (by kernel_rfl) (by kernel_rfl) (by kernel_rfl) (fun _ _ _ h => h) (by kernel_rfl) (Or.inl ⟨by rfl, ?hy53⟩) BY1 ?rest53
          case hy53 => (intro W hSw; obtain ⟨z0, z1, z2, z3, z4, z5, z6, z7, z8⟩ := LR.out W hSw; go_simp; try (with_reducible rfl))
          try simp only [Act.put, List.setIfInBounds_toArray, List.set_cons_zero, List.set_cons_succ]
          refine wpAnyD_one (i := 6) (o := { dst := some 34, op := Go.Op.call { callee := Go.Callee.value (Go.Operand.func 10), args := #[Go.Operand.tmp 32, Go.Operand.tmp 33], argTypes := #[22, 25] }, type := 4, pos := "outright.go:22", after := #[{ on := 4, ground := Go.Ground.data }, { on := 5, ground := Go.Ground.data }, { on := 3, ground := Go.Ground.chain }, { on := 3, ground := Go.Ground.guard }], guard := some (3, true) }) (by kernel_rfl) rfl (fun K hK => ?_)
          rw [if_pos (by kernel_rfl)]
          go_simp
          have hc := pass_any r _ (LB.out.below BY1)
          rw [HPA.out, HS1.out, ← HS2.out, Bool.false_and] at hc
          refine hc.mono ?_
          clear hc
          rintro e y2 ⟨rfl, g2⟩
          have BY2 : Below W0.heap.size W0 y2 := BY1.trans (g2.mono BY1.size)
          have BU2 : Below w4.heap.size w4 y2 := BU1.trans (g2.mono BU1.size)
          clear g2
          go_wp2_with fail
          refine hK.out _ _ (fun hD => BY2) ?_
          clear hK K
          try simp only [Act.put, List.setIfInBounds_toArray, List.set_cons_zero, List.set_cons_succ]
          refine wpAnyD_one (i := 9) (o := { dst := some 37, op := Go.Op.call { callee := Go.Callee.value (Go.Operand.func 10), args := #[Go.Operand.tmp 35, Go.Operand.tmp 36], argTypes := #[22, 25] }, type := 4, pos := "outright.go:22", after := #[{ on := 7, ground := Go.Ground.data }, { on := 8, ground := Go.Ground.data }, { on := 6, ground := Go.Ground.chain }, { on := 3, ground := Go.Ground.guard }], guard := some (3, true) }) (by kernel_rfl) rfl (fun K hK => ?_)
          rw [if_pos (by kernel_rfl)]
          go_simp
          have hc := pass_any r _ (LL.out.below BY2)
          rw [HS1.out] at hc
          refine hc.mono ?_
          clear hc
          rintro e y3 ⟨rfl, g3⟩
          have BY3 : Below W0.heap.size W0 y3 := BY2.trans (g3.mono BY2.size)
          have BU3 : Below w4.heap.size w4 y3 := BU2.trans (g3.mono BU2.size)
          clear g3
          go_wp2_with fail
          refine hK.out _ _ (fun hD => BY3) ?_
          clear hK K
          try simp only [Act.put, List.setIfInBounds_toArray, List.set_cons_zero, List.set_cons_succ]
          refine' wpAnyD_take (i := 10) (oi := { dst := some 38, op := Go.Op.move (Go.Operand.tmp 37), type := 4, pos := "outright.go:22", after := #[{ on := 9, ground := Go.Ground.data }, { on := 9, ground := Go.Ground.chain }, { on := 3, ground := Go.Ground.guard }], guard := some (3, true) }) (v := _) rfl (by kernel_rfl) (by kernel_rfl) (by kernel_rfl) (fun _ _ _ h => h) (by kernel_rfl) (Or.inl ⟨by rfl, ?hy56⟩) BY3 ?rest56
          case hy56 => (intro W hSw; obtain ⟨z0, z1, z2, z3, z4, z5, z6, z7, z8⟩ := LR.out W hSw; go_simp; try (with_reducible rfl))
          try simp only [Act.put, List.setIfInBounds_toArray, List.set_cons_zero, List.set_cons_succ]
          refine' wpAnyD_take (i := 11) (oi := { dst := some 39, op := Go.Op.load 22 (Go.Operand.tmp 4), type := 22, pos := "outright.go:22", after := #[{ on := 10, ground := Go.Ground.guard }], guard := some (10, true) }) (v := undef) rfl (by kernel_rfl) (by kernel_rfl) (by kernel_rfl) (fun _ _ _ h => h) (by kernel_rfl) (Or.inr ⟨by rfl, rfl⟩) BY3 ?rest57
          try simp only [Act.put, List.setIfInBounds_toArray, List.set_cons_zero, List.set_cons_succ]
          refine' wpAnyD_take (i := 12) (oi := { dst := some 40, op := Go.Op.load 25 (Go.Operand.tmp 5), type := 25, pos := "outright.go:22", after := #[{ on := 10, ground := Go.Ground.guard }], guard := some (10, true) }) (v := undef) rfl (by kernel_rfl) (by kernel_rfl) (by kernel_rfl) (fun _ _ _ h => h) (by kernel_rfl) (Or.inr ⟨by rfl, rfl⟩) BY3 ?rest58
          try simp only [Act.put, List.setIfInBounds_toArray, List.set_cons_zero, List.set_cons_succ]
          refine wpAnyD_one (i := 13) (o := { dst := some 41, op := Go.Op.call { callee := Go.Callee.value (Go.Operand.func 10), args := #[Go.Operand.tmp 39, Go.Operand.tmp 40], argTypes := #[22, 25] }, type := 4, pos := "outright.go:22", after := #[{ on := 11, ground := Go.Ground.data }, { on := 12, ground := Go.Ground.data }, { on := 10, ground := Go.Ground.chain }, { on := 10, ground := Go.Ground.guard }], guard := some (10, true) }) (by kernel_rfl) rfl (fun K hK => ?_)
          rw [if_neg (Bool.eq_false_iff.1 (by kernel_rfl))]
          refine hK.out _ _ (fun hD => BY3) ?_
          clear hK K
          try simp only [Act.put, List.setIfInBounds_toArray, List.set_cons_zero, List.set_cons_succ]
          refine wpAnyD_one (i := 14) (o := { dst := some 42, op := Go.Op.pick (Go.Operand.tmp 38) (Go.Operand.tmp 41) (Go.Operand.const (Go.Value.bool false)), type := 4, pos := "outright.go:22", after := #[{ on := 10, ground := Go.Ground.data }, { on := 13, ground := Go.Ground.data }, { on := 3, ground := Go.Ground.guard }], guard := some (3, true) }) (by kernel_rfl) rfl (fun K hK => ?_)
          rw [if_pos (by kernel_rfl)]
          go_simp
          refine hK.out _ _ (fun hD => BY3) ?_
          clear hK K
          try simp only [Act.put, List.setIfInBounds_toArray, List.set_cons_zero, List.set_cons_succ]
          refine wpAnyD_one (i := 15) (o := { dst := some 43, op := Go.Op.binOp Go.BinOp.neq 4 (Go.Operand.tmp 34) (Go.Operand.tmp 42) 4, type := 4, pos := "outright.go:22", after := #[{ on := 6, ground := Go.Ground.data }, { on := 14, ground := Go.Ground.data }, { on := 3, ground := Go.Ground.guard }], guard := some (3, true) }) (by kernel_rfl) rfl (fun K hK => ?_)
          rw [if_pos (by kernel_rfl)]
          go_simp
          refine hK.out _ _ (fun hD => BY3) ?_
          clear hK K
          try simp only [Act.put, List.setIfInBounds_toArray, List.set_cons_zero, List.set_cons_succ]
          refine wpAnyD_one (i := 16) (o := { dst := some 44, op := Go.Op.pick (Go.Operand.tmp 31) (Go.Operand.tmp 43) (Go.Operand.const (Go.Value.bool false)), type := 4, pos := "outright.go:22", after := #[{ on := 3, ground := Go.Ground.data }, { on := 15, ground := Go.Ground.data }], guard := none }) (by kernel_rfl) rfl (fun K hK => ?_)
          go_simp
          refine hK.out _ _ (fun hD => BY3) ?_
          clear hK K
          try simp only [Act.put, List.setIfInBounds_toArray, List.set_cons_zero, List.set_cons_succ]
          refine wpAnyD_done (by kernel_rfl) ?_ _
          go_wp2_with fail
          go_meet
          exact ⟨rfl, BU3⟩
      · have f3 : (q3 == 0) = false := by simpa using e3
        clear e3
        refine wp_regionD (S := (fun W : World => Below W0.heap.size W0 W)) (D := []) hmx ?_
        refine' wpAnyD_take (i := 0) (oi := { dst := some 28, op := Go.Op.load 22 (Go.Operand.tmp 7), type := 22, pos := "outright.go:22", after := #[], guard := none }) (v := _) rfl (by kernel_rfl) (by kernel_rfl) (by kernel_rfl) (fun _ _ _ h => h) (by kernel_rfl) (Or.inl ⟨by rfl, ?hy63⟩) BD ?rest63
        case hy63 => (intro W hSw; obtain ⟨z0, z1, z2, z3, z4, z5, z6, z7, z8⟩ := LR.out W hSw; go_simp; try (with_reducible rfl))
        try simp only [Act.put, List.setIfInBounds_toArray, List.set_cons_zero, List.set_cons_succ]
        refine wpAnyD_one (i := 1) (o := { dst := some 29, op := Go.Op.call { callee := Go.Callee.value (Go.Operand.func 8), args := #[Go.Operand.const (Go.Value.int Go.IntKind.i64 3), Go.Operand.tmp 28], argTypes := #[3, 22] }, type := 28, pos := "outright.go:22", after := #[{ on := 0, ground := Go.Ground.data }], guard := none }) (by kernel_rfl) rfl (fun K hK => ?_)
        go_simp
        have hc := HC.out 3 _ BD
        rw [← HQ3.out] at hc
        refine hc.mono ?_
        clear hc
        rintro e y1 ⟨rfl, g1⟩
        have BY1 : Below W0.heap.size W0 y1 := BD.trans (g1.mono BD.size)
        have BU1 : Below w4.heap.size w4 y1 := BG.trans (g1.mono BG.size)
        clear g1
        go_wp2_with fail
        refine hK.out _ _ (fun hD => BY1) ?_
        clear hK K
        try simp only [Act.put, List.setIfInBounds_toArray, List.set_cons_zero, List.set_cons_succ]
        refine' wpAnyD_take (i := 2) (oi := { dst := some 30, op := Go.Op.binOp Go.BinOp.eql 28 (Go.Operand.tmp 29) (Go.Operand.const (Go.Value.int Go.IntKind.i64 0)) 28, type := 4, pos := "outright.go:22", after := #[{ on := 1, ground := Go.Ground.data }], guard := none }) (v := .bool false) rfl (by kernel_rfl) (by kernel_rfl) (by kernel_rfl) (fun _ _ _ h => h) (by kernel_rfl) (Or.inl ⟨by rfl, ?hy65⟩) BY1 ?rest65
        case hy65 => (intro W hSw; obtain ⟨z0, z1, z2, z3, z4, z5, z6, z7, z8⟩ := LR.out W hSw; go_simp; try (with_reducible rfl))
        try simp only [Act.put, List.setIfInBounds_toArray, List.set_cons_zero, List.set_cons_succ]
        refine' wpAnyD_take (i := 3) (oi := { dst := some 31, op := Go.Op.move (Go.Operand.tmp 30), type := 4, pos := "outright.go:22", after := #[{ on := 2, ground := Go.Ground.data }, { on := 1, ground := Go.Ground.chain }], guard := none }) (v := _) rfl (by kernel_rfl) (by kernel_rfl) (by kernel_rfl) (fun _ _ _ h => h) (by kernel_rfl) (Or.inl ⟨by rfl, ?hy66⟩) BY1 ?rest66
        case hy66 => (intro W hSw; obtain ⟨z0, z1, z2, z3, z4, z5, z6, z7, z8⟩ := LR.out W hSw; go_simp; try (with_reducible rfl))
        try simp only [Act.put, List.setIfInBounds_toArray, List.set_cons_zero, List.set_cons_succ]
        refine' wpAnyD_take (i := 4) (oi := { dst := some 32, op := Go.Op.load 22 (Go.Operand.tmp 7), type := 22, pos := "outright.go:22", after := #[{ on := 3, ground := Go.Ground.guard }], guard := some (3, true) }) (v := undef) rfl (by kernel_rfl) (by kernel_rfl) (by kernel_rfl) (fun _ _ _ h => h) (by kernel_rfl) (Or.inr ⟨by rfl, rfl⟩) BY1 ?rest67
        try simp only [Act.put, List.setIfInBounds_toArray, List.set_cons_zero, List.set_cons_succ]
        refine' wpAnyD_take (i := 5) (oi := { dst := some 33, op := Go.Op.load 25 (Go.Operand.tmp 5), type := 25, pos := "outright.go:22", after := #[{ on := 3, ground := Go.Ground.guard }], guard := some (3, true) }) (v := undef) rfl (by kernel_rfl) (by kernel_rfl) (by kernel_rfl) (fun _ _ _ h => h) (by kernel_rfl) (Or.inr ⟨by rfl, rfl⟩) BY1 ?rest68
        try simp only [Act.put, List.setIfInBounds_toArray, List.set_cons_zero, List.set_cons_succ]
        refine' wpAnyD_take (i := 7) (oi := { dst := some 35, op := Go.Op.load 22 (Go.Operand.tmp 3), type := 22, pos := "outright.go:22", after := #[{ on := 3, ground := Go.Ground.guard }], guard := some (3, true) }) (v := undef) rfl (by kernel_rfl) (by kernel_rfl) (by kernel_rfl) (fun _ _ _ h => h) (by kernel_rfl) (Or.inr ⟨by rfl, rfl⟩) BY1 ?rest69
        try simp only [Act.put, List.setIfInBounds_toArray, List.set_cons_zero, List.set_cons_succ]
        refine' wpAnyD_take (i := 8) (oi := { dst := some 36, op := Go.Op.load 25 (Go.Operand.tmp 5), type := 25, pos := "outright.go:22", after := #[{ on := 3, ground := Go.Ground.guard }], guard := some (3, true) }) (v := undef) rfl (by kernel_rfl) (by kernel_rfl) (by kernel_rfl) (fun _ _ _ h => h) (by kernel_rfl) (Or.inr ⟨by rfl, rfl⟩) BY1 ?rest70
        try simp only [Act.put, List.setIfInBounds_toArray, List.set_cons_zero, List.set_cons_succ]
        refine wpAnyD_one (i := 6) (o := { dst := some 34, op := Go.Op.call { callee := Go.Callee.value (Go.Operand.func 10), args := #[Go.Operand.tmp 32, Go.Operand.tmp 33], argTypes := #[22, 25] }, type := 4, pos := "outright.go:22", after := #[{ on := 4, ground := Go.Ground.data }, { on := 5, ground := Go.Ground.data }, { on := 3, ground := Go.Ground.chain }, { on := 3, ground := Go.Ground.guard }], guard := some (3, true) }) (by kernel_rfl) rfl (fun K hK => ?_)
        rw [if_neg (Bool.eq_false_iff.1 (by kernel_rfl))]
        refine hK.out _ _ (fun hD => BY1) ?_
        clear hK K
        try simp only [Act.put, List.setIfInBounds_toArray, List.set_cons_zero, List.set_cons_succ]
        refine wpAnyD_one (i := 9) (o := { dst := some 37, op := Go.Op.call { callee := Go.Callee.value (Go.Operand.func 10), args := #[Go.Operand.tmp 35, Go.Operand.tmp 36], argTypes := #[22, 25] }, type := 4, pos := "outright.go:22", after := #[{ on := 7, ground := Go.Ground.data }, { on := 8, ground := Go.Ground.data }, { on := 6, ground := Go.Ground.chain }, { on := 3, ground := Go.Ground.guard }], guard := some (3, true) }) (by kernel_rfl) rfl (fun K hK => ?_)
        rw [if_neg (Bool.eq_false_iff.1 (by kernel_rfl))]
        refine hK.out _ _ (fun hD => BY1) ?_
        clear hK K
        try simp only [Act.put, List.setIfInBounds_toArray, List.set_cons_zero, List.set_cons_succ]
        refine' wpAnyD_take (i := 10) (oi := { dst := some 38, op := Go.Op.move (Go.Operand.tmp 37), type := 4, pos := "outright.go:22", after := #[{ on := 9, ground := Go.Ground.data }, { on := 9, ground := Go.Ground.chain }, { on := 3, ground := Go.Ground.guard }], guard := some (3, true) }) (v := undef) rfl (by kernel_rfl) (by kernel_rfl) (by kernel_rfl) (fun _ _ _ h => h) (by kernel_rfl) (Or.inr ⟨by rfl, rfl⟩) BY1 ?rest73
        try simp only [Act.put, List.setIfInBounds_toArray, List.set_cons_zero, List.set_cons_succ]
        refine' wpAnyD_take (i := 11) (oi := { dst := some 39, op := Go.Op.load 22 (Go.Operand.tmp 4), type := 22, pos := "outright.go:22", after := #[{ on := 10, ground := Go.Ground.guard }], guard := some (10, true) }) (v := undef) rfl (by kernel_rfl) (by kernel_rfl) (by kernel_rfl) (fun _ _ _ h => h) (by kernel_rfl) (Or.inr ⟨by rfl, rfl⟩) BY1 ?rest74
        try simp only [Act.put, List.setIfInBounds_toArray, List.set_cons_zero, List.set_cons_succ]
        refine' wpAnyD_take (i := 12) (oi := { dst := some 40, op := Go.Op.load 25 (Go.Operand.tmp 5), type := 25, pos := "outright.go:22", after := #[{ on := 10, ground := Go.Ground.guard }], guard := some (10, true) }) (v := undef) rfl (by kernel_rfl) (by kernel_rfl) (by kernel_rfl) (fun _ _ _ h => h) (by kernel_rfl) (Or.inr ⟨by rfl, rfl⟩) BY1 ?rest75
        try simp only [Act.put, List.setIfInBounds_toArray, List.set_cons_zero, List.set_cons_succ]
        refine wpAnyD_one (i := 13) (o := { dst := some 41, op := Go.Op.call { callee := Go.Callee.value (Go.Operand.func 10), args := #[Go.Operand.tmp 39, Go.Operand.tmp 40], argTypes := #[22, 25] }, type := 4, pos := "outright.go:22", after := #[{ on := 11, ground := Go.Ground.data }, { on := 12, ground := Go.Ground.data }, { on := 10, ground := Go.Ground.chain }, { on := 10, ground := Go.Ground.guard }], guard := some (10, true) }) (by kernel_rfl) rfl (fun K hK => ?_)
        rw [if_neg (Bool.eq_false_iff.1 (by kernel_rfl))]
        refine hK.out _ _ (fun hD => BY1) ?_
        clear hK K
        try simp only [Act.put, List.setIfInBounds_toArray, List.set_cons_zero, List.set_cons_succ]
        refine' wpAnyD_take (i := 14) (oi := { dst := some 42, op := Go.Op.pick (Go.Operand.tmp 38) (Go.Operand.tmp 41) (Go.Operand.const (Go.Value.bool false)), type := 4, pos := "outright.go:22", after := #[{ on := 10, ground := Go.Ground.data }, { on := 13, ground := Go.Ground.data }, { on := 3, ground := Go.Ground.guard }], guard := some (3, true) }) (v := undef) rfl (by kernel_rfl) (by kernel_rfl) (by kernel_rfl) (fun _ _ _ h => h) (by kernel_rfl) (Or.inr ⟨by rfl, rfl⟩) BY1 ?rest77
        try simp only [Act.put, List.setIfInBounds_toArray, List.set_cons_zero, List.set_cons_succ]
        refine' wpAnyD_take (i := 15) (oi := { dst := some 43, op := Go.Op.binOp Go.BinOp.neq 4 (Go.Operand.tmp 34) (Go.Operand.tmp 42) 4, type := 4, pos := "outright.go:22", after := #[{ on := 6, ground := Go.Ground.data }, { on := 14, ground := Go.Ground.data }, { on := 3, ground := Go.Ground.guard }], guard := some (3, true) }) (v := undef) rfl (by kernel_rfl) (by kernel_rfl) (by kernel_rfl) (fun _ _ _ h => h) (by kernel_rfl) (Or.inr ⟨by rfl, rfl⟩) BY1 ?rest78
        try simp only [Act.put, List.setIfInBounds_toArray, List.set_cons_zero, List.set_cons_succ]
        refine wpAnyD_one (i := 16) (o := { dst := some 44, op := Go.Op.pick (Go.Operand.tmp 31) (Go.Operand.tmp 43) (Go.Operand.const (Go.Value.bool false)), type := 4, pos := "outright.go:22", after := #[{ on := 3, ground := Go.Ground.data }, { on := 15, ground := Go.Ground.data }], guard := none }) (by kernel_rfl) rfl (fun K hK => ?_)
        go_simp
        refine hK.out _ _ (fun hD => BY1) ?_
        clear hK K
        try simp only [Act.put, List.setIfInBounds_toArray, List.set_cons_zero, List.set_cons_succ]
        refine wpAnyD_done (by kernel_rfl) ?_ _
        go_wp2_with fail
        go_meet
        exact ⟨rfl, BU1⟩
    case rest =>
      obtain ⟨rfl, HZ⟩ := hcut
      have B6 : Below W0.heap.size W0 wc := B5.trans (HZ.out.mono B5.size)
      clear HZ B5
      obtain ⟨z0, z1, z2, z3, z4, z5, z6, z7, z8⟩ := LR.out wc B6
      have d2 : (q2 == 0) = decide (chk 2 (l ++ m) = 0) := by rw [← HQ2.out]; rfl
      have d3 : (q3 == 0) = decide (chk 3 (l ++ m) = 0) := by rw [← HQ3.out]; rfl
      obtain ⟨t2, ht2⟩ : ∃ t, t = decide (chk 2 (l ++ m) = 0) := ⟨_, rfl⟩
      obtain ⟨t3, ht3⟩ : ∃ t, t = decide (chk 3 (l ++ m) = 0) := ⟨_, rfl⟩
      rw [← ht2] at d2
      rw [← ht3] at d3
      have HT2 := hid ht2
      have HT3 := hid ht3
      clear ht2 ht3
      go_wp2_with fail
      have hc := HC.out 2 _ B6
      rw [← HQ2.out] at hc
      refine hc.mono ?_
      clear hc
      rintro e w5 ⟨rfl, g5⟩
      have B7 : Below W0.heap.size W0 w5 := B6.trans (g5.mono B6.size)
      clear g5
      go_wp2_with fail
      have hc := HMJ.out 2 _ B7
      rw [← HT2.out] at hc
      refine hc.mono ?_
      clear hc
      rintro e w6 ⟨rfl, g6⟩
      have B8 : Below W0.heap.size W0 w6 := B7.trans (g6.mono B7.size)
      clear g6 z0 z1 z2 z3 z4 z5 z6 z7 z8
      obtain ⟨z0, z1, z2, z3, z4, z5, z6, z7, z8⟩ := LR.out w6 B8
      go_wp2_with fail
      have hc := HC.out 3 _ B8
      rw [← HQ3.out] at hc
      refine hc.mono ?_
      clear hc
      rintro e w7 ⟨rfl, g7⟩
      have B9 : Below W0.heap.size W0 w7 := B8.trans (g7.mono B8.size)
      clear g7
      go_wp2_with fail
      have hc := HMJ.out 3 _ B9
      rw [← HT3.out] at hc
      refine hc.mono ?_
      clear hc
      rintro e w8 ⟨rfl, g8⟩
      have B10 : Below W0.heap.size W0 w8 := B9.trans (g8.mono B9.size)
      clear g8
      go_wp2_with fail
      go_ret
      exact ⟨by simp, HBW.out.trans (B10.mono HBW.out.size)⟩
end Go.Proofs.Ythekfbillnpkkaa.Cd
