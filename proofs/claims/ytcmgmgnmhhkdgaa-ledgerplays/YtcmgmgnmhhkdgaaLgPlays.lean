import Derived.Test.YtcmgmgnmhhkdgaaLgPy
import Derived.Test.YtcmgmgnmhhkdgaaLgAlk
import Derived.Deep.CutBlock
namespace Go.Proofs.Ytcmgmgnmhhkdgaa
open Go.RowKit Go.Sort Go.Maps Go.Shelf
open Tt (addc addf)
attribute [local go_sem ↓] Go.wp_at_zero Go.wp_at_succ
theorem few {S n m : Nat} (h : n ≤ S ∧ m ≤ S) (hS : S ≤ 401) : m ≤ 1000 ∧ n ≤ 1000 := by omega
theorem maxl {S n m : Nat} (h : n ≤ S ∧ m ≤ S) (hS : S ≤ 401) : n < maxLen ∧ m ≤ 90000 ∧ m ≤ 2147483000 ∧ m ≤ 100000 ∧ (n + 1 ≤ S + 1 ∧ m + 1 ≤ S + 1) := by unfold maxLen; omega
theorem wrI {q : Nat} (h : q < 2) : IntKind.i64.wrap (q : Int) = (q : Int) ∧ wrap64 (q : Int) = (q : Int) := by rw [IntKind.wrap_i64]; unfold wrap64; omega
theorem ix_ok {x : Int} : (x.tmod 2 = 0 → ix x = 0) ∧ (x.tmod 2 = 1 → ix x = 1) ∧ (x.tmod 2 = -1 → ix x = 1) := by
  unfold ix
  refine ⟨fun h => by rw [if_pos h], fun h => by rw [if_neg (by omega)], fun h => by rw [if_neg (by omega)]⟩
set_option maxHeartbeats 16000000 in
set_option maxRecDepth 100000 in
theorem ledgerPlays_any (vs : Value) (sc : List Opx) (w : World) (hs : Ls EO w vs sc) :
    Calls Try.prog 5 #[vs] w fun e w' => e = .returned (.bool true) ∧ Below w.heap.size w w' := by
  have hmx : Try.prog.follows .mixedOrders = true := by kernel_rfl
  obtain ⟨ps0, cs0, rfl⟩ := hs.form
  have HS := hid hs
  have hnw := new_any w
  clear hs
  go_enter Try.func5, Try.ntmps5
  go_wp2_with fail
  refine hnw.mono ?_
  rintro e w1 ⟨l0, t0, b0, rfl, ho0, hg0, hb1⟩
  have hnw1 := new_any w1
  clear hnw
  go_wp2_with fail
  refine hnw1.mono ?_
  rintro e w2 ⟨l1, t1, b1, rfl, ho1, hg1, hb2⟩
  clear hnw1
  obtain ⟨A, hA⟩ : ∃ A, A = w2.heap.size := ⟨_, rfl⟩
  obtain ⟨W, hW⟩ : ∃ W, W = (((w2.alloc (.cells #[lp l0, lp l1] 24)).alloc (.cells #[.slice none 0 0] 53)).alloc (.cells #[.slice none 0 0] 53)).alloc (.cells #[rp (A + 1), rp (A + 2)] 51) := ⟨_, rfl⟩
  have P0 := hid (St.init ho0 hg0 hb1 ho1 hg1 hb2 hA hW)
  clear ho0 hg0 hb1 ho1 hg1 hb2
  have hkn := known_any W
  go_wp2_with fail
  rw [← hA, ← hW]
  clear hA hW
  refine hkn.mono ?_
  rintro e w4 ⟨rfl, hb4⟩
  obtain ⟨B, hB⟩ : ∃ B, B = A + 3 := ⟨_, rfl⟩
  rw [← hB] at P0 ⊢
  have ST : Hid (∃ ps ow, St w A B ps 0 ow w4) := by
    obtain ⟨ow, h⟩ := P0.out
    exact ⟨_, ow, h.below hb4⟩
  clear hkn hb4 P0 hB
  go_upto_block 0 with fail
  go_cut [8] (fun _ w' => ∃ (ps : Nat → Pp) (S : Nat) (ow : Nat → Nat), S ≤ 401 ∧ Hid (St w A B ps S ow w'))
  case rest =>
    obtain ⟨ps, S, ow, hS, SE⟩ := hcut
    obtain ⟨WE, hWE⟩ : ∃ W, W = wc := ⟨_, rfl⟩
    rw [← hWE] at SE ⊢
    clear hWE ST HS
    have ca0 := SE.out.cellA (j := 0) (by decide)
    have ca1 := SE.out.cellA (j := 1) (by decide)
    have cb0 := SE.out.cellB (j := 0) (by decide)
    have cb1 := SE.out.cellB (j := 1) (by decide)
    have zA := SE.out.ltA
    have zB := SE.out.ltB
    have hS0 : Below WE.heap.size WE WE.drew := (Gr.refl WE).drew.below
    have hq0 : ∀ W', Below WE.heap.size WE W' → Calls Try.prog 21 #[lp (ps 0).lb, rp (ps 0).rb, .agg #[.int .i64 0, .int .u64 0, .int .u64 0, .int .u64 0]] W' fun e w' => e = .returned (.bool true) ∧ Below W'.heap.size W' w' := fun W' h => alike_any default W' ((SE.out.ok 0 (by decide)).below h).l ((SE.out.ok 0 (by decide)).below h).r (SE.out.ok 0 (by decide)).o (few (SE.out.nn 0 (by decide)) hS).1 (few (SE.out.nn 0 (by decide)) hS).2
    have hq1 : ∀ W', Below WE.heap.size WE W' → Calls Try.prog 21 #[lp (ps 1).lb, rp (ps 1).rb, .agg #[.int .i64 0, .int .u64 0, .int .u64 0, .int .u64 0]] W' fun e w' => e = .returned (.bool true) ∧ Below W'.heap.size W' w' := fun W' h => alike_any default W' ((SE.out.ok 1 (by decide)).below h).l ((SE.out.ok 1 (by decide)).below h).r (SE.out.ok 1 (by decide)).o (few (SE.out.nn 1 (by decide)) hS).1 (few (SE.out.nn 1 (by decide)) hS).2
    go_upto_region 25 with fail
    refine wp_regionD (S := fun W => Below WE.heap.size WE W) (D := []) hmx ?_
    refine' wpAnyD_take (i := 0) (oi := { dst := some 135, op := Go.Op.move (Go.Operand.tmp 3), type := 50, pos := "law.go:89", after := #[], guard := none }) (v := _) rfl (by kernel_rfl) (by kernel_rfl) (by kernel_rfl) (fun _ _ _ h => h) (by kernel_rfl) (Or.inl ⟨by rfl, ?hy1⟩) hS0 ?rest1
    case hy1 => (intro W hSw; go_simp; try (with_reducible rfl))
    try simp only [Act.put, List.setIfInBounds_toArray, List.set_cons_zero, List.set_cons_succ]
    refine' wpAnyD_take (i := 1) (oi := { dst := some 136, op := Go.Op.indexAddr 50 (Go.Operand.tmp 135) (Go.Operand.const (Go.Value.int Go.IntKind.i64 0)), type := 0, pos := "law.go:89", after := #[{ on := 0, ground := Go.Ground.data }], guard := none }) (v := _) rfl (by kernel_rfl) (by kernel_rfl) (by kernel_rfl) (fun _ _ _ h => h) (by kernel_rfl) (Or.inl ⟨by rfl, ?hy2⟩) hS0 ?rest2
    case hy2 => (intro W hSw; go_simp; try (with_reducible rfl))
    try simp only [Act.put, List.setIfInBounds_toArray, List.set_cons_zero, List.set_cons_succ]
    refine' wpAnyD_take (i := 2) (oi := { dst := some 137, op := Go.Op.load 24 (Go.Operand.tmp 136), type := 24, pos := "law.go:89", after := #[{ on := 1, ground := Go.Ground.data }], guard := none }) (v := _) rfl (by kernel_rfl) (by kernel_rfl) (by kernel_rfl) (fun _ _ _ h => h) (by kernel_rfl) (Or.inl ⟨by rfl, ?hy3⟩) hS0 ?rest3
    case hy3 => (intro W hSw; have h0 := (hSw.cell (p := ⟨A, 0, none⟩) zA).trans ca0; go_simp; try (with_reducible rfl))
    try simp only [Act.put, List.setIfInBounds_toArray, List.set_cons_zero, List.set_cons_succ]
    refine' wpAnyD_take (i := 3) (oi := { dst := some 138, op := Go.Op.move (Go.Operand.tmp 4), type := 54, pos := "law.go:89", after := #[], guard := none }) (v := _) rfl (by kernel_rfl) (by kernel_rfl) (by kernel_rfl) (fun _ _ _ h => h) (by kernel_rfl) (Or.inl ⟨by rfl, ?hy4⟩) hS0 ?rest4
    case hy4 => (intro W hSw; go_simp; try (with_reducible rfl))
    try simp only [Act.put, List.setIfInBounds_toArray, List.set_cons_zero, List.set_cons_succ]
    refine' wpAnyD_take (i := 4) (oi := { dst := some 139, op := Go.Op.indexAddr 54 (Go.Operand.tmp 138) (Go.Operand.const (Go.Value.int Go.IntKind.i64 0)), type := 0, pos := "law.go:89", after := #[{ on := 3, ground := Go.Ground.data }], guard := none }) (v := _) rfl (by kernel_rfl) (by kernel_rfl) (by kernel_rfl) (fun _ _ _ h => h) (by kernel_rfl) (Or.inl ⟨by rfl, ?hy5⟩) hS0 ?rest5
    case hy5 => (intro W hSw; go_simp; try (with_reducible rfl))
    try simp only [Act.put, List.setIfInBounds_toArray, List.set_cons_zero, List.set_cons_succ]
    refine' wpAnyD_take (i := 5) (oi := { dst := some 140, op := Go.Op.load 51 (Go.Operand.tmp 139), type := 51, pos := "law.go:89", after := #[{ on := 4, ground := Go.Ground.data }], guard := none }) (v := _) rfl (by kernel_rfl) (by kernel_rfl) (by kernel_rfl) (fun _ _ _ h => h) (by kernel_rfl) (Or.inl ⟨by rfl, ?hy6⟩) hS0 ?rest6
    case hy6 => (intro W hSw; have h0 := (hSw.cell (p := ⟨B, 0, none⟩) zB).trans cb0; go_simp; try (with_reducible rfl))
    try simp only [Act.put, List.setIfInBounds_toArray, List.set_cons_zero, List.set_cons_succ]
    refine' wpAnyD_take (i := 6) (oi := { dst := some 141, op := Go.Op.build 35 #[], type := 35, pos := "law.go:89", after := #[], guard := none }) (v := _) rfl (by kernel_rfl) (by kernel_rfl) (by kernel_rfl) (fun _ _ _ h => h) (by kernel_rfl) (Or.inl ⟨by rfl, ?hy7⟩) hS0 ?rest7
    case hy7 => (intro W hSw; go_simp; try (with_reducible rfl))
    try simp only [Act.put, List.setIfInBounds_toArray, List.set_cons_zero, List.set_cons_succ]
    refine wpAnyD_one (i := 7) (o := { dst := some 142, op := Go.Op.call { callee := Go.Callee.value (Go.Operand.func 21), args := #[Go.Operand.tmp 137, Go.Operand.tmp 140, Go.Operand.tmp 141], argTypes := #[24, 51, 35] }, type := 4, pos := "law.go:89", after := #[{ on := 2, ground := Go.Ground.data }, { on := 5, ground := Go.Ground.data }, { on := 6, ground := Go.Ground.data }], guard := none }) (by kernel_rfl) rfl (fun K hK => ?_)
    go_simp
    refine (hq0 _ hS0).mono ?_
    rintro e we7 ⟨rfl, be7⟩
    have hSe7 := (hS0).trans (be7.mono (hS0).size)
    clear be7
    go_wp2_with fail
    refine hK.out _ _ (fun hD => hSe7) ?_
    clear hK K
    try simp only [Act.put, List.setIfInBounds_toArray, List.set_cons_zero, List.set_cons_succ]
    refine' wpAnyD_take (i := 8) (oi := { dst := some 143, op := Go.Op.move (Go.Operand.tmp 142), type := 4, pos := "law.go:89", after := #[{ on := 7, ground := Go.Ground.data }, { on := 7, ground := Go.Ground.chain }], guard := none }) (v := _) rfl (by kernel_rfl) (by kernel_rfl) (by kernel_rfl) (fun _ _ _ h => h) (by kernel_rfl) (Or.inl ⟨by rfl, ?hy9⟩) hSe7 ?rest9
    case hy9 => (intro W hSw; go_simp; try (with_reducible rfl))
    try simp only [Act.put, List.setIfInBounds_toArray, List.set_cons_zero, List.set_cons_succ]
    refine' wpAnyD_take (i := 9) (oi := { dst := some 144, op := Go.Op.move (Go.Operand.tmp 3), type := 50, pos := "law.go:89", after := #[{ on := 8, ground := Go.Ground.guard }], guard := some (8, true) }) (v := _) rfl (by kernel_rfl) (by kernel_rfl) (by kernel_rfl) (fun _ _ _ h => h) (by kernel_rfl) (Or.inl ⟨by rfl, ?hy10⟩) hSe7 ?rest10
    case hy10 => (intro W hSw; go_simp; try (with_reducible rfl))
    try simp only [Act.put, List.setIfInBounds_toArray, List.set_cons_zero, List.set_cons_succ]
    refine' wpAnyD_take (i := 10) (oi := { dst := some 145, op := Go.Op.indexAddr 50 (Go.Operand.tmp 144) (Go.Operand.const (Go.Value.int Go.IntKind.i64 1)), type := 0, pos := "law.go:89", after := #[{ on := 9, ground := Go.Ground.data }, { on := 8, ground := Go.Ground.guard }], guard := some (8, true) }) (v := _) rfl (by kernel_rfl) (by kernel_rfl) (by kernel_rfl) (fun _ _ _ h => h) (by kernel_rfl) (Or.inl ⟨by rfl, ?hy11⟩) hSe7 ?rest11
    case hy11 => (intro W hSw; go_simp; try (with_reducible rfl))
    try simp only [Act.put, List.setIfInBounds_toArray, List.set_cons_zero, List.set_cons_succ]
    refine' wpAnyD_take (i := 11) (oi := { dst := some 146, op := Go.Op.load 24 (Go.Operand.tmp 145), type := 24, pos := "law.go:89", after := #[{ on := 10, ground := Go.Ground.data }, { on := 8, ground := Go.Ground.guard }], guard := some (8, true) }) (v := _) rfl (by kernel_rfl) (by kernel_rfl) (by kernel_rfl) (fun _ _ _ h => h) (by kernel_rfl) (Or.inl ⟨by rfl, ?hy12⟩) hSe7 ?rest12
    case hy12 => (intro W hSw; have h0 := (hSw.cell (p := ⟨A, 1, none⟩) zA).trans ca1; go_simp; try (with_reducible rfl))
    try simp only [Act.put, List.setIfInBounds_toArray, List.set_cons_zero, List.set_cons_succ]
    refine' wpAnyD_take (i := 12) (oi := { dst := some 147, op := Go.Op.move (Go.Operand.tmp 4), type := 54, pos := "law.go:89", after := #[{ on := 8, ground := Go.Ground.guard }], guard := some (8, true) }) (v := _) rfl (by kernel_rfl) (by kernel_rfl) (by kernel_rfl) (fun _ _ _ h => h) (by kernel_rfl) (Or.inl ⟨by rfl, ?hy13⟩) hSe7 ?rest13
    case hy13 => (intro W hSw; go_simp; try (with_reducible rfl))
    try simp only [Act.put, List.setIfInBounds_toArray, List.set_cons_zero, List.set_cons_succ]
    refine' wpAnyD_take (i := 13) (oi := { dst := some 148, op := Go.Op.indexAddr 54 (Go.Operand.tmp 147) (Go.Operand.const (Go.Value.int Go.IntKind.i64 1)), type := 0, pos := "law.go:89", after := #[{ on := 12, ground := Go.Ground.data }, { on := 8, ground := Go.Ground.guard }], guard := some (8, true) }) (v := _) rfl (by kernel_rfl) (by kernel_rfl) (by kernel_rfl) (fun _ _ _ h => h) (by kernel_rfl) (Or.inl ⟨by rfl, ?hy14⟩) hSe7 ?rest14
    case hy14 => (intro W hSw; go_simp; try (with_reducible rfl))
    try simp only [Act.put, List.setIfInBounds_toArray, List.set_cons_zero, List.set_cons_succ]
    refine' wpAnyD_take (i := 14) (oi := { dst := some 149, op := Go.Op.load 51 (Go.Operand.tmp 148), type := 51, pos := "law.go:89", after := #[{ on := 13, ground := Go.Ground.data }, { on := 8, ground := Go.Ground.guard }], guard := some (8, true) }) (v := _) rfl (by kernel_rfl) (by kernel_rfl) (by kernel_rfl) (fun _ _ _ h => h) (by kernel_rfl) (Or.inl ⟨by rfl, ?hy15⟩) hSe7 ?rest15
    case hy15 => (intro W hSw; have h0 := (hSw.cell (p := ⟨B, 1, none⟩) zB).trans cb1; go_simp; try (with_reducible rfl))
    try simp only [Act.put, List.setIfInBounds_toArray, List.set_cons_zero, List.set_cons_succ]
    refine' wpAnyD_take (i := 15) (oi := { dst := some 150, op := Go.Op.build 35 #[], type := 35, pos := "law.go:89", after := #[{ on := 8, ground := Go.Ground.guard }], guard := some (8, true) }) (v := _) rfl (by kernel_rfl) (by kernel_rfl) (by kernel_rfl) (fun _ _ _ h => h) (by kernel_rfl) (Or.inl ⟨by rfl, ?hy16⟩) hSe7 ?rest16
    case hy16 => (intro W hSw; go_simp; try (with_reducible rfl))
    try simp only [Act.put, List.setIfInBounds_toArray, List.set_cons_zero, List.set_cons_succ]
    refine wpAnyD_one (i := 16) (o := { dst := some 151, op := Go.Op.call { callee := Go.Callee.value (Go.Operand.func 21), args := #[Go.Operand.tmp 146, Go.Operand.tmp 149, Go.Operand.tmp 150], argTypes := #[24, 51, 35] }, type := 4, pos := "law.go:89", after := #[{ on := 11, ground := Go.Ground.data }, { on := 14, ground := Go.Ground.data }, { on := 15, ground := Go.Ground.data }, { on := 8, ground := Go.Ground.chain }, { on := 8, ground := Go.Ground.guard }], guard := some (8, true) }) (by kernel_rfl) rfl (fun K hK => ?_)
    go_simp
    refine (hq1 _ hSe7).mono ?_
    rintro e we16 ⟨rfl, be16⟩
    have hSe16 := (hSe7).trans (be16.mono (hSe7).size)
    clear be16
    go_wp2_with fail
    refine hK.out _ _ (fun hD => hSe16) ?_
    clear hK K
    try simp only [Act.put, List.setIfInBounds_toArray, List.set_cons_zero, List.set_cons_succ]
    refine' wpAnyD_take (i := 17) (oi := { dst := some 152, op := Go.Op.pick (Go.Operand.tmp 143) (Go.Operand.tmp 151) (Go.Operand.const (Go.Value.bool false)), type := 4, pos := "law.go:89", after := #[{ on := 8, ground := Go.Ground.data }, { on := 16, ground := Go.Ground.data }], guard := none }) (v := _) rfl (by kernel_rfl) (by kernel_rfl) (by kernel_rfl) (fun _ _ _ h => h) (by kernel_rfl) (Or.inl ⟨by rfl, ?hy18⟩) hSe16 ?rest18
    case hy18 => (intro W hSw; go_simp; try (with_reducible rfl))
    try simp only [Act.put, List.setIfInBounds_toArray, List.set_cons_zero, List.set_cons_succ]
    refine' wpAnyD_take (i := 18) (oi := { dst := some 2, op := Go.Op.assign (Go.Operand.tmp 152), type := 4, pos := "law.go:89", after := #[{ on := 17, ground := Go.Ground.data }, { on := 16, ground := Go.Ground.chain }, { on := 0, ground := Go.Ground.phase }, { on := 1, ground := Go.Ground.phase }, { on := 2, ground := Go.Ground.phase }, { on := 3, ground := Go.Ground.phase }, { on := 4, ground := Go.Ground.phase }, { on := 5, ground := Go.Ground.phase }, { on := 6, ground := Go.Ground.phase }, { on := 7, ground := Go.Ground.phase }, { on := 8, ground := Go.Ground.phase }, { on := 9, ground := Go.Ground.phase }, { on := 10, ground := Go.Ground.phase }, { on := 11, ground := Go.Ground.phase }, { on := 12, ground := Go.Ground.phase }, { on := 13, ground := Go.Ground.phase }, { on := 14, ground := Go.Ground.phase }, { on := 15, ground := Go.Ground.phase }, { on := 16, ground := Go.Ground.phase }, { on := 17, ground := Go.Ground.phase }], guard := none }) (v := _) rfl (by kernel_rfl) (by kernel_rfl) (by kernel_rfl) (fun _ _ _ h => h) (by kernel_rfl) (Or.inl ⟨by rfl, ?hy19⟩) hSe16 ?rest19
    case hy19 => (intro W hSw; go_simp; try (with_reducible rfl))
    try simp only [Act.put, List.setIfInBounds_toArray, List.set_cons_zero, List.set_cons_succ]
    refine wpAnyD_done (by kernel_rfl) ?_ _
    have BF := hid (SE.out.bl.trans (hSe16.mono SE.out.bl.size))
    go_wp2_with fail
    go_ret
    exact ⟨rfl, BF.out⟩
  case first =>
    go_wp2_with fail
    go_loopw [21] (fun s21 wr => ∃ (i : Nat) (ps : Nat → Pp) (ow : Nat → Nat), i ≤ sc.length ∧ i ≤ 400 ∧ s21 = .int .i64 (i : Nat) ∧ Hid (St w A B ps i ow wr)) (fun s21 _ => sc.length - (RowKit.intOf s21).toNat)
    case atStart =>
      obtain ⟨ps, ow, h⟩ := ST.out
      exact ⟨0, ps, ow, Nat.zero_le _, Nat.zero_le _, rfl, h⟩
    case round =>
      clear ST
      obtain ⟨i, ps, ow, hi, hi4, rfl, ST⟩ := hrel
      by_cases hlt : i < sc.length
      · have hltz : (i : Int) < (sc.length : Int) := by omega
        have hi0 : (0 : Int) ≤ (i : Int) := by omega
        obtain ⟨o, ho⟩ : ∃ o, sc[i]? = some o := ⟨sc[i], by simp⟩
        obtain ⟨b1', o1, c1, e1, z1, x0, x1, x2, x3, x4, x5⟩ := (HS.out.below ST.out.bl).atO ho
        simp only [Value.slice.injEq] at e1
        obtain ⟨rfl, -, rfl⟩ := e1
        clear ho
        by_cases h4 : i = 400
        · have h4z : (i : Int) = 400 := by omega
          have h4b : ((i : Int) == 400) = true := by simp [h4z]
          clear h4 h4z
          go_wp2_with fail
          go_meet
          exact ⟨ps, i, ow, by omega, ST.out.gr ((Gr.refl _).alloc _)⟩
        · have h4b : ((i : Int) == 400) = false := by have : ¬ (i : Int) = 400 := by omega
                                                      simpa using this
          have hi5 : i + 1 ≤ 400 := by omega
          have hi6 : i ≤ 401 := by omega
          go_upto_region 9 with fail
          obtain ⟨W5, hW5⟩ : ∃ W, W = wr.alloc (.cells (ob o) 38) := ⟨_, rfl⟩
          obtain ⟨X, hX⟩ : ∃ X, X = wr.heap.size := ⟨_, rfl⟩
          have bO : W5.heap[X]? = some (.cells (ob o) 38 (0, 0)) := by rw [hW5, hX]; exact heap_new' _ _
          have S5 := hid (ST.out.gr (show Gr wr W5 by rw [hW5]; exact (Gr.refl _).alloc _))
          have XO : Hid (∀ j, j < 2 → ¬ (ps j).own X) := fun j hj h => by have := (ST.out.ok j hj).lt h; omega
          have XA : Hid (X ≠ A ∧ X ≠ B) := ⟨by have := ST.out.ltA; omega, by have := ST.out.ltB; omega⟩
          rw [show wr.alloc (.cells #[.int .i64 o.k, .int .i64 o.i, .int .i64 o.s.1.1, .int .u64 o.s.1.2.1, .int .u64 o.s.1.2.2.1, .int .u64 o.s.1.2.2.2] 38) = W5 from hW5.symm, ← hX]
          obtain ⟨t0', t1', t2, t3, t4, t5⟩ := ob_cells bO
          have zX := (Array.getElem?_eq_some_iff.1 bO).1
          have HBO := hid bO
          clear hW5 hX x0 x1 x2 x3 x4 x5 z1 ST h4 bO
          go_cut [7] (fun s7 w' => s7 = .int .i64 ((ix o.i : Nat) : Int) ∧ w' = W5)
          case first =>
            rcases rem_cases o.i with h | h | h
            · go_wp2_with fail
              go_meet
              exact ⟨by rw [ix_ok.1 h]; rfl, rfl⟩
            · go_wp2_with fail
              go_meet
              exact ⟨by rw [ix_ok.2.1 h]; rfl, rfl⟩
            · go_wp2_with fail
              go_meet
              exact ⟨by rw [ix_ok.2.2 h]; rfl, rfl⟩
          case rest =>
            obtain ⟨rfl, hwc⟩ := hcut
            rw [hwc]
            clear hwc
            obtain ⟨j, hj⟩ : ∃ j, j = ix o.i := ⟨_, rfl⟩
            have hj2 : j < 2 := by rw [hj]; exact ix_lt _
            rw [← hj]
            clear hj
            obtain ⟨jo, hjo⟩ : ∃ q, q = 1 - j := ⟨_, rfl⟩
            have hjo2 : jo < 2 := by omega
            have hjz0 : (0 : Int) ≤ (j : Int) := by omega
            have hjz : (j : Int) < 2 := by omega
            have hqz : (1 : Int) - (j : Int) = (jo : Int) := by omega
            have hqz0 : (0 : Int) ≤ (jo : Int) := by omega
            have hqz2 : (jo : Int) < 2 := by omega
            clear hjo
            have hqw := (wrI hjo2).1
            have hqw2 := (wrI hjo2).2
            go_upto_block 2 with fail
            go_cut [8] (fun s8 w' => s8 = .bool true ∧ ∃ (ps' : Nat → Pp) (ow' : Nat → Nat), Hid (St w A B ps' (i + 1) ow' w') ∧ Hid (w'.heap[X]? = some (.cells (ob o) 38 (0, 0))))
            case first =>
              have OKj := hid (S5.out.ok j hj2)
              have MX := hid (maxl (S5.out.nn j hj2) hi6)
              have ca := S5.out.cellA hj2
              have cb := S5.out.cellB hj2
              have zA := S5.out.ltA
              have zB := S5.out.ltB
              have NA : ¬ (ps j).own A ∧ ¬ (ps j).own B := ⟨fun e => by have h1 := S5.out.tg j hj2 A e; have h2 := S5.out.ta; omega, fun e => by have h1 := S5.out.tg j hj2 B e; have h2 := S5.out.tb; omega⟩
              by_cases k0 : o.k = 0
              · have kb0 : (o.k == 0) = true := by simp [k0]
                clear k0
                have hS0 : (fun W : World => W.cell? ⟨A, j, none⟩ = some (lp (ps j).lb) ∧ W.cell? ⟨B, j, none⟩ = some (rp (ps j).rb) ∧ W.cell? ⟨X, 2, none⟩ = some (.int .i64 o.s.1.1) ∧ W.cell? ⟨X, 3, none⟩ = some (.int .u64 o.s.1.2.1) ∧ W.cell? ⟨X, 4, none⟩ = some (.int .u64 o.s.1.2.2.1) ∧ W.cell? ⟨X, 5, none⟩ = some (.int .u64 o.s.1.2.2.2)) W5.drew := ⟨ca, cb, t2, t3, t4, t5⟩
                have AD := add_smf OKj.out.o MX.out.2.2.1 (x := o.s) (Or.inl rfl : (1 : Int) = 1 ∨ (1 : Int) = -1)
                have KEEP : Hid (∀ W, Kp (ps j).own W5.drew W → (fun W : World => W.cell? ⟨A, j, none⟩ = some (lp (ps j).lb) ∧ W.cell? ⟨B, j, none⟩ = some (rp (ps j).rb) ∧ W.cell? ⟨X, 2, none⟩ = some (.int .i64 o.s.1.1) ∧ W.cell? ⟨X, 3, none⟩ = some (.int .u64 o.s.1.2.1) ∧ W.cell? ⟨X, 4, none⟩ = some (.int .u64 o.s.1.2.2.1) ∧ W.cell? ⟨X, 5, none⟩ = some (.int .u64 o.s.1.2.2.2)) W) := fun W hk => ⟨(hk.cell zA NA.1).trans ca, (hk.cell zB NA.2).trans cb, (hk.cell zX (XO.out j hj2)).trans t2, (hk.cell zX (XO.out j hj2)).trans t3, (hk.cell zX (XO.out j hj2)).trans t4, (hk.cell zX (XO.out j hj2)).trans t5⟩
                go_upto_region 13 with fail
                refine wp_regionD (S := fun W => W.cell? ⟨A, j, none⟩ = some (lp (ps j).lb) ∧ W.cell? ⟨B, j, none⟩ = some (rp (ps j).rb) ∧ W.cell? ⟨X, 2, none⟩ = some (.int .i64 o.s.1.1) ∧ W.cell? ⟨X, 3, none⟩ = some (.int .u64 o.s.1.2.1) ∧ W.cell? ⟨X, 4, none⟩ = some (.int .u64 o.s.1.2.2.1) ∧ W.cell? ⟨X, 5, none⟩ = some (.int .u64 o.s.1.2.2.2)) (D := []) hmx ?_
                refine' wpAnyD_take (i := 0) (oi := { dst := some 37, op := Go.Op.move (Go.Operand.tmp 3), type := 50, pos := "law.go:75", after := #[], guard := none }) (v := _) rfl (by kernel_rfl) (by kernel_rfl) (by kernel_rfl) (fun _ _ _ h => h) (by kernel_rfl) (Or.inl ⟨by rfl, ?hy52⟩) hS0 ?rest52
                case hy52 => (intro W hSw; go_simp; try (with_reducible rfl))
                try simp only [Act.put, List.setIfInBounds_toArray, List.set_cons_zero, List.set_cons_succ]
                refine' wpAnyD_take (i := 1) (oi := { dst := some 38, op := Go.Op.move (Go.Operand.tmp 7), type := 3, pos := "law.go:75", after := #[], guard := none }) (v := _) rfl (by kernel_rfl) (by kernel_rfl) (by kernel_rfl) (fun _ _ _ h => h) (by kernel_rfl) (Or.inl ⟨by rfl, ?hy53⟩) hS0 ?rest53
                case hy53 => (intro W hSw; go_simp; try (with_reducible rfl))
                try simp only [Act.put, List.setIfInBounds_toArray, List.set_cons_zero, List.set_cons_succ]
                refine' wpAnyD_take (i := 2) (oi := { dst := some 39, op := Go.Op.indexAddr 50 (Go.Operand.tmp 37) (Go.Operand.tmp 38), type := 0, pos := "law.go:75", after := #[{ on := 0, ground := Go.Ground.data }, { on := 1, ground := Go.Ground.data }], guard := none }) (v := _) rfl (by kernel_rfl) (by kernel_rfl) (by kernel_rfl) (fun _ _ _ h => h) (by kernel_rfl) (Or.inl ⟨by rfl, ?hy54⟩) hS0 ?rest54
                case hy54 => (intro W hSw; go_simp; try (with_reducible rfl))
                try simp only [Act.put, List.setIfInBounds_toArray, List.set_cons_zero, List.set_cons_succ]
                refine' wpAnyD_take (i := 3) (oi := { dst := some 40, op := Go.Op.load 24 (Go.Operand.tmp 39), type := 24, pos := "law.go:75", after := #[{ on := 2, ground := Go.Ground.data }], guard := none }) (v := _) rfl (by kernel_rfl) (by kernel_rfl) (by kernel_rfl) (fun _ _ _ h => h) (by kernel_rfl) (Or.inl ⟨by rfl, ?hy55⟩) hS0 ?rest55
                case hy55 => (intro W hSw; obtain ⟨s0, s1, s2, s3, s4, s5⟩ := hSw; go_simp; try (with_reducible rfl))
                try simp only [Act.put, List.setIfInBounds_toArray, List.set_cons_zero, List.set_cons_succ]
                refine' wpAnyD_take (i := 4) (oi := { dst := some 41, op := Go.Op.fieldAddr 38 (Go.Operand.tmp 6) 2, type := 0, pos := "law.go:75", after := #[], guard := none }) (v := _) rfl (by kernel_rfl) (by kernel_rfl) (by kernel_rfl) (fun _ _ _ h => h) (by kernel_rfl) (Or.inl ⟨by rfl, ?hy56⟩) hS0 ?rest56
                case hy56 => (intro W hSw; go_simp; try (with_reducible rfl))
                try simp only [Act.put, List.setIfInBounds_toArray, List.set_cons_zero, List.set_cons_succ]
                refine' wpAnyD_take (i := 5) (oi := { dst := some 42, op := Go.Op.load 35 (Go.Operand.tmp 41), type := 35, pos := "law.go:75", after := #[{ on := 4, ground := Go.Ground.data }], guard := none }) (v := _) rfl (by kernel_rfl) (by kernel_rfl) (by kernel_rfl) (fun _ _ _ h => h) (by kernel_rfl) (Or.inl ⟨by rfl, ?hy57⟩) hS0 ?rest57
                case hy57 => (intro W hSw; obtain ⟨s0, s1, s2, s3, s4, s5⟩ := hSw; go_simp; try (with_reducible rfl))
                try simp only [Act.put, List.setIfInBounds_toArray, List.set_cons_zero, List.set_cons_succ]
                refine' wpAnyD_take (i := 7) (oi := { dst := some 44, op := Go.Op.move (Go.Operand.tmp 4), type := 54, pos := "law.go:75", after := #[], guard := none }) (v := _) rfl (by kernel_rfl) (by kernel_rfl) (by kernel_rfl) (fun _ _ _ h => h) (by kernel_rfl) (Or.inl ⟨by rfl, ?hy58⟩) hS0 ?rest58
                case hy58 => (intro W hSw; go_simp; try (with_reducible rfl))
                try simp only [Act.put, List.setIfInBounds_toArray, List.set_cons_zero, List.set_cons_succ]
                refine' wpAnyD_take (i := 8) (oi := { dst := some 45, op := Go.Op.move (Go.Operand.tmp 7), type := 3, pos := "law.go:75", after := #[], guard := none }) (v := _) rfl (by kernel_rfl) (by kernel_rfl) (by kernel_rfl) (fun _ _ _ h => h) (by kernel_rfl) (Or.inl ⟨by rfl, ?hy59⟩) hS0 ?rest59
                case hy59 => (intro W hSw; go_simp; try (with_reducible rfl))
                try simp only [Act.put, List.setIfInBounds_toArray, List.set_cons_zero, List.set_cons_succ]
                refine' wpAnyD_take (i := 9) (oi := { dst := some 46, op := Go.Op.indexAddr 54 (Go.Operand.tmp 44) (Go.Operand.tmp 45), type := 0, pos := "law.go:75", after := #[{ on := 7, ground := Go.Ground.data }, { on := 8, ground := Go.Ground.data }], guard := none }) (v := _) rfl (by kernel_rfl) (by kernel_rfl) (by kernel_rfl) (fun _ _ _ h => h) (by kernel_rfl) (Or.inl ⟨by rfl, ?hy60⟩) hS0 ?rest60
                case hy60 => (intro W hSw; go_simp; try (with_reducible rfl))
                try simp only [Act.put, List.setIfInBounds_toArray, List.set_cons_zero, List.set_cons_succ]
                refine' wpAnyD_take (i := 10) (oi := { dst := some 47, op := Go.Op.load 51 (Go.Operand.tmp 46), type := 51, pos := "law.go:75", after := #[{ on := 9, ground := Go.Ground.data }], guard := none }) (v := _) rfl (by kernel_rfl) (by kernel_rfl) (by kernel_rfl) (fun _ _ _ h => h) (by kernel_rfl) (Or.inl ⟨by rfl, ?hy61⟩) hS0 ?rest61
                case hy61 => (intro W hSw; obtain ⟨s0, s1, s2, s3, s4, s5⟩ := hSw; go_simp; try (with_reducible rfl))
                try simp only [Act.put, List.setIfInBounds_toArray, List.set_cons_zero, List.set_cons_succ]
                refine' wpAnyD_take (i := 11) (oi := { dst := some 48, op := Go.Op.fieldAddr 38 (Go.Operand.tmp 6) 2, type := 0, pos := "law.go:75", after := #[], guard := none }) (v := _) rfl (by kernel_rfl) (by kernel_rfl) (by kernel_rfl) (fun _ _ _ h => h) (by kernel_rfl) (Or.inl ⟨by rfl, ?hy62⟩) hS0 ?rest62
                case hy62 => (intro W hSw; go_simp; try (with_reducible rfl))
                try simp only [Act.put, List.setIfInBounds_toArray, List.set_cons_zero, List.set_cons_succ]
                refine' wpAnyD_take (i := 12) (oi := { dst := some 49, op := Go.Op.load 35 (Go.Operand.tmp 48), type := 35, pos := "law.go:75", after := #[{ on := 11, ground := Go.Ground.data }], guard := none }) (v := _) rfl (by kernel_rfl) (by kernel_rfl) (by kernel_rfl) (fun _ _ _ h => h) (by kernel_rfl) (Or.inl ⟨by rfl, ?hy63⟩) hS0 ?rest63
                case hy63 => (intro W hSw; obtain ⟨s0, s1, s2, s3, s4, s5⟩ := hSw; go_simp; try (with_reducible rfl))
                try simp only [Act.put, List.setIfInBounds_toArray, List.set_cons_zero, List.set_cons_succ]
                refine wpAnyD_one (i := 6) (o := { dst := some 43, op := Go.Op.call { callee := Go.Callee.value (Go.Operand.func 13), args := #[Go.Operand.tmp 40, Go.Operand.tmp 42], argTypes := #[24, 35] }, type := 39, pos := "law.go:75", after := #[{ on := 3, ground := Go.Ground.data }, { on := 5, ground := Go.Ground.data }], guard := none }) (by kernel_rfl) rfl (fun K hK => ?_)
                go_simp
                have hm := make_any o.s W5.drew (OKj.out.gr (Gr.refl W5).drew).l MX.out.1
                rw [AD.1, AD.2] at hm
                refine hm.mono ?_
                rintro e w6 ⟨rfl, L6, K6⟩
                have K6o : Hid (Kp (ps j).own W5.drew w6) := K6.mono (fun k hk => Or.inl (Or.inr (Or.inr hk)))
                have R6 := hid ((OKj.out.gr (Gr.refl W5).drew).rK K6 (fun k hk => Or.inr (Or.inr hk)))
                have hS6 := KEEP.out w6 K6o.out
                have L6h := hid L6
                clear hm L6 K6
                go_wp2_with fail
                refine hK.out _ _ (fun hD => hS6) ?_
                clear hK K
                try simp only [Act.put, List.setIfInBounds_toArray, List.set_cons_zero, List.set_cons_succ]
                refine wpAnyD_one (i := 13) (o := { dst := some 50, op := Go.Op.call { callee := Go.Callee.value (Go.Operand.func 19), args := #[Go.Operand.tmp 47, Go.Operand.tmp 49, Go.Operand.const (Go.Value.int Go.IntKind.i64 1)], argTypes := #[51, 35, 2] }, type := 3, pos := "law.go:75", after := #[{ on := 10, ground := Go.Ground.data }, { on := 12, ground := Go.Ground.data }, { on := 6, ground := Go.Ground.chain }], guard := none }) (by kernel_rfl) rfl (fun K hK => ?_)
                go_simp
                refine (radd_any o.s (1) w6 R6.out OKj.out.o MX.out.2.1 (Or.inl rfl)).mono ?_
                rintro e w7 ⟨rfl, v7, R7, K7, N7⟩
                have L7 := hid (lK L6h.out R6.out K7)
                have K7o := hid (K6o.out.trans (K7.mono (T := (ps j).own) (fun k hk => Or.inr hk)) (fun _ _ h => h))
                have hS7 := KEEP.out w7 K7o.out
                have O7 : Hid (Ok1 ⟨(ps j).lb, (ps j).tb, (ps j).b, (ps j).n + 1, (ps j).rb, v7, (ps j).C ++ [(o.s, 1)]⟩ w7) := ⟨L7.out, R7, OKj.out.o.snoc (Or.inl rfl)⟩
                have N7h := hid N7
                clear R7 K7 N7
                go_wp2_with fail
                refine hK.out _ _ (fun hD => hS7) ?_
                clear hK K
                try simp only [Act.put, List.setIfInBounds_toArray, List.set_cons_zero, List.set_cons_succ]
                refine' wpAnyD_take (i := 14) (oi := { dst := some 51, op := Go.Op.binOp Go.BinOp.eql 3 (Go.Operand.tmp 43) (Go.Operand.tmp 50) 3, type := 4, pos := "law.go:75", after := #[{ on := 6, ground := Go.Ground.data }, { on := 13, ground := Go.Ground.data }], guard := none }) (v := _) rfl (by kernel_rfl) (by kernel_rfl) (by kernel_rfl) (fun _ _ _ h => h) (by kernel_rfl) (Or.inl ⟨by rfl, ?hy66⟩) hS7 ?rest66
                case hy66 => (intro W hSw; go_simp; try (with_reducible rfl))
                try simp only [Act.put, List.setIfInBounds_toArray, List.set_cons_zero, List.set_cons_succ]
                refine' wpAnyD_take (i := 15) (oi := { dst := some 8, op := Go.Op.assign (Go.Operand.tmp 51), type := 4, pos := "law.go:75", after := #[{ on := 14, ground := Go.Ground.data }, { on := 13, ground := Go.Ground.chain }, { on := 0, ground := Go.Ground.phase }, { on := 1, ground := Go.Ground.phase }, { on := 2, ground := Go.Ground.phase }, { on := 3, ground := Go.Ground.phase }, { on := 4, ground := Go.Ground.phase }, { on := 5, ground := Go.Ground.phase }, { on := 6, ground := Go.Ground.phase }, { on := 7, ground := Go.Ground.phase }, { on := 8, ground := Go.Ground.phase }, { on := 9, ground := Go.Ground.phase }, { on := 10, ground := Go.Ground.phase }, { on := 11, ground := Go.Ground.phase }, { on := 12, ground := Go.Ground.phase }, { on := 13, ground := Go.Ground.phase }, { on := 14, ground := Go.Ground.phase }], guard := none }) (v := _) rfl (by kernel_rfl) (by kernel_rfl) (by kernel_rfl) (fun _ _ _ h => h) (by kernel_rfl) (Or.inl ⟨by rfl, ?hy67⟩) hS7 ?rest67
                case hy67 => (intro W hSw; go_simp; try (with_reducible rfl))
                try simp only [Act.put, List.setIfInBounds_toArray, List.set_cons_zero, List.set_cons_succ]
                refine wpAnyD_done (by kernel_rfl) ?_ _
                have SN := hid ((S5.out.gr (Gr.refl W5).drew).same hj2 O7.out K7o.out rfl rfl (fun k hk => by
                  rcases hk with hk | hk | hk
                  · exact Or.inl (Or.inl hk)
                  · exact Or.inl (Or.inr (Or.inl hk))
                  · rcases N7h.out k hk with h | h
                    · exact Or.inl (Or.inr (Or.inr h))
                    · exact Or.inr (Nat.le_trans K6o.out.size h)) ⟨MX.out.2.2.2.2.1, by rw [List.length_append]; exact MX.out.2.2.2.2.2⟩)
                have BX7 : Hid (w7.heap[X]? = some (.cells (ob o) 38 (0, 0))) := (K7o.out.block X zX (XO.out j hj2)).trans HBO.out
                clear hS0 hS6 hS7 AD KEEP L6h R6 L7 K6o K7o O7 N7h
                go_wp2_with fail
                go_meet
                obtain ⟨ow', hsn⟩ := SN.out
                exact ⟨rfl, _, ow', hsn, BX7.out⟩
              · have kb0 : (o.k == 0) = false := by simp [k0]
                clear k0
                by_cases k1 : o.k = 1
                · have kb1 : (o.k == 1) = true := by simp [k1]
                  clear k1
                  have hS0 : (fun W : World => W.cell? ⟨A, j, none⟩ = some (lp (ps j).lb) ∧ W.cell? ⟨B, j, none⟩ = some (rp (ps j).rb) ∧ W.cell? ⟨X, 2, none⟩ = some (.int .i64 o.s.1.1) ∧ W.cell? ⟨X, 3, none⟩ = some (.int .u64 o.s.1.2.1) ∧ W.cell? ⟨X, 4, none⟩ = some (.int .u64 o.s.1.2.2.1) ∧ W.cell? ⟨X, 5, none⟩ = some (.int .u64 o.s.1.2.2.2)) W5.drew := ⟨ca, cb, t2, t3, t4, t5⟩
                  have AD := add_smf OKj.out.o MX.out.2.2.1 (x := o.s) (Or.inr rfl : (-1 : Int) = 1 ∨ (-1 : Int) = -1)
                  have KEEP : Hid (∀ W, Kp (ps j).own W5.drew W → (fun W : World => W.cell? ⟨A, j, none⟩ = some (lp (ps j).lb) ∧ W.cell? ⟨B, j, none⟩ = some (rp (ps j).rb) ∧ W.cell? ⟨X, 2, none⟩ = some (.int .i64 o.s.1.1) ∧ W.cell? ⟨X, 3, none⟩ = some (.int .u64 o.s.1.2.1) ∧ W.cell? ⟨X, 4, none⟩ = some (.int .u64 o.s.1.2.2.1) ∧ W.cell? ⟨X, 5, none⟩ = some (.int .u64 o.s.1.2.2.2)) W) := fun W hk => ⟨(hk.cell zA NA.1).trans ca, (hk.cell zB NA.2).trans cb, (hk.cell zX (XO.out j hj2)).trans t2, (hk.cell zX (XO.out j hj2)).trans t3, (hk.cell zX (XO.out j hj2)).trans t4, (hk.cell zX (XO.out j hj2)).trans t5⟩
                  go_upto_region 15 with fail
                  refine wp_regionD (S := fun W => W.cell? ⟨A, j, none⟩ = some (lp (ps j).lb) ∧ W.cell? ⟨B, j, none⟩ = some (rp (ps j).rb) ∧ W.cell? ⟨X, 2, none⟩ = some (.int .i64 o.s.1.1) ∧ W.cell? ⟨X, 3, none⟩ = some (.int .u64 o.s.1.2.1) ∧ W.cell? ⟨X, 4, none⟩ = some (.int .u64 o.s.1.2.2.1) ∧ W.cell? ⟨X, 5, none⟩ = some (.int .u64 o.s.1.2.2.2)) (D := []) hmx ?_
                  refine' wpAnyD_take (i := 0) (oi := { dst := some 54, op := Go.Op.move (Go.Operand.tmp 3), type := 50, pos := "law.go:77", after := #[], guard := none }) (v := _) rfl (by kernel_rfl) (by kernel_rfl) (by kernel_rfl) (fun _ _ _ h => h) (by kernel_rfl) (Or.inl ⟨by rfl, ?hy68⟩) hS0 ?rest68
                  case hy68 => (intro W hSw; go_simp; try (with_reducible rfl))
                  try simp only [Act.put, List.setIfInBounds_toArray, List.set_cons_zero, List.set_cons_succ]
                  refine' wpAnyD_take (i := 1) (oi := { dst := some 55, op := Go.Op.move (Go.Operand.tmp 7), type := 3, pos := "law.go:77", after := #[], guard := none }) (v := _) rfl (by kernel_rfl) (by kernel_rfl) (by kernel_rfl) (fun _ _ _ h => h) (by kernel_rfl) (Or.inl ⟨by rfl, ?hy69⟩) hS0 ?rest69
                  case hy69 => (intro W hSw; go_simp; try (with_reducible rfl))
                  try simp only [Act.put, List.setIfInBounds_toArray, List.set_cons_zero, List.set_cons_succ]
                  refine' wpAnyD_take (i := 2) (oi := { dst := some 56, op := Go.Op.indexAddr 50 (Go.Operand.tmp 54) (Go.Operand.tmp 55), type := 0, pos := "law.go:77", after := #[{ on := 0, ground := Go.Ground.data }, { on := 1, ground := Go.Ground.data }], guard := none }) (v := _) rfl (by kernel_rfl) (by kernel_rfl) (by kernel_rfl) (fun _ _ _ h => h) (by kernel_rfl) (Or.inl ⟨by rfl, ?hy70⟩) hS0 ?rest70
                  case hy70 => (intro W hSw; go_simp; try (with_reducible rfl))
                  try simp only [Act.put, List.setIfInBounds_toArray, List.set_cons_zero, List.set_cons_succ]
                  refine' wpAnyD_take (i := 3) (oi := { dst := some 57, op := Go.Op.load 24 (Go.Operand.tmp 56), type := 24, pos := "law.go:77", after := #[{ on := 2, ground := Go.Ground.data }], guard := none }) (v := _) rfl (by kernel_rfl) (by kernel_rfl) (by kernel_rfl) (fun _ _ _ h => h) (by kernel_rfl) (Or.inl ⟨by rfl, ?hy71⟩) hS0 ?rest71
                  case hy71 => (intro W hSw; obtain ⟨s0, s1, s2, s3, s4, s5⟩ := hSw; go_simp; try (with_reducible rfl))
                  try simp only [Act.put, List.setIfInBounds_toArray, List.set_cons_zero, List.set_cons_succ]
                  refine' wpAnyD_take (i := 4) (oi := { dst := some 58, op := Go.Op.fieldAddr 38 (Go.Operand.tmp 6) 2, type := 0, pos := "law.go:77", after := #[], guard := none }) (v := _) rfl (by kernel_rfl) (by kernel_rfl) (by kernel_rfl) (fun _ _ _ h => h) (by kernel_rfl) (Or.inl ⟨by rfl, ?hy72⟩) hS0 ?rest72
                  case hy72 => (intro W hSw; go_simp; try (with_reducible rfl))
                  try simp only [Act.put, List.setIfInBounds_toArray, List.set_cons_zero, List.set_cons_succ]
                  refine' wpAnyD_take (i := 5) (oi := { dst := some 59, op := Go.Op.load 35 (Go.Operand.tmp 58), type := 35, pos := "law.go:77", after := #[{ on := 4, ground := Go.Ground.data }], guard := none }) (v := _) rfl (by kernel_rfl) (by kernel_rfl) (by kernel_rfl) (fun _ _ _ h => h) (by kernel_rfl) (Or.inl ⟨by rfl, ?hy73⟩) hS0 ?rest73
                  case hy73 => (intro W hSw; obtain ⟨s0, s1, s2, s3, s4, s5⟩ := hSw; go_simp; try (with_reducible rfl))
                  try simp only [Act.put, List.setIfInBounds_toArray, List.set_cons_zero, List.set_cons_succ]
                  refine' wpAnyD_take (i := 7) (oi := { dst := some 61, op := Go.Op.move (Go.Operand.tmp 4), type := 54, pos := "law.go:77", after := #[], guard := none }) (v := _) rfl (by kernel_rfl) (by kernel_rfl) (by kernel_rfl) (fun _ _ _ h => h) (by kernel_rfl) (Or.inl ⟨by rfl, ?hy74⟩) hS0 ?rest74
                  case hy74 => (intro W hSw; go_simp; try (with_reducible rfl))
                  try simp only [Act.put, List.setIfInBounds_toArray, List.set_cons_zero, List.set_cons_succ]
                  refine' wpAnyD_take (i := 8) (oi := { dst := some 62, op := Go.Op.move (Go.Operand.tmp 7), type := 3, pos := "law.go:77", after := #[], guard := none }) (v := _) rfl (by kernel_rfl) (by kernel_rfl) (by kernel_rfl) (fun _ _ _ h => h) (by kernel_rfl) (Or.inl ⟨by rfl, ?hy75⟩) hS0 ?rest75
                  case hy75 => (intro W hSw; go_simp; try (with_reducible rfl))
                  try simp only [Act.put, List.setIfInBounds_toArray, List.set_cons_zero, List.set_cons_succ]
                  refine' wpAnyD_take (i := 9) (oi := { dst := some 63, op := Go.Op.indexAddr 54 (Go.Operand.tmp 61) (Go.Operand.tmp 62), type := 0, pos := "law.go:77", after := #[{ on := 7, ground := Go.Ground.data }, { on := 8, ground := Go.Ground.data }], guard := none }) (v := _) rfl (by kernel_rfl) (by kernel_rfl) (by kernel_rfl) (fun _ _ _ h => h) (by kernel_rfl) (Or.inl ⟨by rfl, ?hy76⟩) hS0 ?rest76
                  case hy76 => (intro W hSw; go_simp; try (with_reducible rfl))
                  try simp only [Act.put, List.setIfInBounds_toArray, List.set_cons_zero, List.set_cons_succ]
                  refine' wpAnyD_take (i := 10) (oi := { dst := some 64, op := Go.Op.load 51 (Go.Operand.tmp 63), type := 51, pos := "law.go:77", after := #[{ on := 9, ground := Go.Ground.data }], guard := none }) (v := _) rfl (by kernel_rfl) (by kernel_rfl) (by kernel_rfl) (fun _ _ _ h => h) (by kernel_rfl) (Or.inl ⟨by rfl, ?hy77⟩) hS0 ?rest77
                  case hy77 => (intro W hSw; obtain ⟨s0, s1, s2, s3, s4, s5⟩ := hSw; go_simp; try (with_reducible rfl))
                  try simp only [Act.put, List.setIfInBounds_toArray, List.set_cons_zero, List.set_cons_succ]
                  refine' wpAnyD_take (i := 11) (oi := { dst := some 65, op := Go.Op.fieldAddr 38 (Go.Operand.tmp 6) 2, type := 0, pos := "law.go:77", after := #[], guard := none }) (v := _) rfl (by kernel_rfl) (by kernel_rfl) (by kernel_rfl) (fun _ _ _ h => h) (by kernel_rfl) (Or.inl ⟨by rfl, ?hy78⟩) hS0 ?rest78
                  case hy78 => (intro W hSw; go_simp; try (with_reducible rfl))
                  try simp only [Act.put, List.setIfInBounds_toArray, List.set_cons_zero, List.set_cons_succ]
                  refine' wpAnyD_take (i := 12) (oi := { dst := some 66, op := Go.Op.load 35 (Go.Operand.tmp 65), type := 35, pos := "law.go:77", after := #[{ on := 11, ground := Go.Ground.data }], guard := none }) (v := _) rfl (by kernel_rfl) (by kernel_rfl) (by kernel_rfl) (fun _ _ _ h => h) (by kernel_rfl) (Or.inl ⟨by rfl, ?hy79⟩) hS0 ?rest79
                  case hy79 => (intro W hSw; obtain ⟨s0, s1, s2, s3, s4, s5⟩ := hSw; go_simp; try (with_reducible rfl))
                  try simp only [Act.put, List.setIfInBounds_toArray, List.set_cons_zero, List.set_cons_succ]
                  refine wpAnyD_one (i := 6) (o := { dst := some 60, op := Go.Op.call { callee := Go.Callee.value (Go.Operand.func 12), args := #[Go.Operand.tmp 57, Go.Operand.tmp 59], argTypes := #[24, 35] }, type := 39, pos := "law.go:77", after := #[{ on := 3, ground := Go.Ground.data }, { on := 5, ground := Go.Ground.data }], guard := none }) (by kernel_rfl) rfl (fun K hK => ?_)
                  go_simp
                  have hm := use_any o.s W5.drew (OKj.out.gr (Gr.refl W5).drew).l MX.out.1
                  rw [AD.1, AD.2] at hm
                  refine hm.mono ?_
                  rintro e w6 ⟨rfl, L6, K6⟩
                  have K6o : Hid (Kp (ps j).own W5.drew w6) := K6.mono (fun k hk => Or.inl (Or.inr (Or.inr hk)))
                  have R6 := hid ((OKj.out.gr (Gr.refl W5).drew).rK K6 (fun k hk => Or.inr (Or.inr hk)))
                  have hS6 := KEEP.out w6 K6o.out
                  have L6h := hid L6
                  clear hm L6 K6
                  go_wp2_with fail
                  refine hK.out _ _ (fun hD => hS6) ?_
                  clear hK K
                  try simp only [Act.put, List.setIfInBounds_toArray, List.set_cons_zero, List.set_cons_succ]
                  refine wpAnyD_one (i := 13) (o := { dst := some 67, op := Go.Op.call { callee := Go.Callee.value (Go.Operand.func 19), args := #[Go.Operand.tmp 64, Go.Operand.tmp 66, Go.Operand.const (Go.Value.int Go.IntKind.i64 (-1))], argTypes := #[51, 35, 2] }, type := 3, pos := "law.go:77", after := #[{ on := 10, ground := Go.Ground.data }, { on := 12, ground := Go.Ground.data }, { on := 6, ground := Go.Ground.chain }], guard := none }) (by kernel_rfl) rfl (fun K hK => ?_)
                  go_simp
                  refine (radd_any o.s (-1) w6 R6.out OKj.out.o MX.out.2.1 (Or.inr rfl)).mono ?_
                  rintro e w7 ⟨rfl, v7, R7, K7, N7⟩
                  have L7 := hid (lK L6h.out R6.out K7)
                  have K7o := hid (K6o.out.trans (K7.mono (T := (ps j).own) (fun k hk => Or.inr hk)) (fun _ _ h => h))
                  have hS7 := KEEP.out w7 K7o.out
                  have O7 : Hid (Ok1 ⟨(ps j).lb, (ps j).tb, (ps j).b, (ps j).n + 1, (ps j).rb, v7, (ps j).C ++ [(o.s, -1)]⟩ w7) := ⟨L7.out, R7, OKj.out.o.snoc (Or.inr rfl)⟩
                  have N7h := hid N7
                  clear R7 K7 N7
                  go_wp2_with fail
                  refine hK.out _ _ (fun hD => hS7) ?_
                  clear hK K
                  try simp only [Act.put, List.setIfInBounds_toArray, List.set_cons_zero, List.set_cons_succ]
                  refine' wpAnyD_take (i := 14) (oi := { dst := some 68, op := Go.Op.binOp Go.BinOp.eql 3 (Go.Operand.tmp 60) (Go.Operand.tmp 67) 3, type := 4, pos := "law.go:77", after := #[{ on := 6, ground := Go.Ground.data }, { on := 13, ground := Go.Ground.data }], guard := none }) (v := _) rfl (by kernel_rfl) (by kernel_rfl) (by kernel_rfl) (fun _ _ _ h => h) (by kernel_rfl) (Or.inl ⟨by rfl, ?hy82⟩) hS7 ?rest82
                  case hy82 => (intro W hSw; go_simp; try (with_reducible rfl))
                  try simp only [Act.put, List.setIfInBounds_toArray, List.set_cons_zero, List.set_cons_succ]
                  refine' wpAnyD_take (i := 15) (oi := { dst := some 8, op := Go.Op.assign (Go.Operand.tmp 68), type := 4, pos := "law.go:77", after := #[{ on := 14, ground := Go.Ground.data }, { on := 13, ground := Go.Ground.chain }, { on := 0, ground := Go.Ground.phase }, { on := 1, ground := Go.Ground.phase }, { on := 2, ground := Go.Ground.phase }, { on := 3, ground := Go.Ground.phase }, { on := 4, ground := Go.Ground.phase }, { on := 5, ground := Go.Ground.phase }, { on := 6, ground := Go.Ground.phase }, { on := 7, ground := Go.Ground.phase }, { on := 8, ground := Go.Ground.phase }, { on := 9, ground := Go.Ground.phase }, { on := 10, ground := Go.Ground.phase }, { on := 11, ground := Go.Ground.phase }, { on := 12, ground := Go.Ground.phase }, { on := 13, ground := Go.Ground.phase }, { on := 14, ground := Go.Ground.phase }], guard := none }) (v := _) rfl (by kernel_rfl) (by kernel_rfl) (by kernel_rfl) (fun _ _ _ h => h) (by kernel_rfl) (Or.inl ⟨by rfl, ?hy83⟩) hS7 ?rest83
                  case hy83 => (intro W hSw; go_simp; try (with_reducible rfl))
                  try simp only [Act.put, List.setIfInBounds_toArray, List.set_cons_zero, List.set_cons_succ]
                  refine wpAnyD_done (by kernel_rfl) ?_ _
                  have SN := hid ((S5.out.gr (Gr.refl W5).drew).same hj2 O7.out K7o.out rfl rfl (fun k hk => by
                    rcases hk with hk | hk | hk
                    · exact Or.inl (Or.inl hk)
                    · exact Or.inl (Or.inr (Or.inl hk))
                    · rcases N7h.out k hk with h | h
                      · exact Or.inl (Or.inr (Or.inr h))
                      · exact Or.inr (Nat.le_trans K6o.out.size h)) ⟨MX.out.2.2.2.2.1, by rw [List.length_append]; exact MX.out.2.2.2.2.2⟩)
                  have BX7 : Hid (w7.heap[X]? = some (.cells (ob o) 38 (0, 0))) := (K7o.out.block X zX (XO.out j hj2)).trans HBO.out
                  clear hS0 hS6 hS7 AD KEEP L6h R6 L7 K6o K7o O7 N7h
                  go_wp2_with fail
                  go_meet
                  obtain ⟨ow', hsn⟩ := SN.out
                  exact ⟨rfl, _, ow', hsn, BX7.out⟩
                · have kb1 : (o.k == 1) = false := by simp [k1]
                  clear k1
                  by_cases k2 : o.k = 2
                  · have kb2 : (o.k == 2) = true := by simp [k2]
                    clear k2
                    have hc := clear_any W5 OKj.out.l
                    go_wp2_with fail
                    refine hc.mono ?_
                    rintro e w6 ⟨b', rfl, hb', L6, K6⟩
                    have K6o : Hid (Kp (ps j).own W5 w6) := K6.mono (fun k hk => Or.inl (Or.inr (Or.inl hk)))
                    have R6 := hid (OKj.out.rK K6 (fun k hk => Or.inr (Or.inl hk)))
                    have L6h := hid L6
                    have cb6 := (K6o.out.cell zB NA.2).trans cb
                    have zB6 := Nat.lt_of_lt_of_le zB K6o.out.size
                    have cr6 := R6.out.c0
                    have fr6 := R6.out.fz
                    have zr6 := R6.out.lt
                    obtain ⟨q1, q2, q3⟩ := setCell_blk (k := 0) (v := .slice none 0 0) R6.out.blk
                    have O7 : Hid (Ok1 ⟨(ps j).lb, (ps j).tb, b', 0, (ps j).rb, .slice none 0 0, []⟩ (w6.setCell ⟨(ps j).rb, 0, none⟩ (.slice none 0 0))) := ⟨lK L6 R6.out (q2.mono (fun _ h => Or.inl h)), ⟨q1, World.ownsRow_nil _ _ _ _, by simp [Value.ownBlock]⟩, Ones.nil⟩
                    have K7o := hid (K6o.out.trans (q2.mono (T := (ps j).own) (fun k hk => Or.inr (Or.inl hk))) (fun _ _ h => h))
                    have SN := hid (S5.out.same hj2 O7.out K7o.out rfl rfl (fun k hk => by
                      rcases hk with hk | hk | hk
                      · rcases hk with hk | hk | hk
                        · exact Or.inl (Or.inl (Or.inl hk))
                        · exact Or.inl (Or.inl (Or.inr (Or.inl hk)))
                        · have hk : k = b' := hk
                          exact Or.inr (by rw [hk]; exact hb')
                      · exact Or.inl (Or.inr (Or.inl hk))
                      · simp [Value.ownBlock] at hk) ⟨Nat.zero_le _, Nat.zero_le _⟩)
                    have BX7 : Hid ((w6.setCell ⟨(ps j).rb, 0, none⟩ (.slice none 0 0)).heap[X]? = some (.cells (ob o) 38 (0, 0))) := (K7o.out.block X zX (XO.out j hj2)).trans HBO.out
                    clear hc L6 K6 q1 q2 q3 O7 K7o R6 L6h
                    go_wp2_with fail
                    go_meet
                    obtain ⟨ow', hsn⟩ := SN.out
                    exact ⟨rfl, _, ow', hsn, BX7.out⟩
                  · have kb2 : (o.k == 2) = false := by simp [k2]
                    clear k2
                    by_cases k3 : o.k = 3
                    · have kb3 : (o.k == 3) = true := by simp [k3]
                      clear k3
                      have OKq := hid (S5.out.ok jo hjo2)
                      have da := S5.out.cellA hjo2
                      have db := S5.out.cellB hjo2
                      have hAB : A ≠ B := fun e => by have h1 := S5.out.ta; have h2 := S5.out.tb; rw [e] at h1; omega
                      have NQ : ¬ (ps jo).own A ∧ ¬ (ps jo).own B := ⟨fun e => by have h1 := S5.out.tg jo hjo2 A e; have h2 := S5.out.ta; omega, fun e => by have h1 := S5.out.tg jo hjo2 B e; have h2 := S5.out.tb; omega⟩
                      have MQ := hid (maxl (S5.out.nn jo hjo2) hi6)
                      have hc := copy_any W5 OKq.out.l
                      go_wp2_with fail
                      refine hc.mono ?_
                      rintro e w6 ⟨lb', tb', b', rfl, ho6, L6, hb6⟩
                      have ba6 := (hb6.block A zA).trans S5.out.ba
                      have zA6 := Nat.lt_of_lt_of_le zA hb6.size
                      have ca6 := (hb6.cell (p := ⟨A, j, none⟩) zA).trans ca
                      have fa6 : w6.frozen? ⟨A, j, none⟩ = false := by simp [World.frozen?, ba6]
                      obtain ⟨q1, q2, q3⟩ := setCell_blk (k := j) (v := lp lb') ba6
                      obtain ⟨w7, hw7⟩ : ∃ W, W = w6.setCell ⟨A, j, none⟩ (lp lb') := ⟨_, rfl⟩
                      rw [← hw7] at q1 q2 q3
                      have R7 := (OKq.out.r.below hb6).kp q2 (fun e => NQ.1 (Or.inr (Or.inl e.symm))) (fun k hk e => NQ.1 (by rw [← e]; exact Or.inr (Or.inr hk)))
                      have hr := rcopy_any w7 R7 MQ.out.2.2.2.1
                      have cb7 := ((q2.cell (Nat.lt_of_lt_of_le zB hb6.size) (fun e => hAB e.symm)).trans (hb6.cell (p := ⟨B, jo, none⟩) zB)).trans db
                      have zB7 : B < w7.heap.size := by rw [q3]; exact Nat.lt_of_lt_of_le zB hb6.size
                      have L7 := hid (L6.kp q2 (fun e => by have := ho6 _ (Or.inl rfl); omega) (fun e => by have := ho6 _ (Or.inr (Or.inl rfl)); omega) (fun e => by have := ho6 _ (Or.inr (Or.inr rfl)); omega))
                      have K7 := hid ((Kp.of_below (S := fun k => (ps j).own k ∨ k = A ∨ k = B) hb6).trans (q2.mono (fun k hk => Or.inr (Or.inl hk))) (fun _ _ h => h))
                      have bb7 := ((q2.block B (Nat.lt_of_lt_of_le zB hb6.size) (fun e => hAB e.symm)).trans (hb6.block B zB)).trans S5.out.bb
                      have HO6 := hid ho6
                      have A7 := hid q1
                      clear hc ho6 L6 hb6 q1 q2 q3 R7
                      go_upto_region 21 with fail
                      rw [← hw7]
                      clear hw7
                      go_wp2_with fail
                      refine hr.mono ?_
                      rintro e w8 ⟨rb', v', rfl, hz8, hn8, R8, hb8⟩
                      have bb8 := (hb8.block B zB7).trans bb7
                      have zB8 := Nat.lt_of_lt_of_le zB7 hb8.size
                      have fb8 : w8.frozen? ⟨B, j, none⟩ = false := by simp [World.frozen?, bb8]
                      have cb8 : w8.cell? ⟨B, j, none⟩ = some (rp (ps j).rb) := by
                        have : j = 0 ∨ j = 1 := by omega
                        rcases this with rfl | rfl <;> (simp only [World.cell?, bb8]; rfl)
                      obtain ⟨q1, q2, q3⟩ := setCell_blk (k := j) (v := rp rb') bb8
                      have zA7 := K7.out.size
                      have O9 : Hid (Ok1 ⟨lb', tb', b', (ps jo).n, rb', v', (ps jo).C⟩ (w8.setCell ⟨B, j, none⟩ (rp rb'))) := by
                        refine ⟨(L7.out.below hb8).kp q2 (fun e => ?_) (fun e => ?_) (fun e => ?_), R8.kp q2 (fun e => ?_) (fun k hk e => ?_), OKq.out.o⟩
                        · have := HO6.out _ (Or.inl rfl); omega
                        · have := HO6.out _ (Or.inr (Or.inl rfl)); omega
                        · have := HO6.out _ (Or.inr (Or.inr rfl)); omega
                        · have e : rb' = B := e
                          omega
                        · have := hn8 k hk
                          omega
                      have K9 := hid ((K7.out.trans (Kp.of_below (S := fun _ => False) hb8) (fun _ _ h => h.elim)).trans (q2.mono (fun k hk => Or.inr (Or.inr hk) : ∀ k, k = B → (ps j).own k ∨ k = A ∨ k = B)) (fun _ _ h => h))
                      have zA7' : A < w7.heap.size := Nat.lt_of_lt_of_le zA K7.out.size
                      have SN := hid (S5.out.turn hj2 O9.out K9.out (by
                        rw [q2.block A (Nat.lt_of_lt_of_le zA7' hb8.size) hAB, hb8.block A zA7', A7.out]
                        have : j = 0 ∨ j = 1 := by omega
                        rcases this with rfl | rfl <;> simp [bkA, updP]) (by
                        rw [q1]
                        have : j = 0 ∨ j = 1 := by omega
                        rcases this with rfl | rfl <;> simp [bkB, updP]) (fun k hk => Or.inr (by
                        rcases hk with hk | hk | hk
                        · exact HO6.out k hk
                        · have hk : k = rb' := hk
                          omega
                        · have := hn8 k hk
                          omega)) ⟨Nat.le_trans (S5.out.nn jo hjo2).1 (Nat.le_succ _), Nat.le_trans (S5.out.nn jo hjo2).2 (Nat.le_succ _)⟩)
                      have BX9 : Hid ((w8.setCell ⟨B, j, none⟩ (rp rb')).heap[X]? = some (.cells (ob o) 38 (0, 0))) := (K9.out.block X zX (fun e => by
                        rcases e with e | e | e
                        · exact XO.out j hj2 e
                        · exact XA.out.1 e
                        · exact XA.out.2 e)).trans HBO.out
                      clear hr R8 hb8 q1 q2 q3 O9 K9 K7 L7 A7 HO6 hn8 hz8
                      go_wp2_with fail
                      go_meet
                      obtain ⟨ow', hsn⟩ := SN.out
                      exact ⟨rfl, _, ow', hsn, BX9.out⟩
                    · have kb3 : (o.k == 3) = false := by simp [k3]
                      clear k3
                      go_wp2_with fail
                      go_meet
                      exact ⟨rfl, ps, ow, S5.out.mono (Nat.le_succ _), HBO.out⟩
            case rest =>
              obtain ⟨rfl, ps9, ow9, S9, HX9⟩ := hcut
              obtain ⟨W9, hW9⟩ : ∃ W, W = wc := ⟨_, rfl⟩
              rw [← hW9] at S9 HX9 ⊢
              clear hW9 S5 XO XA HBO t0' t1' t2 t3 t4 t5 zX
              obtain ⟨-, -, t2, t3, t4, t5⟩ := ob_cells HX9.out
              have zX := (Array.getElem?_eq_some_iff.1 HX9.out).1
              have ca := S9.out.cellA hj2
              have cb := S9.out.cellB hj2
              have da := S9.out.cellA hjo2
              have db := S9.out.cellB hjo2
              have zA := S9.out.ltA
              have zB := S9.out.ltB
              have hS0 : Below W9.heap.size W9 W9.drew := (Gr.refl W9).drew.below
              have hi7 : i + 1 ≤ 401 := by omega
              have hq0 : ∀ W', Below W9.heap.size W9 W' → Calls Try.prog 21 #[lp (ps9 j).lb, rp (ps9 j).rb, mv o.s] W' fun e w' => e = .returned (.bool true) ∧ Below W'.heap.size W' w' := fun W' h => alike_any o.s W' ((S9.out.ok j hj2).below h).l ((S9.out.ok j hj2).below h).r (S9.out.ok j hj2).o (few (S9.out.nn j hj2) hi7).1 (few (S9.out.nn j hj2) hi7).2
              have hq1 : ∀ W', Below W9.heap.size W9 W' → Calls Try.prog 21 #[lp (ps9 jo).lb, rp (ps9 jo).rb, mv o.s] W' fun e w' => e = .returned (.bool true) ∧ Below W'.heap.size W' w' := fun W' h => alike_any o.s W' ((S9.out.ok jo hjo2).below h).l ((S9.out.ok jo hjo2).below h).r (S9.out.ok jo hjo2).o (few (S9.out.nn jo hjo2) hi7).1 (few (S9.out.nn jo hjo2) hi7).2
              go_upto_region 22 with fail
              refine wp_regionD (S := fun W => Below W9.heap.size W9 W) (D := []) hmx ?_
              refine' wpAnyD_take (i := 0) (oi := { dst := some 102, op := Go.Op.move (Go.Operand.tmp 8), type := 4, pos := "law.go:85", after := #[], guard := none }) (v := _) rfl (by kernel_rfl) (by kernel_rfl) (by kernel_rfl) (fun _ _ _ h => h) (by kernel_rfl) (Or.inl ⟨by rfl, ?hy20⟩) hS0 ?rest20
              case hy20 => (intro W hSw; go_simp; try (with_reducible rfl))
              try simp only [Act.put, List.setIfInBounds_toArray, List.set_cons_zero, List.set_cons_succ]
              refine' wpAnyD_take (i := 1) (oi := { dst := some 103, op := Go.Op.unOp Go.UnOp.not 4 (Go.Operand.tmp 102), type := 4, pos := "law.go:85", after := #[{ on := 0, ground := Go.Ground.data }], guard := none }) (v := _) rfl (by kernel_rfl) (by kernel_rfl) (by kernel_rfl) (fun _ _ _ h => h) (by kernel_rfl) (Or.inl ⟨by rfl, ?hy21⟩) hS0 ?rest21
              case hy21 => (intro W hSw; go_simp; try (with_reducible rfl))
              try simp only [Act.put, List.setIfInBounds_toArray, List.set_cons_zero, List.set_cons_succ]
              refine' wpAnyD_take (i := 2) (oi := { dst := some 104, op := Go.Op.move (Go.Operand.tmp 103), type := 4, pos := "law.go:85", after := #[{ on := 1, ground := Go.Ground.data }], guard := none }) (v := _) rfl (by kernel_rfl) (by kernel_rfl) (by kernel_rfl) (fun _ _ _ h => h) (by kernel_rfl) (Or.inl ⟨by rfl, ?hy22⟩) hS0 ?rest22
              case hy22 => (intro W hSw; go_simp; try (with_reducible rfl))
              try simp only [Act.put, List.setIfInBounds_toArray, List.set_cons_zero, List.set_cons_succ]
              refine' wpAnyD_take (i := 3) (oi := { dst := some 105, op := Go.Op.move (Go.Operand.tmp 3), type := 50, pos := "law.go:85", after := #[{ on := 2, ground := Go.Ground.guard }], guard := some (2, false) }) (v := _) rfl (by kernel_rfl) (by kernel_rfl) (by kernel_rfl) (fun _ _ _ h => h) (by kernel_rfl) (Or.inl ⟨by rfl, ?hy23⟩) hS0 ?rest23
              case hy23 => (intro W hSw; go_simp; try (with_reducible rfl))
              try simp only [Act.put, List.setIfInBounds_toArray, List.set_cons_zero, List.set_cons_succ]
              refine' wpAnyD_take (i := 4) (oi := { dst := some 106, op := Go.Op.move (Go.Operand.tmp 7), type := 3, pos := "law.go:85", after := #[{ on := 2, ground := Go.Ground.guard }], guard := some (2, false) }) (v := _) rfl (by kernel_rfl) (by kernel_rfl) (by kernel_rfl) (fun _ _ _ h => h) (by kernel_rfl) (Or.inl ⟨by rfl, ?hy24⟩) hS0 ?rest24
              case hy24 => (intro W hSw; go_simp; try (with_reducible rfl))
              try simp only [Act.put, List.setIfInBounds_toArray, List.set_cons_zero, List.set_cons_succ]
              refine' wpAnyD_take (i := 5) (oi := { dst := some 107, op := Go.Op.indexAddr 50 (Go.Operand.tmp 105) (Go.Operand.tmp 106), type := 0, pos := "law.go:85", after := #[{ on := 3, ground := Go.Ground.data }, { on := 4, ground := Go.Ground.data }, { on := 2, ground := Go.Ground.guard }], guard := some (2, false) }) (v := _) rfl (by kernel_rfl) (by kernel_rfl) (by kernel_rfl) (fun _ _ _ h => h) (by kernel_rfl) (Or.inl ⟨by rfl, ?hy25⟩) hS0 ?rest25
              case hy25 => (intro W hSw; go_simp; try (with_reducible rfl))
              try simp only [Act.put, List.setIfInBounds_toArray, List.set_cons_zero, List.set_cons_succ]
              refine' wpAnyD_take (i := 6) (oi := { dst := some 108, op := Go.Op.load 24 (Go.Operand.tmp 107), type := 24, pos := "law.go:85", after := #[{ on := 5, ground := Go.Ground.data }, { on := 2, ground := Go.Ground.guard }], guard := some (2, false) }) (v := _) rfl (by kernel_rfl) (by kernel_rfl) (by kernel_rfl) (fun _ _ _ h => h) (by kernel_rfl) (Or.inl ⟨by rfl, ?hy26⟩) hS0 ?rest26
              case hy26 => (intro W hSw; have h0 := (hSw.cell (p := ⟨A, j, none⟩) zA).trans ca; go_simp; try (with_reducible rfl))
              try simp only [Act.put, List.setIfInBounds_toArray, List.set_cons_zero, List.set_cons_succ]
              refine' wpAnyD_take (i := 7) (oi := { dst := some 109, op := Go.Op.move (Go.Operand.tmp 4), type := 54, pos := "law.go:85", after := #[{ on := 2, ground := Go.Ground.guard }], guard := some (2, false) }) (v := _) rfl (by kernel_rfl) (by kernel_rfl) (by kernel_rfl) (fun _ _ _ h => h) (by kernel_rfl) (Or.inl ⟨by rfl, ?hy27⟩) hS0 ?rest27
              case hy27 => (intro W hSw; go_simp; try (with_reducible rfl))
              try simp only [Act.put, List.setIfInBounds_toArray, List.set_cons_zero, List.set_cons_succ]
              refine' wpAnyD_take (i := 8) (oi := { dst := some 110, op := Go.Op.move (Go.Operand.tmp 7), type := 3, pos := "law.go:85", after := #[{ on := 2, ground := Go.Ground.guard }], guard := some (2, false) }) (v := _) rfl (by kernel_rfl) (by kernel_rfl) (by kernel_rfl) (fun _ _ _ h => h) (by kernel_rfl) (Or.inl ⟨by rfl, ?hy28⟩) hS0 ?rest28
              case hy28 => (intro W hSw; go_simp; try (with_reducible rfl))
              try simp only [Act.put, List.setIfInBounds_toArray, List.set_cons_zero, List.set_cons_succ]
              refine' wpAnyD_take (i := 9) (oi := { dst := some 111, op := Go.Op.indexAddr 54 (Go.Operand.tmp 109) (Go.Operand.tmp 110), type := 0, pos := "law.go:85", after := #[{ on := 7, ground := Go.Ground.data }, { on := 8, ground := Go.Ground.data }, { on := 2, ground := Go.Ground.guard }], guard := some (2, false) }) (v := _) rfl (by kernel_rfl) (by kernel_rfl) (by kernel_rfl) (fun _ _ _ h => h) (by kernel_rfl) (Or.inl ⟨by rfl, ?hy29⟩) hS0 ?rest29
              case hy29 => (intro W hSw; go_simp; try (with_reducible rfl))
              try simp only [Act.put, List.setIfInBounds_toArray, List.set_cons_zero, List.set_cons_succ]
              refine' wpAnyD_take (i := 10) (oi := { dst := some 112, op := Go.Op.load 51 (Go.Operand.tmp 111), type := 51, pos := "law.go:85", after := #[{ on := 9, ground := Go.Ground.data }, { on := 2, ground := Go.Ground.guard }], guard := some (2, false) }) (v := _) rfl (by kernel_rfl) (by kernel_rfl) (by kernel_rfl) (fun _ _ _ h => h) (by kernel_rfl) (Or.inl ⟨by rfl, ?hy30⟩) hS0 ?rest30
              case hy30 => (intro W hSw; have h0 := (hSw.cell (p := ⟨B, j, none⟩) zB).trans cb; go_simp; try (with_reducible rfl))
              try simp only [Act.put, List.setIfInBounds_toArray, List.set_cons_zero, List.set_cons_succ]
              refine' wpAnyD_take (i := 11) (oi := { dst := some 113, op := Go.Op.fieldAddr 38 (Go.Operand.tmp 6) 2, type := 0, pos := "law.go:85", after := #[{ on := 2, ground := Go.Ground.guard }], guard := some (2, false) }) (v := _) rfl (by kernel_rfl) (by kernel_rfl) (by kernel_rfl) (fun _ _ _ h => h) (by kernel_rfl) (Or.inl ⟨by rfl, ?hy31⟩) hS0 ?rest31
              case hy31 => (intro W hSw; go_simp; try (with_reducible rfl))
              try simp only [Act.put, List.setIfInBounds_toArray, List.set_cons_zero, List.set_cons_succ]
              refine' wpAnyD_take (i := 12) (oi := { dst := some 114, op := Go.Op.load 35 (Go.Operand.tmp 113), type := 35, pos := "law.go:85", after := #[{ on := 11, ground := Go.Ground.data }, { on := 2, ground := Go.Ground.guard }], guard := some (2, false) }) (v := _) rfl (by kernel_rfl) (by kernel_rfl) (by kernel_rfl) (fun _ _ _ h => h) (by kernel_rfl) (Or.inl ⟨by rfl, ?hy32⟩) hS0 ?rest32
              case hy32 => (intro W hSw; have h0 := (hSw.cell (p := ⟨X, 2, none⟩) zX).trans t2; have h1 := (hSw.cell (p := ⟨X, 3, none⟩) zX).trans t3; have h2 := (hSw.cell (p := ⟨X, 4, none⟩) zX).trans t4; have h3 := (hSw.cell (p := ⟨X, 5, none⟩) zX).trans t5; go_simp; try (with_reducible rfl))
              try simp only [Act.put, List.setIfInBounds_toArray, List.set_cons_zero, List.set_cons_succ]
              refine wpAnyD_one (i := 13) (o := { dst := some 115, op := Go.Op.call { callee := Go.Callee.value (Go.Operand.func 21), args := #[Go.Operand.tmp 108, Go.Operand.tmp 112, Go.Operand.tmp 114], argTypes := #[24, 51, 35] }, type := 4, pos := "law.go:85", after := #[{ on := 6, ground := Go.Ground.data }, { on := 10, ground := Go.Ground.data }, { on := 12, ground := Go.Ground.data }, { on := 2, ground := Go.Ground.chain }, { on := 2, ground := Go.Ground.guard }], guard := some (2, false) }) (by kernel_rfl) rfl (fun K hK => ?_)
              go_simp
              refine (hq0 _ hS0).mono ?_
              rintro e wf13 ⟨rfl, bf13⟩
              have hSf13 := (hS0).trans (bf13.mono (hS0).size)
              clear bf13
              go_wp2_with fail
              refine hK.out _ _ (fun hD => hSf13) ?_
              clear hK K
              try simp only [Act.put, List.setIfInBounds_toArray, List.set_cons_zero, List.set_cons_succ]
              refine' wpAnyD_take (i := 14) (oi := { dst := some 116, op := Go.Op.unOp Go.UnOp.not 4 (Go.Operand.tmp 115), type := 4, pos := "law.go:85", after := #[{ on := 13, ground := Go.Ground.data }, { on := 2, ground := Go.Ground.guard }], guard := some (2, false) }) (v := _) rfl (by kernel_rfl) (by kernel_rfl) (by kernel_rfl) (fun _ _ _ h => h) (by kernel_rfl) (Or.inl ⟨by rfl, ?hy34⟩) hSf13 ?rest34
              case hy34 => (intro W hSw; go_simp; try (with_reducible rfl))
              try simp only [Act.put, List.setIfInBounds_toArray, List.set_cons_zero, List.set_cons_succ]
              refine' wpAnyD_take (i := 15) (oi := { dst := some 117, op := Go.Op.pick (Go.Operand.tmp 104) (Go.Operand.const (Go.Value.bool true)) (Go.Operand.tmp 116), type := 4, pos := "law.go:85", after := #[{ on := 2, ground := Go.Ground.data }, { on := 14, ground := Go.Ground.data }], guard := none }) (v := _) rfl (by kernel_rfl) (by kernel_rfl) (by kernel_rfl) (fun _ _ _ h => h) (by kernel_rfl) (Or.inl ⟨by rfl, ?hy35⟩) hSf13 ?rest35
              case hy35 => (intro W hSw; go_simp; try (with_reducible rfl))
              try simp only [Act.put, List.setIfInBounds_toArray, List.set_cons_zero, List.set_cons_succ]
              refine' wpAnyD_take (i := 16) (oi := { dst := some 118, op := Go.Op.move (Go.Operand.tmp 117), type := 4, pos := "law.go:85", after := #[{ on := 15, ground := Go.Ground.data }, { on := 13, ground := Go.Ground.chain }], guard := none }) (v := _) rfl (by kernel_rfl) (by kernel_rfl) (by kernel_rfl) (fun _ _ _ h => h) (by kernel_rfl) (Or.inl ⟨by rfl, ?hy36⟩) hSf13 ?rest36
              case hy36 => (intro W hSw; go_simp; try (with_reducible rfl))
              try simp only [Act.put, List.setIfInBounds_toArray, List.set_cons_zero, List.set_cons_succ]
              refine' wpAnyD_take (i := 17) (oi := { dst := some 119, op := Go.Op.move (Go.Operand.tmp 3), type := 50, pos := "law.go:85", after := #[{ on := 16, ground := Go.Ground.guard }], guard := some (16, false) }) (v := _) rfl (by kernel_rfl) (by kernel_rfl) (by kernel_rfl) (fun _ _ _ h => h) (by kernel_rfl) (Or.inl ⟨by rfl, ?hy37⟩) hSf13 ?rest37
              case hy37 => (intro W hSw; go_simp; try (with_reducible rfl))
              try simp only [Act.put, List.setIfInBounds_toArray, List.set_cons_zero, List.set_cons_succ]
              refine' wpAnyD_take (i := 18) (oi := { dst := some 120, op := Go.Op.move (Go.Operand.tmp 7), type := 3, pos := "law.go:85", after := #[{ on := 16, ground := Go.Ground.guard }], guard := some (16, false) }) (v := _) rfl (by kernel_rfl) (by kernel_rfl) (by kernel_rfl) (fun _ _ _ h => h) (by kernel_rfl) (Or.inl ⟨by rfl, ?hy38⟩) hSf13 ?rest38
              case hy38 => (intro W hSw; go_simp; try (with_reducible rfl))
              try simp only [Act.put, List.setIfInBounds_toArray, List.set_cons_zero, List.set_cons_succ]
              refine' wpAnyD_take (i := 19) (oi := { dst := some 121, op := Go.Op.binOp Go.BinOp.sub 3 (Go.Operand.const (Go.Value.int Go.IntKind.i64 1)) (Go.Operand.tmp 120) 3, type := 3, pos := "law.go:85", after := #[{ on := 18, ground := Go.Ground.data }, { on := 16, ground := Go.Ground.guard }], guard := some (16, false) }) (v := _) rfl (by kernel_rfl) (by kernel_rfl) (by kernel_rfl) (fun _ _ _ h => h) (by kernel_rfl) (Or.inl ⟨by rfl, ?hy39⟩) hSf13 ?rest39
              case hy39 => (intro W hSw; go_simp; try (with_reducible rfl))
              try simp only [Act.put, List.setIfInBounds_toArray, List.set_cons_zero, List.set_cons_succ]
              refine' wpAnyD_take (i := 20) (oi := { dst := some 122, op := Go.Op.indexAddr 50 (Go.Operand.tmp 119) (Go.Operand.tmp 121), type := 0, pos := "law.go:85", after := #[{ on := 17, ground := Go.Ground.data }, { on := 19, ground := Go.Ground.data }, { on := 16, ground := Go.Ground.guard }], guard := some (16, false) }) (v := _) rfl (by kernel_rfl) (by kernel_rfl) (by kernel_rfl) (fun _ _ _ h => h) (by kernel_rfl) (Or.inl ⟨by rfl, ?hy40⟩) hSf13 ?rest40
              case hy40 => (intro W hSw; go_simp; try (with_reducible rfl))
              try simp only [Act.put, List.setIfInBounds_toArray, List.set_cons_zero, List.set_cons_succ]
              refine' wpAnyD_take (i := 21) (oi := { dst := some 123, op := Go.Op.load 24 (Go.Operand.tmp 122), type := 24, pos := "law.go:85", after := #[{ on := 20, ground := Go.Ground.data }, { on := 16, ground := Go.Ground.guard }], guard := some (16, false) }) (v := _) rfl (by kernel_rfl) (by kernel_rfl) (by kernel_rfl) (fun _ _ _ h => h) (by kernel_rfl) (Or.inl ⟨by rfl, ?hy41⟩) hSf13 ?rest41
              case hy41 => (intro W hSw; have h0 := (hSw.cell (p := ⟨A, jo, none⟩) zA).trans da; go_simp; try (with_reducible rfl))
              try simp only [Act.put, List.setIfInBounds_toArray, List.set_cons_zero, List.set_cons_succ]
              refine' wpAnyD_take (i := 22) (oi := { dst := some 124, op := Go.Op.move (Go.Operand.tmp 4), type := 54, pos := "law.go:85", after := #[{ on := 16, ground := Go.Ground.guard }], guard := some (16, false) }) (v := _) rfl (by kernel_rfl) (by kernel_rfl) (by kernel_rfl) (fun _ _ _ h => h) (by kernel_rfl) (Or.inl ⟨by rfl, ?hy42⟩) hSf13 ?rest42
              case hy42 => (intro W hSw; go_simp; try (with_reducible rfl))
              try simp only [Act.put, List.setIfInBounds_toArray, List.set_cons_zero, List.set_cons_succ]
              refine' wpAnyD_take (i := 23) (oi := { dst := some 125, op := Go.Op.move (Go.Operand.tmp 7), type := 3, pos := "law.go:85", after := #[{ on := 16, ground := Go.Ground.guard }], guard := some (16, false) }) (v := _) rfl (by kernel_rfl) (by kernel_rfl) (by kernel_rfl) (fun _ _ _ h => h) (by kernel_rfl) (Or.inl ⟨by rfl, ?hy43⟩) hSf13 ?rest43
              case hy43 => (intro W hSw; go_simp; try (with_reducible rfl))
              try simp only [Act.put, List.setIfInBounds_toArray, List.set_cons_zero, List.set_cons_succ]
              refine' wpAnyD_take (i := 24) (oi := { dst := some 126, op := Go.Op.binOp Go.BinOp.sub 3 (Go.Operand.const (Go.Value.int Go.IntKind.i64 1)) (Go.Operand.tmp 125) 3, type := 3, pos := "law.go:85", after := #[{ on := 23, ground := Go.Ground.data }, { on := 16, ground := Go.Ground.guard }], guard := some (16, false) }) (v := _) rfl (by kernel_rfl) (by kernel_rfl) (by kernel_rfl) (fun _ _ _ h => h) (by kernel_rfl) (Or.inl ⟨by rfl, ?hy44⟩) hSf13 ?rest44
              case hy44 => (intro W hSw; go_simp; try (with_reducible rfl))
              try simp only [Act.put, List.setIfInBounds_toArray, List.set_cons_zero, List.set_cons_succ]
              refine' wpAnyD_take (i := 25) (oi := { dst := some 127, op := Go.Op.indexAddr 54 (Go.Operand.tmp 124) (Go.Operand.tmp 126), type := 0, pos := "law.go:85", after := #[{ on := 22, ground := Go.Ground.data }, { on := 24, ground := Go.Ground.data }, { on := 16, ground := Go.Ground.guard }], guard := some (16, false) }) (v := _) rfl (by kernel_rfl) (by kernel_rfl) (by kernel_rfl) (fun _ _ _ h => h) (by kernel_rfl) (Or.inl ⟨by rfl, ?hy45⟩) hSf13 ?rest45
              case hy45 => (intro W hSw; go_simp; try (with_reducible rfl))
              try simp only [Act.put, List.setIfInBounds_toArray, List.set_cons_zero, List.set_cons_succ]
              refine' wpAnyD_take (i := 26) (oi := { dst := some 128, op := Go.Op.load 51 (Go.Operand.tmp 127), type := 51, pos := "law.go:85", after := #[{ on := 25, ground := Go.Ground.data }, { on := 16, ground := Go.Ground.guard }], guard := some (16, false) }) (v := _) rfl (by kernel_rfl) (by kernel_rfl) (by kernel_rfl) (fun _ _ _ h => h) (by kernel_rfl) (Or.inl ⟨by rfl, ?hy46⟩) hSf13 ?rest46
              case hy46 => (intro W hSw; have h0 := (hSw.cell (p := ⟨B, jo, none⟩) zB).trans db; go_simp; try (with_reducible rfl))
              try simp only [Act.put, List.setIfInBounds_toArray, List.set_cons_zero, List.set_cons_succ]
              refine' wpAnyD_take (i := 27) (oi := { dst := some 129, op := Go.Op.fieldAddr 38 (Go.Operand.tmp 6) 2, type := 0, pos := "law.go:85", after := #[{ on := 16, ground := Go.Ground.guard }], guard := some (16, false) }) (v := _) rfl (by kernel_rfl) (by kernel_rfl) (by kernel_rfl) (fun _ _ _ h => h) (by kernel_rfl) (Or.inl ⟨by rfl, ?hy47⟩) hSf13 ?rest47
              case hy47 => (intro W hSw; go_simp; try (with_reducible rfl))
              try simp only [Act.put, List.setIfInBounds_toArray, List.set_cons_zero, List.set_cons_succ]
              refine' wpAnyD_take (i := 28) (oi := { dst := some 130, op := Go.Op.load 35 (Go.Operand.tmp 129), type := 35, pos := "law.go:85", after := #[{ on := 27, ground := Go.Ground.data }, { on := 16, ground := Go.Ground.guard }], guard := some (16, false) }) (v := _) rfl (by kernel_rfl) (by kernel_rfl) (by kernel_rfl) (fun _ _ _ h => h) (by kernel_rfl) (Or.inl ⟨by rfl, ?hy48⟩) hSf13 ?rest48
              case hy48 => (intro W hSw; have h0 := (hSw.cell (p := ⟨X, 2, none⟩) zX).trans t2; have h1 := (hSw.cell (p := ⟨X, 3, none⟩) zX).trans t3; have h2 := (hSw.cell (p := ⟨X, 4, none⟩) zX).trans t4; have h3 := (hSw.cell (p := ⟨X, 5, none⟩) zX).trans t5; go_simp; try (with_reducible rfl))
              try simp only [Act.put, List.setIfInBounds_toArray, List.set_cons_zero, List.set_cons_succ]
              refine wpAnyD_one (i := 29) (o := { dst := some 131, op := Go.Op.call { callee := Go.Callee.value (Go.Operand.func 21), args := #[Go.Operand.tmp 123, Go.Operand.tmp 128, Go.Operand.tmp 130], argTypes := #[24, 51, 35] }, type := 4, pos := "law.go:85", after := #[{ on := 21, ground := Go.Ground.data }, { on := 26, ground := Go.Ground.data }, { on := 28, ground := Go.Ground.data }, { on := 16, ground := Go.Ground.chain }, { on := 16, ground := Go.Ground.guard }], guard := some (16, false) }) (by kernel_rfl) rfl (fun K hK => ?_)
              go_simp
              refine (hq1 _ hSf13).mono ?_
              rintro e wf29 ⟨rfl, bf29⟩
              have hSf29 := (hSf13).trans (bf29.mono (hSf13).size)
              clear bf29
              go_wp2_with fail
              refine hK.out _ _ (fun hD => hSf29) ?_
              clear hK K
              try simp only [Act.put, List.setIfInBounds_toArray, List.set_cons_zero, List.set_cons_succ]
              refine' wpAnyD_take (i := 30) (oi := { dst := some 132, op := Go.Op.unOp Go.UnOp.not 4 (Go.Operand.tmp 131), type := 4, pos := "law.go:85", after := #[{ on := 29, ground := Go.Ground.data }, { on := 16, ground := Go.Ground.guard }], guard := some (16, false) }) (v := _) rfl (by kernel_rfl) (by kernel_rfl) (by kernel_rfl) (fun _ _ _ h => h) (by kernel_rfl) (Or.inl ⟨by rfl, ?hy50⟩) hSf29 ?rest50
              case hy50 => (intro W hSw; go_simp; try (with_reducible rfl))
              try simp only [Act.put, List.setIfInBounds_toArray, List.set_cons_zero, List.set_cons_succ]
              refine' wpAnyD_take (i := 31) (oi := { dst := some 133, op := Go.Op.pick (Go.Operand.tmp 118) (Go.Operand.const (Go.Value.bool true)) (Go.Operand.tmp 132), type := 4, pos := "law.go:85", after := #[{ on := 16, ground := Go.Ground.data }, { on := 30, ground := Go.Ground.data }], guard := none }) (v := _) rfl (by kernel_rfl) (by kernel_rfl) (by kernel_rfl) (fun _ _ _ h => h) (by kernel_rfl) (Or.inl ⟨by rfl, ?hy51⟩) hSf29 ?rest51
              case hy51 => (intro W hSw; go_simp; try (with_reducible rfl))
              try simp only [Act.put, List.setIfInBounds_toArray, List.set_cons_zero, List.set_cons_succ]
              refine wpAnyD_done (by kernel_rfl) ?_ _
              have SN := hid (S9.out.below hSf29)
              clear hS0 hSf13 hSf29 ca cb da db t2 t3 t4 t5 hq0 hq1
              go_wp2_with fail
              go_roundw
              case rel => exact ⟨i + 1, ps9, ow9, by omega, hi5, by go_num, SN.out⟩
              case measure => simp [RowKit.intOf]; omega
      · have hltz : ¬ (i : Int) < (sc.length : Int) := by omega
        go_wp2_with fail
        go_meet
        exact ⟨ps, i, ow, by omega, ST.out⟩
end Go.Proofs.Ytcmgmgnmhhkdgaa
