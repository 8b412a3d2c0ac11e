import Derived.Test.YtaaobchodbnkpaaQuScp0
import Derived.WalkMore
namespace Go.Proofs.Ytaaobchodbnkpaa.Qe
open Go.RowKit Go.Sort
attribute [local go_sem ↓] Go.wp_at_zero Go.wp_at_succ
theorem Ab.box {w w' : World} {tag : Nat → Nat} {a b qb rb N K kb mT mD k : Nat} (h : Ab w tag a b qb rb N K kb mT mD w') (hk : k < w.heap.size) (ha : tag k ≠ a) (hb : tag k ≠ b) (h3 : tag k ≠ 3) (h4 : tag k < 15) : w'.heap[k]? = w.heap[k]? := by
  obtain ⟨_, _, _, _, _, _, _, _, _, _, _, _, _, _, _, _, _, _, _, _, _, hn⟩ := h
  exact hn.kp.block k hk (fun e => by omega)
theorem Ab.size {w w' : World} {tag : Nat → Nat} {a b qb rb N K kb mT mD : Nat} (h : Ab w tag a b qb rb N K kb mT mD w') : w.heap.size ≤ w'.heap.size := by
  obtain ⟨_, _, _, _, _, _, _, _, _, _, _, _, _, _, _, _, _, _, _, _, _, hn⟩ := h
  exact hn.kp.size
theorem Sq.ans_any {w0 w : World} {tag : Nat → Nat} {m K N kb mT mD : Nat} {hb rb : Nat → Nat} {Q : Nat → Nat → List Ms} {L : Nat → List Ms} {sQ sR : Value} (h : Sq w0 w tag m K N kb mT mD hb rb Q L sQ sR) {i : Nat} (hi : i < m) (hK : K ≤ 900000) (hT : mT ≤ 1000000) (hD : mD ≤ 1000000) (hN : N ≤ 192) (kind on : Int) (x : Ms) : Calls Try.prog 17 #[.pointer (some ⟨hb i, 0, none⟩), .pointer (some ⟨rb i, 0, none⟩), opv kind on x, .pointer (some ⟨kb, 0, none⟩)] w fun e w' => e = .returned (.bool true) ∧ Hid (∃ nT nD, nT ≤ mT ∧ nD ≤ mD ∧ Ab w tag (4 + 2 * i) (5 + 2 * i) (hb i) (rb i) N (K + 1) kb (nT + 2) (nD + 2) w') := by
  obtain ⟨nT, nD, sT, sU, sD, sX, VT, VU, VD, VX, CT, CD, h1, h2, h3, h4⟩ := h.bk
  have hm := h.m4
  exact (Qe.ans_any (h.pr i hi) h1 (by omega) (by omega) (by omega) hK (by omega) (by omega) hN kind on x h4).mono fun e w' ⟨e1, e2⟩ => ⟨e1, nT, nD, h2, h3, e2.out⟩
set_option maxHeartbeats 32000000 in
set_option maxRecDepth 100000 in
theorem queueScript_any (n : Int) (v : Value) (sc : List St3) (w : World) (hL : Ls EOp w v sc) (hlen : sc.length ≤ 262144) : Calls Try.prog 5 #[.int .i64 n, v] w fun e w' => e = .returned (.bool true) ∧ Below w.heap.size w w' := by
  have hmx : Try.prog.follows .mixedOrders = true := by kernel_rfl
  obtain ⟨ps, cs, rfl⟩ := hL.form
  have HL := hid hL
  clear hL
  by_cases hw : ¬ (0 ≤ n ∧ n ≤ 192)
  · have h1 := newNo_any n w hw
    have h2 := rnewNo_any n w hw
    have h3 := known_any w
    clear hw
    go_enter Try.func5, Try.ntmps5
    go_wp2_with fail
    refine h1.mono ?_
    rintro e w1 ⟨rfl, rfl⟩
    go_wp2_with fail
    refine h2.mono ?_
    rintro e w2 ⟨rfl, rfl⟩
    go_wp2_with fail
    refine h3.mono ?_
    rintro e w3 ⟨rfl, hB3⟩
    have HB3 := hid hB3
    clear hB3
    go_wp2
    go_ret
    exact ⟨rfl, HB3.out⟩
  · obtain ⟨N, rfl⟩ : ∃ N : Nat, n = N := ⟨n.toNat, by omega⟩
    have hN : N ≤ 192 := by omega
    have h1 := new_any N w hN
    clear hw
    go_enter Try.func5, Try.ntmps5
    go_wp2_with fail
    refine h1.mono ?_
    rintro e w1 ⟨qb, rfl, P1⟩
    have h2 := rnew_any N w1 hN
    clear h1
    go_wp2_with fail
    refine h2.mono ?_
    rintro e w2 ⟨rb, rfl, P2⟩
    have h3 := known_any w2
    clear h2
    go_wp2_with fail
    refine h3.mono ?_
    rintro e w3 ⟨rfl, hB3⟩
    have HB3 := hid hB3
    clear hB3 h3
    obtain ⟨g3, hg3⟩ : ∃ g3, g3 = w3.heap.size := ⟨_, rfl⟩
    obtain ⟨kb, hkb⟩ : ∃ kb, kb = g3 + 2 := ⟨_, rfl⟩
    obtain ⟨w4, hw4⟩ : ∃ w4, w4 = ((w3.alloc (.cells #[.pointer (some ⟨qb, 0, none⟩)] 24)).alloc (.cells #[.pointer (some ⟨rb, 0, none⟩)] 55)).alloc (.cells #[.slice none 0 0, .slice none 0 0, .slice none 0 0, .slice none 0 0] 64) := ⟨_, rfl⟩
    have I4 := hid (Iv.init P1.out.2.1 P1.out.2.2 P2.out.2.1 P2.out.2.2 HB3.out hw4)
    rw [← hg3, ← hkb] at I4
    go_upto_region 10 with fail
    have hkb2 : g3 + 1 + 1 = kb := by rw [hkb]
    rw [← hw4, ← hg3, hkb2]
    clear hw4 hg3 P1 P2 HB3 hkb hkb2
    go_wp2_with fail
    go_loopw [9, 10, 12] (fun s9 s10 s12 wr => ∃ (i m : Nat) (pP pR : Option Addr) (cP cR : Nat), i ≤ sc.length ∧ s12 = .int .i64 i ∧ s9 = .slice pP m cP ∧ s10 = .slice pR m cR ∧ Hid (Iv w N kb i m (.slice pP m cP) (.slice pR m cR) wr)) (fun _ _ s12 _ => sc.length - (RowKit.intOf s12).toNat)
    case atStart => exact ⟨0, 1, _, _, _, _, Nat.zero_le _, rfl, rfl, rfl, I4⟩
    case round =>
      clear I4
      obtain ⟨i, m, pP, pR, cP, cR, hi, rfl, rfl, rfl, I⟩ := hrel
      have hm1 : 1 ≤ m := I.out.1
      have hm4 : m ≤ 4 := by obtain ⟨_, _, _, _, _, _, h⟩ := I.out; exact h.m4
      by_cases hlt : i < sc.length
      · have hltz : (i : Int) < (sc.length : Int) := by omega
        have i0 : (0 : Int) ≤ (i : Int) := by omega
        obtain ⟨tag, hbs, rbs, Q, L, hS⟩ := I.out.2
        obtain ⟨s, hs⟩ : ∃ s, sc[i]? = some s := ⟨sc[i], by rw [List.getElem?_eq_getElem]⟩
        obtain ⟨xa, xo, x⟩ := s
        obtain ⟨b2, o2, c2, e2, z2, x0, x1, x2, x3, x4, x5, x6, x7⟩ := opl_at (HL.out.below hS.bel) hs
        dsimp only at x0 x1 x2 x3 x4 x5 x6 x7
        simp only [Value.slice.injEq] at e2
        obtain ⟨rfl, -, rfl⟩ := e2
        obtain ⟨b1, hb1⟩ : ∃ b1, b1 = wr.heap.size := ⟨_, rfl⟩
        obtain ⟨W1, hWd1⟩ : ∃ W1, W1 = wr.alloc (.cells #[.int .i64 xa, .int .i64 xo, .int .i64 x.at_, .int .u64 x.a, .int .u64 x.b, .int .u64 x.c, .int .u64 x.k, .int .u64 x.v] 66) := ⟨_, rfl⟩
        have G1 : Gr wr W1 := by rw [hWd1]; exact (Gr.refl _).alloc _
        have X1 : Hid (W1.heap[b1]? = some (.cells #[.int .i64 xa, .int .i64 xo, .int .i64 x.at_, .int .u64 x.a, .int .u64 x.b, .int .u64 x.c, .int .u64 x.k, .int .u64 x.v] 66 (0, 0))) := by rw [hWd1, hb1]; exact heap_new' _ _
        have H0 : Hid (tg tag wr 0 b1 = 0) := tg_new (Nat.le_of_eq hb1.symm)
        have S1 := hid (hS.below G1.below 0)
        obtain ⟨tag1, ht1⟩ : ∃ tag1, tag1 = tg tag wr 0 := ⟨_, rfl⟩
        rw [← ht1] at S1 H0
        go_upto_region 14 with fail
        rw [← hWd1, ← hb1]
        clear hWd1 hb1 G1 x0 x1 x2 x3 x4 x5 x6 x7 z2 hs ht1 hS I
        obtain ⟨q5, q0, -⟩ := blk8 X1.out
        have hmz : ((m : Int) == 0) = false := by simp; omega
        have hr1 : -(m : Int) < xo.tmod m := Int.lt_tmod_of_pos xo (by omega)
        have hr2 : xo.tmod m < (m : Int) := Int.tmod_lt_of_pos xo (by omega)
        go_upto_if 65 with fail
        go_cut [14] (fun s14 w' => ∃ k : Nat, k < m ∧ s14 = .int .i64 k ∧ w' = W1)
        case first =>
          by_cases hneg : xo.tmod m < 0
          · go_wp2_with fail
            go_meet
            refine ⟨(xo.tmod m + m).toNat, by omega, ?_, rfl⟩
            rw [Int.toNat_of_nonneg (by omega)]
          · go_wp2_with fail
            go_meet
            refine ⟨(xo.tmod m).toNat, by omega, ?_, rfl⟩
            rw [Int.toNat_of_nonneg (by omega)]
        case rest =>
          obtain ⟨k, hkm, rfl, hwc⟩ := hcut
          rw [hwc]
          clear hwc hr1 hr2 hmz
          have k0 : (0 : Int) ≤ (k : Int) := by omega
          have kmz : (k : Int) < (m : Int) := by omega
          obtain ⟨gP, cP', eP, lP, cellP, tP⟩ := S1.out.ps.pts_at hkm
          obtain ⟨gR, cR', eR, lR, cellR, tR⟩ := S1.out.rs.pts_at hkm
          simp only [Value.slice.injEq] at eP eR
          obtain ⟨rfl, -, rfl⟩ := eP
          obtain ⟨rfl, -, rfl⟩ := eR
          have HTP := hid (And.intro tP tR)
          have S1d := hid (S1.out.same (Gr.refl W1).drew.below)
          have hans := S1d.out.ans_any hkm (by omega) (by omega) (by omega) hN xa xo x
          have S0 : W1.drew.cell? ⟨gP, k, none⟩ = some (.pointer (some ⟨hbs k, 0, none⟩)) ∧ W1.drew.cell? ⟨gR, k, none⟩ = some (.pointer (some ⟨rbs k, 0, none⟩)) ∧ gP < W1.drew.heap.size ∧ gR < W1.drew.heap.size ∧ (∀ j, W1.drew.cell? ⟨b1, j, none⟩ = (#[.int .i64 xa, .int .i64 xo, .int .i64 x.at_, .int .u64 x.a, .int .u64 x.b, .int .u64 x.c, .int .u64 x.k, .int .u64 x.v] : Array Value)[j]?) ∧ b1 < W1.drew.heap.size := ⟨cellP, cellR, lP, lR, q0, q5⟩
          clear tP tR cellP cellR
          go_upto_region 17 with fail
          refine wp_regionD (S := fun W' => W'.cell? ⟨gP, k, none⟩ = some (.pointer (some ⟨hbs k, 0, none⟩)) ∧ W'.cell? ⟨gR, k, none⟩ = some (.pointer (some ⟨rbs k, 0, none⟩)) ∧ gP < W'.heap.size ∧ gR < W'.heap.size ∧ (∀ j, W'.cell? ⟨b1, j, none⟩ = (#[.int .i64 xa, .int .i64 xo, .int .i64 x.at_, .int .u64 x.a, .int .u64 x.b, .int .u64 x.c, .int .u64 x.k, .int .u64 x.v] : Array Value)[j]?) ∧ b1 < W'.heap.size) (D := []) hmx ?_
          refine' wpAnyD_take (i := 0) (oi := { dst := some 70, op := Go.Op.move (Go.Operand.tmp 9), type := 58, pos := "law.go:160", after := #[], guard := none }) (v := _) rfl (by kernel_rfl) (by kernel_rfl) (by kernel_rfl) (fun _ _ _ h => h) (by kernel_rfl) (Or.inl ⟨by rfl, ?hy1⟩) S0 ?rest1
          case hy1 => (intro W hSw; go_simp; try (with_reducible rfl))
          try simp only [Act.put, List.setIfInBounds_toArray, List.set_cons_zero, List.set_cons_succ]
          refine' wpAnyD_take (i := 1) (oi := { dst := some 71, op := Go.Op.move (Go.Operand.tmp 14), type := 3, pos := "law.go:160", after := #[], guard := none }) (v := _) rfl (by kernel_rfl) (by kernel_rfl) (by kernel_rfl) (fun _ _ _ h => h) (by kernel_rfl) (Or.inl ⟨by rfl, ?hy2⟩) S0 ?rest2
          case hy2 => (intro W hSw; go_simp; try (with_reducible rfl))
          try simp only [Act.put, List.setIfInBounds_toArray, List.set_cons_zero, List.set_cons_succ]
          refine' wpAnyD_take (i := 2) (oi := { dst := some 72, op := Go.Op.indexAddr 58 (Go.Operand.tmp 70) (Go.Operand.tmp 71), type := 0, pos := "law.go:160", after := #[{ on := 0, ground := Go.Ground.data }, { on := 1, ground := Go.Ground.data }], guard := none }) (v := _) rfl (by kernel_rfl) (by kernel_rfl) (by kernel_rfl) (fun _ _ _ h => h) (by kernel_rfl) (Or.inl ⟨by rfl, ?hy3⟩) S0 ?rest3
          case hy3 => (intro W hSw; go_simp; try (with_reducible rfl))
          try simp only [Act.put, List.setIfInBounds_toArray, List.set_cons_zero, List.set_cons_succ]
          refine' wpAnyD_take (i := 3) (oi := { dst := some 73, op := Go.Op.load 24 (Go.Operand.tmp 72), type := 24, pos := "law.go:160", after := #[{ on := 2, ground := Go.Ground.data }], guard := none }) (v := _) rfl (by kernel_rfl) (by kernel_rfl) (by kernel_rfl) (fun _ _ _ h => h) (by kernel_rfl) (Or.inl ⟨by rfl, ?hy4⟩) S0 ?rest4
          case hy4 => (intro W hSw; obtain ⟨s1, s2, s3, s4, s5, s10⟩ := hSw; go_simp; try (with_reducible rfl))
          try simp only [Act.put, List.setIfInBounds_toArray, List.set_cons_zero, List.set_cons_succ]
          refine' wpAnyD_take (i := 4) (oi := { dst := some 74, op := Go.Op.binOp Go.BinOp.eql 24 (Go.Operand.tmp 73) (Go.Operand.const (Go.Value.pointer none)) 24, type := 4, pos := "law.go:160", after := #[{ on := 3, ground := Go.Ground.data }], guard := none }) (v := _) rfl (by kernel_rfl) (by kernel_rfl) (by kernel_rfl) (fun _ _ _ h => h) (by kernel_rfl) (Or.inl ⟨by rfl, ?hy5⟩) S0 ?rest5
          case hy5 => (intro W hSw; go_simp; try (with_reducible rfl))
          try simp only [Act.put, List.setIfInBounds_toArray, List.set_cons_zero, List.set_cons_succ]
          refine' wpAnyD_take (i := 5) (oi := { dst := some 75, op := Go.Op.move (Go.Operand.tmp 74), type := 4, pos := "law.go:160", after := #[{ on := 4, ground := Go.Ground.data }], guard := none }) (v := _) rfl (by kernel_rfl) (by kernel_rfl) (by kernel_rfl) (fun _ _ _ h => h) (by kernel_rfl) (Or.inl ⟨by rfl, ?hy6⟩) S0 ?rest6
          case hy6 => (intro W hSw; go_simp; try (with_reducible rfl))
          try simp only [Act.put, List.setIfInBounds_toArray, List.set_cons_zero, List.set_cons_succ]
          refine' wpAnyD_take (i := 6) (oi := { dst := some 76, op := Go.Op.move (Go.Operand.tmp 9), type := 58, pos := "law.go:160", after := #[{ on := 5, ground := Go.Ground.guard }], guard := some (5, false) }) (v := _) rfl (by kernel_rfl) (by kernel_rfl) (by kernel_rfl) (fun _ _ _ h => h) (by kernel_rfl) (Or.inl ⟨by rfl, ?hy7⟩) S0 ?rest7
          case hy7 => (intro W hSw; go_simp; try (with_reducible rfl))
          try simp only [Act.put, List.setIfInBounds_toArray, List.set_cons_zero, List.set_cons_succ]
          refine' wpAnyD_take (i := 7) (oi := { dst := some 77, op := Go.Op.move (Go.Operand.tmp 14), type := 3, pos := "law.go:160", after := #[{ on := 5, ground := Go.Ground.guard }], guard := some (5, false) }) (v := _) rfl (by kernel_rfl) (by kernel_rfl) (by kernel_rfl) (fun _ _ _ h => h) (by kernel_rfl) (Or.inl ⟨by rfl, ?hy8⟩) S0 ?rest8
          case hy8 => (intro W hSw; go_simp; try (with_reducible rfl))
          try simp only [Act.put, List.setIfInBounds_toArray, List.set_cons_zero, List.set_cons_succ]
          refine' wpAnyD_take (i := 8) (oi := { dst := some 78, op := Go.Op.indexAddr 58 (Go.Operand.tmp 76) (Go.Operand.tmp 77), type := 0, pos := "law.go:160", after := #[{ on := 6, ground := Go.Ground.data }, { on := 7, ground := Go.Ground.data }, { on := 5, ground := Go.Ground.guard }], guard := some (5, false) }) (v := _) rfl (by kernel_rfl) (by kernel_rfl) (by kernel_rfl) (fun _ _ _ h => h) (by kernel_rfl) (Or.inl ⟨by rfl, ?hy9⟩) S0 ?rest9
          case hy9 => (intro W hSw; go_simp; try (with_reducible rfl))
          try simp only [Act.put, List.setIfInBounds_toArray, List.set_cons_zero, List.set_cons_succ]
          refine' wpAnyD_take (i := 9) (oi := { dst := some 79, op := Go.Op.load 24 (Go.Operand.tmp 78), type := 24, pos := "law.go:160", after := #[{ on := 8, ground := Go.Ground.data }, { on := 5, ground := Go.Ground.guard }], guard := some (5, false) }) (v := _) rfl (by kernel_rfl) (by kernel_rfl) (by kernel_rfl) (fun _ _ _ h => h) (by kernel_rfl) (Or.inl ⟨by rfl, ?hy10⟩) S0 ?rest10
          case hy10 => (intro W hSw; obtain ⟨s1, s2, s3, s4, s5, s10⟩ := hSw; go_simp; try (with_reducible rfl))
          try simp only [Act.put, List.setIfInBounds_toArray, List.set_cons_zero, List.set_cons_succ]
          refine' wpAnyD_take (i := 10) (oi := { dst := some 80, op := Go.Op.move (Go.Operand.tmp 10), type := 59, pos := "law.go:160", after := #[{ on := 5, ground := Go.Ground.guard }], guard := some (5, false) }) (v := _) rfl (by kernel_rfl) (by kernel_rfl) (by kernel_rfl) (fun _ _ _ h => h) (by kernel_rfl) (Or.inl ⟨by rfl, ?hy11⟩) S0 ?rest11
          case hy11 => (intro W hSw; go_simp; try (with_reducible rfl))
          try simp only [Act.put, List.setIfInBounds_toArray, List.set_cons_zero, List.set_cons_succ]
          refine' wpAnyD_take (i := 11) (oi := { dst := some 81, op := Go.Op.move (Go.Operand.tmp 14), type := 3, pos := "law.go:160", after := #[{ on := 5, ground := Go.Ground.guard }], guard := some (5, false) }) (v := _) rfl (by kernel_rfl) (by kernel_rfl) (by kernel_rfl) (fun _ _ _ h => h) (by kernel_rfl) (Or.inl ⟨by rfl, ?hy12⟩) S0 ?rest12
          case hy12 => (intro W hSw; go_simp; try (with_reducible rfl))
          try simp only [Act.put, List.setIfInBounds_toArray, List.set_cons_zero, List.set_cons_succ]
          refine' wpAnyD_take (i := 12) (oi := { dst := some 82, op := Go.Op.indexAddr 59 (Go.Operand.tmp 80) (Go.Operand.tmp 81), type := 0, pos := "law.go:160", after := #[{ on := 10, ground := Go.Ground.data }, { on := 11, ground := Go.Ground.data }, { on := 5, ground := Go.Ground.guard }], guard := some (5, false) }) (v := _) rfl (by kernel_rfl) (by kernel_rfl) (by kernel_rfl) (fun _ _ _ h => h) (by kernel_rfl) (Or.inl ⟨by rfl, ?hy13⟩) S0 ?rest13
          case hy13 => (intro W hSw; go_simp; try (with_reducible rfl))
          try simp only [Act.put, List.setIfInBounds_toArray, List.set_cons_zero, List.set_cons_succ]
          refine' wpAnyD_take (i := 13) (oi := { dst := some 83, op := Go.Op.load 55 (Go.Operand.tmp 82), type := 55, pos := "law.go:160", after := #[{ on := 12, ground := Go.Ground.data }, { on := 5, ground := Go.Ground.guard }], guard := some (5, false) }) (v := _) rfl (by kernel_rfl) (by kernel_rfl) (by kernel_rfl) (fun _ _ _ h => h) (by kernel_rfl) (Or.inl ⟨by rfl, ?hy14⟩) S0 ?rest14
          case hy14 => (intro W hSw; obtain ⟨s1, s2, s3, s4, s5, s10⟩ := hSw; go_simp; try (with_reducible rfl))
          try simp only [Act.put, List.setIfInBounds_toArray, List.set_cons_zero, List.set_cons_succ]
          refine' wpAnyD_take (i := 14) (oi := { dst := some 84, op := Go.Op.load 66 (Go.Operand.tmp 13), type := 66, pos := "law.go:160", after := #[{ on := 5, ground := Go.Ground.guard }], guard := some (5, false) }) (v := _) rfl (by kernel_rfl) (by kernel_rfl) (by kernel_rfl) (fun _ _ _ h => h) (by kernel_rfl) (Or.inl ⟨by rfl, ?hy15⟩) S0 ?rest15
          case hy15 => (intro W hSw; obtain ⟨s1, s2, s3, s4, s5, s10⟩ := hSw; go_simp; try (with_reducible rfl))
          try simp only [Act.put, List.setIfInBounds_toArray, List.set_cons_zero, List.set_cons_succ]
          refine' wpAnyD_take (i := 15) (oi := { dst := some 85, op := Go.Op.move (Go.Operand.tmp 11), type := 60, pos := "law.go:160", after := #[{ on := 5, ground := Go.Ground.guard }], guard := some (5, false) }) (v := _) rfl (by kernel_rfl) (by kernel_rfl) (by kernel_rfl) (fun _ _ _ h => h) (by kernel_rfl) (Or.inl ⟨by rfl, ?hy16⟩) S0 ?rest16
          case hy16 => (intro W hSw; go_simp; try (with_reducible rfl))
          try simp only [Act.put, List.setIfInBounds_toArray, List.set_cons_zero, List.set_cons_succ]
          refine wpAnyD_one (i := 16) (o := { dst := some 86, op := Go.Op.call { callee := Go.Callee.value (Go.Operand.func 17), args := #[Go.Operand.tmp 79, Go.Operand.tmp 83, Go.Operand.tmp 84, Go.Operand.tmp 85], argTypes := #[24, 55, 66, 60] }, type := 4, pos := "law.go:160", after := #[{ on := 9, ground := Go.Ground.data }, { on := 13, ground := Go.Ground.data }, { on := 14, ground := Go.Ground.data }, { on := 15, ground := Go.Ground.data }, { on := 5, ground := Go.Ground.chain }, { on := 5, ground := Go.Ground.guard }], guard := some (5, false) }) (by kernel_rfl) rfl (fun K hK => ?_)
          rw [if_pos (by kernel_rfl)]
          go_simp
          refine hans.mono ?_
          rintro e w5 ⟨rfl, H5⟩
          obtain ⟨nT5, nD5, hT5, hD5, hA5⟩ := H5.out
          have X5 : Hid (w5.heap[b1]? = some (.cells #[.int .i64 xa, .int .i64 xo, .int .i64 x.at_, .int .u64 x.a, .int .u64 x.b, .int .u64 x.c, .int .u64 x.k, .int .u64 x.v] 66 (0, 0))) := (hA5.box q5 (by rw [H0.out]; omega) (by rw [H0.out]; omega) (by rw [H0.out]; omega) (by rw [H0.out]; omega)).trans X1.out
          have S5 : w5.cell? ⟨gP, k, none⟩ = some (.pointer (some ⟨hbs k, 0, none⟩)) ∧ w5.cell? ⟨gR, k, none⟩ = some (.pointer (some ⟨rbs k, 0, none⟩)) ∧ gP < w5.heap.size ∧ gR < w5.heap.size ∧ (∀ j, w5.cell? ⟨b1, j, none⟩ = (#[.int .i64 xa, .int .i64 xo, .int .i64 x.at_, .int .u64 x.a, .int .u64 x.b, .int .u64 x.c, .int .u64 x.k, .int .u64 x.v] : Array Value)[j]?) ∧ b1 < w5.heap.size := by
            obtain ⟨s5, s0, -⟩ := blk8 X5.out
            have kP := hA5.box (k := gP) lP (by rw [HTP.out.1]; omega) (by rw [HTP.out.1]; omega) (by rw [HTP.out.1]; omega) (by rw [HTP.out.1]; omega)
            have kR := hA5.box (k := gR) lR (by rw [HTP.out.2]; omega) (by rw [HTP.out.2]; omega) (by rw [HTP.out.2]; omega) (by rw [HTP.out.2]; omega)
            have hz : W1.drew.heap.size ≤ w5.heap.size := hA5.size
            exact ⟨(World.cell?_of_block (a := ⟨gP, k, none⟩) kP).trans S0.1, (World.cell?_of_block (a := ⟨gR, k, none⟩) kR).trans S0.2.1, Nat.lt_of_lt_of_le lP hz, Nat.lt_of_lt_of_le lR hz, s0, s5⟩
          have HT5 := hid (S1d.out.ans hkm hT5 hD5 hA5)
          clear hans hT5 hD5 hA5
          dsimp only
          refine hK.out _ _ (fun hD => S5) ?_
          clear hK K
          try simp only [Act.put, List.setIfInBounds_toArray, List.set_cons_zero, List.set_cons_succ]
          refine wpAnyD_one (i := 17) (o := { dst := some 87, op := Go.Op.unOp Go.UnOp.not 4 (Go.Operand.tmp 86), type := 4, pos := "law.go:160", after := #[{ on := 16, ground := Go.Ground.data }, { on := 5, ground := Go.Ground.guard }], guard := some (5, false) }) (by kernel_rfl) rfl (fun K hK => ?_)
          rw [if_pos (by kernel_rfl)]
          go_simp
          refine hK.out _ _ (fun hD => S5) ?_
          clear hK K
          try simp only [Act.put, List.setIfInBounds_toArray, List.set_cons_zero, List.set_cons_succ]
          refine wpAnyD_one (i := 18) (o := { dst := some 88, op := Go.Op.pick (Go.Operand.tmp 75) (Go.Operand.const (Go.Value.bool true)) (Go.Operand.tmp 87), type := 4, pos := "law.go:160", after := #[{ on := 5, ground := Go.Ground.data }, { on := 17, ground := Go.Ground.data }], guard := none }) (by kernel_rfl) rfl (fun K hK => ?_)
          rw [if_pos (by kernel_rfl)]
          go_simp
          refine hK.out _ _ (fun hD => S5) ?_
          clear hK K
          try simp only [Act.put, List.setIfInBounds_toArray, List.set_cons_zero, List.set_cons_succ]
          refine wpAnyD_done (by kernel_rfl) ?_ _
          obtain ⟨tag5, Q5, L5, hS5⟩ := HT5.out
          have T5 := hid hS5
          obtain ⟨u1, u2, u3, u4, r0, r5⟩ := S5
          clear hS5 S0 q0 q5 lP lR HT5 H5
          have hII : 2 * i + 2 = 2 * (i + 1) := by omega
          rw [hII] at T5
          clear hII
          by_cases ha7 : xa = 7
          · have hab7 : (xa == 7) = true := by simp [ha7]
            clear ha7
            by_cases hm : m < 4
            · have hmz4 : (m : Int) < 4 := by omega
              have hcp := (T5.out.pr k hkm).copyP (4 + 2 * m) (by omega)
              go_wp2_with fail
              refine hcp.mono ?_
              rintro e w6 ⟨hn, rfl, H6⟩
              clear hcp
              have T6 := hid (T5.out.below H6.out.2 (4 + 2 * m))
              have P6 := hid H6.out.1
              obtain ⟨t6, ht6⟩ : ∃ t6, t6 = tg tag5 w5 (4 + 2 * m) := ⟨_, rfl⟩
              rw [← ht6] at T6 P6
              have v2 : w6.cell? ⟨gR, k, none⟩ = some (.pointer (some ⟨rbs k, 0, none⟩)) := (H6.out.2.cell (p := ⟨gR, k, none⟩) u4).trans u2
              have v4 : gR < w6.heap.size := Nat.lt_of_lt_of_le u4 H6.out.2.size
              clear H6 ht6 u1 u3 u2 u4 r0 r5
              go_wp2_with (at_builtin; refine wpApp1 EQ Try.underlying58 infoQp rfl (by decide) rfl _ _ rfl 0 (.slice (some ⟨gP, 0, none⟩) m cP) m _ rfl T6.out.ps.1 hn (by first | rfl | (go_simp; done)) (by omega) (by unfold maxLen; omega) (Nat.zero_le _) _ rfl _ ?_)
              intro g7 cap7 w7 ho7 hg7 hn7
              have hk7 : Kp (fun k => (Value.slice (some ⟨gP, 0, none⟩) m cP).ownBlock = some k) w6 w7 := Kp.grownBy hg7 (fun _ h => h)
              have T7 := hid (T6.out.psApp hm P6.out ho7 hk7 (fun k hk => by rw [← own_eq1 hk]; exact hn7))
              have nR : (Value.slice (some ⟨gP, 0, none⟩) m cP).ownBlock ≠ some gR := fun e => by
                have h1 := T6.out.ps.2 gR e
                have h2 := T6.out.rs.2 gR rfl
                omega
              have u2 : w7.cell? ⟨gR, k, none⟩ = some (.pointer (some ⟨rbs k, 0, none⟩)) := (hk7.cell v4 nR).trans v2
              have u4 : gR < w7.heap.size := Nat.lt_of_lt_of_le v4 hk7.size
              obtain ⟨t7, ht7⟩ : ∃ t7, t7 = tg t6 w6 1 := ⟨_, rfl⟩
              rw [← ht7] at T7
              have hle7 := (T7.out.pr k hkm).le
              have hcr := (T7.out.pr k hkm).copyR (5 + 2 * m) (by omega)
              clear ho7 hg7 hn7 hk7 nR ht7 v2 v4
              go_wp2_with fail
              refine hcr.mono ?_
              rintro e w8 ⟨rn, rfl, H8⟩
              clear hcr
              have T8 := hid (T7.out.below H8.out.2 (5 + 2 * m))
              have R8 := hid H8.out.1
              have REL8 := hid (T7.out.pr k hkm).rel
              obtain ⟨t8, ht8⟩ : ∃ t8, t8 = tg t7 w7 (5 + 2 * m) := ⟨_, rfl⟩
              rw [← ht8] at T8 R8
              clear H8 ht8 u2 u4
              go_wp2_with (at_builtin; refine wpApp1 EQ Try.underlying59 infoRp rfl (by decide) rfl _ _ rfl 0 (.slice (some ⟨gR, 0, none⟩) m cR) m _ rfl T8.out.rs.1 rn (by first | rfl | (go_simp; done)) (by omega) (by unfold maxLen; omega) (Nat.zero_le _) _ rfl _ ?_)
              intro g9 cap9 w9 ho9 hg9 hn9
              have hk9 : Kp (fun k => (Value.slice (some ⟨gR, 0, none⟩) m cR).ownBlock = some k) w8 w9 := Kp.grownBy hg9 (fun _ h => h)
              have T9 := hid (T8.out.done R8.out REL8.out hle7 ho9 hk9 (fun k hk => by rw [← own_eq1 hk]; exact hn9))
              clear ho9 hg9 hn9 hk9
              obtain ⟨t9, hb9, rb9, Q9, L9, hS9⟩ := T9.out
              have T9 := hid hS9
              clear hS9
              go_wp2_with fail
              go_roundw
              case rel => exact ⟨i + 1, m + 1, some ⟨g7, 0, none⟩, some ⟨g9, 0, none⟩, cap7, cap9, hlt, by simp, rfl, rfl, ⟨by omega, _, _, _, _, _, T9.out⟩⟩
              case measure => simp [RowKit.intOf]; omega
            · have hmz4 : ¬ (m : Int) < 4 := by omega
              go_wp2_with fail
              go_roundw
              case rel => exact ⟨i + 1, m, _, _, _, _, hlt, by simp, rfl, rfl, ⟨hm1, _, _, _, _, _, T5.out⟩⟩
              case measure => simp [RowKit.intOf]; omega
          · have hab7 : (xa == 7) = false := by simp [ha7]
            clear ha7
            go_wp2_with fail
            go_roundw
            case rel => exact ⟨i + 1, m, _, _, _, _, hlt, by simp, rfl, rfl, ⟨hm1, _, _, _, _, _, T5.out⟩⟩
            case measure => simp [RowKit.intOf]; omega
      · have hltz : ¬ (i : Int) < (sc.length : Int) := by omega
        have hin : i = sc.length := by omega
        subst hin
        obtain ⟨tag0, hbs, rbs, Q, L, hS⟩ := I.out.2
        obtain ⟨gP, cP', eP, -, -, -⟩ := hS.ps.pts_at (i := 0) (by omega)
        obtain ⟨gR, cR', eR, -, -, -⟩ := hS.rs.pts_at (i := 0) (by omega)
        simp only [Value.slice.injEq] at eP eR
        obtain ⟨rfl, -, rfl⟩ := eP
        obtain ⟨rfl, -, rfl⟩ := eR
        have S0 : Hid (∃ tag, Sq w wr tag m sc.length N kb (2 * sc.length) (2 * sc.length) hbs rbs Q L (.slice (some ⟨gP, 0, none⟩) m cP) (.slice (some ⟨gR, 0, none⟩) m cR)) := ⟨_, hS⟩
        have HC : Hid (∀ wr tag, Sq w wr tag m sc.length N kb (2 * sc.length) (2 * sc.length) hbs rbs Q L (.slice (some ⟨gP, 0, none⟩) m cP) (.slice (some ⟨gR, 0, none⟩) m cR) → ∀ k, k < m → wr.cell? ⟨gP, k, none⟩ = some (.pointer (some ⟨hbs k, 0, none⟩)) ∧ wr.cell? ⟨gR, k, none⟩ = some (.pointer (some ⟨rbs k, 0, none⟩)) ∧ gP < wr.heap.size ∧ gR < wr.heap.size) := fun wr tag h k hk => by
          obtain ⟨g1, c1, e1, l1, x1, -⟩ := h.ps.pts_at hk
          obtain ⟨g2, c2, e2, l2, x2, -⟩ := h.rs.pts_at hk
          simp only [Value.slice.injEq, Option.some.injEq, Addr.mk.injEq, and_true] at e1 e2
          obtain ⟨rfl, -⟩ := e1
          obtain ⟨rfl, -⟩ := e2
          exact ⟨x1, x2, l1, l2⟩
        clear hS I hltz hlt
        go_wp2_with fail
        go_loopw [15] (fun s15 wr => ∃ k : Nat, k ≤ m ∧ s15 = .int .i64 k ∧ Hid (∃ tag, Sq w wr tag m sc.length N kb (2 * sc.length) (2 * sc.length) hbs rbs Q L (.slice (some ⟨gP, 0, none⟩) m cP) (.slice (some ⟨gR, 0, none⟩) m cR))) (fun s15 _ => m - (RowKit.intOf s15).toNat)
        case atStart => exact ⟨0, Nat.zero_le _, rfl, S0⟩
        case round =>
          clear S0
          obtain ⟨k, hk, rfl, S⟩ := hrel
          by_cases hkm : k < m
          · have hkmz : (k : Int) < (m : Int) := by omega
            have k0 : (0 : Int) ≤ (k : Int) := by omega
            obtain ⟨tag, hS⟩ := S.out
            have T0 := hid (hS.same (Gr.refl wr).drew.below)
            obtain ⟨rv, hrv⟩ := (T0.out.pr k hkm).r
            obtain ⟨pr, cr, rfl⟩ : ∃ pr cr, rv = .slice pr (L k).length cr := by
              rcases hrv.own.2 with ⟨h0, h1⟩ | ⟨g, cap, _, h0, _⟩
              · exact ⟨none, 0, by rw [h0, h1]⟩
              · exact ⟨_, _, h0⟩
            have hrc : wr.drew.cell? ⟨rbs k, 1, none⟩ = some (.slice pr (L k).length cr) := by simp [World.cell?, hrv.blk]
            have S0 : (wr.drew.cell? ⟨gP, k, none⟩ = some (.pointer (some ⟨hbs k, 0, none⟩)) ∧ wr.drew.cell? ⟨gR, k, none⟩ = some (.pointer (some ⟨rbs k, 0, none⟩)) ∧ gP < wr.drew.heap.size ∧ gR < wr.drew.heap.size) ∧ wr.drew.cell? ⟨rbs k, 1, none⟩ = some (.slice pr (L k).length cr) ∧ rbs k < wr.drew.heap.size := ⟨HC.out _ _ T0.out k hkm, hrc, hrv.lt⟩
            have htot := (T0.out.pr k hkm).totP (by omega)
            clear S hS hrc hrv
            go_upto_region 25 with fail
            have HCL : Hid ((ctsTo (fun p : Nat => atp (L k) (p : Int)) N).length ≤ 5864062014806000) := by
              have h1 := ctsTo_len (Q k) N
              rw [(T0.out.pr k hkm).rel.cts] at h1
              have h2 : sumTo (fun i => (Q k i).length) N = (L k).length := (T0.out.pr k hkm).rel.tot
              have h3 := (T0.out.pr k hkm).le
              show _ ≤ _
              omega
            refine wp_regionD (S := fun W' => (W'.cell? ⟨gP, k, none⟩ = some (.pointer (some ⟨hbs k, 0, none⟩)) ∧ W'.cell? ⟨gR, k, none⟩ = some (.pointer (some ⟨rbs k, 0, none⟩)) ∧ gP < W'.heap.size ∧ gR < W'.heap.size) ∧ W'.cell? ⟨rbs k, 1, none⟩ = some (.slice pr (L k).length cr) ∧ rbs k < W'.heap.size) (D := []) hmx ?_
            refine' wpAnyD_take (i := 0) (oi := { dst := some 119, op := Go.Op.move (Go.Operand.tmp 9), type := 58, pos := "law.go:169", after := #[], guard := none }) (v := _) rfl (by kernel_rfl) (by kernel_rfl) (by kernel_rfl) (fun _ _ _ h => h) (by kernel_rfl) (Or.inl ⟨by rfl, ?hy20⟩) S0 ?rest20
            case hy20 => (intro W hSw; go_simp; try (with_reducible rfl))
            try simp only [Act.put, List.setIfInBounds_toArray, List.set_cons_zero, List.set_cons_succ]
            refine' wpAnyD_take (i := 1) (oi := { dst := some 120, op := Go.Op.move (Go.Operand.tmp 15), type := 3, pos := "law.go:169", after := #[], guard := none }) (v := _) rfl (by kernel_rfl) (by kernel_rfl) (by kernel_rfl) (fun _ _ _ h => h) (by kernel_rfl) (Or.inl ⟨by rfl, ?hy21⟩) S0 ?rest21
            case hy21 => (intro W hSw; go_simp; try (with_reducible rfl))
            try simp only [Act.put, List.setIfInBounds_toArray, List.set_cons_zero, List.set_cons_succ]
            refine' wpAnyD_take (i := 2) (oi := { dst := some 121, op := Go.Op.indexAddr 58 (Go.Operand.tmp 119) (Go.Operand.tmp 120), type := 0, pos := "law.go:169", after := #[{ on := 0, ground := Go.Ground.data }, { on := 1, ground := Go.Ground.data }], guard := none }) (v := _) rfl (by kernel_rfl) (by kernel_rfl) (by kernel_rfl) (fun _ _ _ h => h) (by kernel_rfl) (Or.inl ⟨by rfl, ?hy22⟩) S0 ?rest22
            case hy22 => (intro W hSw; go_simp; try (with_reducible rfl))
            try simp only [Act.put, List.setIfInBounds_toArray, List.set_cons_zero, List.set_cons_succ]
            refine' wpAnyD_take (i := 3) (oi := { dst := some 122, op := Go.Op.load 24 (Go.Operand.tmp 121), type := 24, pos := "law.go:169", after := #[{ on := 2, ground := Go.Ground.data }], guard := none }) (v := _) rfl (by kernel_rfl) (by kernel_rfl) (by kernel_rfl) (fun _ _ _ h => h) (by kernel_rfl) (Or.inl ⟨by rfl, ?hy23⟩) S0 ?rest23
            case hy23 => (intro W hSw; obtain ⟨⟨s1, s2, s3, s4⟩, s5, s6⟩ := hSw; go_simp; try (with_reducible rfl))
            try simp only [Act.put, List.setIfInBounds_toArray, List.set_cons_zero, List.set_cons_succ]
            refine' wpAnyD_take (i := 4) (oi := { dst := some 123, op := Go.Op.binOp Go.BinOp.eql 24 (Go.Operand.tmp 122) (Go.Operand.const (Go.Value.pointer none)) 24, type := 4, pos := "law.go:169", after := #[{ on := 3, ground := Go.Ground.data }], guard := none }) (v := _) rfl (by kernel_rfl) (by kernel_rfl) (by kernel_rfl) (fun _ _ _ h => h) (by kernel_rfl) (Or.inl ⟨by rfl, ?hy24⟩) S0 ?rest24
            case hy24 => (intro W hSw; go_simp; try (with_reducible rfl))
            try simp only [Act.put, List.setIfInBounds_toArray, List.set_cons_zero, List.set_cons_succ]
            refine' wpAnyD_take (i := 5) (oi := { dst := some 124, op := Go.Op.move (Go.Operand.tmp 123), type := 4, pos := "law.go:169", after := #[{ on := 4, ground := Go.Ground.data }], guard := none }) (v := _) rfl (by kernel_rfl) (by kernel_rfl) (by kernel_rfl) (fun _ _ _ h => h) (by kernel_rfl) (Or.inl ⟨by rfl, ?hy25⟩) S0 ?rest25
            case hy25 => (intro W hSw; go_simp; try (with_reducible rfl))
            try simp only [Act.put, List.setIfInBounds_toArray, List.set_cons_zero, List.set_cons_succ]
            refine' wpAnyD_take (i := 6) (oi := { dst := some 125, op := Go.Op.move (Go.Operand.tmp 9), type := 58, pos := "law.go:169", after := #[{ on := 5, ground := Go.Ground.guard }], guard := some (5, false) }) (v := _) rfl (by kernel_rfl) (by kernel_rfl) (by kernel_rfl) (fun _ _ _ h => h) (by kernel_rfl) (Or.inl ⟨by rfl, ?hy26⟩) S0 ?rest26
            case hy26 => (intro W hSw; go_simp; try (with_reducible rfl))
            try simp only [Act.put, List.setIfInBounds_toArray, List.set_cons_zero, List.set_cons_succ]
            refine' wpAnyD_take (i := 7) (oi := { dst := some 126, op := Go.Op.move (Go.Operand.tmp 15), type := 3, pos := "law.go:169", after := #[{ on := 5, ground := Go.Ground.guard }], guard := some (5, false) }) (v := _) rfl (by kernel_rfl) (by kernel_rfl) (by kernel_rfl) (fun _ _ _ h => h) (by kernel_rfl) (Or.inl ⟨by rfl, ?hy27⟩) S0 ?rest27
            case hy27 => (intro W hSw; go_simp; try (with_reducible rfl))
            try simp only [Act.put, List.setIfInBounds_toArray, List.set_cons_zero, List.set_cons_succ]
            refine' wpAnyD_take (i := 8) (oi := { dst := some 127, op := Go.Op.indexAddr 58 (Go.Operand.tmp 125) (Go.Operand.tmp 126), type := 0, pos := "law.go:169", after := #[{ on := 6, ground := Go.Ground.data }, { on := 7, ground := Go.Ground.data }, { on := 5, ground := Go.Ground.guard }], guard := some (5, false) }) (v := _) rfl (by kernel_rfl) (by kernel_rfl) (by kernel_rfl) (fun _ _ _ h => h) (by kernel_rfl) (Or.inl ⟨by rfl, ?hy28⟩) S0 ?rest28
            case hy28 => (intro W hSw; go_simp; try (with_reducible rfl))
            try simp only [Act.put, List.setIfInBounds_toArray, List.set_cons_zero, List.set_cons_succ]
            refine' wpAnyD_take (i := 9) (oi := { dst := some 128, op := Go.Op.load 24 (Go.Operand.tmp 127), type := 24, pos := "law.go:169", after := #[{ on := 8, ground := Go.Ground.data }, { on := 5, ground := Go.Ground.guard }], guard := some (5, false) }) (v := _) rfl (by kernel_rfl) (by kernel_rfl) (by kernel_rfl) (fun _ _ _ h => h) (by kernel_rfl) (Or.inl ⟨by rfl, ?hy29⟩) S0 ?rest29
            case hy29 => (intro W hSw; obtain ⟨⟨s1, s2, s3, s4⟩, s5, s6⟩ := hSw; go_simp; try (with_reducible rfl))
            try simp only [Act.put, List.setIfInBounds_toArray, List.set_cons_zero, List.set_cons_succ]
            refine' wpAnyD_take (i := 11) (oi := { dst := some 130, op := Go.Op.move (Go.Operand.tmp 10), type := 59, pos := "law.go:169", after := #[{ on := 5, ground := Go.Ground.guard }], guard := some (5, false) }) (v := _) rfl (by kernel_rfl) (by kernel_rfl) (by kernel_rfl) (fun _ _ _ h => h) (by kernel_rfl) (Or.inl ⟨by rfl, ?hy30⟩) S0 ?rest30
            case hy30 => (intro W hSw; go_simp; try (with_reducible rfl))
            try simp only [Act.put, List.setIfInBounds_toArray, List.set_cons_zero, List.set_cons_succ]
            refine' wpAnyD_take (i := 12) (oi := { dst := some 131, op := Go.Op.move (Go.Operand.tmp 15), type := 3, pos := "law.go:169", after := #[{ on := 5, ground := Go.Ground.guard }], guard := some (5, false) }) (v := _) rfl (by kernel_rfl) (by kernel_rfl) (by kernel_rfl) (fun _ _ _ h => h) (by kernel_rfl) (Or.inl ⟨by rfl, ?hy31⟩) S0 ?rest31
            case hy31 => (intro W hSw; go_simp; try (with_reducible rfl))
            try simp only [Act.put, List.setIfInBounds_toArray, List.set_cons_zero, List.set_cons_succ]
            refine' wpAnyD_take (i := 13) (oi := { dst := some 132, op := Go.Op.indexAddr 59 (Go.Operand.tmp 130) (Go.Operand.tmp 131), type := 0, pos := "law.go:169", after := #[{ on := 11, ground := Go.Ground.data }, { on := 12, ground := Go.Ground.data }, { on := 5, ground := Go.Ground.guard }], guard := some (5, false) }) (v := _) rfl (by kernel_rfl) (by kernel_rfl) (by kernel_rfl) (fun _ _ _ h => h) (by kernel_rfl) (Or.inl ⟨by rfl, ?hy32⟩) S0 ?rest32
            case hy32 => (intro W hSw; go_simp; try (with_reducible rfl))
            try simp only [Act.put, List.setIfInBounds_toArray, List.set_cons_zero, List.set_cons_succ]
            refine' wpAnyD_take (i := 14) (oi := { dst := some 133, op := Go.Op.load 55 (Go.Operand.tmp 132), type := 55, pos := "law.go:169", after := #[{ on := 13, ground := Go.Ground.data }, { on := 5, ground := Go.Ground.guard }], guard := some (5, false) }) (v := _) rfl (by kernel_rfl) (by kernel_rfl) (by kernel_rfl) (fun _ _ _ h => h) (by kernel_rfl) (Or.inl ⟨by rfl, ?hy33⟩) S0 ?rest33
            case hy33 => (intro W hSw; obtain ⟨⟨s1, s2, s3, s4⟩, s5, s6⟩ := hSw; go_simp; try (with_reducible rfl))
            try simp only [Act.put, List.setIfInBounds_toArray, List.set_cons_zero, List.set_cons_succ]
            refine' wpAnyD_take (i := 15) (oi := { dst := some 134, op := Go.Op.nilCheck (Go.Operand.tmp 133), type := 0, pos := "law.go:169", after := #[{ on := 14, ground := Go.Ground.data }, { on := 5, ground := Go.Ground.guard }], guard := some (5, false) }) (v := _) rfl (by kernel_rfl) (by kernel_rfl) (by kernel_rfl) (fun _ _ _ h => h) (by kernel_rfl) (Or.inl ⟨by rfl, ?hy34⟩) S0 ?rest34
            case hy34 => (intro W hSw; go_simp; try (with_reducible rfl))
            try simp only [Act.put, List.setIfInBounds_toArray, List.set_cons_zero, List.set_cons_succ]
            refine' wpAnyD_take (i := 16) (oi := { dst := some 135, op := Go.Op.fieldAddr 71 (Go.Operand.tmp 134) 1, type := 0, pos := "law.go:169", after := #[{ on := 15, ground := Go.Ground.data }, { on := 5, ground := Go.Ground.guard }], guard := some (5, false) }) (v := _) rfl (by kernel_rfl) (by kernel_rfl) (by kernel_rfl) (fun _ _ _ h => h) (by kernel_rfl) (Or.inl ⟨by rfl, ?hy35⟩) S0 ?rest35
            case hy35 => (intro W hSw; go_simp; try (with_reducible rfl))
            try simp only [Act.put, List.setIfInBounds_toArray, List.set_cons_zero, List.set_cons_succ]
            refine' wpAnyD_take (i := 17) (oi := { dst := some 136, op := Go.Op.load 22 (Go.Operand.tmp 135), type := 22, pos := "law.go:169", after := #[{ on := 16, ground := Go.Ground.data }, { on := 5, ground := Go.Ground.guard }], guard := some (5, false) }) (v := _) rfl (by kernel_rfl) (by kernel_rfl) (by kernel_rfl) (fun _ _ _ h => h) (by kernel_rfl) (Or.inl ⟨by rfl, ?hy36⟩) S0 ?rest36
            case hy36 => (intro W hSw; obtain ⟨⟨s1, s2, s3, s4⟩, s5, s6⟩ := hSw; go_simp; try (with_reducible rfl))
            try simp only [Act.put, List.setIfInBounds_toArray, List.set_cons_zero, List.set_cons_succ]
            refine' wpAnyD_take (i := 18) (oi := { dst := some 137, op := Go.Op.call { callee := Go.Callee.builtin Go.Builtin.len, args := #[Go.Operand.tmp 136], argTypes := #[22] }, type := 3, pos := "law.go:169", after := #[{ on := 17, ground := Go.Ground.data }, { on := 5, ground := Go.Ground.guard }], guard := some (5, false) }) (v := _) rfl (by kernel_rfl) (by kernel_rfl) (by kernel_rfl) (fun _ _ _ h => h) (by kernel_rfl) (Or.inl ⟨by rfl, ?hy37⟩) S0 ?rest37
            case hy37 => (intro W hSw; go_simp; try (with_reducible rfl))
            try simp only [Act.put, List.setIfInBounds_toArray, List.set_cons_zero, List.set_cons_succ]
            refine wpAnyD_one (i := 10) (o := { dst := some 129, op := Go.Op.call { callee := Go.Callee.value (Go.Operand.func 13), args := #[Go.Operand.tmp 128], argTypes := #[24] }, type := 3, pos := "law.go:169", after := #[{ on := 9, ground := Go.Ground.data }, { on := 5, ground := Go.Ground.chain }, { on := 5, ground := Go.Ground.guard }], guard := some (5, false) }) (by kernel_rfl) rfl (fun K hK => ?_)
            rw [if_pos (by kernel_rfl)]
            go_simp
            refine htot.mono ?_
            rintro e w5 ⟨rfl, h5⟩
            rw [h5]
            have hcn := (T0.out.pr k hkm).cntP 0 (by omega)
            clear htot h5 w5
            dsimp only
            refine hK.out _ _ (fun hD => S0) ?_
            clear hK K
            try simp only [Act.put, List.setIfInBounds_toArray, List.set_cons_zero, List.set_cons_succ]
            refine wpAnyD_one (i := 19) (o := { dst := some 138, op := Go.Op.binOp Go.BinOp.neq 3 (Go.Operand.tmp 129) (Go.Operand.tmp 137) 3, type := 4, pos := "law.go:169", after := #[{ on := 10, ground := Go.Ground.data }, { on := 18, ground := Go.Ground.data }, { on := 5, ground := Go.Ground.guard }], guard := some (5, false) }) (by kernel_rfl) rfl (fun K hK => ?_)
            rw [if_pos (by kernel_rfl)]
            go_simp
            refine hK.out _ _ (fun hD => S0) ?_
            clear hK K
            try simp only [Act.put, List.setIfInBounds_toArray, List.set_cons_zero, List.set_cons_succ]
            refine wpAnyD_one (i := 20) (o := { dst := some 139, op := Go.Op.pick (Go.Operand.tmp 124) (Go.Operand.const (Go.Value.bool true)) (Go.Operand.tmp 138), type := 4, pos := "law.go:169", after := #[{ on := 5, ground := Go.Ground.data }, { on := 19, ground := Go.Ground.data }], guard := none }) (by kernel_rfl) rfl (fun K hK => ?_)
            rw [if_pos (by kernel_rfl)]
            go_simp
            refine hK.out _ _ (fun hD => S0) ?_
            clear hK K
            try simp only [Act.put, List.setIfInBounds_toArray, List.set_cons_zero, List.set_cons_succ]
            refine wpAnyD_one (i := 21) (o := { dst := some 140, op := Go.Op.move (Go.Operand.tmp 139), type := 4, pos := "law.go:169", after := #[{ on := 20, ground := Go.Ground.data }, { on := 10, ground := Go.Ground.chain }], guard := none }) (by kernel_rfl) rfl (fun K hK => ?_)
            rw [if_pos (by kernel_rfl)]
            go_simp
            refine hK.out _ _ (fun hD => S0) ?_
            clear hK K
            try simp only [Act.put, List.setIfInBounds_toArray, List.set_cons_zero, List.set_cons_succ]
            refine' wpAnyD_take (i := 22) (oi := { dst := some 141, op := Go.Op.move (Go.Operand.tmp 9), type := 58, pos := "law.go:169", after := #[{ on := 21, ground := Go.Ground.guard }], guard := some (21, false) }) (v := _) rfl (by kernel_rfl) (by kernel_rfl) (by kernel_rfl) (fun _ _ _ h => h) (by kernel_rfl) (Or.inl ⟨by rfl, ?hy42⟩) S0 ?rest42
            case hy42 => (intro W hSw; go_simp; try (with_reducible rfl))
            try simp only [Act.put, List.setIfInBounds_toArray, List.set_cons_zero, List.set_cons_succ]
            refine' wpAnyD_take (i := 23) (oi := { dst := some 142, op := Go.Op.move (Go.Operand.tmp 15), type := 3, pos := "law.go:169", after := #[{ on := 21, ground := Go.Ground.guard }], guard := some (21, false) }) (v := _) rfl (by kernel_rfl) (by kernel_rfl) (by kernel_rfl) (fun _ _ _ h => h) (by kernel_rfl) (Or.inl ⟨by rfl, ?hy43⟩) S0 ?rest43
            case hy43 => (intro W hSw; go_simp; try (with_reducible rfl))
            try simp only [Act.put, List.setIfInBounds_toArray, List.set_cons_zero, List.set_cons_succ]
            refine' wpAnyD_take (i := 24) (oi := { dst := some 143, op := Go.Op.indexAddr 58 (Go.Operand.tmp 141) (Go.Operand.tmp 142), type := 0, pos := "law.go:169", after := #[{ on := 22, ground := Go.Ground.data }, { on := 23, ground := Go.Ground.data }, { on := 21, ground := Go.Ground.guard }], guard := some (21, false) }) (v := _) rfl (by kernel_rfl) (by kernel_rfl) (by kernel_rfl) (fun _ _ _ h => h) (by kernel_rfl) (Or.inl ⟨by rfl, ?hy44⟩) S0 ?rest44
            case hy44 => (intro W hSw; go_simp; try (with_reducible rfl))
            try simp only [Act.put, List.setIfInBounds_toArray, List.set_cons_zero, List.set_cons_succ]
            refine' wpAnyD_take (i := 25) (oi := { dst := some 144, op := Go.Op.load 24 (Go.Operand.tmp 143), type := 24, pos := "law.go:169", after := #[{ on := 24, ground := Go.Ground.data }, { on := 21, ground := Go.Ground.guard }], guard := some (21, false) }) (v := _) rfl (by kernel_rfl) (by kernel_rfl) (by kernel_rfl) (fun _ _ _ h => h) (by kernel_rfl) (Or.inl ⟨by rfl, ?hy45⟩) S0 ?rest45
            case hy45 => (intro W hSw; obtain ⟨⟨s1, s2, s3, s4⟩, s5, s6⟩ := hSw; go_simp; try (with_reducible rfl))
            try simp only [Act.put, List.setIfInBounds_toArray, List.set_cons_zero, List.set_cons_succ]
            refine' wpAnyD_take (i := 27) (oi := { dst := some 146, op := Go.Op.move (Go.Operand.tmp 10), type := 59, pos := "law.go:169", after := #[{ on := 21, ground := Go.Ground.guard }], guard := some (21, false) }) (v := _) rfl (by kernel_rfl) (by kernel_rfl) (by kernel_rfl) (fun _ _ _ h => h) (by kernel_rfl) (Or.inl ⟨by rfl, ?hy46⟩) S0 ?rest46
            case hy46 => (intro W hSw; go_simp; try (with_reducible rfl))
            try simp only [Act.put, List.setIfInBounds_toArray, List.set_cons_zero, List.set_cons_succ]
            refine' wpAnyD_take (i := 28) (oi := { dst := some 147, op := Go.Op.move (Go.Operand.tmp 15), type := 3, pos := "law.go:169", after := #[{ on := 21, ground := Go.Ground.guard }], guard := some (21, false) }) (v := _) rfl (by kernel_rfl) (by kernel_rfl) (by kernel_rfl) (fun _ _ _ h => h) (by kernel_rfl) (Or.inl ⟨by rfl, ?hy47⟩) S0 ?rest47
            case hy47 => (intro W hSw; go_simp; try (with_reducible rfl))
            try simp only [Act.put, List.setIfInBounds_toArray, List.set_cons_zero, List.set_cons_succ]
            refine' wpAnyD_take (i := 29) (oi := { dst := some 148, op := Go.Op.indexAddr 59 (Go.Operand.tmp 146) (Go.Operand.tmp 147), type := 0, pos := "law.go:169", after := #[{ on := 27, ground := Go.Ground.data }, { on := 28, ground := Go.Ground.data }, { on := 21, ground := Go.Ground.guard }], guard := some (21, false) }) (v := _) rfl (by kernel_rfl) (by kernel_rfl) (by kernel_rfl) (fun _ _ _ h => h) (by kernel_rfl) (Or.inl ⟨by rfl, ?hy48⟩) S0 ?rest48
            case hy48 => (intro W hSw; go_simp; try (with_reducible rfl))
            try simp only [Act.put, List.setIfInBounds_toArray, List.set_cons_zero, List.set_cons_succ]
            refine' wpAnyD_take (i := 30) (oi := { dst := some 149, op := Go.Op.load 55 (Go.Operand.tmp 148), type := 55, pos := "law.go:169", after := #[{ on := 29, ground := Go.Ground.data }, { on := 21, ground := Go.Ground.guard }], guard := some (21, false) }) (v := _) rfl (by kernel_rfl) (by kernel_rfl) (by kernel_rfl) (fun _ _ _ h => h) (by kernel_rfl) (Or.inl ⟨by rfl, ?hy49⟩) S0 ?rest49
            case hy49 => (intro W hSw; obtain ⟨⟨s1, s2, s3, s4⟩, s5, s6⟩ := hSw; go_simp; try (with_reducible rfl))
            try simp only [Act.put, List.setIfInBounds_toArray, List.set_cons_zero, List.set_cons_succ]
            refine wpAnyD_one (i := 26) (o := { dst := some 145, op := Go.Op.call { callee := Go.Callee.value (Go.Operand.func 14), args := #[Go.Operand.tmp 144], argTypes := #[24] }, type := 45, pos := "law.go:169", after := #[{ on := 25, ground := Go.Ground.data }, { on := 21, ground := Go.Ground.chain }, { on := 21, ground := Go.Ground.guard }], guard := some (21, false) }) (by kernel_rfl) rfl (fun K hK => ?_)
            rw [if_pos (by kernel_rfl)]
            go_simp
            refine hcn.mono ?_
            rintro e w6 ⟨v6, rfl, ⟨p6, c6, rfl⟩, H6⟩
            have hB6 := H6.out.2
            have S6 : (w6.cell? ⟨gP, k, none⟩ = some (.pointer (some ⟨hbs k, 0, none⟩)) ∧ w6.cell? ⟨gR, k, none⟩ = some (.pointer (some ⟨rbs k, 0, none⟩)) ∧ gP < w6.heap.size ∧ gR < w6.heap.size) ∧ w6.cell? ⟨rbs k, 1, none⟩ = some (.slice pr (L k).length cr) ∧ rbs k < w6.heap.size := ⟨⟨(hB6.cell (p := ⟨gP, k, none⟩) S0.1.2.2.1).trans S0.1.1, (hB6.cell (p := ⟨gR, k, none⟩) S0.1.2.2.2).trans S0.1.2.1, Nat.lt_of_lt_of_le S0.1.2.2.1 hB6.size, Nat.lt_of_lt_of_le S0.1.2.2.2 hB6.size⟩, (hB6.cell (p := ⟨rbs k, 1, none⟩) S0.2.2).trans S0.2.1, Nat.lt_of_lt_of_le S0.2.2 hB6.size⟩
            have T6 := hid (T0.out.below hB6 0)
            have Y6 := hid (owns_ls (E := EC) H6.out.1.1)
            have hcr := (T6.out.pr k hkm).cntR hN 0 (by omega)
            clear hcn hB6 H6
            dsimp only
            refine hK.out _ _ (fun hD => S6) ?_
            clear hK K
            try simp only [Act.put, List.setIfInBounds_toArray, List.set_cons_zero, List.set_cons_succ]
            refine wpAnyD_one (i := 31) (o := { dst := some 150, op := Go.Op.call { callee := Go.Callee.value (Go.Operand.func 21), args := #[Go.Operand.tmp 149], argTypes := #[55] }, type := 45, pos := "law.go:169", after := #[{ on := 30, ground := Go.Ground.data }, { on := 26, ground := Go.Ground.chain }, { on := 21, ground := Go.Ground.guard }], guard := some (21, false) }) (by kernel_rfl) rfl (fun K hK => ?_)
            rw [if_pos (by kernel_rfl)]
            go_simp
            refine hcr.mono ?_
            rintro e w7 ⟨v7, rfl, ⟨p7, c7, rfl⟩, H7⟩
            have hB7 := H7.out.2
            have S7 : (w7.cell? ⟨gP, k, none⟩ = some (.pointer (some ⟨hbs k, 0, none⟩)) ∧ w7.cell? ⟨gR, k, none⟩ = some (.pointer (some ⟨rbs k, 0, none⟩)) ∧ gP < w7.heap.size ∧ gR < w7.heap.size) ∧ w7.cell? ⟨rbs k, 1, none⟩ = some (.slice pr (L k).length cr) ∧ rbs k < w7.heap.size := ⟨⟨(hB7.cell (p := ⟨gP, k, none⟩) S6.1.2.2.1).trans S6.1.1, (hB7.cell (p := ⟨gR, k, none⟩) S6.1.2.2.2).trans S6.1.2.1, Nat.lt_of_lt_of_le S6.1.2.2.1 hB7.size, Nat.lt_of_lt_of_le S6.1.2.2.2 hB7.size⟩, (hB7.cell (p := ⟨rbs k, 1, none⟩) S6.2.2).trans S6.2.1, Nat.lt_of_lt_of_le S6.2.2 hB7.size⟩
            have T7 := hid (T6.out.below hB7 0)
            have Y7 := hid (owns_ls (E := EC) H7.out.1.1)
            have hch := changes_eq w7 (Y6.out.below hB7) Y7.out HCL.out
            clear hcr hB7 H7
            dsimp only
            refine hK.out _ _ (fun hD => S7) ?_
            clear hK K
            try simp only [Act.put, List.setIfInBounds_toArray, List.set_cons_zero, List.set_cons_succ]
            refine wpAnyD_one (i := 32) (o := { dst := some 151, op := Go.Op.call { callee := Go.Callee.value (Go.Operand.func 20), args := #[Go.Operand.tmp 145, Go.Operand.tmp 150], argTypes := #[45, 45] }, type := 4, pos := "law.go:169", after := #[{ on := 26, ground := Go.Ground.data }, { on := 31, ground := Go.Ground.data }, { on := 31, ground := Go.Ground.chain }, { on := 21, ground := Go.Ground.guard }], guard := some (21, false) }) (by kernel_rfl) rfl (fun K hK => ?_)
            rw [if_pos (by kernel_rfl)]
            go_simp
            refine hch.mono ?_
            rintro e w8 ⟨rfl, g8⟩
            have hB8 := g8.below
            have S8 : (w8.cell? ⟨gP, k, none⟩ = some (.pointer (some ⟨hbs k, 0, none⟩)) ∧ w8.cell? ⟨gR, k, none⟩ = some (.pointer (some ⟨rbs k, 0, none⟩)) ∧ gP < w8.heap.size ∧ gR < w8.heap.size) ∧ w8.cell? ⟨rbs k, 1, none⟩ = some (.slice pr (L k).length cr) ∧ rbs k < w8.heap.size := ⟨⟨(hB8.cell (p := ⟨gP, k, none⟩) S7.1.2.2.1).trans S7.1.1, (hB8.cell (p := ⟨gR, k, none⟩) S7.1.2.2.2).trans S7.1.2.1, Nat.lt_of_lt_of_le S7.1.2.2.1 hB8.size, Nat.lt_of_lt_of_le S7.1.2.2.2 hB8.size⟩, (hB8.cell (p := ⟨rbs k, 1, none⟩) S7.2.2).trans S7.2.1, Nat.lt_of_lt_of_le S7.2.2 hB8.size⟩
            have T8 := hid (T7.out.below hB8 0)
            clear hch hB8 g8
            dsimp only
            refine hK.out _ _ (fun hD => S8) ?_
            clear hK K
            try simp only [Act.put, List.setIfInBounds_toArray, List.set_cons_zero, List.set_cons_succ]
            refine wpAnyD_one (i := 33) (o := { dst := some 152, op := Go.Op.unOp Go.UnOp.not 4 (Go.Operand.tmp 151), type := 4, pos := "law.go:169", after := #[{ on := 32, ground := Go.Ground.data }, { on := 21, ground := Go.Ground.guard }], guard := some (21, false) }) (by kernel_rfl) rfl (fun K hK => ?_)
            rw [if_pos (by kernel_rfl)]
            go_simp
            refine hK.out _ _ (fun hD => S8) ?_
            clear hK K
            try simp only [Act.put, List.setIfInBounds_toArray, List.set_cons_zero, List.set_cons_succ]
            refine wpAnyD_one (i := 34) (o := { dst := some 153, op := Go.Op.pick (Go.Operand.tmp 140) (Go.Operand.const (Go.Value.bool true)) (Go.Operand.tmp 152), type := 4, pos := "law.go:169", after := #[{ on := 21, ground := Go.Ground.data }, { on := 33, ground := Go.Ground.data }], guard := none }) (by kernel_rfl) rfl (fun K hK => ?_)
            rw [if_pos (by kernel_rfl)]
            go_simp
            refine hK.out _ _ (fun hD => S8) ?_
            clear hK K
            try simp only [Act.put, List.setIfInBounds_toArray, List.set_cons_zero, List.set_cons_succ]
            refine wpAnyD_done (by kernel_rfl) ?_ _
            have T9 : Hid (∃ tag, Sq w _ tag m sc.length N kb (2 * sc.length) (2 * sc.length) hbs rbs Q L (.slice (some ⟨gP, 0, none⟩) m cP) (.slice (some ⟨gR, 0, none⟩) m cR)) := ⟨_, T8.out⟩
            clear T8 T7 T6 T0
            go_wp2_with fail
            go_loopw [16] (fun s16 wr => ∃ a : Int, -1 ≤ a ∧ a ≤ N + 1 ∧ s16 = .int .i64 a ∧ Hid (∃ tag, Sq w wr tag m sc.length N kb (2 * sc.length) (2 * sc.length) hbs rbs Q L (.slice (some ⟨gP, 0, none⟩) m cP) (.slice (some ⟨gR, 0, none⟩) m cR))) (fun s16 _ => (N + 1 - RowKit.intOf s16).toNat)
            case atStart => exact ⟨-1, by omega, by omega, rfl, T9⟩
            case round =>
              clear T9
              obtain ⟨a, ha1, ha2, rfl, S⟩ := hrel
              by_cases haW : a ≤ (N : Int)
              · obtain ⟨tag, hS⟩ := S.out
                have T0 := hid (hS.same (Gr.refl wr).drew.below)
                have S0 : wr.drew.cell? ⟨gP, k, none⟩ = some (.pointer (some ⟨hbs k, 0, none⟩)) ∧ wr.drew.cell? ⟨gR, k, none⟩ = some (.pointer (some ⟨rbs k, 0, none⟩)) ∧ gP < wr.drew.heap.size ∧ gR < wr.drew.heap.size := HC.out _ _ T0.out k hkm
                have hls := (T0.out.pr k hkm).listP a 0 (by omega)
                clear S hS
                go_upto_region 30 with fail
                have HML : Hid ((atp (L k) a).length ≤ 5864062014806) := by
                  have h1 : (atp (L k) a).length ≤ (L k).length := List.length_filter_le _ _
                  have h3 := (T0.out.pr k hkm).le
                  show _ ≤ _
                  omega
                refine wp_regionD (S := fun W' => W'.cell? ⟨gP, k, none⟩ = some (.pointer (some ⟨hbs k, 0, none⟩)) ∧ W'.cell? ⟨gR, k, none⟩ = some (.pointer (some ⟨rbs k, 0, none⟩)) ∧ gP < W'.heap.size ∧ gR < W'.heap.size) (D := []) hmx ?_
                refine' wpAnyD_take (i := 0) (oi := { dst := some 159, op := Go.Op.move (Go.Operand.tmp 9), type := 58, pos := "law.go:173", after := #[], guard := none }) (v := _) rfl (by kernel_rfl) (by kernel_rfl) (by kernel_rfl) (fun _ _ _ h => h) (by kernel_rfl) (Or.inl ⟨by rfl, ?hy55⟩) S0 ?rest55
                case hy55 => (intro W hSw; go_simp; try (with_reducible rfl))
                try simp only [Act.put, List.setIfInBounds_toArray, List.set_cons_zero, List.set_cons_succ]
                refine' wpAnyD_take (i := 1) (oi := { dst := some 160, op := Go.Op.move (Go.Operand.tmp 15), type := 3, pos := "law.go:173", after := #[], guard := none }) (v := _) rfl (by kernel_rfl) (by kernel_rfl) (by kernel_rfl) (fun _ _ _ h => h) (by kernel_rfl) (Or.inl ⟨by rfl, ?hy56⟩) S0 ?rest56
                case hy56 => (intro W hSw; go_simp; try (with_reducible rfl))
                try simp only [Act.put, List.setIfInBounds_toArray, List.set_cons_zero, List.set_cons_succ]
                refine' wpAnyD_take (i := 2) (oi := { dst := some 161, op := Go.Op.indexAddr 58 (Go.Operand.tmp 159) (Go.Operand.tmp 160), type := 0, pos := "law.go:173", after := #[{ on := 0, ground := Go.Ground.data }, { on := 1, ground := Go.Ground.data }], guard := none }) (v := _) rfl (by kernel_rfl) (by kernel_rfl) (by kernel_rfl) (fun _ _ _ h => h) (by kernel_rfl) (Or.inl ⟨by rfl, ?hy57⟩) S0 ?rest57
                case hy57 => (intro W hSw; go_simp; try (with_reducible rfl))
                try simp only [Act.put, List.setIfInBounds_toArray, List.set_cons_zero, List.set_cons_succ]
                refine' wpAnyD_take (i := 3) (oi := { dst := some 162, op := Go.Op.load 24 (Go.Operand.tmp 161), type := 24, pos := "law.go:173", after := #[{ on := 2, ground := Go.Ground.data }], guard := none }) (v := _) rfl (by kernel_rfl) (by kernel_rfl) (by kernel_rfl) (fun _ _ _ h => h) (by kernel_rfl) (Or.inl ⟨by rfl, ?hy58⟩) S0 ?rest58
                case hy58 => (intro W hSw; obtain ⟨s1, s2, s3, s4⟩ := hSw; go_simp; try (with_reducible rfl))
                try simp only [Act.put, List.setIfInBounds_toArray, List.set_cons_zero, List.set_cons_succ]
                refine' wpAnyD_take (i := 4) (oi := { dst := some 163, op := Go.Op.move (Go.Operand.tmp 16), type := 3, pos := "law.go:173", after := #[], guard := none }) (v := _) rfl (by kernel_rfl) (by kernel_rfl) (by kernel_rfl) (fun _ _ _ h => h) (by kernel_rfl) (Or.inl ⟨by rfl, ?hy59⟩) S0 ?rest59
                case hy59 => (intro W hSw; go_simp; try (with_reducible rfl))
                try simp only [Act.put, List.setIfInBounds_toArray, List.set_cons_zero, List.set_cons_succ]
                refine' wpAnyD_take (i := 6) (oi := { dst := some 165, op := Go.Op.move (Go.Operand.tmp 10), type := 59, pos := "law.go:173", after := #[], guard := none }) (v := _) rfl (by kernel_rfl) (by kernel_rfl) (by kernel_rfl) (fun _ _ _ h => h) (by kernel_rfl) (Or.inl ⟨by rfl, ?hy60⟩) S0 ?rest60
                case hy60 => (intro W hSw; go_simp; try (with_reducible rfl))
                try simp only [Act.put, List.setIfInBounds_toArray, List.set_cons_zero, List.set_cons_succ]
                refine' wpAnyD_take (i := 7) (oi := { dst := some 166, op := Go.Op.move (Go.Operand.tmp 15), type := 3, pos := "law.go:173", after := #[], guard := none }) (v := _) rfl (by kernel_rfl) (by kernel_rfl) (by kernel_rfl) (fun _ _ _ h => h) (by kernel_rfl) (Or.inl ⟨by rfl, ?hy61⟩) S0 ?rest61
                case hy61 => (intro W hSw; go_simp; try (with_reducible rfl))
                try simp only [Act.put, List.setIfInBounds_toArray, List.set_cons_zero, List.set_cons_succ]
                refine' wpAnyD_take (i := 8) (oi := { dst := some 167, op := Go.Op.indexAddr 59 (Go.Operand.tmp 165) (Go.Operand.tmp 166), type := 0, pos := "law.go:173", after := #[{ on := 6, ground := Go.Ground.data }, { on := 7, ground := Go.Ground.data }], guard := none }) (v := _) rfl (by kernel_rfl) (by kernel_rfl) (by kernel_rfl) (fun _ _ _ h => h) (by kernel_rfl) (Or.inl ⟨by rfl, ?hy62⟩) S0 ?rest62
                case hy62 => (intro W hSw; go_simp; try (with_reducible rfl))
                try simp only [Act.put, List.setIfInBounds_toArray, List.set_cons_zero, List.set_cons_succ]
                refine' wpAnyD_take (i := 9) (oi := { dst := some 168, op := Go.Op.load 55 (Go.Operand.tmp 167), type := 55, pos := "law.go:173", after := #[{ on := 8, ground := Go.Ground.data }], guard := none }) (v := _) rfl (by kernel_rfl) (by kernel_rfl) (by kernel_rfl) (fun _ _ _ h => h) (by kernel_rfl) (Or.inl ⟨by rfl, ?hy63⟩) S0 ?rest63
                case hy63 => (intro W hSw; obtain ⟨s1, s2, s3, s4⟩ := hSw; go_simp; try (with_reducible rfl))
                try simp only [Act.put, List.setIfInBounds_toArray, List.set_cons_zero, List.set_cons_succ]
                refine' wpAnyD_take (i := 10) (oi := { dst := some 169, op := Go.Op.move (Go.Operand.tmp 16), type := 3, pos := "law.go:173", after := #[], guard := none }) (v := _) rfl (by kernel_rfl) (by kernel_rfl) (by kernel_rfl) (fun _ _ _ h => h) (by kernel_rfl) (Or.inl ⟨by rfl, ?hy64⟩) S0 ?rest64
                case hy64 => (intro W hSw; go_simp; try (with_reducible rfl))
                try simp only [Act.put, List.setIfInBounds_toArray, List.set_cons_zero, List.set_cons_succ]
                refine wpAnyD_one (i := 5) (o := { dst := some 164, op := Go.Op.call { callee := Go.Callee.value (Go.Operand.func 22), args := #[Go.Operand.tmp 162, Go.Operand.tmp 163], argTypes := #[24, 3] }, type := 22, pos := "law.go:173", after := #[{ on := 3, ground := Go.Ground.data }, { on := 4, ground := Go.Ground.data }], guard := none }) (by kernel_rfl) rfl (fun K hK => ?_)
                rw [if_pos (by kernel_rfl)]
                go_simp
                refine hls.mono ?_
                rintro e w5 ⟨v5, rfl, ⟨p5, c5, rfl⟩, H5⟩
                have hB5 := H5.out.2
                have S5 : w5.cell? ⟨gP, k, none⟩ = some (.pointer (some ⟨hbs k, 0, none⟩)) ∧ w5.cell? ⟨gR, k, none⟩ = some (.pointer (some ⟨rbs k, 0, none⟩)) ∧ gP < w5.heap.size ∧ gR < w5.heap.size := ⟨(hB5.cell (p := ⟨gP, k, none⟩) S0.2.2.1).trans S0.1, (hB5.cell (p := ⟨gR, k, none⟩) S0.2.2.2).trans S0.2.1, Nat.lt_of_lt_of_le S0.2.2.1 hB5.size, Nat.lt_of_lt_of_le S0.2.2.2 hB5.size⟩
                have T5 := hid (T0.out.below hB5 0)
                have Y5 := hid (owns_ls (E := EM) H5.out.1.1)
                have hlr := (T5.out.pr k hkm).listR a 0 (by omega)
                clear hls hB5 H5
                dsimp only
                refine hK.out _ _ (fun hD => S5) ?_
                clear hK K
                try simp only [Act.put, List.setIfInBounds_toArray, List.set_cons_zero, List.set_cons_succ]
                refine wpAnyD_one (i := 11) (o := { dst := some 170, op := Go.Op.call { callee := Go.Callee.value (Go.Operand.func 23), args := #[Go.Operand.tmp 168, Go.Operand.tmp 169], argTypes := #[55, 3] }, type := 22, pos := "law.go:173", after := #[{ on := 9, ground := Go.Ground.data }, { on := 10, ground := Go.Ground.data }, { on := 5, ground := Go.Ground.chain }], guard := none }) (by kernel_rfl) rfl (fun K hK => ?_)
                rw [if_pos (by kernel_rfl)]
                go_simp
                refine hlr.mono ?_
                rintro e w11 ⟨v11, rfl, ⟨p11, c11, rfl⟩, H11⟩
                have hB11 := H11.out.2
                have S11 : w11.cell? ⟨gP, k, none⟩ = some (.pointer (some ⟨hbs k, 0, none⟩)) ∧ w11.cell? ⟨gR, k, none⟩ = some (.pointer (some ⟨rbs k, 0, none⟩)) ∧ gP < w11.heap.size ∧ gR < w11.heap.size := ⟨(hB11.cell (p := ⟨gP, k, none⟩) S5.2.2.1).trans S5.1, (hB11.cell (p := ⟨gR, k, none⟩) S5.2.2.2).trans S5.2.1, Nat.lt_of_lt_of_le S5.2.2.1 hB11.size, Nat.lt_of_lt_of_le S5.2.2.2 hB11.size⟩
                have T11 := hid (T5.out.below hB11 0)
                have Y11 := hid (owns_ls (E := EM) H11.out.1.1)
                have hms := messages_eq w11 (Y5.out.below hB11) Y11.out HML.out
                clear hlr hB11 H11
                dsimp only
                refine hK.out _ _ (fun hD => S11) ?_
                clear hK K
                try simp only [Act.put, List.setIfInBounds_toArray, List.set_cons_zero, List.set_cons_succ]
                refine wpAnyD_one (i := 12) (o := { dst := some 171, op := Go.Op.call { callee := Go.Callee.value (Go.Operand.func 12), args := #[Go.Operand.tmp 164, Go.Operand.tmp 170], argTypes := #[22, 22] }, type := 4, pos := "law.go:173", after := #[{ on := 5, ground := Go.Ground.data }, { on := 11, ground := Go.Ground.data }, { on := 11, ground := Go.Ground.chain }], guard := none }) (by kernel_rfl) rfl (fun K hK => ?_)
                rw [if_pos (by kernel_rfl)]
                go_simp
                refine hms.mono ?_
                rintro e w12 ⟨rfl, g12⟩
                have hB12 := g12.below
                have S12 : w12.cell? ⟨gP, k, none⟩ = some (.pointer (some ⟨hbs k, 0, none⟩)) ∧ w12.cell? ⟨gR, k, none⟩ = some (.pointer (some ⟨rbs k, 0, none⟩)) ∧ gP < w12.heap.size ∧ gR < w12.heap.size := ⟨(hB12.cell (p := ⟨gP, k, none⟩) S11.2.2.1).trans S11.1, (hB12.cell (p := ⟨gR, k, none⟩) S11.2.2.2).trans S11.2.1, Nat.lt_of_lt_of_le S11.2.2.1 hB12.size, Nat.lt_of_lt_of_le S11.2.2.2 hB12.size⟩
                have T12 := hid (T11.out.below hB12 0)
                have hln := (T12.out.pr k hkm).lenP a
                clear hms hB12 g12
                dsimp only
                refine hK.out _ _ (fun hD => S12) ?_
                clear hK K
                try simp only [Act.put, List.setIfInBounds_toArray, List.set_cons_zero, List.set_cons_succ]
                refine wpAnyD_one (i := 13) (o := { dst := some 172, op := Go.Op.unOp Go.UnOp.not 4 (Go.Operand.tmp 171), type := 4, pos := "law.go:173", after := #[{ on := 12, ground := Go.Ground.data }], guard := none }) (by kernel_rfl) rfl (fun K hK => ?_)
                rw [if_pos (by kernel_rfl)]
                go_simp
                refine hK.out _ _ (fun hD => S12) ?_
                clear hK K
                try simp only [Act.put, List.setIfInBounds_toArray, List.set_cons_zero, List.set_cons_succ]
                refine wpAnyD_one (i := 14) (o := { dst := some 173, op := Go.Op.move (Go.Operand.tmp 172), type := 4, pos := "law.go:173", after := #[{ on := 13, ground := Go.Ground.data }, { on := 12, ground := Go.Ground.chain }], guard := none }) (by kernel_rfl) rfl (fun K hK => ?_)
                rw [if_pos (by kernel_rfl)]
                go_simp
                refine hK.out _ _ (fun hD => S12) ?_
                clear hK K
                try simp only [Act.put, List.setIfInBounds_toArray, List.set_cons_zero, List.set_cons_succ]
                refine' wpAnyD_take (i := 15) (oi := { dst := some 174, op := Go.Op.move (Go.Operand.tmp 9), type := 58, pos := "law.go:173", after := #[{ on := 14, ground := Go.Ground.guard }], guard := some (14, false) }) (v := _) rfl (by kernel_rfl) (by kernel_rfl) (by kernel_rfl) (fun _ _ _ h => h) (by kernel_rfl) (Or.inl ⟨by rfl, ?hy70⟩) S12 ?rest70
                case hy70 => (intro W hSw; go_simp; try (with_reducible rfl))
                try simp only [Act.put, List.setIfInBounds_toArray, List.set_cons_zero, List.set_cons_succ]
                refine' wpAnyD_take (i := 16) (oi := { dst := some 175, op := Go.Op.move (Go.Operand.tmp 15), type := 3, pos := "law.go:173", after := #[{ on := 14, ground := Go.Ground.guard }], guard := some (14, false) }) (v := _) rfl (by kernel_rfl) (by kernel_rfl) (by kernel_rfl) (fun _ _ _ h => h) (by kernel_rfl) (Or.inl ⟨by rfl, ?hy71⟩) S12 ?rest71
                case hy71 => (intro W hSw; go_simp; try (with_reducible rfl))
                try simp only [Act.put, List.setIfInBounds_toArray, List.set_cons_zero, List.set_cons_succ]
                refine' wpAnyD_take (i := 17) (oi := { dst := some 176, op := Go.Op.indexAddr 58 (Go.Operand.tmp 174) (Go.Operand.tmp 175), type := 0, pos := "law.go:173", after := #[{ on := 15, ground := Go.Ground.data }, { on := 16, ground := Go.Ground.data }, { on := 14, ground := Go.Ground.guard }], guard := some (14, false) }) (v := _) rfl (by kernel_rfl) (by kernel_rfl) (by kernel_rfl) (fun _ _ _ h => h) (by kernel_rfl) (Or.inl ⟨by rfl, ?hy72⟩) S12 ?rest72
                case hy72 => (intro W hSw; go_simp; try (with_reducible rfl))
                try simp only [Act.put, List.setIfInBounds_toArray, List.set_cons_zero, List.set_cons_succ]
                refine' wpAnyD_take (i := 18) (oi := { dst := some 177, op := Go.Op.load 24 (Go.Operand.tmp 176), type := 24, pos := "law.go:173", after := #[{ on := 17, ground := Go.Ground.data }, { on := 14, ground := Go.Ground.guard }], guard := some (14, false) }) (v := _) rfl (by kernel_rfl) (by kernel_rfl) (by kernel_rfl) (fun _ _ _ h => h) (by kernel_rfl) (Or.inl ⟨by rfl, ?hy73⟩) S12 ?rest73
                case hy73 => (intro W hSw; obtain ⟨s1, s2, s3, s4⟩ := hSw; go_simp; try (with_reducible rfl))
                try simp only [Act.put, List.setIfInBounds_toArray, List.set_cons_zero, List.set_cons_succ]
                refine' wpAnyD_take (i := 19) (oi := { dst := some 178, op := Go.Op.move (Go.Operand.tmp 16), type := 3, pos := "law.go:173", after := #[{ on := 14, ground := Go.Ground.guard }], guard := some (14, false) }) (v := _) rfl (by kernel_rfl) (by kernel_rfl) (by kernel_rfl) (fun _ _ _ h => h) (by kernel_rfl) (Or.inl ⟨by rfl, ?hy74⟩) S12 ?rest74
                case hy74 => (intro W hSw; go_simp; try (with_reducible rfl))
                try simp only [Act.put, List.setIfInBounds_toArray, List.set_cons_zero, List.set_cons_succ]
                refine' wpAnyD_take (i := 21) (oi := { dst := some 180, op := Go.Op.move (Go.Operand.tmp 10), type := 59, pos := "law.go:173", after := #[{ on := 14, ground := Go.Ground.guard }], guard := some (14, false) }) (v := _) rfl (by kernel_rfl) (by kernel_rfl) (by kernel_rfl) (fun _ _ _ h => h) (by kernel_rfl) (Or.inl ⟨by rfl, ?hy75⟩) S12 ?rest75
                case hy75 => (intro W hSw; go_simp; try (with_reducible rfl))
                try simp only [Act.put, List.setIfInBounds_toArray, List.set_cons_zero, List.set_cons_succ]
                refine' wpAnyD_take (i := 22) (oi := { dst := some 181, op := Go.Op.move (Go.Operand.tmp 15), type := 3, pos := "law.go:173", after := #[{ on := 14, ground := Go.Ground.guard }], guard := some (14, false) }) (v := _) rfl (by kernel_rfl) (by kernel_rfl) (by kernel_rfl) (fun _ _ _ h => h) (by kernel_rfl) (Or.inl ⟨by rfl, ?hy76⟩) S12 ?rest76
                case hy76 => (intro W hSw; go_simp; try (with_reducible rfl))
                try simp only [Act.put, List.setIfInBounds_toArray, List.set_cons_zero, List.set_cons_succ]
                refine' wpAnyD_take (i := 23) (oi := { dst := some 182, op := Go.Op.indexAddr 59 (Go.Operand.tmp 180) (Go.Operand.tmp 181), type := 0, pos := "law.go:173", after := #[{ on := 21, ground := Go.Ground.data }, { on := 22, ground := Go.Ground.data }, { on := 14, ground := Go.Ground.guard }], guard := some (14, false) }) (v := _) rfl (by kernel_rfl) (by kernel_rfl) (by kernel_rfl) (fun _ _ _ h => h) (by kernel_rfl) (Or.inl ⟨by rfl, ?hy77⟩) S12 ?rest77
                case hy77 => (intro W hSw; go_simp; try (with_reducible rfl))
                try simp only [Act.put, List.setIfInBounds_toArray, List.set_cons_zero, List.set_cons_succ]
                refine' wpAnyD_take (i := 24) (oi := { dst := some 183, op := Go.Op.load 55 (Go.Operand.tmp 182), type := 55, pos := "law.go:173", after := #[{ on := 23, ground := Go.Ground.data }, { on := 14, ground := Go.Ground.guard }], guard := some (14, false) }) (v := _) rfl (by kernel_rfl) (by kernel_rfl) (by kernel_rfl) (fun _ _ _ h => h) (by kernel_rfl) (Or.inl ⟨by rfl, ?hy78⟩) S12 ?rest78
                case hy78 => (intro W hSw; obtain ⟨s1, s2, s3, s4⟩ := hSw; go_simp; try (with_reducible rfl))
                try simp only [Act.put, List.setIfInBounds_toArray, List.set_cons_zero, List.set_cons_succ]
                refine' wpAnyD_take (i := 25) (oi := { dst := some 184, op := Go.Op.move (Go.Operand.tmp 16), type := 3, pos := "law.go:173", after := #[{ on := 14, ground := Go.Ground.guard }], guard := some (14, false) }) (v := _) rfl (by kernel_rfl) (by kernel_rfl) (by kernel_rfl) (fun _ _ _ h => h) (by kernel_rfl) (Or.inl ⟨by rfl, ?hy79⟩) S12 ?rest79
                case hy79 => (intro W hSw; go_simp; try (with_reducible rfl))
                try simp only [Act.put, List.setIfInBounds_toArray, List.set_cons_zero, List.set_cons_succ]
                refine wpAnyD_one (i := 20) (o := { dst := some 179, op := Go.Op.call { callee := Go.Callee.value (Go.Operand.func 11), args := #[Go.Operand.tmp 177, Go.Operand.tmp 178], argTypes := #[24, 3] }, type := 3, pos := "law.go:173", after := #[{ on := 18, ground := Go.Ground.data }, { on := 19, ground := Go.Ground.data }, { on := 14, ground := Go.Ground.chain }, { on := 14, ground := Go.Ground.guard }], guard := some (14, false) }) (by kernel_rfl) rfl (fun K hK => ?_)
                rw [if_pos (by kernel_rfl)]
                go_simp
                refine hln.mono ?_
                rintro e w20 ⟨rfl, h20⟩
                rw [h20]
                have hlq := (T12.out.pr k hkm).listR a 0 (by omega)
                clear hln h20 w20
                dsimp only
                refine hK.out _ _ (fun hD => S12) ?_
                clear hK K
                try simp only [Act.put, List.setIfInBounds_toArray, List.set_cons_zero, List.set_cons_succ]
                refine wpAnyD_one (i := 26) (o := { dst := some 185, op := Go.Op.call { callee := Go.Callee.value (Go.Operand.func 23), args := #[Go.Operand.tmp 183, Go.Operand.tmp 184], argTypes := #[55, 3] }, type := 22, pos := "law.go:173", after := #[{ on := 24, ground := Go.Ground.data }, { on := 25, ground := Go.Ground.data }, { on := 20, ground := Go.Ground.chain }, { on := 14, ground := Go.Ground.guard }], guard := some (14, false) }) (by kernel_rfl) rfl (fun K hK => ?_)
                rw [if_pos (by kernel_rfl)]
                go_simp
                refine hlq.mono ?_
                rintro e w26 ⟨v26, rfl, ⟨p26, c26, rfl⟩, H26⟩
                have hB26 := H26.out.2
                have S26 : w26.cell? ⟨gP, k, none⟩ = some (.pointer (some ⟨hbs k, 0, none⟩)) ∧ w26.cell? ⟨gR, k, none⟩ = some (.pointer (some ⟨rbs k, 0, none⟩)) ∧ gP < w26.heap.size ∧ gR < w26.heap.size := ⟨(hB26.cell (p := ⟨gP, k, none⟩) S12.2.2.1).trans S12.1, (hB26.cell (p := ⟨gR, k, none⟩) S12.2.2.2).trans S12.2.1, Nat.lt_of_lt_of_le S12.2.2.1 hB26.size, Nat.lt_of_lt_of_le S12.2.2.2 hB26.size⟩
                have T26 := hid (T12.out.below hB26 0)
                clear hlq hB26 H26
                dsimp only
                refine hK.out _ _ (fun hD => S26) ?_
                clear hK K
                try simp only [Act.put, List.setIfInBounds_toArray, List.set_cons_zero, List.set_cons_succ]
                refine wpAnyD_one (i := 27) (o := { dst := some 186, op := Go.Op.call { callee := Go.Callee.builtin Go.Builtin.len, args := #[Go.Operand.tmp 185], argTypes := #[22] }, type := 3, pos := "law.go:173", after := #[{ on := 26, ground := Go.Ground.data }, { on := 14, ground := Go.Ground.guard }], guard := some (14, false) }) (by kernel_rfl) rfl (fun K hK => ?_)
                rw [if_pos (by kernel_rfl)]
                go_simp
                refine hK.out _ _ (fun hD => S26) ?_
                clear hK K
                try simp only [Act.put, List.setIfInBounds_toArray, List.set_cons_zero, List.set_cons_succ]
                refine wpAnyD_one (i := 28) (o := { dst := some 187, op := Go.Op.binOp Go.BinOp.neq 3 (Go.Operand.tmp 179) (Go.Operand.tmp 186) 3, type := 4, pos := "law.go:173", after := #[{ on := 20, ground := Go.Ground.data }, { on := 27, ground := Go.Ground.data }, { on := 14, ground := Go.Ground.guard }], guard := some (14, false) }) (by kernel_rfl) rfl (fun K hK => ?_)
                rw [if_pos (by kernel_rfl)]
                go_simp
                refine hK.out _ _ (fun hD => S26) ?_
                clear hK K
                try simp only [Act.put, List.setIfInBounds_toArray, List.set_cons_zero, List.set_cons_succ]
                refine wpAnyD_one (i := 29) (o := { dst := some 188, op := Go.Op.pick (Go.Operand.tmp 173) (Go.Operand.const (Go.Value.bool true)) (Go.Operand.tmp 187), type := 4, pos := "law.go:173", after := #[{ on := 14, ground := Go.Ground.data }, { on := 28, ground := Go.Ground.data }], guard := none }) (by kernel_rfl) rfl (fun K hK => ?_)
                rw [if_pos (by kernel_rfl)]
                go_simp
                refine hK.out _ _ (fun hD => S26) ?_
                clear hK K
                try simp only [Act.put, List.setIfInBounds_toArray, List.set_cons_zero, List.set_cons_succ]
                refine wpAnyD_done (by kernel_rfl) ?_ _
                go_wp2_with fail
                go_roundw
                case rel => exact ⟨a + 1, by omega, by omega, by simp, ⟨_, T26.out⟩⟩
                case measure => simp [RowKit.intOf]; omega
              · have haW' : ¬ a ≤ (N : Int) := haW
                go_wp2_with fail
                go_roundw
                case rel => exact ⟨k + 1, hkm, by simp, S⟩
                case measure => simp [RowKit.intOf]; omega
          · have hkmz : ¬ (k : Int) < (m : Int) := by omega
            obtain ⟨tag, hS⟩ := S.out
            obtain ⟨nT, nD, sT, sU, sD, sX, VT, VU, VD, VX, CT, CD, hbo, hnT, hnD, hlT, hlD⟩ := hS.bk
            have hbk := hbo.bk ⟨by omega, by omega⟩ ⟨fun i hi => Nat.le_trans (hlT i hi) (by omega), fun i hi => Nat.le_trans (hlD i hi) (by omega)⟩
            have hB : ∀ q, Qs.SqF nT VT q ∨ Qs.SqF nD VD q → w.heap.size ≤ q := fun q hq => by
              rcases Nat.lt_or_ge q w.heap.size with hl | hl
              · have h1 := hS.old q hl
                rcases hq with ⟨i, hi, e⟩ | ⟨i, hi, e⟩
                · have h2 := (hbo.cT.pg i hi).2 q e
                  omega
                · have h2 := (hbo.cD.pg i hi).2 q e
                  omega
              · exact hl
            have hst := Qs.stay_any w.heap.size kb nT nD sT sU sD sX VT VU VD VX CT CD wr hbk hB hS.bel.size
            have HBW := hid hS.bel
            clear S hS hbk hB hbo hlT hlD
            go_wp2_with fail
            refine hst.mono ?_
            rintro e w9 ⟨rfl, hB9⟩
            have HB9 := hid (HBW.out.trans hB9)
            clear hst hB9
            go_wp2
            go_ret
            exact ⟨rfl, HB9.out⟩
end Go.Proofs.Ytaaobchodbnkpaa.Qe
