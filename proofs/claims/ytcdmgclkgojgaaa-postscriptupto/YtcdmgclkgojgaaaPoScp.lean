import Derived.Test.YtcdmgclkgojgaaaPoScr
import Derived.Test.YtcdmgclkgojgaaaPoAns2
import Derived.Test.YtcdmgclkgojgaaaPoKnown
import Derived.Test.YtcdmgclkgojgaaaLStep
import Derived.WalkMore
namespace Go.Proofs.Ytcdmgclkgojgaaa.Pi
open Go.RowKit Go.Sort
attribute [local go_sem ↓] Go.wp_at_zero Go.wp_at_succ
/-- What holds behind i steps. -/
def Iv (w : World) (W i m nb : Nat) (sP sR sB : Value) (wr : World) : Prop := 1 ≤ m ∧ nb ≤ i ∧ ∃ tag hb rb Q L V Wv D, Sc w wr tag m nb i W hb rb Q L V Wv D sP sR sB
theorem EPt_one (x : Nat) : [Value.pointer (some ⟨x, 0, none⟩)].length = 1 := rfl
/-- Pointers as elements. -/
def EQ : El Nat where
  k := 1
  enc x := [.pointer (some ⟨x, 0, none⟩)]
  len _ := rfl
  one x u hu := by
    simp at hu
    subst hu; rfl
/-- Pages as elements. -/
def EG : El ({v : Value // v.oneCell' = true} × {v : Value // v.oneCell' = true} × {v : Value // v.oneCell' = true}) where
  k := 3
  enc x := [x.1.1, x.2.1.1, x.2.2.1]
  len _ := rfl
  one x u hu := by
    simp at hu
    rcases hu with rfl | rfl | rfl
    · exact x.1.2
    · exact x.2.1.2
    · exact x.2.2.2
theorem made_one {w : World} {e : TypeId} (v : Value) : (w.alloc (.cells #[v] e)).ownsRow w.heap.size e 1 (.slice (some ⟨w.heap.size, 0, none⟩) 1 1) 1 [v] :=
  ⟨rfl, Or.inr ⟨w.heap.size, 1, #[v], rfl, Nat.le_refl _, heap_new' _ _, Nat.le_refl _, by unfold maxLen; decide, rfl, rfl⟩⟩
/-- As it begins. -/
theorem Iv.init {w w1 w2 w3 w4 : World} {hb rb W : Nat} (h8 : W ≤ 8) (hhb : hb = w.heap.size) (hrb : rb = w1.heap.size) (hP : Pq w1 (fun k => k = hb) hb W 0 (fun _ => [])) (hG : Gr w w1) (hR : Rv w2 rb W (.slice none 0 0) []) (hG2 : Gr w1 w2) (hB3 : Below w2.heap.size w2 w3)
    (h4 : w4 = (w3.alloc (.cells #[.pointer (some ⟨hb, 0, none⟩)] 49)).alloc (.cells #[.pointer (some ⟨rb, 0, none⟩)] 52)) :
    Iv w W 0 1 0 (.slice (some ⟨w3.heap.size, 0, none⟩) 1 1) (.slice (some ⟨w3.heap.size + 1, 0, none⟩) 1 1) (.slice none 0 0) w4 := by
  have hz1 := hP.lt
  have hz2 := hG2.size
  have hz3 := hB3.size
  have hz0 := hG.size
  have hr2 := hR.lt
  obtain ⟨wa, hwa⟩ : ∃ wa, wa = w3.alloc (.cells #[.pointer (some ⟨hb, 0, none⟩)] 49) := ⟨_, rfl⟩
  have hsa : wa.heap.size = w3.heap.size + 1 := by rw [hwa]; simp
  have o1 : wa.ownsRow w3.heap.size 49 1 (.slice (some ⟨w3.heap.size, 0, none⟩) 1 1) 1 [.pointer (some ⟨hb, 0, none⟩)] := by rw [hwa]; exact made_one _
  have o2 : w4.ownsRow wa.heap.size 52 1 (.slice (some ⟨w3.heap.size + 1, 0, none⟩) 1 1) 1 [.pointer (some ⟨rb, 0, none⟩)] := by
    have := made_one (w := wa) (e := 52) (.pointer (some ⟨rb, 0, none⟩))
    rw [hsa] at this ⊢
    rw [h4, ← hwa]
    exact this
  have g4 : Gr wa w4 := by rw [h4, ← hwa]; exact (Gr.refl _).alloc _
  have ga : Gr w3 wa := by rw [hwa]; exact (Gr.refl _).alloc _
  have g34 : Gr w3 w4 := ga.trans g4
  refine ⟨Nat.le_refl _, Nat.le_refl _, fun k => if k = hb then 4 else if k = rb then 5 else if k = w3.heap.size then 1 else if k = w3.heap.size + 1 then 2 else 0, fun _ => hb, fun _ => rb, fun _ _ => [], fun _ => [], fun _ => .slice none 0 0, fun _ => .slice none 0 0, fun _ => [], fun i hi => ?_, ⟨?_, fun g hg => ?_⟩, ⟨?_, fun g hg => ?_⟩, ⟨owns_nil _ _ _ _, fun g hg => by simp [Value.ownBlock] at hg⟩, fun p hp => absurd hp (Nat.not_lt_zero _), by omega, fun k hk => ?_, ?_⟩
  · have hi0 : i = 0 := by omega
    subst hi0
    refine ⟨((((hP.gr hG2).below hB3).gr g34).mono (fun k _ e => by rw [e]; simp) (Nat.le_refl _)), ⟨_, (hR.below hB3).gr g34, ?_, fun g hg => by simp [Value.ownBlock] at hg⟩, Rel.nil W h8, Nat.le_refl _⟩
    dsimp only
    rw [if_neg (by omega), if_pos rfl]
  · exact owns_base (owns_below o1 g4.below) (Nat.zero_le _)
  · have e := own_eq hg
    rw [← e]
    dsimp only
    rw [if_neg (by omega), if_neg (by omega), if_pos rfl]
  · exact owns_base o2 (Nat.zero_le _)
  · have e := own_eq hg
    rw [← e]
    dsimp only
    rw [if_neg (by omega), if_neg (by omega), if_neg (by omega), if_pos rfl]
  · rw [if_neg (by omega), if_neg (by omega), if_neg (by omega), if_neg (by omega)]
  · exact hG.below.trans ((hG2.below.trans (hB3.mono hz2)).trans (g34.below.mono (Nat.le_trans hz2 hz3)) |>.mono hz0)
set_option maxHeartbeats 32000000 in
set_option maxRecDepth 100000 in
theorem postScript_any (n : Int) (v : Value) (sc : List Po.Th) (w : World) (hL : Ls Po.ET w v sc) (hlen : sc.length ≤ 1048576) : Calls Try.prog 5 #[.int .i64 n, v] w fun e w' => e = .returned (.bool true) ∧ Below w.heap.size w w' := by
  have hmx : Try.prog.follows .mixedOrders = true := by kernel_rfl
  obtain ⟨ps, cs, rfl⟩ := hL.form
  have HL := hid hL
  clear hL
  by_cases hw : n < 1 ∨ 8 < n
  · have h1 := new_bad n w hw
    have h2 := rnew_bad n w hw
    have h3 := Ps.known_any w
    clear hw
    go_enter Try.func5, Try.ntmps5
    go_wp2_with fail
    refine h1.mono ?_
    rintro e w1 ⟨rfl, rfl⟩
    go_wp2_with fail
    refine h2.mono ?_
    rintro e w2 ⟨rfl, rfl⟩
    go_wp2_with fail
    refine h3.mono ?_
    rintro e w3 ⟨rfl, hB3⟩
    have HB3 := hid hB3
    clear hB3
    go_wp2
    go_ret
    exact ⟨rfl, HB3.out⟩
  · obtain ⟨W, rfl⟩ : ∃ W : Nat, n = W := ⟨n.toNat, by omega⟩
    have hW1 : 1 ≤ W := by omega
    have hW8 : W ≤ 8 := by omega
    have h1 := new_any W w (by omega) (by omega)
    rw [Int.toNat_natCast] at h1
    obtain ⟨hb, hhb⟩ : ∃ hb, hb = w.heap.size := ⟨_, rfl⟩
    rw [← hhb] at h1
    have HHB := hid hhb
    clear hw hhb
    go_enter Try.func5, Try.ntmps5
    go_wp2_with fail
    refine h1.mono ?_
    rintro e w1 ⟨rfl, hP1, hG1⟩
    have P1 := hid (And.intro hP1 hG1)
    have h2 := rnew_any W w1 (by omega) (by omega)
    rw [Int.toNat_natCast] at h2
    obtain ⟨rb, hrb⟩ : ∃ rb, rb = w1.heap.size := ⟨_, rfl⟩
    rw [← hrb] at h2
    have HRB := hid hrb
    clear h1 hP1 hG1 hrb
    go_wp2_with fail
    refine h2.mono ?_
    rintro e w2 ⟨rfl, hR2, hG2⟩
    have P2 := hid (And.intro hR2 hG2)
    have h3 := Ps.known_any w2
    clear h2 hR2 hG2
    go_wp2_with fail
    refine h3.mono ?_
    rintro e w3 ⟨rfl, hB3⟩
    have HB3 := hid hB3
    clear hB3 h3
    obtain ⟨g3, hg3⟩ : ∃ g3, g3 = w3.heap.size := ⟨_, rfl⟩
    obtain ⟨w4, hw4⟩ : ∃ w4, w4 = (w3.alloc (.cells #[.pointer (some ⟨hb, 0, none⟩)] 49)).alloc (.cells #[.pointer (some ⟨rb, 0, none⟩)] 52) := ⟨_, rfl⟩
    have I4 := hid (Iv.init hW8 HHB.out HRB.out P1.out.1 P1.out.2 P2.out.1 P2.out.2 HB3.out hw4)
    rw [← hg3] at I4
    go_upto_region 9 with fail
    rw [← hw4, ← hg3]
    clear hw4 hg3 P1 P2 HB3
    go_wp2_with fail
    go_loopw [9, 10, 11, 12] (fun s9 s10 s11 s12 wr => ∃ (i m nb : Nat) (pP pR pB : Option Addr) (cP cR cB : Nat), i ≤ sc.length ∧ s12 = .int .i64 i ∧ s9 = .slice pP m cP ∧ s10 = .slice pR m cR ∧ s11 = .slice pB nb cB ∧ Hid (Iv w W i m nb (.slice pP m cP) (.slice pR m cR) (.slice pB nb cB) wr)) (fun _ _ _ s12 _ => sc.length - (RowKit.intOf s12).toNat)
    case atStart => exact ⟨0, 1, 0, _, _, _, _, _, _, Nat.zero_le _, rfl, rfl, rfl, rfl, I4⟩
    case round =>
      clear I4
      obtain ⟨i, m, nb, pP, pR, pB, cP, cR, cB, hi, rfl, rfl, rfl, rfl, I⟩ := hrel
      have hm1 : 1 ≤ m := I.out.1
      have hm4 : m ≤ 4 := by obtain ⟨_, _, _, _, _, _, _, _, _, _, h⟩ := I.out; exact h.m4
      by_cases hlt : i < sc.length
      · have hltz : (i : Int) < (sc.length : Int) := by omega
        have i0 : (0 : Int) ≤ (i : Int) := by omega
        obtain ⟨tag, hbs, rbs, Q, L, V, Wv, D, hS⟩ := I.out.2.2
        have hnb : nb ≤ i := I.out.2.1
        obtain ⟨x, hx⟩ : ∃ x, sc[i]? = some x := ⟨sc[i], by rw [List.getElem?_eq_getElem]⟩
        obtain ⟨xa, xo, F, T, xv⟩ := x
        obtain ⟨b2, o2, c2, e2, z2, x0, x1, x2, x3, x4⟩ := Po.ls_at (HL.out.below hS.bel) hx
        dsimp only at x0 x1 x2 x3 x4
        simp only [Value.slice.injEq] at e2
        obtain ⟨rfl, -, rfl⟩ := e2
        obtain ⟨b1, hb1⟩ : ∃ b1, b1 = wr.heap.size := ⟨_, rfl⟩
        obtain ⟨W1, hWd1⟩ : ∃ W1, W1 = wr.alloc (.cells #[.int .i64 xa, .int .i64 xo, .int .i64 F, .int .i64 T, .int .i64 xv] 28) := ⟨_, rfl⟩
        have G1 : Gr wr W1 := by rw [hWd1]; exact (Gr.refl _).alloc _
        have X1 : Hid (W1.heap[b1]? = some (.cells #[.int .i64 xa, .int .i64 xo, .int .i64 F, .int .i64 T, .int .i64 xv] 28 (0, 0))) := by rw [hWd1, hb1]; exact heap_new' _ _
        have H0 : Hid (tg tag wr 0 b1 = 0) := tg_new (Nat.le_of_eq hb1.symm)
        have S1 := hid (hS.below G1.below 0)
        obtain ⟨tag1, ht1⟩ : ∃ tag1, tag1 = tg tag wr 0 := ⟨_, rfl⟩
        rw [← ht1] at S1 H0
        go_upto_region 14 with fail
        rw [← hWd1, ← hb1]
        clear hWd1 hb1 G1 x0 x1 x2 x3 x4 z2 hx ht1 hS I
        obtain ⟨⟨q0, q1, q2, q3, q4⟩, -, q5⟩ := Po.box_at (x := (xa, xo, F, T, xv)) X1.out
        dsimp only at q0 q1 q2 q3 q4
        have hmz : ((m : Int) == 0) = false := by simp; omega
        have hr1 : -(m : Int) < xo.tmod m := Int.lt_tmod_of_pos xo (by omega)
        have hr2 : xo.tmod m < (m : Int) := Int.tmod_lt_of_pos xo (by omega)
        go_upto_if 66 with fail
        go_cut [14] (fun s14 w' => ∃ k : Nat, k < m ∧ s14 = .int .i64 k ∧ w' = W1)
        case first =>
          by_cases hneg : xo.tmod m < 0
          · go_wp2_with fail
            go_meet
            refine ⟨(xo.tmod m + m).toNat, by omega, ?_, rfl⟩
            rw [Int.toNat_of_nonneg (by omega)]
          · go_wp2_with fail
            go_meet
            refine ⟨(xo.tmod m).toNat, by omega, ?_, rfl⟩
            rw [Int.toNat_of_nonneg (by omega)]
        case rest =>
          obtain ⟨k, hkm, rfl, hwc⟩ := hcut
          rw [hwc]
          clear hwc hr1 hr2 hmz
          have k0 : (0 : Int) ≤ (k : Int) := by omega
          have kmz : (k : Int) < (m : Int) := by omega
          obtain ⟨gP, cP', eP, lP, cellP, tP⟩ := S1.out.ps.pts_at hkm
          obtain ⟨gR, cR', eR, lR, cellR, tR⟩ := S1.out.rs.pts_at hkm
          simp only [Value.slice.injEq] at eP eR
          obtain ⟨rfl, -, rfl⟩ := eP
          obtain ⟨rfl, -, rfl⟩ := eR
          have HTP := hid (And.intro tP tR)
          have S1d := hid (S1.out.nx (Nx.same (fun _ => False) tag1 (Gr.refl W1).drew.below))
          have hans := answered_any (xa, xo, F, T, xv) W1.drew (S1d.out.pr k hkm) (by omega) (by omega) (by omega) (by omega)
          have S0 : W1.drew.cell? ⟨gP, k, none⟩ = some (.pointer (some ⟨hbs k, 0, none⟩)) ∧ W1.drew.cell? ⟨gR, k, none⟩ = some (.pointer (some ⟨rbs k, 0, none⟩)) ∧ gP < W1.drew.heap.size ∧ gR < W1.drew.heap.size ∧ (W1.drew.cell? ⟨b1, 0, none⟩ = some (.int .i64 xa) ∧ W1.drew.cell? ⟨b1, 1, none⟩ = some (.int .i64 xo) ∧ W1.drew.cell? ⟨b1, 2, none⟩ = some (.int .i64 F) ∧ W1.drew.cell? ⟨b1, 3, none⟩ = some (.int .i64 T) ∧ W1.drew.cell? ⟨b1, 4, none⟩ = some (.int .i64 xv)) ∧ b1 < W1.drew.heap.size := ⟨cellP, cellR, lP, lR, ⟨q0, q1, q2, q3, q4⟩, q5⟩
          clear tP tR cellP cellR
          go_upto_region 17 with fail
          refine wp_regionD (S := fun W' => W'.cell? ⟨gP, k, none⟩ = some (.pointer (some ⟨hbs k, 0, none⟩)) ∧ W'.cell? ⟨gR, k, none⟩ = some (.pointer (some ⟨rbs k, 0, none⟩)) ∧ gP < W'.heap.size ∧ gR < W'.heap.size ∧ (W'.cell? ⟨b1, 0, none⟩ = some (.int .i64 xa) ∧ W'.cell? ⟨b1, 1, none⟩ = some (.int .i64 xo) ∧ W'.cell? ⟨b1, 2, none⟩ = some (.int .i64 F) ∧ W'.cell? ⟨b1, 3, none⟩ = some (.int .i64 T) ∧ W'.cell? ⟨b1, 4, none⟩ = some (.int .i64 xv)) ∧ b1 < W'.heap.size) (D := []) hmx ?_
          refine' wpAnyD_take (i := 0) (oi := { dst := some 71, op := Go.Op.move (Go.Operand.tmp 9), type := 55, pos := "law.go:117", after := #[], guard := none }) (v := _) rfl (by kernel_rfl) (by kernel_rfl) (by kernel_rfl) (fun _ _ _ h => h) (by kernel_rfl) (Or.inl ⟨by rfl, ?hy1⟩) S0 ?rest1
          case hy1 => (intro W hSw; go_simp; try (with_reducible rfl))
          try simp only [Act.put, List.setIfInBounds_toArray, List.set_cons_zero, List.set_cons_succ]
          refine' wpAnyD_take (i := 1) (oi := { dst := some 72, op := Go.Op.move (Go.Operand.tmp 14), type := 3, pos := "law.go:117", after := #[], guard := none }) (v := _) rfl (by kernel_rfl) (by kernel_rfl) (by kernel_rfl) (fun _ _ _ h => h) (by kernel_rfl) (Or.inl ⟨by rfl, ?hy2⟩) S0 ?rest2
          case hy2 => (intro W hSw; go_simp; try (with_reducible rfl))
          try simp only [Act.put, List.setIfInBounds_toArray, List.set_cons_zero, List.set_cons_succ]
          refine' wpAnyD_take (i := 2) (oi := { dst := some 73, op := Go.Op.indexAddr 55 (Go.Operand.tmp 71) (Go.Operand.tmp 72), type := 0, pos := "law.go:117", after := #[{ on := 0, ground := Go.Ground.data }, { on := 1, ground := Go.Ground.data }], guard := none }) (v := _) rfl (by kernel_rfl) (by kernel_rfl) (by kernel_rfl) (fun _ _ _ h => h) (by kernel_rfl) (Or.inl ⟨by rfl, ?hy3⟩) S0 ?rest3
          case hy3 => (intro W hSw; go_simp; try (with_reducible rfl))
          try simp only [Act.put, List.setIfInBounds_toArray, List.set_cons_zero, List.set_cons_succ]
          refine' wpAnyD_take (i := 3) (oi := { dst := some 74, op := Go.Op.load 49 (Go.Operand.tmp 73), type := 49, pos := "law.go:117", after := #[{ on := 2, ground := Go.Ground.data }], guard := none }) (v := _) rfl (by kernel_rfl) (by kernel_rfl) (by kernel_rfl) (fun _ _ _ h => h) (by kernel_rfl) (Or.inl ⟨by rfl, ?hy4⟩) S0 ?rest4
          case hy4 => (intro W hSw; obtain ⟨s1, s2, s3, s4, ⟨s5, s6, s7, s8, s9⟩, s10⟩ := hSw; go_simp; try (with_reducible rfl))
          try simp only [Act.put, List.setIfInBounds_toArray, List.set_cons_zero, List.set_cons_succ]
          refine' wpAnyD_take (i := 4) (oi := { dst := some 75, op := Go.Op.binOp Go.BinOp.eql 49 (Go.Operand.tmp 74) (Go.Operand.const (Go.Value.pointer none)) 49, type := 4, pos := "law.go:117", after := #[{ on := 3, ground := Go.Ground.data }], guard := none }) (v := _) rfl (by kernel_rfl) (by kernel_rfl) (by kernel_rfl) (fun _ _ _ h => h) (by kernel_rfl) (Or.inl ⟨by rfl, ?hy5⟩) S0 ?rest5
          case hy5 => (intro W hSw; go_simp; try (with_reducible rfl))
          try simp only [Act.put, List.setIfInBounds_toArray, List.set_cons_zero, List.set_cons_succ]
          refine' wpAnyD_take (i := 5) (oi := { dst := some 76, op := Go.Op.move (Go.Operand.tmp 75), type := 4, pos := "law.go:117", after := #[{ on := 4, ground := Go.Ground.data }], guard := none }) (v := _) rfl (by kernel_rfl) (by kernel_rfl) (by kernel_rfl) (fun _ _ _ h => h) (by kernel_rfl) (Or.inl ⟨by rfl, ?hy6⟩) S0 ?rest6
          case hy6 => (intro W hSw; go_simp; try (with_reducible rfl))
          try simp only [Act.put, List.setIfInBounds_toArray, List.set_cons_zero, List.set_cons_succ]
          refine' wpAnyD_take (i := 6) (oi := { dst := some 77, op := Go.Op.move (Go.Operand.tmp 9), type := 55, pos := "law.go:117", after := #[{ on := 5, ground := Go.Ground.guard }], guard := some (5, false) }) (v := _) rfl (by kernel_rfl) (by kernel_rfl) (by kernel_rfl) (fun _ _ _ h => h) (by kernel_rfl) (Or.inl ⟨by rfl, ?hy7⟩) S0 ?rest7
          case hy7 => (intro W hSw; go_simp; try (with_reducible rfl))
          try simp only [Act.put, List.setIfInBounds_toArray, List.set_cons_zero, List.set_cons_succ]
          refine' wpAnyD_take (i := 7) (oi := { dst := some 78, op := Go.Op.move (Go.Operand.tmp 14), type := 3, pos := "law.go:117", after := #[{ on := 5, ground := Go.Ground.guard }], guard := some (5, false) }) (v := _) rfl (by kernel_rfl) (by kernel_rfl) (by kernel_rfl) (fun _ _ _ h => h) (by kernel_rfl) (Or.inl ⟨by rfl, ?hy8⟩) S0 ?rest8
          case hy8 => (intro W hSw; go_simp; try (with_reducible rfl))
          try simp only [Act.put, List.setIfInBounds_toArray, List.set_cons_zero, List.set_cons_succ]
          refine' wpAnyD_take (i := 8) (oi := { dst := some 79, op := Go.Op.indexAddr 55 (Go.Operand.tmp 77) (Go.Operand.tmp 78), type := 0, pos := "law.go:117", after := #[{ on := 6, ground := Go.Ground.data }, { on := 7, ground := Go.Ground.data }, { on := 5, ground := Go.Ground.guard }], guard := some (5, false) }) (v := _) rfl (by kernel_rfl) (by kernel_rfl) (by kernel_rfl) (fun _ _ _ h => h) (by kernel_rfl) (Or.inl ⟨by rfl, ?hy9⟩) S0 ?rest9
          case hy9 => (intro W hSw; go_simp; try (with_reducible rfl))
          try simp only [Act.put, List.setIfInBounds_toArray, List.set_cons_zero, List.set_cons_succ]
          refine' wpAnyD_take (i := 9) (oi := { dst := some 80, op := Go.Op.load 49 (Go.Operand.tmp 79), type := 49, pos := "law.go:117", after := #[{ on := 8, ground := Go.Ground.data }, { on := 5, ground := Go.Ground.guard }], guard := some (5, false) }) (v := _) rfl (by kernel_rfl) (by kernel_rfl) (by kernel_rfl) (fun _ _ _ h => h) (by kernel_rfl) (Or.inl ⟨by rfl, ?hy10⟩) S0 ?rest10
          case hy10 => (intro W hSw; obtain ⟨s1, s2, s3, s4, ⟨s5, s6, s7, s8, s9⟩, s10⟩ := hSw; go_simp; try (with_reducible rfl))
          try simp only [Act.put, List.setIfInBounds_toArray, List.set_cons_zero, List.set_cons_succ]
          refine' wpAnyD_take (i := 10) (oi := { dst := some 81, op := Go.Op.move (Go.Operand.tmp 10), type := 56, pos := "law.go:117", after := #[{ on := 5, ground := Go.Ground.guard }], guard := some (5, false) }) (v := _) rfl (by kernel_rfl) (by kernel_rfl) (by kernel_rfl) (fun _ _ _ h => h) (by kernel_rfl) (Or.inl ⟨by rfl, ?hy11⟩) S0 ?rest11
          case hy11 => (intro W hSw; go_simp; try (with_reducible rfl))
          try simp only [Act.put, List.setIfInBounds_toArray, List.set_cons_zero, List.set_cons_succ]
          refine' wpAnyD_take (i := 11) (oi := { dst := some 82, op := Go.Op.move (Go.Operand.tmp 14), type := 3, pos := "law.go:117", after := #[{ on := 5, ground := Go.Ground.guard }], guard := some (5, false) }) (v := _) rfl (by kernel_rfl) (by kernel_rfl) (by kernel_rfl) (fun _ _ _ h => h) (by kernel_rfl) (Or.inl ⟨by rfl, ?hy12⟩) S0 ?rest12
          case hy12 => (intro W hSw; go_simp; try (with_reducible rfl))
          try simp only [Act.put, List.setIfInBounds_toArray, List.set_cons_zero, List.set_cons_succ]
          refine' wpAnyD_take (i := 12) (oi := { dst := some 83, op := Go.Op.indexAddr 56 (Go.Operand.tmp 81) (Go.Operand.tmp 82), type := 0, pos := "law.go:117", after := #[{ on := 10, ground := Go.Ground.data }, { on := 11, ground := Go.Ground.data }, { on := 5, ground := Go.Ground.guard }], guard := some (5, false) }) (v := _) rfl (by kernel_rfl) (by kernel_rfl) (by kernel_rfl) (fun _ _ _ h => h) (by kernel_rfl) (Or.inl ⟨by rfl, ?hy13⟩) S0 ?rest13
          case hy13 => (intro W hSw; go_simp; try (with_reducible rfl))
          try simp only [Act.put, List.setIfInBounds_toArray, List.set_cons_zero, List.set_cons_succ]
          refine' wpAnyD_take (i := 13) (oi := { dst := some 84, op := Go.Op.load 52 (Go.Operand.tmp 83), type := 52, pos := "law.go:117", after := #[{ on := 12, ground := Go.Ground.data }, { on := 5, ground := Go.Ground.guard }], guard := some (5, false) }) (v := _) rfl (by kernel_rfl) (by kernel_rfl) (by kernel_rfl) (fun _ _ _ h => h) (by kernel_rfl) (Or.inl ⟨by rfl, ?hy14⟩) S0 ?rest14
          case hy14 => (intro W hSw; obtain ⟨s1, s2, s3, s4, ⟨s5, s6, s7, s8, s9⟩, s10⟩ := hSw; go_simp; try (with_reducible rfl))
          try simp only [Act.put, List.setIfInBounds_toArray, List.set_cons_zero, List.set_cons_succ]
          refine' wpAnyD_take (i := 14) (oi := { dst := some 85, op := Go.Op.load 28 (Go.Operand.tmp 13), type := 28, pos := "law.go:117", after := #[{ on := 5, ground := Go.Ground.guard }], guard := some (5, false) }) (v := _) rfl (by kernel_rfl) (by kernel_rfl) (by kernel_rfl) (fun _ _ _ h => h) (by kernel_rfl) (Or.inl ⟨by rfl, ?hy15⟩) S0 ?rest15
          case hy15 => (intro W hSw; obtain ⟨s1, s2, s3, s4, ⟨s5, s6, s7, s8, s9⟩, s10⟩ := hSw; go_simp; try (with_reducible rfl))
          try simp only [Act.put, List.setIfInBounds_toArray, List.set_cons_zero, List.set_cons_succ]
          refine wpAnyD_one (i := 15) (o := { dst := some 86, op := Go.Op.call { callee := Go.Callee.value (Go.Operand.func 22), args := #[Go.Operand.tmp 80, Go.Operand.tmp 84, Go.Operand.tmp 85], argTypes := #[49, 52, 28] }, type := 4, pos := "law.go:117", after := #[{ on := 9, ground := Go.Ground.data }, { on := 13, ground := Go.Ground.data }, { on := 14, ground := Go.Ground.data }, { on := 5, ground := Go.Ground.chain }, { on := 5, ground := Go.Ground.guard }], guard := some (5, false) }) (by kernel_rfl) rfl (fun K hK => ?_)
          rw [if_pos (by kernel_rfl)]
          go_simp
          refine hans.mono ?_
          rintro e w5 ⟨rfl, H5⟩
          have X5 : Hid (w5.heap[b1]? = some (.cells #[.int .i64 xa, .int .i64 xo, .int .i64 F, .int .i64 T, .int .i64 xv] 28 (0, 0))) := (H5.out.box q5 (by rw [H0.out]; omega) (by rw [H0.out]; omega)).trans X1.out
          have S5 : w5.cell? ⟨gP, k, none⟩ = some (.pointer (some ⟨hbs k, 0, none⟩)) ∧ w5.cell? ⟨gR, k, none⟩ = some (.pointer (some ⟨rbs k, 0, none⟩)) ∧ gP < w5.heap.size ∧ gR < w5.heap.size ∧ (w5.cell? ⟨b1, 0, none⟩ = some (.int .i64 xa) ∧ w5.cell? ⟨b1, 1, none⟩ = some (.int .i64 xo) ∧ w5.cell? ⟨b1, 2, none⟩ = some (.int .i64 F) ∧ w5.cell? ⟨b1, 3, none⟩ = some (.int .i64 T) ∧ w5.cell? ⟨b1, 4, none⟩ = some (.int .i64 xv)) ∧ b1 < w5.heap.size := by
            obtain ⟨⟨s0, s1, s2, s3, s4⟩, -, s5⟩ := Po.box_at (x := (xa, xo, F, T, xv)) X5.out
            have kP := H5.out.box (k := gP) lP (by rw [HTP.out.1]; omega) (by rw [HTP.out.1]; omega)
            have kR := H5.out.box (k := gR) lR (by rw [HTP.out.2]; omega) (by rw [HTP.out.2]; omega)
            have hz : W1.drew.heap.size ≤ w5.heap.size := by
              obtain ⟨_, _, _, _, hn⟩ := H5.out
              exact hn.kp.size
            exact ⟨(World.cell?_of_block (a := ⟨gP, k, none⟩) kP).trans S0.1, (World.cell?_of_block (a := ⟨gR, k, none⟩) kR).trans S0.2.1, Nat.lt_of_lt_of_le lP hz, Nat.lt_of_lt_of_le lR hz, ⟨s0, s1, s2, s3, s4⟩, s5⟩
          clear hans
          dsimp only
          refine hK.out _ _ (fun hD => S5) ?_
          clear hK K
          try simp only [Act.put, List.setIfInBounds_toArray, List.set_cons_zero, List.set_cons_succ]
          refine wpAnyD_one (i := 16) (o := { dst := some 87, op := Go.Op.unOp Go.UnOp.not 4 (Go.Operand.tmp 86), type := 4, pos := "law.go:117", after := #[{ on := 15, ground := Go.Ground.data }, { on := 5, ground := Go.Ground.guard }], guard := some (5, false) }) (by kernel_rfl) rfl (fun K hK => ?_)
          rw [if_pos (by kernel_rfl)]
          go_simp
          refine hK.out _ _ (fun hD => S5) ?_
          clear hK K
          try simp only [Act.put, List.setIfInBounds_toArray, List.set_cons_zero, List.set_cons_succ]
          refine wpAnyD_one (i := 17) (o := { dst := some 88, op := Go.Op.pick (Go.Operand.tmp 76) (Go.Operand.const (Go.Value.bool true)) (Go.Operand.tmp 87), type := 4, pos := "law.go:117", after := #[{ on := 5, ground := Go.Ground.data }, { on := 16, ground := Go.Ground.data }], guard := none }) (by kernel_rfl) rfl (fun K hK => ?_)
          rw [if_pos (by kernel_rfl)]
          go_simp
          refine hK.out _ _ (fun hD => S5) ?_
          clear hK K
          try simp only [Act.put, List.setIfInBounds_toArray, List.set_cons_zero, List.set_cons_succ]
          refine wpAnyD_done (by kernel_rfl) ?_ _
          obtain ⟨tag5, Q5, L5, hS5⟩ := S1d.out.ans hkm H5.out
          have T5 := hid hS5
          obtain ⟨u1, u2, u3, u4, ⟨r0, r1, r2, r3, r4⟩, r5⟩ := S5
          clear hS5 S0 q0 q1 q2 q3 q4 q5 lP lR
          by_cases ha5 : xa = 5
          · have hab : (xa == 5) = true := by simp [ha5]
            have hab6 : (xa == 6) = false := by simp [ha5]
            clear ha5
            have T5d := hid (T5.out.nx (Nx.same (fun _ => False) tag5 (Gr.refl w5).drew.below))
            have S5d : w5.drew.cell? ⟨gP, k, none⟩ = some (.pointer (some ⟨hbs k, 0, none⟩)) ∧ w5.drew.cell? ⟨gR, k, none⟩ = some (.pointer (some ⟨rbs k, 0, none⟩)) ∧ gP < w5.drew.heap.size ∧ gR < w5.drew.heap.size := ⟨u1, u2, u3, u4⟩
            have XB5 : Hid (w5.drew.heap[b1]? = some (.cells #[.int .i64 xa, .int .i64 xo, .int .i64 F, .int .i64 T, .int .i64 xv] 28 (0, 0))) := X5.out
            have HNB : Hid ((Value.slice pB nb cB).ownBlock ≠ some b1) := fun e => by
              have h1 := S1.out.bk.2 b1 e
              have h2 := H0.out
              omega
            have hbz := busy_any w5.drew (T5d.out.pr k hkm).p
            have HBL : Hid ((bsy W (Q5 k)).length ≤ 64) := Nat.le_trans (bsA_le _ W W) (Nat.le_trans (Nat.mul_le_mul hW8 hW8) (by decide))
            have hbzP : ∀ (w' : World) (t' : Nat → Nat), Sc w w' t' m nb (i + 1) W hbs rbs Q5 L5 V Wv D (.slice (some ⟨gP, 0, none⟩) m cP) (.slice (some ⟨gR, 0, none⟩) m cR) (.slice pB nb cB) → Calls Try.prog 23 #[.pointer (some ⟨hbs k, 0, none⟩)] w' fun e w'' => ∃ v, e = .returned v ∧ w''.ownsRow w'.heap.size 81 2 v (bsy W (Q5 k)).length (fl EP (bsy W (Q5 k))) ∧ Below w'.heap.size w' w'' := fun w' t' h => busy_any w' (h.pr k hkm).p
            have hbzR : ∀ (w' : World) (t' : Nat → Nat), Sc w w' t' m nb (i + 1) W hbs rbs Q5 L5 V Wv D (.slice (some ⟨gP, 0, none⟩) m cP) (.slice (some ⟨gR, 0, none⟩) m cR) (.slice pB nb cB) → Calls Try.prog 24 #[.pointer (some ⟨rbs k, 0, none⟩)] w' fun e w'' => ∃ v, e = .returned v ∧ w''.ownsRow w'.heap.size 81 2 v (bsy W (Q5 k)).length (fl EP (bsy W (Q5 k))) ∧ Below w'.heap.size w' w'' := fun w' t' h => by
              obtain ⟨rv, h1, h2, h3⟩ := (h.pr k hkm).r
              have hle := (h.pr k hkm).le
              have := rbusy_any w' h1 hW8 (by omega)
              rw [← (h.pr k hkm).rel.bsy] at this
              exact this
            generalize bsy W (Q5 k) = BL at hbz hbzP hbzR HBL
            go_upto_region 20 with fail
            refine wp_regionD (S := fun W' => W'.cell? ⟨gP, k, none⟩ = some (.pointer (some ⟨hbs k, 0, none⟩)) ∧ W'.cell? ⟨gR, k, none⟩ = some (.pointer (some ⟨rbs k, 0, none⟩)) ∧ gP < W'.heap.size ∧ gR < W'.heap.size) (D := []) hmx ?_
            refine' wpAnyD_take (i := 0) (oi := { dst := some 92, op := Go.Op.move (Go.Operand.tmp 11), type := 57, pos := "law.go:121", after := #[], guard := none }) (v := _) rfl (by kernel_rfl) (by kernel_rfl) (by kernel_rfl) (fun _ _ _ h => h) (by kernel_rfl) (Or.inl ⟨by rfl, ?hy19⟩) S5d ?rest19
            case hy19 => (intro W hSw; go_simp; try (with_reducible rfl))
            try simp only [Act.put, List.setIfInBounds_toArray, List.set_cons_zero, List.set_cons_succ]
            refine' wpAnyD_take (i := 1) (oi := { dst := some 93, op := Go.Op.move (Go.Operand.tmp 9), type := 55, pos := "law.go:121", after := #[], guard := none }) (v := _) rfl (by kernel_rfl) (by kernel_rfl) (by kernel_rfl) (fun _ _ _ h => h) (by kernel_rfl) (Or.inl ⟨by rfl, ?hy20⟩) S5d ?rest20
            case hy20 => (intro W hSw; go_simp; try (with_reducible rfl))
            try simp only [Act.put, List.setIfInBounds_toArray, List.set_cons_zero, List.set_cons_succ]
            refine' wpAnyD_take (i := 2) (oi := { dst := some 94, op := Go.Op.move (Go.Operand.tmp 14), type := 3, pos := "law.go:121", after := #[], guard := none }) (v := _) rfl (by kernel_rfl) (by kernel_rfl) (by kernel_rfl) (fun _ _ _ h => h) (by kernel_rfl) (Or.inl ⟨by rfl, ?hy21⟩) S5d ?rest21
            case hy21 => (intro W hSw; go_simp; try (with_reducible rfl))
            try simp only [Act.put, List.setIfInBounds_toArray, List.set_cons_zero, List.set_cons_succ]
            refine' wpAnyD_take (i := 3) (oi := { dst := some 95, op := Go.Op.indexAddr 55 (Go.Operand.tmp 93) (Go.Operand.tmp 94), type := 0, pos := "law.go:121", after := #[{ on := 1, ground := Go.Ground.data }, { on := 2, ground := Go.Ground.data }], guard := none }) (v := _) rfl (by kernel_rfl) (by kernel_rfl) (by kernel_rfl) (fun _ _ _ h => h) (by kernel_rfl) (Or.inl ⟨by rfl, ?hy22⟩) S5d ?rest22
            case hy22 => (intro W hSw; go_simp; try (with_reducible rfl))
            try simp only [Act.put, List.setIfInBounds_toArray, List.set_cons_zero, List.set_cons_succ]
            refine' wpAnyD_take (i := 4) (oi := { dst := some 96, op := Go.Op.load 49 (Go.Operand.tmp 95), type := 49, pos := "law.go:121", after := #[{ on := 3, ground := Go.Ground.data }], guard := none }) (v := _) rfl (by kernel_rfl) (by kernel_rfl) (by kernel_rfl) (fun _ _ _ h => h) (by kernel_rfl) (Or.inl ⟨by rfl, ?hy23⟩) S5d ?rest23
            case hy23 => (intro W hSw; obtain ⟨s1, s2, s3, s4⟩ := hSw; go_simp; try (with_reducible rfl))
            try simp only [Act.put, List.setIfInBounds_toArray, List.set_cons_zero, List.set_cons_succ]
            refine' wpAnyD_take (i := 6) (oi := { dst := some 98, op := Go.Op.move (Go.Operand.tmp 9), type := 55, pos := "law.go:121", after := #[], guard := none }) (v := _) rfl (by kernel_rfl) (by kernel_rfl) (by kernel_rfl) (fun _ _ _ h => h) (by kernel_rfl) (Or.inl ⟨by rfl, ?hy24⟩) S5d ?rest24
            case hy24 => (intro W hSw; go_simp; try (with_reducible rfl))
            try simp only [Act.put, List.setIfInBounds_toArray, List.set_cons_zero, List.set_cons_succ]
            refine' wpAnyD_take (i := 7) (oi := { dst := some 99, op := Go.Op.move (Go.Operand.tmp 14), type := 3, pos := "law.go:121", after := #[], guard := none }) (v := _) rfl (by kernel_rfl) (by kernel_rfl) (by kernel_rfl) (fun _ _ _ h => h) (by kernel_rfl) (Or.inl ⟨by rfl, ?hy25⟩) S5d ?rest25
            case hy25 => (intro W hSw; go_simp; try (with_reducible rfl))
            try simp only [Act.put, List.setIfInBounds_toArray, List.set_cons_zero, List.set_cons_succ]
            refine' wpAnyD_take (i := 8) (oi := { dst := some 100, op := Go.Op.indexAddr 55 (Go.Operand.tmp 98) (Go.Operand.tmp 99), type := 0, pos := "law.go:121", after := #[{ on := 6, ground := Go.Ground.data }, { on := 7, ground := Go.Ground.data }], guard := none }) (v := _) rfl (by kernel_rfl) (by kernel_rfl) (by kernel_rfl) (fun _ _ _ h => h) (by kernel_rfl) (Or.inl ⟨by rfl, ?hy26⟩) S5d ?rest26
            case hy26 => (intro W hSw; go_simp; try (with_reducible rfl))
            try simp only [Act.put, List.setIfInBounds_toArray, List.set_cons_zero, List.set_cons_succ]
            refine' wpAnyD_take (i := 9) (oi := { dst := some 101, op := Go.Op.load 49 (Go.Operand.tmp 100), type := 49, pos := "law.go:121", after := #[{ on := 8, ground := Go.Ground.data }], guard := none }) (v := _) rfl (by kernel_rfl) (by kernel_rfl) (by kernel_rfl) (fun _ _ _ h => h) (by kernel_rfl) (Or.inl ⟨by rfl, ?hy27⟩) S5d ?rest27
            case hy27 => (intro W hSw; obtain ⟨s1, s2, s3, s4⟩ := hSw; go_simp; try (with_reducible rfl))
            try simp only [Act.put, List.setIfInBounds_toArray, List.set_cons_zero, List.set_cons_succ]
            refine' wpAnyD_take (i := 11) (oi := { dst := some 103, op := Go.Op.move (Go.Operand.tmp 10), type := 56, pos := "law.go:121", after := #[], guard := none }) (v := _) rfl (by kernel_rfl) (by kernel_rfl) (by kernel_rfl) (fun _ _ _ h => h) (by kernel_rfl) (Or.inl ⟨by rfl, ?hy28⟩) S5d ?rest28
            case hy28 => (intro W hSw; go_simp; try (with_reducible rfl))
            try simp only [Act.put, List.setIfInBounds_toArray, List.set_cons_zero, List.set_cons_succ]
            refine' wpAnyD_take (i := 12) (oi := { dst := some 104, op := Go.Op.move (Go.Operand.tmp 14), type := 3, pos := "law.go:121", after := #[], guard := none }) (v := _) rfl (by kernel_rfl) (by kernel_rfl) (by kernel_rfl) (fun _ _ _ h => h) (by kernel_rfl) (Or.inl ⟨by rfl, ?hy29⟩) S5d ?rest29
            case hy29 => (intro W hSw; go_simp; try (with_reducible rfl))
            try simp only [Act.put, List.setIfInBounds_toArray, List.set_cons_zero, List.set_cons_succ]
            refine' wpAnyD_take (i := 13) (oi := { dst := some 105, op := Go.Op.indexAddr 56 (Go.Operand.tmp 103) (Go.Operand.tmp 104), type := 0, pos := "law.go:121", after := #[{ on := 11, ground := Go.Ground.data }, { on := 12, ground := Go.Ground.data }], guard := none }) (v := _) rfl (by kernel_rfl) (by kernel_rfl) (by kernel_rfl) (fun _ _ _ h => h) (by kernel_rfl) (Or.inl ⟨by rfl, ?hy30⟩) S5d ?rest30
            case hy30 => (intro W hSw; go_simp; try (with_reducible rfl))
            try simp only [Act.put, List.setIfInBounds_toArray, List.set_cons_zero, List.set_cons_succ]
            refine' wpAnyD_take (i := 14) (oi := { dst := some 106, op := Go.Op.load 52 (Go.Operand.tmp 105), type := 52, pos := "law.go:121", after := #[{ on := 13, ground := Go.Ground.data }], guard := none }) (v := _) rfl (by kernel_rfl) (by kernel_rfl) (by kernel_rfl) (fun _ _ _ h => h) (by kernel_rfl) (Or.inl ⟨by rfl, ?hy31⟩) S5d ?rest31
            case hy31 => (intro W hSw; obtain ⟨s1, s2, s3, s4⟩ := hSw; go_simp; try (with_reducible rfl))
            try simp only [Act.put, List.setIfInBounds_toArray, List.set_cons_zero, List.set_cons_succ]
            refine wpAnyD_one (i := 5) (o := { dst := some 97, op := Go.Op.call { callee := Go.Callee.value (Go.Operand.func 23), args := #[Go.Operand.tmp 96], argTypes := #[49] }, type := 36, pos := "law.go:121", after := #[{ on := 4, ground := Go.Ground.data }], guard := none }) (by kernel_rfl) rfl (fun K hK => ?_)
            rw [if_pos (by kernel_rfl)]
            go_simp
            refine hbz.mono ?_
            rintro e w6 ⟨v6, rfl, ho6, hB6⟩
            have S6 : w6.cell? ⟨gP, k, none⟩ = some (.pointer (some ⟨hbs k, 0, none⟩)) ∧ w6.cell? ⟨gR, k, none⟩ = some (.pointer (some ⟨rbs k, 0, none⟩)) ∧ gP < w6.heap.size ∧ gR < w6.heap.size := ⟨(hB6.cell (p := ⟨gP, k, none⟩) S5d.2.2.1).trans S5d.1, (hB6.cell (p := ⟨gR, k, none⟩) S5d.2.2.2).trans S5d.2.1, Nat.lt_of_lt_of_le S5d.2.2.1 hB6.size, Nat.lt_of_lt_of_le S5d.2.2.2 hB6.size⟩
            have T6 := hid (T5d.out.below hB6 (20 + 3 * nb + 0))
            have O6 := hid (Ow.new (tag := tag5) (j := 20 + 3 * nb + 0) ho6)
            obtain ⟨t6, ht6⟩ : ∃ t, t = tg tag5 w5.drew (20 + 3 * nb + 0) := ⟨_, rfl⟩
            have N6 := hid (Nx.below (fun _ => False) tag5 (20 + 3 * nb + 0) hB6)
            rw [← ht6] at T6 O6 N6
            obtain ⟨p6, n6, c6, rfl⟩ : ∃ p n c, v6 = .slice p n c := by
              rcases owns_form (owns_base ho6 (Nat.zero_le _)) with ⟨rfl, _⟩ | ⟨g, cap, rfl, _⟩
              · exact ⟨_, _, _, rfl⟩
              · exact ⟨_, _, _, rfl⟩
            have XB6 := hid ((hB6.block b1 (Array.getElem?_eq_some_iff.1 XB5.out).1).trans XB5.out)
            clear ho6 hB6 ht6
            have hbz2 := hbzP w6 t6 T6.out
            clear hbz
            dsimp only
            refine hK.out _ _ (fun hD => S6) ?_
            clear hK K
            try simp only [Act.put, List.setIfInBounds_toArray, List.set_cons_zero, List.set_cons_succ]
            refine wpAnyD_one (i := 10) (o := { dst := some 102, op := Go.Op.call { callee := Go.Callee.value (Go.Operand.func 23), args := #[Go.Operand.tmp 101], argTypes := #[49] }, type := 36, pos := "law.go:121", after := #[{ on := 9, ground := Go.Ground.data }, { on := 5, ground := Go.Ground.chain }], guard := none }) (by kernel_rfl) rfl (fun K hK => ?_)
            rw [if_pos (by kernel_rfl)]
            go_simp
            refine hbz2.mono ?_
            rintro e w7 ⟨v7, rfl, ho7, hB7⟩
            have S7 : w7.cell? ⟨gP, k, none⟩ = some (.pointer (some ⟨hbs k, 0, none⟩)) ∧ w7.cell? ⟨gR, k, none⟩ = some (.pointer (some ⟨rbs k, 0, none⟩)) ∧ gP < w7.heap.size ∧ gR < w7.heap.size := ⟨(hB7.cell (p := ⟨gP, k, none⟩) S6.2.2.1).trans S6.1, (hB7.cell (p := ⟨gR, k, none⟩) S6.2.2.2).trans S6.2.1, Nat.lt_of_lt_of_le S6.2.2.1 hB7.size, Nat.lt_of_lt_of_le S6.2.2.2 hB7.size⟩
            have T7 := hid (T6.out.below hB7 (20 + 3 * nb + 1))
            have O7 := hid (Ow.new (tag := t6) (j := 20 + 3 * nb + 1) ho7)
            obtain ⟨t7, ht7⟩ : ∃ t, t = tg t6 w6 (20 + 3 * nb + 1) := ⟨_, rfl⟩
            have N7 := hid (Nx.below (fun _ => False) t6 (20 + 3 * nb + 1) hB7)
            rw [← ht7] at T7 O7 N7
            obtain ⟨p7, n7, c7, rfl⟩ : ∃ p n c, v7 = .slice p n c := by
              rcases owns_form (owns_base ho7 (Nat.zero_le _)) with ⟨rfl, _⟩ | ⟨g, cap, rfl, _⟩
              · exact ⟨_, _, _, rfl⟩
              · exact ⟨_, _, _, rfl⟩
            have XB7 := hid ((hB7.block b1 (Array.getElem?_eq_some_iff.1 XB6.out).1).trans XB6.out)
            clear ho7 hB7 ht7
            have O6 := hid (O6.out.nx N7.out (fun h => h))
            have hbz3 := hbzR w7 t7 T7.out
            clear hbz2
            dsimp only
            refine hK.out _ _ (fun hD => S7) ?_
            clear hK K
            try simp only [Act.put, List.setIfInBounds_toArray, List.set_cons_zero, List.set_cons_succ]
            refine wpAnyD_one (i := 15) (o := { dst := some 107, op := Go.Op.call { callee := Go.Callee.value (Go.Operand.func 24), args := #[Go.Operand.tmp 106], argTypes := #[52] }, type := 36, pos := "law.go:121", after := #[{ on := 14, ground := Go.Ground.data }, { on := 10, ground := Go.Ground.chain }], guard := none }) (by kernel_rfl) rfl (fun K hK => ?_)
            rw [if_pos (by kernel_rfl)]
            go_simp
            refine hbz3.mono ?_
            rintro e w8 ⟨v8, rfl, ho8, hB8⟩
            have S8 : w8.cell? ⟨gP, k, none⟩ = some (.pointer (some ⟨hbs k, 0, none⟩)) ∧ w8.cell? ⟨gR, k, none⟩ = some (.pointer (some ⟨rbs k, 0, none⟩)) ∧ gP < w8.heap.size ∧ gR < w8.heap.size := ⟨(hB8.cell (p := ⟨gP, k, none⟩) S7.2.2.1).trans S7.1, (hB8.cell (p := ⟨gR, k, none⟩) S7.2.2.2).trans S7.2.1, Nat.lt_of_lt_of_le S7.2.2.1 hB8.size, Nat.lt_of_lt_of_le S7.2.2.2 hB8.size⟩
            have T8 := hid (T7.out.below hB8 (20 + 3 * nb + 2))
            have O8 := hid (Ow.new (tag := t7) (j := 20 + 3 * nb + 2) ho8)
            obtain ⟨t8, ht8⟩ : ∃ t, t = tg t7 w7 (20 + 3 * nb + 2) := ⟨_, rfl⟩
            have N8 := hid (Nx.below (fun _ => False) t7 (20 + 3 * nb + 2) hB8)
            rw [← ht8] at T8 O8 N8
            obtain ⟨p8, n8, c8, rfl⟩ : ∃ p n c, v8 = .slice p n c := by
              rcases owns_form (owns_base ho8 (Nat.zero_le _)) with ⟨rfl, _⟩ | ⟨g, cap, rfl, _⟩
              · exact ⟨_, _, _, rfl⟩
              · exact ⟨_, _, _, rfl⟩
            have XB8 := hid ((hB8.block b1 (Array.getElem?_eq_some_iff.1 XB7.out).1).trans XB7.out)
            clear ho8 hB8 ht8
            have O6 := hid (O6.out.nx N8.out (fun h => h))
            have O7 := hid (O7.out.nx N8.out (fun h => h))
            clear hbz3
            dsimp only
            refine hK.out _ _ (fun hD => S8) ?_
            clear hK K
            try simp only [Act.put, List.setIfInBounds_toArray, List.set_cons_zero, List.set_cons_succ]
            refine wpAnyD_one (i := 16) (o := { dst := some 108, op := Go.Op.build 60 #[(0, Go.Operand.tmp 97), (1, Go.Operand.tmp 102), (2, Go.Operand.tmp 107)], type := 60, pos := "law.go:121", after := #[{ on := 5, ground := Go.Ground.data }, { on := 10, ground := Go.Ground.data }, { on := 15, ground := Go.Ground.data }], guard := none }) (by kernel_rfl) rfl (fun K hK => ?_)
            rw [if_pos (by kernel_rfl)]
            go_simp
            refine hK.out _ _ (fun hD => S8) ?_
            clear hK K
            try simp only [Act.put, List.setIfInBounds_toArray, List.set_cons_zero, List.set_cons_succ]
            refine wpAnyD_one (i := 17) (o := { dst := some 109, op := Go.Op.buildSlice 57 1 #[(0, Go.Operand.tmp 108)], type := 57, pos := "law.go:121", after := #[{ on := 16, ground := Go.Ground.data }], guard := none }) (by kernel_rfl) rfl (fun K hK => ?_)
            rw [if_pos (by kernel_rfl)]
            go_simp
            have S9 : (w8.alloc (.cells #[.slice p6 n6 c6, .slice p7 n7 c7, .slice p8 n8 c8] 60)).cell? ⟨gP, k, none⟩ = some (.pointer (some ⟨hbs k, 0, none⟩)) ∧ (w8.alloc (.cells #[.slice p6 n6 c6, .slice p7 n7 c7, .slice p8 n8 c8] 60)).cell? ⟨gR, k, none⟩ = some (.pointer (some ⟨rbs k, 0, none⟩)) ∧ gP < (w8.alloc (.cells #[.slice p6 n6 c6, .slice p7 n7 c7, .slice p8 n8 c8] 60)).heap.size ∧ gR < (w8.alloc (.cells #[.slice p6 n6 c6, .slice p7 n7 c7, .slice p8 n8 c8] 60)).heap.size := ⟨((Gr.refl w8).alloc _).cell S8.2.2.1 |>.trans S8.1, ((Gr.refl w8).alloc _).cell S8.2.2.2 |>.trans S8.2.1, Nat.lt_of_lt_of_le S8.2.2.1 ((Gr.refl w8).alloc (.cells #[.slice p6 n6 c6, .slice p7 n7 c7, .slice p8 n8 c8] 60)).size, Nat.lt_of_lt_of_le S8.2.2.2 ((Gr.refl w8).alloc (.cells #[.slice p6 n6 c6, .slice p7 n7 c7, .slice p8 n8 c8] 60)).size⟩
            refine hK.out _ _ (fun hD => S9) ?_
            clear hK K
            try simp only [Act.put, List.setIfInBounds_toArray, List.set_cons_zero, List.set_cons_succ]
            refine wpAnyD_one (i := 18) (o := { dst := some 110, op := Go.Op.call { callee := Go.Callee.builtin Go.Builtin.append, args := #[Go.Operand.tmp 92, Go.Operand.tmp 109], argTypes := #[57, 57] }, type := 57, pos := "law.go:121", after := #[{ on := 0, ground := Go.Ground.data }, { on := 17, ground := Go.Ground.data }, { on := 15, ground := Go.Ground.chain }], guard := none }) (by kernel_rfl) rfl (fun K hK => ?_)
            refine step_app1 EG Try.underlying57 infoPg rfl (by decide) rfl _ _ rfl 0 (.slice pB nb cB) nb _ rfl T8.out.bk.1 (⟨.slice p6 n6 c6, rfl⟩, ⟨.slice p7 n7 c7, rfl⟩, ⟨.slice p8 n8 c8, rfl⟩) (by first | rfl | (go_simp; done)) (by omega) (by unfold maxLen; omega) (Nat.zero_le _) _ rfl _ ?_
            intro g10 cap10 w10 ho10 hg10 hn10
            have hk10 : Kp (fun k => (Value.slice pB nb cB).ownBlock = some k) w8 w10 := Kp.grownBy hg10.out (fun _ h => h)
            have HPG := hid (T8.out.page O6.out O7.out O8.out HBL.out ho10.out hk10 (fun k hk => by rw [← own_eq hk]; exact hn10.out))
            have nP : (Value.slice pB nb cB).ownBlock ≠ some gP := fun e => by
              have h1 := T8.out.bk.2 gP e
              have h2 := T8.out.ps.2 gP rfl
              omega
            have nR : (Value.slice pB nb cB).ownBlock ≠ some gR := fun e => by
              have h1 := T8.out.bk.2 gR e
              have h2 := T8.out.rs.2 gR rfl
              omega
            have S10 : w10.cell? ⟨gP, k, none⟩ = some (.pointer (some ⟨hbs k, 0, none⟩)) ∧ w10.cell? ⟨gR, k, none⟩ = some (.pointer (some ⟨rbs k, 0, none⟩)) ∧ gP < w10.heap.size ∧ gR < w10.heap.size := ⟨(hk10.cell S8.2.2.1 nP).trans S8.1, (hk10.cell S8.2.2.2 nR).trans S8.2.1, Nat.lt_of_lt_of_le S8.2.2.1 hk10.size, Nat.lt_of_lt_of_le S8.2.2.2 hk10.size⟩
            have X10 := hid ((hk10.block b1 (Array.getElem?_eq_some_iff.1 XB8.out).1 HNB.out).trans XB8.out)
            clear ho10 hg10 hn10 hk10 nP nR
            refine hK.out _ _ (fun hD => S10) ?_
            clear hK K
            try simp only [Act.put, List.setIfInBounds_toArray, List.set_cons_zero, List.set_cons_succ]
            refine wpAnyD_one (i := 19) (o := { dst := some 11, op := Go.Op.assign (Go.Operand.tmp 110), type := 57, pos := "law.go:121", after := #[{ on := 18, ground := Go.Ground.data }, { on := 18, ground := Go.Ground.chain }, { on := 0, ground := Go.Ground.phase }, { on := 1, ground := Go.Ground.phase }, { on := 2, ground := Go.Ground.phase }, { on := 3, ground := Go.Ground.phase }, { on := 4, ground := Go.Ground.phase }, { on := 5, ground := Go.Ground.phase }, { on := 6, ground := Go.Ground.phase }, { on := 7, ground := Go.Ground.phase }, { on := 8, ground := Go.Ground.phase }, { on := 9, ground := Go.Ground.phase }, { on := 10, ground := Go.Ground.phase }, { on := 11, ground := Go.Ground.phase }, { on := 12, ground := Go.Ground.phase }, { on := 13, ground := Go.Ground.phase }, { on := 14, ground := Go.Ground.phase }, { on := 15, ground := Go.Ground.phase }, { on := 16, ground := Go.Ground.phase }, { on := 17, ground := Go.Ground.phase }, { on := 18, ground := Go.Ground.phase }], guard := none }) (by kernel_rfl) rfl (fun K hK => ?_)
            rw [if_pos (by kernel_rfl)]
            go_simp
            refine hK.out _ _ (fun hD => S10) ?_
            clear hK K
            try simp only [Act.put, List.setIfInBounds_toArray, List.set_cons_zero, List.set_cons_succ]
            refine wpAnyD_done (by kernel_rfl) ?_ _
            obtain ⟨t10, V10, Wv10, D10, hS10⟩ := HPG.out
            have T10 := hid hS10
            obtain ⟨⟨r0, r1, r2, r3, r4⟩, -, r5⟩ := Po.box_at (x := (xa, xo, F, T, xv)) X10.out
            dsimp only at r0 r1 r2 r3 r4
            clear hS10
            go_wp2_with fail
            go_roundw
            case rel => exact ⟨i + 1, m, nb + 1, _, _, some ⟨g10, 0, none⟩, _, _, cap10, hlt, by simp, rfl, rfl, rfl, ⟨hm1, by omega, _, _, _, _, _, _, _, _, T10.out⟩⟩
            case measure => simp [RowKit.intOf]; omega
          · have hab : (xa == 5) = false := by simp [ha5]
            clear ha5
            by_cases ha6 : xa = 6
            · have hab6 : (xa == 6) = true := by simp [ha6]
              clear ha6
              by_cases hm : m < 4
              · have hmz4 : (m : Int) < 4 := by omega
                have hcp := (T5.out.pr k hkm).p.copy (4 + 2 * m) (by omega)
                obtain ⟨hn, hhn⟩ : ∃ hn, hn = w5.heap.size := ⟨_, rfl⟩
                have hcp : Calls Try.prog 25 #[.pointer (some ⟨hbs k, 0, none⟩)] w5 fun e w' => e = .returned (.pointer (some ⟨hn, 0, none⟩)) ∧ Hid (Pt w' (tg tag5 w5 (4 + 2 * m)) (4 + 2 * m) hn W (i + 1) (Q5 k) ∧ Below w5.heap.size w5 w') := by rw [hhn]; exact hcp
                clear hhn
                go_wp2_with fail
                refine hcp.mono ?_
                rintro e w6 ⟨rfl, H6⟩
                clear hcp
                have T6 := hid (T5.out.below H6.out.2 (4 + 2 * m))
                have P6 := hid H6.out.1
                obtain ⟨t6, ht6⟩ : ∃ t6, t6 = tg tag5 w5 (4 + 2 * m) := ⟨_, rfl⟩
                rw [← ht6] at T6 P6
                have u2 : w6.cell? ⟨gR, k, none⟩ = some (.pointer (some ⟨rbs k, 0, none⟩)) := (H6.out.2.cell (p := ⟨gR, k, none⟩) u4).trans u2
                have u4 : gR < w6.heap.size := Nat.lt_of_lt_of_le u4 H6.out.2.size
                clear H6 ht6 u1 u3
                go_wp2_with (at_builtin; refine wpApp1 EQ Try.underlying55 infoPp rfl (by decide) rfl _ _ rfl 0 (.slice (some ⟨gP, 0, none⟩) m cP) m _ rfl T6.out.ps.1 hn (by first | rfl | (go_simp; done)) (by omega) (by unfold maxLen; omega) (Nat.zero_le _) _ rfl _ ?_)
                intro g7 cap7 w7 ho7 hg7 hn7
                have hk7 : Kp (fun k => (Value.slice (some ⟨gP, 0, none⟩) m cP).ownBlock = some k) w6 w7 := Kp.grownBy hg7 (fun _ h => h)
                have T7 := hid (T6.out.psApp hm P6.out ho7 hk7 (fun k hk => by rw [← own_eq hk]; exact hn7))
                have nR : (Value.slice (some ⟨gP, 0, none⟩) m cP).ownBlock ≠ some gR := fun e => by
                  have h1 := T6.out.ps.2 gR e
                  have h2 := T6.out.rs.2 gR rfl
                  omega
                have u2 : w7.cell? ⟨gR, k, none⟩ = some (.pointer (some ⟨rbs k, 0, none⟩)) := (hk7.cell u4 nR).trans u2
                have u4 : gR < w7.heap.size := Nat.lt_of_lt_of_le u4 hk7.size
                obtain ⟨t7, ht7⟩ : ∃ t7, t7 = tg t6 w6 1 := ⟨_, rfl⟩
                rw [← ht7] at T7
                obtain ⟨rv, h71, h72, h73⟩ := (T7.out.pr k hkm).r
                have hle7 := (T7.out.pr k hkm).le
                have hcr := rcopy_any w7 h71 (by omega)
                clear ho7 hg7 hn7 hk7 nR ht7 h71 h72 h73
                go_wp2_with fail
                refine hcr.mono ?_
                rintro e w8 ⟨rn, ru, rfl, H8⟩
                clear hcr
                have T8 := hid (T7.out.below H8.out.2.2.2 (5 + 2 * m))
                have R8 : Hid (Rq w8 (tg t7 w7 (5 + 2 * m)) (5 + 2 * m) rn W (L5 k)) := ⟨ru, H8.out.1, tg_new H8.out.2.1, fun g hg => tg_new (H8.out.2.2.1 g hg)⟩
                have REL8 := hid (T7.out.pr k hkm).rel
                obtain ⟨t8, ht8⟩ : ∃ t8, t8 = tg t7 w7 (5 + 2 * m) := ⟨_, rfl⟩
                rw [← ht8] at T8 R8
                clear H8 ht8 u2 u4
                go_wp2_with (at_builtin; refine wpApp1 EQ Try.underlying56 infoRp rfl (by decide) rfl _ _ rfl 0 (.slice (some ⟨gR, 0, none⟩) m cR) m _ rfl T8.out.rs.1 rn (by first | rfl | (go_simp; done)) (by omega) (by unfold maxLen; omega) (Nat.zero_le _) _ rfl _ ?_)
                intro g9 cap9 w9 ho9 hg9 hn9
                have hk9 : Kp (fun k => (Value.slice (some ⟨gR, 0, none⟩) m cR).ownBlock = some k) w8 w9 := Kp.grownBy hg9 (fun _ h => h)
                have T9 := hid (T8.out.done R8.out REL8.out hle7 ho9 hk9 (fun k hk => by rw [← own_eq hk]; exact hn9))
                clear ho9 hg9 hn9 hk9
                obtain ⟨t9, hb9, rb9, Q9, L9, hS9⟩ := T9.out
                have T9 := hid hS9
                clear hS9
                go_wp2_with fail
                go_roundw
                case rel => exact ⟨i + 1, m + 1, nb, some ⟨g7, 0, none⟩, some ⟨g9, 0, none⟩, _, cap7, cap9, _, hlt, by simp, rfl, rfl, rfl, ⟨by omega, by omega, _, _, _, _, _, _, _, _, T9.out⟩⟩
                case measure => simp [RowKit.intOf]; omega
              · have hmz4 : ¬ (m : Int) < 4 := by omega
                go_wp2_with fail
                go_roundw
                case rel => exact ⟨i + 1, m, nb, _, _, _, _, _, _, hlt, by simp, rfl, rfl, rfl, ⟨hm1, by omega, _, _, _, _, _, _, _, _, T5.out⟩⟩
                case measure => simp [RowKit.intOf]; omega
            · have hab6 : (xa == 6) = false := by simp [ha6]
              clear ha6
              go_wp2_with fail
              go_roundw
              case rel => exact ⟨i + 1, m, nb, _, _, _, _, _, _, hlt, by simp, rfl, rfl, rfl, ⟨hm1, by omega, _, _, _, _, _, _, _, _, T5.out⟩⟩
              case measure => simp [RowKit.intOf]; omega
      · have hltz : ¬ (i : Int) < (sc.length : Int) := by omega
        have hin : i = sc.length := by omega
        subst hin
        obtain ⟨tag0, hbs, rbs, Q, L, V, Wv, D, hS⟩ := I.out.2.2
        have hnb : nb ≤ sc.length := I.out.2.1
        obtain ⟨gP, cP', eP, -, -, -⟩ := hS.ps.pts_at (i := 0) (by omega)
        obtain ⟨gR, cR', eR, -, -, -⟩ := hS.rs.pts_at (i := 0) (by omega)
        simp only [Value.slice.injEq] at eP eR
        obtain ⟨rfl, -, rfl⟩ := eP
        obtain ⟨rfl, -, rfl⟩ := eR
        have S0 : Hid (∃ tag, Sc w wr tag m nb sc.length W hbs rbs Q L V Wv D (.slice (some ⟨gP, 0, none⟩) m cP) (.slice (some ⟨gR, 0, none⟩) m cR) (.slice pB nb cB)) := ⟨_, hS⟩
        have HC : Hid (∀ wr tag, Sc w wr tag m nb sc.length W hbs rbs Q L V Wv D (.slice (some ⟨gP, 0, none⟩) m cP) (.slice (some ⟨gR, 0, none⟩) m cR) (.slice pB nb cB) → ∀ k, k < m → wr.cell? ⟨gP, k, none⟩ = some (.pointer (some ⟨hbs k, 0, none⟩)) ∧ wr.cell? ⟨gR, k, none⟩ = some (.pointer (some ⟨rbs k, 0, none⟩)) ∧ gP < wr.heap.size ∧ gR < wr.heap.size) := fun wr tag h k hk => by
          obtain ⟨g1, c1, e1, l1, x1, -⟩ := h.ps.pts_at hk
          obtain ⟨g2, c2, e2, l2, x2, -⟩ := h.rs.pts_at hk
          simp only [Value.slice.injEq, Option.some.injEq, Addr.mk.injEq, and_true] at e1 e2
          obtain ⟨rfl, -⟩ := e1
          obtain ⟨rfl, -⟩ := e2
          exact ⟨x1, x2, l1, l2⟩
        clear hS I hltz hlt
        go_wp2_with fail
        go_loopw [15] (fun s15 wr => ∃ k : Nat, k ≤ m ∧ s15 = .int .i64 k ∧ Hid (∃ tag, Sc w wr tag m nb sc.length W hbs rbs Q L V Wv D (.slice (some ⟨gP, 0, none⟩) m cP) (.slice (some ⟨gR, 0, none⟩) m cR) (.slice pB nb cB))) (fun s15 _ => m - (RowKit.intOf s15).toNat)
        case atStart => exact ⟨0, Nat.zero_le _, rfl, S0⟩
        case round =>
          clear S0
          obtain ⟨k, hk, rfl, S⟩ := hrel
          by_cases hkm : k < m
          · have hkmz : (k : Int) < (m : Int) := by omega
            have k0 : (0 : Int) ≤ (k : Int) := by omega
            go_wp2_with fail
            go_loopw [16] (fun s16 wr => ∃ a : Int, -1 ≤ a ∧ a ≤ W + 1 ∧ s16 = .int .i64 a ∧ Hid (∃ tag, Sc w wr tag m nb sc.length W hbs rbs Q L V Wv D (.slice (some ⟨gP, 0, none⟩) m cP) (.slice (some ⟨gR, 0, none⟩) m cR) (.slice pB nb cB))) (fun s16 _ => (W + 1 - RowKit.intOf s16).toNat)
            case atStart => exact ⟨-1, by omega, by omega, rfl, S⟩
            case round =>
              clear S
              obtain ⟨a, ha1, ha2, rfl, S⟩ := hrel
              by_cases haW : a ≤ (W : Int)
              · go_wp2_with fail
                go_loopw [17] (fun s17 wr => ∃ b : Int, -1 ≤ b ∧ b ≤ W + 1 ∧ s17 = .int .i64 b ∧ Hid (∃ tag, Sc w wr tag m nb sc.length W hbs rbs Q L V Wv D (.slice (some ⟨gP, 0, none⟩) m cP) (.slice (some ⟨gR, 0, none⟩) m cR) (.slice pB nb cB))) (fun s17 _ => (W + 1 - RowKit.intOf s17).toNat)
                case atStart => exact ⟨-1, by omega, by omega, rfl, S⟩
                case round =>
                  clear S
                  obtain ⟨b, hb1, hb2, rfl, S⟩ := hrel
                  by_cases hbW : b ≤ (W : Int)
                  · obtain ⟨tag, hS⟩ := S.out
                    obtain ⟨c1, c2, c3, c4⟩ := HC.out wr tag hS k hkm
                    have honR : Calls Try.prog 27 #[.pointer (some ⟨rbs k, 0, none⟩), .int .i64 a, .int .i64 b] wr fun e w' => ∃ p c, e = .returned (.slice p (vals a b (L k)).length c) ∧ Ls ET w' (.slice p (vals a b (L k)).length c) (ni (ons a b (L k) (L k).length)) ∧ Below wr.heap.size wr w' := by
                      obtain ⟨rv, h1, h2, h3⟩ := (hS.pr k hkm).r
                      have hle := (hS.pr k hkm).le
                      exact ron_any a b wr h1 (by omega)
                    have HVN : Hid ((vals a b (L k)).length ≤ 1048576) := by
                      have h1 := ons_le a b (L k) (L k).length
                      rw [ons_length] at h1
                      have h2 := (hS.pr k hkm).le
                      exact Nat.le_trans h1 (Nat.le_trans h2 hlen)
                    have hlnP : ∀ (w' : World) (t' : Nat → Nat), Sc w w' t' m nb sc.length W hbs rbs Q L V Wv D (.slice (some ⟨gP, 0, none⟩) m cP) (.slice (some ⟨gR, 0, none⟩) m cR) (.slice pB nb cB) → Calls Try.prog 28 #[.pointer (some ⟨hbs k, 0, none⟩), .int .i64 a, .int .i64 b] w' fun e w'' => e = .returned (.int .i64 ((vals a b (L k)).length : Nat)) ∧ ∃ m, w'' = w'.drewN m := fun w' t' h => by
                      have := len_any a b w' (h.pr k hkm).p
                      rw [(h.pr k hkm).rel.ln a b] at this
                      exact this
                    generalize (vals a b (L k)).length = n at honR hlnP HVN
                    have hnb20 : n ≤ 1048576 := HVN.out
                    clear S
                    go_wp2_with fail
                    refine honR.mono ?_
                    rintro e w5 ⟨p5, c5, rfl, -, hB5⟩
                    have T5 := hid (hS.below hB5 0)
                    obtain ⟨d1, d2, d3, d4⟩ := HC.out w5 _ T5.out k hkm
                    have hln := hlnP w5 _ T5.out
                    clear honR hB5 hS c1 c2 c3 c4 hlnP
                    go_wp2_with fail
                    refine hln.mono ?_
                    rintro e w6 ⟨rfl, m6, hm6⟩
                    have S6 : Hid (∃ tag, Sc w w6 tag m nb sc.length W hbs rbs Q L V Wv D (.slice (some ⟨gP, 0, none⟩) m cP) (.slice (some ⟨gR, 0, none⟩) m cR) (.slice pB nb cB)) := ⟨_, T5.out.below (by rw [hm6]; exact ((Gr.refl _).drewN _).below) 0⟩
                    clear hln hm6 d1 d2 d3 d4 T5
                    go_wp2_with fail
                    go_loopw [19] (fun s19 wr => ∃ c : Int, -1 ≤ c ∧ c ≤ n + 1 ∧ s19 = .int .i64 c ∧ Hid (∃ tag, Sc w wr tag m nb sc.length W hbs rbs Q L V Wv D (.slice (some ⟨gP, 0, none⟩) m cP) (.slice (some ⟨gR, 0, none⟩) m cR) (.slice pB nb cB))) (fun s19 _ => (n + 1 - RowKit.intOf s19).toNat)
                    case atStart => exact ⟨-1, by omega, by omega, rfl, S6⟩
                    case round =>
                      clear S6
                      obtain ⟨c, hc1, hc2, rfl, S⟩ := hrel
                      by_cases hcn : c ≤ (n : Int)
                      · obtain ⟨tag, hS⟩ := S.out
                        have T0 := hid (hS.nx (Nx.same (fun _ => False) tag (Gr.refl wr).drew.below))
                        have S0 : wr.drew.cell? ⟨gP, k, none⟩ = some (.pointer (some ⟨hbs k, 0, none⟩)) ∧ wr.drew.cell? ⟨gR, k, none⟩ = some (.pointer (some ⟨rbs k, 0, none⟩)) ∧ gP < wr.drew.heap.size ∧ gR < wr.drew.heap.size := HC.out _ _ T0.out k hkm
                        have hans := answered2_any a b c wr.drew (T0.out.pr k hkm) (by omega)
                        clear S hS
                        go_upto_region 39 with fail
                        refine wp_regionD (S := fun W' => W'.cell? ⟨gP, k, none⟩ = some (.pointer (some ⟨hbs k, 0, none⟩)) ∧ W'.cell? ⟨gR, k, none⟩ = some (.pointer (some ⟨rbs k, 0, none⟩)) ∧ gP < W'.heap.size ∧ gR < W'.heap.size) (D := []) hmx ?_
                        refine' wpAnyD_take (i := 0) (oi := { dst := some 173, op := Go.Op.move (Go.Operand.tmp 9), type := 55, pos := "law.go:136", after := #[], guard := none }) (v := _) rfl (by kernel_rfl) (by kernel_rfl) (by kernel_rfl) (fun _ _ _ h => h) (by kernel_rfl) (Or.inl ⟨by rfl, ?hy39⟩) S0 ?rest39
                        case hy39 => (intro W hSw; go_simp; try (with_reducible rfl))
                        try simp only [Act.put, List.setIfInBounds_toArray, List.set_cons_zero, List.set_cons_succ]
                        refine' wpAnyD_take (i := 1) (oi := { dst := some 174, op := Go.Op.move (Go.Operand.tmp 15), type := 3, pos := "law.go:136", after := #[], guard := none }) (v := _) rfl (by kernel_rfl) (by kernel_rfl) (by kernel_rfl) (fun _ _ _ h => h) (by kernel_rfl) (Or.inl ⟨by rfl, ?hy40⟩) S0 ?rest40
                        case hy40 => (intro W hSw; go_simp; try (with_reducible rfl))
                        try simp only [Act.put, List.setIfInBounds_toArray, List.set_cons_zero, List.set_cons_succ]
                        refine' wpAnyD_take (i := 2) (oi := { dst := some 175, op := Go.Op.indexAddr 55 (Go.Operand.tmp 173) (Go.Operand.tmp 174), type := 0, pos := "law.go:136", after := #[{ on := 0, ground := Go.Ground.data }, { on := 1, ground := Go.Ground.data }], guard := none }) (v := _) rfl (by kernel_rfl) (by kernel_rfl) (by kernel_rfl) (fun _ _ _ h => h) (by kernel_rfl) (Or.inl ⟨by rfl, ?hy41⟩) S0 ?rest41
                        case hy41 => (intro W hSw; go_simp; try (with_reducible rfl))
                        try simp only [Act.put, List.setIfInBounds_toArray, List.set_cons_zero, List.set_cons_succ]
                        refine' wpAnyD_take (i := 3) (oi := { dst := some 176, op := Go.Op.load 49 (Go.Operand.tmp 175), type := 49, pos := "law.go:136", after := #[{ on := 2, ground := Go.Ground.data }], guard := none }) (v := _) rfl (by kernel_rfl) (by kernel_rfl) (by kernel_rfl) (fun _ _ _ h => h) (by kernel_rfl) (Or.inl ⟨by rfl, ?hy42⟩) S0 ?rest42
                        case hy42 => (intro W hSw; obtain ⟨s1, s2, s3, s4⟩ := hSw; go_simp; try (with_reducible rfl))
                        try simp only [Act.put, List.setIfInBounds_toArray, List.set_cons_zero, List.set_cons_succ]
                        refine' wpAnyD_take (i := 4) (oi := { dst := some 177, op := Go.Op.move (Go.Operand.tmp 10), type := 56, pos := "law.go:136", after := #[], guard := none }) (v := _) rfl (by kernel_rfl) (by kernel_rfl) (by kernel_rfl) (fun _ _ _ h => h) (by kernel_rfl) (Or.inl ⟨by rfl, ?hy43⟩) S0 ?rest43
                        case hy43 => (intro W hSw; go_simp; try (with_reducible rfl))
                        try simp only [Act.put, List.setIfInBounds_toArray, List.set_cons_zero, List.set_cons_succ]
                        refine' wpAnyD_take (i := 5) (oi := { dst := some 178, op := Go.Op.move (Go.Operand.tmp 15), type := 3, pos := "law.go:136", after := #[], guard := none }) (v := _) rfl (by kernel_rfl) (by kernel_rfl) (by kernel_rfl) (fun _ _ _ h => h) (by kernel_rfl) (Or.inl ⟨by rfl, ?hy44⟩) S0 ?rest44
                        case hy44 => (intro W hSw; go_simp; try (with_reducible rfl))
                        try simp only [Act.put, List.setIfInBounds_toArray, List.set_cons_zero, List.set_cons_succ]
                        refine' wpAnyD_take (i := 6) (oi := { dst := some 179, op := Go.Op.indexAddr 56 (Go.Operand.tmp 177) (Go.Operand.tmp 178), type := 0, pos := "law.go:136", after := #[{ on := 4, ground := Go.Ground.data }, { on := 5, ground := Go.Ground.data }], guard := none }) (v := _) rfl (by kernel_rfl) (by kernel_rfl) (by kernel_rfl) (fun _ _ _ h => h) (by kernel_rfl) (Or.inl ⟨by rfl, ?hy45⟩) S0 ?rest45
                        case hy45 => (intro W hSw; go_simp; try (with_reducible rfl))
                        try simp only [Act.put, List.setIfInBounds_toArray, List.set_cons_zero, List.set_cons_succ]
                        refine' wpAnyD_take (i := 7) (oi := { dst := some 180, op := Go.Op.load 52 (Go.Operand.tmp 179), type := 52, pos := "law.go:136", after := #[{ on := 6, ground := Go.Ground.data }], guard := none }) (v := _) rfl (by kernel_rfl) (by kernel_rfl) (by kernel_rfl) (fun _ _ _ h => h) (by kernel_rfl) (Or.inl ⟨by rfl, ?hy46⟩) S0 ?rest46
                        case hy46 => (intro W hSw; obtain ⟨s1, s2, s3, s4⟩ := hSw; go_simp; try (with_reducible rfl))
                        try simp only [Act.put, List.setIfInBounds_toArray, List.set_cons_zero, List.set_cons_succ]
                        refine' wpAnyD_take (i := 8) (oi := { dst := some 181, op := Go.Op.move (Go.Operand.tmp 16), type := 3, pos := "law.go:136", after := #[], guard := none }) (v := _) rfl (by kernel_rfl) (by kernel_rfl) (by kernel_rfl) (fun _ _ _ h => h) (by kernel_rfl) (Or.inl ⟨by rfl, ?hy47⟩) S0 ?rest47
                        case hy47 => (intro W hSw; go_simp; try (with_reducible rfl))
                        try simp only [Act.put, List.setIfInBounds_toArray, List.set_cons_zero, List.set_cons_succ]
                        refine' wpAnyD_take (i := 9) (oi := { dst := some 182, op := Go.Op.move (Go.Operand.tmp 17), type := 3, pos := "law.go:136", after := #[], guard := none }) (v := _) rfl (by kernel_rfl) (by kernel_rfl) (by kernel_rfl) (fun _ _ _ h => h) (by kernel_rfl) (Or.inl ⟨by rfl, ?hy48⟩) S0 ?rest48
                        case hy48 => (intro W hSw; go_simp; try (with_reducible rfl))
                        try simp only [Act.put, List.setIfInBounds_toArray, List.set_cons_zero, List.set_cons_succ]
                        refine' wpAnyD_take (i := 10) (oi := { dst := some 183, op := Go.Op.move (Go.Operand.tmp 19), type := 3, pos := "law.go:136", after := #[], guard := none }) (v := _) rfl (by kernel_rfl) (by kernel_rfl) (by kernel_rfl) (fun _ _ _ h => h) (by kernel_rfl) (Or.inl ⟨by rfl, ?hy49⟩) S0 ?rest49
                        case hy49 => (intro W hSw; go_simp; try (with_reducible rfl))
                        try simp only [Act.put, List.setIfInBounds_toArray, List.set_cons_zero, List.set_cons_succ]
                        refine' wpAnyD_take (i := 11) (oi := { dst := some 184, op := Go.Op.build 28 #[(0, Go.Operand.const (Go.Value.int Go.IntKind.i64 2)), (2, Go.Operand.tmp 181), (3, Go.Operand.tmp 182), (4, Go.Operand.tmp 183)], type := 28, pos := "law.go:136", after := #[{ on := 8, ground := Go.Ground.data }, { on := 9, ground := Go.Ground.data }, { on := 10, ground := Go.Ground.data }], guard := none }) (v := _) rfl (by kernel_rfl) (by kernel_rfl) (by kernel_rfl) (fun _ _ _ h => h) (by kernel_rfl) (Or.inl ⟨by rfl, ?hy50⟩) S0 ?rest50
                        case hy50 => (intro W hSw; go_simp; try (with_reducible rfl))
                        try simp only [Act.put, List.setIfInBounds_toArray, List.set_cons_zero, List.set_cons_succ]
                        refine wpAnyD_one (i := 12) (o := { dst := some 185, op := Go.Op.call { callee := Go.Callee.value (Go.Operand.func 22), args := #[Go.Operand.tmp 176, Go.Operand.tmp 180, Go.Operand.tmp 184], argTypes := #[49, 52, 28] }, type := 4, pos := "law.go:136", after := #[{ on := 3, ground := Go.Ground.data }, { on := 7, ground := Go.Ground.data }, { on := 11, ground := Go.Ground.data }], guard := none }) (by kernel_rfl) rfl (fun K hK => ?_)
                        rw [if_pos (by kernel_rfl)]
                        go_simp
                        refine hans.mono ?_
                        rintro e w5 ⟨rfl, hB5⟩
                        have S5 : w5.cell? ⟨gP, k, none⟩ = some (.pointer (some ⟨hbs k, 0, none⟩)) ∧ w5.cell? ⟨gR, k, none⟩ = some (.pointer (some ⟨rbs k, 0, none⟩)) ∧ gP < w5.heap.size ∧ gR < w5.heap.size := ⟨(hB5.cell (p := ⟨gP, k, none⟩) S0.2.2.1).trans S0.1, (hB5.cell (p := ⟨gR, k, none⟩) S0.2.2.2).trans S0.2.1, Nat.lt_of_lt_of_le S0.2.2.1 hB5.size, Nat.lt_of_lt_of_le S0.2.2.2 hB5.size⟩
                        have HB5 := hid hB5
                        clear hans hB5
                        dsimp only
                        refine hK.out _ _ (fun hD => S5) ?_
                        clear hK K
                        try simp only [Act.put, List.setIfInBounds_toArray, List.set_cons_zero, List.set_cons_succ]
                        refine wpAnyD_one (i := 13) (o := { dst := some 186, op := Go.Op.unOp Go.UnOp.not 4 (Go.Operand.tmp 185), type := 4, pos := "law.go:136", after := #[{ on := 12, ground := Go.Ground.data }], guard := none }) (by kernel_rfl) rfl (fun K hK => ?_)
                        rw [if_pos (by kernel_rfl)]
                        go_simp
                        refine hK.out _ _ (fun hD => S5) ?_
                        clear hK K
                        try simp only [Act.put, List.setIfInBounds_toArray, List.set_cons_zero, List.set_cons_succ]
                        refine wpAnyD_done (by kernel_rfl) ?_ _
                        go_wp2_with fail
                        go_roundw
                        case rel => exact ⟨c + 1, by omega, by omega, by simp, ⟨_, T0.out.below HB5.out 0⟩⟩
                        case measure => simp [RowKit.intOf]; omega
                      · have hcn' : ¬ c ≤ (n : Int) := hcn
                        go_wp2_with fail
                        go_roundw
                        case rel => exact ⟨b + 1, by omega, by omega, by simp, S⟩
                        case measure => simp [RowKit.intOf]; omega
                  · have hbW' : ¬ b ≤ (W : Int) := hbW
                    go_wp2_with fail
                    go_roundw
                    case rel => exact ⟨a + 1, by omega, by omega, by simp, S⟩
                    case measure => simp [RowKit.intOf]; omega
              · have haW' : ¬ a ≤ (W : Int) := haW
                obtain ⟨tag, hS⟩ := S.out
                have T0 := hid (hS.nx (Nx.same (fun _ => False) tag (Gr.refl wr).drew.below))
                obtain ⟨rv, hrv1, hrv2, hrv3⟩ := (T0.out.pr k hkm).r
                obtain ⟨pr, cr, rfl⟩ := hrv1.form
                have S0 : (wr.drew.cell? ⟨gP, k, none⟩ = some (.pointer (some ⟨hbs k, 0, none⟩)) ∧ wr.drew.cell? ⟨gR, k, none⟩ = some (.pointer (some ⟨rbs k, 0, none⟩)) ∧ gP < wr.drew.heap.size ∧ gR < wr.drew.heap.size) ∧ wr.drew.cell? ⟨rbs k, 1, none⟩ = some (.slice pr (L k).length cr) ∧ rbs k < wr.drew.heap.size := ⟨HC.out _ _ T0.out k hkm, hrv1.c1, hrv1.lt⟩
                have htot := total_any wr.drew (T0.out.pr k hkm).p (by omega)
                rw [(T0.out.pr k hkm).rel.n] at htot
                have HLB : Hid ((bsy W (Q k)).length ≤ 1000000000) := Nat.le_trans (bsA_le _ W W) (Nat.le_trans (Nat.mul_le_mul hW8 hW8) (by decide))
                have hbzP : ∀ (w' : World) (t' : Nat → Nat), Sc w w' t' m nb sc.length W hbs rbs Q L V Wv D (.slice (some ⟨gP, 0, none⟩) m cP) (.slice (some ⟨gR, 0, none⟩) m cR) (.slice pB nb cB) → Calls Try.prog 23 #[.pointer (some ⟨hbs k, 0, none⟩)] w' fun e w'' => ∃ v, e = .returned v ∧ w''.ownsRow w'.heap.size 81 2 v (bsy W (Q k)).length (fl EP (bsy W (Q k))) ∧ Below w'.heap.size w' w'' := fun w' t' h => busy_any w' (h.pr k hkm).p
                have hbzR : ∀ (w' : World) (t' : Nat → Nat), Sc w w' t' m nb sc.length W hbs rbs Q L V Wv D (.slice (some ⟨gP, 0, none⟩) m cP) (.slice (some ⟨gR, 0, none⟩) m cR) (.slice pB nb cB) → Calls Try.prog 24 #[.pointer (some ⟨rbs k, 0, none⟩)] w' fun e w'' => ∃ v, e = .returned v ∧ w''.ownsRow w'.heap.size 81 2 v (bsy W (Q k)).length (fl EP (bsy W (Q k))) ∧ Below w'.heap.size w' w'' := fun w' t' h => by
                  obtain ⟨rv, h1, h2, h3⟩ := (h.pr k hkm).r
                  have hle := (h.pr k hkm).le
                  have := rbusy_any w' h1 hW8 (by omega)
                  rw [← (h.pr k hkm).rel.bsy] at this
                  exact this
                generalize bsy W (Q k) = BL at hbzP hbzR HLB
                clear S hS hrv1 hrv2 hrv3
                go_upto_region 41 with fail
                refine wp_regionD (S := fun W' => (W'.cell? ⟨gP, k, none⟩ = some (.pointer (some ⟨hbs k, 0, none⟩)) ∧ W'.cell? ⟨gR, k, none⟩ = some (.pointer (some ⟨rbs k, 0, none⟩)) ∧ gP < W'.heap.size ∧ gR < W'.heap.size) ∧ W'.cell? ⟨rbs k, 1, none⟩ = some (.slice pr (L k).length cr) ∧ rbs k < W'.heap.size) (D := []) hmx ?_
                refine' wpAnyD_take (i := 0) (oi := { dst := some 187, op := Go.Op.move (Go.Operand.tmp 9), type := 55, pos := "law.go:142", after := #[], guard := none }) (v := _) rfl (by kernel_rfl) (by kernel_rfl) (by kernel_rfl) (fun _ _ _ h => h) (by kernel_rfl) (Or.inl ⟨by rfl, ?hy53⟩) S0 ?rest53
                case hy53 => (intro W hSw; go_simp; try (with_reducible rfl))
                try simp only [Act.put, List.setIfInBounds_toArray, List.set_cons_zero, List.set_cons_succ]
                refine' wpAnyD_take (i := 1) (oi := { dst := some 188, op := Go.Op.move (Go.Operand.tmp 15), type := 3, pos := "law.go:142", after := #[], guard := none }) (v := _) rfl (by kernel_rfl) (by kernel_rfl) (by kernel_rfl) (fun _ _ _ h => h) (by kernel_rfl) (Or.inl ⟨by rfl, ?hy54⟩) S0 ?rest54
                case hy54 => (intro W hSw; go_simp; try (with_reducible rfl))
                try simp only [Act.put, List.setIfInBounds_toArray, List.set_cons_zero, List.set_cons_succ]
                refine' wpAnyD_take (i := 2) (oi := { dst := some 189, op := Go.Op.indexAddr 55 (Go.Operand.tmp 187) (Go.Operand.tmp 188), type := 0, pos := "law.go:142", after := #[{ on := 0, ground := Go.Ground.data }, { on := 1, ground := Go.Ground.data }], guard := none }) (v := _) rfl (by kernel_rfl) (by kernel_rfl) (by kernel_rfl) (fun _ _ _ h => h) (by kernel_rfl) (Or.inl ⟨by rfl, ?hy55⟩) S0 ?rest55
                case hy55 => (intro W hSw; go_simp; try (with_reducible rfl))
                try simp only [Act.put, List.setIfInBounds_toArray, List.set_cons_zero, List.set_cons_succ]
                refine' wpAnyD_take (i := 3) (oi := { dst := some 190, op := Go.Op.load 49 (Go.Operand.tmp 189), type := 49, pos := "law.go:142", after := #[{ on := 2, ground := Go.Ground.data }], guard := none }) (v := _) rfl (by kernel_rfl) (by kernel_rfl) (by kernel_rfl) (fun _ _ _ h => h) (by kernel_rfl) (Or.inl ⟨by rfl, ?hy56⟩) S0 ?rest56
                case hy56 => (intro W hSw; obtain ⟨⟨s1, s2, s3, s4⟩, s5, s6⟩ := hSw; go_simp; try (with_reducible rfl))
                try simp only [Act.put, List.setIfInBounds_toArray, List.set_cons_zero, List.set_cons_succ]
                refine' wpAnyD_take (i := 5) (oi := { dst := some 192, op := Go.Op.move (Go.Operand.tmp 10), type := 56, pos := "law.go:142", after := #[], guard := none }) (v := _) rfl (by kernel_rfl) (by kernel_rfl) (by kernel_rfl) (fun _ _ _ h => h) (by kernel_rfl) (Or.inl ⟨by rfl, ?hy57⟩) S0 ?rest57
                case hy57 => (intro W hSw; go_simp; try (with_reducible rfl))
                try simp only [Act.put, List.setIfInBounds_toArray, List.set_cons_zero, List.set_cons_succ]
                refine' wpAnyD_take (i := 6) (oi := { dst := some 193, op := Go.Op.move (Go.Operand.tmp 15), type := 3, pos := "law.go:142", after := #[], guard := none }) (v := _) rfl (by kernel_rfl) (by kernel_rfl) (by kernel_rfl) (fun _ _ _ h => h) (by kernel_rfl) (Or.inl ⟨by rfl, ?hy58⟩) S0 ?rest58
                case hy58 => (intro W hSw; go_simp; try (with_reducible rfl))
                try simp only [Act.put, List.setIfInBounds_toArray, List.set_cons_zero, List.set_cons_succ]
                refine' wpAnyD_take (i := 7) (oi := { dst := some 194, op := Go.Op.indexAddr 56 (Go.Operand.tmp 192) (Go.Operand.tmp 193), type := 0, pos := "law.go:142", after := #[{ on := 5, ground := Go.Ground.data }, { on := 6, ground := Go.Ground.data }], guard := none }) (v := _) rfl (by kernel_rfl) (by kernel_rfl) (by kernel_rfl) (fun _ _ _ h => h) (by kernel_rfl) (Or.inl ⟨by rfl, ?hy59⟩) S0 ?rest59
                case hy59 => (intro W hSw; go_simp; try (with_reducible rfl))
                try simp only [Act.put, List.setIfInBounds_toArray, List.set_cons_zero, List.set_cons_succ]
                refine' wpAnyD_take (i := 8) (oi := { dst := some 195, op := Go.Op.load 52 (Go.Operand.tmp 194), type := 52, pos := "law.go:142", after := #[{ on := 7, ground := Go.Ground.data }], guard := none }) (v := _) rfl (by kernel_rfl) (by kernel_rfl) (by kernel_rfl) (fun _ _ _ h => h) (by kernel_rfl) (Or.inl ⟨by rfl, ?hy60⟩) S0 ?rest60
                case hy60 => (intro W hSw; obtain ⟨⟨s1, s2, s3, s4⟩, s5, s6⟩ := hSw; go_simp; try (with_reducible rfl))
                try simp only [Act.put, List.setIfInBounds_toArray, List.set_cons_zero, List.set_cons_succ]
                refine' wpAnyD_take (i := 9) (oi := { dst := some 196, op := Go.Op.nilCheck (Go.Operand.tmp 195), type := 0, pos := "law.go:142", after := #[{ on := 8, ground := Go.Ground.data }], guard := none }) (v := _) rfl (by kernel_rfl) (by kernel_rfl) (by kernel_rfl) (fun _ _ _ h => h) (by kernel_rfl) (Or.inl ⟨by rfl, ?hy61⟩) S0 ?rest61
                case hy61 => (intro W hSw; go_simp; try (with_reducible rfl))
                try simp only [Act.put, List.setIfInBounds_toArray, List.set_cons_zero, List.set_cons_succ]
                refine' wpAnyD_take (i := 10) (oi := { dst := some 197, op := Go.Op.fieldAddr 68 (Go.Operand.tmp 196) 1, type := 0, pos := "law.go:142", after := #[{ on := 9, ground := Go.Ground.data }], guard := none }) (v := _) rfl (by kernel_rfl) (by kernel_rfl) (by kernel_rfl) (fun _ _ _ h => h) (by kernel_rfl) (Or.inl ⟨by rfl, ?hy62⟩) S0 ?rest62
                case hy62 => (intro W hSw; go_simp; try (with_reducible rfl))
                try simp only [Act.put, List.setIfInBounds_toArray, List.set_cons_zero, List.set_cons_succ]
                refine' wpAnyD_take (i := 11) (oi := { dst := some 198, op := Go.Op.load 66 (Go.Operand.tmp 197), type := 66, pos := "law.go:142", after := #[{ on := 10, ground := Go.Ground.data }], guard := none }) (v := _) rfl (by kernel_rfl) (by kernel_rfl) (by kernel_rfl) (fun _ _ _ h => h) (by kernel_rfl) (Or.inl ⟨by rfl, ?hy63⟩) S0 ?rest63
                case hy63 => (intro W hSw; obtain ⟨⟨s1, s2, s3, s4⟩, s5, s6⟩ := hSw; go_simp; try (with_reducible rfl))
                try simp only [Act.put, List.setIfInBounds_toArray, List.set_cons_zero, List.set_cons_succ]
                refine' wpAnyD_take (i := 12) (oi := { dst := some 199, op := Go.Op.call { callee := Go.Callee.builtin Go.Builtin.len, args := #[Go.Operand.tmp 198], argTypes := #[66] }, type := 3, pos := "law.go:142", after := #[{ on := 11, ground := Go.Ground.data }], guard := none }) (v := _) rfl (by kernel_rfl) (by kernel_rfl) (by kernel_rfl) (fun _ _ _ h => h) (by kernel_rfl) (Or.inl ⟨by rfl, ?hy64⟩) S0 ?rest64
                case hy64 => (intro W hSw; go_simp; try (with_reducible rfl))
                try simp only [Act.put, List.setIfInBounds_toArray, List.set_cons_zero, List.set_cons_succ]
                refine wpAnyD_one (i := 4) (o := { dst := some 191, op := Go.Op.call { callee := Go.Callee.value (Go.Operand.func 29), args := #[Go.Operand.tmp 190], argTypes := #[49] }, type := 3, pos := "law.go:142", after := #[{ on := 3, ground := Go.Ground.data }], guard := none }) (by kernel_rfl) rfl (fun K hK => ?_)
                rw [if_pos (by kernel_rfl)]
                go_simp
                refine htot.mono ?_
                rintro e w5 ⟨rfl, m5, hm5⟩
                have hB5 : Below wr.drew.heap.size wr.drew w5 := by rw [hm5]; exact ((Gr.refl _).drewN _).below
                have S5 : (w5.cell? ⟨gP, k, none⟩ = some (.pointer (some ⟨hbs k, 0, none⟩)) ∧ w5.cell? ⟨gR, k, none⟩ = some (.pointer (some ⟨rbs k, 0, none⟩)) ∧ gP < w5.heap.size ∧ gR < w5.heap.size) ∧ w5.cell? ⟨rbs k, 1, none⟩ = some (.slice pr (L k).length cr) ∧ rbs k < w5.heap.size := ⟨⟨(hB5.cell (p := ⟨gP, k, none⟩) S0.1.2.2.1).trans S0.1.1, (hB5.cell (p := ⟨gR, k, none⟩) S0.1.2.2.2).trans S0.1.2.1, Nat.lt_of_lt_of_le S0.1.2.2.1 hB5.size, Nat.lt_of_lt_of_le S0.1.2.2.2 hB5.size⟩, (hB5.cell (p := ⟨rbs k, 1, none⟩) S0.2.2).trans S0.2.1, Nat.lt_of_lt_of_le S0.2.2 hB5.size⟩
                have T5 := hid (T0.out.below hB5 0)
                have hbz := hbzP w5 _ T5.out
                clear htot hm5 hB5
                dsimp only
                refine hK.out _ _ (fun hD => S5) ?_
                clear hK K
                try simp only [Act.put, List.setIfInBounds_toArray, List.set_cons_zero, List.set_cons_succ]
                refine wpAnyD_one (i := 13) (o := { dst := some 200, op := Go.Op.binOp Go.BinOp.neq 3 (Go.Operand.tmp 191) (Go.Operand.tmp 199) 3, type := 4, pos := "law.go:142", after := #[{ on := 4, ground := Go.Ground.data }, { on := 12, ground := Go.Ground.data }], guard := none }) (by kernel_rfl) rfl (fun K hK => ?_)
                rw [if_pos (by kernel_rfl)]
                go_simp
                refine hK.out _ _ (fun hD => S5) ?_
                clear hK K
                try simp only [Act.put, List.setIfInBounds_toArray, List.set_cons_zero, List.set_cons_succ]
                refine wpAnyD_one (i := 14) (o := { dst := some 201, op := Go.Op.move (Go.Operand.tmp 200), type := 4, pos := "law.go:142", after := #[{ on := 13, ground := Go.Ground.data }, { on := 4, ground := Go.Ground.chain }], guard := none }) (by kernel_rfl) rfl (fun K hK => ?_)
                rw [if_pos (by kernel_rfl)]
                go_simp
                refine hK.out _ _ (fun hD => S5) ?_
                clear hK K
                try simp only [Act.put, List.setIfInBounds_toArray, List.set_cons_zero, List.set_cons_succ]
                refine' wpAnyD_take (i := 15) (oi := { dst := some 202, op := Go.Op.move (Go.Operand.tmp 9), type := 55, pos := "law.go:142", after := #[{ on := 14, ground := Go.Ground.guard }], guard := some (14, false) }) (v := _) rfl (by kernel_rfl) (by kernel_rfl) (by kernel_rfl) (fun _ _ _ h => h) (by kernel_rfl) (Or.inl ⟨by rfl, ?hy68⟩) S5 ?rest68
                case hy68 => (intro W hSw; go_simp; try (with_reducible rfl))
                try simp only [Act.put, List.setIfInBounds_toArray, List.set_cons_zero, List.set_cons_succ]
                refine' wpAnyD_take (i := 16) (oi := { dst := some 203, op := Go.Op.move (Go.Operand.tmp 15), type := 3, pos := "law.go:142", after := #[{ on := 14, ground := Go.Ground.guard }], guard := some (14, false) }) (v := _) rfl (by kernel_rfl) (by kernel_rfl) (by kernel_rfl) (fun _ _ _ h => h) (by kernel_rfl) (Or.inl ⟨by rfl, ?hy69⟩) S5 ?rest69
                case hy69 => (intro W hSw; go_simp; try (with_reducible rfl))
                try simp only [Act.put, List.setIfInBounds_toArray, List.set_cons_zero, List.set_cons_succ]
                refine' wpAnyD_take (i := 17) (oi := { dst := some 204, op := Go.Op.indexAddr 55 (Go.Operand.tmp 202) (Go.Operand.tmp 203), type := 0, pos := "law.go:142", after := #[{ on := 15, ground := Go.Ground.data }, { on := 16, ground := Go.Ground.data }, { on := 14, ground := Go.Ground.guard }], guard := some (14, false) }) (v := _) rfl (by kernel_rfl) (by kernel_rfl) (by kernel_rfl) (fun _ _ _ h => h) (by kernel_rfl) (Or.inl ⟨by rfl, ?hy70⟩) S5 ?rest70
                case hy70 => (intro W hSw; go_simp; try (with_reducible rfl))
                try simp only [Act.put, List.setIfInBounds_toArray, List.set_cons_zero, List.set_cons_succ]
                refine' wpAnyD_take (i := 18) (oi := { dst := some 205, op := Go.Op.load 49 (Go.Operand.tmp 204), type := 49, pos := "law.go:142", after := #[{ on := 17, ground := Go.Ground.data }, { on := 14, ground := Go.Ground.guard }], guard := some (14, false) }) (v := _) rfl (by kernel_rfl) (by kernel_rfl) (by kernel_rfl) (fun _ _ _ h => h) (by kernel_rfl) (Or.inl ⟨by rfl, ?hy71⟩) S5 ?rest71
                case hy71 => (intro W hSw; obtain ⟨⟨s1, s2, s3, s4⟩, s5, s6⟩ := hSw; go_simp; try (with_reducible rfl))
                try simp only [Act.put, List.setIfInBounds_toArray, List.set_cons_zero, List.set_cons_succ]
                refine' wpAnyD_take (i := 20) (oi := { dst := some 207, op := Go.Op.move (Go.Operand.tmp 10), type := 56, pos := "law.go:142", after := #[{ on := 14, ground := Go.Ground.guard }], guard := some (14, false) }) (v := _) rfl (by kernel_rfl) (by kernel_rfl) (by kernel_rfl) (fun _ _ _ h => h) (by kernel_rfl) (Or.inl ⟨by rfl, ?hy72⟩) S5 ?rest72
                case hy72 => (intro W hSw; go_simp; try (with_reducible rfl))
                try simp only [Act.put, List.setIfInBounds_toArray, List.set_cons_zero, List.set_cons_succ]
                refine' wpAnyD_take (i := 21) (oi := { dst := some 208, op := Go.Op.move (Go.Operand.tmp 15), type := 3, pos := "law.go:142", after := #[{ on := 14, ground := Go.Ground.guard }], guard := some (14, false) }) (v := _) rfl (by kernel_rfl) (by kernel_rfl) (by kernel_rfl) (fun _ _ _ h => h) (by kernel_rfl) (Or.inl ⟨by rfl, ?hy73⟩) S5 ?rest73
                case hy73 => (intro W hSw; go_simp; try (with_reducible rfl))
                try simp only [Act.put, List.setIfInBounds_toArray, List.set_cons_zero, List.set_cons_succ]
                refine' wpAnyD_take (i := 22) (oi := { dst := some 209, op := Go.Op.indexAddr 56 (Go.Operand.tmp 207) (Go.Operand.tmp 208), type := 0, pos := "law.go:142", after := #[{ on := 20, ground := Go.Ground.data }, { on := 21, ground := Go.Ground.data }, { on := 14, ground := Go.Ground.guard }], guard := some (14, false) }) (v := _) rfl (by kernel_rfl) (by kernel_rfl) (by kernel_rfl) (fun _ _ _ h => h) (by kernel_rfl) (Or.inl ⟨by rfl, ?hy74⟩) S5 ?rest74
                case hy74 => (intro W hSw; go_simp; try (with_reducible rfl))
                try simp only [Act.put, List.setIfInBounds_toArray, List.set_cons_zero, List.set_cons_succ]
                refine' wpAnyD_take (i := 23) (oi := { dst := some 210, op := Go.Op.load 52 (Go.Operand.tmp 209), type := 52, pos := "law.go:142", after := #[{ on := 22, ground := Go.Ground.data }, { on := 14, ground := Go.Ground.guard }], guard := some (14, false) }) (v := _) rfl (by kernel_rfl) (by kernel_rfl) (by kernel_rfl) (fun _ _ _ h => h) (by kernel_rfl) (Or.inl ⟨by rfl, ?hy75⟩) S5 ?rest75
                case hy75 => (intro W hSw; obtain ⟨⟨s1, s2, s3, s4⟩, s5, s6⟩ := hSw; go_simp; try (with_reducible rfl))
                try simp only [Act.put, List.setIfInBounds_toArray, List.set_cons_zero, List.set_cons_succ]
                refine wpAnyD_one (i := 19) (o := { dst := some 206, op := Go.Op.call { callee := Go.Callee.value (Go.Operand.func 23), args := #[Go.Operand.tmp 205], argTypes := #[49] }, type := 36, pos := "law.go:142", after := #[{ on := 18, ground := Go.Ground.data }, { on := 14, ground := Go.Ground.chain }, { on := 14, ground := Go.Ground.guard }], guard := some (14, false) }) (by kernel_rfl) rfl (fun K hK => ?_)
                rw [if_pos (by kernel_rfl)]
                go_simp
                refine hbz.mono ?_
                rintro e w6 ⟨v6, rfl, ho6, hB6⟩
                have S6 : (w6.cell? ⟨gP, k, none⟩ = some (.pointer (some ⟨hbs k, 0, none⟩)) ∧ w6.cell? ⟨gR, k, none⟩ = some (.pointer (some ⟨rbs k, 0, none⟩)) ∧ gP < w6.heap.size ∧ gR < w6.heap.size) ∧ w6.cell? ⟨rbs k, 1, none⟩ = some (.slice pr (L k).length cr) ∧ rbs k < w6.heap.size := ⟨⟨(hB6.cell (p := ⟨gP, k, none⟩) S5.1.2.2.1).trans S5.1.1, (hB6.cell (p := ⟨gR, k, none⟩) S5.1.2.2.2).trans S5.1.2.1, Nat.lt_of_lt_of_le S5.1.2.2.1 hB6.size, Nat.lt_of_lt_of_le S5.1.2.2.2 hB6.size⟩, (hB6.cell (p := ⟨rbs k, 1, none⟩) S5.2.2).trans S5.2.1, Nat.lt_of_lt_of_le S5.2.2 hB6.size⟩
                have T6 := hid (T5.out.below hB6 0)
                have hl6 := owns_ls (E := EP) ho6
                obtain ⟨p6, c6, rfl⟩ := hl6.form
                have Y6 := hid hl6
                have hbz2 := hbzR w6 _ T6.out
                clear hbz ho6 hl6 hB6
                dsimp only
                refine hK.out _ _ (fun hD => S6) ?_
                clear hK K
                try simp only [Act.put, List.setIfInBounds_toArray, List.set_cons_zero, List.set_cons_succ]
                refine wpAnyD_one (i := 24) (o := { dst := some 211, op := Go.Op.call { callee := Go.Callee.value (Go.Operand.func 24), args := #[Go.Operand.tmp 210], argTypes := #[52] }, type := 36, pos := "law.go:142", after := #[{ on := 23, ground := Go.Ground.data }, { on := 19, ground := Go.Ground.chain }, { on := 14, ground := Go.Ground.guard }], guard := some (14, false) }) (by kernel_rfl) rfl (fun K hK => ?_)
                rw [if_pos (by kernel_rfl)]
                go_simp
                refine hbz2.mono ?_
                rintro e w7 ⟨v7, rfl, ho7, hB7⟩
                have S7 : (w7.cell? ⟨gP, k, none⟩ = some (.pointer (some ⟨hbs k, 0, none⟩)) ∧ w7.cell? ⟨gR, k, none⟩ = some (.pointer (some ⟨rbs k, 0, none⟩)) ∧ gP < w7.heap.size ∧ gR < w7.heap.size) ∧ w7.cell? ⟨rbs k, 1, none⟩ = some (.slice pr (L k).length cr) ∧ rbs k < w7.heap.size := ⟨⟨(hB7.cell (p := ⟨gP, k, none⟩) S6.1.2.2.1).trans S6.1.1, (hB7.cell (p := ⟨gR, k, none⟩) S6.1.2.2.2).trans S6.1.2.1, Nat.lt_of_lt_of_le S6.1.2.2.1 hB7.size, Nat.lt_of_lt_of_le S6.1.2.2.2 hB7.size⟩, (hB7.cell (p := ⟨rbs k, 1, none⟩) S6.2.2).trans S6.2.1, Nat.lt_of_lt_of_le S6.2.2 hB7.size⟩
                have T7 := hid (T6.out.below hB7 0)
                have hl7 := owns_ls (E := EP) ho7
                obtain ⟨p7, c7, rfl⟩ := hl7.form
                have Y7 := hid hl7
                have hpr := pairs_any _ _ BL w7 (Y6.out.below hB7) Y7.out HLB.out
                clear hbz2 ho7 hl7 hB7
                dsimp only
                refine hK.out _ _ (fun hD => S7) ?_
                clear hK K
                try simp only [Act.put, List.setIfInBounds_toArray, List.set_cons_zero, List.set_cons_succ]
                refine wpAnyD_one (i := 25) (o := { dst := some 212, op := Go.Op.call { callee := Go.Callee.value (Go.Operand.func 16), args := #[Go.Operand.tmp 206, Go.Operand.tmp 211], argTypes := #[36, 36] }, type := 4, pos := "law.go:142", after := #[{ on := 19, ground := Go.Ground.data }, { on := 24, ground := Go.Ground.data }, { on := 24, ground := Go.Ground.chain }, { on := 14, ground := Go.Ground.guard }], guard := some (14, false) }) (by kernel_rfl) rfl (fun K hK => ?_)
                rw [if_pos (by kernel_rfl)]
                go_simp
                refine hpr.mono ?_
                rintro e w8 ⟨rfl, m8, hm8⟩
                have hB8 : Below w7.heap.size w7 w8 := by rw [hm8]; exact ((Gr.refl _).drewN _).below
                have S8 : (w8.cell? ⟨gP, k, none⟩ = some (.pointer (some ⟨hbs k, 0, none⟩)) ∧ w8.cell? ⟨gR, k, none⟩ = some (.pointer (some ⟨rbs k, 0, none⟩)) ∧ gP < w8.heap.size ∧ gR < w8.heap.size) ∧ w8.cell? ⟨rbs k, 1, none⟩ = some (.slice pr (L k).length cr) ∧ rbs k < w8.heap.size := ⟨⟨(hB8.cell (p := ⟨gP, k, none⟩) S7.1.2.2.1).trans S7.1.1, (hB8.cell (p := ⟨gR, k, none⟩) S7.1.2.2.2).trans S7.1.2.1, Nat.lt_of_lt_of_le S7.1.2.2.1 hB8.size, Nat.lt_of_lt_of_le S7.1.2.2.2 hB8.size⟩, (hB8.cell (p := ⟨rbs k, 1, none⟩) S7.2.2).trans S7.2.1, Nat.lt_of_lt_of_le S7.2.2 hB8.size⟩
                have T8 := hid (T7.out.below hB8 0)
                clear hpr hm8 hB8
                dsimp only
                refine hK.out _ _ (fun hD => S8) ?_
                clear hK K
                try simp only [Act.put, List.setIfInBounds_toArray, List.set_cons_zero, List.set_cons_succ]
                refine wpAnyD_one (i := 26) (o := { dst := some 213, op := Go.Op.unOp Go.UnOp.not 4 (Go.Operand.tmp 212), type := 4, pos := "law.go:142", after := #[{ on := 25, ground := Go.Ground.data }, { on := 14, ground := Go.Ground.guard }], guard := some (14, false) }) (by kernel_rfl) rfl (fun K hK => ?_)
                rw [if_pos (by kernel_rfl)]
                go_simp
                refine hK.out _ _ (fun hD => S8) ?_
                clear hK K
                try simp only [Act.put, List.setIfInBounds_toArray, List.set_cons_zero, List.set_cons_succ]
                refine wpAnyD_one (i := 27) (o := { dst := some 214, op := Go.Op.pick (Go.Operand.tmp 201) (Go.Operand.const (Go.Value.bool true)) (Go.Operand.tmp 213), type := 4, pos := "law.go:142", after := #[{ on := 14, ground := Go.Ground.data }, { on := 26, ground := Go.Ground.data }], guard := none }) (by kernel_rfl) rfl (fun K hK => ?_)
                rw [if_pos (by kernel_rfl)]
                go_simp
                refine hK.out _ _ (fun hD => S8) ?_
                clear hK K
                try simp only [Act.put, List.setIfInBounds_toArray, List.set_cons_zero, List.set_cons_succ]
                refine wpAnyD_done (by kernel_rfl) ?_ _
                go_wp2_with fail
                go_roundw
                case rel => exact ⟨k + 1, hkm, by simp, ⟨_, T8.out⟩⟩
                case measure => simp [RowKit.intOf]; omega
          · have hkmz : ¬ (k : Int) < (m : Int) := by omega
            obtain ⟨tag, hS⟩ := S.out
            obtain ⟨pb, bb, cb, eB, hbook, hB⟩ := hS.book (by omega)
            simp only [Value.slice.injEq] at eB
            obtain ⟨rfl, -, rfl⟩ := eB
            have hst := Pg.stay_any w.heap.size nb bb 0 cB pB V Wv D wr hbook hB hS.bel.size
            have HBW := hid hS.bel
            clear S hS hbook hB
            go_wp2_with fail
            refine hst.mono ?_
            rintro e w9 ⟨rfl, hB9⟩
            have HB9 := hid (HBW.out.trans hB9)
            clear hst hB9
            go_wp2
            go_ret
            exact ⟨rfl, HB9.out⟩
end Go.Proofs.Ytcdmgclkgojgaaa.Pi
