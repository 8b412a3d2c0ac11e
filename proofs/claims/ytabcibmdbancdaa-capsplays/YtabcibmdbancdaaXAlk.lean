import Derived.Test.YtabcibmdbancdaaXPair
namespace Go.Proofs.Ytabcibmdbancdaa
open Go.RowKit Go.Sort Go.Maps
attribute [local go_sem ↓] Go.wp_at_zero Go.wp_at_succ
set_option maxRecDepth 100000 in
set_option maxHeartbeats 8000000 in
/-- alike: both hold the same; nothing that was there before changes. -/
theorem alike_any {most : Int} {p : Pp} (w : World) (h : Ok1 most p w) (hl : p.last < 3000000000000) :
    Calls Try.prog 17 #[pv p] w fun e w' => e = .returned (.bool true) ∧ Below w.heap.size w w' := by
  have hmx : Try.prog.follows .mixedOrders = true := by kernel_rfl
  have hLn : p.L.length < 3000000000000 := by have := h.len; omega
  have HO := hid h
  have hall : ∀ W, Below w.heap.size w W → Calls Try.prog 12 #[.pointer (some ⟨p.tb, 0, none⟩)] W fun e w' => ∃ g cap, e = .returned (.slice (some ⟨g, 0, none⟩) p.L.length cap) ∧
      w'.ownsRow W.heap.size 38 5 (.slice (some ⟨g, 0, none⟩) p.L.length cap) p.L.length (fl EH p.L) ∧ Below W.heap.size W w' := fun W hW => all_any W (h.below hW).c hl
  have hral : ∀ W, Below w.heap.size w W → Calls Try.prog 22 #[.pointer (some ⟨p.rb, 0, none⟩)] W fun e w' => ∃ q c, e = .returned (.slice q p.L.length c) ∧ w'.ownsRow W.heap.size 38 5 (.slice q p.L.length c) p.L.length (fl EH p.L) ∧ Below W.heap.size W w' := fun W hW => rall_any W (h.below hW).r (by omega)
  obtain ⟨tb, b, rb, v, last, L⟩ := p
  simp only at hLn hall hral hl
  have hsame : ∀ (W : World) (va vb : Value), Ls EH W va L → Ls EH W vb L → Calls Try.prog 11 #[va, vb] W fun e w' => e = .returned (.bool true) ∧ Gr W w' := fun W va vb ha hb => same_any W ha hb (by omega)
  have c0 := cell_new w #[.pointer (some ⟨tb, 0, none⟩), .pointer (some ⟨rb, 0, none⟩)] 49 0 _ rfl
  have c1 := cell_new w #[.pointer (some ⟨tb, 0, none⟩), .pointer (some ⟨rb, 0, none⟩)] 49 1 _ rfl
  have b1 : Below w.heap.size w (w.alloc (.cells #[.pointer (some ⟨tb, 0, none⟩), .pointer (some ⟨rb, 0, none⟩)] 49)) := ((Gr.refl w).alloc _).below
  have hz1 : w.heap.size < (w.alloc (.cells #[.pointer (some ⟨tb, 0, none⟩), .pointer (some ⟨rb, 0, none⟩)] 49)).heap.size := by simp
  have HF := hid (And.intro c0 (And.intro c1 hz1))
  clear h
  go_enter Try.func17, Try.ntmps17
  go_wp2_with fail
  generalize (w.alloc (.cells #[.pointer (some ⟨tb, 0, none⟩), .pointer (some ⟨rb, 0, none⟩)] 49)) = W1 at *
  refine (hall W1 b1).mono ?_
  rintro e w2 ⟨g1, cap1, rfl, r2, b2⟩
  have HB2 := hid (b1.trans (b2.mono b1.size))
  have HR2 := hid (And.intro r2 b2)
  have d0 := (b2.cell (p := ⟨w.heap.size, 0, none⟩) hz1).trans c0
  have d1 := (b2.cell (p := ⟨w.heap.size, 1, none⟩) hz1).trans c1
  have hz2 := Nat.lt_of_lt_of_le hz1 b2.size
  clear r2 b2 c0 c1 b1
  go_wp2_with fail
  refine (hall w2 HB2.out).mono ?_
  rintro e w3 ⟨g2, cap2, rfl, r3, b3⟩
  have HB3 := hid (HB2.out.trans (b3.mono HB2.out.size))
  have HG : Hid (g1 ≠ g2 ∧ W1.heap.size ≤ g1 ∧ W1.heap.size ≤ g2) := by
    have q1 := HR2.out.1.lt g1 rfl
    have q2 := (r3.lt g2 rfl).1
    exact ⟨by omega, q1.1, by omega⟩
  have HRA := hid (owns_base (owns_below HR2.out.1 b3) (Nat.zero_le _))
  have HRB := hid (owns_base r3 (Nat.zero_le _))
  have e0 := (b3.cell (p := ⟨w.heap.size, 0, none⟩) hz2).trans d0
  have e1 := (b3.cell (p := ⟨w.heap.size, 1, none⟩) hz2).trans d1
  have hz3 := Nat.lt_of_lt_of_le hz2 b3.size
  clear r3 b3 d0 d1 HR2
  go_wp2_with fail
  refine (hral w3 HB3.out).mono ?_
  rintro e w4 ⟨q4, c4, rfl, r4, b4⟩
  have HB4 := hid (HB3.out.trans (b4.mono HB3.out.size))
  have HRA4 := hid (owns_below HRA.out b4)
  have HRB4 := hid (owns_below HRB.out b4)
  have f0 := (b4.cell (p := ⟨w.heap.size, 0, none⟩) hz3).trans e0
  have f1 := (b4.cell (p := ⟨w.heap.size, 1, none⟩) hz3).trans e1
  have hz4 := Nat.lt_of_lt_of_le hz3 b4.size
  have hs4 := hsame w4 _ _ (owns_ls (E := EH) HRA4.out) (owns_ls (E := EH) r4)
  clear r4 b4 e0 e1 HRA HRB
  go_wp2_with fail
  refine hs4.mono ?_
  rintro e w5 ⟨rfl, g5⟩
  have HB5 := hid (HB4.out.trans (g5.below.mono HB4.out.size))
  have HRA5 := hid (owns_below HRA4.out g5.below)
  have HRB5 := hid (owns_below HRB4.out g5.below)
  have k0 := (g5.cell (o := 0) hz4).trans f0
  have k1 := (g5.cell (o := 1) hz4).trans f1
  have hz5 := Nat.lt_of_lt_of_le hz4 g5.size
  clear g5 f0 f1 hs4 HRA4 HRB4
  go_wp2_with fail
  refine (hral w5 HB5.out).mono ?_
  rintro e w6 ⟨q6, c6, rfl, r6, b6⟩
  have HB6 := hid (HB5.out.trans (b6.mono HB5.out.size))
  have HRA6 := hid (owns_below HRA5.out b6)
  have HRB6 := hid (owns_below HRB5.out b6)
  have l0 := (b6.cell (p := ⟨w.heap.size, 0, none⟩) hz5).trans k0
  have l1 := (b6.cell (p := ⟨w.heap.size, 1, none⟩) hz5).trans k1
  have hz6 := Nat.lt_of_lt_of_le hz5 b6.size
  have hs6 := hsame w6 _ _ (owns_ls (E := EH) HRB6.out) (owns_ls (E := EH) r6)
  clear r6 b6 k0 k1 HRA5 HRB5
  go_wp2_with fail
  refine hs6.mono ?_
  rintro e W7 ⟨rfl, g7⟩
  have HB7 := hid (HB6.out.trans (g7.below.mono HB6.out.size))
  have HRA7 := hid (owns_below HRA6.out g7.below)
  have HRB7 := hid (owns_below HRB6.out g7.below)
  have HX7 := hid (And.intro ((g7.cell (o := 0) hz6).trans l0) ((g7.cell (o := 1) hz6).trans l1))
  have hz7 := Nat.lt_of_lt_of_le hz6 g7.size
  clear g7 l0 l1 hs6 HRA6 HRB6 hz2 hz3 hz4 hz5 hz6
  go_wp2_with fail
  go_loopw [5] (fun s5 wr => ∃ k : Nat, k ≤ L.length ∧ s5 = .int .i64 (k : Nat) ∧ wr.ownsRow 0 38 5 (.slice (some ⟨g1, 0, none⟩) L.length cap1) L.length (fl EH (mkL (-1) k L)) ∧ wr.ownsRow 0 38 5 (.slice (some ⟨g2, 0, none⟩) L.length cap2) L.length (fl EH (mkL (-2) k L)) ∧ Kp (fun k => k = g1 ∨ k = g2) W7 wr) (fun s5 _ => L.length - (RowKit.intOf s5).toNat)
  case atStart => exact ⟨0, Nat.zero_le _, rfl, HRA7.out, HRB7.out, Kp.refl _ _⟩
  case round =>
    obtain ⟨k, hk, rfl, hra, hrb, hkp⟩ := hrel
    have HRA := hid hra
    have HRB := hid hrb
    have HK := hid hkp
    clear hra hrb hkp
    by_cases hkl : k < L.length
    · have hltz : (k : Int) < (L.length : Int) := by omega
      have hk0 : (0 : Int) ≤ (k : Int) := by omega
      have hml1 : (mkL (-1) k L).length = L.length := mkL_length hk
      have hml2 : (mkL (-2) k L).length = L.length := mkL_length hk
      obtain ⟨h1, hh1⟩ : ∃ h, (mkL (-1) k L)[k]? = some h := ⟨(mkL (-1) k L)[k]'(by omega), by simp⟩
      obtain ⟨h2, hh2⟩ : ∃ h, (mkL (-2) k L)[k]? = some h := ⟨(mkL (-2) k L)[k]'(by omega), by simp⟩
      have la : Ls EH wr (.slice (some ⟨g1, 0, none⟩) L.length cap1) (mkL (-1) k L) := owns_ls (E := EH) (by rw [hml1]; exact HRA.out)
      have lb : Ls EH wr (.slice (some ⟨g2, 0, none⟩) L.length cap2) (mkL (-2) k L) := owns_ls (E := EH) (by rw [hml2]; exact HRB.out)
      obtain ⟨b1, o1, c1, e1, z1, x0, x1, x2, x3, x4⟩ := la.atH hh1
      obtain ⟨b2, o2, c2, e2, z2, y0, y1, y2, y3, y4⟩ := lb.atH hh2
      simp only [Value.slice.injEq, Option.some.injEq, Addr.mk.injEq] at e1 e2
      obtain ⟨⟨rfl, rfl, -⟩, -, rfl⟩ := e1
      obtain ⟨⟨rfl, rfl, -⟩, -, rfl⟩ := e2
      simp only [Nat.zero_add] at x0 x1 x2 x3 x4 y0 y1 y2 y3 y4
      have f1 := owns_fz HRA.out
      have f2 := owns_fz HRB.out
      have hg12 := HG.out.1
      have A1 := owns_held (i := k) (-1) HRA.out (by omega)
      have B1 := owns_held (i := k) (-2) (owns_kp A1.2 HRB.out (fun q hq e => by simp [Value.ownBlock] at hq; omega)) (by omega)
      rw [mkL_set hkl] at A1 B1
      have FIN := hid (And.intro (owns_kp B1.2 A1.1 (fun q hq e => by simp [Value.ownBlock] at hq; omega)) (And.intro B1.1 (HK.out.trans ((A1.2.mono (T := fun k => k = g1 ∨ k = g2) (fun _ h => Or.inl h)).trans B1.2 (fun _ _ h => Or.inr h)) (fun _ _ h => h))))
      clear A1 B1 la lb hh1 hh2
      have hg21 := hg12.symm
      go_wp2_with fail
      go_roundw
      case rel => exact ⟨k + 1, by omega, by go_num, FIN.out.1, FIN.out.2.1, FIN.out.2.2⟩
      case measure => simp [RowKit.intOf]; omega
    · have hltz : ¬ (k : Int) < (L.length : Int) := by omega
      obtain rfl : k = L.length := by omega
      go_wp2_with (at_builtin; refine wpAppS Try.underlying26 infoH rfl _ _ rfl 0 (.slice (some ⟨g1, 0, none⟩) L.length cap1) L.length _ rfl HRA.out 2 (by first | rfl | simp) (by decide) (by omega) (by unfold maxLen; omega) _ rfl rfl _ ?_)
      intro v25 w25 s25 o25
      have HA25 := hid o25
      have HB25 := hid (owns_kp s25.kp HRB.out (fun q hq e => by simp [Value.ownBlock] at hq e; have := HG.out.1; omega))
      have HK25 := hid (HK.out.trans s25.kp (fun q _ e => by simp [Value.ownBlock] at e; omega))
      clear s25 o25 HRA HRB HK
      go_wp2_with (at_builtin; refine wpAppS Try.underlying26 infoH rfl _ _ rfl 0 (.slice (some ⟨g2, 0, none⟩) L.length cap2) L.length _ rfl HB25.out 2 (by first | rfl | simp) (by decide) (by omega) (by unfold maxLen; omega) _ rfl rfl _ ?_)
      intro v26 w26 s26 o26
      have HB26 := hid o26
      have HA26 := hid (owns_kp s26.kp HA25.out (fun q hq e => by simp [Value.ownBlock] at hq e; have := HG.out.1; omega))
      have HK26 := hid (HK25.out.trans s26.kp (fun q _ e => by simp [Value.ownBlock] at e; omega))
      clear s26 o26 HA25 HB25 HK25
      go_wp2_with fail
      go_loopw [6] (fun s6 wr2 => ∃ k : Nat, k ≤ L.length ∧ s6 = .int .i64 (k : Nat) ∧ wr2 = w26) (fun s6 _ => L.length - (RowKit.intOf s6).toNat)
      case atStart => exact ⟨0, Nat.zero_le _, rfl, rfl⟩
      case round =>
        obtain ⟨k, hk, rfl, hwr⟩ := hrel
        rw [hwr]
        clear hwr
        by_cases hkl : k < L.length
        · have hltz : (k : Int) < (L.length : Int) := by omega
          have hk0 : (0 : Int) ≤ (k : Int) := by omega
          have la : Ls EH w26 (.slice (some ⟨g1, 0, none⟩) L.length cap1) (mkL (-1) L.length L) := owns_ls (E := EH) (by rw [mkL_length (Nat.le_refl _)]; exact HA26.out)
          have lb : Ls EH w26 (.slice (some ⟨g2, 0, none⟩) L.length cap2) (mkL (-2) L.length L) := owns_ls (E := EH) (by rw [mkL_length (Nat.le_refl _)]; exact HB26.out)
          obtain ⟨b1, o1, c1, e1, z1, x0, x1, x2, x3, x4⟩ := la.atH (mkL_full (-1) L k hkl)
          obtain ⟨b2, o2, c2, e2, z2, y0, y1, y2, y3, y4⟩ := lb.atH (mkL_full (-2) L k hkl)
          simp only [Value.slice.injEq, Option.some.injEq, Addr.mk.injEq] at e1 e2
          obtain ⟨⟨rfl, rfl, -⟩, -, rfl⟩ := e1
          obtain ⟨⟨rfl, rfl, -⟩, -, rfl⟩ := e2
          simp only [Nat.zero_add] at x0 y0
          clear x1 x2 x3 x4 y1 y2 y3 y4 la lb
          go_wp2_with fail
          go_roundw
          case rel => exact ⟨k + 1, by omega, by go_num, by first | rfl | trivial⟩
          case measure => simp [RowKit.intOf]; omega
        · have hltz : ¬ (k : Int) < (L.length : Int) := by omega
          obtain rfl : k = L.length := by omega
          go_upto_region 17 with fail
          have hS0 : Below w.heap.size w w26.drew ∧ w26.drew.cell? ⟨w.heap.size, 0, none⟩ = some (.pointer (some ⟨tb, 0, none⟩)) ∧ w26.drew.cell? ⟨w.heap.size, 1, none⟩ = some (.pointer (some ⟨rb, 0, none⟩)) ∧ w.heap.size < w26.drew.heap.size := by
            have hn : ¬ (w.heap.size = g1 ∨ w.heap.size = g2) := fun e => by have := HG.out; omega
            have hb := HK26.out.below (B := w.heap.size) (by omega) (fun q hq => by have := HG.out; omega)
            refine ⟨?_, (HK26.out.cell hz7 hn).trans HX7.out.1, (HK26.out.cell hz7 hn).trans HX7.out.2, Nat.lt_of_lt_of_le hz7 HK26.out.size⟩
            exact ⟨(HB7.out.trans hb).os, (HB7.out.trans hb).tape, (HB7.out.trans hb).output, (HB7.out.trans hb).size, (HB7.out.trans hb).block⟩
          refine wp_regionD (S := fun W => Below w.heap.size w W ∧ W.cell? ⟨w.heap.size, 0, none⟩ = some (.pointer (some ⟨tb, 0, none⟩)) ∧ W.cell? ⟨w.heap.size, 1, none⟩ = some (.pointer (some ⟨rb, 0, none⟩)) ∧ w.heap.size < W.heap.size) (D := []) hmx ?_
          refine' wpAnyD_take (i := 0) (oi := { dst := some 71, op := Go.Op.fieldAddr 49 (Go.Operand.tmp 1) 0, type := 0, pos := "law.go:82", after := #[], guard := none }) (v := _) rfl (by kernel_rfl) (by kernel_rfl) (by kernel_rfl) (fun _ _ _ h => h) (by kernel_rfl) (Or.inl ⟨by rfl, ?hy1⟩) hS0 ?rest1
          case hy1 => (intro W hSw; go_simp; try (with_reducible rfl))
          try simp only [Act.put, List.setIfInBounds_toArray, List.set_cons_zero, List.set_cons_succ]
          refine' wpAnyD_take (i := 1) (oi := { dst := some 72, op := Go.Op.load 23 (Go.Operand.tmp 71), type := 23, pos := "law.go:82", after := #[{ on := 0, ground := Go.Ground.data }], guard := none }) (v := _) rfl (by kernel_rfl) (by kernel_rfl) (by kernel_rfl) (fun _ _ _ h => h) (by kernel_rfl) (Or.inl ⟨by rfl, ?hy2⟩) hS0 ?rest2
          case hy2 => (intro W hSw; obtain ⟨s0, s1, s2, s3⟩ := hSw; go_simp; try (with_reducible rfl))
          try simp only [Act.put, List.setIfInBounds_toArray, List.set_cons_zero, List.set_cons_succ]
          refine' wpAnyD_take (i := 3) (oi := { dst := some 74, op := Go.Op.fieldAddr 49 (Go.Operand.tmp 1) 1, type := 0, pos := "law.go:82", after := #[], guard := none }) (v := _) rfl (by kernel_rfl) (by kernel_rfl) (by kernel_rfl) (fun _ _ _ h => h) (by kernel_rfl) (Or.inl ⟨by rfl, ?hy3⟩) hS0 ?rest3
          case hy3 => (intro W hSw; go_simp; try (with_reducible rfl))
          try simp only [Act.put, List.setIfInBounds_toArray, List.set_cons_zero, List.set_cons_succ]
          refine' wpAnyD_take (i := 4) (oi := { dst := some 75, op := Go.Op.load 46 (Go.Operand.tmp 74), type := 46, pos := "law.go:82", after := #[{ on := 3, ground := Go.Ground.data }], guard := none }) (v := _) rfl (by kernel_rfl) (by kernel_rfl) (by kernel_rfl) (fun _ _ _ h => h) (by kernel_rfl) (Or.inl ⟨by rfl, ?hy4⟩) hS0 ?rest4
          case hy4 => (intro W hSw; obtain ⟨s0, s1, s2, s3⟩ := hSw; go_simp; try (with_reducible rfl))
          try simp only [Act.put, List.setIfInBounds_toArray, List.set_cons_zero, List.set_cons_succ]
          refine wpAnyD_one (i := 2) (o := { dst := some 73, op := Go.Op.call { callee := Go.Callee.value (Go.Operand.func 12), args := #[Go.Operand.tmp 72], argTypes := #[23] }, type := 26, pos := "law.go:82", after := #[{ on := 1, ground := Go.Ground.data }], guard := none }) (by kernel_rfl) rfl (fun K hK => ?_)
          go_simp
          refine (hall _ hS0.1).mono ?_
          rintro r w9 ⟨g9, c9, rfl, r9, b9⟩
          have hS9 : (fun W => Below w.heap.size w W ∧ W.cell? ⟨w.heap.size, 0, none⟩ = some (.pointer (some ⟨tb, 0, none⟩)) ∧ W.cell? ⟨w.heap.size, 1, none⟩ = some (.pointer (some ⟨rb, 0, none⟩)) ∧ w.heap.size < W.heap.size) w9 := ⟨hS0.1.trans (b9.mono hS0.1.size), (b9.cell (p := ⟨w.heap.size, 0, none⟩) hS0.2.2.2).trans hS0.2.1, (b9.cell (p := ⟨w.heap.size, 1, none⟩) hS0.2.2.2).trans hS0.2.2.1, Nat.lt_of_lt_of_le hS0.2.2.2 b9.size⟩
          clear b9
          go_wp2_with fail
          refine hK.out _ _ (fun hD => hS9) ?_
          clear hK K
          try simp only [Act.put, List.setIfInBounds_toArray, List.set_cons_zero, List.set_cons_succ]
          refine wpAnyD_one (i := 5) (o := { dst := some 76, op := Go.Op.call { callee := Go.Callee.value (Go.Operand.func 22), args := #[Go.Operand.tmp 75], argTypes := #[46] }, type := 26, pos := "law.go:82", after := #[{ on := 4, ground := Go.Ground.data }, { on := 2, ground := Go.Ground.chain }], guard := none }) (by kernel_rfl) rfl (fun K hK => ?_)
          go_simp
          refine (hral _ hS9.1).mono ?_
          rintro r w10 ⟨q10, c10, rfl, r10, b10⟩
          have hS10 : (fun W => Below w.heap.size w W ∧ W.cell? ⟨w.heap.size, 0, none⟩ = some (.pointer (some ⟨tb, 0, none⟩)) ∧ W.cell? ⟨w.heap.size, 1, none⟩ = some (.pointer (some ⟨rb, 0, none⟩)) ∧ w.heap.size < W.heap.size) w10 := ⟨hS9.1.trans (b10.mono hS9.1.size), (b10.cell (p := ⟨w.heap.size, 0, none⟩) hS9.2.2.2).trans hS9.2.1, (b10.cell (p := ⟨w.heap.size, 1, none⟩) hS9.2.2.2).trans hS9.2.2.1, Nat.lt_of_lt_of_le hS9.2.2.2 b10.size⟩
          have r9' := owns_below r9 b10
          clear b10 r9
          go_wp2_with fail
          refine hK.out _ _ (fun hD => hS10) ?_
          clear hK K
          try simp only [Act.put, List.setIfInBounds_toArray, List.set_cons_zero, List.set_cons_succ]
          refine wpAnyD_one (i := 6) (o := { dst := some 77, op := Go.Op.call { callee := Go.Callee.value (Go.Operand.func 11), args := #[Go.Operand.tmp 73, Go.Operand.tmp 76], argTypes := #[26, 26] }, type := 4, pos := "law.go:82", after := #[{ on := 2, ground := Go.Ground.data }, { on := 5, ground := Go.Ground.data }, { on := 5, ground := Go.Ground.chain }], guard := none }) (by kernel_rfl) rfl (fun K hK => ?_)
          go_simp
          refine (hsame _ _ _ (owns_ls (E := EH) r9') (owns_ls (E := EH) r10)).mono ?_
          rintro r w11 ⟨rfl, g11⟩
          have hS11 : (fun W => Below w.heap.size w W ∧ W.cell? ⟨w.heap.size, 0, none⟩ = some (.pointer (some ⟨tb, 0, none⟩)) ∧ W.cell? ⟨w.heap.size, 1, none⟩ = some (.pointer (some ⟨rb, 0, none⟩)) ∧ w.heap.size < W.heap.size) w11 := ⟨hS10.1.trans (g11.below.mono hS10.1.size), (g11.below.cell (p := ⟨w.heap.size, 0, none⟩) hS10.2.2.2).trans hS10.2.1, (g11.below.cell (p := ⟨w.heap.size, 1, none⟩) hS10.2.2.2).trans hS10.2.2.1, Nat.lt_of_lt_of_le hS10.2.2.2 g11.below.size⟩
          clear g11 r9' r10
          go_wp2_with fail
          refine hK.out _ _ (fun hD => hS11) ?_
          clear hK K
          try simp only [Act.put, List.setIfInBounds_toArray, List.set_cons_zero, List.set_cons_succ]
          refine' wpAnyD_take (i := 7) (oi := { dst := some 2, op := Go.Op.assign (Go.Operand.tmp 77), type := 4, pos := "law.go:82", after := #[{ on := 6, ground := Go.Ground.data }, { on := 6, ground := Go.Ground.chain }, { on := 0, ground := Go.Ground.phase }, { on := 1, ground := Go.Ground.phase }, { on := 2, ground := Go.Ground.phase }, { on := 3, ground := Go.Ground.phase }, { on := 4, ground := Go.Ground.phase }, { on := 5, ground := Go.Ground.phase }, { on := 6, ground := Go.Ground.phase }], guard := none }) (v := _) rfl (by kernel_rfl) (by kernel_rfl) (by kernel_rfl) (fun _ _ _ h => h) (by kernel_rfl) (Or.inl ⟨by rfl, ?hy8⟩) hS11 ?rest8
          case hy8 => (intro W hSw; go_simp; try (with_reducible rfl))
          try simp only [Act.put, List.setIfInBounds_toArray, List.set_cons_zero, List.set_cons_succ]
          refine wpAnyD_done (by kernel_rfl) ?_ _
          go_wp2
          go_ret
          exact ⟨rfl, hS11.1⟩
end Go.Proofs.Ytabcibmdbancdaa
