import Derived.Test.YtijbmchgajhkeaaSuRefP
namespace Go.Proofs.Ytijbmchgajhkeaa
open Go.RowKit Go.Sort Go.Maps Go.Shelf
attribute [local go_sem ↓] Go.wp_at_zero Go.wp_at_succ
/-- Rows of unlike types are apart. -/
theorem ne_own {w : World} {b b' : Nat} {e e' : TypeId} {s s' n n' g : Nat} {v v' : Value} {xs xs' : List Value} (h : w.ownsRow b e s v n xs) (h' : w.ownsRow b' e' s' v' n' xs') (hne : e ≠ e') (hg : v.ownBlock = some g) : v'.ownBlock ≠ some g := fun hg' => by
  obtain ⟨_, ⟨h0, _⟩ | ⟨g1, cap, cur, hv, _, hgg, _⟩⟩ := h
  · rw [h0] at hg; simp [Value.ownBlock] at hg
  · obtain ⟨_, ⟨h0, _⟩ | ⟨g2, cap2, cur2, hv2, _, hgg2, _⟩⟩ := h'
    · rw [h0] at hg'; simp [Value.ownBlock] at hg'
    · rw [hv] at hg
      rw [hv2] at hg'
      obtain rfl : g1 = g := by simpa [Value.ownBlock] using hg
      obtain rfl : g2 = g1 := by simpa [Value.ownBlock] using hg'
      rw [hgg] at hgg2
      simp only [Option.some.injEq, Obj.cells.injEq] at hgg2
      exact hne hgg2.2.1
theorem fl_setV (L : List Rc) (i : Nat) (r : Rc) (v : Ku) (hi : L[i]? = some r) : (fl ER L).set (i * 2 + 1) (.int .u64 v.1) = fl ER (L.set i (r.1, v)) := by
  induction L generalizing i with
  | nil => simp at hi
  | cons y L ih =>
    rw [fl_cons]
    cases i with
    | zero =>
      obtain rfl : y = r := by simpa using hi
      simp [ER, fl]
    | succ i =>
      have e : (i + 1) * 2 + 1 = 2 + (i * 2 + 1) := by omega
      rw [e, List.set_append_right _ _ (by rw [ER.len]; show 2 ≤ _; omega), ER.len]
      show ER.enc y ++ (fl ER L).set (2 + (i * 2 + 1) - 2) _ = _
      rw [show 2 + (i * 2 + 1) - 2 = i * 2 + 1 by omega, ih i (by simpa using hi), List.set_cons_succ, fl_cons]
theorem Kp.of_below_from {b : Nat} {w w' : World} (h : Below b w w') : Kp (fun k => b ≤ k) w w' := ⟨h.os, h.tape, h.output, h.size, fun k _ hn => h.block k (Nat.lt_of_not_le hn)⟩
/-- How the told and the left stand behind some rounds. -/
def TI (W1 : World) (B : List Ct) (t : Tm) (l f : Value) (wr : World) : Prop := wr.ownsRow W1.heap.size 37 2 l (rcs B t).length (fl ER (rcs B t)) ∧ wr.ownsRow W1.heap.size 39 5 f (lft B t).length (fl EC (lft B t)) ∧ Below W1.heap.size W1 wr
theorem TI.gr {W1 wr w' : World} {B : List Ct} {t : Tm} {l f : Value} (h : TI W1 B t l f wr) (hg : Gr wr w') : TI W1 B t l f w' := ⟨owns_below h.1 hg.below, owns_below h.2.1 hg.below, h.2.2.trans (hg.below.mono h.2.2.size)⟩
theorem take_len {α : Type} {A : List α} {n i : Nat} (h : n = A.length) (hi : i ≤ n) : (A.take i).length = i := by rw [List.length_take]; omega
set_option maxHeartbeats 16000000 in
set_option maxRecDepth 100000 in
theorem rtell_any {S : Nat → Prop} {rb : Nat} {A : List Ct} (t : Tm) (w : World) (h : Rs w S rb A) (hl : A.length ≤ 1000) :
    Calls Try.prog 22 #[.pointer (some ⟨rb, 0, none⟩), tv t] w fun e w' => ∃ v', e = .returned v' ∧ Hid (w'.ownsRow w.heap.size 37 2 v' (rcs A t).length (fl ER (rcs A t)) ∧ Rs w' (nw S w) rb (lft A t) ∧ Kp S w w') := by
  have hmx : Try.prog.follows .mixedOrders = true := by kernel_rfl
  obtain ⟨v, h1, h2, h3, h4⟩ := h
  obtain ⟨p, c, hv⟩ := owns_form h3
  subst hv
  obtain ⟨n, hn⟩ : ∃ n, n = A.length := ⟨_, rfl⟩
  rw [← hn] at h1 h3 hl
  have HNA := hid hn
  obtain ⟨W1, hW1⟩ : ∃ W1, W1 = w.alloc (.cells #[.int .u64 t.1.1, .int .u64 t.1.2.1, .int .u64 t.1.2.2] 32) := ⟨_, rfl⟩
  obtain ⟨bt, hbt⟩ : ∃ bt, bt = w.heap.size := ⟨_, rfl⟩
  have G1 : Gr w W1 := by rw [hW1]; exact (Gr.refl _).alloc _
  have HXT : Hid (W1.heap[bt]? = some (.cells #[.int .u64 t.1.1, .int .u64 t.1.2.1, .int .u64 t.1.2.2] 32 (0, 0))) := by rw [hW1, hbt]; exact heap_new' _ _
  have HBK : Hid (W1.heap[rb]? = some (.cells #[.slice p n c] 52 (0, 0))) := (G1.below.block rb (Array.getElem?_eq_some_iff.1 h1).1).trans h1
  have HRZ := hid (Array.getElem?_eq_some_iff.1 h1).1
  have HL0 : Hid (Ls EC W1 (.slice p n c) A) := (owns_ls (E := EC) (owns_re h3 hn rfl)).below G1.below
  have HSR := hid h2
  have HG1 := hid G1
  have c0 : W1.cell? ⟨rb, 0, none⟩ = some (.slice p n c) := by simp [World.cell?, HBK.out]
  have hlt := (Array.getElem?_eq_some_iff.1 HBK.out).1
  clear h1 h2 h3 h4 hn G1
  go_enter Try.func22, Try.ntmps22
  go_upto_region 1 with fail
  rw [← hW1, ← hbt]
  clear hW1 hbt
  go_wp2_with fail
  go_loopw [5, 6, 16] (fun s5 s6 s16 wr => ∃ (i : Nat) (po : Option Addr) (co : Nat) (pl : Option Addr) (cl : Nat), i ≤ n ∧ s16 = .int .i64 (i : Nat) ∧ s5 = .slice po (rcs (A.take i) t).length co ∧ s6 = .slice pl (lft (A.take i) t).length cl ∧ Hid (TI W1 (A.take i) t (.slice po (rcs (A.take i) t).length co) (.slice pl (lft (A.take i) t).length cl) wr)) (fun _ _ s16 _ => n - (RowKit.intOf s16).toNat)
  case atStart => exact ⟨0, none, 0, none, 0, Nat.zero_le _, rfl, rfl, rfl, World.ownsRow_nil _ _ _ _, World.ownsRow_nil _ _ _ _, Below.refl _ _⟩
  case round =>
    clear c0 hlt
    obtain ⟨i, po, co, pl, cl, hi, rfl, rfl, rfl, HI⟩ := hrel
    by_cases hlti : i < n
    · have hltz : (i : Int) < (n : Int) := by omega
      have hi0 : (0 : Int) ≤ (i : Int) := by omega
      obtain ⟨x, hx⟩ : ∃ x, A[i]? = some x := ⟨A[i]'(by have := HNA.out; omega), by simp⟩
      have L1 : Ls EC wr (.slice p n c) A := HL0.out.below HI.out.2.2
      obtain ⟨b1, o1, c1, e1, z1, x0, x1, x2, x3, x4⟩ := L1.atC hx
      simp only [Value.slice.injEq] at e1
      obtain ⟨rfl, -, rfl⟩ := e1
      obtain ⟨W5, hW5⟩ : ∃ W, W = wr.alloc (.cells #[.int .u64 x.1.1.1, .int .u64 x.1.1.2.1, .int .u64 x.1.1.2.2, .int .u64 x.2.1.1, .int .u64 x.2.2.1] 39) := ⟨_, rfl⟩
      obtain ⟨B5, hB5⟩ : ∃ B, B = wr.heap.size := ⟨_, rfl⟩
      have G5 : Gr wr W5 := by rw [hW5]; exact (Gr.refl _).alloc _
      have HXB : Hid (W5.heap[B5]? = some (.cells #[.int .u64 x.1.1.1, .int .u64 x.1.1.2.1, .int .u64 x.1.1.2.2, .int .u64 x.2.1.1, .int .u64 x.2.2.1] 39 (0, 0))) := by rw [hW5, hB5]; exact heap_new' _ _
      have HI5 := hid (HI.out.gr G5)
      obtain ⟨a0, a1, a2, a3, a4, z5⟩ := cg_cell HXB.out
      obtain ⟨t0, t1, t2, zt⟩ := bx_cell ((HI5.out.2.2.block bt (Array.getElem?_eq_some_iff.1 HXT.out).1).trans HXT.out)
      have HTK : Hid (A.take i ++ [x] = A.take (i + 1)) := take_snoc hx
      have heq := fun W => run_eqd x.1 t W
      have hil : i ≤ 1000 := by omega
      have HLE : Hid ((rcs (A.take i) t).length ≤ i ∧ (lft (A.take i) t).length ≤ i) := by
        have e := take_len HNA.out hi
        refine ⟨?_, ?_⟩
        · rw [rcs_len]; exact Nat.le_trans (kys_len _ _) (Nat.le_of_eq e)
        · exact Nat.le_trans (lft_len _ _) (Nat.le_of_eq e)
      have HIL := hid (show i + 1 ≤ n by omega)
      clear hx L1 HI G5
      go_upto_region 6 with fail
      rw [← hW5, ← hB5]
      clear hW5 hB5 x0 x1 x2 x3 x4 z1
      by_cases he : x.1 = t
      · rw [decide_eq_true he] at heq
        have HE := hid he
        have LFT : Hid (lft (A.take (i + 1)) t = lft (A.take i) t) := by show _ = _; rw [← HTK.out, lft_snoc, if_pos he]
        have NXP : Hid ((∀ r, (rcs (A.take i) t)[ah (kp x.2.1) (rcs (A.take i) t)]? = some r → r.1 ≠ x.2.1) → rcs (A.take (i + 1)) t = (rcs (A.take i) t).take (ah (kp x.2.1) (rcs (A.take i) t)) ++ x.2 :: (rcs (A.take i) t).drop (ah (kp x.2.1) (rcs (A.take i) t))) := fun h => by rw [← HTK.out]; exact rcs_put he h
        have NXS : Hid (∀ j r, (rcs (A.take i) t)[j]? = some r → r.1 = x.2.1 → rcs (A.take (i + 1)) t = (rcs (A.take i) t).set j (r.1, addU r.2 x.2.2)) := fun j r h1 h2 => by rw [← HTK.out]; exact rcs_set he h1 h2
        have hol : (rcs (A.take i) t).length ≤ 1000 := Nat.le_trans HLE.out.1 hil
        have R5 : Hid (W5.ownsRow W1.heap.size 37 2 (.slice po (rcs (A.take i) t).length co) (rcs (A.take i) t).length (fl ER (rcs (A.take i) t))) := HI5.out.1
        have F5 : Hid (W5.ownsRow W1.heap.size 39 5 (.slice pl (lft (A.take i) t).length cl) (lft (A.take i) t).length (fl EC (lft (A.take i) t))) := HI5.out.2.1
        have B5' := hid HI5.out.2.2
        clear he HTK HLE HI5
        generalize rcs (A.take i) t = out at *
        generalize lft (A.take i) t = fo at *
        obtain ⟨jj, hjj⟩ : ∃ j, j = ah (kp x.2.1) out := ⟨_, rfl⟩
        rw [← hjj] at NXP
        have hjl : jj ≤ out.length := by rw [hjj]; exact ah_le _ out
        have hja : Hid (∀ j, j < jj → ∃ y, out[j]? = some y ∧ kp x.2.1 y = true) := fun j h => ah_lt (p := kp x.2.1) (by rw [← hjj]; exact h)
        have hjn : Hid (∀ y, out[jj]? = some y → kp x.2.1 y = false) := fun y h => ah_at (p := kp x.2.1) (by rw [← hjj]; exact h)
        have LS5 := hid (owns_ls (E := ER) R5.out)
        clear hjj
        go_upto_block 2 with fail
        go_cut [9] (fun s9 w' => s9 = .int .i64 (jj : Nat) ∧ Hid (Gr W5 w'))
        case first =>
          go_wp2_with fail
          go_loopw [9] (fun s9 wr => ∃ j : Nat, j ≤ jj ∧ s9 = .int .i64 (j : Nat) ∧ Hid (Gr W5 wr)) (fun s9 _ => jj - (RowKit.intOf s9).toNat)
          case atStart => exact ⟨0, Nat.zero_le _, rfl, Gr.refl _⟩
          case round =>
            obtain ⟨j, hj, rfl, HG⟩ := hrel
            have f3 := (HG.out.cell z5).trans a3
            have z8 := Nat.lt_of_lt_of_le z5 HG.out.size
            have hj0 : (0 : Int) ≤ (j : Int) := by omega
            by_cases hltj : j < out.length
            · have hltz : (j : Int) < (out.length : Int) := by omega
              obtain ⟨r, hy⟩ : ∃ r, out[j]? = some r := ⟨out[j], by simp⟩
              obtain ⟨b2, o2, c2, e2, z2, y0, y1⟩ := (LS5.out.below HG.out.below).atR hy
              simp only [Value.slice.injEq] at e2
              obtain ⟨rfl, -, rfl⟩ := e2
              have HY := hid hy
              clear hy
              by_cases hsl : r.1.1 < x.2.1.1
              · have hjj : j < jj := by
                  rcases Nat.lt_or_ge j jj with h | h
                  · exact h
                  · have e : j = jj := Nat.le_antisymm hj h
                    have := hjn.out _ (by rw [← e]; exact HY.out)
                    exact absurd hsl (of_decide_eq_false this)
                go_upto_region 9 with fail
                go_quiet (fail)
                go_wp2_with fail
                go_roundw
                case rel => exact ⟨j + 1, by omega, by go_num, HG.out.drewN _⟩
                case measure => simp [RowKit.intOf]; omega
              · have hje : jj = j := by
                  rcases Nat.lt_or_ge j jj with h | h
                  · obtain ⟨y, hy, hs⟩ := hja.out j h
                    have : y = r := Option.some.inj (hy.symm.trans HY.out)
                    rw [this] at hs
                    exact absurd (of_decide_eq_true hs) hsl
                  · exact Nat.le_antisymm h hj
                have HJE := hid hje
                clear hje
                go_upto_region 9 with fail
                go_quiet (fail)
                go_wp2_with fail
                go_meet
                exact ⟨by rw [HJE.out], HG.out.drewN _⟩
            · have hltz : ¬ (j : Int) < (out.length : Int) := by omega
              have HJE := hid (show jj = j by omega)
              go_upto_region 9 with fail
              go_quiet (fail)
              go_wp2_with fail
              go_meet
              exact ⟨by rw [HJE.out], HG.out.drewN _⟩
        case rest =>
          obtain ⟨rfl, GE⟩ := hcut
          obtain ⟨WE, hWE⟩ : ∃ W, W = wc := ⟨_, rfl⟩
          rw [← hWE] at GE ⊢
          have f3 := (GE.out.cell z5).trans a3
          have f4 := (GE.out.cell z5).trans a4
          have zE := Nat.lt_of_lt_of_le z5 GE.out.size
          have RE0 := hid (owns_below R5.out GE.out.below)
          have FE0 := hid (owns_below F5.out GE.out.below)
          have BE0 := hid (B5'.out.trans (GE.out.below.mono B5'.out.size))
          have hj0 : (0 : Int) ≤ (jj : Int) := by omega
          clear hWE hja a0 a1 a2 a3 a4 z5 t0 t1 t2 zt heq R5 F5 B5' HXB LS5
          by_cases hjo : jj < out.length
          · have hjoz : (jj : Int) < (out.length : Int) := by omega
            obtain ⟨r, hr⟩ : ∃ r, out[jj]? = some r := ⟨out[jj], by simp⟩
            obtain ⟨g, q2, c2, e2, z2, y0, y1⟩ := (owns_ls (E := ER) RE0.out).atR hr
            simp only [Value.slice.injEq] at e2
            obtain ⟨rfl, -, rfl⟩ := e2
            obtain rfl : q2 = 0 := by
              obtain ⟨g', cap', hv', _, _⟩ := owns_form0 (owns_base RE0.out (Nat.zero_le _)) (by omega)
              simp only [Value.slice.injEq, Option.some.injEq, Addr.mk.injEq, and_true] at hv'
              exact hv'.1.2
            simp only [Nat.zero_add] at y0 y1
            by_cases hkk : r.1.1 = x.2.1.1
            · have hkb : ((r.1.1 : Int) == x.2.1.1) = true := by simp [hkk]
              have NX2 : Hid (rcs (A.take (i + 1)) t = out.set jj (r.1, addU r.2 x.2.2)) := NXS.out jj r hr (Subtype.ext hkk)
              have HR := hid hr
              clear NXP NXS hkk hr hjn
              go_upto_region 11 with fail
              go_quiet (fail)
              obtain ⟨WF, hWF⟩ : ∃ WF, WF = WE.drewN nq := ⟨_, rfl⟩
              rw [← hWF]
              have GF : Gr WE WF := by rw [hWF]; exact (Gr.refl _).drewN _
              clear hWF
              have RF := hid (owns_below RE0.out GF.below)
              have FF := hid (owns_below FE0.out GF.below)
              have BF := hid (BE0.out.trans (GF.below.mono BE0.out.size))
              have y1F := (GF.cell z2).trans y1
              have f4F := (GF.cell zE).trans f4
              have zF := Nat.lt_of_lt_of_le z2 GF.size
              have zG := Nat.lt_of_lt_of_le zE GF.size
              clear GF y0 y1 f3 f4 zE z2 RE0 FE0 BE0
              go_upto_region 12 with fail
              have hS0 : (fun W : World => W.cell? ⟨g, jj * 2 + 1, none⟩ = some (.int .u64 r.2.1) ∧ W.cell? ⟨B5, 4, none⟩ = some (.int .u64 x.2.2.1) ∧ g < W.heap.size ∧ B5 < W.heap.size) WF.drew := ⟨y1F, f4F, zF, zG⟩
              obtain ⟨WD, hWD⟩ : ∃ WD, WD = WF.drew := ⟨_, rfl⟩
              have GD : Gr WF WD := by rw [hWD]; exact (Gr.refl _).drew
              have RD : Hid (WD.ownsRow W1.heap.size 37 2 (.slice (some ⟨g, 0, none⟩) out.length co) out.length (fl ER out)) := owns_below RF.out GD.below
              have FD := hid (owns_below FF.out GD.below)
              have BD := hid (BF.out.trans (GD.below.mono BF.out.size))
              have fzD := owns_frozen0 (owns_base RD.out (Nat.zero_le _)) (jj * 2 + 1)
              have HGB : Hid (W1.heap.size ≤ g) := (RD.out.lt g rfl).1
              have y1D := (GD.cell zF).trans y1F
              have zFD := Nat.lt_of_lt_of_le zF GD.size
              have HRW := hid (owns_cell0 (q := jj * 2 + 1) (.int .u64 (addU r.2 x.2.2).1) (owns_base RD.out (Nat.zero_le _)))
              clear GD
              refine wp_regionD (S := fun W => W.cell? ⟨g, jj * 2 + 1, none⟩ = some (.int .u64 r.2.1) ∧ W.cell? ⟨B5, 4, none⟩ = some (.int .u64 x.2.2.1) ∧ g < W.heap.size ∧ B5 < W.heap.size) (D := [12, 13]) hmx ?_
              refine' wpAnyD_take (i := 0) (oi := { dst := some 60, op := Go.Op.move (Go.Operand.tmp 5), type := 33, pos := "ref.go:92", after := #[], guard := none }) (v := _) rfl (by kernel_rfl) (by kernel_rfl) (by kernel_rfl) (fun _ _ _ h => h) (by kernel_rfl) (Or.inl ⟨by rfl, ?hy33⟩) hS0 ?rest33
              case hy33 => (intro W hSw; go_simp; try (with_reducible rfl))
              try simp only [Act.put, List.setIfInBounds_toArray, List.set_cons_zero, List.set_cons_succ]
              refine' wpAnyD_take (i := 1) (oi := { dst := some 61, op := Go.Op.move (Go.Operand.tmp 9), type := 3, pos := "ref.go:92", after := #[], guard := none }) (v := _) rfl (by kernel_rfl) (by kernel_rfl) (by kernel_rfl) (fun _ _ _ h => h) (by kernel_rfl) (Or.inl ⟨by rfl, ?hy34⟩) hS0 ?rest34
              case hy34 => (intro W hSw; go_simp; try (with_reducible rfl))
              try simp only [Act.put, List.setIfInBounds_toArray, List.set_cons_zero, List.set_cons_succ]
              refine' wpAnyD_take (i := 2) (oi := { dst := some 62, op := Go.Op.move (Go.Operand.tmp 5), type := 33, pos := "ref.go:92", after := #[], guard := none }) (v := _) rfl (by kernel_rfl) (by kernel_rfl) (by kernel_rfl) (fun _ _ _ h => h) (by kernel_rfl) (Or.inl ⟨by rfl, ?hy35⟩) hS0 ?rest35
              case hy35 => (intro W hSw; go_simp; try (with_reducible rfl))
              try simp only [Act.put, List.setIfInBounds_toArray, List.set_cons_zero, List.set_cons_succ]
              refine' wpAnyD_take (i := 3) (oi := { dst := some 63, op := Go.Op.move (Go.Operand.tmp 9), type := 3, pos := "ref.go:92", after := #[], guard := none }) (v := _) rfl (by kernel_rfl) (by kernel_rfl) (by kernel_rfl) (fun _ _ _ h => h) (by kernel_rfl) (Or.inl ⟨by rfl, ?hy36⟩) hS0 ?rest36
              case hy36 => (intro W hSw; go_simp; try (with_reducible rfl))
              try simp only [Act.put, List.setIfInBounds_toArray, List.set_cons_zero, List.set_cons_succ]
              refine' wpAnyD_take (i := 4) (oi := { dst := some 64, op := Go.Op.indexAddr 33 (Go.Operand.tmp 62) (Go.Operand.tmp 63), type := 0, pos := "ref.go:92", after := #[{ on := 2, ground := Go.Ground.data }, { on := 3, ground := Go.Ground.data }], guard := none }) (v := _) rfl (by kernel_rfl) (by kernel_rfl) (by kernel_rfl) (fun _ _ _ h => h) (by kernel_rfl) (Or.inl ⟨by rfl, ?hy37⟩) hS0 ?rest37
              case hy37 => (intro W hSw; obtain ⟨s0, s1, s2, s3⟩ := hSw; go_simp; try (with_reducible rfl))
              try simp only [Act.put, List.setIfInBounds_toArray, List.set_cons_zero, List.set_cons_succ]
              refine' wpAnyD_take (i := 5) (oi := { dst := some 65, op := Go.Op.fieldAddr 37 (Go.Operand.tmp 64) 1, type := 0, pos := "ref.go:92", after := #[{ on := 4, ground := Go.Ground.data }], guard := none }) (v := _) rfl (by kernel_rfl) (by kernel_rfl) (by kernel_rfl) (fun _ _ _ h => h) (by kernel_rfl) (Or.inl ⟨by rfl, ?hy38⟩) hS0 ?rest38
              case hy38 => (intro W hSw; go_simp; try (with_reducible rfl))
              try simp only [Act.put, List.setIfInBounds_toArray, List.set_cons_zero, List.set_cons_succ]
              refine' wpAnyD_take (i := 6) (oi := { dst := some 66, op := Go.Op.load 30 (Go.Operand.tmp 65), type := 30, pos := "ref.go:92", after := #[{ on := 5, ground := Go.Ground.data }], guard := none }) (v := _) rfl (by kernel_rfl) (by kernel_rfl) (by kernel_rfl) (fun _ _ _ h => h) (by kernel_rfl) (Or.inl ⟨by rfl, ?hy39⟩) hS0 ?rest39
              case hy39 => (intro W hSw; obtain ⟨s0, s1, s2, s3⟩ := hSw; go_simp; try (with_reducible rfl))
              try simp only [Act.put, List.setIfInBounds_toArray, List.set_cons_zero, List.set_cons_succ]
              refine' wpAnyD_take (i := 7) (oi := { dst := some 67, op := Go.Op.fieldAddr 39 (Go.Operand.tmp 8) 1, type := 0, pos := "ref.go:92", after := #[], guard := none }) (v := _) rfl (by kernel_rfl) (by kernel_rfl) (by kernel_rfl) (fun _ _ _ h => h) (by kernel_rfl) (Or.inl ⟨by rfl, ?hy40⟩) hS0 ?rest40
              case hy40 => (intro W hSw; go_simp; try (with_reducible rfl))
              try simp only [Act.put, List.setIfInBounds_toArray, List.set_cons_zero, List.set_cons_succ]
              refine' wpAnyD_take (i := 8) (oi := { dst := some 68, op := Go.Op.fieldAddr 37 (Go.Operand.tmp 67) 1, type := 0, pos := "ref.go:92", after := #[{ on := 7, ground := Go.Ground.data }], guard := none }) (v := _) rfl (by kernel_rfl) (by kernel_rfl) (by kernel_rfl) (fun _ _ _ h => h) (by kernel_rfl) (Or.inl ⟨by rfl, ?hy41⟩) hS0 ?rest41
              case hy41 => (intro W hSw; go_simp; try (with_reducible rfl))
              try simp only [Act.put, List.setIfInBounds_toArray, List.set_cons_zero, List.set_cons_succ]
              refine' wpAnyD_take (i := 9) (oi := { dst := some 69, op := Go.Op.load 30 (Go.Operand.tmp 68), type := 30, pos := "ref.go:92", after := #[{ on := 8, ground := Go.Ground.data }], guard := none }) (v := _) rfl (by kernel_rfl) (by kernel_rfl) (by kernel_rfl) (fun _ _ _ h => h) (by kernel_rfl) (Or.inl ⟨by rfl, ?hy42⟩) hS0 ?rest42
              case hy42 => (intro W hSw; obtain ⟨s0, s1, s2, s3⟩ := hSw; go_simp; try (with_reducible rfl))
              try simp only [Act.put, List.setIfInBounds_toArray, List.set_cons_zero, List.set_cons_succ]
              refine' wpAnyD_take (i := 10) (oi := { dst := some 70, op := Go.Op.binOp Go.BinOp.add 30 (Go.Operand.tmp 66) (Go.Operand.tmp 69) 30, type := 30, pos := "ref.go:92", after := #[{ on := 6, ground := Go.Ground.data }, { on := 9, ground := Go.Ground.data }], guard := none }) (v := _) rfl (by kernel_rfl) (by kernel_rfl) (by kernel_rfl) (fun _ _ _ h => h) (by kernel_rfl) (Or.inl ⟨by rfl, ?hy43⟩) hS0 ?rest43
              case hy43 => (intro W hSw; go_simp; try (with_reducible rfl))
              try simp only [Act.put, List.setIfInBounds_toArray, List.set_cons_zero, List.set_cons_succ]
              refine' wpAnyD_take (i := 11) (oi := { dst := some 71, op := Go.Op.indexAddr 33 (Go.Operand.tmp 60) (Go.Operand.tmp 61), type := 0, pos := "ref.go:92", after := #[{ on := 0, ground := Go.Ground.data }, { on := 1, ground := Go.Ground.data }, { on := 0, ground := Go.Ground.phase }, { on := 1, ground := Go.Ground.phase }, { on := 2, ground := Go.Ground.phase }, { on := 3, ground := Go.Ground.phase }, { on := 4, ground := Go.Ground.phase }, { on := 5, ground := Go.Ground.phase }, { on := 6, ground := Go.Ground.phase }, { on := 7, ground := Go.Ground.phase }, { on := 8, ground := Go.Ground.phase }, { on := 9, ground := Go.Ground.phase }, { on := 10, ground := Go.Ground.phase }], guard := none }) (v := _) rfl (by kernel_rfl) (by kernel_rfl) (by kernel_rfl) (fun _ _ _ h => h) (by kernel_rfl) (Or.inl ⟨by rfl, ?hy44⟩) hS0 ?rest44
              case hy44 => (intro W hSw; go_simp; try (with_reducible rfl))
              try simp only [Act.put, List.setIfInBounds_toArray, List.set_cons_zero, List.set_cons_succ]
              refine wpAnyD_one (i := 12) (o := { dst := some 72, op := Go.Op.fieldAddr 37 (Go.Operand.tmp 71) 1, type := 0, pos := "ref.go:92", after := #[{ on := 11, ground := Go.Ground.data }, { on := 0, ground := Go.Ground.phase }, { on := 1, ground := Go.Ground.phase }, { on := 2, ground := Go.Ground.phase }, { on := 3, ground := Go.Ground.phase }, { on := 4, ground := Go.Ground.phase }, { on := 5, ground := Go.Ground.phase }, { on := 6, ground := Go.Ground.phase }, { on := 7, ground := Go.Ground.phase }, { on := 8, ground := Go.Ground.phase }, { on := 9, ground := Go.Ground.phase }, { on := 10, ground := Go.Ground.phase }], guard := none }) (by kernel_rfl) rfl (fun K hK => ?_)
              go_simp
              refine hK.out _ _ (fun hD => absurd (by decide) hD) ?_
              clear hK K
              try simp only [Act.put, List.setIfInBounds_toArray, List.set_cons_zero, List.set_cons_succ]
              refine wpAnyD_one (i := 13) (o := { dst := none, op := Go.Op.store 30 (Go.Operand.tmp 72) (Go.Operand.tmp 70), type := 0, pos := "ref.go:92", after := #[{ on := 12, ground := Go.Ground.data }, { on := 10, ground := Go.Ground.data }, { on := 0, ground := Go.Ground.phase }, { on := 1, ground := Go.Ground.phase }, { on := 2, ground := Go.Ground.phase }, { on := 3, ground := Go.Ground.phase }, { on := 4, ground := Go.Ground.phase }, { on := 5, ground := Go.Ground.phase }, { on := 6, ground := Go.Ground.phase }, { on := 7, ground := Go.Ground.phase }, { on := 8, ground := Go.Ground.phase }, { on := 9, ground := Go.Ground.phase }, { on := 10, ground := Go.Ground.phase }], guard := none }) (by kernel_rfl) rfl (fun K hK => ?_)
              have haddU : IntKind.u64.wrap (r.2.1 + x.2.2.1) = (addU r.2 x.2.2).1 := rfl
              rw [← hWD]
              clear hWD
              go_simp
              generalize WD.setCell ⟨g, jj * 2 + 1, none⟩ (.int .u64 (addU r.2 x.2.2).1) = w9 at HRW ⊢
              refine hK.out _ _ (fun hD => absurd (by decide) hD) ?_
              clear hK K
              try simp only [Act.put, List.setIfInBounds_toArray, List.set_cons_zero, List.set_cons_succ]
              refine wpAnyD_done (by kernel_rfl) ?_ _
              have HI11 : Hid (TI W1 (A.take (i + 1)) t (.slice (some ⟨g, 0, none⟩) (rcs (A.take (i + 1)) t).length co) (.slice pl (lft (A.take (i + 1)) t).length cl) w9) := by
                refine ⟨?_, ?_, BD.out.trans (HRW.out.2.below BD.out.size (fun k hk => by rw [hk]; exact HGB.out))⟩
                · have h := HRW.out.1
                  have e : out.length = (rcs (A.take (i + 1)) t).length := by rw [NX2.out, List.length_set]
                  rw [fl_setV _ _ _ _ HR.out, ← NX2.out, e] at h
                  exact owns_at h HGB.out
                · rw [LFT.out]
                  exact owns_kp HRW.out.2 FD.out (fun k hk e => ne_own RD.out FD.out (by decide) (by rw [e]; rfl) hk)
              have HLN : Hid (out.length = (rcs (A.take (i + 1)) t).length) := by show _ = _; rw [NX2.out, List.length_set]
              clear RD FD BD HRW NX2 hS0 fzD y1F f4F zF zG RF FF BF y1D zFD
              go_wp2_with fail
              go_roundw
              case rel => exact ⟨i + 1, _, _, pl, cl, HIL.out, by go_num, by rw [← HLN.out], by rw [LFT.out], HI11.out⟩
              case measure => simp [RowKit.intOf]; omega
            · have hkb : ((r.1.1 : Int) == x.2.1.1) = false := by simp [hkk]
              have NX2 : Hid (rcs (A.take (i + 1)) t = out.take jj ++ x.2 :: out.drop jj) := NXP.out (fun r' h' e' => by
                have : r' = r := Option.some.inj (h'.symm.trans hr)
                rw [this] at e'
                exact hkk (congrArg Subtype.val e'))
              clear NXP NXS hkk hjn hr
              go_upto_region 11 with fail
              go_quiet (fail)
              clear y0 y1
              obtain ⟨WF, hWF⟩ : ∃ WF, WF = WE.drewN nq := ⟨_, rfl⟩
              rw [← hWF]
              have GF : Gr WE WF := by rw [hWF]; exact (Gr.refl _).drewN _
              clear hWF
              have RE := hid (owns_below RE0.out GF.below)
              have FE := hid (owns_below FE0.out GF.below)
              have BE := hid (BE0.out.trans (GF.below.mono BE0.out.size))
              replace f3 := (GF.cell zE).trans f3
              replace f4 := (GF.cell zE).trans f4
              replace zE := Nat.lt_of_lt_of_le zE GF.size
              clear GF RE0 FE0 BE0
              have hjz : (jj : Int) ≤ (out.length : Int) := by omega
              have hcc := (owns_cap RE.out).1
              have hcz : (out.length : Int) ≤ (co : Int) := by omega
              have hjcz : (jj : Int) ≤ (co : Int) := by omega
              have ARI := hid (ar_ok (x := x.2) hjl hol)
              have AR0 := hid (ar_ok (x := x.2) hjl hol)
              obtain ⟨n10, hn10⟩ : ∃ n, n = (out.take jj).length := ⟨_, rfl⟩
              obtain ⟨n9, hn9⟩ : ∃ n, n = 1 + (out.drop jj).length := ⟨_, rfl⟩
              have eN : n9 = (x.2 :: out.drop jj).length := by rw [hn9, List.length_cons, Nat.add_comm]
              have eM : n10 + (x.2 :: out.drop jj).length = (rcs (A.take (i + 1)) t).length := by rw [NX2.out, List.length_append, hn10]
              rw [← hn10] at ARI
              have HN := hid (And.intro hn10 (And.intro hn9 (And.intro eN eM)))
              clear hn10 hn9 eN eM
              have HJL := hid hjl
              clear hjl hol hil hcc GE
              have hcq : ¬ co = jj := by omega
              have LD := hid (show Ls ER WF.drew (.slice (some ⟨g, jj * 2, none⟩) (out.length - jj) (co - jj)) (out.drop jj) from by have h := ((owns_ls (E := ER) RE.out).below (Gr.refl WF).drew.below).tail (k := jj) (co - jj); rw [Nat.zero_add] at h; exact h)
              have LT := hid (show Ls ER WF (.slice (some ⟨g, 0, none⟩) jj co) (out.take jj) from (owns_ls (E := ER) RE.out).cut HJL.out co)
              have hS0 : (fun W : World => W.cell? ⟨B5, 3, none⟩ = some (.int .u64 x.2.1.1) ∧ W.cell? ⟨B5, 4, none⟩ = some (.int .u64 x.2.2.1)) WF.drew := ⟨f3, f4⟩
              have zD : B5 < WF.drew.heap.size := zE
              go_upto_region 13 with fail
              refine wp_regionD (S := fun W => W.cell? ⟨B5, 3, none⟩ = some (.int .u64 x.2.1.1) ∧ W.cell? ⟨B5, 4, none⟩ = some (.int .u64 x.2.2.1)) (D := []) hmx ?_
              refine' wpAnyD_take (i := 0) (oi := { dst := some 73, op := Go.Op.fieldAddr 39 (Go.Operand.tmp 8) 1, type := 0, pos := "ref.go:95", after := #[], guard := none }) (v := _) rfl (by kernel_rfl) (by kernel_rfl) (by kernel_rfl) (fun _ _ _ h => h) (by kernel_rfl) (Or.inl ⟨by rfl, ?hy1⟩) hS0 ?rest1
              case hy1 => (intro W hSw; go_simp; try (with_reducible rfl))
              try simp only [Act.put, List.setIfInBounds_toArray, List.set_cons_zero, List.set_cons_succ]
              refine' wpAnyD_take (i := 1) (oi := { dst := some 74, op := Go.Op.load 37 (Go.Operand.tmp 73), type := 37, pos := "ref.go:95", after := #[{ on := 0, ground := Go.Ground.data }], guard := none }) (v := _) rfl (by kernel_rfl) (by kernel_rfl) (by kernel_rfl) (fun _ _ _ h => h) (by kernel_rfl) (Or.inl ⟨by rfl, ?hy2⟩) hS0 ?rest2
              case hy2 => (intro W hSw; obtain ⟨s0, s1⟩ := hSw; go_simp; try (with_reducible rfl))
              try simp only [Act.put, List.setIfInBounds_toArray, List.set_cons_zero, List.set_cons_succ]
              refine' wpAnyD_take (i := 3) (oi := { dst := some 76, op := Go.Op.move (Go.Operand.tmp 5), type := 33, pos := "ref.go:95", after := #[], guard := none }) (v := _) rfl (by kernel_rfl) (by kernel_rfl) (by kernel_rfl) (fun _ _ _ h => h) (by kernel_rfl) (Or.inl ⟨by rfl, ?hy3⟩) hS0 ?rest3
              case hy3 => (intro W hSw; go_simp; try (with_reducible rfl))
              try simp only [Act.put, List.setIfInBounds_toArray, List.set_cons_zero, List.set_cons_succ]
              refine' wpAnyD_take (i := 4) (oi := { dst := some 77, op := Go.Op.move (Go.Operand.tmp 9), type := 3, pos := "ref.go:95", after := #[], guard := none }) (v := _) rfl (by kernel_rfl) (by kernel_rfl) (by kernel_rfl) (fun _ _ _ h => h) (by kernel_rfl) (Or.inl ⟨by rfl, ?hy4⟩) hS0 ?rest4
              case hy4 => (intro W hSw; go_simp; try (with_reducible rfl))
              try simp only [Act.put, List.setIfInBounds_toArray, List.set_cons_zero, List.set_cons_succ]
              refine' wpAnyD_take (i := 5) (oi := { dst := some 78, op := Go.Op.slice 33 (Go.Operand.tmp 76) (some (Go.Operand.tmp 77)) none none, type := 33, pos := "ref.go:95", after := #[{ on := 3, ground := Go.Ground.data }, { on := 4, ground := Go.Ground.data }], guard := none }) (v := _) rfl (by kernel_rfl) (by kernel_rfl) (by kernel_rfl) (fun _ _ _ h => h) (by kernel_rfl) (Or.inl ⟨by rfl, ?hy5⟩) hS0 ?rest5
              case hy5 => (intro W hSw; go_simp; try (with_reducible rfl))
              try simp only [Act.put, List.setIfInBounds_toArray, List.set_cons_zero, List.set_cons_succ]
              refine wpAnyD_one (i := 2) (o := { dst := some 75, op := Go.Op.buildSlice 33 1 #[(0, Go.Operand.tmp 74)], type := 33, pos := "ref.go:95", after := #[{ on := 1, ground := Go.Ground.data }], guard := none }) (by kernel_rfl) rfl (fun K hK => ?_)
              go_simp
              have gb := (Gr.refl WF.drew).alloc (.cells #[.int .u64 x.2.1.1, .int .u64 x.2.2.1] 37)
              have hS4 : (fun W => W.cell? ⟨B5, 3, none⟩ = some (.int .u64 x.2.1.1) ∧ W.cell? ⟨B5, 4, none⟩ = some (.int .u64 x.2.2.1)) (WF.drew.alloc (.cells #[.int .u64 x.2.1.1, .int .u64 x.2.2.1] 37)) := ⟨(gb.cell zD).trans f3, (gb.cell zD).trans f4⟩
              have RW4 : Hid ((WF.drew.alloc (.cells #[.int .u64 x.2.1.1, .int .u64 x.2.2.1] 37)).ownsRow W1.heap.size 37 2 (.slice (some ⟨WF.drew.heap.size, 0, none⟩) 1 1) 1 (ER.enc x.2)) := World.ownsRow_lit (base := W1.heap.size) (e := 37) (size := 2) WF.drew #[.int .u64 x.2.1.1, .int .u64 x.2.2.1] 1 BE.out.size (by unfold maxLen; omega) rfl
              have GB4 := hid gb
              clear gb
              refine hK.out _ _ (fun hD => hS4) ?_
              clear hK K
              try simp only [Act.put, List.setIfInBounds_toArray, List.set_cons_zero, List.set_cons_succ]
              refine wpAnyD_one (i := 6) (o := { dst := some 79, op := Go.Op.call { callee := Go.Callee.builtin Go.Builtin.append, args := #[Go.Operand.tmp 75, Go.Operand.tmp 78], argTypes := #[33, 33] }, type := 33, pos := "ref.go:95", after := #[{ on := 2, ground := Go.Ground.data }, { on := 5, ground := Go.Ground.data }], guard := none }) (by kernel_rfl) rfl (fun K hK => ?_)
              refine step_appL ER Try.underlying33 infoR rfl (by decide) rfl _ _ rfl W1.heap.size (.slice (some ⟨WF.drew.heap.size, 0, none⟩) 1 1) 1 _ rfl RW4.out (Nat.le_trans BE.out.size GB4.out.size) _ (out.drop jj) rfl (LD.out.below GB4.out.below) ARI.out.2.2.2.2.2.2.1 ARI.out.2.1 ?_
              intro v9 w9 HO9 HG9
              rw [← HN.out.2.1] at HO9
              obtain ⟨p9, c9, rfl⟩ := owns_form HO9.out
              have K9 := hid (Kp.grownBy (S := fun k => k = WF.drew.heap.size) HG9.out (fun k hk => by simpa [Value.ownBlock] using hk.symm))
              have B9 : Hid (Below WF.heap.size WF w9) := ((Gr.refl WF).drew.below.trans GB4.out.below).trans (K9.out.below GB4.out.size (fun k hk => by rw [hk]; exact Nat.le_refl _))
              have hS9 : (fun W => W.cell? ⟨B5, 3, none⟩ = some (.int .u64 x.2.1.1) ∧ W.cell? ⟨B5, 4, none⟩ = some (.int .u64 x.2.2.1)) w9 := ⟨(B9.out.cell (p := ⟨B5, 3, none⟩) zE).trans f3, (B9.out.cell (p := ⟨B5, 4, none⟩) zE).trans f4⟩
              refine hK.out _ _ (fun hD => hS9) ?_
              clear hK K
              try simp only [Act.put, List.setIfInBounds_toArray, List.set_cons_zero, List.set_cons_succ]
              refine' wpAnyD_take (i := 7) (oi := { dst := some 10, op := Go.Op.assign (Go.Operand.tmp 79), type := 33, pos := "ref.go:95", after := #[{ on := 6, ground := Go.Ground.data }, { on := 6, ground := Go.Ground.chain }, { on := 0, ground := Go.Ground.phase }, { on := 1, ground := Go.Ground.phase }, { on := 2, ground := Go.Ground.phase }, { on := 3, ground := Go.Ground.phase }, { on := 4, ground := Go.Ground.phase }, { on := 5, ground := Go.Ground.phase }, { on := 6, ground := Go.Ground.phase }], guard := none }) (v := _) rfl (by kernel_rfl) (by kernel_rfl) (by kernel_rfl) (fun _ _ _ h => h) (by kernel_rfl) (Or.inl ⟨by rfl, ?hy8⟩) hS9 ?rest8
              case hy8 => (intro W hSw; go_simp; try (with_reducible rfl))
              try simp only [Act.put, List.setIfInBounds_toArray, List.set_cons_zero, List.set_cons_succ]
              refine wpAnyD_done (by kernel_rfl) ?_ _
              have L9 : Hid (Ls ER w9 (.slice p9 n9 c9) (x.2 :: out.drop jj)) := owns_ls (E := ER) (by rw [fl_cons, ← HN.out.2.2.1]; exact HO9.out)
              have T9 := hid (LT.out.below B9.out)
              have BW9 := hid (BE.out.trans (B9.out.mono BE.out.size))
              have FF9 := hid (owns_below FE.out B9.out)
              clear HO9 HG9 K9 B9 hS0 hS4 hS9 RW4 GB4 LD LT f3 f4
              go_wp2_with (first
                | (at_builtin; refine wpAppL (E := ER) Try.underlying33 infoR rfl (by decide) rfl _ _ rfl W1.heap.size (.slice (some ⟨w9.heap.size, 0, none⟩) 0 0) 0 [] rfl (World.ownsRow_made w9 #[] 0 BW9.out.size (by unfold maxLen; omega) rfl) _ (out.take jj) rfl (T9.out.below ((Gr.refl w9).alloc _).below) AR0.out.2.2.2.2.2.2.2.1 AR0.out.2.2.2.1 (Nat.le_trans BW9.out.size ((Gr.refl w9).alloc _).size) ?_; intro v10 w10 ho10 hg10; rw [Nat.zero_add, List.nil_append, ← HN.out.1] at ho10; obtain ⟨p10, c10, rfl⟩ := owns_form ho10
                   have b10 : Below w9.heap.size w9 w10 := ((Gr.refl w9).alloc _).below.trans ((Kp.grownBy (S := fun k => k = w9.heap.size) hg10 (fun k hk => by simpa [Value.ownBlock] using hk.symm)).below ((Gr.refl w9).alloc _).size (fun k hk => by rw [hk]; exact Nat.le_refl _))
                   have L10 := L9.out.below b10)
                | (at_builtin; refine wpAppL (E := ER) Try.underlying33 infoR rfl (by decide) rfl _ _ rfl W1.heap.size (.slice p10 n10 c10) n10 _ rfl ho10 _ (x.2 :: out.drop jj) rfl L10 ARI.out.2.2.2.2.2.2.2.2 ARI.out.2.2.2.2.2.1 (Nat.le_trans BW9.out.size b10.size) ?_; intro v11 w11 ho11 hg11; rw [HN.out.2.2.2] at ho11; obtain ⟨p11, c11, rfl⟩ := owns_form ho11)
                | go_in)
              have BW10 := hid (BW9.out.trans (b10.mono BW9.out.size))
              have FF10 := hid (owns_below FF9.out b10)
              have HI11 : Hid (TI W1 (A.take (i + 1)) t (.slice p11 (rcs (A.take (i + 1)) t).length c11) (.slice pl (lft (A.take (i + 1)) t).length cl) w11) := by
                have hk11 := Kp.grownBy (S := fun k => (Value.slice p10 n10 c10).ownBlock = some k) hg11 (fun _ h => h)
                refine ⟨?_, ?_, BW10.out.trans (hk11.below BW10.out.size (fun k hk => (ho10.lt k hk).1))⟩
                · have h := ho11
                  rw [← fl_append, ← NX2.out] at h
                  exact h
                · rw [LFT.out]
                  exact owns_kp hk11 FF10.out (fun k hk e => ne_own ho10 FF10.out (by decide) e hk)
              clear ho10 hg10 ho11 hg11 b10 L10 L9 T9 BW9 BW10 NX2 ARI FF9 FF10
              go_wp2_with fail
              go_roundw
              case rel => exact ⟨i + 1, _, _, pl, cl, HIL.out, by go_num, rfl, by rw [LFT.out], HI11.out⟩
              case measure => simp [RowKit.intOf]; omega
          · have hjoz : ¬ (jj : Int) < (out.length : Int) := by omega
            have NX2 : Hid (rcs (A.take (i + 1)) t = out.take jj ++ x.2 :: out.drop jj) := NXP.out (fun r' h' _ => absurd (List.getElem?_eq_some_iff.1 h').1 hjo)
            clear NXP NXS hjn
            go_upto_region 11 with fail
            go_quiet (fail)
            obtain ⟨WF, hWF⟩ : ∃ WF, WF = WE.drewN nq := ⟨_, rfl⟩
            rw [← hWF]
            have GF : Gr WE WF := by rw [hWF]; exact (Gr.refl _).drewN _
            clear hWF
            have RE := hid (owns_below RE0.out GF.below)
            have FE := hid (owns_below FE0.out GF.below)
            have BE := hid (BE0.out.trans (GF.below.mono BE0.out.size))
            replace f3 := (GF.cell zE).trans f3
            replace f4 := (GF.cell zE).trans f4
            replace zE := Nat.lt_of_lt_of_le zE GF.size
            clear GF RE0 FE0 BE0
            have hjz : (jj : Int) ≤ (out.length : Int) := by omega
            have hcc := (owns_cap RE.out).1
            have hcz : (out.length : Int) ≤ (co : Int) := by omega
            have hjcz : (jj : Int) ≤ (co : Int) := by omega
            have ARI := hid (ar_ok (x := x.2) hjl hol)
            have AR0 := hid (ar_ok (x := x.2) hjl hol)
            obtain ⟨n10, hn10⟩ : ∃ n, n = (out.take jj).length := ⟨_, rfl⟩
            obtain ⟨n9, hn9⟩ : ∃ n, n = 1 + (out.drop jj).length := ⟨_, rfl⟩
            have eN : n9 = (x.2 :: out.drop jj).length := by rw [hn9, List.length_cons, Nat.add_comm]
            have eM : n10 + (x.2 :: out.drop jj).length = (rcs (A.take (i + 1)) t).length := by rw [NX2.out, List.length_append, hn10]
            rw [← hn10] at ARI
            have HN := hid (And.intro hn10 (And.intro hn9 (And.intro eN eM)))
            clear hn10 hn9 eN eM
            have HJL := hid hjl
            clear hjl hol hil hcc GE
            rcases RE.out.2 with ⟨hnil, h00⟩ | ⟨g, cap, cur, hv, hgb, hh, hc1, hc2, hsz, htk⟩
            · simp only [Value.slice.injEq] at hnil
              obtain ⟨rfl, -, rfl⟩ := hnil
              have hout : out = [] := List.eq_nil_of_length_eq_zero h00
              subst hout
              obtain rfl : jj = 0 := Nat.le_zero.1 HJL.out
              have LD := hid (show Ls ER WF.drew (.slice none 0 0) (([] : List Rc).drop 0) from Ls.nil _)
              have LT := hid (show Ls ER WF (.slice none 0 0) (([] : List Rc).take 0) from Ls.nil _)
              have hS0 : (fun W : World => W.cell? ⟨B5, 3, none⟩ = some (.int .u64 x.2.1.1) ∧ W.cell? ⟨B5, 4, none⟩ = some (.int .u64 x.2.2.1)) WF.drew := ⟨f3, f4⟩
              have zD : B5 < WF.drew.heap.size := zE
              go_upto_region 13 with fail
              refine wp_regionD (S := fun W => W.cell? ⟨B5, 3, none⟩ = some (.int .u64 x.2.1.1) ∧ W.cell? ⟨B5, 4, none⟩ = some (.int .u64 x.2.2.1)) (D := []) hmx ?_
              refine' wpAnyD_take (i := 0) (oi := { dst := some 73, op := Go.Op.fieldAddr 39 (Go.Operand.tmp 8) 1, type := 0, pos := "ref.go:95", after := #[], guard := none }) (v := _) rfl (by kernel_rfl) (by kernel_rfl) (by kernel_rfl) (fun _ _ _ h => h) (by kernel_rfl) (Or.inl ⟨by rfl, ?hy9⟩) hS0 ?rest9
              case hy9 => (intro W hSw; go_simp; try (with_reducible rfl))
              try simp only [Act.put, List.setIfInBounds_toArray, List.set_cons_zero, List.set_cons_succ]
              refine' wpAnyD_take (i := 1) (oi := { dst := some 74, op := Go.Op.load 37 (Go.Operand.tmp 73), type := 37, pos := "ref.go:95", after := #[{ on := 0, ground := Go.Ground.data }], guard := none }) (v := _) rfl (by kernel_rfl) (by kernel_rfl) (by kernel_rfl) (fun _ _ _ h => h) (by kernel_rfl) (Or.inl ⟨by rfl, ?hy10⟩) hS0 ?rest10
              case hy10 => (intro W hSw; obtain ⟨s0, s1⟩ := hSw; go_simp; try (with_reducible rfl))
              try simp only [Act.put, List.setIfInBounds_toArray, List.set_cons_zero, List.set_cons_succ]
              refine' wpAnyD_take (i := 3) (oi := { dst := some 76, op := Go.Op.move (Go.Operand.tmp 5), type := 33, pos := "ref.go:95", after := #[], guard := none }) (v := _) rfl (by kernel_rfl) (by kernel_rfl) (by kernel_rfl) (fun _ _ _ h => h) (by kernel_rfl) (Or.inl ⟨by rfl, ?hy11⟩) hS0 ?rest11
              case hy11 => (intro W hSw; go_simp; try (with_reducible rfl))
              try simp only [Act.put, List.setIfInBounds_toArray, List.set_cons_zero, List.set_cons_succ]
              refine' wpAnyD_take (i := 4) (oi := { dst := some 77, op := Go.Op.move (Go.Operand.tmp 9), type := 3, pos := "ref.go:95", after := #[], guard := none }) (v := _) rfl (by kernel_rfl) (by kernel_rfl) (by kernel_rfl) (fun _ _ _ h => h) (by kernel_rfl) (Or.inl ⟨by rfl, ?hy12⟩) hS0 ?rest12
              case hy12 => (intro W hSw; go_simp; try (with_reducible rfl))
              try simp only [Act.put, List.setIfInBounds_toArray, List.set_cons_zero, List.set_cons_succ]
              refine' wpAnyD_take (i := 5) (oi := { dst := some 78, op := Go.Op.slice 33 (Go.Operand.tmp 76) (some (Go.Operand.tmp 77)) none none, type := 33, pos := "ref.go:95", after := #[{ on := 3, ground := Go.Ground.data }, { on := 4, ground := Go.Ground.data }], guard := none }) (v := _) rfl (by kernel_rfl) (by kernel_rfl) (by kernel_rfl) (fun _ _ _ h => h) (by kernel_rfl) (Or.inl ⟨by rfl, ?hy13⟩) hS0 ?rest13
              case hy13 => (intro W hSw; go_simp; try (with_reducible rfl))
              try simp only [Act.put, List.setIfInBounds_toArray, List.set_cons_zero, List.set_cons_succ]
              refine wpAnyD_one (i := 2) (o := { dst := some 75, op := Go.Op.buildSlice 33 1 #[(0, Go.Operand.tmp 74)], type := 33, pos := "ref.go:95", after := #[{ on := 1, ground := Go.Ground.data }], guard := none }) (by kernel_rfl) rfl (fun K hK => ?_)
              go_simp
              have gb := (Gr.refl WF.drew).alloc (.cells #[.int .u64 x.2.1.1, .int .u64 x.2.2.1] 37)
              have hS4 : (fun W => W.cell? ⟨B5, 3, none⟩ = some (.int .u64 x.2.1.1) ∧ W.cell? ⟨B5, 4, none⟩ = some (.int .u64 x.2.2.1)) (WF.drew.alloc (.cells #[.int .u64 x.2.1.1, .int .u64 x.2.2.1] 37)) := ⟨(gb.cell zD).trans f3, (gb.cell zD).trans f4⟩
              have RW4 : Hid ((WF.drew.alloc (.cells #[.int .u64 x.2.1.1, .int .u64 x.2.2.1] 37)).ownsRow W1.heap.size 37 2 (.slice (some ⟨WF.drew.heap.size, 0, none⟩) 1 1) 1 (ER.enc x.2)) := World.ownsRow_lit (base := W1.heap.size) (e := 37) (size := 2) WF.drew #[.int .u64 x.2.1.1, .int .u64 x.2.2.1] 1 BE.out.size (by unfold maxLen; omega) rfl
              have GB4 := hid gb
              clear gb
              refine hK.out _ _ (fun hD => hS4) ?_
              clear hK K
              try simp only [Act.put, List.setIfInBounds_toArray, List.set_cons_zero, List.set_cons_succ]
              refine wpAnyD_one (i := 6) (o := { dst := some 79, op := Go.Op.call { callee := Go.Callee.builtin Go.Builtin.append, args := #[Go.Operand.tmp 75, Go.Operand.tmp 78], argTypes := #[33, 33] }, type := 33, pos := "ref.go:95", after := #[{ on := 2, ground := Go.Ground.data }, { on := 5, ground := Go.Ground.data }], guard := none }) (by kernel_rfl) rfl (fun K hK => ?_)
              refine step_appL ER Try.underlying33 infoR rfl (by decide) rfl _ _ rfl W1.heap.size (.slice (some ⟨WF.drew.heap.size, 0, none⟩) 1 1) 1 _ rfl RW4.out (Nat.le_trans BE.out.size GB4.out.size) _ (([] : List Rc).drop 0) rfl (LD.out.below GB4.out.below) ARI.out.2.2.2.2.2.2.1 ARI.out.2.1 ?_
              intro v9 w9 HO9 HG9
              rw [← HN.out.2.1] at HO9
              obtain ⟨p9, c9, rfl⟩ := owns_form HO9.out
              have K9 := hid (Kp.grownBy (S := fun k => k = WF.drew.heap.size) HG9.out (fun k hk => by simpa [Value.ownBlock] using hk.symm))
              have B9 : Hid (Below WF.heap.size WF w9) := ((Gr.refl WF).drew.below.trans GB4.out.below).trans (K9.out.below GB4.out.size (fun k hk => by rw [hk]; exact Nat.le_refl _))
              have hS9 : (fun W => W.cell? ⟨B5, 3, none⟩ = some (.int .u64 x.2.1.1) ∧ W.cell? ⟨B5, 4, none⟩ = some (.int .u64 x.2.2.1)) w9 := ⟨(B9.out.cell (p := ⟨B5, 3, none⟩) zE).trans f3, (B9.out.cell (p := ⟨B5, 4, none⟩) zE).trans f4⟩
              refine hK.out _ _ (fun hD => hS9) ?_
              clear hK K
              try simp only [Act.put, List.setIfInBounds_toArray, List.set_cons_zero, List.set_cons_succ]
              refine' wpAnyD_take (i := 7) (oi := { dst := some 10, op := Go.Op.assign (Go.Operand.tmp 79), type := 33, pos := "ref.go:95", after := #[{ on := 6, ground := Go.Ground.data }, { on := 6, ground := Go.Ground.chain }, { on := 0, ground := Go.Ground.phase }, { on := 1, ground := Go.Ground.phase }, { on := 2, ground := Go.Ground.phase }, { on := 3, ground := Go.Ground.phase }, { on := 4, ground := Go.Ground.phase }, { on := 5, ground := Go.Ground.phase }, { on := 6, ground := Go.Ground.phase }], guard := none }) (v := _) rfl (by kernel_rfl) (by kernel_rfl) (by kernel_rfl) (fun _ _ _ h => h) (by kernel_rfl) (Or.inl ⟨by rfl, ?hy16⟩) hS9 ?rest16
              case hy16 => (intro W hSw; go_simp; try (with_reducible rfl))
              try simp only [Act.put, List.setIfInBounds_toArray, List.set_cons_zero, List.set_cons_succ]
              refine wpAnyD_done (by kernel_rfl) ?_ _
              have L9 : Hid (Ls ER w9 (.slice p9 n9 c9) (x.2 :: ([] : List Rc).drop 0)) := owns_ls (E := ER) (by rw [fl_cons, ← HN.out.2.2.1]; exact HO9.out)
              have T9 := hid (LT.out.below B9.out)
              have BW9 := hid (BE.out.trans (B9.out.mono BE.out.size))
              have FF9 := hid (owns_below FE.out B9.out)
              clear HO9 HG9 K9 B9 hS0 hS4 hS9 RW4 GB4 LD LT f3 f4
              go_wp2_with (first
                | (at_builtin; refine wpAppL (E := ER) Try.underlying33 infoR rfl (by decide) rfl _ _ rfl W1.heap.size (.slice (some ⟨w9.heap.size, 0, none⟩) 0 0) 0 [] rfl (World.ownsRow_made w9 #[] 0 BW9.out.size (by unfold maxLen; omega) rfl) _ (([] : List Rc).take 0) rfl (T9.out.below ((Gr.refl w9).alloc _).below) AR0.out.2.2.2.2.2.2.2.1 AR0.out.2.2.2.1 (Nat.le_trans BW9.out.size ((Gr.refl w9).alloc _).size) ?_; intro v10 w10 ho10 hg10; rw [Nat.zero_add, List.nil_append, ← HN.out.1] at ho10; obtain ⟨p10, c10, rfl⟩ := owns_form ho10
                   have b10 : Below w9.heap.size w9 w10 := ((Gr.refl w9).alloc _).below.trans ((Kp.grownBy (S := fun k => k = w9.heap.size) hg10 (fun k hk => by simpa [Value.ownBlock] using hk.symm)).below ((Gr.refl w9).alloc _).size (fun k hk => by rw [hk]; exact Nat.le_refl _))
                   have L10 := L9.out.below b10)
                | (at_builtin; refine wpAppL (E := ER) Try.underlying33 infoR rfl (by decide) rfl _ _ rfl W1.heap.size (.slice p10 n10 c10) n10 _ rfl ho10 _ (x.2 :: ([] : List Rc).drop 0) rfl L10 ARI.out.2.2.2.2.2.2.2.2 ARI.out.2.2.2.2.2.1 (Nat.le_trans BW9.out.size b10.size) ?_; intro v11 w11 ho11 hg11; rw [HN.out.2.2.2] at ho11; obtain ⟨p11, c11, rfl⟩ := owns_form ho11)
                | go_in)
              have BW10 := hid (BW9.out.trans (b10.mono BW9.out.size))
              have FF10 := hid (owns_below FF9.out b10)
              have HI11 : Hid (TI W1 (A.take (i + 1)) t (.slice p11 (rcs (A.take (i + 1)) t).length c11) (.slice pl (lft (A.take (i + 1)) t).length cl) w11) := by
                have hk11 := Kp.grownBy (S := fun k => (Value.slice p10 n10 c10).ownBlock = some k) hg11 (fun _ h => h)
                refine ⟨?_, ?_, BW10.out.trans (hk11.below BW10.out.size (fun k hk => (ho10.lt k hk).1))⟩
                · have h := ho11
                  rw [← fl_append, ← NX2.out] at h
                  exact h
                · rw [LFT.out]
                  exact owns_kp hk11 FF10.out (fun k hk e => ne_own ho10 FF10.out (by decide) e hk)
              clear ho10 hg10 ho11 hg11 b10 L10 L9 T9 BW9 BW10 NX2 ARI FF9 FF10
              go_wp2_with fail
              go_roundw
              case rel => exact ⟨i + 1, _, _, pl, cl, HIL.out, by go_num, rfl, by rw [LFT.out], HI11.out⟩
              case measure => simp [RowKit.intOf]; omega
            · simp only [Value.slice.injEq] at hv
              obtain ⟨rfl, -, rfl⟩ := hv
              clear hh hsz hgb hc1 hc2 htk
              by_cases hcq : co = jj
              · have ho1 : jj = out.length := Nat.le_antisymm HJL.out (hcq ▸ (owns_cap RE.out).1)
                subst ho1
                subst hcq
                have LD := hid (show Ls ER WF.drew (.slice (some ⟨g, 0, none⟩) 0 0) (out.drop out.length) from by have h := ((owns_ls (E := ER) RE.out).below (Gr.refl WF).drew.below).void (k := out.length) (Nat.le_refl _) 0; rw [Nat.sub_self] at h; exact h)
                have LT := hid (show Ls ER WF (.slice (some ⟨g, 0, none⟩) out.length out.length) (out.take out.length) from (owns_ls (E := ER) RE.out).cut HJL.out out.length)
                have hS0 : (fun W : World => W.cell? ⟨B5, 3, none⟩ = some (.int .u64 x.2.1.1) ∧ W.cell? ⟨B5, 4, none⟩ = some (.int .u64 x.2.2.1)) WF.drew := ⟨f3, f4⟩
                have zD : B5 < WF.drew.heap.size := zE
                go_upto_region 13 with fail
                refine wp_regionD (S := fun W => W.cell? ⟨B5, 3, none⟩ = some (.int .u64 x.2.1.1) ∧ W.cell? ⟨B5, 4, none⟩ = some (.int .u64 x.2.2.1)) (D := []) hmx ?_
                refine' wpAnyD_take (i := 0) (oi := { dst := some 73, op := Go.Op.fieldAddr 39 (Go.Operand.tmp 8) 1, type := 0, pos := "ref.go:95", after := #[], guard := none }) (v := _) rfl (by kernel_rfl) (by kernel_rfl) (by kernel_rfl) (fun _ _ _ h => h) (by kernel_rfl) (Or.inl ⟨by rfl, ?hy17⟩) hS0 ?rest17
                case hy17 => (intro W hSw; go_simp; try (with_reducible rfl))
                try simp only [Act.put, List.setIfInBounds_toArray, List.set_cons_zero, List.set_cons_succ]
                refine' wpAnyD_take (i := 1) (oi := { dst := some 74, op := Go.Op.load 37 (Go.Operand.tmp 73), type := 37, pos := "ref.go:95", after := #[{ on := 0, ground := Go.Ground.data }], guard := none }) (v := _) rfl (by kernel_rfl) (by kernel_rfl) (by kernel_rfl) (fun _ _ _ h => h) (by kernel_rfl) (Or.inl ⟨by rfl, ?hy18⟩) hS0 ?rest18
                case hy18 => (intro W hSw; obtain ⟨s0, s1⟩ := hSw; go_simp; try (with_reducible rfl))
                try simp only [Act.put, List.setIfInBounds_toArray, List.set_cons_zero, List.set_cons_succ]
                refine' wpAnyD_take (i := 3) (oi := { dst := some 76, op := Go.Op.move (Go.Operand.tmp 5), type := 33, pos := "ref.go:95", after := #[], guard := none }) (v := _) rfl (by kernel_rfl) (by kernel_rfl) (by kernel_rfl) (fun _ _ _ h => h) (by kernel_rfl) (Or.inl ⟨by rfl, ?hy19⟩) hS0 ?rest19
                case hy19 => (intro W hSw; go_simp; try (with_reducible rfl))
                try simp only [Act.put, List.setIfInBounds_toArray, List.set_cons_zero, List.set_cons_succ]
                refine' wpAnyD_take (i := 4) (oi := { dst := some 77, op := Go.Op.move (Go.Operand.tmp 9), type := 3, pos := "ref.go:95", after := #[], guard := none }) (v := _) rfl (by kernel_rfl) (by kernel_rfl) (by kernel_rfl) (fun _ _ _ h => h) (by kernel_rfl) (Or.inl ⟨by rfl, ?hy20⟩) hS0 ?rest20
                case hy20 => (intro W hSw; go_simp; try (with_reducible rfl))
                try simp only [Act.put, List.setIfInBounds_toArray, List.set_cons_zero, List.set_cons_succ]
                refine' wpAnyD_take (i := 5) (oi := { dst := some 78, op := Go.Op.slice 33 (Go.Operand.tmp 76) (some (Go.Operand.tmp 77)) none none, type := 33, pos := "ref.go:95", after := #[{ on := 3, ground := Go.Ground.data }, { on := 4, ground := Go.Ground.data }], guard := none }) (v := _) rfl (by kernel_rfl) (by kernel_rfl) (by kernel_rfl) (fun _ _ _ h => h) (by kernel_rfl) (Or.inl ⟨by rfl, ?hy21⟩) hS0 ?rest21
                case hy21 => (intro W hSw; go_simp; try (with_reducible rfl))
                try simp only [Act.put, List.setIfInBounds_toArray, List.set_cons_zero, List.set_cons_succ]
                refine wpAnyD_one (i := 2) (o := { dst := some 75, op := Go.Op.buildSlice 33 1 #[(0, Go.Operand.tmp 74)], type := 33, pos := "ref.go:95", after := #[{ on := 1, ground := Go.Ground.data }], guard := none }) (by kernel_rfl) rfl (fun K hK => ?_)
                go_simp
                have gb := (Gr.refl WF.drew).alloc (.cells #[.int .u64 x.2.1.1, .int .u64 x.2.2.1] 37)
                have hS4 : (fun W => W.cell? ⟨B5, 3, none⟩ = some (.int .u64 x.2.1.1) ∧ W.cell? ⟨B5, 4, none⟩ = some (.int .u64 x.2.2.1)) (WF.drew.alloc (.cells #[.int .u64 x.2.1.1, .int .u64 x.2.2.1] 37)) := ⟨(gb.cell zD).trans f3, (gb.cell zD).trans f4⟩
                have RW4 : Hid ((WF.drew.alloc (.cells #[.int .u64 x.2.1.1, .int .u64 x.2.2.1] 37)).ownsRow W1.heap.size 37 2 (.slice (some ⟨WF.drew.heap.size, 0, none⟩) 1 1) 1 (ER.enc x.2)) := World.ownsRow_lit (base := W1.heap.size) (e := 37) (size := 2) WF.drew #[.int .u64 x.2.1.1, .int .u64 x.2.2.1] 1 BE.out.size (by unfold maxLen; omega) rfl
                have GB4 := hid gb
                clear gb
                refine hK.out _ _ (fun hD => hS4) ?_
                clear hK K
                try simp only [Act.put, List.setIfInBounds_toArray, List.set_cons_zero, List.set_cons_succ]
                refine wpAnyD_one (i := 6) (o := { dst := some 79, op := Go.Op.call { callee := Go.Callee.builtin Go.Builtin.append, args := #[Go.Operand.tmp 75, Go.Operand.tmp 78], argTypes := #[33, 33] }, type := 33, pos := "ref.go:95", after := #[{ on := 2, ground := Go.Ground.data }, { on := 5, ground := Go.Ground.data }], guard := none }) (by kernel_rfl) rfl (fun K hK => ?_)
                refine step_appL ER Try.underlying33 infoR rfl (by decide) rfl _ _ rfl W1.heap.size (.slice (some ⟨WF.drew.heap.size, 0, none⟩) 1 1) 1 _ rfl RW4.out (Nat.le_trans BE.out.size GB4.out.size) _ (out.drop out.length) rfl (LD.out.below GB4.out.below) ARI.out.2.2.2.2.2.2.1 ARI.out.2.1 ?_
                intro v9 w9 HO9 HG9
                rw [← HN.out.2.1] at HO9
                obtain ⟨p9, c9, rfl⟩ := owns_form HO9.out
                have K9 := hid (Kp.grownBy (S := fun k => k = WF.drew.heap.size) HG9.out (fun k hk => by simpa [Value.ownBlock] using hk.symm))
                have B9 : Hid (Below WF.heap.size WF w9) := ((Gr.refl WF).drew.below.trans GB4.out.below).trans (K9.out.below GB4.out.size (fun k hk => by rw [hk]; exact Nat.le_refl _))
                have hS9 : (fun W => W.cell? ⟨B5, 3, none⟩ = some (.int .u64 x.2.1.1) ∧ W.cell? ⟨B5, 4, none⟩ = some (.int .u64 x.2.2.1)) w9 := ⟨(B9.out.cell (p := ⟨B5, 3, none⟩) zE).trans f3, (B9.out.cell (p := ⟨B5, 4, none⟩) zE).trans f4⟩
                refine hK.out _ _ (fun hD => hS9) ?_
                clear hK K
                try simp only [Act.put, List.setIfInBounds_toArray, List.set_cons_zero, List.set_cons_succ]
                refine' wpAnyD_take (i := 7) (oi := { dst := some 10, op := Go.Op.assign (Go.Operand.tmp 79), type := 33, pos := "ref.go:95", after := #[{ on := 6, ground := Go.Ground.data }, { on := 6, ground := Go.Ground.chain }, { on := 0, ground := Go.Ground.phase }, { on := 1, ground := Go.Ground.phase }, { on := 2, ground := Go.Ground.phase }, { on := 3, ground := Go.Ground.phase }, { on := 4, ground := Go.Ground.phase }, { on := 5, ground := Go.Ground.phase }, { on := 6, ground := Go.Ground.phase }], guard := none }) (v := _) rfl (by kernel_rfl) (by kernel_rfl) (by kernel_rfl) (fun _ _ _ h => h) (by kernel_rfl) (Or.inl ⟨by rfl, ?hy24⟩) hS9 ?rest24
                case hy24 => (intro W hSw; go_simp; try (with_reducible rfl))
                try simp only [Act.put, List.setIfInBounds_toArray, List.set_cons_zero, List.set_cons_succ]
                refine wpAnyD_done (by kernel_rfl) ?_ _
                have L9 : Hid (Ls ER w9 (.slice p9 n9 c9) (x.2 :: out.drop out.length)) := owns_ls (E := ER) (by rw [fl_cons, ← HN.out.2.2.1]; exact HO9.out)
                have T9 := hid (LT.out.below B9.out)
                have BW9 := hid (BE.out.trans (B9.out.mono BE.out.size))
                have FF9 := hid (owns_below FE.out B9.out)
                clear HO9 HG9 K9 B9 hS0 hS4 hS9 RW4 GB4 LD LT f3 f4
                go_wp2_with (first
                  | (at_builtin; refine wpAppL (E := ER) Try.underlying33 infoR rfl (by decide) rfl _ _ rfl W1.heap.size (.slice (some ⟨w9.heap.size, 0, none⟩) 0 0) 0 [] rfl (World.ownsRow_made w9 #[] 0 BW9.out.size (by unfold maxLen; omega) rfl) _ (out.take out.length) rfl (T9.out.below ((Gr.refl w9).alloc _).below) AR0.out.2.2.2.2.2.2.2.1 AR0.out.2.2.2.1 (Nat.le_trans BW9.out.size ((Gr.refl w9).alloc _).size) ?_; intro v10 w10 ho10 hg10; rw [Nat.zero_add, List.nil_append, ← HN.out.1] at ho10; obtain ⟨p10, c10, rfl⟩ := owns_form ho10
                     have b10 : Below w9.heap.size w9 w10 := ((Gr.refl w9).alloc _).below.trans ((Kp.grownBy (S := fun k => k = w9.heap.size) hg10 (fun k hk => by simpa [Value.ownBlock] using hk.symm)).below ((Gr.refl w9).alloc _).size (fun k hk => by rw [hk]; exact Nat.le_refl _))
                     have L10 := L9.out.below b10)
                  | (at_builtin; refine wpAppL (E := ER) Try.underlying33 infoR rfl (by decide) rfl _ _ rfl W1.heap.size (.slice p10 n10 c10) n10 _ rfl ho10 _ (x.2 :: out.drop out.length) rfl L10 ARI.out.2.2.2.2.2.2.2.2 ARI.out.2.2.2.2.2.1 (Nat.le_trans BW9.out.size b10.size) ?_; intro v11 w11 ho11 hg11; rw [HN.out.2.2.2] at ho11; obtain ⟨p11, c11, rfl⟩ := owns_form ho11)
                  | go_in)
                have BW10 := hid (BW9.out.trans (b10.mono BW9.out.size))
                have FF10 := hid (owns_below FF9.out b10)
                have HI11 : Hid (TI W1 (A.take (i + 1)) t (.slice p11 (rcs (A.take (i + 1)) t).length c11) (.slice pl (lft (A.take (i + 1)) t).length cl) w11) := by
                  have hk11 := Kp.grownBy (S := fun k => (Value.slice p10 n10 c10).ownBlock = some k) hg11 (fun _ h => h)
                  refine ⟨?_, ?_, BW10.out.trans (hk11.below BW10.out.size (fun k hk => (ho10.lt k hk).1))⟩
                  · have h := ho11
                    rw [← fl_append, ← NX2.out] at h
                    exact h
                  · rw [LFT.out]
                    exact owns_kp hk11 FF10.out (fun k hk e => ne_own ho10 FF10.out (by decide) e hk)
                clear ho10 hg10 ho11 hg11 b10 L10 L9 T9 BW9 BW10 NX2 ARI FF9 FF10
                go_wp2_with fail
                go_roundw
                case rel => exact ⟨i + 1, _, _, pl, cl, HIL.out, by go_num, rfl, by rw [LFT.out], HI11.out⟩
                case measure => simp [RowKit.intOf]; omega
              · skip
                have LD := hid (show Ls ER WF.drew (.slice (some ⟨g, jj * 2, none⟩) (out.length - jj) (co - jj)) (out.drop jj) from by have h := ((owns_ls (E := ER) RE.out).below (Gr.refl WF).drew.below).tail (k := jj) (co - jj); rw [Nat.zero_add] at h; exact h)
                have LT := hid (show Ls ER WF (.slice (some ⟨g, 0, none⟩) jj co) (out.take jj) from (owns_ls (E := ER) RE.out).cut HJL.out co)
                have hS0 : (fun W : World => W.cell? ⟨B5, 3, none⟩ = some (.int .u64 x.2.1.1) ∧ W.cell? ⟨B5, 4, none⟩ = some (.int .u64 x.2.2.1)) WF.drew := ⟨f3, f4⟩
                have zD : B5 < WF.drew.heap.size := zE
                go_upto_region 13 with fail
                refine wp_regionD (S := fun W => W.cell? ⟨B5, 3, none⟩ = some (.int .u64 x.2.1.1) ∧ W.cell? ⟨B5, 4, none⟩ = some (.int .u64 x.2.2.1)) (D := []) hmx ?_
                refine' wpAnyD_take (i := 0) (oi := { dst := some 73, op := Go.Op.fieldAddr 39 (Go.Operand.tmp 8) 1, type := 0, pos := "ref.go:95", after := #[], guard := none }) (v := _) rfl (by kernel_rfl) (by kernel_rfl) (by kernel_rfl) (fun _ _ _ h => h) (by kernel_rfl) (Or.inl ⟨by rfl, ?hy25⟩) hS0 ?rest25
                case hy25 => (intro W hSw; go_simp; try (with_reducible rfl))
                try simp only [Act.put, List.setIfInBounds_toArray, List.set_cons_zero, List.set_cons_succ]
                refine' wpAnyD_take (i := 1) (oi := { dst := some 74, op := Go.Op.load 37 (Go.Operand.tmp 73), type := 37, pos := "ref.go:95", after := #[{ on := 0, ground := Go.Ground.data }], guard := none }) (v := _) rfl (by kernel_rfl) (by kernel_rfl) (by kernel_rfl) (fun _ _ _ h => h) (by kernel_rfl) (Or.inl ⟨by rfl, ?hy26⟩) hS0 ?rest26
                case hy26 => (intro W hSw; obtain ⟨s0, s1⟩ := hSw; go_simp; try (with_reducible rfl))
                try simp only [Act.put, List.setIfInBounds_toArray, List.set_cons_zero, List.set_cons_succ]
                refine' wpAnyD_take (i := 3) (oi := { dst := some 76, op := Go.Op.move (Go.Operand.tmp 5), type := 33, pos := "ref.go:95", after := #[], guard := none }) (v := _) rfl (by kernel_rfl) (by kernel_rfl) (by kernel_rfl) (fun _ _ _ h => h) (by kernel_rfl) (Or.inl ⟨by rfl, ?hy27⟩) hS0 ?rest27
                case hy27 => (intro W hSw; go_simp; try (with_reducible rfl))
                try simp only [Act.put, List.setIfInBounds_toArray, List.set_cons_zero, List.set_cons_succ]
                refine' wpAnyD_take (i := 4) (oi := { dst := some 77, op := Go.Op.move (Go.Operand.tmp 9), type := 3, pos := "ref.go:95", after := #[], guard := none }) (v := _) rfl (by kernel_rfl) (by kernel_rfl) (by kernel_rfl) (fun _ _ _ h => h) (by kernel_rfl) (Or.inl ⟨by rfl, ?hy28⟩) hS0 ?rest28
                case hy28 => (intro W hSw; go_simp; try (with_reducible rfl))
                try simp only [Act.put, List.setIfInBounds_toArray, List.set_cons_zero, List.set_cons_succ]
                refine' wpAnyD_take (i := 5) (oi := { dst := some 78, op := Go.Op.slice 33 (Go.Operand.tmp 76) (some (Go.Operand.tmp 77)) none none, type := 33, pos := "ref.go:95", after := #[{ on := 3, ground := Go.Ground.data }, { on := 4, ground := Go.Ground.data }], guard := none }) (v := _) rfl (by kernel_rfl) (by kernel_rfl) (by kernel_rfl) (fun _ _ _ h => h) (by kernel_rfl) (Or.inl ⟨by rfl, ?hy29⟩) hS0 ?rest29
                case hy29 => (intro W hSw; go_simp; try (with_reducible rfl))
                try simp only [Act.put, List.setIfInBounds_toArray, List.set_cons_zero, List.set_cons_succ]
                refine wpAnyD_one (i := 2) (o := { dst := some 75, op := Go.Op.buildSlice 33 1 #[(0, Go.Operand.tmp 74)], type := 33, pos := "ref.go:95", after := #[{ on := 1, ground := Go.Ground.data }], guard := none }) (by kernel_rfl) rfl (fun K hK => ?_)
                go_simp
                have gb := (Gr.refl WF.drew).alloc (.cells #[.int .u64 x.2.1.1, .int .u64 x.2.2.1] 37)
                have hS4 : (fun W => W.cell? ⟨B5, 3, none⟩ = some (.int .u64 x.2.1.1) ∧ W.cell? ⟨B5, 4, none⟩ = some (.int .u64 x.2.2.1)) (WF.drew.alloc (.cells #[.int .u64 x.2.1.1, .int .u64 x.2.2.1] 37)) := ⟨(gb.cell zD).trans f3, (gb.cell zD).trans f4⟩
                have RW4 : Hid ((WF.drew.alloc (.cells #[.int .u64 x.2.1.1, .int .u64 x.2.2.1] 37)).ownsRow W1.heap.size 37 2 (.slice (some ⟨WF.drew.heap.size, 0, none⟩) 1 1) 1 (ER.enc x.2)) := World.ownsRow_lit (base := W1.heap.size) (e := 37) (size := 2) WF.drew #[.int .u64 x.2.1.1, .int .u64 x.2.2.1] 1 BE.out.size (by unfold maxLen; omega) rfl
                have GB4 := hid gb
                clear gb
                refine hK.out _ _ (fun hD => hS4) ?_
                clear hK K
                try simp only [Act.put, List.setIfInBounds_toArray, List.set_cons_zero, List.set_cons_succ]
                refine wpAnyD_one (i := 6) (o := { dst := some 79, op := Go.Op.call { callee := Go.Callee.builtin Go.Builtin.append, args := #[Go.Operand.tmp 75, Go.Operand.tmp 78], argTypes := #[33, 33] }, type := 33, pos := "ref.go:95", after := #[{ on := 2, ground := Go.Ground.data }, { on := 5, ground := Go.Ground.data }], guard := none }) (by kernel_rfl) rfl (fun K hK => ?_)
                refine step_appL ER Try.underlying33 infoR rfl (by decide) rfl _ _ rfl W1.heap.size (.slice (some ⟨WF.drew.heap.size, 0, none⟩) 1 1) 1 _ rfl RW4.out (Nat.le_trans BE.out.size GB4.out.size) _ (out.drop jj) rfl (LD.out.below GB4.out.below) ARI.out.2.2.2.2.2.2.1 ARI.out.2.1 ?_
                intro v9 w9 HO9 HG9
                rw [← HN.out.2.1] at HO9
                obtain ⟨p9, c9, rfl⟩ := owns_form HO9.out
                have K9 := hid (Kp.grownBy (S := fun k => k = WF.drew.heap.size) HG9.out (fun k hk => by simpa [Value.ownBlock] using hk.symm))
                have B9 : Hid (Below WF.heap.size WF w9) := ((Gr.refl WF).drew.below.trans GB4.out.below).trans (K9.out.below GB4.out.size (fun k hk => by rw [hk]; exact Nat.le_refl _))
                have hS9 : (fun W => W.cell? ⟨B5, 3, none⟩ = some (.int .u64 x.2.1.1) ∧ W.cell? ⟨B5, 4, none⟩ = some (.int .u64 x.2.2.1)) w9 := ⟨(B9.out.cell (p := ⟨B5, 3, none⟩) zE).trans f3, (B9.out.cell (p := ⟨B5, 4, none⟩) zE).trans f4⟩
                refine hK.out _ _ (fun hD => hS9) ?_
                clear hK K
                try simp only [Act.put, List.setIfInBounds_toArray, List.set_cons_zero, List.set_cons_succ]
                refine' wpAnyD_take (i := 7) (oi := { dst := some 10, op := Go.Op.assign (Go.Operand.tmp 79), type := 33, pos := "ref.go:95", after := #[{ on := 6, ground := Go.Ground.data }, { on := 6, ground := Go.Ground.chain }, { on := 0, ground := Go.Ground.phase }, { on := 1, ground := Go.Ground.phase }, { on := 2, ground := Go.Ground.phase }, { on := 3, ground := Go.Ground.phase }, { on := 4, ground := Go.Ground.phase }, { on := 5, ground := Go.Ground.phase }, { on := 6, ground := Go.Ground.phase }], guard := none }) (v := _) rfl (by kernel_rfl) (by kernel_rfl) (by kernel_rfl) (fun _ _ _ h => h) (by kernel_rfl) (Or.inl ⟨by rfl, ?hy32⟩) hS9 ?rest32
                case hy32 => (intro W hSw; go_simp; try (with_reducible rfl))
                try simp only [Act.put, List.setIfInBounds_toArray, List.set_cons_zero, List.set_cons_succ]
                refine wpAnyD_done (by kernel_rfl) ?_ _
                have L9 : Hid (Ls ER w9 (.slice p9 n9 c9) (x.2 :: out.drop jj)) := owns_ls (E := ER) (by rw [fl_cons, ← HN.out.2.2.1]; exact HO9.out)
                have T9 := hid (LT.out.below B9.out)
                have BW9 := hid (BE.out.trans (B9.out.mono BE.out.size))
                have FF9 := hid (owns_below FE.out B9.out)
                clear HO9 HG9 K9 B9 hS0 hS4 hS9 RW4 GB4 LD LT f3 f4
                go_wp2_with (first
                  | (at_builtin; refine wpAppL (E := ER) Try.underlying33 infoR rfl (by decide) rfl _ _ rfl W1.heap.size (.slice (some ⟨w9.heap.size, 0, none⟩) 0 0) 0 [] rfl (World.ownsRow_made w9 #[] 0 BW9.out.size (by unfold maxLen; omega) rfl) _ (out.take jj) rfl (T9.out.below ((Gr.refl w9).alloc _).below) AR0.out.2.2.2.2.2.2.2.1 AR0.out.2.2.2.1 (Nat.le_trans BW9.out.size ((Gr.refl w9).alloc _).size) ?_; intro v10 w10 ho10 hg10; rw [Nat.zero_add, List.nil_append, ← HN.out.1] at ho10; obtain ⟨p10, c10, rfl⟩ := owns_form ho10
                     have b10 : Below w9.heap.size w9 w10 := ((Gr.refl w9).alloc _).below.trans ((Kp.grownBy (S := fun k => k = w9.heap.size) hg10 (fun k hk => by simpa [Value.ownBlock] using hk.symm)).below ((Gr.refl w9).alloc _).size (fun k hk => by rw [hk]; exact Nat.le_refl _))
                     have L10 := L9.out.below b10)
                  | (at_builtin; refine wpAppL (E := ER) Try.underlying33 infoR rfl (by decide) rfl _ _ rfl W1.heap.size (.slice p10 n10 c10) n10 _ rfl ho10 _ (x.2 :: out.drop jj) rfl L10 ARI.out.2.2.2.2.2.2.2.2 ARI.out.2.2.2.2.2.1 (Nat.le_trans BW9.out.size b10.size) ?_; intro v11 w11 ho11 hg11; rw [HN.out.2.2.2] at ho11; obtain ⟨p11, c11, rfl⟩ := owns_form ho11)
                  | go_in)
                have BW10 := hid (BW9.out.trans (b10.mono BW9.out.size))
                have FF10 := hid (owns_below FF9.out b10)
                have HI11 : Hid (TI W1 (A.take (i + 1)) t (.slice p11 (rcs (A.take (i + 1)) t).length c11) (.slice pl (lft (A.take (i + 1)) t).length cl) w11) := by
                  have hk11 := Kp.grownBy (S := fun k => (Value.slice p10 n10 c10).ownBlock = some k) hg11 (fun _ h => h)
                  refine ⟨?_, ?_, BW10.out.trans (hk11.below BW10.out.size (fun k hk => (ho10.lt k hk).1))⟩
                  · have h := ho11
                    rw [← fl_append, ← NX2.out] at h
                    exact h
                  · rw [LFT.out]
                    exact owns_kp hk11 FF10.out (fun k hk e => ne_own ho10 FF10.out (by decide) e hk)
                clear ho10 hg10 ho11 hg11 b10 L10 L9 T9 BW9 BW10 NX2 ARI FF9 FF10
                go_wp2_with fail
                go_roundw
                case rel => exact ⟨i + 1, _, _, pl, cl, HIL.out, by go_num, rfl, by rw [LFT.out], HI11.out⟩
                case measure => simp [RowKit.intOf]; omega
      · rw [decide_eq_false he] at heq
        have NX1 : Hid (rcs (A.take (i + 1)) t = rcs (A.take i) t) := by show _ = _; rw [← HTK.out, rcs_miss he]
        have NX2 : Hid (lft (A.take (i + 1)) t = lft (A.take i) t ++ [x]) := by show _ = _; rw [← HTK.out, lft_snoc, if_neg he]
        obtain ⟨n1, hn1⟩ : ∃ n1, n1 = (lft (A.take i) t).length := ⟨_, rfl⟩
        have hn1b : n1 ≤ 1000 := by rw [hn1]; exact Nat.le_trans HLE.out.2 hil
        have F5 : Hid (W5.ownsRow W1.heap.size 39 5 (.slice pl n1 cl) n1 (fl EC (lft (A.take i) t))) := by rw [hn1]; exact HI5.out.2.1
        rw [← hn1]
        have HN1 := hid hn1
        have hbd : (n1 + 1) * 40 ≤ 140737488355328 ∧ n1 + 1 ≤ maxLen := by unfold maxLen; omega
        clear he HTK hn1
        go_wp2_with (at_builtin; refine wpApp1 EC Try.underlying22 infoC rfl (by decide) rfl _ _ rfl W1.heap.size (.slice pl n1 cl) n1 _ rfl F5.out x rfl hbd.1 hbd.2 HI5.out.2.2.size _ rfl _ ?_)
        intro g8 c8 w8 ho8 hg8 hl8
        have hk8 := Kp.grownBy (S := fun k => (Value.slice pl n1 cl).ownBlock = some k) hg8 (fun _ h => h)
        have HLN : Hid (n1 + 1 = (lft (A.take (i + 1)) t).length) := by show _ = _; rw [NX2.out, List.length_append, ← HN1.out]; rfl
        have HI8 : Hid (TI W1 (A.take (i + 1)) t (.slice po (rcs (A.take (i + 1)) t).length co) (.slice (some ⟨g8, 0, none⟩) (lft (A.take (i + 1)) t).length c8) w8) := by
          refine ⟨?_, ?_, HI5.out.2.2.trans (hk8.below HI5.out.2.2.size (fun k hk => (F5.out.lt k hk).1))⟩
          · rw [NX1.out]
            exact owns_kp hk8 HI5.out.1 (fun k hk e => ne_own HI5.out.1 F5.out (by decide) hk e)
          · rw [← HLN.out, NX2.out, fl_append, fl_one]
            exact ho8
        clear ho8 hg8 hl8 hk8 hbd F5 HI5
        go_wp2_with fail
        go_roundw
        case rel => exact ⟨i + 1, po, co, _, _, HIL.out, by go_num, by rw [NX1.out], by rw [← HLN.out], HI8.out⟩
        case measure => simp [RowKit.intOf]; omega
    · have hltz : ¬ (i : Int) < (n : Int) := by omega
      have HE : Hid (A.take i = A) := by show _ = _; exact List.take_of_length_le (by have := HNA.out; omega)
      rw [HE.out] at HI
      rw [HE.out]
      have hblk := (HI.out.2.2.block rb (Array.getElem?_eq_some_iff.1 HBK.out).1).trans HBK.out
      obtain ⟨a1, a2, a3⟩ := setCell_blk (k := 0) (v := .slice pl (lft A t).length cl) hblk
      have f8 : wr.frozen? ⟨rb, 0, none⟩ = false := by simp [World.frozen?, hblk]
      have c8 : wr.cell? ⟨rb, 0, none⟩ = some (.slice p n c) := by simp [World.cell?, hblk]
      have l8 := (Array.getElem?_eq_some_iff.1 hblk).1
      have HST := hid (And.intro a1 a2)
      have HRN : Hid (rb < W1.heap.size) := (Array.getElem?_eq_some_iff.1 HBK.out).1
      clear a1 a2 a3 hblk
      go_upto_region 17 with fail
      generalize wr.setCell ⟨rb, 0, none⟩ (.slice pl (lft A t).length cl) = w9 at HST ⊢
      have HFin : Hid (w9.ownsRow w.heap.size 37 2 (.slice po (rcs A t).length co) (rcs A t).length (fl ER (rcs A t)) ∧ Rs w9 (nw S w) rb (lft A t) ∧ Kp S w w9) := by
        have h1 := HRN.out
        refine ⟨owns_base (owns_kp HST.out.2 HI.out.1 (fun k hk e => ?_)) HG1.out.size, ⟨_, HST.out.1, .inl ⟨HSR.out, HRZ.out⟩, owns_base (owns_kp HST.out.2 HI.out.2.1 (fun k hk e => ?_)) (Nat.zero_le _), fun g hg => .inr (Nat.le_trans HG1.out.size (HI.out.2.1.lt g hg).1)⟩, ?_⟩
        · have h2 := (HI.out.1.lt k hk).1; omega
        · have h2 := (HI.out.2.1.lt k hk).1; omega
        · exact ((Kp.of_gr (S := S) HG1.out).trans (Kp.of_below_from HI.out.2.2) (fun k hk e => absurd hk (Nat.not_lt.2 (Nat.le_trans HG1.out.size e)))).trans HST.out.2 (fun k _ e => by rw [e]; exact HSR.out)
      clear HST HI f8 c8 l8
      go_wp2_with fail
      go_ret
      exact ⟨_, rfl, HFin.out⟩
end Go.Proofs.Ytijbmchgajhkeaa
