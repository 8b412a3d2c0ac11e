import Derived.Test.YtngnfglnfkhheaaGreatJ4
import Derived.Test.YtngnfglnfkhheaaGreatKEmp
import Derived.Test.YtngnfglnfkhheaaGreatKStep
import Derived.Test.YtngnfglnfkhheaaGreatKRing
import Derived.Test.YtngnfglnfkhheaaGreatKAdv
import Derived.BigQuiet
namespace Go.Proofs.YtngnfglnfkhheaaGreat.Df
open Go.RowKit Go.Sort
attribute [local go_sem ↓] Go.wp_at_zero Go.wp_at_succ
theorem find_iff {g : Gph} (hOK : Gok g) : (ordN (stL g).length (stL g) (stL g).length = none ∧ 0 < ((findN (stL g) (stL g).length).getD []).length) ∨ (∃ o f, ordN (stL g).length (stL g) (stL g).length = some (o, f) ∧ ((findN (stL g) (stL g).length).getD []).length = 0) := by
  have h1 := findN_ok (ls := stL g) (fun l hl y hy => (((stL_good hOK).2 l hl).2 y hy).1) (stL g).length
  cases e : ordN (stL g).length (stL g) (stL g).length with
  | none =>
    refine Or.inl ⟨rfl, ?_⟩
    obtain ⟨x, m, hx, hr⟩ := ord_none e
    revert h1
    cases findN (stL g) (stL g).length with
    | none => intro h1; exact absurd hr (h1 x hx m)
    | some l =>
      rintro ⟨q, _, h2, _⟩
      cases l with
      | nil => cases h2
      | cons => simp
  | some x =>
    obtain ⟨o, f⟩ := x
    refine Or.inr ⟨o, f, rfl, ?_⟩
    obtain ⟨us, _, hor⟩ := ord_some e
    revert h1
    cases findN (stL g) (stL g).length with
    | none => intro _; rfl
    | some l =>
      rintro ⟨q, _, h2, h3, _⟩
      exact absurd ⟨l, h2, h3, Nat.le_refl _⟩ (hor.none (sp_lt hOK) q l.length)
set_option maxRecDepth 100000 in
set_option maxHeartbeats 8000000 in
theorem cycleRings_any {M : Nat} {nv ev : Value} {a : Int} {xs : List NV} {es : List Edg} (w : World) (hG : GR M w nv ev xs es) (hM : M ≤ w.heap.size) (hC : Gcap ev xs) : Calls Tryz.prog 4 #[.agg (gvc a nv ev)] w fun r w' => r = .returned (.bool true) ∧ Below w.heap.size w w' := by
  have hmx : Tryz.prog.follows .mixedOrders = true := by kernel_rfl
  obtain ⟨W0, hW0⟩ : ∃ W, W = w.alloc (.cells (gvc a nv ev) 25) := ⟨_, rfl⟩
  obtain ⟨gx, hgx⟩ : ∃ b, b = w.heap.size := ⟨_, rfl⟩
  have b0 : Below w.heap.size w W0 := by rw [hW0]; exact ((Gr.refl w).alloc _).below
  have HB : Hid (W0.heap[gx]? = some (.cells (gvc a nv ev) 25 (0, 0)) ∧ Below w.heap.size w W0) := ⟨by rw [hW0, hgx]; exact heap_new' _ _, b0⟩
  have HG : Hid (∀ W, Below W0.heap.size W0 W → GR W.heap.size W nv ev xs es) := fun W hb => ((hG.below b0).below hb).up (Nat.le_trans (Nat.le_trans hM b0.size) hb.size)
  have HC := hid hC
  obtain ⟨qn, cn, hnv⟩ := hG.nodes.form
  obtain ⟨qe, ce, hev⟩ := hG.edges.form
  have HW : Hid (w.alloc (.cells #[.int .i64 a, .slice qn xs.length cn, .slice qe es.length ce] 25) = W0 ∧ w.heap.size = gx) := by rw [← hnv, ← hev]; exact ⟨hW0.symm, hgx.symm⟩
  obtain ⟨nl, hnl⟩ : ∃ n, n = xs.length := ⟨_, rfl⟩
  obtain ⟨el, hel⟩ : ∃ n, n = es.length := ⟨_, rfl⟩
  subst hnv
  subst hev
  rw [← hnl] at HB HG HW ⊢
  rw [← hel] at HB HG HC HW ⊢
  clear hG hM hC hW0 hgx b0 hnl hel
  go_enter Tryz.func4, Tryz.ntmps4
  go_upto_region 1 with fail
  rw [HW.out.1, HW.out.2]
  clear HW
  go_wp2_with fail
  refine (known_any W0).mono ?_
  rintro r w1 ⟨rfl, H1⟩
  have hb1 := (H1.out.block _ (tk_lt HB.out.1)).trans HB.out.1
  have c1 := (tk_store hb1).1
  have l1 := tk_lt hb1
  have hch := rcheck_any (a := a) w1 (HG.out w1 H1.out) (Nat.le_refl _)
  clear hb1
  go_wp2_with fail
  refine hch.mono ?_
  clear hch c1 l1
  rintro r w2 ⟨e, t, rfl, hfl, hb2⟩
  have B2 : Hid (Below W0.heap.size W0 w2) := H1.out.trans (hb2.mono H1.out.size)
  clear hb2 H1
  by_cases he : e = 0
  · subst he
    have hOK : Gok (gof a xs es) := hfl.ok.1 rfl
    have HFL := hid hfl
    have HOK := hid hOK
    have hb1 := (B2.out.block _ (tk_lt HB.out.1)).trans HB.out.1
    have c1 := (tk_store hb1).1
    have l1 := tk_lt hb1
    have hnew := new_any (a := a) w2 (HG.out w2 B2.out) HC.out
    clear hb1 hfl hOK
    go_wp2_with fail
    refine hnew.mono ?_
    clear hnew c1 l1
    rintro r w3 ⟨hb3, e3, t3, hfl3, hr3⟩
    obtain ⟨rfl, rfl⟩ := hfl3.same HFL.out
    rcases hr3 with ⟨h0, _⟩ | ⟨_, gb, rfl, hm⟩
    · exact absurd rfl h0
    have B3 : Hid (Below W0.heap.size W0 w3) := B2.out.trans (hb3.mono B2.out.size)
    have HM := hid hm
    clear hb3 hfl3 hm B2
    have hfind := find_any w3 HM.out HOK.out
    go_wp2_with fail
    refine hfind.mono ?_
    clear hfind
    rintro r w4 ⟨fv, rfl, hb4, hrow4⟩
    obtain ⟨fl4, hfl4⟩ : ∃ l, l = (findN (stL (gof a xs es)) (stL (gof a xs es)).length).getD [] := ⟨_, rfl⟩
    rw [← hfl4] at hrow4
    have HRG : Hid (Rg (stL (gof a xs es)) fl4) := by rw [hfl4]; exact rg_find (fun l hl y hy => (((stL_good HOK.out).2 l hl).2 y hy).1)
    have HIF := hid (find_iff HOK.out)
    rw [← hfl4] at HIF
    obtain ⟨qf, cf, rfl, hz4⟩ := own_z (l := ints fl4) hrow4 (by simp [ints])
    have B34 := hid hb4
    have B4 : Hid (Below W0.heap.size W0 w4) := B3.out.trans (hb4.mono B3.out.size)
    have LF4 := hid hz4
    have hf9 : fl4.length ≤ 1000 := by
      have h1 := nodup_le fl4 HRG.out.nd HRG.out.lt
      have h2 := (stL_good HOK.out).1
      omega
    obtain ⟨n, hn⟩ : ∃ n, n = fl4.length := ⟨_, rfl⟩
    rw [← hn] at hf9 LF4 HIF ⊢
    have HN := hid hn
    have hb1 := (B4.out.block _ (tk_lt HB.out.1)).trans HB.out.1
    have c1 := (tk_store hb1).1
    have l1 := tk_lt hb1
    have hem := kempty_any (a := a) w4 (HG.out w4 B4.out) (Nat.le_refl _) HOK.out
    clear hb4 hrow4 hz4 hfl4 hn hb1
    go_wp2_with fail
    refine hem.mono ?_
    clear hem c1 l1
    rintro r w5 ⟨sv, rfl, hb5, hrow5⟩
    obtain ⟨ss, hss⟩ : ∃ l, l = emR (gof a xs es) := ⟨_, rfl⟩
    rw [← hss] at hrow5
    have HSP : Hid (∀ p q : Nat, Sp (stL (gof a xs es)) p q → ∃ x ∈ ss, x.inn = (p : Int) ∧ x.out = (q : Int)) := fun p q h => ⟨⟨(p : Int), (q : Int), (0, 0, 0)⟩, by rw [hss]; exact emR_mem.2 ⟨p, q, rfl, (sp_iff HOK.out).1 h⟩, rfl, rfl⟩
    have hs9 : ss.length ≤ 432 := by rw [hss]; exact Nat.le_trans (List.length_filter_le _ _) (stR_len HOK.out)
    obtain ⟨qs, ms, cs, rfl⟩ := owns_form hrow5
    obtain ⟨rfl, _⟩ := owns_caps hrow5 _ _ _ rfl
    have LS : Hid (Lz EC w5.heap.size w5 (.slice qs ss.length cs) ss) := owns_lz (E := EC) hrow5
    have LF : Hid (Lz EI w5.heap.size w5 (.slice qf n cf) (ints fl4)) := (LF4.out.below hb5).up hb5.size
    have B5 : Hid (Below W0.heap.size W0 w5 ∧ Below w3.heap.size w3 w5) := ⟨B4.out.trans (hb5.mono B4.out.size), B34.out.trans (hb5.mono B34.out.size)⟩
    have HSL := hid hs9
    clear hb5 hrow5 hss hs9 LF4 B4 B34 B3
    go_wp2_with fail
    go_loopw [10] (fun s10 wr => ∃ i : Nat, i ≤ n ∧ s10 = .int .i64 (i : Nat) ∧ Hid (Gr w5 wr)) (fun s10 _ => n - (RowKit.intOf s10).toNat)
    case atStart => exact ⟨0, Nat.zero_le _, rfl, Gr.refl _⟩
    case round =>
      obtain ⟨i, hi, rfl, HI⟩ := hrel
      by_cases hlt : i < n
      · have hltz : (i : Int) < (n : Int) := by omega
        have hi0 : (0 : Int) ≤ (i : Int) := by omega
        have hn0 : ¬ n = 0 := by omega
        obtain ⟨p, hp⟩ : ∃ p, fl4[i]? = some p := ⟨fl4[i]'(by have := HN.out; omega), by simp⟩
        obtain ⟨j, hj⟩ : ∃ j, j = (i + 1) % n := ⟨_, rfl⟩
        have hjn : j < n := by rw [hj]; exact Nat.mod_lt _ (by omega)
        obtain ⟨q, hq⟩ : ∃ q, fl4[j]? = some q := ⟨fl4[j]'(by have := HN.out; omega), by simp⟩
        obtain ⟨h0, hh0⟩ : ∃ q, fl4[0]? = some q := ⟨fl4[0]'(by have := HN.out; omega), by simp⟩
        have hsp := HRG.out.st i p q hp (by rw [← HN.out, ← hj]; exact hq)
        have hlo := HRG.out.lo p h0 (by rw [List.head?_eq_getElem?]; exact hh0) (List.mem_of_getElem? hp)
        have gp : (ints fl4)[i]? = some ((p : Nat) : Int) := by simp [ints, hp]
        have gq : (ints fl4)[j]? = some ((q : Nat) : Int) := by simp [ints, hq]
        have g0 : (ints fl4)[0]? = some ((h0 : Nat) : Int) := by simp [ints, hh0]
        obtain ⟨b1, o1, c1, e1, z1, xp⟩ := ls_atI ((LF.out.below HI.out.below).ls gp) gp
        obtain ⟨b1', o1', c1', e1', -, xq⟩ := ls_atI ((LF.out.below HI.out.below).ls gq) gq
        obtain ⟨b1'', o1'', c1'', e1'', -, x0⟩ := ls_atI ((LF.out.below HI.out.below).ls g0) g0
        rw [e1] at e1' e1''
        simp only [Value.slice.injEq, Option.some.injEq, Addr.mk.injEq] at e1 e1' e1''
        obtain ⟨⟨rfl, rfl, -⟩, -, -⟩ := e1'
        obtain ⟨⟨rfl, rfl, -⟩, -, -⟩ := e1''
        obtain ⟨rfl, -, rfl⟩ := e1
        rw [Nat.add_zero] at x0
        have HCC : Hid (wr.cell? ⟨b1, o1 + i, none⟩ = some (.int .i64 (p : Nat)) ∧ wr.cell? ⟨b1, o1 + j, none⟩ = some (.int .i64 (q : Nat)) ∧ wr.cell? ⟨b1, o1, none⟩ = some (.int .i64 (h0 : Nat)) ∧ b1 < wr.heap.size) := ⟨xp, xq, x0, z1⟩
        have HSTEP : Hid (∀ W, Below wr.heap.size wr W → Calls Tryz.prog 14 #[.slice qs ss.length cs, .int .i64 (p : Nat), .int .i64 (q : Nat)] W fun r w' => r = .returned (.bool true) ∧ w' = W) := fun W hb => step_any _ _ W ((LS.out.below HI.out.below).below hb) (by have := HSL.out; omega) (HSP.out p q hsp)
        have hg2 : ¬ ((p : Nat) : Int) < ((h0 : Nat) : Int) := by omega
        have hw1 : IntKind.i64.wrap ((i : Int) + 1) = (i : Int) + 1 := by rw [IntKind.wrap_i64]; omega
        have hrem : Int.tmod ((i : Int) + 1) (n : Int) = (j : Int) := by rw [hj, Int.tmod_eq_emod_of_nonneg (by omega)]; push_cast; rfl
        have HP := hid hp
        have hj0 : (0 : Int) ≤ (j : Int) := by omega
        have hjz : (j : Int) < (n : Int) := by omega
        have hnz : 0 < n := by omega
        clear hp hq hh0 hsp hlo gp gq g0 hj
        go_upto_region 12 with fail
        clear xp xq x0 z1
        have hS0 : Below wr.heap.size wr wr.drew := (Gr.refl wr).drew.below
        refine wp_regionD (S := fun W => Below wr.heap.size wr W) (D := []) hmx ?_
        refine' wpAnyD_take (i := 0) (oi := { dst := some 39, op := Go.Op.move (Go.Operand.tmp 9), type := 38, pos := "law.go:169", after := #[], guard := none }) (v := _) rfl (by kernel_rfl) (by kernel_rfl) (by kernel_rfl) (fun _ _ _ h => h) (by kernel_rfl) (Or.inl ⟨by rfl, ?hy1⟩) hS0 ?rest1
        case hy1 => (intro W hSw; go_simp; try (with_reducible rfl))
        try simp only [Act.put, List.setIfInBounds_toArray, List.set_cons_zero, List.set_cons_succ]
        refine' wpAnyD_take (i := 1) (oi := { dst := some 40, op := Go.Op.move (Go.Operand.tmp 8), type := 33, pos := "law.go:169", after := #[], guard := none }) (v := _) rfl (by kernel_rfl) (by kernel_rfl) (by kernel_rfl) (fun _ _ _ h => h) (by kernel_rfl) (Or.inl ⟨by rfl, ?hy2⟩) hS0 ?rest2
        case hy2 => (intro W hSw; go_simp; try (with_reducible rfl))
        try simp only [Act.put, List.setIfInBounds_toArray, List.set_cons_zero, List.set_cons_succ]
        refine' wpAnyD_take (i := 2) (oi := { dst := some 41, op := Go.Op.move (Go.Operand.tmp 10), type := 3, pos := "law.go:169", after := #[], guard := none }) (v := _) rfl (by kernel_rfl) (by kernel_rfl) (by kernel_rfl) (fun _ _ _ h => h) (by kernel_rfl) (Or.inl ⟨by rfl, ?hy3⟩) hS0 ?rest3
        case hy3 => (intro W hSw; go_simp; try (with_reducible rfl))
        try simp only [Act.put, List.setIfInBounds_toArray, List.set_cons_zero, List.set_cons_succ]
        refine' wpAnyD_take (i := 3) (oi := { dst := some 42, op := Go.Op.indexAddr 33 (Go.Operand.tmp 40) (Go.Operand.tmp 41), type := 0, pos := "law.go:169", after := #[{ on := 1, ground := Go.Ground.data }, { on := 2, ground := Go.Ground.data }], guard := none }) (v := _) rfl (by kernel_rfl) (by kernel_rfl) (by kernel_rfl) (fun _ _ _ h => h) (by kernel_rfl) (Or.inl ⟨by rfl, ?hy4⟩) hS0 ?rest4
        case hy4 => (intro W hSw; go_simp; try (with_reducible rfl))
        try simp only [Act.put, List.setIfInBounds_toArray, List.set_cons_zero, List.set_cons_succ]
        refine' wpAnyD_take (i := 4) (oi := { dst := some 43, op := Go.Op.load 3 (Go.Operand.tmp 42), type := 3, pos := "law.go:169", after := #[{ on := 3, ground := Go.Ground.data }], guard := none }) (v := _) rfl (by kernel_rfl) (by kernel_rfl) (by kernel_rfl) (fun _ _ _ h => h) (by kernel_rfl) (Or.inl ⟨by rfl, ?hy5⟩) hS0 ?rest5
        case hy5 => (intro W hSw; have hc := (hSw.cell (p := ⟨b1, o1 + i, none⟩) HCC.out.2.2.2).trans HCC.out.1; have hl := Nat.lt_of_lt_of_le HCC.out.2.2.2 hSw.size; go_simp; try (with_reducible rfl))
        try simp only [Act.put, List.setIfInBounds_toArray, List.set_cons_zero, List.set_cons_succ]
        refine' wpAnyD_take (i := 5) (oi := { dst := some 44, op := Go.Op.move (Go.Operand.tmp 8), type := 33, pos := "law.go:169", after := #[], guard := none }) (v := _) rfl (by kernel_rfl) (by kernel_rfl) (by kernel_rfl) (fun _ _ _ h => h) (by kernel_rfl) (Or.inl ⟨by rfl, ?hy6⟩) hS0 ?rest6
        case hy6 => (intro W hSw; go_simp; try (with_reducible rfl))
        try simp only [Act.put, List.setIfInBounds_toArray, List.set_cons_zero, List.set_cons_succ]
        refine' wpAnyD_take (i := 6) (oi := { dst := some 45, op := Go.Op.move (Go.Operand.tmp 10), type := 3, pos := "law.go:169", after := #[], guard := none }) (v := _) rfl (by kernel_rfl) (by kernel_rfl) (by kernel_rfl) (fun _ _ _ h => h) (by kernel_rfl) (Or.inl ⟨by rfl, ?hy7⟩) hS0 ?rest7
        case hy7 => (intro W hSw; go_simp; try (with_reducible rfl))
        try simp only [Act.put, List.setIfInBounds_toArray, List.set_cons_zero, List.set_cons_succ]
        refine' wpAnyD_take (i := 7) (oi := { dst := some 46, op := Go.Op.binOp Go.BinOp.add 3 (Go.Operand.tmp 45) (Go.Operand.const (Go.Value.int Go.IntKind.i64 1)) 3, type := 3, pos := "law.go:169", after := #[{ on := 6, ground := Go.Ground.data }], guard := none }) (v := _) rfl (by kernel_rfl) (by kernel_rfl) (by kernel_rfl) (fun _ _ _ h => h) (by kernel_rfl) (Or.inl ⟨by rfl, ?hy8⟩) hS0 ?rest8
        case hy8 => (intro W hSw; go_simp; try (with_reducible rfl))
        try simp only [Act.put, List.setIfInBounds_toArray, List.set_cons_zero, List.set_cons_succ]
        refine' wpAnyD_take (i := 8) (oi := { dst := some 47, op := Go.Op.move (Go.Operand.tmp 8), type := 33, pos := "law.go:169", after := #[], guard := none }) (v := _) rfl (by kernel_rfl) (by kernel_rfl) (by kernel_rfl) (fun _ _ _ h => h) (by kernel_rfl) (Or.inl ⟨by rfl, ?hy9⟩) hS0 ?rest9
        case hy9 => (intro W hSw; go_simp; try (with_reducible rfl))
        try simp only [Act.put, List.setIfInBounds_toArray, List.set_cons_zero, List.set_cons_succ]
        refine' wpAnyD_take (i := 9) (oi := { dst := some 48, op := Go.Op.call { callee := Go.Callee.builtin Go.Builtin.len, args := #[Go.Operand.tmp 47], argTypes := #[33] }, type := 3, pos := "law.go:169", after := #[{ on := 8, ground := Go.Ground.data }], guard := none }) (v := _) rfl (by kernel_rfl) (by kernel_rfl) (by kernel_rfl) (fun _ _ _ h => h) (by kernel_rfl) (Or.inl ⟨by rfl, ?hy10⟩) hS0 ?rest10
        case hy10 => (intro W hSw; go_simp; try (with_reducible rfl))
        try simp only [Act.put, List.setIfInBounds_toArray, List.set_cons_zero, List.set_cons_succ]
        refine' wpAnyD_take (i := 10) (oi := { dst := some 49, op := Go.Op.binOp Go.BinOp.rem 3 (Go.Operand.tmp 46) (Go.Operand.tmp 48) 3, type := 3, pos := "law.go:169", after := #[{ on := 7, ground := Go.Ground.data }, { on := 9, ground := Go.Ground.data }], guard := none }) (v := _) rfl (by kernel_rfl) (by kernel_rfl) (by kernel_rfl) (fun _ _ _ h => h) (by kernel_rfl) (Or.inl ⟨by rfl, ?hy11⟩) hS0 ?rest11
        case hy11 => (intro W hSw; go_simp; try (with_reducible rfl))
        try simp only [Act.put, List.setIfInBounds_toArray, List.set_cons_zero, List.set_cons_succ]
        refine' wpAnyD_take (i := 11) (oi := { dst := some 50, op := Go.Op.indexAddr 33 (Go.Operand.tmp 44) (Go.Operand.tmp 49), type := 0, pos := "law.go:169", after := #[{ on := 5, ground := Go.Ground.data }, { on := 10, ground := Go.Ground.data }], guard := none }) (v := _) rfl (by kernel_rfl) (by kernel_rfl) (by kernel_rfl) (fun _ _ _ h => h) (by kernel_rfl) (Or.inl ⟨by rfl, ?hy12⟩) hS0 ?rest12
        case hy12 => (intro W hSw; go_simp; try (with_reducible rfl))
        try simp only [Act.put, List.setIfInBounds_toArray, List.set_cons_zero, List.set_cons_succ]
        refine' wpAnyD_take (i := 12) (oi := { dst := some 51, op := Go.Op.load 3 (Go.Operand.tmp 50), type := 3, pos := "law.go:169", after := #[{ on := 11, ground := Go.Ground.data }], guard := none }) (v := _) rfl (by kernel_rfl) (by kernel_rfl) (by kernel_rfl) (fun _ _ _ h => h) (by kernel_rfl) (Or.inl ⟨by rfl, ?hy13⟩) hS0 ?rest13
        case hy13 => (intro W hSw; have hc := (hSw.cell (p := ⟨b1, o1 + j, none⟩) HCC.out.2.2.2).trans HCC.out.2.1; have hl := Nat.lt_of_lt_of_le HCC.out.2.2.2 hSw.size; go_simp; try (with_reducible rfl))
        try simp only [Act.put, List.setIfInBounds_toArray, List.set_cons_zero, List.set_cons_succ]
        refine wpAnyD_one (i := 13) (o := { dst := some 52, op := Go.Op.call { callee := Go.Callee.value (Go.Operand.func 14), args := #[Go.Operand.tmp 39, Go.Operand.tmp 43, Go.Operand.tmp 51], argTypes := #[38, 3, 3] }, type := 4, pos := "law.go:169", after := #[{ on := 0, ground := Go.Ground.data }, { on := 4, ground := Go.Ground.data }, { on := 12, ground := Go.Ground.data }], guard := none }) (by kernel_rfl) rfl (fun K hK => ?_)
        go_simp
        refine (HSTEP.out _ hS0).mono ?_
        rintro r w7 ⟨rfl, hw7⟩
        have hw8 := hw7.symm
        subst hw8
        clear hw7
        go_wp2_with fail
        refine hK.out _ _ (fun hD => hS0) ?_
        clear hK K
        try simp only [Act.put, List.setIfInBounds_toArray, List.set_cons_zero, List.set_cons_succ]
        refine' wpAnyD_take (i := 14) (oi := { dst := some 53, op := Go.Op.unOp Go.UnOp.not 4 (Go.Operand.tmp 52), type := 4, pos := "law.go:169", after := #[{ on := 13, ground := Go.Ground.data }], guard := none }) (v := _) rfl (by kernel_rfl) (by kernel_rfl) (by kernel_rfl) (fun _ _ _ h => h) (by kernel_rfl) (Or.inl ⟨by rfl, ?hy15⟩) hS0 ?rest15
        case hy15 => (intro W hSw; go_simp; try (with_reducible rfl))
        try simp only [Act.put, List.setIfInBounds_toArray, List.set_cons_zero, List.set_cons_succ]
        refine' wpAnyD_take (i := 15) (oi := { dst := some 54, op := Go.Op.move (Go.Operand.tmp 53), type := 4, pos := "law.go:169", after := #[{ on := 14, ground := Go.Ground.data }, { on := 13, ground := Go.Ground.chain }], guard := none }) (v := _) rfl (by kernel_rfl) (by kernel_rfl) (by kernel_rfl) (fun _ _ _ h => h) (by kernel_rfl) (Or.inl ⟨by rfl, ?hy16⟩) hS0 ?rest16
        case hy16 => (intro W hSw; go_simp; try (with_reducible rfl))
        try simp only [Act.put, List.setIfInBounds_toArray, List.set_cons_zero, List.set_cons_succ]
        refine' wpAnyD_take (i := 16) (oi := { dst := some 55, op := Go.Op.move (Go.Operand.tmp 8), type := 33, pos := "law.go:169", after := #[{ on := 15, ground := Go.Ground.guard }], guard := some (15, false) }) (v := _) rfl (by kernel_rfl) (by kernel_rfl) (by kernel_rfl) (fun _ _ _ h => h) (by kernel_rfl) (Or.inl ⟨by rfl, ?hy17⟩) hS0 ?rest17
        case hy17 => (intro W hSw; go_simp; try (with_reducible rfl))
        try simp only [Act.put, List.setIfInBounds_toArray, List.set_cons_zero, List.set_cons_succ]
        refine' wpAnyD_take (i := 17) (oi := { dst := some 56, op := Go.Op.move (Go.Operand.tmp 10), type := 3, pos := "law.go:169", after := #[{ on := 15, ground := Go.Ground.guard }], guard := some (15, false) }) (v := _) rfl (by kernel_rfl) (by kernel_rfl) (by kernel_rfl) (fun _ _ _ h => h) (by kernel_rfl) (Or.inl ⟨by rfl, ?hy18⟩) hS0 ?rest18
        case hy18 => (intro W hSw; go_simp; try (with_reducible rfl))
        try simp only [Act.put, List.setIfInBounds_toArray, List.set_cons_zero, List.set_cons_succ]
        refine' wpAnyD_take (i := 18) (oi := { dst := some 57, op := Go.Op.indexAddr 33 (Go.Operand.tmp 55) (Go.Operand.tmp 56), type := 0, pos := "law.go:169", after := #[{ on := 16, ground := Go.Ground.data }, { on := 17, ground := Go.Ground.data }, { on := 15, ground := Go.Ground.guard }], guard := some (15, false) }) (v := _) rfl (by kernel_rfl) (by kernel_rfl) (by kernel_rfl) (fun _ _ _ h => h) (by kernel_rfl) (Or.inl ⟨by rfl, ?hy19⟩) hS0 ?rest19
        case hy19 => (intro W hSw; go_simp; try (with_reducible rfl))
        try simp only [Act.put, List.setIfInBounds_toArray, List.set_cons_zero, List.set_cons_succ]
        refine' wpAnyD_take (i := 19) (oi := { dst := some 58, op := Go.Op.load 3 (Go.Operand.tmp 57), type := 3, pos := "law.go:169", after := #[{ on := 18, ground := Go.Ground.data }, { on := 15, ground := Go.Ground.guard }], guard := some (15, false) }) (v := _) rfl (by kernel_rfl) (by kernel_rfl) (by kernel_rfl) (fun _ _ _ h => h) (by kernel_rfl) (Or.inl ⟨by rfl, ?hy20⟩) hS0 ?rest20
        case hy20 => (intro W hSw; have hc := (hSw.cell (p := ⟨b1, o1 + i, none⟩) HCC.out.2.2.2).trans HCC.out.1; have hl := Nat.lt_of_lt_of_le HCC.out.2.2.2 hSw.size; go_simp; try (with_reducible rfl))
        try simp only [Act.put, List.setIfInBounds_toArray, List.set_cons_zero, List.set_cons_succ]
        refine' wpAnyD_take (i := 20) (oi := { dst := some 59, op := Go.Op.move (Go.Operand.tmp 8), type := 33, pos := "law.go:169", after := #[{ on := 15, ground := Go.Ground.guard }], guard := some (15, false) }) (v := _) rfl (by kernel_rfl) (by kernel_rfl) (by kernel_rfl) (fun _ _ _ h => h) (by kernel_rfl) (Or.inl ⟨by rfl, ?hy21⟩) hS0 ?rest21
        case hy21 => (intro W hSw; go_simp; try (with_reducible rfl))
        try simp only [Act.put, List.setIfInBounds_toArray, List.set_cons_zero, List.set_cons_succ]
        refine' wpAnyD_take (i := 21) (oi := { dst := some 60, op := Go.Op.indexAddr 33 (Go.Operand.tmp 59) (Go.Operand.const (Go.Value.int Go.IntKind.i64 0)), type := 0, pos := "law.go:169", after := #[{ on := 20, ground := Go.Ground.data }, { on := 15, ground := Go.Ground.guard }], guard := some (15, false) }) (v := _) rfl (by kernel_rfl) (by kernel_rfl) (by kernel_rfl) (fun _ _ _ h => h) (by kernel_rfl) (Or.inl ⟨by rfl, ?hy22⟩) hS0 ?rest22
        case hy22 => (intro W hSw; go_simp; try (with_reducible rfl))
        try simp only [Act.put, List.setIfInBounds_toArray, List.set_cons_zero, List.set_cons_succ]
        refine' wpAnyD_take (i := 22) (oi := { dst := some 61, op := Go.Op.load 3 (Go.Operand.tmp 60), type := 3, pos := "law.go:169", after := #[{ on := 21, ground := Go.Ground.data }, { on := 15, ground := Go.Ground.guard }], guard := some (15, false) }) (v := _) rfl (by kernel_rfl) (by kernel_rfl) (by kernel_rfl) (fun _ _ _ h => h) (by kernel_rfl) (Or.inl ⟨by rfl, ?hy23⟩) hS0 ?rest23
        case hy23 => (intro W hSw; have hc := (hSw.cell (p := ⟨b1, o1, none⟩) HCC.out.2.2.2).trans HCC.out.2.2.1; have hl := Nat.lt_of_lt_of_le HCC.out.2.2.2 hSw.size; go_simp; try (with_reducible rfl))
        try simp only [Act.put, List.setIfInBounds_toArray, List.set_cons_zero, List.set_cons_succ]
        refine' wpAnyD_take (i := 23) (oi := { dst := some 62, op := Go.Op.binOp Go.BinOp.lss 3 (Go.Operand.tmp 58) (Go.Operand.tmp 61) 3, type := 4, pos := "law.go:169", after := #[{ on := 19, ground := Go.Ground.data }, { on := 22, ground := Go.Ground.data }, { on := 15, ground := Go.Ground.guard }], guard := some (15, false) }) (v := _) rfl (by kernel_rfl) (by kernel_rfl) (by kernel_rfl) (fun _ _ _ h => h) (by kernel_rfl) (Or.inl ⟨by rfl, ?hy24⟩) hS0 ?rest24
        case hy24 => (intro W hSw; go_simp; try (with_reducible rfl))
        try simp only [Act.put, List.setIfInBounds_toArray, List.set_cons_zero, List.set_cons_succ]
        refine' wpAnyD_take (i := 24) (oi := { dst := some 63, op := Go.Op.pick (Go.Operand.tmp 54) (Go.Operand.const (Go.Value.bool true)) (Go.Operand.tmp 62), type := 4, pos := "law.go:169", after := #[{ on := 15, ground := Go.Ground.data }, { on := 23, ground := Go.Ground.data }], guard := none }) (v := _) rfl (by kernel_rfl) (by kernel_rfl) (by kernel_rfl) (fun _ _ _ h => h) (by kernel_rfl) (Or.inl ⟨by rfl, ?hy25⟩) hS0 ?rest25
        case hy25 => (intro W hSw; go_simp; try (with_reducible rfl))
        try simp only [Act.put, List.setIfInBounds_toArray, List.set_cons_zero, List.set_cons_succ]
        refine wpAnyD_done (by kernel_rfl) ?_ _
        have HI2 : Hid (Gr w5 wr.drew) := HI.out.drew
        obtain ⟨W7, hW7⟩ : ∃ W, W = wr.drew := ⟨_, rfl⟩
        rw [← hW7] at HI2 ⊢
        clear hW7 HI hS0 HCC HSTEP hw1 hrem hj0 hjz hjn
        go_wp2_with fail
        clear hg2
        go_loopw [11] (fun s11 wr => ∃ j : Nat, j ≤ i ∧ s11 = .int .i64 (j : Nat) ∧ Hid (Gr w5 wr)) (fun s11 _ => i - (RowKit.intOf s11).toNat)
        case atStart => exact ⟨0, Nat.zero_le _, rfl, HI2.out⟩
        case round =>
          clear HI2
          obtain ⟨j, hj, rfl, HI⟩ := hrel
          by_cases hlj : j < i
          · have hljz : (j : Int) < (i : Int) := by omega
            have hj0 : (0 : Int) ≤ (j : Int) := by omega
            have hjn : (j : Int) < (n : Int) := by omega
            obtain ⟨u, hu⟩ : ∃ u, fl4[j]? = some u := ⟨fl4[j]'(by have := HN.out; omega), by simp⟩
            have hne : ¬ ((u : Nat) : Int) = ((p : Nat) : Int) := fun e => by
              have e2 : u = p := by omega
              subst e2
              have := nodup_pos HRG.out.nd hu HP.out
              omega
            have gp : (ints fl4)[i]? = some ((p : Nat) : Int) := by simp [ints, HP.out]
            have gu : (ints fl4)[j]? = some ((u : Nat) : Int) := by simp [ints, hu]
            obtain ⟨b3, o3, c3, e3, z3, xp⟩ := ls_atI ((LF.out.below HI.out.below).ls gp) gp
            obtain ⟨b3', o3', c3', e3', -, xu⟩ := ls_atI ((LF.out.below HI.out.below).ls gu) gu
            rw [e3] at e3'
            simp only [Value.slice.injEq, Option.some.injEq, Addr.mk.injEq] at e3 e3'
            obtain ⟨⟨rfl, rfl, -⟩, -, -⟩ := e3'
            obtain ⟨⟨rfl, rfl, -⟩, -, -⟩ := e3
            have hbe : (((u : Nat) : Int) == ((p : Nat) : Int)) = false := by simpa using hne
            clear hu gp gu
            go_upto_region 17 with fail
            go_quiet (fail)
            have FIN := hid (HI.out.drewN nq)
            go_wp2_with fail
            go_roundw
            case rel => exact ⟨j + 1, by omega, by go_num, FIN.out⟩
            case measure => simp [RowKit.intOf]; omega
          · have hljz : ¬ (j : Int) < (i : Int) := by omega
            go_wp2_with fail
            go_roundw
            case rel => exact ⟨i + 1, by omega, by go_num, HI.out⟩
            case measure => simp [RowKit.intOf]; omega
      · have hltz : ¬ (i : Int) < (n : Int) := by omega
        obtain rfl : i = n := by omega
        have B6 : Hid (Below W0.heap.size W0 wr ∧ Below w3.heap.size w3 wr) := ⟨B5.out.1.trans (HI.out.below.mono B5.out.1.size), B5.out.2.trans (HI.out.below.mono B5.out.2.size)⟩
        have hord := order_any wr (HM.out.below B6.out.2) HOK.out
        clear HI
        go_wp2_with fail
        refine hord.mono ?_
        clear hord
        rintro r w7 ⟨hb7, hr7⟩
        have B7 : Hid (Below W0.heap.size W0 w7) := B6.out.1.trans (hb7.mono B6.out.1.size)
        have hb1 := (B7.out.block _ (tk_lt HB.out.1)).trans HB.out.1
        have c1 := (tk_store hb1).1
        have l1 := tk_lt hb1
        have hadv := advanced_any (a := a) w7 (HG.out w7 B7.out) (Nat.le_refl _) HC.out HOK.out
        have HFN : Hid (∀ w8, Below w7.heap.size w7 w8 → Below w.heap.size w w8) := fun w8 h8 => by
          have h1 := B7.out.trans (h8.mono B7.out.size)
          exact HB.out.2.trans (h1.mono HB.out.2.size)
        clear hb7 hb1
        rcases HIF.out with ⟨e1, hp1⟩ | ⟨o1, f1, e1, hp1⟩
        · rcases hr7 with ⟨_, rfl⟩ | ⟨o, f, d, e2, _⟩
          · have hpz : (0 : Int) < (i : Int) := by omega
            clear e1
            go_wp2_with fail
            refine hadv.mono ?_
            clear hadv c1 l1
            rintro r w8 ⟨rfl, hb8⟩
            have FIN := hid (HFN.out w8 hb8)
            go_wp2_with fail
            go_ret
            exact ⟨rfl, FIN.out⟩
          · rw [e1] at e2
            cases e2
        · rcases hr7 with ⟨e2, _⟩ | ⟨o, f, d, _, rfl, hrow7⟩
          · rw [e1] at e2
            cases e2
          · obtain ⟨q7, m7, c7, rfl⟩ := owns_form hrow7
            subst hp1
            clear e1 hrow7
            go_wp2_with fail
            refine hadv.mono ?_
            clear hadv c1 l1
            rintro r w8 ⟨rfl, hb8⟩
            have FIN := hid (HFN.out w8 hb8)
            go_wp2_with fail
            go_ret
            exact ⟨rfl, FIN.out⟩
  · have FIN : Hid (Below w.heap.size w w2) := HB.out.2.trans (B2.out.mono HB.out.2.size)
    clear hfl
    go_wp2_with fail
    go_ret
    exact ⟨rfl, FIN.out⟩
end Go.Proofs.YtngnfglnfkhheaaGreat.Df
