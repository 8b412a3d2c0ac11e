import Derived.Test.YtngnfglnfkhheaaGreatJ2
import Derived.Test.YtngnfglnfkhheaaGreatKSo
import Derived.BigQuiet
namespace Go.Proofs.YtngnfglnfkhheaaGreat.Df
open Go.RowKit Go.Sort
attribute [local go_sem ↓] Go.wp_at_zero Go.wp_at_succ
theorem infoLL : (Tryz.prog.info? 33).map (fun i => (i.zero, i.size, i.bytes)) = some (some (.slice none 0 0), 1, 24) := by kernel_rfl
theorem fl_L (vs : List LV) : fl EL vs = vs.map LV.v := by
  induction vs with
  | nil => rfl
  | cons x l ih => rw [fl_cons, ih]; rfl
theorem madeL (n : Nat) : (madeCells (Value.slice none 0 0).cells (n * 1)).toList = fl EL (List.replicate n ⟨none, 0, 0⟩) := by
  rw [Nat.mul_one, fl_L]
  exact (toList_madeCells_one _ n).trans (by simp)
theorem fldG2 (a b c : Value) (w : World) : Sem.run Tryz.prog (Instr.field 25 (.agg #[a, b, c]) 2) w = .ok c w := by kernel_rfl
/-- The lists as they are made: all empty. -/
theorem Fo.made {w w1 : World} {n : Nat} (hrow : w1.ownsRow w.heap.size 33 1 (.slice (some ⟨w.heap.size, 0, none⟩) n n) n (madeCells (Value.slice none 0 0).cells (n * 1)).toList) : Fo w.heap.size w1 (.slice (some ⟨w.heap.size, 0, none⟩) n n) (List.replicate n ⟨none, 0, 0⟩) (fun _ => []) := by
  have hnil : ∀ (k : Nat) (x : LV), (List.replicate n (⟨none, 0, 0⟩ : LV))[k]? = some x → x = ⟨none, 0, 0⟩ := fun k x h => List.eq_of_mem_replicate (List.mem_of_getElem? h)
  refine ⟨?_, fun k x h => ?_, fun k x h b e => ?_⟩
  · rw [List.length_replicate]
    rw [madeL] at hrow
    exact hrow
  · rw [hnil k x h]
    exact World.ownsRow_nil _ _ _ _
  · rw [hnil k x h] at e
    cases e
/-- What stands while the steps are gathered. -/
def Sg (w : World) (n g : Nat) (l : List (Nat × Nat)) (W : World) : Prop := ∃ vs, Fo w.heap.size W (.slice (some ⟨g, 0, none⟩) n n) vs (fromS l) ∧ vs.length = n ∧ Below w.heap.size w W
theorem Sg.below {w W W' : World} {n g : Nat} {l : List (Nat × Nat)} (h : Sg w n g l W) (hb : Below W.heap.size W W') : Sg w n g l W' := by
  obtain ⟨vs, h1, h2, h3⟩ := h
  exact ⟨vs, h1.below hb, h2, h3.trans (hb.mono h3.size)⟩
theorem Sg.cell {w W : World} {n g : Nat} {l : List (Nat × Nat)} (h : Sg w n g l W) {k : Nat} (hk : k < n) : ∃ vs x, Fo w.heap.size W (.slice (some ⟨g, 0, none⟩) n n) vs (fromS l) ∧ vs.length = n ∧ Below w.heap.size w W ∧ vs[k]? = some x ∧ W.cell? ⟨g, k, none⟩ = some x.v ∧ g < W.heap.size ∧ W.ownsRow w.heap.size 3 1 x.v (fromS l k).length (fl EI (fromS l k)) := by
  obtain ⟨vs, h1, h2, h3⟩ := h
  obtain ⟨x, hx⟩ : ∃ x, vs[k]? = some x := ⟨vs[k]'(by omega), by simp⟩
  obtain ⟨b, off, c, hv, hb, hc⟩ := ls_atL (owns_ls (E := EL) h1.row) hx
  simp only [Value.slice.injEq, Option.some.injEq, Addr.mk.injEq] at hv
  obtain ⟨⟨rfl, rfl, -⟩, -, -⟩ := hv
  rw [Nat.zero_add] at hc
  exact ⟨vs, x, h1, h2, h3, hx, hc, hb, h1.each k x hx⟩
set_option maxRecDepth 100000 in
set_option maxHeartbeats 8000000 in
/-- The steps of a graph, by place. -/
theorem stepsOf_any {B gb : Nat} {g : Gph} (w : World) (h : Gm B w gb g) (hOK : Gok g) : Calls Tryz.prog 29 #[.pointer (some ⟨gb, 0, none⟩)] w fun r w' => ∃ v, r = .returned v ∧ Hid (Below w.heap.size w w' ∧ Ff w'.heap.size w' v (stL g)) := by
  have hmx : Tryz.prog.follows .mixedOrders = true := by kernel_rfl
  have HM : Hid (∀ W, Below w.heap.size w W → Gm B W gb g) := fun W hb => h.below hb
  have HOK := hid hOK
  have hpl := plN_le hOK
  have hp := gplaces_any w h
  obtain ⟨n, hn⟩ : ∃ n, n = plN g.nodes := ⟨_, rfl⟩
  rw [← hn] at hpl hp
  have HN := hid hn
  have hnl := hOK.nl
  have hel := hOK.el
  clear h hOK hn
  obtain ⟨i0, hi0, hz0, hz1, hz2⟩ := info_parts infoLL
  go_enter Tryz.func29, Tryz.ntmps29
  go_wp2_with fail
  refine hp.mono ?_
  clear hp
  rintro r w1 ⟨rfl, hw1⟩
  have hw2 := hw1.symm
  subst hw2
  clear hw1
  go_upto_region 2 with (at_make; refine wpList_make_full _ rfl _ _ 67 rfl w.heap.size 33 i0 (.slice none 0 0) 1 Tryz.underlying67 hi0 hz0 hz1 _ _ _ _ n rfl rfl rfl rfl (by rw [hz2]; omega) (by unfold maxLen; omega) (Nat.le_refl _) ?_; intro w2 hrow hg1)
  have hb2 : Below w.heap.size w w2 := (Kp.grownBy (S := fun _ => False) hg1 (fun _ h => by cases h)).below (Nat.le_refl _) (fun _ h => h.elim)
  have S2 : Hid (Sg w n w.heap.size [] w2) := ⟨_, (Fo.made hrow).re (fun k _ => rfl), by simp, hb2⟩
  obtain ⟨gg, hgg⟩ : ∃ g, g = w.heap.size := ⟨_, rfl⟩
  rw [← hgg] at S2 ⊢
  have hraw := graw_any w2 (HM.out w2 hb2)
  clear hrow hg1 hgg hi0 hz0 hz1 hz2 hb2
  go_wp2_with fail
  refine hraw.mono ?_
  clear hraw
  rintro r w3 ⟨nv, ev, ys, HR⟩
  obtain ⟨rfl, hb3, hys, hcg⟩ := HR.out
  clear HR
  have S3 : Hid (Sg w n gg [] w3 ∧ w3.ownsRow w2.heap.size 74 5 ev g.edges.length (fl ED g.edges)) := ⟨S2.out.below hb3, hcg.edges⟩
  obtain ⟨qn, mn, cn, hq⟩ := owns_form hcg.nodes
  obtain ⟨qe, me, ce, hqe⟩ := owns_form hcg.edges
  subst hq
  subst hqe
  obtain ⟨rfl, hce⟩ := owns_caps hcg.edges _ _ _ rfl
  obtain ⟨es, hes⟩ : ∃ es, es = g.edges := ⟨_, rfl⟩
  rw [← hes] at S3 hel hce ⊢
  have HES := hid hes
  generalize hml : es.length = el at S3 hel hce ⊢
  have HEL := hid hml
  clear hcg hys hb3 S2 hes hml
  dsimp only [gvc]
  have fd := fldG2 (.int .i64 g.arity) (.slice qn mn cn) (.slice qe el ce)
  go_wp2_with fail
  go_loopw [20] (fun s20 wr => ∃ i : Nat, i ≤ el ∧ s20 = .int .i64 (i : Nat) ∧ Hid (Sg w n gg (edgS g.nodes (es.take i)) wr ∧ wr.ownsRow w2.heap.size 74 5 (.slice qe el ce) el (fl ED es))) (fun s20 _ => el - (RowKit.intOf s20).toNat)
  case atStart => exact ⟨0, Nat.zero_le _, rfl, S3.out⟩
  case round =>
    clear S3
    obtain ⟨i, hi, rfl, HI⟩ := hrel
    by_cases hlt : i < el
    · have hltz : (i : Int) < (el : Int) := by omega
      have hi1 : (0 : Int) ≤ (i : Int) := by omega
      obtain ⟨y, hy⟩ : ∃ y, es[i]? = some y := ⟨es[i]'(by have := HEL.out; omega), by simp⟩
      have HY := hid hy
      have HEN : Hid (hasON g.nodes y.src y.out = true ∧ hasIN g.nodes y.dst y.inn = true) := HOK.out.ends (by rw [← HES.out]; exact hy)
      obtain ⟨b1, o1, q1, ev1, zz1, x0, x1, x2, x3, x4⟩ := ls_atD (owns_ls (E := ED) (owns_re HI.out.2 HEL.out.symm rfl)) hy
      simp only [Value.slice.injEq] at ev1
      obtain ⟨rfl, -, rfl⟩ := ev1
      clear hy
      obtain ⟨yb, hyb⟩ : ∃ b, b = wr.heap.size := ⟨_, rfl⟩
      obtain ⟨W5, hW5⟩ : ∃ W, W = wr.alloc (.cells (ecells y) 74) := ⟨_, rfl⟩
      have P5 : Hid (Sg w n gg (edgS g.nodes (es.take i)) W5 ∧ W5.ownsRow w2.heap.size 74 5 (.slice (some ⟨b1, o1, none⟩) el ce) el (fl ED es) ∧ W5.heap[yb]? = some (.cells (ecells y) 74 (0, 0))) := by
        have g5 := ((Gr.refl wr).alloc (.cells (ecells y) 74)).below
        rw [hW5, hyb]
        exact ⟨HI.out.1.below g5, owns_below HI.out.2 g5, heap_new' _ _⟩
      have HW5 : Hid (wr.alloc (.cells #[.int .i64 y.src, .int .i64 y.out, .int .i64 y.dst, .int .i64 y.inn, .bool y.keyed] 74) = W5 ∧ wr.heap.size = yb) := ⟨hW5.symm, hyb.symm⟩
      clear hW5 hyb HI
      go_upto_region 5 with fail
      rw [HW5.out.1, HW5.out.2]
      clear HW5 x0 x1 x2 x3 x4 zz1
      have hout := gout_any y.src y.out W5 (HM.out W5 (by obtain ⟨_, _, _, h⟩ := P5.out.1; exact h))
      rw [outN_pl HEN.out.1 HOK.out.pok] at hout
      obtain ⟨fr, hfr⟩ : ∃ k, k = outPl g.nodes y := ⟨_, rfl⟩
      rw [← hfr] at hout
      have hfn : fr < n := by rw [hfr, HN.out]; exact outPl_lt HEN.out.1
      have HFR := hid hfr
      clear hfr
      have c5 := (tk_store P5.out.2.2).1
      have l5 := tk_lt P5.out.2.2
      go_wp2_with fail
      refine hout.mono ?_
      clear hout c5 l5
      rintro r W6 ⟨rfl, g6⟩
      go_upto_region 6 with fail
      obtain ⟨pl, hpl2⟩ : ∃ p, p = edgS g.nodes (es.take i) := ⟨_, rfl⟩
      obtain ⟨pi, hpi⟩ : ∃ k, k = inPl g.nodes y := ⟨_, rfl⟩
      have hS := P5.out.1.below g6.below
      have HE6 := hid (owns_below P5.out.2.1 g6.below)
      have HD : Hid (W6.heap[yb]? = some (.cells (ecells y) 74 (0, 0))) := (g6.below.block _ (tk_lt P5.out.2.2)).trans P5.out.2.2
      have HNX : Hid (pl ++ [(fr, pi)] = edgS g.nodes (es.take (i + 1))) := by
        show _ = _
        rw [hpl2, HFR.out, hpi, List.take_add_one, HY.out]
        simp [edgS, edgP]
      rw [← hpl2] at hS
      have hll := fromS_len pl fr
      have hpn : pl.length ≤ 48 := by
        rw [hpl2]
        simp only [edgS, List.length_map, List.length_take]
        omega
      obtain ⟨vs, ⟨xq, xm, xc⟩, f1, f2, f3, f4, f5, f6, f7⟩ := hS.cell hfn
      have HF : Hid (Fo w.heap.size W6 (.slice (some ⟨gg, 0, none⟩) n n) vs (fromS pl) ∧ vs.length = n ∧ vs[fr]? = some ⟨xq, xm, xc⟩) := ⟨f1, f2, f4⟩
      have HBL := hid f3
      have HBW := hid f3.size
      have HC : Hid (W6.cell? ⟨gg, fr, none⟩ = some (.slice xq xm xc) ∧ gg < W6.heap.size ∧ fr = fr) := ⟨f5, f6, rfl⟩
      have HIN : Hid (∀ W, Below W6.heap.size W6 W → Calls Tryz.prog 50 #[.pointer (some ⟨gb, 0, none⟩), .int .i64 y.dst, .int .i64 y.inn] W fun r w' => r = .returned (.int .i64 ((pi : Nat) : Int)) ∧ Gr W w') := fun W hb => by
        have h := gin_any y.dst y.inn W (HM.out W (f3.trans (hb.mono f3.size)))
        rw [inN_pl HEN.out.2, ← hpi] at h
        exact h.mono (fun r w' hr => ⟨hr.1, by rw [hr.2]; exact Gr.refl _⟩)
      obtain ⟨LL, hLL⟩ : ∃ l, l = fromS pl fr := ⟨_, rfl⟩
      rw [← hLL] at f7 hll
      have HRW := hid f7
      have HLL := hid hLL
      have HLE : Hid (LL.length ≤ 48) := Nat.le_trans hll hpn
      have hf0 : (0 : Int) ≤ (fr : Int) := by omega
      have hfz : (fr : Int) < (n : Int) := by omega
      clear f1 f2 f3 f4 f5 f6 f7 hLL hll hpn hpl2 hpi hS g6 P5
      have hB0 : Below W6.heap.size W6 W6.drew := (Gr.refl W6).drew.below
      have HSB : Hid (∀ W, Below W6.heap.size W6 W → W.cell? ⟨gg, fr, none⟩ = some (.slice xq xm xc) ∧ gg < W.heap.size ∧ W.heap[yb]? = some (.cells (ecells y) 74 (0, 0))) := fun W hb => ⟨(hb.cell (p := ⟨gg, fr, none⟩) HC.out.2.1).trans HC.out.1, Nat.lt_of_lt_of_le HC.out.2.1 hb.size, (hb.block _ (tk_lt HD.out)).trans HD.out⟩
      have hS0 := HSB.out _ hB0
      refine wp_regionD (S := fun W => W.cell? ⟨gg, fr, none⟩ = some (.slice xq xm xc) ∧ gg < W.heap.size ∧ W.heap[yb]? = some (.cells (ecells y) 74 (0, 0))) (D := [15]) hmx ?_
      refine' wpAnyD_take (i := 0) (oi := { dst := some 30, op := Go.Op.move (Go.Operand.tmp 3), type := 67, pos := "cycle.go:92", after := #[], guard := none }) (v := _) rfl (by kernel_rfl) (by kernel_rfl) (by kernel_rfl) (fun _ _ _ h => h) (by kernel_rfl) (Or.inl ⟨by rfl, ?hy1⟩) hS0 ?rest1
      case hy1 => (intro W hSw; go_simp; try (with_reducible rfl))
      try simp only [Act.put, List.setIfInBounds_toArray, List.set_cons_zero, List.set_cons_succ]
      refine' wpAnyD_take (i := 1) (oi := { dst := some 31, op := Go.Op.move (Go.Operand.tmp 6), type := 3, pos := "cycle.go:92", after := #[], guard := none }) (v := _) rfl (by kernel_rfl) (by kernel_rfl) (by kernel_rfl) (fun _ _ _ h => h) (by kernel_rfl) (Or.inl ⟨by rfl, ?hy2⟩) hS0 ?rest2
      case hy2 => (intro W hSw; go_simp; try (with_reducible rfl))
      try simp only [Act.put, List.setIfInBounds_toArray, List.set_cons_zero, List.set_cons_succ]
      refine' wpAnyD_take (i := 2) (oi := { dst := some 32, op := Go.Op.move (Go.Operand.tmp 3), type := 67, pos := "cycle.go:92", after := #[], guard := none }) (v := _) rfl (by kernel_rfl) (by kernel_rfl) (by kernel_rfl) (fun _ _ _ h => h) (by kernel_rfl) (Or.inl ⟨by rfl, ?hy3⟩) hS0 ?rest3
      case hy3 => (intro W hSw; go_simp; try (with_reducible rfl))
      try simp only [Act.put, List.setIfInBounds_toArray, List.set_cons_zero, List.set_cons_succ]
      refine' wpAnyD_take (i := 3) (oi := { dst := some 33, op := Go.Op.move (Go.Operand.tmp 6), type := 3, pos := "cycle.go:92", after := #[], guard := none }) (v := _) rfl (by kernel_rfl) (by kernel_rfl) (by kernel_rfl) (fun _ _ _ h => h) (by kernel_rfl) (Or.inl ⟨by rfl, ?hy4⟩) hS0 ?rest4
      case hy4 => (intro W hSw; go_simp; try (with_reducible rfl))
      try simp only [Act.put, List.setIfInBounds_toArray, List.set_cons_zero, List.set_cons_succ]
      refine' wpAnyD_take (i := 4) (oi := { dst := some 34, op := Go.Op.indexAddr 67 (Go.Operand.tmp 32) (Go.Operand.tmp 33), type := 0, pos := "cycle.go:92", after := #[{ on := 2, ground := Go.Ground.data }, { on := 3, ground := Go.Ground.data }], guard := none }) (v := _) rfl (by kernel_rfl) (by kernel_rfl) (by kernel_rfl) (fun _ _ _ h => h) (by kernel_rfl) (Or.inl ⟨by rfl, ?hy5⟩) hS0 ?rest5
      case hy5 => (intro W hSw; go_simp; try (with_reducible rfl))
      try simp only [Act.put, List.setIfInBounds_toArray, List.set_cons_zero, List.set_cons_succ]
      refine' wpAnyD_take (i := 5) (oi := { dst := some 35, op := Go.Op.load 33 (Go.Operand.tmp 34), type := 33, pos := "cycle.go:92", after := #[{ on := 4, ground := Go.Ground.data }], guard := none }) (v := _) rfl (by kernel_rfl) (by kernel_rfl) (by kernel_rfl) (fun _ _ _ h => h) (by kernel_rfl) (Or.inl ⟨by rfl, ?hy6⟩) hS0 ?rest6
      case hy6 => (intro W hSw; have hc := hSw.1; have hl := hSw.2.1; go_simp; try (with_reducible rfl))
      try simp only [Act.put, List.setIfInBounds_toArray, List.set_cons_zero, List.set_cons_succ]
      refine' wpAnyD_take (i := 6) (oi := { dst := some 36, op := Go.Op.move (Go.Operand.tmp 0), type := 29, pos := "cycle.go:92", after := #[], guard := none }) (v := _) rfl (by kernel_rfl) (by kernel_rfl) (by kernel_rfl) (fun _ _ _ h => h) (by kernel_rfl) (Or.inl ⟨by rfl, ?hy7⟩) hS0 ?rest7
      case hy7 => (intro W hSw; go_simp; try (with_reducible rfl))
      try simp only [Act.put, List.setIfInBounds_toArray, List.set_cons_zero, List.set_cons_succ]
      refine' wpAnyD_take (i := 7) (oi := { dst := some 37, op := Go.Op.fieldAddr 74 (Go.Operand.tmp 5) 2, type := 0, pos := "cycle.go:92", after := #[], guard := none }) (v := _) rfl (by kernel_rfl) (by kernel_rfl) (by kernel_rfl) (fun _ _ _ h => h) (by kernel_rfl) (Or.inl ⟨by rfl, ?hy8⟩) hS0 ?rest8
      case hy8 => (intro W hSw; go_simp; try (with_reducible rfl))
      try simp only [Act.put, List.setIfInBounds_toArray, List.set_cons_zero, List.set_cons_succ]
      refine' wpAnyD_take (i := 8) (oi := { dst := some 38, op := Go.Op.load 3 (Go.Operand.tmp 37), type := 3, pos := "cycle.go:92", after := #[{ on := 7, ground := Go.Ground.data }], guard := none }) (v := _) rfl (by kernel_rfl) (by kernel_rfl) (by kernel_rfl) (fun _ _ _ h => h) (by kernel_rfl) (Or.inl ⟨by rfl, ?hy9⟩) hS0 ?rest9
      case hy9 => (intro W hSw; have hc := (tk_store hSw.2.2).1; have hl := tk_lt hSw.2.2; go_simp; try (with_reducible rfl))
      try simp only [Act.put, List.setIfInBounds_toArray, List.set_cons_zero, List.set_cons_succ]
      refine' wpAnyD_take (i := 9) (oi := { dst := some 39, op := Go.Op.fieldAddr 74 (Go.Operand.tmp 5) 3, type := 0, pos := "cycle.go:92", after := #[], guard := none }) (v := _) rfl (by kernel_rfl) (by kernel_rfl) (by kernel_rfl) (fun _ _ _ h => h) (by kernel_rfl) (Or.inl ⟨by rfl, ?hy10⟩) hS0 ?rest10
      case hy10 => (intro W hSw; go_simp; try (with_reducible rfl))
      try simp only [Act.put, List.setIfInBounds_toArray, List.set_cons_zero, List.set_cons_succ]
      refine' wpAnyD_take (i := 10) (oi := { dst := some 40, op := Go.Op.load 3 (Go.Operand.tmp 39), type := 3, pos := "cycle.go:92", after := #[{ on := 9, ground := Go.Ground.data }], guard := none }) (v := _) rfl (by kernel_rfl) (by kernel_rfl) (by kernel_rfl) (fun _ _ _ h => h) (by kernel_rfl) (Or.inl ⟨by rfl, ?hy11⟩) hS0 ?rest11
      case hy11 => (intro W hSw; have hc := (tk_store hSw.2.2).1; have hl := tk_lt hSw.2.2; go_simp; try (with_reducible rfl))
      try simp only [Act.put, List.setIfInBounds_toArray, List.set_cons_zero, List.set_cons_succ]
      refine wpAnyD_one (i := 11) (o := { dst := some 41, op := Go.Op.call { callee := Go.Callee.value (Go.Operand.func 50), args := #[Go.Operand.tmp 36, Go.Operand.tmp 38, Go.Operand.tmp 40], argTypes := #[29, 3, 3] }, type := 3, pos := "cycle.go:92", after := #[{ on := 6, ground := Go.Ground.data }, { on := 8, ground := Go.Ground.data }, { on := 10, ground := Go.Ground.data }], guard := none }) (by kernel_rfl) rfl (fun K hK => ?_)
      go_simp
      refine (HIN.out _ hB0).mono ?_
      rintro r w7 ⟨rfl, g7⟩
      have hS7 : Below W6.heap.size W6 w7 := hB0.trans (g7.below.mono hB0.size)
      clear g7
      go_wp2_with fail
      refine hK.out _ _ (fun hD => HSB.out _ hS7) ?_
      clear hK K
      try simp only [Act.put, List.setIfInBounds_toArray, List.set_cons_zero, List.set_cons_succ]
      refine wpAnyD_one (i := 12) (o := { dst := some 42, op := Go.Op.buildSlice 33 1 #[(0, Go.Operand.tmp 41)], type := 33, pos := "cycle.go:92", after := #[{ on := 11, ground := Go.Ground.data }], guard := none }) (by kernel_rfl) rfl (fun K hK => ?_)
      go_simp
      have hS8 : Below W6.heap.size W6 (w7.alloc (.cells #[.int .i64 ((pi : Nat) : Int)] 3)) := hS7.trans (((Gr.refl w7).alloc _).below.mono hS7.size)
      refine hK.out _ _ (fun hD => HSB.out _ hS8) ?_
      clear hK K
      try simp only [Act.put, List.setIfInBounds_toArray, List.set_cons_zero, List.set_cons_succ]
      refine wpAnyD_one (i := 13) (o := { dst := some 43, op := Go.Op.call { callee := Go.Callee.builtin Go.Builtin.append, args := #[Go.Operand.tmp 35, Go.Operand.tmp 42], argTypes := #[33, 33] }, type := 33, pos := "cycle.go:92", after := #[{ on := 5, ground := Go.Ground.data }, { on := 12, ground := Go.Ground.data }, { on := 11, ground := Go.Ground.chain }], guard := none }) (by kernel_rfl) rfl (fun K hK => ?_)
      refine step_app1 EI Tryz.underlying33 infoI rfl (by decide) rfl _ _ rfl w.heap.size (.slice xq xm xc) LL.length (fl EI LL) rfl (owns_below HRW.out hS7) ((pi : Nat) : Int) (by first | rfl | simp) (by have := HLE.out; omega) (by have := HLE.out; unfold maxLen; omega) (Nat.le_trans HBW.out hS7.size) _ rfl _ ?_
      intro g8 cap8 w8 h8 k8 n8
      have ST : Hid (Sg w n gg (pl ++ [(fr, pi)]) (w8.setCell ⟨gg, fr, none⟩ (.slice (some ⟨g8, 0, none⟩) (LL.length + 1) cap8)) ∧ (w8.setCell ⟨gg, fr, none⟩ (.slice (some ⟨g8, 0, none⟩) (LL.length + 1) cap8)).ownsRow w2.heap.size 74 5 (.slice (some ⟨b1, o1, none⟩) el ce) el (fl ED es)) := by
        have hf := HF.out.1.below hS7
        rw [HLL.out] at h8 ⊢
        obtain ⟨h1, h2⟩ := hf.step HF.out.2.2 (by rw [HF.out.2.1]) h8.out k8.out n8.out
        refine ⟨⟨_, h1.re (fun k _ => (fromS_snoc pl (fr, pi) k).symm), by rw [List.length_set]; exact HF.out.2.1, (HBL.out.trans (hS7.mono HBL.out.size)).trans (h2.below (Nat.le_trans HBL.out.size hS7.size) (hf.blocks HF.out.2.2))⟩, ?_⟩
        exact hf.other HF.out.2.2 h2 (owns_below HE6.out hS7) (by decide) (by decide)
      have hb8 := (Kp.grownBy (S := fun k => (Value.slice xq xm xc).ownBlock = some k) k8.out (fun _ h => h))
      have F8 : Hid (w8.frozen? ⟨gg, fr, none⟩ = false ∧ gg < w8.heap.size ∧ w8.cell? ⟨gg, fr, none⟩ = some (.slice xq xm xc) ∧ w8.heap[yb]? = some (.cells (ecells y) 74 (0, 0))) := by
        have hf := HF.out.1.below hS7
        have hne := owns_ne_own hf.row (hf.each fr _ HF.out.2.2) (by decide)
        have hr8 := owns_kp hb8 hf.row (fun j e e2 => hne j e e2)
        rw [HF.out.2.1] at hr8
        exact ⟨hr8.frozenAt _, Nat.lt_of_lt_of_le HC.out.2.1 (Nat.le_trans hS7.size hb8.size), (hb8.cell (Nat.lt_of_lt_of_le HC.out.2.1 hS7.size) (fun e => hne gg rfl e)).trans ((hS7.cell (p := ⟨gg, fr, none⟩) HC.out.2.1).trans HC.out.1), (hb8.block _ (Nat.lt_of_lt_of_le (tk_lt HD.out) hS7.size) (fun e => owns_ne_blk (owns_below HRW.out hS7) (HSB.out _ hS7).2.2 (by decide) yb e rfl)).trans (HSB.out _ hS7).2.2⟩
      clear h8 k8 n8 hb8
      generalize LL.length + 1 = ll at ST ⊢
      refine hK.out _ _ (fun hD => ⟨F8.out.2.2.1, F8.out.2.1, F8.out.2.2.2⟩) ?_
      clear hK K
      try simp only [Act.put, List.setIfInBounds_toArray, List.set_cons_zero, List.set_cons_succ]
      refine' wpAnyD_take (i := 14) (oi := { dst := some 44, op := Go.Op.indexAddr 67 (Go.Operand.tmp 30) (Go.Operand.tmp 31), type := 0, pos := "cycle.go:92", after := #[{ on := 0, ground := Go.Ground.data }, { on := 1, ground := Go.Ground.data }, { on := 0, ground := Go.Ground.phase }, { on := 1, ground := Go.Ground.phase }, { on := 2, ground := Go.Ground.phase }, { on := 3, ground := Go.Ground.phase }, { on := 4, ground := Go.Ground.phase }, { on := 5, ground := Go.Ground.phase }, { on := 6, ground := Go.Ground.phase }, { on := 7, ground := Go.Ground.phase }, { on := 8, ground := Go.Ground.phase }, { on := 9, ground := Go.Ground.phase }, { on := 10, ground := Go.Ground.phase }, { on := 11, ground := Go.Ground.phase }, { on := 12, ground := Go.Ground.phase }, { on := 13, ground := Go.Ground.phase }], guard := none }) (v := _) rfl (by kernel_rfl) (by kernel_rfl) (by kernel_rfl) (fun _ _ _ h => h) (by kernel_rfl) (Or.inl ⟨by rfl, ?hy15⟩) ⟨F8.out.2.2.1, F8.out.2.1, F8.out.2.2.2⟩ ?rest15
      case hy15 => (intro W hSw; go_simp; try (with_reducible rfl))
      try simp only [Act.put, List.setIfInBounds_toArray, List.set_cons_zero, List.set_cons_succ]
      refine wpAnyD_one (i := 15) (o := { dst := none, op := Go.Op.store 33 (Go.Operand.tmp 44) (Go.Operand.tmp 43), type := 0, pos := "cycle.go:92", after := #[{ on := 14, ground := Go.Ground.data }, { on := 13, ground := Go.Ground.data }, { on := 13, ground := Go.Ground.chain }, { on := 0, ground := Go.Ground.phase }, { on := 1, ground := Go.Ground.phase }, { on := 2, ground := Go.Ground.phase }, { on := 3, ground := Go.Ground.phase }, { on := 4, ground := Go.Ground.phase }, { on := 5, ground := Go.Ground.phase }, { on := 6, ground := Go.Ground.phase }, { on := 7, ground := Go.Ground.phase }, { on := 8, ground := Go.Ground.phase }, { on := 9, ground := Go.Ground.phase }, { on := 10, ground := Go.Ground.phase }, { on := 11, ground := Go.Ground.phase }, { on := 12, ground := Go.Ground.phase }, { on := 13, ground := Go.Ground.phase }], guard := none }) (by kernel_rfl) rfl (fun K hK => ?_)
      have c8 := F8.out.2.2.1
      have f8 := F8.out.1
      have l8 := F8.out.2.1
      go_simp
      generalize (w8.setCell ⟨gg, fr, none⟩ (.slice (some ⟨g8, 0, none⟩) ll cap8)) = w9 at ST ⊢
      clear c8 f8 l8
      refine hK.out _ _ (fun hD => absurd (by decide) hD) ?_
      clear hK K
      try simp only [Act.put, List.setIfInBounds_toArray, List.set_cons_zero, List.set_cons_succ]
      refine wpAnyD_done (by kernel_rfl) ?_ _
      have FIN : Hid (Sg w n gg (edgS g.nodes (es.take (i + 1))) w9 ∧ w9.ownsRow w2.heap.size 74 5 (.slice (some ⟨b1, o1, none⟩) el ce) el (fl ED es)) := by rw [← HNX.out]; exact ST.out
      clear ST HNX hS0 hS7 hB0 HSB
      go_upto_region 7 with fail
      go_wp2_with fail
      go_roundw
      case rel => exact ⟨i + 1, by omega, by go_num, FIN.out⟩
      case measure => simp [RowKit.intOf]; omega
    · have hltz : ¬ (i : Int) < (el : Int) := by omega
      have S9 : Hid (Sg w n gg (edgS g.nodes es) wr) := by
        have h := HI.out.1
        rw [List.take_of_length_le (by have := HEL.out; omega)] at h
        exact h
      have hnod := gnodes_any wr (HM.out wr (by obtain ⟨_, _, _, h⟩ := S9.out; exact h))
      obtain ⟨nl, hnl2⟩ : ∃ k, k = g.nodes.length := ⟨_, rfl⟩
      rw [← hnl2] at hnod hnl
      have HNL := hid hnl2
      clear HI hnl2
      go_wp2_with fail
      refine hnod.mono ?_
      clear hnod
      rintro r w10 ⟨rfl, hw10⟩
      subst hw10
      go_wp2_with fail
      go_loopw [48] (fun s48 wr => ∃ i : Nat, i ≤ nl ∧ s48 = .int .i64 (i : Nat) ∧ Hid (Sg w n gg (edgS g.nodes es ++ nodU g.nodes i) wr)) (fun s48 _ => nl - (RowKit.intOf s48).toNat)
      case atStart => exact ⟨0, Nat.zero_le _, rfl, by have h := S9.out; show Sg _ _ _ _ _; simpa [nodU] using h⟩
      case round =>
        clear S9
        obtain ⟨j, hj, rfl, HI⟩ := hrel
        by_cases hlj : j < nl
        · have hljz : (j : Int) < (nl : Int) := by omega
          have hj1 : (0 : Int) ≤ (j : Int) := by omega
          have hcon := gconns_any (j : Int) wr (HM.out wr (by obtain ⟨_, _, _, h⟩ := HI.out; exact h))
          obtain ⟨cs, hcs⟩ : ∃ l, l = connsAt g.nodes (j : Int) := ⟨_, rfl⟩
          rw [← hcs] at hcon
          have hcl : cs.length ≤ 16 := by rw [hcs]; exact HOK.out.conLen j
          have HCS := hid hcs
          clear hcs
          go_wp2_with fail
          refine hcon.mono ?_
          clear hcon
          rintro r w11 ⟨dv, rfl, hb11, hcr⟩
          obtain ⟨qc, mc, cc, hqc⟩ := owns_form hcr
          subst hqc
          obtain ⟨rfl, hcc⟩ := owns_caps hcr _ _ _ rfl
          have hB1 : ∃ b, b = wr.heap.size := ⟨_, rfl⟩
          obtain ⟨B1, hB1⟩ := hB1
          rw [← hB1] at hcr
          have S11 : Hid (Sg w n gg (edgS g.nodes es ++ nodU g.nodes j) w11 ∧ w11.ownsRow B1 72 5 (.slice qc cs.length cc) cs.length (fl EC cs)) := ⟨HI.out.below hb11, hcr⟩
          generalize hml : cs.length = cl at S11 hcl hcc ⊢
          have HCL := hid hml
          clear hb11 hcr HI hml hB1
          go_wp2_with fail
          go_loopw [55] (fun s55 wr => ∃ k : Nat, k ≤ cl ∧ s55 = .int .i64 (k : Nat) ∧ Hid (Sg w n gg (edgS g.nodes es ++ nodU g.nodes j ++ nodS g.nodes j (cs.take k)) wr ∧ wr.ownsRow B1 72 5 (.slice qc cl cc) cl (fl EC cs))) (fun s55 _ => cl - (RowKit.intOf s55).toNat)
          case atStart => exact ⟨0, Nat.zero_le _, rfl, by have h := S11.out; show Sg _ _ _ _ _ ∧ _; simpa [nodS] using h⟩
          case round =>
            clear S11
            obtain ⟨k, hk, rfl, HI⟩ := hrel
            by_cases hlk : k < cl
            · have hlkz : (k : Int) < (cl : Int) := by omega
              have hk1 : (0 : Int) ≤ (k : Int) := by omega
              obtain ⟨y, hy⟩ : ∃ y, cs[k]? = some y := ⟨cs[k]'(by have := HCL.out; omega), by simp⟩
              have HY := hid hy
              have HEN : Hid (hasIN g.nodes (j : Int) y.inn = true ∧ hasON g.nodes (j : Int) y.out = true) := HOK.out.con (by rw [← HCS.out]; exact List.mem_of_getElem? hy)
              obtain ⟨b1, o1, q1, ev1, zz1, x0, x1, x2, x3, x4⟩ := ls_atC (owns_ls (E := EC) (owns_re HI.out.2 HCL.out.symm rfl)) hy
              simp only [Value.slice.injEq] at ev1
              obtain ⟨rfl, -, rfl⟩ := ev1
              clear hy
              obtain ⟨yb, hyb⟩ : ∃ b, b = wr.heap.size := ⟨_, rfl⟩
              obtain ⟨W5, hW5⟩ : ∃ W, W = wr.alloc (.cells (ccells y) 72) := ⟨_, rfl⟩
              have P5 : Hid (Sg w n gg (edgS g.nodes es ++ nodU g.nodes j ++ nodS g.nodes j (cs.take k)) W5 ∧ W5.ownsRow B1 72 5 (.slice (some ⟨b1, o1, none⟩) cl cc) cl (fl EC cs) ∧ W5.heap[yb]? = some (.cells (ccells y) 72 (0, 0))) := by
                have g5 := ((Gr.refl wr).alloc (.cells (ccells y) 72)).below
                rw [hW5, hyb]
                exact ⟨HI.out.1.below g5, owns_below HI.out.2 g5, heap_new' _ _⟩
              have HW5 : Hid (wr.alloc (.cells #[.int .i64 y.inn, .int .i64 y.out, .int .u64 (y.via.1 : Nat), .int .u64 (y.via.2.1 : Nat), .int .u64 (y.via.2.2 : Nat)] 72) = W5 ∧ wr.heap.size = yb) := ⟨hW5.symm, hyb.symm⟩
              clear hW5 hyb HI
              go_upto_region 14 with fail
              rw [HW5.out.1, HW5.out.2]
              clear HW5 x0 x1 x2 x3 x4 zz1
              have c5 := (tk_store P5.out.2.2).1
              have l5 := tk_lt P5.out.2.2
              by_cases hE : y.via = (0, 0, 0)
              · have hin := gin_any (j : Int) y.inn W5 (HM.out W5 (by obtain ⟨_, _, _, h⟩ := P5.out.1; exact h))
                rw [cIn_eq HEN.out.1] at hin
                obtain ⟨fr, hfr⟩ : ∃ k, k = cIn g.nodes j y := ⟨_, rfl⟩
                rw [← hfr] at hin
                have hfn : fr < n := by rw [hfr, HN.out]; exact cIn_lt HEN.out.1
                have HFR := hid hfr
                clear hfr
                obtain ⟨hE1, hE2, hE3⟩ : y.via.1 = 0 ∧ y.via.2.1 = 0 ∧ y.via.2.2 = 0 := by rw [hE]; exact ⟨rfl, rfl, rfl⟩
                go_wp2_with fail
                refine hin.mono ?_
                clear hin c5 l5
                rintro r W6 ⟨rfl, hW6⟩
                subst hW6
                go_upto_region 16 with fail
                obtain ⟨pl, hpl2⟩ : ∃ p, p = edgS g.nodes es ++ nodU g.nodes j ++ nodS g.nodes j (cs.take k) := ⟨_, rfl⟩
                obtain ⟨pi, hpi⟩ : ∃ k, k = cOut g.nodes j y := ⟨_, rfl⟩
                have hS := P5.out.1
                have HE6 := hid P5.out.2.1
                have HD := hid P5.out.2.2
                have HNX : Hid (pl ++ [(fr, pi)] = edgS g.nodes es ++ nodU g.nodes j ++ nodS g.nodes j (cs.take (k + 1))) := by
                  show _ = _
                  rw [hpl2, HFR.out, hpi, List.take_add_one, HY.out]
                  simp [nodS, isE, conS, hE]
                rw [← hpl2] at hS
                have hll := fromS_len pl fr
                have hpn : pl.length ≤ 500 := by
                  have h1 := nodU_len HOK.out j
                  have h2 : (nodS g.nodes j (cs.take k)).length ≤ k := by
                    unfold nodS
                    rw [List.length_map]
                    exact Nat.le_trans (List.length_filter_le _ _) (by rw [List.length_take]; omega)
                  rw [hpl2, List.length_append, List.length_append]
                  simp only [edgS, List.length_map]
                  have := HEL.out
                  omega
                obtain ⟨vs, ⟨xq, xm, xc⟩, f1, f2, f3, f4, f5, f6, f7⟩ := hS.cell hfn
                have HF : Hid (Fo w.heap.size W6 (.slice (some ⟨gg, 0, none⟩) n n) vs (fromS pl) ∧ vs.length = n ∧ vs[fr]? = some ⟨xq, xm, xc⟩) := ⟨f1, f2, f4⟩
                have HBL := hid f3
                have HBW := hid f3.size
                have HC : Hid (W6.cell? ⟨gg, fr, none⟩ = some (.slice xq xm xc) ∧ gg < W6.heap.size ∧ fr = fr) := ⟨f5, f6, rfl⟩
                have HIN : Hid (∀ W, Below W6.heap.size W6 W → Calls Tryz.prog 49 #[.pointer (some ⟨gb, 0, none⟩), .int .i64 (j : Int), .int .i64 y.out] W fun r w' => r = .returned (.int .i64 ((pi : Nat) : Int)) ∧ Gr W w') := fun W hb => by
                  have h := gout_any (j : Int) y.out W (HM.out W (f3.trans (hb.mono f3.size)))
                  rw [cOut_eq HOK.out.pok HEN.out.2, ← hpi] at h
                  exact h
                obtain ⟨LL, hLL⟩ : ∃ l, l = fromS pl fr := ⟨_, rfl⟩
                rw [← hLL] at f7 hll
                have HRW := hid f7
                have HLL := hid hLL
                have HLE : Hid (LL.length ≤ 500) := Nat.le_trans hll hpn
                have hf0 : (0 : Int) ≤ (fr : Int) := by omega
                have hfz : (fr : Int) < (n : Int) := by omega
                clear f1 f2 f3 f4 f5 f6 f7 hLL hll hpn hpl2 hpi hS P5
                have hB0 : Below W6.heap.size W6 W6.drew := (Gr.refl W6).drew.below
                have HSB : Hid (∀ W, Below W6.heap.size W6 W → W.cell? ⟨gg, fr, none⟩ = some (.slice xq xm xc) ∧ gg < W.heap.size ∧ W.heap[yb]? = some (.cells (ccells y) 72 (0, 0))) := fun W hb => ⟨(hb.cell (p := ⟨gg, fr, none⟩) HC.out.2.1).trans HC.out.1, Nat.lt_of_lt_of_le HC.out.2.1 hb.size, (hb.block _ (tk_lt HD.out)).trans HD.out⟩
                have hS0 := HSB.out _ hB0
                refine wp_regionD (S := fun W => W.cell? ⟨gg, fr, none⟩ = some (.slice xq xm xc) ∧ gg < W.heap.size ∧ W.heap[yb]? = some (.cells (ccells y) 72 (0, 0))) (D := [14]) hmx ?_
                refine' wpAnyD_take (i := 0) (oi := { dst := some 68, op := Go.Op.move (Go.Operand.tmp 3), type := 67, pos := "cycle.go:98", after := #[], guard := none }) (v := _) rfl (by kernel_rfl) (by kernel_rfl) (by kernel_rfl) (fun _ _ _ h => h) (by kernel_rfl) (Or.inl ⟨by rfl, ?hy17⟩) hS0 ?rest17
                case hy17 => (intro W hSw; go_simp; try (with_reducible rfl))
                try simp only [Act.put, List.setIfInBounds_toArray, List.set_cons_zero, List.set_cons_succ]
                refine' wpAnyD_take (i := 1) (oi := { dst := some 69, op := Go.Op.move (Go.Operand.tmp 10), type := 3, pos := "cycle.go:98", after := #[], guard := none }) (v := _) rfl (by kernel_rfl) (by kernel_rfl) (by kernel_rfl) (fun _ _ _ h => h) (by kernel_rfl) (Or.inl ⟨by rfl, ?hy18⟩) hS0 ?rest18
                case hy18 => (intro W hSw; go_simp; try (with_reducible rfl))
                try simp only [Act.put, List.setIfInBounds_toArray, List.set_cons_zero, List.set_cons_succ]
                refine' wpAnyD_take (i := 2) (oi := { dst := some 70, op := Go.Op.move (Go.Operand.tmp 3), type := 67, pos := "cycle.go:98", after := #[], guard := none }) (v := _) rfl (by kernel_rfl) (by kernel_rfl) (by kernel_rfl) (fun _ _ _ h => h) (by kernel_rfl) (Or.inl ⟨by rfl, ?hy19⟩) hS0 ?rest19
                case hy19 => (intro W hSw; go_simp; try (with_reducible rfl))
                try simp only [Act.put, List.setIfInBounds_toArray, List.set_cons_zero, List.set_cons_succ]
                refine' wpAnyD_take (i := 3) (oi := { dst := some 71, op := Go.Op.move (Go.Operand.tmp 10), type := 3, pos := "cycle.go:98", after := #[], guard := none }) (v := _) rfl (by kernel_rfl) (by kernel_rfl) (by kernel_rfl) (fun _ _ _ h => h) (by kernel_rfl) (Or.inl ⟨by rfl, ?hy20⟩) hS0 ?rest20
                case hy20 => (intro W hSw; go_simp; try (with_reducible rfl))
                try simp only [Act.put, List.setIfInBounds_toArray, List.set_cons_zero, List.set_cons_succ]
                refine' wpAnyD_take (i := 4) (oi := { dst := some 72, op := Go.Op.indexAddr 67 (Go.Operand.tmp 70) (Go.Operand.tmp 71), type := 0, pos := "cycle.go:98", after := #[{ on := 2, ground := Go.Ground.data }, { on := 3, ground := Go.Ground.data }], guard := none }) (v := _) rfl (by kernel_rfl) (by kernel_rfl) (by kernel_rfl) (fun _ _ _ h => h) (by kernel_rfl) (Or.inl ⟨by rfl, ?hy21⟩) hS0 ?rest21
                case hy21 => (intro W hSw; go_simp; try (with_reducible rfl))
                try simp only [Act.put, List.setIfInBounds_toArray, List.set_cons_zero, List.set_cons_succ]
                refine' wpAnyD_take (i := 5) (oi := { dst := some 73, op := Go.Op.load 33 (Go.Operand.tmp 72), type := 33, pos := "cycle.go:98", after := #[{ on := 4, ground := Go.Ground.data }], guard := none }) (v := _) rfl (by kernel_rfl) (by kernel_rfl) (by kernel_rfl) (fun _ _ _ h => h) (by kernel_rfl) (Or.inl ⟨by rfl, ?hy22⟩) hS0 ?rest22
                case hy22 => (intro W hSw; have hc := hSw.1; have hl := hSw.2.1; go_simp; try (with_reducible rfl))
                try simp only [Act.put, List.setIfInBounds_toArray, List.set_cons_zero, List.set_cons_succ]
                refine' wpAnyD_take (i := 6) (oi := { dst := some 74, op := Go.Op.move (Go.Operand.tmp 0), type := 29, pos := "cycle.go:98", after := #[], guard := none }) (v := _) rfl (by kernel_rfl) (by kernel_rfl) (by kernel_rfl) (fun _ _ _ h => h) (by kernel_rfl) (Or.inl ⟨by rfl, ?hy23⟩) hS0 ?rest23
                case hy23 => (intro W hSw; go_simp; try (with_reducible rfl))
                try simp only [Act.put, List.setIfInBounds_toArray, List.set_cons_zero, List.set_cons_succ]
                refine' wpAnyD_take (i := 7) (oi := { dst := some 75, op := Go.Op.move (Go.Operand.tmp 7), type := 3, pos := "cycle.go:98", after := #[], guard := none }) (v := _) rfl (by kernel_rfl) (by kernel_rfl) (by kernel_rfl) (fun _ _ _ h => h) (by kernel_rfl) (Or.inl ⟨by rfl, ?hy24⟩) hS0 ?rest24
                case hy24 => (intro W hSw; go_simp; try (with_reducible rfl))
                try simp only [Act.put, List.setIfInBounds_toArray, List.set_cons_zero, List.set_cons_succ]
                refine' wpAnyD_take (i := 8) (oi := { dst := some 76, op := Go.Op.fieldAddr 72 (Go.Operand.tmp 9) 1, type := 0, pos := "cycle.go:98", after := #[], guard := none }) (v := _) rfl (by kernel_rfl) (by kernel_rfl) (by kernel_rfl) (fun _ _ _ h => h) (by kernel_rfl) (Or.inl ⟨by rfl, ?hy25⟩) hS0 ?rest25
                case hy25 => (intro W hSw; go_simp; try (with_reducible rfl))
                try simp only [Act.put, List.setIfInBounds_toArray, List.set_cons_zero, List.set_cons_succ]
                refine' wpAnyD_take (i := 9) (oi := { dst := some 77, op := Go.Op.load 3 (Go.Operand.tmp 76), type := 3, pos := "cycle.go:98", after := #[{ on := 8, ground := Go.Ground.data }], guard := none }) (v := _) rfl (by kernel_rfl) (by kernel_rfl) (by kernel_rfl) (fun _ _ _ h => h) (by kernel_rfl) (Or.inl ⟨by rfl, ?hy26⟩) hS0 ?rest26
                case hy26 => (intro W hSw; have hc := (tk_store hSw.2.2).1; have hl := tk_lt hSw.2.2; go_simp; try (with_reducible rfl))
                try simp only [Act.put, List.setIfInBounds_toArray, List.set_cons_zero, List.set_cons_succ]
                refine wpAnyD_one (i := 10) (o := { dst := some 78, op := Go.Op.call { callee := Go.Callee.value (Go.Operand.func 49), args := #[Go.Operand.tmp 74, Go.Operand.tmp 75, Go.Operand.tmp 77], argTypes := #[29, 3, 3] }, type := 3, pos := "cycle.go:98", after := #[{ on := 6, ground := Go.Ground.data }, { on := 7, ground := Go.Ground.data }, { on := 9, ground := Go.Ground.data }], guard := none }) (by kernel_rfl) rfl (fun K hK => ?_)
                go_simp
                refine (HIN.out _ hB0).mono ?_
                rintro r w7 ⟨rfl, g7⟩
                have hS7 : Below W6.heap.size W6 w7 := hB0.trans (g7.below.mono hB0.size)
                clear g7
                go_wp2_with fail
                refine hK.out _ _ (fun hD => HSB.out _ hS7) ?_
                clear hK K
                try simp only [Act.put, List.setIfInBounds_toArray, List.set_cons_zero, List.set_cons_succ]
                refine wpAnyD_one (i := 11) (o := { dst := some 79, op := Go.Op.buildSlice 33 1 #[(0, Go.Operand.tmp 78)], type := 33, pos := "cycle.go:98", after := #[{ on := 10, ground := Go.Ground.data }], guard := none }) (by kernel_rfl) rfl (fun K hK => ?_)
                go_simp
                have hS8 : Below W6.heap.size W6 (w7.alloc (.cells #[.int .i64 ((pi : Nat) : Int)] 3)) := hS7.trans (((Gr.refl w7).alloc _).below.mono hS7.size)
                refine hK.out _ _ (fun hD => HSB.out _ hS8) ?_
                clear hK K
                try simp only [Act.put, List.setIfInBounds_toArray, List.set_cons_zero, List.set_cons_succ]
                refine wpAnyD_one (i := 12) (o := { dst := some 80, op := Go.Op.call { callee := Go.Callee.builtin Go.Builtin.append, args := #[Go.Operand.tmp 73, Go.Operand.tmp 79], argTypes := #[33, 33] }, type := 33, pos := "cycle.go:98", after := #[{ on := 5, ground := Go.Ground.data }, { on := 11, ground := Go.Ground.data }, { on := 10, ground := Go.Ground.chain }], guard := none }) (by kernel_rfl) rfl (fun K hK => ?_)
                refine step_app1 EI Tryz.underlying33 infoI rfl (by decide) rfl _ _ rfl w.heap.size (.slice xq xm xc) LL.length (fl EI LL) rfl (owns_below HRW.out hS7) ((pi : Nat) : Int) (by first | rfl | simp) (by have := HLE.out; omega) (by have := HLE.out; unfold maxLen; omega) (Nat.le_trans HBW.out hS7.size) _ rfl _ ?_
                intro g8 cap8 w8 h8 k8 n8
                have ST : Hid (Sg w n gg (pl ++ [(fr, pi)]) (w8.setCell ⟨gg, fr, none⟩ (.slice (some ⟨g8, 0, none⟩) (LL.length + 1) cap8)) ∧ (w8.setCell ⟨gg, fr, none⟩ (.slice (some ⟨g8, 0, none⟩) (LL.length + 1) cap8)).ownsRow B1 72 5 (.slice (some ⟨b1, o1, none⟩) cl cc) cl (fl EC cs)) := by
                  have hf := HF.out.1.below hS7
                  rw [HLL.out] at h8 ⊢
                  obtain ⟨h1, h2⟩ := hf.step HF.out.2.2 (by rw [HF.out.2.1]) h8.out k8.out n8.out
                  refine ⟨⟨_, h1.re (fun k _ => (fromS_snoc pl (fr, pi) k).symm), by rw [List.length_set]; exact HF.out.2.1, (HBL.out.trans (hS7.mono HBL.out.size)).trans (h2.below (Nat.le_trans HBL.out.size hS7.size) (hf.blocks HF.out.2.2))⟩, ?_⟩
                  exact hf.other HF.out.2.2 h2 (owns_below HE6.out hS7) (by decide) (by decide)
                have hb8 := (Kp.grownBy (S := fun k => (Value.slice xq xm xc).ownBlock = some k) k8.out (fun _ h => h))
                have F8 : Hid (w8.frozen? ⟨gg, fr, none⟩ = false ∧ gg < w8.heap.size ∧ w8.cell? ⟨gg, fr, none⟩ = some (.slice xq xm xc) ∧ w8.heap[yb]? = some (.cells (ccells y) 72 (0, 0))) := by
                  have hf := HF.out.1.below hS7
                  have hne := owns_ne_own hf.row (hf.each fr _ HF.out.2.2) (by decide)
                  have hr8 := owns_kp hb8 hf.row (fun j e e2 => hne j e e2)
                  rw [HF.out.2.1] at hr8
                  exact ⟨hr8.frozenAt _, Nat.lt_of_lt_of_le HC.out.2.1 (Nat.le_trans hS7.size hb8.size), (hb8.cell (Nat.lt_of_lt_of_le HC.out.2.1 hS7.size) (fun e => hne gg rfl e)).trans ((hS7.cell (p := ⟨gg, fr, none⟩) HC.out.2.1).trans HC.out.1), (hb8.block _ (Nat.lt_of_lt_of_le (tk_lt HD.out) hS7.size) (fun e => owns_ne_blk (owns_below HRW.out hS7) (HSB.out _ hS7).2.2 (by decide) yb e rfl)).trans (HSB.out _ hS7).2.2⟩
                clear h8 k8 n8 hb8
                generalize LL.length + 1 = ll at ST ⊢
                refine hK.out _ _ (fun hD => ⟨F8.out.2.2.1, F8.out.2.1, F8.out.2.2.2⟩) ?_
                clear hK K
                try simp only [Act.put, List.setIfInBounds_toArray, List.set_cons_zero, List.set_cons_succ]
                refine' wpAnyD_take (i := 13) (oi := { dst := some 81, op := Go.Op.indexAddr 67 (Go.Operand.tmp 68) (Go.Operand.tmp 69), type := 0, pos := "cycle.go:98", after := #[{ on := 0, ground := Go.Ground.data }, { on := 1, ground := Go.Ground.data }, { on := 0, ground := Go.Ground.phase }, { on := 1, ground := Go.Ground.phase }, { on := 2, ground := Go.Ground.phase }, { on := 3, ground := Go.Ground.phase }, { on := 4, ground := Go.Ground.phase }, { on := 5, ground := Go.Ground.phase }, { on := 6, ground := Go.Ground.phase }, { on := 7, ground := Go.Ground.phase }, { on := 8, ground := Go.Ground.phase }, { on := 9, ground := Go.Ground.phase }, { on := 10, ground := Go.Ground.phase }, { on := 11, ground := Go.Ground.phase }, { on := 12, ground := Go.Ground.phase }], guard := none }) (v := _) rfl (by kernel_rfl) (by kernel_rfl) (by kernel_rfl) (fun _ _ _ h => h) (by kernel_rfl) (Or.inl ⟨by rfl, ?hy30⟩) ⟨F8.out.2.2.1, F8.out.2.1, F8.out.2.2.2⟩ ?rest30
                case hy30 => (intro W hSw; go_simp; try (with_reducible rfl))
                try simp only [Act.put, List.setIfInBounds_toArray, List.set_cons_zero, List.set_cons_succ]
                refine wpAnyD_one (i := 14) (o := { dst := none, op := Go.Op.store 33 (Go.Operand.tmp 81) (Go.Operand.tmp 80), type := 0, pos := "cycle.go:98", after := #[{ on := 13, ground := Go.Ground.data }, { on := 12, ground := Go.Ground.data }, { on := 12, ground := Go.Ground.chain }, { on := 0, ground := Go.Ground.phase }, { on := 1, ground := Go.Ground.phase }, { on := 2, ground := Go.Ground.phase }, { on := 3, ground := Go.Ground.phase }, { on := 4, ground := Go.Ground.phase }, { on := 5, ground := Go.Ground.phase }, { on := 6, ground := Go.Ground.phase }, { on := 7, ground := Go.Ground.phase }, { on := 8, ground := Go.Ground.phase }, { on := 9, ground := Go.Ground.phase }, { on := 10, ground := Go.Ground.phase }, { on := 11, ground := Go.Ground.phase }, { on := 12, ground := Go.Ground.phase }], guard := none }) (by kernel_rfl) rfl (fun K hK => ?_)
                have c8 := F8.out.2.2.1
                have f8 := F8.out.1
                have l8 := F8.out.2.1
                go_simp
                generalize (w8.setCell ⟨gg, fr, none⟩ (.slice (some ⟨g8, 0, none⟩) ll cap8)) = w9 at ST ⊢
                clear c8 f8 l8
                refine hK.out _ _ (fun hD => absurd (by decide) hD) ?_
                clear hK K
                try simp only [Act.put, List.setIfInBounds_toArray, List.set_cons_zero, List.set_cons_succ]
                refine wpAnyD_done (by kernel_rfl) ?_ _
                have FIN : Hid (Sg w n gg (edgS g.nodes es ++ nodU g.nodes j ++ nodS g.nodes j (cs.take (k + 1))) w9 ∧ w9.ownsRow B1 72 5 (.slice (some ⟨b1, o1, none⟩) cl cc) cl (fl EC cs)) := by rw [← HNX.out]; exact ST.out
                clear ST HNX hS0 hS7 hB0 HSB
                go_upto_region 17 with fail
                go_wp2_with fail
                go_roundw
                case rel => exact ⟨k + 1, by omega, by go_num, FIN.out⟩
                case measure => simp [RowKit.intOf]; omega
              · have FIN : Hid (Sg w n gg (edgS g.nodes es ++ nodU g.nodes j ++ nodS g.nodes j (cs.take (k + 1))) W5 ∧ W5.ownsRow B1 72 5 (.slice (some ⟨b1, o1, none⟩) cl cc) cl (fl EC cs)) := by
                  have e1 : nodS g.nodes j (cs.take (k + 1)) = nodS g.nodes j (cs.take k) := by
                    rw [List.take_add_one, HY.out]
                    simp [nodS, isE, hE]
                  rw [e1]
                  exact ⟨P5.out.1, P5.out.2.1⟩
                clear P5
                have hne : ¬ (y.via.1 = 0 ∧ y.via.2.1 = 0 ∧ y.via.2.2 = 0) := fun e => hE (Prod.ext e.1 (Prod.ext e.2.1 e.2.2))
                clear hE
                have hne3 : y.via.1 ≠ 0 ∨ (y.via.1 = 0 ∧ y.via.2.1 ≠ 0) ∨ (y.via.1 = 0 ∧ y.via.2.1 = 0 ∧ y.via.2.2 ≠ 0) := by omega
                clear hne
                rcases hne3 with h1 | ⟨h1, h2⟩ | ⟨h1, h2, h3⟩
                · go_wp2_with fail
                  go_roundw
                  case rel => exact ⟨k + 1, by omega, by go_num, FIN.out⟩
                  case measure => simp [RowKit.intOf]; omega
                · go_wp2_with fail
                  go_roundw
                  case rel => exact ⟨k + 1, by omega, by go_num, FIN.out⟩
                  case measure => simp [RowKit.intOf]; omega
                · go_wp2_with fail
                  go_roundw
                  case rel => exact ⟨k + 1, by omega, by go_num, FIN.out⟩
                  case measure => simp [RowKit.intOf]; omega
            · have hlkz : ¬ (k : Int) < (cl : Int) := by omega
              have FIN : Hid (Sg w n gg (edgS g.nodes es ++ nodU g.nodes (j + 1)) wr) := by
                have h := HI.out.1
                rw [List.take_of_length_le (by have := HCL.out; omega), HCS.out, List.append_assoc] at h
                exact h
              clear HI
              go_wp2_with fail
              go_roundw
              case rel => exact ⟨j + 1, by omega, by go_num, FIN.out⟩
              case measure => simp [RowKit.intOf]; omega
        · have hljz : ¬ (j : Int) < (nl : Int) := by omega
          have S20 : Hid (∃ vs, Fo w.heap.size wr (.slice (some ⟨gg, 0, none⟩) n n) vs (fun k => if k < 0 then srtI (fromS (stS g) k) else fromS (stS g) k) ∧ vs.length = n ∧ Below w.heap.size w wr) := by
            have h := HI.out
            obtain rfl : j = nl := by omega
            have e1 : edgS g.nodes es ++ nodU g.nodes j = stS g := by unfold stS; rw [HES.out, HNL.out]
            rw [e1] at h
            obtain ⟨vs, h1, h2, h3⟩ := h
            exact ⟨vs, h1.re (fun k _ => by rw [if_neg (Nat.not_lt_zero _)]), h2, h3⟩
          clear HI
          go_wp2_with fail
          go_loopw [86] (fun s86 wr => ∃ i : Nat, i ≤ n ∧ s86 = .int .i64 (i : Nat) ∧ Hid (∃ vs, Fo w.heap.size wr (.slice (some ⟨gg, 0, none⟩) n n) vs (fun k => if k < i then srtI (fromS (stS g) k) else fromS (stS g) k) ∧ vs.length = n ∧ Below w.heap.size w wr)) (fun s86 _ => n - (RowKit.intOf s86).toNat)
          case atStart => exact ⟨0, Nat.zero_le _, rfl, S20.out⟩
          case round =>
            clear S20
            obtain ⟨k, hk, rfl, HI⟩ := hrel
            by_cases hlk : k < n
            · have hlkz : (k : Int) < (n : Int) := by omega
              have hk1 : (0 : Int) ≤ (k : Int) := by omega
              obtain ⟨vs, f1, f2, f3⟩ := HI.out
              obtain ⟨x, hx⟩ : ∃ x, vs[k]? = some x := ⟨vs[k]'(by omega), by simp⟩
              obtain ⟨b, off, c, hv, hb, hc⟩ := ls_atL (owns_ls (E := EL) f1.row) hx
              simp only [Value.slice.injEq, Option.some.injEq, Addr.mk.injEq] at hv
              obtain ⟨⟨rfl, rfl, -⟩, -, -⟩ := hv
              rw [Nat.zero_add] at hc
              have he := f1.each k x hx
              rw [if_neg (Nat.lt_irrefl k)] at he
              have HF : Hid (Fo w.heap.size wr (.slice (some ⟨gg, 0, none⟩) n n) vs (fun j => if j < k then srtI (fromS (stS g) j) else fromS (stS g) j) ∧ vs.length = n ∧ Below w.heap.size w wr ∧ vs[k]? = some x) := ⟨f1, f2, f3, hx⟩
              have hll : (fromS (stS g) k).length ≤ 432 := Nat.le_trans (fromS_len _ _) (stS_len HOK.out)
              have HFIN : Hid (∀ W, Fo w.heap.size W (.slice (some ⟨gg, 0, none⟩) n n) vs (fun j => if j = k then srtI (fromS (stS g) k) else if j < k then srtI (fromS (stS g) j) else fromS (stS g) j) → Below w.heap.size w W → ∃ vs, Fo w.heap.size W (.slice (some ⟨gg, 0, none⟩) n n) vs (fun j => if j < k + 1 then srtI (fromS (stS g) j) else fromS (stS g) j) ∧ vs.length = n ∧ Below w.heap.size w W) := fun W h1 h2 => ⟨vs, h1.re (fun j _ => by
                by_cases e1 : j = k
                · subst e1
                  rw [if_pos rfl, if_pos (Nat.lt_succ_self _)]
                · rw [if_neg e1]
                  by_cases e2 : j < k
                  · rw [if_pos e2, if_pos (by omega)]
                  · rw [if_neg e2, if_neg (by omega)]), HF.out.2.1, h2⟩
              obtain ⟨q, m, c2⟩ := x
              rcases own_at0 he with ⟨e0, eq, em⟩ | ⟨gk, eq, em⟩
              · dsimp only at eq em
                subst eq
                subst em
                have hs := AnyM.slices_Sort_int_none Tryz.lSort none c2 wr
                change Calls Tryz.prog 56 _ _ _ at hs
                have FIN := hid (HFIN.out wr (HF.out.1.re (fun j _ => by
                  by_cases e1 : j = k
                  · subst e1
                    rw [if_pos rfl, if_neg (Nat.lt_irrefl _), e0]
                    simp [srtI]
                  · rw [if_neg e1])) HF.out.2.2.1)
                clear HF HFIN f1 f2 f3 hx he HI
                go_wp2_with fail
                refine hs.mono ?_
                clear hs
                rintro r w87 ⟨rfl, hw⟩
                subst hw
                go_wp2_with fail
                go_roundw
                case rel => exact ⟨k + 1, by omega, by go_num, FIN.out⟩
                case measure => simp [RowKit.intOf]; omega
              · dsimp only at eq em
                subst eq
                subst em
                have hs := AnyM.slices_Sort_int Tryz.lSort gk 0 c2 (fromS (stS g) k) wr (holds_own he).1 (holds_own he).2 (by omega)
                change Calls Tryz.prog 56 _ _ _ at hs
                have HE := hid he
                generalize hgl : (fromS (stS g) k).length = ll at hs hc hll
                have HGL := hid hgl
                clear f1 f2 f3 hx he HI hgl
                go_wp2_with fail
                refine hs.mono ?_
                clear hs
                rintro r w87 ⟨rfl, nn, os, hw⟩
                have FIN : Hid (∃ vs, Fo w.heap.size w87 (.slice (some ⟨gg, 0, none⟩) n n) vs (fun j => if j < k + 1 then srtI (fromS (stS g) j) else fromS (stS g) j) ∧ vs.length = n ∧ Below w.heap.size w w87) := by
                  obtain ⟨h1, h2⟩ := sorted_own HE.out (w' := w87) (n := nn) (os := os) hw
                  obtain ⟨h3, h4⟩ := HF.out.1.put HF.out.2.2.2 h2 h1
                  exact HFIN.out w87 h3 (HF.out.2.2.1.trans (h4.below HF.out.2.2.1.size (fun j e => (owns_rd HE.out j e).1)))
                clear hw HF HFIN HE
                go_wp2_with fail
                go_roundw
                case rel => exact ⟨k + 1, by omega, by go_num, FIN.out⟩
                case measure => simp [RowKit.intOf]; omega
            · have hlkz : ¬ (k : Int) < (n : Int) := by omega
              have FIN : Hid (Below w.heap.size w wr ∧ Ff wr.heap.size wr (.slice (some ⟨gg, 0, none⟩) n n) (stL g)) := by
                obtain ⟨vs, h1, h2, h3⟩ := HI.out
                refine ⟨h3, h1.ff (by rw [stL_len, h2, HN.out]) (fun j l hl => ?_)⟩
                have hj := (List.getElem?_eq_some_iff.1 hl).1
                rw [stL_len] at hj
                rw [stL_get hj] at hl
                rw [if_pos (by have := HN.out; omega)]
                exact (Option.some.inj hl).symm
              clear HI
              go_wp2_with fail
              go_ret
              exact ⟨_, rfl, FIN.out⟩
end Go.Proofs.YtngnfglnfkhheaaGreat.Df

namespace Go.Proofs.YtngnfglnfkhheaaGreat.Df
open Go.RowKit Go.Sort
attribute [local go_sem ↓] Go.wp_at_zero Go.wp_at_succ
def Ix (T J : World → Prop) (r : Ending) (W' : World) : Prop := (∃ k : Nat, r = .returned (.int .i64 (k : Nat)) ∧ T W') ∨ (r = .returned (.int .i64 (-1)) ∧ J W')
set_option maxHeartbeats 2000000 in
/-- slices.IndexFunc over ints, of a predicate that may write: what stands from one number to the next. -/
theorem indexFuncI_inv {v : Value} {l : List Int} (fn : Nat) (lb : Array Value) (I : Nat → World → Prop) (T : World → Prop) (w : World) (hl : l.length ≤ 140737488351232) (eg : ∀ args w, (callFunc fn args).run Tryz.prog w = .ok (.enter fn args) w) (hL : ∀ i W, I i W → ∃ M, Lz EI M W v l)
    (hp : ∀ (i : Nat) (x : Int) (W : World), l[i]? = some x → I i W → Calls Tryz.prog fn (#[.int .i64 x] ++ lb) W fun r W' => ∃ b, r = .returned (.bool b) ∧ Hid ((b = true → T W') ∧ (b = false → I (i + 1) W'))) (h0 : I 0 w) :
    Calls Tryz.prog 74 #[v, .func (.func fn) #[] lb] w fun r W' => Ix T (I l.length) r W' := by
  obtain ⟨_, hv⟩ := hL 0 w h0
  obtain ⟨pl, cl, rfl⟩ := hv.form
  have HL := hid hL
  have HP := hid hp
  have H0 := hid h0
  clear hv hL hp h0
  go_enter Tryz.func74, Tryz.ntmps74
  go_wp2_with fail
  go_loopw [5, 8] (fun s5 s8 wr => ∃ k : Nat, k ≤ l.length ∧ s8 = .int .i64 (k : Nat) ∧ Hid (I k wr)) (fun _ s8 _ => l.length - (RowKit.intOf s8).toNat)
  case atStart => exact ⟨0, Nat.zero_le _, rfl, H0.out⟩
  case round =>
    obtain ⟨k, hk, rfl, HI⟩ := hrel
    by_cases hlt : k < l.length
    · have hltz : (k : Int) < (l.length : Int) := by omega
      have hk0 : (0 : Int) ≤ (k : Int) := by omega
      obtain ⟨x, hx⟩ : ∃ x, l[k]? = some x := ⟨l[k], by simp⟩
      obtain ⟨M, hz⟩ := HL.out k wr HI.out
      obtain ⟨b1, o1, c1, e1, z1, x1⟩ := ls_atI (hz.ls hx) hx
      simp only [Value.slice.injEq] at e1
      obtain ⟨rfl, -, rfl⟩ := e1
      have hcall := HP.out k x wr hx HI.out
      clear hx hz
      go_wp2_with (go_at_fn fn; refine hcall.mono ?_; rintro e w' ⟨b, rfl, HB⟩)
      · rename_i hb
        go_ret
        exact Or.inl ⟨k, rfl, HB.out.1 hb⟩
      · rename_i hb
        go_roundw
        case rel => exact ⟨k + 1, by omega, by go_num, HB.out.2 (by simpa using hb)⟩
        case measure => simp [RowKit.intOf]; omega
    · have hltz : ¬ (k : Int) < (l.length : Int) := by omega
      obtain rfl : k = l.length := by omega
      go_wp2_with fail
      go_ret
      exact Or.inr ⟨rfl, HI.out⟩
theorem containsFuncI_inv {v : Value} {l : List Int} (fn : Nat) (lb : Array Value) (I : Nat → World → Prop) (T : World → Prop) (w : World) (hl : l.length ≤ 140737488351232) (eg : ∀ args w, (callFunc fn args).run Tryz.prog w = .ok (.enter fn args) w) (hL : ∀ i W, I i W → ∃ M, Lz EI M W v l)
    (hp : ∀ (i : Nat) (x : Int) (W : World), l[i]? = some x → I i W → Calls Tryz.prog fn (#[.int .i64 x] ++ lb) W fun r W' => ∃ b, r = .returned (.bool b) ∧ Hid ((b = true → T W') ∧ (b = false → I (i + 1) W'))) (h0 : I 0 w) :
    Calls Tryz.prog 58 #[v, .func (.func fn) #[] lb] w fun r W' => ∃ b, r = .returned (.bool b) ∧ Hid ((b = true → T W') ∧ (b = false → I l.length W')) := by
  have h := indexFuncI_inv fn lb I T w hl eg hL hp h0
  obtain ⟨_, hv⟩ := hL 0 w h0
  obtain ⟨pl, cl, rfl⟩ := hv.form
  clear hv hL hp h0
  go_enter Tryz.func58, Tryz.ntmps58
  go_wp2_with fail
  refine h.mono ?_
  clear h
  rintro e w1 (⟨k, rfl, ht⟩ | ⟨rfl, hi⟩)
  · have hk0 : (0 : Int) ≤ (k : Int) := by omega
    go_wp2_with fail
    go_ret
    exact ⟨true, by first | rfl | simp, fun _ => ht, (fun e => by cases e)⟩
  · go_wp2_with fail
    go_ret
    exact ⟨false, by first | rfl | simp, (fun e => by cases e), fun _ => hi⟩
/-- Truths as elements. -/
def EBo : El Bool where
  k := 1
  enc x := [.bool x]
  len _ := rfl
  one x u hu := by
    simp at hu
    subst hu
    rfl
theorem fl_Bo (l : List Bool) : fl EBo l = l.map Value.bool := by
  induction l with
  | nil => rfl
  | cons x l ih => rw [fl_cons, ih]; rfl
def fnB (n : Nat) (M : Nat → Bool) : List Bool := (List.range n).map M
theorem fnB_len (n : Nat) (M : Nat → Bool) : (fnB n M).length = n := by simp [fnB]
theorem fnB_get {n : Nat} (M : Nat → Bool) {k : Nat} (h : k < n) : (fnB n M)[k]? = some (M k) := by simp [fnB, h]
theorem madeB (n : Nat) : (madeCells (Value.bool false).cells (n * 1)).toList = fl EBo (fnB n fun _ => false) := by
  rw [Nat.mul_one, fl_Bo]
  refine (toList_madeCells_one _ n).trans ?_
  refine List.ext_getElem? fun j => ?_
  by_cases hj : j < n
  · simp [fnB, hj]
  · simp [fnB, hj]
def updB (M : Nat → Bool) (k : Nat) : Nat → Bool := fun j => if j = k then true else M j
theorem updB_mono {M : Nat → Bool} {p k : Nat} (h : M k = true) : updB M p k = true := by
  unfold updB
  split
  · rfl
  · exact h
theorem fnB_set (n : Nat) (M : Nat → Bool) (k : Nat) : (fnB n M).set k true = fnB n (updB M k) := by
  refine List.ext_getElem? fun j => ?_
  rw [List.getElem?_set]
  by_cases hj : j < n
  · by_cases e : k = j
    · subst e
      rw [if_pos rfl, if_pos (by rw [fnB_len]; exact hj), fnB_get _ hj]
      simp [updB]
    · rw [if_neg e, fnB_get _ hj, fnB_get _ hj]
      have : ¬ j = k := fun h => e h.symm
      simp [updB, this]
  · have h2 : (fnB n (updB M k))[j]? = none := List.getElem?_eq_none (by rw [fnB_len]; omega)
    rw [h2]
    split
    · rw [if_neg (by rw [fnB_len]; omega)]
    · exact List.getElem?_eq_none (by rw [fnB_len]; omega)
/-- How many places are not met. -/
def um (n : Nat) (M : Nat → Bool) : Nat := ((List.range n).filter fun k => !M k).length
theorem um_lt {n : Nat} {M M' : Nat → Bool} {p : Nat} (hp : p < n) (h1 : M p = false) (h2 : M' p = true) (h : ∀ k, M k = true → M' k = true) : um n M' < um n M := by
  unfold um
  have hm : p ∈ (List.range n).filter fun k => !M k := List.mem_filter.2 ⟨List.mem_range.2 hp, by simp [h1]⟩
  have h3 := sub_le ((List.range n).filter fun k => !M' k) (((List.range n).filter fun k => !M k).erase p) (List.nodup_range.filter _) (fun x hx => by
    obtain ⟨hx1, hx2⟩ := List.mem_filter.1 hx
    have hne : x ≠ p := fun e => by subst e; simp [h2] at hx2
    refine (List.mem_erase_of_ne hne).2 (List.mem_filter.2 ⟨hx1, ?_⟩)
    cases e : M x with
    | false => rfl
    | true => rw [h x e] at hx2; cases hx2)
  have h4 := List.length_erase_of_mem hm
  have h5 := List.length_pos_of_mem hm
  omega
/-- All that was met and is done leads to what was met, and not to the first. -/
def Ns (ls : List (List Int)) (q : Nat) (S : Nat → Prop) (M : Nat → Bool) : Prop := ∀ p, M p = true → ¬ S p → ∀ r, Sp ls p r → M r = true ∧ r ≠ q
/-- The four boxes of the closure. -/
structure Bx (w : World) (mb fb sb db g n q : Nat) (v : Value) (W : World) : Prop where
  bl : Below w.heap.size w W
  m : W.heap[mb]? = some (.cells #[.slice (some ⟨g, 0, none⟩) n n] 40 (0, 0))
  f : W.heap[fb]? = some (.cells #[.int .i64 (q : Nat)] 3 (0, 0))
  s : W.heap[sb]? = some (.cells #[v] 67 (0, 0))
  d : W.heap[db]? = some (.cells #[.func (.func 57) #[] #[.pointer (some ⟨mb, 0, none⟩), .pointer (some ⟨fb, 0, none⟩), .pointer (some ⟨sb, 0, none⟩), .pointer (some ⟨db, 0, none⟩)]] 99 (0, 0))
/-- .. and the places that were met. -/
structure Cs (w : World) (mb fb sb db g n q : Nat) (v : Value) (M : Nat → Bool) (W : World) : Prop where
  bx : Bx w mb fb sb db g n q v W
  row : W.ownsRow w.heap.size 4 1 (.slice (some ⟨g, 0, none⟩) n n) n (fl EBo (fnB n M))
section
variable {w W W' : World} {mb fb sb db g n q : Nat} {v : Value} {M : Nat → Bool}
theorem Bx.kp {S : Nat → Prop} (h : Bx w mb fb sb db g n q v W) (hk : Kp S W W') (hS : ∀ j, S j → w.heap.size ≤ j) (h1 : ¬ S mb) (h2 : ¬ S fb) (h3 : ¬ S sb) (h4 : ¬ S db) : Bx w mb fb sb db g n q v W' :=
  ⟨h.bl.trans (hk.below h.bl.size hS), (hk.block _ (tk_lt h.m) h1).trans h.m, (hk.block _ (tk_lt h.f) h2).trans h.f, (hk.block _ (tk_lt h.s) h3).trans h.s, (hk.block _ (tk_lt h.d) h4).trans h.d⟩
theorem Cs.below (h : Cs w mb fb sb db g n q v M W) (hb : Below W.heap.size W W') : Cs w mb fb sb db g n q v M W' :=
  ⟨h.bx.kp (S := fun _ => False) (Kp.of_below hb) (fun _ h => h.elim) id id id id, owns_below h.row hb⟩
theorem Cs.cell (h : Cs w mb fb sb db g n q v M W) {k : Nat} (hk : k < n) : W.cell? ⟨g, k, none⟩ = some (.bool (M k)) ∧ g < W.heap.size := by
  have hr : W.ownsRow w.heap.size 4 1 (.slice (some ⟨g, 0, none⟩) n n) (fnB n M).length (fl EBo (fnB n M)) := owns_re h.row (fnB_len n M).symm rfl
  obtain ⟨b, o, c, hv, hb, hx⟩ := (owns_ls (E := EBo) hr).get (fnB_get M hk)
  simp only [Value.slice.injEq, Option.some.injEq, Addr.mk.injEq] at hv
  obtain ⟨⟨rfl, rfl, -⟩, -, -⟩ := hv
  have h0 := hx 0 _ (by decide) rfl
  simp only [Nat.zero_add, show EBo.k = 1 from rfl, Nat.mul_one, Nat.add_zero] at h0
  exact ⟨h0, hb⟩
theorem Cs.set (h : Cs w mb fb sb db g n q v M W) (k : Nat) : Cs w mb fb sb db g n q v (updB M k) (W.setCell ⟨g, k, none⟩ (.bool true)) := by
  obtain ⟨h1, h2⟩ := owns_one h.row k (.bool true)
  rw [fl_Bo, ← List.map_set, fnB_set, ← fl_Bo] at h1
  have hg : ∀ {b : Nat} {cs : Array Value} {T : TypeId}, W.heap[b]? = some (.cells cs T (0, 0)) → 4 ≠ T → ¬ b = g := fun hb hT e => owns_ne_blk h.row hb hT g rfl e.symm
  exact ⟨h.bx.kp h2 (fun j e => by rw [e]; exact (owns_rd h.row g rfl).1) (hg h.bx.m (by decide)) (hg h.bx.f (by decide)) (hg h.bx.s (by decide)) (hg h.bx.d (by decide)), h1⟩
end
/-- What the closure answers. -/
def Dn (w : World) (mb fb sb db g n q : Nat) (v : Value) (ls : List (List Int)) (M : Nat → Bool) (p : Nat) (r : Ending) (W' : World) : Prop := ∃ b, r = .returned (.bool b) ∧ Hid (∃ M', Cs w mb fb sb db g n q v M' W' ∧ (∀ k, M k = true → M' k = true) ∧ (b = false → M' p = true ∧ (M q = true → p ≠ q) ∧ ∀ S, Ns ls q S M → Ns ls q S M'))
set_option maxHeartbeats 2000000 in
theorem cb_met {w W : World} {mb fb sb db g n q p : Nat} {v : Value} {ls : List (List Int)} {M : Nat → Bool} (h : Cs w mb fb sb db g n q v M W) (hp : p < n) (hm : M p = true) : Calls Tryz.prog 57 #[.int .i64 (p : Nat), .pointer (some ⟨mb, 0, none⟩), .pointer (some ⟨fb, 0, none⟩), .pointer (some ⟨sb, 0, none⟩), .pointer (some ⟨db, 0, none⟩)] W (Dn w mb fb sb db g n q v ls M p) := by
  have H := hid h
  have hc := (h.cell hp).1
  have hg := (h.cell hp).2
  rw [hm] at hc
  have cm := (tk_store h.bx.m).1
  have lm := tk_lt h.bx.m
  have cf := (tk_store h.bx.f).1
  have lf := tk_lt h.bx.f
  have hp0 : (0 : Int) ≤ (p : Int) := by omega
  have hpz : (p : Int) < (n : Int) := by omega
  clear h
  by_cases e : p = q
  · subst e
    go_enter Tryz.func57, Tryz.ntmps57
    go_wp2_with fail
    go_ret
    exact ⟨true, by first | rfl | simp, M, H.out, fun _ h => h, fun e => by cases e⟩
  · have ez : ¬ ((p : Nat) : Int) = ((q : Nat) : Int) := by omega
    go_enter Tryz.func57, Tryz.ntmps57
    go_wp2_with fail
    go_ret
    exact ⟨false, by first | rfl | simp [ez], M, H.out, fun _ h => h, fun _ => ⟨hm, fun _ => e, fun _ h => h⟩⟩
set_option maxRecDepth 100000 in
set_option maxHeartbeats 4000000 in
theorem cb_down {w : World} {mb fb sb db g n q : Nat} {v : Value} {ls : List (List Int)} {M0 : Nat} (hF : Ff M0 w v ls) (hnl : n = ls.length) (hx : ∀ l ∈ ls, l.length ≤ 1000 ∧ ∀ x ∈ l, 0 ≤ x ∧ x < (n : Int)) : ∀ (N : Nat) (W : World) (M : Nat → Bool) (p : Nat), um n M ≤ N → Cs w mb fb sb db g n q v M W → p < n → (M q = true ∨ p = q) → Calls Tryz.prog 57 #[.int .i64 (p : Nat), .pointer (some ⟨mb, 0, none⟩), .pointer (some ⟨fb, 0, none⟩), .pointer (some ⟨sb, 0, none⟩), .pointer (some ⟨db, 0, none⟩)] W (Dn w mb fb sb db g n q v ls M p) := by
  have hmx : Tryz.prog.follows .mixedOrders = true := by kernel_rfl
  intro N
  induction N with
  | zero =>
    intro W M p hu h hp hq
    cases hm : M p with
    | true => exact cb_met h hp hm
    | false =>
      have := um_lt (M' := updB M p) hp hm (by simp [updB]) (fun k hk => updB_mono hk)
      omega
  | succ N ih =>
    intro W M p hu h hp hq
    cases hm : M p with
    | true => exact cb_met h hp hm
    | false =>
      have hu1 := um_lt (M' := updB M p) hp hm (by simp [updB]) (fun k hk => updB_mono hk)
      obtain ⟨M1, hM1⟩ : ∃ M1, M1 = updB M p := ⟨_, rfl⟩
      rw [← hM1] at hu1
      have hM1p : M1 p = true := by rw [hM1]; simp [updB]
      have hM1k : ∀ k, M k = true → M1 k = true := fun k hk => by rw [hM1]; exact updB_mono hk
      have hM1r : ∀ k, M1 k = true → k = p ∨ M k = true := fun k hk => by
        rw [hM1] at hk
        unfold updB at hk
        by_cases e : k = p
        · exact Or.inl e
        · rw [if_neg e] at hk
          exact Or.inr hk
      have hM1q : M1 q = true := by
        rcases hq with h | h
        · exact hM1k q h
        · rw [← h]; exact hM1p
      obtain ⟨l, hl⟩ : ∃ l, ls[p]? = some l := ⟨ls[p]'(by omega), by simp⟩
      obtain ⟨hll, hlx⟩ := hx l (List.mem_of_getElem? hl)
      have hset := h.set p
      rw [← hM1] at hset
      obtain ⟨W1, hW1⟩ : ∃ W1, W1 = W.setCell ⟨g, p, none⟩ (.bool true) := ⟨_, rfl⟩
      rw [← hW1] at hset
      have HW1 : Hid (W.setCell ⟨g, p, none⟩ (.bool true) = W1) := hW1.symm
      obtain ⟨b, off, c1, q1, c2, e1, z0, x0, hz⟩ := hF.at hl
      have HSP : Hid (∀ r : Nat, Sp ls p r → ((r : Nat) : Int) ∈ l) := fun r hr => by
        obtain ⟨l2, h2, h3⟩ := hr
        rw [hl] at h2
        obtain rfl := Option.some.inj h2
        exact h3
      -- what stands while the next ones are asked
      have HI0 : Hid (∃ Mj, Cs w mb fb sb db g n q v Mj W1 ∧ (∀ k, M1 k = true → Mj k = true) ∧ (∀ S, Ns ls q S M1 → Ns ls q S Mj) ∧ ∀ j x, j < 0 → l[j]? = some x → Mj x.toNat = true ∧ x ≠ (q : Int)) := ⟨M1, hset, fun _ h => h, fun _ h => h, fun j x hj => absurd hj (Nat.not_lt_zero _)⟩
      have HCALL : Hid (∀ W2, Below W1.heap.size W1 W2 → Calls Tryz.prog 58 #[.slice q1 l.length c2, .func (.func 57) #[] #[.pointer (some ⟨mb, 0, none⟩), .pointer (some ⟨fb, 0, none⟩), .pointer (some ⟨sb, 0, none⟩), .pointer (some ⟨db, 0, none⟩)]] W2 fun r W' => ∃ b, r = .returned (.bool b) ∧ Hid ((b = true → ∃ Mj, Cs w mb fb sb db g n q v Mj W' ∧ (∀ k, M1 k = true → Mj k = true)) ∧ (b = false → ∃ Mj, Cs w mb fb sb db g n q v Mj W' ∧ (∀ k, M1 k = true → Mj k = true) ∧ (∀ S, Ns ls q S M1 → Ns ls q S Mj) ∧ ∀ j x, j < l.length → l[j]? = some x → Mj x.toNat = true ∧ x ≠ (q : Int)))) := fun W2 hb2 => by
        refine containsFuncI_inv (v := .slice q1 l.length c2) (l := l) 57 #[.pointer (some ⟨mb, 0, none⟩), .pointer (some ⟨fb, 0, none⟩), .pointer (some ⟨sb, 0, none⟩), .pointer (some ⟨db, 0, none⟩)] (fun i W' => ∃ Mj, Cs w mb fb sb db g n q v Mj W' ∧ (∀ k, M1 k = true → Mj k = true) ∧ (∀ S, Ns ls q S M1 → Ns ls q S Mj) ∧ ∀ j x, j < i → l[j]? = some x → Mj x.toNat = true ∧ x ≠ (q : Int)) (fun W' => ∃ Mj, Cs w mb fb sb db g n q v Mj W' ∧ (∀ k, M1 k = true → Mj k = true)) W2 (by omega) (enters_of Tryz.func57 (by kernel_rfl) rfl) (fun i W' hI => ?_) (fun i x W' hix hI => ?_) ?_
        · obtain ⟨Mj, hC, _⟩ := hI
          exact ⟨_, hz.below hC.bx.bl⟩
        · obtain ⟨Mj, hC, hj1, hj2, hj3⟩ := hI
          have hxb := hlx x (List.mem_of_getElem? hix)
          obtain ⟨e, rfl⟩ : ∃ e : Nat, x = (e : Int) := ⟨x.toNat, by omega⟩
          have hle : um n Mj ≤ N := by
            by_cases hpp : um n Mj ≤ um n M1
            · omega
            · have := um_lt (M := M) (M' := Mj) hp hm (hj1 p hM1p) (fun k hk => hj1 k (hM1k k hk))
              omega
          refine (ih W' Mj e hle hC (by omega) (Or.inl (hj1 q hM1q))).mono ?_
          rintro r W3 ⟨b, rfl, HB⟩
          obtain ⟨Mk, g1, g2, g3⟩ := HB.out
          refine ⟨b, rfl, fun _ => ⟨Mk, g1, fun k hk => g2 k (hj1 k hk)⟩, fun eb => ?_⟩
          obtain ⟨g4, g5, g6⟩ := g3 eb
          refine ⟨Mk, g1, fun k hk => g2 k (hj1 k hk), fun S hS => g6 S (hj2 S hS), fun j y hj hy => ?_⟩
          by_cases ej : j = i
          · subst ej
            rw [hix] at hy
            obtain rfl := Option.some.inj hy
            exact ⟨by simpa using g4, fun e2 => g5 (hj1 q hM1q) (by omega)⟩
          · have := hj3 j y (by omega) hy
            exact ⟨g2 _ this.1, this.2⟩
        · obtain ⟨Mj, hC, h1⟩ := HI0.out
          exact ⟨Mj, hC.below hb2, h1⟩
      have HEND : Hid (∀ W' Mj, Cs w mb fb sb db g n q v Mj W' → (∀ k, M1 k = true → Mj k = true) → (∀ S, Ns ls q S M1 → Ns ls q S Mj) → (∀ j x, j < l.length → l[j]? = some x → Mj x.toNat = true ∧ x ≠ (q : Int)) → Dn w mb fb sb db g n q v ls M p (.returned (.bool false)) W') := fun W' Mj hC h1 h2 h3 => by
        refine ⟨false, rfl, Mj, hC, fun k hk => h1 k (hM1k k hk), fun _ => ⟨h1 p hM1p, fun e e2 => ?_, fun S hS => ?_⟩⟩
        · rw [e2, e] at hm
          cases hm
        · have hN := h2 (fun r => S r ∨ r = p) (fun r hr hns t ht => by
            rcases hM1r r hr with e | e
            · exact absurd (Or.inr e) hns
            · have := hS r e (fun e2 => hns (Or.inl e2)) t ht
              exact ⟨hM1k t this.1, this.2⟩)
          intro r hr hns t ht
          by_cases e : r = p
          · subst e
            obtain ⟨j, hj⟩ := List.mem_iff_getElem?.1 (HSP.out t ht)
            have := h3 j _ (List.getElem?_eq_some_iff.1 hj).1 hj
            exact ⟨by simpa using this.1, fun e => this.2 (by omega)⟩
          · exact hN r hr (fun e2 => e2.elim hns e) t ht
      have HHIT : Hid (∀ W' Mj, Cs w mb fb sb db g n q v Mj W' → (∀ k, M1 k = true → Mj k = true) → Dn w mb fb sb db g n q v ls M p (.returned (.bool true)) W') := fun W' Mj hC h1 => ⟨true, rfl, Mj, hC, fun k hk => h1 k (hM1k k hk), fun e => by cases e⟩
      have HB1 := hid hset.bx
      have HST : Hid (w.cell? ⟨b, off + p, none⟩ = some (.slice q1 l.length c2) ∧ b < w.heap.size) := ⟨x0, z0⟩
      have hc := (h.cell hp).1
      have hg := (h.cell hp).2
      rw [hm] at hc
      have fr := h.row.frozenAt
      have cm := (tk_store h.bx.m).1
      have lm := tk_lt h.bx.m
      have hp0 : (0 : Int) ≤ (p : Int) := by omega
      have hpz : (p : Int) < (n : Int) := by omega
      rw [← hnl] at e1
      subst e1
      clear hnl
      clear h hset hW1 hl hlx hll hz x0 z0 hu hu1 hM1 hM1p hM1k hM1r hM1q hq HI0 ih hx hF hm HSP
      go_enter Tryz.func57, Tryz.ntmps57
      go_upto_region 4 with fail
      rw [HW1.out]
      clear hc hg fr cm lm HW1
      have hB0 : Below W1.heap.size W1 W1.drew := (Gr.refl W1).drew.below
      have hS0 : Bx w mb fb sb db g n q (.slice (some ⟨b, off, none⟩) n c1) W1.drew := HB1.out.kp (S := fun _ => False) (Kp.of_below hB0) (fun _ h => h.elim) id id id id
      refine wp_regionD (S := Bx w mb fb sb db g n q (.slice (some ⟨b, off, none⟩) n c1)) (D := []) hmx ?_
      refine' wpAnyD_take (i := 0) (oi := { dst := some 17, op := Go.Op.load 67 (Go.Operand.tmp 3), type := 67, pos := "cycle.go:82", after := #[], guard := none }) (v := _) rfl (by kernel_rfl) (by kernel_rfl) (by kernel_rfl) (fun _ _ _ h => h) (by kernel_rfl) (Or.inl ⟨by rfl, ?hy1⟩) hS0 ?rest1
      case hy1 => (intro W hSw; have hc := (tk_store hSw.s).1; have hl := tk_lt hSw.s; go_simp; try (with_reducible rfl))
      try simp only [Act.put, List.setIfInBounds_toArray, List.set_cons_zero, List.set_cons_succ]
      refine' wpAnyD_take (i := 1) (oi := { dst := some 18, op := Go.Op.move (Go.Operand.tmp 0), type := 3, pos := "cycle.go:82", after := #[], guard := none }) (v := _) rfl (by kernel_rfl) (by kernel_rfl) (by kernel_rfl) (fun _ _ _ h => h) (by kernel_rfl) (Or.inl ⟨by rfl, ?hy2⟩) hS0 ?rest2
      case hy2 => (intro W hSw; go_simp; try (with_reducible rfl))
      try simp only [Act.put, List.setIfInBounds_toArray, List.set_cons_zero, List.set_cons_succ]
      refine' wpAnyD_take (i := 2) (oi := { dst := some 19, op := Go.Op.indexAddr 67 (Go.Operand.tmp 17) (Go.Operand.tmp 18), type := 0, pos := "cycle.go:82", after := #[{ on := 0, ground := Go.Ground.data }, { on := 1, ground := Go.Ground.data }], guard := none }) (v := _) rfl (by kernel_rfl) (by kernel_rfl) (by kernel_rfl) (fun _ _ _ h => h) (by kernel_rfl) (Or.inl ⟨by rfl, ?hy3⟩) hS0 ?rest3
      case hy3 => (intro W hSw; go_simp; try (with_reducible rfl))
      try simp only [Act.put, List.setIfInBounds_toArray, List.set_cons_zero, List.set_cons_succ]
      refine' wpAnyD_take (i := 3) (oi := { dst := some 20, op := Go.Op.load 33 (Go.Operand.tmp 19), type := 33, pos := "cycle.go:82", after := #[{ on := 2, ground := Go.Ground.data }], guard := none }) (v := _) rfl (by kernel_rfl) (by kernel_rfl) (by kernel_rfl) (fun _ _ _ h => h) (by kernel_rfl) (Or.inl ⟨by rfl, ?hy4⟩) hS0 ?rest4
      case hy4 => (intro W hSw; have hc := (hSw.bl.cell (p := ⟨b, off + p, none⟩) HST.out.2).trans HST.out.1; have hl := Nat.lt_of_lt_of_le HST.out.2 hSw.bl.size; go_simp; try (with_reducible rfl))
      try simp only [Act.put, List.setIfInBounds_toArray, List.set_cons_zero, List.set_cons_succ]
      refine' wpAnyD_take (i := 4) (oi := { dst := some 21, op := Go.Op.load 99 (Go.Operand.tmp 4), type := 99, pos := "cycle.go:82", after := #[], guard := none }) (v := _) rfl (by kernel_rfl) (by kernel_rfl) (by kernel_rfl) (fun _ _ _ h => h) (by kernel_rfl) (Or.inl ⟨by rfl, ?hy5⟩) hS0 ?rest5
      case hy5 => (intro W hSw; have hc := (tk_store hSw.d).1; have hl := tk_lt hSw.d; go_simp; try (with_reducible rfl))
      try simp only [Act.put, List.setIfInBounds_toArray, List.set_cons_zero, List.set_cons_succ]
      refine wpAnyD_one (i := 5) (o := { dst := some 22, op := Go.Op.call { callee := Go.Callee.value (Go.Operand.func 58), args := #[Go.Operand.tmp 20, Go.Operand.tmp 21], argTypes := #[33, 99] }, type := 4, pos := "cycle.go:82", after := #[{ on := 3, ground := Go.Ground.data }, { on := 4, ground := Go.Ground.data }], guard := none }) (by kernel_rfl) rfl (fun K hK => ?_)
      go_simp
      refine (HCALL.out _ hB0).mono ?_
      rintro r w7 ⟨bb, rfl, HB⟩
      have hS7 : Bx w mb fb sb db g n q (.slice (some ⟨b, off, none⟩) n c1) w7 := by
        cases bb with
        | true =>
          obtain ⟨Mj, hC, _⟩ := HB.out.1 rfl
          exact hC.bx
        | false =>
          obtain ⟨Mj, hC, _⟩ := HB.out.2 rfl
          exact hC.bx
      go_wp2_with fail
      refine hK.out _ _ (fun hD => hS7) ?_
      clear hK K
      try simp only [Act.put, List.setIfInBounds_toArray, List.set_cons_zero, List.set_cons_succ]
      refine' wpAnyD_take (i := 6) (oi := { dst := some 6, op := Go.Op.assign (Go.Operand.tmp 22), type := 4, pos := "cycle.go:82", after := #[{ on := 5, ground := Go.Ground.data }, { on := 5, ground := Go.Ground.chain }, { on := 0, ground := Go.Ground.phase }, { on := 1, ground := Go.Ground.phase }, { on := 2, ground := Go.Ground.phase }, { on := 3, ground := Go.Ground.phase }, { on := 4, ground := Go.Ground.phase }, { on := 5, ground := Go.Ground.phase }], guard := none }) (v := _) rfl (by kernel_rfl) (by kernel_rfl) (by kernel_rfl) (fun _ _ _ h => h) (by kernel_rfl) (Or.inl ⟨by rfl, ?hy7⟩) hS7 ?rest7
      case hy7 => (intro W hSw; go_simp; try (with_reducible rfl))
      try simp only [Act.put, List.setIfInBounds_toArray, List.set_cons_zero, List.set_cons_succ]
      refine wpAnyD_done (by kernel_rfl) ?_ _
      clear hS0 hS7 hB0
      go_wp2_with fail
      go_ret
      cases bb with
      | true =>
        obtain ⟨Mj, hC, h1⟩ := HB.out.1 rfl
        exact HHIT.out w7 Mj hC h1
      | false =>
        obtain ⟨Mj, hC, h1, h2, h3⟩ := HB.out.2 rfl
        exact HEND.out w7 Mj hC h1 h2 h3
theorem new1' (w : World) (o1 o2 : Obj) : ((w.alloc o1).alloc o2).heap[w.heap.size]? = some o1 := new1 w o1 o2
theorem new2' (w : World) (o1 o2 : Obj) : ((w.alloc o1).alloc o2).heap[w.heap.size + 1]? = some o2 := new2 w o1 o2
theorem ns_none {ls : List (List Int)} {q : Nat} {M : Nat → Bool} (h : Ns ls q (fun _ => False) M) (hq : M q = true) (m : Nat) : ¬ Ry ls q m q := by
  have hw : ∀ (l : List Nat), Wp ls l q → ∀ p, l.head? = some p → M p = true → False := by
    intro l
    induction l with
    | nil => intro _ p e; cases e
    | cons v l ih =>
      intro hw p e hp
      simp at e
      subst e
      obtain ⟨u, hu, h2⟩ := hw.next
      have h3 := h v hp id u hu
      rcases h2 with ⟨_, e⟩ | ⟨e, h4⟩
      · exact h3.2 e
      · exact ih h4 u e h3.1
  rintro ⟨l, h1, h2, _⟩
  exact hw l h2 q h1 hq
set_option maxHeartbeats 4000000 in
/-- What is false comes back nowhere. -/
theorem comesBack_any {M0 : Nat} {v : Value} {ls : List (List Int)} (q : Nat) (w : World) (hF : Ff M0 w v ls) (hq : q < ls.length) (hn : ls.length ≤ 1000) (hx : ∀ l ∈ ls, l.length ≤ 1000 ∧ ∀ x ∈ l, 0 ≤ x ∧ x < (ls.length : Int)) : Calls Tryz.prog 30 #[v, .int .i64 (q : Nat)] w fun r w' => ∃ b, r = .returned (.bool b) ∧ Hid (Below w.heap.size w w' ∧ (b = false → ∀ m, ¬ Ry ls q m q)) := by
  obtain ⟨p, c, hv⟩ := hF.form
  obtain ⟨i0, hi0, hz0, hz1, hz2⟩ := info_parts (show (Tryz.prog.info? 4).map (fun i => (i.zero, i.size, i.bytes)) = some (some (.bool false), 1, 1) by kernel_rfl)
  obtain ⟨n, hnn⟩ : ∃ n, n = ls.length := ⟨_, rfl⟩
  rw [← hnn] at hq hn hx hv
  subst hv
  obtain ⟨W1, hW1⟩ : ∃ W1, W1 = (w.alloc (.cells #[.slice p n c] 67)).alloc (.cells #[.int .i64 (q : Nat)] 3) := ⟨_, rfl⟩
  have HW1 : Hid (W1 = (w.alloc (.cells #[.slice p n c] 67)).alloc (.cells #[.int .i64 (q : Nat)] 3)) := hW1
  have HF := hid hF
  have HN := hid hnn
  have HX := hid hx
  clear hF hnn hx hW1
  go_enter Tryz.func30, Tryz.ntmps30
  go_upto_region 1 with fail
  rw [← HW1.out]
  obtain ⟨sb, hsb⟩ : ∃ b, b = w.heap.size := ⟨_, rfl⟩
  have N1 : Hid (W1.heap[sb]? = some (.cells #[.slice p n c] 67 (0, 0)) ∧ W1.heap[sb + 1]? = some (.cells #[.int .i64 (q : Nat)] 3 (0, 0)) ∧ W1.heap.size = sb + 2 ∧ Below w.heap.size w W1) := by
    rw [HW1.out, hsb]
    exact ⟨new1' w _ _, new2' w _ _, by simp, (((Gr.refl w).alloc _).alloc _).below⟩
  rw [← hsb]
  have c1 := (tk_store N1.out.1).1
  have l1 := tk_lt N1.out.1
  have HSB := hid hsb
  clear hsb HW1
  go_upto_region 2 with (at_make; refine wpList_make_full _ rfl _ _ 40 rfl W1.heap.size 4 i0 (.bool false) 1 Tryz.underlying40 hi0 hz0 hz1 _ _ _ _ n rfl rfl rfl rfl (by rw [hz2]; omega) (by unfold maxLen; omega) (Nat.le_refl _) ?_; intro w2 hrow hg1)
  obtain ⟨g, hg⟩ : ∃ g, g = W1.heap.size := ⟨_, rfl⟩
  obtain ⟨mb, hmb⟩ : ∃ b, b = w2.heap.size := ⟨_, rfl⟩
  rw [← hg, ← hmb]
  obtain ⟨W3, hW3⟩ : ∃ W, W = w2.alloc (.cells #[.slice (some ⟨g, 0, none⟩) n n] 40) := ⟨_, rfl⟩
  rw [← hW3]
  have hb2 : Below W1.heap.size W1 w2 := (Kp.grownBy (S := fun _ => False) hg1 (fun _ h => by cases h)).below (Nat.le_refl _) (fun _ h => h.elim)
  have hb3 : Below w2.heap.size w2 W3 := by rw [hW3]; exact ((Gr.refl w2).alloc _).below
  have N3 : Hid (W3.heap[sb]? = some (.cells #[.slice p n c] 67 (0, 0)) ∧ W3.heap[sb + 1]? = some (.cells #[.int .i64 (q : Nat)] 3 (0, 0)) ∧ W3.heap[mb]? = some (.cells #[.slice (some ⟨g, 0, none⟩) n n] 40 (0, 0)) ∧ Below w.heap.size w W3 ∧ W3.ownsRow w.heap.size 4 1 (.slice (some ⟨g, 0, none⟩) n n) n (fl EBo (fnB n fun _ => false))) := by
    have hb := hb2.trans (hb3.mono hb2.size)
    refine ⟨(hb.block _ (tk_lt N1.out.1)).trans N1.out.1, (hb.block _ (tk_lt N1.out.2.1)).trans N1.out.2.1, by rw [hW3, hmb]; exact heap_new' _ _, N1.out.2.2.2.trans (hb.mono N1.out.2.2.2.size), ?_⟩
    have hr := owns_below (owns_base hrow N1.out.2.2.2.size) hb3
    rw [hg]
    refine owns_re hr rfl ?_
    rw [madeB]
  clear hrow hg1 hg hmb hW3 hb2 hb3 c1 l1 N1 hi0 hz0 hz1 hz2
  go_upto_region 4 with fail
  obtain ⟨db, hdb⟩ : ∃ b, b = W3.heap.size := ⟨_, rfl⟩
  rw [← hdb]
  obtain ⟨W5, hW5⟩ : ∃ W, W = W3.alloc (.cells #[.func (.func 57) #[] #[.pointer (some ⟨mb, 0, none⟩), .pointer (some ⟨sb + 1, 0, none⟩), .pointer (some ⟨sb, 0, none⟩), .pointer (some ⟨db, 0, none⟩)]] 99) := ⟨_, rfl⟩
  rw [← hW5]
  have hb5 : Below W3.heap.size W3 W5 := by rw [hW5]; exact ((Gr.refl W3).alloc _).below
  have C5 : Cs w mb (sb + 1) sb db g n q (.slice p n c) (fun _ => false) W5 := ⟨⟨N3.out.2.2.2.1.trans (hb5.mono N3.out.2.2.2.1.size), (hb5.block _ (tk_lt N3.out.2.2.1)).trans N3.out.2.2.1, (hb5.block _ (tk_lt N3.out.2.1)).trans N3.out.2.1, (hb5.block _ (tk_lt N3.out.1)).trans N3.out.1, by rw [hW5, hdb]; exact heap_new' _ _⟩, owns_below N3.out.2.2.2.2 hb5⟩
  have hcall := cb_down HF.out HN.out HX.out (um n fun _ => false) W5 (fun _ => false) q (Nat.le_refl _) C5 hq (Or.inr rfl)
  have c6 := (tk_store C5.bx.d).1
  have l6 := tk_lt C5.bx.d
  have c7 := (tk_store C5.bx.f).1
  have l7 := tk_lt C5.bx.f
  clear hb5 hW5 hdb N3 C5
  go_wp2_with fail
  refine hcall.mono ?_
  clear hcall
  rintro r w7 ⟨b, rfl, HB⟩
  go_wp2_with fail
  go_ret
  refine ⟨b, rfl, ?_⟩
  obtain ⟨M', h1, _, h3⟩ := HB.out
  refine ⟨h1.bx.bl, fun e => ?_⟩
  obtain ⟨h4, _, h6⟩ := h3 e
  exact ns_none (h6 (fun _ => False) (fun p hp => by cases hp)) h4
end Go.Proofs.YtngnfglnfkhheaaGreat.Df

namespace Go.Proofs.YtngnfglnfkhheaaGreat.Df
open Go.RowKit Go.Sort
attribute [local go_sem ↓] Go.wp_at_zero Go.wp_at_succ

/-- The boxes of Find's closure, what is in vain, and the way so far. -/
structure Fs (w : World) (ib wb sb fb db g n q : Nat) (v : Value) (f : Nat → Int) (way : List Nat) (wv : Value) (W : World) : Prop where
  bl : Below w.heap.size w W
  i : W.heap[ib]? = some (.cells #[.slice (some ⟨g, 0, none⟩) n n] 33 (0, 0))
  y : W.heap[wb]? = some (.cells #[wv] 33 (0, 0))
  s : W.heap[sb]? = some (.cells #[v] 67 (0, 0))
  f0 : W.heap[fb]? = some (.cells #[.int .i64 (q : Nat)] 3 (0, 0))
  d : W.heap[db]? = some (.cells #[.func (.func 31) #[] #[.pointer (some ⟨ib, 0, none⟩), .pointer (some ⟨wb, 0, none⟩), .pointer (some ⟨sb, 0, none⟩), .pointer (some ⟨fb, 0, none⟩), .pointer (some ⟨db, 0, none⟩)]] 70 (0, 0))
  ri : W.ownsRow w.heap.size 3 1 (.slice (some ⟨g, 0, none⟩) n n) n (fl EI (fnL n f))
  ry : W.ownsRow w.heap.size 3 1 wv way.length (fl EI (ints way))
  a1 : ∀ k, wv.ownBlock = some k → k ≠ g ∧ k ≠ fb
  a2 : fb ≠ g
  a3 : ib ≠ wb
  lo : w.heap.size ≤ wb
  nn : ∀ k, 0 ≤ f k
section
variable {w W W' : World} {ib wb sb fb db g n q : Nat} {v wv : Value} {f : Nat → Int} {way : List Nat}
theorem ne_ty {b b' : Nat} {cs cs' : Array Value} {T T' : TypeId} {z z' : Nat × Nat} (h : W.heap[b]? = some (.cells cs T z)) (h' : W.heap[b']? = some (.cells cs' T' z')) (hT : T ≠ T') : b ≠ b' := fun e => by
  rw [e, h'] at h
  simp only [Option.some.injEq, Obj.cells.injEq] at h
  exact hT h.2.1.symm
theorem Fs.below (h : Fs w ib wb sb fb db g n q v f way wv W) (hb : Below W.heap.size W W') : Fs w ib wb sb fb db g n q v f way wv W' :=
  ⟨h.bl.trans (hb.mono h.bl.size), (hb.block _ (tk_lt h.i)).trans h.i, (hb.block _ (tk_lt h.y)).trans h.y, (hb.block _ (tk_lt h.s)).trans h.s, (hb.block _ (tk_lt h.f0)).trans h.f0, (hb.block _ (tk_lt h.d)).trans h.d, owns_below h.ri hb, owns_below h.ry hb, h.a1, h.a2, h.a3, h.lo, h.nn⟩
/-- Another way is put into its box: what else has changed are blocks of its own. -/
theorem Fs.wput {S : Nat → Prop} {way' : List Nat} {wv' : Value} {W1 : World} (h : Fs w ib wb sb fb db g n q v f way wv W) (hk : Kp S W W1) (hS : ∀ k, S k → wv.ownBlock = some k) (hr : W1.ownsRow w.heap.size 3 1 wv' way'.length (fl EI (ints way'))) (ha : ∀ k, wv'.ownBlock = some k → k ≠ g ∧ k ≠ fb) : Fs w ib wb sb fb db g n q v f way' wv' (W1.setCell ⟨wb, 0, none⟩ wv') ∧ W1.frozen? ⟨wb, 0, none⟩ = false ∧ (∃ u, W1.cell? ⟨wb, 0, none⟩ = some u) ∧ wb < W1.heap.size := by
  have hni : ∀ {b : Nat} {cs : Array Value} {T : TypeId}, W.heap[b]? = some (.cells cs T (0, 0)) → 3 ≠ T → ¬ S b := fun hb hT e => owns_ne_blk h.ry hb hT _ (hS _ e) rfl
  have hf : ¬ S fb := fun e => (h.a1 fb (hS _ e)).2 rfl
  have hg : ¬ S g := fun e => (h.a1 g (hS _ e)).1 rfl
  have hlo : ∀ k, S k → w.heap.size ≤ k := fun k e => (owns_rd h.ry k (hS k e)).1
  have y1 := (hk.block _ (tk_lt h.y) (hni h.y (by decide))).trans h.y
  obtain ⟨y2, k2⟩ := tk_set y1 0 wv'
  have nw : ∀ {b : Nat} {cs : Array Value} {T : TypeId}, W.heap[b]? = some (.cells cs T (0, 0)) → ¬ S b → b ≠ wb → (W1.setCell ⟨wb, 0, none⟩ wv').heap[b]? = some (.cells cs T (0, 0)) := fun hb hs hne => (k2.block _ (Nat.lt_of_lt_of_le (tk_lt hb) hk.size) hne).trans ((hk.block _ (tk_lt hb) hs).trans hb)
  refine ⟨⟨(h.bl.trans (hk.below h.bl.size hlo)).trans (k2.below (Nat.le_trans h.bl.size hk.size) (fun k e => by rw [e]; exact h.lo)), nw h.i (hni h.i (by decide)) h.a3, y2, nw h.s (hni h.s (by decide)) (ne_ty h.s h.y (by decide)), nw h.f0 hf (ne_ty h.f0 h.y (by decide)), nw h.d (hni h.d (by decide)) (ne_ty h.d h.y (by decide)), ?_, ?_, ha, h.a2, h.a3, h.lo, h.nn⟩, ?_, ⟨wv, (tk_store y1).1 0⟩, tk_lt y1⟩
  · refine owns_kp k2 (owns_kp hk h.ri (fun k e => ?_)) (fun k e e2 => owns_ne_blk h.ri h.y (by decide) k e e2)
    have : k = g := by simpa [Value.ownBlock] using e.symm
    rw [this]
    exact hg
  · exact owns_kp k2 hr (fun k e e2 => owns_ne_blk hr y1 (by decide) k e e2)
  · exact (tk_store y1).2 0
theorem Fs.vain (h : Fs w ib wb sb fb db g n q v f way wv W) (k : Nat) (x : Int) (hx : 0 ≤ x) : Fs w ib wb sb fb db g n q v (upd f k x) way wv (W.setCell ⟨g, k, none⟩ (.int .i64 x)) := by
  obtain ⟨h1, k2⟩ := owns_one h.ri k (.int .i64 x)
  rw [fl_Iset, fnL_set] at h1
  have nb : ∀ {b : Nat} {cs : Array Value} {T : TypeId}, W.heap[b]? = some (.cells cs T (0, 0)) → b ≠ g → (W.setCell ⟨g, k, none⟩ (.int .i64 x)).heap[b]? = some (.cells cs T (0, 0)) := fun hb hne => (k2.block _ (tk_lt hb) hne).trans hb
  have ng : ∀ {b : Nat} {cs : Array Value} {T : TypeId}, W.heap[b]? = some (.cells cs T (0, 0)) → 3 ≠ T → b ≠ g := fun hb hT e => owns_ne_blk h.ri hb hT g rfl e.symm
  refine ⟨h.bl.trans (k2.below h.bl.size (fun j e => by rw [e]; exact (owns_rd h.ri g rfl).1)), nb h.i (ng h.i (by decide)), nb h.y (ng h.y (by decide)), nb h.s (ng h.s (by decide)), nb h.f0 h.a2, nb h.d (ng h.d (by decide)), h1, owns_kp k2 h.ry (fun j e e2 => (h.a1 j e).1 e2), h.a1, h.a2, h.a3, h.lo, fun j => ?_⟩
  unfold upd
  split
  · exact hx
  · exact h.nn j
theorem Fs.cell (h : Fs w ib wb sb fb db g n q v f way wv W) {k : Nat} (hk : k < n) : W.cell? ⟨g, k, none⟩ = some (.int .i64 (f k)) ∧ g < W.heap.size := by
  have hr : W.ownsRow w.heap.size 3 1 (.slice (some ⟨g, 0, none⟩) n n) (fnL n f).length (fl EI (fnL n f)) := owns_re h.ri (fnL_len n f).symm rfl
  obtain ⟨b, o, c, hv, hb, hx⟩ := (owns_ls (E := EI) hr).get (fnL_get f hk)
  simp only [Value.slice.injEq, Option.some.injEq, Addr.mk.injEq] at hv
  obtain ⟨⟨rfl, rfl, -⟩, -, -⟩ := hv
  have h0 := hx 0 _ (by decide) rfl
  simp only [Nat.zero_add, show EI.k = 1 from rfl, Nat.mul_one, Nat.add_zero] at h0
  exact ⟨h0, hb⟩
end
/-- A row without its last. -/
theorem owns_pop {w : World} {B g m c : Nat} {l : List Int} {x : Int} (h : w.ownsRow B 3 1 (.slice (some ⟨g, 0, none⟩) m c) (l ++ [x]).length (fl EI (l ++ [x]))) : w.ownsRow B 3 1 (.slice (some ⟨g, 0, none⟩) l.length c) l.length (fl EI l) := by
  rcases h.2 with ⟨h0, _⟩ | ⟨g', cap', cur, hv, hbase, hb, h1, h2, h3, h4⟩
  · cases h0
  · simp only [Value.slice.injEq, Option.some.injEq, Addr.mk.injEq] at hv
    obtain ⟨⟨rfl, -, -⟩, -, rfl⟩ := hv
    refine ⟨by rw [fl_I]; simp, Or.inr ⟨g, c, cur, rfl, hbase, hb, by simp at h1; omega, h2, h3, ?_⟩⟩
    rw [fl_I] at h4 ⊢
    have h5 : (cur.toList.take ((l ++ [x]).length * 1)).take (l.length * 1) = ((l ++ [x]).map (Value.int .i64)).take (l.length * 1) := by rw [h4]
    rw [List.take_take, Nat.min_eq_left (by simp)] at h5
    rw [h5, Nat.mul_one, List.map_append, List.take_left' (by simp)]
/-- What the closure answers. -/
def Fa (w : World) (ib wb sb fb db g n q : Nat) (v : Value) (way : List Nat) (x : Option (List Nat) × (Nat → Int)) (r : Ending) (W' : World) : Prop := match x.1 with
  | some l => r = .returned (.bool true) ∧ ∃ wv', Fs w ib wb sb fb db g n q v x.2 (way ++ l) wv' W'
  | none => r = .returned (.bool false) ∧ ∃ wv', Fs w ib wb sb fb db g n q v x.2 way wv' W'
theorem fd_vain {w W : World} {ib wb sb fb db g n q m p : Nat} {v wv : Value} {f : Nat → Int} {way : List Nat} {ls : List (List Int)} (h : Fs w ib wb sb fb db g n q v f way wv W) (hp : p < n) (hm : (m : Int) ≤ f p) : Calls Tryz.prog 31 #[.int .i64 (p : Nat), .int .i64 (m : Nat), .pointer (some ⟨ib, 0, none⟩), .pointer (some ⟨wb, 0, none⟩), .pointer (some ⟨sb, 0, none⟩), .pointer (some ⟨fb, 0, none⟩), .pointer (some ⟨db, 0, none⟩)] W (Fa w ib wb sb fb db g n q v way (downN ls q m p f)) := by
  have e : downN ls q m p f = (none, f) := by
    cases m with
    | zero => rfl
    | succ m => unfold downN; rw [if_pos (by push_cast at hm; exact hm)]
  rw [e]
  have H : Hid (Fa w ib wb sb fb db g n q v way (none, f) (.returned (.bool false)) W) := ⟨rfl, wv, h⟩
  have hc := (h.cell hp).1
  have hg := (h.cell hp).2
  have ci := (tk_store h.i).1
  have li := tk_lt h.i
  have hp0 : (0 : Int) ≤ (p : Int) := by omega
  have hpz : (p : Int) < (n : Int) := by omega
  clear h e
  go_enter Tryz.func31, Tryz.ntmps31
  go_wp2_with fail
  go_ret
  exact H.out
set_option maxRecDepth 100000 in
set_option maxHeartbeats 4000000 in
theorem fd_down {w : World} {ib wb sb fb db g n q : Nat} {v : Value} {ls : List (List Int)} {M0 : Nat} (hF : Ff M0 w v ls) (hnl : n = ls.length) (hx : ∀ l ∈ ls, l.length ≤ 1000 ∧ ∀ x ∈ l, 0 ≤ x ∧ x < (n : Int)) : ∀ (m : Nat) (W : World) (f : Nat → Int) (way : List Nat) (wv : Value) (p : Nat), Fs w ib wb sb fb db g n q v f way wv W → p < n → way.length + m ≤ 5000 → Calls Tryz.prog 31 #[.int .i64 (p : Nat), .int .i64 (m : Nat), .pointer (some ⟨ib, 0, none⟩), .pointer (some ⟨wb, 0, none⟩), .pointer (some ⟨sb, 0, none⟩), .pointer (some ⟨fb, 0, none⟩), .pointer (some ⟨db, 0, none⟩)] W (Fa w ib wb sb fb db g n q v way (downN ls q m p f)) := by
  intro m
  induction m with
  | zero =>
    intro W f way wv p h hp _
    exact fd_vain h hp (h.nn p)
  | succ m ih =>
    intro W f way wv p h hp hwm
    by_cases hv0 : ((m + 1 : Nat) : Int) ≤ f p
    · exact fd_vain h hp hv0
    · obtain ⟨l, hl⟩ : ∃ l, ls[p]? = some l := ⟨ls[p]'(by omega), by simp⟩
      obtain ⟨hll, hlx⟩ := hx l (List.mem_of_getElem? hl)
      obtain ⟨b, off, c1, q1, c2, e1, z0, x0, hz⟩ := hF.at hl
      have HST : Hid (w.cell? ⟨b, off + p, none⟩ = some (.slice q1 l.length c2) ∧ b < w.heap.size) := ⟨x0, z0⟩
      have HZ := hid hz
      rw [← hnl] at e1
      subst e1
      have HDN : Hid (∀ r W', (match (loopN (downN ls q m) q l f).1 with
        | some l2 => r = .returned (.bool true) ∧ ∃ wv', Fs w ib wb sb fb db g n q (.slice (some ⟨b, off, none⟩) n c1) (loopN (downN ls q m) q l f).2 (way ++ (p :: l2)) wv' W'
        | none => r = .returned (.bool false) ∧ ∃ wv', Fs w ib wb sb fb db g n q (.slice (some ⟨b, off, none⟩) n c1) (upd (loopN (downN ls q m) q l f).2 p ((m : Int) + 1)) way wv' W') → Fa w ib wb sb fb db g n q (.slice (some ⟨b, off, none⟩) n c1) way (downN ls q (m + 1) p f) r W') := fun r W' hr => by
        have e2 : downN ls q (m + 1) p f = match loopN (downN ls q m) q l f with
          | (some l, f') => (some (p :: l), f')
          | (none, f') => (none, upd f' p ((m : Int) + 1)) := by
          rw [downN, if_neg (by push_cast at hv0; exact hv0), hl]
          rfl
        rw [e2]
        unfold Fa
        revert hr
        cases loopN (downN ls q m) q l f with
        | mk a f' =>
          cases a with
          | none => exact id
          | some l2 => exact id
      have IH : Hid (∀ (W : World) (f : Nat → Int) (way : List Nat) (wv : Value) (p : Nat), Fs w ib wb sb fb db g n q (.slice (some ⟨b, off, none⟩) n c1) f way wv W → p < n → way.length + m ≤ 5000 → Calls Tryz.prog 31 #[.int .i64 (p : Nat), .int .i64 (m : Nat), .pointer (some ⟨ib, 0, none⟩), .pointer (some ⟨wb, 0, none⟩), .pointer (some ⟨sb, 0, none⟩), .pointer (some ⟨fb, 0, none⟩), .pointer (some ⟨db, 0, none⟩)] W (Fa w ib wb sb fb db g n q (.slice (some ⟨b, off, none⟩) n c1) way (downN ls q m p f))) := ih
      have HLX := hid hlx
      have H := hid h
      have hc := (h.cell hp).1
      have hg := (h.cell hp).2
      have ci := (tk_store h.i).1
      have li := tk_lt h.i
      have cy := (tk_store h.y).1
      have ly := tk_lt h.y
      have fy := (tk_store h.y).2
      have hp0 : (0 : Int) ≤ (p : Int) := by omega
      have hpz : (p : Int) < (n : Int) := by omega
      have hvz : ¬ (m : Int) + 1 ≤ f p := by push_cast at hv0; exact hv0
      have HBW := hid h.bl.size
      obtain ⟨wq, wm, wc, hwv⟩ := owns_form h.ry
      subst hwv
      clear h ih hx hF hnl hl hlx hz x0 z0 hv0
      have HAP : Hid (∀ g9 c9 w9, w9.ownsRow w.heap.size 3 1 (.slice (some ⟨g9, 0, none⟩) (way.length + 1) c9) (way.length + 1) (fl EI (ints way) ++ EI.enc ((p : Nat) : Int)) → W.grownBy w9 (Value.slice wq wm wc).ownBlock → ((Value.slice wq wm wc).ownBlock = some g9 ∨ W.heap.size ≤ g9) → Fs w ib wb sb fb db g n q (.slice (some ⟨b, off, none⟩) n c1) f (way ++ [p]) (.slice (some ⟨g9, 0, none⟩) (way.length + 1) c9) (w9.setCell ⟨wb, 0, none⟩ (.slice (some ⟨g9, 0, none⟩) (way.length + 1) c9)) ∧ w9.frozen? ⟨wb, 0, none⟩ = false ∧ (∃ u, w9.cell? ⟨wb, 0, none⟩ = some u) ∧ wb < w9.heap.size) := fun g9 c9 w9 r1 r2 r3 => by
        refine H.out.wput (S := fun k => (Value.slice wq wm wc).ownBlock = some k) (Kp.grownBy r2 (fun _ h => h)) (fun _ h => h) (owns_re r1 (by simp) (by simp [ints, fl_append, fl_one])) (fun k e => ?_)
        obtain rfl : g9 = k := by simpa [Value.ownBlock] using e
        rcases r3 with r3 | r3
        · exact H.out.a1 g9 r3
        · have h1 := tk_lt H.out.f0
          exact ⟨by omega, by omega⟩
      push_cast
      go_enter Tryz.func31, Tryz.ntmps31
      go_upto_region 4 with (at_builtin; refine wpApp1 EI Tryz.underlying33 infoIK rfl (by decide) rfl _ _ rfl w.heap.size _ way.length _ rfl H.out.ry ((p : Nat) : Int) rfl (by omega) (by unfold maxLen; omega) HBW.out _ rfl _ ?_; intro g9 c9 w9 r1 r2 r3; obtain ⟨F9, f9, ⟨u9, cc9⟩, l9⟩ := HAP.out g9 c9 w9 r1 r2 r3; have F9 := hid F9; clear r1 r2 r3)
      obtain ⟨W9, hW9⟩ : ∃ W, W = w9.setCell ⟨wb, 0, none⟩ (.slice (some ⟨g9, 0, none⟩) (way.length + 1) c9) := ⟨_, rfl⟩
      rw [← hW9] at F9 ⊢
      have cs9 := (tk_store F9.out.s).1
      have ls9 := tk_lt F9.out.s
      have ct9 := (F9.out.bl.cell (p := ⟨b, off + p, none⟩) HST.out.2).trans HST.out.1
      have lt9 := Nat.lt_of_lt_of_le HST.out.2 F9.out.bl.size
      clear hW9 f9 cc9 l9 cy ly fy ci li hc hg hvz HAP H
      go_wp2_with fail
      clear cs9 ls9 ct9 lt9
      go_loopw [27] (fun s27 wr => ∃ k : Nat, k ≤ l.length ∧ s27 = .int .i64 (k : Nat) ∧ Hid (∃ fk wvk, loopN (downN ls q m) q l f = loopN (downN ls q m) q (l.drop k) fk ∧ Fs w ib wb sb fb db g n q (.slice (some ⟨b, off, none⟩) n c1) fk (way ++ [p]) wvk wr)) (fun s27 _ => l.length - (RowKit.intOf s27).toNat)
      case atStart => exact ⟨0, Nat.zero_le _, rfl, f, _, rfl, F9.out⟩
      case round =>
        clear F9
        obtain ⟨k, hk, rfl, HI⟩ := hrel
        obtain ⟨fk, wvk, hlo, hfs⟩ := HI.out
        clear HI
        by_cases hlk : k < l.length
        · have hlkz : (k : Int) < (l.length : Int) := by omega
          have hk0 : (0 : Int) ≤ (k : Int) := by omega
          obtain ⟨x, hx⟩ : ∃ x, l[k]? = some x := ⟨l[k], by simp⟩
          have hxb := HLX.out x (List.mem_of_getElem? hx)
          obtain ⟨e, rfl⟩ : ∃ e : Nat, x = (e : Int) := ⟨x.toNat, by omega⟩
          obtain ⟨b2, o2, c3, e2, z2, y0⟩ := ls_atI ((HZ.out.below hfs.bl).ls hx) hx
          simp only [Value.slice.injEq] at e2
          obtain ⟨rfl, -, rfl⟩ := e2
          have hdr : l.drop k = ((e : Nat) : Int) :: l.drop (k + 1) := by
            rw [List.drop_eq_getElem_cons hlk]
            congr 1
            rw [List.getElem?_eq_getElem hlk] at hx
            exact Option.some.inj hx
          rw [hdr, loopN] at hlo
          have HFS := hid hfs
          have cf := (tk_store hfs.f0).1
          have lf := tk_lt hfs.f0
          have cd := (tk_store hfs.d).1
          have ld := tk_lt hfs.d
          have hen : e < n := by omega
          by_cases heq : e = q
          · rw [if_pos (by omega)] at hlo
            have FIN : Hid (Fa w ib wb sb fb db g n q (.slice (some ⟨b, off, none⟩) n c1) way (downN ls q (m + 1) p f) (.returned (.bool true)) wr) := HDN.out _ _ (by rw [hlo]; exact ⟨rfl, wvk, hfs⟩)
            subst heq
            clear hlo hfs hx hdr hxb
            go_wp2_with fail
            go_ret
            exact FIN.out
          · rw [if_neg (by omega)] at hlo
            have hez : ¬ ((e : Nat) : Int) = ((q : Nat) : Int) := by omega
            have hcall := IH.out wr fk (way ++ [p]) wvk e hfs hen (by simp; omega)
            have hwrap : IntKind.i64.wrap ((m : Int) + 1 - 1) = (m : Int) := by rw [IntKind.wrap_i64]; omega
            have HLO := hid hlo
            clear hlo hfs hx hdr hxb
            have hbq : (((e : Nat) : Int) == ((q : Nat) : Int)) = false := by simpa using hez
            go_wp2_with fail
            refine hcall.mono ?_
            clear hcall cf lf cd ld z2 y0
            intro r w10 hr
            have HR := hid hr
            clear hr
            cases hdn : downN ls q m e fk with
            | mk a f' =>
              have hr := HR.out
              have hlo := HLO.out
              rw [show ((e : Nat) : Int).toNat = e by omega, hdn] at hlo
              rw [hdn] at hr
              clear HR HLO hdn
              cases a with
              | some l2 =>
                obtain ⟨rfl, wv', h2⟩ := hr
                have FIN : Hid (Fa w ib wb sb fb db g n q (.slice (some ⟨b, off, none⟩) n c1) way (downN ls q (m + 1) p f) (.returned (.bool true)) w10) := HDN.out _ _ (by rw [hlo]; exact ⟨rfl, wv', by have h3 := h2; rw [List.append_assoc] at h3; exact h3⟩)
                clear hlo h2
                go_wp2_with fail
                go_ret
                exact FIN.out
              | none =>
                obtain ⟨rfl, wv', h2⟩ := hr
                have FIN : Hid (∃ fk wvk, loopN (downN ls q m) q l f = loopN (downN ls q m) q (l.drop (k + 1)) fk ∧ Fs w ib wb sb fb db g n q (.slice (some ⟨b, off, none⟩) n c1) fk (way ++ [p]) wvk w10) := ⟨f', wv', hlo, h2⟩
                clear hlo h2
                go_wp2_with fail
                go_roundw
                case rel => exact ⟨k + 1, by omega, by go_num, FIN.out⟩
                case measure => simp [RowKit.intOf]; omega
        · have hlkz : ¬ (k : Int) < (l.length : Int) := by omega
          rw [List.drop_eq_nil_of_le (by omega), loopN] at hlo
          obtain ⟨wq2, wm2, wc2, hwv⟩ := owns_form hfs.ry
          subst hwv
          have hry := hfs.ry
          obtain ⟨hm2, hcap2⟩ := owns_caps hry _ _ _ rfl
          obtain ⟨g10, hq2⟩ : ∃ g10, wq2 = some ⟨g10, 0, none⟩ := by
            rcases hry.2 with ⟨h0, h1⟩ | ⟨g', cap', cur, hv, _⟩
            · simp at h1
            · simp only [Value.slice.injEq] at hv
              exact ⟨g', hv.1⟩
          subst hq2
          have hl2 : wm2 = way.length + 1 := by rw [hm2]; simp
          subst hl2
          have e3 : ints (way ++ [p]) = ints way ++ [((p : Nat) : Int)] := by simp [ints]
          have hpop : wr.ownsRow w.heap.size 3 1 (.slice (some ⟨g10, 0, none⟩) way.length wc2) way.length (fl EI (ints way)) := by
            rw [e3] at hry
            have h4 := owns_pop (owns_re hry (by simp) rfl)
            simpa using h4
          obtain ⟨Y1, Y2, -, Y4⟩ := hfs.wput (S := fun _ => False) (Kp.refl _ _) (fun _ h => h.elim) hpop (fun k e => hfs.a1 k e)
          obtain ⟨W11, hW11⟩ : ∃ W, W = wr.setCell ⟨wb, 0, none⟩ (.slice (some ⟨g10, 0, none⟩) way.length wc2) := ⟨_, rfl⟩
          rw [← hW11] at Y1
          have HW11 : Hid (wr.setCell ⟨wb, 0, none⟩ (.slice (some ⟨g10, 0, none⟩) way.length wc2) = W11) := hW11.symm
          have FIN : Hid (Fa w ib wb sb fb db g n q (.slice (some ⟨b, off, none⟩) n c1) way (downN ls q (m + 1) p f) (.returned (.bool false)) (W11.setCell ⟨g, p, none⟩ (.int .i64 ((m : Int) + 1)))) := HDN.out _ _ (by rw [hlo]; exact ⟨rfl, _, Y1.vain p ((m : Int) + 1) (by omega)⟩)
          have cy := (tk_store hfs.y).1
          have ci := (tk_store Y1.i).1
          have li := tk_lt Y1.i
          have cg := (Y1.cell hp).1
          have lg := (Y1.cell hp).2
          have fg := own_frK Y1.ri
          obtain ⟨wl, hwl⟩ : ∃ k, k = way.length := ⟨_, rfl⟩
          rw [← hwl] at HW11
          simp only [← hwl] at cy
          have hwl9 : wl ≤ 5000 := by omega
          have hcap3 : wl ≤ wc2 := by rw [List.length_append, List.length_singleton] at hcap2; omega
          clear hlo hfs hry hm2 hcap2 e3 hpop Y1 hW11 hwl
          go_upto_region 11 with fail
          rw [HW11.out]
          clear HW11 Y2 Y4 cy
          go_wp2_with fail
          go_ret
          exact FIN.out
end Go.Proofs.YtngnfglnfkhheaaGreat.Df

namespace Go.Proofs.YtngnfglnfkhheaaGreat.Df
open Go.RowKit Go.Sort
attribute [local go_sem ↓] Go.wp_at_zero Go.wp_at_succ
theorem nlNodes_any (w : World) : Calls Tryz.prog 54 #[.pointer none] w fun r w' => r = .returned (.int .i64 0) ∧ w' = w := by
  go_enter Tryz.func54, Tryz.ntmps54
  go_wp2_with fail
  go_ret
  exact ⟨rfl, rfl⟩
theorem nlPlaces_any (w : World) : Calls Tryz.prog 52 #[.pointer none] w fun r w' => r = .returned (.int .i64 0) ∧ w' = w := by
  go_enter Tryz.func52, Tryz.ntmps52
  go_wp2_with fail
  go_ret
  exact ⟨rfl, rfl⟩
theorem nlRaw_any (w : World) : Calls Tryz.prog 53 #[.pointer none] w fun r w' => r = .returned (.agg (gvc 0 (.slice none 0 0) (.slice none 0 0))) ∧ Below w.heap.size w w' := by
  go_enter Tryz.func53, Tryz.ntmps53
  go_wp2_with fail
  refine bodyPost_ret (v := .agg #[.int .i64 0, .slice none 0 0, .slice none 0 0]) (by simp [results, Tryz.results53, go_sem]) rfl ?_
  exact ⟨rfl, ((Gr.refl w).alloc _).below⟩
set_option maxHeartbeats 2000000 in
/-- A nil graph has no steps. -/
theorem stepsNil_any (w : World) : Calls Tryz.prog 29 #[.pointer none] w fun r w' => ∃ p c, r = .returned (.slice p 0 c) ∧ Below w.heap.size w w' := by
  obtain ⟨i0, hi0, hz0, hz1, hz2⟩ := info_parts infoLL
  have fd := fldG2 (.int .i64 0) (.slice none 0 0) (.slice none 0 0)
  go_enter Tryz.func29, Tryz.ntmps29
  go_wp2_with fail
  refine (nlPlaces_any w).mono ?_
  rintro r w1 ⟨rfl, hw1⟩
  have hw2 := hw1.symm
  subst hw2
  clear hw1
  go_upto_region 2 with (at_make; refine wpList_make_full _ rfl _ _ 67 rfl w.heap.size 33 i0 (.slice none 0 0) 1 Tryz.underlying67 hi0 hz0 hz1 _ _ _ _ 0 rfl rfl rfl rfl (by omega) (by unfold maxLen; omega) (Nat.le_refl _) ?_; intro w2 hrow hg1)
  have B2 : Hid (Below w.heap.size w w2) := (Kp.grownBy (S := fun _ => False) hg1 (fun _ h => by cases h)).below (Nat.le_refl _) (fun _ h => h.elim)
  clear hrow hg1
  go_wp2_with fail
  refine (nlRaw_any w2).mono ?_
  rintro r w3 ⟨rfl, hb3⟩
  have B3 : Hid (Below w.heap.size w w3) := B2.out.trans (hb3.mono B2.out.size)
  clear hb3
  dsimp only [gvc]
  go_wp2_with fail
  refine wp_loop_rounds 1 ?_
  rw [rounds_succ]
  go_wp2_with fail
  refine (nlNodes_any w3).mono ?_
  rintro r w4 ⟨rfl, hw4⟩
  have hw5 := hw4.symm
  subst hw5
  clear hw4
  go_wp2_with fail
  refine wp_loop_rounds 1 ?_
  rw [rounds_succ]
  go_wp2_with fail
  refine wp_loop_rounds 1 ?_
  rw [rounds_succ]
  go_wp2_with fail
  go_ret
  exact ⟨_, _, rfl, B3.out⟩
/-- The order of a graph's places. -/
theorem order_any {B gb : Nat} {g : Gph} (w : World) (h : Gm B w gb g) (hOK : Gok g) : Calls Tryz.prog 9 #[.pointer (some ⟨gb, 0, none⟩)] w (Od w (stL g).length (stL g)) := by
  have hs := stepsOf_any w h hOK
  have HOK := hid hOK
  clear h hOK
  go_enter Tryz.func9, Tryz.ntmps9
  go_wp2_with fail
  refine hs.mono ?_
  clear hs
  rintro r w1 ⟨v, rfl, H1⟩
  have ho := ordered_any w1 H1.out.2 (stL_good HOK.out).1 (stL_good HOK.out).2
  go_wp2_with fail
  refine ho.mono ?_
  clear ho
  rintro r w2 ⟨hb, hr⟩
  have hbb := H1.out.1.trans (hb.mono H1.out.1.size)
  rcases hr with ⟨e, rfl⟩ | ⟨o, f, d, e, rfl, hrow⟩
  · have FIN : Hid (Od w (stL g).length (stL g) (.returned (.tuple #[.slice none 0 0, .int .i64 27])) w2) := ⟨hbb, Or.inl ⟨e, rfl⟩⟩
    clear e hb hbb
    go_wp2_with fail
    refine bodyPost_ret (v := .tuple #[.slice none 0 0, .int .i64 27]) (by simp [results, Tryz.results9, go_sem]) rfl ?_
    exact FIN.out
  · obtain ⟨q, m, c, rfl⟩ := owns_form hrow
    have FIN : Hid (Od w (stL g).length (stL g) (.returned (.tuple #[.slice q m c, .int .i64 0])) w2) := ⟨hbb, Or.inr ⟨o, f, _, e, rfl, owns_base hrow H1.out.1.size⟩⟩
    clear e hb hbb hrow
    go_wp2_with fail
    refine bodyPost_ret (v := .tuple #[.slice q m c, .int .i64 0]) (by simp [results, Tryz.results9, go_sem]) rfl ?_
    exact FIN.out
theorem orderNil_any (w : World) : Calls Tryz.prog 9 #[.pointer none] w fun r w' => r = .returned (.tuple #[.slice none 0 0, .int .i64 1]) ∧ w' = w := by
  go_enter Tryz.func9, Tryz.ntmps9
  go_wp2_with fail
  refine bodyPost_ret (v := .tuple #[.slice none 0 0, .int .i64 1]) (by simp [results, Tryz.results9, go_sem]) rfl ?_
  exact ⟨rfl, rfl⟩
theorem rankNil_any (w : World) : Calls Tryz.prog 10 #[.pointer none] w fun r w' => r = .returned (.tuple #[.slice none 0 0, .int .i64 1]) ∧ w' = w := by
  go_enter Tryz.func10, Tryz.ntmps10
  go_wp2_with fail
  refine bodyPost_ret (v := .tuple #[.slice none 0 0, .int .i64 1]) (by simp [results, Tryz.results10, go_sem]) rfl ?_
  exact ⟨rfl, rfl⟩
/-- What Rank answers. -/
def Rd (w : World) (ls : List (List Int)) (r : Ending) (w' : World) : Prop := Below w.heap.size w w' ∧ ((ordN ls.length ls ls.length = none ∧ r = .returned (.tuple #[.slice none 0 0, .int .i64 27])) ∨ ∃ us f d, ordN ls.length ls ls.length = some (ints us, f) ∧ r = .returned (.tuple #[d, .int .i64 0]) ∧ w'.ownsRow w.heap.size 3 1 d ls.length (fl EI (fnL ls.length (rkN ls us))))
theorem rk_step {ls : List (List Int)} {u : Nat} {l : List Int} {f : Nat → Int} {k : Nat} (hl : ls[u]? = some l) (hk : l.length ≤ k) : (fun y : Nat => if ((y : Nat) : Int) ∈ l.take k then max (f y) (f u + 1) else f y) = rkS ls f u := by
  have h : l.take k = l := List.take_of_length_le hk
  funext y
  unfold rkS
  rw [h, hl]
  rfl
set_option maxRecDepth 100000 in
set_option maxHeartbeats 8000000 in
/-- The ranks of a graph's places. -/
theorem rank_any {B gb : Nat} {g : Gph} (w : World) (h : Gm B w gb g) (hOK : Gok g) : Calls Tryz.prog 10 #[.pointer (some ⟨gb, 0, none⟩)] w (Rd w (stL g)) := by
  have hmx : Tryz.prog.follows .mixedOrders = true := by kernel_rfl
  have hs := stepsOf_any w h hOK
  have HOK := hid hOK
  have hgood := stL_good hOK
  obtain ⟨ls, hls⟩ : ∃ ls, ls = stL g := ⟨_, rfl⟩
  rw [← hls] at hs hgood ⊢
  obtain ⟨n, hn⟩ : ∃ n, n = ls.length := ⟨_, rfl⟩
  have HX : Hid (∀ l ∈ ls, l.length ≤ 1000 ∧ ∀ x ∈ l, 0 ≤ x ∧ x < (n : Int)) := by rw [hn]; exact hgood.2
  have hn9 : n ≤ 1000 := by rw [hn]; exact hgood.1
  have HN := hid hn
  have HG := hid hgood
  obtain ⟨i0, hi0, hz0, hz1, hz2⟩ := info_parts infoIK
  clear h hOK hgood hls hn
  go_enter Tryz.func10, Tryz.ntmps10
  go_wp2_with fail
  refine hs.mono ?_
  clear hs
  rintro r w1 ⟨v, rfl, H1⟩
  have ho := ordered_any w1 H1.out.2 HG.out.1 HG.out.2
  obtain ⟨p, c, rfl⟩ := H1.out.2.form
  go_wp2_with fail
  refine ho.mono ?_
  clear ho
  rintro r w2 ⟨hb, hr⟩
  have H2 : Hid (Below w.heap.size w w2 ∧ Below w1.heap.size w1 w2 ∧ w.heap.size ≤ w2.heap.size) := ⟨H1.out.1.trans (hb.mono H1.out.1.size), hb, Nat.le_trans H1.out.1.size hb.size⟩
  clear hb
  rcases hr with ⟨e, rfl⟩ | ⟨o, f, d, e, rfl, hrow⟩
  · have FIN : Hid (Rd w ls (.returned (.tuple #[.slice none 0 0, .int .i64 27])) w2) := ⟨H2.out.1, Or.inl ⟨e, rfl⟩⟩
    clear e
    go_wp2_with fail
    refine bodyPost_ret (v := .tuple #[.slice none 0 0, .int .i64 27]) (by simp [results, Tryz.results10, go_sem]) rfl ?_
    exact FIN.out
  · obtain ⟨us, ho, hor⟩ := ord_some e
    have HE := hid e
    have HOR := hid hor
    have hul : us.length = n := by rw [hor.len, HN.out]
    have hol : o.length = n := by rw [ho]; simpa using hul
    have HUO := hid ho
    obtain ⟨q, m, c2, rfl⟩ := owns_form hrow
    obtain ⟨rfl, hcap⟩ := owns_caps hrow _ _ _ rfl
    have HO : Hid (Lz EI w2.heap.size w2 (.slice q o.length c2) o) := owns_lz (E := EI) hrow
    have HF : Hid (Ff w1.heap.size w2 (.slice p ls.length c) ls) := H1.out.2.below H2.out.2.1
    rw [hol] at HO ⊢
    rw [← HN.out] at HF ⊢
    have HUL := hid hul
    clear e ho hor hrow hol hcap hul
    go_upto_region 8 with (at_make; refine wpList_make_full _ rfl _ _ 33 rfl w2.heap.size 3 i0 (.int .i64 0) 1 Tryz.underlying33 hi0 hz0 hz1 _ _ _ _ n rfl rfl rfl rfl (by rw [hz2]; omega) (by unfold maxLen; omega) (Nat.le_refl _) ?_; intro w3 hrow hg1)
    obtain ⟨g3, hg3⟩ : ∃ g, g = w2.heap.size := ⟨_, rfl⟩
    rw [← hg3]
    have W1 : Hid (Wt w2 n g3 (rkN ls (us.take 0)) w3) := by
      refine ⟨(Kp.grownBy (S := fun _ => False) hg1 (fun _ h => by cases h)).below (Nat.le_refl _) (fun _ h => h.elim), ?_⟩
      rw [hg3]
      refine owns_re hrow rfl ?_
      rw [madeK, fnL_zero, fl_I]
      rfl
    clear hrow hg1 hg3 hi0 hz0 hz1 hz2
    go_wp2_with fail
    go_loopw [29] (fun s29 wr => ∃ t : Nat, t ≤ n ∧ s29 = .int .i64 (t : Nat) ∧ Hid (Wt w2 n g3 (rkN ls (us.take t)) wr)) (fun s29 _ => n - (RowKit.intOf s29).toNat)
    case atStart => exact ⟨0, Nat.zero_le _, rfl, W1.out⟩
    case round =>
      clear W1
      obtain ⟨t, ht, rfl, HI⟩ := hrel
      by_cases hlt : t < n
      · have hltz : (t : Int) < (n : Int) := by omega
        have ht0 : (0 : Int) ≤ (t : Int) := by omega
        obtain ⟨u, hu⟩ : ∃ u, us[t]? = some u := ⟨us[t]'(by have := HUL.out; omega), by simp⟩
        have hun : u < n := by rw [HN.out]; exact HOR.out.bd u (List.mem_of_getElem? hu)
        have hou : o[t]? = some ((u : Nat) : Int) := by rw [HUO.out]; simp [hu]
        obtain ⟨b, off, c1, e1, z0, x0⟩ := ls_atI (HO.out.ls hou) hou
        have x1 := (HI.out.bl.cell (p := ⟨b, off + t, none⟩) z0).trans x0
        have z1 := Nat.lt_of_lt_of_le z0 HI.out.bl.size
        simp only [Value.slice.injEq] at e1
        obtain ⟨rfl, -, rfl⟩ := e1
        obtain ⟨l, hl⟩ : ∃ l, ls[u]? = some l := ⟨ls[u]'(by have := HN.out; omega), by simp⟩
        obtain ⟨b2, off2, c3, q2, c4, e2, z2, x2, hz⟩ := HF.out.at hl
        have x3 := (HI.out.bl.cell (p := ⟨b2, off2 + u, none⟩) z2).trans x2
        have z3 := Nat.lt_of_lt_of_le z2 HI.out.bl.size
        simp only [Value.slice.injEq] at e2
        obtain ⟨rfl, -, rfl⟩ := e2
        have HL : Hid (ls[u]? = some l ∧ l.length ≤ 1000 ∧ (∀ x ∈ l, 0 ≤ x ∧ x < (n : Int)) ∧ ((u : Nat) : Int) ∉ l ∧ us[t]? = some u) := ⟨hl, (HX.out l (List.mem_of_getElem? hl)).1, (HX.out l (List.mem_of_getElem? hl)).2, fun e => HOR.out.self ⟨l, hl, e⟩, hu⟩
        have HZ := hid (fun (W : World) (hb : Below w2.heap.size w2 W) => hz.below hb)
        have hll := HL.out.2.1
        obtain ⟨f0, hf0⟩ : ∃ f, f = rkN ls (us.take t) := ⟨_, rfl⟩
        have HB0 : Hid (∀ k, 0 ≤ f0 k ∧ f0 k ≤ (t : Int)) := by rw [hf0]; exact (Rk.all HOR.out t (by have := HUL.out; omega)).pos
        have HF0 := hid hf0
        have hu0 : (0 : Int) ≤ (u : Int) := by omega
        have huz : (u : Int) < (n : Int) := by omega
        rw [← hf0] at HI
        clear hz hl z0 x0 z2 x2 hu hou hf0
        go_wp2_with fail
        clear x1 z1 x3 z3
        go_loopw [38] (fun s38 wr => ∃ k : Nat, k ≤ l.length ∧ s38 = .int .i64 (k : Nat) ∧ Hid (Wt w2 n g3 (fun y => if ((y : Nat) : Int) ∈ l.take k then max (f0 y) (f0 u + 1) else f0 y) wr)) (fun s38 _ => l.length - (RowKit.intOf s38).toNat)
        case atStart => exact ⟨0, Nat.zero_le _, rfl, HI.out.re (fun k _ => by simp)⟩
        case round =>
          clear HI
          obtain ⟨k, hk, rfl, HI⟩ := hrel
          by_cases hlk : k < l.length
          · have hlkz : (k : Int) < (l.length : Int) := by omega
            have hk0 : (0 : Int) ≤ (k : Int) := by omega
            obtain ⟨x, hx⟩ : ∃ x, l[k]? = some x := ⟨l[k], by simp⟩
            have hxb := HL.out.2.2.1 x (List.mem_of_getElem? hx)
            have hxu : x ≠ ((u : Nat) : Int) := fun e => HL.out.2.2.2.1 (e ▸ List.mem_of_getElem? hx)
            obtain ⟨e, rfl⟩ : ∃ e : Nat, x = (e : Int) := ⟨x.toNat, by omega⟩
            obtain ⟨b5, o5, c5, e5, z5, y5⟩ := ls_atI ((HZ.out wr HI.out.bl).ls hx) hx
            simp only [Value.slice.injEq] at e5
            obtain ⟨rfl, -, rfl⟩ := e5
            obtain ⟨a, ha⟩ : ∃ a : Int, a = if ((e : Nat) : Int) ∈ l.take k then max (f0 e) (f0 u + 1) else f0 e := ⟨_, rfl⟩
            obtain ⟨fu, hfu⟩ : ∃ a : Int, a = f0 u := ⟨_, rfl⟩
            have hc := (HI.out.cell (k := e) (by omega)).1
            rw [← ha] at hc
            have hcu := (HI.out.cell (k := u) hun).1
            rw [if_neg (fun e2 => HL.out.2.2.2.1 (List.mem_of_mem_take e2)), ← hfu] at hcu
            have lg := (HI.out.cell (k := e) (by omega)).2
            have fg := own_frK HI.out.row
            have ha9 : 0 ≤ a ∧ a ≤ 1000 := by
              have h1 := HB0.out e
              have h2 := HB0.out u
              rw [ha]
              split <;> omega
            have hfu9 : 0 ≤ fu ∧ fu ≤ 1000 := by
              have h2 := HB0.out u
              omega
            have FIN : Hid (Wt w2 n g3 (fun y => if ((y : Nat) : Int) ∈ l.take (k + 1) then max (f0 y) (f0 u + 1) else f0 y) ((wr.setCell ⟨g3, e, none⟩ (.int .i64 (max a (fu + 1)))).drew)) := by
              have hW := (HI.out.set e (max a (fu + 1))).1
              refine (hW.below (Gr.refl _).drew.below).re (fun y _ => ?_)
              unfold upd
              rw [List.take_add_one, hx]
              by_cases hy : y = e
              · subst hy
                rw [if_pos rfl, if_pos (by simp), ha, hfu]
                split
                · rw [Int.max_assoc, Int.max_self]
                · rfl
              · rw [if_neg hy]
                have e3 : (((y : Nat) : Int) ∈ l.take k ++ (some ((e : Nat) : Int)).toList) ↔ ((y : Nat) : Int) ∈ l.take k := by
                  simp only [Option.toList_some, List.mem_append, List.mem_singleton]
                  exact ⟨fun h => h.resolve_right (by omega), Or.inl⟩
                simp only [e3]
            have he0 : (0 : Int) ≤ (e : Int) := by omega
            have hen : (e : Int) < (n : Int) := hxb.2
            obtain ⟨ha1, ha2⟩ := ha9
            obtain ⟨hfu1, hfu2⟩ := hfu9
            obtain ⟨w9, hw9⟩ : ∃ W, W = (wr.setCell ⟨g3, e, none⟩ (.int .i64 (max a (fu + 1)))).drew := ⟨_, rfl⟩
            rw [← hw9] at FIN
            have HW9 := hid hw9
            have hwrap : IntKind.i64.wrap (fu + 1) = fu + 1 := by rw [IntKind.wrap_i64]; omega
            clear hx ha hfu hw9 hxu
            go_upto_region 14 with fail
            have hS0 : (wr.drew).cell? ⟨g3, e, none⟩ = some (.int .i64 a) ∧ (wr.drew).cell? ⟨g3, u, none⟩ = some (.int .i64 fu) ∧ g3 < (wr.drew).heap.size ∧ ∀ j, (wr.drew).frozen? ⟨g3, j, none⟩ = false := ⟨hc, hcu, lg, fg⟩
            clear hc hcu lg fg
            refine wp_regionD (S := fun W => W.cell? ⟨g3, e, none⟩ = some (.int .i64 a) ∧ W.cell? ⟨g3, u, none⟩ = some (.int .i64 fu) ∧ g3 < W.heap.size ∧ ∀ j, W.frozen? ⟨g3, j, none⟩ = false) (D := [13]) hmx ?_
            refine' wpAnyD_take (i := 0) (oi := { dst := some 42, op := Go.Op.move (Go.Operand.tmp 7), type := 33, pos := "cycle.go:32", after := #[], guard := none }) (v := _) rfl (by kernel_rfl) (by kernel_rfl) (by kernel_rfl) (fun _ _ _ h => h) (by kernel_rfl) (Or.inl ⟨by rfl, ?hy1⟩) hS0 ?rest1
            case hy1 => (intro W hSw; go_simp; try (with_reducible rfl))
            try simp only [Act.put, List.setIfInBounds_toArray, List.set_cons_zero, List.set_cons_succ]
            refine' wpAnyD_take (i := 1) (oi := { dst := some 43, op := Go.Op.move (Go.Operand.tmp 11), type := 3, pos := "cycle.go:32", after := #[], guard := none }) (v := _) rfl (by kernel_rfl) (by kernel_rfl) (by kernel_rfl) (fun _ _ _ h => h) (by kernel_rfl) (Or.inl ⟨by rfl, ?hy2⟩) hS0 ?rest2
            case hy2 => (intro W hSw; go_simp; try (with_reducible rfl))
            try simp only [Act.put, List.setIfInBounds_toArray, List.set_cons_zero, List.set_cons_succ]
            refine' wpAnyD_take (i := 2) (oi := { dst := some 44, op := Go.Op.move (Go.Operand.tmp 7), type := 33, pos := "cycle.go:32", after := #[], guard := none }) (v := _) rfl (by kernel_rfl) (by kernel_rfl) (by kernel_rfl) (fun _ _ _ h => h) (by kernel_rfl) (Or.inl ⟨by rfl, ?hy3⟩) hS0 ?rest3
            case hy3 => (intro W hSw; go_simp; try (with_reducible rfl))
            try simp only [Act.put, List.setIfInBounds_toArray, List.set_cons_zero, List.set_cons_succ]
            refine' wpAnyD_take (i := 3) (oi := { dst := some 45, op := Go.Op.move (Go.Operand.tmp 11), type := 3, pos := "cycle.go:32", after := #[], guard := none }) (v := _) rfl (by kernel_rfl) (by kernel_rfl) (by kernel_rfl) (fun _ _ _ h => h) (by kernel_rfl) (Or.inl ⟨by rfl, ?hy4⟩) hS0 ?rest4
            case hy4 => (intro W hSw; go_simp; try (with_reducible rfl))
            try simp only [Act.put, List.setIfInBounds_toArray, List.set_cons_zero, List.set_cons_succ]
            refine' wpAnyD_take (i := 4) (oi := { dst := some 46, op := Go.Op.indexAddr 33 (Go.Operand.tmp 44) (Go.Operand.tmp 45), type := 0, pos := "cycle.go:32", after := #[{ on := 2, ground := Go.Ground.data }, { on := 3, ground := Go.Ground.data }], guard := none }) (v := _) rfl (by kernel_rfl) (by kernel_rfl) (by kernel_rfl) (fun _ _ _ h => h) (by kernel_rfl) (Or.inl ⟨by rfl, ?hy5⟩) hS0 ?rest5
            case hy5 => (intro W hSw; go_simp; try (with_reducible rfl))
            try simp only [Act.put, List.setIfInBounds_toArray, List.set_cons_zero, List.set_cons_succ]
            refine' wpAnyD_take (i := 5) (oi := { dst := some 47, op := Go.Op.load 3 (Go.Operand.tmp 46), type := 3, pos := "cycle.go:32", after := #[{ on := 4, ground := Go.Ground.data }], guard := none }) (v := _) rfl (by kernel_rfl) (by kernel_rfl) (by kernel_rfl) (fun _ _ _ h => h) (by kernel_rfl) (Or.inl ⟨by rfl, ?hy6⟩) hS0 ?rest6
            case hy6 => (intro W hSw; have hc := hSw.1; have hl := hSw.2.2.1; go_simp; try (with_reducible rfl))
            try simp only [Act.put, List.setIfInBounds_toArray, List.set_cons_zero, List.set_cons_succ]
            refine' wpAnyD_take (i := 6) (oi := { dst := some 48, op := Go.Op.move (Go.Operand.tmp 7), type := 33, pos := "cycle.go:32", after := #[], guard := none }) (v := _) rfl (by kernel_rfl) (by kernel_rfl) (by kernel_rfl) (fun _ _ _ h => h) (by kernel_rfl) (Or.inl ⟨by rfl, ?hy7⟩) hS0 ?rest7
            case hy7 => (intro W hSw; go_simp; try (with_reducible rfl))
            try simp only [Act.put, List.setIfInBounds_toArray, List.set_cons_zero, List.set_cons_succ]
            refine' wpAnyD_take (i := 7) (oi := { dst := some 49, op := Go.Op.move (Go.Operand.tmp 9), type := 3, pos := "cycle.go:32", after := #[], guard := none }) (v := _) rfl (by kernel_rfl) (by kernel_rfl) (by kernel_rfl) (fun _ _ _ h => h) (by kernel_rfl) (Or.inl ⟨by rfl, ?hy8⟩) hS0 ?rest8
            case hy8 => (intro W hSw; go_simp; try (with_reducible rfl))
            try simp only [Act.put, List.setIfInBounds_toArray, List.set_cons_zero, List.set_cons_succ]
            refine' wpAnyD_take (i := 8) (oi := { dst := some 50, op := Go.Op.indexAddr 33 (Go.Operand.tmp 48) (Go.Operand.tmp 49), type := 0, pos := "cycle.go:32", after := #[{ on := 6, ground := Go.Ground.data }, { on := 7, ground := Go.Ground.data }], guard := none }) (v := _) rfl (by kernel_rfl) (by kernel_rfl) (by kernel_rfl) (fun _ _ _ h => h) (by kernel_rfl) (Or.inl ⟨by rfl, ?hy9⟩) hS0 ?rest9
            case hy9 => (intro W hSw; go_simp; try (with_reducible rfl))
            try simp only [Act.put, List.setIfInBounds_toArray, List.set_cons_zero, List.set_cons_succ]
            refine' wpAnyD_take (i := 9) (oi := { dst := some 51, op := Go.Op.load 3 (Go.Operand.tmp 50), type := 3, pos := "cycle.go:32", after := #[{ on := 8, ground := Go.Ground.data }], guard := none }) (v := _) rfl (by kernel_rfl) (by kernel_rfl) (by kernel_rfl) (fun _ _ _ h => h) (by kernel_rfl) (Or.inl ⟨by rfl, ?hy10⟩) hS0 ?rest10
            case hy10 => (intro W hSw; have hc := hSw.2.1; have hl := hSw.2.2.1; go_simp; try (with_reducible rfl))
            try simp only [Act.put, List.setIfInBounds_toArray, List.set_cons_zero, List.set_cons_succ]
            refine' wpAnyD_take (i := 10) (oi := { dst := some 52, op := Go.Op.binOp Go.BinOp.add 3 (Go.Operand.tmp 51) (Go.Operand.const (Go.Value.int Go.IntKind.i64 1)) 3, type := 3, pos := "cycle.go:32", after := #[{ on := 9, ground := Go.Ground.data }], guard := none }) (v := _) rfl (by kernel_rfl) (by kernel_rfl) (by kernel_rfl) (fun _ _ _ h => h) (by kernel_rfl) (Or.inl ⟨by rfl, ?hy11⟩) hS0 ?rest11
            case hy11 => (intro W hSw; go_simp; try (with_reducible rfl))
            try simp only [Act.put, List.setIfInBounds_toArray, List.set_cons_zero, List.set_cons_succ]
            refine' wpAnyD_take (i := 11) (oi := { dst := some 53, op := Go.Op.call { callee := Go.Callee.builtin Go.Builtin.max, args := #[Go.Operand.tmp 47, Go.Operand.tmp 52], argTypes := #[3, 3] }, type := 3, pos := "cycle.go:32", after := #[{ on := 5, ground := Go.Ground.data }, { on := 10, ground := Go.Ground.data }], guard := none }) (v := _) rfl (by kernel_rfl) (by kernel_rfl) (by kernel_rfl) (fun _ _ _ h => h) (by kernel_rfl) (Or.inl ⟨by rfl, ?hy12⟩) hS0 ?rest12
            case hy12 => (intro W hSw; go_simp; try (with_reducible rfl))
            try simp only [Act.put, List.setIfInBounds_toArray, List.set_cons_zero, List.set_cons_succ]
            refine' wpAnyD_take (i := 12) (oi := { dst := some 54, op := Go.Op.indexAddr 33 (Go.Operand.tmp 42) (Go.Operand.tmp 43), type := 0, pos := "cycle.go:32", after := #[{ on := 0, ground := Go.Ground.data }, { on := 1, ground := Go.Ground.data }, { on := 0, ground := Go.Ground.phase }, { on := 1, ground := Go.Ground.phase }, { on := 2, ground := Go.Ground.phase }, { on := 3, ground := Go.Ground.phase }, { on := 4, ground := Go.Ground.phase }, { on := 5, ground := Go.Ground.phase }, { on := 6, ground := Go.Ground.phase }, { on := 7, ground := Go.Ground.phase }, { on := 8, ground := Go.Ground.phase }, { on := 9, ground := Go.Ground.phase }, { on := 10, ground := Go.Ground.phase }, { on := 11, ground := Go.Ground.phase }], guard := none }) (v := _) rfl (by kernel_rfl) (by kernel_rfl) (by kernel_rfl) (fun _ _ _ h => h) (by kernel_rfl) (Or.inl ⟨by rfl, ?hy13⟩) hS0 ?rest13
            case hy13 => (intro W hSw; go_simp; try (with_reducible rfl))
            try simp only [Act.put, List.setIfInBounds_toArray, List.set_cons_zero, List.set_cons_succ]
            refine wpAnyD_one (i := 13) (o := { dst := none, op := Go.Op.store 3 (Go.Operand.tmp 54) (Go.Operand.tmp 53), type := 0, pos := "cycle.go:32", after := #[{ on := 12, ground := Go.Ground.data }, { on := 11, ground := Go.Ground.data }, { on := 0, ground := Go.Ground.phase }, { on := 1, ground := Go.Ground.phase }, { on := 2, ground := Go.Ground.phase }, { on := 3, ground := Go.Ground.phase }, { on := 4, ground := Go.Ground.phase }, { on := 5, ground := Go.Ground.phase }, { on := 6, ground := Go.Ground.phase }, { on := 7, ground := Go.Ground.phase }, { on := 8, ground := Go.Ground.phase }, { on := 9, ground := Go.Ground.phase }, { on := 10, ground := Go.Ground.phase }, { on := 11, ground := Go.Ground.phase }], guard := none }) (by kernel_rfl) rfl (fun K hK => ?_)
            have c8 := hS0.1
            have f8 := hS0.2.2.2 e
            have l8 := hS0.2.2.1
            go_simp
            rw [show (wr.setCell ⟨g3, e, none⟩ (.int .i64 (max a (fu + 1)))).drew = w9 from HW9.out.symm]
            clear c8 f8 l8
            refine hK.out _ _ (fun hD => absurd (by decide) hD) ?_
            clear hK K
            try simp only [Act.put, List.setIfInBounds_toArray, List.set_cons_zero, List.set_cons_succ]
            refine wpAnyD_done (by kernel_rfl) ?_ _
            clear hS0 HW9 hwrap
            go_wp2_with fail
            go_roundw
            case rel => exact ⟨k + 1, by omega, by go_num, FIN.out⟩
            case measure => simp [RowKit.intOf]; omega
          · have hlkz : ¬ (k : Int) < (l.length : Int) := by omega
            have FIN : Hid (Wt w2 n g3 (rkN ls (us.take (t + 1))) wr) := by
              have h := HI.out
              rw [rk_step HL.out.1 (by omega), HF0.out, ← rkN_snoc] at h
              rw [List.take_add_one, HL.out.2.2.2.2]
              exact h
            clear HI
            go_wp2_with fail
            go_roundw
            case rel => exact ⟨t + 1, by omega, by go_num, FIN.out⟩
            case measure => simp [RowKit.intOf]; omega
      · have hltz : ¬ (t : Int) < (n : Int) := by omega
        have FIN : Hid (Rd w ls (.returned (.tuple #[.slice (some ⟨g3, 0, none⟩) n n, .int .i64 0])) wr) := by
          have h := HI.out
          rw [List.take_of_length_le (by have := HUL.out; omega)] at h
          refine ⟨H2.out.1.trans (h.bl.mono H2.out.2.2), Or.inr ⟨us, f, _, by rw [HE.out, HUO.out], rfl, ?_⟩⟩
          have hr := owns_base h.row H2.out.2.2
          rw [← HN.out]
          exact hr
        clear HI
        go_wp2_with fail
        refine bodyPost_ret (v := .tuple #[.slice (some ⟨g3, 0, none⟩) n n, .int .i64 0]) (by simp [results, Tryz.results10, go_sem]) rfl ?_
        exact FIN.out
end Go.Proofs.YtngnfglnfkhheaaGreat.Df
