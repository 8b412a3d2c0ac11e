import Derived.Test.YtdnnfgabdkkdjaaGreatJ11
import Derived.Test.YtdnnfgabdkkdjaaGreatJ12
import Derived.BigQuiet
import Derived.Test.YtdnnfgabdkkdjaaGreatJ9
import Derived.Test.YtdnnfgabdkkdjaaGreatKSo
namespace Go.Proofs.YtdnnfgabdkkdjaaGreat.Df
open Go.RowKit Go.Sort
attribute [local go_sem ↓] Go.wp_at_zero Go.wp_at_succ
set_option maxHeartbeats 4000000 in
theorem kin_any {nv ev : Value} {a : Int} {xs : List NV} (j : Nat) (p : Int) (hp0 : 0 ≤ p) (hp9 : p ≤ 1000) (hj : j ≤ xs.length) (w : World) (h : Nr w nv xs) : Calls Tryz.prog 39 #[.agg (gvc a nv ev), .int .i64 (j : Nat), .int .i64 p] w fun r w' => r = .returned (.int .i64 ((firstN (xs.map NV.n) j : Nat) + p)) ∧ Gr w w' := by
 have g0 := (Gr.refl w).alloc (.cells (gvc a nv ev) 25)
 have HB := hid (heap_new' w (.cells (gvc a nv ev) 25))
 have HN := hid (h.below g0.below)
 obtain ⟨W0, hW0⟩ : ∃ W, W = w.alloc (.cells (gvc a nv ev) 25) := ⟨_, rfl⟩
 have HW : Hid (w.alloc (.cells #[.int .i64 a, nv, ev] 25) = W0) := hW0.symm
 rw [← hW0] at g0 HB HN
 have G0 := hid g0
 obtain ⟨qn, cn, rfl⟩ := h.nodes.form
 have hnl := h.nl
 have HP := hid h.pok
 obtain ⟨ns, hns⟩ : ∃ ns, ns = xs.map NV.n := ⟨_, rfl⟩
 rw [← hns] at HP ⊢
 have HNS := hid hns
 generalize hxl : xs.length = nl at *
 have HXL := hid hxl
 clear h hW0 g0 hns hxl
 have c0 := (tk_store HB.out).1
 have l0 := tk_lt HB.out
 go_enter Tryz.func39, Tryz.ntmps39
 go_upto_region 1 with fail
 rw [HW.out]
 clear HW
 go_wp2_with fail
 clear c0 l0
 go_loopw [7, 8] (fun sn si wr => ∃ i : Nat, i ≤ j ∧ si = .int .i64 (i : Nat) ∧ sn = .int .i64 (firstN ns i : Nat) ∧ Hid (Gr W0 wr)) (fun _ si _ => j - (RowKit.intOf si).toNat)
 case atStart => exact ⟨0, Nat.zero_le _, rfl, rfl, Gr.refl _⟩
 case round =>
  obtain ⟨i, hi, rfl, rfl, HI⟩ := hrel
  have hb0 := (HI.out.below.block _ (tk_lt HB.out)).trans HB.out
  have c1 := (tk_store hb0).1
  have l1 := tk_lt hb0
  clear hb0
  by_cases hlt : i < j
  ·have hltz : (i : Int) < (j : Int) := by omega
   have hi0 : (0 : Int) ≤ (i : Int) := by omega
   have hil : (i : Int) < (nl : Int) := by omega
   obtain ⟨y, hy⟩ : ∃ y, xs[i]? = some y := ⟨xs[i]'(by have := HXL.out; omega), by simp⟩
   have HYN : Hid (ns[i]? = some y.n) := by show _ = _; rw [HNS.out]; simp [hy]
   obtain ⟨b1, o1, q1, ev1, zz1, x0, x1, x2, -⟩ := ls_atV ((HN.out.nodes.below HI.out.below).ls hy) hy
   simp only [Value.slice.injEq] at ev1
   obtain ⟨rfl, -, rfl⟩ := ev1
   have HFS := hid (fn_pos HYN.out HP.out)
   have hf1 := firstN_le HP.out i
   have hq := HP.out y.n (List.mem_of_getElem? HYN.out)
   obtain ⟨m, hm⟩ : ∃ m, m = firstN ns i := ⟨_, rfl⟩
   rw [← hm] at HFS hf1 ⊢
   have hm9 : (m : Int) ≤ 192 := by omega
   have q1 : 0 ≤ y.n.ins := hq.1
   have q2 : y.n.ins ≤ 4 := hq.2.1
   have q3 : 0 ≤ y.n.outs := hq.2.2.1
   have q4 : y.n.outs ≤ 4 := hq.2.2.2
   clear hy hm hq hf1
   go_upto_region 5 with fail
   go_quiet (fail)
   have G1 := hid (HI.out.drewN nq)
   clear x0 x1 x2 zz1 c1 l1
   go_wp2_with fail
   go_roundw
   case rel => exact ⟨i + 1, by omega, by go_num, by rw [← HFS.out], G1.out⟩
   case measure => simp [RowKit.intOf]; omega
  ·have hltz : ¬ (i : Int) < (j : Int) := by omega
   obtain rfl : i = j := by omega
   have hf1 := firstN_le HP.out i
   obtain ⟨m, hm⟩ : ∃ m, m = firstN ns i := ⟨_, rfl⟩
   rw [← hm] at hf1 ⊢
   have hm9 : (m : Int) ≤ 192 := by omega
   have HM := hid hm
   clear hm hf1
   go_wp2_with fail
   go_ret
   exact ⟨by rw [show firstN ns i = m from HM.out.symm]; first | rfl | (congr 2; go_num), G0.out.trans HI.out⟩
set_option maxHeartbeats 4000000 in
theorem kout_any {nv ev : Value} {a : Int} {xs : List NV} (j : Nat) (p : Int) (y : NV) (hy : xs[j]? = some y) (hp0 : 0 ≤ p) (hp9 : p ≤ 900) (w : World) (h : Nr w nv xs) : Calls Tryz.prog 40 #[.agg (gvc a nv ev), .int .i64 (j : Nat), .int .i64 p] w fun r w' => r = .returned (.int .i64 ((firstN (xs.map NV.n) j : Nat) + (y.n.ins + p))) ∧ Gr w w' := by
 have hmx : Tryz.prog.follows .mixedOrders = true := by kernel_rfl
 have hq := h.pok y.n (List.mem_map_of_mem (List.mem_of_getElem? hy))
 have g0 := (Gr.refl w).alloc (.cells (gvc a nv ev) 25)
 have HB := hid (heap_new' w (.cells (gvc a nv ev) 25))
 have HN := hid (h.below g0.below)
 obtain ⟨W0, hW0⟩ : ∃ W, W = w.alloc (.cells (gvc a nv ev) 25) := ⟨_, rfl⟩
 obtain ⟨gb, hgb⟩ : ∃ b, b = w.heap.size := ⟨_, rfl⟩
 have HW : Hid (w.alloc (.cells #[.int .i64 a, nv, ev] 25) = W0 ∧ w.heap.size = gb) := ⟨hW0.symm, hgb.symm⟩
 rw [← hW0] at g0 HB HN
 rw [← hgb] at HB
 have G0 := hid g0
 have hjl := (List.getElem?_eq_some_iff.1 hy).1
 have hcall := fun (W : World) (hb : Below W0.heap.size W0 W) => kin_any (nv := nv) (ev := ev) (a := a) j (y.n.ins + p) (by omega) (by omega) (Nat.le_of_lt hjl) W (HN.out.below hb)
 obtain ⟨b1, o1, q1, ev1, zz1, x0, x1, x2, -⟩ := ls_atV (HN.out.nodes.ls hy) hy
 subst ev1
 have HX : Hid (W0.cell? ⟨b1, o1 + j * 10 + 1, none⟩ = some (.int .i64 y.n.ins) ∧ b1 < W0.heap.size) := ⟨x1, zz1⟩
 have hjz : (j : Int) < (xs.length : Int) := by omega
 have hj0 : (0 : Int) ≤ (j : Int) := by omega
 have hwr : IntKind.i64.wrap (y.n.ins + p) = y.n.ins + p := by rw [IntKind.wrap_i64]; omega
 generalize (firstN (xs.map NV.n) j) = m at hcall
 generalize xs.length = nl at hjz HB HW hcall
 clear h hW0 g0 hgb x0 x1 x2 zz1 hy hq hjl HN
 go_enter Tryz.func40, Tryz.ntmps40
 go_upto_region 1 with fail
 rw [HW.out.1, HW.out.2]
 clear HW
 have hS0 : Below W0.heap.size W0 W0.drew := (Gr.refl W0).drew.below
 refine wp_regionD (S := fun W => Below W0.heap.size W0 W) (D := []) hmx ?_
 refine' wpAnyD_take (i := 0) (oi := ⟨some 7, .load 25 (.tmp 3), 25, "ref.go:22", #[], none⟩) (v := _) rfl (by kernel_rfl) (by kernel_rfl) (by kernel_rfl) (fun _ _ _ h => h) (by kernel_rfl) (Or.inl ⟨by rfl, ?hy1⟩) hS0 ?rest1
 case hy1 => (intro W hSw; have hb := (hSw.block _ (tk_lt HB.out)).trans HB.out; have hc := (tk_store hb).1; have hl := tk_lt hb; go_simp; try (with_reducible rfl))
 try simp only [Act.put, List.setIfInBounds_toArray, List.set_cons_zero, List.set_cons_succ]
 refine' wpAnyD_take (i := 1) (oi := ⟨some 8, .move (.tmp 1), 3, "ref.go:22", #[], none⟩) (v := _) rfl (by kernel_rfl) (by kernel_rfl) (by kernel_rfl) (fun _ _ _ h => h) (by kernel_rfl) (Or.inl ⟨by rfl, ?hy2⟩) hS0 ?rest2
 case hy2 => (intro W hSw; go_simp; try (with_reducible rfl))
 try simp only [Act.put, List.setIfInBounds_toArray, List.set_cons_zero, List.set_cons_succ]
 refine' wpAnyD_take (i := 2) (oi := ⟨some 9, .fieldAddr 25 (.tmp 3) 1, 0, "ref.go:22", #[], none⟩) (v := _) rfl (by kernel_rfl) (by kernel_rfl) (by kernel_rfl) (fun _ _ _ h => h) (by kernel_rfl) (Or.inl ⟨by rfl, ?hy3⟩) hS0 ?rest3
 case hy3 => (intro W hSw; have hb := (hSw.block _ (tk_lt HB.out)).trans HB.out; have hc := (tk_store hb).1; have hl := tk_lt hb; go_simp; try (with_reducible rfl))
 try simp only [Act.put, List.setIfInBounds_toArray, List.set_cons_zero, List.set_cons_succ]
 refine' wpAnyD_take (i := 3) (oi := ⟨some 10, .load 22 (.tmp 9), 22, "ref.go:22", #[⟨2, .data⟩], none⟩) (v := _) rfl (by kernel_rfl) (by kernel_rfl) (by kernel_rfl) (fun _ _ _ h => h) (by kernel_rfl) (Or.inl ⟨by rfl, ?hy4⟩) hS0 ?rest4
 case hy4 => (intro W hSw; have hb := (hSw.block _ (tk_lt HB.out)).trans HB.out; have hc := (tk_store hb).1; have hl := tk_lt hb; go_simp; try (with_reducible rfl))
 try simp only [Act.put, List.setIfInBounds_toArray, List.set_cons_zero, List.set_cons_succ]
 refine' wpAnyD_take (i := 4) (oi := ⟨some 11, .move (.tmp 1), 3, "ref.go:22", #[], none⟩) (v := _) rfl (by kernel_rfl) (by kernel_rfl) (by kernel_rfl) (fun _ _ _ h => h) (by kernel_rfl) (Or.inl ⟨by rfl, ?hy5⟩) hS0 ?rest5
 case hy5 => (intro W hSw; go_simp; try (with_reducible rfl))
 try simp only [Act.put, List.setIfInBounds_toArray, List.set_cons_zero, List.set_cons_succ]
 refine' wpAnyD_take (i := 5) (oi := ⟨some 12, .indexAddr 22 (.tmp 10) (.tmp 11), 0, "ref.go:22", #[⟨3, .data⟩, ⟨4, .data⟩], none⟩) (v := _) rfl (by kernel_rfl) (by kernel_rfl) (by kernel_rfl) (fun _ _ _ h => h) (by kernel_rfl) (Or.inl ⟨by rfl, ?hy6⟩) hS0 ?rest6
 case hy6 => (intro W hSw; go_simp; try (with_reducible rfl))
 try simp only [Act.put, List.setIfInBounds_toArray, List.set_cons_zero, List.set_cons_succ]
 refine' wpAnyD_take (i := 6) (oi := ⟨some 13, .fieldAddr 89 (.tmp 12) 1, 0, "ref.go:22", #[⟨5, .data⟩], none⟩) (v := _) rfl (by kernel_rfl) (by kernel_rfl) (by kernel_rfl) (fun _ _ _ h => h) (by kernel_rfl) (Or.inl ⟨by rfl, ?hy7⟩) hS0 ?rest7
 case hy7 => (intro W hSw; go_simp; try (with_reducible rfl))
 try simp only [Act.put, List.setIfInBounds_toArray, List.set_cons_zero, List.set_cons_succ]
 refine' wpAnyD_take (i := 7) (oi := ⟨some 14, .load 3 (.tmp 13), 3, "ref.go:22", #[⟨6, .data⟩], none⟩) (v := _) rfl (by kernel_rfl) (by kernel_rfl) (by kernel_rfl) (fun _ _ _ h => h) (by kernel_rfl) (Or.inl ⟨by rfl, ?hy8⟩) hS0 ?rest8
 case hy8 => (intro W hSw; have hc := (hSw.cell (p := ⟨b1, o1 + j * 10 + 1, none⟩) HX.out.2).trans HX.out.1; have hl := Nat.lt_of_lt_of_le HX.out.2 hSw.size; go_simp; try (with_reducible rfl))
 try simp only [Act.put, List.setIfInBounds_toArray, List.set_cons_zero, List.set_cons_succ]
 refine' wpAnyD_take (i := 8) (oi := ⟨some 15, .move (.tmp 2), 3, "ref.go:22", #[], none⟩) (v := _) rfl (by kernel_rfl) (by kernel_rfl) (by kernel_rfl) (fun _ _ _ h => h) (by kernel_rfl) (Or.inl ⟨by rfl, ?hy9⟩) hS0 ?rest9
 case hy9 => (intro W hSw; go_simp; try (with_reducible rfl))
 try simp only [Act.put, List.setIfInBounds_toArray, List.set_cons_zero, List.set_cons_succ]
 refine' wpAnyD_take (i := 9) (oi := ⟨some 16, .binOp .add 3 (.tmp 14) (.tmp 15) 3, 3, "ref.go:22", #[⟨7, .data⟩, ⟨8, .data⟩], none⟩) (v := _) rfl (by kernel_rfl) (by kernel_rfl) (by kernel_rfl) (fun _ _ _ h => h) (by kernel_rfl) (Or.inl ⟨by rfl, ?hy10⟩) hS0 ?rest10
 case hy10 => (intro W hSw; go_simp; try (with_reducible rfl))
 try simp only [Act.put, List.setIfInBounds_toArray, List.set_cons_zero, List.set_cons_succ]
 refine wpAnyD_one (i := 10) (o := ⟨some 17, .call ⟨.value (.func 39), #[.tmp 7, .tmp 8, .tmp 16], #[25, 3, 3]⟩, 3, "ref.go:22", #[⟨0, .data⟩, ⟨1, .data⟩, ⟨9, .data⟩], none⟩) (by kernel_rfl) rfl (fun K hK => ?_)
 go_simp
 refine (hcall _ hS0).mono ?_
 rintro r w7 ⟨rfl, g7⟩
 have G7 := hid g7
 have hS7 : Below W0.heap.size W0 w7 := hS0.trans (g7.below.mono hS0.size)
 clear g7
 go_wp2_with fail
 refine hK.out _ _ (fun hD => hS7) ?_
 clear hK K
 try simp only [Act.put, List.setIfInBounds_toArray, List.set_cons_zero, List.set_cons_succ]
 refine' wpAnyD_take (i := 11) (oi := ⟨some 6, .assign (.tmp 17), 3, "ref.go:22", #[⟨10, .data⟩, ⟨10, .chain⟩, ⟨0, .phase⟩, ⟨1, .phase⟩, ⟨2, .phase⟩, ⟨3, .phase⟩, ⟨4, .phase⟩, ⟨5, .phase⟩, ⟨6, .phase⟩, ⟨7, .phase⟩, ⟨8, .phase⟩, ⟨9, .phase⟩, ⟨10, .phase⟩], none⟩) (v := _) rfl (by kernel_rfl) (by kernel_rfl) (by kernel_rfl) (fun _ _ _ h => h) (by kernel_rfl) (Or.inl ⟨by rfl, ?hy12⟩) hS7 ?rest12
 case hy12 => (intro W hSw; go_simp; try (with_reducible rfl))
 try simp only [Act.put, List.setIfInBounds_toArray, List.set_cons_zero, List.set_cons_succ]
 refine wpAnyD_done (by kernel_rfl) ?_ _
 go_wp2_with fail
 go_ret
 exact ⟨rfl, (G0.out.trans (Gr.refl W0).drew).trans G7.out⟩
def Rs (w0 : Nat) (W : World) (v : Value) (l : List Con) : Prop := Lz EC W.heap.size W v l ∧ (l = [] ∨ ∀ k, v.ownBlock = some k → k < w0 ∨ ∃ cs z, W.heap[k]? = some (.cells cs 92 z))
theorem Rs.kp {w0 : Nat} {S : Nat → Prop} {W W' : World} {v : Value} {l : List Con} (h : Rs w0 W v l) (hk : Kp S W W') (hS : ∀ k, S k → w0 ≤ k ∧ ∀ cs z, W.heap[k]? ≠ some (.cells cs 92 z)) : Rs w0 W' v l := by
 rcases h.2 with rfl | h2
 ·obtain ⟨p, c, rfl⟩ := h.1.form
  exact ⟨Or.inr ⟨rfl, p, c, rfl⟩, Or.inl rfl⟩
 have hn : ∀ k, v.ownBlock = some k → ¬ S k := fun k e e2 => by
  obtain ⟨h1, h4⟩ := hS k e2
  rcases h2 k e with h3 | ⟨cs, z, h3⟩
  ·omega
  ·exact h4 cs z h3
 refine ⟨?_, Or.inr fun k e => ?_⟩
 ·rcases h.1 with ⟨h1, h2⟩ | h1
  ·exact Or.inl ⟨hk.ls h1 hn, fun k e => Nat.lt_of_lt_of_le (h2 k e) hk.size⟩
  ·exact Or.inr h1
 ·rcases h2 k e with h3 | ⟨cs, z, h3⟩
  ·exact Or.inl h3
  ·exact Or.inr ⟨cs, z, (hk.block _ (tk_lt h3) (hn k e)).trans h3⟩
theorem Rs.below {w0 : Nat} {W W' : World} {v : Value} {l : List Con} (h : Rs w0 W v l) (hb : Below W.heap.size W W') : Rs w0 W' v l := h.kp (S := fun _ => False) (Kp.of_below hb) (fun _ h => h.elim)
theorem rs_own {w0 B : Nat} {W : World} {v : Value} {l : List Con} (h : W.ownsRow B 92 5 v l.length (fl EC l)) : Rs w0 W v l := ⟨owns_lz (E := EC) h, Or.inr fun k e => Or.inr (by obtain ⟨c, f, hc⟩ := Lib.ownsRow_kind h k e; exact ⟨c, f, hc⟩)⟩
theorem con1_own (w : World) (c : Con) : ((w.alloc (.cells (ccells c) 92))).ownsRow w.heap.size 92 5 (.slice (some ⟨w.heap.size, 0, none⟩) 1 1) 1 (fl EC [c]) :=
 ⟨by rw [fl_one]; rfl, Or.inr ⟨w.heap.size, 1, ccells c, rfl, Nat.le_refl _, heap_new' _ _, Nat.le_refl _, by unfold maxLen; omega, rfl, by rw [fl_one]; rfl⟩⟩
def Kc (w0 : Nat) (w : World) (l : List Con) (r : Ending) (w' : World) : Prop := ∃ v, r = .returned v ∧ Below w.heap.size w w' ∧ Rs w0 w' v l
theorem acr1 (i : Nat) : acrL 1 i = (List.range i).map fun (k : Nat) => (⟨(k : Int), 0, (0, 0, 0)⟩ : Con) := by
 induction i with
 | zero => rfl
 | succ i ih =>
  rw [acrL, ih, List.range_succ, List.map_append]
  rfl
set_option maxRecDepth 100000 in
set_option maxHeartbeats 8000000 in
theorem kconns_any {y : NV} {a : Int} {w0 : Nat} (w : World) (hR : Lz EC w0 w y.dv y.n.conns) (hw0 : w0 ≤ w.heap.size) (hf : nflaw a y.n = 0) : Calls Tryz.prog 38 #[.agg y.cells] w (Kc w0 w (connsN y.n)) := by
 obtain ⟨g0, hW0⟩ : ∃ b, b = w.heap.size := ⟨_, rfl⟩
 obtain ⟨W0, hW⟩ : ∃ W, W = w.alloc (.cells y.cells 89) := ⟨_, rfl⟩
 have HB : Hid (W0.heap[g0]? = some (.cells y.cells 89 (0, 0)) ∧ Below w.heap.size w W0) := by rw [hW, hW0]; exact ⟨heap_new' _ _, ((Gr.refl w).alloc _).below⟩
 have HW : Hid (w.alloc (.cells #[.int .i64 y.n.kind, .int .i64 y.n.ins, .int .i64 y.n.outs, y.cv, .int .u64 (y.n.via.1 : Nat), .int .u64 (y.n.via.2.1 : Nat), .int .u64 (y.n.via.2.2 : Nat), .int .u64 (y.n.bound : Nat), y.dv, .bool y.n.start] 89) = W0 ∧ w.heap.size = g0) := ⟨hW.symm, hW0.symm⟩
 have hk := nflaw_kind hf
 obtain ⟨⟨p1, p2⟩, _⟩ := nflaw_rest hf
 have HR := hid hR
 have c0 := (tk_store HB.out.1).1
 have l0 := tk_lt HB.out.1
 have HONE : Hid (∀ c : Con, connsN y.n = [c] → Kc w0 w (connsN y.n) (.returned (.slice (some ⟨W0.heap.size, 0, none⟩) 1 1)) (W0.alloc (.cells (ccells c) 92))) := fun c hc => by
  rw [hc]
  exact ⟨_, rfl, HB.out.2.trans (((Gr.refl W0).alloc _).below.mono HB.out.2.size), rs_own (con1_own W0 c)⟩
 clear hR hW hW0 hf
 have hk8 : y.n.kind = 1 ∨ y.n.kind = 2 ∨ y.n.kind = 3 ∨ y.n.kind = 4 ∨ y.n.kind = 5 ∨ y.n.kind = 6 ∨ y.n.kind = 7 ∨ y.n.kind = 8 := by omega
 obtain ⟨⟨kind, ins, outs, code, via, bound, conns, start⟩, cq, cm, cc, dq, dm, dc⟩ := y
 dsimp only at hk8 hk p1 p2 HW HR HONE c0 HB ⊢
 rcases hk8 with rfl | rfl | rfl | rfl | rfl | rfl | rfl | rfl
 ·have e1 : connsN ⟨1, ins, outs, code, via, bound, conns, start⟩ = [] := by
    simp [pIn] at p1
    simp [pOut] at p2
    subst p1
    unfold connsN
    simp [acrL]
  rw [e1]
  clear HONE p1 p2 e1
  go_enter Tryz.func38, Tryz.ntmps38
  go_upto_region 1 with fail
  rw [HW.out.1, HW.out.2]
  clear HW
  go_wp2_with fail
  go_ret
  exact ⟨_, rfl, HB.out.2, Lz.nil _ _ _, Or.inl rfl⟩
 ·have e1 : connsN ⟨2, ins, outs, code, via, bound, conns, start⟩ = [⟨0, 0, (0, 0, 0)⟩] := by
    simp [pIn] at p1
    simp [pOut] at p2
    subst p1
    subst p2
    rfl
  have FIN := HONE.out _ e1
  rw [e1] at FIN ⊢
  have FIN := hid FIN
  clear HONE p1 p2 e1
  go_enter Tryz.func38, Tryz.ntmps38
  go_upto_region 1 with fail
  rw [HW.out.1, HW.out.2]
  clear HW
  go_wp2_with fail
  go_ret
  exact FIN.out
 ·have e1 : connsN ⟨3, ins, outs, code, via, bound, conns, start⟩ = [⟨0, 0, (0, 0, 0)⟩] := by
    simp [pIn] at p1
    simp [pOut] at p2
    subst p1
    subst p2
    rfl
  have FIN := HONE.out _ e1
  rw [e1] at FIN ⊢
  have FIN := hid FIN
  clear HONE p1 p2 e1
  go_enter Tryz.func38, Tryz.ntmps38
  go_upto_region 1 with fail
  rw [HW.out.1, HW.out.2]
  clear HW
  go_wp2_with fail
  go_ret
  exact FIN.out
 ·simp [pIn] at p1
  simp [pOut] at p2
  subst p2
  obtain ⟨m, rfl⟩ : ∃ m : Nat, ins = (m : Int) := ⟨ins.toNat, by omega⟩
  have e1 : connsN ⟨4, (m : Int), 1, code, via, bound, conns, start⟩ = (List.range m).map fun (k : Nat) => (⟨(k : Int), 0, (0, 0, 0)⟩ : Con) := by
   rw [← acr1]
   simp [connsN]
  rw [e1]
  have hm4 : m ≤ 4 := by omega
  have HBW := hid HB.out.2.size
  clear HONE e1 p1
  go_enter Tryz.func38, Tryz.ntmps38
  go_upto_region 1 with fail
  rw [HW.out.1, HW.out.2]
  clear HW
  go_wp2_with fail
  go_loopw [3, 4] (fun s3 s4 wr => ∃ (i : Nat) (lv : Value), i ≤ m ∧ s4 = .int .i64 (i : Nat) ∧ lv = s3 ∧ Hid (Below W0.heap.size W0 wr ∧ wr.ownsRow W0.heap.size 92 5 lv i (fl EC ((List.range i).map fun (k : Nat) => (⟨(k : Int), 0, (0, 0, 0)⟩ : Con))))) (fun _ s4 _ => m - (RowKit.intOf s4).toNat)
  case atStart => exact ⟨0, _, Nat.zero_le _, rfl, rfl, Below.refl _ _, World.ownsRow_nil _ _ _ _⟩
  case round =>
   obtain ⟨i, lv, hi, rfl, rfl, HI⟩ := hrel
   have c1 := (tk_store ((HI.out.1.block _ (tk_lt HB.out.1)).trans HB.out.1)).1
   have l1 := Nat.lt_of_lt_of_le (tk_lt HB.out.1) HI.out.1.size
   by_cases hlt : i < m
   ·have hltz : (i : Int) < (m : Int) := by omega
    have HSZ := hid HI.out.1.size
    go_wp2_with (at_builtin; refine wpApp1 EC Tryz.underlying85 infoC rfl (by decide) rfl _ _ rfl W0.heap.size _ i _ rfl HI.out.2 ⟨(i : Int), 0, (0, 0, 0)⟩ rfl (by omega) (by unfold maxLen; omega) HSZ.out _ rfl _ ?_; intro g9 c9 w9 r1 r2 r3)
    have FIN : Hid (Below W0.heap.size W0 w9 ∧ w9.ownsRow W0.heap.size 92 5 (.slice (some ⟨g9, 0, none⟩) (i + 1) c9) (i + 1) (fl EC ((List.range (i + 1)).map fun (k : Nat) => (⟨(k : Int), 0, (0, 0, 0)⟩ : Con)))) := by
     have k2 := Kp.grownBy (S := fun j => lv.ownBlock = some j) r2 (fun _ h => h)
     refine ⟨HI.out.1.trans (k2.below HI.out.1.size (fun j e => (owns_rd HI.out.2 j e).1)), ?_⟩
     rw [List.range_succ, List.map_append, fl_append]
     exact owns_re r1 rfl (by rw [List.map_singleton, fl_one])
    clear r1 r2 r3 c1 l1
    go_roundw
    case rel => exact ⟨i + 1, _, by omega, by go_num, rfl, FIN.out⟩
    case measure => simp [RowKit.intOf]; omega
   ·have hltz : ¬ (i : Int) < (m : Int) := by omega
    obtain rfl : i = m := by omega
    go_wp2_with fail
    go_ret
    exact ⟨_, rfl, HB.out.2.trans (HI.out.1.mono HB.out.2.size), rs_own (owns_re HI.out.2 (by simp) rfl)⟩
 ·have e1 : connsN ⟨5, ins, outs, code, via, bound, conns, start⟩ = [⟨0, 0, via⟩] := by
    simp [connsN]
  have FIN := HONE.out _ e1
  rw [e1] at FIN ⊢
  have FIN := hid FIN
  clear HONE p1 p2 e1
  go_enter Tryz.func38, Tryz.ntmps38
  go_upto_region 1 with fail
  rw [HW.out.1, HW.out.2]
  clear HW
  go_wp2_with fail
  go_ret
  exact FIN.out
 ·have e1 : connsN ⟨6, ins, outs, code, via, bound, conns, start⟩ = [⟨0, 0, (0, 0, 0)⟩] := by
    simp [pIn] at p1
    simp [pOut] at p2
    subst p1
    subst p2
    rfl
  have FIN := HONE.out _ e1
  rw [e1] at FIN ⊢
  have FIN := hid FIN
  clear HONE p1 p2 e1
  go_enter Tryz.func38, Tryz.ntmps38
  go_upto_region 1 with fail
  rw [HW.out.1, HW.out.2]
  clear HW
  go_wp2_with fail
  go_ret
  exact FIN.out
 ·have e1 : connsN ⟨7, ins, outs, code, via, bound, conns, start⟩ = [] := by
    simp [pIn] at p1
    simp [pOut] at p2
    subst p2
    subst p1
    unfold connsN
    simp [acrL, rowL]
  rw [e1]
  clear HONE p1 p2 e1
  go_enter Tryz.func38, Tryz.ntmps38
  go_upto_region 1 with fail
  rw [HW.out.1, HW.out.2]
  clear HW
  go_wp2_with fail
  go_ret
  exact ⟨_, rfl, HB.out.2, Lz.nil _ _ _, Or.inl rfl⟩
 ·have e1 : connsN ⟨8, ins, outs, code, via, bound, conns, start⟩ = conns := by simp [connsN]
  rw [e1]
  clear HONE p1 p2 e1
  go_enter Tryz.func38, Tryz.ntmps38
  go_upto_region 1 with fail
  rw [HW.out.1, HW.out.2]
  clear HW
  go_wp2_with fail
  go_ret
  refine ⟨_, rfl, HB.out.2, ((HR.out.up hw0).below HB.out.2).up HB.out.2.size, ?_⟩
  rcases HR.out with ⟨_, h2⟩ | ⟨h2, _⟩
  ·exact Or.inr fun k e => Or.inl (h2 k e)
  ·exact Or.inl h2
end Go.Proofs.YtdnnfgabdkkdjaaGreat.Df

namespace Go.Proofs.YtdnnfgabdkkdjaaGreat.Df
open Go.RowKit Go.Sort
attribute [local go_sem ↓] Go.wp_at_zero Go.wp_at_succ
theorem infoSt : (Tryz.prog.info? 44).map (fun i => (i.zero, i.size, i.bytes)) = some (some (.agg #[.int .i64 0, .int .i64 0, .int .u64 0, .int .u64 0, .int .u64 0]), 5, 40) := by kernel_rfl
def sC (ns : List Nod) (i : Nat) (c : Con) : Con := ⟨((cIn ns i c : Nat) : Int), ((cOut ns i c : Nat) : Int), c.via⟩
def nodR (ns : List Nod) : Nat → List Con
 | 0 => []
 | i + 1 => nodR ns i ++ (connsAt ns (i : Int)).map (sC ns i)
def sE (ns : List Nod) (d : Edg) : Con := ⟨((outPl ns d : Nat) : Int), ((inPl ns d : Nat) : Int), (0, 0, 0)⟩
def stR (g : Gph) : List Con := nodR g.nodes g.nodes.length ++ g.edges.map (sE g.nodes)
def emR (g : Gph) : List Con := (stR g).filter isE
theorem nodR_len {g : Gph} (h : Gok g) (m : Nat) : (nodR g.nodes m).length ≤ 16 * m := by
 induction m with
 | zero => simp [nodR]
 | succ m ih =>
  unfold nodR
  rw [List.length_append, List.length_map]
  have h2 := h.conLen m
  omega
theorem stR_len {g : Gph} (h : Gok g) : (stR g).length ≤ 432 := by
 unfold stR
 rw [List.length_append, List.length_map]
 have h1 := nodR_len h g.nodes.length
 have h2 := h.nl
 have h3 := h.el
 omega
theorem nodR_mem {ns : List Nod} {m : Nat} {x : Con} : x ∈ nodR ns m ↔ ∃ i c, i < m ∧ c ∈ connsAt ns ((i : Nat) : Int) ∧ x = sC ns i c := by
 induction m with
 | zero => simp [nodR]
 | succ m ih =>
  unfold nodR
  rw [List.mem_append, ih]
  constructor
  ·rintro (⟨i, c, h1, h2⟩ | h)
   ·exact ⟨i, c, by omega, h2⟩
   ·obtain ⟨c, hc, rfl⟩ := List.mem_map.1 h
    exact ⟨m, c, by omega, hc, rfl⟩
  ·rintro ⟨i, c, h1, h2, rfl⟩
   by_cases e : i = m
   ·subst e
    exact Or.inr (List.mem_map.2 ⟨c, h2, rfl⟩)
   ·exact Or.inl ⟨i, c, by omega, h2, rfl⟩
theorem emR_mem {g : Gph} {x : Con} : x ∈ emR g ↔ ∃ p q : Nat, x = ⟨(p : Int), (q : Int), (0, 0, 0)⟩ ∧ (p, q) ∈ stS g := by
 unfold emR stR stS
 rw [List.mem_filter, List.mem_append, nodR_mem]
 constructor
 ·rintro ⟨⟨i, c, h1, h2, rfl⟩ | h, he⟩
  ·have hv : c.via = (0, 0, 0) := of_decide_eq_true he
   exact ⟨cIn g.nodes i c, cOut g.nodes i c, by simp [sC, hv], List.mem_append.2 (Or.inr (nodU_mem.2 ⟨i, c, h1, h2, by simp [isE, hv], rfl⟩))⟩
  ·obtain ⟨d, hd, rfl⟩ := List.mem_map.1 h
   exact ⟨outPl g.nodes d, inPl g.nodes d, rfl, List.mem_append.2 (Or.inl (List.mem_map.2 ⟨d, hd, rfl⟩))⟩
 ·rintro ⟨p, q, rfl, h⟩
  refine ⟨?_, by simp [isE]⟩
  rcases List.mem_append.1 h with h | h
  ·obtain ⟨d, hd, e⟩ := List.mem_map.1 h
   unfold edgP at e
   simp only [Prod.mk.injEq] at e
   exact Or.inr (List.mem_map.2 ⟨d, hd, by unfold sE; rw [e.1, e.2]⟩)
  ·obtain ⟨i, c, h1, h2, h3, e⟩ := nodU_mem.1 h
   unfold conS at e
   simp only [Prod.mk.injEq] at e
   have hv : c.via = (0, 0, 0) := of_decide_eq_true h3
   exact Or.inl ⟨i, c, h1, h2, by unfold sC; rw [← e.1, ← e.2, hv]⟩
theorem nr_of {M : Nat} {nv ev : Value} {a : Int} {xs : List NV} {es : List Edg} {W : World} (h : GR M W nv ev xs es) (hM : M ≤ W.heap.size) (hOK : Gok (gof a xs es)) : Nr W nv xs := ⟨h.nodes.up hM, by have := hOK.nl; simpa using this, hOK.pok⟩
set_option maxRecDepth 100000 in
set_option maxHeartbeats 8000000 in
theorem ksteps_any {M : Nat} {nv ev : Value} {a : Int} {xs : List NV} {es : List Edg} (w : World) (hG : GR M w nv ev xs es) (hM : M ≤ w.heap.size) (hOK : Gok (gof a xs es)) : Calls Tryz.prog 13 #[.agg (gvc a nv ev)] w (Cp EC 44 w (stR (gof a xs es))) := by
 have hmx : Tryz.prog.follows .mixedOrders = true := by kernel_rfl
 obtain ⟨W0, hW0⟩ : ∃ W, W = w.alloc (.cells (gvc a nv ev) 25) := ⟨_, rfl⟩
 obtain ⟨gb, hgb⟩ : ∃ b, b = w.heap.size := ⟨_, rfl⟩
 have g0 : Gr w W0 := by rw [hW0]; exact (Gr.refl w).alloc _
 have HB : Hid (W0.heap[gb]? = some (.cells (gvc a nv ev) 25 (0, 0)) ∧ Below w.heap.size w W0) := ⟨by rw [hW0, hgb]; exact heap_new' _ _, g0.below⟩
 have HW : Hid (w.alloc (.cells #[.int .i64 a, nv, ev] 25) = W0 ∧ w.heap.size = gb) := ⟨hW0.symm, hgb.symm⟩
 have HG : Hid (∀ W, Below W0.heap.size W0 W → GR M W nv ev xs es ∧ Nr W nv xs) := fun W hb => ⟨(hG.below g0.below).below hb, nr_of ((hG.below g0.below).below hb) (Nat.le_trans (Nat.le_trans hM g0.below.size) hb.size) hOK⟩
 have HMM : Hid (M ≤ W0.heap.size) := Nat.le_trans hM g0.below.size
 obtain ⟨qn, cn, hnv⟩ := hG.nodes.form
 obtain ⟨qe, ce, hev⟩ := hG.edges.form
 subst hnv
 subst hev
 obtain ⟨nl, hnl⟩ : ∃ n, n = xs.length := ⟨_, rfl⟩
 obtain ⟨el, hel⟩ : ∃ n, n = es.length := ⟨_, rfl⟩
 obtain ⟨ns, hns⟩ : ∃ ns, ns = xs.map NV.n := ⟨_, rfl⟩
 have hnsl : ns.length = nl := by rw [hns, hnl]; simp
 have h24 : nl ≤ 24 := by have := hOK.nl; rw [hnl]; simpa using this
 have h48 : el ≤ 48 := by have := hOK.el; rw [hel]; exact this
 have HNL : Hid (nl = xs.length ∧ el = es.length ∧ ns = xs.map NV.n ∧ ns.length = nl) := ⟨hnl, hel, hns, hnsl⟩
 have HOK := hid hOK
 have HSR : Hid (stR (gof a xs es) = nodR ns nl ++ es.map (sE ns)) := by show nodR (xs.map NV.n) (xs.map NV.n).length ++ es.map (sE (xs.map NV.n)) = _; rw [← hns, hnsl]
 rw [← hnl] at HB HW HG ⊢
 rw [← hel] at HB HW HG ⊢
 have c0 := (tk_store HB.out.1).1
 have l0 := tk_lt HB.out.1
 clear hG hM hW0 hgb g0 hOK hnl hel hns hnsl
 go_enter Tryz.func13, Tryz.ntmps13
 go_upto_region 1 with fail
 rw [HW.out.1, HW.out.2]
 clear HW
 go_wp2_with fail
 clear c0 l0
 go_loopw [3, 4] (fun s3 s4 wr => ∃ (i : Nat) (lv : Value), i ≤ nl ∧ s4 = .int .i64 (i : Nat) ∧ lv = s3 ∧ Hid (Below W0.heap.size W0 wr ∧ wr.ownsRow W0.heap.size 44 5 lv (nodR ns i).length (fl EC (nodR ns i)))) (fun _ s4 _ => nl - (RowKit.intOf s4).toNat)
 case atStart => exact ⟨0, _, Nat.zero_le _, rfl, rfl, Below.refl _ _, World.ownsRow_nil _ _ _ _⟩
 case round =>
  obtain ⟨i, lv, hi, rfl, rfl, HI⟩ := hrel
  have hb0 := (HI.out.1.block _ (tk_lt HB.out.1)).trans HB.out.1
  have c1 := (tk_store hb0).1
  have l1 := tk_lt hb0
  clear hb0
  by_cases hlt : i < nl
  ·have hltz : (i : Int) < (nl : Int) := by omega
   have hi0 : (0 : Int) ≤ (i : Int) := by omega
   obtain ⟨y, hy⟩ : ∃ y, xs[i]? = some y := ⟨xs[i]'(by have := HNL.out.1; omega), by simp⟩
   have HYN : Hid (xs[i]? = some y ∧ ns[i]? = some y.n ∧ connsAt ns (i : Int) = connsN y.n) := by
    have e1 : ns[i]? = some y.n := by rw [HNL.out.2.2.1]; simp [hy]
    exact ⟨hy, e1, by rw [connsAt_nat, e1]⟩
   have hfl : nflaw a y.n = 0 := HOK.out.ng i y.n (by have := HNL.out.1; simpa using (by omega : i < xs.length)) (by simp [hy])
   have hcon := kconns_any wr ((HG.out wr HI.out.1).1.each y (List.mem_of_getElem? hy)).conns (Nat.le_trans HMM.out HI.out.1.size) hfl
   obtain ⟨b1, o1, q1, ev1, zz1, x0, x1, x2, x3, x4, x5, x6, x7, x8, x9⟩ := ls_atV ((HG.out wr HI.out.1).1.nodes.ls hy) hy
   simp only [Value.slice.injEq] at ev1
   obtain ⟨rfl, -, rfl⟩ := ev1
   have HCL : Hid ((connsN y.n).length ≤ 16) := connsN_len hfl
   obtain ⟨cs, hcs⟩ : ∃ l, l = connsN y.n := ⟨_, rfl⟩
   rw [← hcs] at hcon HCL
   have HCS := hid hcs
   have hcl9 := HCL.out
   clear hy hfl hcs
   go_wp2_with fail
   refine hcon.mono ?_
   clear hcon c1 l1 x0 x1 x2 x3 x4 x5 x6 x7 x8 x9 zz1
   rintro r w5 ⟨cv, rfl, hb5, hrs⟩
   obtain ⟨pc, cc, rfl⟩ := hrs.1.form
   have S5 : Hid (Below W0.heap.size W0 w5 ∧ w5.ownsRow W0.heap.size 44 5 lv (nodR ns i).length (fl EC (nodR ns i)) ∧ Rs M w5 (.slice pc cs.length cc) cs) := ⟨HI.out.1.trans (hb5.mono HI.out.1.size), owns_below HI.out.2 hb5, hrs⟩
   obtain ⟨cl, hcl⟩ : ∃ n, n = cs.length := ⟨_, rfl⟩
   rw [← hcl] at S5 hcl9 ⊢
   have HCLN := hid hcl
   clear hb5 hrs HI hcl
   go_wp2_with fail
   go_loopw [3, 6] (fun s3 s6 wr => ∃ (k : Nat) (lv : Value), k ≤ cl ∧ s6 = .int .i64 (k : Nat) ∧ lv = s3 ∧ Hid (Below W0.heap.size W0 wr ∧ wr.ownsRow W0.heap.size 44 5 lv (nodR ns i ++ (cs.take k).map (sC ns i)).length (fl EC (nodR ns i ++ (cs.take k).map (sC ns i))) ∧ Rs M wr (.slice pc cl cc) cs)) (fun _ s6 _ => cl - (RowKit.intOf s6).toNat)
   case atStart => exact ⟨0, _, Nat.zero_le _, rfl, rfl, by have h := S5.out; show _ ∧ _ ∧ _; simpa using h⟩
   case round =>
    clear S5
    obtain ⟨k, lv, hk, rfl, rfl, HI⟩ := hrel
    by_cases hlk : k < cl
    ·have hlkz : (k : Int) < (cl : Int) := by omega
     have hk0 : (0 : Int) ≤ (k : Int) := by omega
     obtain ⟨z, hz⟩ : ∃ z, cs[k]? = some z := ⟨cs[k]'(by have := HCLN.out; omega), by simp⟩
     have hhas := HOK.out.con (g := gof a xs es) (i := i) (c := z) (by rw [show (gof a xs es).nodes = ns from HNL.out.2.2.1.symm, HYN.out.2.2, ← HCS.out]; exact List.mem_of_getElem? hz)
     rw [show (gof a xs es).nodes = ns from HNL.out.2.2.1.symm] at hhas
     obtain ⟨b2, o2, q2, ev2, zz2, y0, y1, y2, y3, y4⟩ := ls_atC (HI.out.2.2.1.ls hz) hz
     simp only [Value.slice.injEq] at ev2
     obtain ⟨rfl, -, rfl⟩ := ev2
     obtain ⟨_, hn1, _, _, hz1, hz2⟩ := has_in hhas.1
     obtain ⟨_, hn2, _, _, hz3, hz4⟩ := has_out hhas.2
     have hp2 := HOK.out.pok
     rw [show (gof a xs es).nodes = ns from HNL.out.2.2.1.symm] at hp2
     rw [show ((i : Nat) : Int).toNat = i by omega, HYN.out.2.1] at hn1 hn2
     obtain rfl := Option.some.inj hn1
     obtain rfl := Option.some.inj hn2
     have hpy := hp2 y.n (List.mem_of_getElem? HYN.out.2.1)
     have HCALL : Hid (∀ W, Below wr.heap.size wr W → Calls Tryz.prog 39 #[.agg (gvc a (.slice (some ⟨b1, o1, none⟩) nl cn) (.slice qe el ce)), .int .i64 (i : Nat), .int .i64 z.inn] W fun r w' => r = .returned (.int .i64 ((cIn ns i z : Nat) : Int)) ∧ Gr W w') := fun W hb => by
      have h := kin_any (ev := .slice qe el ce) (a := a) i z.inn hz1 (by omega) (by have := HNL.out.1; omega) W (HG.out W (HI.out.1.trans (hb.mono HI.out.1.size))).2
      rw [← HNL.out.2.2.1] at h
      refine h.mono (fun r w' hr => ⟨hr.1.trans ?_, hr.2⟩)
      congr 2
      unfold cIn
      push_cast
      omega
     have HCALL2 : Hid (∀ W, Below wr.heap.size wr W → Calls Tryz.prog 40 #[.agg (gvc a (.slice (some ⟨b1, o1, none⟩) nl cn) (.slice qe el ce)), .int .i64 (i : Nat), .int .i64 z.out] W fun r w' => r = .returned (.int .i64 ((cOut ns i z : Nat) : Int)) ∧ Gr W w') := fun W hb => by
      have h := kout_any (ev := .slice qe el ce) (a := a) i z.out y HYN.out.1 hz3 (by omega) W (HG.out W (HI.out.1.trans (hb.mono HI.out.1.size))).2
      rw [← HNL.out.2.2.1] at h
      refine h.mono (fun r w' hr => ⟨hr.1.trans ?_, hr.2⟩)
      congr 2
      unfold cOut
      rw [HYN.out.2.1]
      push_cast
      omega
     obtain ⟨ln, hln⟩ : ∃ l, l = nodR ns i ++ (cs.take k).map (sC ns i) := ⟨_, rfl⟩
     have HNX : Hid (ln ++ [sC ns i z] = nodR ns i ++ (cs.take (k + 1)).map (sC ns i)) := by
      show _ = _
      rw [hln, List.take_add_one, hz]
      simp
     have HLE : Hid (ln.length ≤ 500) := by
      have h1 := nodR_len HOK.out i
      rw [show (gof a xs es).nodes = ns from HNL.out.2.2.1.symm] at h1
      show _ ≤ _
      rw [hln, List.length_append, List.length_map, List.length_take]
      omega
     have hI := HI.out
     rw [← hln] at hI
     have HRW := hid hI.2.1
     have HRS := hid hI.2.2
     have HBL := hid hI.1
     have HBW := hid hI.1.size
     have HD : Hid ((wr.heap[gb]? = some (.cells (gvc a (.slice (some ⟨b1, o1, none⟩) nl cn) (.slice qe el ce)) 25 (0, 0))) ∧ b2 < wr.heap.size ∧ wr.cell? ⟨b2, o2 + k * 5, none⟩ = some (.int .i64 z.inn) ∧ wr.cell? ⟨b2, o2 + k * 5 + 1, none⟩ = some (.int .i64 z.out) ∧ wr.cell? ⟨b2, o2 + k * 5 + 2, none⟩ = some (.int .u64 (z.via.1 : Nat)) ∧ wr.cell? ⟨b2, o2 + k * 5 + 3, none⟩ = some (.int .u64 (z.via.2.1 : Nat)) ∧ wr.cell? ⟨b2, o2 + k * 5 + 4, none⟩ = some (.int .u64 (z.via.2.2 : Nat))) := ⟨(HI.out.1.block _ (tk_lt HB.out.1)).trans HB.out.1, zz2, y0, y1, y2, y3, y4⟩
     obtain ⟨ci, hci⟩ : ∃ k, k = cIn ns i z := ⟨_, rfl⟩
     obtain ⟨co, hco⟩ : ∃ k, k = cOut ns i z := ⟨_, rfl⟩
     rw [← hci] at HCALL
     rw [← hco] at HCALL2
     have HEL : Hid (sC ns i z = ⟨(ci : Int), (co : Int), z.via⟩) := by show _ = _; unfold sC; rw [hci, hco]
     clear HI hI hz hhas hz1 hz2 hz3 hz4 hpy hp2 hn1 hn2 hln y0 y1 y2 y3 y4 zz2 hci hco
     go_upto_region 9 with fail
     obtain ⟨W6, hW6⟩ : ∃ W, W = wr := ⟨_, rfl⟩
     rw [← hW6] at HCALL HCALL2 HRW HRS HBL HBW HD ⊢
     clear hW6
     have hB0 : Below W6.heap.size W6 W6.drew := (Gr.refl W6).drew.below
     have HSK : Hid (∀ (S : Nat → Prop) (W1 W : World), Below W6.heap.size W6 W1 → Kp S W1 W → ¬ S gb → ¬ S b2 → W.heap[gb]? = some (.cells (gvc a (.slice (some ⟨b1, o1, none⟩) nl cn) (.slice qe el ce)) 25 (0, 0)) ∧ b2 < W.heap.size ∧ W.cell? ⟨b2, o2 + k * 5, none⟩ = some (.int .i64 z.inn) ∧ W.cell? ⟨b2, o2 + k * 5 + 1, none⟩ = some (.int .i64 z.out) ∧ W.cell? ⟨b2, o2 + k * 5 + 2, none⟩ = some (.int .u64 (z.via.1 : Nat)) ∧ W.cell? ⟨b2, o2 + k * 5 + 3, none⟩ = some (.int .u64 (z.via.2.1 : Nat)) ∧ W.cell? ⟨b2, o2 + k * 5 + 4, none⟩ = some (.int .u64 (z.via.2.2 : Nat))) := fun S W1 W hb hk h1 h2 => by
      have hc : ∀ (o : Nat) (x : Value), W6.cell? ⟨b2, o, none⟩ = some x → W.cell? ⟨b2, o, none⟩ = some x := fun o x hx => (hk.cell (b := b2) (o := o) (Nat.lt_of_lt_of_le HD.out.2.1 hb.size) h2).trans ((hb.cell (p := ⟨b2, o, none⟩) HD.out.2.1).trans hx)
      exact ⟨(hk.block _ (Nat.lt_of_lt_of_le (tk_lt HD.out.1) hb.size) h1).trans ((hb.block _ (tk_lt HD.out.1)).trans HD.out.1), Nat.lt_of_lt_of_le HD.out.2.1 (Nat.le_trans hb.size hk.size), hc _ _ HD.out.2.2.1, hc _ _ HD.out.2.2.2.1, hc _ _ HD.out.2.2.2.2.1, hc _ _ HD.out.2.2.2.2.2.1, hc _ _ HD.out.2.2.2.2.2.2⟩
     have HSB : Hid (∀ W, Below W6.heap.size W6 W → W.heap[gb]? = some (.cells (gvc a (.slice (some ⟨b1, o1, none⟩) nl cn) (.slice qe el ce)) 25 (0, 0)) ∧ b2 < W.heap.size ∧ W.cell? ⟨b2, o2 + k * 5, none⟩ = some (.int .i64 z.inn) ∧ W.cell? ⟨b2, o2 + k * 5 + 1, none⟩ = some (.int .i64 z.out) ∧ W.cell? ⟨b2, o2 + k * 5 + 2, none⟩ = some (.int .u64 (z.via.1 : Nat)) ∧ W.cell? ⟨b2, o2 + k * 5 + 3, none⟩ = some (.int .u64 (z.via.2.1 : Nat)) ∧ W.cell? ⟨b2, o2 + k * 5 + 4, none⟩ = some (.int .u64 (z.via.2.2 : Nat))) := fun W hb => HSK.out (fun _ => False) W W hb (Kp.refl _ _) id id
     have HNB : Hid (∀ j, lv.ownBlock = some j → j ≠ gb ∧ j ≠ b2) := fun j e => ⟨fun e2 => owns_ne_blk HRW.out HD.out.1 (by decide) j e e2, fun e2 => by
      rcases HRS.out.2 with e3 | h3
      ·have := HCLN.out
       rw [e3] at this
       simp at this
       omega
      ·rcases h3 b2 rfl with h4 | ⟨csx, zx, h4⟩
       ·have h5 := (owns_rd HRW.out j e).1
        have h6 := HMM.out
        omega
       ·exact owns_ne_blk HRW.out h4 (by decide) j e e2⟩
     have hS0 := HSB.out _ hB0
     refine wp_regionD (S := fun W => W.heap[gb]? = some (.cells (gvc a (.slice (some ⟨b1, o1, none⟩) nl cn) (.slice qe el ce)) 25 (0, 0)) ∧ b2 < W.heap.size ∧ W.cell? ⟨b2, o2 + k * 5, none⟩ = some (.int .i64 z.inn) ∧ W.cell? ⟨b2, o2 + k * 5 + 1, none⟩ = some (.int .i64 z.out) ∧ W.cell? ⟨b2, o2 + k * 5 + 2, none⟩ = some (.int .u64 (z.via.1 : Nat)) ∧ W.cell? ⟨b2, o2 + k * 5 + 3, none⟩ = some (.int .u64 (z.via.2.1 : Nat)) ∧ W.cell? ⟨b2, o2 + k * 5 + 4, none⟩ = some (.int .u64 (z.via.2.2 : Nat))) (D := []) hmx ?_
     refine' wpAnyD_take (i := 0) (oi := ⟨some 28, .move (.tmp 3), 40, "ref.go:58", #[], none⟩) (v := _) rfl (by kernel_rfl) (by kernel_rfl) (by kernel_rfl) (fun _ _ _ h => h) (by kernel_rfl) (Or.inl ⟨by rfl, ?hy1⟩) hS0 ?rest1
     case hy1 => (intro W hSw; go_simp; try (with_reducible rfl))
     try simp only [Act.put, List.setIfInBounds_toArray, List.set_cons_zero, List.set_cons_succ]
     refine' wpAnyD_take (i := 1) (oi := ⟨some 29, .load 25 (.tmp 1), 25, "ref.go:58", #[], none⟩) (v := _) rfl (by kernel_rfl) (by kernel_rfl) (by kernel_rfl) (fun _ _ _ h => h) (by kernel_rfl) (Or.inl ⟨by rfl, ?hy2⟩) hS0 ?rest2
     case hy2 => (intro W hSw; have hc := (tk_store hSw.1).1; have hl := tk_lt hSw.1; go_simp; try (with_reducible rfl))
     try simp only [Act.put, List.setIfInBounds_toArray, List.set_cons_zero, List.set_cons_succ]
     refine' wpAnyD_take (i := 2) (oi := ⟨some 30, .move (.tmp 4), 3, "ref.go:58", #[], none⟩) (v := _) rfl (by kernel_rfl) (by kernel_rfl) (by kernel_rfl) (fun _ _ _ h => h) (by kernel_rfl) (Or.inl ⟨by rfl, ?hy3⟩) hS0 ?rest3
     case hy3 => (intro W hSw; go_simp; try (with_reducible rfl))
     try simp only [Act.put, List.setIfInBounds_toArray, List.set_cons_zero, List.set_cons_succ]
     refine' wpAnyD_take (i := 3) (oi := ⟨some 31, .move (.tmp 5), 85, "ref.go:58", #[], none⟩) (v := _) rfl (by kernel_rfl) (by kernel_rfl) (by kernel_rfl) (fun _ _ _ h => h) (by kernel_rfl) (Or.inl ⟨by rfl, ?hy4⟩) hS0 ?rest4
     case hy4 => (intro W hSw; go_simp; try (with_reducible rfl))
     try simp only [Act.put, List.setIfInBounds_toArray, List.set_cons_zero, List.set_cons_succ]
     refine' wpAnyD_take (i := 4) (oi := ⟨some 32, .move (.tmp 6), 3, "ref.go:58", #[], none⟩) (v := _) rfl (by kernel_rfl) (by kernel_rfl) (by kernel_rfl) (fun _ _ _ h => h) (by kernel_rfl) (Or.inl ⟨by rfl, ?hy5⟩) hS0 ?rest5
     case hy5 => (intro W hSw; go_simp; try (with_reducible rfl))
     try simp only [Act.put, List.setIfInBounds_toArray, List.set_cons_zero, List.set_cons_succ]
     refine' wpAnyD_take (i := 5) (oi := ⟨some 33, .indexAddr 85 (.tmp 31) (.tmp 32), 0, "ref.go:58", #[⟨3, .data⟩, ⟨4, .data⟩], none⟩) (v := _) rfl (by kernel_rfl) (by kernel_rfl) (by kernel_rfl) (fun _ _ _ h => h) (by kernel_rfl) (Or.inl ⟨by rfl, ?hy6⟩) hS0 ?rest6
     case hy6 => (intro W hSw; go_simp; try (with_reducible rfl))
     try simp only [Act.put, List.setIfInBounds_toArray, List.set_cons_zero, List.set_cons_succ]
     refine' wpAnyD_take (i := 6) (oi := ⟨some 34, .fieldAddr 92 (.tmp 33) 0, 0, "ref.go:58", #[⟨5, .data⟩], none⟩) (v := _) rfl (by kernel_rfl) (by kernel_rfl) (by kernel_rfl) (fun _ _ _ h => h) (by kernel_rfl) (Or.inl ⟨by rfl, ?hy7⟩) hS0 ?rest7
     case hy7 => (intro W hSw; go_simp; try (with_reducible rfl))
     try simp only [Act.put, List.setIfInBounds_toArray, List.set_cons_zero, List.set_cons_succ]
     refine' wpAnyD_take (i := 7) (oi := ⟨some 35, .load 3 (.tmp 34), 3, "ref.go:58", #[⟨6, .data⟩], none⟩) (v := _) rfl (by kernel_rfl) (by kernel_rfl) (by kernel_rfl) (fun _ _ _ h => h) (by kernel_rfl) (Or.inl ⟨by rfl, ?hy8⟩) hS0 ?rest8
     case hy8 => (intro W hSw; have hc := hSw.2.2.1; have hl := hSw.2.1; go_simp; try (with_reducible rfl))
     try simp only [Act.put, List.setIfInBounds_toArray, List.set_cons_zero, List.set_cons_succ]
     refine' wpAnyD_take (i := 9) (oi := ⟨some 37, .load 25 (.tmp 1), 25, "ref.go:58", #[], none⟩) (v := _) rfl (by kernel_rfl) (by kernel_rfl) (by kernel_rfl) (fun _ _ _ h => h) (by kernel_rfl) (Or.inl ⟨by rfl, ?hy9⟩) hS0 ?rest9
     case hy9 => (intro W hSw; have hc := (tk_store hSw.1).1; have hl := tk_lt hSw.1; go_simp; try (with_reducible rfl))
     try simp only [Act.put, List.setIfInBounds_toArray, List.set_cons_zero, List.set_cons_succ]
     refine' wpAnyD_take (i := 10) (oi := ⟨some 38, .move (.tmp 4), 3, "ref.go:58", #[], none⟩) (v := _) rfl (by kernel_rfl) (by kernel_rfl) (by kernel_rfl) (fun _ _ _ h => h) (by kernel_rfl) (Or.inl ⟨by rfl, ?hy10⟩) hS0 ?rest10
     case hy10 => (intro W hSw; go_simp; try (with_reducible rfl))
     try simp only [Act.put, List.setIfInBounds_toArray, List.set_cons_zero, List.set_cons_succ]
     refine' wpAnyD_take (i := 11) (oi := ⟨some 39, .move (.tmp 5), 85, "ref.go:58", #[], none⟩) (v := _) rfl (by kernel_rfl) (by kernel_rfl) (by kernel_rfl) (fun _ _ _ h => h) (by kernel_rfl) (Or.inl ⟨by rfl, ?hy11⟩) hS0 ?rest11
     case hy11 => (intro W hSw; go_simp; try (with_reducible rfl))
     try simp only [Act.put, List.setIfInBounds_toArray, List.set_cons_zero, List.set_cons_succ]
     refine' wpAnyD_take (i := 12) (oi := ⟨some 40, .move (.tmp 6), 3, "ref.go:58", #[], none⟩) (v := _) rfl (by kernel_rfl) (by kernel_rfl) (by kernel_rfl) (fun _ _ _ h => h) (by kernel_rfl) (Or.inl ⟨by rfl, ?hy12⟩) hS0 ?rest12
     case hy12 => (intro W hSw; go_simp; try (with_reducible rfl))
     try simp only [Act.put, List.setIfInBounds_toArray, List.set_cons_zero, List.set_cons_succ]
     refine' wpAnyD_take (i := 13) (oi := ⟨some 41, .indexAddr 85 (.tmp 39) (.tmp 40), 0, "ref.go:58", #[⟨11, .data⟩, ⟨12, .data⟩], none⟩) (v := _) rfl (by kernel_rfl) (by kernel_rfl) (by kernel_rfl) (fun _ _ _ h => h) (by kernel_rfl) (Or.inl ⟨by rfl, ?hy13⟩) hS0 ?rest13
     case hy13 => (intro W hSw; go_simp; try (with_reducible rfl))
     try simp only [Act.put, List.setIfInBounds_toArray, List.set_cons_zero, List.set_cons_succ]
     refine' wpAnyD_take (i := 14) (oi := ⟨some 42, .fieldAddr 92 (.tmp 41) 1, 0, "ref.go:58", #[⟨13, .data⟩], none⟩) (v := _) rfl (by kernel_rfl) (by kernel_rfl) (by kernel_rfl) (fun _ _ _ h => h) (by kernel_rfl) (Or.inl ⟨by rfl, ?hy14⟩) hS0 ?rest14
     case hy14 => (intro W hSw; go_simp; try (with_reducible rfl))
     try simp only [Act.put, List.setIfInBounds_toArray, List.set_cons_zero, List.set_cons_succ]
     refine' wpAnyD_take (i := 15) (oi := ⟨some 43, .load 3 (.tmp 42), 3, "ref.go:58", #[⟨14, .data⟩], none⟩) (v := _) rfl (by kernel_rfl) (by kernel_rfl) (by kernel_rfl) (fun _ _ _ h => h) (by kernel_rfl) (Or.inl ⟨by rfl, ?hy15⟩) hS0 ?rest15
     case hy15 => (intro W hSw; have hc := hSw.2.2.2.1; have hl := hSw.2.1; go_simp; try (with_reducible rfl))
     try simp only [Act.put, List.setIfInBounds_toArray, List.set_cons_zero, List.set_cons_succ]
     refine' wpAnyD_take (i := 17) (oi := ⟨some 45, .move (.tmp 5), 85, "ref.go:58", #[], none⟩) (v := _) rfl (by kernel_rfl) (by kernel_rfl) (by kernel_rfl) (fun _ _ _ h => h) (by kernel_rfl) (Or.inl ⟨by rfl, ?hy16⟩) hS0 ?rest16
     case hy16 => (intro W hSw; go_simp; try (with_reducible rfl))
     try simp only [Act.put, List.setIfInBounds_toArray, List.set_cons_zero, List.set_cons_succ]
     refine' wpAnyD_take (i := 18) (oi := ⟨some 46, .move (.tmp 6), 3, "ref.go:58", #[], none⟩) (v := _) rfl (by kernel_rfl) (by kernel_rfl) (by kernel_rfl) (fun _ _ _ h => h) (by kernel_rfl) (Or.inl ⟨by rfl, ?hy17⟩) hS0 ?rest17
     case hy17 => (intro W hSw; go_simp; try (with_reducible rfl))
     try simp only [Act.put, List.setIfInBounds_toArray, List.set_cons_zero, List.set_cons_succ]
     refine' wpAnyD_take (i := 19) (oi := ⟨some 47, .indexAddr 85 (.tmp 45) (.tmp 46), 0, "ref.go:58", #[⟨17, .data⟩, ⟨18, .data⟩], none⟩) (v := _) rfl (by kernel_rfl) (by kernel_rfl) (by kernel_rfl) (fun _ _ _ h => h) (by kernel_rfl) (Or.inl ⟨by rfl, ?hy18⟩) hS0 ?rest18
     case hy18 => (intro W hSw; go_simp; try (with_reducible rfl))
     try simp only [Act.put, List.setIfInBounds_toArray, List.set_cons_zero, List.set_cons_succ]
     refine' wpAnyD_take (i := 20) (oi := ⟨some 48, .fieldAddr 92 (.tmp 47) 2, 0, "ref.go:58", #[⟨19, .data⟩], none⟩) (v := _) rfl (by kernel_rfl) (by kernel_rfl) (by kernel_rfl) (fun _ _ _ h => h) (by kernel_rfl) (Or.inl ⟨by rfl, ?hy19⟩) hS0 ?rest19
     case hy19 => (intro W hSw; go_simp; try (with_reducible rfl))
     try simp only [Act.put, List.setIfInBounds_toArray, List.set_cons_zero, List.set_cons_succ]
     refine' wpAnyD_take (i := 21) (oi := ⟨some 49, .load 39 (.tmp 48), 39, "ref.go:58", #[⟨20, .data⟩], none⟩) (v := _) rfl (by kernel_rfl) (by kernel_rfl) (by kernel_rfl) (fun _ _ _ h => h) (by kernel_rfl) (Or.inl ⟨by rfl, ?hy20⟩) hS0 ?rest20
     case hy20 => (intro W hSw; have hc1 := hSw.2.2.2.2.1; have hc2 := hSw.2.2.2.2.2.1; have hc3 := hSw.2.2.2.2.2.2; have hl := hSw.2.1; go_simp; try (with_reducible rfl))
     try simp only [Act.put, List.setIfInBounds_toArray, List.set_cons_zero, List.set_cons_succ]
     refine wpAnyD_one (i := 8) (o := ⟨some 36, .call ⟨.value (.func 39), #[.tmp 29, .tmp 30, .tmp 35], #[25, 3, 3]⟩, 3, "ref.go:58", #[⟨1, .data⟩, ⟨2, .data⟩, ⟨7, .data⟩], none⟩) (by kernel_rfl) rfl (fun K hK => ?_)
     go_simp
     refine (HCALL.out _ hB0).mono ?_
     rintro r w7 ⟨rfl, g7⟩
     have hS7 : Below W6.heap.size W6 w7 := hB0.trans (g7.below.mono hB0.size)
     clear g7
     go_wp2_with fail
     refine hK.out _ _ (fun hD => (HSB.out _ hS7)) ?_
     clear hK K
     try simp only [Act.put, List.setIfInBounds_toArray, List.set_cons_zero, List.set_cons_succ]
     refine wpAnyD_one (i := 16) (o := ⟨some 44, .call ⟨.value (.func 40), #[.tmp 37, .tmp 38, .tmp 43], #[25, 3, 3]⟩, 3, "ref.go:58", #[⟨9, .data⟩, ⟨10, .data⟩, ⟨15, .data⟩, ⟨8, .chain⟩], none⟩) (by kernel_rfl) rfl (fun K hK => ?_)
     go_simp
     refine (HCALL2.out _ hS7).mono ?_
     rintro r w8 ⟨rfl, g8⟩
     have hS8 : Below W6.heap.size W6 w8 := hS7.trans (g8.below.mono hS7.size)
     clear g8
     go_wp2_with fail
     refine hK.out _ _ (fun hD => (HSB.out _ hS8)) ?_
     clear hK K
     try simp only [Act.put, List.setIfInBounds_toArray, List.set_cons_zero, List.set_cons_succ]
     refine' wpAnyD_take (i := 22) (oi := ⟨some 50, .build 44 #[(0, .tmp 36), (1, .tmp 44), (2, .tmp 49)], 44, "ref.go:58", #[⟨8, .data⟩, ⟨16, .data⟩, ⟨21, .data⟩], none⟩) (v := _) rfl (by kernel_rfl) (by kernel_rfl) (by kernel_rfl) (fun _ _ _ h => h) (by kernel_rfl) (Or.inl ⟨by rfl, ?hy23⟩) (HSB.out _ hS8) ?rest23
     case hy23 => (intro W hSw; go_simp; try (with_reducible rfl))
     try simp only [Act.put, List.setIfInBounds_toArray, List.set_cons_zero, List.set_cons_succ]
     refine wpAnyD_one (i := 23) (o := ⟨some 51, .buildSlice 40 1 #[(0, .tmp 50)], 40, "ref.go:58", #[⟨22, .data⟩], none⟩) (by kernel_rfl) rfl (fun K hK => ?_)
     go_simp
     have hS9 : Below W6.heap.size W6 (w8.alloc (.cells #[.int .i64 ((ci : Nat) : Int), .int .i64 ((co : Nat) : Int), .int .u64 (z.via.1 : Nat), .int .u64 (z.via.2.1 : Nat), .int .u64 (z.via.2.2 : Nat)] 44)) := hS8.trans (((Gr.refl w8).alloc _).below.mono hS8.size)
     refine hK.out _ _ (fun hD => (HSB.out _ hS9)) ?_
     clear hK K
     try simp only [Act.put, List.setIfInBounds_toArray, List.set_cons_zero, List.set_cons_succ]
     refine wpAnyD_one (i := 24) (o := ⟨some 52, .call ⟨.builtin .append, #[.tmp 28, .tmp 51], #[40, 40]⟩, 40, "ref.go:58", #[⟨0, .data⟩, ⟨23, .data⟩, ⟨16, .chain⟩], none⟩) (by kernel_rfl) rfl (fun K hK => ?_)
     refine step_app1 EC Tryz.underlying40 infoSt rfl (by decide) rfl _ _ rfl W0.heap.size lv ln.length (fl EC ln) rfl (owns_below HRW.out hS8) (⟨((ci : Nat) : Int), ((co : Nat) : Int), z.via⟩ : Con) (by first | rfl | simp) (by have := HLE.out; omega) (by have := HLE.out; unfold maxLen; omega) (Nat.le_trans HBW.out hS8.size) _ rfl _ ?_
     intro g9 c9 w9 h9 k9 n9
     have K9 := Kp.grownBy (S := fun j => lv.ownBlock = some j) k9.out (fun _ h => h)
     have ST : Hid (Below W0.heap.size W0 w9 ∧ w9.ownsRow W0.heap.size 44 5 (.slice (some ⟨g9, 0, none⟩) (ln.length + 1) c9) (ln ++ [(⟨((ci : Nat) : Int), ((co : Nat) : Int), z.via⟩ : Con)]).length (fl EC (ln ++ [(⟨((ci : Nat) : Int), ((co : Nat) : Int), z.via⟩ : Con)])) ∧ Kp (fun j => lv.ownBlock = some j) w8 w9) := ⟨(HBL.out.trans (hS8.mono HBL.out.size)).trans (K9.below (Nat.le_trans HBL.out.size hS8.size) (fun j e => (owns_rd HRW.out j e).1)), owns_re h9.out (by simp) (by rw [fl_append, fl_one]), K9⟩
     have SQ := HSK.out _ w8 w9 hS8 K9 (fun e => (HNB.out _ e).1 rfl) (fun e => (HNB.out _ e).2 rfl)
     clear h9 k9 n9 K9
     refine hK.out _ _ (fun hD => SQ) ?_
     clear hK K
     try simp only [Act.put, List.setIfInBounds_toArray, List.set_cons_zero, List.set_cons_succ]
     refine' wpAnyD_take (i := 25) (oi := ⟨some 3, .assign (.tmp 52), 40, "ref.go:58", #[⟨24, .data⟩, ⟨24, .chain⟩, ⟨0, .phase⟩, ⟨1, .phase⟩, ⟨2, .phase⟩, ⟨3, .phase⟩, ⟨4, .phase⟩, ⟨5, .phase⟩, ⟨6, .phase⟩, ⟨7, .phase⟩, ⟨8, .phase⟩, ⟨9, .phase⟩, ⟨10, .phase⟩, ⟨11, .phase⟩, ⟨12, .phase⟩, ⟨13, .phase⟩, ⟨14, .phase⟩, ⟨15, .phase⟩, ⟨16, .phase⟩, ⟨17, .phase⟩, ⟨18, .phase⟩, ⟨19, .phase⟩, ⟨20, .phase⟩, ⟨21, .phase⟩, ⟨22, .phase⟩, ⟨23, .phase⟩, ⟨24, .phase⟩], none⟩) (v := _) rfl (by kernel_rfl) (by kernel_rfl) (by kernel_rfl) (fun _ _ _ h => h) (by kernel_rfl) (Or.inl ⟨by rfl, ?hy26⟩) SQ ?rest26
     case hy26 => (intro W hSw; go_simp; try (with_reducible rfl))
     try simp only [Act.put, List.setIfInBounds_toArray, List.set_cons_zero, List.set_cons_succ]
     refine wpAnyD_done (by kernel_rfl) ?_ _
     have FIN : Hid (Below W0.heap.size W0 w9 ∧ w9.ownsRow W0.heap.size 44 5 (.slice (some ⟨g9, 0, none⟩) (ln.length + 1) c9) (nodR ns i ++ (cs.take (k + 1)).map (sC ns i)).length (fl EC (nodR ns i ++ (cs.take (k + 1)).map (sC ns i))) ∧ Rs M w9 (.slice (some ⟨b2, o2, none⟩) cl cc) cs) := by
      rw [← HNX.out, HEL.out]
      have hr8 := HRS.out.below hS8
      refine ⟨ST.out.1, ST.out.2.1, hr8.kp ST.out.2.2 (fun j e => ⟨Nat.le_trans HMM.out (owns_rd HRW.out j e).1, fun csx zx hx => ?_⟩)⟩
      obtain ⟨c, f, hc⟩ := Lib.ownsRow_kind (owns_below HRW.out hS8) j e
      rw [hc] at hx
      simp only [Option.some.injEq, Obj.cells.injEq] at hx
      exact absurd hx.2.1 (by decide)
     clear ST hS0 hS7 hS8 hS9 HNX HEL HRW HRS HBL HBW HD HCALL HCALL2 HSK HSB HNB hB0 SQ
     generalize ln.length + 1 = lm at FIN ⊢
     go_wp2_with fail
     go_roundw
     case rel => exact ⟨k + 1, _, by omega, by go_num, rfl, FIN.out⟩
     case measure => simp [RowKit.intOf]; omega
    ·have hlkz : ¬ (k : Int) < (cl : Int) := by omega
     have FIN : Hid (Below W0.heap.size W0 wr ∧ wr.ownsRow W0.heap.size 44 5 lv (nodR ns (i + 1)).length (fl EC (nodR ns (i + 1)))) := by
      have h := HI.out
      rw [List.take_of_length_le (by have := HCLN.out; omega)] at h
      unfold nodR
      rw [HYN.out.2.2, ← HCS.out]
      exact ⟨h.1, h.2.1⟩
     clear HI
     go_wp2_with fail
     go_roundw
     case rel => exact ⟨i + 1, _, by omega, by go_num, rfl, FIN.out⟩
     case measure => simp [RowKit.intOf]; omega
  ·have hltz : ¬ (i : Int) < (nl : Int) := by omega
   obtain rfl : i = nl := by omega
   have S9 := hid HI.out
   clear HI
   go_wp2_with fail
   clear c1 l1
   go_loopw [3, 7] (fun s3 s7 wr => ∃ (k : Nat) (lv : Value), k ≤ el ∧ s7 = .int .i64 (k : Nat) ∧ lv = s3 ∧ Hid (Below W0.heap.size W0 wr ∧ wr.ownsRow W0.heap.size 44 5 lv (nodR ns i ++ (es.take k).map (sE ns)).length (fl EC (nodR ns i ++ (es.take k).map (sE ns))))) (fun _ s7 _ => el - (RowKit.intOf s7).toNat)
   case atStart => exact ⟨0, _, Nat.zero_le _, rfl, rfl, by have h := S9.out; show _ ∧ _; simpa using h⟩
   case round =>
    clear S9
    obtain ⟨k, lv, hk, rfl, rfl, HI⟩ := hrel
    have hb0 := (HI.out.1.block _ (tk_lt HB.out.1)).trans HB.out.1
    have c1 := (tk_store hb0).1
    have l1 := tk_lt hb0
    by_cases hlk : k < el
    ·have hlkz : (k : Int) < (el : Int) := by omega
     have hk0 : (0 : Int) ≤ (k : Int) := by omega
     obtain ⟨z, hz⟩ : ∃ z, es[k]? = some z := ⟨es[k]'(by have := HNL.out.2.1; omega), by simp⟩
     have hhas := HOK.out.ends (g := gof a xs es) (j := k) (d := z) hz
     rw [show (gof a xs es).nodes = ns from HNL.out.2.2.1.symm] at hhas
     obtain ⟨b2, o2, q2, ev2, zz2, y0, y1, y2, y3, y4⟩ := ls_atD ((HG.out wr HI.out.1).1.edges.ls hz) hz
     simp only [Value.slice.injEq] at ev2
     obtain ⟨rfl, -, rfl⟩ := ev2
     obtain ⟨yi, hn1, hz0, hzl, hz1, hz2⟩ := has_in hhas.2
     obtain ⟨yo, hn2, hz3, hzm, hz4, hz5⟩ := has_out hhas.1
     have hp2 := HOK.out.pok
     rw [show (gof a xs es).nodes = ns from HNL.out.2.2.1.symm] at hp2
     have hpi := hp2 yi (List.mem_of_getElem? hn1)
     have hpo := hp2 yo (List.mem_of_getElem? hn2)
     obtain ⟨Y, hY1, hY2⟩ := nd_get (xs := xs) (j := z.src.toNat) (n := yo) (by rw [← HNL.out.2.2.1]; exact hn2)
     obtain ⟨yb, hyb⟩ : ∃ b, b = wr.heap.size := ⟨_, rfl⟩
     obtain ⟨W6, hW6⟩ : ∃ W, W = wr.alloc (.cells (ecells z) 94) := ⟨_, rfl⟩
     have hb6 : Below wr.heap.size wr W6 := by rw [hW6]; exact ((Gr.refl wr).alloc _).below
     have HW6 : Hid (wr.alloc (.cells #[.int .i64 z.src, .int .i64 z.out, .int .i64 z.dst, .int .i64 z.inn, .bool z.keyed] 94) = W6 ∧ wr.heap.size = yb) := ⟨hW6.symm, hyb.symm⟩
     have hbl : Below W0.heap.size W0 W6 := HI.out.1.trans (hb6.mono HI.out.1.size)
     have HD : Hid (W6.heap[gb]? = some (.cells (gvc a (.slice qn i cn) (.slice (some ⟨b2, o2, none⟩) el ce)) 25 (0, 0)) ∧ W6.heap[yb]? = some (.cells (ecells z) 94 (0, 0))) := ⟨(hb6.block _ (tk_lt hb0)).trans hb0, by rw [hW6, hyb]; exact heap_new' _ _⟩
     have HCALL : Hid (∀ W, Below W6.heap.size W6 W → Calls Tryz.prog 40 #[.agg (gvc a (.slice qn i cn) (.slice (some ⟨b2, o2, none⟩) el ce)), .int .i64 z.src, .int .i64 z.out] W fun r w' => r = .returned (.int .i64 ((outPl ns z : Nat) : Int)) ∧ Gr W w') := fun W hb => by
      have h := kout_any (ev := .slice (some ⟨b2, o2, none⟩) el ce) (a := a) z.src.toNat z.out Y hY1 hz4 (by omega) W (HG.out W (hbl.trans (hb.mono hbl.size))).2
      rw [← HNL.out.2.2.1, show ((z.src.toNat : Nat) : Int) = z.src by omega] at h
      refine h.mono (fun r w' hr => ⟨hr.1.trans ?_, hr.2⟩)
      congr 2
      unfold outPl
      rw [hn2, hY2]
      push_cast
      omega
     have HCALL2 : Hid (∀ W, Below W6.heap.size W6 W → Calls Tryz.prog 39 #[.agg (gvc a (.slice qn i cn) (.slice (some ⟨b2, o2, none⟩) el ce)), .int .i64 z.dst, .int .i64 z.inn] W fun r w' => r = .returned (.int .i64 ((inPl ns z : Nat) : Int)) ∧ Gr W w') := fun W hb => by
      have h := kin_any (ev := .slice (some ⟨b2, o2, none⟩) el ce) (a := a) z.dst.toNat z.inn hz1 (by omega) (by have h1 := HNL.out.1; have h2 := HNL.out.2.2.2; omega) W (HG.out W (hbl.trans (hb.mono hbl.size))).2
      rw [← HNL.out.2.2.1, show ((z.dst.toNat : Nat) : Int) = z.dst by omega] at h
      refine h.mono (fun r w' hr => ⟨hr.1.trans ?_, hr.2⟩)
      congr 2
      unfold inPl
      push_cast
      omega
     obtain ⟨ln, hln⟩ : ∃ l, l = nodR ns i ++ (es.take k).map (sE ns) := ⟨_, rfl⟩
     have HNX : Hid (ln ++ [sE ns z] = nodR ns i ++ (es.take (k + 1)).map (sE ns)) := by
      show _ = _
      rw [hln, List.take_add_one, hz]
      simp
     have HLE : Hid (ln.length ≤ 500) := by
      have h1 := nodR_len HOK.out i
      rw [show (gof a xs es).nodes = ns from HNL.out.2.2.1.symm] at h1
      show _ ≤ _
      rw [hln, List.length_append, List.length_map, List.length_take]
      omega
     have hI := HI.out
     rw [← hln] at hI
     have HRW := hid (owns_below hI.2 hb6)
     have HBL := hid hbl
     have HBW := hid hbl.size
     obtain ⟨ci, hci⟩ : ∃ k, k = outPl ns z := ⟨_, rfl⟩
     obtain ⟨co, hco⟩ : ∃ k, k = inPl ns z := ⟨_, rfl⟩
     rw [← hci] at HCALL
     rw [← hco] at HCALL2
     have HEL : Hid (sE ns z = ⟨(ci : Int), (co : Int), (0, 0, 0)⟩) := by show _ = _; unfold sE; rw [hci, hco]
     clear HI hI hz hhas hz0 hzl hz1 hz2 hz3 hzm hz4 hz5 hpi hpo hp2 hn1 hn2 hln hci hco hY1 hY2 hbl hb6 hW6 hyb hb0
     go_upto_region 14 with fail
     rw [HW6.out.1, HW6.out.2]
     clear HW6 y0 y1 y2 y3 y4 zz2 c1 l1
     have hB0 : Below W6.heap.size W6 W6.drew := (Gr.refl W6).drew.below
     have HSB : Hid (∀ W, Below W6.heap.size W6 W → W.heap[gb]? = some (.cells (gvc a (.slice qn i cn) (.slice (some ⟨b2, o2, none⟩) el ce)) 25 (0, 0)) ∧ W.heap[yb]? = some (.cells (ecells z) 94 (0, 0))) := fun W hb => ⟨(hb.block _ (tk_lt HD.out.1)).trans HD.out.1, (hb.block _ (tk_lt HD.out.2)).trans HD.out.2⟩
     have HNB : Hid (∀ j, lv.ownBlock = some j → j ≠ gb ∧ j ≠ yb) := fun j e => ⟨fun e2 => owns_ne_blk HRW.out HD.out.1 (by decide) j e e2, fun e2 => owns_ne_blk HRW.out HD.out.2 (by decide) j e e2⟩
     have hS0 := HSB.out _ hB0
     refine wp_regionD (S := fun W => W.heap[gb]? = some (.cells (gvc a (.slice qn i cn) (.slice (some ⟨b2, o2, none⟩) el ce)) 25 (0, 0)) ∧ W.heap[yb]? = some (.cells (ecells z) 94 (0, 0))) (D := []) hmx ?_
     refine' wpAnyD_take (i := 0) (oi := ⟨some 65, .move (.tmp 3), 40, "ref.go:63", #[], none⟩) (v := _) rfl (by kernel_rfl) (by kernel_rfl) (by kernel_rfl) (fun _ _ _ h => h) (by kernel_rfl) (Or.inl ⟨by rfl, ?hy27⟩) hS0 ?rest27
     case hy27 => (intro W hSw; go_simp; try (with_reducible rfl))
     try simp only [Act.put, List.setIfInBounds_toArray, List.set_cons_zero, List.set_cons_succ]
     refine' wpAnyD_take (i := 1) (oi := ⟨some 66, .load 25 (.tmp 1), 25, "ref.go:63", #[], none⟩) (v := _) rfl (by kernel_rfl) (by kernel_rfl) (by kernel_rfl) (fun _ _ _ h => h) (by kernel_rfl) (Or.inl ⟨by rfl, ?hy28⟩) hS0 ?rest28
     case hy28 => (intro W hSw; have hc := (tk_store hSw.1).1; have hl := tk_lt hSw.1; go_simp; try (with_reducible rfl))
     try simp only [Act.put, List.setIfInBounds_toArray, List.set_cons_zero, List.set_cons_succ]
     refine' wpAnyD_take (i := 2) (oi := ⟨some 67, .fieldAddr 94 (.tmp 8) 0, 0, "ref.go:63", #[], none⟩) (v := _) rfl (by kernel_rfl) (by kernel_rfl) (by kernel_rfl) (fun _ _ _ h => h) (by kernel_rfl) (Or.inl ⟨by rfl, ?hy29⟩) hS0 ?rest29
     case hy29 => (intro W hSw; have hc := (tk_store hSw.2).1; have hl := tk_lt hSw.2; go_simp; try (with_reducible rfl))
     try simp only [Act.put, List.setIfInBounds_toArray, List.set_cons_zero, List.set_cons_succ]
     refine' wpAnyD_take (i := 3) (oi := ⟨some 68, .load 3 (.tmp 67), 3, "ref.go:63", #[⟨2, .data⟩], none⟩) (v := _) rfl (by kernel_rfl) (by kernel_rfl) (by kernel_rfl) (fun _ _ _ h => h) (by kernel_rfl) (Or.inl ⟨by rfl, ?hy30⟩) hS0 ?rest30
     case hy30 => (intro W hSw; have hc := (tk_store hSw.2).1; have hl := tk_lt hSw.2; go_simp; try (with_reducible rfl))
     try simp only [Act.put, List.setIfInBounds_toArray, List.set_cons_zero, List.set_cons_succ]
     refine' wpAnyD_take (i := 4) (oi := ⟨some 69, .fieldAddr 94 (.tmp 8) 1, 0, "ref.go:63", #[], none⟩) (v := _) rfl (by kernel_rfl) (by kernel_rfl) (by kernel_rfl) (fun _ _ _ h => h) (by kernel_rfl) (Or.inl ⟨by rfl, ?hy31⟩) hS0 ?rest31
     case hy31 => (intro W hSw; have hc := (tk_store hSw.2).1; have hl := tk_lt hSw.2; go_simp; try (with_reducible rfl))
     try simp only [Act.put, List.setIfInBounds_toArray, List.set_cons_zero, List.set_cons_succ]
     refine' wpAnyD_take (i := 5) (oi := ⟨some 70, .load 3 (.tmp 69), 3, "ref.go:63", #[⟨4, .data⟩], none⟩) (v := _) rfl (by kernel_rfl) (by kernel_rfl) (by kernel_rfl) (fun _ _ _ h => h) (by kernel_rfl) (Or.inl ⟨by rfl, ?hy32⟩) hS0 ?rest32
     case hy32 => (intro W hSw; have hc := (tk_store hSw.2).1; have hl := tk_lt hSw.2; go_simp; try (with_reducible rfl))
     try simp only [Act.put, List.setIfInBounds_toArray, List.set_cons_zero, List.set_cons_succ]
     refine' wpAnyD_take (i := 7) (oi := ⟨some 72, .load 25 (.tmp 1), 25, "ref.go:63", #[], none⟩) (v := _) rfl (by kernel_rfl) (by kernel_rfl) (by kernel_rfl) (fun _ _ _ h => h) (by kernel_rfl) (Or.inl ⟨by rfl, ?hy33⟩) hS0 ?rest33
     case hy33 => (intro W hSw; have hc := (tk_store hSw.1).1; have hl := tk_lt hSw.1; go_simp; try (with_reducible rfl))
     try simp only [Act.put, List.setIfInBounds_toArray, List.set_cons_zero, List.set_cons_succ]
     refine' wpAnyD_take (i := 8) (oi := ⟨some 73, .fieldAddr 94 (.tmp 8) 2, 0, "ref.go:63", #[], none⟩) (v := _) rfl (by kernel_rfl) (by kernel_rfl) (by kernel_rfl) (fun _ _ _ h => h) (by kernel_rfl) (Or.inl ⟨by rfl, ?hy34⟩) hS0 ?rest34
     case hy34 => (intro W hSw; have hc := (tk_store hSw.2).1; have hl := tk_lt hSw.2; go_simp; try (with_reducible rfl))
     try simp only [Act.put, List.setIfInBounds_toArray, List.set_cons_zero, List.set_cons_succ]
     refine' wpAnyD_take (i := 9) (oi := ⟨some 74, .load 3 (.tmp 73), 3, "ref.go:63", #[⟨8, .data⟩], none⟩) (v := _) rfl (by kernel_rfl) (by kernel_rfl) (by kernel_rfl) (fun _ _ _ h => h) (by kernel_rfl) (Or.inl ⟨by rfl, ?hy35⟩) hS0 ?rest35
     case hy35 => (intro W hSw; have hc := (tk_store hSw.2).1; have hl := tk_lt hSw.2; go_simp; try (with_reducible rfl))
     try simp only [Act.put, List.setIfInBounds_toArray, List.set_cons_zero, List.set_cons_succ]
     refine' wpAnyD_take (i := 10) (oi := ⟨some 75, .fieldAddr 94 (.tmp 8) 3, 0, "ref.go:63", #[], none⟩) (v := _) rfl (by kernel_rfl) (by kernel_rfl) (by kernel_rfl) (fun _ _ _ h => h) (by kernel_rfl) (Or.inl ⟨by rfl, ?hy36⟩) hS0 ?rest36
     case hy36 => (intro W hSw; have hc := (tk_store hSw.2).1; have hl := tk_lt hSw.2; go_simp; try (with_reducible rfl))
     try simp only [Act.put, List.setIfInBounds_toArray, List.set_cons_zero, List.set_cons_succ]
     refine' wpAnyD_take (i := 11) (oi := ⟨some 76, .load 3 (.tmp 75), 3, "ref.go:63", #[⟨10, .data⟩], none⟩) (v := _) rfl (by kernel_rfl) (by kernel_rfl) (by kernel_rfl) (fun _ _ _ h => h) (by kernel_rfl) (Or.inl ⟨by rfl, ?hy37⟩) hS0 ?rest37
     case hy37 => (intro W hSw; have hc := (tk_store hSw.2).1; have hl := tk_lt hSw.2; go_simp; try (with_reducible rfl))
     try simp only [Act.put, List.setIfInBounds_toArray, List.set_cons_zero, List.set_cons_succ]
     refine wpAnyD_one (i := 6) (o := ⟨some 71, .call ⟨.value (.func 40), #[.tmp 66, .tmp 68, .tmp 70], #[25, 3, 3]⟩, 3, "ref.go:63", #[⟨1, .data⟩, ⟨3, .data⟩, ⟨5, .data⟩], none⟩) (by kernel_rfl) rfl (fun K hK => ?_)
     go_simp
     refine (HCALL.out _ hB0).mono ?_
     rintro r w7 ⟨rfl, g7⟩
     have hS7 : Below W6.heap.size W6 w7 := hB0.trans (g7.below.mono hB0.size)
     clear g7
     go_wp2_with fail
     refine hK.out _ _ (fun hD => (HSB.out _ hS7)) ?_
     clear hK K
     try simp only [Act.put, List.setIfInBounds_toArray, List.set_cons_zero, List.set_cons_succ]
     refine wpAnyD_one (i := 12) (o := ⟨some 77, .call ⟨.value (.func 39), #[.tmp 72, .tmp 74, .tmp 76], #[25, 3, 3]⟩, 3, "ref.go:63", #[⟨7, .data⟩, ⟨9, .data⟩, ⟨11, .data⟩, ⟨6, .chain⟩], none⟩) (by kernel_rfl) rfl (fun K hK => ?_)
     go_simp
     refine (HCALL2.out _ hS7).mono ?_
     rintro r w8 ⟨rfl, g8⟩
     have hS8 : Below W6.heap.size W6 w8 := hS7.trans (g8.below.mono hS7.size)
     clear g8
     go_wp2_with fail
     refine hK.out _ _ (fun hD => (HSB.out _ hS8)) ?_
     clear hK K
     try simp only [Act.put, List.setIfInBounds_toArray, List.set_cons_zero, List.set_cons_succ]
     refine' wpAnyD_take (i := 13) (oi := ⟨some 78, .build 44 #[(0, .tmp 71), (1, .tmp 77)], 44, "ref.go:63", #[⟨6, .data⟩, ⟨12, .data⟩], none⟩) (v := _) rfl (by kernel_rfl) (by kernel_rfl) (by kernel_rfl) (fun _ _ _ h => h) (by kernel_rfl) (Or.inl ⟨by rfl, ?hy40⟩) (HSB.out _ hS8) ?rest40
     case hy40 => (intro W hSw; go_simp; try (with_reducible rfl))
     try simp only [Act.put, List.setIfInBounds_toArray, List.set_cons_zero, List.set_cons_succ]
     refine wpAnyD_one (i := 14) (o := ⟨some 79, .buildSlice 40 1 #[(0, .tmp 78)], 40, "ref.go:63", #[⟨13, .data⟩], none⟩) (by kernel_rfl) rfl (fun K hK => ?_)
     go_simp
     have hS9 : Below W6.heap.size W6 (w8.alloc (.cells #[.int .i64 ((ci : Nat) : Int), .int .i64 ((co : Nat) : Int), .int .u64 0, .int .u64 0, .int .u64 0] 44)) := hS8.trans (((Gr.refl w8).alloc _).below.mono hS8.size)
     refine hK.out _ _ (fun hD => (HSB.out _ hS9)) ?_
     clear hK K
     try simp only [Act.put, List.setIfInBounds_toArray, List.set_cons_zero, List.set_cons_succ]
     refine wpAnyD_one (i := 15) (o := ⟨some 80, .call ⟨.builtin .append, #[.tmp 65, .tmp 79], #[40, 40]⟩, 40, "ref.go:63", #[⟨0, .data⟩, ⟨14, .data⟩, ⟨12, .chain⟩], none⟩) (by kernel_rfl) rfl (fun K hK => ?_)
     refine step_app1 EC Tryz.underlying40 infoSt rfl (by decide) rfl _ _ rfl W0.heap.size lv ln.length (fl EC ln) rfl (owns_below HRW.out hS8) (⟨((ci : Nat) : Int), ((co : Nat) : Int), (0, 0, 0)⟩ : Con) (by first | rfl | simp) (by have := HLE.out; omega) (by have := HLE.out; unfold maxLen; omega) (Nat.le_trans HBW.out hS8.size) _ rfl _ ?_
     intro g9 c9 w9 h9 k9 n9
     have K9 := Kp.grownBy (S := fun j => lv.ownBlock = some j) k9.out (fun _ h => h)
     have ST : Hid (Below W0.heap.size W0 w9 ∧ w9.ownsRow W0.heap.size 44 5 (.slice (some ⟨g9, 0, none⟩) (ln.length + 1) c9) (ln ++ [(⟨((ci : Nat) : Int), ((co : Nat) : Int), (0, 0, 0)⟩ : Con)]).length (fl EC (ln ++ [(⟨((ci : Nat) : Int), ((co : Nat) : Int), (0, 0, 0)⟩ : Con)])) ∧ Kp (fun j => lv.ownBlock = some j) w8 w9) := ⟨(HBL.out.trans (hS8.mono HBL.out.size)).trans (K9.below (Nat.le_trans HBL.out.size hS8.size) (fun j e => (owns_rd HRW.out j e).1)), owns_re h9.out (by simp) (by rw [fl_append, fl_one]), K9⟩
     have SQ := (show _ ∧ _ from ⟨(K9.block _ (tk_lt (HSB.out _ hS8).1) (fun e => (HNB.out _ e).1 rfl)).trans (HSB.out _ hS8).1, (K9.block _ (tk_lt (HSB.out _ hS8).2) (fun e => (HNB.out _ e).2 rfl)).trans (HSB.out _ hS8).2⟩)
     clear h9 k9 n9 K9
     refine hK.out _ _ (fun hD => SQ) ?_
     clear hK K
     try simp only [Act.put, List.setIfInBounds_toArray, List.set_cons_zero, List.set_cons_succ]
     refine' wpAnyD_take (i := 16) (oi := ⟨some 3, .assign (.tmp 80), 40, "ref.go:63", #[⟨15, .data⟩, ⟨15, .chain⟩, ⟨0, .phase⟩, ⟨1, .phase⟩, ⟨2, .phase⟩, ⟨3, .phase⟩, ⟨4, .phase⟩, ⟨5, .phase⟩, ⟨6, .phase⟩, ⟨7, .phase⟩, ⟨8, .phase⟩, ⟨9, .phase⟩, ⟨10, .phase⟩, ⟨11, .phase⟩, ⟨12, .phase⟩, ⟨13, .phase⟩, ⟨14, .phase⟩, ⟨15, .phase⟩], none⟩) (v := _) rfl (by kernel_rfl) (by kernel_rfl) (by kernel_rfl) (fun _ _ _ h => h) (by kernel_rfl) (Or.inl ⟨by rfl, ?hy43⟩) SQ ?rest43
     case hy43 => (intro W hSw; go_simp; try (with_reducible rfl))
     try simp only [Act.put, List.setIfInBounds_toArray, List.set_cons_zero, List.set_cons_succ]
     refine wpAnyD_done (by kernel_rfl) ?_ _
     have FIN : Hid (Below W0.heap.size W0 w9 ∧ w9.ownsRow W0.heap.size 44 5 (.slice (some ⟨g9, 0, none⟩) (ln.length + 1) c9) (nodR ns i ++ (es.take (k + 1)).map (sE ns)).length (fl EC (nodR ns i ++ (es.take (k + 1)).map (sE ns)))) := by
      rw [← HNX.out, HEL.out]
      exact ⟨ST.out.1, ST.out.2.1⟩
     clear ST hS0 hS7 hS8 hS9 HNX HEL HRW HBL HBW HD HCALL HCALL2 HSB HNB hB0 SQ
     generalize ln.length + 1 = lm at FIN ⊢
     go_wp2_with fail
     go_roundw
     case rel => exact ⟨k + 1, _, by omega, by go_num, rfl, FIN.out⟩
     case measure => simp [RowKit.intOf]; omega
    ·have hlkz : ¬ (k : Int) < (el : Int) := by omega
     have FIN : Hid (Cp EC 44 w (stR (gof a xs es)) (.returned lv) wr) := by
      have h := HI.out
      rw [List.take_of_length_le (by have := HNL.out.2.1; omega), ← HSR.out] at h
      exact ⟨lv, rfl, HB.out.2.trans (h.1.mono HB.out.2.size), owns_base h.2 HB.out.2.size⟩
     clear HI hb0
     go_wp2_with fail
     go_ret
     exact FIN.out
end Go.Proofs.YtdnnfgabdkkdjaaGreat.Df

namespace Go.Proofs.YtdnnfgabdkkdjaaGreat.Lf
open Go.RowKit Go.Sort Pt
open Df (Con Gph Nod Edg Pth PthT plN stR nodR sE sC cIn cOut outPl inPl Gok connsAt connsN)
instance (p : Pth) : Decidable (PthT p) := by unfold Df.PthT Df.U64; infer_instance
def tri (p : Pth) : Tri := if h : PthT p then ⟨((p.1 : Int), (p.2.1 : Int), (p.2.2 : Int)), by
 obtain ⟨h1, h2, h3⟩ := h
 unfold Df.U64 at h1 h2 h3
 exact ⟨(wf_iff _).2 ⟨by simp only; omega, by simp only; omega⟩, (wf_iff _).2 ⟨by simp only; omega, by simp only; omega⟩, (wf_iff _).2 ⟨by simp only; omega, by simp only; omega⟩⟩⟩ else PX.z
theorem tri_val {p : Pth} (h : PthT p) : (tri p).1.1 = (p.1 : Int) ∧ (tri p).1.2.1 = (p.2.1 : Int) ∧ (tri p).1.2.2 = (p.2.2 : Int) := by
 unfold tri
 rw [dif_pos h]
 exact ⟨rfl, rfl, rfl⟩
theorem tri_z : tri (0, 0, 0) = PX.z := by
 have h : PthT (0, 0, 0) := ⟨by unfold Df.U64; simp, by unfold Df.U64; simp, by unfold Df.U64; simp⟩
 obtain ⟨h1, h2, h3⟩ := tri_val h
 exact tri_ext (by rw [h1]; rfl) (by rw [h2]; rfl) (by rw [h3]; rfl)
def th (c : Con) : Hf.Th := (c.out, tri c.via)
def sfl (l : List Con) (q : Nat) : List Hf.Th := (l.filter (fun c => c.inn == (q : Int))).map th
theorem sfl_app (l m : List Con) (q : Nat) : sfl (l ++ m) q = sfl l q ++ sfl m q := by simp [sfl]
theorem sfl_one (c : Con) (q : Nat) : sfl [c] q = if c.inn = (q : Int) then [th c] else [] := by
 unfold sfl
 by_cases h : c.inn = (q : Int)
 ·simp [h]
 ·simp [h]
theorem sfl_mem {l : List Con} {q : Nat} {x : Hf.Th} : x ∈ sfl l q ↔ ∃ c ∈ l, c.inn = (q : Int) ∧ x = th c := by
 unfold sfl
 rw [List.mem_map]
 constructor
 ·rintro ⟨c, hc, rfl⟩
  obtain ⟨h1, h2⟩ := List.mem_filter.1 hc
  exact ⟨c, h1, by simpa using h2, rfl⟩
 ·rintro ⟨c, h1, h2, rfl⟩
  exact ⟨c, List.mem_filter.2 ⟨h1, by simpa using h2⟩, rfl⟩
theorem sfl_len (l : List Con) (q : Nat) : (sfl l q).length ≤ l.length := by
 unfold sfl
 rw [List.length_map]
 exact List.length_filter_le _ _
theorem sfl_take {l : List Con} {i q : Nat} {c : Con} (h : l[i]? = some c) : sfl (l.take (i + 1)) q = sfl (l.take i) q ++ if c.inn = (q : Int) then [th c] else [] := by
 rw [List.take_add_one, h, sfl_app]
 exact congrArg _ (sfl_one c q)
theorem sfl_get {l : List Con} {i q : Nat} {c : Con} (h : l[i]? = some c) (hc : c.inn = (q : Int)) : (sfl l q)[(sfl (l.take i) q).length]? = some (th c) := by
 have e : l = l.take i ++ c :: l.drop (i + 1) := by
  obtain ⟨hk, rfl⟩ := List.getElem?_eq_some_iff.1 h
  rw [← List.drop_eq_getElem_cons hk, List.take_append_drop]
 have e2 : sfl l q = sfl (l.take i) q ++ (th c :: sfl (l.drop (i + 1)) q) := by
  conv => lhs; rw [e]
  rw [sfl_app]
  have : c :: l.drop (i + 1) = [c] ++ l.drop (i + 1) := rfl
  rw [this, sfl_app, sfl_one, if_pos hc]
  rfl
 rw [e2, List.getElem?_append_right (Nat.le_refl _), Nat.sub_self]
 rfl
def ssL (n : Nat) (l : List Con) : List (List Hf.Th) := (List.range n).map (sfl l)
theorem ssL_len (n : Nat) (l : List Con) : (ssL n l).length = n := by simp [ssL]
theorem ssL_get {n q : Nat} (l : List Con) (h : q < n) : (ssL n l)[q]? = some (sfl l q) := by simp [ssL, h]
theorem sts_ssL {n : Nat} {l : List Con} {q q' : Nat} {b : Tri} : Sts (ssL n l) q q' b ↔ q < n ∧ ∃ c ∈ l, c.inn = (q : Int) ∧ c.out = (q' : Int) ∧ tri c.via = b := by
 unfold Sts
 constructor
 ·rintro ⟨s, hs, hm⟩
  have hq : q < n := by
   have := (List.getElem?_eq_some_iff.1 hs).1
   rwa [ssL_len] at this
  rw [ssL_get l hq] at hs
  cases hs
  obtain ⟨c, h1, h2, h3⟩ := sfl_mem.1 hm
  simp only [th, Prod.mk.injEq] at h3
  exact ⟨hq, c, h1, h2, h3.1.symm, h3.2.symm⟩
 ·rintro ⟨hq, c, h1, h2, h3, h4⟩
  exact ⟨_, ssL_get l hq, sfl_mem.2 ⟨c, h1, h2, by simp [th, h3, h4]⟩⟩
def stQ (g : Gph) : List Con := g.edges.map (sE g.nodes) ++ nodR g.nodes g.nodes.length
theorem stQ_mem {g : Gph} {c : Con} : c ∈ stQ g ↔ c ∈ stR g := by
 unfold stQ stR
 rw [List.mem_append, List.mem_append]
 exact Or.comm
theorem sts_same (g : Gph) (n : Nat) : Sts (ssL n (stQ g)) = Sts (ssL n (stR g)) := by
 funext q q' b
 refine propext ?_
 rw [sts_ssL, sts_ssL]
 exact and_congr_right fun _ => exists_congr fun c => and_congr_left fun _ => stQ_mem
theorem stQ_len {g : Gph} (h : Gok g) : (stQ g).length ≤ 432 := by
 have := Df.stR_len h
 unfold stR at this
 unfold stQ
 rw [List.length_append] at this ⊢
 omega
def Gpt (g : Gph) : Prop := ∀ n ∈ g.nodes, PthT n.via ∧ ∀ c ∈ n.conns, PthT c.via
theorem z_pth : PthT (0, 0, 0) := ⟨by unfold Df.U64; simp, by unfold Df.U64; simp, by unfold Df.U64; simp⟩
theorem Gpt.con {g : Gph} (h : Gpt g) {i : Nat} {c : Con} (hc : c ∈ connsAt g.nodes (i : Int)) : PthT c.via := by
 rw [Df.connsAt_nat] at hc
 cases e : g.nodes[i]? with
 | none => rw [e] at hc; simp at hc
 | some n =>
  rw [e] at hc
  have hn := h n (List.mem_of_getElem? e)
  have hc : c ∈ connsN n := hc
  unfold connsN at hc
  split at hc
  ·simp only [List.mem_singleton] at hc
   subst hc
   exact hn.1
  ·split at hc
   ·exact hn.2 c hc
   ·have : c.via = (0, 0, 0) := by
      clear hn e
      generalize n.ins.toNat = ii at hc
      induction ii with
      | zero => simp [Df.acrL] at hc
      | succ k ih =>
       simp only [Df.acrL, List.mem_append] at hc
       rcases hc with hc | hc
       ·exact ih hc
       ·simp only [Df.rowL, List.mem_map] at hc
        obtain ⟨o, _, rfl⟩ := hc
        rfl
    rw [this]
    exact z_pth
theorem stR_pth {g : Gph} (h : Gpt g) {c : Con} (hc : c ∈ stR g) : PthT c.via := by
 unfold stR at hc
 rcases List.mem_append.1 hc with k | k
 ·obtain ⟨i, d, _, h2, rfl⟩ := Df.nodR_mem.1 k
  exact (h.con h2 : PthT d.via)
 ·obtain ⟨d, _, rfl⟩ := List.mem_map.1 k
  exact z_pth
theorem stR_lt {g : Gph} (h : Gok g) {c : Con} (hc : c ∈ stR g) : (∃ p : Nat, p < plN g.nodes ∧ c.inn = (p : Int)) ∧ ∃ q : Nat, q < plN g.nodes ∧ c.out = (q : Int) := by
 unfold stR at hc
 rcases List.mem_append.1 hc with k | k
 ·obtain ⟨i, d, _, h2, rfl⟩ := Df.nodR_mem.1 k
  obtain ⟨h3, h4⟩ := h.con h2
  exact ⟨⟨_, Df.cIn_lt h3, rfl⟩, _, Df.cOut_lt h4, rfl⟩
 ·obtain ⟨d, h1, rfl⟩ := List.mem_map.1 k
  obtain ⟨j, hj⟩ := List.mem_iff_getElem?.1 h1
  obtain ⟨h3, h4⟩ := h.ends hj
  exact ⟨⟨_, Df.outPl_lt h3, rfl⟩, _, Df.inPl_lt h4, rfl⟩
theorem ssL_rg {g : Gph} (h : Gok g) {l : List Con} (hl : ∀ c ∈ l, c ∈ stR g) : ∀ s ∈ ssL (plN g.nodes) l, ∀ x ∈ s, ∃ q : Nat, q < (ssL (plN g.nodes) l).length ∧ x.1 = (q : Int) := fun s hs x hx => by
 obtain ⟨k, _, rfl⟩ := List.mem_map.1 hs
 obtain ⟨c, h1, _, rfl⟩ := sfl_mem.1 hx
 rw [ssL_len]
 exact (stR_lt h (hl c h1)).2
theorem ssL_bd {n m : Nat} {l : List Con} (h : l.length ≤ m) : ∀ s ∈ ssL n l, s.length ≤ m := fun s hs => by
 obtain ⟨k, _, rfl⟩ := List.mem_map.1 hs
 exact Nat.le_trans (sfl_len l k) h
section
variable {ss : List (List Hf.Th)} {s : List Hf.Th} {p d q0 k np np' : Nat} {w : Tri} {rows : Nat → List Tri} {R L L' : List Hf.It}
theorem Pu.takeR (h : Pu ss p d rows L np) (hp : ((((q0 : Int), w), k) :: R).Perm L) (hf : ∀ q b, (q, b) ∈ opn L → ¬ PX.tld b w) (hc : ¬ Cov PX (rows q0) w) (hs : ss[q0]? = some s) (hd : s.length ≤ d) (h64 : (rows q0).length + 1 ≤ 64)
    (hi : Inn s ss.length w (put1 rows q0 w) R L' s.length) (hn1 : np' ≤ np + s.length) (hn2 : L'.length ≤ np') : Pu ss p d (put1 rows q0 w) L' np' ∧ mes ss.length d (put1 rows q0 w) L'.length < mes ss.length d rows L.length := by
 have hq : q0 < ss.length := (List.getElem?_eq_some_iff.1 hs).1
 have hl : R.length + 1 = L.length := by simpa using hp.length_eq
 have hsm : ∀ q, (put1 rows q0 w q).length ≤ 64 := fun q => by
  unfold put1
  split
  ·rename_i e
   subst e
   simpa using h64
  ·exact h.sm q
 refine ⟨⟨hi.fin h.iv hp hf hc hs, hi.rg, hsm, ?_, hn2⟩, ?_⟩
 ·rw [tot_put1, if_pos hq, Nat.add_mul, Nat.one_mul]
  have := h.nb
  omega
 ·exact mes_take hq (fun q _ => hsm q) (by omega) (by have := hi.cnt; omega)
theorem Pu.wideR (h : Pu ss p d rows L np) (hp : ((((q0 : Int), w), k) :: R).Perm L) (hf : ∀ q b, (q, b) ∈ opn L → ¬ PX.tld b w) (hc : ¬ Cov PX (rows q0) w) (h64 : 64 < (rows q0).length + 1) : Res PX (Sts ss) p none := by
 obtain ⟨o, ho⟩ := take_all h.iv hp hf hc
 exact ho.wide PX_ok (q := q0) (by unfold put1; rw [if_pos rfl]; simpa using h64)
end
end Go.Proofs.YtdnnfgabdkkdjaaGreat.Lf

namespace Go.Proofs.YtdnnfgabdkkdjaaGreat.Df
open Go.RowKit Go.Sort
attribute [local go_sem ↓] Go.wp_at_zero Go.wp_at_succ
theorem infoLL : (Tryz.prog.info? 59).map (fun i => (i.zero, i.size, i.bytes)) = some (some (.slice none 0 0), 1, 24) := by kernel_rfl
theorem fl_L (vs : List LV) : fl EL vs = vs.map LV.v := by
 induction vs with
 | nil => rfl
 | cons x l ih => rw [fl_cons, ih]; rfl
theorem madeL (n : Nat) : (madeCells (Value.slice none 0 0).cells (n * 1)).toList = fl EL (List.replicate n ⟨none, 0, 0⟩) := by
 rw [Nat.mul_one, fl_L]
 exact (toList_madeCells_one _ n).trans (by simp)
theorem fldG2 (a b c : Value) (w : World) : Sem.run Tryz.prog (Instr.field 25 (.agg #[a, b, c]) 2) w = .ok c w := by kernel_rfl
theorem Fo.made {w w1 : World} {n : Nat} (hrow : w1.ownsRow w.heap.size 59 1 (.slice (some ⟨w.heap.size, 0, none⟩) n n) n (madeCells (Value.slice none 0 0).cells (n * 1)).toList) : Fo w.heap.size w1 (.slice (some ⟨w.heap.size, 0, none⟩) n n) (List.replicate n ⟨none, 0, 0⟩) (fun _ => []) := by
 have hnil : ∀ (k : Nat) (x : LV), (List.replicate n (⟨none, 0, 0⟩ : LV))[k]? = some x → x = ⟨none, 0, 0⟩ := fun k x h => List.eq_of_mem_replicate (List.mem_of_getElem? h)
 refine ⟨?_, fun k x h => ?_, fun k x h b e => ?_⟩
 ·rw [List.length_replicate]
  rw [madeL] at hrow
  exact hrow
 ·rw [hnil k x h]
  exact World.ownsRow_nil _ _ _ _
 ·rw [hnil k x h] at e
  cases e
def Sg (w : World) (n g : Nat) (l : List (Nat × Nat)) (W : World) : Prop := ∃ vs, Fo w.heap.size W (.slice (some ⟨g, 0, none⟩) n n) vs (fromS l) ∧ vs.length = n ∧ Below w.heap.size w W
theorem Sg.below {w W W' : World} {n g : Nat} {l : List (Nat × Nat)} (h : Sg w n g l W) (hb : Below W.heap.size W W') : Sg w n g l W' := by
 obtain ⟨vs, h1, h2, h3⟩ := h
 exact ⟨vs, h1.below hb, h2, h3.trans (hb.mono h3.size)⟩
theorem Sg.cell {w W : World} {n g : Nat} {l : List (Nat × Nat)} (h : Sg w n g l W) {k : Nat} (hk : k < n) : ∃ vs x, Fo w.heap.size W (.slice (some ⟨g, 0, none⟩) n n) vs (fromS l) ∧ vs.length = n ∧ Below w.heap.size w W ∧ vs[k]? = some x ∧ W.cell? ⟨g, k, none⟩ = some x.v ∧ g < W.heap.size ∧ W.ownsRow w.heap.size 3 1 x.v (fromS l k).length (fl EI (fromS l k)) := by
 obtain ⟨vs, h1, h2, h3⟩ := h
 obtain ⟨x, hx⟩ : ∃ x, vs[k]? = some x := ⟨vs[k]'(by omega), by simp⟩
 obtain ⟨b, off, c, hv, hb, hc⟩ := ls_atL (owns_ls (E := EL) h1.row) hx
 simp only [Value.slice.injEq, Option.some.injEq, Addr.mk.injEq] at hv
 obtain ⟨⟨rfl, rfl, -⟩, -, -⟩ := hv
 rw [Nat.zero_add] at hc
 exact ⟨vs, x, h1, h2, h3, hx, hc, hb, h1.each k x hx⟩
set_option maxRecDepth 100000 in
set_option maxHeartbeats 8000000 in
theorem stepsOf_any {B gb : Nat} {g : Gph} (w : World) (h : Gm B w gb g) (hOK : Gok g) : Calls Tryz.prog 86 #[.pointer (some ⟨gb, 0, none⟩)] w fun r w' => ∃ v, r = .returned v ∧ Hid (Below w.heap.size w w' ∧ Ff w'.heap.size w' v (stL g)) := by
 have hmx : Tryz.prog.follows .mixedOrders = true := by kernel_rfl
 have HM : Hid (∀ W, Below w.heap.size w W → Gm B W gb g) := fun W hb => h.below hb
 have HOK := hid hOK
 have hpl := plN_le hOK
 have hp := gplaces_any w h
 obtain ⟨n, hn⟩ : ∃ n, n = plN g.nodes := ⟨_, rfl⟩
 rw [← hn] at hpl hp
 have HN := hid hn
 have hnl := hOK.nl
 have hel := hOK.el
 clear h hOK hn
 obtain ⟨i0, hi0, hz0, hz1, hz2⟩ := info_parts infoLL
 go_enter Tryz.func86, Tryz.ntmps86
 go_wp2_with fail
 refine hp.mono ?_
 clear hp
 rintro r w1 ⟨rfl, hw1⟩
 have hw2 := hw1.symm
 subst hw2
 clear hw1
 go_upto_region 2 with (at_make; refine wpList_make_full _ rfl _ _ 145 rfl w.heap.size 59 i0 (.slice none 0 0) 1 Tryz.underlying145 hi0 hz0 hz1 _ _ _ _ n rfl rfl rfl rfl (by rw [hz2]; omega) (by unfold maxLen; omega) (Nat.le_refl _) ?_; intro w2 hrow hg1)
 have hb2 : Below w.heap.size w w2 := (Kp.grownBy (S := fun _ => False) hg1 (fun _ h => by cases h)).below (Nat.le_refl _) (fun _ h => h.elim)
 have S2 : Hid (Sg w n w.heap.size [] w2) := ⟨_, (Fo.made hrow).re (fun k _ => rfl), by simp, hb2⟩
 obtain ⟨gg, hgg⟩ : ∃ g, g = w.heap.size := ⟨_, rfl⟩
 rw [← hgg] at S2 ⊢
 have hraw := graw_any w2 (HM.out w2 hb2)
 clear hrow hg1 hgg hi0 hz0 hz1 hz2 hb2
 go_wp2_with fail
 refine hraw.mono ?_
 clear hraw
 rintro r w3 ⟨nv, ev, ys, HR⟩
 obtain ⟨rfl, hb3, hys, hcg⟩ := HR.out
 clear HR
 have S3 : Hid (Sg w n gg [] w3 ∧ w3.ownsRow w2.heap.size 94 5 ev g.edges.length (fl ED g.edges)) := ⟨S2.out.below hb3, hcg.edges⟩
 obtain ⟨qn, mn, cn, hq⟩ := owns_form hcg.nodes
 obtain ⟨qe, me, ce, hqe⟩ := owns_form hcg.edges
 subst hq
 subst hqe
 obtain ⟨rfl, hce⟩ := owns_caps hcg.edges _ _ _ rfl
 obtain ⟨es, hes⟩ : ∃ es, es = g.edges := ⟨_, rfl⟩
 rw [← hes] at S3 hel hce ⊢
 have HES := hid hes
 generalize hml : es.length = el at S3 hel hce ⊢
 have HEL := hid hml
 clear hcg hys hb3 S2 hes hml
 dsimp only [gvc]
 have fd := fldG2 (.int .i64 g.arity) (.slice qn mn cn) (.slice qe el ce)
 go_wp2_with fail
 go_loopw [20] (fun s20 wr => ∃ i : Nat, i ≤ el ∧ s20 = .int .i64 (i : Nat) ∧ Hid (Sg w n gg (edgS g.nodes (es.take i)) wr ∧ wr.ownsRow w2.heap.size 94 5 (.slice qe el ce) el (fl ED es))) (fun s20 _ => el - (RowKit.intOf s20).toNat)
 case atStart => exact ⟨0, Nat.zero_le _, rfl, S3.out⟩
 case round =>
  clear S3
  obtain ⟨i, hi, rfl, HI⟩ := hrel
  by_cases hlt : i < el
  ·have hltz : (i : Int) < (el : Int) := by omega
   have hi1 : (0 : Int) ≤ (i : Int) := by omega
   obtain ⟨y, hy⟩ : ∃ y, es[i]? = some y := ⟨es[i]'(by have := HEL.out; omega), by simp⟩
   have HY := hid hy
   have HEN : Hid (hasON g.nodes y.src y.out = true ∧ hasIN g.nodes y.dst y.inn = true) := HOK.out.ends (by rw [← HES.out]; exact hy)
   obtain ⟨b1, o1, q1, ev1, zz1, x0, x1, x2, x3, x4⟩ := ls_atD (owns_ls (E := ED) (owns_re HI.out.2 HEL.out.symm rfl)) hy
   simp only [Value.slice.injEq] at ev1
   obtain ⟨rfl, -, rfl⟩ := ev1
   clear hy
   obtain ⟨yb, hyb⟩ : ∃ b, b = wr.heap.size := ⟨_, rfl⟩
   obtain ⟨W5, hW5⟩ : ∃ W, W = wr.alloc (.cells (ecells y) 94) := ⟨_, rfl⟩
   have P5 : Hid (Sg w n gg (edgS g.nodes (es.take i)) W5 ∧ W5.ownsRow w2.heap.size 94 5 (.slice (some ⟨b1, o1, none⟩) el ce) el (fl ED es) ∧ W5.heap[yb]? = some (.cells (ecells y) 94 (0, 0))) := by
    have g5 := ((Gr.refl wr).alloc (.cells (ecells y) 94)).below
    rw [hW5, hyb]
    exact ⟨HI.out.1.below g5, owns_below HI.out.2 g5, heap_new' _ _⟩
   have HW5 : Hid (wr.alloc (.cells #[.int .i64 y.src, .int .i64 y.out, .int .i64 y.dst, .int .i64 y.inn, .bool y.keyed] 94) = W5 ∧ wr.heap.size = yb) := ⟨hW5.symm, hyb.symm⟩
   clear hW5 hyb HI
   go_upto_region 5 with fail
   rw [HW5.out.1, HW5.out.2]
   clear HW5 x0 x1 x2 x3 x4 zz1
   have hout := gout_any y.src y.out W5 (HM.out W5 (by obtain ⟨_, _, _, h⟩ := P5.out.1; exact h))
   rw [outN_pl HEN.out.1 HOK.out.pok] at hout
   obtain ⟨fr, hfr⟩ : ∃ k, k = outPl g.nodes y := ⟨_, rfl⟩
   rw [← hfr] at hout
   have hfn : fr < n := by rw [hfr, HN.out]; exact outPl_lt HEN.out.1
   have HFR := hid hfr
   clear hfr
   have c5 := (tk_store P5.out.2.2).1
   have l5 := tk_lt P5.out.2.2
   go_wp2_with fail
   refine hout.mono ?_
   clear hout c5 l5
   rintro r W6 ⟨rfl, g6⟩
   go_upto_region 6 with fail
   obtain ⟨pl, hpl2⟩ : ∃ p, p = edgS g.nodes (es.take i) := ⟨_, rfl⟩
   obtain ⟨pi, hpi⟩ : ∃ k, k = inPl g.nodes y := ⟨_, rfl⟩
   have hS := P5.out.1.below g6.below
   have HE6 := hid (owns_below P5.out.2.1 g6.below)
   have HD : Hid (W6.heap[yb]? = some (.cells (ecells y) 94 (0, 0))) := (g6.below.block _ (tk_lt P5.out.2.2)).trans P5.out.2.2
   have HNX : Hid (pl ++ [(fr, pi)] = edgS g.nodes (es.take (i + 1))) := by
    show _ = _
    rw [hpl2, HFR.out, hpi, List.take_add_one, HY.out]
    simp [edgS, edgP]
   rw [← hpl2] at hS
   have hll := fromS_len pl fr
   have hpn : pl.length ≤ 48 := by
    rw [hpl2]
    simp only [edgS, List.length_map, List.length_take]
    omega
   obtain ⟨vs, ⟨xq, xm, xc⟩, f1, f2, f3, f4, f5, f6, f7⟩ := hS.cell hfn
   have HF : Hid (Fo w.heap.size W6 (.slice (some ⟨gg, 0, none⟩) n n) vs (fromS pl) ∧ vs.length = n ∧ vs[fr]? = some ⟨xq, xm, xc⟩) := ⟨f1, f2, f4⟩
   have HBL := hid f3
   have HBW := hid f3.size
   have HC : Hid (W6.cell? ⟨gg, fr, none⟩ = some (.slice xq xm xc) ∧ gg < W6.heap.size ∧ fr = fr) := ⟨f5, f6, rfl⟩
   have HIN : Hid (∀ W, Below W6.heap.size W6 W → Calls Tryz.prog 84 #[.pointer (some ⟨gb, 0, none⟩), .int .i64 y.dst, .int .i64 y.inn] W fun r w' => r = .returned (.int .i64 ((pi : Nat) : Int)) ∧ Gr W w') := fun W hb => by
    have h := gin_any y.dst y.inn W (HM.out W (f3.trans (hb.mono f3.size)))
    rw [inN_pl HEN.out.2, ← hpi] at h
    exact h.mono (fun r w' hr => ⟨hr.1, by rw [hr.2]; exact Gr.refl _⟩)
   obtain ⟨LL, hLL⟩ : ∃ l, l = fromS pl fr := ⟨_, rfl⟩
   rw [← hLL] at f7 hll
   have HRW := hid f7
   have HLL := hid hLL
   have HLE : Hid (LL.length ≤ 48) := Nat.le_trans hll hpn
   have hf0 : (0 : Int) ≤ (fr : Int) := by omega
   have hfz : (fr : Int) < (n : Int) := by omega
   clear f1 f2 f3 f4 f5 f6 f7 hLL hll hpn hpl2 hpi hS g6 P5
   have hB0 : Below W6.heap.size W6 W6.drew := (Gr.refl W6).drew.below
   have HSB : Hid (∀ W, Below W6.heap.size W6 W → W.cell? ⟨gg, fr, none⟩ = some (.slice xq xm xc) ∧ gg < W.heap.size ∧ W.heap[yb]? = some (.cells (ecells y) 94 (0, 0))) := fun W hb => ⟨(hb.cell (p := ⟨gg, fr, none⟩) HC.out.2.1).trans HC.out.1, Nat.lt_of_lt_of_le HC.out.2.1 hb.size, (hb.block _ (tk_lt HD.out)).trans HD.out⟩
   have hS0 := HSB.out _ hB0
   refine wp_regionD (S := fun W => W.cell? ⟨gg, fr, none⟩ = some (.slice xq xm xc) ∧ gg < W.heap.size ∧ W.heap[yb]? = some (.cells (ecells y) 94 (0, 0))) (D := [15]) hmx ?_
   refine' wpAnyD_take (i := 0) (oi := ⟨some 30, .move (.tmp 3), 145, "cycle.go:92", #[], none⟩) (v := _) rfl (by kernel_rfl) (by kernel_rfl) (by kernel_rfl) (fun _ _ _ h => h) (by kernel_rfl) (Or.inl ⟨by rfl, ?hy1⟩) hS0 ?rest1
   case hy1 => (intro W hSw; go_simp; try (with_reducible rfl))
   try simp only [Act.put, List.setIfInBounds_toArray, List.set_cons_zero, List.set_cons_succ]
   refine' wpAnyD_take (i := 1) (oi := ⟨some 31, .move (.tmp 6), 3, "cycle.go:92", #[], none⟩) (v := _) rfl (by kernel_rfl) (by kernel_rfl) (by kernel_rfl) (fun _ _ _ h => h) (by kernel_rfl) (Or.inl ⟨by rfl, ?hy2⟩) hS0 ?rest2
   case hy2 => (intro W hSw; go_simp; try (with_reducible rfl))
   try simp only [Act.put, List.setIfInBounds_toArray, List.set_cons_zero, List.set_cons_succ]
   refine' wpAnyD_take (i := 2) (oi := ⟨some 32, .move (.tmp 3), 145, "cycle.go:92", #[], none⟩) (v := _) rfl (by kernel_rfl) (by kernel_rfl) (by kernel_rfl) (fun _ _ _ h => h) (by kernel_rfl) (Or.inl ⟨by rfl, ?hy3⟩) hS0 ?rest3
   case hy3 => (intro W hSw; go_simp; try (with_reducible rfl))
   try simp only [Act.put, List.setIfInBounds_toArray, List.set_cons_zero, List.set_cons_succ]
   refine' wpAnyD_take (i := 3) (oi := ⟨some 33, .move (.tmp 6), 3, "cycle.go:92", #[], none⟩) (v := _) rfl (by kernel_rfl) (by kernel_rfl) (by kernel_rfl) (fun _ _ _ h => h) (by kernel_rfl) (Or.inl ⟨by rfl, ?hy4⟩) hS0 ?rest4
   case hy4 => (intro W hSw; go_simp; try (with_reducible rfl))
   try simp only [Act.put, List.setIfInBounds_toArray, List.set_cons_zero, List.set_cons_succ]
   refine' wpAnyD_take (i := 4) (oi := ⟨some 34, .indexAddr 145 (.tmp 32) (.tmp 33), 0, "cycle.go:92", #[⟨2, .data⟩, ⟨3, .data⟩], none⟩) (v := _) rfl (by kernel_rfl) (by kernel_rfl) (by kernel_rfl) (fun _ _ _ h => h) (by kernel_rfl) (Or.inl ⟨by rfl, ?hy5⟩) hS0 ?rest5
   case hy5 => (intro W hSw; go_simp; try (with_reducible rfl))
   try simp only [Act.put, List.setIfInBounds_toArray, List.set_cons_zero, List.set_cons_succ]
   refine' wpAnyD_take (i := 5) (oi := ⟨some 35, .load 59 (.tmp 34), 59, "cycle.go:92", #[⟨4, .data⟩], none⟩) (v := _) rfl (by kernel_rfl) (by kernel_rfl) (by kernel_rfl) (fun _ _ _ h => h) (by kernel_rfl) (Or.inl ⟨by rfl, ?hy6⟩) hS0 ?rest6
   case hy6 => (intro W hSw; have hc := hSw.1; have hl := hSw.2.1; go_simp; try (with_reducible rfl))
   try simp only [Act.put, List.setIfInBounds_toArray, List.set_cons_zero, List.set_cons_succ]
   refine' wpAnyD_take (i := 6) (oi := ⟨some 36, .move (.tmp 0), 75, "cycle.go:92", #[], none⟩) (v := _) rfl (by kernel_rfl) (by kernel_rfl) (by kernel_rfl) (fun _ _ _ h => h) (by kernel_rfl) (Or.inl ⟨by rfl, ?hy7⟩) hS0 ?rest7
   case hy7 => (intro W hSw; go_simp; try (with_reducible rfl))
   try simp only [Act.put, List.setIfInBounds_toArray, List.set_cons_zero, List.set_cons_succ]
   refine' wpAnyD_take (i := 7) (oi := ⟨some 37, .fieldAddr 94 (.tmp 5) 2, 0, "cycle.go:92", #[], none⟩) (v := _) rfl (by kernel_rfl) (by kernel_rfl) (by kernel_rfl) (fun _ _ _ h => h) (by kernel_rfl) (Or.inl ⟨by rfl, ?hy8⟩) hS0 ?rest8
   case hy8 => (intro W hSw; go_simp; try (with_reducible rfl))
   try simp only [Act.put, List.setIfInBounds_toArray, List.set_cons_zero, List.set_cons_succ]
   refine' wpAnyD_take (i := 8) (oi := ⟨some 38, .load 3 (.tmp 37), 3, "cycle.go:92", #[⟨7, .data⟩], none⟩) (v := _) rfl (by kernel_rfl) (by kernel_rfl) (by kernel_rfl) (fun _ _ _ h => h) (by kernel_rfl) (Or.inl ⟨by rfl, ?hy9⟩) hS0 ?rest9
   case hy9 => (intro W hSw; have hc := (tk_store hSw.2.2).1; have hl := tk_lt hSw.2.2; go_simp; try (with_reducible rfl))
   try simp only [Act.put, List.setIfInBounds_toArray, List.set_cons_zero, List.set_cons_succ]
   refine' wpAnyD_take (i := 9) (oi := ⟨some 39, .fieldAddr 94 (.tmp 5) 3, 0, "cycle.go:92", #[], none⟩) (v := _) rfl (by kernel_rfl) (by kernel_rfl) (by kernel_rfl) (fun _ _ _ h => h) (by kernel_rfl) (Or.inl ⟨by rfl, ?hy10⟩) hS0 ?rest10
   case hy10 => (intro W hSw; go_simp; try (with_reducible rfl))
   try simp only [Act.put, List.setIfInBounds_toArray, List.set_cons_zero, List.set_cons_succ]
   refine' wpAnyD_take (i := 10) (oi := ⟨some 40, .load 3 (.tmp 39), 3, "cycle.go:92", #[⟨9, .data⟩], none⟩) (v := _) rfl (by kernel_rfl) (by kernel_rfl) (by kernel_rfl) (fun _ _ _ h => h) (by kernel_rfl) (Or.inl ⟨by rfl, ?hy11⟩) hS0 ?rest11
   case hy11 => (intro W hSw; have hc := (tk_store hSw.2.2).1; have hl := tk_lt hSw.2.2; go_simp; try (with_reducible rfl))
   try simp only [Act.put, List.setIfInBounds_toArray, List.set_cons_zero, List.set_cons_succ]
   refine wpAnyD_one (i := 11) (o := ⟨some 41, .call ⟨.value (.func 84), #[.tmp 36, .tmp 38, .tmp 40], #[75, 3, 3]⟩, 3, "cycle.go:92", #[⟨6, .data⟩, ⟨8, .data⟩, ⟨10, .data⟩], none⟩) (by kernel_rfl) rfl (fun K hK => ?_)
   go_simp
   refine (HIN.out _ hB0).mono ?_
   rintro r w7 ⟨rfl, g7⟩
   have hS7 : Below W6.heap.size W6 w7 := hB0.trans (g7.below.mono hB0.size)
   clear g7
   go_wp2_with fail
   refine hK.out _ _ (fun hD => HSB.out _ hS7) ?_
   clear hK K
   try simp only [Act.put, List.setIfInBounds_toArray, List.set_cons_zero, List.set_cons_succ]
   refine wpAnyD_one (i := 12) (o := ⟨some 42, .buildSlice 59 1 #[(0, .tmp 41)], 59, "cycle.go:92", #[⟨11, .data⟩], none⟩) (by kernel_rfl) rfl (fun K hK => ?_)
   go_simp
   have hS8 : Below W6.heap.size W6 (w7.alloc (.cells #[.int .i64 ((pi : Nat) : Int)] 3)) := hS7.trans (((Gr.refl w7).alloc _).below.mono hS7.size)
   refine hK.out _ _ (fun hD => HSB.out _ hS8) ?_
   clear hK K
   try simp only [Act.put, List.setIfInBounds_toArray, List.set_cons_zero, List.set_cons_succ]
   refine wpAnyD_one (i := 13) (o := ⟨some 43, .call ⟨.builtin .append, #[.tmp 35, .tmp 42], #[59, 59]⟩, 59, "cycle.go:92", #[⟨5, .data⟩, ⟨12, .data⟩, ⟨11, .chain⟩], none⟩) (by kernel_rfl) rfl (fun K hK => ?_)
   refine step_app1 EI Tryz.underlying59 infoI rfl (by decide) rfl _ _ rfl w.heap.size (.slice xq xm xc) LL.length (fl EI LL) rfl (owns_below HRW.out hS7) ((pi : Nat) : Int) (by first | rfl | simp) (by have := HLE.out; omega) (by have := HLE.out; unfold maxLen; omega) (Nat.le_trans HBW.out hS7.size) _ rfl _ ?_
   intro g8 cap8 w8 h8 k8 n8
   have ST : Hid (Sg w n gg (pl ++ [(fr, pi)]) (w8.setCell ⟨gg, fr, none⟩ (.slice (some ⟨g8, 0, none⟩) (LL.length + 1) cap8)) ∧ (w8.setCell ⟨gg, fr, none⟩ (.slice (some ⟨g8, 0, none⟩) (LL.length + 1) cap8)).ownsRow w2.heap.size 94 5 (.slice (some ⟨b1, o1, none⟩) el ce) el (fl ED es)) := by
    have hf := HF.out.1.below hS7
    rw [HLL.out] at h8 ⊢
    obtain ⟨h1, h2⟩ := hf.step HF.out.2.2 (by rw [HF.out.2.1]) h8.out k8.out n8.out
    refine ⟨⟨_, h1.re (fun k _ => (fromS_snoc pl (fr, pi) k).symm), by rw [List.length_set]; exact HF.out.2.1, (HBL.out.trans (hS7.mono HBL.out.size)).trans (h2.below (Nat.le_trans HBL.out.size hS7.size) (hf.blocks HF.out.2.2))⟩, ?_⟩
    exact hf.other HF.out.2.2 h2 (owns_below HE6.out hS7) (by decide) (by decide)
   have hb8 := (Kp.grownBy (S := fun k => (Value.slice xq xm xc).ownBlock = some k) k8.out (fun _ h => h))
   have F8 : Hid (w8.frozen? ⟨gg, fr, none⟩ = false ∧ gg < w8.heap.size ∧ w8.cell? ⟨gg, fr, none⟩ = some (.slice xq xm xc) ∧ w8.heap[yb]? = some (.cells (ecells y) 94 (0, 0))) := by
    have hf := HF.out.1.below hS7
    have hne := owns_ne_own hf.row (hf.each fr _ HF.out.2.2) (by decide)
    have hr8 := owns_kp hb8 hf.row (fun j e e2 => hne j e e2)
    rw [HF.out.2.1] at hr8
    exact ⟨hr8.frozenAt _, Nat.lt_of_lt_of_le HC.out.2.1 (Nat.le_trans hS7.size hb8.size), (hb8.cell (Nat.lt_of_lt_of_le HC.out.2.1 hS7.size) (fun e => hne gg rfl e)).trans ((hS7.cell (p := ⟨gg, fr, none⟩) HC.out.2.1).trans HC.out.1), (hb8.block _ (Nat.lt_of_lt_of_le (tk_lt HD.out) hS7.size) (fun e => owns_ne_blk (owns_below HRW.out hS7) (HSB.out _ hS7).2.2 (by decide) yb e rfl)).trans (HSB.out _ hS7).2.2⟩
   clear h8 k8 n8 hb8
   generalize LL.length + 1 = ll at ST ⊢
   refine hK.out _ _ (fun hD => ⟨F8.out.2.2.1, F8.out.2.1, F8.out.2.2.2⟩) ?_
   clear hK K
   try simp only [Act.put, List.setIfInBounds_toArray, List.set_cons_zero, List.set_cons_succ]
   refine' wpAnyD_take (i := 14) (oi := ⟨some 44, .indexAddr 145 (.tmp 30) (.tmp 31), 0, "cycle.go:92", #[⟨0, .data⟩, ⟨1, .data⟩, ⟨0, .phase⟩, ⟨1, .phase⟩, ⟨2, .phase⟩, ⟨3, .phase⟩, ⟨4, .phase⟩, ⟨5, .phase⟩, ⟨6, .phase⟩, ⟨7, .phase⟩, ⟨8, .phase⟩, ⟨9, .phase⟩, ⟨10, .phase⟩, ⟨11, .phase⟩, ⟨12, .phase⟩, ⟨13, .phase⟩], none⟩) (v := _) rfl (by kernel_rfl) (by kernel_rfl) (by kernel_rfl) (fun _ _ _ h => h) (by kernel_rfl) (Or.inl ⟨by rfl, ?hy15⟩) ⟨F8.out.2.2.1, F8.out.2.1, F8.out.2.2.2⟩ ?rest15
   case hy15 => (intro W hSw; go_simp; try (with_reducible rfl))
   try simp only [Act.put, List.setIfInBounds_toArray, List.set_cons_zero, List.set_cons_succ]
   refine wpAnyD_one (i := 15) (o := ⟨none, .store 59 (.tmp 44) (.tmp 43), 0, "cycle.go:92", #[⟨14, .data⟩, ⟨13, .data⟩, ⟨13, .chain⟩, ⟨0, .phase⟩, ⟨1, .phase⟩, ⟨2, .phase⟩, ⟨3, .phase⟩, ⟨4, .phase⟩, ⟨5, .phase⟩, ⟨6, .phase⟩, ⟨7, .phase⟩, ⟨8, .phase⟩, ⟨9, .phase⟩, ⟨10, .phase⟩, ⟨11, .phase⟩, ⟨12, .phase⟩, ⟨13, .phase⟩], none⟩) (by kernel_rfl) rfl (fun K hK => ?_)
   have c8 := F8.out.2.2.1
   have f8 := F8.out.1
   have l8 := F8.out.2.1
   go_simp
   generalize (w8.setCell ⟨gg, fr, none⟩ (.slice (some ⟨g8, 0, none⟩) ll cap8)) = w9 at ST ⊢
   clear c8 f8 l8
   refine hK.out _ _ (fun hD => absurd (by decide) hD) ?_
   clear hK K
   try simp only [Act.put, List.setIfInBounds_toArray, List.set_cons_zero, List.set_cons_succ]
   refine wpAnyD_done (by kernel_rfl) ?_ _
   have FIN : Hid (Sg w n gg (edgS g.nodes (es.take (i + 1))) w9 ∧ w9.ownsRow w2.heap.size 94 5 (.slice (some ⟨b1, o1, none⟩) el ce) el (fl ED es)) := by rw [← HNX.out]; exact ST.out
   clear ST HNX hS0 hS7 hB0 HSB
   go_upto_region 7 with fail
   go_wp2_with fail
   go_roundw
   case rel => exact ⟨i + 1, by omega, by go_num, FIN.out⟩
   case measure => simp [RowKit.intOf]; omega
  ·have hltz : ¬ (i : Int) < (el : Int) := by omega
   have S9 : Hid (Sg w n gg (edgS g.nodes es) wr) := by
    have h := HI.out.1
    rw [List.take_of_length_le (by have := HEL.out; omega)] at h
    exact h
   have hnod := gnodes_any wr (HM.out wr (by obtain ⟨_, _, _, h⟩ := S9.out; exact h))
   obtain ⟨nl, hnl2⟩ : ∃ k, k = g.nodes.length := ⟨_, rfl⟩
   rw [← hnl2] at hnod hnl
   have HNL := hid hnl2
   clear HI hnl2
   go_wp2_with fail
   refine hnod.mono ?_
   clear hnod
   rintro r w10 ⟨rfl, hw10⟩
   subst hw10
   go_wp2_with fail
   go_loopw [48] (fun s48 wr => ∃ i : Nat, i ≤ nl ∧ s48 = .int .i64 (i : Nat) ∧ Hid (Sg w n gg (edgS g.nodes es ++ nodU g.nodes i) wr)) (fun s48 _ => nl - (RowKit.intOf s48).toNat)
   case atStart => exact ⟨0, Nat.zero_le _, rfl, by have h := S9.out; show Sg _ _ _ _ _; simpa [nodU] using h⟩
   case round =>
    clear S9
    obtain ⟨j, hj, rfl, HI⟩ := hrel
    by_cases hlj : j < nl
    ·have hljz : (j : Int) < (nl : Int) := by omega
     have hj1 : (0 : Int) ≤ (j : Int) := by omega
     have hcon := gconns_any (j : Int) wr (HM.out wr (by obtain ⟨_, _, _, h⟩ := HI.out; exact h))
     obtain ⟨cs, hcs⟩ : ∃ l, l = connsAt g.nodes (j : Int) := ⟨_, rfl⟩
     rw [← hcs] at hcon
     have hcl : cs.length ≤ 16 := by rw [hcs]; exact HOK.out.conLen j
     have HCS := hid hcs
     clear hcs
     go_wp2_with fail
     refine hcon.mono ?_
     clear hcon
     rintro r w11 ⟨dv, rfl, hb11, hcr⟩
     obtain ⟨qc, mc, cc, hqc⟩ := owns_form hcr
     subst hqc
     obtain ⟨rfl, hcc⟩ := owns_caps hcr _ _ _ rfl
     have hB1 : ∃ b, b = wr.heap.size := ⟨_, rfl⟩
     obtain ⟨B1, hB1⟩ := hB1
     rw [← hB1] at hcr
     have S11 : Hid (Sg w n gg (edgS g.nodes es ++ nodU g.nodes j) w11 ∧ w11.ownsRow B1 92 5 (.slice qc cs.length cc) cs.length (fl EC cs)) := ⟨HI.out.below hb11, hcr⟩
     generalize hml : cs.length = cl at S11 hcl hcc ⊢
     have HCL := hid hml
     clear hb11 hcr HI hml hB1
     go_wp2_with fail
     go_loopw [55] (fun s55 wr => ∃ k : Nat, k ≤ cl ∧ s55 = .int .i64 (k : Nat) ∧ Hid (Sg w n gg (edgS g.nodes es ++ nodU g.nodes j ++ nodS g.nodes j (cs.take k)) wr ∧ wr.ownsRow B1 92 5 (.slice qc cl cc) cl (fl EC cs))) (fun s55 _ => cl - (RowKit.intOf s55).toNat)
     case atStart => exact ⟨0, Nat.zero_le _, rfl, by have h := S11.out; show Sg _ _ _ _ _ ∧ _; simpa [nodS] using h⟩
     case round =>
      clear S11
      obtain ⟨k, hk, rfl, HI⟩ := hrel
      by_cases hlk : k < cl
      ·have hlkz : (k : Int) < (cl : Int) := by omega
       have hk1 : (0 : Int) ≤ (k : Int) := by omega
       obtain ⟨y, hy⟩ : ∃ y, cs[k]? = some y := ⟨cs[k]'(by have := HCL.out; omega), by simp⟩
       have HY := hid hy
       have HEN : Hid (hasIN g.nodes (j : Int) y.inn = true ∧ hasON g.nodes (j : Int) y.out = true) := HOK.out.con (by rw [← HCS.out]; exact List.mem_of_getElem? hy)
       obtain ⟨b1, o1, q1, ev1, zz1, x0, x1, x2, x3, x4⟩ := ls_atC (owns_ls (E := EC) (owns_re HI.out.2 HCL.out.symm rfl)) hy
       simp only [Value.slice.injEq] at ev1
       obtain ⟨rfl, -, rfl⟩ := ev1
       clear hy
       obtain ⟨yb, hyb⟩ : ∃ b, b = wr.heap.size := ⟨_, rfl⟩
       obtain ⟨W5, hW5⟩ : ∃ W, W = wr.alloc (.cells (ccells y) 92) := ⟨_, rfl⟩
       have P5 : Hid (Sg w n gg (edgS g.nodes es ++ nodU g.nodes j ++ nodS g.nodes j (cs.take k)) W5 ∧ W5.ownsRow B1 92 5 (.slice (some ⟨b1, o1, none⟩) cl cc) cl (fl EC cs) ∧ W5.heap[yb]? = some (.cells (ccells y) 92 (0, 0))) := by
        have g5 := ((Gr.refl wr).alloc (.cells (ccells y) 92)).below
        rw [hW5, hyb]
        exact ⟨HI.out.1.below g5, owns_below HI.out.2 g5, heap_new' _ _⟩
       have HW5 : Hid (wr.alloc (.cells #[.int .i64 y.inn, .int .i64 y.out, .int .u64 (y.via.1 : Nat), .int .u64 (y.via.2.1 : Nat), .int .u64 (y.via.2.2 : Nat)] 92) = W5 ∧ wr.heap.size = yb) := ⟨hW5.symm, hyb.symm⟩
       clear hW5 hyb HI
       go_upto_region 14 with fail
       rw [HW5.out.1, HW5.out.2]
       clear HW5 x0 x1 x2 x3 x4 zz1
       have c5 := (tk_store P5.out.2.2).1
       have l5 := tk_lt P5.out.2.2
       by_cases hE : y.via = (0, 0, 0)
       ·have hin := gin_any (j : Int) y.inn W5 (HM.out W5 (by obtain ⟨_, _, _, h⟩ := P5.out.1; exact h))
        rw [cIn_eq HEN.out.1] at hin
        obtain ⟨fr, hfr⟩ : ∃ k, k = cIn g.nodes j y := ⟨_, rfl⟩
        rw [← hfr] at hin
        have hfn : fr < n := by rw [hfr, HN.out]; exact cIn_lt HEN.out.1
        have HFR := hid hfr
        clear hfr
        obtain ⟨hE1, hE2, hE3⟩ : y.via.1 = 0 ∧ y.via.2.1 = 0 ∧ y.via.2.2 = 0 := by rw [hE]; exact ⟨rfl, rfl, rfl⟩
        go_wp2_with fail
        refine hin.mono ?_
        clear hin c5 l5
        rintro r W6 ⟨rfl, hW6⟩
        subst hW6
        go_upto_region 16 with fail
        obtain ⟨pl, hpl2⟩ : ∃ p, p = edgS g.nodes es ++ nodU g.nodes j ++ nodS g.nodes j (cs.take k) := ⟨_, rfl⟩
        obtain ⟨pi, hpi⟩ : ∃ k, k = cOut g.nodes j y := ⟨_, rfl⟩
        have hS := P5.out.1
        have HE6 := hid P5.out.2.1
        have HD := hid P5.out.2.2
        have HNX : Hid (pl ++ [(fr, pi)] = edgS g.nodes es ++ nodU g.nodes j ++ nodS g.nodes j (cs.take (k + 1))) := by
         show _ = _
         rw [hpl2, HFR.out, hpi, List.take_add_one, HY.out]
         simp [nodS, isE, conS, hE]
        rw [← hpl2] at hS
        have hll := fromS_len pl fr
        have hpn : pl.length ≤ 500 := by
         have h1 := nodU_len HOK.out j
         have h2 : (nodS g.nodes j (cs.take k)).length ≤ k := by
          unfold nodS
          rw [List.length_map]
          exact Nat.le_trans (List.length_filter_le _ _) (by rw [List.length_take]; omega)
         rw [hpl2, List.length_append, List.length_append]
         simp only [edgS, List.length_map]
         have := HEL.out
         omega
        obtain ⟨vs, ⟨xq, xm, xc⟩, f1, f2, f3, f4, f5, f6, f7⟩ := hS.cell hfn
        have HF : Hid (Fo w.heap.size W6 (.slice (some ⟨gg, 0, none⟩) n n) vs (fromS pl) ∧ vs.length = n ∧ vs[fr]? = some ⟨xq, xm, xc⟩) := ⟨f1, f2, f4⟩
        have HBL := hid f3
        have HBW := hid f3.size
        have HC : Hid (W6.cell? ⟨gg, fr, none⟩ = some (.slice xq xm xc) ∧ gg < W6.heap.size ∧ fr = fr) := ⟨f5, f6, rfl⟩
        have HIN : Hid (∀ W, Below W6.heap.size W6 W → Calls Tryz.prog 83 #[.pointer (some ⟨gb, 0, none⟩), .int .i64 (j : Int), .int .i64 y.out] W fun r w' => r = .returned (.int .i64 ((pi : Nat) : Int)) ∧ Gr W w') := fun W hb => by
         have h := gout_any (j : Int) y.out W (HM.out W (f3.trans (hb.mono f3.size)))
         rw [cOut_eq HOK.out.pok HEN.out.2, ← hpi] at h
         exact h
        obtain ⟨LL, hLL⟩ : ∃ l, l = fromS pl fr := ⟨_, rfl⟩
        rw [← hLL] at f7 hll
        have HRW := hid f7
        have HLL := hid hLL
        have HLE : Hid (LL.length ≤ 500) := Nat.le_trans hll hpn
        have hf0 : (0 : Int) ≤ (fr : Int) := by omega
        have hfz : (fr : Int) < (n : Int) := by omega
        clear f1 f2 f3 f4 f5 f6 f7 hLL hll hpn hpl2 hpi hS P5
        have hB0 : Below W6.heap.size W6 W6.drew := (Gr.refl W6).drew.below
        have HSB : Hid (∀ W, Below W6.heap.size W6 W → W.cell? ⟨gg, fr, none⟩ = some (.slice xq xm xc) ∧ gg < W.heap.size ∧ W.heap[yb]? = some (.cells (ccells y) 92 (0, 0))) := fun W hb => ⟨(hb.cell (p := ⟨gg, fr, none⟩) HC.out.2.1).trans HC.out.1, Nat.lt_of_lt_of_le HC.out.2.1 hb.size, (hb.block _ (tk_lt HD.out)).trans HD.out⟩
        have hS0 := HSB.out _ hB0
        refine wp_regionD (S := fun W => W.cell? ⟨gg, fr, none⟩ = some (.slice xq xm xc) ∧ gg < W.heap.size ∧ W.heap[yb]? = some (.cells (ccells y) 92 (0, 0))) (D := [14]) hmx ?_
        refine' wpAnyD_take (i := 0) (oi := ⟨some 68, .move (.tmp 3), 145, "cycle.go:98", #[], none⟩) (v := _) rfl (by kernel_rfl) (by kernel_rfl) (by kernel_rfl) (fun _ _ _ h => h) (by kernel_rfl) (Or.inl ⟨by rfl, ?hy17⟩) hS0 ?rest17
        case hy17 => (intro W hSw; go_simp; try (with_reducible rfl))
        try simp only [Act.put, List.setIfInBounds_toArray, List.set_cons_zero, List.set_cons_succ]
        refine' wpAnyD_take (i := 1) (oi := ⟨some 69, .move (.tmp 10), 3, "cycle.go:98", #[], none⟩) (v := _) rfl (by kernel_rfl) (by kernel_rfl) (by kernel_rfl) (fun _ _ _ h => h) (by kernel_rfl) (Or.inl ⟨by rfl, ?hy18⟩) hS0 ?rest18
        case hy18 => (intro W hSw; go_simp; try (with_reducible rfl))
        try simp only [Act.put, List.setIfInBounds_toArray, List.set_cons_zero, List.set_cons_succ]
        refine' wpAnyD_take (i := 2) (oi := ⟨some 70, .move (.tmp 3), 145, "cycle.go:98", #[], none⟩) (v := _) rfl (by kernel_rfl) (by kernel_rfl) (by kernel_rfl) (fun _ _ _ h => h) (by kernel_rfl) (Or.inl ⟨by rfl, ?hy19⟩) hS0 ?rest19
        case hy19 => (intro W hSw; go_simp; try (with_reducible rfl))
        try simp only [Act.put, List.setIfInBounds_toArray, List.set_cons_zero, List.set_cons_succ]
        refine' wpAnyD_take (i := 3) (oi := ⟨some 71, .move (.tmp 10), 3, "cycle.go:98", #[], none⟩) (v := _) rfl (by kernel_rfl) (by kernel_rfl) (by kernel_rfl) (fun _ _ _ h => h) (by kernel_rfl) (Or.inl ⟨by rfl, ?hy20⟩) hS0 ?rest20
        case hy20 => (intro W hSw; go_simp; try (with_reducible rfl))
        try simp only [Act.put, List.setIfInBounds_toArray, List.set_cons_zero, List.set_cons_succ]
        refine' wpAnyD_take (i := 4) (oi := ⟨some 72, .indexAddr 145 (.tmp 70) (.tmp 71), 0, "cycle.go:98", #[⟨2, .data⟩, ⟨3, .data⟩], none⟩) (v := _) rfl (by kernel_rfl) (by kernel_rfl) (by kernel_rfl) (fun _ _ _ h => h) (by kernel_rfl) (Or.inl ⟨by rfl, ?hy21⟩) hS0 ?rest21
        case hy21 => (intro W hSw; go_simp; try (with_reducible rfl))
        try simp only [Act.put, List.setIfInBounds_toArray, List.set_cons_zero, List.set_cons_succ]
        refine' wpAnyD_take (i := 5) (oi := ⟨some 73, .load 59 (.tmp 72), 59, "cycle.go:98", #[⟨4, .data⟩], none⟩) (v := _) rfl (by kernel_rfl) (by kernel_rfl) (by kernel_rfl) (fun _ _ _ h => h) (by kernel_rfl) (Or.inl ⟨by rfl, ?hy22⟩) hS0 ?rest22
        case hy22 => (intro W hSw; have hc := hSw.1; have hl := hSw.2.1; go_simp; try (with_reducible rfl))
        try simp only [Act.put, List.setIfInBounds_toArray, List.set_cons_zero, List.set_cons_succ]
        refine' wpAnyD_take (i := 6) (oi := ⟨some 74, .move (.tmp 0), 75, "cycle.go:98", #[], none⟩) (v := _) rfl (by kernel_rfl) (by kernel_rfl) (by kernel_rfl) (fun _ _ _ h => h) (by kernel_rfl) (Or.inl ⟨by rfl, ?hy23⟩) hS0 ?rest23
        case hy23 => (intro W hSw; go_simp; try (with_reducible rfl))
        try simp only [Act.put, List.setIfInBounds_toArray, List.set_cons_zero, List.set_cons_succ]
        refine' wpAnyD_take (i := 7) (oi := ⟨some 75, .move (.tmp 7), 3, "cycle.go:98", #[], none⟩) (v := _) rfl (by kernel_rfl) (by kernel_rfl) (by kernel_rfl) (fun _ _ _ h => h) (by kernel_rfl) (Or.inl ⟨by rfl, ?hy24⟩) hS0 ?rest24
        case hy24 => (intro W hSw; go_simp; try (with_reducible rfl))
        try simp only [Act.put, List.setIfInBounds_toArray, List.set_cons_zero, List.set_cons_succ]
        refine' wpAnyD_take (i := 8) (oi := ⟨some 76, .fieldAddr 92 (.tmp 9) 1, 0, "cycle.go:98", #[], none⟩) (v := _) rfl (by kernel_rfl) (by kernel_rfl) (by kernel_rfl) (fun _ _ _ h => h) (by kernel_rfl) (Or.inl ⟨by rfl, ?hy25⟩) hS0 ?rest25
        case hy25 => (intro W hSw; go_simp; try (with_reducible rfl))
        try simp only [Act.put, List.setIfInBounds_toArray, List.set_cons_zero, List.set_cons_succ]
        refine' wpAnyD_take (i := 9) (oi := ⟨some 77, .load 3 (.tmp 76), 3, "cycle.go:98", #[⟨8, .data⟩], none⟩) (v := _) rfl (by kernel_rfl) (by kernel_rfl) (by kernel_rfl) (fun _ _ _ h => h) (by kernel_rfl) (Or.inl ⟨by rfl, ?hy26⟩) hS0 ?rest26
        case hy26 => (intro W hSw; have hc := (tk_store hSw.2.2).1; have hl := tk_lt hSw.2.2; go_simp; try (with_reducible rfl))
        try simp only [Act.put, List.setIfInBounds_toArray, List.set_cons_zero, List.set_cons_succ]
        refine wpAnyD_one (i := 10) (o := ⟨some 78, .call ⟨.value (.func 83), #[.tmp 74, .tmp 75, .tmp 77], #[75, 3, 3]⟩, 3, "cycle.go:98", #[⟨6, .data⟩, ⟨7, .data⟩, ⟨9, .data⟩], none⟩) (by kernel_rfl) rfl (fun K hK => ?_)
        go_simp
        refine (HIN.out _ hB0).mono ?_
        rintro r w7 ⟨rfl, g7⟩
        have hS7 : Below W6.heap.size W6 w7 := hB0.trans (g7.below.mono hB0.size)
        clear g7
        go_wp2_with fail
        refine hK.out _ _ (fun hD => HSB.out _ hS7) ?_
        clear hK K
        try simp only [Act.put, List.setIfInBounds_toArray, List.set_cons_zero, List.set_cons_succ]
        refine wpAnyD_one (i := 11) (o := ⟨some 79, .buildSlice 59 1 #[(0, .tmp 78)], 59, "cycle.go:98", #[⟨10, .data⟩], none⟩) (by kernel_rfl) rfl (fun K hK => ?_)
        go_simp
        have hS8 : Below W6.heap.size W6 (w7.alloc (.cells #[.int .i64 ((pi : Nat) : Int)] 3)) := hS7.trans (((Gr.refl w7).alloc _).below.mono hS7.size)
        refine hK.out _ _ (fun hD => HSB.out _ hS8) ?_
        clear hK K
        try simp only [Act.put, List.setIfInBounds_toArray, List.set_cons_zero, List.set_cons_succ]
        refine wpAnyD_one (i := 12) (o := ⟨some 80, .call ⟨.builtin .append, #[.tmp 73, .tmp 79], #[59, 59]⟩, 59, "cycle.go:98", #[⟨5, .data⟩, ⟨11, .data⟩, ⟨10, .chain⟩], none⟩) (by kernel_rfl) rfl (fun K hK => ?_)
        refine step_app1 EI Tryz.underlying59 infoI rfl (by decide) rfl _ _ rfl w.heap.size (.slice xq xm xc) LL.length (fl EI LL) rfl (owns_below HRW.out hS7) ((pi : Nat) : Int) (by first | rfl | simp) (by have := HLE.out; omega) (by have := HLE.out; unfold maxLen; omega) (Nat.le_trans HBW.out hS7.size) _ rfl _ ?_
        intro g8 cap8 w8 h8 k8 n8
        have ST : Hid (Sg w n gg (pl ++ [(fr, pi)]) (w8.setCell ⟨gg, fr, none⟩ (.slice (some ⟨g8, 0, none⟩) (LL.length + 1) cap8)) ∧ (w8.setCell ⟨gg, fr, none⟩ (.slice (some ⟨g8, 0, none⟩) (LL.length + 1) cap8)).ownsRow B1 92 5 (.slice (some ⟨b1, o1, none⟩) cl cc) cl (fl EC cs)) := by
         have hf := HF.out.1.below hS7
         rw [HLL.out] at h8 ⊢
         obtain ⟨h1, h2⟩ := hf.step HF.out.2.2 (by rw [HF.out.2.1]) h8.out k8.out n8.out
         refine ⟨⟨_, h1.re (fun k _ => (fromS_snoc pl (fr, pi) k).symm), by rw [List.length_set]; exact HF.out.2.1, (HBL.out.trans (hS7.mono HBL.out.size)).trans (h2.below (Nat.le_trans HBL.out.size hS7.size) (hf.blocks HF.out.2.2))⟩, ?_⟩
         exact hf.other HF.out.2.2 h2 (owns_below HE6.out hS7) (by decide) (by decide)
        have hb8 := (Kp.grownBy (S := fun k => (Value.slice xq xm xc).ownBlock = some k) k8.out (fun _ h => h))
        have F8 : Hid (w8.frozen? ⟨gg, fr, none⟩ = false ∧ gg < w8.heap.size ∧ w8.cell? ⟨gg, fr, none⟩ = some (.slice xq xm xc) ∧ w8.heap[yb]? = some (.cells (ccells y) 92 (0, 0))) := by
         have hf := HF.out.1.below hS7
         have hne := owns_ne_own hf.row (hf.each fr _ HF.out.2.2) (by decide)
         have hr8 := owns_kp hb8 hf.row (fun j e e2 => hne j e e2)
         rw [HF.out.2.1] at hr8
         exact ⟨hr8.frozenAt _, Nat.lt_of_lt_of_le HC.out.2.1 (Nat.le_trans hS7.size hb8.size), (hb8.cell (Nat.lt_of_lt_of_le HC.out.2.1 hS7.size) (fun e => hne gg rfl e)).trans ((hS7.cell (p := ⟨gg, fr, none⟩) HC.out.2.1).trans HC.out.1), (hb8.block _ (Nat.lt_of_lt_of_le (tk_lt HD.out) hS7.size) (fun e => owns_ne_blk (owns_below HRW.out hS7) (HSB.out _ hS7).2.2 (by decide) yb e rfl)).trans (HSB.out _ hS7).2.2⟩
        clear h8 k8 n8 hb8
        generalize LL.length + 1 = ll at ST ⊢
        refine hK.out _ _ (fun hD => ⟨F8.out.2.2.1, F8.out.2.1, F8.out.2.2.2⟩) ?_
        clear hK K
        try simp only [Act.put, List.setIfInBounds_toArray, List.set_cons_zero, List.set_cons_succ]
        refine' wpAnyD_take (i := 13) (oi := ⟨some 81, .indexAddr 145 (.tmp 68) (.tmp 69), 0, "cycle.go:98", #[⟨0, .data⟩, ⟨1, .data⟩, ⟨0, .phase⟩, ⟨1, .phase⟩, ⟨2, .phase⟩, ⟨3, .phase⟩, ⟨4, .phase⟩, ⟨5, .phase⟩, ⟨6, .phase⟩, ⟨7, .phase⟩, ⟨8, .phase⟩, ⟨9, .phase⟩, ⟨10, .phase⟩, ⟨11, .phase⟩, ⟨12, .phase⟩], none⟩) (v := _) rfl (by kernel_rfl) (by kernel_rfl) (by kernel_rfl) (fun _ _ _ h => h) (by kernel_rfl) (Or.inl ⟨by rfl, ?hy30⟩) ⟨F8.out.2.2.1, F8.out.2.1, F8.out.2.2.2⟩ ?rest30
        case hy30 => (intro W hSw; go_simp; try (with_reducible rfl))
        try simp only [Act.put, List.setIfInBounds_toArray, List.set_cons_zero, List.set_cons_succ]
        refine wpAnyD_one (i := 14) (o := ⟨none, .store 59 (.tmp 81) (.tmp 80), 0, "cycle.go:98", #[⟨13, .data⟩, ⟨12, .data⟩, ⟨12, .chain⟩, ⟨0, .phase⟩, ⟨1, .phase⟩, ⟨2, .phase⟩, ⟨3, .phase⟩, ⟨4, .phase⟩, ⟨5, .phase⟩, ⟨6, .phase⟩, ⟨7, .phase⟩, ⟨8, .phase⟩, ⟨9, .phase⟩, ⟨10, .phase⟩, ⟨11, .phase⟩, ⟨12, .phase⟩], none⟩) (by kernel_rfl) rfl (fun K hK => ?_)
        have c8 := F8.out.2.2.1
        have f8 := F8.out.1
        have l8 := F8.out.2.1
        go_simp
        generalize (w8.setCell ⟨gg, fr, none⟩ (.slice (some ⟨g8, 0, none⟩) ll cap8)) = w9 at ST ⊢
        clear c8 f8 l8
        refine hK.out _ _ (fun hD => absurd (by decide) hD) ?_
        clear hK K
        try simp only [Act.put, List.setIfInBounds_toArray, List.set_cons_zero, List.set_cons_succ]
        refine wpAnyD_done (by kernel_rfl) ?_ _
        have FIN : Hid (Sg w n gg (edgS g.nodes es ++ nodU g.nodes j ++ nodS g.nodes j (cs.take (k + 1))) w9 ∧ w9.ownsRow B1 92 5 (.slice (some ⟨b1, o1, none⟩) cl cc) cl (fl EC cs)) := by rw [← HNX.out]; exact ST.out
        clear ST HNX hS0 hS7 hB0 HSB
        go_upto_region 17 with fail
        go_wp2_with fail
        go_roundw
        case rel => exact ⟨k + 1, by omega, by go_num, FIN.out⟩
        case measure => simp [RowKit.intOf]; omega
       ·have FIN : Hid (Sg w n gg (edgS g.nodes es ++ nodU g.nodes j ++ nodS g.nodes j (cs.take (k + 1))) W5 ∧ W5.ownsRow B1 92 5 (.slice (some ⟨b1, o1, none⟩) cl cc) cl (fl EC cs)) := by
          have e1 : nodS g.nodes j (cs.take (k + 1)) = nodS g.nodes j (cs.take k) := by
           rw [List.take_add_one, HY.out]
           simp [nodS, isE, hE]
          rw [e1]
          exact ⟨P5.out.1, P5.out.2.1⟩
        clear P5
        have hne : ¬ (y.via.1 = 0 ∧ y.via.2.1 = 0 ∧ y.via.2.2 = 0) := fun e => hE (Prod.ext e.1 (Prod.ext e.2.1 e.2.2))
        clear hE
        have hne3 : y.via.1 ≠ 0 ∨ (y.via.1 = 0 ∧ y.via.2.1 ≠ 0) ∨ (y.via.1 = 0 ∧ y.via.2.1 = 0 ∧ y.via.2.2 ≠ 0) := by omega
        clear hne
        rcases hne3 with h1 | ⟨h1, h2⟩ | ⟨h1, h2, h3⟩
        ·go_wp2_with fail
         go_roundw
         case rel => exact ⟨k + 1, by omega, by go_num, FIN.out⟩
         case measure => simp [RowKit.intOf]; omega
        ·go_wp2_with fail
         go_roundw
         case rel => exact ⟨k + 1, by omega, by go_num, FIN.out⟩
         case measure => simp [RowKit.intOf]; omega
        ·go_wp2_with fail
         go_roundw
         case rel => exact ⟨k + 1, by omega, by go_num, FIN.out⟩
         case measure => simp [RowKit.intOf]; omega
      ·have hlkz : ¬ (k : Int) < (cl : Int) := by omega
       have FIN : Hid (Sg w n gg (edgS g.nodes es ++ nodU g.nodes (j + 1)) wr) := by
        have h := HI.out.1
        rw [List.take_of_length_le (by have := HCL.out; omega), HCS.out, List.append_assoc] at h
        exact h
       clear HI
       go_wp2_with fail
       go_roundw
       case rel => exact ⟨j + 1, by omega, by go_num, FIN.out⟩
       case measure => simp [RowKit.intOf]; omega
    ·have hljz : ¬ (j : Int) < (nl : Int) := by omega
     have S20 : Hid (∃ vs, Fo w.heap.size wr (.slice (some ⟨gg, 0, none⟩) n n) vs (fun k => if k < 0 then srtI (fromS (stS g) k) else fromS (stS g) k) ∧ vs.length = n ∧ Below w.heap.size w wr) := by
      have h := HI.out
      obtain rfl : j = nl := by omega
      have e1 : edgS g.nodes es ++ nodU g.nodes j = stS g := by unfold stS; rw [HES.out, HNL.out]
      rw [e1] at h
      obtain ⟨vs, h1, h2, h3⟩ := h
      exact ⟨vs, h1.re (fun k _ => by rw [if_neg (Nat.not_lt_zero _)]), h2, h3⟩
     clear HI
     go_wp2_with fail
     go_loopw [86] (fun s86 wr => ∃ i : Nat, i ≤ n ∧ s86 = .int .i64 (i : Nat) ∧ Hid (∃ vs, Fo w.heap.size wr (.slice (some ⟨gg, 0, none⟩) n n) vs (fun k => if k < i then srtI (fromS (stS g) k) else fromS (stS g) k) ∧ vs.length = n ∧ Below w.heap.size w wr)) (fun s86 _ => n - (RowKit.intOf s86).toNat)
     case atStart => exact ⟨0, Nat.zero_le _, rfl, S20.out⟩
     case round =>
      clear S20
      obtain ⟨k, hk, rfl, HI⟩ := hrel
      by_cases hlk : k < n
      ·have hlkz : (k : Int) < (n : Int) := by omega
       have hk1 : (0 : Int) ≤ (k : Int) := by omega
       obtain ⟨vs, f1, f2, f3⟩ := HI.out
       obtain ⟨x, hx⟩ : ∃ x, vs[k]? = some x := ⟨vs[k]'(by omega), by simp⟩
       obtain ⟨b, off, c, hv, hb, hc⟩ := ls_atL (owns_ls (E := EL) f1.row) hx
       simp only [Value.slice.injEq, Option.some.injEq, Addr.mk.injEq] at hv
       obtain ⟨⟨rfl, rfl, -⟩, -, -⟩ := hv
       rw [Nat.zero_add] at hc
       have he := f1.each k x hx
       rw [if_neg (Nat.lt_irrefl k)] at he
       have HF : Hid (Fo w.heap.size wr (.slice (some ⟨gg, 0, none⟩) n n) vs (fun j => if j < k then srtI (fromS (stS g) j) else fromS (stS g) j) ∧ vs.length = n ∧ Below w.heap.size w wr ∧ vs[k]? = some x) := ⟨f1, f2, f3, hx⟩
       have hll : (fromS (stS g) k).length ≤ 432 := Nat.le_trans (fromS_len _ _) (stS_len HOK.out)
       have HFIN : Hid (∀ W, Fo w.heap.size W (.slice (some ⟨gg, 0, none⟩) n n) vs (fun j => if j = k then srtI (fromS (stS g) k) else if j < k then srtI (fromS (stS g) j) else fromS (stS g) j) → Below w.heap.size w W → ∃ vs, Fo w.heap.size W (.slice (some ⟨gg, 0, none⟩) n n) vs (fun j => if j < k + 1 then srtI (fromS (stS g) j) else fromS (stS g) j) ∧ vs.length = n ∧ Below w.heap.size w W) := fun W h1 h2 => ⟨vs, h1.re (fun j _ => by
        by_cases e1 : j = k
        ·subst e1
         rw [if_pos rfl, if_pos (Nat.lt_succ_self _)]
        ·rw [if_neg e1]
         by_cases e2 : j < k
         ·rw [if_pos e2, if_pos (by omega)]
         ·rw [if_neg e2, if_neg (by omega)]), HF.out.2.1, h2⟩
       obtain ⟨q, m, c2⟩ := x
       rcases own_at0 he with ⟨e0, eq, em⟩ | ⟨gk, eq, em⟩
       ·dsimp only at eq em
        subst eq
        subst em
        have hs := AnyM.slices_Sort_int_none Tryz.lSort none c2 wr
        change Calls Tryz.prog 119 _ _ _ at hs
        have FIN := hid (HFIN.out wr (HF.out.1.re (fun j _ => by
         by_cases e1 : j = k
         ·subst e1
          rw [if_pos rfl, if_neg (Nat.lt_irrefl _), e0]
          simp [srtI]
         ·rw [if_neg e1])) HF.out.2.2.1)
        clear HF HFIN f1 f2 f3 hx he HI
        go_wp2_with fail
        refine hs.mono ?_
        clear hs
        rintro r w87 ⟨rfl, hw⟩
        subst hw
        go_wp2_with fail
        go_roundw
        case rel => exact ⟨k + 1, by omega, by go_num, FIN.out⟩
        case measure => simp [RowKit.intOf]; omega
       ·dsimp only at eq em
        subst eq
        subst em
        have hs := AnyM.slices_Sort_int Tryz.lSort gk 0 c2 (fromS (stS g) k) wr (holds_own he).1 (holds_own he).2 (by omega)
        change Calls Tryz.prog 119 _ _ _ at hs
        have HE := hid he
        generalize hgl : (fromS (stS g) k).length = ll at hs hc hll
        have HGL := hid hgl
        clear f1 f2 f3 hx he HI hgl
        go_wp2_with fail
        refine hs.mono ?_
        clear hs
        rintro r w87 ⟨rfl, nn, os, hw⟩
        have FIN : Hid (∃ vs, Fo w.heap.size w87 (.slice (some ⟨gg, 0, none⟩) n n) vs (fun j => if j < k + 1 then srtI (fromS (stS g) j) else fromS (stS g) j) ∧ vs.length = n ∧ Below w.heap.size w w87) := by
         obtain ⟨h1, h2⟩ := sorted_own HE.out (w' := w87) (n := nn) (os := os) hw
         obtain ⟨h3, h4⟩ := HF.out.1.put HF.out.2.2.2 h2 h1
         exact HFIN.out w87 h3 (HF.out.2.2.1.trans (h4.below HF.out.2.2.1.size (fun j e => (owns_rd HE.out j e).1)))
        clear hw HF HFIN HE
        go_wp2_with fail
        go_roundw
        case rel => exact ⟨k + 1, by omega, by go_num, FIN.out⟩
        case measure => simp [RowKit.intOf]; omega
      ·have hlkz : ¬ (k : Int) < (n : Int) := by omega
       have FIN : Hid (Below w.heap.size w wr ∧ Ff wr.heap.size wr (.slice (some ⟨gg, 0, none⟩) n n) (stL g)) := by
        obtain ⟨vs, h1, h2, h3⟩ := HI.out
        refine ⟨h3, h1.ff (by rw [stL_len, h2, HN.out]) (fun j l hl => ?_)⟩
        have hj := (List.getElem?_eq_some_iff.1 hl).1
        rw [stL_len] at hj
        rw [stL_get hj] at hl
        rw [if_pos (by have := HN.out; omega)]
        exact (Option.some.inj hl).symm
       clear HI
       go_wp2_with fail
       go_ret
       exact ⟨_, rfl, FIN.out⟩
end Go.Proofs.YtdnnfgabdkkdjaaGreat.Df
