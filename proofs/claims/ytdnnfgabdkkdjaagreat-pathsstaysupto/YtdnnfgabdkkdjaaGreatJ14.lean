import Derived.Test.YtdnnfgabdkkdjaaGreatJ9
import Derived.Test.YtdnnfgabdkkdjaaGreatJ13
import Derived.BigQuiet
import Derived.Test.YtdnnfgabdkkdjaaGreatJ8
import Derived.Test.YtdnnfgabdkkdjaaGreatGTy
namespace Go.Proofs.YtdnnfgabdkkdjaaGreat.Lf
open Go.RowKit Go.Sort Pt
open Df (hid Con Gph Nod Edg Pth PthT plN stR nodR sE sC cIn cOut outPl inPl Gok connsAt connsN LV Gm gplaces_any graw_any gnodes_any gconns_any gout_any gin_any outN_pl inN_pl cIn_eq cOut_eq cIn_lt cOut_lt outPl_lt inPl_lt ED EC ecells ccells ls_atD ls_atC owns_form owns_caps owns_ne_own owns_ne_blk tk_store tk_lt gvc fldG2 hasON hasIN)
attribute [local go_sem ↓] Go.wp_at_zero Go.wp_at_succ
theorem infoFd : (Tryz.prog.info? 149).map (fun i => (i.zero, i.size, i.bytes)) = some (some (.agg #[.int .i64 0, .int .u64 0, .int .u64 0, .int .u64 0]), 4, 32) := by kernel_rfl
theorem infoFl : (Tryz.prog.info? 147).map (fun i => (i.zero, i.size, i.bytes)) = some (some (.slice none 0 0), 1, 24) := by kernel_rfl
theorem sfl_snoc (l : List Con) (c : Con) (fr k : Nat) (h : c.inn = (fr : Int)) : sfl (l ++ [c]) k = if k = fr then sfl l fr ++ [th c] else sfl l k := by
 rw [sfl_app, sfl_one]
 by_cases e : k = fr
 ·subst e
  rw [if_pos h, if_pos rfl]
 ·rw [if_neg e, if_neg (by rw [h]; omega), List.append_nil]
theorem enc_con (p : Nat) {v : Pth} (h : PthT v) : EF.enc ((p : Int), tri v) = [.int .i64 (p : Int), .int .u64 (v.1 : Nat), .int .u64 (v.2.1 : Nat), .int .u64 (v.2.2 : Nat)] := by
 obtain ⟨h1, h2, h3⟩ := tri_val h
 show [_, _, _, _] = _
 rw [h1, h2, h3]
def Sg (w : World) (n g : Nat) (l : List Con) (W : World) : Prop := ∃ vs, Fw EF 149 147 w.heap.size W (.slice (some ⟨g, 0, none⟩) n n) vs (sfl l) ∧ vs.length = n ∧ Below w.heap.size w W
theorem Sg.below {w W W' : World} {n g : Nat} {l : List Con} (h : Sg w n g l W) (hb : Below W.heap.size W W') : Sg w n g l W' := by
 obtain ⟨vs, h1, h2, h3⟩ := h
 exact ⟨vs, h1.below hb, h2, h3.trans (hb.mono h3.size)⟩
theorem Sg.cell {w W : World} {n g : Nat} {l : List Con} (h : Sg w n g l W) {k : Nat} (hk : k < n) : ∃ vs x, Fw EF 149 147 w.heap.size W (.slice (some ⟨g, 0, none⟩) n n) vs (sfl l) ∧ vs.length = n ∧ Below w.heap.size w W ∧ vs[k]? = some x ∧ W.cell? ⟨g, k, none⟩ = some x.v ∧ g < W.heap.size ∧ W.ownsRow w.heap.size 149 4 x.v (sfl l k).length (fl EF (sfl l k)) := by
 obtain ⟨vs, h1, h2, h3⟩ := h
 obtain ⟨x, a1, a2, a3, -, a5⟩ := h1.cell h2 hk
 exact ⟨vs, x, h1, h2, h3, a1, a2, a3, a5⟩
def StA (w : World) (g : Gph) (r : Ending) (w' : World) : Prop := ∃ gs vs, r = .returned (.slice (some ⟨gs, 0, none⟩) (plN g.nodes) (plN g.nodes)) ∧ Below w.heap.size w w' ∧ vs.length = plN g.nodes ∧ Fw EF 149 147 w.heap.size w' (.slice (some ⟨gs, 0, none⟩) (plN g.nodes) (plN g.nodes)) vs (sfl (stQ g))
set_option maxRecDepth 100000 in
set_option maxHeartbeats 8000000 in
theorem stepsOf_any {B gb : Nat} {g : Gph} (w : World) (h : Gm B w gb g) (hOK : Gok g) (hP : Gpt g) : Calls Tryz.prog 58 #[.pointer (some ⟨gb, 0, none⟩)] w (StA w g) := by
 have hmx : Tryz.prog.follows .mixedOrders = true := by kernel_rfl
 have HM : Hid (∀ W, Below w.heap.size w W → Gm B W gb g) := fun W hb => h.below hb
 have HOK := hid hOK
 have HPT := hid hP
 have hpl := Df.plN_le hOK
 have hp := gplaces_any w h
 obtain ⟨n, hn⟩ : ∃ n, n = plN g.nodes := ⟨_, rfl⟩
 rw [← hn] at hpl hp
 have HN := hid hn
 have hnl := hOK.nl
 have hel := hOK.el
 clear h hOK hn hP
 obtain ⟨i0, hi0, hz0, hz1, hz2⟩ := info_parts infoFl
 go_enter Tryz.func58, Tryz.ntmps58
 go_wp2_with fail
 refine hp.mono ?_
 clear hp
 rintro r w1 ⟨rfl, hw1⟩
 have hw2 := hw1.symm
 subst hw2
 clear hw1
 go_upto_region 2 with (at_make; refine wpList_make_full _ rfl _ _ 113 rfl w.heap.size 147 i0 (.slice none 0 0) 1 Tryz.underlying113 hi0 hz0 hz1 _ _ _ _ n rfl rfl rfl rfl (by rw [hz2]; omega) (by unfold maxLen; omega) (Nat.le_refl _) ?_; intro w2 hrow hg1)
 have hb2 : Below w.heap.size w w2 := (Kp.grownBy (S := fun _ => False) hg1 (fun _ h => by cases h)).below (Nat.le_refl _) (fun _ h => h.elim)
 have S2 : Hid (Sg w n w.heap.size [] w2) := ⟨_, (Fw.made EF 149 147 hrow).re (fun k _ => rfl), by simp, hb2⟩
 obtain ⟨gg, hgg⟩ : ∃ g, g = w.heap.size := ⟨_, rfl⟩
 rw [← hgg] at S2 ⊢
 have hraw := graw_any w2 (HM.out w2 hb2)
 clear hrow hg1 hi0 hz0 hz1 hz2 hb2
 have HGG := hid hgg
 clear hgg
 go_wp2_with fail
 refine hraw.mono ?_
 clear hraw
 rintro r w3 ⟨nv, ev, ys, HR⟩
 obtain ⟨rfl, hb3, hys, hcg⟩ := HR.out
 clear HR
 have S3 : Hid (Sg w n gg [] w3 ∧ w3.ownsRow w2.heap.size 94 5 ev g.edges.length (fl ED g.edges)) := ⟨S2.out.below hb3, hcg.edges⟩
 obtain ⟨qn, mn, cn, hq⟩ := owns_form hcg.nodes
 obtain ⟨qe, me, ce, hqe⟩ := owns_form hcg.edges
 subst hq
 subst hqe
 obtain ⟨rfl, hce⟩ := owns_caps hcg.edges _ _ _ rfl
 obtain ⟨es, hes⟩ : ∃ es, es = g.edges := ⟨_, rfl⟩
 rw [← hes] at S3 hel hce ⊢
 have HES := hid hes
 generalize hml : es.length = el at S3 hel hce ⊢
 have HEL := hid hml
 clear hcg hys hb3 S2 hes hml
 dsimp only [gvc]
 have fd := fldG2 (.int .i64 g.arity) (.slice qn mn cn) (.slice qe el ce)
 go_wp2_with fail
 go_loopw [18] (fun s20 wr => ∃ i : Nat, i ≤ el ∧ s20 = .int .i64 (i : Nat) ∧ Hid (Sg w n gg ((es.take i).map (sE g.nodes)) wr ∧ wr.ownsRow w2.heap.size 94 5 (.slice qe el ce) el (fl ED es))) (fun s20 _ => el - (RowKit.intOf s20).toNat)
 case atStart => exact ⟨0, Nat.zero_le _, rfl, S3.out⟩
 case round =>
  clear S3
  obtain ⟨i, hi, rfl, HI⟩ := hrel
  by_cases hlt : i < el
  ·have hltz : (i : Int) < (el : Int) := by omega
   have hi1 : (0 : Int) ≤ (i : Int) := by omega
   obtain ⟨y, hy⟩ : ∃ y, es[i]? = some y := ⟨es[i]'(by have := HEL.out; omega), by simp⟩
   have HY := hid hy
   have HEN : Hid (hasON g.nodes y.src y.out = true ∧ hasIN g.nodes y.dst y.inn = true) := HOK.out.ends (by rw [← HES.out]; exact hy)
   obtain ⟨b1, o1, q1, ev1, zz1, x0, x1, x2, x3, x4⟩ := ls_atD (owns_ls (E := ED) (owns_re HI.out.2 HEL.out.symm rfl)) hy
   simp only [Value.slice.injEq] at ev1
   obtain ⟨rfl, -, rfl⟩ := ev1
   clear hy
   obtain ⟨yb, hyb⟩ : ∃ b, b = wr.heap.size := ⟨_, rfl⟩
   obtain ⟨W5, hW5⟩ : ∃ W, W = wr.alloc (.cells (ecells y) 94) := ⟨_, rfl⟩
   have P5 : Hid (Sg w n gg ((es.take i).map (sE g.nodes)) W5 ∧ W5.ownsRow w2.heap.size 94 5 (.slice (some ⟨b1, o1, none⟩) el ce) el (fl ED es) ∧ W5.heap[yb]? = some (.cells (ecells y) 94 (0, 0))) := by
    have g5 := ((Gr.refl wr).alloc (.cells (ecells y) 94)).below
    rw [hW5, hyb]
    exact ⟨HI.out.1.below g5, owns_below HI.out.2 g5, heap_new' _ _⟩
   have HW5 : Hid (wr.alloc (.cells #[.int .i64 y.src, .int .i64 y.out, .int .i64 y.dst, .int .i64 y.inn, .bool y.keyed] 94) = W5 ∧ wr.heap.size = yb) := ⟨hW5.symm, hyb.symm⟩
   clear hW5 hyb HI
   go_upto_region 5 with fail
   rw [HW5.out.1, HW5.out.2]
   clear HW5 x0 x1 x2 x3 x4 zz1
   have hout := gout_any y.src y.out W5 (HM.out W5 (by obtain ⟨_, _, _, h⟩ := P5.out.1; exact h))
   rw [outN_pl HEN.out.1 HOK.out.pok] at hout
   obtain ⟨fr, hfr⟩ : ∃ k, k = outPl g.nodes y := ⟨_, rfl⟩
   rw [← hfr] at hout
   have hfn : fr < n := by rw [hfr, HN.out]; exact outPl_lt HEN.out.1
   have HCI : Hid ((sE g.nodes y).inn = (fr : Int)) := by rw [hfr]; exact rfl
   clear hfr
   have c5 := (tk_store P5.out.2.2).1
   have l5 := tk_lt P5.out.2.2
   go_wp2_with fail
   refine hout.mono ?_
   clear hout c5 l5
   rintro r W6 ⟨rfl, g6⟩
   go_upto_region 6 with fail
   obtain ⟨pl, hpl2⟩ : ∃ p, p = (es.take i).map (sE g.nodes) := ⟨_, rfl⟩
   obtain ⟨pi, hpi⟩ : ∃ k, k = inPl g.nodes y := ⟨_, rfl⟩
   have HEC : Hid (EF.enc (th (sE g.nodes y)) = [.int .i64 ((pi : Nat) : Int), .int .u64 0, .int .u64 0, .int .u64 0]) := by
    show EF.enc (((inPl g.nodes y : Nat) : Int), tri (0, 0, 0)) = _
    rw [← hpi, enc_con pi z_pth]
    rfl
   have hS := P5.out.1.below g6.below
   have HE6 := hid (owns_below P5.out.2.1 g6.below)
   have HD : Hid (W6.heap[yb]? = some (.cells (ecells y) 94 (0, 0))) := (g6.below.block _ (tk_lt P5.out.2.2)).trans P5.out.2.2
   have HNX : Hid (pl ++ [sE g.nodes y] = (es.take (i + 1)).map (sE g.nodes)) := by
    show _ = _
    rw [hpl2, List.take_add_one, HY.out]
    simp
   rw [← hpl2] at hS
   have hll := sfl_len pl fr
   have hpn : pl.length ≤ 48 := by
    rw [hpl2]
    simp only [List.length_map, List.length_take]
    omega
   obtain ⟨vs, ⟨xq, xm, xc⟩, f1, f2, f3, f4, f5, f6, f7⟩ := hS.cell hfn
   have HF : Hid (Fw EF 149 147 w.heap.size W6 (.slice (some ⟨gg, 0, none⟩) n n) vs (sfl pl) ∧ vs.length = n ∧ vs[fr]? = some ⟨xq, xm, xc⟩) := ⟨f1, f2, f4⟩
   have HBL := hid f3
   have HBW := hid f3.size
   have HC : Hid (W6.cell? ⟨gg, fr, none⟩ = some (.slice xq xm xc) ∧ gg < W6.heap.size ∧ fr = fr) := ⟨f5, f6, rfl⟩
   have HIN : Hid (∀ W, Below W6.heap.size W6 W → Calls Tryz.prog 84 #[.pointer (some ⟨gb, 0, none⟩), .int .i64 y.dst, .int .i64 y.inn] W fun r w' => r = .returned (.int .i64 ((pi : Nat) : Int)) ∧ Gr W w') := fun W hb => by
    have h := gin_any y.dst y.inn W (HM.out W (f3.trans (hb.mono f3.size)))
    rw [inN_pl HEN.out.2, ← hpi] at h
    exact h.mono (fun r w' hr => ⟨hr.1, by rw [hr.2]; exact Gr.refl _⟩)
   obtain ⟨LL, hLL⟩ : ∃ l, l = sfl pl fr := ⟨_, rfl⟩
   rw [← hLL] at f7 hll
   have HRW := hid f7
   have HLL := hid hLL
   have HLE : Hid (LL.length ≤ 48) := Nat.le_trans hll hpn
   have hf0 : (0 : Int) ≤ (fr : Int) := by omega
   have hfz : (fr : Int) < (n : Int) := by omega
   clear f1 f2 f3 f4 f5 f6 f7 hLL hll hpn hpl2 hpi hS g6 P5
   have hB0 : Below W6.heap.size W6 W6.drew := (Gr.refl W6).drew.below
   have HSB : Hid (∀ W, Below W6.heap.size W6 W → W.cell? ⟨gg, fr, none⟩ = some (.slice xq xm xc) ∧ gg < W.heap.size ∧ W.heap[yb]? = some (.cells (ecells y) 94 (0, 0))) := fun W hb => ⟨(hb.cell (p := ⟨gg, fr, none⟩) HC.out.2.1).trans HC.out.1, Nat.lt_of_lt_of_le HC.out.2.1 hb.size, (hb.block _ (tk_lt HD.out)).trans HD.out⟩
   have hS0 := HSB.out _ hB0
   refine wp_regionD (S := fun W => W.cell? ⟨gg, fr, none⟩ = some (.slice xq xm xc) ∧ gg < W.heap.size ∧ W.heap[yb]? = some (.cells (ecells y) 94 (0, 0))) (D := [16]) hmx ?_
   refine' wpAnyD_take (i := 0) (oi := ⟨some 28, .move (.tmp 3), 113, "least.go:56", #[], none⟩) (v := _) rfl (by kernel_rfl) (by kernel_rfl) (by kernel_rfl) (fun _ _ _ h => h) (by kernel_rfl) (Or.inl ⟨by rfl, ?hy1⟩) hS0 ?rest1
   case hy1 => (intro W hSw; go_simp; try (with_reducible rfl))
   try simp only [Act.put, List.setIfInBounds_toArray, List.set_cons_zero, List.set_cons_succ]
   refine' wpAnyD_take (i := 1) (oi := ⟨some 29, .move (.tmp 6), 3, "least.go:56", #[], none⟩) (v := _) rfl (by kernel_rfl) (by kernel_rfl) (by kernel_rfl) (fun _ _ _ h => h) (by kernel_rfl) (Or.inl ⟨by rfl, ?hy2⟩) hS0 ?rest2
   case hy2 => (intro W hSw; go_simp; try (with_reducible rfl))
   try simp only [Act.put, List.setIfInBounds_toArray, List.set_cons_zero, List.set_cons_succ]
   refine' wpAnyD_take (i := 2) (oi := ⟨some 30, .move (.tmp 3), 113, "least.go:56", #[], none⟩) (v := _) rfl (by kernel_rfl) (by kernel_rfl) (by kernel_rfl) (fun _ _ _ h => h) (by kernel_rfl) (Or.inl ⟨by rfl, ?hy3⟩) hS0 ?rest3
   case hy3 => (intro W hSw; go_simp; try (with_reducible rfl))
   try simp only [Act.put, List.setIfInBounds_toArray, List.set_cons_zero, List.set_cons_succ]
   refine' wpAnyD_take (i := 3) (oi := ⟨some 31, .move (.tmp 6), 3, "least.go:56", #[], none⟩) (v := _) rfl (by kernel_rfl) (by kernel_rfl) (by kernel_rfl) (fun _ _ _ h => h) (by kernel_rfl) (Or.inl ⟨by rfl, ?hy4⟩) hS0 ?rest4
   case hy4 => (intro W hSw; go_simp; try (with_reducible rfl))
   try simp only [Act.put, List.setIfInBounds_toArray, List.set_cons_zero, List.set_cons_succ]
   refine' wpAnyD_take (i := 4) (oi := ⟨some 32, .indexAddr 113 (.tmp 30) (.tmp 31), 0, "least.go:56", #[⟨2, .data⟩, ⟨3, .data⟩], none⟩) (v := _) rfl (by kernel_rfl) (by kernel_rfl) (by kernel_rfl) (fun _ _ _ h => h) (by kernel_rfl) (Or.inl ⟨by rfl, ?hy5⟩) hS0 ?rest5
   case hy5 => (intro W hSw; go_simp; try (with_reducible rfl))
   try simp only [Act.put, List.setIfInBounds_toArray, List.set_cons_zero, List.set_cons_succ]
   refine' wpAnyD_take (i := 5) (oi := ⟨some 33, .load 147 (.tmp 32), 147, "least.go:56", #[⟨4, .data⟩], none⟩) (v := _) rfl (by kernel_rfl) (by kernel_rfl) (by kernel_rfl) (fun _ _ _ h => h) (by kernel_rfl) (Or.inl ⟨by rfl, ?hy6⟩) hS0 ?rest6
   case hy6 => (intro W hSw; have hc := hSw.1; have hl := hSw.2.1; go_simp; try (with_reducible rfl))
   try simp only [Act.put, List.setIfInBounds_toArray, List.set_cons_zero, List.set_cons_succ]
   refine' wpAnyD_take (i := 6) (oi := ⟨some 34, .move (.tmp 0), 75, "least.go:56", #[], none⟩) (v := _) rfl (by kernel_rfl) (by kernel_rfl) (by kernel_rfl) (fun _ _ _ h => h) (by kernel_rfl) (Or.inl ⟨by rfl, ?hy7⟩) hS0 ?rest7
   case hy7 => (intro W hSw; go_simp; try (with_reducible rfl))
   try simp only [Act.put, List.setIfInBounds_toArray, List.set_cons_zero, List.set_cons_succ]
   refine' wpAnyD_take (i := 7) (oi := ⟨some 35, .fieldAddr 94 (.tmp 5) 2, 0, "least.go:56", #[], none⟩) (v := _) rfl (by kernel_rfl) (by kernel_rfl) (by kernel_rfl) (fun _ _ _ h => h) (by kernel_rfl) (Or.inl ⟨by rfl, ?hy8⟩) hS0 ?rest8
   case hy8 => (intro W hSw; go_simp; try (with_reducible rfl))
   try simp only [Act.put, List.setIfInBounds_toArray, List.set_cons_zero, List.set_cons_succ]
   refine' wpAnyD_take (i := 8) (oi := ⟨some 36, .load 3 (.tmp 35), 3, "least.go:56", #[⟨7, .data⟩], none⟩) (v := _) rfl (by kernel_rfl) (by kernel_rfl) (by kernel_rfl) (fun _ _ _ h => h) (by kernel_rfl) (Or.inl ⟨by rfl, ?hy9⟩) hS0 ?rest9
   case hy9 => (intro W hSw; have hc := (tk_store hSw.2.2).1; have hl := tk_lt hSw.2.2; go_simp; try (with_reducible rfl))
   try simp only [Act.put, List.setIfInBounds_toArray, List.set_cons_zero, List.set_cons_succ]
   refine' wpAnyD_take (i := 9) (oi := ⟨some 37, .fieldAddr 94 (.tmp 5) 3, 0, "least.go:56", #[], none⟩) (v := _) rfl (by kernel_rfl) (by kernel_rfl) (by kernel_rfl) (fun _ _ _ h => h) (by kernel_rfl) (Or.inl ⟨by rfl, ?hy10⟩) hS0 ?rest10
   case hy10 => (intro W hSw; go_simp; try (with_reducible rfl))
   try simp only [Act.put, List.setIfInBounds_toArray, List.set_cons_zero, List.set_cons_succ]
   refine' wpAnyD_take (i := 10) (oi := ⟨some 38, .load 3 (.tmp 37), 3, "least.go:56", #[⟨9, .data⟩], none⟩) (v := _) rfl (by kernel_rfl) (by kernel_rfl) (by kernel_rfl) (fun _ _ _ h => h) (by kernel_rfl) (Or.inl ⟨by rfl, ?hy11⟩) hS0 ?rest11
   case hy11 => (intro W hSw; have hc := (tk_store hSw.2.2).1; have hl := tk_lt hSw.2.2; go_simp; try (with_reducible rfl))
   try simp only [Act.put, List.setIfInBounds_toArray, List.set_cons_zero, List.set_cons_succ]
   refine wpAnyD_one (i := 11) (o := ⟨some 39, .call ⟨.value (.func 84), #[.tmp 34, .tmp 36, .tmp 38], #[75, 3, 3]⟩, 3, "least.go:56", #[⟨6, .data⟩, ⟨8, .data⟩, ⟨10, .data⟩], none⟩) (by kernel_rfl) rfl (fun K hK => ?_)
   go_simp
   refine (HIN.out _ hB0).mono ?_
   rintro r w7 ⟨rfl, g7⟩
   have hS7 : Below W6.heap.size W6 w7 := hB0.trans (g7.below.mono hB0.size)
   clear g7
   go_wp2_with fail
   refine hK.out _ _ (fun hD => (HSB.out _ hS7)) ?_
   clear hK K
   try simp only [Act.put, List.setIfInBounds_toArray, List.set_cons_zero, List.set_cons_succ]
   refine' wpAnyD_take (i := 12) (oi := ⟨some 40, .build 149 #[(0, .tmp 39)], 149, "least.go:56", #[⟨11, .data⟩], none⟩) (v := _) rfl (by kernel_rfl) (by kernel_rfl) (by kernel_rfl) (fun _ _ _ h => h) (by kernel_rfl) (Or.inl ⟨by rfl, ?hy13⟩) (HSB.out _ hS7) ?rest13
   case hy13 => (intro W hSw; go_simp; try (with_reducible rfl))
   try simp only [Act.put, List.setIfInBounds_toArray, List.set_cons_zero, List.set_cons_succ]
   refine wpAnyD_one (i := 13) (o := ⟨some 41, .buildSlice 147 1 #[(0, .tmp 40)], 147, "least.go:56", #[⟨12, .data⟩], none⟩) (by kernel_rfl) rfl (fun K hK => ?_)
   go_simp
   have hS8 : Below W6.heap.size W6 (w7.alloc (.cells #[.int .i64 ((pi : Nat) : Int), .int .u64 0, .int .u64 0, .int .u64 0] 149)) := hS7.trans (((Gr.refl w7).alloc _).below.mono hS7.size)
   refine hK.out _ _ (fun hD => (HSB.out _ hS8)) ?_
   clear hK K
   try simp only [Act.put, List.setIfInBounds_toArray, List.set_cons_zero, List.set_cons_succ]
   refine wpAnyD_one (i := 14) (o := ⟨some 42, .call ⟨.builtin .append, #[.tmp 33, .tmp 41], #[147, 147]⟩, 147, "least.go:56", #[⟨5, .data⟩, ⟨13, .data⟩, ⟨11, .chain⟩], none⟩) (by kernel_rfl) rfl (fun K hK => ?_)
   refine step_app1 EF Tryz.underlying147 infoFd rfl (by decide) rfl _ _ rfl w.heap.size (.slice xq xm xc) LL.length (fl EF LL) rfl (owns_below HRW.out hS7) (th (sE g.nodes y)) (by first | rfl | simp) (by have := HLE.out; omega) (by have := HLE.out; unfold maxLen; omega) (Nat.le_trans HBW.out hS7.size) #[.int .i64 ((pi : Nat) : Int), .int .u64 0, .int .u64 0, .int .u64 0] HEC.out.symm _ ?_
   intro g8 cap8 w8 h8 k8 n8
   have ST : Hid (Sg w n gg (pl ++ [(sE g.nodes y)]) (w8.setCell ⟨gg, fr, none⟩ (.slice (some ⟨g8, 0, none⟩) (LL.length + 1) cap8)) ∧ (w8.setCell ⟨gg, fr, none⟩ (.slice (some ⟨g8, 0, none⟩) (LL.length + 1) cap8)).ownsRow w2.heap.size 94 5 (.slice (some ⟨b1, o1, none⟩) el ce) el (fl ED es)) := by
    have hf := HF.out.1.below hS7
    rw [HLL.out] at h8 ⊢
    obtain ⟨h1, h2⟩ := hf.step (by decide) HF.out.2.2 (by rw [HF.out.2.1]) h8.out k8.out n8.out
    refine ⟨⟨_, h1.re (fun k _ => (sfl_snoc pl (sE g.nodes y) fr k HCI.out).symm), by rw [List.length_set]; exact HF.out.2.1, (HBL.out.trans (hS7.mono HBL.out.size)).trans (h2.below (Nat.le_trans HBL.out.size hS7.size) (hf.blocks HF.out.2.2))⟩, ?_⟩
    exact hf.other HF.out.2.2 h2 (owns_below HE6.out hS7) (by decide) (by decide)
   have hb8 := (Kp.grownBy (S := fun k => (Value.slice xq xm xc).ownBlock = some k) k8.out (fun _ h => h))
   have F8 : Hid (w8.frozen? ⟨gg, fr, none⟩ = false ∧ gg < w8.heap.size ∧ w8.cell? ⟨gg, fr, none⟩ = some (.slice xq xm xc) ∧ w8.heap[yb]? = some (.cells (ecells y) 94 (0, 0))) := by
    have hf := HF.out.1.below hS7
    have hne := owns_ne_own hf.row (hf.each fr _ HF.out.2.2) (by decide)
    have hr8 := owns_kp hb8 hf.row (fun j e e2 => hne j e e2)
    rw [HF.out.2.1] at hr8
    exact ⟨hr8.frozenAt _, Nat.lt_of_lt_of_le HC.out.2.1 (Nat.le_trans hS7.size hb8.size), (hb8.cell (Nat.lt_of_lt_of_le HC.out.2.1 hS7.size) (fun e => hne gg rfl e)).trans ((hS7.cell (p := ⟨gg, fr, none⟩) HC.out.2.1).trans HC.out.1), (hb8.block _ (Nat.lt_of_lt_of_le (tk_lt HD.out) hS7.size) (fun e => owns_ne_blk (owns_below HRW.out hS7) (HSB.out _ hS7).2.2 (by decide) yb e rfl)).trans (HSB.out _ hS7).2.2⟩
   clear h8 k8 n8 hb8
   generalize LL.length + 1 = ll at ST ⊢
   refine hK.out _ _ (fun hD => ⟨F8.out.2.2.1, F8.out.2.1, F8.out.2.2.2⟩) ?_
   clear hK K
   try simp only [Act.put, List.setIfInBounds_toArray, List.set_cons_zero, List.set_cons_succ]
   refine' wpAnyD_take (i := 15) (oi := ⟨some 43, .indexAddr 113 (.tmp 28) (.tmp 29), 0, "least.go:56", #[⟨0, .data⟩, ⟨1, .data⟩, ⟨0, .phase⟩, ⟨1, .phase⟩, ⟨2, .phase⟩, ⟨3, .phase⟩, ⟨4, .phase⟩, ⟨5, .phase⟩, ⟨6, .phase⟩, ⟨7, .phase⟩, ⟨8, .phase⟩, ⟨9, .phase⟩, ⟨10, .phase⟩, ⟨11, .phase⟩, ⟨12, .phase⟩, ⟨13, .phase⟩, ⟨14, .phase⟩], none⟩) (v := _) rfl (by kernel_rfl) (by kernel_rfl) (by kernel_rfl) (fun _ _ _ h => h) (by kernel_rfl) (Or.inl ⟨by rfl, ?hy16⟩) ⟨F8.out.2.2.1, F8.out.2.1, F8.out.2.2.2⟩ ?rest16
   case hy16 => (intro W hSw; go_simp; try (with_reducible rfl))
   try simp only [Act.put, List.setIfInBounds_toArray, List.set_cons_zero, List.set_cons_succ]
   refine wpAnyD_one (i := 16) (o := ⟨none, .store 147 (.tmp 43) (.tmp 42), 0, "least.go:56", #[⟨15, .data⟩, ⟨14, .data⟩, ⟨14, .chain⟩, ⟨0, .phase⟩, ⟨1, .phase⟩, ⟨2, .phase⟩, ⟨3, .phase⟩, ⟨4, .phase⟩, ⟨5, .phase⟩, ⟨6, .phase⟩, ⟨7, .phase⟩, ⟨8, .phase⟩, ⟨9, .phase⟩, ⟨10, .phase⟩, ⟨11, .phase⟩, ⟨12, .phase⟩, ⟨13, .phase⟩, ⟨14, .phase⟩], none⟩) (by kernel_rfl) rfl (fun K hK => ?_)
   have c8 := F8.out.2.2.1
   have f8 := F8.out.1
   have l8 := F8.out.2.1
   go_simp
   generalize (w8.setCell ⟨gg, fr, none⟩ (.slice (some ⟨g8, 0, none⟩) ll cap8)) = w9 at ST ⊢
   clear c8 f8 l8
   refine hK.out _ _ (fun hD => absurd (by decide) hD) ?_
   clear hK K
   try simp only [Act.put, List.setIfInBounds_toArray, List.set_cons_zero, List.set_cons_succ]
   refine wpAnyD_done (by kernel_rfl) ?_ _
   have FIN : Hid (Sg w n gg ((es.take (i + 1)).map (sE g.nodes)) w9 ∧ w9.ownsRow w2.heap.size 94 5 (.slice (some ⟨b1, o1, none⟩) el ce) el (fl ED es)) := by rw [← HNX.out]; exact ST.out
   clear ST HNX hS0 hS7 hB0 HSB
   go_upto_region 7 with fail
   go_wp2_with fail
   go_roundw
   case rel => exact ⟨i + 1, by omega, by go_num, FIN.out⟩
   case measure => simp [RowKit.intOf]; omega
  ·have hltz : ¬ (i : Int) < (el : Int) := by omega
   have S9 : Hid (Sg w n gg (es.map (sE g.nodes)) wr) := by
    have h := HI.out.1
    rw [List.take_of_length_le (by have := HEL.out; omega)] at h
    exact h
   have hnod := gnodes_any wr (HM.out wr (by obtain ⟨_, _, _, h⟩ := S9.out; exact h))
   obtain ⟨nl, hnl2⟩ : ∃ k, k = g.nodes.length := ⟨_, rfl⟩
   rw [← hnl2] at hnod hnl
   have HNL := hid hnl2
   clear HI hnl2
   go_wp2_with fail
   refine hnod.mono ?_
   clear hnod
   rintro r w10 ⟨rfl, hw10⟩
   subst hw10
   go_wp2_with fail
   go_loopw [47] (fun s48 wr => ∃ i : Nat, i ≤ nl ∧ s48 = .int .i64 (i : Nat) ∧ Hid (Sg w n gg (es.map (sE g.nodes) ++ nodR g.nodes i) wr)) (fun s48 _ => nl - (RowKit.intOf s48).toNat)
   case atStart => exact ⟨0, Nat.zero_le _, rfl, by have h := S9.out; show Sg _ _ _ _ _; simpa [nodR] using h⟩
   case round =>
    clear S9
    obtain ⟨j, hj, rfl, HI⟩ := hrel
    by_cases hlj : j < nl
    ·have hljz : (j : Int) < (nl : Int) := by omega
     have hj1 : (0 : Int) ≤ (j : Int) := by omega
     have hcon := gconns_any (j : Int) wr (HM.out wr (by obtain ⟨_, _, _, h⟩ := HI.out; exact h))
     obtain ⟨cs, hcs⟩ : ∃ l, l = connsAt g.nodes (j : Int) := ⟨_, rfl⟩
     rw [← hcs] at hcon
     have hcl : cs.length ≤ 16 := by rw [hcs]; exact HOK.out.conLen j
     have HCS := hid hcs
     clear hcs
     go_wp2_with fail
     refine hcon.mono ?_
     clear hcon
     rintro r w11 ⟨dv, rfl, hb11, hcr⟩
     obtain ⟨qc, mc, cc, hqc⟩ := owns_form hcr
     subst hqc
     obtain ⟨rfl, hcc⟩ := owns_caps hcr _ _ _ rfl
     have hB1 : ∃ b, b = wr.heap.size := ⟨_, rfl⟩
     obtain ⟨B1, hB1⟩ := hB1
     rw [← hB1] at hcr
     have S11 : Hid (Sg w n gg (es.map (sE g.nodes) ++ nodR g.nodes j) w11 ∧ w11.ownsRow B1 92 5 (.slice qc cs.length cc) cs.length (fl EC cs)) := ⟨HI.out.below hb11, hcr⟩
     generalize hml : cs.length = cl at S11 hcl hcc ⊢
     have HCL := hid hml
     clear hb11 hcr HI hml hB1
     go_wp2_with fail
     go_loopw [54] (fun s55 wr => ∃ k : Nat, k ≤ cl ∧ s55 = .int .i64 (k : Nat) ∧ Hid (Sg w n gg (es.map (sE g.nodes) ++ nodR g.nodes j ++ (cs.take k).map (sC g.nodes j)) wr ∧ wr.ownsRow B1 92 5 (.slice qc cl cc) cl (fl EC cs))) (fun s55 _ => cl - (RowKit.intOf s55).toNat)
     case atStart => exact ⟨0, Nat.zero_le _, rfl, by have h := S11.out; show Sg _ _ _ _ _ ∧ _; simpa using h⟩
     case round =>
      clear S11
      obtain ⟨k, hk, rfl, HI⟩ := hrel
      by_cases hlk : k < cl
      ·have hlkz : (k : Int) < (cl : Int) := by omega
       have hk1 : (0 : Int) ≤ (k : Int) := by omega
       obtain ⟨y, hy⟩ : ∃ y, cs[k]? = some y := ⟨cs[k]'(by have := HCL.out; omega), by simp⟩
       have HY := hid hy
       have hmy : y ∈ connsAt g.nodes (j : Int) := by rw [← HCS.out]; exact List.mem_of_getElem? hy
       have HEN : Hid (hasIN g.nodes (j : Int) y.inn = true ∧ hasON g.nodes (j : Int) y.out = true) := HOK.out.con hmy
       have HPV : Hid (PthT y.via) := HPT.out.con hmy
       obtain ⟨b1, o1, q1, ev1, zz1, x0, x1, x2, x3, x4⟩ := ls_atC (owns_ls (E := EC) (owns_re HI.out.2 HCL.out.symm rfl)) hy
       simp only [Value.slice.injEq] at ev1
       obtain ⟨rfl, -, rfl⟩ := ev1
       clear hy hmy
       obtain ⟨yb, hyb⟩ : ∃ b, b = wr.heap.size := ⟨_, rfl⟩
       obtain ⟨W5, hW5⟩ : ∃ W, W = wr.alloc (.cells (ccells y) 92) := ⟨_, rfl⟩
       have P5 : Hid (Sg w n gg (es.map (sE g.nodes) ++ nodR g.nodes j ++ (cs.take k).map (sC g.nodes j)) W5 ∧ W5.ownsRow B1 92 5 (.slice (some ⟨b1, o1, none⟩) cl cc) cl (fl EC cs) ∧ W5.heap[yb]? = some (.cells (ccells y) 92 (0, 0))) := by
        have g5 := ((Gr.refl wr).alloc (.cells (ccells y) 92)).below
        rw [hW5, hyb]
        exact ⟨HI.out.1.below g5, owns_below HI.out.2 g5, heap_new' _ _⟩
       have HW5 : Hid (wr.alloc (.cells #[.int .i64 y.inn, .int .i64 y.out, .int .u64 (y.via.1 : Nat), .int .u64 (y.via.2.1 : Nat), .int .u64 (y.via.2.2 : Nat)] 92) = W5 ∧ wr.heap.size = yb) := ⟨hW5.symm, hyb.symm⟩
       clear hW5 hyb HI
       go_upto_region 14 with fail
       rw [HW5.out.1, HW5.out.2]
       clear HW5 x0 x1 x2 x3 x4 zz1
       have c5 := (tk_store P5.out.2.2).1
       have l5 := tk_lt P5.out.2.2
       have hin := gin_any (j : Int) y.inn W5 (HM.out W5 (by obtain ⟨_, _, _, h⟩ := P5.out.1; exact h))
       rw [cIn_eq HEN.out.1] at hin
       obtain ⟨fr, hfr⟩ : ∃ k, k = cIn g.nodes j y := ⟨_, rfl⟩
       rw [← hfr] at hin
       have hfn : fr < n := by rw [hfr, HN.out]; exact cIn_lt HEN.out.1
       have HCI : Hid ((sC g.nodes j y).inn = (fr : Int)) := by rw [hfr]; exact rfl
       clear hfr
       go_wp2_with fail
       refine hin.mono ?_
       clear hin c5 l5
       rintro r W6 ⟨rfl, hW6⟩
       subst hW6
       go_upto_region 15 with fail
       obtain ⟨pl, hpl2⟩ : ∃ p, p = es.map (sE g.nodes) ++ nodR g.nodes j ++ (cs.take k).map (sC g.nodes j) := ⟨_, rfl⟩
       obtain ⟨pi, hpi⟩ : ∃ k, k = cOut g.nodes j y := ⟨_, rfl⟩
       have HEC : Hid (EF.enc (th (sC g.nodes j y)) = [.int .i64 ((pi : Nat) : Int), .int .u64 (y.via.1 : Nat), .int .u64 (y.via.2.1 : Nat), .int .u64 (y.via.2.2 : Nat)]) := by
        show EF.enc (((cOut g.nodes j y : Nat) : Int), tri y.via) = _
        rw [← hpi, enc_con pi HPV.out]
       have hS := P5.out.1
       have HE6 := hid P5.out.2.1
       have HD := hid P5.out.2.2
       have HNX : Hid (pl ++ [sC g.nodes j y] = es.map (sE g.nodes) ++ nodR g.nodes j ++ (cs.take (k + 1)).map (sC g.nodes j)) := by
        show _ = _
        rw [hpl2, List.take_add_one, HY.out]
        simp
       rw [← hpl2] at hS
       have hll := sfl_len pl fr
       have hpn : pl.length ≤ 500 := by
        have h1 := Df.nodR_len HOK.out j
        have h2 : ((cs.take k).map (sC g.nodes j)).length ≤ k := by
         rw [List.length_map, List.length_take]
         omega
        rw [hpl2, List.length_append, List.length_append, List.length_map]
        have := HEL.out
        omega
       obtain ⟨vs, ⟨xq, xm, xc⟩, f1, f2, f3, f4, f5, f6, f7⟩ := hS.cell hfn
       have HF : Hid (Fw EF 149 147 w.heap.size W6 (.slice (some ⟨gg, 0, none⟩) n n) vs (sfl pl) ∧ vs.length = n ∧ vs[fr]? = some ⟨xq, xm, xc⟩) := ⟨f1, f2, f4⟩
       have HBL := hid f3
       have HBW := hid f3.size
       have HC : Hid (W6.cell? ⟨gg, fr, none⟩ = some (.slice xq xm xc) ∧ gg < W6.heap.size ∧ fr = fr) := ⟨f5, f6, rfl⟩
       have HIN : Hid (∀ W, Below W6.heap.size W6 W → Calls Tryz.prog 83 #[.pointer (some ⟨gb, 0, none⟩), .int .i64 (j : Int), .int .i64 y.out] W fun r w' => r = .returned (.int .i64 ((pi : Nat) : Int)) ∧ Gr W w') := fun W hb => by
        have h := gout_any (j : Int) y.out W (HM.out W (f3.trans (hb.mono f3.size)))
        rw [cOut_eq HOK.out.pok HEN.out.2, ← hpi] at h
        exact h
       obtain ⟨LL, hLL⟩ : ∃ l, l = sfl pl fr := ⟨_, rfl⟩
       rw [← hLL] at f7 hll
       have HRW := hid f7
       have HLL := hid hLL
       have HLE : Hid (LL.length ≤ 500) := Nat.le_trans hll hpn
       have hf0 : (0 : Int) ≤ (fr : Int) := by omega
       have hfz : (fr : Int) < (n : Int) := by omega
       clear f1 f2 f3 f4 f5 f6 f7 hLL hll hpn hpl2 hpi hS P5
       have hB0 : Below W6.heap.size W6 W6.drew := (Gr.refl W6).drew.below
       have HSB : Hid (∀ W, Below W6.heap.size W6 W → W.cell? ⟨gg, fr, none⟩ = some (.slice xq xm xc) ∧ gg < W.heap.size ∧ W.heap[yb]? = some (.cells (ccells y) 92 (0, 0))) := fun W hb => ⟨(hb.cell (p := ⟨gg, fr, none⟩) HC.out.2.1).trans HC.out.1, Nat.lt_of_lt_of_le HC.out.2.1 hb.size, (hb.block _ (tk_lt HD.out)).trans HD.out⟩
       have hS0 := HSB.out _ hB0
       refine wp_regionD (S := fun W => W.cell? ⟨gg, fr, none⟩ = some (.slice xq xm xc) ∧ gg < W.heap.size ∧ W.heap[yb]? = some (.cells (ccells y) 92 (0, 0))) (D := [17]) hmx ?_
       refine' wpAnyD_take (i := 0) (oi := ⟨some 63, .move (.tmp 3), 113, "least.go:61", #[], none⟩) (v := _) rfl (by kernel_rfl) (by kernel_rfl) (by kernel_rfl) (fun _ _ _ h => h) (by kernel_rfl) (Or.inl ⟨by rfl, ?hy18⟩) hS0 ?rest18
       case hy18 => (intro W hSw; go_simp; try (with_reducible rfl))
       try simp only [Act.put, List.setIfInBounds_toArray, List.set_cons_zero, List.set_cons_succ]
       refine' wpAnyD_take (i := 1) (oi := ⟨some 64, .move (.tmp 10), 3, "least.go:61", #[], none⟩) (v := _) rfl (by kernel_rfl) (by kernel_rfl) (by kernel_rfl) (fun _ _ _ h => h) (by kernel_rfl) (Or.inl ⟨by rfl, ?hy19⟩) hS0 ?rest19
       case hy19 => (intro W hSw; go_simp; try (with_reducible rfl))
       try simp only [Act.put, List.setIfInBounds_toArray, List.set_cons_zero, List.set_cons_succ]
       refine' wpAnyD_take (i := 2) (oi := ⟨some 65, .move (.tmp 3), 113, "least.go:61", #[], none⟩) (v := _) rfl (by kernel_rfl) (by kernel_rfl) (by kernel_rfl) (fun _ _ _ h => h) (by kernel_rfl) (Or.inl ⟨by rfl, ?hy20⟩) hS0 ?rest20
       case hy20 => (intro W hSw; go_simp; try (with_reducible rfl))
       try simp only [Act.put, List.setIfInBounds_toArray, List.set_cons_zero, List.set_cons_succ]
       refine' wpAnyD_take (i := 3) (oi := ⟨some 66, .move (.tmp 10), 3, "least.go:61", #[], none⟩) (v := _) rfl (by kernel_rfl) (by kernel_rfl) (by kernel_rfl) (fun _ _ _ h => h) (by kernel_rfl) (Or.inl ⟨by rfl, ?hy21⟩) hS0 ?rest21
       case hy21 => (intro W hSw; go_simp; try (with_reducible rfl))
       try simp only [Act.put, List.setIfInBounds_toArray, List.set_cons_zero, List.set_cons_succ]
       refine' wpAnyD_take (i := 4) (oi := ⟨some 67, .indexAddr 113 (.tmp 65) (.tmp 66), 0, "least.go:61", #[⟨2, .data⟩, ⟨3, .data⟩], none⟩) (v := _) rfl (by kernel_rfl) (by kernel_rfl) (by kernel_rfl) (fun _ _ _ h => h) (by kernel_rfl) (Or.inl ⟨by rfl, ?hy22⟩) hS0 ?rest22
       case hy22 => (intro W hSw; go_simp; try (with_reducible rfl))
       try simp only [Act.put, List.setIfInBounds_toArray, List.set_cons_zero, List.set_cons_succ]
       refine' wpAnyD_take (i := 5) (oi := ⟨some 68, .load 147 (.tmp 67), 147, "least.go:61", #[⟨4, .data⟩], none⟩) (v := _) rfl (by kernel_rfl) (by kernel_rfl) (by kernel_rfl) (fun _ _ _ h => h) (by kernel_rfl) (Or.inl ⟨by rfl, ?hy23⟩) hS0 ?rest23
       case hy23 => (intro W hSw; have hc := hSw.1; have hl := hSw.2.1; go_simp; try (with_reducible rfl))
       try simp only [Act.put, List.setIfInBounds_toArray, List.set_cons_zero, List.set_cons_succ]
       refine' wpAnyD_take (i := 6) (oi := ⟨some 69, .move (.tmp 0), 75, "least.go:61", #[], none⟩) (v := _) rfl (by kernel_rfl) (by kernel_rfl) (by kernel_rfl) (fun _ _ _ h => h) (by kernel_rfl) (Or.inl ⟨by rfl, ?hy24⟩) hS0 ?rest24
       case hy24 => (intro W hSw; go_simp; try (with_reducible rfl))
       try simp only [Act.put, List.setIfInBounds_toArray, List.set_cons_zero, List.set_cons_succ]
       refine' wpAnyD_take (i := 7) (oi := ⟨some 70, .move (.tmp 7), 3, "least.go:61", #[], none⟩) (v := _) rfl (by kernel_rfl) (by kernel_rfl) (by kernel_rfl) (fun _ _ _ h => h) (by kernel_rfl) (Or.inl ⟨by rfl, ?hy25⟩) hS0 ?rest25
       case hy25 => (intro W hSw; go_simp; try (with_reducible rfl))
       try simp only [Act.put, List.setIfInBounds_toArray, List.set_cons_zero, List.set_cons_succ]
       refine' wpAnyD_take (i := 8) (oi := ⟨some 71, .fieldAddr 92 (.tmp 9) 1, 0, "least.go:61", #[], none⟩) (v := _) rfl (by kernel_rfl) (by kernel_rfl) (by kernel_rfl) (fun _ _ _ h => h) (by kernel_rfl) (Or.inl ⟨by rfl, ?hy26⟩) hS0 ?rest26
       case hy26 => (intro W hSw; go_simp; try (with_reducible rfl))
       try simp only [Act.put, List.setIfInBounds_toArray, List.set_cons_zero, List.set_cons_succ]
       refine' wpAnyD_take (i := 9) (oi := ⟨some 72, .load 3 (.tmp 71), 3, "least.go:61", #[⟨8, .data⟩], none⟩) (v := _) rfl (by kernel_rfl) (by kernel_rfl) (by kernel_rfl) (fun _ _ _ h => h) (by kernel_rfl) (Or.inl ⟨by rfl, ?hy27⟩) hS0 ?rest27
       case hy27 => (intro W hSw; have hc := (tk_store hSw.2.2).1; have hl := tk_lt hSw.2.2; go_simp; try (with_reducible rfl))
       try simp only [Act.put, List.setIfInBounds_toArray, List.set_cons_zero, List.set_cons_succ]
       refine' wpAnyD_take (i := 11) (oi := ⟨some 74, .fieldAddr 92 (.tmp 9) 2, 0, "least.go:61", #[], none⟩) (v := _) rfl (by kernel_rfl) (by kernel_rfl) (by kernel_rfl) (fun _ _ _ h => h) (by kernel_rfl) (Or.inl ⟨by rfl, ?hy28⟩) hS0 ?rest28
       case hy28 => (intro W hSw; go_simp; try (with_reducible rfl))
       try simp only [Act.put, List.setIfInBounds_toArray, List.set_cons_zero, List.set_cons_succ]
       refine' wpAnyD_take (i := 12) (oi := ⟨some 75, .load 39 (.tmp 74), 39, "least.go:61", #[⟨11, .data⟩], none⟩) (v := _) rfl (by kernel_rfl) (by kernel_rfl) (by kernel_rfl) (fun _ _ _ h => h) (by kernel_rfl) (Or.inl ⟨by rfl, ?hy29⟩) hS0 ?rest29
       case hy29 => (intro W hSw; have hc := (tk_store hSw.2.2).1; have hl := tk_lt hSw.2.2; go_simp; try (with_reducible rfl))
       try simp only [Act.put, List.setIfInBounds_toArray, List.set_cons_zero, List.set_cons_succ]
       refine wpAnyD_one (i := 10) (o := ⟨some 73, .call ⟨.value (.func 83), #[.tmp 69, .tmp 70, .tmp 72], #[75, 3, 3]⟩, 3, "least.go:61", #[⟨6, .data⟩, ⟨7, .data⟩, ⟨9, .data⟩], none⟩) (by kernel_rfl) rfl (fun K hK => ?_)
       go_simp
       refine (HIN.out _ hB0).mono ?_
       rintro r w7 ⟨rfl, g7⟩
       have hS7 : Below W6.heap.size W6 w7 := hB0.trans (g7.below.mono hB0.size)
       clear g7
       go_wp2_with fail
       refine hK.out _ _ (fun hD => (HSB.out _ hS7)) ?_
       clear hK K
       try simp only [Act.put, List.setIfInBounds_toArray, List.set_cons_zero, List.set_cons_succ]
       refine' wpAnyD_take (i := 13) (oi := ⟨some 76, .build 149 #[(0, .tmp 73), (1, .tmp 75)], 149, "least.go:61", #[⟨10, .data⟩, ⟨12, .data⟩], none⟩) (v := _) rfl (by kernel_rfl) (by kernel_rfl) (by kernel_rfl) (fun _ _ _ h => h) (by kernel_rfl) (Or.inl ⟨by rfl, ?hy31⟩) (HSB.out _ hS7) ?rest31
       case hy31 => (intro W hSw; go_simp; try (with_reducible rfl))
       try simp only [Act.put, List.setIfInBounds_toArray, List.set_cons_zero, List.set_cons_succ]
       refine wpAnyD_one (i := 14) (o := ⟨some 77, .buildSlice 147 1 #[(0, .tmp 76)], 147, "least.go:61", #[⟨13, .data⟩], none⟩) (by kernel_rfl) rfl (fun K hK => ?_)
       go_simp
       have hS8 : Below W6.heap.size W6 (w7.alloc (.cells #[.int .i64 ((pi : Nat) : Int), .int .u64 (y.via.1 : Nat), .int .u64 (y.via.2.1 : Nat), .int .u64 (y.via.2.2 : Nat)] 149)) := hS7.trans (((Gr.refl w7).alloc _).below.mono hS7.size)
       refine hK.out _ _ (fun hD => (HSB.out _ hS8)) ?_
       clear hK K
       try simp only [Act.put, List.setIfInBounds_toArray, List.set_cons_zero, List.set_cons_succ]
       refine wpAnyD_one (i := 15) (o := ⟨some 78, .call ⟨.builtin .append, #[.tmp 68, .tmp 77], #[147, 147]⟩, 147, "least.go:61", #[⟨5, .data⟩, ⟨14, .data⟩, ⟨10, .chain⟩], none⟩) (by kernel_rfl) rfl (fun K hK => ?_)
       refine step_app1 EF Tryz.underlying147 infoFd rfl (by decide) rfl _ _ rfl w.heap.size (.slice xq xm xc) LL.length (fl EF LL) rfl (owns_below HRW.out hS7) (th (sC g.nodes j y)) (by first | rfl | simp) (by have := HLE.out; omega) (by have := HLE.out; unfold maxLen; omega) (Nat.le_trans HBW.out hS7.size) #[.int .i64 ((pi : Nat) : Int), .int .u64 (y.via.1 : Nat), .int .u64 (y.via.2.1 : Nat), .int .u64 (y.via.2.2 : Nat)] HEC.out.symm _ ?_
       intro g8 cap8 w8 h8 k8 n8
       have ST : Hid (Sg w n gg (pl ++ [(sC g.nodes j y)]) (w8.setCell ⟨gg, fr, none⟩ (.slice (some ⟨g8, 0, none⟩) (LL.length + 1) cap8)) ∧ (w8.setCell ⟨gg, fr, none⟩ (.slice (some ⟨g8, 0, none⟩) (LL.length + 1) cap8)).ownsRow B1 92 5 (.slice (some ⟨b1, o1, none⟩) cl cc) cl (fl EC cs)) := by
        have hf := HF.out.1.below hS7
        rw [HLL.out] at h8 ⊢
        obtain ⟨h1, h2⟩ := hf.step (by decide) HF.out.2.2 (by rw [HF.out.2.1]) h8.out k8.out n8.out
        refine ⟨⟨_, h1.re (fun k _ => (sfl_snoc pl (sC g.nodes j y) fr k HCI.out).symm), by rw [List.length_set]; exact HF.out.2.1, (HBL.out.trans (hS7.mono HBL.out.size)).trans (h2.below (Nat.le_trans HBL.out.size hS7.size) (hf.blocks HF.out.2.2))⟩, ?_⟩
        exact hf.other HF.out.2.2 h2 (owns_below HE6.out hS7) (by decide) (by decide)
       have hb8 := (Kp.grownBy (S := fun k => (Value.slice xq xm xc).ownBlock = some k) k8.out (fun _ h => h))
       have F8 : Hid (w8.frozen? ⟨gg, fr, none⟩ = false ∧ gg < w8.heap.size ∧ w8.cell? ⟨gg, fr, none⟩ = some (.slice xq xm xc) ∧ w8.heap[yb]? = some (.cells (ccells y) 92 (0, 0))) := by
        have hf := HF.out.1.below hS7
        have hne := owns_ne_own hf.row (hf.each fr _ HF.out.2.2) (by decide)
        have hr8 := owns_kp hb8 hf.row (fun j e e2 => hne j e e2)
        rw [HF.out.2.1] at hr8
        exact ⟨hr8.frozenAt _, Nat.lt_of_lt_of_le HC.out.2.1 (Nat.le_trans hS7.size hb8.size), (hb8.cell (Nat.lt_of_lt_of_le HC.out.2.1 hS7.size) (fun e => hne gg rfl e)).trans ((hS7.cell (p := ⟨gg, fr, none⟩) HC.out.2.1).trans HC.out.1), (hb8.block _ (Nat.lt_of_lt_of_le (tk_lt HD.out) hS7.size) (fun e => owns_ne_blk (owns_below HRW.out hS7) (HSB.out _ hS7).2.2 (by decide) yb e rfl)).trans (HSB.out _ hS7).2.2⟩
       clear h8 k8 n8 hb8
       generalize LL.length + 1 = ll at ST ⊢
       refine hK.out _ _ (fun hD => ⟨F8.out.2.2.1, F8.out.2.1, F8.out.2.2.2⟩) ?_
       clear hK K
       try simp only [Act.put, List.setIfInBounds_toArray, List.set_cons_zero, List.set_cons_succ]
       refine' wpAnyD_take (i := 16) (oi := ⟨some 79, .indexAddr 113 (.tmp 63) (.tmp 64), 0, "least.go:61", #[⟨0, .data⟩, ⟨1, .data⟩, ⟨0, .phase⟩, ⟨1, .phase⟩, ⟨2, .phase⟩, ⟨3, .phase⟩, ⟨4, .phase⟩, ⟨5, .phase⟩, ⟨6, .phase⟩, ⟨7, .phase⟩, ⟨8, .phase⟩, ⟨9, .phase⟩, ⟨10, .phase⟩, ⟨11, .phase⟩, ⟨12, .phase⟩, ⟨13, .phase⟩, ⟨14, .phase⟩, ⟨15, .phase⟩], none⟩) (v := _) rfl (by kernel_rfl) (by kernel_rfl) (by kernel_rfl) (fun _ _ _ h => h) (by kernel_rfl) (Or.inl ⟨by rfl, ?hy34⟩) ⟨F8.out.2.2.1, F8.out.2.1, F8.out.2.2.2⟩ ?rest34
       case hy34 => (intro W hSw; go_simp; try (with_reducible rfl))
       try simp only [Act.put, List.setIfInBounds_toArray, List.set_cons_zero, List.set_cons_succ]
       refine wpAnyD_one (i := 17) (o := ⟨none, .store 147 (.tmp 79) (.tmp 78), 0, "least.go:61", #[⟨16, .data⟩, ⟨15, .data⟩, ⟨15, .chain⟩, ⟨0, .phase⟩, ⟨1, .phase⟩, ⟨2, .phase⟩, ⟨3, .phase⟩, ⟨4, .phase⟩, ⟨5, .phase⟩, ⟨6, .phase⟩, ⟨7, .phase⟩, ⟨8, .phase⟩, ⟨9, .phase⟩, ⟨10, .phase⟩, ⟨11, .phase⟩, ⟨12, .phase⟩, ⟨13, .phase⟩, ⟨14, .phase⟩, ⟨15, .phase⟩], none⟩) (by kernel_rfl) rfl (fun K hK => ?_)
       have c8 := F8.out.2.2.1
       have f8 := F8.out.1
       have l8 := F8.out.2.1
       go_simp
       generalize (w8.setCell ⟨gg, fr, none⟩ (.slice (some ⟨g8, 0, none⟩) ll cap8)) = w9 at ST ⊢
       clear c8 f8 l8
       refine hK.out _ _ (fun hD => absurd (by decide) hD) ?_
       clear hK K
       try simp only [Act.put, List.setIfInBounds_toArray, List.set_cons_zero, List.set_cons_succ]
       refine wpAnyD_done (by kernel_rfl) ?_ _
       have FIN : Hid (Sg w n gg (es.map (sE g.nodes) ++ nodR g.nodes j ++ (cs.take (k + 1)).map (sC g.nodes j)) w9 ∧ w9.ownsRow B1 92 5 (.slice (some ⟨b1, o1, none⟩) cl cc) cl (fl EC cs)) := by rw [← HNX.out]; exact ST.out
       clear ST HNX hS0 hS7 hB0 HSB
       go_upto_region 16 with fail
       go_wp2_with fail
       go_roundw
       case rel => exact ⟨k + 1, by omega, by go_num, FIN.out⟩
       case measure => simp [RowKit.intOf]; omega
      ·have hlkz : ¬ (k : Int) < (cl : Int) := by omega
       have S19 : Hid (Sg w n gg (es.map (sE g.nodes) ++ nodR g.nodes (j + 1)) wr) := by
        have h := HI.out.1
        rw [List.take_of_length_le (by have := HCL.out; omega), List.append_assoc] at h
        have e : nodR g.nodes (j + 1) = nodR g.nodes j ++ cs.map (sC g.nodes j) := by rw [HCS.out]; rfl
        rw [e]
        exact h
       clear HI
       go_wp2_with fail
       go_roundw
       case rel => exact ⟨j + 1, by omega, by go_num, S19.out⟩
       case measure => simp [RowKit.intOf]; omega
    ·have hljz : ¬ (j : Int) < (nl : Int) := by omega
     have hjn : j = nl := by omega
     subst hjn
     have S20 : Hid (Sg w n gg (stQ g) wr) := by
      have h := HI.out
      rw [HNL.out, HES.out] at h
      exact h
     clear HI
     go_wp2
     go_ret
     obtain ⟨vs, h1, h2, h3⟩ := S20.out
     have e := HN.out
     subst e
     exact ⟨gg, vs, rfl, h3, h2, h1⟩
end Go.Proofs.YtdnnfgabdkkdjaaGreat.Lf

namespace Go.Proofs.YtdnnfgabdkkdjaaGreat.Lf
open Go.RowKit Go.Sort Pt
attribute [local go_sem ↓] Go.wp_at_zero Go.wp_at_succ
set_option maxHeartbeats 1000000 in
theorem r5ahead_any (a b : Tri) (w : World) : Calls Tryz.prog 20 #[Pc.tv a, Pc.tv b] w fun e w' => e = .returned (.bool (Pc.bel a b)) ∧ Gr w w' := by
 by_cases h1 : a.1.1 ≤ b.1.1
 ·by_cases h2 : a.1.2.1 ≤ b.1.2.1
  ·by_cases h3 : a.1.2.2 ≤ b.1.2.2
   ·rw [show Pc.bel a b = true by simp [Pc.bel, tle, *]]
    go_enter Tryz.func20, Tryz.ntmps20
    go_wp2
    go_ret
    exact ⟨rfl, ((Gr.refl _).alloc _).alloc _⟩
   ·rw [show Pc.bel a b = false by simp [Pc.bel, tle, *]]
    go_enter Tryz.func20, Tryz.ntmps20
    go_wp2
    go_ret
    exact ⟨rfl, ((Gr.refl _).alloc _).alloc _⟩
  ·rw [show Pc.bel a b = false by simp [Pc.bel, tle, *]]
   go_enter Tryz.func20, Tryz.ntmps20
   go_wp2
   go_ret
   exact ⟨rfl, ((Gr.refl _).alloc _).alloc _⟩
 ·rw [show Pc.bel a b = false by simp [Pc.bel, tle, *]]
  go_enter Tryz.func20, Tryz.ntmps20
  go_wp2
  go_ret
  exact ⟨rfl, ((Gr.refl _).alloc _).alloc _⟩
set_option maxHeartbeats 1000000 in
theorem r5told_any (a b : Tri) (w : World) : Calls Tryz.prog 42 #[Pc.tv a, Pc.tv b] w fun e w' => e = .returned (.bool (Pc.tol a b)) ∧ Gr w w' := by
 by_cases h1 : a.1.1 = b.1.1
 ·have g1 : (a.1.1 != b.1.1) = false := by simp [h1]
  by_cases h2 : a.1.2.1 = b.1.2.1
  ·have g2 : (a.1.2.1 != b.1.2.1) = false := by simp [h2]
   by_cases h3 : a.1.2.2 < b.1.2.2
   ·rw [show Pc.tol a b = true by first | (rw [Pc.tol_iff]; omega) | (rw [Pc.tol_not]; omega)]
    go_enter Tryz.func42, Tryz.ntmps42
    go_wp2
    go_ret
    exact ⟨rfl, ((Gr.refl _).alloc _).alloc _⟩
   ·rw [show Pc.tol a b = false by first | (rw [Pc.tol_iff]; omega) | (rw [Pc.tol_not]; omega)]
    go_enter Tryz.func42, Tryz.ntmps42
    go_wp2
    go_ret
    exact ⟨rfl, ((Gr.refl _).alloc _).alloc _⟩
  ·have g2 : (a.1.2.1 != b.1.2.1) = true := by simp [h2]
   by_cases h3 : a.1.2.1 < b.1.2.1
   ·rw [show Pc.tol a b = true by first | (rw [Pc.tol_iff]; omega) | (rw [Pc.tol_not]; omega)]
    go_enter Tryz.func42, Tryz.ntmps42
    go_wp2
    go_ret
    exact ⟨rfl, ((Gr.refl _).alloc _).alloc _⟩
   ·rw [show Pc.tol a b = false by first | (rw [Pc.tol_iff]; omega) | (rw [Pc.tol_not]; omega)]
    go_enter Tryz.func42, Tryz.ntmps42
    go_wp2
    go_ret
    exact ⟨rfl, ((Gr.refl _).alloc _).alloc _⟩
 ·have g1 : (a.1.1 != b.1.1) = true := by simp [h1]
  by_cases h3 : a.1.1 < b.1.1
  ·rw [show Pc.tol a b = true by first | (rw [Pc.tol_iff]; omega) | (rw [Pc.tol_not]; omega)]
   go_enter Tryz.func42, Tryz.ntmps42
   go_wp2
   go_ret
   exact ⟨rfl, ((Gr.refl _).alloc _).alloc _⟩
  ·rw [show Pc.tol a b = false by first | (rw [Pc.tol_iff]; omega) | (rw [Pc.tol_not]; omega)]
   go_enter Tryz.func42, Tryz.ntmps42
   go_wp2
   go_ret
   exact ⟨rfl, ((Gr.refl _).alloc _).alloc _⟩
theorem rtimeC_any (x y z : Int) (w : World) : Calls Tryz.prog 41 #[.agg #[.int .u64 x, .int .u64 y, .int .u64 z]] w fun e w' => e = .returned (.agg #[.int .u64 x, .int .u64 y, .int .u64 z]) ∧ Gr w w' := by
 go_enter Tryz.func41, Tryz.ntmps41
 go_wp2
 refine bodyPost_ret (v := .agg #[.int .u64 x, .int .u64 y, .int .u64 z]) (by simp [results, Tryz.results41, go_sem]) rfl ⟨rfl, ?_⟩
 exact ((Gr.refl _).alloc _).alloc _
theorem rtime_any (a : Tri) (w : World) : Calls Tryz.prog 41 #[Pc.tv a] w fun e w' => e = .returned (Pc.tv a) ∧ Gr w w' := by
 exact rtimeC_any _ _ _ w
set_option maxHeartbeats 1000000 in
theorem rahead_any (a b : Tri) (w : World) : Calls Tryz.prog 15 #[Pc.tv a, Pc.tv b] w fun e w' => e = .returned (.bool (Pc.bel a b)) ∧ Gr w w' := by
 have hm : Tryz.prog.follows .mixedOrders = true := by kernel_rfl
 have ha := fun W => r5ahead_any a b W
 generalize Pc.bel a b = r at ha ⊢
 obtain ⟨W1, hW1⟩ : ∃ W1, W1 = (w.alloc (.cells #[.int .u64 a.1.1, .int .u64 a.1.2.1, .int .u64 a.1.2.2] 39)).alloc (.cells #[.int .u64 b.1.1, .int .u64 b.1.2.1, .int .u64 b.1.2.2] 39) := ⟨_, rfl⟩
 obtain ⟨nb, hnb⟩ : ∃ nb, nb = w.heap.size := ⟨_, rfl⟩
 have G1 : Gr w W1 := by rw [hW1]; exact ((Gr.refl _).alloc _).alloc _
 have hz : nb + 1 < W1.heap.size := by rw [hW1, hnb]; simp
 have k1 := cell_grown (w := W1) (a := ⟨nb, 0, none⟩) (v := .int .u64 a.1.1) (by show nb < _; omega) (by rw [hW1, hnb]; simp)
 have k2 := cell_grown (w := W1) (a := ⟨nb, 1, none⟩) (v := .int .u64 a.1.2.1) (by show nb < _; omega) (by rw [hW1, hnb]; simp)
 have k3 := cell_grown (w := W1) (a := ⟨nb, 2, none⟩) (v := .int .u64 a.1.2.2) (by show nb < _; omega) (by rw [hW1, hnb]; simp)
 have k4 := cell_grown (w := W1) (a := ⟨nb + 1, 0, none⟩) (v := .int .u64 b.1.1) hz (by rw [hW1, hnb]; simp)
 have k5 := cell_grown (w := W1) (a := ⟨nb + 1, 1, none⟩) (v := .int .u64 b.1.2.1) hz (by rw [hW1, hnb]; simp)
 have k6 := cell_grown (w := W1) (a := ⟨nb + 1, 2, none⟩) (v := .int .u64 b.1.2.2) hz (by rw [hW1, hnb]; simp)
 go_enter Tryz.func15, Tryz.ntmps15
 go_wp2_with fail
 rw [← hW1, ← hnb]
 clear hW1 hnb
 go_quiet_grown (first | (go_at_call 41; refine Calls.grown_of (rtimeC_any _ _ _ _)) | (go_at_call 20; refine Calls.grown_of (v := .bool r) (ha _)))
 go_wp2
 go_ret
 exact ⟨rfl, (G1.drewN _).grown _⟩
set_option maxHeartbeats 1000000 in
theorem rtold_any (a b : Tri) (w : World) : Calls Tryz.prog 16 #[Pc.tv a, Pc.tv b] w fun e w' => e = .returned (.bool (Pc.tol a b)) ∧ Gr w w' := by
 have hm : Tryz.prog.follows .mixedOrders = true := by kernel_rfl
 have ha := fun W => r5told_any a b W
 generalize Pc.tol a b = r at ha ⊢
 obtain ⟨W1, hW1⟩ : ∃ W1, W1 = (w.alloc (.cells #[.int .u64 a.1.1, .int .u64 a.1.2.1, .int .u64 a.1.2.2] 39)).alloc (.cells #[.int .u64 b.1.1, .int .u64 b.1.2.1, .int .u64 b.1.2.2] 39) := ⟨_, rfl⟩
 obtain ⟨nb, hnb⟩ : ∃ nb, nb = w.heap.size := ⟨_, rfl⟩
 have G1 : Gr w W1 := by rw [hW1]; exact ((Gr.refl _).alloc _).alloc _
 have hz : nb + 1 < W1.heap.size := by rw [hW1, hnb]; simp
 have k1 := cell_grown (w := W1) (a := ⟨nb, 0, none⟩) (v := .int .u64 a.1.1) (by show nb < _; omega) (by rw [hW1, hnb]; simp)
 have k2 := cell_grown (w := W1) (a := ⟨nb, 1, none⟩) (v := .int .u64 a.1.2.1) (by show nb < _; omega) (by rw [hW1, hnb]; simp)
 have k3 := cell_grown (w := W1) (a := ⟨nb, 2, none⟩) (v := .int .u64 a.1.2.2) (by show nb < _; omega) (by rw [hW1, hnb]; simp)
 have k4 := cell_grown (w := W1) (a := ⟨nb + 1, 0, none⟩) (v := .int .u64 b.1.1) hz (by rw [hW1, hnb]; simp)
 have k5 := cell_grown (w := W1) (a := ⟨nb + 1, 1, none⟩) (v := .int .u64 b.1.2.1) hz (by rw [hW1, hnb]; simp)
 have k6 := cell_grown (w := W1) (a := ⟨nb + 1, 2, none⟩) (v := .int .u64 b.1.2.2) hz (by rw [hW1, hnb]; simp)
 go_enter Tryz.func16, Tryz.ntmps16
 go_wp2_with fail
 rw [← hW1, ← hnb]
 clear hW1 hnb
 go_quiet_grown (first | (go_at_call 41; refine Calls.grown_of (rtimeC_any _ _ _ _)) | (go_at_call 42; refine Calls.grown_of (v := .bool r) (ha _)))
 go_wp2
 go_ret
 exact ⟨rfl, (G1.drewN _).grown _⟩
theorem wrap_two {x y : Int} (hx : 0 ≤ x ∧ x < 18446744073709551616) (hy : 0 ≤ y ∧ y < 18446744073709551616) : (x + y < 18446744073709551616 ∧ IntKind.u64.wrap (x + y) = x + y ∧ ¬ IntKind.u64.wrap (x + y) < x) ∨ (¬ x + y < 18446744073709551616 ∧ IntKind.u64.wrap (x + y) < x) := by
 rw [IntKind.wrap_u64]
 omega
set_option maxHeartbeats 2000000 in
theorem rthen_any (a b : Tri) (w : World) : Calls Tryz.prog 14 #[Pc.tv a, Pc.tv b] w fun e w' => e = .returned (.tuple #[Pc.tv (thv a b), .bool (thn3 a b).isSome]) ∧ Gr w w' := by
 have h1 := wrap_two (tri_bd a).1 (tri_bd b).1
 have h2 := wrap_two (tri_bd a).2.1 (tri_bd b).2.1
 have h3 := wrap_two (tri_bd a).2.2 (tri_bd b).2.2
 obtain ⟨s1, e1⟩ : ∃ s, IntKind.u64.wrap (a.1.1 + b.1.1) = s := ⟨_, rfl⟩
 obtain ⟨s2, e2⟩ : ∃ s, IntKind.u64.wrap (a.1.2.1 + b.1.2.1) = s := ⟨_, rfl⟩
 obtain ⟨s3, e3⟩ : ∃ s, IntKind.u64.wrap (a.1.2.2 + b.1.2.2) = s := ⟨_, rfl⟩
 rw [e1] at h1
 rw [e2] at h2
 rw [e3] at h3
 have bad : ¬ (a.1.1 + b.1.1 < 18446744073709551616 ∧ a.1.2.1 + b.1.2.1 < 18446744073709551616 ∧ a.1.2.2 + b.1.2.2 < 18446744073709551616) → thn3 a b = none ∧ Pc.tv (thv a b) = .agg #[.int .u64 0, .int .u64 0, .int .u64 0] := fun h => by
  have h0 := thn3_no h
  refine ⟨h0, ?_⟩
  unfold thv
  rw [h0]
  rfl
 rcases h1 with ⟨o1, q1, c1⟩ | ⟨o1, c1⟩
 ·rcases h2 with ⟨o2, q2, c2⟩ | ⟨o2, c2⟩
  ·rcases h3 with ⟨o3, q3, c3⟩ | ⟨o3, c3⟩
   ·obtain ⟨c, hc⟩ := thn3_of ⟨o1, o2, o3⟩
    have hs := thn3_some hc
    have HV : Hid (Pc.tv (thv a b) = .agg #[.int .u64 s1, .int .u64 s2, .int .u64 s3] ∧ (thn3 a b).isSome = true) := by
     rw [thv_some hc, hc]
     unfold Pc.tv
     rw [hs.1, hs.2.1, hs.2.2, q1, q2, q3]
     exact ⟨rfl, rfl⟩
    rw [HV.out.1, HV.out.2]
    clear bad hs hc q1 q2 q3 o1 o2 o3 HV
    go_enter Tryz.func14, Tryz.ntmps14
    go_wp2
    refine bodyPost_ret (v := .tuple #[.agg #[.int .u64 s1, .int .u64 s2, .int .u64 s3], .bool true]) (by simp [results, Tryz.results14, go_sem, *]) rfl ⟨rfl, ?_⟩
    exact ((((Gr.refl _).alloc _).alloc _).alloc _).alloc _
   ·obtain ⟨b1, b2⟩ := bad (by omega)
    rw [b1, b2]
    clear bad b1 b2 q1 q2 o1 o2 o3
    go_enter Tryz.func14, Tryz.ntmps14
    go_wp2
    refine bodyPost_ret (v := .tuple #[.agg #[.int .u64 0, .int .u64 0, .int .u64 0], .bool false]) (by simp [results, Tryz.results14, go_sem, *]) rfl ⟨rfl, ?_⟩
    exact ((((Gr.refl _).alloc _).alloc _).alloc _).alloc _
  ·obtain ⟨b1, b2⟩ := bad (by omega)
   rw [b1, b2]
   clear bad b1 b2 q1 o1 o2 h3
   go_enter Tryz.func14, Tryz.ntmps14
   go_wp2
   refine bodyPost_ret (v := .tuple #[.agg #[.int .u64 0, .int .u64 0, .int .u64 0], .bool false]) (by simp [results, Tryz.results14, go_sem, *]) rfl ⟨rfl, ?_⟩
   exact ((((Gr.refl _).alloc _).alloc _).alloc _).alloc _
 ·obtain ⟨b1, b2⟩ := bad (by omega)
  rw [b1, b2]
  clear bad b1 b2 o1 h2 h3
  go_enter Tryz.func14, Tryz.ntmps14
  go_wp2
  refine bodyPost_ret (v := .tuple #[.agg #[.int .u64 0, .int .u64 0, .int .u64 0], .bool false]) (by simp [results, Tryz.results14, go_sem, *]) rfl ⟨rfl, ?_⟩
  exact ((((Gr.refl _).alloc _).alloc _).alloc _).alloc _
set_option maxHeartbeats 1000000 in
set_option maxRecDepth 100000 in
theorem rcov_any (v : Value) (l : List Tri) (x : Tri) (w : World) (hv : Pc.Lst w v l) (hl : l.length ≤ 9223372036854775807) :
    Calls Tryz.prog 102 #[v, Pc.tv x] w fun e w' => e = .returned (.bool (ccov Pc.bel l x)) ∧ Gr w w' := by
 have hmx : Tryz.prog.follows .mixedOrders = true := by kernel_rfl
 obtain ⟨pl, cl, rfl⟩ := hv.form
 obtain ⟨W1, hW1⟩ : ∃ W1, W1 = w.alloc (.cells #[.int .u64 x.1.1, .int .u64 x.1.2.1, .int .u64 x.1.2.2] 39) := ⟨_, rfl⟩
 obtain ⟨B0, hB0⟩ : ∃ B0, B0 = w.heap.size := ⟨_, rfl⟩
 have G1 : Gr w W1 := by rw [hW1]; exact (Gr.refl _).alloc _
 have HG : Hid (Gr w W1) := G1
 have HL : Hid (Pc.Lst W1 (.slice pl l.length cl) l) := hv.below G1.below
 have hblk : W1.heap[B0]? = some (.cells #[.int .u64 x.1.1, .int .u64 x.1.2.1, .int .u64 x.1.2.2] 39 (0, 0)) := by rw [hW1, hB0]; exact heap_new' _ _
 have hB : B0 < W1.heap.size := (Array.getElem?_eq_some_iff.1 hblk).1
 have q0 : W1.cell? ⟨B0, 0, none⟩ = some (.int .u64 x.1.1) := by simp only [World.cell?]; rw [hblk]; rfl
 have q1 : W1.cell? ⟨B0, 1, none⟩ = some (.int .u64 x.1.2.1) := by simp only [World.cell?]; rw [hblk]; rfl
 have q2 : W1.cell? ⟨B0, 2, none⟩ = some (.int .u64 x.1.2.2) := by simp only [World.cell?]; rw [hblk]; rfl
 clear hblk hv G1
 go_enter Tryz.func102, Tryz.ntmps102
 go_wp2_with fail
 rw [← hW1, ← hB0]
 clear hW1 hB0
 go_loopw [5] (fun s5 wr => ∃ k : Nat, k ≤ l.length ∧ s5 = .int .i64 k ∧ Gr W1 wr ∧ Hid (∀ y ∈ l.take k, Pc.bel y x = false)) (fun s5 _ => l.length - (RowKit.intOf s5).toNat)
 case atStart => exact ⟨0, Nat.zero_le _, rfl, Gr.refl _, by simp [Hid]⟩
 case round =>
  obtain ⟨k, hk, rfl, hgr, A⟩ := hrel
  by_cases hlt : k < l.length
  ·have hltz : (k : Int) < (l.length : Int) := by omega
   obtain ⟨y, hy⟩ : ∃ y, l[k]? = some y := ⟨l[k], by simp⟩
   obtain ⟨b1, o1, c1, e1, z1, x1, x2, x3⟩ := (HL.out.below hgr.below).atP hy
   simp only [Value.slice.injEq] at e1
   obtain ⟨rfl, -, rfl⟩ := e1
   have HY : Hid (l[k]? = some y) := hy
   have S0 : (wr.drew.cell? ⟨b1, o1 + k * 3, none⟩ = some (.int .u64 y.1.1) ∧ wr.drew.cell? ⟨b1, o1 + k * 3 + 1, none⟩ = some (.int .u64 y.1.2.1) ∧ wr.drew.cell? ⟨b1, o1 + k * 3 + 2, none⟩ = some (.int .u64 y.1.2.2) ∧ wr.drew.cell? ⟨B0, 0, none⟩ = some (.int .u64 x.1.1) ∧ wr.drew.cell? ⟨B0, 1, none⟩ = some (.int .u64 x.1.2.1) ∧ wr.drew.cell? ⟨B0, 2, none⟩ = some (.int .u64 x.1.2.2) ∧ b1 < wr.drew.heap.size ∧ B0 < wr.drew.heap.size) := ⟨x1, x2, x3, (hgr.cell hB).trans q0, (hgr.cell hB).trans q1, (hgr.cell hB).trans q2, z1, Nat.lt_of_lt_of_le hB hgr.size⟩
   have keepG : ∀ W W' : World, (W.cell? ⟨b1, o1 + k * 3, none⟩ = some (.int .u64 y.1.1) ∧ W.cell? ⟨b1, o1 + k * 3 + 1, none⟩ = some (.int .u64 y.1.2.1) ∧ W.cell? ⟨b1, o1 + k * 3 + 2, none⟩ = some (.int .u64 y.1.2.2) ∧ W.cell? ⟨B0, 0, none⟩ = some (.int .u64 x.1.1) ∧ W.cell? ⟨B0, 1, none⟩ = some (.int .u64 x.1.2.1) ∧ W.cell? ⟨B0, 2, none⟩ = some (.int .u64 x.1.2.2) ∧ b1 < W.heap.size ∧ B0 < W.heap.size) → Gr W W' → (W'.cell? ⟨b1, o1 + k * 3, none⟩ = some (.int .u64 y.1.1) ∧ W'.cell? ⟨b1, o1 + k * 3 + 1, none⟩ = some (.int .u64 y.1.2.1) ∧ W'.cell? ⟨b1, o1 + k * 3 + 2, none⟩ = some (.int .u64 y.1.2.2) ∧ W'.cell? ⟨B0, 0, none⟩ = some (.int .u64 x.1.1) ∧ W'.cell? ⟨B0, 1, none⟩ = some (.int .u64 x.1.2.1) ∧ W'.cell? ⟨B0, 2, none⟩ = some (.int .u64 x.1.2.2) ∧ b1 < W'.heap.size ∧ B0 < W'.heap.size) := fun W W' h hg =>
    ⟨(hg.cell h.2.2.2.2.2.2.1).trans h.1, (hg.cell h.2.2.2.2.2.2.1).trans h.2.1, (hg.cell h.2.2.2.2.2.2.1).trans h.2.2.1, (hg.cell h.2.2.2.2.2.2.2).trans h.2.2.2.1, (hg.cell h.2.2.2.2.2.2.2).trans h.2.2.2.2.1, (hg.cell h.2.2.2.2.2.2.2).trans h.2.2.2.2.2.1, Nat.lt_of_lt_of_le h.2.2.2.2.2.2.1 hg.size, Nat.lt_of_lt_of_le h.2.2.2.2.2.2.2 hg.size⟩
   have hcm := fun W => rahead_any y x W
   have HGR : Hid (Gr W1 wr.drew) := hgr.drew
   clear hy hgr x1 x2 x3
   cases hq : Pc.bel y x with
   | true =>
    rw [hq] at hcm
    go_wp2_with fail
    go_region_held3 (fun w' => w'.cell? ⟨b1, o1 + k * 3, none⟩ = some (.int .u64 y.1.1) ∧ w'.cell? ⟨b1, o1 + k * 3 + 1, none⟩ = some (.int .u64 y.1.2.1) ∧ w'.cell? ⟨b1, o1 + k * 3 + 2, none⟩ = some (.int .u64 y.1.2.2) ∧ w'.cell? ⟨B0, 0, none⟩ = some (.int .u64 x.1.1) ∧ w'.cell? ⟨B0, 1, none⟩ = some (.int .u64 x.1.2.1) ∧ w'.cell? ⟨B0, 2, none⟩ = some (.int .u64 x.1.2.2) ∧ b1 < w'.heap.size ∧ B0 < w'.heap.size)
     (first | exact S0 | exact keepG _ _ (by assumption) (by assumption))
     (first | (go_at_call 15; refine (hcm _).mono ?_; rintro e w5 ⟨rfl, hg5⟩))
    go_wp2
    go_ret
    refine ⟨?_, HG.out.trans (HGR.out.trans hg5)⟩
    rw [ccov_true.2 ⟨y, List.mem_of_getElem? HY.out, hq⟩]
    rfl
   | false =>
    rw [hq] at hcm
    go_wp2_with fail
    go_region_held3 (fun w' => w'.cell? ⟨b1, o1 + k * 3, none⟩ = some (.int .u64 y.1.1) ∧ w'.cell? ⟨b1, o1 + k * 3 + 1, none⟩ = some (.int .u64 y.1.2.1) ∧ w'.cell? ⟨b1, o1 + k * 3 + 2, none⟩ = some (.int .u64 y.1.2.2) ∧ w'.cell? ⟨B0, 0, none⟩ = some (.int .u64 x.1.1) ∧ w'.cell? ⟨B0, 1, none⟩ = some (.int .u64 x.1.2.1) ∧ w'.cell? ⟨B0, 2, none⟩ = some (.int .u64 x.1.2.2) ∧ b1 < w'.heap.size ∧ B0 < w'.heap.size)
     (first | exact S0 | exact keepG _ _ (by assumption) (by assumption))
     (first | (go_at_call 15; refine (hcm _).mono ?_; rintro e w5 ⟨rfl, hg5⟩))
    go_wp2
    go_roundw
    case rel =>
     refine ⟨k + 1, by omega, by go_num, HGR.out.trans hg5, fun z hz => ?_⟩
     rw [List.take_add_one, HY.out] at hz
     rcases List.mem_append.1 hz with h | h
     ·exact A.out z h
     ·simp at h; subst h; exact hq
    case measure => simp [RowKit.intOf]; omega
  ·have hltz : ¬ (k : Int) < (l.length : Int) := by omega
   have hkl : k = l.length := by omega
   subst hkl
   rw [List.take_length] at A
   go_wp2
   go_ret
   refine ⟨?_, HG.out.trans hgr⟩
   rw [ccov_false.2 A.out]
   rfl
end Go.Proofs.YtdnnfgabdkkdjaaGreat.Lf

namespace Go.Proofs.YtdnnfgabdkkdjaaGreat.Lf
open Go.RowKit Go.Sort Pt
attribute [local go_sem ↓] Go.wp_at_zero Go.wp_at_succ
theorem infoWy : (Tryz.prog.info? 162).map (fun i => (i.zero, i.size, i.bytes)) = some (some (.agg #[.int .i64 0, .int .u64 0, .int .u64 0, .int .u64 0]), 4, 32) := by kernel_rfl
set_option maxHeartbeats 2000000 in
set_option maxRecDepth 100000 in
theorem rfirst_any {B : Nat} {v : Value} {ts : List Hf.Th} (w : World) (hv : w.ownsRow B 162 4 v ts.length (fl EF ts)) (h0 : ts ≠ []) (hl : ts.length * 32 ≤ 140737488355328) :
    Calls Tryz.prog 101 #[v] w fun e w' => ∃ k t v', ts[k]? = some t ∧ (∀ y ∈ ts, ¬ PX.tld y.2 t.2) ∧ e = .returned (.tuple #[.agg #[.int .i64 t.1, .int .u64 t.2.1.1, .int .u64 t.2.1.2.1, .int .u64 t.2.1.2.2], v']) ∧ w'.ownsRow w.heap.size 162 4 v' (ts.length - 1) (fl EF (ts.take k ++ ts.drop (k + 1))) ∧ Below w.heap.size w w' := by
 have hmx : Tryz.prog.follows .mixedOrders = true := by kernel_rfl
 have hp0 : 0 < ts.length := List.length_pos_iff.2 h0
 obtain ⟨b, c, rfl, hcl, hcm⟩ : ∃ b c, v = .slice (some ⟨b, 0, none⟩) ts.length c ∧ ts.length ≤ c ∧ c ≤ maxLen := by
  rcases hv.2 with ⟨hv, h1⟩ | ⟨g, cap, cur, hv, hg, hh, h1, h2, _⟩
  ·exact absurd h1 (by omega)
  ·exact ⟨g, cap, hv, h1, h2⟩
 unfold maxLen at hcm
 obtain ⟨rb, hrb⟩ : ∃ r, r = w.heap.size := ⟨_, rfl⟩
 obtain ⟨W0, hW0⟩ : ∃ W, W = w.alloc (.cells #[.int .i64 0, .int .u64 0, .int .u64 0, .int .u64 0] 162) := ⟨_, rfl⟩
 have P0 : Hid (Gr w W0 ∧ W0.heap[rb]? = some (.cells #[.int .i64 0, .int .u64 0, .int .u64 0, .int .u64 0] 162 (0, 0)) ∧ Ls EF W0 (.slice (some ⟨b, 0, none⟩) ts.length c) ts ∧ rb = w.heap.size) := by
  rw [hW0, hrb]
  exact ⟨(Gr.refl w).alloc _, heap_new' _ _, (owns_ls (E := EF) hv).below ((Gr.refl w).alloc _).below, rfl⟩
 have HW0 : Hid (w.alloc (.cells #[.int .i64 0, .int .u64 0, .int .u64 0, .int .u64 0] 162) = W0 ∧ w.heap.size = rb) := ⟨hW0.symm, hrb.symm⟩
 clear hv h0 hW0 hrb
 go_enter Tryz.func101, Tryz.ntmps101
 go_upto_region 1 with fail
 rw [HW0.out.1, HW0.out.2]
 clear HW0
 go_wp2_with fail
 go_loopw [4, 5] (fun s4 s5 wr => ∃ i a : Nat, i ≤ ts.length ∧ a < ts.length ∧ s4 = .int .i64 a ∧ s5 = .int .i64 i ∧ Hid (Gr W0 wr ∧ ∀ t, ts[a]? = some t → ∀ j y, j < i → ts[j]? = some y → ¬ PX.tld y.2 t.2)) (fun _ s5 _ => ts.length - (RowKit.intOf s5).toNat)
 case atStart => exact ⟨0, 0, Nat.zero_le _, hp0, rfl, rfl, Gr.refl _, fun _ _ j _ hj => absurd hj (Nat.not_lt_zero _)⟩
 case round =>
  obtain ⟨i, a, hi, ha, rfl, rfl, HI⟩ := hrel
  have haz : (a : Int) < (ts.length : Int) := by omega
  have ha0 : (0 : Int) ≤ (a : Int) := by omega
  obtain ⟨x, hx⟩ : ∃ x, ts[a]? = some x := ⟨ts[a], by simp⟩
  have HX := Hf.hid hx
  obtain ⟨b1, o1, c1, hv1, hb1, u0, u1, u2, u3⟩ := EF_at (P0.out.2.2.1.below HI.out.1.below) hx
  simp only [Value.slice.injEq, Option.some.injEq, Addr.mk.injEq, and_true] at hv1
  obtain ⟨⟨rfl, rfl⟩, -⟩ := hv1
  rw [Nat.zero_add] at u0 u1 u2 u3
  clear hx
  by_cases hlt : i < ts.length
  ·have hltz : (i : Int) < (ts.length : Int) := by omega
   have hi0 : (0 : Int) ≤ (i : Int) := by omega
   obtain ⟨y, hy⟩ : ∃ y, ts[i]? = some y := ⟨ts[i], by simp⟩
   have HY := Hf.hid hy
   obtain ⟨b1, o1, c1, hv1, hb1, t0, t1, t2, t3⟩ := EF_at (P0.out.2.2.1.below HI.out.1.below) hy
   simp only [Value.slice.injEq, Option.some.injEq, Addr.mk.injEq, and_true] at hv1
   obtain ⟨⟨rfl, rfl⟩, -⟩ := hv1
   rw [Nat.zero_add] at t0 t1 t2 t3
   have g1 := cell_grown (a := ⟨b, i * 4 + 1, none⟩) hb1 t1
   have g2 := cell_grown (a := ⟨b, i * 4 + 2, none⟩) hb1 t2
   have g3 := cell_grown (a := ⟨b, i * 4 + 3, none⟩) hb1 t3
   have g4 := cell_grown (a := ⟨b, a * 4 + 1, none⟩) hb1 u1
   have g5 := cell_grown (a := ⟨b, a * 4 + 2, none⟩) hb1 u2
   have g6 := cell_grown (a := ⟨b, a * 4 + 3, none⟩) hb1 u3
   have hto := fun W => rtold_any y.2 x.2 W
   clear hy t0 t1 t2 t3 u0 u1 u2 u3
   cases hq : Pc.tol y.2 x.2 with
   | true =>
    rw [hq] at hto
    go_wp2_with fail
    go_quiet_grown (first | (go_at_call 16; refine Calls.grown_of (hto _)))
    have G9 : Hid (Gr W0 (grow (wr.drewN nq) osq)) := (HI.out.1.drewN nq).grown osq
    clear g1 g2 g3 g4 g5 g6 hto
    go_wp2
    go_roundw
    case rel =>
     refine ⟨i + 1, i, by omega, hlt, rfl, by go_num, G9.out, fun t ht j z hj hz => ?_⟩
     rw [HY.out] at ht
     cases ht
     have hyx := (Pc.tol_px _ _).1 hq
     by_cases e : j = i
     ·subst e
      rw [HY.out] at hz
      cases hz
      exact PX_ok.irr _
     ·exact fun h => HI.out.2 x HX.out j z (by omega) hz (PX_ok.tt h hyx)
    case measure => simp [RowKit.intOf]; omega
   | false =>
    rw [hq] at hto
    go_wp2_with fail
    go_quiet_grown (first | (go_at_call 16; refine Calls.grown_of (hto _)))
    have G9 : Hid (Gr W0 (grow (wr.drewN nq) osq)) := (HI.out.1.drewN nq).grown osq
    clear g1 g2 g3 g4 g5 g6 hto
    go_wp2
    go_roundw
    case rel =>
     refine ⟨i + 1, a, by omega, ha, rfl, by go_num, G9.out, fun t ht j z hj hz => ?_⟩
     rw [HX.out] at ht
     cases ht
     by_cases e : j = i
     ·subst e
      rw [HY.out] at hz
      cases hz
      exact fun h => by
       have := (Pc.tol_px _ _).2 h
       rw [hq] at this
       cases this
     ·exact HI.out.2 x HX.out j z (by omega) hz
    case measure => simp [RowKit.intOf]; omega
  ·have hltz : ¬ (i : Int) < (ts.length : Int) := by omega
   have hie : i = ts.length := by omega
   subst hie
   obtain ⟨xb, hxb⟩ : ∃ r, r = wr.heap.size := ⟨_, rfl⟩
   obtain ⟨W7, hW7⟩ : ∃ W, W = wr.alloc (.cells #[.int .i64 x.1, .int .u64 x.2.1.1, .int .u64 x.2.1.2.1, .int .u64 x.2.1.2.2] 162) := ⟨_, rfl⟩
   have P7 : Hid (Gr W0 W7 ∧ W7.heap[xb]? = some (.cells #[.int .i64 x.1, .int .u64 x.2.1.1, .int .u64 x.2.1.2.1, .int .u64 x.2.1.2.2] 162 (0, 0)) ∧ rb < xb) := by
    rw [hW7, hxb]
    exact ⟨HI.out.1.trans ((Gr.refl wr).alloc _), heap_new' _ _, Nat.lt_of_lt_of_le (Df.tk_lt P0.out.2.1) HI.out.1.size⟩
   have HW7 : Hid (wr.alloc (.cells #[.int .i64 x.1, .int .u64 x.2.1.1, .int .u64 x.2.1.2.1, .int .u64 x.2.1.2.2] 162) = W7 ∧ wr.heap.size = xb) := ⟨hW7.symm, hxb.symm⟩
   have HK : Hid (∀ y ∈ ts, ¬ PX.tld y.2 x.2) := fun y hy => by
    obtain ⟨j, hj⟩ := List.mem_iff_getElem?.1 hy
    exact HI.out.2 x HX.out j y (List.getElem?_eq_some_iff.1 hj).1 hj
   clear hW7 hxb HI
   go_upto_region 9 with fail
   rw [HW7.out.1, HW7.out.2]
   clear HW7 u0 u1 u2 u3 hb1
   have zz2 : (a : Int) ≤ (c : Int) := by omega
   have zz3 : ¬ c = 0 := by omega
   have L7 : Ls EF W7 (.slice (some ⟨b, 0, none⟩) ts.length c) ts := P0.out.2.2.1.below P7.out.1.below
   have L1 : Ls EF W7 (.slice (some ⟨b, 0, none⟩) a c) (ts.take a) := L7.cut (k := a) (by omega) c
   have HL7 := Hf.hid L7
   have HTA : Hid ((ts.take a).length = a) := by show _ = _; rw [List.length_take]; omega
   clear L7
   go_wp2_with (at_builtin; refine wpAppL EF Tryz.underlying163 infoWy rfl (by decide) rfl _ _ rfl W7.heap.size (.slice none 0 0) 0 [] rfl (World.ownsRow_nil _ _ _ _) (.slice (some ⟨b, 0, none⟩) a c) (ts.take a) rfl L1 (by have := HTA.out; omega) (by have := HTA.out; unfold maxLen; omega) (Nat.le_refl _) ?_)
   intro v8 w8 ho8 hg8
   have B8 : Hid (Below W7.heap.size W7 w8) := (Kp.grownBy (S := fun _ => False) hg8 (fun k hk => by simp [Value.ownBlock] at hk)).below (Nat.le_refl _) (fun _ h => h.elim)
   have ho8' : w8.ownsRow W7.heap.size 162 4 v8 a (fl EF (ts.take a)) := owns_re ho8 (by have := HTA.out; omega) (by simp)
   clear ho8 hg8 L1
   have zz4 : (a : Int) + 1 ≤ (ts.length : Int) := by omega
   have zz5 : (0 : Int) ≤ (a : Int) + 1 := by omega
   have zz6 : (a : Int) + 1 ≤ (c : Int) := by omega
   have HL8 := Hf.hid (HL7.out.below B8.out)
   have HBW : Hid (W7.heap.size ≤ w8.heap.size) := B8.out.size
   have HDA : Hid ((ts.drop (a + 1)).length = ts.length - (a + 1)) := List.length_drop
   go_upto_region 10 with fail
   go_cut [7] (fun s7 w9 => Hid (w9.ownsRow W7.heap.size 162 4 s7 (ts.length - 1) (fl EF (ts.take a ++ ts.drop (a + 1))) ∧ Below W7.heap.size W7 w9))
   case first =>
    by_cases hca : c = a + 1
    ·have HZ7 : Hid (ts.length = a + 1 ∧ c = a + 1) := ⟨by omega, hca⟩
     have zz8 : ts.length - c = 0 := by omega
     have zz9 : ts.length - (a + 1) = 0 := by omega
     have hca2 : a + 1 = c := hca.symm
     clear hca
     have L3 : Ls EF w8 (.slice (some ⟨b, 0, none⟩) 0 0) [] := Or.inr ⟨b, 0, 0, rfl, (HL8.out.blk b rfl), fun j u hj => by simp [fl] at hj⟩
     go_wp2_with (at_builtin; refine wpAppL EF Tryz.underlying163 infoWy rfl (by decide) rfl _ _ rfl W7.heap.size _ a _ rfl ho8' (.slice (some ⟨b, 0, none⟩) 0 0) [] rfl L3 (by have := HZ7.out; simp only [List.length_nil]; omega) (by unfold maxLen; simp only [List.length_nil]; omega) HBW.out ?_)
     intro v9 w9 ho9 hg9
     have F9 : Hid (w9.ownsRow W7.heap.size 162 4 v9 (ts.length - 1) (fl EF (ts.take a ++ ts.drop (a + 1))) ∧ Below W7.heap.size W7 w9) := by
      refine ⟨owns_re ho9 (by have := HZ7.out; omega) (by rw [List.drop_of_length_le (by have := HZ7.out; omega), List.append_nil, fl_nil, List.append_nil]), B8.out.trans ((Kp.grownBy (S := fun k => W7.heap.size ≤ k) hg9 (fun k hk => (ho8'.lt k hk).1)).below B8.out.size (fun _ h => h))⟩
     clear ho9 hg9
     go_wp2_with fail
     go_meet
     exact F9.out
    ·have zz7 : ¬ a + 1 = c := by omega
     have L3 : Ls EF w8 (.slice (some ⟨b, (a + 1) * 4, none⟩) (ts.length - (a + 1)) (c - (a + 1))) (ts.drop (a + 1)) := by
      have h := HL8.out.tail (k := a + 1) (c - (a + 1))
      rw [Nat.zero_add] at h
      exact h
     go_wp2_with (at_builtin; refine wpAppL EF Tryz.underlying163 infoWy rfl (by decide) rfl _ _ rfl W7.heap.size _ a _ rfl ho8' (.slice (some ⟨b, (a + 1) * 4, none⟩) (ts.length - (a + 1)) (c - (a + 1))) (ts.drop (a + 1)) rfl L3 (by have := HDA.out; omega) (by have := HDA.out; unfold maxLen; omega) HBW.out ?_)
     intro v9 w9 ho9 hg9
     have F9 : Hid (w9.ownsRow W7.heap.size 162 4 v9 (ts.length - 1) (fl EF (ts.take a ++ ts.drop (a + 1))) ∧ Below W7.heap.size W7 w9) := by
      refine ⟨owns_re ho9 (by have := HDA.out; omega) (by rw [fl_append]), B8.out.trans ((Kp.grownBy (S := fun k => W7.heap.size ≤ k) hg9 (fun k hk => (ho8'.lt k hk).1)).below B8.out.size (fun _ h => h))⟩
     clear ho9 hg9
     go_wp2_with fail
     go_meet
     exact F9.out
   case rest =>
    have HQ := hcut
    clear hcut ho8' zz2 zz3 zz4 zz5 zz6
    have h1 := (HQ.out.2.block _ (Df.tk_lt P7.out.2.1)).trans P7.out.2.1
    have b7 := HQ.out.2
    have hrb7 : wc.heap[rb]? = some (.cells #[.int .i64 0, .int .u64 0, .int .u64 0, .int .u64 0] 162 (0, 0)) := (b7.block _ (Nat.lt_of_lt_of_le (Df.tk_lt P0.out.2.1) P7.out.1.size)).trans ((P7.out.1.below.block _ (Df.tk_lt P0.out.2.1)).trans P0.out.2.1)
    have cx := (Df.tk_store h1).1
    have lx := Df.tk_lt h1
    have cr := (Df.tk_store hrb7).1
    have fr := (Df.tk_store hrb7).2
    have lr := Df.tk_lt hrb7
    have HRB := Hf.hid hrb7
    clear h1 b7 hrb7
    go_wp2
    obtain ⟨q0, k0⟩ := Df.tk_set HRB.out 0 (.int .i64 x.1)
    obtain ⟨q1, k1⟩ := Df.tk_set q0 1 (.int .u64 x.2.1.1)
    obtain ⟨q2, k2⟩ := Df.tk_set q1 2 (.int .u64 x.2.1.2.1)
    obtain ⟨q3, k3⟩ := Df.tk_set q2 3 (.int .u64 x.2.1.2.2)
    have kk : Kp (fun k => k = rb) wc _ := ((k0.trans k1 (fun _ _ h => h)).trans k2 (fun _ _ h => h)).trans k3 (fun _ _ h => h)
    clear k0 k1 k2 k3 q0 q1 q2 cr fr
    generalize (((wc.setCell ⟨rb, 0, none⟩ (.int .i64 x.1)).setCell ⟨rb, 1, none⟩ (.int .u64 x.2.1.1)).setCell ⟨rb, 2, none⟩ (.int .u64 x.2.1.2.1)).setCell ⟨rb, 3, none⟩ (.int .u64 x.2.1.2.2) = W9 at q3 kk ⊢
    have c9 := (Df.tk_store q3).1
    refine bodyPost_ret (v := .tuple #[.agg #[.int .i64 x.1, .int .u64 x.2.1.1, .int .u64 x.2.1.2.1, .int .u64 x.2.1.2.2], u7]) (by simp [results, Tryz.results101, go_sem, c9]) rfl ?_
    have hsz : w.heap.size ≤ W7.heap.size := Nat.le_trans P0.out.1.size P7.out.1.size
    refine ⟨a, x, u7, HX.out, HK.out, rfl, owns_base (owns_kp kk HQ.out.1 (fun k hk e => ?_)) hsz, ?_⟩
    ·have h1 := (HQ.out.1.lt k hk).1
     have h2 := Df.tk_lt P7.out.2.1
     have h3 := P7.out.2.2
     omega
    ·have h1 : Below w.heap.size w wc := (P0.out.1.below.trans (P7.out.1.below.mono P0.out.1.size)).trans (HQ.out.2.mono hsz)
     exact h1.trans (kk.below h1.size (fun k hk => by rw [hk, P0.out.2.2.2]; exact Nat.le_refl _))
end Go.Proofs.YtdnnfgabdkkdjaaGreat.Lf

namespace Go.Proofs.YtdnnfgabdkkdjaaGreat.Lf
open Go.RowKit Go.Sort Pt
attribute [local go_sem ↓] Go.wp_at_zero Go.wp_at_succ
structure Tb (base : Nat) (w : World) (v : Value) (vs : List Vw) (ts : List (List Tm)) : Prop where
 row : w.ownsRow base 35 1 v ts.length (fl EV vs)
 len : vs.length = ts.length
 each : ∀ (i : Nat) (u : Vw) (t : List Tm), vs[i]? = some u → ts[i]? = some t → w.ownsRow base 39 3 u.1 t.length (Pc.flT t) ∧ ∀ k, u.1.ownBlock = some k → v.ownBlock ≠ some k
theorem Tb.nil (base : Nat) (w : World) : Tb base w (.slice none 0 0) [] [] := ⟨World.ownsRow_nil _ _ _ _, rfl, fun i u t h => by simp at h⟩
theorem Tb.app {base g cap : Nat} {wr w5 w6 : World} {v : Value} {vs : List Vw} {ts : List (List Tm)} {t : List Tm} (u : Vw) (h : Tb base wr v vs ts) (hb : base ≤ wr.heap.size) (hB : Below wr.heap.size wr w5) (ho : w5.ownsRow wr.heap.size 39 3 u.1 t.length (Pc.flT t))
    (hn : w6.ownsRow base 35 1 (.slice (some ⟨g, 0, none⟩) (ts.length + 1) cap) (ts.length + 1) (fl EV vs ++ EV.enc u)) (hg : w5.grownBy w6 v.ownBlock) (hgg : v.ownBlock = some g ∨ w5.heap.size ≤ g) : Tb base w6 (.slice (some ⟨g, 0, none⟩) (ts.length + 1) cap) (vs ++ [u]) (ts ++ [t]) := by
 have hK : Kp (fun k => v.ownBlock = some k) w5 w6 := Kp.grownBy hg (fun _ h => h)
 have hne : ∀ k, (v.ownBlock ≠ some k) → k < w5.heap.size → (Value.slice (some ⟨g, 0, none⟩) (ts.length + 1) cap).ownBlock ≠ some k := fun k h1 h2 e => by
  have e : g = k := by simpa [Value.ownBlock] using e
  subst e
  rcases hgg with h3 | h3
  ·exact h1 h3
  ·omega
 refine ⟨?_, by rw [List.length_append, List.length_append, h.len]; rfl, fun i u' t' hu ht => ?_⟩
 ·rw [List.length_append, List.length_singleton, fl_append, fl_one]
  exact hn
 ·by_cases hi : i < ts.length
  ·rw [List.getElem?_append_left (by rw [h.len]; exact hi)] at hu
   rw [List.getElem?_append_left hi] at ht
   obtain ⟨h1, h2⟩ := h.each i u' t' hu ht
   have h3 := owns_below h1 hB
   exact ⟨owns_kp hK h3 (fun k hk e => h2 k hk e), fun k hk => hne k (h2 k hk) (h3.lt k hk).2⟩
  ·have e : i = ts.length := by
     have := (List.getElem?_eq_some_iff.1 ht).1
     rw [List.length_append, List.length_singleton] at this
     omega
   subst e
   rw [List.getElem?_append_right (Nat.le_refl _), Nat.sub_self] at ht
   rw [← h.len, List.getElem?_append_right (Nat.le_refl _), Nat.sub_self] at hu
   cases ht
   cases hu
   have h2 : ∀ k, u.1.ownBlock = some k → v.ownBlock ≠ some k := fun k hk e => by
    have := (ho.lt k hk).1
    have := (h.row.lt k e).2
    omega
   exact ⟨owns_kp hK (owns_base ho hb) (fun k hk e => h2 k hk e), fun k hk => hne k (h2 k hk) (ho.lt k hk).2⟩
theorem infoRw : (Tryz.prog.info? 35).map (fun i => (i.zero, i.size, i.bytes)) = some (some (.slice none 0 0), 1, 24) := by kernel_rfl
theorem EP_at {w : World} {g n : Nat} {cs : List Nat} (h : Ls EP w (.slice (some ⟨g, 0, none⟩) n n) (cs.map some)) {i c : Nat} (hc : cs[i]? = some c) : w.cell? ⟨g, i, none⟩ = some (.pointer (some ⟨c, 0, none⟩)) ∧ g < w.heap.size := by
 obtain ⟨b, off, c', e, hb, hx⟩ := h.get (j := i) (t := some c) (by rw [List.getElem?_map, hc]; rfl)
 simp only [Value.slice.injEq, Option.some.injEq, Addr.mk.injEq, and_true] at e
 obtain ⟨⟨rfl, rfl⟩, -, -⟩ := e
 exact ⟨by simpa [EP] using hx 0 _ (by decide) rfl, hb⟩
set_option maxHeartbeats 4000000 in
set_option maxRecDepth 100000 in
theorem listsOf_any {tag : Nat → Nat} {g n : Nat} {cs : List Nat} {rows : Nat → List Tm} (w : World) (hl : Ls EP w (.slice (some ⟨g, 0, none⟩) n n) (cs.map some)) (hn : cs.length = n) (hch : ∀ i c, cs[i]? = some c → Cm w tag (i + 3) c (rows i)) (hsm : ∀ q, (rows q).length ≤ 64) (hnb : n * 2560 ≤ 140737488355328) :
    Calls Tryz.prog 97 #[.slice (some ⟨g, 0, none⟩) n n] w fun e w' => ∃ v vs, e = .returned v ∧ Tb w.heap.size w' v vs ((List.range n).map rows) ∧ Below w.heap.size w w' := by
 have HL : Hid (Ls EP w (.slice (some ⟨g, 0, none⟩) n n) (cs.map some)) := hl
 have HC : Hid (∀ i c, cs[i]? = some c → Cm w tag (i + 3) c (rows i)) := hch
 clear hl hch
 go_enter Tryz.func97, Tryz.ntmps97
 go_wp2_with fail
 go_loopw [3, 5, 8] (fun s3 _ s8 wr => ∃ (i : Nat) (vs : List Vw), i ≤ n ∧ s8 = .int .i64 i ∧ Hid (Tb w.heap.size wr s3 vs ((List.range i).map rows) ∧ Below w.heap.size w wr)) (fun _ _ s8 _ => n - (RowKit.intOf s8).toNat)
 case atStart => exact ⟨0, [], Nat.zero_le _, rfl, Tb.nil _ _, Below.refl _ _⟩
 case round =>
  obtain ⟨i, vs, hi, rfl, HT⟩ := hrel
  by_cases hlt : i < n
  ·have hltz : (i : Int) < (n : Int) := by omega
   have hi0 : (0 : Int) ≤ (i : Int) := by omega
   obtain ⟨c, hc⟩ : ∃ c, cs[i]? = some c := ⟨cs[i]'(by omega), by simp⟩
   obtain ⟨x0, x1⟩ := EP_at (HL.out.below HT.out.2) hc
   have hm := (HC.out i c hc).below HT.out.2
   have hlist : Calls Tryz.prog 49 #[.pointer (some ⟨c, 0, none⟩)] wr fun e w' => ∃ pp cc, e = .returned (.slice pp (rows i).length cc) ∧ w'.ownsRow wr.heap.size 39 3 (.slice pp (rows i).length cc) (rows i).length (Pc.flT (rows i)) ∧ Below wr.heap.size wr w' := by
    obtain ⟨v, h1, _⟩ := hm
    refine (Pc.Cn.list_any wr h1 (by have := hsm i; omega)).mono ?_
    rintro e w' ⟨v', rfl, q1, q2⟩
    obtain ⟨pp, cc, rfl⟩ := (Pc.owns_lst q1).form
    exact ⟨pp, cc, rfl, q1, q2⟩
   clear hm hc
   go_wp2_with fail
   refine hlist.mono ?_
   rintro e w5 ⟨pu, cu, rfl, hu5, hb5⟩
   obtain ⟨u, hu⟩ : ∃ u : Vw, u.1 = .slice pu (rows i).length cu := ⟨⟨_, rfl⟩, rfl⟩
   rw [← hu] at hu5
   have hen : EV.enc u = [.slice pu (rows i).length cu] := by rw [← hu]; rfl
   have HU5 : Hid (w5.ownsRow wr.heap.size 39 3 u.1 (rows i).length (Pc.flT (rows i)) ∧ Below wr.heap.size wr w5) := ⟨hu5, hb5⟩
   have hz5 : w.heap.size ≤ w5.heap.size := Nat.le_trans HT.out.2.size hb5.size
   have hrow := owns_below HT.out.1.row hb5
   have hlen : ((List.range i).map rows).length = i := by simp
   rw [hlen] at hrow
   clear hu5 hb5 hlist x0 hu
   go_wp2_with (at_builtin; refine wpApp1 EV Tryz.underlying42 infoRw rfl (by decide) rfl _ _ rfl w.heap.size _ i _ rfl hrow u rfl (by omega) (by unfold maxLen; omega) hz5 _ hen.symm _ ?_)
   intro g6 c6 w6 ho6 hg6 hl6
   have HT6 : Hid (Tb w.heap.size w6 (.slice (some ⟨g6, 0, none⟩) (i + 1) c6) (vs ++ [u]) ((List.range (i + 1)).map rows) ∧ Below w.heap.size w w6) := by
    have h1 := HT.out.1.app (g := g6) (cap := c6) (w6 := w6) u HT.out.2.size HU5.out.2 HU5.out.1 (by rw [hlen, hen]; exact ho6) hg6 hl6
    rw [hlen] at h1
    rw [List.range_succ, List.map_append]
    refine ⟨h1, (HT.out.2.trans (HU5.out.2.mono HT.out.2.size)).trans ((Kp.grownBy (S := fun k => w.heap.size ≤ k) hg6 (fun k hk => (hrow.lt k hk).1)).below hz5 (fun _ h => h))⟩
   clear ho6 hg6 hl6 hrow
   go_wp2_with fail
   go_roundw
   case rel => exact ⟨i + 1, _, by omega, by first | rfl | go_num, HT6.out⟩
   case measure => simp [RowKit.intOf]; omega
  ·have hltz : ¬ (i : Int) < (n : Int) := by omega
   have hin : i = n := by omega
   subst hin
   go_wp2
   go_ret
   exact ⟨_, rfl, ⟨vs, HT.out.1⟩, HT.out.2⟩
end Go.Proofs.YtdnnfgabdkkdjaaGreat.Lf
