import Derived.Test.YtdiecnacbkpceaaGPlT
import Derived.BigFrameIn
import Derived.Sort.CutIn
import Derived.BigQuiet
namespace Go.Proofs.Ytdiecnacbkpceaa.Df
open Go.RowKit Go.Sort
attribute [local go_sem ↓] Go.wp_at_zero Go.wp_at_succ
attribute [local go_sem] Oper.semAt_some

theorem fold_one (T : Array Value) (p : Tmp) (v : Value) : ((#[p] : Array Tmp).zip #[v]).foldl (fun t (p, v) => t.setIfInBounds p v) T = T.setIfInBounds p v := by simp
theorem made0 (n : Nat) : (madeCells (Value.int .i64 0).cells (n * 1)).toList = (List.replicate n (0 : Int)).map (Value.int .i64) := by
  rw [Nat.mul_one]
  exact (toList_madeCells_one _ n).trans (by simp)
set_option maxRecDepth 100000 in
set_option maxHeartbeats 16000000 in
theorem graphPlaces_any {M : Nat} {nv ev : Value} {a : Int} {xs : List NV} {es : List Edg} (w : World) (hG : GR M w nv ev xs es) (hM : M ≤ w.heap.size) (hbg : xs.length * 112 ≤ 140737488351232 ∧ es.length * 40 ≤ 140737488351232 ∧ ∀ x ∈ xs, x.n.code.length * 16 ≤ 140737488351232 ∧ x.n.conns.length * 40 ≤ 140737488351232) : Calls Try.prog 3 #[.agg (gvc a nv ev)] w fun r w' => r = .returned (.bool true) ∧ Below w.heap.size w w' := by
  have hmx : Try.prog.follows .mixedOrders = true := by kernel_rfl
  have HG := hid (hG.up hM)
  obtain ⟨pn, cn, rfl⟩ := hG.nodes.form
  obtain ⟨pe, ce, rfl⟩ := hG.edges.form
  have HBG := hid hbg
  clear hG hM hbg
  obtain ⟨nl, hnl⟩ : ∃ n, n = xs.length := ⟨_, rfl⟩
  obtain ⟨el, hel⟩ : ∃ n, n = es.length := ⟨_, rfl⟩
  rw [← hnl, ← hel] at HG ⊢
  have HNL := hid hnl
  have HEL := hid hel
  clear hnl hel
  obtain ⟨rb, hrb⟩ : ∃ b, b = w.heap.size := ⟨_, rfl⟩
  obtain ⟨ob, hob⟩ : ∃ b, b = w.heap.size + 1 := ⟨_, rfl⟩
  obtain ⟨w0, hW0⟩ : ∃ W, W = (w.alloc (.cells (gvc a (.slice pn nl cn) (.slice pe el ce)) 25)).alloc (.cells #[.bool false] 4) := ⟨_, rfl⟩
  have T0 : Hid (Below w.heap.size w w0 ∧ w0.heap[rb]? = some (.cells (gvc a (.slice pn nl cn) (.slice pe el ce)) 25 (0, 0)) ∧ w0.heap[ob]? = some (.cells #[.bool false] 4 (0, 0))) := by
    rw [hW0, hrb, hob]
    exact ⟨(((Gr.refl w).alloc _).alloc _).below, new1 w _ _, new2 w _ _⟩
  have HW0 : Hid ((w.alloc (.cells #[.int .i64 a, .slice pn nl cn, .slice pe el ce] 25)).alloc (.cells #[.bool false] 4) = w0 ∧ w.heap.size = rb ∧ w.heap.size + 1 = ob) := ⟨hW0.symm, hrb.symm, hob.symm⟩
  have HRB : Hid (w.heap.size = rb ∧ rb + 1 = ob) := ⟨hrb.symm, by omega⟩
  clear hW0 hrb hob
  refine (callsIn_wide (n := 4)).1 ?_
  refine callsIn_of_wp_marks Try.func3 rfl trivial ?_ rfl
  refine wpIn_wide.2 ?_
  simp only [Try.ntmps3, List.size_toArray, List.length_cons, List.length_nil, Nat.reduceAdd, Nat.reduceSub, Array.replicate_succ, Array.replicate_zero, List.push_toArray, List.append_toArray, List.nil_append, List.cons_append]
  go_upto_region 1 with fail
  rw [HW0.out.1, HW0.out.2.2, HW0.out.2.1]
  clear HW0
  have cx := (tk_store T0.out.2.1).1
  have lx := tk_lt T0.out.2.1
  have htw := twin3_any (a := a) w0 ((HG.out.below T0.out.1).up T0.out.1.size) (Nat.le_refl _) HNL.out HEL.out HBG.out
  go_wp2_with fail
  refine htw.mono ?_
  rintro r w2 ⟨gn, kn, ge, ke, ys, rfl, HTW⟩
  have b2 := HTW.out.1
  have T2 : Hid (Below w.heap.size w w2 ∧ w2.heap[rb]? = some (.cells (gvc a (.slice pn nl cn) (.slice pe el ce)) 25 (0, 0)) ∧ w2.heap[ob]? = some (.cells #[.bool false] 4 (0, 0))) := ⟨T0.out.1.trans (b2.mono T0.out.1.size), (b2.block _ (tk_lt T0.out.2.1)).trans T0.out.2.1, (b2.block _ (tk_lt T0.out.2.2)).trans T0.out.2.2⟩
  have hbig : Hid ((∀ x ∈ ys, x.n.code.length * 16 ≤ 140737488351232 ∧ x.n.conns.length * 40 ≤ 140737488351232) ∧ ys.length = nl) := by
    have hl : ys.length = nl := by rw [HNL.out]; simpa using congrArg List.length HTW.out.2.1
    refine ⟨fun y hy => ?_, hl⟩
    obtain ⟨i, hi⟩ := List.mem_iff_getElem?.1 hy
    obtain ⟨x, hxi⟩ : ∃ x, xs[i]? = some x := ⟨xs[i]'(by rw [← HNL.out, ← hl]; exact (List.getElem?_eq_some_iff.1 hi).1), by simp⟩
    rw [n_at HTW.out.2.1 hi hxi]
    exact HBG.out.2.2 x (List.mem_of_getElem? hxi)
  have hnew := new_any (a := a) w2 (HTW.out.2.2.1.gr ⟨fun x hx => by have := hbig.out.1 x hx; omega, by have := hbig.out.2; have := HBG.out.1; have := HNL.out; omega, by have := HBG.out.2.1; omega⟩) (HTW.out.2.2.1.caps (fun y hy => by have := hbig.out.1 y hy; omega))
  have hgg : gof a ys es = gof a xs es := by unfold gof; rw [HTW.out.2.1]
  rw [hgg] at hnew
  clear hgg b2 htw cx lx T0 hbig
  go_wp2_with fail
  refine hnew.mono ?_
  rintro r w4 ⟨b4, e, t, hF, hr⟩
  have T4 : Hid (Below w.heap.size w w4 ∧ w4.heap[rb]? = some (.cells (gvc a (.slice pn nl cn) (.slice pe el ce)) 25 (0, 0)) ∧ w4.heap[ob]? = some (.cells #[.bool false] 4 (0, 0))) := ⟨T2.out.1.trans (b4.mono T2.out.1.size), (b4.block _ (tk_lt T2.out.2.1)).trans T2.out.2.1, (b4.block _ (tk_lt T2.out.2.2)).trans T2.out.2.2⟩
  have HF := hid hF
  clear hnew b4 hF T2 HTW
  rcases hr with ⟨he, rfl⟩ | ⟨rfl, gb, rfl, hgm⟩
  · have he1 : (e == 0) = false := by simp [he]
    have he2 : (e != 0) = true := by simp [he]
    go_wp2_with fail
    refine (taken_any w4).mono ?_
    rintro r w5 ⟨rfl, b5⟩
    have T5 : Hid (Below w.heap.size w w5 ∧ w5.heap[rb]? = some (.cells (gvc a (.slice pn nl cn) (.slice pe el ce)) 25 (0, 0)) ∧ w5.heap[ob]? = some (.cells #[.bool false] 4 (0, 0))) := ⟨T4.out.1.trans (b5.mono T4.out.1.size), (b5.block _ (tk_lt T4.out.2.1)).trans T4.out.2.1, (b5.block _ (tk_lt T4.out.2.2)).trans T4.out.2.2⟩
    clear b5 T4
    have c2 := (tk_store T5.out.2.2).1
    have f2 := (tk_store T5.out.2.2).2
    have l2 := tk_lt T5.out.2.2
    go_wp2_with fail
    obtain ⟨s1, s2⟩ := tk_set T5.out.2.2 0 (.bool true)
    have c3 : (w5.setCell ⟨ob, 0, none⟩ (.bool true)).cell? ⟨ob, 0, none⟩ = some (.bool true) := (tk_store s1).1 0
    refine ⟨.bool true, by simp [results, Try.results3, go_sem, c3], rfl, ?_⟩
    exact T5.out.1.trans (s2.below T5.out.1.size (fun k e => by have := HRB.out; omega))
  · have HGM := hid hgm
    have HOK := hid (HF.out.ok.1 rfl)
    clear hgm HF
    go_wp2_with fail
    refine (taken_any w4).mono ?_
    rintro r V ⟨rfl, b5⟩
    have T5 : Hid (Below w.heap.size w V ∧ V.heap[rb]? = some (.cells (gvc a (.slice pn nl cn) (.slice pe el ce)) 25 (0, 0)) ∧ V.heap[ob]? = some (.cells #[.bool false] 4 (0, 0))) := ⟨T4.out.1.trans (b5.mono T4.out.1.size), (b5.block _ (tk_lt T4.out.2.1)).trans T4.out.2.1, (b5.block _ (tk_lt T4.out.2.2)).trans T4.out.2.2⟩
    have GV := hid (HGM.out.below b5)
    clear b5 T4 HGM
    have cx := (tk_store T5.out.2.1).1
    have lx := tk_lt T5.out.2.1
    have he48 : el ≤ 48 := by rw [HEL.out]; exact HOK.out.el
    obtain ⟨i0, hi0, hz0, hz1, hz2⟩ := info_parts infoInt
    go_upto_region 8 with (at_make; refine wpList_make_full _ rfl _ _ 32 rfl V.heap.size 3 i0 (.int .i64 0) 1 Try.underlying32 hi0 hz0 hz1 _ _ _ _ el rfl rfl rfl rfl (by rw [hz2]; omega) (by unfold maxLen; omega) (Nat.le_refl _) ?_; intro w6 hrow hg6)
    obtain ⟨q, hq⟩ : ∃ q : Option Addr, q = some ⟨V.heap.size, 0, none⟩ := ⟨_, rfl⟩
    rw [← hq] at hrow ⊢
    obtain ⟨s7, hs7⟩ : ∃ b, b = w6.heap.size := ⟨_, rfl⟩
    obtain ⟨ib, hib⟩ : ∃ b, b = w6.heap.size + 1 := ⟨_, rfl⟩
    obtain ⟨w8, hw8⟩ : ∃ W, W = (w6.alloc (.cells #[.slice q el el] 32)).alloc (.cells #[.int .i64 0] 3) := ⟨_, rfl⟩
    have P8 : Hid (Pw V [] w8 ib s7 q el el 0 (List.replicate el 0) ∧ Sn (xs.map NV.n) es 0 [] (List.replicate el 0)) := by
      have b6 : Below V.heap.size V w6 := (Kp.grownBy (S := fun _ => False) hg6 (fun _ h => by cases h)).below (Nat.le_refl _) (fun _ h => h.elim)
      have g8 := ((Gr.refl w6).alloc (.cells #[.slice q el el] 32)).alloc (.cells #[.int .i64 0] 3)
      have hr : w6.ownsRow V.heap.size 3 1 (.slice q el el) (List.replicate el (0 : Int)).length (fl EI (List.replicate el 0)) := owns_re hrow (by simp) (by rw [fl_EJ, made0])
      have hlt : ∀ k, (Value.slice q el el).ownBlock = some k → k < w6.heap.size := fun k e => (owns_rd hr k e).2
      refine ⟨?_, by have h := Sn.zero (xs.map NV.n) es; rw [← HEL.out] at h; exact h⟩
      rw [hw8, hs7, hib]
      exact ⟨b6.trans (g8.below.mono b6.size), new2 w6 _ _, by have := b6.size; omega, new1 w6 _ _, b6.size, owns_below hr g8.below, fun k e e2 => by have := hlt k e; omega, Dok.nil _ _⟩
    have HW8 : Hid ((w6.alloc (.cells #[.slice q el el] 32)).alloc (.cells #[.int .i64 0] 3) = w8 ∧ w6.heap.size = s7 ∧ w6.heap.size + 1 = ib) := ⟨hw8.symm, hs7.symm, hib.symm⟩
    clear hrow hg6 hq hs7 hib hw8 cx lx hi0 hz0 hz1 hz2
    go_wp2_with fail
    rw [HW8.out.1, HW8.out.2.2, HW8.out.2.1]
    clear HW8
    refine wp_loop (fun a' w' => ∃ (Ds : List Nat) (u0 u4 u5 u6 u8 u9 u10 u11 u12 u13 u14 u15 u16 u17 u18 u19 u20 u21 u22 u23 u24 u25 u26 u27 u28 u29 u30 u31 u32 u33 u34 u35 u36 u37 u38 u39 u40 u41 u42 u43 u44 u45 u46 u47 u48 u49 u50 u51 u52 u53 u54 u55 u56 u57 u58 u59 u60 u61 u62 u63 u64 u65 u66 u67 u68 u69 u70 u71 u72 u73 u74 u75 u76 u77 u78 u79 u80 u81 u82 u83 u84 u85 u86 u87 u88 u89 u90 u91 u92 u93 u94 u95 u96 u97 u98 u99 u100 u101 u102 u103 u104 u105 u106 u107 u108 u109 u110 u111 u112 u113 u114 u115 u116 u117 u118 u119 u120 u121 u122 u123 u124 u125 u126 u127 u128 u129 u130 u131 u132 u133 u134 u135 u136 u137 u138 u139 u140 u141 u142 u143 u144 u145 u146 u147 u148 u149 u150 u151 u152 u153 u154 u155 u156 u157 u158 u159 u160 u161 u162 u163 u164 u165 u166 u167 u168 u169 u170 u171 u172 u173 u174 u175 u176 u177 u178 u179 u180 u181 u182 u183 u184 u185 u186 u187 u188 u189 u190 u191 u192 u193 u194 u195 u196 u197 u198 u199 u200 u201 u202 u203 u204 u205 u206 u207 u208 u209 u210 u211 u212 u213 u214 u215 u216 u217 u218 u219 u220 u221 u222 u223 u224 u225 u226 u227 u228 u229 u230 u231 u232 u233 : Value), (∃ (i ib : Nat) (S : List Int), i ≤ nl ∧ u6 = .int .i64 (firstN (xs.map NV.n) i : Nat) ∧ u8 = .pointer (some ⟨ib, 0, none⟩) ∧ Hid (Pw V Ds w' ib s7 q el el (i : Nat) S ∧ Sn (xs.map NV.n) es (firstN (xs.map NV.n) i) [] S)) ∧ a' = { tmps := #[u0, .pointer (some ⟨rb, 0, none⟩), .pointer (some ⟨ob, 0, none⟩), .pointer (some ⟨gb, 0, none⟩), u4, u5, u6, .pointer (some ⟨s7, 0, none⟩), u8, u9, u10, u11, u12, u13, u14, u15, u16, u17, u18, u19, u20, u21, u22, u23, u24, u25, u26, u27, u28, u29, u30, u31, u32, u33, u34, u35, u36, u37, u38, u39, u40, u41, u42, u43, u44, u45, u46, u47, u48, u49, u50, u51, u52, u53, u54, u55, u56, u57, u58, u59, u60, u61, u62, u63, u64, u65, u66, u67, u68, u69, u70, u71, u72, u73, u74, u75, u76, u77, u78, u79, u80, u81, u82, u83, u84, u85, u86, u87, u88, u89, u90, u91, u92, u93, u94, u95, u96, u97, u98, u99, u100, u101, u102, u103, u104, u105, u106, u107, u108, u109, u110, u111, u112, u113, u114, u115, u116, u117, u118, u119, u120, u121, u122, u123, u124, u125, u126, u127, u128, u129, u130, u131, u132, u133, u134, u135, u136, u137, u138, u139, u140, u141, u142, u143, u144, u145, u146, u147, u148, u149, u150, u151, u152, u153, u154, u155, u156, u157, u158, u159, u160, u161, u162, u163, u164, u165, u166, u167, u168, u169, u170, u171, u172, u173, u174, u175, u176, u177, u178, u179, u180, u181, u182, u183, u184, u185, u186, u187, u188, u189, u190, u191, u192, u193, u194, u195, u196, u197, u198, u199, u200, u201, u202, u203, u204, u205, u206, u207, u208, u209, u210, u211, u212, u213, u214, u215, u216, u217, u218, u219, u220, u221, u222, u223, u224, u225, u226, u227, u228, u229, u230, u231, u232, u233], defers := Ds.map mkD }) (fun a' w' => nl - iAt (a'.tmps.getD 8 undef) w') ?start ?round
    case start =>
      refine ⟨[], ?_⟩
      (repeat apply Exists.intro)
      refine ⟨?_, rfl⟩
      exact ⟨0, ib, _, Nat.zero_le _, rfl, rfl, P8.out.1, P8.out.2⟩
    case round => as_aux_lemma =>
      clear P8
      intro a' wr hinv
      obtain ⟨Ds, hinv⟩ := hinv
      obtain ⟨u0, hinv⟩ := hinv
      obtain ⟨u4, hinv⟩ := hinv
      obtain ⟨u5, hinv⟩ := hinv
      obtain ⟨u6, hinv⟩ := hinv
      obtain ⟨u8, hinv⟩ := hinv
      obtain ⟨u9, hinv⟩ := hinv
      obtain ⟨u10, hinv⟩ := hinv
      obtain ⟨u11, hinv⟩ := hinv
      obtain ⟨u12, hinv⟩ := hinv
      obtain ⟨u13, hinv⟩ := hinv
      obtain ⟨u14, hinv⟩ := hinv
      obtain ⟨u15, hinv⟩ := hinv
      obtain ⟨u16, hinv⟩ := hinv
      obtain ⟨u17, hinv⟩ := hinv
      obtain ⟨u18, hinv⟩ := hinv
      obtain ⟨u19, hinv⟩ := hinv
      obtain ⟨u20, hinv⟩ := hinv
      obtain ⟨u21, hinv⟩ := hinv
      obtain ⟨u22, hinv⟩ := hinv
      obtain ⟨u23, hinv⟩ := hinv
      obtain ⟨u24, hinv⟩ := hinv
      obtain ⟨u25, hinv⟩ := hinv
      obtain ⟨u26, hinv⟩ := hinv
      obtain ⟨u27, hinv⟩ := hinv
      obtain ⟨u28, hinv⟩ := hinv
      obtain ⟨u29, hinv⟩ := hinv
      obtain ⟨u30, hinv⟩ := hinv
      obtain ⟨u31, hinv⟩ := hinv
      obtain ⟨u32, hinv⟩ := hinv
      obtain ⟨u33, hinv⟩ := hinv
      obtain ⟨u34, hinv⟩ := hinv
      obtain ⟨u35, hinv⟩ := hinv
      obtain ⟨u36, hinv⟩ := hinv
      obtain ⟨u37, hinv⟩ := hinv
      obtain ⟨u38, hinv⟩ := hinv
      obtain ⟨u39, hinv⟩ := hinv
      obtain ⟨u40, hinv⟩ := hinv
      obtain ⟨u41, hinv⟩ := hinv
      obtain ⟨u42, hinv⟩ := hinv
      obtain ⟨u43, hinv⟩ := hinv
      obtain ⟨u44, hinv⟩ := hinv
      obtain ⟨u45, hinv⟩ := hinv
      obtain ⟨u46, hinv⟩ := hinv
      obtain ⟨u47, hinv⟩ := hinv
      obtain ⟨u48, hinv⟩ := hinv
      obtain ⟨u49, hinv⟩ := hinv
      obtain ⟨u50, hinv⟩ := hinv
      obtain ⟨u51, hinv⟩ := hinv
      obtain ⟨u52, hinv⟩ := hinv
      obtain ⟨u53, hinv⟩ := hinv
      obtain ⟨u54, hinv⟩ := hinv
      obtain ⟨u55, hinv⟩ := hinv
      obtain ⟨u56, hinv⟩ := hinv
      obtain ⟨u57, hinv⟩ := hinv
      obtain ⟨u58, hinv⟩ := hinv
      obtain ⟨u59, hinv⟩ := hinv
      obtain ⟨u60, hinv⟩ := hinv
      obtain ⟨u61, hinv⟩ := hinv
      obtain ⟨u62, hinv⟩ := hinv
      obtain ⟨u63, hinv⟩ := hinv
      obtain ⟨u64, hinv⟩ := hinv
      obtain ⟨u65, hinv⟩ := hinv
      obtain ⟨u66, hinv⟩ := hinv
      obtain ⟨u67, hinv⟩ := hinv
      obtain ⟨u68, hinv⟩ := hinv
      obtain ⟨u69, hinv⟩ := hinv
      obtain ⟨u70, hinv⟩ := hinv
      obtain ⟨u71, hinv⟩ := hinv
      obtain ⟨u72, hinv⟩ := hinv
      obtain ⟨u73, hinv⟩ := hinv
      obtain ⟨u74, hinv⟩ := hinv
      obtain ⟨u75, hinv⟩ := hinv
      obtain ⟨u76, hinv⟩ := hinv
      obtain ⟨u77, hinv⟩ := hinv
      obtain ⟨u78, hinv⟩ := hinv
      obtain ⟨u79, hinv⟩ := hinv
      obtain ⟨u80, hinv⟩ := hinv
      obtain ⟨u81, hinv⟩ := hinv
      obtain ⟨u82, hinv⟩ := hinv
      obtain ⟨u83, hinv⟩ := hinv
      obtain ⟨u84, hinv⟩ := hinv
      obtain ⟨u85, hinv⟩ := hinv
      obtain ⟨u86, hinv⟩ := hinv
      obtain ⟨u87, hinv⟩ := hinv
      obtain ⟨u88, hinv⟩ := hinv
      obtain ⟨u89, hinv⟩ := hinv
      obtain ⟨u90, hinv⟩ := hinv
      obtain ⟨u91, hinv⟩ := hinv
      obtain ⟨u92, hinv⟩ := hinv
      obtain ⟨u93, hinv⟩ := hinv
      obtain ⟨u94, hinv⟩ := hinv
      obtain ⟨u95, hinv⟩ := hinv
      obtain ⟨u96, hinv⟩ := hinv
      obtain ⟨u97, hinv⟩ := hinv
      obtain ⟨u98, hinv⟩ := hinv
      obtain ⟨u99, hinv⟩ := hinv
      obtain ⟨u100, hinv⟩ := hinv
      obtain ⟨u101, hinv⟩ := hinv
      obtain ⟨u102, hinv⟩ := hinv
      obtain ⟨u103, hinv⟩ := hinv
      obtain ⟨u104, hinv⟩ := hinv
      obtain ⟨u105, hinv⟩ := hinv
      obtain ⟨u106, hinv⟩ := hinv
      obtain ⟨u107, hinv⟩ := hinv
      obtain ⟨u108, hinv⟩ := hinv
      obtain ⟨u109, hinv⟩ := hinv
      obtain ⟨u110, hinv⟩ := hinv
      obtain ⟨u111, hinv⟩ := hinv
      obtain ⟨u112, hinv⟩ := hinv
      obtain ⟨u113, hinv⟩ := hinv
      obtain ⟨u114, hinv⟩ := hinv
      obtain ⟨u115, hinv⟩ := hinv
      obtain ⟨u116, hinv⟩ := hinv
      obtain ⟨u117, hinv⟩ := hinv
      obtain ⟨u118, hinv⟩ := hinv
      obtain ⟨u119, hinv⟩ := hinv
      obtain ⟨u120, hinv⟩ := hinv
      obtain ⟨u121, hinv⟩ := hinv
      obtain ⟨u122, hinv⟩ := hinv
      obtain ⟨u123, hinv⟩ := hinv
      obtain ⟨u124, hinv⟩ := hinv
      obtain ⟨u125, hinv⟩ := hinv
      obtain ⟨u126, hinv⟩ := hinv
      obtain ⟨u127, hinv⟩ := hinv
      obtain ⟨u128, hinv⟩ := hinv
      obtain ⟨u129, hinv⟩ := hinv
      obtain ⟨u130, hinv⟩ := hinv
      obtain ⟨u131, hinv⟩ := hinv
      obtain ⟨u132, hinv⟩ := hinv
      obtain ⟨u133, hinv⟩ := hinv
      obtain ⟨u134, hinv⟩ := hinv
      obtain ⟨u135, hinv⟩ := hinv
      obtain ⟨u136, hinv⟩ := hinv
      obtain ⟨u137, hinv⟩ := hinv
      obtain ⟨u138, hinv⟩ := hinv
      obtain ⟨u139, hinv⟩ := hinv
      obtain ⟨u140, hinv⟩ := hinv
      obtain ⟨u141, hinv⟩ := hinv
      obtain ⟨u142, hinv⟩ := hinv
      obtain ⟨u143, hinv⟩ := hinv
      obtain ⟨u144, hinv⟩ := hinv
      obtain ⟨u145, hinv⟩ := hinv
      obtain ⟨u146, hinv⟩ := hinv
      obtain ⟨u147, hinv⟩ := hinv
      obtain ⟨u148, hinv⟩ := hinv
      obtain ⟨u149, hinv⟩ := hinv
      obtain ⟨u150, hinv⟩ := hinv
      obtain ⟨u151, hinv⟩ := hinv
      obtain ⟨u152, hinv⟩ := hinv
      obtain ⟨u153, hinv⟩ := hinv
      obtain ⟨u154, hinv⟩ := hinv
      obtain ⟨u155, hinv⟩ := hinv
      obtain ⟨u156, hinv⟩ := hinv
      obtain ⟨u157, hinv⟩ := hinv
      obtain ⟨u158, hinv⟩ := hinv
      obtain ⟨u159, hinv⟩ := hinv
      obtain ⟨u160, hinv⟩ := hinv
      obtain ⟨u161, hinv⟩ := hinv
      obtain ⟨u162, hinv⟩ := hinv
      obtain ⟨u163, hinv⟩ := hinv
      obtain ⟨u164, hinv⟩ := hinv
      obtain ⟨u165, hinv⟩ := hinv
      obtain ⟨u166, hinv⟩ := hinv
      obtain ⟨u167, hinv⟩ := hinv
      obtain ⟨u168, hinv⟩ := hinv
      obtain ⟨u169, hinv⟩ := hinv
      obtain ⟨u170, hinv⟩ := hinv
      obtain ⟨u171, hinv⟩ := hinv
      obtain ⟨u172, hinv⟩ := hinv
      obtain ⟨u173, hinv⟩ := hinv
      obtain ⟨u174, hinv⟩ := hinv
      obtain ⟨u175, hinv⟩ := hinv
      obtain ⟨u176, hinv⟩ := hinv
      obtain ⟨u177, hinv⟩ := hinv
      obtain ⟨u178, hinv⟩ := hinv
      obtain ⟨u179, hinv⟩ := hinv
      obtain ⟨u180, hinv⟩ := hinv
      obtain ⟨u181, hinv⟩ := hinv
      obtain ⟨u182, hinv⟩ := hinv
      obtain ⟨u183, hinv⟩ := hinv
      obtain ⟨u184, hinv⟩ := hinv
      obtain ⟨u185, hinv⟩ := hinv
      obtain ⟨u186, hinv⟩ := hinv
      obtain ⟨u187, hinv⟩ := hinv
      obtain ⟨u188, hinv⟩ := hinv
      obtain ⟨u189, hinv⟩ := hinv
      obtain ⟨u190, hinv⟩ := hinv
      obtain ⟨u191, hinv⟩ := hinv
      obtain ⟨u192, hinv⟩ := hinv
      obtain ⟨u193, hinv⟩ := hinv
      obtain ⟨u194, hinv⟩ := hinv
      obtain ⟨u195, hinv⟩ := hinv
      obtain ⟨u196, hinv⟩ := hinv
      obtain ⟨u197, hinv⟩ := hinv
      obtain ⟨u198, hinv⟩ := hinv
      obtain ⟨u199, hinv⟩ := hinv
      obtain ⟨u200, hinv⟩ := hinv
      obtain ⟨u201, hinv⟩ := hinv
      obtain ⟨u202, hinv⟩ := hinv
      obtain ⟨u203, hinv⟩ := hinv
      obtain ⟨u204, hinv⟩ := hinv
      obtain ⟨u205, hinv⟩ := hinv
      obtain ⟨u206, hinv⟩ := hinv
      obtain ⟨u207, hinv⟩ := hinv
      obtain ⟨u208, hinv⟩ := hinv
      obtain ⟨u209, hinv⟩ := hinv
      obtain ⟨u210, hinv⟩ := hinv
      obtain ⟨u211, hinv⟩ := hinv
      obtain ⟨u212, hinv⟩ := hinv
      obtain ⟨u213, hinv⟩ := hinv
      obtain ⟨u214, hinv⟩ := hinv
      obtain ⟨u215, hinv⟩ := hinv
      obtain ⟨u216, hinv⟩ := hinv
      obtain ⟨u217, hinv⟩ := hinv
      obtain ⟨u218, hinv⟩ := hinv
      obtain ⟨u219, hinv⟩ := hinv
      obtain ⟨u220, hinv⟩ := hinv
      obtain ⟨u221, hinv⟩ := hinv
      obtain ⟨u222, hinv⟩ := hinv
      obtain ⟨u223, hinv⟩ := hinv
      obtain ⟨u224, hinv⟩ := hinv
      obtain ⟨u225, hinv⟩ := hinv
      obtain ⟨u226, hinv⟩ := hinv
      obtain ⟨u227, hinv⟩ := hinv
      obtain ⟨u228, hinv⟩ := hinv
      obtain ⟨u229, hinv⟩ := hinv
      obtain ⟨u230, hinv⟩ := hinv
      obtain ⟨u231, hinv⟩ := hinv
      obtain ⟨u232, hinv⟩ := hinv
      obtain ⟨u233, hinv⟩ := hinv
      obtain ⟨hrel, ha⟩ := hinv
      subst ha
      obtain ⟨i, jb, S, hi, h6, h8, HP⟩ := hrel
      subst h6
      subst h8
      clear ib
      have HRW : Hid (∀ W, Below V.heap.size V W → W.heap[rb]? = some (.cells (gvc a (.slice pn nl cn) (.slice pe el ce)) 25 (0, 0))) := fun W hb => (hb.block _ (tk_lt T5.out.2.1)).trans T5.out.2.1
      have HRS : Hid (∀ W, Below V.heap.size V W → W.heap[ob]? = some (.cells #[.bool false] 4 (0, 0))) := fun W hb => (hb.block _ (tk_lt T5.out.2.2)).trans T5.out.2.2
      have HGV := hid (fun (W : World) (hb : Below V.heap.size V W) => ((HG.out.below T5.out.1).up T5.out.1.size).below hb)
      have HMV := hid (fun (W : World) (hb : Below V.heap.size V W) => GV.out.below hb)
      have hnl : nl ≤ 24 := by have h := HOK.out.nl; simp at h; have := HNL.out; omega
      have cx := (tk_store (HRW.out wr HP.out.1.bl)).1
      have lx := tk_lt (HRW.out wr HP.out.1.bl)
      have ci0 : wr.cell? ⟨jb, 0, none⟩ = some (.int .i64 (i : Nat)) := (tk_store HP.out.1.ibx).1 0
      have li0 := tk_lt HP.out.1.ibx
      by_cases hlt : i < nl
      · have hltz : (i : Int) < (nl : Int) := by omega
        have hi0 : (0 : Int) ≤ (i : Int) := by omega
        obtain ⟨y, hy⟩ : ∃ y, xs[i]? = some y := ⟨xs[i]'(by have := HNL.out; omega), by simp⟩
        have hyn : (gof a xs es).nodes[i]? = some y.n := by show (xs.map NV.n)[i]? = _; rw [List.getElem?_map, hy]; rfl
        have HYN := hid hyn
        obtain ⟨pi1, pi2, po1, po2⟩ := HOK.out.pok y.n (List.mem_of_getElem? hyn)
        obtain ⟨ci, hci⟩ : ∃ n : Nat, y.n.ins = (n : Int) := ⟨y.n.ins.toNat, by omega⟩
        obtain ⟨co, hco⟩ : ∃ n : Nat, y.n.outs = (n : Int) := ⟨y.n.outs.toNat, by omega⟩
        have hci4 : ci ≤ 4 := by omega
        have hco4 : co ≤ 4 := by omega
        have HCC : Hid (y.n.ins = (ci : Int) ∧ y.n.outs = (co : Int)) := ⟨hci, hco⟩
        have NDC : Hid (∃ b1 o1, pn = some ⟨b1, o1, none⟩ ∧ ∀ W, Below V.heap.size V W → b1 < W.heap.size ∧ W.cell? ⟨b1, o1 + i * 10 + 1, none⟩ = some (.int .i64 (ci : Nat)) ∧ W.cell? ⟨b1, o1 + i * 10 + 2, none⟩ = some (.int .i64 (co : Nat))) := by
          obtain ⟨b1, o1, q1, ev1, zz1, x0, x1, x2, -⟩ := ls_atV ((HGV.out V (Below.refl _ _)).nodes.ls hy) hy
          simp only [Value.slice.injEq] at ev1
          refine ⟨b1, o1, ev1.1, fun W hb => ?_⟩
          obtain ⟨b2, o2, q2, ev2, zz2, y0, y1, y2, -⟩ := ls_atV ((HGV.out W hb).nodes.ls hy) hy
          simp only [Value.slice.injEq] at ev2
          have h3 := ev1.1.symm.trans ev2.1
          simp only [Option.some.injEq, Addr.mk.injEq] at h3
          obtain ⟨rfl, rfl, -⟩ := h3
          rw [hci] at y1
          rw [hco] at y2
          exact ⟨zz2, y1, y2⟩
        obtain ⟨b1, o1, hpn, hnd⟩ := NDC.out
        subst hpn
        have HND := hid hnd
        clear hy hyn pi1 pi2 po1 po2 hci hco NDC hnd
        go_wp2_with fail
        clear cx lx ci0 li0
        have HIA : Hid (iAt (.pointer (some ⟨jb, 0, none⟩)) wr = i) := iAt_of HP.out.1.ibx
        refine wp_loop (fun a' w' => ∃ (Ds : List Nat) (u0 u4 u5 u6 u9 u10 u11 u12 u13 u14 u15 u16 u17 u18 u19 u20 u21 u22 u23 u24 u25 u26 u27 u28 u29 u30 u31 u32 u33 u34 u35 u36 u37 u38 u39 u40 u41 u42 u43 u44 u45 u46 u47 u48 u49 u50 u51 u52 u53 u54 u55 u56 u57 u58 u59 u60 u61 u62 u63 u64 u65 u66 u67 u68 u69 u70 u71 u72 u73 u74 u75 u76 u77 u78 u79 u80 u81 u82 u83 u84 u85 u86 u87 u88 u89 u90 u91 u92 u93 u94 u95 u96 u97 u98 u99 u100 u101 u102 u103 u104 u105 u106 u107 u108 u109 u110 u111 u112 u113 u114 u115 u116 u117 u118 u119 u120 u121 u122 u123 u124 u125 u126 u127 u128 u129 u130 u131 u132 u133 u134 u135 u136 u137 u138 u139 u140 u141 u142 u143 u144 u145 u146 u147 u148 u149 u150 u151 u152 u153 u154 u155 u156 u157 u158 u159 u160 u161 u162 u163 u164 u165 u166 u167 u168 u169 u170 u171 u172 u173 u174 u175 u176 u177 u178 u179 u180 u181 u182 u183 u184 u185 u186 u187 u188 u189 u190 u191 u192 u193 u194 u195 u196 u197 u198 u199 u200 u201 u202 u203 u204 u205 u206 u207 u208 u209 u210 u211 u212 u213 u214 u215 u216 u217 u218 u219 u220 u221 u222 u223 u224 u225 u226 u227 u228 u229 u230 u231 u232 u233 : Value), (∃ (k nx : Nat) (S : List Int), k ≤ ci + co ∧ u9 = .int .i64 (k : Nat) ∧ u6 = .int .i64 (nx : Nat) ∧ Hid (nx = firstN (xs.map NV.n) i + k) ∧ Hid (Pw V Ds w' jb s7 q el el (i : Nat) S ∧ Sn (xs.map NV.n) es nx [] S)) ∧ a' = { tmps := #[u0, .pointer (some ⟨rb, 0, none⟩), .pointer (some ⟨ob, 0, none⟩), .pointer (some ⟨gb, 0, none⟩), u4, u5, u6, .pointer (some ⟨s7, 0, none⟩), .pointer (some ⟨jb, 0, none⟩), u9, u10, u11, u12, u13, u14, u15, u16, u17, u18, u19, u20, u21, u22, u23, u24, u25, u26, u27, u28, u29, u30, u31, u32, u33, u34, u35, u36, u37, u38, u39, u40, u41, u42, u43, u44, u45, u46, u47, u48, u49, u50, u51, u52, u53, u54, u55, u56, u57, u58, u59, u60, u61, u62, u63, u64, u65, u66, u67, u68, u69, u70, u71, u72, u73, u74, u75, u76, u77, u78, u79, u80, u81, u82, u83, u84, u85, u86, u87, u88, u89, u90, u91, u92, u93, u94, u95, u96, u97, u98, u99, u100, u101, u102, u103, u104, u105, u106, u107, u108, u109, u110, u111, u112, u113, u114, u115, u116, u117, u118, u119, u120, u121, u122, u123, u124, u125, u126, u127, u128, u129, u130, u131, u132, u133, u134, u135, u136, u137, u138, u139, u140, u141, u142, u143, u144, u145, u146, u147, u148, u149, u150, u151, u152, u153, u154, u155, u156, u157, u158, u159, u160, u161, u162, u163, u164, u165, u166, u167, u168, u169, u170, u171, u172, u173, u174, u175, u176, u177, u178, u179, u180, u181, u182, u183, u184, u185, u186, u187, u188, u189, u190, u191, u192, u193, u194, u195, u196, u197, u198, u199, u200, u201, u202, u203, u204, u205, u206, u207, u208, u209, u210, u211, u212, u213, u214, u215, u216, u217, u218, u219, u220, u221, u222, u223, u224, u225, u226, u227, u228, u229, u230, u231, u232, u233], defers := Ds.map mkD }) (fun a' _ => ci + co - (RowKit.intOf (a'.tmps.getD 9 undef)).toNat) ?start2 ?round2
        case start2 =>
          refine ⟨Ds, ?_⟩
          (repeat apply Exists.intro)
          refine ⟨?_, rfl⟩
          exact ⟨0, _, S, Nat.zero_le _, rfl, rfl, rfl, HP.out.1, HP.out.2⟩
        case round2 => as_aux_lemma =>
          clear HP
          intro a' wr hinv
          obtain ⟨Ds, hinv⟩ := hinv
          obtain ⟨u0, hinv⟩ := hinv
          obtain ⟨u4, hinv⟩ := hinv
          obtain ⟨u5, hinv⟩ := hinv
          obtain ⟨u6, hinv⟩ := hinv
          obtain ⟨u9, hinv⟩ := hinv
          obtain ⟨u10, hinv⟩ := hinv
          obtain ⟨u11, hinv⟩ := hinv
          obtain ⟨u12, hinv⟩ := hinv
          obtain ⟨u13, hinv⟩ := hinv
          obtain ⟨u14, hinv⟩ := hinv
          obtain ⟨u15, hinv⟩ := hinv
          obtain ⟨u16, hinv⟩ := hinv
          obtain ⟨u17, hinv⟩ := hinv
          obtain ⟨u18, hinv⟩ := hinv
          obtain ⟨u19, hinv⟩ := hinv
          obtain ⟨u20, hinv⟩ := hinv
          obtain ⟨u21, hinv⟩ := hinv
          obtain ⟨u22, hinv⟩ := hinv
          obtain ⟨u23, hinv⟩ := hinv
          obtain ⟨u24, hinv⟩ := hinv
          obtain ⟨u25, hinv⟩ := hinv
          obtain ⟨u26, hinv⟩ := hinv
          obtain ⟨u27, hinv⟩ := hinv
          obtain ⟨u28, hinv⟩ := hinv
          obtain ⟨u29, hinv⟩ := hinv
          obtain ⟨u30, hinv⟩ := hinv
          obtain ⟨u31, hinv⟩ := hinv
          obtain ⟨u32, hinv⟩ := hinv
          obtain ⟨u33, hinv⟩ := hinv
          obtain ⟨u34, hinv⟩ := hinv
          obtain ⟨u35, hinv⟩ := hinv
          obtain ⟨u36, hinv⟩ := hinv
          obtain ⟨u37, hinv⟩ := hinv
          obtain ⟨u38, hinv⟩ := hinv
          obtain ⟨u39, hinv⟩ := hinv
          obtain ⟨u40, hinv⟩ := hinv
          obtain ⟨u41, hinv⟩ := hinv
          obtain ⟨u42, hinv⟩ := hinv
          obtain ⟨u43, hinv⟩ := hinv
          obtain ⟨u44, hinv⟩ := hinv
          obtain ⟨u45, hinv⟩ := hinv
          obtain ⟨u46, hinv⟩ := hinv
          obtain ⟨u47, hinv⟩ := hinv
          obtain ⟨u48, hinv⟩ := hinv
          obtain ⟨u49, hinv⟩ := hinv
          obtain ⟨u50, hinv⟩ := hinv
          obtain ⟨u51, hinv⟩ := hinv
          obtain ⟨u52, hinv⟩ := hinv
          obtain ⟨u53, hinv⟩ := hinv
          obtain ⟨u54, hinv⟩ := hinv
          obtain ⟨u55, hinv⟩ := hinv
          obtain ⟨u56, hinv⟩ := hinv
          obtain ⟨u57, hinv⟩ := hinv
          obtain ⟨u58, hinv⟩ := hinv
          obtain ⟨u59, hinv⟩ := hinv
          obtain ⟨u60, hinv⟩ := hinv
          obtain ⟨u61, hinv⟩ := hinv
          obtain ⟨u62, hinv⟩ := hinv
          obtain ⟨u63, hinv⟩ := hinv
          obtain ⟨u64, hinv⟩ := hinv
          obtain ⟨u65, hinv⟩ := hinv
          obtain ⟨u66, hinv⟩ := hinv
          obtain ⟨u67, hinv⟩ := hinv
          obtain ⟨u68, hinv⟩ := hinv
          obtain ⟨u69, hinv⟩ := hinv
          obtain ⟨u70, hinv⟩ := hinv
          obtain ⟨u71, hinv⟩ := hinv
          obtain ⟨u72, hinv⟩ := hinv
          obtain ⟨u73, hinv⟩ := hinv
          obtain ⟨u74, hinv⟩ := hinv
          obtain ⟨u75, hinv⟩ := hinv
          obtain ⟨u76, hinv⟩ := hinv
          obtain ⟨u77, hinv⟩ := hinv
          obtain ⟨u78, hinv⟩ := hinv
          obtain ⟨u79, hinv⟩ := hinv
          obtain ⟨u80, hinv⟩ := hinv
          obtain ⟨u81, hinv⟩ := hinv
          obtain ⟨u82, hinv⟩ := hinv
          obtain ⟨u83, hinv⟩ := hinv
          obtain ⟨u84, hinv⟩ := hinv
          obtain ⟨u85, hinv⟩ := hinv
          obtain ⟨u86, hinv⟩ := hinv
          obtain ⟨u87, hinv⟩ := hinv
          obtain ⟨u88, hinv⟩ := hinv
          obtain ⟨u89, hinv⟩ := hinv
          obtain ⟨u90, hinv⟩ := hinv
          obtain ⟨u91, hinv⟩ := hinv
          obtain ⟨u92, hinv⟩ := hinv
          obtain ⟨u93, hinv⟩ := hinv
          obtain ⟨u94, hinv⟩ := hinv
          obtain ⟨u95, hinv⟩ := hinv
          obtain ⟨u96, hinv⟩ := hinv
          obtain ⟨u97, hinv⟩ := hinv
          obtain ⟨u98, hinv⟩ := hinv
          obtain ⟨u99, hinv⟩ := hinv
          obtain ⟨u100, hinv⟩ := hinv
          obtain ⟨u101, hinv⟩ := hinv
          obtain ⟨u102, hinv⟩ := hinv
          obtain ⟨u103, hinv⟩ := hinv
          obtain ⟨u104, hinv⟩ := hinv
          obtain ⟨u105, hinv⟩ := hinv
          obtain ⟨u106, hinv⟩ := hinv
          obtain ⟨u107, hinv⟩ := hinv
          obtain ⟨u108, hinv⟩ := hinv
          obtain ⟨u109, hinv⟩ := hinv
          obtain ⟨u110, hinv⟩ := hinv
          obtain ⟨u111, hinv⟩ := hinv
          obtain ⟨u112, hinv⟩ := hinv
          obtain ⟨u113, hinv⟩ := hinv
          obtain ⟨u114, hinv⟩ := hinv
          obtain ⟨u115, hinv⟩ := hinv
          obtain ⟨u116, hinv⟩ := hinv
          obtain ⟨u117, hinv⟩ := hinv
          obtain ⟨u118, hinv⟩ := hinv
          obtain ⟨u119, hinv⟩ := hinv
          obtain ⟨u120, hinv⟩ := hinv
          obtain ⟨u121, hinv⟩ := hinv
          obtain ⟨u122, hinv⟩ := hinv
          obtain ⟨u123, hinv⟩ := hinv
          obtain ⟨u124, hinv⟩ := hinv
          obtain ⟨u125, hinv⟩ := hinv
          obtain ⟨u126, hinv⟩ := hinv
          obtain ⟨u127, hinv⟩ := hinv
          obtain ⟨u128, hinv⟩ := hinv
          obtain ⟨u129, hinv⟩ := hinv
          obtain ⟨u130, hinv⟩ := hinv
          obtain ⟨u131, hinv⟩ := hinv
          obtain ⟨u132, hinv⟩ := hinv
          obtain ⟨u133, hinv⟩ := hinv
          obtain ⟨u134, hinv⟩ := hinv
          obtain ⟨u135, hinv⟩ := hinv
          obtain ⟨u136, hinv⟩ := hinv
          obtain ⟨u137, hinv⟩ := hinv
          obtain ⟨u138, hinv⟩ := hinv
          obtain ⟨u139, hinv⟩ := hinv
          obtain ⟨u140, hinv⟩ := hinv
          obtain ⟨u141, hinv⟩ := hinv
          obtain ⟨u142, hinv⟩ := hinv
          obtain ⟨u143, hinv⟩ := hinv
          obtain ⟨u144, hinv⟩ := hinv
          obtain ⟨u145, hinv⟩ := hinv
          obtain ⟨u146, hinv⟩ := hinv
          obtain ⟨u147, hinv⟩ := hinv
          obtain ⟨u148, hinv⟩ := hinv
          obtain ⟨u149, hinv⟩ := hinv
          obtain ⟨u150, hinv⟩ := hinv
          obtain ⟨u151, hinv⟩ := hinv
          obtain ⟨u152, hinv⟩ := hinv
          obtain ⟨u153, hinv⟩ := hinv
          obtain ⟨u154, hinv⟩ := hinv
          obtain ⟨u155, hinv⟩ := hinv
          obtain ⟨u156, hinv⟩ := hinv
          obtain ⟨u157, hinv⟩ := hinv
          obtain ⟨u158, hinv⟩ := hinv
          obtain ⟨u159, hinv⟩ := hinv
          obtain ⟨u160, hinv⟩ := hinv
          obtain ⟨u161, hinv⟩ := hinv
          obtain ⟨u162, hinv⟩ := hinv
          obtain ⟨u163, hinv⟩ := hinv
          obtain ⟨u164, hinv⟩ := hinv
          obtain ⟨u165, hinv⟩ := hinv
          obtain ⟨u166, hinv⟩ := hinv
          obtain ⟨u167, hinv⟩ := hinv
          obtain ⟨u168, hinv⟩ := hinv
          obtain ⟨u169, hinv⟩ := hinv
          obtain ⟨u170, hinv⟩ := hinv
          obtain ⟨u171, hinv⟩ := hinv
          obtain ⟨u172, hinv⟩ := hinv
          obtain ⟨u173, hinv⟩ := hinv
          obtain ⟨u174, hinv⟩ := hinv
          obtain ⟨u175, hinv⟩ := hinv
          obtain ⟨u176, hinv⟩ := hinv
          obtain ⟨u177, hinv⟩ := hinv
          obtain ⟨u178, hinv⟩ := hinv
          obtain ⟨u179, hinv⟩ := hinv
          obtain ⟨u180, hinv⟩ := hinv
          obtain ⟨u181, hinv⟩ := hinv
          obtain ⟨u182, hinv⟩ := hinv
          obtain ⟨u183, hinv⟩ := hinv
          obtain ⟨u184, hinv⟩ := hinv
          obtain ⟨u185, hinv⟩ := hinv
          obtain ⟨u186, hinv⟩ := hinv
          obtain ⟨u187, hinv⟩ := hinv
          obtain ⟨u188, hinv⟩ := hinv
          obtain ⟨u189, hinv⟩ := hinv
          obtain ⟨u190, hinv⟩ := hinv
          obtain ⟨u191, hinv⟩ := hinv
          obtain ⟨u192, hinv⟩ := hinv
          obtain ⟨u193, hinv⟩ := hinv
          obtain ⟨u194, hinv⟩ := hinv
          obtain ⟨u195, hinv⟩ := hinv
          obtain ⟨u196, hinv⟩ := hinv
          obtain ⟨u197, hinv⟩ := hinv
          obtain ⟨u198, hinv⟩ := hinv
          obtain ⟨u199, hinv⟩ := hinv
          obtain ⟨u200, hinv⟩ := hinv
          obtain ⟨u201, hinv⟩ := hinv
          obtain ⟨u202, hinv⟩ := hinv
          obtain ⟨u203, hinv⟩ := hinv
          obtain ⟨u204, hinv⟩ := hinv
          obtain ⟨u205, hinv⟩ := hinv
          obtain ⟨u206, hinv⟩ := hinv
          obtain ⟨u207, hinv⟩ := hinv
          obtain ⟨u208, hinv⟩ := hinv
          obtain ⟨u209, hinv⟩ := hinv
          obtain ⟨u210, hinv⟩ := hinv
          obtain ⟨u211, hinv⟩ := hinv
          obtain ⟨u212, hinv⟩ := hinv
          obtain ⟨u213, hinv⟩ := hinv
          obtain ⟨u214, hinv⟩ := hinv
          obtain ⟨u215, hinv⟩ := hinv
          obtain ⟨u216, hinv⟩ := hinv
          obtain ⟨u217, hinv⟩ := hinv
          obtain ⟨u218, hinv⟩ := hinv
          obtain ⟨u219, hinv⟩ := hinv
          obtain ⟨u220, hinv⟩ := hinv
          obtain ⟨u221, hinv⟩ := hinv
          obtain ⟨u222, hinv⟩ := hinv
          obtain ⟨u223, hinv⟩ := hinv
          obtain ⟨u224, hinv⟩ := hinv
          obtain ⟨u225, hinv⟩ := hinv
          obtain ⟨u226, hinv⟩ := hinv
          obtain ⟨u227, hinv⟩ := hinv
          obtain ⟨u228, hinv⟩ := hinv
          obtain ⟨u229, hinv⟩ := hinv
          obtain ⟨u230, hinv⟩ := hinv
          obtain ⟨u231, hinv⟩ := hinv
          obtain ⟨u232, hinv⟩ := hinv
          obtain ⟨u233, hinv⟩ := hinv
          obtain ⟨hrel, ha⟩ := hinv
          subst ha
          obtain ⟨k, nx, S, hk, h9, h6, HX, HP⟩ := hrel
          subst h9
          subst h6
          have cx := (tk_store (HRW.out wr HP.out.1.bl)).1
          have lx := tk_lt (HRW.out wr HP.out.1.bl)
          have ci0 : wr.cell? ⟨jb, 0, none⟩ = some (.int .i64 (i : Nat)) := (tk_store HP.out.1.ibx).1 0
          have li0 := tk_lt HP.out.1.ibx
          obtain ⟨z1, x1, x2⟩ := HND.out wr HP.out.1.bl
          by_cases hlk : k < ci + co
          · have hlkz : (k : Int) < (ci : Int) + (co : Int) := by omega
            have hin0 : Hid (∀ W, Below V.heap.size V W → Calls Try.prog 8 #[.pointer (some ⟨gb, 0, none⟩), .int .i64 (i : Nat), .int .i64 (k : Nat)] W fun r w' => r = .returned (.int .i64 (inN (xs.map NV.n) (i : Nat) (k : Nat))) ∧ w' = W) := fun W hb => gin_any _ _ W (HMV.out W hb)
            have hof0 : Hid (∀ W, Below V.heap.size V W → Calls Try.prog 10 #[.pointer (some ⟨gb, 0, none⟩), .int .i64 (nx : Nat)] W fun r w' => r = .returned (.tuple #[.int .i64 (ofN (xs.map NV.n) (nx : Nat)).1, .int .i64 (ofN (xs.map NV.n) (nx : Nat)).2.1, .bool (ofN (xs.map NV.n) (nx : Nat)).2.2]) ∧ Gr W w') := fun W hb => gof_any _ W (HMV.out W hb)
            have HSN := hid HP.out.2
            go_wp2_with fail
            go_quiet (fail)
            have P1 : Hid (Pw V Ds (wr.drewN nq) jb s7 q el el (i : Nat) S) := HP.out.1.below ((Gr.refl wr).drewN nq).below
            generalize wr.drewN nq = w1 at P1 ⊢
            clear cx lx ci0 li0 z1 x1 x2 HP
            have cx := (tk_store (HRW.out w1 P1.out.bl)).1
            have lx := tk_lt (HRW.out w1 P1.out.bl)
            have ci0 : w1.cell? ⟨jb, 0, none⟩ = some (.int .i64 (i : Nat)) := (tk_store P1.out.ibx).1 0
            have li0 := tk_lt P1.out.ibx
            obtain ⟨z1, x1, x2⟩ := HND.out w1 P1.out.bl
            have PALL : Hid (∀ o1 o2 : Obj, Below V.heap.size V ((w1.alloc o1).alloc o2)) := fun o1 o2 => P1.out.bl.trans ((((Gr.refl w1).alloc o1).alloc o2).below.mono P1.out.bl.size)
            by_cases hin : k < ci
            · as_aux_lemma =>
              have hinz : (k : Int) < (ci : Int) := by omega
              have HQ : Hid (inN (xs.map NV.n) (i : Nat) (k : Nat) = (nx : Nat) ∧ ofN (xs.map NV.n) (nx : Nat) = ((i : Int), (k : Int), true) ∧ (spotsU (gof a xs es).nodes (gof a xs es).nodes.length)[nx]? = some (i, k, true) ∧ nx < plN (gof a xs es).nodes) := by
                have h1 : inN (xs.map NV.n) (i : Nat) (k : Nat) = (nx : Nat) := by rw [inN_at HYN.out HCC.out.1 hin, HX.out]
                have h2 := HYN.out
                have h3 := spots_in (m := (gof a xs es).nodes.length) (p := k) h2 (List.getElem?_eq_some_iff.1 h2).1 (by have := HCC.out.1; omega)
                rw [← show nx = firstN (gof a xs es).nodes i + k from HX.out] at h3
                exact ⟨h1, ofN_inP (by omega) h1, h3, (List.getElem?_eq_some_iff.1 h3).1⟩
              rw [HQ.out.1] at hin0
              rw [HQ.out.2.1] at hof0
              go_wp2_with fail
              refine (hin0.out _ (PALL.out _ _)).mono ?_
              rintro r w3 ⟨rfl, hw3⟩
              subst hw3
              go_wp2_with fail
              refine (hof0.out _ (PALL.out _ _)).mono ?_
              rintro r w4 ⟨rfl, g4⟩
              have X4 : Hid (Gr ((w1.alloc (.cells #[.int .i64 (k : Nat)] 3)).alloc (.cells #[.bool true] 4)) w4) := g4
              clear g4
              have P4 : Hid (Pw V Ds w4 jb s7 q el el (i : Nat) S ∧ w4.heap[w1.heap.size]? = some (.cells #[.int .i64 (k : Nat)] 3 (0, 0)) ∧ w4.heap[w1.heap.size + 1]? = some (.cells #[.bool true] 4 (0, 0)) ∧ w1.heap.size + 2 ≤ w4.heap.size) := by
                have g1 := ((Gr.refl w1).alloc (.cells #[.int .i64 (k : Nat)] 3)).alloc (.cells #[.bool true] 4)
                refine ⟨(P1.out.below g1.below).below X4.out.below, (X4.out.below.block _ (tk_lt (new1 w1 _ _))).trans (new1 w1 _ _), (X4.out.below.block _ (tk_lt (new2 w1 _ _))).trans (new2 w1 _ _), ?_⟩
                have := X4.out.size
                simp at this
                omega
              have P1L : Hid (jb < w1.heap.size ∧ s7 < w1.heap.size ∧ ∀ k, (Value.slice q el el).ownBlock = some k → k < w1.heap.size) := ⟨tk_lt P1.out.ibx, tk_lt P1.out.sbx, fun k e => (owns_rd P1.out.row k e).2⟩
              obtain ⟨pb, hpb⟩ : ∃ b, b = w1.heap.size := ⟨_, rfl⟩
              obtain ⟨nb, hnb⟩ : ∃ b, b = w1.heap.size + 1 := ⟨_, rfl⟩
              rw [← hpb] at P4 P1L ⊢
              rw [hpb, ← hnb, ← hpb] at P4
              rw [hpb, ← hnb, ← hpb]
              have HNB : Hid (nb = pb + 1 ∧ V.heap.size ≤ pb) := ⟨by rw [hnb, hpb], by rw [hpb]; exact P1.out.bl.size⟩
              clear hpb hnb X4 P1 cx lx ci0 li0 z1 x1 x2 PALL
              have cb1 : w4.cell? ⟨jb, 0, none⟩ = some (.int .i64 (i : Nat)) := (tk_store P4.out.1.ibx).1 0
              have cb2 : w4.cell? ⟨pb, 0, none⟩ = some (.int .i64 (k : Nat)) := (tk_store P4.out.2.1).1 0
              have cb3 : w4.cell? ⟨nb, 0, none⟩ = some (.bool true) := (tk_store P4.out.2.2.1).1 0
              have lb1 := tk_lt P4.out.1.ibx
              have lb2 := tk_lt P4.out.2.1
              have lb3 := tk_lt P4.out.2.2.1
              have hnx : nx ≤ 1000 := by
                have h1 : firstN (xs.map NV.n) (xs.map NV.n).length ≤ 8 * (xs.map NV.n).length := firstN_le HOK.out.pok _
                have h2 : nx < firstN (xs.map NV.n) (xs.map NV.n).length := HQ.out.2.2.2
                have h3 : (xs.map NV.n).length ≤ 24 := HOK.out.nl
                omega
              go_upto_region 25 with fail
              obtain ⟨lb, hlb⟩ : ∃ b, b = w4.heap.size := ⟨_, rfl⟩
              obtain ⟨w5, hw5⟩ : ∃ W, W = w4.alloc (.cells #[.int .i64 (-1)] 3) := ⟨_, rfl⟩
              have P5 : Hid (Pb V Ds w5 jb s7 q el el (i : Nat) S pb nb lb (k : Nat) true (-1)) := by
                have g := (Gr.refl w4).alloc (.cells #[.int .i64 (-1)] 3)
                have hn := HNB.out
                have h1 := P1L.out
                have h4 := P4.out.2.2.2
                rw [hw5, hlb]
                exact ⟨P4.out.1.below g.below, (g.below.block _ (tk_lt P4.out.2.1)).trans P4.out.2.1, (g.below.block _ (tk_lt P4.out.2.2.1)).trans P4.out.2.2.1, heap_new' _ _, by omega, by omega, by omega, fun k e e2 => by have := h1.2.2 k e; omega, fun k e e2 => by have := h1.2.2 k e; omega, by omega, by omega⟩
              have HW5 : Hid (w4.alloc (.cells #[.int .i64 (-1)] 3) = w5 ∧ w4.heap.size = lb) := ⟨hw5.symm, hlb.symm⟩
              rw [HW5.out.1, HW5.out.2]
              clear HW5 hw5 hlb cb1 cb2 cb3 lb1 lb2 lb3 P4 P1L
              go_wp2_with fail
              refine (callsIn_wide.1 (edges_in (n := 4) (nx : Int) w5)).mono ?_
              rintro r w6 ⟨rfl, hw6⟩
              obtain ⟨gx, hgx⟩ : ∃ b, b = w5.heap.size := ⟨_, rfl⟩
              obtain ⟨qx, hqx⟩ : ∃ b, b = w5.heap.size + 1 := ⟨_, rfl⟩
              have P6 : Hid (Pb V Ds w6 jb s7 q el el (i : Nat) S pb nb lb (k : Nat) true (-1) ∧ w6.cell? ⟨qx, 0, none⟩ = some (.int .i64 (nx : Nat)) ∧ w6.cell? ⟨gx, 0, none⟩ = some (.pointer (some ⟨gb, 0, none⟩)) ∧ qx < w6.heap.size ∧ gx < w6.heap.size) := by
                rw [hw6, hgx, hqx]
                exact ⟨P5.out.below (((Gr.refl w5).alloc _).alloc _).below, (tk_store (new2 w5 _ _)).1 0, (tk_store (new1 w5 _ _)).1 0, tk_lt (new2 w5 _ _), tk_lt (new1 w5 _ _)⟩
              rw [← hqx, ← hgx]
              clear hw6 hgx hqx P5
              go_wp2_with fail
              obtain ⟨L, hL⟩ : ∃ L, L = edN (gof a xs es) (nx : Int) := ⟨_, rfl⟩
              have HL : Hid (L = edgesU (xs.map NV.n) es nx es.length) := by show _ = _; rw [hL]; exact edN_eq HQ.out.2.2.2
              have hstops := edges_stops 3 (by decide) qx gx (nx : Int) V V.heap.size GV.out (Nat.le_refl _) w6 P6.out.1.pw.bl P6.out.2.1 P6.out.2.2.1 P6.out.2.2.2.1 P6.out.2.2.2.2
              rw [← hL] at hstops
              clear hL
              refine wpIn_wide (n := 4) |>.1 ?_
              refine wpIn_rangeFunc_ownG rfl (by decide) (gf := 34) (lb := #[.pointer (some ⟨qx, 0, none⟩), .pointer (some ⟨gx, 0, none⟩)]) rfl trivial (enters_of Try.func34 (by kernel_rfl) rfl)
                hstops belowK_t (belowK_b P6.out.1.pw.bl.size) (Below.refl _ _) (fun _ => rfl)
                (Iv V Ds jb s7 q el el (i : Nat) pb nb lb (k : Nat) true (xs.map NV.n) es nx L) (fun _ pre _ => ¬ pre <+: L)
                (Iv.own P6.out.1.pw.bl.size (fun D hD => P6.out.1.pw.dok.lt hD)) (fun _ => nev_own)
                ⟨S, -1, P6.out.1, by decide, fun _ => ⟨HSN.out, rfl⟩⟩ ?a1I ?assignI ?bodyI ?doneI ?stopI
              case assignI =>
                intro l x W K hK
                rw [fold_one]
                simp only [List.setIfInBounds_toArray, List.set_cons_succ, List.set_cons_zero]
                gi_wp2
                exact hK
              case stopI =>
                rintro D c pre W _ hS hIx _
                exact absurd hS hIx
              case bodyI => as_aux_lemma =>
                rintro l pre x W ⟨S2, last, hP, h1, h2⟩ hlt
                have cx := (tk_store (HRW.out W hP.pw.bl)).1
                have lx := tk_lt (HRW.out W hP.pw.bl)
                have c2 := (tk_store (HRS.out W hP.pw.bl)).1
                have f2 := (tk_store (HRS.out W hP.pw.bl)).2
                have l2 := tk_lt (HRS.out W hP.pw.bl)
                have c8 : W.cell? ⟨jb, 0, none⟩ = some (.int .i64 (i : Nat)) := (tk_store hP.pw.ibx).1 0
                have c10 : W.cell? ⟨pb, 0, none⟩ = some (.int .i64 (k : Nat)) := (tk_store hP.pbx).1 0
                have c11 : W.cell? ⟨nb, 0, none⟩ = some (.bool true) := (tk_store hP.nbx).1 0
                have c16 : W.cell? ⟨lb, 0, none⟩ = some (.int .i64 last) := (tk_store hP.lbx).1 0
                have f16 := (tk_store hP.lbx).2
                have l8 := tk_lt hP.pw.ibx
                have l10 := tk_lt hP.pbx
                have l11 := tk_lt hP.nbx
                have l16 := tk_lt hP.lbx
                have HPre : Hid (pre ++ [x] <+: L → lastI pre < x ∧ 0 ≤ x ∧ x < (el : Int) ∧ x ∈ L ∧ x ∉ pre ∧ Sn (xs.map NV.n) es nx pre S2 ∧ last = lastI pre) := fun hp => by
                  have hs := edgesU_sorted (xs.map NV.n) es nx es.length
                  rw [← HL.out] at hs
                  have hn := next_of hs.1 hs.2 hp
                  have hq := h2 ((List.prefix_append pre [x]).trans hp)
                  rw [← HEL.out] at hn
                  exact ⟨hn.1, hn.2.1, hn.2.2.1, hn.2.2.2.1, hn.2.2.2.2, hq.1, hq.2⟩
                have HB := hid hP
                have HKS : Hid (KeepsFrom w6.heap.size W (W.setCell ⟨ob, 0, none⟩ (.bool false))) := keeps_kp (HRS.out W hP.pw.bl) (tk_set (HRS.out W hP.pw.bl) 0 (.bool false)).2
                clear hP h2
                by_cases hx1 : x ≤ last
                · gi_wp2
                  exact ⟨HKS.out, fun hp => by have := HPre.out hp; omega⟩
                · by_cases hx2 : (el : Int) ≤ x
                  · gi_wp2
                    exact ⟨HKS.out, fun hp => by have := HPre.out hp; omega⟩
                  · obtain ⟨e, rfl⟩ : ∃ e : Nat, x = (e : Int) := ⟨x.toNat, by omega⟩
                    have hel : (e : Int) < (el : Int) := by omega
                    have he0 : (0 : Int) ≤ (e : Int) := by omega
                    obtain ⟨d, hd⟩ : ∃ d, es[e]? = some d := ⟨es[e]'(by have := HEL.out; omega), by simp⟩
                    have HDD := hid hd
                    obtain ⟨W1, hW1⟩ : ∃ W1, W1 = W.setCell ⟨lb, 0, none⟩ (.int .i64 (e : Nat)) := ⟨_, rfl⟩
                    have B1 : Hid (Pb V Ds W1 jb s7 q el el (i : Nat) S2 pb nb lb (k : Nat) true (e : Nat) ∧ KeepsFrom w6.heap.size W W1 ∧ Below V.heap.size W W1) := by
                      obtain ⟨s1, s2⟩ := HB.out.setl (e : Nat)
                      rw [hW1]
                      exact ⟨s1, keeps_kp HB.out.lbx s2, s2.below HB.out.pw.bl.size (fun k e => by rw [e]; exact HB.out.llo)⟩
                    have HW1 : Hid (W.setCell ⟨lb, 0, none⟩ (.int .i64 (e : Nat)) = W1) := hW1.symm
                    clear hW1
                    gi_upto_region 30 with fail
                    rw [HW1.out]
                    clear HW1 cx lx c2 f2 l2 c8 c10 c11 c16 f16 l8 l10 l11 l16 HKS
                    have cx := (tk_store (HRW.out W1 B1.out.1.pw.bl)).1
                    have lx := tk_lt (HRW.out W1 B1.out.1.pw.bl)
                    have c2 := (tk_store (HRS.out W1 B1.out.1.pw.bl)).1
                    have f2 := (tk_store (HRS.out W1 B1.out.1.pw.bl)).2
                    have l2 := tk_lt (HRS.out W1 B1.out.1.pw.bl)
                    have c8 : W1.cell? ⟨jb, 0, none⟩ = some (.int .i64 (i : Nat)) := (tk_store B1.out.1.pw.ibx).1 0
                    have c10 : W1.cell? ⟨pb, 0, none⟩ = some (.int .i64 (k : Nat)) := (tk_store B1.out.1.pbx).1 0
                    have c11 : W1.cell? ⟨nb, 0, none⟩ = some (.bool true) := (tk_store B1.out.1.nbx).1 0
                    have l8 := tk_lt B1.out.1.pw.ibx
                    have l10 := tk_lt B1.out.1.pbx
                    have l11 := tk_lt B1.out.1.nbx
                    have HK1 : Hid (KeepsFrom w6.heap.size W (W1.setCell ⟨ob, 0, none⟩ (.bool false))) := B1.out.2.1.trans (keeps_kp (HRS.out W1 B1.out.1.pw.bl) (tk_set (HRS.out W1 B1.out.1.pw.bl) 0 (.bool false)).2)
                    obtain ⟨b2, o2, q2, ev2, z2, y0, y1, y2, y3, y4⟩ := ls_atD ((HGV.out W1 B1.out.1.pw.bl).edges.ls hd) hd
                    simp only [Value.slice.injEq] at ev2
                    obtain ⟨rfl, -, rfl⟩ := ev2
                    clear hd
                    have HMT : Hid (pre ++ [(e : Int)] <+: L → d.dst = (i : Int) ∧ d.inn = (k : Int)) := fun hp => by
                      have hm := (HPre.out hp).2.2.2.1
                      rw [HL.out] at hm
                      exact in_match HOK.out (e := e) HDD.out HQ.out.2.2.1 ((edgesU_at HDD.out).1 hm)
                    by_cases hm1 : d.dst = (i : Int)
                    · by_cases hm2 : d.inn = (k : Int)
                      · have HM12 : Hid (d.dst = (i : Int) ∧ d.inn = (k : Int)) := ⟨hm1, hm2⟩
                        rw [hm1] at y2
                        rw [hm2] at y3
                        clear hm1 hm2
                        gi_upto_region 33 with fail
                        obtain ⟨gq, hgq⟩ := own0 HB.out.pw.row (k := e) (by omega)
                        subst hgq
                        have hSl := HB.out.pw.len
                        obtain ⟨v, hv⟩ : ∃ v, S2[e]? = some v := ⟨S2[e]'(by omega), by simp⟩
                        obtain ⟨W2, hW2⟩ : ∃ W2, W2 = W1.alloc (.cells #[.int .i64 d.src, .int .i64 d.out, .int .i64 (i : Int), .int .i64 (k : Int), .bool d.keyed] 47) := ⟨_, rfl⟩
                        have B2 : Hid (Pb V Ds W2 jb s7 (some ⟨gq, 0, none⟩) el el (i : Nat) S2 pb nb lb (k : Nat) true (e : Nat) ∧ KeepsFrom w6.heap.size W W2 ∧ Below V.heap.size W W2) := by
                          have g1 := ((Gr.refl W1).alloc (.cells #[.int .i64 d.src, .int .i64 d.out, .int .i64 (i : Int), .int .i64 (k : Int), .bool d.keyed] 47)).below
                          rw [hW2]
                          exact ⟨B1.out.1.below g1, B1.out.2.1.trans (keeps_below g1), B1.out.2.2.trans (g1.mono (Nat.le_trans HB.out.pw.bl.size B1.out.2.2.size))⟩
                        rw [← hW2]
                        clear hW2 y0 y1 y2 y3 y4 z2 cx lx c2 f2 l2 c8 c10 c11 l8 l10 l11
                        have c7 : W2.cell? ⟨s7, 0, none⟩ = some (.slice (some ⟨gq, 0, none⟩) el el) := (tk_store B2.out.1.pw.sbx).1 0
                        have l7 := tk_lt B2.out.1.pw.sbx
                        obtain ⟨bq, oq, kq, eq1, zq, hxq⟩ := (owns_ls (E := EI) B2.out.1.pw.row).get hv
                        have xq := hxq 0 _ (by decide) rfl
                        simp only [Value.slice.injEq, Option.some.injEq, Addr.mk.injEq] at eq1
                        obtain ⟨⟨rfl, rfl, -⟩, -, -⟩ := eq1
                        have cq : W2.cell? ⟨gq, e, none⟩ = some (.int .i64 v) := by have h := xq; simp only [Nat.zero_add, show EI.k = 1 from rfl, Nat.mul_one, Nat.add_zero] at h; exact h
                        have fq := own_fr B2.out.1.pw.row
                        have HV : Hid (S2[e]? = some v) := hv
                        clear hxq xq hv
                        gi_wp2
                        have B3 := B2.out.1.sets e (wrap64 (v + 1))
                        have hlow := (owns_rd B2.out.1.pw.row gq rfl).1
                        obtain ⟨cur, fz, hq⟩ := Lib.ownsRow_kind B2.out.1.pw.row gq rfl
                        have hkf : KeepsFrom w6.heap.size W2 (W2.setCell ⟨gq, e, none⟩ (.int .i64 (wrap64 (v + 1)))) := ⟨B3.2.size, fun j o _ hj ho => (B3.2.block j (tk_lt hj) (fun e2 => by rw [e2, hq] at hj; cases hj; cases ho)).trans hj⟩
                        refine ⟨B2.out.2.1.trans hkf, B2.out.2.2.trans (B3.2.below (Nat.le_trans HB.out.pw.bl.size B2.out.2.2.size) (fun k e => by rw [e]; exact hlow)), _, _, B3.1, by omega, fun hp => ?_⟩
                        obtain ⟨-, -, -, -, hnp, hsn, -⟩ := HPre.out hp
                        have hsm : wrap64 (v + 1) = v + 1 := by
                          have h9 := hsn.2 e d HDD.out
                          rw [HV.out] at h9
                          simp only [Option.some.injEq] at h9
                          have h8 : cN (xs.map NV.n) d nx ≤ 2 := by unfold cN; split <;> split <;> omega
                          rw [if_neg hnp] at h9
                          unfold wrap64
                          omega
                        rw [hsm]
                        exact ⟨hsn.bump hnp HV.out, (lastI_snoc _ _).symm⟩
                      · gi_wp2
                        exact ⟨HK1.out.trans (keeps_below ((Gr.refl _).alloc _).below), fun hp => hm2 (HMT.out hp).2⟩
                    · gi_wp2
                      exact ⟨HK1.out.trans (keeps_below ((Gr.refl _).alloc _).below), fun hp => hm1 (HMT.out hp).1⟩
              case doneI => as_aux_lemma =>
                rintro D zs W hD rfl ⟨S2, last, hP, h1, h2⟩ hK
                have h3 := (h2 (List.prefix_refl _)).1
                rw [HL.out] at h3
                have PD : Hid (Pw V (D :: Ds) W jb s7 q el el (i : Nat) S2 ∧ Sn (xs.map NV.n) es (nx + 1) [] S2) := ⟨⟨hP.pw.bl, hP.pw.ibx, hP.pw.ilo, hP.pw.sbx, hP.pw.slo, hP.pw.row, hP.pw.far, hP.pw.dok.cons hK (by have := P6.out.1.pw.bl.size; omega) (fun hm => by have := P6.out.1.pw.dok.lt hm; omega)⟩, Sn.next (g := gof a xs es) HOK.out h3⟩
                clear hP h1 h2 hK h3
                go_wp2_with fail
                refine ⟨?_, ?measureI⟩
                · refine ⟨D :: Ds, ?_⟩
                  (repeat apply Exists.intro)
                  refine ⟨?_, rfl⟩
                  exact ⟨k + 1, nx + 1, S2, by omega, by go_num, by go_num, by show _ = _; have := HX.out; omega, PD.out⟩
                case measureI => simp [RowKit.intOf]; omega
            · as_aux_lemma =>
              have hinz : ¬ (k : Int) < (ci : Int) := by omega
              obtain ⟨pt, hpt⟩ : ∃ pt, k = ci + pt := ⟨k - ci, by omega⟩
              have HPT := hid hpt
              have hpt4 : pt < co := by omega
              have hkz : (k : Int) - (ci : Int) = (pt : Int) := by omega
              have HQ : Hid (outN (xs.map NV.n) (i : Nat) (pt : Nat) = (nx : Nat) ∧ ofN (xs.map NV.n) (nx : Nat) = ((i : Int), (pt : Int), false) ∧ (spotsU (gof a xs es).nodes (gof a xs es).nodes.length)[nx]? = some (i, pt, false) ∧ nx < plN (gof a xs es).nodes) := by
                have hx : nx = firstN (gof a xs es).nodes i + (ci + pt) := by rw [← hpt]; exact HX.out
                have h1 : outN (xs.map NV.n) (i : Nat) (pt : Nat) = (nx : Nat) := by rw [outN_at HYN.out HCC.out.1 HCC.out.2 hpt4, hx]
                have h2 := HYN.out
                have h3 := spots_out (m := (gof a xs es).nodes.length) (p := pt) h2 (List.getElem?_eq_some_iff.1 h2).1 (by have := HCC.out.2; omega)
                rw [show firstN (gof a xs es).nodes i + y.n.ins.toNat + pt = nx by rw [hx]; have := HCC.out.1; omega] at h3
                exact ⟨h1, ofN_outP HOK.out.pok (by omega) h1, h3, (List.getElem?_eq_some_iff.1 h3).1⟩
              have hout0 : Hid (∀ W, Below V.heap.size V W → Calls Try.prog 9 #[.pointer (some ⟨gb, 0, none⟩), .int .i64 (i : Nat), .int .i64 (pt : Nat)] W fun r w' => r = .returned (.int .i64 (nx : Nat)) ∧ Gr W w') := fun W hb => by
                have h := gout_any (i : Nat) (pt : Nat) W (HMV.out W hb)
                rw [HQ.out.1] at h
                exact h
              rw [HQ.out.2.1] at hof0
              clear hpt
              go_wp2_with fail
              refine (hin0.out _ (PALL.out _ _)).mono ?_
              rintro r w3 ⟨rfl, hw3⟩
              subst hw3
              go_wp2_with fail
              refine (hout0.out _ (PALL.out _ _)).mono ?_
              rintro r w3 ⟨rfl, g3⟩
              have G3 : Hid (Gr ((w1.alloc (.cells #[.int .i64 (pt : Nat)] 3)).alloc (.cells #[.bool false] 4)) w3) := g3
              have B3 := hid ((PALL.out (.cells #[.int .i64 (pt : Nat)] 3) (.cells #[.bool false] 4)).trans (G3.out.below.mono (PALL.out _ _).size))
              clear g3
              go_wp2_with fail
              refine (hof0.out _ B3.out).mono ?_
              rintro r w4 ⟨rfl, g4⟩
              have X4 : Hid (Gr ((w1.alloc (.cells #[.int .i64 (pt : Nat)] 3)).alloc (.cells #[.bool false] 4)) w4) := G3.out.trans g4
              clear g4 G3 B3 hkz
              have P4 : Hid (Pw V Ds w4 jb s7 q el el (i : Nat) S ∧ w4.heap[w1.heap.size]? = some (.cells #[.int .i64 (pt : Nat)] 3 (0, 0)) ∧ w4.heap[w1.heap.size + 1]? = some (.cells #[.bool false] 4 (0, 0)) ∧ w1.heap.size + 2 ≤ w4.heap.size) := by
                have g1 := ((Gr.refl w1).alloc (.cells #[.int .i64 (pt : Nat)] 3)).alloc (.cells #[.bool false] 4)
                refine ⟨(P1.out.below g1.below).below X4.out.below, (X4.out.below.block _ (tk_lt (new1 w1 _ _))).trans (new1 w1 _ _), (X4.out.below.block _ (tk_lt (new2 w1 _ _))).trans (new2 w1 _ _), ?_⟩
                have := X4.out.size
                simp at this
                omega
              have P1L : Hid (jb < w1.heap.size ∧ s7 < w1.heap.size ∧ ∀ k, (Value.slice q el el).ownBlock = some k → k < w1.heap.size) := ⟨tk_lt P1.out.ibx, tk_lt P1.out.sbx, fun k e => (owns_rd P1.out.row k e).2⟩
              obtain ⟨pb, hpb⟩ : ∃ b, b = w1.heap.size := ⟨_, rfl⟩
              obtain ⟨nb, hnb⟩ : ∃ b, b = w1.heap.size + 1 := ⟨_, rfl⟩
              rw [← hpb] at P4 P1L ⊢
              rw [hpb, ← hnb, ← hpb] at P4
              rw [hpb, ← hnb, ← hpb]
              have HNB : Hid (nb = pb + 1 ∧ V.heap.size ≤ pb) := ⟨by rw [hnb, hpb], by rw [hpb]; exact P1.out.bl.size⟩
              clear hpb hnb X4 P1 cx lx ci0 li0 z1 x1 x2 PALL
              have cb1 : w4.cell? ⟨jb, 0, none⟩ = some (.int .i64 (i : Nat)) := (tk_store P4.out.1.ibx).1 0
              have cb2 : w4.cell? ⟨pb, 0, none⟩ = some (.int .i64 (pt : Nat)) := (tk_store P4.out.2.1).1 0
              have cb3 : w4.cell? ⟨nb, 0, none⟩ = some (.bool false) := (tk_store P4.out.2.2.1).1 0
              have lb1 := tk_lt P4.out.1.ibx
              have lb2 := tk_lt P4.out.2.1
              have lb3 := tk_lt P4.out.2.2.1
              have hnx : nx ≤ 1000 := by
                have h1 : firstN (xs.map NV.n) (xs.map NV.n).length ≤ 8 * (xs.map NV.n).length := firstN_le HOK.out.pok _
                have h2 : nx < firstN (xs.map NV.n) (xs.map NV.n).length := HQ.out.2.2.2
                have h3 : (xs.map NV.n).length ≤ 24 := HOK.out.nl
                omega
              go_upto_region 25 with fail
              obtain ⟨lb, hlb⟩ : ∃ b, b = w4.heap.size := ⟨_, rfl⟩
              obtain ⟨w5, hw5⟩ : ∃ W, W = w4.alloc (.cells #[.int .i64 (-1)] 3) := ⟨_, rfl⟩
              have P5 : Hid (Pb V Ds w5 jb s7 q el el (i : Nat) S pb nb lb (pt : Nat) false (-1)) := by
                have g := (Gr.refl w4).alloc (.cells #[.int .i64 (-1)] 3)
                have hn := HNB.out
                have h1 := P1L.out
                have h4 := P4.out.2.2.2
                rw [hw5, hlb]
                exact ⟨P4.out.1.below g.below, (g.below.block _ (tk_lt P4.out.2.1)).trans P4.out.2.1, (g.below.block _ (tk_lt P4.out.2.2.1)).trans P4.out.2.2.1, heap_new' _ _, by omega, by omega, by omega, fun k e e2 => by have := h1.2.2 k e; omega, fun k e e2 => by have := h1.2.2 k e; omega, by omega, by omega⟩
              have HW5 : Hid (w4.alloc (.cells #[.int .i64 (-1)] 3) = w5 ∧ w4.heap.size = lb) := ⟨hw5.symm, hlb.symm⟩
              rw [HW5.out.1, HW5.out.2]
              clear HW5 hw5 hlb cb1 cb2 cb3 lb1 lb2 lb3 P4 P1L
              go_wp2_with fail
              refine (callsIn_wide.1 (edges_in (n := 4) (nx : Int) w5)).mono ?_
              rintro r w6 ⟨rfl, hw6⟩
              obtain ⟨gx, hgx⟩ : ∃ b, b = w5.heap.size := ⟨_, rfl⟩
              obtain ⟨qx, hqx⟩ : ∃ b, b = w5.heap.size + 1 := ⟨_, rfl⟩
              have P6 : Hid (Pb V Ds w6 jb s7 q el el (i : Nat) S pb nb lb (pt : Nat) false (-1) ∧ w6.cell? ⟨qx, 0, none⟩ = some (.int .i64 (nx : Nat)) ∧ w6.cell? ⟨gx, 0, none⟩ = some (.pointer (some ⟨gb, 0, none⟩)) ∧ qx < w6.heap.size ∧ gx < w6.heap.size) := by
                rw [hw6, hgx, hqx]
                exact ⟨P5.out.below (((Gr.refl w5).alloc _).alloc _).below, (tk_store (new2 w5 _ _)).1 0, (tk_store (new1 w5 _ _)).1 0, tk_lt (new2 w5 _ _), tk_lt (new1 w5 _ _)⟩
              rw [← hqx, ← hgx]
              clear hw6 hgx hqx P5
              go_wp2_with fail
              obtain ⟨L, hL⟩ : ∃ L, L = edN (gof a xs es) (nx : Int) := ⟨_, rfl⟩
              have HL : Hid (L = edgesU (xs.map NV.n) es nx es.length) := by show _ = _; rw [hL]; exact edN_eq HQ.out.2.2.2
              have hstops := edges_stops 3 (by decide) qx gx (nx : Int) V V.heap.size GV.out (Nat.le_refl _) w6 P6.out.1.pw.bl P6.out.2.1 P6.out.2.2.1 P6.out.2.2.2.1 P6.out.2.2.2.2
              rw [← hL] at hstops
              clear hL
              refine wpIn_wide (n := 4) |>.1 ?_
              refine wpIn_rangeFunc_ownG rfl (by decide) (gf := 34) (lb := #[.pointer (some ⟨qx, 0, none⟩), .pointer (some ⟨gx, 0, none⟩)]) rfl trivial (enters_of Try.func34 (by kernel_rfl) rfl)
                hstops belowK_t (belowK_b P6.out.1.pw.bl.size) (Below.refl _ _) (fun _ => rfl)
                (Iv V Ds jb s7 q el el (i : Nat) pb nb lb (pt : Nat) false (xs.map NV.n) es nx L) (fun _ pre _ => ¬ pre <+: L)
                (Iv.own P6.out.1.pw.bl.size (fun D hD => P6.out.1.pw.dok.lt hD)) (fun _ => nev_own)
                ⟨S, -1, P6.out.1, by decide, fun _ => ⟨HSN.out, rfl⟩⟩ ?a1O ?assignO ?bodyO ?doneO ?stopO
              case assignO =>
                intro l x W K hK
                rw [fold_one]
                simp only [List.setIfInBounds_toArray, List.set_cons_succ, List.set_cons_zero]
                gi_wp2
                exact hK
              case stopO =>
                rintro D c pre W _ hS hIx _
                exact absurd hS hIx
              case bodyO => as_aux_lemma =>
                rintro l pre x W ⟨S2, last, hP, h1, h2⟩ hlt
                have cx := (tk_store (HRW.out W hP.pw.bl)).1
                have lx := tk_lt (HRW.out W hP.pw.bl)
                have c2 := (tk_store (HRS.out W hP.pw.bl)).1
                have f2 := (tk_store (HRS.out W hP.pw.bl)).2
                have l2 := tk_lt (HRS.out W hP.pw.bl)
                have c8 : W.cell? ⟨jb, 0, none⟩ = some (.int .i64 (i : Nat)) := (tk_store hP.pw.ibx).1 0
                have c10 : W.cell? ⟨pb, 0, none⟩ = some (.int .i64 (pt : Nat)) := (tk_store hP.pbx).1 0
                have c11 : W.cell? ⟨nb, 0, none⟩ = some (.bool false) := (tk_store hP.nbx).1 0
                have c16 : W.cell? ⟨lb, 0, none⟩ = some (.int .i64 last) := (tk_store hP.lbx).1 0
                have f16 := (tk_store hP.lbx).2
                have l8 := tk_lt hP.pw.ibx
                have l10 := tk_lt hP.pbx
                have l11 := tk_lt hP.nbx
                have l16 := tk_lt hP.lbx
                have HPre : Hid (pre ++ [x] <+: L → lastI pre < x ∧ 0 ≤ x ∧ x < (el : Int) ∧ x ∈ L ∧ x ∉ pre ∧ Sn (xs.map NV.n) es nx pre S2 ∧ last = lastI pre) := fun hp => by
                  have hs := edgesU_sorted (xs.map NV.n) es nx es.length
                  rw [← HL.out] at hs
                  have hn := next_of hs.1 hs.2 hp
                  have hq := h2 ((List.prefix_append pre [x]).trans hp)
                  rw [← HEL.out] at hn
                  exact ⟨hn.1, hn.2.1, hn.2.2.1, hn.2.2.2.1, hn.2.2.2.2, hq.1, hq.2⟩
                have HB := hid hP
                have HKS : Hid (KeepsFrom w6.heap.size W (W.setCell ⟨ob, 0, none⟩ (.bool false))) := keeps_kp (HRS.out W hP.pw.bl) (tk_set (HRS.out W hP.pw.bl) 0 (.bool false)).2
                clear hP h2
                by_cases hx1 : x ≤ last
                · gi_wp2
                  exact ⟨HKS.out, fun hp => by have := HPre.out hp; omega⟩
                · by_cases hx2 : (el : Int) ≤ x
                  · gi_wp2
                    exact ⟨HKS.out, fun hp => by have := HPre.out hp; omega⟩
                  · obtain ⟨e, rfl⟩ : ∃ e : Nat, x = (e : Int) := ⟨x.toNat, by omega⟩
                    have hel : (e : Int) < (el : Int) := by omega
                    have he0 : (0 : Int) ≤ (e : Int) := by omega
                    obtain ⟨d, hd⟩ : ∃ d, es[e]? = some d := ⟨es[e]'(by have := HEL.out; omega), by simp⟩
                    have HDD := hid hd
                    obtain ⟨W1, hW1⟩ : ∃ W1, W1 = W.setCell ⟨lb, 0, none⟩ (.int .i64 (e : Nat)) := ⟨_, rfl⟩
                    have B1 : Hid (Pb V Ds W1 jb s7 q el el (i : Nat) S2 pb nb lb (pt : Nat) false (e : Nat) ∧ KeepsFrom w6.heap.size W W1 ∧ Below V.heap.size W W1) := by
                      obtain ⟨s1, s2⟩ := HB.out.setl (e : Nat)
                      rw [hW1]
                      exact ⟨s1, keeps_kp HB.out.lbx s2, s2.below HB.out.pw.bl.size (fun k e => by rw [e]; exact HB.out.llo)⟩
                    have HW1 : Hid (W.setCell ⟨lb, 0, none⟩ (.int .i64 (e : Nat)) = W1) := hW1.symm
                    clear hW1
                    gi_upto_region 30 with fail
                    rw [HW1.out]
                    clear HW1 cx lx c2 f2 l2 c8 c10 c11 c16 f16 l8 l10 l11 l16 HKS
                    have cx := (tk_store (HRW.out W1 B1.out.1.pw.bl)).1
                    have lx := tk_lt (HRW.out W1 B1.out.1.pw.bl)
                    have c2 := (tk_store (HRS.out W1 B1.out.1.pw.bl)).1
                    have f2 := (tk_store (HRS.out W1 B1.out.1.pw.bl)).2
                    have l2 := tk_lt (HRS.out W1 B1.out.1.pw.bl)
                    have c8 : W1.cell? ⟨jb, 0, none⟩ = some (.int .i64 (i : Nat)) := (tk_store B1.out.1.pw.ibx).1 0
                    have c10 : W1.cell? ⟨pb, 0, none⟩ = some (.int .i64 (pt : Nat)) := (tk_store B1.out.1.pbx).1 0
                    have c11 : W1.cell? ⟨nb, 0, none⟩ = some (.bool false) := (tk_store B1.out.1.nbx).1 0
                    have l8 := tk_lt B1.out.1.pw.ibx
                    have l10 := tk_lt B1.out.1.pbx
                    have l11 := tk_lt B1.out.1.nbx
                    have HK1 : Hid (KeepsFrom w6.heap.size W (W1.setCell ⟨ob, 0, none⟩ (.bool false))) := B1.out.2.1.trans (keeps_kp (HRS.out W1 B1.out.1.pw.bl) (tk_set (HRS.out W1 B1.out.1.pw.bl) 0 (.bool false)).2)
                    obtain ⟨b2, o2, q2, ev2, z2, y0, y1, y2, y3, y4⟩ := ls_atD ((HGV.out W1 B1.out.1.pw.bl).edges.ls hd) hd
                    simp only [Value.slice.injEq] at ev2
                    obtain ⟨rfl, -, rfl⟩ := ev2
                    clear hd
                    have HMT : Hid (pre ++ [(e : Int)] <+: L → d.src = (i : Int) ∧ d.out = (pt : Int)) := fun hp => by
                      have hm := (HPre.out hp).2.2.2.1
                      rw [HL.out] at hm
                      exact out_match HOK.out (e := e) HDD.out HQ.out.2.2.1 ((edgesU_at HDD.out).1 hm)
                    by_cases hm1 : d.src = (i : Int)
                    · by_cases hm2 : d.out = (pt : Int)
                      · have HM12 : Hid (d.src = (i : Int) ∧ d.out = (pt : Int)) := ⟨hm1, hm2⟩
                        rw [hm1] at y0
                        rw [hm2] at y1
                        clear hm1 hm2
                        gi_upto_region 33 with fail
                        obtain ⟨gq, hgq⟩ := own0 HB.out.pw.row (k := e) (by omega)
                        subst hgq
                        have hSl := HB.out.pw.len
                        obtain ⟨v, hv⟩ : ∃ v, S2[e]? = some v := ⟨S2[e]'(by omega), by simp⟩
                        obtain ⟨W2, hW2⟩ : ∃ W2, W2 = W1.alloc (.cells #[.int .i64 (i : Int), .int .i64 (pt : Int), .int .i64 d.dst, .int .i64 d.inn, .bool d.keyed] 47) := ⟨_, rfl⟩
                        have B2 : Hid (Pb V Ds W2 jb s7 (some ⟨gq, 0, none⟩) el el (i : Nat) S2 pb nb lb (pt : Nat) false (e : Nat) ∧ KeepsFrom w6.heap.size W W2 ∧ Below V.heap.size W W2) := by
                          have g1 := ((Gr.refl W1).alloc (.cells #[.int .i64 (i : Int), .int .i64 (pt : Int), .int .i64 d.dst, .int .i64 d.inn, .bool d.keyed] 47)).below
                          rw [hW2]
                          exact ⟨B1.out.1.below g1, B1.out.2.1.trans (keeps_below g1), B1.out.2.2.trans (g1.mono (Nat.le_trans HB.out.pw.bl.size B1.out.2.2.size))⟩
                        rw [← hW2]
                        clear hW2 y0 y1 y2 y3 y4 z2 cx lx c2 f2 l2 c8 c10 c11 l8 l10 l11
                        have c7 : W2.cell? ⟨s7, 0, none⟩ = some (.slice (some ⟨gq, 0, none⟩) el el) := (tk_store B2.out.1.pw.sbx).1 0
                        have l7 := tk_lt B2.out.1.pw.sbx
                        obtain ⟨bq, oq, kq, eq1, zq, hxq⟩ := (owns_ls (E := EI) B2.out.1.pw.row).get hv
                        have xq := hxq 0 _ (by decide) rfl
                        simp only [Value.slice.injEq, Option.some.injEq, Addr.mk.injEq] at eq1
                        obtain ⟨⟨rfl, rfl, -⟩, -, -⟩ := eq1
                        have cq : W2.cell? ⟨gq, e, none⟩ = some (.int .i64 v) := by have h := xq; simp only [Nat.zero_add, show EI.k = 1 from rfl, Nat.mul_one, Nat.add_zero] at h; exact h
                        have fq := own_fr B2.out.1.pw.row
                        have HV : Hid (S2[e]? = some v) := hv
                        clear hxq xq hv
                        gi_wp2
                        have B3 := B2.out.1.sets e (wrap64 (v + 1))
                        have hlow := (owns_rd B2.out.1.pw.row gq rfl).1
                        obtain ⟨cur, fz, hq⟩ := Lib.ownsRow_kind B2.out.1.pw.row gq rfl
                        have hkf : KeepsFrom w6.heap.size W2 (W2.setCell ⟨gq, e, none⟩ (.int .i64 (wrap64 (v + 1)))) := ⟨B3.2.size, fun j o _ hj ho => (B3.2.block j (tk_lt hj) (fun e2 => by rw [e2, hq] at hj; cases hj; cases ho)).trans hj⟩
                        refine ⟨B2.out.2.1.trans hkf, B2.out.2.2.trans (B3.2.below (Nat.le_trans HB.out.pw.bl.size B2.out.2.2.size) (fun k e => by rw [e]; exact hlow)), _, _, B3.1, by omega, fun hp => ?_⟩
                        obtain ⟨-, -, -, -, hnp, hsn, -⟩ := HPre.out hp
                        have hsm : wrap64 (v + 1) = v + 1 := by
                          have h9 := hsn.2 e d HDD.out
                          rw [HV.out] at h9
                          simp only [Option.some.injEq] at h9
                          have h8 : cN (xs.map NV.n) d nx ≤ 2 := by unfold cN; split <;> split <;> omega
                          rw [if_neg hnp] at h9
                          unfold wrap64
                          omega
                        rw [hsm]
                        exact ⟨hsn.bump hnp HV.out, (lastI_snoc _ _).symm⟩
                      · gi_wp2
                        exact ⟨HK1.out.trans (keeps_below ((Gr.refl _).alloc _).below), fun hp => hm2 (HMT.out hp).2⟩
                    · gi_wp2
                      exact ⟨HK1.out.trans (keeps_below ((Gr.refl _).alloc _).below), fun hp => hm1 (HMT.out hp).1⟩
              case doneO => as_aux_lemma =>
                rintro D zs W hD rfl ⟨S2, last, hP, h1, h2⟩ hK
                have h3 := (h2 (List.prefix_refl _)).1
                rw [HL.out] at h3
                have PD : Hid (Pw V (D :: Ds) W jb s7 q el el (i : Nat) S2 ∧ Sn (xs.map NV.n) es (nx + 1) [] S2) := ⟨⟨hP.pw.bl, hP.pw.ibx, hP.pw.ilo, hP.pw.sbx, hP.pw.slo, hP.pw.row, hP.pw.far, hP.pw.dok.cons hK (by have := P6.out.1.pw.bl.size; omega) (fun hm => by have := P6.out.1.pw.dok.lt hm; omega)⟩, Sn.next (g := gof a xs es) HOK.out h3⟩
                clear hP h1 h2 hK h3
                go_wp2_with fail
                refine ⟨?_, ?measureO⟩
                · refine ⟨D :: Ds, ?_⟩
                  (repeat apply Exists.intro)
                  refine ⟨?_, rfl⟩
                  exact ⟨k + 1, nx + 1, S2, by omega, by go_num, by go_num, by show _ = _; have := HX.out; omega, PD.out⟩
                case measureO => simp [RowKit.intOf]; omega
          · as_aux_lemma =>
            have hlkz : ¬ (k : Int) < (ci : Int) + (co : Int) := by omega
            have HKK : Hid (k = ci + co) := by show _ = _; omega
            have HSN := hid HP.out.2
            go_wp2_with fail
            go_quiet (fail)
            have P1 : Hid (Pw V Ds (wr.drewN nq) jb s7 q el el (i : Nat) S) := HP.out.1.below ((Gr.refl wr).drewN nq).below
            generalize wr.drewN nq = w1 at P1 ⊢
            clear cx lx ci0 li0 z1 x1 x2 HP
            have cx := (tk_store (HRW.out w1 P1.out.bl)).1
            have lx := tk_lt (HRW.out w1 P1.out.bl)
            have ci0 : w1.cell? ⟨jb, 0, none⟩ = some (.int .i64 (i : Nat)) := (tk_store P1.out.ibx).1 0
            have li0 := tk_lt P1.out.ibx
            obtain ⟨z1, x1, x2⟩ := HND.out w1 P1.out.bl
            have hA : ∀ (n : Nat) (os : Array Obj), Calls Try.prog 8 #[.pointer (some ⟨gb, 0, none⟩), .int .i64 (i : Nat), .int .i64 (ci : Nat)] (grow (w1.drewN n) os) fun e w' => e = .returned (.int .i64 (-1)) ∧ Gr (grow (w1.drewN n) os) w' := fun n os => by
              have h := gin_any (i : Nat) (ci : Nat) (grow (w1.drewN n) os) (HMV.out _ (P1.out.bl.trans ((show Gr w1 (grow (w1.drewN n) os) from ⟨n, os, rfl⟩).below.mono P1.out.bl.size)))
              rw [inN_no HYN.out HCC.out.1] at h
              exact h.mono fun e w' h => ⟨h.1, by rw [h.2]; exact Gr.refl _⟩
            have hB : ∀ (n : Nat) (os : Array Obj), Calls Try.prog 9 #[.pointer (some ⟨gb, 0, none⟩), .int .i64 (i : Nat), .int .i64 (co : Nat)] (grow (w1.drewN n) os) fun e w' => e = .returned (.int .i64 (-1)) ∧ Gr (grow (w1.drewN n) os) w' := fun n os => by
              have h := gout_any (i : Nat) (co : Nat) (grow (w1.drewN n) os) (HMV.out _ (P1.out.bl.trans ((show Gr w1 (grow (w1.drewN n) os) from ⟨n, os, rfl⟩).below.mono P1.out.bl.size)))
              rw [outN_no HYN.out HCC.out.2] at h
              exact h
            have hgc : ∀ (n : Nat) (os : Array Obj) (b o : Nat), b < w1.heap.size → (grow (w1.drewN n) os).cell? ⟨b, o, none⟩ = w1.cell? ⟨b, o, none⟩ := fun n os b o hb => Gr.cell (w := w1) (v := grow (w1.drewN n) os) ⟨n, os, rfl⟩ hb
            go_upto_region 34 with fail
            go_quiet_grown (first | (go_at_call 8; refine Calls.grown_of (hA _ _)) | (go_at_call 9; refine Calls.grown_of (hB _ _)))
            have P2 : Hid (Pw V Ds (grow (w1.drewN nq) osq) jb s7 q el el (i : Nat) S) := P1.out.below (show Gr w1 (grow (w1.drewN nq) osq) from ⟨nq, osq, rfl⟩).below
            generalize grow (w1.drewN nq) osq = w2 at P2 ⊢
            clear cx lx ci0 li0 z1 x1 x2 hA hB hgc P1
            have ci0 : w2.cell? ⟨jb, 0, none⟩ = some (.int .i64 (i : Nat)) := (tk_store P2.out.ibx).1 0
            have li0 := tk_lt P2.out.ibx
            have P3 : Hid (Pw V Ds (w2.alloc (.cells #[.int .i64 ((i + 1 : Nat) : Int)] 3)) w2.heap.size s7 q el el ((i + 1 : Nat) : Int) S) := by
              have g := ((Gr.refl w2).alloc (.cells #[.int .i64 ((i + 1 : Nat) : Int)] 3)).below
              have h := P2.out.below g
              exact ⟨h.bl, heap_new' _ _, P2.out.bl.size, h.sbx, h.slo, h.row, fun k e e2 => by have := (owns_rd P2.out.row k e).2; omega, h.dok⟩
            have HFN : Hid (nx = firstN (xs.map NV.n) (i + 1)) := by
              show _ = _
              have h := firstN_succ HYN.out
              have h1 := HCC.out
              have h2 := HX.out
              have h3 := HKK.out
              have h4 : firstN (xs.map NV.n) (i + 1) = firstN (xs.map NV.n) i + (y.n.ins.toNat + y.n.outs.toNat) := h
              omega
            go_wp2_with fail
            refine ⟨?_, ?measure⟩
            · refine ⟨Ds, ?_⟩
              (repeat apply Exists.intro)
              refine ⟨?_, rfl⟩
              exact ⟨i + 1, w2.heap.size, S, by omega, by rw [HFN.out], rfl, P3.out, by rw [← HFN.out]; exact HSN.out⟩
            case measure =>
              show nl - iAt (.pointer (some ⟨w2.heap.size, 0, none⟩)) (w2.alloc (.cells #[.int .i64 ((i + 1 : Nat) : Int)] 3)) < nl - iAt (.pointer (some ⟨jb, 0, none⟩)) _
              rw [HIA.out, iAt_of (heap_new' _ _)]
              omega
      · as_aux_lemma =>
        have hltz : ¬ (i : Int) < (nl : Int) := by omega
        have HIN : Hid (i = nl) := by show _ = _; omega
        obtain ⟨nx, hnx⟩ : ∃ nx, nx = firstN (xs.map NV.n) i := ⟨_, rfl⟩
        rw [← hnx]
        have HPL : Hid (plN (gof a xs es).nodes = nx) := by
          show _ = _
          rw [hnx, HIN.out, HNL.out]
          show (spotsU (xs.map NV.n) (xs.map NV.n).length).length = (spotsU (xs.map NV.n) xs.length).length
          rw [List.length_map]
        have HSN : Hid (Sn (gof a xs es).nodes (gof a xs es).edges (plN (gof a xs es).nodes) [] S) := by
          show Sn _ _ _ _ _
          rw [HPL.out, hnx]
          exact HP.out.2
        have HOF : Hid (ofN (gof a xs es).nodes (nx : Nat) = (-1, -1, false)) := by
          show _ = _
          unfold ofN
          rw [if_neg (by omega), Int.toNat_natCast, List.getElem?_eq_none (by have := HPL.out; unfold plN at this; omega)]
        have HED : Hid (edN (gof a xs es) (nx : Nat) = []) := by
          show _ = _
          unfold edN
          rw [if_neg (by have := HPL.out; omega)]
        have HP1 := hid HP.out.1
        clear hnx HP
        go_wp2_with fail
        clear cx lx ci0 li0
        go_loopw [19] (fun s19 wr => ∃ k : Nat, k ≤ el ∧ s19 = .int .i64 (k : Nat) ∧ Hid (Pw V Ds wr jb s7 q el el (i : Nat) S)) (fun s19 _ => el - (RowKit.intOf s19).toNat)
        case atStart => exact ⟨0, Nat.zero_le _, rfl, HP1.out⟩
        case round =>
          clear HP1
          obtain ⟨k, hk, rfl, HR⟩ := hrel
          have c7 : wr.cell? ⟨s7, 0, none⟩ = some (.slice q el el) := (tk_store HR.out.sbx).1 0
          have l7 := tk_lt HR.out.sbx
          by_cases hlk : k < el
          · have hlkz : (k : Int) < (el : Int) := by omega
            have hk0 : (0 : Int) ≤ (k : Int) := by omega
            obtain ⟨gq, hgq⟩ := own0 HR.out.row hlk
            subst hgq
            have hv : S[k]? = some 2 := HSN.out.all HOK.out (by show k < es.length; rw [← HEL.out]; exact hlk)
            obtain ⟨bq, oq, kq, eq1, zq, hxq⟩ := (owns_ls (E := EI) HR.out.row).get hv
            have xq := hxq 0 _ (by decide) rfl
            simp only [Value.slice.injEq, Option.some.injEq, Addr.mk.injEq] at eq1
            obtain ⟨⟨rfl, rfl, -⟩, -, -⟩ := eq1
            have cq : wr.cell? ⟨gq, k, none⟩ = some (.int .i64 2) := by have h := xq; simp only [Nat.zero_add, show EI.k = 1 from rfl, Nat.mul_one, Nat.add_zero] at h; exact h
            clear hxq xq hv
            go_wp2_with fail
            go_roundw
            case rel => exact ⟨k + 1, by omega, by go_num, HR.out⟩
            case measure => simp [RowKit.intOf]; omega
          · have hlkz : ¬ (k : Int) < (el : Int) := by omega
            have hof := gof_any (nx : Nat) wr (HMV.out wr HR.out.bl)
            rw [HOF.out] at hof
            go_wp2_with fail
            refine hof.mono ?_
            rintro r w3 ⟨rfl, g3⟩
            have P3 := hid (HR.out.below g3.below)
            clear hof g3 c7 l7 HR
            have hpc := gplaces_any w3 (HMV.out w3 P3.out.bl)
            rw [HPL.out] at hpc
            go_wp2_with fail
            refine hpc.mono ?_
            rintro r w4 ⟨rfl, hw4⟩
            subst hw4
            have hed := edges_any (nx : Nat) (-1) w4 (HMV.out w4 P3.out.bl)
            rw [HED.out] at hed
            clear hpc
            go_wp2_with fail
            refine hed.mono ?_
            rintro r w5 ⟨v, rfl, o5, b5⟩
            obtain ⟨q5, m5, c5, rfl⟩ := owns_form o5
            have hm5 := (owns_caps o5 _ _ _ rfl).1
            have hm0 : m5 = 0 := hm5
            subst hm0
            have P5 := hid (P3.out.below b5)
            clear hed o5 b5 P3 hm5
            have c2 := (tk_store (HRS.out w5 P5.out.bl)).1
            have f2 := (tk_store (HRS.out w5 P5.out.bl)).2
            have l2 := tk_lt (HRS.out w5 P5.out.bl)
            go_wp2_with fail
            obtain ⟨s1, s2⟩ := tk_set (HRS.out w5 P5.out.bl) 0 (.bool true)
            refine leaves_marks (B := V.heap.size) Ds _ (P5.out.dok.sb (HRS.out w5 P5.out.bl) s2) (fun w9 b9 hc9 => ?_)
            have s9 := hc9 _ _ _ s1
            have c3 : w9.cell? ⟨ob, 0, none⟩ = some (.bool true) := (tk_store s9).1 0
            refine ⟨.bool true, by simp [results, Try.results3, go_sem, c3], rfl, ?_⟩
            have hw := T5.out.1.size
            have h1 := T5.out.1.trans (P5.out.bl.mono hw)
            have h2 := h1.trans (s2.below h1.size (fun k e => by have := HRB.out; omega))
            exact h2.trans (b9.mono hw)
end Go.Proofs.Ytdiecnacbkpceaa.Df
