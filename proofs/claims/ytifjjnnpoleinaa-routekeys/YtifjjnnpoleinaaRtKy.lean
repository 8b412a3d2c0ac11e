import Derived.Test.YtifjjnnpoleinaaRtKy0
namespace Go.Proofs.Ytifjjnnpoleinaa.Df
open Go.RowKit Go.Sort Go.Shelf
attribute [local go_sem ↓] Go.wp_at_zero Go.wp_at_succ
attribute [local go_sem] Oper.semAt_some

theorem ls_atOt {w : World} {b n c : Nat} {os : List Ot} (h : Ls EOt w (.slice (some ⟨b, 0, none⟩) n c) os) {j : Nat} {o : Ot} (hj : os[j]? = some o) : b < w.heap.size ∧ w.cell? ⟨b, j * 7, none⟩ = some (.int .i64 o.wk) ∧ w.cell? ⟨b, j * 7 + 1, none⟩ = some (.int .i64 o.at_) ∧ w.cell? ⟨b, j * 7 + 1 + 1, none⟩ = some (.int .u64 o.x.a) ∧ w.cell? ⟨b, j * 7 + 1 + 2, none⟩ = some (.int .u64 o.x.b) ∧ w.cell? ⟨b, j * 7 + 1 + 3, none⟩ = some (.int .u64 o.x.c) ∧ w.cell? ⟨b, j * 7 + 1 + 4, none⟩ = some (.int .u64 (o.x.key : Nat)) ∧ w.cell? ⟨b, j * 7 + 1 + 5, none⟩ = some (.int .u64 o.x.val) := by
  obtain ⟨b', off, c', hv, hb, hc⟩ := h.get hj
  simp only [Value.slice.injEq, Option.some.injEq, Addr.mk.injEq] at hv
  obtain ⟨⟨rfl, rfl, _⟩, _⟩ := hv
  have hc' := fun i u hi hu => hc i u hi hu
  simp only [Nat.zero_add] at hc'
  exact ⟨hb, hc' 0 _ (by decide) rfl, hc' 1 _ (by decide) rfl, hc' 2 _ (by decide) rfl, hc' 3 _ (by decide) rfl, hc' 4 _ (by decide) rfl, hc' 5 _ (by decide) rfl, hc' 6 _ (by decide) rfl⟩
theorem map_at {g : Gph} {x : Rx} {own m : Int} {L : List Int} {os : List Ot} (he : os = L.map (mkO g x own m)) {j : Nat} {o : Ot} (hj : os[j]? = some o) {pre : List Int} {y : Int} (hl : pre.length = j) (hp : pre ++ [y] <+: L) : o = mkO g x own m y := by
  obtain ⟨r, rfl⟩ := hp
  rw [he, List.getElem?_map, List.getElem?_append_left (by simp; omega), List.getElem?_append_right (by omega)] at hj
  simp [hl] at hj
  exact hj.symm
theorem sends_ok {g : Gph} {k : Int} {x : Rx} {own m : Int} {o : Ot} (ho : o ∈ sends g k x own m) (hv : ∀ y ∈ edN g k, 0 ≤ y ∧ y < (g.edges.length : Int)) : o.x = x ∧ 0 ≤ o.wk ∧ o.wk < m := by
  unfold sends at ho
  split at ho
  · rename_i h
    obtain ⟨y, hy, rfl⟩ := List.mem_map.1 ho
    obtain ⟨e, he⟩ : ∃ e : Nat, y = (e : Int) := ⟨y.toNat, by have := hv y hy; omega⟩
    subst he
    have h2 := (hv _ hy).2
    rw [mkO_at (List.getElem?_eq_getElem (show e < g.edges.length by omega))]
    refine ⟨rfl, ?_⟩
    show 0 ≤ alg _ _ _ _ ∧ alg _ _ _ _ < m
    unfold alg
    split
    · exact tow_lt _ h.1
    · exact ⟨h.2.1, h.2.2.1⟩
  · cases ho
set_option maxRecDepth 100000 in
set_option maxHeartbeats 16000000 in
theorem routeKeys_any {M : Nat} {nv ev : Value} {a : Int} {xs : List NV} {es : List Edg} (k o0 m0 : Int) (x : Rx) (hk : x.key < 18446744073709551616) (w : World) (hG : GR M w nv ev xs es) (hM : M ≤ w.heap.size) (hC : Gcap ev xs) : Calls Try.prog 3 #[.agg (gvc a nv ev), .agg #[.int .i64 k, .int .u64 x.a, .int .u64 x.b, .int .u64 x.c, .int .u64 (x.key : Nat), .int .u64 x.val, .int .i64 o0, .int .i64 m0]] w fun r w' => r = .returned (.bool true) ∧ Below w.heap.size w w' := by
  have hmx : Try.prog.follows .mixedOrders = true := by kernel_rfl
  have HK := hid hk
  obtain ⟨qn, cn, hnv⟩ := hG.nodes.form
  obtain ⟨qe, ce, hev⟩ := hG.edges.form
  subst hnv
  subst hev
  obtain ⟨nl, hnl⟩ : ∃ n, n = xs.length := ⟨_, rfl⟩
  obtain ⟨el, hel⟩ : ∃ n, n = es.length := ⟨_, rfl⟩
  rw [← hnl, ← hel] at hG ⊢
  rw [← hel] at hC
  have HEL := hid hel
  obtain ⟨gx, hgx⟩ : ∃ b, b = w.heap.size := ⟨_, rfl⟩
  obtain ⟨ax, hax⟩ : ∃ b, b = w.heap.size + 1 := ⟨_, rfl⟩
  obtain ⟨kx, hkx⟩ : ∃ b, b = w.heap.size + 1 + 1 := ⟨_, rfl⟩
  obtain ⟨w0, hw0⟩ : ∃ W, W = ((w.alloc (.cells (gvc a (.slice qn nl cn) (.slice qe el ce)) 25)).alloc (.cells #[.int .i64 k, .int .u64 x.a, .int .u64 x.b, .int .u64 x.c, .int .u64 (x.key : Nat), .int .u64 x.val, .int .i64 o0, .int .i64 m0] 32)).alloc (.cells #[.bool false] 4) := ⟨_, rfl⟩
  have T0 : Hid (Below w.heap.size w w0 ∧ w0.heap[gx]? = some (.cells (gvc a (.slice qn nl cn) (.slice qe el ce)) 25 (0, 0)) ∧ w0.heap[ax]? = some (.cells #[.int .i64 k, .int .u64 x.a, .int .u64 x.b, .int .u64 x.c, .int .u64 (x.key : Nat), .int .u64 x.val, .int .i64 o0, .int .i64 m0] 32 (0, 0)) ∧ w0.heap[kx]? = some (.cells #[.bool false] 4 (0, 0))) := by
    rw [hw0, hgx, hax, hkx]
    exact ⟨((((Gr.refl w).alloc _).alloc _).alloc _).below, (new3 w _ _ _).1, (new3 w _ _ _).2.1, (new3 w _ _ _).2.2⟩
  have HW0 : Hid (((w.alloc (.cells #[.int .i64 a, .slice qn nl cn, .slice qe el ce] 25)).alloc (.cells #[.int .i64 k, .int .u64 x.a, .int .u64 x.b, .int .u64 x.c, .int .u64 (x.key : Nat), .int .u64 x.val, .int .i64 o0, .int .i64 m0] 32)).alloc (.cells #[.bool false] 4) = w0 ∧ w.heap.size = gx ∧ w.heap.size + 1 = ax ∧ w.heap.size + 1 + 1 = kx) := ⟨hw0.symm, hgx.symm, hax.symm, hkx.symm⟩
  have HLO : Hid (w.heap.size ≤ kx) := by show _ ≤ _; omega
  have HG : Hid (∀ W, Below w.heap.size w W → GR W.heap.size W (.slice qn nl cn) (.slice qe el ce) xs es) := fun W hb => (hG.below hb).up (Nat.le_trans hM hb.size)
  have HC := hid hC
  clear hw0 hgx hax hkx hG hC hM hk hnl hel
  refine (callsIn_wide (n := 4)).1 ?_
  refine callsIn_of_wp_marks Try.func3 rfl trivial ?_ rfl
  refine wpIn_wide.2 ?_
  simp only [Try.ntmps3, List.size_toArray, List.length_cons, List.length_nil, Nat.reduceAdd, Nat.reduceSub, Array.replicate_succ, Array.replicate_zero, List.push_toArray, List.append_toArray, List.nil_append, List.cons_append]
  go_upto_region 1 with fail
  rw [HW0.out.1, HW0.out.2.2.2, HW0.out.2.2.1, HW0.out.2.1]
  clear HW0
  go_wp2_with fail
  refine (taken_any w0).mono ?_
  rintro r w1 ⟨rfl, b1⟩
  have T1 : Hid (Below w.heap.size w w1 ∧ w1.heap[gx]? = some (.cells (gvc a (.slice qn nl cn) (.slice qe el ce)) 25 (0, 0)) ∧ w1.heap[ax]? = some (.cells #[.int .i64 k, .int .u64 x.a, .int .u64 x.b, .int .u64 x.c, .int .u64 (x.key : Nat), .int .u64 x.val, .int .i64 o0, .int .i64 m0] 32 (0, 0)) ∧ w1.heap[kx]? = some (.cells #[.bool false] 4 (0, 0))) := ⟨T0.out.1.trans (b1.mono T0.out.1.size), (b1.block _ (tk_lt T0.out.2.1)).trans T0.out.2.1, (b1.block _ (tk_lt T0.out.2.2.1)).trans T0.out.2.2.1, (b1.block _ (tk_lt T0.out.2.2.2)).trans T0.out.2.2.2⟩
  clear b1 T0
  have cx := (tk_store T1.out.2.1).1
  have lx := tk_lt T1.out.2.1
  have hnew := new_any (a := a) w1 (HG.out w1 T1.out.1) HC.out
  unfold gvc at cx hnew
  go_wp2_with fail
  refine hnew.mono ?_
  rintro r w4 ⟨b4, e, t, hF, hr⟩
  have T4 : Hid (Below w.heap.size w w4 ∧ w4.heap[gx]? = some (.cells (gvc a (.slice qn nl cn) (.slice qe el ce)) 25 (0, 0)) ∧ w4.heap[ax]? = some (.cells #[.int .i64 k, .int .u64 x.a, .int .u64 x.b, .int .u64 x.c, .int .u64 (x.key : Nat), .int .u64 x.val, .int .i64 o0, .int .i64 m0] 32 (0, 0)) ∧ w4.heap[kx]? = some (.cells #[.bool false] 4 (0, 0))) := ⟨T1.out.1.trans (b4.mono T1.out.1.size), (b4.block _ (tk_lt T1.out.2.1)).trans T1.out.2.1, (b4.block _ (tk_lt T1.out.2.2.1)).trans T1.out.2.2.1, (b4.block _ (tk_lt T1.out.2.2.2)).trans T1.out.2.2.2⟩
  clear hnew b4 hF T1 cx lx
  have ck := (tk_store T4.out.2.2.2).1
  have fk := (tk_store T4.out.2.2.2).2
  have lk := tk_lt T4.out.2.2.2
  rcases hr with ⟨he, rfl⟩ | ⟨rfl, gb, rfl, hgm⟩
  · have he1 : (e == 0) = false := by simp [he]
    have he2 : (e != 0) = true := by simp [he]
    have hne : kx ≠ w4.heap.size := by omega
    go_wp2_with fail
    obtain ⟨s1, s2⟩ := tk_set T4.out.2.2.2 0 (.bool true)
    have g6 := (Gr.refl (w4.setCell ⟨kx, 0, none⟩ (.bool true))).alloc (.cells #[.pointer none] 34)
    have c3 : ((w4.setCell ⟨kx, 0, none⟩ (.bool true)).alloc (.cells #[.pointer none] 34)).cell? ⟨kx, 0, none⟩ = some (.bool true) := (tk_store ((g6.below.block _ (tk_lt s1)).trans s1)).1 0
    have hB : Below w.heap.size w (w4.setCell ⟨kx, 0, none⟩ (.bool true)) := T4.out.1.trans (s2.below T4.out.1.size (fun k e => by rw [e]; exact HLO.out))
    refine ⟨.bool true, by simp [results, Try.results3, go_sem, c3], rfl, ?_⟩
    exact hB.trans (g6.below.mono hB.size)
  · have ca0 : w4.cell? ⟨ax, 0, none⟩ = some (.int .i64 k) := (tk_store T4.out.2.2.1).1 0
    have ca1 : w4.cell? ⟨ax, 1, none⟩ = some (.int .u64 x.a) := (tk_store T4.out.2.2.1).1 1
    have ca2 : w4.cell? ⟨ax, 2, none⟩ = some (.int .u64 x.b) := (tk_store T4.out.2.2.1).1 2
    have ca3 : w4.cell? ⟨ax, 3, none⟩ = some (.int .u64 x.c) := (tk_store T4.out.2.2.1).1 3
    have ca4 : w4.cell? ⟨ax, 4, none⟩ = some (.int .u64 (x.key : Nat)) := (tk_store T4.out.2.2.1).1 4
    have ca5 : w4.cell? ⟨ax, 5, none⟩ = some (.int .u64 x.val) := (tk_store T4.out.2.2.1).1 5
    have ca7 : w4.cell? ⟨ax, 7, none⟩ = some (.int .i64 m0) := (tk_store T4.out.2.2.1).1 7
    have la := tk_lt T4.out.2.2.1
    have la1 : ax < w4.heap.size + 1 := by omega
    have la2 : ax < w4.heap.size + 1 + 1 := by omega
    have la3 : ax < w4.heap.size + 1 + 1 + 1 := by omega
    have la4 : ax < w4.heap.size + 1 + 1 + 1 + 1 := by omega
    obtain ⟨g5, hg5⟩ : ∃ b, b = w4.heap.size := ⟨_, rfl⟩
    obtain ⟨p8, hp8⟩ : ∃ b, b = w4.heap.size + 1 := ⟨_, rfl⟩
    obtain ⟨r9, hr9⟩ : ∃ b, b = w4.heap.size + 1 + 1 := ⟨_, rfl⟩
    obtain ⟨t10, ht10⟩ : ∃ b, b = w4.heap.size + 1 + 1 + 1 := ⟨_, rfl⟩
    obtain ⟨w11, hw11⟩ : ∃ b, b = w4.heap.size + 1 + 1 + 1 + 1 := ⟨_, rfl⟩
    obtain ⟨w5, hw5⟩ : ∃ W, W = ((((w4.alloc (.cells #[.pointer (some ⟨gb, 0, none⟩)] 34)).alloc (.cells #[.int .i64 k] 3)).alloc (.cells #[.int .u64 (x.key : Nat), .int .u64 x.val] 30)).alloc (.cells #[.int .u64 x.a, .int .u64 x.b, .int .u64 x.c] 28)).alloc (.cells #[.int .i64 m0] 3) := ⟨_, rfl⟩
    have T5 : Hid (Below w.heap.size w w5 ∧ Gm w1.heap.size w5 gb (gof a xs es) ∧ w5.heap[gx]? = some (.cells (gvc a (.slice qn nl cn) (.slice qe el ce)) 25 (0, 0)) ∧ w5.heap[kx]? = some (.cells #[.bool false] 4 (0, 0)) ∧ w5.heap[g5]? = some (.cells #[.pointer (some ⟨gb, 0, none⟩)] 34 (0, 0)) ∧ w5.heap[p8]? = some (.cells #[.int .i64 k] 3 (0, 0)) ∧ w5.heap[r9]? = some (.cells #[.int .u64 (x.key : Nat), .int .u64 x.val] 30 (0, 0)) ∧ w5.heap[t10]? = some (.cells #[.int .u64 x.a, .int .u64 x.b, .int .u64 x.c] 28 (0, 0)) ∧ w5.heap[w11]? = some (.cells #[.int .i64 m0] 3 (0, 0)) ∧ w.heap.size ≤ w11 ∧ w11 ≠ p8 ∧ Below w4.heap.size w4 w5 ∧ Gm w1.heap.size w4 gb (gof a xs es) ∧ w4.heap.size ≤ w11) := by
      have b1 := heap_new' w4 (.cells #[.pointer (some ⟨gb, 0, none⟩)] 34)
      have b2 := heap_new' (w4.alloc (.cells #[.pointer (some ⟨gb, 0, none⟩)] 34)) (.cells #[.int .i64 k] 3)
      have b3 := heap_new' ((w4.alloc (.cells #[.pointer (some ⟨gb, 0, none⟩)] 34)).alloc (.cells #[.int .i64 k] 3)) (.cells #[.int .u64 (x.key : Nat), .int .u64 x.val] 30)
      have b4 := heap_new' (((w4.alloc (.cells #[.pointer (some ⟨gb, 0, none⟩)] 34)).alloc (.cells #[.int .i64 k] 3)).alloc (.cells #[.int .u64 (x.key : Nat), .int .u64 x.val] 30)) (.cells #[.int .u64 x.a, .int .u64 x.b, .int .u64 x.c] 28)
      have b5 := heap_new' ((((w4.alloc (.cells #[.pointer (some ⟨gb, 0, none⟩)] 34)).alloc (.cells #[.int .i64 k] 3)).alloc (.cells #[.int .u64 (x.key : Nat), .int .u64 x.val] 30)).alloc (.cells #[.int .u64 x.a, .int .u64 x.b, .int .u64 x.c] 28)) (.cells #[.int .i64 m0] 3)
      rw [World.size_alloc] at b2
      rw [World.size_alloc, World.size_alloc] at b3
      rw [World.size_alloc, World.size_alloc, World.size_alloc] at b4
      rw [World.size_alloc, World.size_alloc, World.size_alloc, World.size_alloc] at b5
      have up := fun (W : World) (o : Obj) (b : Nat) (z : Obj) (h : W.heap[b]? = some z) => (((Gr.refl W).alloc o).below.block b (tk_lt h)).trans h
      have bl : Below w4.heap.size w4 w5 := by rw [hw5]; exact (((((Gr.refl w4).alloc _).alloc _).alloc _).alloc _).alloc _ |>.below
      have hs := T4.out.1.size
      refine ⟨T4.out.1.trans (bl.mono hs), hgm.below bl, (bl.block _ (tk_lt T4.out.2.1)).trans T4.out.2.1, (bl.block _ lk).trans T4.out.2.2.2, ?_, ?_, ?_, ?_, ?_, by omega, by omega, bl, hgm, by omega⟩
      · rw [hw5, hg5]; exact up _ _ _ _ (up _ _ _ _ (up _ _ _ _ (up _ _ _ _ b1)))
      · rw [hw5, hp8]; exact up _ _ _ _ (up _ _ _ _ (up _ _ _ _ b2))
      · rw [hw5, hr9]; exact up _ _ _ _ (up _ _ _ _ b3)
      · rw [hw5, ht10]; exact up _ _ _ _ b4
      · rw [hw5, hw11]; exact b5
    have HW5 : Hid (((((w4.alloc (.cells #[.pointer (some ⟨gb, 0, none⟩)] 34)).alloc (.cells #[.int .i64 k] 3)).alloc (.cells #[.int .u64 (x.key : Nat), .int .u64 x.val] 30)).alloc (.cells #[.int .u64 x.a, .int .u64 x.b, .int .u64 x.c] 28)).alloc (.cells #[.int .i64 m0] 3) = w5 ∧ w4.heap.size = g5 ∧ w4.heap.size + 1 = p8 ∧ w4.heap.size + 1 + 1 = r9 ∧ w4.heap.size + 1 + 1 + 1 = t10 ∧ w4.heap.size + 1 + 1 + 1 + 1 = w11) := ⟨hw5.symm, hg5.symm, hp8.symm, hr9.symm, ht10.symm, hw11.symm⟩
    clear hg5 hp8 hr9 ht10 hw11 hw5 hgm
    go_upto_region 10 with fail
    rw [HW5.out.1, HW5.out.2.2.2.2.2, HW5.out.2.2.2.2.1, HW5.out.2.2.2.1, HW5.out.2.2.1, HW5.out.2.1]
    clear HW5 ca0 ca1 ca2 ca3 ca4 ca5 ca7 la la1 la2 la3 la4 ck fk lk T4
    have c11 := (tk_store T5.out.2.2.2.2.2.2.2.2.1).1
    have f11 := (tk_store T5.out.2.2.2.2.2.2.2.2.1).2
    have l11 := tk_lt T5.out.2.2.2.2.2.2.2.2.1
    go_cut [45] from 40 to 45 (fun s45 w' => ∃ b : Bool, s45 = .bool b ∧ (b = true ↔ ¬ (1 ≤ m0 ∧ m0 ≤ 8)) ∧ w' = w5)
    case first =>
      by_cases h1 : m0 < 1
      · go_wp2_with fail
        go_meet
        exact ⟨true, by simp, by simp; omega, rfl⟩
      · by_cases h2 : 8 < m0
        · go_wp2_with fail
          go_meet
          exact ⟨true, by simp, by simp; omega, rfl⟩
        · go_wp2_with fail
          go_meet
          exact ⟨false, by simp, by simp; omega, rfl⟩
    case rest =>
    obtain ⟨b, hs45, hb, hwc⟩ := hcut
    have hwd := hwc.symm
    subst hs45
    subst hwd
    clear hwc
    go_upto_if 45 with fail
    go_cut [45] from 40 to 45 (fun _ w' => ∃ m : Int, 1 ≤ m ∧ m ≤ 8 ∧ Hid (Kp (fun j => j = w11) w5 w' ∧ w'.heap[w11]? = some (.cells #[.int .i64 m] 3 (0, 0))))
    case first =>
      cases b with
      | true =>
        go_wp2_with fail
        go_meet
        exact ⟨8, by decide, by decide, (tk_set T5.out.2.2.2.2.2.2.2.2.1 0 (.int .i64 8)).2, (tk_set T5.out.2.2.2.2.2.2.2.2.1 0 (.int .i64 8)).1⟩
      | false =>
        go_wp2_with fail
        go_meet
        exact ⟨m0, by simp at hb; omega, by simp at hb; omega, Kp.refl _ _, T5.out.2.2.2.2.2.2.2.2.1⟩
    case rest =>
      obtain ⟨m, hm1, hm2, HMX⟩ := hcut
      have T6 : Hid (Below w.heap.size w wc ∧ Gm w1.heap.size wc gb (gof a xs es) ∧ wc.heap[gx]? = some (.cells (gvc a (.slice qn nl cn) (.slice qe el ce)) 25 (0, 0)) ∧ wc.heap[kx]? = some (.cells #[.bool false] 4 (0, 0)) ∧ wc.heap[g5]? = some (.cells #[.pointer (some ⟨gb, 0, none⟩)] 34 (0, 0)) ∧ wc.heap[p8]? = some (.cells #[.int .i64 k] 3 (0, 0)) ∧ wc.heap[r9]? = some (.cells #[.int .u64 (x.key : Nat), .int .u64 x.val] 30 (0, 0)) ∧ wc.heap[t10]? = some (.cells #[.int .u64 x.a, .int .u64 x.b, .int .u64 x.c] 28 (0, 0)) ∧ wc.heap[w11]? = some (.cells #[.int .i64 m] 3 (0, 0))) := by
        have kk := HMX.out.1
        have h5 := T5.out
        have up : ∀ (b : Nat) (cs : Array Value) (T : TypeId), w5.heap[b]? = some (.cells cs T (0, 0)) → T ≠ 3 → wc.heap[b]? = some (.cells cs T (0, 0)) := fun b cs T h hT => (kk.block b (tk_lt h) (fun e => by rw [e, h5.2.2.2.2.2.2.2.2.1] at h; simp only [Option.some.injEq, Obj.cells.injEq] at h; exact hT h.2.1.symm)).trans h
        have bl : Below w4.heap.size w4 wc := h5.2.2.2.2.2.2.2.2.2.2.2.1.trans (kk.below h5.2.2.2.2.2.2.2.2.2.2.2.1.size (fun j e => by rw [e]; exact h5.2.2.2.2.2.2.2.2.2.2.2.2.2))
        exact ⟨h5.1.trans (kk.below h5.1.size (fun j e => by rw [e]; exact h5.2.2.2.2.2.2.2.2.2.1)), h5.2.2.2.2.2.2.2.2.2.2.2.2.1.below bl, up _ _ _ h5.2.2.1 (by decide), up _ _ _ h5.2.2.2.1 (by decide), up _ _ _ h5.2.2.2.2.1 (by decide), (kk.block _ (tk_lt h5.2.2.2.2.2.1) (fun e => h5.2.2.2.2.2.2.2.2.2.2.1 e.symm)).trans h5.2.2.2.2.2.1, up _ _ _ h5.2.2.2.2.2.2.1 (by decide), up _ _ _ h5.2.2.2.2.2.2.2.1 (by decide), HMX.out.2⟩
      clear HMX T5 c11 f11 l11 hb
      have c5 := (tk_store T6.out.2.2.2.2.1).1
      have l5 := tk_lt T6.out.2.2.2.2.1
      have c8 := (tk_store T6.out.2.2.2.2.2.1).1
      have l8 := tk_lt T6.out.2.2.2.2.2.1
      have hof := gof_any k wc T6.out.2.1
      obtain ⟨z0, z1, z, hz⟩ : ∃ z0 z1 z, ofN (gof a xs es).nodes k = (z0, z1, z) := ⟨_, _, _, rfl⟩
      rw [hz] at hof
      go_wp2_with fail
      refine hof.mono ?_
      rintro r w7 ⟨rfl, g7⟩
      obtain ⟨i14, hi14⟩ : ∃ b, b = w7.heap.size := ⟨_, rfl⟩
      obtain ⟨V, hV⟩ : ∃ W, W = w7.alloc (.cells #[.bool z] 4) := ⟨_, rfl⟩
      have K0 : Hid (Kc V gx kx g5 p8 r9 t10 w11 i14 gb a (.slice qn nl cn) (.slice qe el ce) k m x z ∧ Gm w1.heap.size V gb (gof a xs es) ∧ Below w.heap.size w V) := by
        have b7 := g7.below
        have b8 : Below w7.heap.size w7 V := by rw [hV]; exact ((Gr.refl w7).alloc _).below
        have up : ∀ (b : Nat) (o : Obj), wc.heap[b]? = some o → V.heap[b]? = some o := fun b o h => (b8.block b (Nat.lt_of_lt_of_le (tk_lt h) b7.size)).trans ((b7.block b (tk_lt h)).trans h)
        refine ⟨⟨up _ _ T6.out.2.2.1, up _ _ T6.out.2.2.2.1, up _ _ T6.out.2.2.2.2.1, up _ _ T6.out.2.2.2.2.2.1, up _ _ T6.out.2.2.2.2.2.2.1, up _ _ T6.out.2.2.2.2.2.2.2.1, up _ _ T6.out.2.2.2.2.2.2.2.2, ?_⟩, (T6.out.2.1.below b7).below b8, (T6.out.1.trans (b7.mono T6.out.1.size)).trans (b8.mono (Nat.le_trans T6.out.1.size b7.size))⟩
        rw [hV, hi14]
        exact heap_new' _ _
      have L0 : Hid (Lk V [] (V.alloc (.cells #[.int .i64 0] 3)) V.heap.size 0) := ⟨((Gr.refl V).alloc _).below, heap_new' _ _, Nat.le_refl _, Dok.nil _ _⟩
      have HV : Hid (w7.alloc (.cells #[.bool z] 4) = V ∧ w7.heap.size = i14) := ⟨hV.symm, hi14.symm⟩
      have HSZ : Hid (V.heap.size = i14 + 1) := by show _ = _; rw [hV, hi14]; simp
      have HZ : Hid ((ofN (gof a xs es).nodes k).2.2 = z) := by show _ = _; rw [hz]
      clear hV hi14 g7 hof hz c5 l5 c8 l8 T6
      go_wp2_with fail
      rw [HV.out.1, HV.out.2]
      clear HV
      refine wp_loop (fun a' w' => ∃ (Ds : List Nat) (u0 u1 u6 u7 u12 u13 u15 u16 u17 u18 u19 u20 u21 u22 u23 u24 u25 u26 u27 u28 u29 u30 u31 u32 u33 u34 u35 u36 u37 u38 u39 u40 u41 u42 u43 u44 u45 u46 u47 u48 u49 u50 u51 u52 u53 u54 u55 u56 u57 u58 u59 u60 u61 u62 u63 u64 u65 u66 u67 u68 u69 u70 u71 u72 u73 u74 u75 u76 u77 u78 u79 u80 u81 u82 u83 u84 u85 u86 u87 u88 u89 u90 u91 u92 u93 u94 u95 u96 u97 u98 u99 u100 u101 u102 u103 u104 u105 u106 u107 u108 u109 u110 u111 u112 u113 u114 u115 u116 u117 u118 u119 u120 u121 u122 u123 u124 u125 u126 u127 u128 u129 u130 u131 u132 u133 u134 u135 u136 u137 u138 u139 u140 u141 u142 u143 u144 u145 u146 u147 u148 u149 u150 u151 u152 u153 u154 u155 u156 u157 u158 u159 u160 u161 u162 u163 u164 u165 u166 : Value), (∃ (i ob : Nat), (i : Int) ≤ m ∧ u15 = .pointer (some ⟨ob, 0, none⟩) ∧ Hid (Lk V Ds w' ob (i : Nat))) ∧ a' = { tmps := #[u0, u1, .pointer (some ⟨gx, 0, none⟩), .pointer (some ⟨ax, 0, none⟩), .pointer (some ⟨kx, 0, none⟩), .pointer (some ⟨g5, 0, none⟩), u6, u7, .pointer (some ⟨p8, 0, none⟩), .pointer (some ⟨r9, 0, none⟩), .pointer (some ⟨t10, 0, none⟩), .pointer (some ⟨w11, 0, none⟩), u12, u13, .pointer (some ⟨i14, 0, none⟩), u15, u16, u17, u18, u19, u20, u21, u22, u23, u24, u25, u26, u27, u28, u29, u30, u31, u32, u33, u34, u35, u36, u37, u38, u39, u40, u41, u42, u43, u44, u45, u46, u47, u48, u49, u50, u51, u52, u53, u54, u55, u56, u57, u58, u59, u60, u61, u62, u63, u64, u65, u66, u67, u68, u69, u70, u71, u72, u73, u74, u75, u76, u77, u78, u79, u80, u81, u82, u83, u84, u85, u86, u87, u88, u89, u90, u91, u92, u93, u94, u95, u96, u97, u98, u99, u100, u101, u102, u103, u104, u105, u106, u107, u108, u109, u110, u111, u112, u113, u114, u115, u116, u117, u118, u119, u120, u121, u122, u123, u124, u125, u126, u127, u128, u129, u130, u131, u132, u133, u134, u135, u136, u137, u138, u139, u140, u141, u142, u143, u144, u145, u146, u147, u148, u149, u150, u151, u152, u153, u154, u155, u156, u157, u158, u159, u160, u161, u162, u163, u164, u165, u166], defers := Ds.map mkD }) (fun a' w' => m.toNat - iAt (a'.tmps.getD 15 undef) w') ?start ?round
      case start =>
        refine ⟨[], ?_⟩
        (repeat apply Exists.intro)
        refine ⟨?_, rfl⟩
        exact ⟨0, i14 + 1, by omega, rfl, by rw [← HSZ.out]; exact L0.out⟩
      case round =>
        clear L0
        intro a' wr hinv
        obtain ⟨Ds, hinv⟩ := hinv
        obtain ⟨u0, hinv⟩ := hinv
        obtain ⟨u1, hinv⟩ := hinv
        obtain ⟨u6, hinv⟩ := hinv
        obtain ⟨u7, hinv⟩ := hinv
        obtain ⟨u12, hinv⟩ := hinv
        obtain ⟨u13, hinv⟩ := hinv
        obtain ⟨u15, hinv⟩ := hinv
        obtain ⟨u16, hinv⟩ := hinv
        obtain ⟨u17, hinv⟩ := hinv
        obtain ⟨u18, hinv⟩ := hinv
        obtain ⟨u19, hinv⟩ := hinv
        obtain ⟨u20, hinv⟩ := hinv
        obtain ⟨u21, hinv⟩ := hinv
        obtain ⟨u22, hinv⟩ := hinv
        obtain ⟨u23, hinv⟩ := hinv
        obtain ⟨u24, hinv⟩ := hinv
        obtain ⟨u25, hinv⟩ := hinv
        obtain ⟨u26, hinv⟩ := hinv
        obtain ⟨u27, hinv⟩ := hinv
        obtain ⟨u28, hinv⟩ := hinv
        obtain ⟨u29, hinv⟩ := hinv
        obtain ⟨u30, hinv⟩ := hinv
        obtain ⟨u31, hinv⟩ := hinv
        obtain ⟨u32, hinv⟩ := hinv
        obtain ⟨u33, hinv⟩ := hinv
        obtain ⟨u34, hinv⟩ := hinv
        obtain ⟨u35, hinv⟩ := hinv
        obtain ⟨u36, hinv⟩ := hinv
        obtain ⟨u37, hinv⟩ := hinv
        obtain ⟨u38, hinv⟩ := hinv
        obtain ⟨u39, hinv⟩ := hinv
        obtain ⟨u40, hinv⟩ := hinv
        obtain ⟨u41, hinv⟩ := hinv
        obtain ⟨u42, hinv⟩ := hinv
        obtain ⟨u43, hinv⟩ := hinv
        obtain ⟨u44, hinv⟩ := hinv
        obtain ⟨u45, hinv⟩ := hinv
        obtain ⟨u46, hinv⟩ := hinv
        obtain ⟨u47, hinv⟩ := hinv
        obtain ⟨u48, hinv⟩ := hinv
        obtain ⟨u49, hinv⟩ := hinv
        obtain ⟨u50, hinv⟩ := hinv
        obtain ⟨u51, hinv⟩ := hinv
        obtain ⟨u52, hinv⟩ := hinv
        obtain ⟨u53, hinv⟩ := hinv
        obtain ⟨u54, hinv⟩ := hinv
        obtain ⟨u55, hinv⟩ := hinv
        obtain ⟨u56, hinv⟩ := hinv
        obtain ⟨u57, hinv⟩ := hinv
        obtain ⟨u58, hinv⟩ := hinv
        obtain ⟨u59, hinv⟩ := hinv
        obtain ⟨u60, hinv⟩ := hinv
        obtain ⟨u61, hinv⟩ := hinv
        obtain ⟨u62, hinv⟩ := hinv
        obtain ⟨u63, hinv⟩ := hinv
        obtain ⟨u64, hinv⟩ := hinv
        obtain ⟨u65, hinv⟩ := hinv
        obtain ⟨u66, hinv⟩ := hinv
        obtain ⟨u67, hinv⟩ := hinv
        obtain ⟨u68, hinv⟩ := hinv
        obtain ⟨u69, hinv⟩ := hinv
        obtain ⟨u70, hinv⟩ := hinv
        obtain ⟨u71, hinv⟩ := hinv
        obtain ⟨u72, hinv⟩ := hinv
        obtain ⟨u73, hinv⟩ := hinv
        obtain ⟨u74, hinv⟩ := hinv
        obtain ⟨u75, hinv⟩ := hinv
        obtain ⟨u76, hinv⟩ := hinv
        obtain ⟨u77, hinv⟩ := hinv
        obtain ⟨u78, hinv⟩ := hinv
        obtain ⟨u79, hinv⟩ := hinv
        obtain ⟨u80, hinv⟩ := hinv
        obtain ⟨u81, hinv⟩ := hinv
        obtain ⟨u82, hinv⟩ := hinv
        obtain ⟨u83, hinv⟩ := hinv
        obtain ⟨u84, hinv⟩ := hinv
        obtain ⟨u85, hinv⟩ := hinv
        obtain ⟨u86, hinv⟩ := hinv
        obtain ⟨u87, hinv⟩ := hinv
        obtain ⟨u88, hinv⟩ := hinv
        obtain ⟨u89, hinv⟩ := hinv
        obtain ⟨u90, hinv⟩ := hinv
        obtain ⟨u91, hinv⟩ := hinv
        obtain ⟨u92, hinv⟩ := hinv
        obtain ⟨u93, hinv⟩ := hinv
        obtain ⟨u94, hinv⟩ := hinv
        obtain ⟨u95, hinv⟩ := hinv
        obtain ⟨u96, hinv⟩ := hinv
        obtain ⟨u97, hinv⟩ := hinv
        obtain ⟨u98, hinv⟩ := hinv
        obtain ⟨u99, hinv⟩ := hinv
        obtain ⟨u100, hinv⟩ := hinv
        obtain ⟨u101, hinv⟩ := hinv
        obtain ⟨u102, hinv⟩ := hinv
        obtain ⟨u103, hinv⟩ := hinv
        obtain ⟨u104, hinv⟩ := hinv
        obtain ⟨u105, hinv⟩ := hinv
        obtain ⟨u106, hinv⟩ := hinv
        obtain ⟨u107, hinv⟩ := hinv
        obtain ⟨u108, hinv⟩ := hinv
        obtain ⟨u109, hinv⟩ := hinv
        obtain ⟨u110, hinv⟩ := hinv
        obtain ⟨u111, hinv⟩ := hinv
        obtain ⟨u112, hinv⟩ := hinv
        obtain ⟨u113, hinv⟩ := hinv
        obtain ⟨u114, hinv⟩ := hinv
        obtain ⟨u115, hinv⟩ := hinv
        obtain ⟨u116, hinv⟩ := hinv
        obtain ⟨u117, hinv⟩ := hinv
        obtain ⟨u118, hinv⟩ := hinv
        obtain ⟨u119, hinv⟩ := hinv
        obtain ⟨u120, hinv⟩ := hinv
        obtain ⟨u121, hinv⟩ := hinv
        obtain ⟨u122, hinv⟩ := hinv
        obtain ⟨u123, hinv⟩ := hinv
        obtain ⟨u124, hinv⟩ := hinv
        obtain ⟨u125, hinv⟩ := hinv
        obtain ⟨u126, hinv⟩ := hinv
        obtain ⟨u127, hinv⟩ := hinv
        obtain ⟨u128, hinv⟩ := hinv
        obtain ⟨u129, hinv⟩ := hinv
        obtain ⟨u130, hinv⟩ := hinv
        obtain ⟨u131, hinv⟩ := hinv
        obtain ⟨u132, hinv⟩ := hinv
        obtain ⟨u133, hinv⟩ := hinv
        obtain ⟨u134, hinv⟩ := hinv
        obtain ⟨u135, hinv⟩ := hinv
        obtain ⟨u136, hinv⟩ := hinv
        obtain ⟨u137, hinv⟩ := hinv
        obtain ⟨u138, hinv⟩ := hinv
        obtain ⟨u139, hinv⟩ := hinv
        obtain ⟨u140, hinv⟩ := hinv
        obtain ⟨u141, hinv⟩ := hinv
        obtain ⟨u142, hinv⟩ := hinv
        obtain ⟨u143, hinv⟩ := hinv
        obtain ⟨u144, hinv⟩ := hinv
        obtain ⟨u145, hinv⟩ := hinv
        obtain ⟨u146, hinv⟩ := hinv
        obtain ⟨u147, hinv⟩ := hinv
        obtain ⟨u148, hinv⟩ := hinv
        obtain ⟨u149, hinv⟩ := hinv
        obtain ⟨u150, hinv⟩ := hinv
        obtain ⟨u151, hinv⟩ := hinv
        obtain ⟨u152, hinv⟩ := hinv
        obtain ⟨u153, hinv⟩ := hinv
        obtain ⟨u154, hinv⟩ := hinv
        obtain ⟨u155, hinv⟩ := hinv
        obtain ⟨u156, hinv⟩ := hinv
        obtain ⟨u157, hinv⟩ := hinv
        obtain ⟨u158, hinv⟩ := hinv
        obtain ⟨u159, hinv⟩ := hinv
        obtain ⟨u160, hinv⟩ := hinv
        obtain ⟨u161, hinv⟩ := hinv
        obtain ⟨u162, hinv⟩ := hinv
        obtain ⟨u163, hinv⟩ := hinv
        obtain ⟨u164, hinv⟩ := hinv
        obtain ⟨u165, hinv⟩ := hinv
        obtain ⟨u166, hinv⟩ := hinv
        obtain ⟨hrel, ha⟩ := hinv
        subst ha
        obtain ⟨i, ob, hi, h15, HL⟩ := hrel
        subst h15
        have KW : Hid (∀ W, Below V.heap.size V W → Kc W gx kx g5 p8 r9 t10 w11 i14 gb a (.slice qn nl cn) (.slice qe el ce) k m x z) := fun W hb => K0.out.1.below hb
        have GW : Hid (∀ W, Below V.heap.size V W → Gm w1.heap.size W gb (gof a xs es)) := fun W hb => K0.out.2.1.below hb
        have HIA : Hid (iAt (.pointer (some ⟨ob, 0, none⟩)) wr = i) := iAt_of HL.out.obx
        have KR := hid (KW.out wr HL.out.bl)
        have c5 : wr.cell? ⟨g5, 0, none⟩ = some (.pointer (some ⟨gb, 0, none⟩)) := (tk_store KR.out.p5).1 0
        have c8 : wr.cell? ⟨p8, 0, none⟩ = some (.int .i64 k) := (tk_store KR.out.p8).1 0
        have c11 : wr.cell? ⟨w11, 0, none⟩ = some (.int .i64 m) := (tk_store KR.out.p11).1 0
        have l5 := tk_lt KR.out.p5
        have l8 := tk_lt KR.out.p8
        have l11 := tk_lt KR.out.p11
        have c9a : wr.cell? ⟨r9, 0, none⟩ = some (.int .u64 (x.key : Nat)) := (tk_store KR.out.p9).1 0
        have c9b : wr.cell? ⟨r9, 1, none⟩ = some (.int .u64 x.val) := (tk_store KR.out.p9).1 1
        have c10a : wr.cell? ⟨t10, 0, none⟩ = some (.int .u64 x.a) := (tk_store KR.out.p10).1 0
        have c10b : wr.cell? ⟨t10, 1, none⟩ = some (.int .u64 x.b) := (tk_store KR.out.p10).1 1
        have c10c : wr.cell? ⟨t10, 2, none⟩ = some (.int .u64 x.c) := (tk_store KR.out.p10).1 2
        have l9 := tk_lt KR.out.p9
        have l10 := tk_lt KR.out.p10
        have co : wr.cell? ⟨ob, 0, none⟩ = some (.int .i64 (i : Nat)) := (tk_store HL.out.obx).1 0
        have lo := tk_lt HL.out.obx
        by_cases hlt : (i : Int) < m
        · have hsd := send_any k (i : Nat) m x HK.out wr (GW.out wr HL.out.bl)
          go_wp2_with fail
          refine hsd.mono ?_
          rintro r w2 ⟨v, rfl, HS⟩
          obtain ⟨os, hos⟩ : ∃ os, os = sends (gof a xs es) k x (i : Nat) m := ⟨_, rfl⟩
          rw [← hos] at HS
          obtain ⟨q, n', c, rfl⟩ := owns_form HS.out.1
          obtain ⟨ol, hol⟩ : ∃ n, n = os.length := ⟨_, rfl⟩
          have hn' := (owns_caps HS.out.1 _ _ _ rfl).1
          rw [← hol] at hn'
          subst hn'
          have HOL := hid hol
          have HOS := hid hos
          obtain ⟨lb, hlb⟩ : ∃ b, b = w2.heap.size := ⟨_, rfl⟩
          obtain ⟨nb, hnb⟩ : ∃ b, b = w2.heap.size + 1 := ⟨_, rfl⟩
          obtain ⟨ga, hga⟩ : ∃ b, b = w2.heap.size + 1 + 1 := ⟨_, rfl⟩
          obtain ⟨qa, hqa⟩ : ∃ b, b = w2.heap.size + 1 + 1 + 1 := ⟨_, rfl⟩
          obtain ⟨w4', hw4'⟩ : ∃ W, W = (w2.alloc (.cells #[.slice q n' c] 40)).alloc (.cells #[.int .i64 0] 3) := ⟨_, rfl⟩
          have R4 : Hid (Rk V Ds w4' ob (i : Nat) lb nb wr.heap.size (.slice q n' c) os 0) := by
            have b2 := HS.out.2
            have b4 : Below w2.heap.size w2 w4' := by rw [hw4']; exact (((Gr.refl w2).alloc _).alloc _).below
            have h2 := HL.out.below b2
            have hlt2 := tk_lt h2.obx
            have h3 := h2.bl.size
            refine ⟨h2.below b4, ?_, ?_, owns_below HS.out.1 b4, by omega, by omega⟩
            · rw [hw4', hlb]; exact new1 w2 _ _
            · rw [hw4', hnb]; exact new2 w2 _ _
          have HW4 : Hid ((w2.alloc (.cells #[.slice q n' c] 40)).alloc (.cells #[.int .i64 0] 3) = w4' ∧ w2.heap.size = lb ∧ w2.heap.size + 1 = nb ∧ w4'.heap.size = w2.heap.size + 1 + 1) := ⟨hw4'.symm, hlb.symm, hnb.symm, by rw [hw4']; simp⟩
          clear hos hol hw4' hlb hnb hsd HS c5 c8 c11 l5 l8 l11 c9a c9b c10a c10b c10c l9 l10 co lo KR hga hqa ga qa
          have KR := hid (KW.out w4' R4.out.lk.bl)
          have c5 : w4'.cell? ⟨g5, 0, none⟩ = some (.pointer (some ⟨gb, 0, none⟩)) := (tk_store KR.out.p5).1 0
          have c8 : w4'.cell? ⟨p8, 0, none⟩ = some (.int .i64 k) := (tk_store KR.out.p8).1 0
          have c11 : w4'.cell? ⟨w11, 0, none⟩ = some (.int .i64 m) := (tk_store KR.out.p11).1 0
          have l5 := tk_lt KR.out.p5
          have l8 := tk_lt KR.out.p8
          have l11 := tk_lt KR.out.p11
          go_upto_region 18 with fail
          rw [HW4.out.1, HW4.out.2.2.1, HW4.out.2.1]
          go_wp2_with fail
          refine (callsIn_wide.1 (edges_in (n := 4) (gb := gb) k w4')).mono ?_
          rintro r w3 ⟨rfl, hw3⟩
          have F3 : Hid (Rk V Ds w3 ob (i : Nat) lb nb wr.heap.size (.slice q n' c) os 0 ∧ w3.cell? ⟨w4'.heap.size + 1, 0, none⟩ = some (.int .i64 k) ∧ w3.cell? ⟨w4'.heap.size, 0, none⟩ = some (.pointer (some ⟨gb, 0, none⟩)) ∧ w4'.heap.size + 1 < w3.heap.size ∧ w4'.heap.size < w3.heap.size) := by
            rw [hw3]
            exact ⟨R4.out.below (((Gr.refl w4').alloc _).alloc _).below, (tk_store (new2 w4' _ _)).1 0, (tk_store (new1 w4' _ _)).1 0, tk_lt (new2 w4' _ _), tk_lt (new1 w4' _ _)⟩
          clear hw3 R4 HW4 KR c5 c8 c11 l5 l8 l11
          have hst := edges_stopsS 3 (by decide) (w4'.heap.size + 1) w4'.heap.size k V V.heap.size K0.out.2.1 (Nat.le_refl _) w3 F3.out.1.lk.bl F3.out.2.1 F3.out.2.2.1 F3.out.2.2.2.1 F3.out.2.2.2.2
          go_wp2_with fail
          refine wpIn_wide (n := 4) |>.1 ?_
          have hVs := F3.out.1.lk.bl.size
          have hDs : ∀ D ∈ Ds, D < w3.heap.size := fun D hD => F3.out.1.lk.dok.lt hD
          cases z with
          | true =>
            have HN0 : Hid (n' = 0 ∧ os = []) := by
              have e : os = [] := by rw [HOS.out]; exact sends_none (fun h => by rw [HZ.out] at h; exact absurd h.2.2.2 (by decide))
              exact ⟨by rw [HOL.out, e]; rfl, e⟩
            refine wpIn_rangeFunc_ownG rfl (by decide) (gf := 28) (lb := #[.pointer (some ⟨w4'.heap.size + 1, 0, none⟩), .pointer (some ⟨w4'.heap.size, 0, none⟩)]) rfl trivial (enters_of Try.func28 (by kernel_rfl) rfl)
              hst belowK_t (belowK_b hVs) (Below.refl _ _) (fun _ => rfl)
              (fun (pre : List (Vx (gof a xs es).edges.length)) (W : World) => Rk V Ds W ob (i : Nat) lb nb wr.heap.size (.slice q n' c) os 0)
              (fun (cd : Code) (_ : List (Vx (gof a xs es).edges.length)) (W : World) => cd = .exit 2 ∧ Rk V Ds W ob (i : Nat) lb nb wr.heap.size (.slice q n' c) os 0)
              (fun _ _ _ _ h hg hr => h.own hVs hDs hg hr) (fun _ _ _ _ _ h hg hr => ⟨h.1, h.2.own hVs hDs hg hr⟩)
              F3.out.1 ?a1T ?assignT ?bodyT ?doneT ?stopT
            case assignT =>
              intro l y W K hK
              rw [fold_oneR]
              simp only [List.setIfInBounds_toArray, List.set_cons_succ, List.set_cons_zero]
              gi_wp2
              exact hK
            case bodyT =>
              rintro l pre y W hR hlt2
              have c14 : W.cell? ⟨i14, 0, none⟩ = some (.bool true) := (tk_store (KW.out W hR.lk.bl).p14).1 0
              have l14 := tk_lt (KW.out W hR.lk.bl).p14
              have HR := hid hR
              clear hR
              gi_wp2
              have hS0 : W.drew = W.drew := rfl
              refine wp_regionR (S := fun X => X = W.drew) (D := []) hmx (by kernel_rfl) (fun h => by obtain ⟨_, _, h⟩ := h; exact h) ?_
              refine' wpAnyD_take (i := 0) (oi := { dst := some 69, op := Go.Op.load 4 (Go.Operand.tmp 14), type := 4, pos := "law.go:114", after := #[], guard := none }) (v := _) rfl (by kernel_rfl) (by kernel_rfl) (by kernel_rfl) (fun _ _ _ h => h) (by kernel_rfl) (Or.inl ⟨by rfl, ?hy1⟩) hS0 ?rest1
              case hy1 => (intro W hSw; subst hSw; go_simp; try (with_reducible rfl))
              try simp only [Act.put, List.setIfInBounds_toArray, List.set_cons_zero, List.set_cons_succ]
              refine' wpAnyD_take (i := 1) (oi := { dst := some 70, op := Go.Op.move (Go.Operand.tmp 69), type := 4, pos := "law.go:114", after := #[{ on := 0, ground := Go.Ground.data }], guard := none }) (v := _) rfl (by kernel_rfl) (by kernel_rfl) (by kernel_rfl) (fun _ _ _ h => h) (by kernel_rfl) (Or.inl ⟨by rfl, ?hy2⟩) hS0 ?rest2
              case hy2 => (intro W hSw; subst hSw; go_simp; try (with_reducible rfl))
              try simp only [Act.put, List.setIfInBounds_toArray, List.set_cons_zero, List.set_cons_succ]
              refine' wpAnyD_take (i := 2) (oi := { dst := some 71, op := Go.Op.load 3 (Go.Operand.tmp 8), type := 3, pos := "law.go:114", after := #[{ on := 1, ground := Go.Ground.guard }], guard := some (1, false) }) (v := undef) rfl (by kernel_rfl) (by kernel_rfl) (by kernel_rfl) (fun _ _ _ h => h) (by kernel_rfl) (Or.inr ⟨by rfl, rfl⟩) hS0 ?rest3
              try simp only [Act.put, List.setIfInBounds_toArray, List.set_cons_zero, List.set_cons_succ]
              refine' wpAnyD_take (i := 3) (oi := { dst := some 72, op := Go.Op.binOp Go.BinOp.lss 3 (Go.Operand.tmp 71) (Go.Operand.const (Go.Value.int Go.IntKind.i64 0)) 3, type := 4, pos := "law.go:114", after := #[{ on := 2, ground := Go.Ground.data }, { on := 1, ground := Go.Ground.guard }], guard := some (1, false) }) (v := undef) rfl (by kernel_rfl) (by kernel_rfl) (by kernel_rfl) (fun _ _ _ h => h) (by kernel_rfl) (Or.inr ⟨by rfl, rfl⟩) hS0 ?rest4
              try simp only [Act.put, List.setIfInBounds_toArray, List.set_cons_zero, List.set_cons_succ]
              refine' wpAnyD_take (i := 4) (oi := { dst := some 73, op := Go.Op.pick (Go.Operand.tmp 70) (Go.Operand.const (Go.Value.bool true)) (Go.Operand.tmp 72), type := 4, pos := "law.go:114", after := #[{ on := 1, ground := Go.Ground.data }, { on := 3, ground := Go.Ground.data }], guard := none }) (v := _) rfl (by kernel_rfl) (by kernel_rfl) (by kernel_rfl) (fun _ _ _ h => h) (by kernel_rfl) (Or.inl ⟨by rfl, ?hy5⟩) hS0 ?rest5
              case hy5 => (intro W hSw; subst hSw; go_simp; try (with_reducible rfl))
              try simp only [Act.put, List.setIfInBounds_toArray, List.set_cons_zero, List.set_cons_succ]
              refine' wpAnyD_take (i := 5) (oi := { dst := some 74, op := Go.Op.move (Go.Operand.tmp 73), type := 4, pos := "law.go:114", after := #[{ on := 4, ground := Go.Ground.data }, { on := 1, ground := Go.Ground.chain }], guard := none }) (v := _) rfl (by kernel_rfl) (by kernel_rfl) (by kernel_rfl) (fun _ _ _ h => h) (by kernel_rfl) (Or.inl ⟨by rfl, ?hy6⟩) hS0 ?rest6
              case hy6 => (intro W hSw; subst hSw; go_simp; try (with_reducible rfl))
              try simp only [Act.put, List.setIfInBounds_toArray, List.set_cons_zero, List.set_cons_succ]
              refine' wpAnyD_take (i := 6) (oi := { dst := some 75, op := Go.Op.load 3 (Go.Operand.tmp 8), type := 3, pos := "law.go:114", after := #[{ on := 5, ground := Go.Ground.guard }], guard := some (5, false) }) (v := undef) rfl (by kernel_rfl) (by kernel_rfl) (by kernel_rfl) (fun _ _ _ h => h) (by kernel_rfl) (Or.inr ⟨by rfl, rfl⟩) hS0 ?rest7
              try simp only [Act.put, List.setIfInBounds_toArray, List.set_cons_zero, List.set_cons_succ]
              refine' wpAnyD_take (i := 7) (oi := { dst := some 76, op := Go.Op.load 34 (Go.Operand.tmp 5), type := 34, pos := "law.go:114", after := #[{ on := 5, ground := Go.Ground.guard }], guard := some (5, false) }) (v := undef) rfl (by kernel_rfl) (by kernel_rfl) (by kernel_rfl) (fun _ _ _ h => h) (by kernel_rfl) (Or.inr ⟨by rfl, rfl⟩) hS0 ?rest8
              try simp only [Act.put, List.setIfInBounds_toArray, List.set_cons_zero, List.set_cons_succ]
              refine' wpAnyD_take (i := 8) (oi := { dst := some 77, op := Go.Op.call { callee := Go.Callee.value (Go.Operand.func 11), args := #[Go.Operand.tmp 76], argTypes := #[34] }, type := 3, pos := "law.go:114", after := #[{ on := 7, ground := Go.Ground.data }, { on := 5, ground := Go.Ground.chain }, { on := 5, ground := Go.Ground.guard }], guard := some (5, false) }) (v := undef) rfl (by kernel_rfl) (by kernel_rfl) (by kernel_rfl) (fun _ _ _ h => h) (by kernel_rfl) (Or.inr ⟨by rfl, rfl⟩) hS0 ?rest9
              try simp only [Act.put, List.setIfInBounds_toArray, List.set_cons_zero, List.set_cons_succ]
              refine' wpAnyD_take (i := 9) (oi := { dst := some 78, op := Go.Op.binOp Go.BinOp.geq 3 (Go.Operand.tmp 75) (Go.Operand.tmp 77) 3, type := 4, pos := "law.go:114", after := #[{ on := 6, ground := Go.Ground.data }, { on := 8, ground := Go.Ground.data }, { on := 5, ground := Go.Ground.guard }], guard := some (5, false) }) (v := undef) rfl (by kernel_rfl) (by kernel_rfl) (by kernel_rfl) (fun _ _ _ h => h) (by kernel_rfl) (Or.inr ⟨by rfl, rfl⟩) hS0 ?rest10
              try simp only [Act.put, List.setIfInBounds_toArray, List.set_cons_zero, List.set_cons_succ]
              refine' wpAnyD_take (i := 10) (oi := { dst := some 79, op := Go.Op.pick (Go.Operand.tmp 74) (Go.Operand.const (Go.Value.bool true)) (Go.Operand.tmp 78), type := 4, pos := "law.go:114", after := #[{ on := 5, ground := Go.Ground.data }, { on := 9, ground := Go.Ground.data }], guard := none }) (v := _) rfl (by kernel_rfl) (by kernel_rfl) (by kernel_rfl) (fun _ _ _ h => h) (by kernel_rfl) (Or.inl ⟨by rfl, ?hy11⟩) hS0 ?rest11
              case hy11 => (intro W hSw; subst hSw; go_simp; try (with_reducible rfl))
              try simp only [Act.put, List.setIfInBounds_toArray, List.set_cons_zero, List.set_cons_succ]
              refine wpAnyD_done (by kernel_rfl) ?_ _
              gi_wp2
              exact ⟨keeps_belowR (Gr.refl W).drew.below, rfl, HR.out.below (Gr.refl W).drew.below⟩
            case doneT =>
              rintro D ys W hD _ hR hK
              have hR : Rk V Ds W ob (i : Nat) lb nb wr.heap.size (.slice q n' c) os (n' : Nat) := by rw [HN0.out.1]; rw [HN0.out.1] at hR; exact hR
              have hDn : D ∉ Ds := fun h => by have := hDs D h; omega
              have KR := hid (KW.out W hR.lk.bl)
              have HR := hid hR
              have cl : W.cell? ⟨lb, 0, none⟩ = some (.slice q n' c) := (tk_store hR.lbx).1 0
              have cn : W.cell? ⟨nb, 0, none⟩ = some (.int .i64 (n' : Nat)) := (tk_store hR.nbx).1 0
              have co : W.cell? ⟨ob, 0, none⟩ = some (.int .i64 (i : Nat)) := (tk_store hR.lk.obx).1 0
              have ll := tk_lt hR.lbx
              have ln := tk_lt hR.nbx
              have lo := tk_lt hR.lk.obx
              have hi8 : (i : Int) ≤ 8 := by omega
              clear hR
              go_wp2_with fail
              have P3 : Hid (Lk V (D :: Ds) (W.alloc (.cells #[.int .i64 ((i : Int) + 1)] 3)) W.heap.size ((i + 1 : Nat) : Int)) := by
                have g := ((Gr.refl W).alloc (.cells #[.int .i64 ((i : Int) + 1)] 3)).below
                have h := HR.out.lk.below g
                exact ⟨h.bl, heap_new' _ _, HR.out.lk.bl.size, h.dok.cons ((g.block D (tk_lt hK)).trans hK) (by omega) hDn⟩
              refine ⟨?_, ?measure⟩
              · refine ⟨D :: Ds, ?_⟩
                (repeat apply Exists.intro)
                refine ⟨?_, rfl⟩
                exact ⟨i + 1, W.heap.size, by omega, rfl, P3.out⟩
              case measure =>
                show m.toNat - iAt (.pointer (some ⟨W.heap.size, 0, none⟩)) (W.alloc (.cells #[.int .i64 ((i : Int) + 1)] 3)) < m.toNat - iAt (.pointer (some ⟨ob, 0, none⟩)) _
                rw [show ((i : Int) + 1) = ((i + 1 : Nat) : Int) by omega, HIA.out, iAt_of (heap_new' _ _)]
                omega
            case stopT =>
              rintro D cd ys W hD _ ⟨rfl, hR⟩ hK
              have hR : Rk V Ds W ob (i : Nat) lb nb wr.heap.size (.slice q n' c) os (n' : Nat) := by rw [HN0.out.1]; rw [HN0.out.1] at hR; exact hR
              refine wpIn_wide.2 ?_
              have hDn : D ∉ Ds := fun h => by have := hDs D h; omega
              have KR := hid (KW.out W hR.lk.bl)
              have HR := hid hR
              have cl : W.cell? ⟨lb, 0, none⟩ = some (.slice q n' c) := (tk_store hR.lbx).1 0
              have cn : W.cell? ⟨nb, 0, none⟩ = some (.int .i64 (n' : Nat)) := (tk_store hR.nbx).1 0
              have co : W.cell? ⟨ob, 0, none⟩ = some (.int .i64 (i : Nat)) := (tk_store hR.lk.obx).1 0
              have ll := tk_lt hR.lbx
              have ln := tk_lt hR.nbx
              have lo := tk_lt hR.lk.obx
              have hi8 : (i : Int) ≤ 8 := by omega
              clear hR
              go_wp2_with fail
              have P3 : Hid (Lk V (D :: Ds) (W.alloc (.cells #[.int .i64 ((i : Int) + 1)] 3)) W.heap.size ((i + 1 : Nat) : Int)) := by
                have g := ((Gr.refl W).alloc (.cells #[.int .i64 ((i : Int) + 1)] 3)).below
                have h := HR.out.lk.below g
                exact ⟨h.bl, heap_new' _ _, HR.out.lk.bl.size, h.dok.cons ((g.block D (tk_lt hK)).trans hK) (by omega) hDn⟩
              refine ⟨?_, ?measure⟩
              · refine ⟨D :: Ds, ?_⟩
                (repeat apply Exists.intro)
                refine ⟨?_, rfl⟩
                exact ⟨i + 1, W.heap.size, by omega, rfl, P3.out⟩
              case measure =>
                show m.toNat - iAt (.pointer (some ⟨W.heap.size, 0, none⟩)) (W.alloc (.cells #[.int .i64 ((i : Int) + 1)] 3)) < m.toNat - iAt (.pointer (some ⟨ob, 0, none⟩)) _
                rw [show ((i : Int) + 1) = ((i + 1 : Nat) : Int) by omega, HIA.out, iAt_of (heap_new' _ _)]
                omega
          | false =>
            have HNO : Hid (os = (edN (gof a xs es) k).map (mkO (gof a xs es) x (i : Nat) m)) := by
              show _ = _
              rw [HOS.out]
              unfold sends
              rw [if_pos ⟨⟨hm1, hm2⟩, by omega, hlt, HZ.out⟩]
            have HLN : Hid (n' = (edN (gof a xs es) k).length) := by show _ = _; rw [HOL.out, HNO.out, List.length_map]
            refine wpIn_rangeFunc_ownG rfl (by decide) (gf := 28) (lb := #[.pointer (some ⟨w4'.heap.size + 1, 0, none⟩), .pointer (some ⟨w4'.heap.size, 0, none⟩)]) rfl trivial (enters_of Try.func28 (by kernel_rfl) rfl)
              hst belowK_t (belowK_b hVs) (Below.refl _ _) (fun _ => rfl)
              (fun (pre : List (Vx (gof a xs es).edges.length)) (W : World) => Rk V Ds W ob (i : Nat) lb nb wr.heap.size (.slice q n' c) os (pre.length : Nat))
              (fun (_ : Code) (pre : List (Vx (gof a xs es).edges.length)) (_ : World) => ¬ pre.map Subtype.val <+: edN (gof a xs es) k)
              (fun _ _ _ _ h hg hr => h.own hVs hDs hg hr) (fun _ _ _ _ _ h _ _ => h)
              F3.out.1 ?a1F ?assignF ?bodyF ?doneF ?stopF
            case assignF =>
              intro l y W K hK
              rw [fold_oneR]
              simp only [List.setIfInBounds_toArray, List.set_cons_succ, List.set_cons_zero]
              gi_wp2
              exact hK
            case stopF =>
              rintro D cd ys W hD hS hIx hK
              exact absurd hS hIx
            case doneF =>
              rintro D ys W hD hS hR hK
              have hyl : ys.length = n' := by rw [HLN.out, ← hS, List.length_map]
              rw [hyl] at hR
              have hDn : D ∉ Ds := fun h => by have := hDs D h; omega
              have KR := hid (KW.out W hR.lk.bl)
              have HR := hid hR
              have cl : W.cell? ⟨lb, 0, none⟩ = some (.slice q n' c) := (tk_store hR.lbx).1 0
              have cn : W.cell? ⟨nb, 0, none⟩ = some (.int .i64 (n' : Nat)) := (tk_store hR.nbx).1 0
              have co : W.cell? ⟨ob, 0, none⟩ = some (.int .i64 (i : Nat)) := (tk_store hR.lk.obx).1 0
              have ll := tk_lt hR.lbx
              have ln := tk_lt hR.nbx
              have lo := tk_lt hR.lk.obx
              have hi8 : (i : Int) ≤ 8 := by omega
              clear hR
              go_wp2_with fail
              have P3 : Hid (Lk V (D :: Ds) (W.alloc (.cells #[.int .i64 ((i : Int) + 1)] 3)) W.heap.size ((i + 1 : Nat) : Int)) := by
                have g := ((Gr.refl W).alloc (.cells #[.int .i64 ((i : Int) + 1)] 3)).below
                have h := HR.out.lk.below g
                exact ⟨h.bl, heap_new' _ _, HR.out.lk.bl.size, h.dok.cons ((g.block D (tk_lt hK)).trans hK) (by omega) hDn⟩
              refine ⟨?_, ?measure⟩
              · refine ⟨D :: Ds, ?_⟩
                (repeat apply Exists.intro)
                refine ⟨?_, rfl⟩
                exact ⟨i + 1, W.heap.size, by omega, rfl, P3.out⟩
              case measure =>
                show m.toNat - iAt (.pointer (some ⟨W.heap.size, 0, none⟩)) (W.alloc (.cells #[.int .i64 ((i : Int) + 1)] 3)) < m.toNat - iAt (.pointer (some ⟨ob, 0, none⟩)) _
                rw [show ((i : Int) + 1) = ((i + 1 : Nat) : Int) by omega, HIA.out, iAt_of (heap_new' _ _)]
                omega
            case bodyF =>
              rintro l pre y W hR hlt2
              obtain ⟨e, he⟩ : ∃ e : Nat, y.1 = (e : Int) := ⟨y.1.toNat, by have := y.2.1; omega⟩
              have hel : e < es.length := by have := y.2.2; have h2 : (gof a xs es).edges.length = es.length := rfl; omega
              obtain ⟨d, hd⟩ : ∃ d, es[e]? = some d := ⟨es[e], List.getElem?_eq_getElem hel⟩
              have hpl : pre.length < n' := by rw [HLN.out]; exact hlt2
              obtain ⟨o, ho⟩ : ∃ o, os[pre.length]? = some o := ⟨os[pre.length]'(by rw [← HOL.out]; exact hpl), List.getElem?_eq_getElem _⟩
              have HOO : Hid (o.x = x ∧ 0 ≤ o.wk ∧ o.wk < m) := sends_ok (g := gof a xs es) (k := k) (own := (i : Nat)) (by rw [← HOS.out]; exact List.mem_of_getElem? ho) (edN_valid _ _)
              have HPX : Hid ((pre ++ [y]).map Subtype.val <+: edN (gof a xs es) k → o.at_ = inN (xs.map NV.n) d.dst d.inn ∧ o.wk = alg d.keyed x.key (i : Nat) m) := fun hp => by
                rw [List.map_append] at hp
                have h := map_at HNO.out ho (by rw [List.length_map]) hp
                rw [he, mkO_at (g := gof a xs es) hd] at h
                rw [h]
                exact ⟨rfl, rfl⟩
              obtain ⟨pl, hpl0⟩ : ∃ n, n = pre.length := ⟨_, rfl⟩
              have HPL := hid hpl0
              rw [← hpl0] at hR ho hpl
              have hkk : 0 ≤ k ∧ k < (plN (gof a xs es).nodes : Int) := by
                refine Classical.byContradiction fun h => ?_
                have h2 := HLN.out
                unfold edN at h2
                rw [if_neg h] at h2
                simp at h2
                omega
              have HR := hid hR
              have HVW : Hid (V.heap.size ≤ W.heap.size) := hR.lk.bl.size
              have hpc := gplaces_any W.drew (GW.out _ (hR.lk.bl.trans ((Gr.refl W).drew.below.mono hR.lk.bl.size)))
              have KR := hid (KW.out W hR.lk.bl)
              have c14 : W.cell? ⟨i14, 0, none⟩ = some (.bool false) := (tk_store KR.out.p14).1 0
              have l14 := tk_lt KR.out.p14
              have hk0 : ¬ k < 0 := by omega
              have hk1 : ¬ (plN (gof a xs es).nodes : Int) ≤ k := by omega
              generalize plN (gof a xs es).nodes = P at hpc hk1
              rw [he]
              clear hR hkk hpl0
              have c5 : W.cell? ⟨g5, 0, none⟩ = some (.pointer (some ⟨gb, 0, none⟩)) := (tk_store KR.out.p5).1 0
              have c8 : W.cell? ⟨p8, 0, none⟩ = some (.int .i64 k) := (tk_store KR.out.p8).1 0
              have c11 : W.cell? ⟨w11, 0, none⟩ = some (.int .i64 m) := (tk_store KR.out.p11).1 0
              have l5 := tk_lt KR.out.p5
              have l8 := tk_lt KR.out.p8
              have l11 := tk_lt KR.out.p11
              gi_wp2
              have hS0 : W.drew = W.drew := rfl
              refine wp_regionR (S := fun X => X = W.drew) (D := []) hmx (by kernel_rfl) (fun h => by obtain ⟨_, _, h⟩ := h; exact h) ?_
              refine' wpAnyD_take (i := 0) (oi := { dst := some 69, op := Go.Op.load 4 (Go.Operand.tmp 14), type := 4, pos := "law.go:114", after := #[], guard := none }) (v := _) rfl (by kernel_rfl) (by kernel_rfl) (by kernel_rfl) (fun _ _ _ h => h) (by kernel_rfl) (Or.inl ⟨by rfl, ?hy12⟩) hS0 ?rest12
              case hy12 => (intro W hSw; subst hSw; go_simp; try (with_reducible rfl))
              try simp only [Act.put, List.setIfInBounds_toArray, List.set_cons_zero, List.set_cons_succ]
              refine' wpAnyD_take (i := 1) (oi := { dst := some 70, op := Go.Op.move (Go.Operand.tmp 69), type := 4, pos := "law.go:114", after := #[{ on := 0, ground := Go.Ground.data }], guard := none }) (v := _) rfl (by kernel_rfl) (by kernel_rfl) (by kernel_rfl) (fun _ _ _ h => h) (by kernel_rfl) (Or.inl ⟨by rfl, ?hy13⟩) hS0 ?rest13
              case hy13 => (intro W hSw; subst hSw; go_simp; try (with_reducible rfl))
              try simp only [Act.put, List.setIfInBounds_toArray, List.set_cons_zero, List.set_cons_succ]
              refine' wpAnyD_take (i := 2) (oi := { dst := some 71, op := Go.Op.load 3 (Go.Operand.tmp 8), type := 3, pos := "law.go:114", after := #[{ on := 1, ground := Go.Ground.guard }], guard := some (1, false) }) (v := _) rfl (by kernel_rfl) (by kernel_rfl) (by kernel_rfl) (fun _ _ _ h => h) (by kernel_rfl) (Or.inl ⟨by rfl, ?hy14⟩) hS0 ?rest14
              case hy14 => (intro W hSw; subst hSw; go_simp; try (with_reducible rfl))
              try simp only [Act.put, List.setIfInBounds_toArray, List.set_cons_zero, List.set_cons_succ]
              refine' wpAnyD_take (i := 3) (oi := { dst := some 72, op := Go.Op.binOp Go.BinOp.lss 3 (Go.Operand.tmp 71) (Go.Operand.const (Go.Value.int Go.IntKind.i64 0)) 3, type := 4, pos := "law.go:114", after := #[{ on := 2, ground := Go.Ground.data }, { on := 1, ground := Go.Ground.guard }], guard := some (1, false) }) (v := .bool false) rfl (by kernel_rfl) (by kernel_rfl) (by kernel_rfl) (fun _ _ _ h => h) (by kernel_rfl) (Or.inl ⟨by rfl, ?hy15⟩) hS0 ?rest15
              case hy15 => (intro W hSw; subst hSw; go_simp; first | done | (with_reducible rfl) | simp [hk0])
              try simp only [Act.put, List.setIfInBounds_toArray, List.set_cons_zero, List.set_cons_succ]
              refine' wpAnyD_take (i := 4) (oi := { dst := some 73, op := Go.Op.pick (Go.Operand.tmp 70) (Go.Operand.const (Go.Value.bool true)) (Go.Operand.tmp 72), type := 4, pos := "law.go:114", after := #[{ on := 1, ground := Go.Ground.data }, { on := 3, ground := Go.Ground.data }], guard := none }) (v := _) rfl (by kernel_rfl) (by kernel_rfl) (by kernel_rfl) (fun _ _ _ h => h) (by kernel_rfl) (Or.inl ⟨by rfl, ?hy16⟩) hS0 ?rest16
              case hy16 => (intro W hSw; subst hSw; go_simp; try (with_reducible rfl))
              try simp only [Act.put, List.setIfInBounds_toArray, List.set_cons_zero, List.set_cons_succ]
              refine' wpAnyD_take (i := 5) (oi := { dst := some 74, op := Go.Op.move (Go.Operand.tmp 73), type := 4, pos := "law.go:114", after := #[{ on := 4, ground := Go.Ground.data }, { on := 1, ground := Go.Ground.chain }], guard := none }) (v := _) rfl (by kernel_rfl) (by kernel_rfl) (by kernel_rfl) (fun _ _ _ h => h) (by kernel_rfl) (Or.inl ⟨by rfl, ?hy17⟩) hS0 ?rest17
              case hy17 => (intro W hSw; subst hSw; go_simp; try (with_reducible rfl))
              try simp only [Act.put, List.setIfInBounds_toArray, List.set_cons_zero, List.set_cons_succ]
              refine' wpAnyD_take (i := 6) (oi := { dst := some 75, op := Go.Op.load 3 (Go.Operand.tmp 8), type := 3, pos := "law.go:114", after := #[{ on := 5, ground := Go.Ground.guard }], guard := some (5, false) }) (v := _) rfl (by kernel_rfl) (by kernel_rfl) (by kernel_rfl) (fun _ _ _ h => h) (by kernel_rfl) (Or.inl ⟨by rfl, ?hy18⟩) hS0 ?rest18
              case hy18 => (intro W hSw; subst hSw; go_simp; try (with_reducible rfl))
              try simp only [Act.put, List.setIfInBounds_toArray, List.set_cons_zero, List.set_cons_succ]
              refine' wpAnyD_take (i := 7) (oi := { dst := some 76, op := Go.Op.load 34 (Go.Operand.tmp 5), type := 34, pos := "law.go:114", after := #[{ on := 5, ground := Go.Ground.guard }], guard := some (5, false) }) (v := _) rfl (by kernel_rfl) (by kernel_rfl) (by kernel_rfl) (fun _ _ _ h => h) (by kernel_rfl) (Or.inl ⟨by rfl, ?hy19⟩) hS0 ?rest19
              case hy19 => (intro W hSw; subst hSw; go_simp; try (with_reducible rfl))
              try simp only [Act.put, List.setIfInBounds_toArray, List.set_cons_zero, List.set_cons_succ]
              refine wpAnyD_one (i := 8) (o := { dst := some 77, op := Go.Op.call { callee := Go.Callee.value (Go.Operand.func 11), args := #[Go.Operand.tmp 76], argTypes := #[34] }, type := 3, pos := "law.go:114", after := #[{ on := 7, ground := Go.Ground.data }, { on := 5, ground := Go.Ground.chain }, { on := 5, ground := Go.Ground.guard }], guard := some (5, false) }) (by kernel_rfl) rfl (fun K hK => ?_)
              go_simp
              refine hpc.mono ?_
              rintro r w7 ⟨rfl, hw7⟩
              go_wp2_with fail
              refine hK.out _ _ (fun hD => rfl) ?_
              clear hK K
              try simp only [Act.put, List.setIfInBounds_toArray, List.set_cons_zero, List.set_cons_succ]
              refine' wpAnyD_take (i := 9) (oi := { dst := some 78, op := Go.Op.binOp Go.BinOp.geq 3 (Go.Operand.tmp 75) (Go.Operand.tmp 77) 3, type := 4, pos := "law.go:114", after := #[{ on := 6, ground := Go.Ground.data }, { on := 8, ground := Go.Ground.data }, { on := 5, ground := Go.Ground.guard }], guard := some (5, false) }) (v := .bool false) rfl (by kernel_rfl) (by kernel_rfl) (by kernel_rfl) (fun _ _ _ h => h) (by kernel_rfl) (Or.inl ⟨by rfl, ?hy21⟩) rfl ?rest21
              case hy21 => (intro W hSw; subst hSw; go_simp; first | done | (with_reducible rfl) | simp [hk1])
              try simp only [Act.put, List.setIfInBounds_toArray, List.set_cons_zero, List.set_cons_succ]
              refine' wpAnyD_take (i := 10) (oi := { dst := some 79, op := Go.Op.pick (Go.Operand.tmp 74) (Go.Operand.const (Go.Value.bool true)) (Go.Operand.tmp 78), type := 4, pos := "law.go:114", after := #[{ on := 5, ground := Go.Ground.data }, { on := 9, ground := Go.Ground.data }], guard := none }) (v := _) rfl (by kernel_rfl) (by kernel_rfl) (by kernel_rfl) (fun _ _ _ h => h) (by kernel_rfl) (Or.inl ⟨by rfl, ?hy22⟩) rfl ?rest22
              case hy22 => (intro W hSw; subst hSw; go_simp; try (with_reducible rfl))
              try simp only [Act.put, List.setIfInBounds_toArray, List.set_cons_zero, List.set_cons_succ]
              refine wpAnyD_done (by kernel_rfl) ?_ _
              have R1 := hid (HR.out.below (Gr.refl W).drew.below)
              have B1 : Hid (Below W.heap.size W W.drew) := (Gr.refl W).drew.below
              generalize W.drew = Wd at R1 B1 ⊢
              clear hpc c14 l14 c5 c8 c11 l5 l8 l11 KR HR hk0 hk1
              have KR := hid (KW.out Wd R1.out.lk.bl)
              have cx := (tk_store KR.out.g).1
              have lx := tk_lt KR.out.g
              unfold gvc at cx
              have hls := ((HG.out Wd (K0.out.2.2.trans (R1.out.lk.bl.mono K0.out.2.2.size))).edges.ls hd)
              obtain ⟨b2, o2, c2, e2, z2, y0, y1, y2, y3, y4⟩ := ls_atD hls hd
              simp only [Value.slice.injEq] at e2
              obtain ⟨rfl, -, rfl⟩ := e2
              have hez : (e : Int) < (el : Int) := by have := HEL.out; omega
              have he0 : (0 : Int) ≤ (e : Int) := by omega
              obtain ⟨W1, hW1⟩ : ∃ W1, W1 = Wd.alloc (.cells #[.int .i64 d.src, .int .i64 d.out, .int .i64 d.dst, .int .i64 d.inn, .bool d.keyed] 47) := ⟨_, rfl⟩
              obtain ⟨db, hdb⟩ : ∃ b, b = Wd.heap.size := ⟨_, rfl⟩
              have R2 : Hid (Rk V Ds W1 ob (i : Nat) lb nb wr.heap.size (.slice q n' c) os (pl : Nat) ∧ W1.heap[db]? = some (.cells #[.int .i64 d.src, .int .i64 d.out, .int .i64 d.dst, .int .i64 d.inn, .bool d.keyed] 47 (0, 0)) ∧ Below W.heap.size W W1) := by
                have g := ((Gr.refl Wd).alloc (.cells #[.int .i64 d.src, .int .i64 d.out, .int .i64 d.dst, .int .i64 d.inn, .bool d.keyed] 47)).below
                rw [hW1, hdb]
                exact ⟨R1.out.below g, heap_new' _ _, B1.out.trans (g.mono B1.out.size)⟩
              have HW1 : Hid (Wd.alloc (.cells #[.int .i64 d.src, .int .i64 d.out, .int .i64 d.dst, .int .i64 d.inn, .bool d.keyed] 47) = W1 ∧ Wd.heap.size = db) := ⟨hW1.symm, hdb.symm⟩
              clear hW1 hdb
              gi_wp2
              rw [HW1.out.1, HW1.out.2]
              clear HW1 hls cx lx y0 y1 y2 y3 y4 z2 hez he0 R1 B1 KR
              obtain ⟨bo, cc, hv⟩ : ∃ bo cc, (Value.slice q n' c) = .slice (some ⟨bo, 0, none⟩) n' cc := by
                obtain ⟨j, hj⟩ : ∃ j, n' = j + 1 := ⟨n' - 1, by omega⟩
                have h := R2.out.1.row
                rw [← HOL.out, hj] at h
                obtain ⟨g', c', h'⟩ := ownsRow_succ h
                exact ⟨g', c', by rw [hj]; exact h'⟩
              simp only [Value.slice.injEq] at hv
              obtain ⟨rfl, -, rfl⟩ := hv
              have hlo := owns_ls (E := EOt) R2.out.1.row
              obtain ⟨zb, x0, x1, x2, x3, x4, x5, x6⟩ := ls_atOt hlo ho
              rw [HOO.out.1] at x2 x3 x4 x5 x6
              have KR := hid (KW.out W1 R2.out.1.lk.bl)
              have c5 : W1.cell? ⟨g5, 0, none⟩ = some (.pointer (some ⟨gb, 0, none⟩)) := (tk_store KR.out.p5).1 0
              have l5 := tk_lt KR.out.p5
              have c9a : W1.cell? ⟨r9, 0, none⟩ = some (.int .u64 (x.key : Nat)) := (tk_store KR.out.p9).1 0
              have c9b : W1.cell? ⟨r9, 1, none⟩ = some (.int .u64 x.val) := (tk_store KR.out.p9).1 1
              have c10a : W1.cell? ⟨t10, 0, none⟩ = some (.int .u64 x.a) := (tk_store KR.out.p10).1 0
              have c10b : W1.cell? ⟨t10, 1, none⟩ = some (.int .u64 x.b) := (tk_store KR.out.p10).1 1
              have c10c : W1.cell? ⟨t10, 2, none⟩ = some (.int .u64 x.c) := (tk_store KR.out.p10).1 2
              have l9 := tk_lt KR.out.p9
              have l10 := tk_lt KR.out.p10
              have cl : W1.cell? ⟨lb, 0, none⟩ = some (.slice (some ⟨bo, 0, none⟩) n' c) := (tk_store R2.out.1.lbx).1 0
              have cn : W1.cell? ⟨nb, 0, none⟩ = some (.int .i64 (pl : Nat)) := (tk_store R2.out.1.nbx).1 0
              have ll := tk_lt R2.out.1.lbx
              have ln := tk_lt R2.out.1.nbx
              have cd2 : W1.cell? ⟨db, 2, none⟩ = some (.int .i64 d.dst) := (tk_store R2.out.2.1).1 2
              have cd3 : W1.cell? ⟨db, 3, none⟩ = some (.int .i64 d.inn) := (tk_store R2.out.2.1).1 3
              have lD := tk_lt R2.out.2.1
              have hpz : (pl : Int) < (n' : Int) := by omega
              have hpz' : ¬ (n' : Int) ≤ (pl : Int) := by omega
              have hp0 : (0 : Int) ≤ (pl : Int) := by omega
              have hgi := gin_any d.dst d.inn W1.drew (GW.out _ (R2.out.1.lk.bl.trans ((Gr.refl W1).drew.below.mono R2.out.1.lk.bl.size)))
              obtain ⟨ai, hai⟩ : ∃ ai, ai = inN (xs.map NV.n) d.dst d.inn := ⟨_, rfl⟩
              have HAI := hid hai
              rw [show inN (gof a xs es).nodes d.dst d.inn = ai from hai.symm] at hgi
              clear hai hlo
              obtain ⟨bq, hbq⟩ : ∃ bq, bq = decide (o.at_ = ai) := ⟨_, rfl⟩
              have heq := fun W => run_eqMx (p := o.at_) (q := ai) x hbq.symm W
              have HBQ := hid hbq
              clear hbq
              have hS0 : W1.drew = W1.drew := rfl
              refine wp_regionR (S := fun X => X = W1.drew) (D := []) hmx (by kernel_rfl) (fun h => by obtain ⟨_, _, h⟩ := h; exact h) ?_
              refine' wpAnyD_take (i := 0) (oi := { dst := some 94, op := Go.Op.load 3 (Go.Operand.tmp 17), type := 3, pos := "law.go:121", after := #[], guard := none }) (v := _) rfl (by kernel_rfl) (by kernel_rfl) (by kernel_rfl) (fun _ _ _ h => h) (by kernel_rfl) (Or.inl ⟨by rfl, ?hy23⟩) hS0 ?rest23
              case hy23 => (intro W hSw; subst hSw; go_simp; try (with_reducible rfl))
              try simp only [Act.put, List.setIfInBounds_toArray, List.set_cons_zero, List.set_cons_succ]
              refine' wpAnyD_take (i := 1) (oi := { dst := some 95, op := Go.Op.load 40 (Go.Operand.tmp 16), type := 40, pos := "law.go:121", after := #[], guard := none }) (v := _) rfl (by kernel_rfl) (by kernel_rfl) (by kernel_rfl) (fun _ _ _ h => h) (by kernel_rfl) (Or.inl ⟨by rfl, ?hy24⟩) hS0 ?rest24
              case hy24 => (intro W hSw; subst hSw; go_simp; try (with_reducible rfl))
              try simp only [Act.put, List.setIfInBounds_toArray, List.set_cons_zero, List.set_cons_succ]
              refine' wpAnyD_take (i := 2) (oi := { dst := some 96, op := Go.Op.call { callee := Go.Callee.builtin Go.Builtin.len, args := #[Go.Operand.tmp 95], argTypes := #[40] }, type := 3, pos := "law.go:121", after := #[{ on := 1, ground := Go.Ground.data }], guard := none }) (v := _) rfl (by kernel_rfl) (by kernel_rfl) (by kernel_rfl) (fun _ _ _ h => h) (by kernel_rfl) (Or.inl ⟨by rfl, ?hy25⟩) hS0 ?rest25
              case hy25 => (intro W hSw; subst hSw; go_simp; try (with_reducible rfl))
              try simp only [Act.put, List.setIfInBounds_toArray, List.set_cons_zero, List.set_cons_succ]
              refine' wpAnyD_take (i := 3) (oi := { dst := some 97, op := Go.Op.binOp Go.BinOp.geq 3 (Go.Operand.tmp 94) (Go.Operand.tmp 96) 3, type := 4, pos := "law.go:121", after := #[{ on := 0, ground := Go.Ground.data }, { on := 2, ground := Go.Ground.data }], guard := none }) (v := .bool false) rfl (by kernel_rfl) (by kernel_rfl) (by kernel_rfl) (fun _ _ _ h => h) (by kernel_rfl) (Or.inl ⟨by rfl, ?hy26⟩) hS0 ?rest26
              case hy26 => (intro W hSw; subst hSw; go_simp; first | done | (with_reducible rfl) | simp [hpz'])
              try simp only [Act.put, List.setIfInBounds_toArray, List.set_cons_zero, List.set_cons_succ]
              refine' wpAnyD_take (i := 4) (oi := { dst := some 98, op := Go.Op.move (Go.Operand.tmp 97), type := 4, pos := "law.go:121", after := #[{ on := 3, ground := Go.Ground.data }], guard := none }) (v := _) rfl (by kernel_rfl) (by kernel_rfl) (by kernel_rfl) (fun _ _ _ h => h) (by kernel_rfl) (Or.inl ⟨by rfl, ?hy27⟩) hS0 ?rest27
              case hy27 => (intro W hSw; subst hSw; go_simp; try (with_reducible rfl))
              try simp only [Act.put, List.setIfInBounds_toArray, List.set_cons_zero, List.set_cons_succ]
              refine' wpAnyD_take (i := 5) (oi := { dst := some 99, op := Go.Op.load 40 (Go.Operand.tmp 16), type := 40, pos := "law.go:121", after := #[{ on := 4, ground := Go.Ground.guard }], guard := some (4, false) }) (v := _) rfl (by kernel_rfl) (by kernel_rfl) (by kernel_rfl) (fun _ _ _ h => h) (by kernel_rfl) (Or.inl ⟨by rfl, ?hy28⟩) hS0 ?rest28
              case hy28 => (intro W hSw; subst hSw; go_simp; try (with_reducible rfl))
              try simp only [Act.put, List.setIfInBounds_toArray, List.set_cons_zero, List.set_cons_succ]
              refine' wpAnyD_take (i := 6) (oi := { dst := some 100, op := Go.Op.load 3 (Go.Operand.tmp 17), type := 3, pos := "law.go:121", after := #[{ on := 4, ground := Go.Ground.guard }], guard := some (4, false) }) (v := _) rfl (by kernel_rfl) (by kernel_rfl) (by kernel_rfl) (fun _ _ _ h => h) (by kernel_rfl) (Or.inl ⟨by rfl, ?hy29⟩) hS0 ?rest29
              case hy29 => (intro W hSw; subst hSw; go_simp; try (with_reducible rfl))
              try simp only [Act.put, List.setIfInBounds_toArray, List.set_cons_zero, List.set_cons_succ]
              refine' wpAnyD_take (i := 7) (oi := { dst := some 101, op := Go.Op.indexAddr 40 (Go.Operand.tmp 99) (Go.Operand.tmp 100), type := 0, pos := "law.go:121", after := #[{ on := 5, ground := Go.Ground.data }, { on := 6, ground := Go.Ground.data }, { on := 4, ground := Go.Ground.guard }], guard := some (4, false) }) (v := _) rfl (by kernel_rfl) (by kernel_rfl) (by kernel_rfl) (fun _ _ _ h => h) (by kernel_rfl) (Or.inl ⟨by rfl, ?hy30⟩) hS0 ?rest30
              case hy30 => (intro W hSw; subst hSw; go_simp; try (with_reducible rfl))
              try simp only [Act.put, List.setIfInBounds_toArray, List.set_cons_zero, List.set_cons_succ]
              refine' wpAnyD_take (i := 8) (oi := { dst := some 102, op := Go.Op.fieldAddr 51 (Go.Operand.tmp 101) 1, type := 0, pos := "law.go:121", after := #[{ on := 7, ground := Go.Ground.data }, { on := 4, ground := Go.Ground.guard }], guard := some (4, false) }) (v := _) rfl (by kernel_rfl) (by kernel_rfl) (by kernel_rfl) (fun _ _ _ h => h) (by kernel_rfl) (Or.inl ⟨by rfl, ?hy31⟩) hS0 ?rest31
              case hy31 => (intro W hSw; subst hSw; go_simp; try (with_reducible rfl))
              try simp only [Act.put, List.setIfInBounds_toArray, List.set_cons_zero, List.set_cons_succ]
              refine' wpAnyD_take (i := 9) (oi := { dst := some 103, op := Go.Op.load 49 (Go.Operand.tmp 102), type := 49, pos := "law.go:121", after := #[{ on := 8, ground := Go.Ground.data }, { on := 4, ground := Go.Ground.guard }], guard := some (4, false) }) (v := _) rfl (by kernel_rfl) (by kernel_rfl) (by kernel_rfl) (fun _ _ _ h => h) (by kernel_rfl) (Or.inl ⟨by rfl, ?hy32⟩) hS0 ?rest32
              case hy32 => (intro W hSw; subst hSw; go_simp; try (with_reducible rfl))
              try simp only [Act.put, List.setIfInBounds_toArray, List.set_cons_zero, List.set_cons_succ]
              refine' wpAnyD_take (i := 10) (oi := { dst := some 104, op := Go.Op.load 34 (Go.Operand.tmp 5), type := 34, pos := "law.go:121", after := #[{ on := 4, ground := Go.Ground.guard }], guard := some (4, false) }) (v := _) rfl (by kernel_rfl) (by kernel_rfl) (by kernel_rfl) (fun _ _ _ h => h) (by kernel_rfl) (Or.inl ⟨by rfl, ?hy33⟩) hS0 ?rest33
              case hy33 => (intro W hSw; subst hSw; go_simp; try (with_reducible rfl))
              try simp only [Act.put, List.setIfInBounds_toArray, List.set_cons_zero, List.set_cons_succ]
              refine' wpAnyD_take (i := 11) (oi := { dst := some 105, op := Go.Op.fieldAddr 47 (Go.Operand.tmp 19) 2, type := 0, pos := "law.go:121", after := #[{ on := 4, ground := Go.Ground.guard }], guard := some (4, false) }) (v := _) rfl (by kernel_rfl) (by kernel_rfl) (by kernel_rfl) (fun _ _ _ h => h) (by kernel_rfl) (Or.inl ⟨by rfl, ?hy34⟩) hS0 ?rest34
              case hy34 => (intro W hSw; subst hSw; go_simp; try (with_reducible rfl))
              try simp only [Act.put, List.setIfInBounds_toArray, List.set_cons_zero, List.set_cons_succ]
              refine' wpAnyD_take (i := 12) (oi := { dst := some 106, op := Go.Op.load 3 (Go.Operand.tmp 105), type := 3, pos := "law.go:121", after := #[{ on := 11, ground := Go.Ground.data }, { on := 4, ground := Go.Ground.guard }], guard := some (4, false) }) (v := _) rfl (by kernel_rfl) (by kernel_rfl) (by kernel_rfl) (fun _ _ _ h => h) (by kernel_rfl) (Or.inl ⟨by rfl, ?hy35⟩) hS0 ?rest35
              case hy35 => (intro W hSw; subst hSw; go_simp; try (with_reducible rfl))
              try simp only [Act.put, List.setIfInBounds_toArray, List.set_cons_zero, List.set_cons_succ]
              refine' wpAnyD_take (i := 13) (oi := { dst := some 107, op := Go.Op.fieldAddr 47 (Go.Operand.tmp 19) 3, type := 0, pos := "law.go:121", after := #[{ on := 4, ground := Go.Ground.guard }], guard := some (4, false) }) (v := _) rfl (by kernel_rfl) (by kernel_rfl) (by kernel_rfl) (fun _ _ _ h => h) (by kernel_rfl) (Or.inl ⟨by rfl, ?hy36⟩) hS0 ?rest36
              case hy36 => (intro W hSw; subst hSw; go_simp; try (with_reducible rfl))
              try simp only [Act.put, List.setIfInBounds_toArray, List.set_cons_zero, List.set_cons_succ]
              refine' wpAnyD_take (i := 14) (oi := { dst := some 108, op := Go.Op.load 3 (Go.Operand.tmp 107), type := 3, pos := "law.go:121", after := #[{ on := 13, ground := Go.Ground.data }, { on := 4, ground := Go.Ground.guard }], guard := some (4, false) }) (v := _) rfl (by kernel_rfl) (by kernel_rfl) (by kernel_rfl) (fun _ _ _ h => h) (by kernel_rfl) (Or.inl ⟨by rfl, ?hy37⟩) hS0 ?rest37
              case hy37 => (intro W hSw; subst hSw; go_simp; try (with_reducible rfl))
              try simp only [Act.put, List.setIfInBounds_toArray, List.set_cons_zero, List.set_cons_succ]
              refine' wpAnyD_take (i := 16) (oi := { dst := some 110, op := Go.Op.load 28 (Go.Operand.tmp 10), type := 28, pos := "law.go:121", after := #[{ on := 4, ground := Go.Ground.guard }], guard := some (4, false) }) (v := _) rfl (by kernel_rfl) (by kernel_rfl) (by kernel_rfl) (fun _ _ _ h => h) (by kernel_rfl) (Or.inl ⟨by rfl, ?hy38⟩) hS0 ?rest38
              case hy38 => (intro W hSw; subst hSw; go_simp; try (with_reducible rfl))
              try simp only [Act.put, List.setIfInBounds_toArray, List.set_cons_zero, List.set_cons_succ]
              refine' wpAnyD_take (i := 17) (oi := { dst := some 111, op := Go.Op.load 30 (Go.Operand.tmp 9), type := 30, pos := "law.go:121", after := #[{ on := 4, ground := Go.Ground.guard }], guard := some (4, false) }) (v := _) rfl (by kernel_rfl) (by kernel_rfl) (by kernel_rfl) (fun _ _ _ h => h) (by kernel_rfl) (Or.inl ⟨by rfl, ?hy39⟩) hS0 ?rest39
              case hy39 => (intro W hSw; subst hSw; go_simp; try (with_reducible rfl))
              try simp only [Act.put, List.setIfInBounds_toArray, List.set_cons_zero, List.set_cons_succ]
              refine wpAnyD_one (i := 15) (o := { dst := some 109, op := Go.Op.call { callee := Go.Callee.value (Go.Operand.func 12), args := #[Go.Operand.tmp 104, Go.Operand.tmp 106, Go.Operand.tmp 108], argTypes := #[34, 3, 3] }, type := 3, pos := "law.go:121", after := #[{ on := 10, ground := Go.Ground.data }, { on := 12, ground := Go.Ground.data }, { on := 14, ground := Go.Ground.data }, { on := 4, ground := Go.Ground.chain }, { on := 4, ground := Go.Ground.guard }], guard := some (4, false) }) (by kernel_rfl) rfl (fun K hK => ?_)
              go_simp
              refine hgi.mono ?_
              rintro r w7 ⟨rfl, hw7⟩
              go_wp2_with fail
              refine hK.out _ _ (fun hD => rfl) ?_
              clear hK K
              try simp only [Act.put, List.setIfInBounds_toArray, List.set_cons_zero, List.set_cons_succ]
              refine' wpAnyD_take (i := 18) (oi := { dst := some 112, op := Go.Op.build 49 #[(0, Go.Operand.tmp 109), (1, Go.Operand.tmp 110), (2, Go.Operand.tmp 111)], type := 49, pos := "law.go:121", after := #[{ on := 15, ground := Go.Ground.data }, { on := 16, ground := Go.Ground.data }, { on := 17, ground := Go.Ground.data }, { on := 4, ground := Go.Ground.guard }], guard := some (4, false) }) (v := _) rfl (by kernel_rfl) (by kernel_rfl) (by kernel_rfl) (fun _ _ _ h => h) (by kernel_rfl) (Or.inl ⟨by rfl, ?hy41⟩) rfl ?rest41
              case hy41 => (intro W hSw; subst hSw; go_simp; try (with_reducible rfl))
              try simp only [Act.put, List.setIfInBounds_toArray, List.set_cons_zero, List.set_cons_succ]
              refine' wpAnyD_take (i := 19) (oi := { dst := some 113, op := Go.Op.binOp Go.BinOp.neq 49 (Go.Operand.tmp 103) (Go.Operand.tmp 112) 49, type := 4, pos := "law.go:121", after := #[{ on := 9, ground := Go.Ground.data }, { on := 18, ground := Go.Ground.data }, { on := 4, ground := Go.Ground.guard }], guard := some (4, false) }) (v := .bool (!bq)) rfl (by kernel_rfl) (by kernel_rfl) (by kernel_rfl) (fun _ _ _ h => h) (by kernel_rfl) (Or.inl ⟨by rfl, ?hy42⟩) rfl ?rest42
              case hy42 => (intro W hSw; subst hSw; go_simp; first | done | (with_reducible rfl) | simp [heq])
              try simp only [Act.put, List.setIfInBounds_toArray, List.set_cons_zero, List.set_cons_succ]
              refine' wpAnyD_take (i := 20) (oi := { dst := some 114, op := Go.Op.pick (Go.Operand.tmp 98) (Go.Operand.const (Go.Value.bool true)) (Go.Operand.tmp 113), type := 4, pos := "law.go:121", after := #[{ on := 4, ground := Go.Ground.data }, { on := 19, ground := Go.Ground.data }], guard := none }) (v := _) rfl (by kernel_rfl) (by kernel_rfl) (by kernel_rfl) (fun _ _ _ h => h) (by kernel_rfl) (Or.inl ⟨by rfl, ?hy43⟩) rfl ?rest43
              case hy43 => (intro W hSw; subst hSw; go_simp; try (with_reducible rfl))
              try simp only [Act.put, List.setIfInBounds_toArray, List.set_cons_zero, List.set_cons_succ]
              refine wpAnyD_done (by kernel_rfl) ?_ _
              have R3 : Hid (Rk V Ds W1.drew ob (i : Nat) lb nb wr.heap.size (.slice (some ⟨bo, 0, none⟩) n' c) os (pl : Nat) ∧ W1.drew.heap[db]? = some (.cells #[.int .i64 d.src, .int .i64 d.out, .int .i64 d.dst, .int .i64 d.inn, .bool d.keyed] 47 (0, 0)) ∧ Below W.heap.size W W1.drew) := ⟨R2.out.1.below (Gr.refl W1).drew.below, R2.out.2.1, R2.out.2.2.trans ((Gr.refl W1).drew.below.mono R2.out.2.2.size)⟩
              generalize W1.drew = W2 at R3 ⊢
              clear heq hgi x0 x1 x2 x3 x4 x5 x6 zb c5 l5 c9a c9b c10a c10b c10c l9 l10 cl cn ll ln cd2 cd3 lD KR R2
              have KR := hid (KW.out W2 R3.out.1.lk.bl)
              cases bq with
              | false =>
                have ck := (tk_store KR.out.r).1
                have fk := (tk_store KR.out.r).2
                have lk := tk_lt KR.out.r
                gi_wp2
                obtain ⟨s1, s2⟩ := tk_set KR.out.r 0 (.bool false)
                refine ⟨(keeps_belowR R3.out.2.2).trans (keeps_kpR KR.out.r s2), fun hp => ?_⟩
                have h1 := (HPX.out hp).1
                rw [← HAI.out] at h1
                have h2 := HBQ.out
                rw [h1] at h2
                simp at h2
              | true =>
                have hlo := owns_ls (E := EOt) R3.out.1.row
                obtain ⟨zb, x0, -, -, -, -, -, -⟩ := ls_atOt hlo ho
                have c9a : W2.cell? ⟨r9, 0, none⟩ = some (.int .u64 (x.key : Nat)) := (tk_store KR.out.p9).1 0
                have c11 : W2.cell? ⟨w11, 0, none⟩ = some (.int .i64 m) := (tk_store KR.out.p11).1 0
                have l9 := tk_lt KR.out.p9
                have l11 := tk_lt KR.out.p11
                have cl : W2.cell? ⟨lb, 0, none⟩ = some (.slice (some ⟨bo, 0, none⟩) n' c) := (tk_store R3.out.1.lbx).1 0
                have cn : W2.cell? ⟨nb, 0, none⟩ = some (.int .i64 (pl : Nat)) := (tk_store R3.out.1.nbx).1 0
                have co : W2.cell? ⟨ob, 0, none⟩ = some (.int .i64 (i : Nat)) := (tk_store R3.out.1.lk.obx).1 0
                have ll := tk_lt R3.out.1.lbx
                have ln := tk_lt R3.out.1.nbx
                have lo := tk_lt R3.out.1.lk.obx
                have cd4 : W2.cell? ⟨db, 4, none⟩ = some (.bool d.keyed) := (tk_store R3.out.2.1).1 4
                have lD := tk_lt R3.out.2.1
                have hto := who_any HK.out m W2.drew
                obtain ⟨tw, htw⟩ : ∃ tw, tw = tow x.key m := ⟨_, rfl⟩
                rw [← htw] at hto
                have HTW := hid htw
                have hw0 : ¬ o.wk < 0 := by have := HOO.out.2.1; omega
                have hw1 : ¬ m ≤ o.wk := by have := HOO.out.2.2; omega
                obtain ⟨kd, hkd⟩ : ∃ kd, kd = d.keyed := ⟨_, rfl⟩
                rw [← hkd] at cd4
                have HKD := hid hkd
                have hS0 : W2.drew = W2.drew := rfl
                have R4 : Hid (Rk V Ds W2.drew ob (i : Nat) lb nb wr.heap.size (.slice (some ⟨bo, 0, none⟩) n' c) os (pl : Nat) ∧ Below W.heap.size W W2.drew) := ⟨R3.out.1.below (Gr.refl W2).drew.below, R3.out.2.2.trans ((Gr.refl W2).drew.below.mono R3.out.2.2.size)⟩
                clear htw hkd hlo R3 KR
                gi_wp2
                cases kd with
                | true =>
                  by_cases hkw : o.wk = tw
                  · rw [hkw] at x0 hw0 hw1
                    refine wp_regionR (S := fun X => X = W2.drew) (D := []) hmx (by kernel_rfl) (fun h => by obtain ⟨_, _, h⟩ := h; exact h) ?_
                    refine' wpAnyD_take (i := 0) (oi := { dst := some 115, op := Go.Op.fieldAddr 47 (Go.Operand.tmp 19) 4, type := 0, pos := "law.go:124", after := #[], guard := none }) (v := _) rfl (by kernel_rfl) (by kernel_rfl) (by kernel_rfl) (fun _ _ _ h => h) (by kernel_rfl) (Or.inl ⟨by rfl, ?hy44⟩) rfl ?rest44
                    case hy44 => (intro W hSw; subst hSw; go_simp; try (with_reducible rfl))
                    try simp only [Act.put, List.setIfInBounds_toArray, List.set_cons_zero, List.set_cons_succ]
                    refine' wpAnyD_take (i := 1) (oi := { dst := some 116, op := Go.Op.load 4 (Go.Operand.tmp 115), type := 4, pos := "law.go:124", after := #[{ on := 0, ground := Go.Ground.data }], guard := none }) (v := _) rfl (by kernel_rfl) (by kernel_rfl) (by kernel_rfl) (fun _ _ _ h => h) (by kernel_rfl) (Or.inl ⟨by rfl, ?hy45⟩) rfl ?rest45
                    case hy45 => (intro W hSw; subst hSw; go_simp; try (with_reducible rfl))
                    try simp only [Act.put, List.setIfInBounds_toArray, List.set_cons_zero, List.set_cons_succ]
                    refine' wpAnyD_take (i := 2) (oi := { dst := some 117, op := Go.Op.move (Go.Operand.tmp 116), type := 4, pos := "law.go:124", after := #[{ on := 1, ground := Go.Ground.data }], guard := none }) (v := _) rfl (by kernel_rfl) (by kernel_rfl) (by kernel_rfl) (fun _ _ _ h => h) (by kernel_rfl) (Or.inl ⟨by rfl, ?hy46⟩) rfl ?rest46
                    case hy46 => (intro W hSw; subst hSw; go_simp; try (with_reducible rfl))
                    try simp only [Act.put, List.setIfInBounds_toArray, List.set_cons_zero, List.set_cons_succ]
                    refine' wpAnyD_take (i := 3) (oi := { dst := some 118, op := Go.Op.load 40 (Go.Operand.tmp 16), type := 40, pos := "law.go:124", after := #[{ on := 2, ground := Go.Ground.guard }], guard := some (2, true) }) (v := _) rfl (by kernel_rfl) (by kernel_rfl) (by kernel_rfl) (fun _ _ _ h => h) (by kernel_rfl) (Or.inl ⟨by rfl, ?hy47⟩) rfl ?rest47
                    case hy47 => (intro W hSw; subst hSw; go_simp; try (with_reducible rfl))
                    try simp only [Act.put, List.setIfInBounds_toArray, List.set_cons_zero, List.set_cons_succ]
                    refine' wpAnyD_take (i := 4) (oi := { dst := some 119, op := Go.Op.load 3 (Go.Operand.tmp 17), type := 3, pos := "law.go:124", after := #[{ on := 2, ground := Go.Ground.guard }], guard := some (2, true) }) (v := _) rfl (by kernel_rfl) (by kernel_rfl) (by kernel_rfl) (fun _ _ _ h => h) (by kernel_rfl) (Or.inl ⟨by rfl, ?hy48⟩) rfl ?rest48
                    case hy48 => (intro W hSw; subst hSw; go_simp; try (with_reducible rfl))
                    try simp only [Act.put, List.setIfInBounds_toArray, List.set_cons_zero, List.set_cons_succ]
                    refine' wpAnyD_take (i := 5) (oi := { dst := some 120, op := Go.Op.indexAddr 40 (Go.Operand.tmp 118) (Go.Operand.tmp 119), type := 0, pos := "law.go:124", after := #[{ on := 3, ground := Go.Ground.data }, { on := 4, ground := Go.Ground.data }, { on := 2, ground := Go.Ground.guard }], guard := some (2, true) }) (v := _) rfl (by kernel_rfl) (by kernel_rfl) (by kernel_rfl) (fun _ _ _ h => h) (by kernel_rfl) (Or.inl ⟨by rfl, ?hy49⟩) rfl ?rest49
                    case hy49 => (intro W hSw; subst hSw; go_simp; try (with_reducible rfl))
                    try simp only [Act.put, List.setIfInBounds_toArray, List.set_cons_zero, List.set_cons_succ]
                    refine' wpAnyD_take (i := 6) (oi := { dst := some 121, op := Go.Op.fieldAddr 51 (Go.Operand.tmp 120) 0, type := 0, pos := "law.go:124", after := #[{ on := 5, ground := Go.Ground.data }, { on := 2, ground := Go.Ground.guard }], guard := some (2, true) }) (v := _) rfl (by kernel_rfl) (by kernel_rfl) (by kernel_rfl) (fun _ _ _ h => h) (by kernel_rfl) (Or.inl ⟨by rfl, ?hy50⟩) rfl ?rest50
                    case hy50 => (intro W hSw; subst hSw; go_simp; try (with_reducible rfl))
                    try simp only [Act.put, List.setIfInBounds_toArray, List.set_cons_zero, List.set_cons_succ]
                    refine' wpAnyD_take (i := 7) (oi := { dst := some 122, op := Go.Op.load 3 (Go.Operand.tmp 121), type := 3, pos := "law.go:124", after := #[{ on := 6, ground := Go.Ground.data }, { on := 2, ground := Go.Ground.guard }], guard := some (2, true) }) (v := _) rfl (by kernel_rfl) (by kernel_rfl) (by kernel_rfl) (fun _ _ _ h => h) (by kernel_rfl) (Or.inl ⟨by rfl, ?hy51⟩) rfl ?rest51
                    case hy51 => (intro W hSw; subst hSw; go_simp; try (with_reducible rfl))
                    try simp only [Act.put, List.setIfInBounds_toArray, List.set_cons_zero, List.set_cons_succ]
                    refine' wpAnyD_take (i := 8) (oi := { dst := some 123, op := Go.Op.fieldAddr 30 (Go.Operand.tmp 9) 0, type := 0, pos := "law.go:124", after := #[{ on := 2, ground := Go.Ground.guard }], guard := some (2, true) }) (v := _) rfl (by kernel_rfl) (by kernel_rfl) (by kernel_rfl) (fun _ _ _ h => h) (by kernel_rfl) (Or.inl ⟨by rfl, ?hy52⟩) rfl ?rest52
                    case hy52 => (intro W hSw; subst hSw; go_simp; try (with_reducible rfl))
                    try simp only [Act.put, List.setIfInBounds_toArray, List.set_cons_zero, List.set_cons_succ]
                    refine' wpAnyD_take (i := 9) (oi := { dst := some 124, op := Go.Op.load 26 (Go.Operand.tmp 123), type := 26, pos := "law.go:124", after := #[{ on := 8, ground := Go.Ground.data }, { on := 2, ground := Go.Ground.guard }], guard := some (2, true) }) (v := _) rfl (by kernel_rfl) (by kernel_rfl) (by kernel_rfl) (fun _ _ _ h => h) (by kernel_rfl) (Or.inl ⟨by rfl, ?hy53⟩) rfl ?rest53
                    case hy53 => (intro W hSw; subst hSw; go_simp; try (with_reducible rfl))
                    try simp only [Act.put, List.setIfInBounds_toArray, List.set_cons_zero, List.set_cons_succ]
                    refine' wpAnyD_take (i := 10) (oi := { dst := some 125, op := Go.Op.load 3 (Go.Operand.tmp 11), type := 3, pos := "law.go:124", after := #[{ on := 2, ground := Go.Ground.guard }], guard := some (2, true) }) (v := _) rfl (by kernel_rfl) (by kernel_rfl) (by kernel_rfl) (fun _ _ _ h => h) (by kernel_rfl) (Or.inl ⟨by rfl, ?hy54⟩) rfl ?rest54
                    case hy54 => (intro W hSw; subst hSw; go_simp; try (with_reducible rfl))
                    try simp only [Act.put, List.setIfInBounds_toArray, List.set_cons_zero, List.set_cons_succ]
                    refine wpAnyD_one (i := 11) (o := { dst := some 126, op := Go.Op.call { callee := Go.Callee.value (Go.Operand.func 13), args := #[Go.Operand.tmp 124, Go.Operand.tmp 125], argTypes := #[26, 3] }, type := 3, pos := "law.go:124", after := #[{ on := 9, ground := Go.Ground.data }, { on := 10, ground := Go.Ground.data }, { on := 2, ground := Go.Ground.chain }, { on := 2, ground := Go.Ground.guard }], guard := some (2, true) }) (by kernel_rfl) rfl (fun K hK => ?_)
                    go_simp
                    refine hto.mono ?_
                    rintro r w7 ⟨rfl, hw7⟩
                    go_wp2_with fail
                    refine hK.out _ _ (fun hD => rfl) ?_
                    clear hK K
                    try simp only [Act.put, List.setIfInBounds_toArray, List.set_cons_zero, List.set_cons_succ]
                    refine' wpAnyD_take (i := 12) (oi := { dst := some 127, op := Go.Op.binOp Go.BinOp.neq 3 (Go.Operand.tmp 122) (Go.Operand.tmp 126) 3, type := 4, pos := "law.go:124", after := #[{ on := 7, ground := Go.Ground.data }, { on := 11, ground := Go.Ground.data }, { on := 2, ground := Go.Ground.guard }], guard := some (2, true) }) (v := .bool false) rfl (by kernel_rfl) (by kernel_rfl) (by kernel_rfl) (fun _ _ _ h => h) (by kernel_rfl) (Or.inl ⟨by rfl, ?hy56⟩) rfl ?rest56
                    case hy56 => (intro W hSw; subst hSw; go_simp; try (with_reducible rfl))
                    try simp only [Act.put, List.setIfInBounds_toArray, List.set_cons_zero, List.set_cons_succ]
                    refine' wpAnyD_take (i := 13) (oi := { dst := some 128, op := Go.Op.pick (Go.Operand.tmp 117) (Go.Operand.tmp 127) (Go.Operand.const (Go.Value.bool false)), type := 4, pos := "law.go:124", after := #[{ on := 2, ground := Go.Ground.data }, { on := 12, ground := Go.Ground.data }], guard := none }) (v := _) rfl (by kernel_rfl) (by kernel_rfl) (by kernel_rfl) (fun _ _ _ h => h) (by kernel_rfl) (Or.inl ⟨by rfl, ?hy57⟩) rfl ?rest57
                    case hy57 => (intro W hSw; subst hSw; go_simp; try (with_reducible rfl))
                    try simp only [Act.put, List.setIfInBounds_toArray, List.set_cons_zero, List.set_cons_succ]
                    refine' wpAnyD_take (i := 14) (oi := { dst := some 129, op := Go.Op.move (Go.Operand.tmp 128), type := 4, pos := "law.go:124", after := #[{ on := 13, ground := Go.Ground.data }, { on := 11, ground := Go.Ground.chain }], guard := none }) (v := _) rfl (by kernel_rfl) (by kernel_rfl) (by kernel_rfl) (fun _ _ _ h => h) (by kernel_rfl) (Or.inl ⟨by rfl, ?hy58⟩) rfl ?rest58
                    case hy58 => (intro W hSw; subst hSw; go_simp; try (with_reducible rfl))
                    try simp only [Act.put, List.setIfInBounds_toArray, List.set_cons_zero, List.set_cons_succ]
                    refine' wpAnyD_take (i := 15) (oi := { dst := some 130, op := Go.Op.fieldAddr 47 (Go.Operand.tmp 19) 4, type := 0, pos := "law.go:124", after := #[{ on := 14, ground := Go.Ground.guard }], guard := some (14, false) }) (v := _) rfl (by kernel_rfl) (by kernel_rfl) (by kernel_rfl) (fun _ _ _ h => h) (by kernel_rfl) (Or.inl ⟨by rfl, ?hy59⟩) rfl ?rest59
                    case hy59 => (intro W hSw; subst hSw; go_simp; try (with_reducible rfl))
                    try simp only [Act.put, List.setIfInBounds_toArray, List.set_cons_zero, List.set_cons_succ]
                    refine' wpAnyD_take (i := 16) (oi := { dst := some 131, op := Go.Op.load 4 (Go.Operand.tmp 130), type := 4, pos := "law.go:124", after := #[{ on := 15, ground := Go.Ground.data }, { on := 14, ground := Go.Ground.guard }], guard := some (14, false) }) (v := _) rfl (by kernel_rfl) (by kernel_rfl) (by kernel_rfl) (fun _ _ _ h => h) (by kernel_rfl) (Or.inl ⟨by rfl, ?hy60⟩) rfl ?rest60
                    case hy60 => (intro W hSw; subst hSw; go_simp; try (with_reducible rfl))
                    try simp only [Act.put, List.setIfInBounds_toArray, List.set_cons_zero, List.set_cons_succ]
                    refine' wpAnyD_take (i := 17) (oi := { dst := some 132, op := Go.Op.unOp Go.UnOp.not 4 (Go.Operand.tmp 131), type := 4, pos := "law.go:124", after := #[{ on := 16, ground := Go.Ground.data }, { on := 14, ground := Go.Ground.guard }], guard := some (14, false) }) (v := _) rfl (by kernel_rfl) (by kernel_rfl) (by kernel_rfl) (fun _ _ _ h => h) (by kernel_rfl) (Or.inl ⟨by rfl, ?hy61⟩) rfl ?rest61
                    case hy61 => (intro W hSw; subst hSw; go_simp; try (with_reducible rfl))
                    try simp only [Act.put, List.setIfInBounds_toArray, List.set_cons_zero, List.set_cons_succ]
                    refine' wpAnyD_take (i := 18) (oi := { dst := some 133, op := Go.Op.move (Go.Operand.tmp 132), type := 4, pos := "law.go:124", after := #[{ on := 17, ground := Go.Ground.data }, { on := 14, ground := Go.Ground.chain }, { on := 14, ground := Go.Ground.guard }], guard := some (14, false) }) (v := _) rfl (by kernel_rfl) (by kernel_rfl) (by kernel_rfl) (fun _ _ _ h => h) (by kernel_rfl) (Or.inl ⟨by rfl, ?hy62⟩) rfl ?rest62
                    case hy62 => (intro W hSw; subst hSw; go_simp; try (with_reducible rfl))
                    try simp only [Act.put, List.setIfInBounds_toArray, List.set_cons_zero, List.set_cons_succ]
                    refine' wpAnyD_take (i := 19) (oi := { dst := some 134, op := Go.Op.load 40 (Go.Operand.tmp 16), type := 40, pos := "law.go:124", after := #[{ on := 18, ground := Go.Ground.guard }], guard := some (18, true) }) (v := undef) rfl (by kernel_rfl) (by kernel_rfl) (by kernel_rfl) (fun _ _ _ h => h) (by kernel_rfl) (Or.inr ⟨by rfl, rfl⟩) rfl ?rest63
                    try simp only [Act.put, List.setIfInBounds_toArray, List.set_cons_zero, List.set_cons_succ]
                    refine' wpAnyD_take (i := 20) (oi := { dst := some 135, op := Go.Op.load 3 (Go.Operand.tmp 17), type := 3, pos := "law.go:124", after := #[{ on := 18, ground := Go.Ground.guard }], guard := some (18, true) }) (v := undef) rfl (by kernel_rfl) (by kernel_rfl) (by kernel_rfl) (fun _ _ _ h => h) (by kernel_rfl) (Or.inr ⟨by rfl, rfl⟩) rfl ?rest64
                    try simp only [Act.put, List.setIfInBounds_toArray, List.set_cons_zero, List.set_cons_succ]
                    refine' wpAnyD_take (i := 21) (oi := { dst := some 136, op := Go.Op.indexAddr 40 (Go.Operand.tmp 134) (Go.Operand.tmp 135), type := 0, pos := "law.go:124", after := #[{ on := 19, ground := Go.Ground.data }, { on := 20, ground := Go.Ground.data }, { on := 18, ground := Go.Ground.guard }], guard := some (18, true) }) (v := undef) rfl (by kernel_rfl) (by kernel_rfl) (by kernel_rfl) (fun _ _ _ h => h) (by kernel_rfl) (Or.inr ⟨by rfl, rfl⟩) rfl ?rest65
                    try simp only [Act.put, List.setIfInBounds_toArray, List.set_cons_zero, List.set_cons_succ]
                    refine' wpAnyD_take (i := 22) (oi := { dst := some 137, op := Go.Op.fieldAddr 51 (Go.Operand.tmp 136) 0, type := 0, pos := "law.go:124", after := #[{ on := 21, ground := Go.Ground.data }, { on := 18, ground := Go.Ground.guard }], guard := some (18, true) }) (v := undef) rfl (by kernel_rfl) (by kernel_rfl) (by kernel_rfl) (fun _ _ _ h => h) (by kernel_rfl) (Or.inr ⟨by rfl, rfl⟩) rfl ?rest66
                    try simp only [Act.put, List.setIfInBounds_toArray, List.set_cons_zero, List.set_cons_succ]
                    refine' wpAnyD_take (i := 23) (oi := { dst := some 138, op := Go.Op.load 3 (Go.Operand.tmp 137), type := 3, pos := "law.go:124", after := #[{ on := 22, ground := Go.Ground.data }, { on := 18, ground := Go.Ground.guard }], guard := some (18, true) }) (v := undef) rfl (by kernel_rfl) (by kernel_rfl) (by kernel_rfl) (fun _ _ _ h => h) (by kernel_rfl) (Or.inr ⟨by rfl, rfl⟩) rfl ?rest67
                    try simp only [Act.put, List.setIfInBounds_toArray, List.set_cons_zero, List.set_cons_succ]
                    refine' wpAnyD_take (i := 24) (oi := { dst := some 139, op := Go.Op.load 3 (Go.Operand.tmp 15), type := 3, pos := "law.go:124", after := #[{ on := 18, ground := Go.Ground.guard }], guard := some (18, true) }) (v := undef) rfl (by kernel_rfl) (by kernel_rfl) (by kernel_rfl) (fun _ _ _ h => h) (by kernel_rfl) (Or.inr ⟨by rfl, rfl⟩) rfl ?rest68
                    try simp only [Act.put, List.setIfInBounds_toArray, List.set_cons_zero, List.set_cons_succ]
                    refine' wpAnyD_take (i := 25) (oi := { dst := some 140, op := Go.Op.binOp Go.BinOp.neq 3 (Go.Operand.tmp 138) (Go.Operand.tmp 139) 3, type := 4, pos := "law.go:124", after := #[{ on := 23, ground := Go.Ground.data }, { on := 24, ground := Go.Ground.data }, { on := 18, ground := Go.Ground.guard }], guard := some (18, true) }) (v := undef) rfl (by kernel_rfl) (by kernel_rfl) (by kernel_rfl) (fun _ _ _ h => h) (by kernel_rfl) (Or.inr ⟨by rfl, rfl⟩) rfl ?rest69
                    try simp only [Act.put, List.setIfInBounds_toArray, List.set_cons_zero, List.set_cons_succ]
                    refine' wpAnyD_take (i := 26) (oi := { dst := some 141, op := Go.Op.pick (Go.Operand.tmp 133) (Go.Operand.tmp 140) (Go.Operand.const (Go.Value.bool false)), type := 4, pos := "law.go:124", after := #[{ on := 18, ground := Go.Ground.data }, { on := 25, ground := Go.Ground.data }, { on := 14, ground := Go.Ground.guard }], guard := some (14, false) }) (v := _) rfl (by kernel_rfl) (by kernel_rfl) (by kernel_rfl) (fun _ _ _ h => h) (by kernel_rfl) (Or.inl ⟨by rfl, ?hy70⟩) rfl ?rest70
                    case hy70 => (intro W hSw; subst hSw; go_simp; try (with_reducible rfl))
                    try simp only [Act.put, List.setIfInBounds_toArray, List.set_cons_zero, List.set_cons_succ]
                    refine' wpAnyD_take (i := 27) (oi := { dst := some 142, op := Go.Op.pick (Go.Operand.tmp 129) (Go.Operand.const (Go.Value.bool true)) (Go.Operand.tmp 141), type := 4, pos := "law.go:124", after := #[{ on := 14, ground := Go.Ground.data }, { on := 26, ground := Go.Ground.data }], guard := none }) (v := _) rfl (by kernel_rfl) (by kernel_rfl) (by kernel_rfl) (fun _ _ _ h => h) (by kernel_rfl) (Or.inl ⟨by rfl, ?hy71⟩) rfl ?rest71
                    case hy71 => (intro W hSw; subst hSw; go_simp; try (with_reducible rfl))
                    try simp only [Act.put, List.setIfInBounds_toArray, List.set_cons_zero, List.set_cons_succ]
                    refine' wpAnyD_take (i := 28) (oi := { dst := some 143, op := Go.Op.move (Go.Operand.tmp 142), type := 4, pos := "law.go:124", after := #[{ on := 27, ground := Go.Ground.data }, { on := 18, ground := Go.Ground.chain }], guard := none }) (v := _) rfl (by kernel_rfl) (by kernel_rfl) (by kernel_rfl) (fun _ _ _ h => h) (by kernel_rfl) (Or.inl ⟨by rfl, ?hy72⟩) rfl ?rest72
                    case hy72 => (intro W hSw; subst hSw; go_simp; try (with_reducible rfl))
                    try simp only [Act.put, List.setIfInBounds_toArray, List.set_cons_zero, List.set_cons_succ]
                    refine' wpAnyD_take (i := 29) (oi := { dst := some 144, op := Go.Op.load 40 (Go.Operand.tmp 16), type := 40, pos := "law.go:124", after := #[{ on := 28, ground := Go.Ground.guard }], guard := some (28, false) }) (v := _) rfl (by kernel_rfl) (by kernel_rfl) (by kernel_rfl) (fun _ _ _ h => h) (by kernel_rfl) (Or.inl ⟨by rfl, ?hy73⟩) rfl ?rest73
                    case hy73 => (intro W hSw; subst hSw; go_simp; try (with_reducible rfl))
                    try simp only [Act.put, List.setIfInBounds_toArray, List.set_cons_zero, List.set_cons_succ]
                    refine' wpAnyD_take (i := 30) (oi := { dst := some 145, op := Go.Op.load 3 (Go.Operand.tmp 17), type := 3, pos := "law.go:124", after := #[{ on := 28, ground := Go.Ground.guard }], guard := some (28, false) }) (v := _) rfl (by kernel_rfl) (by kernel_rfl) (by kernel_rfl) (fun _ _ _ h => h) (by kernel_rfl) (Or.inl ⟨by rfl, ?hy74⟩) rfl ?rest74
                    case hy74 => (intro W hSw; subst hSw; go_simp; try (with_reducible rfl))
                    try simp only [Act.put, List.setIfInBounds_toArray, List.set_cons_zero, List.set_cons_succ]
                    refine' wpAnyD_take (i := 31) (oi := { dst := some 146, op := Go.Op.indexAddr 40 (Go.Operand.tmp 144) (Go.Operand.tmp 145), type := 0, pos := "law.go:124", after := #[{ on := 29, ground := Go.Ground.data }, { on := 30, ground := Go.Ground.data }, { on := 28, ground := Go.Ground.guard }], guard := some (28, false) }) (v := _) rfl (by kernel_rfl) (by kernel_rfl) (by kernel_rfl) (fun _ _ _ h => h) (by kernel_rfl) (Or.inl ⟨by rfl, ?hy75⟩) rfl ?rest75
                    case hy75 => (intro W hSw; subst hSw; go_simp; try (with_reducible rfl))
                    try simp only [Act.put, List.setIfInBounds_toArray, List.set_cons_zero, List.set_cons_succ]
                    refine' wpAnyD_take (i := 32) (oi := { dst := some 147, op := Go.Op.fieldAddr 51 (Go.Operand.tmp 146) 0, type := 0, pos := "law.go:124", after := #[{ on := 31, ground := Go.Ground.data }, { on := 28, ground := Go.Ground.guard }], guard := some (28, false) }) (v := _) rfl (by kernel_rfl) (by kernel_rfl) (by kernel_rfl) (fun _ _ _ h => h) (by kernel_rfl) (Or.inl ⟨by rfl, ?hy76⟩) rfl ?rest76
                    case hy76 => (intro W hSw; subst hSw; go_simp; try (with_reducible rfl))
                    try simp only [Act.put, List.setIfInBounds_toArray, List.set_cons_zero, List.set_cons_succ]
                    refine' wpAnyD_take (i := 33) (oi := { dst := some 148, op := Go.Op.load 3 (Go.Operand.tmp 147), type := 3, pos := "law.go:124", after := #[{ on := 32, ground := Go.Ground.data }, { on := 28, ground := Go.Ground.guard }], guard := some (28, false) }) (v := _) rfl (by kernel_rfl) (by kernel_rfl) (by kernel_rfl) (fun _ _ _ h => h) (by kernel_rfl) (Or.inl ⟨by rfl, ?hy77⟩) rfl ?rest77
                    case hy77 => (intro W hSw; subst hSw; go_simp; try (with_reducible rfl))
                    try simp only [Act.put, List.setIfInBounds_toArray, List.set_cons_zero, List.set_cons_succ]
                    refine' wpAnyD_take (i := 34) (oi := { dst := some 149, op := Go.Op.binOp Go.BinOp.lss 3 (Go.Operand.tmp 148) (Go.Operand.const (Go.Value.int Go.IntKind.i64 0)) 3, type := 4, pos := "law.go:124", after := #[{ on := 33, ground := Go.Ground.data }, { on := 28, ground := Go.Ground.guard }], guard := some (28, false) }) (v := .bool false) rfl (by kernel_rfl) (by kernel_rfl) (by kernel_rfl) (fun _ _ _ h => h) (by kernel_rfl) (Or.inl ⟨by rfl, ?hy78⟩) rfl ?rest78
                    case hy78 => (intro W hSw; subst hSw; go_simp; first | done | (with_reducible rfl) | simp [hw0])
                    try simp only [Act.put, List.setIfInBounds_toArray, List.set_cons_zero, List.set_cons_succ]
                    refine' wpAnyD_take (i := 35) (oi := { dst := some 150, op := Go.Op.pick (Go.Operand.tmp 143) (Go.Operand.const (Go.Value.bool true)) (Go.Operand.tmp 149), type := 4, pos := "law.go:124", after := #[{ on := 28, ground := Go.Ground.data }, { on := 34, ground := Go.Ground.data }], guard := none }) (v := _) rfl (by kernel_rfl) (by kernel_rfl) (by kernel_rfl) (fun _ _ _ h => h) (by kernel_rfl) (Or.inl ⟨by rfl, ?hy79⟩) rfl ?rest79
                    case hy79 => (intro W hSw; subst hSw; go_simp; try (with_reducible rfl))
                    try simp only [Act.put, List.setIfInBounds_toArray, List.set_cons_zero, List.set_cons_succ]
                    refine' wpAnyD_take (i := 36) (oi := { dst := some 151, op := Go.Op.move (Go.Operand.tmp 150), type := 4, pos := "law.go:124", after := #[{ on := 35, ground := Go.Ground.data }, { on := 28, ground := Go.Ground.chain }], guard := none }) (v := _) rfl (by kernel_rfl) (by kernel_rfl) (by kernel_rfl) (fun _ _ _ h => h) (by kernel_rfl) (Or.inl ⟨by rfl, ?hy80⟩) rfl ?rest80
                    case hy80 => (intro W hSw; subst hSw; go_simp; try (with_reducible rfl))
                    try simp only [Act.put, List.setIfInBounds_toArray, List.set_cons_zero, List.set_cons_succ]
                    refine' wpAnyD_take (i := 37) (oi := { dst := some 152, op := Go.Op.load 40 (Go.Operand.tmp 16), type := 40, pos := "law.go:124", after := #[{ on := 36, ground := Go.Ground.guard }], guard := some (36, false) }) (v := _) rfl (by kernel_rfl) (by kernel_rfl) (by kernel_rfl) (fun _ _ _ h => h) (by kernel_rfl) (Or.inl ⟨by rfl, ?hy81⟩) rfl ?rest81
                    case hy81 => (intro W hSw; subst hSw; go_simp; try (with_reducible rfl))
                    try simp only [Act.put, List.setIfInBounds_toArray, List.set_cons_zero, List.set_cons_succ]
                    refine' wpAnyD_take (i := 38) (oi := { dst := some 153, op := Go.Op.load 3 (Go.Operand.tmp 17), type := 3, pos := "law.go:124", after := #[{ on := 36, ground := Go.Ground.guard }], guard := some (36, false) }) (v := _) rfl (by kernel_rfl) (by kernel_rfl) (by kernel_rfl) (fun _ _ _ h => h) (by kernel_rfl) (Or.inl ⟨by rfl, ?hy82⟩) rfl ?rest82
                    case hy82 => (intro W hSw; subst hSw; go_simp; try (with_reducible rfl))
                    try simp only [Act.put, List.setIfInBounds_toArray, List.set_cons_zero, List.set_cons_succ]
                    refine' wpAnyD_take (i := 39) (oi := { dst := some 154, op := Go.Op.indexAddr 40 (Go.Operand.tmp 152) (Go.Operand.tmp 153), type := 0, pos := "law.go:124", after := #[{ on := 37, ground := Go.Ground.data }, { on := 38, ground := Go.Ground.data }, { on := 36, ground := Go.Ground.guard }], guard := some (36, false) }) (v := _) rfl (by kernel_rfl) (by kernel_rfl) (by kernel_rfl) (fun _ _ _ h => h) (by kernel_rfl) (Or.inl ⟨by rfl, ?hy83⟩) rfl ?rest83
                    case hy83 => (intro W hSw; subst hSw; go_simp; try (with_reducible rfl))
                    try simp only [Act.put, List.setIfInBounds_toArray, List.set_cons_zero, List.set_cons_succ]
                    refine' wpAnyD_take (i := 40) (oi := { dst := some 155, op := Go.Op.fieldAddr 51 (Go.Operand.tmp 154) 0, type := 0, pos := "law.go:124", after := #[{ on := 39, ground := Go.Ground.data }, { on := 36, ground := Go.Ground.guard }], guard := some (36, false) }) (v := _) rfl (by kernel_rfl) (by kernel_rfl) (by kernel_rfl) (fun _ _ _ h => h) (by kernel_rfl) (Or.inl ⟨by rfl, ?hy84⟩) rfl ?rest84
                    case hy84 => (intro W hSw; subst hSw; go_simp; try (with_reducible rfl))
                    try simp only [Act.put, List.setIfInBounds_toArray, List.set_cons_zero, List.set_cons_succ]
                    refine' wpAnyD_take (i := 41) (oi := { dst := some 156, op := Go.Op.load 3 (Go.Operand.tmp 155), type := 3, pos := "law.go:124", after := #[{ on := 40, ground := Go.Ground.data }, { on := 36, ground := Go.Ground.guard }], guard := some (36, false) }) (v := _) rfl (by kernel_rfl) (by kernel_rfl) (by kernel_rfl) (fun _ _ _ h => h) (by kernel_rfl) (Or.inl ⟨by rfl, ?hy85⟩) rfl ?rest85
                    case hy85 => (intro W hSw; subst hSw; go_simp; try (with_reducible rfl))
                    try simp only [Act.put, List.setIfInBounds_toArray, List.set_cons_zero, List.set_cons_succ]
                    refine' wpAnyD_take (i := 42) (oi := { dst := some 157, op := Go.Op.load 3 (Go.Operand.tmp 11), type := 3, pos := "law.go:124", after := #[{ on := 36, ground := Go.Ground.guard }], guard := some (36, false) }) (v := _) rfl (by kernel_rfl) (by kernel_rfl) (by kernel_rfl) (fun _ _ _ h => h) (by kernel_rfl) (Or.inl ⟨by rfl, ?hy86⟩) rfl ?rest86
                    case hy86 => (intro W hSw; subst hSw; go_simp; try (with_reducible rfl))
                    try simp only [Act.put, List.setIfInBounds_toArray, List.set_cons_zero, List.set_cons_succ]
                    refine' wpAnyD_take (i := 43) (oi := { dst := some 158, op := Go.Op.binOp Go.BinOp.geq 3 (Go.Operand.tmp 156) (Go.Operand.tmp 157) 3, type := 4, pos := "law.go:124", after := #[{ on := 41, ground := Go.Ground.data }, { on := 42, ground := Go.Ground.data }, { on := 36, ground := Go.Ground.guard }], guard := some (36, false) }) (v := .bool false) rfl (by kernel_rfl) (by kernel_rfl) (by kernel_rfl) (fun _ _ _ h => h) (by kernel_rfl) (Or.inl ⟨by rfl, ?hy87⟩) rfl ?rest87
                    case hy87 => (intro W hSw; subst hSw; go_simp; first | done | (with_reducible rfl) | simp [hw1])
                    try simp only [Act.put, List.setIfInBounds_toArray, List.set_cons_zero, List.set_cons_succ]
                    refine' wpAnyD_take (i := 44) (oi := { dst := some 159, op := Go.Op.pick (Go.Operand.tmp 151) (Go.Operand.const (Go.Value.bool true)) (Go.Operand.tmp 158), type := 4, pos := "law.go:124", after := #[{ on := 36, ground := Go.Ground.data }, { on := 43, ground := Go.Ground.data }], guard := none }) (v := _) rfl (by kernel_rfl) (by kernel_rfl) (by kernel_rfl) (fun _ _ _ h => h) (by kernel_rfl) (Or.inl ⟨by rfl, ?hy88⟩) rfl ?rest88
                    case hy88 => (intro W hSw; subst hSw; go_simp; try (with_reducible rfl))
                    try simp only [Act.put, List.setIfInBounds_toArray, List.set_cons_zero, List.set_cons_succ]
                    refine wpAnyD_done (by kernel_rfl) ?_ _
                    generalize W2.drew = W3 at R4 ⊢
                    clear hto x0 zb c9a c11 l9 l11 cl cn co ll ln lo cd4 lD
                    have cn : W3.cell? ⟨nb, 0, none⟩ = some (.int .i64 (pl : Nat)) := (tk_store R4.out.1.nbx).1 0
                    have fn := (tk_store R4.out.1.nbx).2
                    have ln := tk_lt R4.out.1.nbx
                    have hp48 : (pl : Int) < 1000 := by
                      have h1 := HLN.out
                      have h2 := edN_len (GW.out W3 R4.out.1.lk.bl) k
                      omega
                    gi_wp2
                    obtain ⟨r5, k5⟩ := R4.out.1.setn ((pl : Int) + 1)
                    have hpe : ((pre ++ [y]).length : Int) = (pl : Int) + 1 := by have := HPL.out; simp; omega
                    refine ⟨(keeps_belowR R4.out.2).trans (keeps_kpR R4.out.1.nbx k5), (R4.out.2.mono HVW.out).trans (k5.below R4.out.1.lk.bl.size (fun j e => by rw [e]; exact R4.out.1.nlo)), ?_⟩
                    show Rk V Ds _ ob (i : Nat) lb nb wr.heap.size (.slice (some ⟨bo, 0, none⟩) n' c) os ((pre ++ [y]).length : Nat)
                    rw [hpe]
                    exact r5
                  · skip
                    refine wp_regionR (S := fun X => X = W2.drew) (D := []) hmx (by kernel_rfl) (fun h => by obtain ⟨_, _, h⟩ := h; exact h) ?_
                    refine' wpAnyD_take (i := 0) (oi := { dst := some 115, op := Go.Op.fieldAddr 47 (Go.Operand.tmp 19) 4, type := 0, pos := "law.go:124", after := #[], guard := none }) (v := _) rfl (by kernel_rfl) (by kernel_rfl) (by kernel_rfl) (fun _ _ _ h => h) (by kernel_rfl) (Or.inl ⟨by rfl, ?hy89⟩) rfl ?rest89
                    case hy89 => (intro W hSw; subst hSw; go_simp; try (with_reducible rfl))
                    try simp only [Act.put, List.setIfInBounds_toArray, List.set_cons_zero, List.set_cons_succ]
                    refine' wpAnyD_take (i := 1) (oi := { dst := some 116, op := Go.Op.load 4 (Go.Operand.tmp 115), type := 4, pos := "law.go:124", after := #[{ on := 0, ground := Go.Ground.data }], guard := none }) (v := _) rfl (by kernel_rfl) (by kernel_rfl) (by kernel_rfl) (fun _ _ _ h => h) (by kernel_rfl) (Or.inl ⟨by rfl, ?hy90⟩) rfl ?rest90
                    case hy90 => (intro W hSw; subst hSw; go_simp; try (with_reducible rfl))
                    try simp only [Act.put, List.setIfInBounds_toArray, List.set_cons_zero, List.set_cons_succ]
                    refine' wpAnyD_take (i := 2) (oi := { dst := some 117, op := Go.Op.move (Go.Operand.tmp 116), type := 4, pos := "law.go:124", after := #[{ on := 1, ground := Go.Ground.data }], guard := none }) (v := _) rfl (by kernel_rfl) (by kernel_rfl) (by kernel_rfl) (fun _ _ _ h => h) (by kernel_rfl) (Or.inl ⟨by rfl, ?hy91⟩) rfl ?rest91
                    case hy91 => (intro W hSw; subst hSw; go_simp; try (with_reducible rfl))
                    try simp only [Act.put, List.setIfInBounds_toArray, List.set_cons_zero, List.set_cons_succ]
                    refine' wpAnyD_take (i := 3) (oi := { dst := some 118, op := Go.Op.load 40 (Go.Operand.tmp 16), type := 40, pos := "law.go:124", after := #[{ on := 2, ground := Go.Ground.guard }], guard := some (2, true) }) (v := _) rfl (by kernel_rfl) (by kernel_rfl) (by kernel_rfl) (fun _ _ _ h => h) (by kernel_rfl) (Or.inl ⟨by rfl, ?hy92⟩) rfl ?rest92
                    case hy92 => (intro W hSw; subst hSw; go_simp; try (with_reducible rfl))
                    try simp only [Act.put, List.setIfInBounds_toArray, List.set_cons_zero, List.set_cons_succ]
                    refine' wpAnyD_take (i := 4) (oi := { dst := some 119, op := Go.Op.load 3 (Go.Operand.tmp 17), type := 3, pos := "law.go:124", after := #[{ on := 2, ground := Go.Ground.guard }], guard := some (2, true) }) (v := _) rfl (by kernel_rfl) (by kernel_rfl) (by kernel_rfl) (fun _ _ _ h => h) (by kernel_rfl) (Or.inl ⟨by rfl, ?hy93⟩) rfl ?rest93
                    case hy93 => (intro W hSw; subst hSw; go_simp; try (with_reducible rfl))
                    try simp only [Act.put, List.setIfInBounds_toArray, List.set_cons_zero, List.set_cons_succ]
                    refine' wpAnyD_take (i := 5) (oi := { dst := some 120, op := Go.Op.indexAddr 40 (Go.Operand.tmp 118) (Go.Operand.tmp 119), type := 0, pos := "law.go:124", after := #[{ on := 3, ground := Go.Ground.data }, { on := 4, ground := Go.Ground.data }, { on := 2, ground := Go.Ground.guard }], guard := some (2, true) }) (v := _) rfl (by kernel_rfl) (by kernel_rfl) (by kernel_rfl) (fun _ _ _ h => h) (by kernel_rfl) (Or.inl ⟨by rfl, ?hy94⟩) rfl ?rest94
                    case hy94 => (intro W hSw; subst hSw; go_simp; try (with_reducible rfl))
                    try simp only [Act.put, List.setIfInBounds_toArray, List.set_cons_zero, List.set_cons_succ]
                    refine' wpAnyD_take (i := 6) (oi := { dst := some 121, op := Go.Op.fieldAddr 51 (Go.Operand.tmp 120) 0, type := 0, pos := "law.go:124", after := #[{ on := 5, ground := Go.Ground.data }, { on := 2, ground := Go.Ground.guard }], guard := some (2, true) }) (v := _) rfl (by kernel_rfl) (by kernel_rfl) (by kernel_rfl) (fun _ _ _ h => h) (by kernel_rfl) (Or.inl ⟨by rfl, ?hy95⟩) rfl ?rest95
                    case hy95 => (intro W hSw; subst hSw; go_simp; try (with_reducible rfl))
                    try simp only [Act.put, List.setIfInBounds_toArray, List.set_cons_zero, List.set_cons_succ]
                    refine' wpAnyD_take (i := 7) (oi := { dst := some 122, op := Go.Op.load 3 (Go.Operand.tmp 121), type := 3, pos := "law.go:124", after := #[{ on := 6, ground := Go.Ground.data }, { on := 2, ground := Go.Ground.guard }], guard := some (2, true) }) (v := _) rfl (by kernel_rfl) (by kernel_rfl) (by kernel_rfl) (fun _ _ _ h => h) (by kernel_rfl) (Or.inl ⟨by rfl, ?hy96⟩) rfl ?rest96
                    case hy96 => (intro W hSw; subst hSw; go_simp; try (with_reducible rfl))
                    try simp only [Act.put, List.setIfInBounds_toArray, List.set_cons_zero, List.set_cons_succ]
                    refine' wpAnyD_take (i := 8) (oi := { dst := some 123, op := Go.Op.fieldAddr 30 (Go.Operand.tmp 9) 0, type := 0, pos := "law.go:124", after := #[{ on := 2, ground := Go.Ground.guard }], guard := some (2, true) }) (v := _) rfl (by kernel_rfl) (by kernel_rfl) (by kernel_rfl) (fun _ _ _ h => h) (by kernel_rfl) (Or.inl ⟨by rfl, ?hy97⟩) rfl ?rest97
                    case hy97 => (intro W hSw; subst hSw; go_simp; try (with_reducible rfl))
                    try simp only [Act.put, List.setIfInBounds_toArray, List.set_cons_zero, List.set_cons_succ]
                    refine' wpAnyD_take (i := 9) (oi := { dst := some 124, op := Go.Op.load 26 (Go.Operand.tmp 123), type := 26, pos := "law.go:124", after := #[{ on := 8, ground := Go.Ground.data }, { on := 2, ground := Go.Ground.guard }], guard := some (2, true) }) (v := _) rfl (by kernel_rfl) (by kernel_rfl) (by kernel_rfl) (fun _ _ _ h => h) (by kernel_rfl) (Or.inl ⟨by rfl, ?hy98⟩) rfl ?rest98
                    case hy98 => (intro W hSw; subst hSw; go_simp; try (with_reducible rfl))
                    try simp only [Act.put, List.setIfInBounds_toArray, List.set_cons_zero, List.set_cons_succ]
                    refine' wpAnyD_take (i := 10) (oi := { dst := some 125, op := Go.Op.load 3 (Go.Operand.tmp 11), type := 3, pos := "law.go:124", after := #[{ on := 2, ground := Go.Ground.guard }], guard := some (2, true) }) (v := _) rfl (by kernel_rfl) (by kernel_rfl) (by kernel_rfl) (fun _ _ _ h => h) (by kernel_rfl) (Or.inl ⟨by rfl, ?hy99⟩) rfl ?rest99
                    case hy99 => (intro W hSw; subst hSw; go_simp; try (with_reducible rfl))
                    try simp only [Act.put, List.setIfInBounds_toArray, List.set_cons_zero, List.set_cons_succ]
                    refine wpAnyD_one (i := 11) (o := { dst := some 126, op := Go.Op.call { callee := Go.Callee.value (Go.Operand.func 13), args := #[Go.Operand.tmp 124, Go.Operand.tmp 125], argTypes := #[26, 3] }, type := 3, pos := "law.go:124", after := #[{ on := 9, ground := Go.Ground.data }, { on := 10, ground := Go.Ground.data }, { on := 2, ground := Go.Ground.chain }, { on := 2, ground := Go.Ground.guard }], guard := some (2, true) }) (by kernel_rfl) rfl (fun K hK => ?_)
                    go_simp
                    refine hto.mono ?_
                    rintro r w7 ⟨rfl, hw7⟩
                    go_wp2_with fail
                    refine hK.out _ _ (fun hD => rfl) ?_
                    clear hK K
                    try simp only [Act.put, List.setIfInBounds_toArray, List.set_cons_zero, List.set_cons_succ]
                    refine' wpAnyD_take (i := 12) (oi := { dst := some 127, op := Go.Op.binOp Go.BinOp.neq 3 (Go.Operand.tmp 122) (Go.Operand.tmp 126) 3, type := 4, pos := "law.go:124", after := #[{ on := 7, ground := Go.Ground.data }, { on := 11, ground := Go.Ground.data }, { on := 2, ground := Go.Ground.guard }], guard := some (2, true) }) (v := .bool true) rfl (by kernel_rfl) (by kernel_rfl) (by kernel_rfl) (fun _ _ _ h => h) (by kernel_rfl) (Or.inl ⟨by rfl, ?hy101⟩) rfl ?rest101
                    case hy101 => (intro W hSw; subst hSw; go_simp; first | done | (with_reducible rfl) | simp [hkw])
                    try simp only [Act.put, List.setIfInBounds_toArray, List.set_cons_zero, List.set_cons_succ]
                    refine' wpAnyD_take (i := 13) (oi := { dst := some 128, op := Go.Op.pick (Go.Operand.tmp 117) (Go.Operand.tmp 127) (Go.Operand.const (Go.Value.bool false)), type := 4, pos := "law.go:124", after := #[{ on := 2, ground := Go.Ground.data }, { on := 12, ground := Go.Ground.data }], guard := none }) (v := _) rfl (by kernel_rfl) (by kernel_rfl) (by kernel_rfl) (fun _ _ _ h => h) (by kernel_rfl) (Or.inl ⟨by rfl, ?hy102⟩) rfl ?rest102
                    case hy102 => (intro W hSw; subst hSw; go_simp; try (with_reducible rfl))
                    try simp only [Act.put, List.setIfInBounds_toArray, List.set_cons_zero, List.set_cons_succ]
                    refine' wpAnyD_take (i := 14) (oi := { dst := some 129, op := Go.Op.move (Go.Operand.tmp 128), type := 4, pos := "law.go:124", after := #[{ on := 13, ground := Go.Ground.data }, { on := 11, ground := Go.Ground.chain }], guard := none }) (v := _) rfl (by kernel_rfl) (by kernel_rfl) (by kernel_rfl) (fun _ _ _ h => h) (by kernel_rfl) (Or.inl ⟨by rfl, ?hy103⟩) rfl ?rest103
                    case hy103 => (intro W hSw; subst hSw; go_simp; try (with_reducible rfl))
                    try simp only [Act.put, List.setIfInBounds_toArray, List.set_cons_zero, List.set_cons_succ]
                    refine' wpAnyD_take (i := 15) (oi := { dst := some 130, op := Go.Op.fieldAddr 47 (Go.Operand.tmp 19) 4, type := 0, pos := "law.go:124", after := #[{ on := 14, ground := Go.Ground.guard }], guard := some (14, false) }) (v := undef) rfl (by kernel_rfl) (by kernel_rfl) (by kernel_rfl) (fun _ _ _ h => h) (by kernel_rfl) (Or.inr ⟨by rfl, rfl⟩) rfl ?rest104
                    try simp only [Act.put, List.setIfInBounds_toArray, List.set_cons_zero, List.set_cons_succ]
                    refine' wpAnyD_take (i := 16) (oi := { dst := some 131, op := Go.Op.load 4 (Go.Operand.tmp 130), type := 4, pos := "law.go:124", after := #[{ on := 15, ground := Go.Ground.data }, { on := 14, ground := Go.Ground.guard }], guard := some (14, false) }) (v := undef) rfl (by kernel_rfl) (by kernel_rfl) (by kernel_rfl) (fun _ _ _ h => h) (by kernel_rfl) (Or.inr ⟨by rfl, rfl⟩) rfl ?rest105
                    try simp only [Act.put, List.setIfInBounds_toArray, List.set_cons_zero, List.set_cons_succ]
                    refine' wpAnyD_take (i := 17) (oi := { dst := some 132, op := Go.Op.unOp Go.UnOp.not 4 (Go.Operand.tmp 131), type := 4, pos := "law.go:124", after := #[{ on := 16, ground := Go.Ground.data }, { on := 14, ground := Go.Ground.guard }], guard := some (14, false) }) (v := undef) rfl (by kernel_rfl) (by kernel_rfl) (by kernel_rfl) (fun _ _ _ h => h) (by kernel_rfl) (Or.inr ⟨by rfl, rfl⟩) rfl ?rest106
                    try simp only [Act.put, List.setIfInBounds_toArray, List.set_cons_zero, List.set_cons_succ]
                    refine' wpAnyD_take (i := 18) (oi := { dst := some 133, op := Go.Op.move (Go.Operand.tmp 132), type := 4, pos := "law.go:124", after := #[{ on := 17, ground := Go.Ground.data }, { on := 14, ground := Go.Ground.chain }, { on := 14, ground := Go.Ground.guard }], guard := some (14, false) }) (v := undef) rfl (by kernel_rfl) (by kernel_rfl) (by kernel_rfl) (fun _ _ _ h => h) (by kernel_rfl) (Or.inr ⟨by rfl, rfl⟩) rfl ?rest107
                    try simp only [Act.put, List.setIfInBounds_toArray, List.set_cons_zero, List.set_cons_succ]
                    refine' wpAnyD_take (i := 19) (oi := { dst := some 134, op := Go.Op.load 40 (Go.Operand.tmp 16), type := 40, pos := "law.go:124", after := #[{ on := 18, ground := Go.Ground.guard }], guard := some (18, true) }) (v := undef) rfl (by kernel_rfl) (by kernel_rfl) (by kernel_rfl) (fun _ _ _ h => h) (by kernel_rfl) (Or.inr ⟨by rfl, rfl⟩) rfl ?rest108
                    try simp only [Act.put, List.setIfInBounds_toArray, List.set_cons_zero, List.set_cons_succ]
                    refine' wpAnyD_take (i := 20) (oi := { dst := some 135, op := Go.Op.load 3 (Go.Operand.tmp 17), type := 3, pos := "law.go:124", after := #[{ on := 18, ground := Go.Ground.guard }], guard := some (18, true) }) (v := undef) rfl (by kernel_rfl) (by kernel_rfl) (by kernel_rfl) (fun _ _ _ h => h) (by kernel_rfl) (Or.inr ⟨by rfl, rfl⟩) rfl ?rest109
                    try simp only [Act.put, List.setIfInBounds_toArray, List.set_cons_zero, List.set_cons_succ]
                    refine' wpAnyD_take (i := 21) (oi := { dst := some 136, op := Go.Op.indexAddr 40 (Go.Operand.tmp 134) (Go.Operand.tmp 135), type := 0, pos := "law.go:124", after := #[{ on := 19, ground := Go.Ground.data }, { on := 20, ground := Go.Ground.data }, { on := 18, ground := Go.Ground.guard }], guard := some (18, true) }) (v := undef) rfl (by kernel_rfl) (by kernel_rfl) (by kernel_rfl) (fun _ _ _ h => h) (by kernel_rfl) (Or.inr ⟨by rfl, rfl⟩) rfl ?rest110
                    try simp only [Act.put, List.setIfInBounds_toArray, List.set_cons_zero, List.set_cons_succ]
                    refine' wpAnyD_take (i := 22) (oi := { dst := some 137, op := Go.Op.fieldAddr 51 (Go.Operand.tmp 136) 0, type := 0, pos := "law.go:124", after := #[{ on := 21, ground := Go.Ground.data }, { on := 18, ground := Go.Ground.guard }], guard := some (18, true) }) (v := undef) rfl (by kernel_rfl) (by kernel_rfl) (by kernel_rfl) (fun _ _ _ h => h) (by kernel_rfl) (Or.inr ⟨by rfl, rfl⟩) rfl ?rest111
                    try simp only [Act.put, List.setIfInBounds_toArray, List.set_cons_zero, List.set_cons_succ]
                    refine' wpAnyD_take (i := 23) (oi := { dst := some 138, op := Go.Op.load 3 (Go.Operand.tmp 137), type := 3, pos := "law.go:124", after := #[{ on := 22, ground := Go.Ground.data }, { on := 18, ground := Go.Ground.guard }], guard := some (18, true) }) (v := undef) rfl (by kernel_rfl) (by kernel_rfl) (by kernel_rfl) (fun _ _ _ h => h) (by kernel_rfl) (Or.inr ⟨by rfl, rfl⟩) rfl ?rest112
                    try simp only [Act.put, List.setIfInBounds_toArray, List.set_cons_zero, List.set_cons_succ]
                    refine' wpAnyD_take (i := 24) (oi := { dst := some 139, op := Go.Op.load 3 (Go.Operand.tmp 15), type := 3, pos := "law.go:124", after := #[{ on := 18, ground := Go.Ground.guard }], guard := some (18, true) }) (v := undef) rfl (by kernel_rfl) (by kernel_rfl) (by kernel_rfl) (fun _ _ _ h => h) (by kernel_rfl) (Or.inr ⟨by rfl, rfl⟩) rfl ?rest113
                    try simp only [Act.put, List.setIfInBounds_toArray, List.set_cons_zero, List.set_cons_succ]
                    refine' wpAnyD_take (i := 25) (oi := { dst := some 140, op := Go.Op.binOp Go.BinOp.neq 3 (Go.Operand.tmp 138) (Go.Operand.tmp 139) 3, type := 4, pos := "law.go:124", after := #[{ on := 23, ground := Go.Ground.data }, { on := 24, ground := Go.Ground.data }, { on := 18, ground := Go.Ground.guard }], guard := some (18, true) }) (v := undef) rfl (by kernel_rfl) (by kernel_rfl) (by kernel_rfl) (fun _ _ _ h => h) (by kernel_rfl) (Or.inr ⟨by rfl, rfl⟩) rfl ?rest114
                    try simp only [Act.put, List.setIfInBounds_toArray, List.set_cons_zero, List.set_cons_succ]
                    refine' wpAnyD_take (i := 26) (oi := { dst := some 141, op := Go.Op.pick (Go.Operand.tmp 133) (Go.Operand.tmp 140) (Go.Operand.const (Go.Value.bool false)), type := 4, pos := "law.go:124", after := #[{ on := 18, ground := Go.Ground.data }, { on := 25, ground := Go.Ground.data }, { on := 14, ground := Go.Ground.guard }], guard := some (14, false) }) (v := undef) rfl (by kernel_rfl) (by kernel_rfl) (by kernel_rfl) (fun _ _ _ h => h) (by kernel_rfl) (Or.inr ⟨by rfl, rfl⟩) rfl ?rest115
                    try simp only [Act.put, List.setIfInBounds_toArray, List.set_cons_zero, List.set_cons_succ]
                    refine' wpAnyD_take (i := 27) (oi := { dst := some 142, op := Go.Op.pick (Go.Operand.tmp 129) (Go.Operand.const (Go.Value.bool true)) (Go.Operand.tmp 141), type := 4, pos := "law.go:124", after := #[{ on := 14, ground := Go.Ground.data }, { on := 26, ground := Go.Ground.data }], guard := none }) (v := _) rfl (by kernel_rfl) (by kernel_rfl) (by kernel_rfl) (fun _ _ _ h => h) (by kernel_rfl) (Or.inl ⟨by rfl, ?hy116⟩) rfl ?rest116
                    case hy116 => (intro W hSw; subst hSw; go_simp; try (with_reducible rfl))
                    try simp only [Act.put, List.setIfInBounds_toArray, List.set_cons_zero, List.set_cons_succ]
                    refine' wpAnyD_take (i := 28) (oi := { dst := some 143, op := Go.Op.move (Go.Operand.tmp 142), type := 4, pos := "law.go:124", after := #[{ on := 27, ground := Go.Ground.data }, { on := 18, ground := Go.Ground.chain }], guard := none }) (v := _) rfl (by kernel_rfl) (by kernel_rfl) (by kernel_rfl) (fun _ _ _ h => h) (by kernel_rfl) (Or.inl ⟨by rfl, ?hy117⟩) rfl ?rest117
                    case hy117 => (intro W hSw; subst hSw; go_simp; try (with_reducible rfl))
                    try simp only [Act.put, List.setIfInBounds_toArray, List.set_cons_zero, List.set_cons_succ]
                    refine' wpAnyD_take (i := 29) (oi := { dst := some 144, op := Go.Op.load 40 (Go.Operand.tmp 16), type := 40, pos := "law.go:124", after := #[{ on := 28, ground := Go.Ground.guard }], guard := some (28, false) }) (v := undef) rfl (by kernel_rfl) (by kernel_rfl) (by kernel_rfl) (fun _ _ _ h => h) (by kernel_rfl) (Or.inr ⟨by rfl, rfl⟩) rfl ?rest118
                    try simp only [Act.put, List.setIfInBounds_toArray, List.set_cons_zero, List.set_cons_succ]
                    refine' wpAnyD_take (i := 30) (oi := { dst := some 145, op := Go.Op.load 3 (Go.Operand.tmp 17), type := 3, pos := "law.go:124", after := #[{ on := 28, ground := Go.Ground.guard }], guard := some (28, false) }) (v := undef) rfl (by kernel_rfl) (by kernel_rfl) (by kernel_rfl) (fun _ _ _ h => h) (by kernel_rfl) (Or.inr ⟨by rfl, rfl⟩) rfl ?rest119
                    try simp only [Act.put, List.setIfInBounds_toArray, List.set_cons_zero, List.set_cons_succ]
                    refine' wpAnyD_take (i := 31) (oi := { dst := some 146, op := Go.Op.indexAddr 40 (Go.Operand.tmp 144) (Go.Operand.tmp 145), type := 0, pos := "law.go:124", after := #[{ on := 29, ground := Go.Ground.data }, { on := 30, ground := Go.Ground.data }, { on := 28, ground := Go.Ground.guard }], guard := some (28, false) }) (v := undef) rfl (by kernel_rfl) (by kernel_rfl) (by kernel_rfl) (fun _ _ _ h => h) (by kernel_rfl) (Or.inr ⟨by rfl, rfl⟩) rfl ?rest120
                    try simp only [Act.put, List.setIfInBounds_toArray, List.set_cons_zero, List.set_cons_succ]
                    refine' wpAnyD_take (i := 32) (oi := { dst := some 147, op := Go.Op.fieldAddr 51 (Go.Operand.tmp 146) 0, type := 0, pos := "law.go:124", after := #[{ on := 31, ground := Go.Ground.data }, { on := 28, ground := Go.Ground.guard }], guard := some (28, false) }) (v := undef) rfl (by kernel_rfl) (by kernel_rfl) (by kernel_rfl) (fun _ _ _ h => h) (by kernel_rfl) (Or.inr ⟨by rfl, rfl⟩) rfl ?rest121
                    try simp only [Act.put, List.setIfInBounds_toArray, List.set_cons_zero, List.set_cons_succ]
                    refine' wpAnyD_take (i := 33) (oi := { dst := some 148, op := Go.Op.load 3 (Go.Operand.tmp 147), type := 3, pos := "law.go:124", after := #[{ on := 32, ground := Go.Ground.data }, { on := 28, ground := Go.Ground.guard }], guard := some (28, false) }) (v := undef) rfl (by kernel_rfl) (by kernel_rfl) (by kernel_rfl) (fun _ _ _ h => h) (by kernel_rfl) (Or.inr ⟨by rfl, rfl⟩) rfl ?rest122
                    try simp only [Act.put, List.setIfInBounds_toArray, List.set_cons_zero, List.set_cons_succ]
                    refine' wpAnyD_take (i := 34) (oi := { dst := some 149, op := Go.Op.binOp Go.BinOp.lss 3 (Go.Operand.tmp 148) (Go.Operand.const (Go.Value.int Go.IntKind.i64 0)) 3, type := 4, pos := "law.go:124", after := #[{ on := 33, ground := Go.Ground.data }, { on := 28, ground := Go.Ground.guard }], guard := some (28, false) }) (v := undef) rfl (by kernel_rfl) (by kernel_rfl) (by kernel_rfl) (fun _ _ _ h => h) (by kernel_rfl) (Or.inr ⟨by rfl, rfl⟩) rfl ?rest123
                    try simp only [Act.put, List.setIfInBounds_toArray, List.set_cons_zero, List.set_cons_succ]
                    refine' wpAnyD_take (i := 35) (oi := { dst := some 150, op := Go.Op.pick (Go.Operand.tmp 143) (Go.Operand.const (Go.Value.bool true)) (Go.Operand.tmp 149), type := 4, pos := "law.go:124", after := #[{ on := 28, ground := Go.Ground.data }, { on := 34, ground := Go.Ground.data }], guard := none }) (v := _) rfl (by kernel_rfl) (by kernel_rfl) (by kernel_rfl) (fun _ _ _ h => h) (by kernel_rfl) (Or.inl ⟨by rfl, ?hy124⟩) rfl ?rest124
                    case hy124 => (intro W hSw; subst hSw; go_simp; try (with_reducible rfl))
                    try simp only [Act.put, List.setIfInBounds_toArray, List.set_cons_zero, List.set_cons_succ]
                    refine' wpAnyD_take (i := 36) (oi := { dst := some 151, op := Go.Op.move (Go.Operand.tmp 150), type := 4, pos := "law.go:124", after := #[{ on := 35, ground := Go.Ground.data }, { on := 28, ground := Go.Ground.chain }], guard := none }) (v := _) rfl (by kernel_rfl) (by kernel_rfl) (by kernel_rfl) (fun _ _ _ h => h) (by kernel_rfl) (Or.inl ⟨by rfl, ?hy125⟩) rfl ?rest125
                    case hy125 => (intro W hSw; subst hSw; go_simp; try (with_reducible rfl))
                    try simp only [Act.put, List.setIfInBounds_toArray, List.set_cons_zero, List.set_cons_succ]
                    refine' wpAnyD_take (i := 37) (oi := { dst := some 152, op := Go.Op.load 40 (Go.Operand.tmp 16), type := 40, pos := "law.go:124", after := #[{ on := 36, ground := Go.Ground.guard }], guard := some (36, false) }) (v := undef) rfl (by kernel_rfl) (by kernel_rfl) (by kernel_rfl) (fun _ _ _ h => h) (by kernel_rfl) (Or.inr ⟨by rfl, rfl⟩) rfl ?rest126
                    try simp only [Act.put, List.setIfInBounds_toArray, List.set_cons_zero, List.set_cons_succ]
                    refine' wpAnyD_take (i := 38) (oi := { dst := some 153, op := Go.Op.load 3 (Go.Operand.tmp 17), type := 3, pos := "law.go:124", after := #[{ on := 36, ground := Go.Ground.guard }], guard := some (36, false) }) (v := undef) rfl (by kernel_rfl) (by kernel_rfl) (by kernel_rfl) (fun _ _ _ h => h) (by kernel_rfl) (Or.inr ⟨by rfl, rfl⟩) rfl ?rest127
                    try simp only [Act.put, List.setIfInBounds_toArray, List.set_cons_zero, List.set_cons_succ]
                    refine' wpAnyD_take (i := 39) (oi := { dst := some 154, op := Go.Op.indexAddr 40 (Go.Operand.tmp 152) (Go.Operand.tmp 153), type := 0, pos := "law.go:124", after := #[{ on := 37, ground := Go.Ground.data }, { on := 38, ground := Go.Ground.data }, { on := 36, ground := Go.Ground.guard }], guard := some (36, false) }) (v := undef) rfl (by kernel_rfl) (by kernel_rfl) (by kernel_rfl) (fun _ _ _ h => h) (by kernel_rfl) (Or.inr ⟨by rfl, rfl⟩) rfl ?rest128
                    try simp only [Act.put, List.setIfInBounds_toArray, List.set_cons_zero, List.set_cons_succ]
                    refine' wpAnyD_take (i := 40) (oi := { dst := some 155, op := Go.Op.fieldAddr 51 (Go.Operand.tmp 154) 0, type := 0, pos := "law.go:124", after := #[{ on := 39, ground := Go.Ground.data }, { on := 36, ground := Go.Ground.guard }], guard := some (36, false) }) (v := undef) rfl (by kernel_rfl) (by kernel_rfl) (by kernel_rfl) (fun _ _ _ h => h) (by kernel_rfl) (Or.inr ⟨by rfl, rfl⟩) rfl ?rest129
                    try simp only [Act.put, List.setIfInBounds_toArray, List.set_cons_zero, List.set_cons_succ]
                    refine' wpAnyD_take (i := 41) (oi := { dst := some 156, op := Go.Op.load 3 (Go.Operand.tmp 155), type := 3, pos := "law.go:124", after := #[{ on := 40, ground := Go.Ground.data }, { on := 36, ground := Go.Ground.guard }], guard := some (36, false) }) (v := undef) rfl (by kernel_rfl) (by kernel_rfl) (by kernel_rfl) (fun _ _ _ h => h) (by kernel_rfl) (Or.inr ⟨by rfl, rfl⟩) rfl ?rest130
                    try simp only [Act.put, List.setIfInBounds_toArray, List.set_cons_zero, List.set_cons_succ]
                    refine' wpAnyD_take (i := 42) (oi := { dst := some 157, op := Go.Op.load 3 (Go.Operand.tmp 11), type := 3, pos := "law.go:124", after := #[{ on := 36, ground := Go.Ground.guard }], guard := some (36, false) }) (v := undef) rfl (by kernel_rfl) (by kernel_rfl) (by kernel_rfl) (fun _ _ _ h => h) (by kernel_rfl) (Or.inr ⟨by rfl, rfl⟩) rfl ?rest131
                    try simp only [Act.put, List.setIfInBounds_toArray, List.set_cons_zero, List.set_cons_succ]
                    refine' wpAnyD_take (i := 43) (oi := { dst := some 158, op := Go.Op.binOp Go.BinOp.geq 3 (Go.Operand.tmp 156) (Go.Operand.tmp 157) 3, type := 4, pos := "law.go:124", after := #[{ on := 41, ground := Go.Ground.data }, { on := 42, ground := Go.Ground.data }, { on := 36, ground := Go.Ground.guard }], guard := some (36, false) }) (v := undef) rfl (by kernel_rfl) (by kernel_rfl) (by kernel_rfl) (fun _ _ _ h => h) (by kernel_rfl) (Or.inr ⟨by rfl, rfl⟩) rfl ?rest132
                    try simp only [Act.put, List.setIfInBounds_toArray, List.set_cons_zero, List.set_cons_succ]
                    refine' wpAnyD_take (i := 44) (oi := { dst := some 159, op := Go.Op.pick (Go.Operand.tmp 151) (Go.Operand.const (Go.Value.bool true)) (Go.Operand.tmp 158), type := 4, pos := "law.go:124", after := #[{ on := 36, ground := Go.Ground.data }, { on := 43, ground := Go.Ground.data }], guard := none }) (v := _) rfl (by kernel_rfl) (by kernel_rfl) (by kernel_rfl) (fun _ _ _ h => h) (by kernel_rfl) (Or.inl ⟨by rfl, ?hy133⟩) rfl ?rest133
                    case hy133 => (intro W hSw; subst hSw; go_simp; try (with_reducible rfl))
                    try simp only [Act.put, List.setIfInBounds_toArray, List.set_cons_zero, List.set_cons_succ]
                    refine wpAnyD_done (by kernel_rfl) ?_ _
                    generalize W2.drew = W3 at R4 ⊢
                    clear hto x0 zb c9a c11 l9 l11 cl cn co ll ln lo cd4 lD
                    have KR := hid (KW.out W3 R4.out.1.lk.bl)
                    have ck := (tk_store KR.out.r).1
                    have fk := (tk_store KR.out.r).2
                    have lk := tk_lt KR.out.r
                    gi_wp2
                    obtain ⟨s1, s2⟩ := tk_set KR.out.r 0 (.bool false)
                    refine ⟨(keeps_belowR R4.out.2).trans (keeps_kpR KR.out.r s2), fun hp => ?_⟩
                    have h1 := (HPX.out hp).2
                    rw [← HKD.out] at h1
                    exact hkw (by rw [h1, HTW.out]; rfl)
                | false =>
                  by_cases hkw : o.wk = ((i : Nat) : Int)
                  · rw [hkw] at x0 hw0 hw1
                    refine wp_regionR (S := fun X => X = W2.drew) (D := []) hmx (by kernel_rfl) (fun h => by obtain ⟨_, _, h⟩ := h; exact h) ?_
                    refine' wpAnyD_take (i := 0) (oi := { dst := some 115, op := Go.Op.fieldAddr 47 (Go.Operand.tmp 19) 4, type := 0, pos := "law.go:124", after := #[], guard := none }) (v := _) rfl (by kernel_rfl) (by kernel_rfl) (by kernel_rfl) (fun _ _ _ h => h) (by kernel_rfl) (Or.inl ⟨by rfl, ?hy134⟩) rfl ?rest134
                    case hy134 => (intro W hSw; subst hSw; go_simp; try (with_reducible rfl))
                    try simp only [Act.put, List.setIfInBounds_toArray, List.set_cons_zero, List.set_cons_succ]
                    refine' wpAnyD_take (i := 1) (oi := { dst := some 116, op := Go.Op.load 4 (Go.Operand.tmp 115), type := 4, pos := "law.go:124", after := #[{ on := 0, ground := Go.Ground.data }], guard := none }) (v := _) rfl (by kernel_rfl) (by kernel_rfl) (by kernel_rfl) (fun _ _ _ h => h) (by kernel_rfl) (Or.inl ⟨by rfl, ?hy135⟩) rfl ?rest135
                    case hy135 => (intro W hSw; subst hSw; go_simp; try (with_reducible rfl))
                    try simp only [Act.put, List.setIfInBounds_toArray, List.set_cons_zero, List.set_cons_succ]
                    refine' wpAnyD_take (i := 2) (oi := { dst := some 117, op := Go.Op.move (Go.Operand.tmp 116), type := 4, pos := "law.go:124", after := #[{ on := 1, ground := Go.Ground.data }], guard := none }) (v := _) rfl (by kernel_rfl) (by kernel_rfl) (by kernel_rfl) (fun _ _ _ h => h) (by kernel_rfl) (Or.inl ⟨by rfl, ?hy136⟩) rfl ?rest136
                    case hy136 => (intro W hSw; subst hSw; go_simp; try (with_reducible rfl))
                    try simp only [Act.put, List.setIfInBounds_toArray, List.set_cons_zero, List.set_cons_succ]
                    refine' wpAnyD_take (i := 3) (oi := { dst := some 118, op := Go.Op.load 40 (Go.Operand.tmp 16), type := 40, pos := "law.go:124", after := #[{ on := 2, ground := Go.Ground.guard }], guard := some (2, true) }) (v := undef) rfl (by kernel_rfl) (by kernel_rfl) (by kernel_rfl) (fun _ _ _ h => h) (by kernel_rfl) (Or.inr ⟨by rfl, rfl⟩) rfl ?rest137
                    try simp only [Act.put, List.setIfInBounds_toArray, List.set_cons_zero, List.set_cons_succ]
                    refine' wpAnyD_take (i := 4) (oi := { dst := some 119, op := Go.Op.load 3 (Go.Operand.tmp 17), type := 3, pos := "law.go:124", after := #[{ on := 2, ground := Go.Ground.guard }], guard := some (2, true) }) (v := undef) rfl (by kernel_rfl) (by kernel_rfl) (by kernel_rfl) (fun _ _ _ h => h) (by kernel_rfl) (Or.inr ⟨by rfl, rfl⟩) rfl ?rest138
                    try simp only [Act.put, List.setIfInBounds_toArray, List.set_cons_zero, List.set_cons_succ]
                    refine' wpAnyD_take (i := 5) (oi := { dst := some 120, op := Go.Op.indexAddr 40 (Go.Operand.tmp 118) (Go.Operand.tmp 119), type := 0, pos := "law.go:124", after := #[{ on := 3, ground := Go.Ground.data }, { on := 4, ground := Go.Ground.data }, { on := 2, ground := Go.Ground.guard }], guard := some (2, true) }) (v := undef) rfl (by kernel_rfl) (by kernel_rfl) (by kernel_rfl) (fun _ _ _ h => h) (by kernel_rfl) (Or.inr ⟨by rfl, rfl⟩) rfl ?rest139
                    try simp only [Act.put, List.setIfInBounds_toArray, List.set_cons_zero, List.set_cons_succ]
                    refine' wpAnyD_take (i := 6) (oi := { dst := some 121, op := Go.Op.fieldAddr 51 (Go.Operand.tmp 120) 0, type := 0, pos := "law.go:124", after := #[{ on := 5, ground := Go.Ground.data }, { on := 2, ground := Go.Ground.guard }], guard := some (2, true) }) (v := undef) rfl (by kernel_rfl) (by kernel_rfl) (by kernel_rfl) (fun _ _ _ h => h) (by kernel_rfl) (Or.inr ⟨by rfl, rfl⟩) rfl ?rest140
                    try simp only [Act.put, List.setIfInBounds_toArray, List.set_cons_zero, List.set_cons_succ]
                    refine' wpAnyD_take (i := 7) (oi := { dst := some 122, op := Go.Op.load 3 (Go.Operand.tmp 121), type := 3, pos := "law.go:124", after := #[{ on := 6, ground := Go.Ground.data }, { on := 2, ground := Go.Ground.guard }], guard := some (2, true) }) (v := undef) rfl (by kernel_rfl) (by kernel_rfl) (by kernel_rfl) (fun _ _ _ h => h) (by kernel_rfl) (Or.inr ⟨by rfl, rfl⟩) rfl ?rest141
                    try simp only [Act.put, List.setIfInBounds_toArray, List.set_cons_zero, List.set_cons_succ]
                    refine' wpAnyD_take (i := 8) (oi := { dst := some 123, op := Go.Op.fieldAddr 30 (Go.Operand.tmp 9) 0, type := 0, pos := "law.go:124", after := #[{ on := 2, ground := Go.Ground.guard }], guard := some (2, true) }) (v := undef) rfl (by kernel_rfl) (by kernel_rfl) (by kernel_rfl) (fun _ _ _ h => h) (by kernel_rfl) (Or.inr ⟨by rfl, rfl⟩) rfl ?rest142
                    try simp only [Act.put, List.setIfInBounds_toArray, List.set_cons_zero, List.set_cons_succ]
                    refine' wpAnyD_take (i := 9) (oi := { dst := some 124, op := Go.Op.load 26 (Go.Operand.tmp 123), type := 26, pos := "law.go:124", after := #[{ on := 8, ground := Go.Ground.data }, { on := 2, ground := Go.Ground.guard }], guard := some (2, true) }) (v := undef) rfl (by kernel_rfl) (by kernel_rfl) (by kernel_rfl) (fun _ _ _ h => h) (by kernel_rfl) (Or.inr ⟨by rfl, rfl⟩) rfl ?rest143
                    try simp only [Act.put, List.setIfInBounds_toArray, List.set_cons_zero, List.set_cons_succ]
                    refine' wpAnyD_take (i := 10) (oi := { dst := some 125, op := Go.Op.load 3 (Go.Operand.tmp 11), type := 3, pos := "law.go:124", after := #[{ on := 2, ground := Go.Ground.guard }], guard := some (2, true) }) (v := undef) rfl (by kernel_rfl) (by kernel_rfl) (by kernel_rfl) (fun _ _ _ h => h) (by kernel_rfl) (Or.inr ⟨by rfl, rfl⟩) rfl ?rest144
                    try simp only [Act.put, List.setIfInBounds_toArray, List.set_cons_zero, List.set_cons_succ]
                    refine' wpAnyD_take (i := 11) (oi := { dst := some 126, op := Go.Op.call { callee := Go.Callee.value (Go.Operand.func 13), args := #[Go.Operand.tmp 124, Go.Operand.tmp 125], argTypes := #[26, 3] }, type := 3, pos := "law.go:124", after := #[{ on := 9, ground := Go.Ground.data }, { on := 10, ground := Go.Ground.data }, { on := 2, ground := Go.Ground.chain }, { on := 2, ground := Go.Ground.guard }], guard := some (2, true) }) (v := undef) rfl (by kernel_rfl) (by kernel_rfl) (by kernel_rfl) (fun _ _ _ h => h) (by kernel_rfl) (Or.inr ⟨by rfl, rfl⟩) rfl ?rest145
                    try simp only [Act.put, List.setIfInBounds_toArray, List.set_cons_zero, List.set_cons_succ]
                    refine' wpAnyD_take (i := 12) (oi := { dst := some 127, op := Go.Op.binOp Go.BinOp.neq 3 (Go.Operand.tmp 122) (Go.Operand.tmp 126) 3, type := 4, pos := "law.go:124", after := #[{ on := 7, ground := Go.Ground.data }, { on := 11, ground := Go.Ground.data }, { on := 2, ground := Go.Ground.guard }], guard := some (2, true) }) (v := undef) rfl (by kernel_rfl) (by kernel_rfl) (by kernel_rfl) (fun _ _ _ h => h) (by kernel_rfl) (Or.inr ⟨by rfl, rfl⟩) rfl ?rest146
                    try simp only [Act.put, List.setIfInBounds_toArray, List.set_cons_zero, List.set_cons_succ]
                    refine' wpAnyD_take (i := 13) (oi := { dst := some 128, op := Go.Op.pick (Go.Operand.tmp 117) (Go.Operand.tmp 127) (Go.Operand.const (Go.Value.bool false)), type := 4, pos := "law.go:124", after := #[{ on := 2, ground := Go.Ground.data }, { on := 12, ground := Go.Ground.data }], guard := none }) (v := _) rfl (by kernel_rfl) (by kernel_rfl) (by kernel_rfl) (fun _ _ _ h => h) (by kernel_rfl) (Or.inl ⟨by rfl, ?hy147⟩) rfl ?rest147
                    case hy147 => (intro W hSw; subst hSw; go_simp; try (with_reducible rfl))
                    try simp only [Act.put, List.setIfInBounds_toArray, List.set_cons_zero, List.set_cons_succ]
                    refine' wpAnyD_take (i := 14) (oi := { dst := some 129, op := Go.Op.move (Go.Operand.tmp 128), type := 4, pos := "law.go:124", after := #[{ on := 13, ground := Go.Ground.data }, { on := 11, ground := Go.Ground.chain }], guard := none }) (v := _) rfl (by kernel_rfl) (by kernel_rfl) (by kernel_rfl) (fun _ _ _ h => h) (by kernel_rfl) (Or.inl ⟨by rfl, ?hy148⟩) rfl ?rest148
                    case hy148 => (intro W hSw; subst hSw; go_simp; try (with_reducible rfl))
                    try simp only [Act.put, List.setIfInBounds_toArray, List.set_cons_zero, List.set_cons_succ]
                    refine' wpAnyD_take (i := 15) (oi := { dst := some 130, op := Go.Op.fieldAddr 47 (Go.Operand.tmp 19) 4, type := 0, pos := "law.go:124", after := #[{ on := 14, ground := Go.Ground.guard }], guard := some (14, false) }) (v := _) rfl (by kernel_rfl) (by kernel_rfl) (by kernel_rfl) (fun _ _ _ h => h) (by kernel_rfl) (Or.inl ⟨by rfl, ?hy149⟩) rfl ?rest149
                    case hy149 => (intro W hSw; subst hSw; go_simp; try (with_reducible rfl))
                    try simp only [Act.put, List.setIfInBounds_toArray, List.set_cons_zero, List.set_cons_succ]
                    refine' wpAnyD_take (i := 16) (oi := { dst := some 131, op := Go.Op.load 4 (Go.Operand.tmp 130), type := 4, pos := "law.go:124", after := #[{ on := 15, ground := Go.Ground.data }, { on := 14, ground := Go.Ground.guard }], guard := some (14, false) }) (v := _) rfl (by kernel_rfl) (by kernel_rfl) (by kernel_rfl) (fun _ _ _ h => h) (by kernel_rfl) (Or.inl ⟨by rfl, ?hy150⟩) rfl ?rest150
                    case hy150 => (intro W hSw; subst hSw; go_simp; try (with_reducible rfl))
                    try simp only [Act.put, List.setIfInBounds_toArray, List.set_cons_zero, List.set_cons_succ]
                    refine' wpAnyD_take (i := 17) (oi := { dst := some 132, op := Go.Op.unOp Go.UnOp.not 4 (Go.Operand.tmp 131), type := 4, pos := "law.go:124", after := #[{ on := 16, ground := Go.Ground.data }, { on := 14, ground := Go.Ground.guard }], guard := some (14, false) }) (v := _) rfl (by kernel_rfl) (by kernel_rfl) (by kernel_rfl) (fun _ _ _ h => h) (by kernel_rfl) (Or.inl ⟨by rfl, ?hy151⟩) rfl ?rest151
                    case hy151 => (intro W hSw; subst hSw; go_simp; try (with_reducible rfl))
                    try simp only [Act.put, List.setIfInBounds_toArray, List.set_cons_zero, List.set_cons_succ]
                    refine' wpAnyD_take (i := 18) (oi := { dst := some 133, op := Go.Op.move (Go.Operand.tmp 132), type := 4, pos := "law.go:124", after := #[{ on := 17, ground := Go.Ground.data }, { on := 14, ground := Go.Ground.chain }, { on := 14, ground := Go.Ground.guard }], guard := some (14, false) }) (v := _) rfl (by kernel_rfl) (by kernel_rfl) (by kernel_rfl) (fun _ _ _ h => h) (by kernel_rfl) (Or.inl ⟨by rfl, ?hy152⟩) rfl ?rest152
                    case hy152 => (intro W hSw; subst hSw; go_simp; try (with_reducible rfl))
                    try simp only [Act.put, List.setIfInBounds_toArray, List.set_cons_zero, List.set_cons_succ]
                    refine' wpAnyD_take (i := 19) (oi := { dst := some 134, op := Go.Op.load 40 (Go.Operand.tmp 16), type := 40, pos := "law.go:124", after := #[{ on := 18, ground := Go.Ground.guard }], guard := some (18, true) }) (v := _) rfl (by kernel_rfl) (by kernel_rfl) (by kernel_rfl) (fun _ _ _ h => h) (by kernel_rfl) (Or.inl ⟨by rfl, ?hy153⟩) rfl ?rest153
                    case hy153 => (intro W hSw; subst hSw; go_simp; try (with_reducible rfl))
                    try simp only [Act.put, List.setIfInBounds_toArray, List.set_cons_zero, List.set_cons_succ]
                    refine' wpAnyD_take (i := 20) (oi := { dst := some 135, op := Go.Op.load 3 (Go.Operand.tmp 17), type := 3, pos := "law.go:124", after := #[{ on := 18, ground := Go.Ground.guard }], guard := some (18, true) }) (v := _) rfl (by kernel_rfl) (by kernel_rfl) (by kernel_rfl) (fun _ _ _ h => h) (by kernel_rfl) (Or.inl ⟨by rfl, ?hy154⟩) rfl ?rest154
                    case hy154 => (intro W hSw; subst hSw; go_simp; try (with_reducible rfl))
                    try simp only [Act.put, List.setIfInBounds_toArray, List.set_cons_zero, List.set_cons_succ]
                    refine' wpAnyD_take (i := 21) (oi := { dst := some 136, op := Go.Op.indexAddr 40 (Go.Operand.tmp 134) (Go.Operand.tmp 135), type := 0, pos := "law.go:124", after := #[{ on := 19, ground := Go.Ground.data }, { on := 20, ground := Go.Ground.data }, { on := 18, ground := Go.Ground.guard }], guard := some (18, true) }) (v := _) rfl (by kernel_rfl) (by kernel_rfl) (by kernel_rfl) (fun _ _ _ h => h) (by kernel_rfl) (Or.inl ⟨by rfl, ?hy155⟩) rfl ?rest155
                    case hy155 => (intro W hSw; subst hSw; go_simp; try (with_reducible rfl))
                    try simp only [Act.put, List.setIfInBounds_toArray, List.set_cons_zero, List.set_cons_succ]
                    refine' wpAnyD_take (i := 22) (oi := { dst := some 137, op := Go.Op.fieldAddr 51 (Go.Operand.tmp 136) 0, type := 0, pos := "law.go:124", after := #[{ on := 21, ground := Go.Ground.data }, { on := 18, ground := Go.Ground.guard }], guard := some (18, true) }) (v := _) rfl (by kernel_rfl) (by kernel_rfl) (by kernel_rfl) (fun _ _ _ h => h) (by kernel_rfl) (Or.inl ⟨by rfl, ?hy156⟩) rfl ?rest156
                    case hy156 => (intro W hSw; subst hSw; go_simp; try (with_reducible rfl))
                    try simp only [Act.put, List.setIfInBounds_toArray, List.set_cons_zero, List.set_cons_succ]
                    refine' wpAnyD_take (i := 23) (oi := { dst := some 138, op := Go.Op.load 3 (Go.Operand.tmp 137), type := 3, pos := "law.go:124", after := #[{ on := 22, ground := Go.Ground.data }, { on := 18, ground := Go.Ground.guard }], guard := some (18, true) }) (v := _) rfl (by kernel_rfl) (by kernel_rfl) (by kernel_rfl) (fun _ _ _ h => h) (by kernel_rfl) (Or.inl ⟨by rfl, ?hy157⟩) rfl ?rest157
                    case hy157 => (intro W hSw; subst hSw; go_simp; try (with_reducible rfl))
                    try simp only [Act.put, List.setIfInBounds_toArray, List.set_cons_zero, List.set_cons_succ]
                    refine' wpAnyD_take (i := 24) (oi := { dst := some 139, op := Go.Op.load 3 (Go.Operand.tmp 15), type := 3, pos := "law.go:124", after := #[{ on := 18, ground := Go.Ground.guard }], guard := some (18, true) }) (v := _) rfl (by kernel_rfl) (by kernel_rfl) (by kernel_rfl) (fun _ _ _ h => h) (by kernel_rfl) (Or.inl ⟨by rfl, ?hy158⟩) rfl ?rest158
                    case hy158 => (intro W hSw; subst hSw; go_simp; try (with_reducible rfl))
                    try simp only [Act.put, List.setIfInBounds_toArray, List.set_cons_zero, List.set_cons_succ]
                    refine' wpAnyD_take (i := 25) (oi := { dst := some 140, op := Go.Op.binOp Go.BinOp.neq 3 (Go.Operand.tmp 138) (Go.Operand.tmp 139) 3, type := 4, pos := "law.go:124", after := #[{ on := 23, ground := Go.Ground.data }, { on := 24, ground := Go.Ground.data }, { on := 18, ground := Go.Ground.guard }], guard := some (18, true) }) (v := .bool false) rfl (by kernel_rfl) (by kernel_rfl) (by kernel_rfl) (fun _ _ _ h => h) (by kernel_rfl) (Or.inl ⟨by rfl, ?hy159⟩) rfl ?rest159
                    case hy159 => (intro W hSw; subst hSw; go_simp; try (with_reducible rfl))
                    try simp only [Act.put, List.setIfInBounds_toArray, List.set_cons_zero, List.set_cons_succ]
                    refine' wpAnyD_take (i := 26) (oi := { dst := some 141, op := Go.Op.pick (Go.Operand.tmp 133) (Go.Operand.tmp 140) (Go.Operand.const (Go.Value.bool false)), type := 4, pos := "law.go:124", after := #[{ on := 18, ground := Go.Ground.data }, { on := 25, ground := Go.Ground.data }, { on := 14, ground := Go.Ground.guard }], guard := some (14, false) }) (v := _) rfl (by kernel_rfl) (by kernel_rfl) (by kernel_rfl) (fun _ _ _ h => h) (by kernel_rfl) (Or.inl ⟨by rfl, ?hy160⟩) rfl ?rest160
                    case hy160 => (intro W hSw; subst hSw; go_simp; try (with_reducible rfl))
                    try simp only [Act.put, List.setIfInBounds_toArray, List.set_cons_zero, List.set_cons_succ]
                    refine' wpAnyD_take (i := 27) (oi := { dst := some 142, op := Go.Op.pick (Go.Operand.tmp 129) (Go.Operand.const (Go.Value.bool true)) (Go.Operand.tmp 141), type := 4, pos := "law.go:124", after := #[{ on := 14, ground := Go.Ground.data }, { on := 26, ground := Go.Ground.data }], guard := none }) (v := _) rfl (by kernel_rfl) (by kernel_rfl) (by kernel_rfl) (fun _ _ _ h => h) (by kernel_rfl) (Or.inl ⟨by rfl, ?hy161⟩) rfl ?rest161
                    case hy161 => (intro W hSw; subst hSw; go_simp; try (with_reducible rfl))
                    try simp only [Act.put, List.setIfInBounds_toArray, List.set_cons_zero, List.set_cons_succ]
                    refine' wpAnyD_take (i := 28) (oi := { dst := some 143, op := Go.Op.move (Go.Operand.tmp 142), type := 4, pos := "law.go:124", after := #[{ on := 27, ground := Go.Ground.data }, { on := 18, ground := Go.Ground.chain }], guard := none }) (v := _) rfl (by kernel_rfl) (by kernel_rfl) (by kernel_rfl) (fun _ _ _ h => h) (by kernel_rfl) (Or.inl ⟨by rfl, ?hy162⟩) rfl ?rest162
                    case hy162 => (intro W hSw; subst hSw; go_simp; try (with_reducible rfl))
                    try simp only [Act.put, List.setIfInBounds_toArray, List.set_cons_zero, List.set_cons_succ]
                    refine' wpAnyD_take (i := 29) (oi := { dst := some 144, op := Go.Op.load 40 (Go.Operand.tmp 16), type := 40, pos := "law.go:124", after := #[{ on := 28, ground := Go.Ground.guard }], guard := some (28, false) }) (v := _) rfl (by kernel_rfl) (by kernel_rfl) (by kernel_rfl) (fun _ _ _ h => h) (by kernel_rfl) (Or.inl ⟨by rfl, ?hy163⟩) rfl ?rest163
                    case hy163 => (intro W hSw; subst hSw; go_simp; try (with_reducible rfl))
                    try simp only [Act.put, List.setIfInBounds_toArray, List.set_cons_zero, List.set_cons_succ]
                    refine' wpAnyD_take (i := 30) (oi := { dst := some 145, op := Go.Op.load 3 (Go.Operand.tmp 17), type := 3, pos := "law.go:124", after := #[{ on := 28, ground := Go.Ground.guard }], guard := some (28, false) }) (v := _) rfl (by kernel_rfl) (by kernel_rfl) (by kernel_rfl) (fun _ _ _ h => h) (by kernel_rfl) (Or.inl ⟨by rfl, ?hy164⟩) rfl ?rest164
                    case hy164 => (intro W hSw; subst hSw; go_simp; try (with_reducible rfl))
                    try simp only [Act.put, List.setIfInBounds_toArray, List.set_cons_zero, List.set_cons_succ]
                    refine' wpAnyD_take (i := 31) (oi := { dst := some 146, op := Go.Op.indexAddr 40 (Go.Operand.tmp 144) (Go.Operand.tmp 145), type := 0, pos := "law.go:124", after := #[{ on := 29, ground := Go.Ground.data }, { on := 30, ground := Go.Ground.data }, { on := 28, ground := Go.Ground.guard }], guard := some (28, false) }) (v := _) rfl (by kernel_rfl) (by kernel_rfl) (by kernel_rfl) (fun _ _ _ h => h) (by kernel_rfl) (Or.inl ⟨by rfl, ?hy165⟩) rfl ?rest165
                    case hy165 => (intro W hSw; subst hSw; go_simp; try (with_reducible rfl))
                    try simp only [Act.put, List.setIfInBounds_toArray, List.set_cons_zero, List.set_cons_succ]
                    refine' wpAnyD_take (i := 32) (oi := { dst := some 147, op := Go.Op.fieldAddr 51 (Go.Operand.tmp 146) 0, type := 0, pos := "law.go:124", after := #[{ on := 31, ground := Go.Ground.data }, { on := 28, ground := Go.Ground.guard }], guard := some (28, false) }) (v := _) rfl (by kernel_rfl) (by kernel_rfl) (by kernel_rfl) (fun _ _ _ h => h) (by kernel_rfl) (Or.inl ⟨by rfl, ?hy166⟩) rfl ?rest166
                    case hy166 => (intro W hSw; subst hSw; go_simp; try (with_reducible rfl))
                    try simp only [Act.put, List.setIfInBounds_toArray, List.set_cons_zero, List.set_cons_succ]
                    refine' wpAnyD_take (i := 33) (oi := { dst := some 148, op := Go.Op.load 3 (Go.Operand.tmp 147), type := 3, pos := "law.go:124", after := #[{ on := 32, ground := Go.Ground.data }, { on := 28, ground := Go.Ground.guard }], guard := some (28, false) }) (v := _) rfl (by kernel_rfl) (by kernel_rfl) (by kernel_rfl) (fun _ _ _ h => h) (by kernel_rfl) (Or.inl ⟨by rfl, ?hy167⟩) rfl ?rest167
                    case hy167 => (intro W hSw; subst hSw; go_simp; try (with_reducible rfl))
                    try simp only [Act.put, List.setIfInBounds_toArray, List.set_cons_zero, List.set_cons_succ]
                    refine' wpAnyD_take (i := 34) (oi := { dst := some 149, op := Go.Op.binOp Go.BinOp.lss 3 (Go.Operand.tmp 148) (Go.Operand.const (Go.Value.int Go.IntKind.i64 0)) 3, type := 4, pos := "law.go:124", after := #[{ on := 33, ground := Go.Ground.data }, { on := 28, ground := Go.Ground.guard }], guard := some (28, false) }) (v := .bool false) rfl (by kernel_rfl) (by kernel_rfl) (by kernel_rfl) (fun _ _ _ h => h) (by kernel_rfl) (Or.inl ⟨by rfl, ?hy168⟩) rfl ?rest168
                    case hy168 => (intro W hSw; subst hSw; go_simp; first | done | (with_reducible rfl) | simp [hw0])
                    try simp only [Act.put, List.setIfInBounds_toArray, List.set_cons_zero, List.set_cons_succ]
                    refine' wpAnyD_take (i := 35) (oi := { dst := some 150, op := Go.Op.pick (Go.Operand.tmp 143) (Go.Operand.const (Go.Value.bool true)) (Go.Operand.tmp 149), type := 4, pos := "law.go:124", after := #[{ on := 28, ground := Go.Ground.data }, { on := 34, ground := Go.Ground.data }], guard := none }) (v := _) rfl (by kernel_rfl) (by kernel_rfl) (by kernel_rfl) (fun _ _ _ h => h) (by kernel_rfl) (Or.inl ⟨by rfl, ?hy169⟩) rfl ?rest169
                    case hy169 => (intro W hSw; subst hSw; go_simp; try (with_reducible rfl))
                    try simp only [Act.put, List.setIfInBounds_toArray, List.set_cons_zero, List.set_cons_succ]
                    refine' wpAnyD_take (i := 36) (oi := { dst := some 151, op := Go.Op.move (Go.Operand.tmp 150), type := 4, pos := "law.go:124", after := #[{ on := 35, ground := Go.Ground.data }, { on := 28, ground := Go.Ground.chain }], guard := none }) (v := _) rfl (by kernel_rfl) (by kernel_rfl) (by kernel_rfl) (fun _ _ _ h => h) (by kernel_rfl) (Or.inl ⟨by rfl, ?hy170⟩) rfl ?rest170
                    case hy170 => (intro W hSw; subst hSw; go_simp; try (with_reducible rfl))
                    try simp only [Act.put, List.setIfInBounds_toArray, List.set_cons_zero, List.set_cons_succ]
                    refine' wpAnyD_take (i := 37) (oi := { dst := some 152, op := Go.Op.load 40 (Go.Operand.tmp 16), type := 40, pos := "law.go:124", after := #[{ on := 36, ground := Go.Ground.guard }], guard := some (36, false) }) (v := _) rfl (by kernel_rfl) (by kernel_rfl) (by kernel_rfl) (fun _ _ _ h => h) (by kernel_rfl) (Or.inl ⟨by rfl, ?hy171⟩) rfl ?rest171
                    case hy171 => (intro W hSw; subst hSw; go_simp; try (with_reducible rfl))
                    try simp only [Act.put, List.setIfInBounds_toArray, List.set_cons_zero, List.set_cons_succ]
                    refine' wpAnyD_take (i := 38) (oi := { dst := some 153, op := Go.Op.load 3 (Go.Operand.tmp 17), type := 3, pos := "law.go:124", after := #[{ on := 36, ground := Go.Ground.guard }], guard := some (36, false) }) (v := _) rfl (by kernel_rfl) (by kernel_rfl) (by kernel_rfl) (fun _ _ _ h => h) (by kernel_rfl) (Or.inl ⟨by rfl, ?hy172⟩) rfl ?rest172
                    case hy172 => (intro W hSw; subst hSw; go_simp; try (with_reducible rfl))
                    try simp only [Act.put, List.setIfInBounds_toArray, List.set_cons_zero, List.set_cons_succ]
                    refine' wpAnyD_take (i := 39) (oi := { dst := some 154, op := Go.Op.indexAddr 40 (Go.Operand.tmp 152) (Go.Operand.tmp 153), type := 0, pos := "law.go:124", after := #[{ on := 37, ground := Go.Ground.data }, { on := 38, ground := Go.Ground.data }, { on := 36, ground := Go.Ground.guard }], guard := some (36, false) }) (v := _) rfl (by kernel_rfl) (by kernel_rfl) (by kernel_rfl) (fun _ _ _ h => h) (by kernel_rfl) (Or.inl ⟨by rfl, ?hy173⟩) rfl ?rest173
                    case hy173 => (intro W hSw; subst hSw; go_simp; try (with_reducible rfl))
                    try simp only [Act.put, List.setIfInBounds_toArray, List.set_cons_zero, List.set_cons_succ]
                    refine' wpAnyD_take (i := 40) (oi := { dst := some 155, op := Go.Op.fieldAddr 51 (Go.Operand.tmp 154) 0, type := 0, pos := "law.go:124", after := #[{ on := 39, ground := Go.Ground.data }, { on := 36, ground := Go.Ground.guard }], guard := some (36, false) }) (v := _) rfl (by kernel_rfl) (by kernel_rfl) (by kernel_rfl) (fun _ _ _ h => h) (by kernel_rfl) (Or.inl ⟨by rfl, ?hy174⟩) rfl ?rest174
                    case hy174 => (intro W hSw; subst hSw; go_simp; try (with_reducible rfl))
                    try simp only [Act.put, List.setIfInBounds_toArray, List.set_cons_zero, List.set_cons_succ]
                    refine' wpAnyD_take (i := 41) (oi := { dst := some 156, op := Go.Op.load 3 (Go.Operand.tmp 155), type := 3, pos := "law.go:124", after := #[{ on := 40, ground := Go.Ground.data }, { on := 36, ground := Go.Ground.guard }], guard := some (36, false) }) (v := _) rfl (by kernel_rfl) (by kernel_rfl) (by kernel_rfl) (fun _ _ _ h => h) (by kernel_rfl) (Or.inl ⟨by rfl, ?hy175⟩) rfl ?rest175
                    case hy175 => (intro W hSw; subst hSw; go_simp; try (with_reducible rfl))
                    try simp only [Act.put, List.setIfInBounds_toArray, List.set_cons_zero, List.set_cons_succ]
                    refine' wpAnyD_take (i := 42) (oi := { dst := some 157, op := Go.Op.load 3 (Go.Operand.tmp 11), type := 3, pos := "law.go:124", after := #[{ on := 36, ground := Go.Ground.guard }], guard := some (36, false) }) (v := _) rfl (by kernel_rfl) (by kernel_rfl) (by kernel_rfl) (fun _ _ _ h => h) (by kernel_rfl) (Or.inl ⟨by rfl, ?hy176⟩) rfl ?rest176
                    case hy176 => (intro W hSw; subst hSw; go_simp; try (with_reducible rfl))
                    try simp only [Act.put, List.setIfInBounds_toArray, List.set_cons_zero, List.set_cons_succ]
                    refine' wpAnyD_take (i := 43) (oi := { dst := some 158, op := Go.Op.binOp Go.BinOp.geq 3 (Go.Operand.tmp 156) (Go.Operand.tmp 157) 3, type := 4, pos := "law.go:124", after := #[{ on := 41, ground := Go.Ground.data }, { on := 42, ground := Go.Ground.data }, { on := 36, ground := Go.Ground.guard }], guard := some (36, false) }) (v := .bool false) rfl (by kernel_rfl) (by kernel_rfl) (by kernel_rfl) (fun _ _ _ h => h) (by kernel_rfl) (Or.inl ⟨by rfl, ?hy177⟩) rfl ?rest177
                    case hy177 => (intro W hSw; subst hSw; go_simp; first | done | (with_reducible rfl) | simp [hw1])
                    try simp only [Act.put, List.setIfInBounds_toArray, List.set_cons_zero, List.set_cons_succ]
                    refine' wpAnyD_take (i := 44) (oi := { dst := some 159, op := Go.Op.pick (Go.Operand.tmp 151) (Go.Operand.const (Go.Value.bool true)) (Go.Operand.tmp 158), type := 4, pos := "law.go:124", after := #[{ on := 36, ground := Go.Ground.data }, { on := 43, ground := Go.Ground.data }], guard := none }) (v := _) rfl (by kernel_rfl) (by kernel_rfl) (by kernel_rfl) (fun _ _ _ h => h) (by kernel_rfl) (Or.inl ⟨by rfl, ?hy178⟩) rfl ?rest178
                    case hy178 => (intro W hSw; subst hSw; go_simp; try (with_reducible rfl))
                    try simp only [Act.put, List.setIfInBounds_toArray, List.set_cons_zero, List.set_cons_succ]
                    refine wpAnyD_done (by kernel_rfl) ?_ _
                    generalize W2.drew = W3 at R4 ⊢
                    clear hto x0 zb c9a c11 l9 l11 cl cn co ll ln lo cd4 lD
                    have cn : W3.cell? ⟨nb, 0, none⟩ = some (.int .i64 (pl : Nat)) := (tk_store R4.out.1.nbx).1 0
                    have fn := (tk_store R4.out.1.nbx).2
                    have ln := tk_lt R4.out.1.nbx
                    have hp48 : (pl : Int) < 1000 := by
                      have h1 := HLN.out
                      have h2 := edN_len (GW.out W3 R4.out.1.lk.bl) k
                      omega
                    gi_wp2
                    obtain ⟨r5, k5⟩ := R4.out.1.setn ((pl : Int) + 1)
                    have hpe : ((pre ++ [y]).length : Int) = (pl : Int) + 1 := by have := HPL.out; simp; omega
                    refine ⟨(keeps_belowR R4.out.2).trans (keeps_kpR R4.out.1.nbx k5), (R4.out.2.mono HVW.out).trans (k5.below R4.out.1.lk.bl.size (fun j e => by rw [e]; exact R4.out.1.nlo)), ?_⟩
                    show Rk V Ds _ ob (i : Nat) lb nb wr.heap.size (.slice (some ⟨bo, 0, none⟩) n' c) os ((pre ++ [y]).length : Nat)
                    rw [hpe]
                    exact r5
                  · skip
                    refine wp_regionR (S := fun X => X = W2.drew) (D := []) hmx (by kernel_rfl) (fun h => by obtain ⟨_, _, h⟩ := h; exact h) ?_
                    refine' wpAnyD_take (i := 0) (oi := { dst := some 115, op := Go.Op.fieldAddr 47 (Go.Operand.tmp 19) 4, type := 0, pos := "law.go:124", after := #[], guard := none }) (v := _) rfl (by kernel_rfl) (by kernel_rfl) (by kernel_rfl) (fun _ _ _ h => h) (by kernel_rfl) (Or.inl ⟨by rfl, ?hy179⟩) rfl ?rest179
                    case hy179 => (intro W hSw; subst hSw; go_simp; try (with_reducible rfl))
                    try simp only [Act.put, List.setIfInBounds_toArray, List.set_cons_zero, List.set_cons_succ]
                    refine' wpAnyD_take (i := 1) (oi := { dst := some 116, op := Go.Op.load 4 (Go.Operand.tmp 115), type := 4, pos := "law.go:124", after := #[{ on := 0, ground := Go.Ground.data }], guard := none }) (v := _) rfl (by kernel_rfl) (by kernel_rfl) (by kernel_rfl) (fun _ _ _ h => h) (by kernel_rfl) (Or.inl ⟨by rfl, ?hy180⟩) rfl ?rest180
                    case hy180 => (intro W hSw; subst hSw; go_simp; try (with_reducible rfl))
                    try simp only [Act.put, List.setIfInBounds_toArray, List.set_cons_zero, List.set_cons_succ]
                    refine' wpAnyD_take (i := 2) (oi := { dst := some 117, op := Go.Op.move (Go.Operand.tmp 116), type := 4, pos := "law.go:124", after := #[{ on := 1, ground := Go.Ground.data }], guard := none }) (v := _) rfl (by kernel_rfl) (by kernel_rfl) (by kernel_rfl) (fun _ _ _ h => h) (by kernel_rfl) (Or.inl ⟨by rfl, ?hy181⟩) rfl ?rest181
                    case hy181 => (intro W hSw; subst hSw; go_simp; try (with_reducible rfl))
                    try simp only [Act.put, List.setIfInBounds_toArray, List.set_cons_zero, List.set_cons_succ]
                    refine' wpAnyD_take (i := 3) (oi := { dst := some 118, op := Go.Op.load 40 (Go.Operand.tmp 16), type := 40, pos := "law.go:124", after := #[{ on := 2, ground := Go.Ground.guard }], guard := some (2, true) }) (v := undef) rfl (by kernel_rfl) (by kernel_rfl) (by kernel_rfl) (fun _ _ _ h => h) (by kernel_rfl) (Or.inr ⟨by rfl, rfl⟩) rfl ?rest182
                    try simp only [Act.put, List.setIfInBounds_toArray, List.set_cons_zero, List.set_cons_succ]
                    refine' wpAnyD_take (i := 4) (oi := { dst := some 119, op := Go.Op.load 3 (Go.Operand.tmp 17), type := 3, pos := "law.go:124", after := #[{ on := 2, ground := Go.Ground.guard }], guard := some (2, true) }) (v := undef) rfl (by kernel_rfl) (by kernel_rfl) (by kernel_rfl) (fun _ _ _ h => h) (by kernel_rfl) (Or.inr ⟨by rfl, rfl⟩) rfl ?rest183
                    try simp only [Act.put, List.setIfInBounds_toArray, List.set_cons_zero, List.set_cons_succ]
                    refine' wpAnyD_take (i := 5) (oi := { dst := some 120, op := Go.Op.indexAddr 40 (Go.Operand.tmp 118) (Go.Operand.tmp 119), type := 0, pos := "law.go:124", after := #[{ on := 3, ground := Go.Ground.data }, { on := 4, ground := Go.Ground.data }, { on := 2, ground := Go.Ground.guard }], guard := some (2, true) }) (v := undef) rfl (by kernel_rfl) (by kernel_rfl) (by kernel_rfl) (fun _ _ _ h => h) (by kernel_rfl) (Or.inr ⟨by rfl, rfl⟩) rfl ?rest184
                    try simp only [Act.put, List.setIfInBounds_toArray, List.set_cons_zero, List.set_cons_succ]
                    refine' wpAnyD_take (i := 6) (oi := { dst := some 121, op := Go.Op.fieldAddr 51 (Go.Operand.tmp 120) 0, type := 0, pos := "law.go:124", after := #[{ on := 5, ground := Go.Ground.data }, { on := 2, ground := Go.Ground.guard }], guard := some (2, true) }) (v := undef) rfl (by kernel_rfl) (by kernel_rfl) (by kernel_rfl) (fun _ _ _ h => h) (by kernel_rfl) (Or.inr ⟨by rfl, rfl⟩) rfl ?rest185
                    try simp only [Act.put, List.setIfInBounds_toArray, List.set_cons_zero, List.set_cons_succ]
                    refine' wpAnyD_take (i := 7) (oi := { dst := some 122, op := Go.Op.load 3 (Go.Operand.tmp 121), type := 3, pos := "law.go:124", after := #[{ on := 6, ground := Go.Ground.data }, { on := 2, ground := Go.Ground.guard }], guard := some (2, true) }) (v := undef) rfl (by kernel_rfl) (by kernel_rfl) (by kernel_rfl) (fun _ _ _ h => h) (by kernel_rfl) (Or.inr ⟨by rfl, rfl⟩) rfl ?rest186
                    try simp only [Act.put, List.setIfInBounds_toArray, List.set_cons_zero, List.set_cons_succ]
                    refine' wpAnyD_take (i := 8) (oi := { dst := some 123, op := Go.Op.fieldAddr 30 (Go.Operand.tmp 9) 0, type := 0, pos := "law.go:124", after := #[{ on := 2, ground := Go.Ground.guard }], guard := some (2, true) }) (v := undef) rfl (by kernel_rfl) (by kernel_rfl) (by kernel_rfl) (fun _ _ _ h => h) (by kernel_rfl) (Or.inr ⟨by rfl, rfl⟩) rfl ?rest187
                    try simp only [Act.put, List.setIfInBounds_toArray, List.set_cons_zero, List.set_cons_succ]
                    refine' wpAnyD_take (i := 9) (oi := { dst := some 124, op := Go.Op.load 26 (Go.Operand.tmp 123), type := 26, pos := "law.go:124", after := #[{ on := 8, ground := Go.Ground.data }, { on := 2, ground := Go.Ground.guard }], guard := some (2, true) }) (v := undef) rfl (by kernel_rfl) (by kernel_rfl) (by kernel_rfl) (fun _ _ _ h => h) (by kernel_rfl) (Or.inr ⟨by rfl, rfl⟩) rfl ?rest188
                    try simp only [Act.put, List.setIfInBounds_toArray, List.set_cons_zero, List.set_cons_succ]
                    refine' wpAnyD_take (i := 10) (oi := { dst := some 125, op := Go.Op.load 3 (Go.Operand.tmp 11), type := 3, pos := "law.go:124", after := #[{ on := 2, ground := Go.Ground.guard }], guard := some (2, true) }) (v := undef) rfl (by kernel_rfl) (by kernel_rfl) (by kernel_rfl) (fun _ _ _ h => h) (by kernel_rfl) (Or.inr ⟨by rfl, rfl⟩) rfl ?rest189
                    try simp only [Act.put, List.setIfInBounds_toArray, List.set_cons_zero, List.set_cons_succ]
                    refine' wpAnyD_take (i := 11) (oi := { dst := some 126, op := Go.Op.call { callee := Go.Callee.value (Go.Operand.func 13), args := #[Go.Operand.tmp 124, Go.Operand.tmp 125], argTypes := #[26, 3] }, type := 3, pos := "law.go:124", after := #[{ on := 9, ground := Go.Ground.data }, { on := 10, ground := Go.Ground.data }, { on := 2, ground := Go.Ground.chain }, { on := 2, ground := Go.Ground.guard }], guard := some (2, true) }) (v := undef) rfl (by kernel_rfl) (by kernel_rfl) (by kernel_rfl) (fun _ _ _ h => h) (by kernel_rfl) (Or.inr ⟨by rfl, rfl⟩) rfl ?rest190
                    try simp only [Act.put, List.setIfInBounds_toArray, List.set_cons_zero, List.set_cons_succ]
                    refine' wpAnyD_take (i := 12) (oi := { dst := some 127, op := Go.Op.binOp Go.BinOp.neq 3 (Go.Operand.tmp 122) (Go.Operand.tmp 126) 3, type := 4, pos := "law.go:124", after := #[{ on := 7, ground := Go.Ground.data }, { on := 11, ground := Go.Ground.data }, { on := 2, ground := Go.Ground.guard }], guard := some (2, true) }) (v := undef) rfl (by kernel_rfl) (by kernel_rfl) (by kernel_rfl) (fun _ _ _ h => h) (by kernel_rfl) (Or.inr ⟨by rfl, rfl⟩) rfl ?rest191
                    try simp only [Act.put, List.setIfInBounds_toArray, List.set_cons_zero, List.set_cons_succ]
                    refine' wpAnyD_take (i := 13) (oi := { dst := some 128, op := Go.Op.pick (Go.Operand.tmp 117) (Go.Operand.tmp 127) (Go.Operand.const (Go.Value.bool false)), type := 4, pos := "law.go:124", after := #[{ on := 2, ground := Go.Ground.data }, { on := 12, ground := Go.Ground.data }], guard := none }) (v := _) rfl (by kernel_rfl) (by kernel_rfl) (by kernel_rfl) (fun _ _ _ h => h) (by kernel_rfl) (Or.inl ⟨by rfl, ?hy192⟩) rfl ?rest192
                    case hy192 => (intro W hSw; subst hSw; go_simp; try (with_reducible rfl))
                    try simp only [Act.put, List.setIfInBounds_toArray, List.set_cons_zero, List.set_cons_succ]
                    refine' wpAnyD_take (i := 14) (oi := { dst := some 129, op := Go.Op.move (Go.Operand.tmp 128), type := 4, pos := "law.go:124", after := #[{ on := 13, ground := Go.Ground.data }, { on := 11, ground := Go.Ground.chain }], guard := none }) (v := _) rfl (by kernel_rfl) (by kernel_rfl) (by kernel_rfl) (fun _ _ _ h => h) (by kernel_rfl) (Or.inl ⟨by rfl, ?hy193⟩) rfl ?rest193
                    case hy193 => (intro W hSw; subst hSw; go_simp; try (with_reducible rfl))
                    try simp only [Act.put, List.setIfInBounds_toArray, List.set_cons_zero, List.set_cons_succ]
                    refine' wpAnyD_take (i := 15) (oi := { dst := some 130, op := Go.Op.fieldAddr 47 (Go.Operand.tmp 19) 4, type := 0, pos := "law.go:124", after := #[{ on := 14, ground := Go.Ground.guard }], guard := some (14, false) }) (v := _) rfl (by kernel_rfl) (by kernel_rfl) (by kernel_rfl) (fun _ _ _ h => h) (by kernel_rfl) (Or.inl ⟨by rfl, ?hy194⟩) rfl ?rest194
                    case hy194 => (intro W hSw; subst hSw; go_simp; try (with_reducible rfl))
                    try simp only [Act.put, List.setIfInBounds_toArray, List.set_cons_zero, List.set_cons_succ]
                    refine' wpAnyD_take (i := 16) (oi := { dst := some 131, op := Go.Op.load 4 (Go.Operand.tmp 130), type := 4, pos := "law.go:124", after := #[{ on := 15, ground := Go.Ground.data }, { on := 14, ground := Go.Ground.guard }], guard := some (14, false) }) (v := _) rfl (by kernel_rfl) (by kernel_rfl) (by kernel_rfl) (fun _ _ _ h => h) (by kernel_rfl) (Or.inl ⟨by rfl, ?hy195⟩) rfl ?rest195
                    case hy195 => (intro W hSw; subst hSw; go_simp; try (with_reducible rfl))
                    try simp only [Act.put, List.setIfInBounds_toArray, List.set_cons_zero, List.set_cons_succ]
                    refine' wpAnyD_take (i := 17) (oi := { dst := some 132, op := Go.Op.unOp Go.UnOp.not 4 (Go.Operand.tmp 131), type := 4, pos := "law.go:124", after := #[{ on := 16, ground := Go.Ground.data }, { on := 14, ground := Go.Ground.guard }], guard := some (14, false) }) (v := _) rfl (by kernel_rfl) (by kernel_rfl) (by kernel_rfl) (fun _ _ _ h => h) (by kernel_rfl) (Or.inl ⟨by rfl, ?hy196⟩) rfl ?rest196
                    case hy196 => (intro W hSw; subst hSw; go_simp; try (with_reducible rfl))
                    try simp only [Act.put, List.setIfInBounds_toArray, List.set_cons_zero, List.set_cons_succ]
                    refine' wpAnyD_take (i := 18) (oi := { dst := some 133, op := Go.Op.move (Go.Operand.tmp 132), type := 4, pos := "law.go:124", after := #[{ on := 17, ground := Go.Ground.data }, { on := 14, ground := Go.Ground.chain }, { on := 14, ground := Go.Ground.guard }], guard := some (14, false) }) (v := _) rfl (by kernel_rfl) (by kernel_rfl) (by kernel_rfl) (fun _ _ _ h => h) (by kernel_rfl) (Or.inl ⟨by rfl, ?hy197⟩) rfl ?rest197
                    case hy197 => (intro W hSw; subst hSw; go_simp; try (with_reducible rfl))
                    try simp only [Act.put, List.setIfInBounds_toArray, List.set_cons_zero, List.set_cons_succ]
                    refine' wpAnyD_take (i := 19) (oi := { dst := some 134, op := Go.Op.load 40 (Go.Operand.tmp 16), type := 40, pos := "law.go:124", after := #[{ on := 18, ground := Go.Ground.guard }], guard := some (18, true) }) (v := _) rfl (by kernel_rfl) (by kernel_rfl) (by kernel_rfl) (fun _ _ _ h => h) (by kernel_rfl) (Or.inl ⟨by rfl, ?hy198⟩) rfl ?rest198
                    case hy198 => (intro W hSw; subst hSw; go_simp; try (with_reducible rfl))
                    try simp only [Act.put, List.setIfInBounds_toArray, List.set_cons_zero, List.set_cons_succ]
                    refine' wpAnyD_take (i := 20) (oi := { dst := some 135, op := Go.Op.load 3 (Go.Operand.tmp 17), type := 3, pos := "law.go:124", after := #[{ on := 18, ground := Go.Ground.guard }], guard := some (18, true) }) (v := _) rfl (by kernel_rfl) (by kernel_rfl) (by kernel_rfl) (fun _ _ _ h => h) (by kernel_rfl) (Or.inl ⟨by rfl, ?hy199⟩) rfl ?rest199
                    case hy199 => (intro W hSw; subst hSw; go_simp; try (with_reducible rfl))
                    try simp only [Act.put, List.setIfInBounds_toArray, List.set_cons_zero, List.set_cons_succ]
                    refine' wpAnyD_take (i := 21) (oi := { dst := some 136, op := Go.Op.indexAddr 40 (Go.Operand.tmp 134) (Go.Operand.tmp 135), type := 0, pos := "law.go:124", after := #[{ on := 19, ground := Go.Ground.data }, { on := 20, ground := Go.Ground.data }, { on := 18, ground := Go.Ground.guard }], guard := some (18, true) }) (v := _) rfl (by kernel_rfl) (by kernel_rfl) (by kernel_rfl) (fun _ _ _ h => h) (by kernel_rfl) (Or.inl ⟨by rfl, ?hy200⟩) rfl ?rest200
                    case hy200 => (intro W hSw; subst hSw; go_simp; try (with_reducible rfl))
                    try simp only [Act.put, List.setIfInBounds_toArray, List.set_cons_zero, List.set_cons_succ]
                    refine' wpAnyD_take (i := 22) (oi := { dst := some 137, op := Go.Op.fieldAddr 51 (Go.Operand.tmp 136) 0, type := 0, pos := "law.go:124", after := #[{ on := 21, ground := Go.Ground.data }, { on := 18, ground := Go.Ground.guard }], guard := some (18, true) }) (v := _) rfl (by kernel_rfl) (by kernel_rfl) (by kernel_rfl) (fun _ _ _ h => h) (by kernel_rfl) (Or.inl ⟨by rfl, ?hy201⟩) rfl ?rest201
                    case hy201 => (intro W hSw; subst hSw; go_simp; try (with_reducible rfl))
                    try simp only [Act.put, List.setIfInBounds_toArray, List.set_cons_zero, List.set_cons_succ]
                    refine' wpAnyD_take (i := 23) (oi := { dst := some 138, op := Go.Op.load 3 (Go.Operand.tmp 137), type := 3, pos := "law.go:124", after := #[{ on := 22, ground := Go.Ground.data }, { on := 18, ground := Go.Ground.guard }], guard := some (18, true) }) (v := _) rfl (by kernel_rfl) (by kernel_rfl) (by kernel_rfl) (fun _ _ _ h => h) (by kernel_rfl) (Or.inl ⟨by rfl, ?hy202⟩) rfl ?rest202
                    case hy202 => (intro W hSw; subst hSw; go_simp; try (with_reducible rfl))
                    try simp only [Act.put, List.setIfInBounds_toArray, List.set_cons_zero, List.set_cons_succ]
                    refine' wpAnyD_take (i := 24) (oi := { dst := some 139, op := Go.Op.load 3 (Go.Operand.tmp 15), type := 3, pos := "law.go:124", after := #[{ on := 18, ground := Go.Ground.guard }], guard := some (18, true) }) (v := _) rfl (by kernel_rfl) (by kernel_rfl) (by kernel_rfl) (fun _ _ _ h => h) (by kernel_rfl) (Or.inl ⟨by rfl, ?hy203⟩) rfl ?rest203
                    case hy203 => (intro W hSw; subst hSw; go_simp; try (with_reducible rfl))
                    try simp only [Act.put, List.setIfInBounds_toArray, List.set_cons_zero, List.set_cons_succ]
                    refine' wpAnyD_take (i := 25) (oi := { dst := some 140, op := Go.Op.binOp Go.BinOp.neq 3 (Go.Operand.tmp 138) (Go.Operand.tmp 139) 3, type := 4, pos := "law.go:124", after := #[{ on := 23, ground := Go.Ground.data }, { on := 24, ground := Go.Ground.data }, { on := 18, ground := Go.Ground.guard }], guard := some (18, true) }) (v := .bool true) rfl (by kernel_rfl) (by kernel_rfl) (by kernel_rfl) (fun _ _ _ h => h) (by kernel_rfl) (Or.inl ⟨by rfl, ?hy204⟩) rfl ?rest204
                    case hy204 => (intro W hSw; subst hSw; go_simp; first | done | (with_reducible rfl) | simp [hkw])
                    try simp only [Act.put, List.setIfInBounds_toArray, List.set_cons_zero, List.set_cons_succ]
                    refine' wpAnyD_take (i := 26) (oi := { dst := some 141, op := Go.Op.pick (Go.Operand.tmp 133) (Go.Operand.tmp 140) (Go.Operand.const (Go.Value.bool false)), type := 4, pos := "law.go:124", after := #[{ on := 18, ground := Go.Ground.data }, { on := 25, ground := Go.Ground.data }, { on := 14, ground := Go.Ground.guard }], guard := some (14, false) }) (v := _) rfl (by kernel_rfl) (by kernel_rfl) (by kernel_rfl) (fun _ _ _ h => h) (by kernel_rfl) (Or.inl ⟨by rfl, ?hy205⟩) rfl ?rest205
                    case hy205 => (intro W hSw; subst hSw; go_simp; try (with_reducible rfl))
                    try simp only [Act.put, List.setIfInBounds_toArray, List.set_cons_zero, List.set_cons_succ]
                    refine' wpAnyD_take (i := 27) (oi := { dst := some 142, op := Go.Op.pick (Go.Operand.tmp 129) (Go.Operand.const (Go.Value.bool true)) (Go.Operand.tmp 141), type := 4, pos := "law.go:124", after := #[{ on := 14, ground := Go.Ground.data }, { on := 26, ground := Go.Ground.data }], guard := none }) (v := _) rfl (by kernel_rfl) (by kernel_rfl) (by kernel_rfl) (fun _ _ _ h => h) (by kernel_rfl) (Or.inl ⟨by rfl, ?hy206⟩) rfl ?rest206
                    case hy206 => (intro W hSw; subst hSw; go_simp; try (with_reducible rfl))
                    try simp only [Act.put, List.setIfInBounds_toArray, List.set_cons_zero, List.set_cons_succ]
                    refine' wpAnyD_take (i := 28) (oi := { dst := some 143, op := Go.Op.move (Go.Operand.tmp 142), type := 4, pos := "law.go:124", after := #[{ on := 27, ground := Go.Ground.data }, { on := 18, ground := Go.Ground.chain }], guard := none }) (v := _) rfl (by kernel_rfl) (by kernel_rfl) (by kernel_rfl) (fun _ _ _ h => h) (by kernel_rfl) (Or.inl ⟨by rfl, ?hy207⟩) rfl ?rest207
                    case hy207 => (intro W hSw; subst hSw; go_simp; try (with_reducible rfl))
                    try simp only [Act.put, List.setIfInBounds_toArray, List.set_cons_zero, List.set_cons_succ]
                    refine' wpAnyD_take (i := 29) (oi := { dst := some 144, op := Go.Op.load 40 (Go.Operand.tmp 16), type := 40, pos := "law.go:124", after := #[{ on := 28, ground := Go.Ground.guard }], guard := some (28, false) }) (v := undef) rfl (by kernel_rfl) (by kernel_rfl) (by kernel_rfl) (fun _ _ _ h => h) (by kernel_rfl) (Or.inr ⟨by rfl, rfl⟩) rfl ?rest208
                    try simp only [Act.put, List.setIfInBounds_toArray, List.set_cons_zero, List.set_cons_succ]
                    refine' wpAnyD_take (i := 30) (oi := { dst := some 145, op := Go.Op.load 3 (Go.Operand.tmp 17), type := 3, pos := "law.go:124", after := #[{ on := 28, ground := Go.Ground.guard }], guard := some (28, false) }) (v := undef) rfl (by kernel_rfl) (by kernel_rfl) (by kernel_rfl) (fun _ _ _ h => h) (by kernel_rfl) (Or.inr ⟨by rfl, rfl⟩) rfl ?rest209
                    try simp only [Act.put, List.setIfInBounds_toArray, List.set_cons_zero, List.set_cons_succ]
                    refine' wpAnyD_take (i := 31) (oi := { dst := some 146, op := Go.Op.indexAddr 40 (Go.Operand.tmp 144) (Go.Operand.tmp 145), type := 0, pos := "law.go:124", after := #[{ on := 29, ground := Go.Ground.data }, { on := 30, ground := Go.Ground.data }, { on := 28, ground := Go.Ground.guard }], guard := some (28, false) }) (v := undef) rfl (by kernel_rfl) (by kernel_rfl) (by kernel_rfl) (fun _ _ _ h => h) (by kernel_rfl) (Or.inr ⟨by rfl, rfl⟩) rfl ?rest210
                    try simp only [Act.put, List.setIfInBounds_toArray, List.set_cons_zero, List.set_cons_succ]
                    refine' wpAnyD_take (i := 32) (oi := { dst := some 147, op := Go.Op.fieldAddr 51 (Go.Operand.tmp 146) 0, type := 0, pos := "law.go:124", after := #[{ on := 31, ground := Go.Ground.data }, { on := 28, ground := Go.Ground.guard }], guard := some (28, false) }) (v := undef) rfl (by kernel_rfl) (by kernel_rfl) (by kernel_rfl) (fun _ _ _ h => h) (by kernel_rfl) (Or.inr ⟨by rfl, rfl⟩) rfl ?rest211
                    try simp only [Act.put, List.setIfInBounds_toArray, List.set_cons_zero, List.set_cons_succ]
                    refine' wpAnyD_take (i := 33) (oi := { dst := some 148, op := Go.Op.load 3 (Go.Operand.tmp 147), type := 3, pos := "law.go:124", after := #[{ on := 32, ground := Go.Ground.data }, { on := 28, ground := Go.Ground.guard }], guard := some (28, false) }) (v := undef) rfl (by kernel_rfl) (by kernel_rfl) (by kernel_rfl) (fun _ _ _ h => h) (by kernel_rfl) (Or.inr ⟨by rfl, rfl⟩) rfl ?rest212
                    try simp only [Act.put, List.setIfInBounds_toArray, List.set_cons_zero, List.set_cons_succ]
                    refine' wpAnyD_take (i := 34) (oi := { dst := some 149, op := Go.Op.binOp Go.BinOp.lss 3 (Go.Operand.tmp 148) (Go.Operand.const (Go.Value.int Go.IntKind.i64 0)) 3, type := 4, pos := "law.go:124", after := #[{ on := 33, ground := Go.Ground.data }, { on := 28, ground := Go.Ground.guard }], guard := some (28, false) }) (v := undef) rfl (by kernel_rfl) (by kernel_rfl) (by kernel_rfl) (fun _ _ _ h => h) (by kernel_rfl) (Or.inr ⟨by rfl, rfl⟩) rfl ?rest213
                    try simp only [Act.put, List.setIfInBounds_toArray, List.set_cons_zero, List.set_cons_succ]
                    refine' wpAnyD_take (i := 35) (oi := { dst := some 150, op := Go.Op.pick (Go.Operand.tmp 143) (Go.Operand.const (Go.Value.bool true)) (Go.Operand.tmp 149), type := 4, pos := "law.go:124", after := #[{ on := 28, ground := Go.Ground.data }, { on := 34, ground := Go.Ground.data }], guard := none }) (v := _) rfl (by kernel_rfl) (by kernel_rfl) (by kernel_rfl) (fun _ _ _ h => h) (by kernel_rfl) (Or.inl ⟨by rfl, ?hy214⟩) rfl ?rest214
                    case hy214 => (intro W hSw; subst hSw; go_simp; try (with_reducible rfl))
                    try simp only [Act.put, List.setIfInBounds_toArray, List.set_cons_zero, List.set_cons_succ]
                    refine' wpAnyD_take (i := 36) (oi := { dst := some 151, op := Go.Op.move (Go.Operand.tmp 150), type := 4, pos := "law.go:124", after := #[{ on := 35, ground := Go.Ground.data }, { on := 28, ground := Go.Ground.chain }], guard := none }) (v := _) rfl (by kernel_rfl) (by kernel_rfl) (by kernel_rfl) (fun _ _ _ h => h) (by kernel_rfl) (Or.inl ⟨by rfl, ?hy215⟩) rfl ?rest215
                    case hy215 => (intro W hSw; subst hSw; go_simp; try (with_reducible rfl))
                    try simp only [Act.put, List.setIfInBounds_toArray, List.set_cons_zero, List.set_cons_succ]
                    refine' wpAnyD_take (i := 37) (oi := { dst := some 152, op := Go.Op.load 40 (Go.Operand.tmp 16), type := 40, pos := "law.go:124", after := #[{ on := 36, ground := Go.Ground.guard }], guard := some (36, false) }) (v := undef) rfl (by kernel_rfl) (by kernel_rfl) (by kernel_rfl) (fun _ _ _ h => h) (by kernel_rfl) (Or.inr ⟨by rfl, rfl⟩) rfl ?rest216
                    try simp only [Act.put, List.setIfInBounds_toArray, List.set_cons_zero, List.set_cons_succ]
                    refine' wpAnyD_take (i := 38) (oi := { dst := some 153, op := Go.Op.load 3 (Go.Operand.tmp 17), type := 3, pos := "law.go:124", after := #[{ on := 36, ground := Go.Ground.guard }], guard := some (36, false) }) (v := undef) rfl (by kernel_rfl) (by kernel_rfl) (by kernel_rfl) (fun _ _ _ h => h) (by kernel_rfl) (Or.inr ⟨by rfl, rfl⟩) rfl ?rest217
                    try simp only [Act.put, List.setIfInBounds_toArray, List.set_cons_zero, List.set_cons_succ]
                    refine' wpAnyD_take (i := 39) (oi := { dst := some 154, op := Go.Op.indexAddr 40 (Go.Operand.tmp 152) (Go.Operand.tmp 153), type := 0, pos := "law.go:124", after := #[{ on := 37, ground := Go.Ground.data }, { on := 38, ground := Go.Ground.data }, { on := 36, ground := Go.Ground.guard }], guard := some (36, false) }) (v := undef) rfl (by kernel_rfl) (by kernel_rfl) (by kernel_rfl) (fun _ _ _ h => h) (by kernel_rfl) (Or.inr ⟨by rfl, rfl⟩) rfl ?rest218
                    try simp only [Act.put, List.setIfInBounds_toArray, List.set_cons_zero, List.set_cons_succ]
                    refine' wpAnyD_take (i := 40) (oi := { dst := some 155, op := Go.Op.fieldAddr 51 (Go.Operand.tmp 154) 0, type := 0, pos := "law.go:124", after := #[{ on := 39, ground := Go.Ground.data }, { on := 36, ground := Go.Ground.guard }], guard := some (36, false) }) (v := undef) rfl (by kernel_rfl) (by kernel_rfl) (by kernel_rfl) (fun _ _ _ h => h) (by kernel_rfl) (Or.inr ⟨by rfl, rfl⟩) rfl ?rest219
                    try simp only [Act.put, List.setIfInBounds_toArray, List.set_cons_zero, List.set_cons_succ]
                    refine' wpAnyD_take (i := 41) (oi := { dst := some 156, op := Go.Op.load 3 (Go.Operand.tmp 155), type := 3, pos := "law.go:124", after := #[{ on := 40, ground := Go.Ground.data }, { on := 36, ground := Go.Ground.guard }], guard := some (36, false) }) (v := undef) rfl (by kernel_rfl) (by kernel_rfl) (by kernel_rfl) (fun _ _ _ h => h) (by kernel_rfl) (Or.inr ⟨by rfl, rfl⟩) rfl ?rest220
                    try simp only [Act.put, List.setIfInBounds_toArray, List.set_cons_zero, List.set_cons_succ]
                    refine' wpAnyD_take (i := 42) (oi := { dst := some 157, op := Go.Op.load 3 (Go.Operand.tmp 11), type := 3, pos := "law.go:124", after := #[{ on := 36, ground := Go.Ground.guard }], guard := some (36, false) }) (v := undef) rfl (by kernel_rfl) (by kernel_rfl) (by kernel_rfl) (fun _ _ _ h => h) (by kernel_rfl) (Or.inr ⟨by rfl, rfl⟩) rfl ?rest221
                    try simp only [Act.put, List.setIfInBounds_toArray, List.set_cons_zero, List.set_cons_succ]
                    refine' wpAnyD_take (i := 43) (oi := { dst := some 158, op := Go.Op.binOp Go.BinOp.geq 3 (Go.Operand.tmp 156) (Go.Operand.tmp 157) 3, type := 4, pos := "law.go:124", after := #[{ on := 41, ground := Go.Ground.data }, { on := 42, ground := Go.Ground.data }, { on := 36, ground := Go.Ground.guard }], guard := some (36, false) }) (v := undef) rfl (by kernel_rfl) (by kernel_rfl) (by kernel_rfl) (fun _ _ _ h => h) (by kernel_rfl) (Or.inr ⟨by rfl, rfl⟩) rfl ?rest222
                    try simp only [Act.put, List.setIfInBounds_toArray, List.set_cons_zero, List.set_cons_succ]
                    refine' wpAnyD_take (i := 44) (oi := { dst := some 159, op := Go.Op.pick (Go.Operand.tmp 151) (Go.Operand.const (Go.Value.bool true)) (Go.Operand.tmp 158), type := 4, pos := "law.go:124", after := #[{ on := 36, ground := Go.Ground.data }, { on := 43, ground := Go.Ground.data }], guard := none }) (v := _) rfl (by kernel_rfl) (by kernel_rfl) (by kernel_rfl) (fun _ _ _ h => h) (by kernel_rfl) (Or.inl ⟨by rfl, ?hy223⟩) rfl ?rest223
                    case hy223 => (intro W hSw; subst hSw; go_simp; try (with_reducible rfl))
                    try simp only [Act.put, List.setIfInBounds_toArray, List.set_cons_zero, List.set_cons_succ]
                    refine wpAnyD_done (by kernel_rfl) ?_ _
                    generalize W2.drew = W3 at R4 ⊢
                    clear hto x0 zb c9a c11 l9 l11 cl cn co ll ln lo cd4 lD
                    have KR := hid (KW.out W3 R4.out.1.lk.bl)
                    have ck := (tk_store KR.out.r).1
                    have fk := (tk_store KR.out.r).2
                    have lk := tk_lt KR.out.r
                    gi_wp2
                    obtain ⟨s1, s2⟩ := tk_set KR.out.r 0 (.bool false)
                    refine ⟨(keeps_belowR R4.out.2).trans (keeps_kpR KR.out.r s2), fun hp => ?_⟩
                    have h1 := (HPX.out hp).2
                    rw [← HKD.out] at h1
                    exact hkw h1
        · have hnlt : ¬ (i : Int) < m := hlt
          have ck := (tk_store KR.out.r).1
          have fk := (tk_store KR.out.r).2
          have lk := tk_lt KR.out.r
          clear c9a c9b c10a c10b c10c l9 l10 c5 c8 l5 l8
          go_wp2_with fail
          obtain ⟨s1, s2⟩ := tk_set KR.out.r 0 (.bool true)
          refine leaves_marks (B := V.heap.size) Ds _ (HL.out.dok.sb KR.out.r s2) (fun w9 b9 hc9 => ?_)
          have s9 := hc9 _ _ _ s1
          have c3 : w9.cell? ⟨kx, 0, none⟩ = some (.bool true) := (tk_store s9).1 0
          refine ⟨.bool true, by simp [results, Try.results3, go_sem, c3], rfl, ?_⟩
          have h1 := K0.out.2.2.trans (HL.out.bl.mono K0.out.2.2.size)
          have h2 := h1.trans (s2.below h1.size (fun k e => by rw [e]; exact HLO.out))
          exact h2.trans (b9.mono K0.out.2.2.size)
end Go.Proofs.Ytifjjnnpoleinaa.Df
