import Derived.Test.YtifjjnnpoleinaaRtTy
import Derived.Test.YtifjjnnpoleinaaLRound
namespace Go.Proofs.Ytifjjnnpoleinaa.Df
open Go.RowKit Go.Sort Go.Shelf
attribute [local go_sem ↓] Go.wp_at_zero Go.wp_at_succ
attribute [local go_sem] Oper.semAt_some

theorem sends_none {g : Gph} {k : Int} {x : Rx} {own m : Int} (h : ¬ ((1 ≤ m ∧ m ≤ 8) ∧ 0 ≤ own ∧ own < m ∧ (ofN g.nodes k).2.2 = false)) : sends g k x own m = [] := by unfold sends; rw [if_neg h]
theorem fold_oneR (T : Array Value) (p : Tmp) (v : Value) : ((#[p] : Array Tmp).zip #[v]).foldl (fun t (p, v) => t.setIfInBounds p v) T = T.setIfInBounds p v := by simp
theorem fld2R (a b c : Value) (w : World) : Sem.run Try.prog (Instr.field 25 (.agg #[a, b, c]) 2) w = .ok c w := by kernel_rfl
theorem mkO_at {g : Gph} {x : Rx} {own m : Int} {e : Nat} {d : Edg} (h : g.edges[e]? = some d) : mkO g x own m (e : Nat) = ⟨alg d.keyed x.key own m, inN g.nodes d.dst d.inn, x⟩ := by
  unfold mkO
  rw [Int.toNat_natCast, h]
theorem boxed_cells {W : World} {b : Nat} {t : TypeId} {v : Value} (h : Boxed W b t v) : W.heap[b]? = some (.cells #[v] t (0, 0)) := h
attribute [local go_sem] fld2R
theorem keeps_kpS {B : Nat} {S : Nat → Prop} {W W' : World} (hS : ∀ j, S j → ∃ cs T z, W.heap[j]? = some (.cells cs T z)) (k : Kp S W W') : KeepsFrom B W W' :=
  ⟨k.size, fun j o _ hj ho => (k.block j (tk_lt hj) (fun e => by obtain ⟨cs, T, z, h⟩ := hS j e; rw [h] at hj; cases hj; cases ho)).trans hj⟩
set_option maxRecDepth 100000 in
set_option maxHeartbeats 4000000 in
theorem send_any {B gb : Nat} {g : Gph} (k own m : Int) (x : Rx) (hk : x.key < 18446744073709551616) (w : World) (hm : Gm B w gb g) : Calls Try.prog 9 #[.pointer (some ⟨gb, 0, none⟩), .int .i64 k, .agg #[.int .u64 x.a, .int .u64 x.b, .int .u64 x.c], .agg #[.int .u64 (x.key : Nat), .int .u64 x.val], .int .i64 own, .int .i64 m] w fun r w' => ∃ v, r = .returned v ∧ Hid (w'.ownsRow w.heap.size 51 7 v (sends g k x own m).length (fl EOt (sends g k x own m)) ∧ Below w.heap.size w w') := by
  have hmx : Try.prog.follows .mixedOrders = true := by kernel_rfl
  obtain ⟨w0, hw0⟩ : ∃ W, W = ((((w.alloc (.cells #[.pointer (some ⟨gb, 0, none⟩)] 34)).alloc (.cells #[.int .u64 x.a, .int .u64 x.b, .int .u64 x.c] 28)).alloc (.cells #[.int .u64 (x.key : Nat), .int .u64 x.val] 30)).alloc (.cells #[.int .i64 own] 3)).alloc (.cells #[.int .i64 m] 3) := ⟨_, rfl⟩
  have B0 : Hid (w0.heap[w.heap.size]? = some (.cells #[.pointer (some ⟨gb, 0, none⟩)] 34 (0, 0)) ∧ w0.heap[w.heap.size + 1]? = some (.cells #[.int .u64 x.a, .int .u64 x.b, .int .u64 x.c] 28 (0, 0)) ∧ w0.heap[w.heap.size + 1 + 1]? = some (.cells #[.int .u64 (x.key : Nat), .int .u64 x.val] 30 (0, 0)) ∧ w0.heap[w.heap.size + 1 + 1 + 1]? = some (.cells #[.int .i64 own] 3 (0, 0)) ∧ w0.heap[w.heap.size + 1 + 1 + 1 + 1]? = some (.cells #[.int .i64 m] 3 (0, 0)) ∧ Below w.heap.size w w0 ∧ w0.heap.size = w.heap.size + 5) := by
    have b1 := heap_new' w (.cells #[.pointer (some ⟨gb, 0, none⟩)] 34)
    have b2 := heap_new' (w.alloc (.cells #[.pointer (some ⟨gb, 0, none⟩)] 34)) (.cells #[.int .u64 x.a, .int .u64 x.b, .int .u64 x.c] 28)
    have b3 := heap_new' ((w.alloc (.cells #[.pointer (some ⟨gb, 0, none⟩)] 34)).alloc (.cells #[.int .u64 x.a, .int .u64 x.b, .int .u64 x.c] 28)) (.cells #[.int .u64 (x.key : Nat), .int .u64 x.val] 30)
    have b4 := heap_new' (((w.alloc (.cells #[.pointer (some ⟨gb, 0, none⟩)] 34)).alloc (.cells #[.int .u64 x.a, .int .u64 x.b, .int .u64 x.c] 28)).alloc (.cells #[.int .u64 (x.key : Nat), .int .u64 x.val] 30)) (.cells #[.int .i64 own] 3)
    have b5 := heap_new' ((((w.alloc (.cells #[.pointer (some ⟨gb, 0, none⟩)] 34)).alloc (.cells #[.int .u64 x.a, .int .u64 x.b, .int .u64 x.c] 28)).alloc (.cells #[.int .u64 (x.key : Nat), .int .u64 x.val] 30)).alloc (.cells #[.int .i64 own] 3)) (.cells #[.int .i64 m] 3)
    rw [World.size_alloc] at b2
    rw [World.size_alloc, World.size_alloc] at b3
    rw [World.size_alloc, World.size_alloc, World.size_alloc] at b4
    rw [World.size_alloc, World.size_alloc, World.size_alloc, World.size_alloc] at b5
    have up := fun (W : World) (o : Obj) (b : Nat) (z : Obj) (h : W.heap[b]? = some z) => (((Gr.refl W).alloc o).below.block b (tk_lt h)).trans h
    rw [hw0]
    exact ⟨up _ _ _ _ (up _ _ _ _ (up _ _ _ _ (up _ _ _ _ b1))), up _ _ _ _ (up _ _ _ _ (up _ _ _ _ b2)), up _ _ _ _ (up _ _ _ _ b3), up _ _ _ _ b4, b5, (((((Gr.refl w).alloc _).alloc _).alloc _).alloc _).alloc _ |>.below, by simp⟩
  have HW0 : Hid (((((w.alloc (.cells #[.pointer (some ⟨gb, 0, none⟩)] 34)).alloc (.cells #[.int .u64 x.a, .int .u64 x.b, .int .u64 x.c] 28)).alloc (.cells #[.int .u64 (x.key : Nat), .int .u64 x.val] 30)).alloc (.cells #[.int .i64 own] 3)).alloc (.cells #[.int .i64 m] 3) = w0) := hw0.symm
  have HM := hid (hm.below B0.out.2.2.2.2.2.1)
  have hcb := canbe_any m w0
  have hin := isin_any k w0 HM.out
  have HK := hid hk
  clear hw0 hm hk
  have c0 := (tk_store B0.out.1).1
  have c1 := (tk_store B0.out.2.2.2.1).1
  have c2 := (tk_store B0.out.2.2.2.2.1).1
  have l0 := tk_lt B0.out.1
  have l1 := tk_lt B0.out.2.2.2.1
  have l2 := tk_lt B0.out.2.2.2.2.1
  refine (callsIn_wide (n := 4)).1 ?_
  refine callsIn_of_wp_marks Try.func9 rfl trivial ?_ rfl
  refine wpIn_wide.2 ?_
  simp only [Try.ntmps9, List.size_toArray, List.length_cons, List.length_nil, Nat.reduceAdd, Nat.reduceSub, Array.replicate_succ, Array.replicate_zero, List.push_toArray, List.append_toArray, List.nil_append, List.cons_append]
  go_upto_region 1 with fail
  rw [HW0.out]
  clear HW0
  by_cases h1 : 1 ≤ m ∧ m ≤ 8
  · rw [decide_eq_true h1] at hcb
    by_cases h2 : own < 0
    · clear hin
      go_wp2_with fail
      refine hcb.mono ?_
      rintro r w0 ⟨rfl, rfl⟩
      go_wp2_with fail
      refine ⟨.slice none 0 0, by simp [results, Try.results9, go_sem], _, rfl, ?_⟩
      rw [sends_none (fun h => by omega)]
      exact ⟨World.ownsRow_nil _ _ _ _, B0.out.2.2.2.2.2.1⟩
    · by_cases h3 : m ≤ own
      · clear hin
        go_wp2_with fail
        refine hcb.mono ?_
        rintro r w0 ⟨rfl, rfl⟩
        go_wp2_with fail
        refine ⟨.slice none 0 0, by simp [results, Try.results9, go_sem], _, rfl, ?_⟩
        rw [sends_none (fun h => by omega)]
        exact ⟨World.ownsRow_nil _ _ _ _, B0.out.2.2.2.2.2.1⟩
      · obtain ⟨z, hz⟩ : ∃ z, z = (ofN g.nodes k).2.2 := ⟨_, rfl⟩
        rw [← hz] at hin
        have HZ := hid hz
        clear hz
        cases z with
        | true =>
          go_wp2_with fail
          refine hcb.mono ?_
          rintro r w0 ⟨rfl, rfl⟩
          clear hcb
          go_wp2_with fail
          refine hin.mono ?_
          rintro r w1 ⟨rfl, g1⟩
          clear hin
          go_wp2_with fail
          refine ⟨.slice none 0 0, by simp [results, Try.results9, go_sem], _, rfl, ?_⟩
          rw [sends_none (fun h => by rw [← HZ.out] at h; exact absurd h.2.2.2 (by decide))]
          exact ⟨World.ownsRow_nil _ _ _ _, B0.out.2.2.2.2.2.1.trans (g1.below.mono B0.out.2.2.2.2.2.1.size)⟩
        | false =>
          go_wp2_with fail
          refine hcb.mono ?_
          rintro r w0 ⟨rfl, rfl⟩
          clear hcb
          go_wp2_with fail
          refine hin.mono ?_
          rintro r w1 ⟨rfl, g1⟩
          have hraw := graw_any w1 (HM.out.below g1.below)
          have B1 : Hid (w1.heap[w.heap.size]? = some (.cells #[.pointer (some ⟨gb, 0, none⟩)] 34 (0, 0)) ∧ w1.heap[w.heap.size + 1]? = some (.cells #[.int .u64 x.a, .int .u64 x.b, .int .u64 x.c] 28 (0, 0)) ∧ w1.heap[w.heap.size + 1 + 1]? = some (.cells #[.int .u64 (x.key : Nat), .int .u64 x.val] 30 (0, 0)) ∧ w1.heap[w.heap.size + 1 + 1 + 1]? = some (.cells #[.int .i64 own] 3 (0, 0)) ∧ w1.heap[w.heap.size + 1 + 1 + 1 + 1]? = some (.cells #[.int .i64 m] 3 (0, 0)) ∧ Below w.heap.size w w1 ∧ Gm B w1 gb g) := by
            have up := fun (b : Nat) (z : Obj) (h : w0.heap[b]? = some z) => (g1.below.block b (tk_lt h)).trans h
            exact ⟨up _ _ B0.out.1, up _ _ B0.out.2.1, up _ _ B0.out.2.2.1, up _ _ B0.out.2.2.2.1, up _ _ B0.out.2.2.2.2.1, B0.out.2.2.2.2.2.1.trans (g1.below.mono B0.out.2.2.2.2.2.1.size), HM.out.below g1.below⟩
          have HS : Hid (sends g k x own m = (edN g k).map (mkO g x own m) ∧ (edN g k).length ≤ 48) := by
            have e : sends g k x own m = (edN g k).map (mkO g x own m) := by
              unfold sends
              rw [if_pos ⟨h1, by omega, by omega, HZ.out.symm⟩]
            refine ⟨e, ?_⟩
            have := sends_len HM.out k x own m
            rw [e, List.length_map] at this
            exact this
          clear hin c0 c1 c2 l0 l1 l2 B0 HM g1 HZ
          have c0 := (tk_store B1.out.1).1
          have l0 := tk_lt B1.out.1
          go_wp2_with fail
          refine hraw.mono ?_
          rintro r w2 ⟨nv, ev, ys, HR⟩
          have hr := HR.out.1
          subst hr
          have B2 : Hid (w2.heap[w.heap.size]? = some (.cells #[.pointer (some ⟨gb, 0, none⟩)] 34 (0, 0)) ∧ w2.heap[w.heap.size + 1]? = some (.cells #[.int .u64 x.a, .int .u64 x.b, .int .u64 x.c] 28 (0, 0)) ∧ w2.heap[w.heap.size + 1 + 1]? = some (.cells #[.int .u64 (x.key : Nat), .int .u64 x.val] 30 (0, 0)) ∧ w2.heap[w.heap.size + 1 + 1 + 1]? = some (.cells #[.int .i64 own] 3 (0, 0)) ∧ w2.heap[w.heap.size + 1 + 1 + 1 + 1]? = some (.cells #[.int .i64 m] 3 (0, 0)) ∧ Below w.heap.size w w2 ∧ Gm B w2 gb g ∧ w2.ownsRow w1.heap.size 47 5 ev g.edges.length (fl ED g.edges)) := by
            have b := HR.out.2.1
            have up := fun (q : Nat) (z : Obj) (h : w1.heap[q]? = some z) => (b.block q (tk_lt h)).trans h
            exact ⟨up _ _ B1.out.1, up _ _ B1.out.2.1, up _ _ B1.out.2.2.1, up _ _ B1.out.2.2.2.1, up _ _ B1.out.2.2.2.2.1, B1.out.2.2.2.2.2.1.trans (b.mono B1.out.2.2.2.2.2.1.size), B1.out.2.2.2.2.2.2.below b, HR.out.2.2.2.edges⟩
          clear hraw c0 l0 B1 HR h1 h2 h3
          obtain ⟨qe, ne, ce, rfl⟩ := owns_form B2.out.2.2.2.2.2.2.2
          have hne := (owns_caps B2.out.2.2.2.2.2.2.2 _ _ _ rfl).1
          subst hne
          have c0 := (tk_store B2.out.1).1
          have l0 := tk_lt B2.out.1
          have hed := fun W : World => (callsIn_wide (n := 0)).1 (edges_in (n := 0) (gb := gb) k W)
          unfold gvc
          go_wp2_with fail
          refine (hed _).mono ?_
          rintro r w3 ⟨rfl, hw3⟩
          obtain ⟨V, hV⟩ : ∃ V, V = (((w2.alloc (.cells #[.slice qe g.edges.length ce] 23)).alloc (.cells #[.slice none 0 0] 40)).alloc (.cells #[.pointer (some ⟨gb, 0, none⟩)] 34)).alloc (.cells #[.int .i64 k] 3) := ⟨_, rfl⟩
          have e3 : w3 = V := hw3.trans hV.symm
          subst e3
          clear hw3 hed c0 l0
          rw [World.size_alloc, World.size_alloc]
          have F : Hid ((w3.heap[w.heap.size]? = some (.cells #[.pointer (some ⟨gb, 0, none⟩)] 34 (0, 0)) ∧ w3.heap[w.heap.size + 1]? = some (.cells #[.int .u64 x.a, .int .u64 x.b, .int .u64 x.c] 28 (0, 0)) ∧ w3.heap[w.heap.size + 1 + 1]? = some (.cells #[.int .u64 (x.key : Nat), .int .u64 x.val] 30 (0, 0)) ∧ w3.heap[w.heap.size + 1 + 1 + 1]? = some (.cells #[.int .i64 own] 3 (0, 0)) ∧ w3.heap[w.heap.size + 1 + 1 + 1 + 1]? = some (.cells #[.int .i64 m] 3 (0, 0)) ∧ w.heap.size + 1 + 1 + 1 + 1 < w2.heap.size) ∧ Below w.heap.size w w3 ∧ Below w2.heap.size w2 w3 ∧ Gm B w2 gb g ∧ Boxed w3 w2.heap.size 23 (.slice qe g.edges.length ce) ∧ Boxed w3 (w2.heap.size + 1) 40 (.slice none 0 0) ∧ Boxed w3 (w2.heap.size + 1 + 1) 34 (.pointer (some ⟨gb, 0, none⟩)) ∧ Boxed w3 (w2.heap.size + 1 + 1 + 1) 3 (.int .i64 k) ∧ w3.heap.size = w2.heap.size + 4 ∧ w2.ownsRow w1.heap.size 47 5 (.slice qe g.edges.length ce) g.edges.length (fl ED g.edges)) := by
            have b1 := Boxed.new w2 23 (.slice qe g.edges.length ce)
            have b2 := Boxed.new (w2.alloc (.cells #[.slice qe g.edges.length ce] 23)) 40 (.slice none 0 0)
            have b3 := Boxed.new ((w2.alloc (.cells #[.slice qe g.edges.length ce] 23)).alloc (.cells #[.slice none 0 0] 40)) 34 (.pointer (some ⟨gb, 0, none⟩))
            have b4 := Boxed.new (((w2.alloc (.cells #[.slice qe g.edges.length ce] 23)).alloc (.cells #[.slice none 0 0] 40)).alloc (.cells #[.pointer (some ⟨gb, 0, none⟩)] 34)) 3 (.int .i64 k)
            rw [World.size_alloc] at b2
            rw [World.size_alloc, World.size_alloc] at b3
            rw [World.size_alloc, World.size_alloc, World.size_alloc] at b4
            have bl : Below w2.heap.size w2 w3 := by rw [hV]; exact ((((Gr.refl w2).alloc _).alloc _).alloc _).alloc _ |>.below
            have up := fun (q : Nat) (z : Obj) (h : w2.heap[q]? = some z) => (bl.block q (tk_lt h)).trans h
            refine ⟨⟨up _ _ B2.out.1, up _ _ B2.out.2.1, up _ _ B2.out.2.2.1, up _ _ B2.out.2.2.2.1, up _ _ B2.out.2.2.2.2.1, tk_lt B2.out.2.2.2.2.1⟩, B2.out.2.2.2.2.2.1.trans (bl.mono B2.out.2.2.2.2.2.1.size), bl, B2.out.2.2.2.2.2.2.1, ?_, ?_, ?_, ?_, ?_, B2.out.2.2.2.2.2.2.2⟩
            · rw [hV]; exact ((b1.alloc _).alloc _).alloc _
            · rw [hV]; exact (b2.alloc _).alloc _
            · rw [hV]; exact b3.alloc _
            · rw [hV]; exact b4
            · rw [hV]; simp
          clear hV B2
          have hst := edges_stopsS 3 (by decide) (w2.heap.size + 1 + 1 + 1) (w2.heap.size + 1 + 1) k w2 (w2.heap.size + 1) F.out.2.2.2.1 (by omega) w3 F.out.2.2.1 F.out.2.2.2.2.2.2.2.1.cell F.out.2.2.2.2.2.2.1.cell F.out.2.2.2.2.2.2.2.1.lt F.out.2.2.2.2.2.2.1.lt
          go_wp2_with fail
          refine wpIn_wide (n := 4) |>.1 ?_
          refine wpIn_rangeFunc_ownG rfl (by decide) (gf := 28) (lb := #[.pointer (some ⟨w2.heap.size + 1 + 1 + 1, 0, none⟩), .pointer (some ⟨w2.heap.size + 1 + 1, 0, none⟩)]) rfl trivial (enters_of Try.func28 (by kernel_rfl) rfl)
            hst belowK_t (belowK_b (by have := F.out.2.2.2.2.2.2.2.2.1; omega)) (Below.refl _ _) (fun _ => rfl)
            (fun (pre : List (Vx g.edges.length)) (W : World) => (∃ v, Boxed W (w2.heap.size + 1) 40 v ∧ W.ownsRow (w2.heap.size + 1) 51 7 v pre.length (fl EOt (pre.map fun y => mkO g x own m y.1)) ∧ True) ∧ Below (w2.heap.size + 1) w3 W)
            (fun _ _ _ => False)
            (OwnFrom.and (Own.from (holdsRow_own (w2.heap.size + 1) (w2.heap.size + 1) 40 51 7 (fun pre : List (Vx g.edges.length) => pre.length) (fun pre : List (Vx g.edges.length) => fl EOt (pre.map fun y => mkO g x own m y.1)) (fun _ _ => True)) _) (ownFrom_below (by have := F.out.2.2.2.2.2.2.2.2.1; omega) (by have := F.out.2.2.2.2.2.2.2.2.1; omega)))
            (fun _ _ _ _ _ hs _ _ => hs)
            ⟨⟨_, F.out.2.2.2.2.2.1, World.ownsRow_nil _ _ _ _, trivial⟩, Below.refl _ _⟩
            ?a1 ?assign ?body ?done ?stop
          case assign =>
            intro l y W K hK
            rw [fold_oneR]
            simp only [List.setIfInBounds_toArray, List.set_cons_succ, List.set_cons_zero]
            gi_wp2
            exact hK
          case stop =>
            rintro D c pre W _ hS hIx _
            exact hIx.elim
          case done =>
            rintro D ys W hD hS ⟨⟨v, hv, hrow, -⟩, hB⟩ hK
            have hc := hv.cell
            go_wp2_with fail
            refine ⟨by simp, .inl ⟨_, _, rfl, run_takeDeferred hK, ?_⟩⟩
            refine ⟨_, results_tmp rfl _ _ _, v, rfl, ?_⟩
            have hsz := F.out.2.2.2.2.2.2.2.2.1
            have hlo := F.out.2.1.size
            have hl2 := F.out.1.2.2.2.2.2
            have es : ys.map (fun y => mkO g x own m y.1) = sends g k x own m := by
              rw [HS.out.1, ← hS, List.map_map]
              rfl
            have hln : ys.length = (sends g k x own m).length := by rw [← es, List.length_map]
            rw [es, hln] at hrow
            exact ⟨owns_base (ownsRow_putObj hrow _ hK rfl) (by omega), (F.out.2.1.trans (hB.mono (by omega))).trans (belowK_b (w := w) (Nat.le_refl _) W D _ _ (by omega) hK rfl rfl)⟩
          case body =>
            rintro l pre y W ⟨⟨v, hv, hrow, -⟩, hB⟩ hlt
            obtain ⟨e, he⟩ : ∃ e : Nat, y.1 = (e : Int) := ⟨y.1.toNat, by have := y.2.1; omega⟩
            have hel : e < g.edges.length := by have := y.2.2; omega
            obtain ⟨d, hd⟩ : ∃ d, g.edges[e]? = some d := ⟨g.edges[e], List.getElem?_eq_getElem hel⟩
            have HD : Hid (mkO g x own m y.1 = ⟨alg d.keyed x.key own m, inN g.nodes d.dst d.inn, x⟩) := by
              show _ = _
              rw [he]
              exact mkO_at hd
            obtain ⟨q, n', c, rfl⟩ := owns_form hrow
            have hn' := (owns_caps hrow _ _ _ rfl).1
            subst hn'
            have hsz := F.out.2.2.2.2.2.2.2.2.1
            have hlow : w2.heap.size + 1 + 1 + 1 + 1 ≤ W.heap.size := by have := hB.size; omega
            have hls := ls_low (owns_ls (E := ED) F.out.2.2.2.2.2.2.2.2.2) (F.out.2.2.1.trans ((hB.mono (Nat.le_succ _)).mono (Nat.le_refl _))) (fun b hb => (owns_rd F.out.2.2.2.2.2.2.2.2.2 b hb).2)
            obtain ⟨b2, o2, c2, e2, z2, y0, y1, y2, y3, y4⟩ := ls_atD hls hd
            simp only [Value.slice.injEq] at e2
            obtain ⟨rfl, -, rfl⟩ := e2
            have cE : W.cell? ⟨w2.heap.size, 0, none⟩ = some (.slice (some ⟨b2, o2, none⟩) g.edges.length ce) := (hB.cell (p := ⟨w2.heap.size, 0, none⟩) (by simp)).trans F.out.2.2.2.2.1.cell
            have lE : w2.heap.size < W.heap.size := by omega
            have HGM : Hid (Gm B W gb g) := F.out.2.2.2.1.below (F.out.2.2.1.trans (hB.mono (Nat.le_succ _)))
            obtain ⟨W1, hW1⟩ : ∃ W1, W1 = W.alloc (.cells #[.int .i64 d.src, .int .i64 d.out, .int .i64 d.dst, .int .i64 d.inn, .bool d.keyed] 47) := ⟨_, rfl⟩
            have b1 : Below W.heap.size W W1 := by rw [hW1]; exact ((Gr.refl W).alloc _).below
            have HR : Hid (W1.ownsRow (w2.heap.size + 1) 51 7 (.slice q pre.length c) pre.length (fl EOt (pre.map fun y => mkO g x own m y.1)) ∧ Below W.heap.size W W1 ∧ Below (w2.heap.size + 1) w3 W ∧ pre.length < 48 ∧ w2.heap.size + 1 + 1 + 1 + 1 ≤ W.heap.size ∧ Gm B W1 gb g) := ⟨owns_below hrow b1, b1, hB, by have := HS.out.2; omega, hlow, HGM.out.below b1⟩
            have HR0 := hid hrow
            have HSB : Hid (Sb W1 w.heap.size (w.heap.size + 1) (w.heap.size + 1 + 1) (w.heap.size + 1 + 1 + 1) (w.heap.size + 1 + 1 + 1 + 1) (w2.heap.size + 1) W.heap.size gb x own m (.slice q pre.length c) d) := by
              have hl2 := F.out.1.2.2.2.2.2
              have up := fun (q : Nat) (z : Obj) (h : w3.heap[q]? = some z) (hq : q < w2.heap.size) => (b1.block q (by omega)).trans ((hB.block q (by omega)).trans h)
              refine ⟨up _ _ F.out.1.1 (by omega), up _ _ F.out.1.2.1 (by omega), up _ _ F.out.1.2.2.1 (by omega), up _ _ F.out.1.2.2.2.1 (by omega), up _ _ F.out.1.2.2.2.2.1 hl2, (b1.block _ (by omega)).trans hv, ?_⟩
              rw [hW1]
              exact heap_new' W _
            have HW1 : Hid (W.alloc (.cells #[.int .i64 d.src, .int .i64 d.out, .int .i64 d.dst, .int .i64 d.inn, .bool d.keyed] 47) = W1) := hW1.symm
            have HSD : Hid (∀ X, Kp (fun j => (Value.slice q pre.length c).ownBlock = some j) W1 X → Sb X w.heap.size (w.heap.size + 1) (w.heap.size + 1 + 1) (w.heap.size + 1 + 1 + 1) (w.heap.size + 1 + 1 + 1 + 1) (w2.heap.size + 1) W.heap.size gb x own m (.slice q pre.length c) d) := fun X hX => HSB.out.kp HR.out.1 hX
            have hez : (e : Int) < (g.edges.length : Int) := by omega
            have he0 : (0 : Int) ≤ (e : Int) := by omega
            have HV := hid hv
            clear hv hrow hB hls hd hW1 b1 HGM hel hlt hlow hsz
            rw [he]
            gi_wp2
            rw [HW1.out]
            have hal := fun X => along_any HK.out d.src d.out d.dst d.inn d.keyed own m X
            have hS0 : Kp (fun j => (Value.slice q pre.length c).ownBlock = some j) W1 W1.drew := Kp.of_gr (Gr.refl W1).drew
            refine wp_regionR (S := fun X => Kp (fun j => (Value.slice q pre.length c).ownBlock = some j) W1 X) (D := [19]) hmx (by kernel_rfl) (fun h => by obtain ⟨_, _, h⟩ := h; exact h) ?_
            refine' wpAnyD_take (i := 0) (oi := { dst := some 45, op := Go.Op.load 40 (Go.Operand.tmp 14), type := 40, pos := "route.go:46", after := #[], guard := none }) (v := _) rfl (by kernel_rfl) (by kernel_rfl) (by kernel_rfl) (fun _ _ _ h => h) (by kernel_rfl) (Or.inl ⟨by rfl, ?hy1⟩) hS0 ?rest1
            case hy1 => (intro W hSw; have hc := (tk_store (HSD.out _ hSw).l).1; have hl := tk_lt (HSD.out _ hSw).l; go_simp; try (with_reducible rfl))
            try simp only [Act.put, List.setIfInBounds_toArray, List.set_cons_zero, List.set_cons_succ]
            refine' wpAnyD_take (i := 1) (oi := { dst := some 46, op := Go.Op.load 47 (Go.Operand.tmp 16), type := 47, pos := "route.go:46", after := #[], guard := none }) (v := _) rfl (by kernel_rfl) (by kernel_rfl) (by kernel_rfl) (fun _ _ _ h => h) (by kernel_rfl) (Or.inl ⟨by rfl, ?hy2⟩) hS0 ?rest2
            case hy2 => (intro W hSw; have hc := (tk_store (HSD.out _ hSw).d).1; have hl := tk_lt (HSD.out _ hSw).d; go_simp; try (with_reducible rfl))
            try simp only [Act.put, List.setIfInBounds_toArray, List.set_cons_zero, List.set_cons_succ]
            refine' wpAnyD_take (i := 2) (oi := { dst := some 47, op := Go.Op.fieldAddr 30 (Go.Operand.tmp 9) 0, type := 0, pos := "route.go:46", after := #[], guard := none }) (v := _) rfl (by kernel_rfl) (by kernel_rfl) (by kernel_rfl) (fun _ _ _ h => h) (by kernel_rfl) (Or.inl ⟨by rfl, ?hy3⟩) hS0 ?rest3
            case hy3 => (intro W hSw; go_simp; try (with_reducible rfl))
            try simp only [Act.put, List.setIfInBounds_toArray, List.set_cons_zero, List.set_cons_succ]
            refine' wpAnyD_take (i := 3) (oi := { dst := some 48, op := Go.Op.load 26 (Go.Operand.tmp 47), type := 26, pos := "route.go:46", after := #[{ on := 2, ground := Go.Ground.data }], guard := none }) (v := _) rfl (by kernel_rfl) (by kernel_rfl) (by kernel_rfl) (fun _ _ _ h => h) (by kernel_rfl) (Or.inl ⟨by rfl, ?hy4⟩) hS0 ?rest4
            case hy4 => (intro W hSw; have hc := (tk_store (HSD.out _ hSw).r).1; have hl := tk_lt (HSD.out _ hSw).r; go_simp; try (with_reducible rfl))
            try simp only [Act.put, List.setIfInBounds_toArray, List.set_cons_zero, List.set_cons_succ]
            refine' wpAnyD_take (i := 4) (oi := { dst := some 49, op := Go.Op.load 3 (Go.Operand.tmp 10), type := 3, pos := "route.go:46", after := #[], guard := none }) (v := _) rfl (by kernel_rfl) (by kernel_rfl) (by kernel_rfl) (fun _ _ _ h => h) (by kernel_rfl) (Or.inl ⟨by rfl, ?hy5⟩) hS0 ?rest5
            case hy5 => (intro W hSw; have hc := (tk_store (HSD.out _ hSw).o).1; have hl := tk_lt (HSD.out _ hSw).o; go_simp; try (with_reducible rfl))
            try simp only [Act.put, List.setIfInBounds_toArray, List.set_cons_zero, List.set_cons_succ]
            refine' wpAnyD_take (i := 5) (oi := { dst := some 50, op := Go.Op.load 3 (Go.Operand.tmp 11), type := 3, pos := "route.go:46", after := #[], guard := none }) (v := _) rfl (by kernel_rfl) (by kernel_rfl) (by kernel_rfl) (fun _ _ _ h => h) (by kernel_rfl) (Or.inl ⟨by rfl, ?hy6⟩) hS0 ?rest6
            case hy6 => (intro W hSw; have hc := (tk_store (HSD.out _ hSw).w).1; have hl := tk_lt (HSD.out _ hSw).w; go_simp; try (with_reducible rfl))
            try simp only [Act.put, List.setIfInBounds_toArray, List.set_cons_zero, List.set_cons_succ]
            refine' wpAnyD_take (i := 7) (oi := { dst := some 52, op := Go.Op.load 34 (Go.Operand.tmp 6), type := 34, pos := "route.go:46", after := #[], guard := none }) (v := _) rfl (by kernel_rfl) (by kernel_rfl) (by kernel_rfl) (fun _ _ _ h => h) (by kernel_rfl) (Or.inl ⟨by rfl, ?hy7⟩) hS0 ?rest7
            case hy7 => (intro W hSw; have hc := (tk_store (HSD.out _ hSw).g).1; have hl := tk_lt (HSD.out _ hSw).g; go_simp; try (with_reducible rfl))
            try simp only [Act.put, List.setIfInBounds_toArray, List.set_cons_zero, List.set_cons_succ]
            refine' wpAnyD_take (i := 8) (oi := { dst := some 53, op := Go.Op.fieldAddr 47 (Go.Operand.tmp 16) 2, type := 0, pos := "route.go:46", after := #[], guard := none }) (v := _) rfl (by kernel_rfl) (by kernel_rfl) (by kernel_rfl) (fun _ _ _ h => h) (by kernel_rfl) (Or.inl ⟨by rfl, ?hy8⟩) hS0 ?rest8
            case hy8 => (intro W hSw; go_simp; try (with_reducible rfl))
            try simp only [Act.put, List.setIfInBounds_toArray, List.set_cons_zero, List.set_cons_succ]
            refine' wpAnyD_take (i := 9) (oi := { dst := some 54, op := Go.Op.load 3 (Go.Operand.tmp 53), type := 3, pos := "route.go:46", after := #[{ on := 8, ground := Go.Ground.data }], guard := none }) (v := _) rfl (by kernel_rfl) (by kernel_rfl) (by kernel_rfl) (fun _ _ _ h => h) (by kernel_rfl) (Or.inl ⟨by rfl, ?hy9⟩) hS0 ?rest9
            case hy9 => (intro W hSw; have hc := (tk_store (HSD.out _ hSw).d).1; have hl := tk_lt (HSD.out _ hSw).d; go_simp; try (with_reducible rfl))
            try simp only [Act.put, List.setIfInBounds_toArray, List.set_cons_zero, List.set_cons_succ]
            refine' wpAnyD_take (i := 10) (oi := { dst := some 55, op := Go.Op.fieldAddr 47 (Go.Operand.tmp 16) 3, type := 0, pos := "route.go:46", after := #[], guard := none }) (v := _) rfl (by kernel_rfl) (by kernel_rfl) (by kernel_rfl) (fun _ _ _ h => h) (by kernel_rfl) (Or.inl ⟨by rfl, ?hy10⟩) hS0 ?rest10
            case hy10 => (intro W hSw; go_simp; try (with_reducible rfl))
            try simp only [Act.put, List.setIfInBounds_toArray, List.set_cons_zero, List.set_cons_succ]
            refine' wpAnyD_take (i := 11) (oi := { dst := some 56, op := Go.Op.load 3 (Go.Operand.tmp 55), type := 3, pos := "route.go:46", after := #[{ on := 10, ground := Go.Ground.data }], guard := none }) (v := _) rfl (by kernel_rfl) (by kernel_rfl) (by kernel_rfl) (fun _ _ _ h => h) (by kernel_rfl) (Or.inl ⟨by rfl, ?hy11⟩) hS0 ?rest11
            case hy11 => (intro W hSw; have hc := (tk_store (HSD.out _ hSw).d).1; have hl := tk_lt (HSD.out _ hSw).d; go_simp; try (with_reducible rfl))
            try simp only [Act.put, List.setIfInBounds_toArray, List.set_cons_zero, List.set_cons_succ]
            refine' wpAnyD_take (i := 13) (oi := { dst := some 58, op := Go.Op.load 28 (Go.Operand.tmp 8), type := 28, pos := "route.go:46", after := #[], guard := none }) (v := _) rfl (by kernel_rfl) (by kernel_rfl) (by kernel_rfl) (fun _ _ _ h => h) (by kernel_rfl) (Or.inl ⟨by rfl, ?hy12⟩) hS0 ?rest12
            case hy12 => (intro W hSw; have hc := (tk_store (HSD.out _ hSw).t).1; have hl := tk_lt (HSD.out _ hSw).t; go_simp; try (with_reducible rfl))
            try simp only [Act.put, List.setIfInBounds_toArray, List.set_cons_zero, List.set_cons_succ]
            refine' wpAnyD_take (i := 14) (oi := { dst := some 59, op := Go.Op.load 30 (Go.Operand.tmp 9), type := 30, pos := "route.go:46", after := #[], guard := none }) (v := _) rfl (by kernel_rfl) (by kernel_rfl) (by kernel_rfl) (fun _ _ _ h => h) (by kernel_rfl) (Or.inl ⟨by rfl, ?hy13⟩) hS0 ?rest13
            case hy13 => (intro W hSw; have hc := (tk_store (HSD.out _ hSw).r).1; have hl := tk_lt (HSD.out _ hSw).r; go_simp; try (with_reducible rfl))
            try simp only [Act.put, List.setIfInBounds_toArray, List.set_cons_zero, List.set_cons_succ]
            refine wpAnyD_one (i := 6) (o := { dst := some 51, op := Go.Op.call { callee := Go.Callee.value (Go.Operand.func 27), args := #[Go.Operand.tmp 46, Go.Operand.tmp 48, Go.Operand.tmp 49, Go.Operand.tmp 50], argTypes := #[47, 26, 3, 3] }, type := 3, pos := "route.go:47", after := #[{ on := 1, ground := Go.Ground.data }, { on := 3, ground := Go.Ground.data }, { on := 4, ground := Go.Ground.data }, { on := 5, ground := Go.Ground.data }], guard := none }) (by kernel_rfl) rfl (fun K hK => ?_)
            go_simp
            refine (hal _).mono ?_
            rintro r w5 ⟨rfl, g5⟩
            have hS5 : Kp (fun j => (Value.slice q pre.length c).ownBlock = some j) W1 w5 := hS0.trans (Kp.of_gr g5) (fun _ _ h => h)
            have hin := gin_any d.dst d.inn w5 (HR.out.2.2.2.2.2.below ((Gr.refl W1).drew.trans g5).below)
            have hB5 := ((Gr.refl W1).drew.trans g5).below
            clear g5
            go_wp2_with fail
            refine hK.out _ _ (fun hD => hS5) ?_
            clear hK K
            try simp only [Act.put, List.setIfInBounds_toArray, List.set_cons_zero, List.set_cons_succ]
            refine wpAnyD_one (i := 12) (o := { dst := some 57, op := Go.Op.call { callee := Go.Callee.value (Go.Operand.func 12), args := #[Go.Operand.tmp 52, Go.Operand.tmp 54, Go.Operand.tmp 56], argTypes := #[34, 3, 3] }, type := 3, pos := "route.go:48", after := #[{ on := 7, ground := Go.Ground.data }, { on := 9, ground := Go.Ground.data }, { on := 11, ground := Go.Ground.data }, { on := 6, ground := Go.Ground.chain }], guard := none }) (by kernel_rfl) rfl (fun K hK => ?_)
            go_simp
            refine hin.mono ?_
            rintro r w6 ⟨rfl, rfl⟩
            go_wp2_with fail
            refine hK.out _ _ (fun hD => hS5) ?_
            clear hK K
            try simp only [Act.put, List.setIfInBounds_toArray, List.set_cons_zero, List.set_cons_succ]
            refine' wpAnyD_take (i := 15) (oi := { dst := some 60, op := Go.Op.build 49 #[(0, Go.Operand.tmp 57), (1, Go.Operand.tmp 58), (2, Go.Operand.tmp 59)], type := 49, pos := "route.go:46", after := #[{ on := 12, ground := Go.Ground.data }, { on := 13, ground := Go.Ground.data }, { on := 14, ground := Go.Ground.data }], guard := none }) (v := _) rfl (by kernel_rfl) (by kernel_rfl) (by kernel_rfl) (fun _ _ _ h => h) (by kernel_rfl) (Or.inl ⟨by rfl, ?hy16⟩) hS5 ?rest16
            case hy16 => (intro W hSw; go_simp; try (with_reducible rfl))
            try simp only [Act.put, List.setIfInBounds_toArray, List.set_cons_zero, List.set_cons_succ]
            refine' wpAnyD_take (i := 16) (oi := { dst := some 61, op := Go.Op.build 51 #[(0, Go.Operand.tmp 51), (1, Go.Operand.tmp 60)], type := 51, pos := "route.go:46", after := #[{ on := 6, ground := Go.Ground.data }, { on := 15, ground := Go.Ground.data }], guard := none }) (v := _) rfl (by kernel_rfl) (by kernel_rfl) (by kernel_rfl) (fun _ _ _ h => h) (by kernel_rfl) (Or.inl ⟨by rfl, ?hy17⟩) hS5 ?rest17
            case hy17 => (intro W hSw; go_simp; try (with_reducible rfl))
            try simp only [Act.put, List.setIfInBounds_toArray, List.set_cons_zero, List.set_cons_succ]
            refine wpAnyD_one (i := 17) (o := { dst := some 62, op := Go.Op.buildSlice 40 1 #[(0, Go.Operand.tmp 61)], type := 40, pos := "route.go:46", after := #[{ on := 16, ground := Go.Ground.data }], guard := none }) (by kernel_rfl) rfl (fun K hK => ?_)
            go_simp
            have hS7 := hS5.trans (Kp.of_gr (S := fun j => (Value.slice q pre.length c).ownBlock = some j) ((Gr.refl w6).alloc (.cells (otc ⟨alg d.keyed x.key own m, inN g.nodes d.dst d.inn, x⟩) 51))) (fun _ _ h => h)
            refine hK.out _ _ (fun hD => hS7) ?_
            clear hK K
            try simp only [Act.put, List.setIfInBounds_toArray, List.set_cons_zero, List.set_cons_succ]
            refine wpAnyD_one (i := 18) (o := { dst := some 63, op := Go.Op.call { callee := Go.Callee.builtin Go.Builtin.append, args := #[Go.Operand.tmp 45, Go.Operand.tmp 62], argTypes := #[40, 40] }, type := 40, pos := "route.go:46", after := #[{ on := 0, ground := Go.Ground.data }, { on := 17, ground := Go.Ground.data }, { on := 12, ground := Go.Ground.chain }], guard := none }) (by kernel_rfl) rfl (fun K hK => ?_)
            refine step_app1 EOt Try.underlying40 infoOt rfl (by decide) rfl _ _ rfl (w2.heap.size + 1) (.slice q pre.length c) pre.length (fl EOt (pre.map fun y => mkO g x own m y.1)) rfl (w := w6) ?ho ⟨alg d.keyed x.key own m, inN g.nodes d.dst d.inn, x⟩ (by first | rfl | simp) (by have := HR.out.2.2.2.1; omega) (by have := HR.out.2.2.2.1; unfold maxLen; omega) (by have h1 := HR.out.2.2.2.2.1; have h2 := HR.out.2.1.size; have h3 := hS5.size; omega) _ rfl _ ?_
            case ho => exact owns_below HR.out.1 hB5
            intro g8 c8 w8 h8 k8 n8
            have hS8 := hS5.trans (Kp.grownBy (S := fun j => (Value.slice q pre.length c).ownBlock = some j) k8.out (fun _ h => h)) (fun _ _ h => h)
            refine hK.out _ _ (fun hD => hS8) ?_
            clear hK K
            try simp only [Act.put, List.setIfInBounds_toArray, List.set_cons_zero, List.set_cons_succ]
            refine wpAnyD_one (i := 19) (o := { dst := none, op := Go.Op.store 40 (Go.Operand.tmp 14) (Go.Operand.tmp 63), type := 0, pos := "route.go:46", after := #[{ on := 18, ground := Go.Ground.data }, { on := 18, ground := Go.Ground.chain }, { on := 0, ground := Go.Ground.phase }, { on := 1, ground := Go.Ground.phase }, { on := 2, ground := Go.Ground.phase }, { on := 3, ground := Go.Ground.phase }, { on := 4, ground := Go.Ground.phase }, { on := 5, ground := Go.Ground.phase }, { on := 6, ground := Go.Ground.phase }, { on := 7, ground := Go.Ground.phase }, { on := 8, ground := Go.Ground.phase }, { on := 9, ground := Go.Ground.phase }, { on := 10, ground := Go.Ground.phase }, { on := 11, ground := Go.Ground.phase }, { on := 12, ground := Go.Ground.phase }, { on := 13, ground := Go.Ground.phase }, { on := 14, ground := Go.Ground.phase }, { on := 15, ground := Go.Ground.phase }, { on := 16, ground := Go.Ground.phase }, { on := 17, ground := Go.Ground.phase }, { on := 18, ground := Go.Ground.phase }], guard := none }) (by kernel_rfl) rfl (fun K hK => ?_)
            have c9 := (tk_store (HSD.out _ hS8).l).1
            have f9 := (tk_store (HSD.out _ hS8).l).2
            have l9 := tk_lt (HSD.out _ hS8).l
            go_simp
            have FIN : Hid (KeepsFrom w3.heap.size W (w8.setCell ⟨w2.heap.size + 1, 0, none⟩ (.slice (some ⟨g8, 0, none⟩) (pre.length + 1) c8)) ∧ Below (w2.heap.size + 1) W (w8.setCell ⟨w2.heap.size + 1, 0, none⟩ (.slice (some ⟨g8, 0, none⟩) (pre.length + 1) c8)) ∧ (∃ v, Boxed (w8.setCell ⟨w2.heap.size + 1, 0, none⟩ (.slice (some ⟨g8, 0, none⟩) (pre.length + 1) c8)) (w2.heap.size + 1) 40 v ∧ (w8.setCell ⟨w2.heap.size + 1, 0, none⟩ (.slice (some ⟨g8, 0, none⟩) (pre.length + 1) c8)).ownsRow (w2.heap.size + 1) 51 7 v (pre ++ [y]).length (fl EOt ((pre ++ [y]).map fun y => mkO g x own m y.1)) ∧ True) ∧ Below (w2.heap.size + 1) w3 (w8.setCell ⟨w2.heap.size + 1, 0, none⟩ (.slice (some ⟨g8, 0, none⟩) (pre.length + 1) c8))) := by
              obtain ⟨s1, s2⟩ := tk_set (HSD.out _ hS8).l 0 (.slice (some ⟨g8, 0, none⟩) (pre.length + 1) c8)
              have hsz := F.out.2.2.2.2.2.2.2.2.1
              have hlow := HR.out.2.2.2.2.1
              have kk : Kp (fun j => (Value.slice q pre.length c).ownBlock = some j ∨ j = w2.heap.size + 1) W (w8.setCell ⟨w2.heap.size + 1, 0, none⟩ (.slice (some ⟨g8, 0, none⟩) (pre.length + 1) c8)) := ((Kp.of_below (S := fun j => (Value.slice q pre.length c).ownBlock = some j ∨ j = w2.heap.size + 1) HR.out.2.1).trans hS8 (fun _ _ h => Or.inl h)).trans s2 (fun _ _ h => Or.inr h)
              have bl : Below (w2.heap.size + 1) W (w8.setCell ⟨w2.heap.size + 1, 0, none⟩ (.slice (some ⟨g8, 0, none⟩) (pre.length + 1) c8)) := kk.below (by omega) (fun j h => by rcases h with h | h; exact (owns_rd HR.out.1 j h).1; omega)
              refine ⟨keeps_kpS (fun j h => ?_) kk, bl, ⟨_, s1, ?_, trivial⟩, HR.out.2.2.1.trans bl⟩
              · rcases h with h | h
                · obtain ⟨cs, f, hc⟩ := Lib.ownsRow_kind HR.out.1 j h
                  exact ⟨_, _, _, (HR.out.2.1.block j (owns_rd HR0.out j h).2).symm.trans hc⟩
                · rw [h]
                  exact ⟨_, _, _, HV.out⟩
              · have hr := owns_kp s2 h8.out (fun j h e => owns_ne_blk h8.out (HSD.out _ hS8).l (by decide) j h e)
                rw [List.length_append, List.map_append, fl_append]
                simp only [List.map_cons, List.map_nil, fl_one, HD.out]
                exact hr
            generalize (w8.setCell ⟨w2.heap.size + 1, 0, none⟩ (.slice (some ⟨g8, 0, none⟩) (pre.length + 1) c8)) = w12 at FIN ⊢
            clear c9 f9 l9
            refine hK.out _ _ (fun hD => absurd (by decide) hD) ?_
            clear hK K
            try simp only [Act.put, List.setIfInBounds_toArray, List.set_cons_zero, List.set_cons_succ]
            refine wpAnyD_done (by kernel_rfl) ?_ _
            exact FIN.out
  · rw [decide_eq_false h1] at hcb
    clear hin
    go_wp2_with fail
    refine hcb.mono ?_
    rintro r w0 ⟨rfl, rfl⟩
    go_wp2_with fail
    refine ⟨.slice none 0 0, by simp [results, Try.results9, go_sem], _, rfl, ?_⟩
    rw [sends_none (fun h => h1 h.1)]
    exact ⟨World.ownsRow_nil _ _ _ _, B0.out.2.2.2.2.2.1⟩
end Go.Proofs.Ytifjjnnpoleinaa.Df
