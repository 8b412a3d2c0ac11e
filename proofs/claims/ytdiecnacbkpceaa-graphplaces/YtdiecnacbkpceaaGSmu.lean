import Derived.Test.YtdiecnacbkpceaaGSmu0
import Derived.BigQuiet
namespace Go.Proofs.Ytdiecnacbkpceaa.Df
open Go.RowKit Go.Sort
attribute [local go_sem ↓] Go.wp_at_zero Go.wp_at_succ

/-- What stands while a graph is written over. -/
structure Sq (B M : Nat) (w W : World) (gb : Nat) (a : Int) (nv ev : Value) (ys : List NV) : Prop where
  kp : Kp (fun k => B ≤ k ∧ k < M) w W
  box : W.heap[gb]? = some (.cells (gvc a nv ev) 25 (0, 0))
  low : w.heap.size ≤ gb
  sg : Sg B M W nv ev ys
section
variable {B M gb : Nat} {w W W' : World} {a : Int} {nv ev : Value} {ys : List NV}
theorem Sq.below (h : Sq B M w W gb a nv ev ys) (hb : Below W.heap.size W W') : Sq B M w W' gb a nv ev ys :=
  ⟨h.kp.trans (Kp.of_below hb) (fun _ _ h => h), (hb.block _ (tk_lt h.box)).trans h.box, h.low, h.sg.below hb⟩
theorem Sq.sb {b : Nat} {cur : Array Value} {T : TypeId} (h : Sq B M w W gb a nv ev ys) (hb : W.heap[b]? = some (.cells cur T (0, 0))) (hT : T ≠ 39) (hG : T ≠ 25) (h1 : B ≤ b ∧ b < M) (k : Sb (fun k => k = b) W W') : Sq B M w W' gb a nv ev ys := by
  refine ⟨h.kp.trans k.kp (fun j _ e => by subst e; exact h1), (k.kp.block _ (tk_lt h.box) (fun e => ?_)).trans h.box, h.low, h.sg.sb hb hT k⟩
  have h2 := h.box
  rw [e, hb] at h2
  simp only [Option.some.injEq, Obj.cells.injEq] at h2
  exact hG h2.2.1
theorem Sq.ap {n sz : Nat} {v : Value} {xs : List Value} {T : TypeId} (h : Sq B M w W gb a nv ev ys) (ho : W.ownsRow B T sz v n xs) (hT : T ≠ 39) (hG : T ≠ 25) (h1 : ∀ k, v.ownBlock = some k → k < M) (k : Sb (fun k => v.ownBlock = some k) W W') : Sq B M w W' gb a nv ev ys :=
  ⟨h.kp.trans k.kp (fun j _ e => ⟨(owns_rd ho j e).1, h1 j e⟩), (k.kp.block _ (tk_lt h.box) (fun e => owns_ne_blk ho h.box hG _ e rfl)).trans h.box, h.low, h.sg.ap ho hT k⟩
theorem Sq.kind {i g m c : Nat} {y : NV} (h : Sq B M w W gb a (.slice (some ⟨g, 0, none⟩) m c) ev ys) (hy : ys[i]? = some y) (k : Int) : Sq B M w (W.setCell ⟨g, i * 10, none⟩ (.int .i64 k)) gb a (.slice (some ⟨g, 0, none⟩) m c) ev (ys.set i (y.withKind k)) := by
  obtain ⟨h1, h2⟩ := h.sg.kind hy k
  have h3 := (owns_rd h.sg.nodes g rfl).1
  have h4 := h.sg.nlow g rfl
  refine ⟨h.kp.trans h2.kp (fun j _ e => by subst e; exact ⟨h3, h4⟩), (h2.kp.block _ (tk_lt h.box) (fun e => ?_)).trans h.box, h.low, h1⟩
  exact owns_ne_blk h.sg.nodes h.box (by decide) g rfl e.symm
end
theorem own0 {w : World} {B : Nat} {e : TypeId} {size n : Nat} {q : Option Addr} {m c : Nat} {xs : List Value} (h : w.ownsRow B e size (.slice q m c) n xs) {k : Nat} (hk : k < m) : ∃ g, q = some ⟨g, 0, none⟩ := by
  rcases h.2 with ⟨h0, _⟩ | ⟨g, cap, cur, hv, _⟩
  · simp only [Value.slice.injEq] at h0
    omega
  · simp only [Value.slice.injEq] at hv
    exact ⟨g, hv.1⟩
theorem own_fr {w : World} {B : Nat} {e : TypeId} {size n g : Nat} {m c : Nat} {xs : List Value} (h : w.ownsRow B e size (.slice (some ⟨g, 0, none⟩) m c) n xs) : ∀ j, w.frozen? ⟨g, j, none⟩ = false := by
  rcases h.2 with ⟨h0, _⟩ | ⟨g', cap, cur, hv, _, hh, _⟩
  · cases h0
  · simp only [Value.slice.injEq, Option.some.injEq, Addr.mk.injEq] at hv
    obtain ⟨⟨rfl, -, -⟩, -, rfl⟩ := hv
    exact (tk_store hh).2
set_option maxRecDepth 100000 in
set_option maxHeartbeats 8000000 in
theorem smudge_any {B M : Nat} {nv ev : Value} {a : Int} {ys : List NV} (w : World) (h : Sg B M w nv ev ys) (hM : M ≤ w.heap.size) : Calls Try.prog 16 #[.agg (gvc a nv ev)] w fun r w' => r = .returned (.tuple #[]) ∧ Kp (fun k => B ≤ k ∧ k < M) w w' := by
  have hmx : Try.prog.follows .mixedOrders = true := by kernel_rfl
  obtain ⟨qn, nl, cn, hnv⟩ := owns_form h.nodes
  obtain ⟨qe, el, ce, hev⟩ : ∃ q m c, ev = .slice q m c := by obtain ⟨n, xs, _, h2, _⟩ := h.edges; exact owns_form h2
  subst hnv
  subst hev
  have hnl : nl = ys.length := (owns_caps h.nodes _ _ _ rfl).1
  have hfew := h.few
  have HYL := hid hnl
  obtain ⟨W0, hW0⟩ : ∃ W, W = w.alloc (.cells (gvc a (.slice qn nl cn) (.slice qe el ce)) 25) := ⟨_, rfl⟩
  obtain ⟨gb, hgb⟩ : ∃ b, b = w.heap.size := ⟨_, rfl⟩
  have S0 : Hid (Sq B M w W0 gb a (.slice qn nl cn) (.slice qe el ce) ys) := by
    have g0 := (Gr.refl w).alloc (.cells (gvc a (.slice qn nl cn) (.slice qe el ce)) 25)
    rw [hW0, hgb]
    exact ⟨Kp.of_below g0.below, heap_new' _ _, Nat.le_refl _, h.below g0.below⟩
  have HW0 : Hid (w.alloc (.cells #[.int .i64 a, .slice qn nl cn, .slice qe el ce] 25) = W0 ∧ w.heap.size = gb) := ⟨hW0.symm, hgb.symm⟩
  have HM : Hid (M ≤ w.heap.size ∧ nl ≤ 1000) := ⟨hM, by omega⟩
  clear hW0 hgb h hM hnl hfew
  go_enter Try.func16, Try.ntmps16
  go_upto_region 1 with fail
  rw [HW0.out.1, HW0.out.2]
  clear HW0
  go_wp2_with fail
  go_loopw [2] (fun s2 wr => ∃ (i : Nat) (zs : List NV), i ≤ nl ∧ s2 = .int .i64 (i : Nat) ∧ Hid (Sq B M w wr gb a (.slice qn nl cn) (.slice qe el ce) zs ∧ zs.length = nl)) (fun s2 _ => nl - (RowKit.intOf s2).toNat)
  case atStart => exact ⟨0, ys, Nat.zero_le _, rfl, S0.out, HYL.out.symm⟩
  case round =>
    clear S0
    obtain ⟨i, zs, hi, rfl, HI⟩ := hrel
    have cx := (tk_store HI.out.1.box).1
    have lx := tk_lt HI.out.1.box
    by_cases hlt : i < nl
    · have hltz : (i : Int) < (nl : Int) := by omega
      have hi0 : (0 : Int) ≤ (i : Int) := by omega
      obtain ⟨y, hy⟩ : ∃ y, zs[i]? = some y := ⟨zs[i]'(by have := HI.out.2; omega), by simp⟩
      obtain ⟨gn, hgn⟩ := own0 HI.out.1.sg.nodes hlt
      subst hgn
      obtain ⟨b1, o1, c1, e1, z1, x0, x1, x2, x3, x4, x5, x6, x7, x8, x9⟩ := ls_atV (owns_ls (E := EV) HI.out.1.sg.nodes) hy
      simp only [Value.slice.injEq, Option.some.injEq, Addr.mk.injEq] at e1
      obtain ⟨⟨rfl, rfl, -⟩, -, rfl⟩ := e1
      simp only [Nat.zero_add] at x0 x1 x2 x3 x4 x5 x6 x7 x8 x9
      have HY := hid hy
      obtain ⟨⟨yk, yi, yo, cd, via, bd, cnn, st⟩, cq, cm, cc, dq, dm, dc⟩ := y
      simp only [NV.cv, NV.dv] at x0 x1 x2 x3 x4 x5 x6 x7 x8 x9
      obtain ⟨nb, hnb⟩ : ∃ b, b = wr.heap.size := ⟨_, rfl⟩
      obtain ⟨W5, hW5⟩ : ∃ W, W = wr.alloc (.cells (ncells yk yi yo (.slice cq cm cc) via bd (.slice dq dm dc) st) 39) := ⟨_, rfl⟩
      have P5 : Hid ((Sq B M w W5 gb a (.slice (some ⟨gn, 0, none⟩) nl cn) (.slice qe el ce) zs ∧ zs.length = nl ∧ w.heap.size ≤ nb) ∧ W5.heap[nb]? = some (.cells (ncells yk yi yo (.slice cq cm cc) via bd (.slice dq dm dc) st) 39 (0, 0))) := by
        rw [hW5, hnb]
        exact ⟨⟨HI.out.1.below ((Gr.refl wr).alloc _).below, HI.out.2, HI.out.1.kp.size⟩, heap_new' _ _⟩
      have HW5 : Hid (wr.alloc (.cells #[.int .i64 yk, .int .i64 yi, .int .i64 yo, .slice cq cm cc, .int .u64 (via.1 : Nat), .int .u64 (via.2.1 : Nat), .int .u64 (via.2.2 : Nat), .int .u64 (bd : Nat), .slice dq dm dc, .bool st] 39) = W5 ∧ wr.heap.size = nb) := ⟨hW5.symm, hnb.symm⟩
      clear hW5 hnb hy HI
      go_upto_region 5 with fail
      rw [HW5.out.1, HW5.out.2]
      clear HW5 x0 x1 x2 x3 x4 x5 x6 x7 x8 x9 z1 cx lx
      have KEEP : Hid (∀ {b : Nat} {cur : Array Value} {T : TypeId} {v v' : World}, (Sq B M w v gb a (.slice (some ⟨gn, 0, none⟩) nl cn) (.slice qe el ce) zs ∧ zs.length = nl ∧ w.heap.size ≤ nb) ∧ v.heap[nb]? = some (.cells (ncells yk yi yo (.slice cq cm cc) via bd (.slice dq dm dc) st) 39 (0, 0)) → v.heap[b]? = some (.cells cur T (0, 0)) → T ≠ 39 → T ≠ 25 → B ≤ b ∧ b < M → Sb (fun k => k = b) v v' → (Sq B M w v' gb a (.slice (some ⟨gn, 0, none⟩) nl cn) (.slice qe el ce) zs ∧ zs.length = nl ∧ w.heap.size ≤ nb) ∧ v'.heap[nb]? = some (.cells (ncells yk yi yo (.slice cq cm cc) via bd (.slice dq dm dc) st) 39 (0, 0))) := fun h hb hT hG h1 k => by
        refine ⟨⟨h.1.1.sb hb hT hG h1 k, h.1.2⟩, (k.kp.block _ (tk_lt h.2) (fun e => ?_)).trans h.2⟩
        have := h.1.2.2
        have := HM.out.1
        omega
      have KEAP : Hid (∀ {n sz : Nat} {u : Value} {xs : List Value} {T : TypeId} {v v' : World}, (Sq B M w v gb a (.slice (some ⟨gn, 0, none⟩) nl cn) (.slice qe el ce) zs ∧ zs.length = nl ∧ w.heap.size ≤ nb) ∧ v.heap[nb]? = some (.cells (ncells yk yi yo (.slice cq cm cc) via bd (.slice dq dm dc) st) 39 (0, 0)) → v.ownsRow B T sz u n xs → T ≠ 39 → T ≠ 25 → (∀ k, u.ownBlock = some k → k < M) → Sb (fun k => u.ownBlock = some k) v v' → (Sq B M w v' gb a (.slice (some ⟨gn, 0, none⟩) nl cn) (.slice qe el ce) zs ∧ zs.length = nl ∧ w.heap.size ≤ nb) ∧ v'.heap[nb]? = some (.cells (ncells yk yi yo (.slice cq cm cc) via bd (.slice dq dm dc) st) 39 (0, 0))) := fun h ho hT hG h1 k => by
        refine ⟨⟨h.1.1.ap ho hT hG h1 k, h.1.2⟩, (k.kp.block _ (tk_lt h.2) (fun e => ?_)).trans h.2⟩
        have := h.1.2.2
        have := HM.out.1
        have := h1 _ e
        omega
      go_wp2_with fail
      go_loopw [4] (fun s4 wv => ∃ k : Nat, k ≤ cm ∧ s4 = .int .i64 (k : Nat) ∧ Hid ((Sq B M w wv gb a (.slice (some ⟨gn, 0, none⟩) nl cn) (.slice qe el ce) zs ∧ zs.length = nl ∧ w.heap.size ≤ nb) ∧ wv.heap[nb]? = some (.cells (ncells yk yi yo (.slice cq cm cc) via bd (.slice dq dm dc) st) 39 (0, 0)))) (fun s4 _ => cm - (RowKit.intOf s4).toNat)
      case atStart => exact ⟨0, Nat.zero_le _, rfl, P5.out⟩
      case round =>
        clear P5
        obtain ⟨k, hk, rfl, HV⟩ := hrel
        have cy := (tk_store HV.out.2).1
        have ly := tk_lt HV.out.2
        by_cases hlk : k < cm
        · have hlkz : (k : Int) < (cm : Int) := by omega
          have hk0 : (0 : Int) ≤ (k : Int) := by omega
          obtain ⟨gc, cur, hq, q1, q2, q3, q4, q5⟩ := (HV.out.1.1.sg.each _ (List.mem_of_getElem? HY.out)).1.at hlk
          simp only at hq q5
          have c0 : wr.cell? ⟨gc, k * 2, none⟩ = some (cur[k * 2]'(by omega)) := ((tk_store q3).1 _).trans (by simp)
          have c1 : wr.cell? ⟨gc, k * 2 + 1, none⟩ = some (cur[k * 2 + 1]'(by omega)) := ((tk_store q3).1 _).trans (by simp)
          have f0 := (tk_store q3).2 (k * 2)
          have f1 := (tk_store q3).2 (k * 2 + 1)
          have l0 := tk_lt q3
          have FIN := hid (KEEP.out HV.out q3 (by decide) (by decide) ⟨q1, q2⟩ (Sb.set2 q3 (k * 2) (k * 2 + 1) (.int .i64 (-1)) (.int .u64 0)))
          rw [hq] at cy FIN ⊢
          clear q3 HV q1 q2
          go_wp2_with fail
          go_roundw
          case rel => exact ⟨k + 1, by omega, by go_num, FIN.out⟩
          case measure => simp [RowKit.intOf]; omega
        · have hlkz : ¬ (k : Int) < (cm : Int) := by omega
          clear cy ly
          have cy := (tk_store HV.out.2).1
          have ly := tk_lt HV.out.2
          go_wp2_with fail
          clear cy ly
          go_loopw [5] (fun s5 wv => ∃ k : Nat, k ≤ dm ∧ s5 = .int .i64 (k : Nat) ∧ Hid ((Sq B M w wv gb a (.slice (some ⟨gn, 0, none⟩) nl cn) (.slice qe el ce) zs ∧ zs.length = nl ∧ w.heap.size ≤ nb) ∧ wv.heap[nb]? = some (.cells (ncells yk yi yo (.slice cq cm cc) via bd (.slice dq dm dc) st) 39 (0, 0)))) (fun s5 _ => dm - (RowKit.intOf s5).toNat)
          case atStart => exact ⟨0, Nat.zero_le _, rfl, HV.out⟩
          case round =>
            clear HV hlk hlkz hk
            obtain ⟨k, hk, rfl, HV⟩ := hrel
            have cy := (tk_store HV.out.2).1
            have ly := tk_lt HV.out.2
            by_cases hlk : k < dm
            · have hlkz : (k : Int) < (dm : Int) := by omega
              have hk0 : (0 : Int) ≤ (k : Int) := by omega
              obtain ⟨gc, cur, hq, q1, q2, q3, q4, q5⟩ := (HV.out.1.1.sg.each _ (List.mem_of_getElem? HY.out)).2.at hlk
              simp only at hq q5
              have c0 : wr.cell? ⟨gc, k * 5, none⟩ = some (cur[k * 5]'(by omega)) := ((tk_store q3).1 _).trans (by simp)
              have c1 : wr.cell? ⟨gc, k * 5 + 1, none⟩ = some (cur[k * 5 + 1]'(by omega)) := ((tk_store q3).1 _).trans (by simp)
              have c2 : wr.cell? ⟨gc, k * 5 + 2, none⟩ = some (cur[k * 5 + 2]'(by omega)) := ((tk_store q3).1 _).trans (by simp)
              have c3 : wr.cell? ⟨gc, k * 5 + 3, none⟩ = some (cur[k * 5 + 3]'(by omega)) := ((tk_store q3).1 _).trans (by simp)
              have c4 : wr.cell? ⟨gc, k * 5 + 4, none⟩ = some (cur[k * 5 + 4]'(by omega)) := ((tk_store q3).1 _).trans (by simp)
              have f0 := (tk_store q3).2
              have l0 := tk_lt q3
              have FIN := hid (KEEP.out HV.out q3 (by decide) (by decide) ⟨q1, q2⟩ (Sb.set5 q3 (k * 5) (k * 5 + 1) (k * 5 + 2) (k * 5 + 3) (k * 5 + 4) (.int .i64 (-1)) (.int .i64 0) (.int .u64 0) (.int .u64 0) (.int .u64 0)))
              rw [hq] at cy FIN ⊢
              clear q3 HV q1 q2
              go_wp2_with fail
              go_roundw
              case rel => exact ⟨k + 1, by omega, by go_num, FIN.out⟩
              case measure => simp [RowKit.intOf]; omega
            · have hlkz : ¬ (k : Int) < (dm : Int) := by omega
              obtain ⟨n1, xs1, h1n, h1o, h1l⟩ := (HV.out.1.1.sg.each _ (List.mem_of_getElem? HY.out)).1
              have H1 : Hid (n1 ≤ 1000 ∧ wr.ownsRow B 72 2 (.slice cq cm cc) n1 xs1 ∧ ∀ k, (Value.slice cq cm cc).ownBlock = some k → k < M) := ⟨h1n, h1o, h1l⟩
              clear h1n h1o h1l
              go_wp2_with (at_builtin; refine wpAppS Try.underlying33 infoO rfl _ _ rfl B _ n1 xs1 rfl H1.out.2.1 1 rfl (by decide) (by have := H1.out.1; omega) (by have := H1.out.1; unfold maxLen; omega) _ rfl rfl _ ?_)
              intro v9 w9 s9 _
              have HV9 := hid (KEAP.out HV.out H1.out.2.1 (by decide) (by decide) H1.out.2.2 s9)
              clear s9 HV H1 cy ly
              have cy := (tk_store HV9.out.2).1
              have ly := tk_lt HV9.out.2
              obtain ⟨n2, xs2, h2n, h2o, h2l⟩ := (HV9.out.1.1.sg.each _ (List.mem_of_getElem? HY.out)).2
              have H2 : Hid (n2 ≤ 1000 ∧ w9.ownsRow B 64 5 (.slice dq dm dc) n2 xs2 ∧ ∀ k, (Value.slice dq dm dc).ownBlock = some k → k < M) := ⟨h2n, h2o, h2l⟩
              clear h2n h2o h2l
              go_wp2_with (at_builtin; refine wpAppS Try.underlying37 infoC rfl _ _ rfl B _ n2 xs2 rfl H2.out.2.1 1 rfl (by decide) (by have := H2.out.1; omega) (by have := H2.out.1; unfold maxLen; omega) _ rfl rfl _ ?_)
              intro v10 w10 s10 _
              have HV10 := hid (KEAP.out HV9.out H2.out.2.1 (by decide) (by decide) H2.out.2.2 s10)
              clear s10 HV9 H2 cy ly
              have cx := (tk_store HV10.out.1.1.box).1
              have lx := tk_lt HV10.out.1.1.box
              obtain ⟨b1, o1, c1, e1, z1, x0, -⟩ := ls_atV (owns_ls (E := EV) HV10.out.1.1.sg.nodes) HY.out
              simp only [Value.slice.injEq, Option.some.injEq, Addr.mk.injEq] at e1
              obtain ⟨⟨rfl, rfl, -⟩, -, rfl⟩ := e1
              simp only [Nat.zero_add] at x0
              have f0 := own_fr HV10.out.1.1.sg.nodes
              have FIN : Hid (∃ zs', Sq B M w (w10.setCell ⟨gn, i * 10, none⟩ (.int .i64 (-1))) gb a (.slice (some ⟨gn, 0, none⟩) nl cn) (.slice qe el ce) zs' ∧ zs'.length = nl) := ⟨_, HV10.out.1.1.kind HY.out (-1), by rw [List.length_set]; exact HV10.out.1.2.1⟩
              have hn1 := HM.out.2
              go_wp2_with fail
              go_roundw
              case rel =>
                obtain ⟨zs', hz'⟩ := FIN.out
                exact ⟨i + 1, zs', by omega, by go_num, hz'⟩
              case measure => simp [RowKit.intOf]; omega
    · have hltz : ¬ (i : Int) < (nl : Int) := by omega
      go_wp2_with fail
      clear cx lx
      go_loopw [6] (fun s6 wv => ∃ k : Nat, k ≤ el ∧ s6 = .int .i64 (k : Nat) ∧ Hid (Sq B M w wv gb a (.slice qn nl cn) (.slice qe el ce) zs ∧ zs.length = nl)) (fun s6 _ => el - (RowKit.intOf s6).toNat)
      case atStart => exact ⟨0, Nat.zero_le _, rfl, HI.out⟩
      case round =>
        clear HI
        obtain ⟨k, hk, rfl, HV⟩ := hrel
        have cx := (tk_store HV.out.1.box).1
        have lx := tk_lt HV.out.1.box
        by_cases hlk : k < el
        · have hlkz : (k : Int) < (el : Int) := by omega
          have hk0 : (0 : Int) ≤ (k : Int) := by omega
          obtain ⟨gc, cur, hq, q1, q2, q3, q4, q5⟩ := HV.out.1.sg.edges.at hlk
          have c0 : wr.cell? ⟨gc, k * 5, none⟩ = some (cur[k * 5]'(by omega)) := ((tk_store q3).1 _).trans (by simp)
          have c1 : wr.cell? ⟨gc, k * 5 + 1, none⟩ = some (cur[k * 5 + 1]'(by omega)) := ((tk_store q3).1 _).trans (by simp)
          have c2 : wr.cell? ⟨gc, k * 5 + 2, none⟩ = some (cur[k * 5 + 2]'(by omega)) := ((tk_store q3).1 _).trans (by simp)
          have c3 : wr.cell? ⟨gc, k * 5 + 3, none⟩ = some (cur[k * 5 + 3]'(by omega)) := ((tk_store q3).1 _).trans (by simp)
          have c4 : wr.cell? ⟨gc, k * 5 + 4, none⟩ = some (cur[k * 5 + 4]'(by omega)) := ((tk_store q3).1 _).trans (by simp)
          have f0 := (tk_store q3).2
          have l0 := tk_lt q3
          have FIN := hid (HV.out.1.sb q3 (by decide) (by decide) ⟨q1, q2⟩ (Sb.set5 q3 (k * 5) (k * 5 + 1) (k * 5 + 2) (k * 5 + 3) (k * 5 + 4) (.int .i64 (-1)) (.int .i64 0) (.int .i64 0) (.int .i64 0) (.bool false)))
          have HZ := hid HV.out.2
          rw [hq] at cx FIN ⊢
          clear q3 HV q1 q2
          go_wp2_with fail
          go_roundw
          case rel => exact ⟨k + 1, by omega, by go_num, FIN.out, HZ.out⟩
          case measure => simp [RowKit.intOf]; omega
        · have hlkz : ¬ (k : Int) < (el : Int) := by omega
          have HN := hid HV.out.1.sg.nodes
          have HF : Hid (zs.length ≤ 1000) := HV.out.1.sg.few
          go_wp2_with (at_builtin; refine wpAppS Try.underlying22 infoV rfl _ _ rfl B _ zs.length _ rfl HN.out 1 rfl (by decide) (by have := HF.out; omega) (by have := HF.out; unfold maxLen; omega) _ rfl rfl _ ?_)
          intro v9 w9 s9 _
          have HV9 : Hid (Kp (fun k => B ≤ k ∧ k < M) w w9 ∧ w9.heap[gb]? = some (.cells (gvc a (.slice qn nl cn) (.slice qe el ce)) 25 (0, 0)) ∧ Ro B M 47 5 w9 (.slice qe el ce)) := ⟨HV.out.1.kp.trans s9.kp (fun j _ e => ⟨(owns_rd HN.out j e).1, HV.out.1.sg.nlow j e⟩), (s9.kp.block _ (tk_lt HV.out.1.box) (fun e => owns_ne_blk HN.out HV.out.1.box (by decide) _ e rfl)).trans HV.out.1.box, HV.out.1.sg.edges.sb s9⟩
          clear s9 HV cx lx HN
          have cx := (tk_store HV9.out.2.1).1
          have lx := tk_lt HV9.out.2.1
          obtain ⟨n2, xs2, h2n, h2o, h2l⟩ := HV9.out.2.2
          have H2 : Hid (n2 ≤ 1000 ∧ w9.ownsRow B 47 5 (.slice qe el ce) n2 xs2 ∧ ∀ k, (Value.slice qe el ce).ownBlock = some k → k < M) := ⟨h2n, h2o, h2l⟩
          clear h2n h2o h2l
          go_wp2_with (at_builtin; refine wpAppS Try.underlying23 infoD rfl _ _ rfl B _ n2 xs2 rfl H2.out.2.1 1 rfl (by decide) (by have := H2.out.1; omega) (by have := H2.out.1; unfold maxLen; omega) _ rfl rfl _ ?_)
          intro v10 w10 s10 _
          have FIN := hid (HV9.out.1.trans s10.kp (fun j _ e => ⟨(owns_rd H2.out.2.1 j e).1, H2.out.2.2 j e⟩))
          clear s10 HV9 H2 cx lx
          go_wp2_with fail
          go_end0
          exact ⟨rfl, FIN.out⟩
end Go.Proofs.Ytdiecnacbkpceaa.Df
