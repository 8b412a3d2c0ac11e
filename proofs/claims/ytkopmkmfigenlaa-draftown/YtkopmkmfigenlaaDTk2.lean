import Derived.Test.YtkopmkmfigenlaaDTk
namespace Go.Proofs.Ytkopmkmfigenlaa.Df
open Go.RowKit Go.Sort Wi
attribute [local go_sem ↓] Go.wp_at_zero Go.wp_at_succ

theorem tk_lt {w : World} {b : Nat} {o : Obj} (h : w.heap[b]? = some o) : b < w.heap.size := (Array.getElem?_eq_some_iff.1 h).1
theorem tk_cell {w : World} {b : Nat} {x : Value} {t : TypeId} (h : w.heap[b]? = some (.cells #[x] t (0, 0))) : w.cell? ⟨b, 0, none⟩ = some x := by simp [World.cell?, h]
theorem tk_store {w : World} {b : Nat} {cs : Array Value} {t : TypeId} (h : w.heap[b]? = some (.cells cs t (0, 0))) : (∀ i, w.cell? ⟨b, i, none⟩ = cs[i]?) ∧ ∀ i, w.frozen? ⟨b, i, none⟩ = false := by
  refine ⟨fun i => by simp [World.cell?, h], fun i => by simp [World.frozen?, h]⟩
theorem new2 (w : World) (o1 o2 : Obj) : (((w.alloc o1).alloc o2).drew).heap[w.heap.size + 1]? = some o2 := by
  have h := heap_new' (w.alloc o1) o2
  rwa [show (w.alloc o1).heap.size = w.heap.size + 1 by simp] at h
theorem new1 (w : World) (o1 o2 : Obj) : (((w.alloc o1).alloc o2).drew).heap[w.heap.size]? = some o1 := by
  have h := heap_new' w o1
  rw [← h]
  exact ((Gr.refl (w.alloc o1)).alloc o2).drew.below.block w.heap.size (by simp)
theorem tk_set {w : World} {b : Nat} {cs : Array Value} {t : TypeId} (h : w.heap[b]? = some (.cells cs t (0, 0))) (i : Nat) (x : Value) : (w.setCell ⟨b, i, none⟩ x).heap[b]? = some (.cells (cs.setIfInBounds i x) t (0, 0)) ∧ Kp (fun k => k = b) w (w.setCell ⟨b, i, none⟩ x) := by
  have e := setCell_eq_setRow w b i _ _ _ x h
  rw [e]
  exact ⟨by rw [setRow_heap w b _ _ _ _ h], rfl, rfl, rfl, by simp [World.setRow], fun k _ hne => setRow_other w b k _ (by omega)⟩
abbrev pthv (p : Pth) : Value := .agg #[.int .u64 (p.1 : Nat), .int .u64 (p.2.1 : Nat), .int .u64 (p.2.2 : Nat)]
abbrev Vpth (_ : World) (u : Value) (x : Pth) : Prop := u = pthv x
abbrev conv (c : Con) : Value := .agg #[.int .i64 c.inn, .int .i64 c.out, .int .u64 (c.via.1 : Nat), .int .u64 (c.via.2.1 : Nat), .int .u64 (c.via.2.2 : Nat)]
abbrev Vcon (_ : World) (u : Value) (x : Con) : Prop := u = conv x
abbrev edgv (x : Edg) : Value := .agg #[.int .i64 x.src, .int .i64 x.out, .int .i64 x.dst, .int .i64 x.inn, .bool x.keyed]
abbrev Vedg (_ : World) (u : Value) (x : Edg) : Prop := u = edgv x
abbrev Vb (_ : World) (u : Value) (x : Bool) : Prop := u = .bool x
set_option maxHeartbeats 1000000 in
theorem ttruth_any {rb a : Nat} {v : Value} {L : List UInt8} (w : World) (hR : Rd w rb v L a 0) : Calls Try.prog 76 #[tv rb] w (Tk truth Vb rb v L a w) := by
  have hat := fun W (hg : Gr w W) => rat_any W (hR.gr hg)
  have hby := fun W (hg : Gr w W) => rbyte_any W (hR.gr hg)
  have hsz := hR.lt
  have htr : truth L a = (match L.drop a with | [] => .inl (30, a) | x :: _ => if x.toNat ≤ 1 then .inr (x.toNat == 1, a + 1) else .inl (31, a)) := rfl
  generalize L.drop a = M at hby htr
  have HT := hid htr
  clear hR htr
  cases M with
  | nil =>
    rw [show rb1 0 [] = (0, 0, 30) from rfl] at hby
    go_enter Try.func76, Try.ntmps76
    go_wp2_with (go_at_call 82; refine (hat _ ((Gr.refl _).alloc _)).mono ?_; rintro r w3 ⟨rfl, rfl⟩)
    go_at_call 88
    refine (hby _ ((Gr.refl _).alloc _)).mono ?_
    rintro r w4 ⟨rfl, h4, k4⟩
    have c0 : w4.cell? ⟨w.heap.size, 0, none⟩ = some (.pointer (some ⟨rb, 0, none⟩)) := by
      rw [k4.cell (by simp) (by omega)]
      simp [go_sem]
    have l0 : w.heap.size < w4.heap.size := Nat.lt_of_lt_of_le (by simp) k4.size
    have hlo := look_bad w4 (by decide) h4
    have K4 := hid k4
    clear h4 k4
    go_wp2_with (first | (go_at_call 51; refine hlo.mono ?_; rintro r w6 ⟨rfl, g6⟩; have G6 := hid g6; clear g6))
    refine ⟨rfl, Tk.no (by rw [HT.out]) (kp_then ((Gr.refl w).alloc _) (kp_gr K4.out G6.out))⟩
  | cons x M =>
    rw [show rb1 0 (x :: M) = (x.toNat, 1, 0) from rfl] at hby
    have HT : Hid (truth L a = if x.toNat ≤ 1 then .inr (x.toNat == 1, a + 1) else .inl (31, a)) := HT.out
    by_cases hx : x.toNat ≤ 1
    · have hz : ¬ (1 : Int) < (x.toNat : Int) := by omega
      go_enter Try.func76, Try.ntmps76
      go_wp2_with (go_at_call 82; refine (hat _ ((Gr.refl _).alloc _)).mono ?_; rintro r w3 ⟨rfl, rfl⟩)
      go_at_call 88
      refine (hby _ ((Gr.refl _).alloc _)).mono ?_
      rintro r w4 ⟨rfl, h4, k4⟩
      have c0 : w4.cell? ⟨w.heap.size, 0, none⟩ = some (.pointer (some ⟨rb, 0, none⟩)) := by
        rw [k4.cell (by simp) (by omega)]
        simp [go_sem]
      have l0 : w.heap.size < w4.heap.size := Nat.lt_of_lt_of_le (by simp) k4.size
      have hlo := look_ok w4 h4
      have K4 := hid k4
      have H4 := hid h4
      clear h4 k4
      go_wp2_with (first | (go_at_call 51; refine hlo.mono ?_; rintro r w6 ⟨rfl, g6⟩; have G6 := hid g6; clear g6))
      go_ret
      refine Tk.yes (x := x.toNat == 1) (by rw [HT.out, if_pos hx]) (kp_then ((Gr.refl w).alloc _) (kp_gr K4.out G6.out)) (H4.out.gr G6.out) ?_
      show Value.bool _ = Value.bool _
      congr 1
      rw [Bool.eq_iff_iff]
      simp
      try omega
    · have hz : (1 : Int) < (x.toNat : Int) := by omega
      have hgu := fun W => giveup_any 31 a W
      go_enter Try.func76, Try.ntmps76
      go_wp2_with (go_at_call 82; refine (hat _ ((Gr.refl _).alloc _)).mono ?_; rintro r w3 ⟨rfl, rfl⟩)
      go_at_call 88
      refine (hby _ ((Gr.refl _).alloc _)).mono ?_
      rintro r w4 ⟨rfl, h4, k4⟩
      have c0 : w4.cell? ⟨w.heap.size, 0, none⟩ = some (.pointer (some ⟨rb, 0, none⟩)) := by
        rw [k4.cell (by simp) (by omega)]
        simp [go_sem]
      have l0 : w.heap.size < w4.heap.size := Nat.lt_of_lt_of_le (by simp) k4.size
      have hlo := look_ok w4 h4
      have K4 := hid k4
      clear h4 k4
      go_wp2_with (first | (go_at_call 51; refine hlo.mono ?_; rintro r w6 ⟨rfl, g6⟩; have G6 := hid g6; clear g6) | (go_at_call 59; refine (hgu _).mono ?_; rintro r w7 ⟨rfl, rfl⟩))
      refine ⟨rfl, Tk.no (by rw [HT.out, if_neg hx]) (kp_then ((Gr.refl w).alloc _) (kp_gr K4.out G6.out))⟩
abbrev opv (o : Opd) : Value := .agg #[.int .i64 o.kind, .int .u64 (o.arg : Nat)]
abbrev Vop (_ : World) (u : Value) (x : Opd) : Prop := u = opv x
set_option maxHeartbeats 2000000 in
theorem tpath_any {rb a : Nat} {v : Value} {L : List UInt8} (w : World) (hR : Rd w rb v L a 0) : Calls Try.prog 75 #[tv rb] w (Tk ppth Vpth rb v L a w) := by
  have hsz := hR.lt
  have HR := hid hR
  clear hR
  go_enter Try.func75, Try.ntmps75
  go_wp2_with fail
  have hg0 : Gr w (((w.alloc (.cells #[.pointer (some ⟨rb, 0, none⟩)] 73)).alloc (.cells #[.int .u64 0, .int .u64 0, .int .u64 0] 64)).drew) := (((Gr.refl w).alloc _).alloc _).drew
  have hb0 : (((w.alloc (.cells #[.pointer (some ⟨rb, 0, none⟩)] 73)).alloc (.cells #[.int .u64 0, .int .u64 0, .int .u64 0] 64)).drew).heap[w.heap.size + 1]? = some (.cells #[.int .u64 0, .int .u64 0, .int .u64 0] 64 (0, 0)) := new2 w _ _
  have ht0 : (((w.alloc (.cells #[.pointer (some ⟨rb, 0, none⟩)] 73)).alloc (.cells #[.int .u64 0, .int .u64 0, .int .u64 0] 64)).drew).heap[w.heap.size]? = some (.cells #[.pointer (some ⟨rb, 0, none⟩)] 73 (0, 0)) := new1 w _ _
  refine wp_region_held_drew (S := fun W => W.heap[w.heap.size]? = some (.cells #[.pointer (some ⟨rb, 0, none⟩)] 73 (0, 0))) (by kernel_rfl) ht0 (fun hHeld => ?_)
  generalize ((w.alloc (.cells #[.pointer (some ⟨rb, 0, none⟩)] 73)).alloc (.cells #[.int .u64 0, .int .u64 0, .int .u64 0] 64)).drew = W0 at hg0 hb0 ht0 hHeld ⊢
  refine' wpAnyH_take (i := 0) (oi := { dst := some 3, op := Go.Op.load 73 (Go.Operand.tmp 1), type := 73, pos := "get.go:63", after := #[], guard := none }) (v := _) rfl (by kernel_rfl) (by kernel_rfl) (by kernel_rfl) (fun _ _ _ h => h) (Or.inl ⟨by rfl, ?hy0⟩) (by assumption) ?rest0
  case hy0 => (intro W hSw; have hc := tk_cell hSw; have hl := tk_lt hSw; go_simp; try (with_reducible rfl))
  try simp only [Act.put, List.setIfInBounds_toArray, List.set_cons_zero, List.set_cons_succ]
  refine' wpAnyH_take (i := 2) (oi := { dst := some 5, op := Go.Op.load 73 (Go.Operand.tmp 1), type := 73, pos := "get.go:63", after := #[], guard := none }) (v := _) rfl (by kernel_rfl) (by kernel_rfl) (by kernel_rfl) (fun _ _ _ h => h) (Or.inl ⟨by rfl, ?hy2⟩) (by assumption) ?rest2
  case hy2 => (intro W hSw; have hc := tk_cell hSw; have hl := tk_lt hSw; go_simp; try (with_reducible rfl))
  try simp only [Act.put, List.setIfInBounds_toArray, List.set_cons_zero, List.set_cons_succ]
  refine' wpAnyH_take (i := 4) (oi := { dst := some 7, op := Go.Op.load 73 (Go.Operand.tmp 1), type := 73, pos := "get.go:63", after := #[], guard := none }) (v := _) rfl (by kernel_rfl) (by kernel_rfl) (by kernel_rfl) (fun _ _ _ h => h) (Or.inl ⟨by rfl, ?hy4⟩) (by assumption) ?rest4
  case hy4 => (intro W hSw; have hc := tk_cell hSw; have hl := tk_lt hSw; go_simp; try (with_reducible rfl))
  try simp only [Act.put, List.setIfInBounds_toArray, List.set_cons_zero, List.set_cons_succ]
  have k0 := Kp.of_gr (S := fun k => k = rb) hg0
  have r0 := HR.out.gr hg0
  refine wpAnyH_ready (rs := [1]) (by kernel_rfl) (by simp) ?_
  refine AllReadyH.cons (o := { dst := some 4, op := Go.Op.call { callee := Go.Callee.value (Go.Operand.func 74), args := #[Go.Operand.tmp 3], argTypes := #[73] }, type := 62, pos := "get.go:63", after := #[{ on := 0, ground := Go.Ground.data }], guard := none }) rfl (fun K hK => ?_) AllReadyH.nil
  go_simp
  refine (tnum_any _ r0).mono ?_
  intro r w1 h1
  cases e1 : any L a with
  | inl x =>
    obtain ⟨rfl, kk⟩ := h1.bad e1
    go_wp2_with fail
    exact ⟨rfl, Tk.no (by simp only [ppth, Pa.and, Pa.bind, e1]) (k0.trans kk (fun _ _ h => h))⟩
  | inr x1 =>
    obtain ⟨u1, rfl, rfl, r1, kk1⟩ := h1.good e1
    have k1 := k0.trans kk1 (fun _ _ h => h)
    have ht1 := (kk1.block _ (tk_lt ht0) (by omega)).trans ht0
    have hb1 := (kk1.block _ (tk_lt hb0) (by omega)).trans hb0
    clear h1 kk1
    go_wp2_with fail
    refine hK.out _ _ ht1 (fun _ => ?_)
    clear hK K hHeld
    have hHeld := ht1
    try simp only [Act.put, List.setIfInBounds_toArray, List.set_cons_zero, List.set_cons_succ]
    refine wpAnyH_ready (rs := [3]) (by kernel_rfl) (by simp) ?_
    refine AllReadyH.cons (o := { dst := some 6, op := Go.Op.call { callee := Go.Callee.value (Go.Operand.func 74), args := #[Go.Operand.tmp 5], argTypes := #[73] }, type := 62, pos := "get.go:63", after := #[{ on := 2, ground := Go.Ground.data }, { on := 1, ground := Go.Ground.chain }], guard := none }) rfl (fun K hK => ?_) AllReadyH.nil
    go_simp
    refine (tnum_any _ r1).mono ?_
    intro r w2 h2
    cases e2 : any L x1.2 with
    | inl x =>
      obtain ⟨rfl, kk⟩ := h2.bad e2
      go_wp2_with fail
      exact ⟨rfl, Tk.no (by simp only [ppth, Pa.and, Pa.map, Pa.bind, e1, e2]) (k1.trans kk (fun _ _ h => h))⟩
    | inr x2 =>
      obtain ⟨u2, rfl, rfl, r2, kk2⟩ := h2.good e2
      have k2 := k1.trans kk2 (fun _ _ h => h)
      have ht2 := (kk2.block _ (tk_lt ht1) (by omega)).trans ht1
      have hb2 := (kk2.block _ (tk_lt hb1) (by omega)).trans hb1
      clear h2 kk2
      go_wp2_with fail
      refine hK.out _ _ ht2 (fun _ => ?_)
      clear hK K hHeld
      have hHeld := ht2
      try simp only [Act.put, List.setIfInBounds_toArray, List.set_cons_zero, List.set_cons_succ]
      refine wpAnyH_ready (rs := [5]) (by kernel_rfl) (by simp) ?_
      refine AllReadyH.cons (o := { dst := some 8, op := Go.Op.call { callee := Go.Callee.value (Go.Operand.func 74), args := #[Go.Operand.tmp 7], argTypes := #[73] }, type := 62, pos := "get.go:63", after := #[{ on := 4, ground := Go.Ground.data }, { on := 3, ground := Go.Ground.chain }], guard := none }) rfl (fun K hK => ?_) AllReadyH.nil
      go_simp
      refine (tnum_any _ r2).mono ?_
      intro r w3 h3
      cases e3 : any L x2.2 with
      | inl x =>
        obtain ⟨rfl, kk⟩ := h3.bad e3
        go_wp2_with fail
        exact ⟨rfl, Tk.no (by simp only [ppth, Pa.and, Pa.map, Pa.bind, e1, e2, e3]) (k2.trans kk (fun _ _ h => h))⟩
      | inr x3 =>
        obtain ⟨u3, rfl, rfl, r3, kk3⟩ := h3.good e3
        have k3 := k2.trans kk3 (fun _ _ h => h)
        have ht3 := (kk3.block _ (tk_lt ht2) (by omega)).trans ht2
        have hb3 := (kk3.block _ (tk_lt hb2) (by omega)).trans hb2
        clear h3 kk3
        go_wp2_with fail
        refine hK.out _ _ ht3 (fun _ => ?_)
        clear hK K hHeld
        have hHeld := ht3
        try simp only [Act.put, List.setIfInBounds_toArray, List.set_cons_zero, List.set_cons_succ]
        refine' wpAnyH_take (i := 6) (oi := { dst := some 9, op := Go.Op.build 64 #[(0, Go.Operand.tmp 4), (1, Go.Operand.tmp 6), (2, Go.Operand.tmp 8)], type := 64, pos := "get.go:63", after := #[{ on := 1, ground := Go.Ground.data }, { on := 3, ground := Go.Ground.data }, { on := 5, ground := Go.Ground.data }], guard := none }) (v := _) rfl (by kernel_rfl) (by kernel_rfl) (by kernel_rfl) (fun _ _ _ h => h) (Or.inl ⟨by rfl, ?hy6⟩) (by assumption) ?rest6
        case hy6 => (intro W hSw; have hc := tk_cell hSw; have hl := tk_lt hSw; go_simp; try (with_reducible rfl))
        try simp only [Act.put, List.setIfInBounds_toArray, List.set_cons_zero, List.set_cons_succ]
        have hc0 := (tk_store hb3).1 0
        have hf0 := (tk_store hb3).2 0
        have hc1 := (tk_store hb3).1 1
        have hf1 := (tk_store hb3).2 1
        have hc2 := (tk_store hb3).1 2
        have hf2 := (tk_store hb3).2 2
        have hl2 := tk_lt hb3
        refine wpAnyH_ready (rs := [7]) (by kernel_rfl) (by simp) ?_
        refine AllReadyH.cons (o := { dst := none, op := Go.Op.store 64 (Go.Operand.tmp 2) (Go.Operand.tmp 9), type := 0, pos := "get.go:63", after := #[{ on := 6, ground := Go.Ground.data }, { on := 5, ground := Go.Ground.chain }, { on := 0, ground := Go.Ground.phase }, { on := 1, ground := Go.Ground.phase }, { on := 2, ground := Go.Ground.phase }, { on := 3, ground := Go.Ground.phase }, { on := 4, ground := Go.Ground.phase }, { on := 5, ground := Go.Ground.phase }, { on := 6, ground := Go.Ground.phase }], guard := none }) rfl (fun K hK => ?_) AllReadyH.nil
        go_simp
        obtain ⟨wf, hwf⟩ : ∃ wf, wf = (((w3.setCell ⟨w.heap.size + 1, 0, none⟩ (.int .u64 (x1.1 : Nat))).setCell ⟨w.heap.size + 1, 1, none⟩ (.int .u64 (x2.1 : Nat))).setCell ⟨w.heap.size + 1, 2, none⟩ (.int .u64 (x3.1 : Nat))) := ⟨_, rfl⟩
        rw [← hwf]
        have hbf : wf.heap[w.heap.size + 1]? = some (.cells #[.int .u64 (x1.1 : Nat), .int .u64 (x2.1 : Nat), .int .u64 (x3.1 : Nat)] 64 (0, 0)) := by rw [hwf]; exact (tk_set (tk_set (tk_set hb3 0 (.int .u64 (x1.1 : Nat))).1 1 (.int .u64 (x2.1 : Nat))).1 2 (.int .u64 (x3.1 : Nat))).1
        have hkf : Kp (fun k => k = w.heap.size + 1) w3 wf := by rw [hwf]; exact (((tk_set hb3 0 (.int .u64 (x1.1 : Nat))).2.trans (tk_set (tk_set hb3 0 (.int .u64 (x1.1 : Nat))).1 1 (.int .u64 (x2.1 : Nat))).2 (fun _ _ h => h)).trans (tk_set (tk_set (tk_set hb3 0 (.int .u64 (x1.1 : Nat))).1 1 (.int .u64 (x2.1 : Nat))).1 2 (.int .u64 (x3.1 : Nat))).2 (fun _ _ h => h))
        clear hwf
        refine hK.out _ _ ((hkf.block _ (tk_lt ht3) (by omega)).trans ht3) (fun _ => ?_)
        clear hK K hHeld
        try simp only [Act.put, List.setIfInBounds_toArray, List.set_cons_zero, List.set_cons_succ]
        refine wpAnyH_done (by kernel_rfl) ?_ _
        have q0 := (tk_store hbf).1 0
        have q1 := (tk_store hbf).1 1
        have q2 := (tk_store hbf).1 2
        have hlf := tk_lt hbf
        go_wp2_with fail
        refine bodyPost_ret (v := .agg #[.int .u64 (x1.1 : Nat), .int .u64 (x2.1 : Nat), .int .u64 (x3.1 : Nat)]) (by simp [results, Try.results75, go_sem, q0, q1, q2]) rfl ?_
        refine Tk.yes (x := (x1.1, x2.1, x3.1)) (by simp only [ppth, Pa.and, Pa.map, Pa.bind, e1, e2, e3]) (k3.trans hkf (fun j hj e => by omega)) (r3.kp hkf (by omega) (fun k hk e => by have := HR.out.ls.blk k hk; omega)) rfl
set_option maxHeartbeats 2000000 in
theorem top_any {rb a : Nat} {v : Value} {L : List UInt8} (w : World) (hR : Rd w rb v L a 0) : Calls Try.prog 73 #[tv rb] w (Tk popd Vop rb v L a w) := by
  have hsz := hR.lt
  have HR := hid hR
  clear hR
  go_enter Try.func73, Try.ntmps73
  go_wp2_with fail
  have hg0 : Gr w (((w.alloc (.cells #[.pointer (some ⟨rb, 0, none⟩)] 73)).alloc (.cells #[.int .i64 0, .int .u64 0] 78)).drew) := (((Gr.refl w).alloc _).alloc _).drew
  have hb0 : (((w.alloc (.cells #[.pointer (some ⟨rb, 0, none⟩)] 73)).alloc (.cells #[.int .i64 0, .int .u64 0] 78)).drew).heap[w.heap.size + 1]? = some (.cells #[.int .i64 0, .int .u64 0] 78 (0, 0)) := new2 w _ _
  have ht0 : (((w.alloc (.cells #[.pointer (some ⟨rb, 0, none⟩)] 73)).alloc (.cells #[.int .i64 0, .int .u64 0] 78)).drew).heap[w.heap.size]? = some (.cells #[.pointer (some ⟨rb, 0, none⟩)] 73 (0, 0)) := new1 w _ _
  refine wp_region_held_drew (S := fun W => W.heap[w.heap.size]? = some (.cells #[.pointer (some ⟨rb, 0, none⟩)] 73 (0, 0))) (by kernel_rfl) ht0 (fun hHeld => ?_)
  generalize ((w.alloc (.cells #[.pointer (some ⟨rb, 0, none⟩)] 73)).alloc (.cells #[.int .i64 0, .int .u64 0] 78)).drew = W0 at hg0 hb0 ht0 hHeld ⊢
  refine' wpAnyH_take (i := 0) (oi := { dst := some 3, op := Go.Op.load 73 (Go.Operand.tmp 1), type := 73, pos := "get.go:55", after := #[], guard := none }) (v := _) rfl (by kernel_rfl) (by kernel_rfl) (by kernel_rfl) (fun _ _ _ h => h) (Or.inl ⟨by rfl, ?hy0⟩) (by assumption) ?rest0
  case hy0 => (intro W hSw; have hc := tk_cell hSw; have hl := tk_lt hSw; go_simp; try (with_reducible rfl))
  try simp only [Act.put, List.setIfInBounds_toArray, List.set_cons_zero, List.set_cons_succ]
  refine' wpAnyH_take (i := 2) (oi := { dst := some 5, op := Go.Op.load 73 (Go.Operand.tmp 1), type := 73, pos := "get.go:55", after := #[], guard := none }) (v := _) rfl (by kernel_rfl) (by kernel_rfl) (by kernel_rfl) (fun _ _ _ h => h) (Or.inl ⟨by rfl, ?hy2⟩) (by assumption) ?rest2
  case hy2 => (intro W hSw; have hc := tk_cell hSw; have hl := tk_lt hSw; go_simp; try (with_reducible rfl))
  try simp only [Act.put, List.setIfInBounds_toArray, List.set_cons_zero, List.set_cons_succ]
  have k0 := Kp.of_gr (S := fun k => k = rb) hg0
  have r0 := HR.out.gr hg0
  refine wpAnyH_ready (rs := [1]) (by kernel_rfl) (by simp) ?_
  refine AllReadyH.cons (o := { dst := some 4, op := Go.Op.call { callee := Go.Callee.value (Go.Operand.func 45), args := #[Go.Operand.tmp 3], argTypes := #[73] }, type := 3, pos := "get.go:55", after := #[{ on := 0, ground := Go.Ground.data }], guard := none }) rfl (fun K hK => ?_) AllReadyH.nil
  go_simp
  refine (tint_any _ r0).mono ?_
  intro r w1 h1
  cases e1 : int L a with
  | inl x =>
    obtain ⟨rfl, kk⟩ := h1.bad e1
    go_wp2_with fail
    exact ⟨rfl, Tk.no (by simp only [popd, Pa.map, Pa.and, Pa.bind, e1]) (k0.trans kk (fun _ _ h => h))⟩
  | inr x1 =>
    obtain ⟨u1, rfl, rfl, r1, kk1⟩ := h1.good e1
    have k1 := k0.trans kk1 (fun _ _ h => h)
    have ht1 := (kk1.block _ (tk_lt ht0) (by omega)).trans ht0
    have hb1 := (kk1.block _ (tk_lt hb0) (by omega)).trans hb0
    clear h1 kk1
    go_wp2_with fail
    refine hK.out _ _ ht1 (fun _ => ?_)
    clear hK K hHeld
    have hHeld := ht1
    try simp only [Act.put, List.setIfInBounds_toArray, List.set_cons_zero, List.set_cons_succ]
    refine wpAnyH_ready (rs := [3]) (by kernel_rfl) (by simp) ?_
    refine AllReadyH.cons (o := { dst := some 6, op := Go.Op.call { callee := Go.Callee.value (Go.Operand.func 74), args := #[Go.Operand.tmp 5], argTypes := #[73] }, type := 62, pos := "get.go:55", after := #[{ on := 2, ground := Go.Ground.data }, { on := 1, ground := Go.Ground.chain }], guard := none }) rfl (fun K hK => ?_) AllReadyH.nil
    go_simp
    refine (tnum_any _ r1).mono ?_
    intro r w2 h2
    cases e2 : any L x1.2 with
    | inl x =>
      obtain ⟨rfl, kk⟩ := h2.bad e2
      go_wp2_with fail
      exact ⟨rfl, Tk.no (by simp only [popd, Pa.map, Pa.and, Pa.bind, e1, e2]) (k1.trans kk (fun _ _ h => h))⟩
    | inr x2 =>
      obtain ⟨u2, rfl, rfl, r2, kk2⟩ := h2.good e2
      have k2 := k1.trans kk2 (fun _ _ h => h)
      have ht2 := (kk2.block _ (tk_lt ht1) (by omega)).trans ht1
      have hb2 := (kk2.block _ (tk_lt hb1) (by omega)).trans hb1
      clear h2 kk2
      go_wp2_with fail
      refine hK.out _ _ ht2 (fun _ => ?_)
      clear hK K hHeld
      have hHeld := ht2
      try simp only [Act.put, List.setIfInBounds_toArray, List.set_cons_zero, List.set_cons_succ]
      refine' wpAnyH_take (i := 4) (oi := { dst := some 7, op := Go.Op.build 78 #[(0, Go.Operand.tmp 4), (1, Go.Operand.tmp 6)], type := 78, pos := "get.go:55", after := #[{ on := 1, ground := Go.Ground.data }, { on := 3, ground := Go.Ground.data }], guard := none }) (v := _) rfl (by kernel_rfl) (by kernel_rfl) (by kernel_rfl) (fun _ _ _ h => h) (Or.inl ⟨by rfl, ?hy4⟩) (by assumption) ?rest4
      case hy4 => (intro W hSw; have hc := tk_cell hSw; have hl := tk_lt hSw; go_simp; try (with_reducible rfl))
      try simp only [Act.put, List.setIfInBounds_toArray, List.set_cons_zero, List.set_cons_succ]
      have hc0 := (tk_store hb2).1 0
      have hf0 := (tk_store hb2).2 0
      have hc1 := (tk_store hb2).1 1
      have hf1 := (tk_store hb2).2 1
      have hl2 := tk_lt hb2
      refine wpAnyH_ready (rs := [5]) (by kernel_rfl) (by simp) ?_
      refine AllReadyH.cons (o := { dst := none, op := Go.Op.store 78 (Go.Operand.tmp 2) (Go.Operand.tmp 7), type := 0, pos := "get.go:55", after := #[{ on := 4, ground := Go.Ground.data }, { on := 3, ground := Go.Ground.chain }, { on := 0, ground := Go.Ground.phase }, { on := 1, ground := Go.Ground.phase }, { on := 2, ground := Go.Ground.phase }, { on := 3, ground := Go.Ground.phase }, { on := 4, ground := Go.Ground.phase }], guard := none }) rfl (fun K hK => ?_) AllReadyH.nil
      go_simp
      obtain ⟨wf, hwf⟩ : ∃ wf, wf = ((w2.setCell ⟨w.heap.size + 1, 0, none⟩ (.int .i64 x1.1)).setCell ⟨w.heap.size + 1, 1, none⟩ (.int .u64 (x2.1 : Nat))) := ⟨_, rfl⟩
      rw [← hwf]
      have hbf : wf.heap[w.heap.size + 1]? = some (.cells #[.int .i64 x1.1, .int .u64 (x2.1 : Nat)] 78 (0, 0)) := by rw [hwf]; exact (tk_set (tk_set hb2 0 (.int .i64 x1.1)).1 1 (.int .u64 (x2.1 : Nat))).1
      have hkf : Kp (fun k => k = w.heap.size + 1) w2 wf := by rw [hwf]; exact ((tk_set hb2 0 (.int .i64 x1.1)).2.trans (tk_set (tk_set hb2 0 (.int .i64 x1.1)).1 1 (.int .u64 (x2.1 : Nat))).2 (fun _ _ h => h))
      clear hwf
      refine hK.out _ _ ((hkf.block _ (tk_lt ht2) (by omega)).trans ht2) (fun _ => ?_)
      clear hK K hHeld
      try simp only [Act.put, List.setIfInBounds_toArray, List.set_cons_zero, List.set_cons_succ]
      refine wpAnyH_done (by kernel_rfl) ?_ _
      have q0 := (tk_store hbf).1 0
      have q1 := (tk_store hbf).1 1
      have hlf := tk_lt hbf
      go_wp2_with fail
      refine bodyPost_ret (v := .agg #[.int .i64 x1.1, .int .u64 (x2.1 : Nat)]) (by simp [results, Try.results73, go_sem, q0, q1]) rfl ?_
      refine Tk.yes (x := ⟨x1.1, x2.1⟩) (by simp only [popd, Pa.map, Pa.and, Pa.bind, e1, e2]) (k2.trans hkf (fun j hj e => by omega)) (r2.kp hkf (by omega) (fun k hk e => by have := HR.out.ls.blk k hk; omega)) rfl
set_option maxHeartbeats 2000000 in
theorem tconn_any {rb a : Nat} {v : Value} {L : List UInt8} (w : World) (hR : Rd w rb v L a 0) : Calls Try.prog 78 #[tv rb] w (Tk pcon Vcon rb v L a w) := by
  have hsz := hR.lt
  have HR := hid hR
  clear hR
  go_enter Try.func78, Try.ntmps78
  go_wp2_with fail
  have hg0 : Gr w (((w.alloc (.cells #[.pointer (some ⟨rb, 0, none⟩)] 73)).alloc (.cells #[.int .i64 0, .int .i64 0, .int .u64 0, .int .u64 0, .int .u64 0] 80)).drew) := (((Gr.refl w).alloc _).alloc _).drew
  have hb0 : (((w.alloc (.cells #[.pointer (some ⟨rb, 0, none⟩)] 73)).alloc (.cells #[.int .i64 0, .int .i64 0, .int .u64 0, .int .u64 0, .int .u64 0] 80)).drew).heap[w.heap.size + 1]? = some (.cells #[.int .i64 0, .int .i64 0, .int .u64 0, .int .u64 0, .int .u64 0] 80 (0, 0)) := new2 w _ _
  have ht0 : (((w.alloc (.cells #[.pointer (some ⟨rb, 0, none⟩)] 73)).alloc (.cells #[.int .i64 0, .int .i64 0, .int .u64 0, .int .u64 0, .int .u64 0] 80)).drew).heap[w.heap.size]? = some (.cells #[.pointer (some ⟨rb, 0, none⟩)] 73 (0, 0)) := new1 w _ _
  refine wp_region_held_drew (S := fun W => W.heap[w.heap.size]? = some (.cells #[.pointer (some ⟨rb, 0, none⟩)] 73 (0, 0))) (by kernel_rfl) ht0 (fun hHeld => ?_)
  generalize ((w.alloc (.cells #[.pointer (some ⟨rb, 0, none⟩)] 73)).alloc (.cells #[.int .i64 0, .int .i64 0, .int .u64 0, .int .u64 0, .int .u64 0] 80)).drew = W0 at hg0 hb0 ht0 hHeld ⊢
  refine' wpAnyH_take (i := 0) (oi := { dst := some 3, op := Go.Op.load 73 (Go.Operand.tmp 1), type := 73, pos := "get.go:57", after := #[], guard := none }) (v := _) rfl (by kernel_rfl) (by kernel_rfl) (by kernel_rfl) (fun _ _ _ h => h) (Or.inl ⟨by rfl, ?hy0⟩) (by assumption) ?rest0
  case hy0 => (intro W hSw; have hc := tk_cell hSw; have hl := tk_lt hSw; go_simp; try (with_reducible rfl))
  try simp only [Act.put, List.setIfInBounds_toArray, List.set_cons_zero, List.set_cons_succ]
  refine' wpAnyH_take (i := 2) (oi := { dst := some 5, op := Go.Op.load 73 (Go.Operand.tmp 1), type := 73, pos := "get.go:57", after := #[], guard := none }) (v := _) rfl (by kernel_rfl) (by kernel_rfl) (by kernel_rfl) (fun _ _ _ h => h) (Or.inl ⟨by rfl, ?hy2⟩) (by assumption) ?rest2
  case hy2 => (intro W hSw; have hc := tk_cell hSw; have hl := tk_lt hSw; go_simp; try (with_reducible rfl))
  try simp only [Act.put, List.setIfInBounds_toArray, List.set_cons_zero, List.set_cons_succ]
  refine' wpAnyH_take (i := 4) (oi := { dst := some 7, op := Go.Op.load 73 (Go.Operand.tmp 1), type := 73, pos := "get.go:57", after := #[], guard := none }) (v := _) rfl (by kernel_rfl) (by kernel_rfl) (by kernel_rfl) (fun _ _ _ h => h) (Or.inl ⟨by rfl, ?hy4⟩) (by assumption) ?rest4
  case hy4 => (intro W hSw; have hc := tk_cell hSw; have hl := tk_lt hSw; go_simp; try (with_reducible rfl))
  try simp only [Act.put, List.setIfInBounds_toArray, List.set_cons_zero, List.set_cons_succ]
  have k0 := Kp.of_gr (S := fun k => k = rb) hg0
  have r0 := HR.out.gr hg0
  refine wpAnyH_ready (rs := [1]) (by kernel_rfl) (by simp) ?_
  refine AllReadyH.cons (o := { dst := some 4, op := Go.Op.call { callee := Go.Callee.value (Go.Operand.func 45), args := #[Go.Operand.tmp 3], argTypes := #[73] }, type := 3, pos := "get.go:57", after := #[{ on := 0, ground := Go.Ground.data }], guard := none }) rfl (fun K hK => ?_) AllReadyH.nil
  go_simp
  refine (tint_any _ r0).mono ?_
  intro r w1 h1
  cases e1 : int L a with
  | inl x =>
    obtain ⟨rfl, kk⟩ := h1.bad e1
    go_wp2_with fail
    exact ⟨rfl, Tk.no (by simp only [pcon, Pa.map, Pa.and, Pa.bind, e1]) (k0.trans kk (fun _ _ h => h))⟩
  | inr x1 =>
    obtain ⟨u1, rfl, rfl, r1, kk1⟩ := h1.good e1
    have k1 := k0.trans kk1 (fun _ _ h => h)
    have ht1 := (kk1.block _ (tk_lt ht0) (by omega)).trans ht0
    have hb1 := (kk1.block _ (tk_lt hb0) (by omega)).trans hb0
    clear h1 kk1
    go_wp2_with fail
    refine hK.out _ _ ht1 (fun _ => ?_)
    clear hK K hHeld
    have hHeld := ht1
    try simp only [Act.put, List.setIfInBounds_toArray, List.set_cons_zero, List.set_cons_succ]
    refine wpAnyH_ready (rs := [3]) (by kernel_rfl) (by simp) ?_
    refine AllReadyH.cons (o := { dst := some 6, op := Go.Op.call { callee := Go.Callee.value (Go.Operand.func 45), args := #[Go.Operand.tmp 5], argTypes := #[73] }, type := 3, pos := "get.go:57", after := #[{ on := 2, ground := Go.Ground.data }, { on := 1, ground := Go.Ground.chain }], guard := none }) rfl (fun K hK => ?_) AllReadyH.nil
    go_simp
    refine (tint_any _ r1).mono ?_
    intro r w2 h2
    cases e2 : int L x1.2 with
    | inl x =>
      obtain ⟨rfl, kk⟩ := h2.bad e2
      go_wp2_with fail
      exact ⟨rfl, Tk.no (by simp only [pcon, Pa.map, Pa.and, Pa.bind, e1, e2]) (k1.trans kk (fun _ _ h => h))⟩
    | inr x2 =>
      obtain ⟨u2, rfl, rfl, r2, kk2⟩ := h2.good e2
      have k2 := k1.trans kk2 (fun _ _ h => h)
      have ht2 := (kk2.block _ (tk_lt ht1) (by omega)).trans ht1
      have hb2 := (kk2.block _ (tk_lt hb1) (by omega)).trans hb1
      clear h2 kk2
      go_wp2_with fail
      refine hK.out _ _ ht2 (fun _ => ?_)
      clear hK K hHeld
      have hHeld := ht2
      try simp only [Act.put, List.setIfInBounds_toArray, List.set_cons_zero, List.set_cons_succ]
      refine wpAnyH_ready (rs := [5]) (by kernel_rfl) (by simp) ?_
      refine AllReadyH.cons (o := { dst := some 8, op := Go.Op.call { callee := Go.Callee.value (Go.Operand.func 75), args := #[Go.Operand.tmp 7], argTypes := #[73] }, type := 64, pos := "get.go:57", after := #[{ on := 4, ground := Go.Ground.data }, { on := 3, ground := Go.Ground.chain }], guard := none }) rfl (fun K hK => ?_) AllReadyH.nil
      go_simp
      refine (tpath_any _ r2).mono ?_
      intro r w3 h3
      cases e3 : ppth L x2.2 with
      | inl x =>
        obtain ⟨rfl, kk⟩ := h3.bad e3
        go_wp2_with fail
        exact ⟨rfl, Tk.no (by simp only [pcon, Pa.map, Pa.and, Pa.bind, e1, e2, e3]) (k2.trans kk (fun _ _ h => h))⟩
      | inr x3 =>
        obtain ⟨u3, rfl, rfl, r3, kk3⟩ := h3.good e3
        have k3 := k2.trans kk3 (fun _ _ h => h)
        have ht3 := (kk3.block _ (tk_lt ht2) (by omega)).trans ht2
        have hb3 := (kk3.block _ (tk_lt hb2) (by omega)).trans hb2
        clear h3 kk3
        go_wp2_with fail
        refine hK.out _ _ ht3 (fun _ => ?_)
        clear hK K hHeld
        have hHeld := ht3
        try simp only [Act.put, List.setIfInBounds_toArray, List.set_cons_zero, List.set_cons_succ]
        refine' wpAnyH_take (i := 6) (oi := { dst := some 9, op := Go.Op.build 80 #[(0, Go.Operand.tmp 4), (1, Go.Operand.tmp 6), (2, Go.Operand.tmp 8)], type := 80, pos := "get.go:57", after := #[{ on := 1, ground := Go.Ground.data }, { on := 3, ground := Go.Ground.data }, { on := 5, ground := Go.Ground.data }], guard := none }) (v := _) rfl (by kernel_rfl) (by kernel_rfl) (by kernel_rfl) (fun _ _ _ h => h) (Or.inl ⟨by rfl, ?hy6⟩) (by assumption) ?rest6
        case hy6 => (intro W hSw; have hc := tk_cell hSw; have hl := tk_lt hSw; go_simp; try (with_reducible rfl))
        try simp only [Act.put, List.setIfInBounds_toArray, List.set_cons_zero, List.set_cons_succ]
        have hc0 := (tk_store hb3).1 0
        have hf0 := (tk_store hb3).2 0
        have hc1 := (tk_store hb3).1 1
        have hf1 := (tk_store hb3).2 1
        have hc2 := (tk_store hb3).1 2
        have hf2 := (tk_store hb3).2 2
        have hc3 := (tk_store hb3).1 3
        have hf3 := (tk_store hb3).2 3
        have hc4 := (tk_store hb3).1 4
        have hf4 := (tk_store hb3).2 4
        have hl2 := tk_lt hb3
        refine wpAnyH_ready (rs := [7]) (by kernel_rfl) (by simp) ?_
        refine AllReadyH.cons (o := { dst := none, op := Go.Op.store 80 (Go.Operand.tmp 2) (Go.Operand.tmp 9), type := 0, pos := "get.go:57", after := #[{ on := 6, ground := Go.Ground.data }, { on := 5, ground := Go.Ground.chain }, { on := 0, ground := Go.Ground.phase }, { on := 1, ground := Go.Ground.phase }, { on := 2, ground := Go.Ground.phase }, { on := 3, ground := Go.Ground.phase }, { on := 4, ground := Go.Ground.phase }, { on := 5, ground := Go.Ground.phase }, { on := 6, ground := Go.Ground.phase }], guard := none }) rfl (fun K hK => ?_) AllReadyH.nil
        go_simp
        obtain ⟨wf, hwf⟩ : ∃ wf, wf = (((((w3.setCell ⟨w.heap.size + 1, 0, none⟩ (.int .i64 x1.1)).setCell ⟨w.heap.size + 1, 1, none⟩ (.int .i64 x2.1)).setCell ⟨w.heap.size + 1, 2, none⟩ (.int .u64 (x3.1.1 : Nat))).setCell ⟨w.heap.size + 1, 3, none⟩ (.int .u64 (x3.1.2.1 : Nat))).setCell ⟨w.heap.size + 1, 4, none⟩ (.int .u64 (x3.1.2.2 : Nat))) := ⟨_, rfl⟩
        rw [← hwf]
        have hbf : wf.heap[w.heap.size + 1]? = some (.cells #[.int .i64 x1.1, .int .i64 x2.1, .int .u64 (x3.1.1 : Nat), .int .u64 (x3.1.2.1 : Nat), .int .u64 (x3.1.2.2 : Nat)] 80 (0, 0)) := by rw [hwf]; exact (tk_set (tk_set (tk_set (tk_set (tk_set hb3 0 (.int .i64 x1.1)).1 1 (.int .i64 x2.1)).1 2 (.int .u64 (x3.1.1 : Nat))).1 3 (.int .u64 (x3.1.2.1 : Nat))).1 4 (.int .u64 (x3.1.2.2 : Nat))).1
        have hkf : Kp (fun k => k = w.heap.size + 1) w3 wf := by rw [hwf]; exact (((((tk_set hb3 0 (.int .i64 x1.1)).2.trans (tk_set (tk_set hb3 0 (.int .i64 x1.1)).1 1 (.int .i64 x2.1)).2 (fun _ _ h => h)).trans (tk_set (tk_set (tk_set hb3 0 (.int .i64 x1.1)).1 1 (.int .i64 x2.1)).1 2 (.int .u64 (x3.1.1 : Nat))).2 (fun _ _ h => h)).trans (tk_set (tk_set (tk_set (tk_set hb3 0 (.int .i64 x1.1)).1 1 (.int .i64 x2.1)).1 2 (.int .u64 (x3.1.1 : Nat))).1 3 (.int .u64 (x3.1.2.1 : Nat))).2 (fun _ _ h => h)).trans (tk_set (tk_set (tk_set (tk_set (tk_set hb3 0 (.int .i64 x1.1)).1 1 (.int .i64 x2.1)).1 2 (.int .u64 (x3.1.1 : Nat))).1 3 (.int .u64 (x3.1.2.1 : Nat))).1 4 (.int .u64 (x3.1.2.2 : Nat))).2 (fun _ _ h => h))
        clear hwf
        refine hK.out _ _ ((hkf.block _ (tk_lt ht3) (by omega)).trans ht3) (fun _ => ?_)
        clear hK K hHeld
        try simp only [Act.put, List.setIfInBounds_toArray, List.set_cons_zero, List.set_cons_succ]
        refine wpAnyH_done (by kernel_rfl) ?_ _
        have q0 := (tk_store hbf).1 0
        have q1 := (tk_store hbf).1 1
        have q2 := (tk_store hbf).1 2
        have q3 := (tk_store hbf).1 3
        have q4 := (tk_store hbf).1 4
        have hlf := tk_lt hbf
        go_wp2_with fail
        refine bodyPost_ret (v := .agg #[.int .i64 x1.1, .int .i64 x2.1, .int .u64 (x3.1.1 : Nat), .int .u64 (x3.1.2.1 : Nat), .int .u64 (x3.1.2.2 : Nat)]) (by simp [results, Try.results78, go_sem, q0, q1, q2, q3, q4]) rfl ?_
        refine Tk.yes (x := ⟨x1.1, x2.1, x3.1⟩) (by simp only [pcon, Pa.map, Pa.and, Pa.bind, e1, e2, e3]) (k3.trans hkf (fun j hj e => by omega)) (r3.kp hkf (by omega) (fun k hk e => by have := HR.out.ls.blk k hk; omega)) rfl
set_option maxHeartbeats 2000000 in
theorem tedge_any {rb a : Nat} {v : Value} {L : List UInt8} (w : World) (hR : Rd w rb v L a 0) : Calls Try.prog 49 #[tv rb] w (Tk pedg Vedg rb v L a w) := by
  have hsz := hR.lt
  have HR := hid hR
  clear hR
  go_enter Try.func49, Try.ntmps49
  go_wp2_with fail
  have hg0 : Gr w (((w.alloc (.cells #[.pointer (some ⟨rb, 0, none⟩)] 73)).alloc (.cells #[.int .i64 0, .int .i64 0, .int .i64 0, .int .i64 0, .bool false] 69)).drew) := (((Gr.refl w).alloc _).alloc _).drew
  have hb0 : (((w.alloc (.cells #[.pointer (some ⟨rb, 0, none⟩)] 73)).alloc (.cells #[.int .i64 0, .int .i64 0, .int .i64 0, .int .i64 0, .bool false] 69)).drew).heap[w.heap.size + 1]? = some (.cells #[.int .i64 0, .int .i64 0, .int .i64 0, .int .i64 0, .bool false] 69 (0, 0)) := new2 w _ _
  have ht0 : (((w.alloc (.cells #[.pointer (some ⟨rb, 0, none⟩)] 73)).alloc (.cells #[.int .i64 0, .int .i64 0, .int .i64 0, .int .i64 0, .bool false] 69)).drew).heap[w.heap.size]? = some (.cells #[.pointer (some ⟨rb, 0, none⟩)] 73 (0, 0)) := new1 w _ _
  refine wp_region_held_drew (S := fun W => W.heap[w.heap.size]? = some (.cells #[.pointer (some ⟨rb, 0, none⟩)] 73 (0, 0))) (by kernel_rfl) ht0 (fun hHeld => ?_)
  generalize ((w.alloc (.cells #[.pointer (some ⟨rb, 0, none⟩)] 73)).alloc (.cells #[.int .i64 0, .int .i64 0, .int .i64 0, .int .i64 0, .bool false] 69)).drew = W0 at hg0 hb0 ht0 hHeld ⊢
  refine' wpAnyH_take (i := 0) (oi := { dst := some 3, op := Go.Op.load 73 (Go.Operand.tmp 1), type := 73, pos := "get.go:60", after := #[], guard := none }) (v := _) rfl (by kernel_rfl) (by kernel_rfl) (by kernel_rfl) (fun _ _ _ h => h) (Or.inl ⟨by rfl, ?hy0⟩) (by assumption) ?rest0
  case hy0 => (intro W hSw; have hc := tk_cell hSw; have hl := tk_lt hSw; go_simp; try (with_reducible rfl))
  try simp only [Act.put, List.setIfInBounds_toArray, List.set_cons_zero, List.set_cons_succ]
  refine' wpAnyH_take (i := 2) (oi := { dst := some 5, op := Go.Op.load 73 (Go.Operand.tmp 1), type := 73, pos := "get.go:60", after := #[], guard := none }) (v := _) rfl (by kernel_rfl) (by kernel_rfl) (by kernel_rfl) (fun _ _ _ h => h) (Or.inl ⟨by rfl, ?hy2⟩) (by assumption) ?rest2
  case hy2 => (intro W hSw; have hc := tk_cell hSw; have hl := tk_lt hSw; go_simp; try (with_reducible rfl))
  try simp only [Act.put, List.setIfInBounds_toArray, List.set_cons_zero, List.set_cons_succ]
  refine' wpAnyH_take (i := 4) (oi := { dst := some 7, op := Go.Op.load 73 (Go.Operand.tmp 1), type := 73, pos := "get.go:60", after := #[], guard := none }) (v := _) rfl (by kernel_rfl) (by kernel_rfl) (by kernel_rfl) (fun _ _ _ h => h) (Or.inl ⟨by rfl, ?hy4⟩) (by assumption) ?rest4
  case hy4 => (intro W hSw; have hc := tk_cell hSw; have hl := tk_lt hSw; go_simp; try (with_reducible rfl))
  try simp only [Act.put, List.setIfInBounds_toArray, List.set_cons_zero, List.set_cons_succ]
  refine' wpAnyH_take (i := 6) (oi := { dst := some 9, op := Go.Op.load 73 (Go.Operand.tmp 1), type := 73, pos := "get.go:60", after := #[], guard := none }) (v := _) rfl (by kernel_rfl) (by kernel_rfl) (by kernel_rfl) (fun _ _ _ h => h) (Or.inl ⟨by rfl, ?hy6⟩) (by assumption) ?rest6
  case hy6 => (intro W hSw; have hc := tk_cell hSw; have hl := tk_lt hSw; go_simp; try (with_reducible rfl))
  try simp only [Act.put, List.setIfInBounds_toArray, List.set_cons_zero, List.set_cons_succ]
  refine' wpAnyH_take (i := 8) (oi := { dst := some 11, op := Go.Op.load 73 (Go.Operand.tmp 1), type := 73, pos := "get.go:60", after := #[], guard := none }) (v := _) rfl (by kernel_rfl) (by kernel_rfl) (by kernel_rfl) (fun _ _ _ h => h) (Or.inl ⟨by rfl, ?hy8⟩) (by assumption) ?rest8
  case hy8 => (intro W hSw; have hc := tk_cell hSw; have hl := tk_lt hSw; go_simp; try (with_reducible rfl))
  try simp only [Act.put, List.setIfInBounds_toArray, List.set_cons_zero, List.set_cons_succ]
  have k0 := Kp.of_gr (S := fun k => k = rb) hg0
  have r0 := HR.out.gr hg0
  refine wpAnyH_ready (rs := [1]) (by kernel_rfl) (by simp) ?_
  refine AllReadyH.cons (o := { dst := some 4, op := Go.Op.call { callee := Go.Callee.value (Go.Operand.func 45), args := #[Go.Operand.tmp 3], argTypes := #[73] }, type := 3, pos := "get.go:60", after := #[{ on := 0, ground := Go.Ground.data }], guard := none }) rfl (fun K hK => ?_) AllReadyH.nil
  go_simp
  refine (tint_any _ r0).mono ?_
  intro r w1 h1
  cases e1 : int L a with
  | inl x =>
    obtain ⟨rfl, kk⟩ := h1.bad e1
    go_wp2_with fail
    exact ⟨rfl, Tk.no (by simp only [pedg, Pa.map, Pa.and, Pa.bind, e1]) (k0.trans kk (fun _ _ h => h))⟩
  | inr x1 =>
    obtain ⟨u1, rfl, rfl, r1, kk1⟩ := h1.good e1
    have k1 := k0.trans kk1 (fun _ _ h => h)
    have ht1 := (kk1.block _ (tk_lt ht0) (by omega)).trans ht0
    have hb1 := (kk1.block _ (tk_lt hb0) (by omega)).trans hb0
    clear h1 kk1
    go_wp2_with fail
    refine hK.out _ _ ht1 (fun _ => ?_)
    clear hK K hHeld
    have hHeld := ht1
    try simp only [Act.put, List.setIfInBounds_toArray, List.set_cons_zero, List.set_cons_succ]
    refine wpAnyH_ready (rs := [3]) (by kernel_rfl) (by simp) ?_
    refine AllReadyH.cons (o := { dst := some 6, op := Go.Op.call { callee := Go.Callee.value (Go.Operand.func 45), args := #[Go.Operand.tmp 5], argTypes := #[73] }, type := 3, pos := "get.go:60", after := #[{ on := 2, ground := Go.Ground.data }, { on := 1, ground := Go.Ground.chain }], guard := none }) rfl (fun K hK => ?_) AllReadyH.nil
    go_simp
    refine (tint_any _ r1).mono ?_
    intro r w2 h2
    cases e2 : int L x1.2 with
    | inl x =>
      obtain ⟨rfl, kk⟩ := h2.bad e2
      go_wp2_with fail
      exact ⟨rfl, Tk.no (by simp only [pedg, Pa.map, Pa.and, Pa.bind, e1, e2]) (k1.trans kk (fun _ _ h => h))⟩
    | inr x2 =>
      obtain ⟨u2, rfl, rfl, r2, kk2⟩ := h2.good e2
      have k2 := k1.trans kk2 (fun _ _ h => h)
      have ht2 := (kk2.block _ (tk_lt ht1) (by omega)).trans ht1
      have hb2 := (kk2.block _ (tk_lt hb1) (by omega)).trans hb1
      clear h2 kk2
      go_wp2_with fail
      refine hK.out _ _ ht2 (fun _ => ?_)
      clear hK K hHeld
      have hHeld := ht2
      try simp only [Act.put, List.setIfInBounds_toArray, List.set_cons_zero, List.set_cons_succ]
      refine wpAnyH_ready (rs := [5]) (by kernel_rfl) (by simp) ?_
      refine AllReadyH.cons (o := { dst := some 8, op := Go.Op.call { callee := Go.Callee.value (Go.Operand.func 45), args := #[Go.Operand.tmp 7], argTypes := #[73] }, type := 3, pos := "get.go:60", after := #[{ on := 4, ground := Go.Ground.data }, { on := 3, ground := Go.Ground.chain }], guard := none }) rfl (fun K hK => ?_) AllReadyH.nil
      go_simp
      refine (tint_any _ r2).mono ?_
      intro r w3 h3
      cases e3 : int L x2.2 with
      | inl x =>
        obtain ⟨rfl, kk⟩ := h3.bad e3
        go_wp2_with fail
        exact ⟨rfl, Tk.no (by simp only [pedg, Pa.map, Pa.and, Pa.bind, e1, e2, e3]) (k2.trans kk (fun _ _ h => h))⟩
      | inr x3 =>
        obtain ⟨u3, rfl, rfl, r3, kk3⟩ := h3.good e3
        have k3 := k2.trans kk3 (fun _ _ h => h)
        have ht3 := (kk3.block _ (tk_lt ht2) (by omega)).trans ht2
        have hb3 := (kk3.block _ (tk_lt hb2) (by omega)).trans hb2
        clear h3 kk3
        go_wp2_with fail
        refine hK.out _ _ ht3 (fun _ => ?_)
        clear hK K hHeld
        have hHeld := ht3
        try simp only [Act.put, List.setIfInBounds_toArray, List.set_cons_zero, List.set_cons_succ]
        refine wpAnyH_ready (rs := [7]) (by kernel_rfl) (by simp) ?_
        refine AllReadyH.cons (o := { dst := some 10, op := Go.Op.call { callee := Go.Callee.value (Go.Operand.func 45), args := #[Go.Operand.tmp 9], argTypes := #[73] }, type := 3, pos := "get.go:60", after := #[{ on := 6, ground := Go.Ground.data }, { on := 5, ground := Go.Ground.chain }], guard := none }) rfl (fun K hK => ?_) AllReadyH.nil
        go_simp
        refine (tint_any _ r3).mono ?_
        intro r w4 h4
        cases e4 : int L x3.2 with
        | inl x =>
          obtain ⟨rfl, kk⟩ := h4.bad e4
          go_wp2_with fail
          exact ⟨rfl, Tk.no (by simp only [pedg, Pa.map, Pa.and, Pa.bind, e1, e2, e3, e4]) (k3.trans kk (fun _ _ h => h))⟩
        | inr x4 =>
          obtain ⟨u4, rfl, rfl, r4, kk4⟩ := h4.good e4
          have k4 := k3.trans kk4 (fun _ _ h => h)
          have ht4 := (kk4.block _ (tk_lt ht3) (by omega)).trans ht3
          have hb4 := (kk4.block _ (tk_lt hb3) (by omega)).trans hb3
          clear h4 kk4
          go_wp2_with fail
          refine hK.out _ _ ht4 (fun _ => ?_)
          clear hK K hHeld
          have hHeld := ht4
          try simp only [Act.put, List.setIfInBounds_toArray, List.set_cons_zero, List.set_cons_succ]
          refine wpAnyH_ready (rs := [9]) (by kernel_rfl) (by simp) ?_
          refine AllReadyH.cons (o := { dst := some 12, op := Go.Op.call { callee := Go.Callee.value (Go.Operand.func 76), args := #[Go.Operand.tmp 11], argTypes := #[73] }, type := 4, pos := "get.go:60", after := #[{ on := 8, ground := Go.Ground.data }, { on := 7, ground := Go.Ground.chain }], guard := none }) rfl (fun K hK => ?_) AllReadyH.nil
          go_simp
          refine (ttruth_any _ r4).mono ?_
          intro r w5 h5
          cases e5 : truth L x4.2 with
          | inl x =>
            obtain ⟨rfl, kk⟩ := h5.bad e5
            go_wp2_with fail
            exact ⟨rfl, Tk.no (by simp only [pedg, Pa.map, Pa.and, Pa.bind, e1, e2, e3, e4, e5]) (k4.trans kk (fun _ _ h => h))⟩
          | inr x5 =>
            obtain ⟨u5, rfl, rfl, r5, kk5⟩ := h5.good e5
            have k5 := k4.trans kk5 (fun _ _ h => h)
            have ht5 := (kk5.block _ (tk_lt ht4) (by omega)).trans ht4
            have hb5 := (kk5.block _ (tk_lt hb4) (by omega)).trans hb4
            clear h5 kk5
            go_wp2_with fail
            refine hK.out _ _ ht5 (fun _ => ?_)
            clear hK K hHeld
            have hHeld := ht5
            try simp only [Act.put, List.setIfInBounds_toArray, List.set_cons_zero, List.set_cons_succ]
            refine' wpAnyH_take (i := 10) (oi := { dst := some 13, op := Go.Op.build 69 #[(0, Go.Operand.tmp 4), (1, Go.Operand.tmp 6), (2, Go.Operand.tmp 8), (3, Go.Operand.tmp 10), (4, Go.Operand.tmp 12)], type := 69, pos := "get.go:60", after := #[{ on := 1, ground := Go.Ground.data }, { on := 3, ground := Go.Ground.data }, { on := 5, ground := Go.Ground.data }, { on := 7, ground := Go.Ground.data }, { on := 9, ground := Go.Ground.data }], guard := none }) (v := _) rfl (by kernel_rfl) (by kernel_rfl) (by kernel_rfl) (fun _ _ _ h => h) (Or.inl ⟨by rfl, ?hy10⟩) (by assumption) ?rest10
            case hy10 => (intro W hSw; have hc := tk_cell hSw; have hl := tk_lt hSw; go_simp; try (with_reducible rfl))
            try simp only [Act.put, List.setIfInBounds_toArray, List.set_cons_zero, List.set_cons_succ]
            have hc0 := (tk_store hb5).1 0
            have hf0 := (tk_store hb5).2 0
            have hc1 := (tk_store hb5).1 1
            have hf1 := (tk_store hb5).2 1
            have hc2 := (tk_store hb5).1 2
            have hf2 := (tk_store hb5).2 2
            have hc3 := (tk_store hb5).1 3
            have hf3 := (tk_store hb5).2 3
            have hc4 := (tk_store hb5).1 4
            have hf4 := (tk_store hb5).2 4
            have hl2 := tk_lt hb5
            refine wpAnyH_ready (rs := [11]) (by kernel_rfl) (by simp) ?_
            refine AllReadyH.cons (o := { dst := none, op := Go.Op.store 69 (Go.Operand.tmp 2) (Go.Operand.tmp 13), type := 0, pos := "get.go:60", after := #[{ on := 10, ground := Go.Ground.data }, { on := 9, ground := Go.Ground.chain }, { on := 0, ground := Go.Ground.phase }, { on := 1, ground := Go.Ground.phase }, { on := 2, ground := Go.Ground.phase }, { on := 3, ground := Go.Ground.phase }, { on := 4, ground := Go.Ground.phase }, { on := 5, ground := Go.Ground.phase }, { on := 6, ground := Go.Ground.phase }, { on := 7, ground := Go.Ground.phase }, { on := 8, ground := Go.Ground.phase }, { on := 9, ground := Go.Ground.phase }, { on := 10, ground := Go.Ground.phase }], guard := none }) rfl (fun K hK => ?_) AllReadyH.nil
            go_simp
            obtain ⟨wf, hwf⟩ : ∃ wf, wf = (((((w5.setCell ⟨w.heap.size + 1, 0, none⟩ (.int .i64 x1.1)).setCell ⟨w.heap.size + 1, 1, none⟩ (.int .i64 x2.1)).setCell ⟨w.heap.size + 1, 2, none⟩ (.int .i64 x3.1)).setCell ⟨w.heap.size + 1, 3, none⟩ (.int .i64 x4.1)).setCell ⟨w.heap.size + 1, 4, none⟩ (.bool x5.1)) := ⟨_, rfl⟩
            rw [← hwf]
            have hbf : wf.heap[w.heap.size + 1]? = some (.cells #[.int .i64 x1.1, .int .i64 x2.1, .int .i64 x3.1, .int .i64 x4.1, .bool x5.1] 69 (0, 0)) := by rw [hwf]; exact (tk_set (tk_set (tk_set (tk_set (tk_set hb5 0 (.int .i64 x1.1)).1 1 (.int .i64 x2.1)).1 2 (.int .i64 x3.1)).1 3 (.int .i64 x4.1)).1 4 (.bool x5.1)).1
            have hkf : Kp (fun k => k = w.heap.size + 1) w5 wf := by rw [hwf]; exact (((((tk_set hb5 0 (.int .i64 x1.1)).2.trans (tk_set (tk_set hb5 0 (.int .i64 x1.1)).1 1 (.int .i64 x2.1)).2 (fun _ _ h => h)).trans (tk_set (tk_set (tk_set hb5 0 (.int .i64 x1.1)).1 1 (.int .i64 x2.1)).1 2 (.int .i64 x3.1)).2 (fun _ _ h => h)).trans (tk_set (tk_set (tk_set (tk_set hb5 0 (.int .i64 x1.1)).1 1 (.int .i64 x2.1)).1 2 (.int .i64 x3.1)).1 3 (.int .i64 x4.1)).2 (fun _ _ h => h)).trans (tk_set (tk_set (tk_set (tk_set (tk_set hb5 0 (.int .i64 x1.1)).1 1 (.int .i64 x2.1)).1 2 (.int .i64 x3.1)).1 3 (.int .i64 x4.1)).1 4 (.bool x5.1)).2 (fun _ _ h => h))
            clear hwf
            refine hK.out _ _ ((hkf.block _ (tk_lt ht5) (by omega)).trans ht5) (fun _ => ?_)
            clear hK K hHeld
            try simp only [Act.put, List.setIfInBounds_toArray, List.set_cons_zero, List.set_cons_succ]
            refine wpAnyH_done (by kernel_rfl) ?_ _
            have q0 := (tk_store hbf).1 0
            have q1 := (tk_store hbf).1 1
            have q2 := (tk_store hbf).1 2
            have q3 := (tk_store hbf).1 3
            have q4 := (tk_store hbf).1 4
            have hlf := tk_lt hbf
            go_wp2_with fail
            refine bodyPost_ret (v := .agg #[.int .i64 x1.1, .int .i64 x2.1, .int .i64 x3.1, .int .i64 x4.1, .bool x5.1]) (by simp [results, Try.results49, go_sem, q0, q1, q2, q3, q4]) rfl ?_
            refine Tk.yes (x := ⟨x1.1, x2.1, x3.1, x4.1, x5.1⟩) (by simp only [pedg, Pa.map, Pa.and, Pa.bind, e1, e2, e3, e4, e5]) (k5.trans hkf (fun j hj e => by omega)) (r5.kp hkf (by omega) (fun k hk e => by have := HR.out.ls.blk k hk; omega)) rfl
end Go.Proofs.Ytkopmkmfigenlaa.Df
