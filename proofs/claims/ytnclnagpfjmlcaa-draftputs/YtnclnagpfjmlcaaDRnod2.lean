import Derived.Test.YtnclnagpfjmlcaaDRnod
namespace Go.Proofs.Ytnclnagpfjmlcaa.Df
open Go.RowKit Go.Sort Wi
attribute [local go_sem ↓] Go.wp_at_zero Go.wp_at_succ

/-- .. and an element's place. -/
structure Ro (w W : World) (x : NV) (d : Value) (A : List UInt8) (ob : Nat) (cs : Array Value) (t : TypeId) : Prop where
  rn : Rn w W x d A
  ho : W.heap[ob]? = some (.cells cs t (0, 0))
  ne : d.ownBlock ≠ some ob
theorem Ro.app {w W w2 w3 : World} {x : NV} {d v : Value} {A B : List UInt8} {ob : Nat} {cs : Array Value} {t : TypeId} (h : Ro w W x d A ob cs t) (b2 : Below W.heap.size W w2) (h3 : w3.ownsRow (w.heap.size + 1) 5 1 v (A ++ B).length (fl EB (A ++ B))) (k3 : Tn d v w2 w3) (hl : (A ++ B).length ≤ 100000) : Ro w w3 x v (A ++ B) ob cs t := by
  have h5 := tk_lt h.ho
  refine ⟨h.rn.app b2 h3 k3 hl, (k3.1.block _ (Nat.lt_of_lt_of_le h5 b2.size) h.ne).trans ((b2.block _ h5).trans h.ho), fun e => ?_⟩
  rcases k3.2 ob e with h6 | h6
  · exact h.ne h6
  · have := b2.size
    omega
theorem Ro.new {w W : World} {x : NV} {d : Value} {A : List UInt8} (h : Rn w W x d A) (cs : Array Value) (t : TypeId) : Ro w (W.alloc (.cells cs t)) x d A W.heap.size cs t := ⟨h.below ((Gr.refl W).alloc _).below, heap_new' _ _, fun e => by have := (owns_rd h.row _ e).2; omega⟩
theorem Ro.facts {w W : World} {x : NV} {d : Value} {A : List UInt8} {ob : Nat} {cs : Array Value} {t : TypeId} (h : Ro w W x d A ob cs t) : ((∀ i, W.cell? ⟨w.heap.size, i, none⟩ = x.cells[i]?) ∧ w.heap.size < W.heap.size) ∧ (∀ i, W.cell? ⟨ob, i, none⟩ = cs[i]?) ∧ ob < W.heap.size := ⟨h.rn.facts, (tk_store h.ho).1, tk_lt h.ho⟩
theorem take_flat {α : Type} (f : α → List UInt8) {l : List α} {i : Nat} {o : α} (h : l[i]? = some o) : (l.take (i + 1)).flatMap f = (l.take i).flatMap f ++ f o := by
  rw [List.take_add_one, h, List.flatMap_append]
  simp
theorem take_all {α : Type} {p : α → Prop} {l : List α} {i : Nat} {o : α} (h : l[i]? = some o) (h1 : ∀ y ∈ l.take i, p y) (h2 : p o) : ∀ y ∈ l.take (i + 1), p y := fun y hy => by
  rw [List.take_add_one, h] at hy
  rcases List.mem_append.1 hy with hy | hy
  · exact h1 y hy
  · simp at hy
    subst hy
    exact h2
set_option maxRecDepth 100000 in
set_option maxHeartbeats 4000000 in
theorem rnode2' {x : NV} (hk : x.n.kind = 2) (hT : NodT x.n) (w : World) (hN : NR w.heap.size w x) (lc : x.n.code.length ≤ 140737488355328) (ld : x.n.conns.length ≤ 140737488355328) (hp : ports x.n = true) (hb : bare x.n = true) (hc : x.n.code.length ≤ 16) (hd : x.n.conns.length ≤ 16) : Calls Try.prog 36 #[.agg x.cells] w (Nb w x.n) := by
  have hmx : Try.prog.follows .mixedOrders = true := by kernel_rfl
  obtain ⟨⟨k, i, o, cd, via, bd, cn, st⟩, cq, cm, cc, dq, dm, dc⟩ := x
  have HCM : Hid (cm = cd.length) := by
    obtain ⟨p, c, h⟩ := hN.code.form
    simp only [Value.slice.injEq] at h
    exact h.2.1
  have HDM : Hid (dm = cn.length) := by
    obtain ⟨p, c, h⟩ := hN.conns.form
    simp only [Value.slice.injEq] at h
    exact h.2.1
  simp only at *
  subst hk
  obtain ⟨W0, hW0⟩ : ∃ W, W = w.alloc (.cells (ncells 2 i o (.slice cq cm cc) via bd (.slice dq dm dc) st) 67) := ⟨_, rfl⟩
  have G0 : Hid (Gr w W0 ∧ W0.heap[w.heap.size]? = some (.cells (ncells 2 i o (.slice cq cm cc) via bd (.slice dq dm dc) st) 67 (0, 0))) := by
    rw [hW0]
    exact ⟨(Gr.refl w).alloc _, heap_new' _ _⟩
  have HW : Hid (w.alloc (.cells #[.int .i64 2, .int .i64 i, .int .i64 o, .slice cq cm cc, .int .u64 (via.1 : Nat), .int .u64 (via.2.1 : Nat), .int .u64 (via.2.2 : Nat), .int .u64 (bd : Nat), .slice dq dm dc, .bool st] 67) = W0) := hW0.symm
  have HT := hid hT
  have HN := hid hN
  have HP := fun W => rports_any ⟨⟨2, i, o, cd, via, bd, cn, st⟩, cq, cm, cc, dq, dm, dc⟩ W
  have HBr := fun W => rbare_any ⟨⟨2, i, o, cd, via, bd, cn, st⟩, cq, cm, cc, dq, dm, dc⟩ HCM.out HDM.out W
  clear hT hN hW0
  simp only [NV.cells, NV.cv, NV.dv] at *
  go_enter Try.func36, Try.ntmps36
  have hcn : cn = [] := by
    have h := hb
    simp [bare] at h
    exact h.2.1
  have he : Hid (enod ⟨2, i, o, cd, via, bd, cn, st⟩ = if cd.any (fun o => o.kind < 0) then 24 else 0) := by
    show enod _ = _
    unfold enod
    rw [if_neg (by simp), if_neg (by rw [hp]; simp), if_neg (by rw [hb]; simp), if_neg (by simp only; omega)]
    simp [hcn]
  have HCN := hid hcn
  clear hcn
  have hlen16 : Hid (cm ≤ 16) := by show _ ≤ _; rw [HCM.out]; exact hc
  have hcl : IntKind.u64.wrap (cm : Int) = (cm : Int) := by rw [IntKind.wrap_u64]; have := hlen16.out; omega
  go_wp2_with fail
  rw [HW.out]
  clear HW
  refine (HP _).mono ?_
  rintro r w1 ⟨rfl, g1⟩
  have n1 := (g1.below.block _ (tk_lt G0.out.2)).trans G0.out.2
  have G1 := hid (And.intro (G0.out.1.trans g1) n1)
  have c1 := (tk_store n1).1
  have l1 := tk_lt n1
  clear g1 n1 G0 HP
  rw [hp]
  go_wp2_with fail
  refine (HBr _).mono ?_
  rintro r w2 ⟨rfl, g2⟩
  have n2 := (g2.below.block _ (tk_lt G1.out.2)).trans G1.out.2
  have G2 := hid (And.intro (G1.out.1.trans g2) n2)
  clear c1 l1
  have c2 := (tk_store n2).1
  have l2 := tk_lt n2
  clear g2 n2 G1 HBr
  rw [hb]
  have z1 : ¬ (16 : Int) < (cm : Int) := by have := HCM.out; omega
  have z2 : ¬ (16 : Int) < (dm : Int) := by have := HDM.out; omega
  clear hc hd lc ld
  go_wp2_with fail
  refine (rnumber_any 2 (by decide) _).mono ?_
  rintro r w3 ⟨b3, d3, rfl, h3⟩
  obtain ⟨A3, hA3⟩ : ∃ A, A = form 2 := ⟨_, rfl⟩
  rw [← hA3] at h3
  have R3 : Hid (Rn w w3 ⟨⟨2, i, o, cd, via, bd, cn, st⟩, cq, cm, cc, dq, dm, dc⟩ d3 A3) := ⟨G2.out.1.below.trans (b3.mono G2.out.1.size), (b3.block _ (tk_lt G2.out.2)).trans G2.out.2, owns_base h3 (by have := tk_lt G2.out.2; omega), by rw [hA3]; exact Nat.le_trans (form_ten (by decide)) (by decide)⟩
  have HA3 := hid hA3
  have LA3 : Hid (A3.length ≤ 10) := by show _ ≤ _; rw [hA3]; exact form_ten (by decide)
  clear b3 h3 G2 c2 l2 hA3
  obtain ⟨c3, l3⟩ := R3.out.facts
  simp only [NV.cells, NV.cv, NV.dv] at c3
  obtain ⟨B4, hB4⟩ : ∃ B : List UInt8, B = form cm := ⟨_, rfl⟩
  have lB4 : Hid (B4.length ≤ 10) := by show _ ≤ _; rw [hB4]; exact form_ten (by have := hlen16.out; omega)
  have HB4 := hid hB4
  clear hB4
  go_wp2_with fail
  refine (rnumber_any cm (by have := hlen16.out; omega) _).mono ?_
  rintro r wa4 ⟨ba, da, rfl, ha⟩
  rw [← HB4.out] at ha
  have Oa := hid (owns_below R3.out.row ba)
  have Da := hid (owns_ls (E := EB) ha)
  have Ba := hid ba
  clear ba ha c3 l3
  go_wp2_with (at_builtin; refine wpBL rfl _ _ rfl (w.heap.size + 1) _ A3 rfl Oa.out _ B4 rfl (Or.inl Da.out) (by have := lB4.out; have := R3.out.len; omega) (Nat.le_trans R3.out.facts.2 Ba.out.size) ?_)
  intro d4 w4 h3 k3
  obtain ⟨A4, hA4⟩ : ∃ A' : List UInt8, A' = A3 ++ B4 := ⟨_, rfl⟩
  have R4 : Hid (Rn w w4 ⟨⟨2, i, o, cd, via, bd, cn, st⟩, cq, cm, cc, dq, dm, dc⟩ d4 A4) := by
    rw [hA4]
    exact R3.out.app Ba.out (owns_re h3.out (by simp) rfl) k3.out (by have := lB4.out; have := LA3.out; rw [List.length_append]; omega)
  have HA4 := hid hA4
  have LA4 : Hid (A4.length ≤ 20) := by show _ ≤ _; have := lB4.out; have := LA3.out; rw [hA4, List.length_append]; omega
  clear hA4 h3 k3 Oa Da Ba
  obtain ⟨c4, l4⟩ := R4.out.facts
  simp only [NV.cells, NV.cv, NV.dv] at c4
  go_wp2_with fail
  go_loopw [4, 52] (fun s4 s52 wr => ∃ (j : Nat) (A : List UInt8), j ≤ cm ∧ s52 = .int .i64 (j : Nat) ∧ Hid (Rn w wr ⟨⟨2, i, o, cd, via, bd, cn, st⟩, cq, cm, cc, dq, dm, dc⟩ s4 A ∧ A = A4 ++ (cd.take j).flatMap bopd ∧ (∀ y ∈ cd.take j, 0 ≤ y.kind) ∧ A.length ≤ 30 + 20 * j)) (fun _ s52 _ => cm - (RowKit.intOf s52).toNat)
  case atStart => exact ⟨0, A4, Nat.zero_le _, rfl, R4.out, by simp, fun y hy => (by simp at hy), by have := LA4.out; omega⟩
  case round =>
    clear R4 c4 l4
    obtain ⟨j, A, hj, rfl, HI⟩ := hrel
    by_cases hlt : j < cm
    · have hltz : (j : Int) < (cm : Int) := by omega
      obtain ⟨y, hy⟩ : ∃ y, cd[j]? = some y := ⟨cd[j]'(by have := HCM.out; omega), by simp⟩
      have hTy := HT.out.2.2.2.1 y (List.mem_of_getElem? hy)
      obtain ⟨b1, o1, q1, ev1, zz1, x0, x1⟩ := ls_atO ((HN.out.code.below HI.out.1.bl).ls hy) hy
      simp only [Value.slice.injEq] at ev1
      obtain ⟨rfl, -, rfl⟩ := ev1
      have R20 := hid (Ro.new HI.out.1 #[.int .i64 y.kind, .int .u64 (y.arg : Nat)] 78)
      have LA20 : Hid (A.length ≤ 350) := by show _ ≤ _; have := HI.out.2.2.2; have := hlen16.out; omega
      obtain ⟨ob, hob⟩ : ∃ ob, ob = wr.heap.size := ⟨_, rfl⟩
      have HOB := hid hob
      rw [← hob] at R20
      obtain ⟨W20, hW20⟩ : ∃ W, W = wr.alloc (.cells #[.int .i64 y.kind, .int .u64 (y.arg : Nat)] 78) := ⟨_, rfl⟩
      have HW20 := hid hW20.symm
      rw [← hW20] at R20
      clear hob hW20
      obtain ⟨⟨c20, l20⟩, e20, f20⟩ := R20.out.facts
      simp only [NV.cells, NV.cv, NV.dv] at c20
      have HY := hid hy
      clear hy
      by_cases hn1 : y.kind < 0
      · skip
        have he2 : Hid (enod ⟨2, i, o, cd, via, bd, cn, st⟩ = 24) := by
          show enod _ = _
          rw [he.out, if_pos (List.any_eq_true.2 ⟨y, List.mem_of_getElem? HY.out, by simp; omega⟩)]
        go_upto_region 17 with fail
        rw [HW20.out, ← HOB.out]
        clear HW20 HOB
        have B20 := hid R20.out.rn.bl
        go_wp2_with fail
        refine bodyPost_ret (v := .tuple #[.slice none 0 0, .int .i64 24]) (by simp [results, Try.results36, go_sem]) rfl ?_
        exact nb_bad B20.out he2.out (by decide)
      · skip
        have hv1 := u64_conv hTy.1 (by omega : 0 ≤ y.kind)
        go_upto_region 17 with fail
        rw [HW20.out, ← HOB.out]
        clear HW20 HOB
        clear x0 x1 zz1
        obtain ⟨B21, hB21⟩ : ∃ B : List UInt8, B = bint y.kind := ⟨_, rfl⟩
        have lB21 : Hid (B21.length ≤ 10) := by show _ ≤ _; rw [hB21]; exact bint_len hTy.1
        have HB21 := hid hB21
        clear hB21
        go_wp2_with fail
        refine (rint_any hTy.1 (by omega) _).mono ?_
        rintro r wa21 ⟨ba, da, rfl, ha⟩
        rw [← HB21.out] at ha
        have Oa := hid (owns_below R20.out.rn.row ba)
        have Da := hid (owns_ls (E := EB) ha)
        have Ba := hid ba
        clear ba ha c20 l20 e20 f20
        go_wp2_with (at_builtin; refine wpBL rfl _ _ rfl (w.heap.size + 1) _ A rfl Oa.out _ B21 rfl (Or.inl Da.out) (by have := lB21.out; have := LA20.out; omega) (Nat.le_trans R20.out.rn.facts.2 Ba.out.size) ?_)
        intro d21 w21 h3 k3
        obtain ⟨A21, hA21⟩ : ∃ A' : List UInt8, A' = A ++ B21 := ⟨_, rfl⟩
        have R21 : Hid (Ro w w21 ⟨⟨2, i, o, cd, via, bd, cn, st⟩, some ⟨b1, o1, none⟩, cm, cc, dq, dm, dc⟩ d21 A21 ob #[.int .i64 y.kind, .int .u64 (y.arg : Nat)] 78) := by
          rw [hA21]
          exact R20.out.app Ba.out (owns_re h3.out (by simp) rfl) k3.out (by have := lB21.out; have := LA20.out; rw [List.length_append]; omega)
        have HA21 := hid hA21
        have LA21 : Hid (A21.length ≤ 360) := by show _ ≤ _; have := lB21.out; have := LA20.out; rw [hA21, List.length_append]; omega
        clear hA21 h3 k3 Oa Da Ba
        obtain ⟨⟨c21, l21⟩, e21, f21⟩ := R21.out.facts
        simp only [NV.cells, NV.cv, NV.dv] at c21
        obtain ⟨B22, hB22⟩ : ∃ B : List UInt8, B = form y.arg := ⟨_, rfl⟩
        have lB22 : Hid (B22.length ≤ 10) := by show _ ≤ _; rw [hB22]; exact form_ten (u64lt hTy.2)
        have HB22 := hid hB22
        clear hB22
        go_wp2_with fail
        refine (rnumber_any y.arg (u64lt hTy.2) _).mono ?_
        rintro r wa22 ⟨ba, da, rfl, ha⟩
        rw [← HB22.out] at ha
        have Oa := hid (owns_below R21.out.rn.row ba)
        have Da := hid (owns_ls (E := EB) ha)
        have Ba := hid ba
        clear ba ha c21 l21 e21 f21
        go_wp2_with (at_builtin; refine wpBL rfl _ _ rfl (w.heap.size + 1) _ A21 rfl Oa.out _ B22 rfl (Or.inl Da.out) (by have := lB22.out; have := LA21.out; omega) (Nat.le_trans R21.out.rn.facts.2 Ba.out.size) ?_)
        intro d22 w22 h3 k3
        obtain ⟨A22, hA22⟩ : ∃ A' : List UInt8, A' = A21 ++ B22 := ⟨_, rfl⟩
        have R22 : Hid (Ro w w22 ⟨⟨2, i, o, cd, via, bd, cn, st⟩, some ⟨b1, o1, none⟩, cm, cc, dq, dm, dc⟩ d22 A22 ob #[.int .i64 y.kind, .int .u64 (y.arg : Nat)] 78) := by
          rw [hA22]
          exact R21.out.app Ba.out (owns_re h3.out (by simp) rfl) k3.out (by have := lB22.out; have := LA21.out; rw [List.length_append]; omega)
        have HA22 := hid hA22
        have LA22 : Hid (A22.length ≤ 370) := by show _ ≤ _; have := lB22.out; have := LA21.out; rw [hA22, List.length_append]; omega
        clear hA22 h3 k3 Oa Da Ba
        obtain ⟨⟨c22, l22⟩, e22, f22⟩ := R22.out.facts
        simp only [NV.cells, NV.cv, NV.dv] at c22
        have HLEN : Hid (A22.length ≤ A.length + 20) := by show _ ≤ _; rw [HA22.out, HA21.out]; simp only [List.length_append]; have t21 := lB21.out ; have t22 := lB22.out; omega
        go_wp2_with fail
        go_roundw
        case rel => exact ⟨j + 1, A22, by omega, by go_num, R22.out.rn, by rw [take_flat bopd HY.out, ← List.append_assoc, ← HI.out.2.1, HA22.out, HA21.out, HB21.out, HB22.out]; simp [bopd], take_all HY.out HI.out.2.2.1 (by omega : 0 ≤ y.kind), by have h1 := HI.out.2.2.2; have h2 := HLEN.out; omega⟩
        case measure => simp [RowKit.intOf]; omega
    · have hltz : ¬ (j : Int) < (cm : Int) := by omega
      have hjl : j = cd.length := by have := HCM.out; omega
      have HT2 : Hid (A = A4 ++ cd.flatMap bopd ∧ ∀ y ∈ cd, 0 ≤ y.kind) := by
        have h1 := HI.out.2.1
        have h2 := HI.out.2.2.1
        rw [hjl, List.take_length] at h1 h2
        exact ⟨h1, h2⟩
      have R30 := hid HI.out.1
      clear HI hjl
      have he2 : Hid (enod ⟨2, i, o, cd, via, bd, cn, st⟩ = 0) := by
        show enod _ = _
        rw [he.out, if_neg]
        intro h
        obtain ⟨y, hy, h⟩ := List.any_eq_true.1 h
        have := HT2.out.2 y hy
        simp at h
        omega
      obtain ⟨c30, l30⟩ := R30.out.facts
      simp only [NV.cells, NV.cv, NV.dv] at c30
      go_wp2_with fail
      refine bodyPost_ret (v := .tuple #[u4, .int .i64 0]) (by simp [results, Try.results36, go_sem]) rfl ?_
      exact R30.out.nb he2.out (by rw [HT2.out.1, HA4.out, HA3.out, HB4.out, HCM.out]; simp [bnod, bbody, blst, bint])
set_option maxRecDepth 100000 in
set_option maxHeartbeats 4000000 in
theorem rnode3' {x : NV} (hk : x.n.kind = 3) (hT : NodT x.n) (w : World) (hN : NR w.heap.size w x) (lc : x.n.code.length ≤ 140737488355328) (ld : x.n.conns.length ≤ 140737488355328) (hp : ports x.n = true) (hb : bare x.n = true) (hc : x.n.code.length ≤ 16) (hd : x.n.conns.length ≤ 16) : Calls Try.prog 36 #[.agg x.cells] w (Nb w x.n) := by
  have hmx : Try.prog.follows .mixedOrders = true := by kernel_rfl
  obtain ⟨⟨k, i, o, cd, via, bd, cn, st⟩, cq, cm, cc, dq, dm, dc⟩ := x
  have HCM : Hid (cm = cd.length) := by
    obtain ⟨p, c, h⟩ := hN.code.form
    simp only [Value.slice.injEq] at h
    exact h.2.1
  have HDM : Hid (dm = cn.length) := by
    obtain ⟨p, c, h⟩ := hN.conns.form
    simp only [Value.slice.injEq] at h
    exact h.2.1
  simp only at *
  subst hk
  obtain ⟨W0, hW0⟩ : ∃ W, W = w.alloc (.cells (ncells 3 i o (.slice cq cm cc) via bd (.slice dq dm dc) st) 67) := ⟨_, rfl⟩
  have G0 : Hid (Gr w W0 ∧ W0.heap[w.heap.size]? = some (.cells (ncells 3 i o (.slice cq cm cc) via bd (.slice dq dm dc) st) 67 (0, 0))) := by
    rw [hW0]
    exact ⟨(Gr.refl w).alloc _, heap_new' _ _⟩
  have HW : Hid (w.alloc (.cells #[.int .i64 3, .int .i64 i, .int .i64 o, .slice cq cm cc, .int .u64 (via.1 : Nat), .int .u64 (via.2.1 : Nat), .int .u64 (via.2.2 : Nat), .int .u64 (bd : Nat), .slice dq dm dc, .bool st] 67) = W0) := hW0.symm
  have HT := hid hT
  have HN := hid hN
  have HP := fun W => rports_any ⟨⟨3, i, o, cd, via, bd, cn, st⟩, cq, cm, cc, dq, dm, dc⟩ W
  have HBr := fun W => rbare_any ⟨⟨3, i, o, cd, via, bd, cn, st⟩, cq, cm, cc, dq, dm, dc⟩ HCM.out HDM.out W
  clear hT hN hW0
  simp only [NV.cells, NV.cv, NV.dv] at *
  go_enter Try.func36, Try.ntmps36
  have hcn : cn = [] := by
    have h := hb
    simp [bare] at h
    exact h.2.1
  have he : Hid (enod ⟨3, i, o, cd, via, bd, cn, st⟩ = if cd.any (fun o => o.kind < 0) then 24 else 0) := by
    show enod _ = _
    unfold enod
    rw [if_neg (by simp), if_neg (by rw [hp]; simp), if_neg (by rw [hb]; simp), if_neg (by simp only; omega)]
    simp [hcn]
  have HCN := hid hcn
  clear hcn
  have hlen16 : Hid (cm ≤ 16) := by show _ ≤ _; rw [HCM.out]; exact hc
  have hcl : IntKind.u64.wrap (cm : Int) = (cm : Int) := by rw [IntKind.wrap_u64]; have := hlen16.out; omega
  go_wp2_with fail
  rw [HW.out]
  clear HW
  refine (HP _).mono ?_
  rintro r w1 ⟨rfl, g1⟩
  have n1 := (g1.below.block _ (tk_lt G0.out.2)).trans G0.out.2
  have G1 := hid (And.intro (G0.out.1.trans g1) n1)
  have c1 := (tk_store n1).1
  have l1 := tk_lt n1
  clear g1 n1 G0 HP
  rw [hp]
  go_wp2_with fail
  refine (HBr _).mono ?_
  rintro r w2 ⟨rfl, g2⟩
  have n2 := (g2.below.block _ (tk_lt G1.out.2)).trans G1.out.2
  have G2 := hid (And.intro (G1.out.1.trans g2) n2)
  clear c1 l1
  have c2 := (tk_store n2).1
  have l2 := tk_lt n2
  clear g2 n2 G1 HBr
  rw [hb]
  have z1 : ¬ (16 : Int) < (cm : Int) := by have := HCM.out; omega
  have z2 : ¬ (16 : Int) < (dm : Int) := by have := HDM.out; omega
  clear hc hd lc ld
  go_wp2_with fail
  refine (rnumber_any 3 (by decide) _).mono ?_
  rintro r w3 ⟨b3, d3, rfl, h3⟩
  obtain ⟨A3, hA3⟩ : ∃ A, A = form 3 := ⟨_, rfl⟩
  rw [← hA3] at h3
  have R3 : Hid (Rn w w3 ⟨⟨3, i, o, cd, via, bd, cn, st⟩, cq, cm, cc, dq, dm, dc⟩ d3 A3) := ⟨G2.out.1.below.trans (b3.mono G2.out.1.size), (b3.block _ (tk_lt G2.out.2)).trans G2.out.2, owns_base h3 (by have := tk_lt G2.out.2; omega), by rw [hA3]; exact Nat.le_trans (form_ten (by decide)) (by decide)⟩
  have HA3 := hid hA3
  have LA3 : Hid (A3.length ≤ 10) := by show _ ≤ _; rw [hA3]; exact form_ten (by decide)
  clear b3 h3 G2 c2 l2 hA3
  obtain ⟨c3, l3⟩ := R3.out.facts
  simp only [NV.cells, NV.cv, NV.dv] at c3
  obtain ⟨B4, hB4⟩ : ∃ B : List UInt8, B = form cm := ⟨_, rfl⟩
  have lB4 : Hid (B4.length ≤ 10) := by show _ ≤ _; rw [hB4]; exact form_ten (by have := hlen16.out; omega)
  have HB4 := hid hB4
  clear hB4
  go_wp2_with fail
  refine (rnumber_any cm (by have := hlen16.out; omega) _).mono ?_
  rintro r wa4 ⟨ba, da, rfl, ha⟩
  rw [← HB4.out] at ha
  have Oa := hid (owns_below R3.out.row ba)
  have Da := hid (owns_ls (E := EB) ha)
  have Ba := hid ba
  clear ba ha c3 l3
  go_wp2_with (at_builtin; refine wpBL rfl _ _ rfl (w.heap.size + 1) _ A3 rfl Oa.out _ B4 rfl (Or.inl Da.out) (by have := lB4.out; have := R3.out.len; omega) (Nat.le_trans R3.out.facts.2 Ba.out.size) ?_)
  intro d4 w4 h3 k3
  obtain ⟨A4, hA4⟩ : ∃ A' : List UInt8, A' = A3 ++ B4 := ⟨_, rfl⟩
  have R4 : Hid (Rn w w4 ⟨⟨3, i, o, cd, via, bd, cn, st⟩, cq, cm, cc, dq, dm, dc⟩ d4 A4) := by
    rw [hA4]
    exact R3.out.app Ba.out (owns_re h3.out (by simp) rfl) k3.out (by have := lB4.out; have := LA3.out; rw [List.length_append]; omega)
  have HA4 := hid hA4
  have LA4 : Hid (A4.length ≤ 20) := by show _ ≤ _; have := lB4.out; have := LA3.out; rw [hA4, List.length_append]; omega
  clear hA4 h3 k3 Oa Da Ba
  obtain ⟨c4, l4⟩ := R4.out.facts
  simp only [NV.cells, NV.cv, NV.dv] at c4
  go_wp2_with fail
  go_loopw [4, 52] (fun s4 s52 wr => ∃ (j : Nat) (A : List UInt8), j ≤ cm ∧ s52 = .int .i64 (j : Nat) ∧ Hid (Rn w wr ⟨⟨3, i, o, cd, via, bd, cn, st⟩, cq, cm, cc, dq, dm, dc⟩ s4 A ∧ A = A4 ++ (cd.take j).flatMap bopd ∧ (∀ y ∈ cd.take j, 0 ≤ y.kind) ∧ A.length ≤ 30 + 20 * j)) (fun _ s52 _ => cm - (RowKit.intOf s52).toNat)
  case atStart => exact ⟨0, A4, Nat.zero_le _, rfl, R4.out, by simp, fun y hy => (by simp at hy), by have := LA4.out; omega⟩
  case round =>
    clear R4 c4 l4
    obtain ⟨j, A, hj, rfl, HI⟩ := hrel
    by_cases hlt : j < cm
    · have hltz : (j : Int) < (cm : Int) := by omega
      obtain ⟨y, hy⟩ : ∃ y, cd[j]? = some y := ⟨cd[j]'(by have := HCM.out; omega), by simp⟩
      have hTy := HT.out.2.2.2.1 y (List.mem_of_getElem? hy)
      obtain ⟨b1, o1, q1, ev1, zz1, x0, x1⟩ := ls_atO ((HN.out.code.below HI.out.1.bl).ls hy) hy
      simp only [Value.slice.injEq] at ev1
      obtain ⟨rfl, -, rfl⟩ := ev1
      have R20 := hid (Ro.new HI.out.1 #[.int .i64 y.kind, .int .u64 (y.arg : Nat)] 78)
      have LA20 : Hid (A.length ≤ 350) := by show _ ≤ _; have := HI.out.2.2.2; have := hlen16.out; omega
      obtain ⟨ob, hob⟩ : ∃ ob, ob = wr.heap.size := ⟨_, rfl⟩
      have HOB := hid hob
      rw [← hob] at R20
      obtain ⟨W20, hW20⟩ : ∃ W, W = wr.alloc (.cells #[.int .i64 y.kind, .int .u64 (y.arg : Nat)] 78) := ⟨_, rfl⟩
      have HW20 := hid hW20.symm
      rw [← hW20] at R20
      clear hob hW20
      obtain ⟨⟨c20, l20⟩, e20, f20⟩ := R20.out.facts
      simp only [NV.cells, NV.cv, NV.dv] at c20
      have HY := hid hy
      clear hy
      by_cases hn1 : y.kind < 0
      · skip
        have he2 : Hid (enod ⟨3, i, o, cd, via, bd, cn, st⟩ = 24) := by
          show enod _ = _
          rw [he.out, if_pos (List.any_eq_true.2 ⟨y, List.mem_of_getElem? HY.out, by simp; omega⟩)]
        go_upto_region 17 with fail
        rw [HW20.out, ← HOB.out]
        clear HW20 HOB
        have B20 := hid R20.out.rn.bl
        go_wp2_with fail
        refine bodyPost_ret (v := .tuple #[.slice none 0 0, .int .i64 24]) (by simp [results, Try.results36, go_sem]) rfl ?_
        exact nb_bad B20.out he2.out (by decide)
      · skip
        have hv1 := u64_conv hTy.1 (by omega : 0 ≤ y.kind)
        go_upto_region 17 with fail
        rw [HW20.out, ← HOB.out]
        clear HW20 HOB
        clear x0 x1 zz1
        obtain ⟨B21, hB21⟩ : ∃ B : List UInt8, B = bint y.kind := ⟨_, rfl⟩
        have lB21 : Hid (B21.length ≤ 10) := by show _ ≤ _; rw [hB21]; exact bint_len hTy.1
        have HB21 := hid hB21
        clear hB21
        go_wp2_with fail
        refine (rint_any hTy.1 (by omega) _).mono ?_
        rintro r wa21 ⟨ba, da, rfl, ha⟩
        rw [← HB21.out] at ha
        have Oa := hid (owns_below R20.out.rn.row ba)
        have Da := hid (owns_ls (E := EB) ha)
        have Ba := hid ba
        clear ba ha c20 l20 e20 f20
        go_wp2_with (at_builtin; refine wpBL rfl _ _ rfl (w.heap.size + 1) _ A rfl Oa.out _ B21 rfl (Or.inl Da.out) (by have := lB21.out; have := LA20.out; omega) (Nat.le_trans R20.out.rn.facts.2 Ba.out.size) ?_)
        intro d21 w21 h3 k3
        obtain ⟨A21, hA21⟩ : ∃ A' : List UInt8, A' = A ++ B21 := ⟨_, rfl⟩
        have R21 : Hid (Ro w w21 ⟨⟨3, i, o, cd, via, bd, cn, st⟩, some ⟨b1, o1, none⟩, cm, cc, dq, dm, dc⟩ d21 A21 ob #[.int .i64 y.kind, .int .u64 (y.arg : Nat)] 78) := by
          rw [hA21]
          exact R20.out.app Ba.out (owns_re h3.out (by simp) rfl) k3.out (by have := lB21.out; have := LA20.out; rw [List.length_append]; omega)
        have HA21 := hid hA21
        have LA21 : Hid (A21.length ≤ 360) := by show _ ≤ _; have := lB21.out; have := LA20.out; rw [hA21, List.length_append]; omega
        clear hA21 h3 k3 Oa Da Ba
        obtain ⟨⟨c21, l21⟩, e21, f21⟩ := R21.out.facts
        simp only [NV.cells, NV.cv, NV.dv] at c21
        obtain ⟨B22, hB22⟩ : ∃ B : List UInt8, B = form y.arg := ⟨_, rfl⟩
        have lB22 : Hid (B22.length ≤ 10) := by show _ ≤ _; rw [hB22]; exact form_ten (u64lt hTy.2)
        have HB22 := hid hB22
        clear hB22
        go_wp2_with fail
        refine (rnumber_any y.arg (u64lt hTy.2) _).mono ?_
        rintro r wa22 ⟨ba, da, rfl, ha⟩
        rw [← HB22.out] at ha
        have Oa := hid (owns_below R21.out.rn.row ba)
        have Da := hid (owns_ls (E := EB) ha)
        have Ba := hid ba
        clear ba ha c21 l21 e21 f21
        go_wp2_with (at_builtin; refine wpBL rfl _ _ rfl (w.heap.size + 1) _ A21 rfl Oa.out _ B22 rfl (Or.inl Da.out) (by have := lB22.out; have := LA21.out; omega) (Nat.le_trans R21.out.rn.facts.2 Ba.out.size) ?_)
        intro d22 w22 h3 k3
        obtain ⟨A22, hA22⟩ : ∃ A' : List UInt8, A' = A21 ++ B22 := ⟨_, rfl⟩
        have R22 : Hid (Ro w w22 ⟨⟨3, i, o, cd, via, bd, cn, st⟩, some ⟨b1, o1, none⟩, cm, cc, dq, dm, dc⟩ d22 A22 ob #[.int .i64 y.kind, .int .u64 (y.arg : Nat)] 78) := by
          rw [hA22]
          exact R21.out.app Ba.out (owns_re h3.out (by simp) rfl) k3.out (by have := lB22.out; have := LA21.out; rw [List.length_append]; omega)
        have HA22 := hid hA22
        have LA22 : Hid (A22.length ≤ 370) := by show _ ≤ _; have := lB22.out; have := LA21.out; rw [hA22, List.length_append]; omega
        clear hA22 h3 k3 Oa Da Ba
        obtain ⟨⟨c22, l22⟩, e22, f22⟩ := R22.out.facts
        simp only [NV.cells, NV.cv, NV.dv] at c22
        have HLEN : Hid (A22.length ≤ A.length + 20) := by show _ ≤ _; rw [HA22.out, HA21.out]; simp only [List.length_append]; have t21 := lB21.out ; have t22 := lB22.out; omega
        go_wp2_with fail
        go_roundw
        case rel => exact ⟨j + 1, A22, by omega, by go_num, R22.out.rn, by rw [take_flat bopd HY.out, ← List.append_assoc, ← HI.out.2.1, HA22.out, HA21.out, HB21.out, HB22.out]; simp [bopd], take_all HY.out HI.out.2.2.1 (by omega : 0 ≤ y.kind), by have h1 := HI.out.2.2.2; have h2 := HLEN.out; omega⟩
        case measure => simp [RowKit.intOf]; omega
    · have hltz : ¬ (j : Int) < (cm : Int) := by omega
      have hjl : j = cd.length := by have := HCM.out; omega
      have HT2 : Hid (A = A4 ++ cd.flatMap bopd ∧ ∀ y ∈ cd, 0 ≤ y.kind) := by
        have h1 := HI.out.2.1
        have h2 := HI.out.2.2.1
        rw [hjl, List.take_length] at h1 h2
        exact ⟨h1, h2⟩
      have R30 := hid HI.out.1
      clear HI hjl
      have he2 : Hid (enod ⟨3, i, o, cd, via, bd, cn, st⟩ = 0) := by
        show enod _ = _
        rw [he.out, if_neg]
        intro h
        obtain ⟨y, hy, h⟩ := List.any_eq_true.1 h
        have := HT2.out.2 y hy
        simp at h
        omega
      obtain ⟨c30, l30⟩ := R30.out.facts
      simp only [NV.cells, NV.cv, NV.dv] at c30
      go_wp2_with fail
      refine bodyPost_ret (v := .tuple #[u4, .int .i64 0]) (by simp [results, Try.results36, go_sem]) rfl ?_
      exact R30.out.nb he2.out (by rw [HT2.out.1, HA4.out, HA3.out, HB4.out, HCM.out]; simp [bnod, bbody, blst, bint])
set_option maxRecDepth 100000 in
set_option maxHeartbeats 4000000 in
theorem rnode8' {x : NV} (hk : x.n.kind = 8) (hT : NodT x.n) (w : World) (hN : NR w.heap.size w x) (lc : x.n.code.length ≤ 140737488355328) (ld : x.n.conns.length ≤ 140737488355328) (hp : ports x.n = true) (hb : bare x.n = true) (hc : x.n.code.length ≤ 16) (hd : x.n.conns.length ≤ 16) : Calls Try.prog 36 #[.agg x.cells] w (Nb w x.n) := by
  have hmx : Try.prog.follows .mixedOrders = true := by kernel_rfl
  obtain ⟨⟨k, i, o, cd, via, bd, cn, st⟩, cq, cm, cc, dq, dm, dc⟩ := x
  have HCM : Hid (cm = cd.length) := by
    obtain ⟨p, c, h⟩ := hN.code.form
    simp only [Value.slice.injEq] at h
    exact h.2.1
  have HDM : Hid (dm = cn.length) := by
    obtain ⟨p, c, h⟩ := hN.conns.form
    simp only [Value.slice.injEq] at h
    exact h.2.1
  simp only at *
  subst hk
  obtain ⟨W0, hW0⟩ : ∃ W, W = w.alloc (.cells (ncells 8 i o (.slice cq cm cc) via bd (.slice dq dm dc) st) 67) := ⟨_, rfl⟩
  have G0 : Hid (Gr w W0 ∧ W0.heap[w.heap.size]? = some (.cells (ncells 8 i o (.slice cq cm cc) via bd (.slice dq dm dc) st) 67 (0, 0))) := by
    rw [hW0]
    exact ⟨(Gr.refl w).alloc _, heap_new' _ _⟩
  have HW : Hid (w.alloc (.cells #[.int .i64 8, .int .i64 i, .int .i64 o, .slice cq cm cc, .int .u64 (via.1 : Nat), .int .u64 (via.2.1 : Nat), .int .u64 (via.2.2 : Nat), .int .u64 (bd : Nat), .slice dq dm dc, .bool st] 67) = W0) := hW0.symm
  have HT := hid hT
  have HN := hid hN
  have HP := fun W => rports_any ⟨⟨8, i, o, cd, via, bd, cn, st⟩, cq, cm, cc, dq, dm, dc⟩ W
  have HBr := fun W => rbare_any ⟨⟨8, i, o, cd, via, bd, cn, st⟩, cq, cm, cc, dq, dm, dc⟩ HCM.out HDM.out W
  clear hT hN hW0
  simp only [NV.cells, NV.cv, NV.dv] at *
  go_enter Try.func36, Try.ntmps36
  have hcd : cd = [] := by
    have h := hb
    simp [bare] at h
    exact h.1
  have hio : 0 ≤ i ∧ 0 ≤ o := by
    have h := hp
    simp [ports] at h
    exact h
  have hcv := u64_conv HT.out.2.1 hio.1
  have hcv2 := u64_conv HT.out.2.2.1 hio.2
  have he : Hid (enod ⟨8, i, o, cd, via, bd, cn, st⟩ = if cn.any (fun c => c.inn < 0 || c.out < 0) then 23 else 0) := by
    show enod _ = _
    unfold enod
    rw [if_neg (by simp), if_neg (by rw [hp]; simp), if_neg (by rw [hb]; simp), if_neg (by simp only; omega), if_neg (by simp [hcd])]
  have HCD := hid hcd
  clear hcd
  have hlen16 : Hid (dm ≤ 16) := by show _ ≤ _; rw [HDM.out]; exact hd
  have hcl : IntKind.u64.wrap (dm : Int) = (dm : Int) := by rw [IntKind.wrap_u64]; have := hlen16.out; omega
  go_wp2_with fail
  rw [HW.out]
  clear HW
  refine (HP _).mono ?_
  rintro r w1 ⟨rfl, g1⟩
  have n1 := (g1.below.block _ (tk_lt G0.out.2)).trans G0.out.2
  have G1 := hid (And.intro (G0.out.1.trans g1) n1)
  have c1 := (tk_store n1).1
  have l1 := tk_lt n1
  clear g1 n1 G0 HP
  rw [hp]
  go_wp2_with fail
  refine (HBr _).mono ?_
  rintro r w2 ⟨rfl, g2⟩
  have n2 := (g2.below.block _ (tk_lt G1.out.2)).trans G1.out.2
  have G2 := hid (And.intro (G1.out.1.trans g2) n2)
  clear c1 l1
  have c2 := (tk_store n2).1
  have l2 := tk_lt n2
  clear g2 n2 G1 HBr
  rw [hb]
  have z1 : ¬ (16 : Int) < (cm : Int) := by have := HCM.out; omega
  have z2 : ¬ (16 : Int) < (dm : Int) := by have := HDM.out; omega
  clear hc hd lc ld
  go_wp2_with fail
  refine (rnumber_any 8 (by decide) _).mono ?_
  rintro r w3 ⟨b3, d3, rfl, h3⟩
  obtain ⟨A3, hA3⟩ : ∃ A, A = form 8 := ⟨_, rfl⟩
  rw [← hA3] at h3
  have R3 : Hid (Rn w w3 ⟨⟨8, i, o, cd, via, bd, cn, st⟩, cq, cm, cc, dq, dm, dc⟩ d3 A3) := ⟨G2.out.1.below.trans (b3.mono G2.out.1.size), (b3.block _ (tk_lt G2.out.2)).trans G2.out.2, owns_base h3 (by have := tk_lt G2.out.2; omega), by rw [hA3]; exact Nat.le_trans (form_ten (by decide)) (by decide)⟩
  have HA3 := hid hA3
  have LA3 : Hid (A3.length ≤ 10) := by show _ ≤ _; rw [hA3]; exact form_ten (by decide)
  clear b3 h3 G2 c2 l2 hA3
  obtain ⟨c3, l3⟩ := R3.out.facts
  simp only [NV.cells, NV.cv, NV.dv] at c3
  obtain ⟨B4, hB4⟩ : ∃ B : List UInt8, B = btruth st := ⟨_, rfl⟩
  have lB4 : Hid (B4.length ≤ 1) := by show _ ≤ _; rw [hB4]; exact by simp [btruth]
  have HB4 := hid hB4
  clear hB4
  go_wp2_with fail
  refine (rtruth_any st _).mono ?_
  rintro r wa4 ⟨ba, da, rfl, ha⟩
  rw [← HB4.out] at ha
  have Oa := hid (owns_below R3.out.row ba)
  have Da := hid (owns_ls (E := EB) ha)
  have Ba := hid ba
  clear ba ha c3 l3
  go_wp2_with (at_builtin; refine wpBL rfl _ _ rfl (w.heap.size + 1) _ A3 rfl Oa.out _ B4 rfl (Or.inl Da.out) (by have := lB4.out; have := R3.out.len; omega) (Nat.le_trans R3.out.facts.2 Ba.out.size) ?_)
  intro d4 w4 h3 k3
  obtain ⟨A4, hA4⟩ : ∃ A' : List UInt8, A' = A3 ++ B4 := ⟨_, rfl⟩
  have R4 : Hid (Rn w w4 ⟨⟨8, i, o, cd, via, bd, cn, st⟩, cq, cm, cc, dq, dm, dc⟩ d4 A4) := by
    rw [hA4]
    exact R3.out.app Ba.out (owns_re h3.out (by simp) rfl) k3.out (by have := lB4.out; have := LA3.out; rw [List.length_append]; omega)
  have HA4 := hid hA4
  have LA4 : Hid (A4.length ≤ 11) := by show _ ≤ _; have := lB4.out; have := LA3.out; rw [hA4, List.length_append]; omega
  clear hA4 h3 k3 Oa Da Ba
  obtain ⟨c4, l4⟩ := R4.out.facts
  simp only [NV.cells, NV.cv, NV.dv] at c4
  obtain ⟨B5, hB5⟩ : ∃ B : List UInt8, B = form dm := ⟨_, rfl⟩
  have lB5 : Hid (B5.length ≤ 10) := by show _ ≤ _; rw [hB5]; exact form_ten (by have := hlen16.out; omega)
  have HB5 := hid hB5
  clear hB5
  go_wp2_with fail
  refine (rnumber_any dm (by have := hlen16.out; omega) _).mono ?_
  rintro r wa5 ⟨ba, da, rfl, ha⟩
  rw [← HB5.out] at ha
  have Oa := hid (owns_below R4.out.row ba)
  have Da := hid (owns_ls (E := EB) ha)
  have Ba := hid ba
  clear ba ha c4 l4
  go_wp2_with (at_builtin; refine wpBL rfl _ _ rfl (w.heap.size + 1) _ A4 rfl Oa.out _ B5 rfl (Or.inl Da.out) (by have := lB5.out; have := R4.out.len; omega) (Nat.le_trans R4.out.facts.2 Ba.out.size) ?_)
  intro d5 w5 h3 k3
  obtain ⟨A5, hA5⟩ : ∃ A' : List UInt8, A' = A4 ++ B5 := ⟨_, rfl⟩
  have R5 : Hid (Rn w w5 ⟨⟨8, i, o, cd, via, bd, cn, st⟩, cq, cm, cc, dq, dm, dc⟩ d5 A5) := by
    rw [hA5]
    exact R4.out.app Ba.out (owns_re h3.out (by simp) rfl) k3.out (by have := lB5.out; have := LA4.out; rw [List.length_append]; omega)
  have HA5 := hid hA5
  have LA5 : Hid (A5.length ≤ 21) := by show _ ≤ _; have := lB5.out; have := LA4.out; rw [hA5, List.length_append]; omega
  clear hA5 h3 k3 Oa Da Ba
  obtain ⟨c5, l5⟩ := R5.out.facts
  simp only [NV.cells, NV.cv, NV.dv] at c5
  go_wp2_with fail
  go_loopw [4, 100] (fun s4 s100 wr => ∃ (j : Nat) (A : List UInt8), j ≤ dm ∧ s100 = .int .i64 (j : Nat) ∧ Hid (Rn w wr ⟨⟨8, i, o, cd, via, bd, cn, st⟩, cq, cm, cc, dq, dm, dc⟩ s4 A ∧ A = A5 ++ (cn.take j).flatMap bcon ∧ (∀ y ∈ cn.take j, 0 ≤ y.inn ∧ 0 ≤ y.out) ∧ A.length ≤ 30 + 50 * j)) (fun _ s100 _ => dm - (RowKit.intOf s100).toNat)
  case atStart => exact ⟨0, A5, Nat.zero_le _, rfl, R5.out, by simp, fun y hy => (by simp at hy), by have := LA5.out; omega⟩
  case round =>
    clear R5 c5 l5
    obtain ⟨j, A, hj, rfl, HI⟩ := hrel
    by_cases hlt : j < dm
    · have hltz : (j : Int) < (dm : Int) := by omega
      obtain ⟨y, hy⟩ : ∃ y, cn[j]? = some y := ⟨cn[j]'(by have := HDM.out; omega), by simp⟩
      have hTy := HT.out.2.2.2.2.2.2 y (List.mem_of_getElem? hy)
      obtain ⟨b1, o1, q1, ev1, zz1, x0, x1, x2, x3, x4⟩ := ls_atC ((HN.out.conns.below HI.out.1.bl).ls hy) hy
      simp only [Value.slice.injEq] at ev1
      obtain ⟨rfl, -, rfl⟩ := ev1
      have R20 := hid (Ro.new HI.out.1 #[.int .i64 y.inn, .int .i64 y.out, .int .u64 (y.via.1 : Nat), .int .u64 (y.via.2.1 : Nat), .int .u64 (y.via.2.2 : Nat)] 80)
      have LA20 : Hid (A.length ≤ 830) := by show _ ≤ _; have := HI.out.2.2.2; have := hlen16.out; omega
      obtain ⟨ob, hob⟩ : ∃ ob, ob = wr.heap.size := ⟨_, rfl⟩
      have HOB := hid hob
      rw [← hob] at R20
      obtain ⟨W20, hW20⟩ : ∃ W, W = wr.alloc (.cells #[.int .i64 y.inn, .int .i64 y.out, .int .u64 (y.via.1 : Nat), .int .u64 (y.via.2.1 : Nat), .int .u64 (y.via.2.2 : Nat)] 80) := ⟨_, rfl⟩
      have HW20 := hid hW20.symm
      rw [← hW20] at R20
      clear hob hW20
      obtain ⟨⟨c20, l20⟩, e20, f20⟩ := R20.out.facts
      simp only [NV.cells, NV.cv, NV.dv] at c20
      have HY := hid hy
      clear hy
      by_cases hn1 : y.inn < 0
      · skip
        have he2 : Hid (enod ⟨8, i, o, cd, via, bd, cn, st⟩ = 23) := by
          show enod _ = _
          rw [he.out, if_pos (List.any_eq_true.2 ⟨y, List.mem_of_getElem? HY.out, by simp; omega⟩)]
        go_upto_region 31 with fail
        rw [HW20.out, ← HOB.out]
        clear HW20 HOB
        have B20 := hid R20.out.rn.bl
        go_wp2_with fail
        refine bodyPost_ret (v := .tuple #[.slice none 0 0, .int .i64 23]) (by simp [results, Try.results36, go_sem]) rfl ?_
        exact nb_bad B20.out he2.out (by decide)
      · by_cases hn2 : y.out < 0
        · skip
          have he2 : Hid (enod ⟨8, i, o, cd, via, bd, cn, st⟩ = 23) := by
            show enod _ = _
            rw [he.out, if_pos (List.any_eq_true.2 ⟨y, List.mem_of_getElem? HY.out, by simp; omega⟩)]
          go_upto_region 31 with fail
          rw [HW20.out, ← HOB.out]
          clear HW20 HOB
          have B20 := hid R20.out.rn.bl
          go_wp2_with fail
          refine bodyPost_ret (v := .tuple #[.slice none 0 0, .int .i64 23]) (by simp [results, Try.results36, go_sem]) rfl ?_
          exact nb_bad B20.out he2.out (by decide)
        · skip
          have hv1 := u64_conv hTy.1 (by omega : 0 ≤ y.inn)
          have hv2 := u64_conv hTy.2.1 (by omega : 0 ≤ y.out)
          go_upto_region 31 with fail
          rw [HW20.out, ← HOB.out]
          clear HW20 HOB
          clear x0 x1 x2 x3 x4 zz1
          obtain ⟨B21, hB21⟩ : ∃ B : List UInt8, B = bint y.inn := ⟨_, rfl⟩
          have lB21 : Hid (B21.length ≤ 10) := by show _ ≤ _; rw [hB21]; exact bint_len hTy.1
          have HB21 := hid hB21
          clear hB21
          go_wp2_with fail
          refine (rint_any hTy.1 (by omega) _).mono ?_
          rintro r wa21 ⟨ba, da, rfl, ha⟩
          rw [← HB21.out] at ha
          have Oa := hid (owns_below R20.out.rn.row ba)
          have Da := hid (owns_ls (E := EB) ha)
          have Ba := hid ba
          clear ba ha c20 l20 e20 f20
          go_wp2_with (at_builtin; refine wpBL rfl _ _ rfl (w.heap.size + 1) _ A rfl Oa.out _ B21 rfl (Or.inl Da.out) (by have := lB21.out; have := LA20.out; omega) (Nat.le_trans R20.out.rn.facts.2 Ba.out.size) ?_)
          intro d21 w21 h3 k3
          obtain ⟨A21, hA21⟩ : ∃ A' : List UInt8, A' = A ++ B21 := ⟨_, rfl⟩
          have R21 : Hid (Ro w w21 ⟨⟨8, i, o, cd, via, bd, cn, st⟩, cq, cm, cc, some ⟨b1, o1, none⟩, dm, dc⟩ d21 A21 ob #[.int .i64 y.inn, .int .i64 y.out, .int .u64 (y.via.1 : Nat), .int .u64 (y.via.2.1 : Nat), .int .u64 (y.via.2.2 : Nat)] 80) := by
            rw [hA21]
            exact R20.out.app Ba.out (owns_re h3.out (by simp) rfl) k3.out (by have := lB21.out; have := LA20.out; rw [List.length_append]; omega)
          have HA21 := hid hA21
          have LA21 : Hid (A21.length ≤ 840) := by show _ ≤ _; have := lB21.out; have := LA20.out; rw [hA21, List.length_append]; omega
          clear hA21 h3 k3 Oa Da Ba
          obtain ⟨⟨c21, l21⟩, e21, f21⟩ := R21.out.facts
          simp only [NV.cells, NV.cv, NV.dv] at c21
          obtain ⟨B22, hB22⟩ : ∃ B : List UInt8, B = bint y.out := ⟨_, rfl⟩
          have lB22 : Hid (B22.length ≤ 10) := by show _ ≤ _; rw [hB22]; exact bint_len hTy.2.1
          have HB22 := hid hB22
          clear hB22
          go_wp2_with fail
          refine (rint_any hTy.2.1 (by omega) _).mono ?_
          rintro r wa22 ⟨ba, da, rfl, ha⟩
          rw [← HB22.out] at ha
          have Oa := hid (owns_below R21.out.rn.row ba)
          have Da := hid (owns_ls (E := EB) ha)
          have Ba := hid ba
          clear ba ha c21 l21 e21 f21
          go_wp2_with (at_builtin; refine wpBL rfl _ _ rfl (w.heap.size + 1) _ A21 rfl Oa.out _ B22 rfl (Or.inl Da.out) (by have := lB22.out; have := LA21.out; omega) (Nat.le_trans R21.out.rn.facts.2 Ba.out.size) ?_)
          intro d22 w22 h3 k3
          obtain ⟨A22, hA22⟩ : ∃ A' : List UInt8, A' = A21 ++ B22 := ⟨_, rfl⟩
          have R22 : Hid (Ro w w22 ⟨⟨8, i, o, cd, via, bd, cn, st⟩, cq, cm, cc, some ⟨b1, o1, none⟩, dm, dc⟩ d22 A22 ob #[.int .i64 y.inn, .int .i64 y.out, .int .u64 (y.via.1 : Nat), .int .u64 (y.via.2.1 : Nat), .int .u64 (y.via.2.2 : Nat)] 80) := by
            rw [hA22]
            exact R21.out.app Ba.out (owns_re h3.out (by simp) rfl) k3.out (by have := lB22.out; have := LA21.out; rw [List.length_append]; omega)
          have HA22 := hid hA22
          have LA22 : Hid (A22.length ≤ 850) := by show _ ≤ _; have := lB22.out; have := LA21.out; rw [hA22, List.length_append]; omega
          clear hA22 h3 k3 Oa Da Ba
          obtain ⟨⟨c22, l22⟩, e22, f22⟩ := R22.out.facts
          simp only [NV.cells, NV.cv, NV.dv] at c22
          obtain ⟨B23, hB23⟩ : ∃ B : List UInt8, B = bpth y.via := ⟨_, rfl⟩
          have lB23 : Hid (B23.length ≤ 30) := by show _ ≤ _; rw [hB23]; exact bpth_len hTy.2.2
          have HB23 := hid hB23
          clear hB23
          go_wp2_with fail
          refine (rpath_any y.via hTy.2.2 _).mono ?_
          rintro r wa23 ⟨ba, da, rfl, ha⟩
          rw [← HB23.out] at ha
          have Oa := hid (owns_below R22.out.rn.row ba)
          have Da := hid (owns_ls (E := EB) ha)
          have Ba := hid ba
          clear ba ha c22 l22 e22 f22
          go_wp2_with (at_builtin; refine wpBL rfl _ _ rfl (w.heap.size + 1) _ A22 rfl Oa.out _ B23 rfl (Or.inl Da.out) (by have := lB23.out; have := LA22.out; omega) (Nat.le_trans R22.out.rn.facts.2 Ba.out.size) ?_)
          intro d23 w23 h3 k3
          obtain ⟨A23, hA23⟩ : ∃ A' : List UInt8, A' = A22 ++ B23 := ⟨_, rfl⟩
          have R23 : Hid (Ro w w23 ⟨⟨8, i, o, cd, via, bd, cn, st⟩, cq, cm, cc, some ⟨b1, o1, none⟩, dm, dc⟩ d23 A23 ob #[.int .i64 y.inn, .int .i64 y.out, .int .u64 (y.via.1 : Nat), .int .u64 (y.via.2.1 : Nat), .int .u64 (y.via.2.2 : Nat)] 80) := by
            rw [hA23]
            exact R22.out.app Ba.out (owns_re h3.out (by simp) rfl) k3.out (by have := lB23.out; have := LA22.out; rw [List.length_append]; omega)
          have HA23 := hid hA23
          have LA23 : Hid (A23.length ≤ 880) := by show _ ≤ _; have := lB23.out; have := LA22.out; rw [hA23, List.length_append]; omega
          clear hA23 h3 k3 Oa Da Ba
          obtain ⟨⟨c23, l23⟩, e23, f23⟩ := R23.out.facts
          simp only [NV.cells, NV.cv, NV.dv] at c23
          have HLEN : Hid (A23.length ≤ A.length + 50) := by show _ ≤ _; rw [HA23.out, HA22.out, HA21.out]; simp only [List.length_append]; have t21 := lB21.out ; have t22 := lB22.out ; have t23 := lB23.out; omega
          go_wp2_with fail
          go_roundw
          case rel => exact ⟨j + 1, A23, by omega, by go_num, R23.out.rn, by rw [take_flat bcon HY.out, ← List.append_assoc, ← HI.out.2.1, HA23.out, HA22.out, HA21.out, HB21.out, HB22.out, HB23.out]; simp [bcon], take_all HY.out HI.out.2.2.1 ⟨by omega, by omega⟩, by have h1 := HI.out.2.2.2; have h2 := HLEN.out; omega⟩
          case measure => simp [RowKit.intOf]; omega
    · have hltz : ¬ (j : Int) < (dm : Int) := by omega
      have hjl : j = cn.length := by have := HDM.out; omega
      have HT2 : Hid (A = A5 ++ cn.flatMap bcon ∧ ∀ y ∈ cn, 0 ≤ y.inn ∧ 0 ≤ y.out) := by
        have h1 := HI.out.2.1
        have h2 := HI.out.2.2.1
        rw [hjl, List.take_length] at h1 h2
        exact ⟨h1, h2⟩
      have R30 := hid HI.out.1
      clear HI hjl
      have he2 : Hid (enod ⟨8, i, o, cd, via, bd, cn, st⟩ = 0) := by
        show enod _ = _
        rw [he.out, if_neg]
        intro h
        obtain ⟨y, hy, h⟩ := List.any_eq_true.1 h
        have := HT2.out.2 y hy
        simp at h
        omega
      have LA30 : Hid (A.length ≤ 821) := by show _ ≤ _; rw [HT2.out.1, List.length_append]; have h1 := LA5.out; have h2 := flat_len bcon 50 cn (fun y hy => bcon_len (HT.out.2.2.2.2.2.2 y hy)); have h3 := hlen16.out; have h4 := HDM.out; omega
      obtain ⟨c30, l30⟩ := R30.out.facts
      simp only [NV.cells, NV.cv, NV.dv] at c30
      obtain ⟨B31, hB31⟩ : ∃ B : List UInt8, B = bint o := ⟨_, rfl⟩
      have lB31 : Hid (B31.length ≤ 10) := by show _ ≤ _; rw [hB31]; exact bint_len HT.out.2.2.1
      have HB31 := hid hB31
      clear hB31
      go_wp2_with fail
      refine (rint_any HT.out.2.2.1 hio.2 _).mono ?_
      rintro r wa31 ⟨ba, da, rfl, ha⟩
      rw [← HB31.out] at ha
      have Oa := hid (owns_below R30.out.row ba)
      have Da := hid (owns_ls (E := EB) ha)
      have Ba := hid ba
      clear ba ha c30 l30
      go_wp2_with (at_builtin; refine wpBL rfl _ _ rfl (w.heap.size + 1) _ A rfl Oa.out _ B31 rfl (Or.inl Da.out) (by have := lB31.out; have := R30.out.len; omega) (Nat.le_trans R30.out.facts.2 Ba.out.size) ?_)
      intro d31 w31 h3 k3
      obtain ⟨A31, hA31⟩ : ∃ A' : List UInt8, A' = A ++ B31 := ⟨_, rfl⟩
      have R31 : Hid (Rn w w31 ⟨⟨8, i, o, cd, via, bd, cn, st⟩, cq, cm, cc, dq, dm, dc⟩ d31 A31) := by
        rw [hA31]
        exact R30.out.app Ba.out (owns_re h3.out (by simp) rfl) k3.out (by have := lB31.out; have := LA30.out; rw [List.length_append]; omega)
      have HA31 := hid hA31
      have LA31 : Hid (A31.length ≤ 831) := by show _ ≤ _; have := lB31.out; have := LA30.out; rw [hA31, List.length_append]; omega
      clear hA31 h3 k3 Oa Da Ba
      obtain ⟨c31, l31⟩ := R31.out.facts
      simp only [NV.cells, NV.cv, NV.dv] at c31
      obtain ⟨B32, hB32⟩ : ∃ B : List UInt8, B = bint i := ⟨_, rfl⟩
      have lB32 : Hid (B32.length ≤ 10) := by show _ ≤ _; rw [hB32]; exact bint_len HT.out.2.1
      have HB32 := hid hB32
      clear hB32
      go_wp2_with fail
      refine (rint_any HT.out.2.1 hio.1 _).mono ?_
      rintro r wa32 ⟨ba, da, rfl, ha⟩
      rw [← HB32.out] at ha
      have Oa := hid (owns_below R31.out.row ba)
      have Da := hid (owns_ls (E := EB) ha)
      have Ba := hid ba
      clear ba ha c31 l31
      go_wp2_with (at_builtin; refine wpBL rfl _ _ rfl (w.heap.size + 1) _ A31 rfl Oa.out _ B32 rfl (Or.inl Da.out) (by have := lB32.out; have := R31.out.len; omega) (Nat.le_trans R31.out.facts.2 Ba.out.size) ?_)
      intro d32 w32 h3 k3
      obtain ⟨A32, hA32⟩ : ∃ A' : List UInt8, A' = A31 ++ B32 := ⟨_, rfl⟩
      have R32 : Hid (Rn w w32 ⟨⟨8, i, o, cd, via, bd, cn, st⟩, cq, cm, cc, dq, dm, dc⟩ d32 A32) := by
        rw [hA32]
        exact R31.out.app Ba.out (owns_re h3.out (by simp) rfl) k3.out (by have := lB32.out; have := LA31.out; rw [List.length_append]; omega)
      have HA32 := hid hA32
      have LA32 : Hid (A32.length ≤ 841) := by show _ ≤ _; have := lB32.out; have := LA31.out; rw [hA32, List.length_append]; omega
      clear hA32 h3 k3 Oa Da Ba
      obtain ⟨c32, l32⟩ := R32.out.facts
      simp only [NV.cells, NV.cv, NV.dv] at c32
      go_wp2_with fail
      refine bodyPost_ret (v := .tuple #[d32, .int .i64 0]) (by simp [results, Try.results36, go_sem]) rfl ?_
      exact R32.out.nb he2.out (by rw [HA32.out, HA31.out, HT2.out.1, HA5.out, HA4.out, HA3.out, HB4.out, HB5.out, HB31.out, HB32.out, HDM.out]; simp [bnod, bbody, blst, bint])
end Go.Proofs.Ytnclnagpfjmlcaa.Df
