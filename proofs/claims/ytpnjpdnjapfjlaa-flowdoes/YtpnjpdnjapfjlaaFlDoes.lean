import Derived.Test.YtpnjpdnjapfjlaaFlMk
namespace Go.Proofs.Ytpnjpdnjapfjlaa.Cd
open Go.RowKit Go.Sort
attribute [local go_sem ↓] Go.wp_at_zero Go.wp_at_succ

/-- A record at a time, with what is known of both. -/
abbrev Ak : Type := { a : T3 × Rc // a.1.ok ∧ Rok a.2 }
instance : Inhabited Ak := ⟨⟨(⟨0, 0, 0⟩, ⟨0, 0⟩), ⟨by decide, by decide, by decide⟩, ⟨by decide, by decide, by decide, by decide⟩⟩⟩
def EAk : El Ak where
  k := 5
  enc a := [.int .u64 a.1.1.a, .int .u64 a.1.1.b, .int .u64 a.1.1.c, .int .u64 a.1.2.key, .int .u64 a.1.2.val]
  len _ := rfl
  one a u hu := by
    simp at hu
    rcases hu with rfl | rfl | rfl | rfl | rfl <;> rfl
/-- An operator, or none, with the error. -/
def Fq (lo : Nat) (W : World) (v : Value) (x : Nd) (l : List Op2) : Prop := (newE x.kind l = 0 ∧ Flw lo W v x l) ∨ (newE x.kind l ≠ 0 ∧ v = .nilIface)
theorem Fq.below {lo : Nat} {w w' : World} {v : Value} {x : Nd} {l : List Op2} (h : Fq lo w v x l) (k : Below w.heap.size w w') : Fq lo w' v x l := h.imp (fun h => ⟨h.1, h.2.below k⟩) id
theorem Fq.kp {S : Nat → Prop} {lo : Nat} {w w' : World} {v : Value} {x : Nd} {l : List Op2} (h : Fq lo w v x l) (k : Kp S w w') (hS : ∀ j, lo ≤ j → j < w.heap.size → ¬ S j) : Fq lo w' v x l := h.imp (fun h => ⟨h.1, h.2.kp k hS⟩) id
/-- What the law holds: the two nodes and the own one, by their blocks, and the own list. -/
structure Dw (w W : World) (x m : Nd) (p q : Option Addr) (n c n' c' nb mb ob g k1 : Nat) (cur : List Op2) : Prop where
  bl : Below w.heap.size w W
  b1 : W.heap[nb]? = some (.cells (ncells x p n c) 28 (0, 0))
  b2 : W.heap[mb]? = some (.cells (ncells m q n' c') 28 (0, 0))
  b3 : W.heap[ob]? = some (.cells (ncells x (some ⟨g, 0, none⟩) n k1) 28 (0, 0))
  mkd : Mk W (.slice (some ⟨g, 0, none⟩) n k1) cur mO
  gt : w.heap.size ≤ g ∧ nb < g ∧ mb < g ∧ ob < g
section
variable {w W W' : World} {x m : Nd} {p q : Option Addr} {n c n' c' nb mb ob g k1 : Nat} {cur : List Op2}
theorem Dw.below (h : Dw w W x m p q n c n' c' nb mb ob g k1 cur) (k : Below W.heap.size W W') : Dw w W' x m p q n c n' c' nb mb ob g k1 cur :=
  ⟨h.bl.trans (k.mono h.bl.size), (k.block nb (tk_lt h.b1)).trans h.b1, (k.block mb (tk_lt h.b2)).trans h.b2, (k.block ob (tk_lt h.b3)).trans h.b3, h.mkd.below k, h.gt⟩
theorem Dw.put (h : Dw w W x m p q n c n' c' nb mb ob g k1 cur) {j : Nat} (hj : j < cur.length) (o : Op2) : Dw w ((W.setCell ⟨g, j * 2, none⟩ (.int .i64 o.kind)).setCell ⟨g, j * 2 + 1, none⟩ (.int .u64 o.arg)) x m p q n c n' c' nb mb ob g k1 (cur.set j o) := by
  obtain ⟨h1, h2⟩ := h.mkd.put hj o
  obtain ⟨g0, g1, g2, g3⟩ := h.gt
  exact ⟨h.bl.trans (h2.below h.bl.size (fun k e => by rw [e]; exact g0)), (h2.block nb (tk_lt h.b1) (by omega)).trans h.b1, (h2.block mb (tk_lt h.b2) (by omega)).trans h.b2, (h2.block ob (tk_lt h.b3) (by omega)).trans h.b3, h1, h.gt⟩
end
set_option maxHeartbeats 8000000 in
set_option maxRecDepth 100000 in
theorem flowDoes_any {x m : Nd} {p q : Option Addr} {n c n' c' : Nat} {l l' : List Op2} {va : Value} {as' : List Ak} (hy : x.y.ok) (hy' : m.y.ok) (hl : ∀ o ∈ l, Ook o) (hl' : ∀ o ∈ l', Ook o) (w : World) (hv : Ls EO w (.slice p n c) l) (hv' : Ls EO w (.slice q n' c') l') (ha : Ls EAk w va as') (hz : l.length * 16 ≤ 140737488351232) (hza : as'.length * 40 ≤ 140737488351232) : Calls Try.prog 4 #[x.v p n c, m.v q n' c', va] w fun e w' => e = .returned (.bool true) ∧ Below w.heap.size w w' := by
  have hmx : Try.prog.follows .mixedOrders = true := by kernel_rfl
  have heqO := fun x y W => run_eqO x y W
  have HNL : Hid (n = l.length) := by
    obtain ⟨p', c', h⟩ := hv.form
    simp only [Value.slice.injEq] at h
    exact h.2.1
  obtain ⟨ap, ac, rfl⟩ := ha.form
  obtain ⟨na, hna⟩ : ∃ na, na = as'.length := ⟨_, rfl⟩
  rw [← hna] at ha hza ⊢
  have HNA := hid hna
  have HV := hid hv
  have HV' := hid hv'
  have HA := hid ha
  have HZ := hid hz
  have HOK : Hid (x.y.ok ∧ m.y.ok ∧ (∀ o ∈ l, Ook o) ∧ ∀ o ∈ l', Ook o) := ⟨hy, hy', hl, hl'⟩
  have hnz : n ≤ 8796093021952 := by have := HNL.out; omega
  have hnaz : na ≤ 3518437208781 := by omega
  clear hy hy' hl hl' hv hv' ha hz hna hza
  go_enter Try.func4, Try.ntmps4
  go_upto_region 1 with fail
  obtain ⟨W0, hW0⟩ : ∃ W0, W0 = (w.alloc (.cells (ncells x p n c) 28)).alloc (.cells (ncells m q n' c') 28) := ⟨_, rfl⟩
  have hG : Gr w W0 := by rw [hW0]; exact ((Gr.refl w).alloc _).alloc _
  have h3 := two_nw w (.cells (ncells x p n c) 28) (.cells (ncells m q n' c') 28)
  rw [← hW0] at h3
  obtain ⟨nb, hnb⟩ : ∃ nb, nb = w.heap.size := ⟨_, rfl⟩
  obtain ⟨mb, hmb⟩ : ∃ mb, mb = nb + 1 := ⟨_, rfl⟩
  rw [← hW0, ← hnb, ← hmb]
  rw [← hnb, ← hmb] at h3
  have HG0 := hid hG.below
  have HL0 := hid h3
  clear hW0 hnb hmb h3 hG
  go_wp2_with fail
  refine (taken_any _).mono ?_
  rintro e w1 ⟨rfl, B1⟩
  have HB1 := hid B1
  clear B1
  go_wp2_with fail
  refine (kindOth_any _ _).mono ?_
  rintro e w2 ⟨rfl, g2⟩
  have HB2 : Hid (Below W0.heap.size W0 w2) := HB1.out.trans (g2.below.mono HB1.out.size)
  clear g2 HB1
  obtain ⟨z1, d1, -⟩ := blk_at ((HB2.out.block nb (tk_lt HL0.out.1)).trans HL0.out.1)
  go_upto_region 4 with fail
  obtain ⟨W5, hW5⟩ : ∃ W5, W5 = w2.alloc (.cells (ncells x p n c) 28) := ⟨_, rfl⟩
  obtain ⟨ob, hob⟩ : ∃ ob, ob = w2.heap.size := ⟨_, rfl⟩
  have P0 : Hid (W5.heap[nb]? = some (.cells (ncells x p n c) 28 (0, 0)) ∧ W5.heap[mb]? = some (.cells (ncells m q n' c') 28 (0, 0)) ∧ W5.heap[ob]? = some (.cells (ncells x p n c) 28 (0, 0)) ∧ Below w.heap.size w W5 ∧ nb < ob ∧ mb < ob ∧ w.heap.size ≤ ob) := by
    have hg := ((Gr.refl w2).alloc (.cells (ncells x p n c) 28)).below
    have k1 := (HB2.out.block nb (tk_lt HL0.out.1)).trans HL0.out.1
    have k2 := (HB2.out.block mb (tk_lt HL0.out.2)).trans HL0.out.2
    have hb : Below w.heap.size w w2 := HG0.out.trans (HB2.out.mono HG0.out.size)
    rw [hW5, hob]
    exact ⟨(hg.block nb (tk_lt k1)).trans k1, (hg.block mb (tk_lt k2)).trans k2, heap_new' _ _, hb.trans (hg.mono hb.size), tk_lt k1, tk_lt k2, hb.size⟩
  rw [← hW5, ← hob]
  clear hW5 hob z1 d1 HB2 HL0 HG0
  have LC : Hid (Ls EO W5 (.slice p n c) l) := HV.out.below P0.out.2.2.2.1
  go_cut [34] (fun _ w' => ∃ (g k1 : Nat), Hid (Dw w w' x m p q n c n' c' nb mb ob g k1 l))
  case first =>
    refine wp_regionD (S := fun W => Below W5.heap.size W5 W) (D := [12]) hmx ?_
    have BD : Hid (Below W5.heap.size W5 W5.drew) := (Gr.refl _).drew.below
    generalize W5.drew = Wd at BD ⊢
    refine' wpAnyD_take (i := 1) (oi := { dst := some 25, op := Go.Op.fieldAddr 28 (Go.Operand.tmp 3) 3, type := 0, pos := "law.go:41", after := #[], guard := none }) (v := _) rfl (by kernel_rfl) (by kernel_rfl) (by kernel_rfl) (fun _ _ _ h => h) (by kernel_rfl) (Or.inl ⟨by rfl, ?hy5001⟩) BD.out ?rest5001
    case hy5001 => (intro W hSw; go_simp; try (with_reducible rfl))
    try simp only [Act.put, List.setIfInBounds_toArray, List.set_cons_zero, List.set_cons_succ]
    refine' wpAnyD_take (i := 2) (oi := { dst := some 26, op := Go.Op.load 22 (Go.Operand.tmp 25), type := 22, pos := "law.go:41", after := #[{ on := 1, ground := Go.Ground.data }], guard := none }) (v := _) rfl (by kernel_rfl) (by kernel_rfl) (by kernel_rfl) (fun _ _ _ h => h) (by kernel_rfl) (Or.inl ⟨by rfl, ?hy5002⟩) BD.out ?rest5002
    case hy5002 => (intro W hSw; have hb := (hSw.block _ (tk_lt P0.out.1)).trans P0.out.1; have hc := (tk_store hb).1 3; have hl := tk_lt hb; go_simp; try (with_reducible rfl))
    try simp only [Act.put, List.setIfInBounds_toArray, List.set_cons_zero, List.set_cons_succ]
    refine' wpAnyD_take (i := 4) (oi := { dst := some 28, op := Go.Op.build 46 #[(0, Go.Operand.const (Go.Value.int Go.IntKind.i64 777))], type := 46, pos := "law.go:41", after := #[], guard := none }) (v := _) rfl (by kernel_rfl) (by kernel_rfl) (by kernel_rfl) (fun _ _ _ h => h) (by kernel_rfl) (Or.inl ⟨by rfl, ?hy5003⟩) BD.out ?rest5003
    case hy5003 => (intro W hSw; go_simp; try (with_reducible rfl))
    try simp only [Act.put, List.setIfInBounds_toArray, List.set_cons_zero, List.set_cons_succ]
    refine' wpAnyD_take (i := 7) (oi := { dst := some 31, op := Go.Op.fieldAddr 28 (Go.Operand.tmp 3) 3, type := 0, pos := "law.go:41", after := #[], guard := none }) (v := _) rfl (by kernel_rfl) (by kernel_rfl) (by kernel_rfl) (fun _ _ _ h => h) (by kernel_rfl) (Or.inl ⟨by rfl, ?hy5004⟩) BD.out ?rest5004
    case hy5004 => (intro W hSw; go_simp; try (with_reducible rfl))
    try simp only [Act.put, List.setIfInBounds_toArray, List.set_cons_zero, List.set_cons_succ]
    refine' wpAnyD_take (i := 8) (oi := { dst := some 32, op := Go.Op.load 22 (Go.Operand.tmp 31), type := 22, pos := "law.go:41", after := #[{ on := 7, ground := Go.Ground.data }], guard := none }) (v := _) rfl (by kernel_rfl) (by kernel_rfl) (by kernel_rfl) (fun _ _ _ h => h) (by kernel_rfl) (Or.inl ⟨by rfl, ?hy5005⟩) BD.out ?rest5005
    case hy5005 => (intro W hSw; have hb := (hSw.block _ (tk_lt P0.out.1)).trans P0.out.1; have hc := (tk_store hb).1 3; have hl := tk_lt hb; go_simp; try (with_reducible rfl))
    try simp only [Act.put, List.setIfInBounds_toArray, List.set_cons_zero, List.set_cons_succ]
    refine' wpAnyD_take (i := 9) (oi := { dst := some 33, op := Go.Op.call { callee := Go.Callee.builtin Go.Builtin.len, args := #[Go.Operand.tmp 32], argTypes := #[22] }, type := 3, pos := "law.go:41", after := #[{ on := 8, ground := Go.Ground.data }], guard := none }) (v := _) rfl (by kernel_rfl) (by kernel_rfl) (by kernel_rfl) (fun _ _ _ h => h) (by kernel_rfl) (Or.inl ⟨by rfl, ?hy5006⟩) BD.out ?rest5006
    case hy5006 => (intro W hSw; go_simp; try (with_reducible rfl))
    try simp only [Act.put, List.setIfInBounds_toArray, List.set_cons_zero, List.set_cons_succ]
    refine wpAnyD_two (i := 0) (j := 5) (oi := { dst := some 24, op := Go.Op.buildSlice 22 0 #[], type := 22, pos := "law.go:41", after := #[], guard := none }) (oj := { dst := some 29, op := Go.Op.buildSlice 22 1 #[(0, Go.Operand.tmp 28)], type := 22, pos := "law.go:41", after := #[{ on := 4, ground := Go.Ground.data }], guard := none }) (by kernel_rfl) rfl rfl (fun K hK => ?_) (fun K hK => ?_)
    · go_simp
      have g5007 := (Gr.refl Wd).alloc (.cells #[] 46)
      have a5007 := heap_new' Wd (.cells #[] 46)
      obtain ⟨b5007, hb5007⟩ : ∃ b, b = Wd.heap.size := ⟨_, rfl⟩
      obtain ⟨V5007, hV5007⟩ : ∃ V, V = Wd.alloc (.cells #[] 46) := ⟨_, rfl⟩
      rw [← hV5007, ← hb5007]
      rw [← hV5007] at g5007 a5007
      have B5007 := hid (BD.out.trans (g5007.below.mono BD.out.size))
      have O5007 : Hid (V5007.ownsRow W5.heap.size 46 2 (.slice (some ⟨b5007, 0, none⟩) 0 0) 0 []) := by
        rw [hV5007, hb5007]
        exact World.ownsRow_made Wd #[] 0 BD.out.size (Nat.zero_le _) rfl
      clear g5007 a5007 hV5007 hb5007
      refine hK.out _ _ (fun hD => B5007.out) ?_
      clear hK K
      try simp only [Act.put, List.setIfInBounds_toArray, List.set_cons_zero, List.set_cons_succ]
      refine wpAnyD_two (i := 3) (j := 5) (oi := { dst := some 27, op := Go.Op.call { callee := Go.Callee.builtin Go.Builtin.append, args := #[Go.Operand.tmp 24, Go.Operand.tmp 26], argTypes := #[22, 22] }, type := 22, pos := "law.go:41", after := #[{ on := 0, ground := Go.Ground.data }, { on := 2, ground := Go.Ground.data }], guard := none }) (oj := { dst := some 29, op := Go.Op.buildSlice 22 1 #[(0, Go.Operand.tmp 28)], type := 22, pos := "law.go:41", after := #[{ on := 4, ground := Go.Ground.data }], guard := none }) (by kernel_rfl) rfl rfl (fun K hK => ?_) (fun K hK => ?_)
      · refine step_appL EO Try.underlying22 infoO rfl (by decide) rfl _ _ rfl W5.heap.size (.slice (some ⟨b5007, 0, none⟩) 0 0) 0 [] rfl O5007.out B5007.out.size (.slice p n c) l rfl (LC.out.below B5007.out) (by have := HZ.out; omega) (by have := HZ.out; unfold maxLen; omega) ?_
        intro v5008 w5008 h5008 k5008
        have K5008 := hid (Kp.grownBy (S := fun k => ((.slice (some ⟨b5007, 0, none⟩) 0 0) : Value).ownBlock = some k) k5008.out (fun _ h => h))
        have B5008 := hid (B5007.out.trans (K5008.out.below B5007.out.size (fun k hk => (owns_rd O5007.out k hk).1)))
        have O5008 : Hid (w5008.ownsRow W5.heap.size 46 2 v5008 l.length (fl EO l)) := owns_re h5008.out (by simp) (by simp)
        clear h5008 k5008
        refine hK.out _ _ (fun hD => B5008.out) ?_
        clear hK K
        try simp only [Act.put, List.setIfInBounds_toArray, List.set_cons_zero, List.set_cons_succ]
        refine wpAnyD_one (i := 5) (o := { dst := some 29, op := Go.Op.buildSlice 22 1 #[(0, Go.Operand.tmp 28)], type := 22, pos := "law.go:41", after := #[{ on := 4, ground := Go.Ground.data }], guard := none }) (by kernel_rfl) rfl (fun K hK => ?_)
        go_simp
        have g5009 := (Gr.refl w5008).alloc (.cells #[.int .i64 777, .int .u64 0] 46)
        have a5009 := heap_new' w5008 (.cells #[.int .i64 777, .int .u64 0] 46)
        obtain ⟨b5009, hb5009⟩ : ∃ b, b = w5008.heap.size := ⟨_, rfl⟩
        obtain ⟨V5009, hV5009⟩ : ∃ V, V = w5008.alloc (.cells #[.int .i64 777, .int .u64 0] 46) := ⟨_, rfl⟩
        rw [← hV5009, ← hb5009]
        rw [← hV5009] at g5009 a5009
        have B5009 := hid (B5008.out.trans (g5009.below.mono B5008.out.size))
        have M5009 : Hid (V5009.heap[b5009]? = some (.cells #[.int .i64 777, .int .u64 0] 46 (0, 0))) := by
          show _ = _
          rw [hb5009]
          exact a5009
        have O5009 := hid (owns_below O5008.out g5009.below)
        have N5009 : Hid (∀ k, (v5008 : Value).ownBlock = some k → k ≠ b5009) := fun k hk e => by
          have h1 := (owns_rd O5008.out k hk).2
          omega
        clear g5009 a5009 hV5009 hb5009
        refine hK.out _ _ (fun hD => B5009.out) ?_
        clear hK K
        try simp only [Act.put, List.setIfInBounds_toArray, List.set_cons_zero, List.set_cons_succ]
        refine wpAnyD_one (i := 6) (o := { dst := some 30, op := Go.Op.call { callee := Go.Callee.builtin Go.Builtin.append, args := #[Go.Operand.tmp 27, Go.Operand.tmp 29], argTypes := #[22, 22] }, type := 22, pos := "law.go:41", after := #[{ on := 3, ground := Go.Ground.data }, { on := 5, ground := Go.Ground.data }, { on := 3, ground := Go.Ground.chain }], guard := none }) (by kernel_rfl) rfl (fun K hK => ?_)
        refine step_appL EO Try.underlying22 infoO rfl (by decide) rfl _ _ rfl W5.heap.size v5008 l.length (fl EO l) rfl O5009.out B5009.out.size (.slice (some ⟨b5009, 0, none⟩) 1 1) [mO] rfl (one_ls M5009.out rfl) (by have := HZ.out; simp; omega) (by have := HZ.out; unfold maxLen; simp; omega) ?_
        intro v5010 w5010 h5010 k5010
        have K5010 := hid (Kp.grownBy (S := fun k => (v5008 : Value).ownBlock = some k) k5010.out (fun _ h => h))
        have B5010 := hid (B5009.out.trans (K5010.out.below B5009.out.size (fun k hk => (owns_rd O5009.out k hk).1)))
        have O5010 : Hid (w5010.ownsRow W5.heap.size 46 2 v5010 (l.length + 1) (fl EO (l ++ [mO]))) := owns_re h5010.out (by simp) (by rw [fl_append])
        obtain ⟨g5010, cap5010, hv5010, hc5010, MK5010⟩ := mk_of O5010.out
        subst hv5010
        have HM5010 := hid MK5010
        have GL5010 := hid ((owns_rd O5010.out g5010 rfl).1)
        have q0 : (0 : Int) ≤ (n : Int) := by omega
        have q1 : (n : Int) ≤ (cap5010 : Int) := by have := HNL.out; omega
        have q2 : l.length + 1 = n + 1 := by have := HNL.out; omega
        rw [q2]
        clear h5010 k5010 MK5010 hc5010 q2
        refine hK.out _ _ (fun hD => B5010.out) ?_
        clear hK K
        try simp only [Act.put, List.setIfInBounds_toArray, List.set_cons_zero, List.set_cons_succ]
        refine' wpAnyD_take (i := 10) (oi := { dst := some 34, op := Go.Op.slice 22 (Go.Operand.tmp 30) none (some (Go.Operand.tmp 33)) none, type := 22, pos := "law.go:41", after := #[{ on := 6, ground := Go.Ground.data }, { on := 9, ground := Go.Ground.data }], guard := none }) (v := _) rfl (by kernel_rfl) (by kernel_rfl) (by kernel_rfl) (fun _ _ _ h => h) (by kernel_rfl) (Or.inl ⟨by rfl, ?hy5011⟩) B5010.out ?rest5011
        case hy5011 => (intro W hSw; go_simp; try (with_reducible rfl))
        try simp only [Act.put, List.setIfInBounds_toArray, List.set_cons_zero, List.set_cons_succ]
        refine' wpAnyD_take (i := 11) (oi := { dst := some 35, op := Go.Op.fieldAddr 28 (Go.Operand.tmp 7) 3, type := 0, pos := "law.go:41", after := #[{ on := 0, ground := Go.Ground.phase }, { on := 1, ground := Go.Ground.phase }, { on := 2, ground := Go.Ground.phase }, { on := 3, ground := Go.Ground.phase }, { on := 4, ground := Go.Ground.phase }, { on := 5, ground := Go.Ground.phase }, { on := 6, ground := Go.Ground.phase }, { on := 7, ground := Go.Ground.phase }, { on := 8, ground := Go.Ground.phase }, { on := 9, ground := Go.Ground.phase }, { on := 10, ground := Go.Ground.phase }], guard := none }) (v := _) rfl (by kernel_rfl) (by kernel_rfl) (by kernel_rfl) (fun _ _ _ h => h) (by kernel_rfl) (Or.inl ⟨by rfl, ?hy5012⟩) B5010.out ?rest5012
        case hy5012 => (intro W hSw; go_simp; try (with_reducible rfl))
        try simp only [Act.put, List.setIfInBounds_toArray, List.set_cons_zero, List.set_cons_succ]
        refine wpAnyD_one (i := 12) (o := { dst := none, op := Go.Op.store 22 (Go.Operand.tmp 35) (Go.Operand.tmp 34), type := 0, pos := "law.go:41", after := #[{ on := 11, ground := Go.Ground.data }, { on := 10, ground := Go.Ground.data }, { on := 6, ground := Go.Ground.chain }, { on := 0, ground := Go.Ground.phase }, { on := 1, ground := Go.Ground.phase }, { on := 2, ground := Go.Ground.phase }, { on := 3, ground := Go.Ground.phase }, { on := 4, ground := Go.Ground.phase }, { on := 5, ground := Go.Ground.phase }, { on := 6, ground := Go.Ground.phase }, { on := 7, ground := Go.Ground.phase }, { on := 8, ground := Go.Ground.phase }, { on := 9, ground := Go.Ground.phase }, { on := 10, ground := Go.Ground.phase }], guard := none }) (by kernel_rfl) rfl (fun K hK => ?_)
        have p6 := (B5010.out.block _ (tk_lt P0.out.2.2.1)).trans P0.out.2.2.1
        have p4 := (B5010.out.block _ (tk_lt P0.out.1)).trans P0.out.1
        have p5 := (B5010.out.block _ (tk_lt P0.out.2.1)).trans P0.out.2.1
        have en := (tk_store p6).1
        have en2 := (tk_store p6).2
        have en3 := tk_lt p6
        have s12 := Df.tk_set p6 3 (.slice (some ⟨g5010, 0, none⟩) n cap5010)
        have FIN : Hid (Dw w (w5010.setCell ⟨ob, 3, none⟩ (.slice (some ⟨g5010, 0, none⟩) n cap5010)) x m p q n c n' c' nb mb ob g5010 cap5010 l) := by
          obtain ⟨-, -, q3, q4, q5, q6, q7⟩ := P0.out
          have hg := GL5010.out
          have h3 := HM5010.out
          have ho := tk_lt q3
          rw [← HNL.out] at h3
          have hb : Below w.heap.size w w5010 := q4.trans (B5010.out.mono q4.size)
          exact ⟨hb.trans (s12.2.below hb.size (fun k e => by rw [e]; exact q7)), (s12.2.block _ (tk_lt p4) (by omega)).trans p4, (s12.2.block _ (tk_lt p5) (by omega)).trans p5, s12.1, h3.kp s12.2 (fun k e e2 => by simp [Value.ownBlock] at e; omega), by omega, by omega, by omega, by omega⟩
        clear p6 p5 p4 s12
        go_simp
        refine hK.out _ _ (fun hD => absurd (by decide) hD) ?_
        clear hK K
        try simp only [Act.put, List.setIfInBounds_toArray, List.set_cons_zero, List.set_cons_succ]
        refine wpAnyD_done (by kernel_rfl) ?_ _
        go_wp2_with fail
        go_meet
        exact ⟨g5010, cap5010, FIN.out⟩
      · go_simp
        have g5013 := (Gr.refl V5007).alloc (.cells #[.int .i64 777, .int .u64 0] 46)
        have a5013 := heap_new' V5007 (.cells #[.int .i64 777, .int .u64 0] 46)
        obtain ⟨b5013, hb5013⟩ : ∃ b, b = V5007.heap.size := ⟨_, rfl⟩
        obtain ⟨V5013, hV5013⟩ : ∃ V, V = V5007.alloc (.cells #[.int .i64 777, .int .u64 0] 46) := ⟨_, rfl⟩
        rw [← hV5013, ← hb5013]
        rw [← hV5013] at g5013 a5013
        have B5013 := hid (B5007.out.trans (g5013.below.mono B5007.out.size))
        have M5013 : Hid (V5013.heap[b5013]? = some (.cells #[.int .i64 777, .int .u64 0] 46 (0, 0))) := by
          show _ = _
          rw [hb5013]
          exact a5013
        have O5013 := hid (owns_below O5007.out g5013.below)
        have N5013 : Hid (∀ k, ((.slice (some ⟨b5007, 0, none⟩) 0 0) : Value).ownBlock = some k → k ≠ b5013) := fun k hk e => by
          have h1 := (owns_rd O5007.out k hk).2
          omega
        clear g5013 a5013 hV5013 hb5013
        refine hK.out _ _ (fun hD => B5013.out) ?_
        clear hK K
        try simp only [Act.put, List.setIfInBounds_toArray, List.set_cons_zero, List.set_cons_succ]
        refine wpAnyD_one (i := 3) (o := { dst := some 27, op := Go.Op.call { callee := Go.Callee.builtin Go.Builtin.append, args := #[Go.Operand.tmp 24, Go.Operand.tmp 26], argTypes := #[22, 22] }, type := 22, pos := "law.go:41", after := #[{ on := 0, ground := Go.Ground.data }, { on := 2, ground := Go.Ground.data }], guard := none }) (by kernel_rfl) rfl (fun K hK => ?_)
        refine step_appL EO Try.underlying22 infoO rfl (by decide) rfl _ _ rfl W5.heap.size (.slice (some ⟨b5007, 0, none⟩) 0 0) 0 [] rfl O5013.out B5013.out.size (.slice p n c) l rfl (LC.out.below B5013.out) (by have := HZ.out; omega) (by have := HZ.out; unfold maxLen; omega) ?_
        intro v5014 w5014 h5014 k5014
        have K5014 := hid (Kp.grownBy (S := fun k => ((.slice (some ⟨b5007, 0, none⟩) 0 0) : Value).ownBlock = some k) k5014.out (fun _ h => h))
        have B5014 := hid (B5013.out.trans (K5014.out.below B5013.out.size (fun k hk => (owns_rd O5013.out k hk).1)))
        have O5014 : Hid (w5014.ownsRow W5.heap.size 46 2 v5014 l.length (fl EO l)) := owns_re h5014.out (by simp) (by simp)
        have M5014 := hid ((K5014.out.block _ (tk_lt M5013.out) (fun e => N5013.out _ e rfl)).trans M5013.out)
        clear h5014 k5014
        refine hK.out _ _ (fun hD => B5014.out) ?_
        clear hK K
        try simp only [Act.put, List.setIfInBounds_toArray, List.set_cons_zero, List.set_cons_succ]
        refine wpAnyD_one (i := 6) (o := { dst := some 30, op := Go.Op.call { callee := Go.Callee.builtin Go.Builtin.append, args := #[Go.Operand.tmp 27, Go.Operand.tmp 29], argTypes := #[22, 22] }, type := 22, pos := "law.go:41", after := #[{ on := 3, ground := Go.Ground.data }, { on := 5, ground := Go.Ground.data }, { on := 3, ground := Go.Ground.chain }], guard := none }) (by kernel_rfl) rfl (fun K hK => ?_)
        refine step_appL EO Try.underlying22 infoO rfl (by decide) rfl _ _ rfl W5.heap.size v5014 l.length (fl EO l) rfl O5014.out B5014.out.size (.slice (some ⟨b5013, 0, none⟩) 1 1) [mO] rfl (one_ls M5014.out rfl) (by have := HZ.out; simp; omega) (by have := HZ.out; unfold maxLen; simp; omega) ?_
        intro v5015 w5015 h5015 k5015
        have K5015 := hid (Kp.grownBy (S := fun k => (v5014 : Value).ownBlock = some k) k5015.out (fun _ h => h))
        have B5015 := hid (B5014.out.trans (K5015.out.below B5014.out.size (fun k hk => (owns_rd O5014.out k hk).1)))
        have O5015 : Hid (w5015.ownsRow W5.heap.size 46 2 v5015 (l.length + 1) (fl EO (l ++ [mO]))) := owns_re h5015.out (by simp) (by rw [fl_append])
        obtain ⟨g5015, cap5015, hv5015, hc5015, MK5015⟩ := mk_of O5015.out
        subst hv5015
        have HM5015 := hid MK5015
        have GL5015 := hid ((owns_rd O5015.out g5015 rfl).1)
        have q0 : (0 : Int) ≤ (n : Int) := by omega
        have q1 : (n : Int) ≤ (cap5015 : Int) := by have := HNL.out; omega
        have q2 : l.length + 1 = n + 1 := by have := HNL.out; omega
        rw [q2]
        clear h5015 k5015 MK5015 hc5015 q2
        refine hK.out _ _ (fun hD => B5015.out) ?_
        clear hK K
        try simp only [Act.put, List.setIfInBounds_toArray, List.set_cons_zero, List.set_cons_succ]
        refine' wpAnyD_take (i := 10) (oi := { dst := some 34, op := Go.Op.slice 22 (Go.Operand.tmp 30) none (some (Go.Operand.tmp 33)) none, type := 22, pos := "law.go:41", after := #[{ on := 6, ground := Go.Ground.data }, { on := 9, ground := Go.Ground.data }], guard := none }) (v := _) rfl (by kernel_rfl) (by kernel_rfl) (by kernel_rfl) (fun _ _ _ h => h) (by kernel_rfl) (Or.inl ⟨by rfl, ?hy5016⟩) B5015.out ?rest5016
        case hy5016 => (intro W hSw; go_simp; try (with_reducible rfl))
        try simp only [Act.put, List.setIfInBounds_toArray, List.set_cons_zero, List.set_cons_succ]
        refine' wpAnyD_take (i := 11) (oi := { dst := some 35, op := Go.Op.fieldAddr 28 (Go.Operand.tmp 7) 3, type := 0, pos := "law.go:41", after := #[{ on := 0, ground := Go.Ground.phase }, { on := 1, ground := Go.Ground.phase }, { on := 2, ground := Go.Ground.phase }, { on := 3, ground := Go.Ground.phase }, { on := 4, ground := Go.Ground.phase }, { on := 5, ground := Go.Ground.phase }, { on := 6, ground := Go.Ground.phase }, { on := 7, ground := Go.Ground.phase }, { on := 8, ground := Go.Ground.phase }, { on := 9, ground := Go.Ground.phase }, { on := 10, ground := Go.Ground.phase }], guard := none }) (v := _) rfl (by kernel_rfl) (by kernel_rfl) (by kernel_rfl) (fun _ _ _ h => h) (by kernel_rfl) (Or.inl ⟨by rfl, ?hy5017⟩) B5015.out ?rest5017
        case hy5017 => (intro W hSw; go_simp; try (with_reducible rfl))
        try simp only [Act.put, List.setIfInBounds_toArray, List.set_cons_zero, List.set_cons_succ]
        refine wpAnyD_one (i := 12) (o := { dst := none, op := Go.Op.store 22 (Go.Operand.tmp 35) (Go.Operand.tmp 34), type := 0, pos := "law.go:41", after := #[{ on := 11, ground := Go.Ground.data }, { on := 10, ground := Go.Ground.data }, { on := 6, ground := Go.Ground.chain }, { on := 0, ground := Go.Ground.phase }, { on := 1, ground := Go.Ground.phase }, { on := 2, ground := Go.Ground.phase }, { on := 3, ground := Go.Ground.phase }, { on := 4, ground := Go.Ground.phase }, { on := 5, ground := Go.Ground.phase }, { on := 6, ground := Go.Ground.phase }, { on := 7, ground := Go.Ground.phase }, { on := 8, ground := Go.Ground.phase }, { on := 9, ground := Go.Ground.phase }, { on := 10, ground := Go.Ground.phase }], guard := none }) (by kernel_rfl) rfl (fun K hK => ?_)
        have p6 := (B5015.out.block _ (tk_lt P0.out.2.2.1)).trans P0.out.2.2.1
        have p4 := (B5015.out.block _ (tk_lt P0.out.1)).trans P0.out.1
        have p5 := (B5015.out.block _ (tk_lt P0.out.2.1)).trans P0.out.2.1
        have en := (tk_store p6).1
        have en2 := (tk_store p6).2
        have en3 := tk_lt p6
        have s12 := Df.tk_set p6 3 (.slice (some ⟨g5015, 0, none⟩) n cap5015)
        have FIN : Hid (Dw w (w5015.setCell ⟨ob, 3, none⟩ (.slice (some ⟨g5015, 0, none⟩) n cap5015)) x m p q n c n' c' nb mb ob g5015 cap5015 l) := by
          obtain ⟨-, -, q3, q4, q5, q6, q7⟩ := P0.out
          have hg := GL5015.out
          have h3 := HM5015.out
          have ho := tk_lt q3
          rw [← HNL.out] at h3
          have hb : Below w.heap.size w w5015 := q4.trans (B5015.out.mono q4.size)
          exact ⟨hb.trans (s12.2.below hb.size (fun k e => by rw [e]; exact q7)), (s12.2.block _ (tk_lt p4) (by omega)).trans p4, (s12.2.block _ (tk_lt p5) (by omega)).trans p5, s12.1, h3.kp s12.2 (fun k e e2 => by simp [Value.ownBlock] at e; omega), by omega, by omega, by omega, by omega⟩
        clear p6 p5 p4 s12
        go_simp
        refine hK.out _ _ (fun hD => absurd (by decide) hD) ?_
        clear hK K
        try simp only [Act.put, List.setIfInBounds_toArray, List.set_cons_zero, List.set_cons_succ]
        refine wpAnyD_done (by kernel_rfl) ?_ _
        go_wp2_with fail
        go_meet
        exact ⟨g5015, cap5015, FIN.out⟩
    · go_simp
      have g5018 := (Gr.refl Wd).alloc (.cells #[.int .i64 777, .int .u64 0] 46)
      have a5018 := heap_new' Wd (.cells #[.int .i64 777, .int .u64 0] 46)
      obtain ⟨b5018, hb5018⟩ : ∃ b, b = Wd.heap.size := ⟨_, rfl⟩
      obtain ⟨V5018, hV5018⟩ : ∃ V, V = Wd.alloc (.cells #[.int .i64 777, .int .u64 0] 46) := ⟨_, rfl⟩
      rw [← hV5018, ← hb5018]
      rw [← hV5018] at g5018 a5018
      have B5018 := hid (BD.out.trans (g5018.below.mono BD.out.size))
      have M5018 : Hid (V5018.heap[b5018]? = some (.cells #[.int .i64 777, .int .u64 0] 46 (0, 0))) := by
        show _ = _
        rw [hb5018]
        exact a5018
      clear g5018 a5018 hV5018 hb5018
      refine hK.out _ _ (fun hD => B5018.out) ?_
      clear hK K
      try simp only [Act.put, List.setIfInBounds_toArray, List.set_cons_zero, List.set_cons_succ]
      refine wpAnyD_one (i := 0) (o := { dst := some 24, op := Go.Op.buildSlice 22 0 #[], type := 22, pos := "law.go:41", after := #[], guard := none }) (by kernel_rfl) rfl (fun K hK => ?_)
      go_simp
      have g5019 := (Gr.refl V5018).alloc (.cells #[] 46)
      have a5019 := heap_new' V5018 (.cells #[] 46)
      obtain ⟨b5019, hb5019⟩ : ∃ b, b = V5018.heap.size := ⟨_, rfl⟩
      obtain ⟨V5019, hV5019⟩ : ∃ V, V = V5018.alloc (.cells #[] 46) := ⟨_, rfl⟩
      rw [← hV5019, ← hb5019]
      rw [← hV5019] at g5019 a5019
      have B5019 := hid (B5018.out.trans (g5019.below.mono B5018.out.size))
      have O5019 : Hid (V5019.ownsRow W5.heap.size 46 2 (.slice (some ⟨b5019, 0, none⟩) 0 0) 0 []) := by
        rw [hV5019, hb5019]
        exact World.ownsRow_made V5018 #[] 0 B5018.out.size (Nat.zero_le _) rfl
      have M5019 := hid ((g5019.below.block _ (tk_lt M5018.out)).trans M5018.out)
      have N5019 : Hid (∀ k, (Value.slice (some ⟨b5019, 0, none⟩) 0 0).ownBlock = some k → k ≠ b5018) := fun k hk e => by
        have h1 := tk_lt M5018.out
        simp [Value.ownBlock] at hk
        omega
      clear g5019 a5019 hV5019 hb5019
      refine hK.out _ _ (fun hD => B5019.out) ?_
      clear hK K
      try simp only [Act.put, List.setIfInBounds_toArray, List.set_cons_zero, List.set_cons_succ]
      refine wpAnyD_one (i := 3) (o := { dst := some 27, op := Go.Op.call { callee := Go.Callee.builtin Go.Builtin.append, args := #[Go.Operand.tmp 24, Go.Operand.tmp 26], argTypes := #[22, 22] }, type := 22, pos := "law.go:41", after := #[{ on := 0, ground := Go.Ground.data }, { on := 2, ground := Go.Ground.data }], guard := none }) (by kernel_rfl) rfl (fun K hK => ?_)
      refine step_appL EO Try.underlying22 infoO rfl (by decide) rfl _ _ rfl W5.heap.size (.slice (some ⟨b5019, 0, none⟩) 0 0) 0 [] rfl O5019.out B5019.out.size (.slice p n c) l rfl (LC.out.below B5019.out) (by have := HZ.out; omega) (by have := HZ.out; unfold maxLen; omega) ?_
      intro v5020 w5020 h5020 k5020
      have K5020 := hid (Kp.grownBy (S := fun k => ((.slice (some ⟨b5019, 0, none⟩) 0 0) : Value).ownBlock = some k) k5020.out (fun _ h => h))
      have B5020 := hid (B5019.out.trans (K5020.out.below B5019.out.size (fun k hk => (owns_rd O5019.out k hk).1)))
      have O5020 : Hid (w5020.ownsRow W5.heap.size 46 2 v5020 l.length (fl EO l)) := owns_re h5020.out (by simp) (by simp)
      have M5020 := hid ((K5020.out.block _ (tk_lt M5019.out) (fun e => N5019.out _ e rfl)).trans M5019.out)
      clear h5020 k5020
      refine hK.out _ _ (fun hD => B5020.out) ?_
      clear hK K
      try simp only [Act.put, List.setIfInBounds_toArray, List.set_cons_zero, List.set_cons_succ]
      refine wpAnyD_one (i := 6) (o := { dst := some 30, op := Go.Op.call { callee := Go.Callee.builtin Go.Builtin.append, args := #[Go.Operand.tmp 27, Go.Operand.tmp 29], argTypes := #[22, 22] }, type := 22, pos := "law.go:41", after := #[{ on := 3, ground := Go.Ground.data }, { on := 5, ground := Go.Ground.data }, { on := 3, ground := Go.Ground.chain }], guard := none }) (by kernel_rfl) rfl (fun K hK => ?_)
      refine step_appL EO Try.underlying22 infoO rfl (by decide) rfl _ _ rfl W5.heap.size v5020 l.length (fl EO l) rfl O5020.out B5020.out.size (.slice (some ⟨b5018, 0, none⟩) 1 1) [mO] rfl (one_ls M5020.out rfl) (by have := HZ.out; simp; omega) (by have := HZ.out; unfold maxLen; simp; omega) ?_
      intro v5021 w5021 h5021 k5021
      have K5021 := hid (Kp.grownBy (S := fun k => (v5020 : Value).ownBlock = some k) k5021.out (fun _ h => h))
      have B5021 := hid (B5020.out.trans (K5021.out.below B5020.out.size (fun k hk => (owns_rd O5020.out k hk).1)))
      have O5021 : Hid (w5021.ownsRow W5.heap.size 46 2 v5021 (l.length + 1) (fl EO (l ++ [mO]))) := owns_re h5021.out (by simp) (by rw [fl_append])
      obtain ⟨g5021, cap5021, hv5021, hc5021, MK5021⟩ := mk_of O5021.out
      subst hv5021
      have HM5021 := hid MK5021
      have GL5021 := hid ((owns_rd O5021.out g5021 rfl).1)
      have q0 : (0 : Int) ≤ (n : Int) := by omega
      have q1 : (n : Int) ≤ (cap5021 : Int) := by have := HNL.out; omega
      have q2 : l.length + 1 = n + 1 := by have := HNL.out; omega
      rw [q2]
      clear h5021 k5021 MK5021 hc5021 q2
      refine hK.out _ _ (fun hD => B5021.out) ?_
      clear hK K
      try simp only [Act.put, List.setIfInBounds_toArray, List.set_cons_zero, List.set_cons_succ]
      refine' wpAnyD_take (i := 10) (oi := { dst := some 34, op := Go.Op.slice 22 (Go.Operand.tmp 30) none (some (Go.Operand.tmp 33)) none, type := 22, pos := "law.go:41", after := #[{ on := 6, ground := Go.Ground.data }, { on := 9, ground := Go.Ground.data }], guard := none }) (v := _) rfl (by kernel_rfl) (by kernel_rfl) (by kernel_rfl) (fun _ _ _ h => h) (by kernel_rfl) (Or.inl ⟨by rfl, ?hy5022⟩) B5021.out ?rest5022
      case hy5022 => (intro W hSw; go_simp; try (with_reducible rfl))
      try simp only [Act.put, List.setIfInBounds_toArray, List.set_cons_zero, List.set_cons_succ]
      refine' wpAnyD_take (i := 11) (oi := { dst := some 35, op := Go.Op.fieldAddr 28 (Go.Operand.tmp 7) 3, type := 0, pos := "law.go:41", after := #[{ on := 0, ground := Go.Ground.phase }, { on := 1, ground := Go.Ground.phase }, { on := 2, ground := Go.Ground.phase }, { on := 3, ground := Go.Ground.phase }, { on := 4, ground := Go.Ground.phase }, { on := 5, ground := Go.Ground.phase }, { on := 6, ground := Go.Ground.phase }, { on := 7, ground := Go.Ground.phase }, { on := 8, ground := Go.Ground.phase }, { on := 9, ground := Go.Ground.phase }, { on := 10, ground := Go.Ground.phase }], guard := none }) (v := _) rfl (by kernel_rfl) (by kernel_rfl) (by kernel_rfl) (fun _ _ _ h => h) (by kernel_rfl) (Or.inl ⟨by rfl, ?hy5023⟩) B5021.out ?rest5023
      case hy5023 => (intro W hSw; go_simp; try (with_reducible rfl))
      try simp only [Act.put, List.setIfInBounds_toArray, List.set_cons_zero, List.set_cons_succ]
      refine wpAnyD_one (i := 12) (o := { dst := none, op := Go.Op.store 22 (Go.Operand.tmp 35) (Go.Operand.tmp 34), type := 0, pos := "law.go:41", after := #[{ on := 11, ground := Go.Ground.data }, { on := 10, ground := Go.Ground.data }, { on := 6, ground := Go.Ground.chain }, { on := 0, ground := Go.Ground.phase }, { on := 1, ground := Go.Ground.phase }, { on := 2, ground := Go.Ground.phase }, { on := 3, ground := Go.Ground.phase }, { on := 4, ground := Go.Ground.phase }, { on := 5, ground := Go.Ground.phase }, { on := 6, ground := Go.Ground.phase }, { on := 7, ground := Go.Ground.phase }, { on := 8, ground := Go.Ground.phase }, { on := 9, ground := Go.Ground.phase }, { on := 10, ground := Go.Ground.phase }], guard := none }) (by kernel_rfl) rfl (fun K hK => ?_)
      have p6 := (B5021.out.block _ (tk_lt P0.out.2.2.1)).trans P0.out.2.2.1
      have p4 := (B5021.out.block _ (tk_lt P0.out.1)).trans P0.out.1
      have p5 := (B5021.out.block _ (tk_lt P0.out.2.1)).trans P0.out.2.1
      have en := (tk_store p6).1
      have en2 := (tk_store p6).2
      have en3 := tk_lt p6
      have s12 := Df.tk_set p6 3 (.slice (some ⟨g5021, 0, none⟩) n cap5021)
      have FIN : Hid (Dw w (w5021.setCell ⟨ob, 3, none⟩ (.slice (some ⟨g5021, 0, none⟩) n cap5021)) x m p q n c n' c' nb mb ob g5021 cap5021 l) := by
        obtain ⟨-, -, q3, q4, q5, q6, q7⟩ := P0.out
        have hg := GL5021.out
        have h3 := HM5021.out
        have ho := tk_lt q3
        rw [← HNL.out] at h3
        have hb : Below w.heap.size w w5021 := q4.trans (B5021.out.mono q4.size)
        exact ⟨hb.trans (s12.2.below hb.size (fun k e => by rw [e]; exact q7)), (s12.2.block _ (tk_lt p4) (by omega)).trans p4, (s12.2.block _ (tk_lt p5) (by omega)).trans p5, s12.1, h3.kp s12.2 (fun k e e2 => by simp [Value.ownBlock] at e; omega), by omega, by omega, by omega, by omega⟩
      clear p6 p5 p4 s12
      go_simp
      refine hK.out _ _ (fun hD => absurd (by decide) hD) ?_
      clear hK K
      try simp only [Act.put, List.setIfInBounds_toArray, List.set_cons_zero, List.set_cons_succ]
      refine wpAnyD_done (by kernel_rfl) ?_ _
      go_wp2_with fail
      go_meet
      exact ⟨g5021, cap5021, FIN.out⟩
  case rest =>
    obtain ⟨g, k1, HD⟩ := hcut
    clear LC
    obtain ⟨z3, d3, -⟩ := blk_at HD.out.b3
    go_wp2_with fail
    refine (new_any x _ HD.out.mkd.ls).mono ?_
    rintro e w5 ⟨v5, rfl, H5⟩
    have HF : Hid (Fq wc.heap.size w5 v5 x l) := H5.out.2
    have HD5 := hid (HD.out.below H5.out.1)
    have HGL : Hid (g < wc.heap.size ∧ wc.heap.size ≤ w5.heap.size) := ⟨HD.out.mkd.cap.2.2, H5.out.1.size⟩
    clear z3 d3 H5 HD
    obtain ⟨z2, d2, -⟩ := blk_at HD5.out.b2
    go_wp2_with fail
    refine (new_any m _ (HV'.out.below HD5.out.bl)).mono ?_
    rintro e w6 ⟨v6, rfl, H6⟩
    have HQ : Hid (Fq wc.heap.size w6 v6 m l') := H6.out.2.imp (fun h => ⟨h.1, h.2.low HGL.out.2⟩) id
    have HF6 := hid (HF.out.below H6.out.1)
    have HD6 := hid (HD5.out.below H6.out.1)
    clear z2 d2 H6 HD5 HF
    obtain ⟨z1, d1, -⟩ := blk_at HD6.out.b1
    go_wp2_with fail
    refine (rnew_any x _ (HV.out.below HD6.out.bl)).mono ?_
    rintro e w7 ⟨rfl, B7⟩
    have HD7 := hid (HD6.out.below B7)
    have HF7 := hid (HF6.out.below B7)
    have HQ7 := hid (HQ.out.below B7)
    clear z1 d1 HD6 HF6 HQ B7
    obtain ⟨z2, d2, -⟩ := blk_at HD7.out.b2
    obtain ⟨q1, hq1⟩ : ∃ q, q = newE x.kind l := ⟨_, rfl⟩
    obtain ⟨q2, hq2⟩ : ∃ q, q = newE m.kind l' := ⟨_, rfl⟩
    have HQ1 := hid hq1
    have HQ2 := hid hq2
    rw [← hq1, ← hq2]
    clear hq1 hq2
    go_wp2_with fail
    refine (rnew_any m _ (HV'.out.below HD7.out.bl)).mono ?_
    rintro e w8 ⟨rfl, B8⟩
    rw [← HQ2.out]
    have HD8 := hid (HD7.out.below B8)
    have HF8 := hid (HF7.out.below B8)
    have HQ8 := hid (HQ7.out.below B8)
    clear z2 d2 HD7 HF7 HQ7 B8
    have hcp := HD8.out.mkd.cap
    obtain ⟨hk1, -, -⟩ := hcp
    obtain ⟨z1, d1, -⟩ := blk_at HD8.out.b1
    obtain ⟨z3, d3, -⟩ := blk_at HD8.out.b3
    have HOKF : Hid (∀ {lo : Nat} {W : World} {v : Value}, Flw lo W v x l → ∃ T b, v = .iface T (.pointer (some ⟨b, 0, none⟩))) := fun h => by
      obtain ⟨T, b, _, h1, _⟩ := h.mt HOK.out.1 HOK.out.2.2.1
      exact ⟨T, b, h1⟩
    have HOKG : Hid (∀ {lo : Nat} {W : World} {v : Value}, Flw lo W v m l' → ∃ T b, v = .iface T (.pointer (some ⟨b, 0, none⟩))) := fun h => by
      obtain ⟨T, b, _, h1, _⟩ := h.mt HOK.out.2.1 HOK.out.2.2.2
      exact ⟨T, b, h1⟩
    rcases HF8.out with hf | hf
    · obtain ⟨e1, HFF⟩ := hf
      obtain ⟨Tf, bf, rfl⟩ := HOKF.out HFF
      have HFl := hid HFF
      clear HFF
      have hq1 : q1 = 0 := HQ1.out.trans e1
      subst hq1
      clear e1
      rcases HQ8.out with hg | hg
      · obtain ⟨e2, HGG⟩ := hg
        obtain ⟨Tg, bg, rfl⟩ := HOKG.out HGG
        have HGl := hid HGG
        clear HGG
        have hq2 : q2 = 0 := HQ2.out.trans e2
        subst hq2
        clear e2 HF8 HQ8 HQ1 HQ2 HOKF HOKG
        have s0 : (0 : Int) ≤ (n : Int) + 1 := by omega
        have s1 : (n : Int) + 1 ≤ (k1 : Int) := by omega
        have HFG : Hid (Flw wc.heap.size w8 (.iface Tf (.pointer (some ⟨bf, 0, none⟩))) x l ∧ Flw wc.heap.size w8 (.iface Tg (.pointer (some ⟨bg, 0, none⟩))) m l') := ⟨HFl.out, HGl.out⟩
        clear HFl HGl
        go_wp2_with fail
        clear s0 s1 z1 d1 z3 d3
        go_loopw [13] (fun s13 Wr => ∃ i : Nat, i ≤ n ∧ s13 = .int .i64 (i : Nat) ∧ Hid (Dw w Wr x m p q n c n' c' nb mb ob g k1 (wro l i)) ∧ Hid (Flw wc.heap.size Wr (.iface Tf (.pointer (some ⟨bf, 0, none⟩))) x l ∧ Flw wc.heap.size Wr (.iface Tg (.pointer (some ⟨bg, 0, none⟩))) m l')) (fun s13 _ => n - (RowKit.intOf s13).toNat)
        case atStart => exact ⟨0, Nat.zero_le _, rfl, by rw [wro_zero]; exact HD8, HFG⟩
        case round =>
          clear HD8 HFG
          obtain ⟨i, hi, rfl, HD8, HFG⟩ := hrel
          obtain ⟨z1, d1, -⟩ := blk_at HD8.out.b1
          obtain ⟨z3, d3, -⟩ := blk_at HD8.out.b3
          by_cases hlt : i < n
          · have hltz : (i : Int) < (n : Int) := by omega
            have hll : i < l.length := by rw [← HNL.out]; exact hlt
            obtain ⟨o, ho⟩ : ∃ o, l[i]? = some o := ⟨l[i], by simp⟩
            have ho2 : (wro l i ++ [mO])[i]? = some o := by rw [List.getElem?_append_left (by rw [wro_len (Nat.le_of_lt hll)]; exact hll), wro_get hll]; exact ho
            obtain ⟨zg, y0, y1⟩ := HD8.out.mkd.at ho2
            have fz := HD8.out.mkd.free
            obtain ⟨b1, o1, c1, e1, zz1, x0, x1⟩ := ls_at (HV.out.below HD8.out.bl) ho
            simp only [Value.slice.injEq] at e1
            obtain ⟨rfl, -, rfl⟩ := e1
            have i0 : (0 : Int) ≤ (i : Int) := by omega
            have HLL := hid hll
            have HO := hid ho
            clear ho ho2 hll
            go_upto_region 13 with fail
            go_quiet (fail)
            have HDq := hid (HD8.out.below ((Gr.refl _).drewN nq).below)
            have HFq : Hid (Flw wc.heap.size (wr.drewN nq) (.iface Tf (.pointer (some ⟨bf, 0, none⟩))) x l ∧ Flw wc.heap.size (wr.drewN nq) (.iface Tg (.pointer (some ⟨bg, 0, none⟩))) m l') := ⟨HFG.out.1.below ((Gr.refl _).drewN nq).below, HFG.out.2.below ((Gr.refl _).drewN nq).below⟩
            obtain ⟨Wq, hWq⟩ : ∃ Wq, Wq = wr.drewN nq := ⟨_, rfl⟩
            rw [← hWq] at HDq HFq ⊢
            clear hWq HD8 HFG z1 d1 z3 d3 zg y0 y1 fz x0 x1 zz1
            have hmk := HDq.out.mkd
            obtain ⟨zg, y0, y1⟩ := hmk.at (j := i) (o := o) (by rw [List.getElem?_append_left (by rw [wro_len (Nat.le_of_lt HLL.out)]; exact HLL.out), wro_get HLL.out]; exact HO.out)
            have fz := hmk.free
            obtain ⟨z1, d1, -⟩ := blk_at HDq.out.b1
            obtain ⟨z3, d3, -⟩ := blk_at HDq.out.b3
            clear hmk
            go_wp2_with fail
            have hput := HDq.out.put (j := i) (by rw [wro_len (Nat.le_of_lt HLL.out)]; exact HLL.out) m9
            rw [wro_set HLL.out] at hput
            have hkp := (HDq.out.mkd.put (j := i) (by rw [wro_len (Nat.le_of_lt HLL.out)]; exact HLL.out) m9).2
            refine ⟨⟨i + 1, by omega, by go_num, hput, ?_⟩, by simp [RowKit.intOf]; omega⟩
            exact ⟨HFq.out.1.kp hkp (fun j h1 _ e => by have := HGL.out.1; omega), HFq.out.2.kp hkp (fun j h1 _ e => by have := HGL.out.1; omega)⟩
          · have hltz : ¬ (i : Int) < (n : Int) := by omega
            have hin : n = i := by omega
            subst hin
            obtain ⟨zg, y0, y1⟩ := HD8.out.mkd.at (j := n) (o := mO) (by rw [List.getElem?_append_right (by rw [wro_len (by rw [← HNL.out]; exact Nat.le_refl _), ← HNL.out]; exact Nat.le_refl _), wro_len (by rw [← HNL.out]; exact Nat.le_refl _), ← HNL.out, Nat.sub_self]; rfl)
            have i0 : (0 : Int) ≤ (n : Int) := by omega
            have i1 : (n : Int) < (n : Int) + 1 := by omega
            go_upto_region 18 with fail
            clear z1 d1 z3 d3 zg y0 y1 i0 i1 hltz
            have hS0 : Below wr.heap.size wr wr.drew := (Gr.refl wr).drew.below
            refine wp_regionD (S := (fun W : World => Below wr.heap.size wr W)) (D := []) hmx ?_
            refine' wpAnyD_take (i := 0) (oi := { dst := some 108, op := Go.Op.move (Go.Operand.tmp 8), type := 34, pos := "law.go:57", after := #[], guard := none }) (v := _) rfl (by kernel_rfl) (by kernel_rfl) (by kernel_rfl) (fun _ _ _ h => h) (by kernel_rfl) (Or.inl ⟨by rfl, ?hy1⟩) hS0 ?rest1
            case hy1 => (intro W hSw; go_simp; try (with_reducible rfl))
            try simp only [Act.put, List.setIfInBounds_toArray, List.set_cons_zero, List.set_cons_succ]
            refine' wpAnyD_take (i := 1) (oi := { dst := some 109, op := Go.Op.binOp Go.BinOp.neq 34 (Go.Operand.tmp 108) (Go.Operand.const Go.Value.nilIface) 34, type := 4, pos := "law.go:57", after := #[{ on := 0, ground := Go.Ground.data }], guard := none }) (v := _) rfl (by kernel_rfl) (by kernel_rfl) (by kernel_rfl) (fun _ _ _ h => h) (by kernel_rfl) (Or.inl ⟨by rfl, ?hy2⟩) hS0 ?rest2
            case hy2 => (intro W hSw; go_simp; try (with_reducible rfl))
            try simp only [Act.put, List.setIfInBounds_toArray, List.set_cons_zero, List.set_cons_succ]
            refine' wpAnyD_take (i := 2) (oi := { dst := some 110, op := Go.Op.move (Go.Operand.tmp 109), type := 4, pos := "law.go:57", after := #[{ on := 1, ground := Go.Ground.data }], guard := none }) (v := _) rfl (by kernel_rfl) (by kernel_rfl) (by kernel_rfl) (fun _ _ _ h => h) (by kernel_rfl) (Or.inl ⟨by rfl, ?hy3⟩) hS0 ?rest3
            case hy3 => (intro W hSw; go_simp; try (with_reducible rfl))
            try simp only [Act.put, List.setIfInBounds_toArray, List.set_cons_zero, List.set_cons_succ]
            refine' wpAnyD_take (i := 3) (oi := { dst := some 111, op := Go.Op.move (Go.Operand.tmp 8), type := 34, pos := "law.go:57", after := #[{ on := 2, ground := Go.Ground.guard }], guard := some (2, true) }) (v := _) rfl (by kernel_rfl) (by kernel_rfl) (by kernel_rfl) (fun _ _ _ h => h) (by kernel_rfl) (Or.inl ⟨by rfl, ?hy4⟩) hS0 ?rest4
            case hy4 => (intro W hSw; go_simp; try (with_reducible rfl))
            try simp only [Act.put, List.setIfInBounds_toArray, List.set_cons_zero, List.set_cons_succ]
            refine' wpAnyD_take (i := 5) (oi := { dst := some 113, op := Go.Op.fieldAddr 28 (Go.Operand.tmp 3) 0, type := 0, pos := "law.go:57", after := #[{ on := 2, ground := Go.Ground.guard }], guard := some (2, true) }) (v := _) rfl (by kernel_rfl) (by kernel_rfl) (by kernel_rfl) (fun _ _ _ h => h) (by kernel_rfl) (Or.inl ⟨by rfl, ?hy5⟩) hS0 ?rest5
            case hy5 => (intro W hSw; go_simp; try (with_reducible rfl))
            try simp only [Act.put, List.setIfInBounds_toArray, List.set_cons_zero, List.set_cons_succ]
            refine' wpAnyD_take (i := 6) (oi := { dst := some 114, op := Go.Op.load 3 (Go.Operand.tmp 113), type := 3, pos := "law.go:57", after := #[{ on := 5, ground := Go.Ground.data }, { on := 2, ground := Go.Ground.guard }], guard := some (2, true) }) (v := _) rfl (by kernel_rfl) (by kernel_rfl) (by kernel_rfl) (fun _ _ _ h => h) (by kernel_rfl) (Or.inl ⟨by rfl, ?hy6⟩) hS0 ?rest6
            case hy6 => (intro W hSw; obtain ⟨v1, e1, -⟩ := blk_at (HD8.out.below hSw).b1; go_simp; try (with_reducible rfl))
            try simp only [Act.put, List.setIfInBounds_toArray, List.set_cons_zero, List.set_cons_succ]
            refine wpAnyD_one (i := 4) (o := { dst := some 112, op := Go.Op.call { callee := Go.Callee.value (Go.Operand.func 7), args := #[Go.Operand.tmp 111], argTypes := #[34] }, type := 3, pos := "law.go:57", after := #[{ on := 3, ground := Go.Ground.data }, { on := 2, ground := Go.Ground.chain }, { on := 2, ground := Go.Ground.guard }], guard := some (2, true) }) (by kernel_rfl) rfl (fun K hK => ?_)
            rw [if_pos (by kernel_rfl)]
            go_simp
            refine (kind_any _ (HFG.out.1.below hS0)).mono ?_
            rintro e u1 ⟨rfl, g1⟩
            have hS1 : Below wr.heap.size wr u1 := hS0.trans (g1.below.mono hS0.size)
            clear g1
            go_wp2_with fail
            refine hK.out _ _ (fun hD => hS1) ?_
            clear hK K
            try simp only [Act.put, List.setIfInBounds_toArray, List.set_cons_zero, List.set_cons_succ]
            refine' wpAnyD_take (i := 7) (oi := { dst := some 115, op := Go.Op.binOp Go.BinOp.neq 3 (Go.Operand.tmp 112) (Go.Operand.tmp 114) 3, type := 4, pos := "law.go:57", after := #[{ on := 4, ground := Go.Ground.data }, { on := 6, ground := Go.Ground.data }, { on := 2, ground := Go.Ground.guard }], guard := some (2, true) }) (v := .bool false) rfl (by kernel_rfl) (by kernel_rfl) (by kernel_rfl) (fun _ _ _ h => h) (by kernel_rfl) (Or.inl ⟨by rfl, ?hy8⟩) hS1 ?rest8
            case hy8 => (intro W hSw; go_simp; try (with_reducible rfl))
            try simp only [Act.put, List.setIfInBounds_toArray, List.set_cons_zero, List.set_cons_succ]
            refine' wpAnyD_take (i := 8) (oi := { dst := some 116, op := Go.Op.pick (Go.Operand.tmp 110) (Go.Operand.tmp 115) (Go.Operand.const (Go.Value.bool false)), type := 4, pos := "law.go:57", after := #[{ on := 2, ground := Go.Ground.data }, { on := 7, ground := Go.Ground.data }], guard := none }) (v := _) rfl (by kernel_rfl) (by kernel_rfl) (by kernel_rfl) (fun _ _ _ h => h) (by kernel_rfl) (Or.inl ⟨by rfl, ?hy9⟩) hS1 ?rest9
            case hy9 => (intro W hSw; go_simp; try (with_reducible rfl))
            try simp only [Act.put, List.setIfInBounds_toArray, List.set_cons_zero, List.set_cons_succ]
            refine' wpAnyD_take (i := 9) (oi := { dst := some 117, op := Go.Op.move (Go.Operand.tmp 116), type := 4, pos := "law.go:57", after := #[{ on := 8, ground := Go.Ground.data }, { on := 4, ground := Go.Ground.chain }], guard := none }) (v := _) rfl (by kernel_rfl) (by kernel_rfl) (by kernel_rfl) (fun _ _ _ h => h) (by kernel_rfl) (Or.inl ⟨by rfl, ?hy10⟩) hS1 ?rest10
            case hy10 => (intro W hSw; go_simp; try (with_reducible rfl))
            try simp only [Act.put, List.setIfInBounds_toArray, List.set_cons_zero, List.set_cons_succ]
            refine' wpAnyD_take (i := 10) (oi := { dst := some 118, op := Go.Op.move (Go.Operand.tmp 10), type := 34, pos := "law.go:57", after := #[{ on := 9, ground := Go.Ground.guard }], guard := some (9, false) }) (v := _) rfl (by kernel_rfl) (by kernel_rfl) (by kernel_rfl) (fun _ _ _ h => h) (by kernel_rfl) (Or.inl ⟨by rfl, ?hy11⟩) hS1 ?rest11
            case hy11 => (intro W hSw; go_simp; try (with_reducible rfl))
            try simp only [Act.put, List.setIfInBounds_toArray, List.set_cons_zero, List.set_cons_succ]
            refine' wpAnyD_take (i := 11) (oi := { dst := some 119, op := Go.Op.binOp Go.BinOp.neq 34 (Go.Operand.tmp 118) (Go.Operand.const Go.Value.nilIface) 34, type := 4, pos := "law.go:57", after := #[{ on := 10, ground := Go.Ground.data }, { on := 9, ground := Go.Ground.guard }], guard := some (9, false) }) (v := _) rfl (by kernel_rfl) (by kernel_rfl) (by kernel_rfl) (fun _ _ _ h => h) (by kernel_rfl) (Or.inl ⟨by rfl, ?hy12⟩) hS1 ?rest12
            case hy12 => (intro W hSw; go_simp; try (with_reducible rfl))
            try simp only [Act.put, List.setIfInBounds_toArray, List.set_cons_zero, List.set_cons_succ]
            refine' wpAnyD_take (i := 12) (oi := { dst := some 120, op := Go.Op.move (Go.Operand.tmp 119), type := 4, pos := "law.go:57", after := #[{ on := 11, ground := Go.Ground.data }, { on := 9, ground := Go.Ground.chain }, { on := 9, ground := Go.Ground.guard }], guard := some (9, false) }) (v := _) rfl (by kernel_rfl) (by kernel_rfl) (by kernel_rfl) (fun _ _ _ h => h) (by kernel_rfl) (Or.inl ⟨by rfl, ?hy13⟩) hS1 ?rest13
            case hy13 => (intro W hSw; go_simp; try (with_reducible rfl))
            try simp only [Act.put, List.setIfInBounds_toArray, List.set_cons_zero, List.set_cons_succ]
            refine' wpAnyD_take (i := 13) (oi := { dst := some 121, op := Go.Op.move (Go.Operand.tmp 10), type := 34, pos := "law.go:57", after := #[{ on := 12, ground := Go.Ground.guard }], guard := some (12, true) }) (v := _) rfl (by kernel_rfl) (by kernel_rfl) (by kernel_rfl) (fun _ _ _ h => h) (by kernel_rfl) (Or.inl ⟨by rfl, ?hy14⟩) hS1 ?rest14
            case hy14 => (intro W hSw; go_simp; try (with_reducible rfl))
            try simp only [Act.put, List.setIfInBounds_toArray, List.set_cons_zero, List.set_cons_succ]
            refine' wpAnyD_take (i := 15) (oi := { dst := some 123, op := Go.Op.fieldAddr 28 (Go.Operand.tmp 4) 0, type := 0, pos := "law.go:57", after := #[{ on := 12, ground := Go.Ground.guard }], guard := some (12, true) }) (v := _) rfl (by kernel_rfl) (by kernel_rfl) (by kernel_rfl) (fun _ _ _ h => h) (by kernel_rfl) (Or.inl ⟨by rfl, ?hy15⟩) hS1 ?rest15
            case hy15 => (intro W hSw; go_simp; try (with_reducible rfl))
            try simp only [Act.put, List.setIfInBounds_toArray, List.set_cons_zero, List.set_cons_succ]
            refine' wpAnyD_take (i := 16) (oi := { dst := some 124, op := Go.Op.load 3 (Go.Operand.tmp 123), type := 3, pos := "law.go:57", after := #[{ on := 15, ground := Go.Ground.data }, { on := 12, ground := Go.Ground.guard }], guard := some (12, true) }) (v := _) rfl (by kernel_rfl) (by kernel_rfl) (by kernel_rfl) (fun _ _ _ h => h) (by kernel_rfl) (Or.inl ⟨by rfl, ?hy16⟩) hS1 ?rest16
            case hy16 => (intro W hSw; obtain ⟨v1, e1, -⟩ := blk_at (HD8.out.below hSw).b2; go_simp; try (with_reducible rfl))
            try simp only [Act.put, List.setIfInBounds_toArray, List.set_cons_zero, List.set_cons_succ]
            refine wpAnyD_one (i := 14) (o := { dst := some 122, op := Go.Op.call { callee := Go.Callee.value (Go.Operand.func 7), args := #[Go.Operand.tmp 121], argTypes := #[34] }, type := 3, pos := "law.go:57", after := #[{ on := 13, ground := Go.Ground.data }, { on := 12, ground := Go.Ground.chain }, { on := 12, ground := Go.Ground.guard }], guard := some (12, true) }) (by kernel_rfl) rfl (fun K hK => ?_)
            rw [if_pos (by kernel_rfl)]
            go_simp
            refine (kind_any _ (HFG.out.2.below hS1)).mono ?_
            rintro e u2 ⟨rfl, g2⟩
            have hS2 : Below wr.heap.size wr u2 := hS1.trans (g2.below.mono hS1.size)
            clear g2
            go_wp2_with fail
            refine hK.out _ _ (fun hD => hS2) ?_
            clear hK K
            try simp only [Act.put, List.setIfInBounds_toArray, List.set_cons_zero, List.set_cons_succ]
            refine' wpAnyD_take (i := 17) (oi := { dst := some 125, op := Go.Op.binOp Go.BinOp.neq 3 (Go.Operand.tmp 122) (Go.Operand.tmp 124) 3, type := 4, pos := "law.go:57", after := #[{ on := 14, ground := Go.Ground.data }, { on := 16, ground := Go.Ground.data }, { on := 12, ground := Go.Ground.guard }], guard := some (12, true) }) (v := .bool false) rfl (by kernel_rfl) (by kernel_rfl) (by kernel_rfl) (fun _ _ _ h => h) (by kernel_rfl) (Or.inl ⟨by rfl, ?hy18⟩) hS2 ?rest18
            case hy18 => (intro W hSw; go_simp; try (with_reducible rfl))
            try simp only [Act.put, List.setIfInBounds_toArray, List.set_cons_zero, List.set_cons_succ]
            refine' wpAnyD_take (i := 18) (oi := { dst := some 126, op := Go.Op.pick (Go.Operand.tmp 120) (Go.Operand.tmp 125) (Go.Operand.const (Go.Value.bool false)), type := 4, pos := "law.go:57", after := #[{ on := 12, ground := Go.Ground.data }, { on := 17, ground := Go.Ground.data }, { on := 9, ground := Go.Ground.guard }], guard := some (9, false) }) (v := _) rfl (by kernel_rfl) (by kernel_rfl) (by kernel_rfl) (fun _ _ _ h => h) (by kernel_rfl) (Or.inl ⟨by rfl, ?hy19⟩) hS2 ?rest19
            case hy19 => (intro W hSw; go_simp; try (with_reducible rfl))
            try simp only [Act.put, List.setIfInBounds_toArray, List.set_cons_zero, List.set_cons_succ]
            refine' wpAnyD_take (i := 19) (oi := { dst := some 127, op := Go.Op.pick (Go.Operand.tmp 117) (Go.Operand.const (Go.Value.bool true)) (Go.Operand.tmp 126), type := 4, pos := "law.go:57", after := #[{ on := 9, ground := Go.Ground.data }, { on := 18, ground := Go.Ground.data }], guard := none }) (v := _) rfl (by kernel_rfl) (by kernel_rfl) (by kernel_rfl) (fun _ _ _ h => h) (by kernel_rfl) (Or.inl ⟨by rfl, ?hy20⟩) hS2 ?rest20
            case hy20 => (intro W hSw; go_simp; try (with_reducible rfl))
            try simp only [Act.put, List.setIfInBounds_toArray, List.set_cons_zero, List.set_cons_succ]
            refine wpAnyD_done (by kernel_rfl) ?_ _
            have HD9 := hid (HD8.out.below hS2)
            have HFG9 : Hid (Flw wc.heap.size _ (.iface Tf (.pointer (some ⟨bf, 0, none⟩))) x l ∧ Flw wc.heap.size _ (.iface Tg (.pointer (some ⟨bg, 0, none⟩))) m l') := ⟨HFG.out.1.below hS2, HFG.out.2.below hS2⟩
            clear HD8 HFG
            go_wp2_with fail
            go_loopw [14] (fun s14 Wr => ∃ j : Nat, j ≤ na ∧ s14 = .int .i64 (j : Nat) ∧ Hid (Dw w Wr x m p q n c n' c' nb mb ob g k1 (wro l n)) ∧ Hid (Flw wc.heap.size Wr (.iface Tf (.pointer (some ⟨bf, 0, none⟩))) x l ∧ Flw wc.heap.size Wr (.iface Tg (.pointer (some ⟨bg, 0, none⟩))) m l')) (fun s14 _ => na - (RowKit.intOf s14).toNat)
            case atStart => exact ⟨0, Nat.zero_le _, rfl, HD9, HFG9⟩
            case round =>
              clear HD9 HFG9
              obtain ⟨j, hj, rfl, HD9, HFG9⟩ := hrel
              by_cases hlt : j < na
              · have hltz : (j : Int) < (na : Int) := by omega
                have j0 : (0 : Int) ≤ (j : Int) := by omega
                obtain ⟨a, ha⟩ : ∃ a, as'[j]? = some a := ⟨as'[j]'(by have := HNA.out; omega), by simp⟩
                obtain ⟨b1, o1, q1, e1, zz1, hcell⟩ := (HA.out.below HD9.out.bl).get ha
                simp only [Value.slice.injEq] at e1
                obtain ⟨rfl, -, rfl⟩ := e1
                have HAC : Hid (∀ W, Below wr.heap.size wr W → W.cell? ⟨b1, o1 + j * 5, none⟩ = some (.int .u64 a.1.1.a) ∧ W.cell? ⟨b1, o1 + j * 5 + 1, none⟩ = some (.int .u64 a.1.1.b) ∧ W.cell? ⟨b1, o1 + j * 5 + 2, none⟩ = some (.int .u64 a.1.1.c) ∧ W.cell? ⟨b1, o1 + j * 5 + 3, none⟩ = some (.int .u64 a.1.2.key) ∧ W.cell? ⟨b1, o1 + j * 5 + 4, none⟩ = some (.int .u64 a.1.2.val) ∧ b1 < W.heap.size) := fun W hW =>
                  ⟨(hW.cell (p := ⟨b1, o1 + j * 5, none⟩) zz1).trans (hcell 0 _ (by decide) rfl), (hW.cell (p := ⟨b1, o1 + j * 5 + 1, none⟩) zz1).trans (hcell 1 _ (by decide) rfl), (hW.cell (p := ⟨b1, o1 + j * 5 + 2, none⟩) zz1).trans (hcell 2 _ (by decide) rfl), (hW.cell (p := ⟨b1, o1 + j * 5 + 3, none⟩) zz1).trans (hcell 3 _ (by decide) rfl), (hW.cell (p := ⟨b1, o1 + j * 5 + 4, none⟩) zz1).trans (hcell 4 _ (by decide) rfl), Nat.lt_of_lt_of_le zz1 hW.size⟩
                clear ha hcell zz1
                go_upto_region 23 with fail
                have hS0 : Below wr.heap.size wr wr.drew := (Gr.refl wr).drew.below
                refine wp_regionD (S := (fun W : World => Below wr.heap.size wr W)) (D := []) hmx ?_
                refine' wpAnyD_take (i := 0) (oi := { dst := some 134, op := Go.Op.move (Go.Operand.tmp 8), type := 34, pos := "law.go:61", after := #[], guard := none }) (v := _) rfl (by kernel_rfl) (by kernel_rfl) (by kernel_rfl) (fun _ _ _ h => h) (by kernel_rfl) (Or.inl ⟨by rfl, ?hy21⟩) hS0 ?rest21
                case hy21 => (intro W hSw; go_simp; try (with_reducible rfl))
                try simp only [Act.put, List.setIfInBounds_toArray, List.set_cons_zero, List.set_cons_succ]
                refine' wpAnyD_take (i := 1) (oi := { dst := some 135, op := Go.Op.binOp Go.BinOp.neq 34 (Go.Operand.tmp 134) (Go.Operand.const Go.Value.nilIface) 34, type := 4, pos := "law.go:61", after := #[{ on := 0, ground := Go.Ground.data }], guard := none }) (v := _) rfl (by kernel_rfl) (by kernel_rfl) (by kernel_rfl) (fun _ _ _ h => h) (by kernel_rfl) (Or.inl ⟨by rfl, ?hy22⟩) hS0 ?rest22
                case hy22 => (intro W hSw; go_simp; try (with_reducible rfl))
                try simp only [Act.put, List.setIfInBounds_toArray, List.set_cons_zero, List.set_cons_succ]
                refine' wpAnyD_take (i := 2) (oi := { dst := some 136, op := Go.Op.move (Go.Operand.tmp 135), type := 4, pos := "law.go:61", after := #[{ on := 1, ground := Go.Ground.data }], guard := none }) (v := _) rfl (by kernel_rfl) (by kernel_rfl) (by kernel_rfl) (fun _ _ _ h => h) (by kernel_rfl) (Or.inl ⟨by rfl, ?hy23⟩) hS0 ?rest23
                case hy23 => (intro W hSw; go_simp; try (with_reducible rfl))
                try simp only [Act.put, List.setIfInBounds_toArray, List.set_cons_zero, List.set_cons_succ]
                refine' wpAnyD_take (i := 3) (oi := { dst := some 137, op := Go.Op.move (Go.Operand.tmp 8), type := 34, pos := "law.go:61", after := #[{ on := 2, ground := Go.Ground.guard }], guard := some (2, true) }) (v := _) rfl (by kernel_rfl) (by kernel_rfl) (by kernel_rfl) (fun _ _ _ h => h) (by kernel_rfl) (Or.inl ⟨by rfl, ?hy24⟩) hS0 ?rest24
                case hy24 => (intro W hSw; go_simp; try (with_reducible rfl))
                try simp only [Act.put, List.setIfInBounds_toArray, List.set_cons_zero, List.set_cons_succ]
                refine' wpAnyD_take (i := 4) (oi := { dst := some 138, op := Go.Op.load 28 (Go.Operand.tmp 3), type := 28, pos := "law.go:61", after := #[{ on := 2, ground := Go.Ground.guard }], guard := some (2, true) }) (v := _) rfl (by kernel_rfl) (by kernel_rfl) (by kernel_rfl) (fun _ _ _ h => h) (by kernel_rfl) (Or.inl ⟨by rfl, ?hy25⟩) hS0 ?rest25
                case hy25 => (intro W hSw; obtain ⟨v1, e1, -⟩ := blk_at (HD9.out.below hSw).b1; go_simp; try (with_reducible rfl))
                try simp only [Act.put, List.setIfInBounds_toArray, List.set_cons_zero, List.set_cons_succ]
                refine' wpAnyD_take (i := 5) (oi := { dst := some 139, op := Go.Op.move (Go.Operand.tmp 2), type := 41, pos := "law.go:61", after := #[{ on := 2, ground := Go.Ground.guard }], guard := some (2, true) }) (v := _) rfl (by kernel_rfl) (by kernel_rfl) (by kernel_rfl) (fun _ _ _ h => h) (by kernel_rfl) (Or.inl ⟨by rfl, ?hy26⟩) hS0 ?rest26
                case hy26 => (intro W hSw; go_simp; try (with_reducible rfl))
                try simp only [Act.put, List.setIfInBounds_toArray, List.set_cons_zero, List.set_cons_succ]
                refine' wpAnyD_take (i := 6) (oi := { dst := some 140, op := Go.Op.move (Go.Operand.tmp 14), type := 3, pos := "law.go:61", after := #[{ on := 2, ground := Go.Ground.guard }], guard := some (2, true) }) (v := _) rfl (by kernel_rfl) (by kernel_rfl) (by kernel_rfl) (fun _ _ _ h => h) (by kernel_rfl) (Or.inl ⟨by rfl, ?hy27⟩) hS0 ?rest27
                case hy27 => (intro W hSw; go_simp; try (with_reducible rfl))
                try simp only [Act.put, List.setIfInBounds_toArray, List.set_cons_zero, List.set_cons_succ]
                refine' wpAnyD_take (i := 7) (oi := { dst := some 141, op := Go.Op.indexAddr 41 (Go.Operand.tmp 139) (Go.Operand.tmp 140), type := 0, pos := "law.go:61", after := #[{ on := 5, ground := Go.Ground.data }, { on := 6, ground := Go.Ground.data }, { on := 2, ground := Go.Ground.guard }], guard := some (2, true) }) (v := _) rfl (by kernel_rfl) (by kernel_rfl) (by kernel_rfl) (fun _ _ _ h => h) (by kernel_rfl) (Or.inl ⟨by rfl, ?hy28⟩) hS0 ?rest28
                case hy28 => (intro W hSw; go_simp; try (with_reducible rfl))
                try simp only [Act.put, List.setIfInBounds_toArray, List.set_cons_zero, List.set_cons_succ]
                refine' wpAnyD_take (i := 8) (oi := { dst := some 142, op := Go.Op.load 50 (Go.Operand.tmp 141), type := 50, pos := "law.go:61", after := #[{ on := 7, ground := Go.Ground.data }, { on := 2, ground := Go.Ground.guard }], guard := some (2, true) }) (v := _) rfl (by kernel_rfl) (by kernel_rfl) (by kernel_rfl) (fun _ _ _ h => h) (by kernel_rfl) (Or.inl ⟨by rfl, ?hy29⟩) hS0 ?rest29
                case hy29 => (intro W hSw; obtain ⟨v0, v1, v2, v3, v4, v5⟩ := HAC.out _ hSw; go_simp; try (with_reducible rfl))
                try simp only [Act.put, List.setIfInBounds_toArray, List.set_cons_zero, List.set_cons_succ]
                refine wpAnyD_one (i := 9) (o := { dst := some 143, op := Go.Op.call { callee := Go.Callee.value (Go.Operand.func 9), args := #[Go.Operand.tmp 137, Go.Operand.tmp 138, Go.Operand.tmp 142], argTypes := #[34, 28, 50] }, type := 4, pos := "law.go:61", after := #[{ on := 3, ground := Go.Ground.data }, { on := 4, ground := Go.Ground.data }, { on := 8, ground := Go.Ground.data }, { on := 2, ground := Go.Ground.chain }, { on := 2, ground := Go.Ground.guard }], guard := some (2, true) }) (by kernel_rfl) rfl (fun K hK => ?_)
                rw [if_pos (by kernel_rfl)]
                go_simp
                refine (does_any HOK.out.1 a.2.1 a.2.2 HOK.out.2.2.1 _ (HFG9.out.1.below hS0) (HV.out.below (HD9.out.below hS0).bl)).mono ?_
                rintro e u51 ⟨rfl, g51⟩
                have hS51 : Below wr.heap.size wr u51 := hS0.trans (g51.mono hS0.size)
                clear g51
                go_wp2_with fail
                refine hK.out _ _ (fun hD => hS51) ?_
                clear hK K
                try simp only [Act.put, List.setIfInBounds_toArray, List.set_cons_zero, List.set_cons_succ]
                refine' wpAnyD_take (i := 10) (oi := { dst := some 144, op := Go.Op.unOp Go.UnOp.not 4 (Go.Operand.tmp 143), type := 4, pos := "law.go:61", after := #[{ on := 9, ground := Go.Ground.data }, { on := 2, ground := Go.Ground.guard }], guard := some (2, true) }) (v := _) rfl (by kernel_rfl) (by kernel_rfl) (by kernel_rfl) (fun _ _ _ h => h) (by kernel_rfl) (Or.inl ⟨by rfl, ?hy31⟩) hS51 ?rest31
                case hy31 => (intro W hSw; go_simp; try (with_reducible rfl))
                try simp only [Act.put, List.setIfInBounds_toArray, List.set_cons_zero, List.set_cons_succ]
                refine' wpAnyD_take (i := 11) (oi := { dst := some 145, op := Go.Op.pick (Go.Operand.tmp 136) (Go.Operand.tmp 144) (Go.Operand.const (Go.Value.bool false)), type := 4, pos := "law.go:61", after := #[{ on := 2, ground := Go.Ground.data }, { on := 10, ground := Go.Ground.data }], guard := none }) (v := _) rfl (by kernel_rfl) (by kernel_rfl) (by kernel_rfl) (fun _ _ _ h => h) (by kernel_rfl) (Or.inl ⟨by rfl, ?hy32⟩) hS51 ?rest32
                case hy32 => (intro W hSw; go_simp; try (with_reducible rfl))
                try simp only [Act.put, List.setIfInBounds_toArray, List.set_cons_zero, List.set_cons_succ]
                refine' wpAnyD_take (i := 12) (oi := { dst := some 146, op := Go.Op.move (Go.Operand.tmp 145), type := 4, pos := "law.go:61", after := #[{ on := 11, ground := Go.Ground.data }, { on := 9, ground := Go.Ground.chain }], guard := none }) (v := _) rfl (by kernel_rfl) (by kernel_rfl) (by kernel_rfl) (fun _ _ _ h => h) (by kernel_rfl) (Or.inl ⟨by rfl, ?hy33⟩) hS51 ?rest33
                case hy33 => (intro W hSw; go_simp; try (with_reducible rfl))
                try simp only [Act.put, List.setIfInBounds_toArray, List.set_cons_zero, List.set_cons_succ]
                refine' wpAnyD_take (i := 13) (oi := { dst := some 147, op := Go.Op.move (Go.Operand.tmp 10), type := 34, pos := "law.go:61", after := #[{ on := 12, ground := Go.Ground.guard }], guard := some (12, false) }) (v := _) rfl (by kernel_rfl) (by kernel_rfl) (by kernel_rfl) (fun _ _ _ h => h) (by kernel_rfl) (Or.inl ⟨by rfl, ?hy34⟩) hS51 ?rest34
                case hy34 => (intro W hSw; go_simp; try (with_reducible rfl))
                try simp only [Act.put, List.setIfInBounds_toArray, List.set_cons_zero, List.set_cons_succ]
                refine' wpAnyD_take (i := 14) (oi := { dst := some 148, op := Go.Op.binOp Go.BinOp.neq 34 (Go.Operand.tmp 147) (Go.Operand.const Go.Value.nilIface) 34, type := 4, pos := "law.go:61", after := #[{ on := 13, ground := Go.Ground.data }, { on := 12, ground := Go.Ground.guard }], guard := some (12, false) }) (v := _) rfl (by kernel_rfl) (by kernel_rfl) (by kernel_rfl) (fun _ _ _ h => h) (by kernel_rfl) (Or.inl ⟨by rfl, ?hy35⟩) hS51 ?rest35
                case hy35 => (intro W hSw; go_simp; try (with_reducible rfl))
                try simp only [Act.put, List.setIfInBounds_toArray, List.set_cons_zero, List.set_cons_succ]
                refine' wpAnyD_take (i := 15) (oi := { dst := some 149, op := Go.Op.move (Go.Operand.tmp 148), type := 4, pos := "law.go:61", after := #[{ on := 14, ground := Go.Ground.data }, { on := 12, ground := Go.Ground.chain }, { on := 12, ground := Go.Ground.guard }], guard := some (12, false) }) (v := _) rfl (by kernel_rfl) (by kernel_rfl) (by kernel_rfl) (fun _ _ _ h => h) (by kernel_rfl) (Or.inl ⟨by rfl, ?hy36⟩) hS51 ?rest36
                case hy36 => (intro W hSw; go_simp; try (with_reducible rfl))
                try simp only [Act.put, List.setIfInBounds_toArray, List.set_cons_zero, List.set_cons_succ]
                refine' wpAnyD_take (i := 16) (oi := { dst := some 150, op := Go.Op.move (Go.Operand.tmp 10), type := 34, pos := "law.go:61", after := #[{ on := 15, ground := Go.Ground.guard }], guard := some (15, true) }) (v := _) rfl (by kernel_rfl) (by kernel_rfl) (by kernel_rfl) (fun _ _ _ h => h) (by kernel_rfl) (Or.inl ⟨by rfl, ?hy37⟩) hS51 ?rest37
                case hy37 => (intro W hSw; go_simp; try (with_reducible rfl))
                try simp only [Act.put, List.setIfInBounds_toArray, List.set_cons_zero, List.set_cons_succ]
                refine' wpAnyD_take (i := 17) (oi := { dst := some 151, op := Go.Op.load 28 (Go.Operand.tmp 4), type := 28, pos := "law.go:61", after := #[{ on := 15, ground := Go.Ground.guard }], guard := some (15, true) }) (v := _) rfl (by kernel_rfl) (by kernel_rfl) (by kernel_rfl) (fun _ _ _ h => h) (by kernel_rfl) (Or.inl ⟨by rfl, ?hy38⟩) hS51 ?rest38
                case hy38 => (intro W hSw; obtain ⟨v1, e1, -⟩ := blk_at (HD9.out.below hSw).b2; go_simp; try (with_reducible rfl))
                try simp only [Act.put, List.setIfInBounds_toArray, List.set_cons_zero, List.set_cons_succ]
                refine' wpAnyD_take (i := 18) (oi := { dst := some 152, op := Go.Op.move (Go.Operand.tmp 2), type := 41, pos := "law.go:61", after := #[{ on := 15, ground := Go.Ground.guard }], guard := some (15, true) }) (v := _) rfl (by kernel_rfl) (by kernel_rfl) (by kernel_rfl) (fun _ _ _ h => h) (by kernel_rfl) (Or.inl ⟨by rfl, ?hy39⟩) hS51 ?rest39
                case hy39 => (intro W hSw; go_simp; try (with_reducible rfl))
                try simp only [Act.put, List.setIfInBounds_toArray, List.set_cons_zero, List.set_cons_succ]
                refine' wpAnyD_take (i := 19) (oi := { dst := some 153, op := Go.Op.move (Go.Operand.tmp 14), type := 3, pos := "law.go:61", after := #[{ on := 15, ground := Go.Ground.guard }], guard := some (15, true) }) (v := _) rfl (by kernel_rfl) (by kernel_rfl) (by kernel_rfl) (fun _ _ _ h => h) (by kernel_rfl) (Or.inl ⟨by rfl, ?hy40⟩) hS51 ?rest40
                case hy40 => (intro W hSw; go_simp; try (with_reducible rfl))
                try simp only [Act.put, List.setIfInBounds_toArray, List.set_cons_zero, List.set_cons_succ]
                refine' wpAnyD_take (i := 20) (oi := { dst := some 154, op := Go.Op.indexAddr 41 (Go.Operand.tmp 152) (Go.Operand.tmp 153), type := 0, pos := "law.go:61", after := #[{ on := 18, ground := Go.Ground.data }, { on := 19, ground := Go.Ground.data }, { on := 15, ground := Go.Ground.guard }], guard := some (15, true) }) (v := _) rfl (by kernel_rfl) (by kernel_rfl) (by kernel_rfl) (fun _ _ _ h => h) (by kernel_rfl) (Or.inl ⟨by rfl, ?hy41⟩) hS51 ?rest41
                case hy41 => (intro W hSw; go_simp; try (with_reducible rfl))
                try simp only [Act.put, List.setIfInBounds_toArray, List.set_cons_zero, List.set_cons_succ]
                refine' wpAnyD_take (i := 21) (oi := { dst := some 155, op := Go.Op.load 50 (Go.Operand.tmp 154), type := 50, pos := "law.go:61", after := #[{ on := 20, ground := Go.Ground.data }, { on := 15, ground := Go.Ground.guard }], guard := some (15, true) }) (v := _) rfl (by kernel_rfl) (by kernel_rfl) (by kernel_rfl) (fun _ _ _ h => h) (by kernel_rfl) (Or.inl ⟨by rfl, ?hy42⟩) hS51 ?rest42
                case hy42 => (intro W hSw; obtain ⟨v0, v1, v2, v3, v4, v5⟩ := HAC.out _ hSw; go_simp; try (with_reducible rfl))
                try simp only [Act.put, List.setIfInBounds_toArray, List.set_cons_zero, List.set_cons_succ]
                refine wpAnyD_one (i := 22) (o := { dst := some 156, op := Go.Op.call { callee := Go.Callee.value (Go.Operand.func 9), args := #[Go.Operand.tmp 150, Go.Operand.tmp 151, Go.Operand.tmp 155], argTypes := #[34, 28, 50] }, type := 4, pos := "law.go:61", after := #[{ on := 16, ground := Go.Ground.data }, { on := 17, ground := Go.Ground.data }, { on := 21, ground := Go.Ground.data }, { on := 15, ground := Go.Ground.chain }, { on := 15, ground := Go.Ground.guard }], guard := some (15, true) }) (by kernel_rfl) rfl (fun K hK => ?_)
                rw [if_pos (by kernel_rfl)]
                go_simp
                refine (does_any HOK.out.2.1 a.2.1 a.2.2 HOK.out.2.2.2 _ (HFG9.out.2.below hS51) (HV'.out.below (HD9.out.below hS51).bl)).mono ?_
                rintro e u52 ⟨rfl, g52⟩
                have hS52 : Below wr.heap.size wr u52 := hS51.trans (g52.mono hS51.size)
                clear g52
                go_wp2_with fail
                refine hK.out _ _ (fun hD => hS52) ?_
                clear hK K
                try simp only [Act.put, List.setIfInBounds_toArray, List.set_cons_zero, List.set_cons_succ]
                refine' wpAnyD_take (i := 23) (oi := { dst := some 157, op := Go.Op.unOp Go.UnOp.not 4 (Go.Operand.tmp 156), type := 4, pos := "law.go:61", after := #[{ on := 22, ground := Go.Ground.data }, { on := 15, ground := Go.Ground.guard }], guard := some (15, true) }) (v := _) rfl (by kernel_rfl) (by kernel_rfl) (by kernel_rfl) (fun _ _ _ h => h) (by kernel_rfl) (Or.inl ⟨by rfl, ?hy44⟩) hS52 ?rest44
                case hy44 => (intro W hSw; go_simp; try (with_reducible rfl))
                try simp only [Act.put, List.setIfInBounds_toArray, List.set_cons_zero, List.set_cons_succ]
                refine' wpAnyD_take (i := 24) (oi := { dst := some 158, op := Go.Op.pick (Go.Operand.tmp 149) (Go.Operand.tmp 157) (Go.Operand.const (Go.Value.bool false)), type := 4, pos := "law.go:61", after := #[{ on := 15, ground := Go.Ground.data }, { on := 23, ground := Go.Ground.data }, { on := 12, ground := Go.Ground.guard }], guard := some (12, false) }) (v := _) rfl (by kernel_rfl) (by kernel_rfl) (by kernel_rfl) (fun _ _ _ h => h) (by kernel_rfl) (Or.inl ⟨by rfl, ?hy45⟩) hS52 ?rest45
                case hy45 => (intro W hSw; go_simp; try (with_reducible rfl))
                try simp only [Act.put, List.setIfInBounds_toArray, List.set_cons_zero, List.set_cons_succ]
                refine' wpAnyD_take (i := 25) (oi := { dst := some 159, op := Go.Op.pick (Go.Operand.tmp 146) (Go.Operand.const (Go.Value.bool true)) (Go.Operand.tmp 158), type := 4, pos := "law.go:61", after := #[{ on := 12, ground := Go.Ground.data }, { on := 24, ground := Go.Ground.data }], guard := none }) (v := _) rfl (by kernel_rfl) (by kernel_rfl) (by kernel_rfl) (fun _ _ _ h => h) (by kernel_rfl) (Or.inl ⟨by rfl, ?hy46⟩) hS52 ?rest46
                case hy46 => (intro W hSw; go_simp; try (with_reducible rfl))
                try simp only [Act.put, List.setIfInBounds_toArray, List.set_cons_zero, List.set_cons_succ]
                refine' wpAnyD_take (i := 26) (oi := { dst := some 160, op := Go.Op.move (Go.Operand.tmp 159), type := 4, pos := "law.go:61", after := #[{ on := 25, ground := Go.Ground.data }, { on := 22, ground := Go.Ground.chain }], guard := none }) (v := _) rfl (by kernel_rfl) (by kernel_rfl) (by kernel_rfl) (fun _ _ _ h => h) (by kernel_rfl) (Or.inl ⟨by rfl, ?hy47⟩) hS52 ?rest47
                case hy47 => (intro W hSw; go_simp; try (with_reducible rfl))
                try simp only [Act.put, List.setIfInBounds_toArray, List.set_cons_zero, List.set_cons_succ]
                refine' wpAnyD_take (i := 27) (oi := { dst := some 161, op := Go.Op.move (Go.Operand.tmp 8), type := 34, pos := "law.go:61", after := #[{ on := 26, ground := Go.Ground.guard }], guard := some (26, false) }) (v := _) rfl (by kernel_rfl) (by kernel_rfl) (by kernel_rfl) (fun _ _ _ h => h) (by kernel_rfl) (Or.inl ⟨by rfl, ?hy48⟩) hS52 ?rest48
                case hy48 => (intro W hSw; go_simp; try (with_reducible rfl))
                try simp only [Act.put, List.setIfInBounds_toArray, List.set_cons_zero, List.set_cons_succ]
                refine' wpAnyD_take (i := 28) (oi := { dst := some 162, op := Go.Op.binOp Go.BinOp.neq 34 (Go.Operand.tmp 161) (Go.Operand.const Go.Value.nilIface) 34, type := 4, pos := "law.go:61", after := #[{ on := 27, ground := Go.Ground.data }, { on := 26, ground := Go.Ground.guard }], guard := some (26, false) }) (v := _) rfl (by kernel_rfl) (by kernel_rfl) (by kernel_rfl) (fun _ _ _ h => h) (by kernel_rfl) (Or.inl ⟨by rfl, ?hy49⟩) hS52 ?rest49
                case hy49 => (intro W hSw; go_simp; try (with_reducible rfl))
                try simp only [Act.put, List.setIfInBounds_toArray, List.set_cons_zero, List.set_cons_succ]
                refine' wpAnyD_take (i := 29) (oi := { dst := some 163, op := Go.Op.move (Go.Operand.tmp 162), type := 4, pos := "law.go:61", after := #[{ on := 28, ground := Go.Ground.data }, { on := 26, ground := Go.Ground.chain }, { on := 26, ground := Go.Ground.guard }], guard := some (26, false) }) (v := _) rfl (by kernel_rfl) (by kernel_rfl) (by kernel_rfl) (fun _ _ _ h => h) (by kernel_rfl) (Or.inl ⟨by rfl, ?hy50⟩) hS52 ?rest50
                case hy50 => (intro W hSw; go_simp; try (with_reducible rfl))
                try simp only [Act.put, List.setIfInBounds_toArray, List.set_cons_zero, List.set_cons_succ]
                refine' wpAnyD_take (i := 30) (oi := { dst := some 164, op := Go.Op.move (Go.Operand.tmp 8), type := 34, pos := "law.go:61", after := #[{ on := 29, ground := Go.Ground.guard }], guard := some (29, true) }) (v := _) rfl (by kernel_rfl) (by kernel_rfl) (by kernel_rfl) (fun _ _ _ h => h) (by kernel_rfl) (Or.inl ⟨by rfl, ?hy51⟩) hS52 ?rest51
                case hy51 => (intro W hSw; go_simp; try (with_reducible rfl))
                try simp only [Act.put, List.setIfInBounds_toArray, List.set_cons_zero, List.set_cons_succ]
                refine' wpAnyD_take (i := 31) (oi := { dst := some 165, op := Go.Op.load 28 (Go.Operand.tmp 3), type := 28, pos := "law.go:61", after := #[{ on := 29, ground := Go.Ground.guard }], guard := some (29, true) }) (v := _) rfl (by kernel_rfl) (by kernel_rfl) (by kernel_rfl) (fun _ _ _ h => h) (by kernel_rfl) (Or.inl ⟨by rfl, ?hy52⟩) hS52 ?rest52
                case hy52 => (intro W hSw; obtain ⟨v1, e1, -⟩ := blk_at (HD9.out.below hSw).b1; go_simp; try (with_reducible rfl))
                try simp only [Act.put, List.setIfInBounds_toArray, List.set_cons_zero, List.set_cons_succ]
                refine' wpAnyD_take (i := 32) (oi := { dst := some 166, op := Go.Op.move (Go.Operand.tmp 2), type := 41, pos := "law.go:61", after := #[{ on := 29, ground := Go.Ground.guard }], guard := some (29, true) }) (v := _) rfl (by kernel_rfl) (by kernel_rfl) (by kernel_rfl) (fun _ _ _ h => h) (by kernel_rfl) (Or.inl ⟨by rfl, ?hy53⟩) hS52 ?rest53
                case hy53 => (intro W hSw; go_simp; try (with_reducible rfl))
                try simp only [Act.put, List.setIfInBounds_toArray, List.set_cons_zero, List.set_cons_succ]
                refine' wpAnyD_take (i := 33) (oi := { dst := some 167, op := Go.Op.move (Go.Operand.tmp 14), type := 3, pos := "law.go:61", after := #[{ on := 29, ground := Go.Ground.guard }], guard := some (29, true) }) (v := _) rfl (by kernel_rfl) (by kernel_rfl) (by kernel_rfl) (fun _ _ _ h => h) (by kernel_rfl) (Or.inl ⟨by rfl, ?hy54⟩) hS52 ?rest54
                case hy54 => (intro W hSw; go_simp; try (with_reducible rfl))
                try simp only [Act.put, List.setIfInBounds_toArray, List.set_cons_zero, List.set_cons_succ]
                refine' wpAnyD_take (i := 34) (oi := { dst := some 168, op := Go.Op.indexAddr 41 (Go.Operand.tmp 166) (Go.Operand.tmp 167), type := 0, pos := "law.go:61", after := #[{ on := 32, ground := Go.Ground.data }, { on := 33, ground := Go.Ground.data }, { on := 29, ground := Go.Ground.guard }], guard := some (29, true) }) (v := _) rfl (by kernel_rfl) (by kernel_rfl) (by kernel_rfl) (fun _ _ _ h => h) (by kernel_rfl) (Or.inl ⟨by rfl, ?hy55⟩) hS52 ?rest55
                case hy55 => (intro W hSw; go_simp; try (with_reducible rfl))
                try simp only [Act.put, List.setIfInBounds_toArray, List.set_cons_zero, List.set_cons_succ]
                refine' wpAnyD_take (i := 35) (oi := { dst := some 169, op := Go.Op.load 50 (Go.Operand.tmp 168), type := 50, pos := "law.go:61", after := #[{ on := 34, ground := Go.Ground.data }, { on := 29, ground := Go.Ground.guard }], guard := some (29, true) }) (v := _) rfl (by kernel_rfl) (by kernel_rfl) (by kernel_rfl) (fun _ _ _ h => h) (by kernel_rfl) (Or.inl ⟨by rfl, ?hy56⟩) hS52 ?rest56
                case hy56 => (intro W hSw; obtain ⟨v0, v1, v2, v3, v4, v5⟩ := HAC.out _ hSw; go_simp; try (with_reducible rfl))
                try simp only [Act.put, List.setIfInBounds_toArray, List.set_cons_zero, List.set_cons_succ]
                refine wpAnyD_one (i := 36) (o := { dst := some 170, op := Go.Op.call { callee := Go.Callee.value (Go.Operand.func 9), args := #[Go.Operand.tmp 164, Go.Operand.tmp 165, Go.Operand.tmp 169], argTypes := #[34, 28, 50] }, type := 4, pos := "law.go:61", after := #[{ on := 30, ground := Go.Ground.data }, { on := 31, ground := Go.Ground.data }, { on := 35, ground := Go.Ground.data }, { on := 29, ground := Go.Ground.chain }, { on := 29, ground := Go.Ground.guard }], guard := some (29, true) }) (by kernel_rfl) rfl (fun K hK => ?_)
                rw [if_pos (by kernel_rfl)]
                go_simp
                refine (does_any HOK.out.1 a.2.1 a.2.2 HOK.out.2.2.1 _ (HFG9.out.1.below hS52) (HV.out.below (HD9.out.below hS52).bl)).mono ?_
                rintro e u53 ⟨rfl, g53⟩
                have hS53 : Below wr.heap.size wr u53 := hS52.trans (g53.mono hS52.size)
                clear g53
                go_wp2_with fail
                refine hK.out _ _ (fun hD => hS53) ?_
                clear hK K
                try simp only [Act.put, List.setIfInBounds_toArray, List.set_cons_zero, List.set_cons_succ]
                refine' wpAnyD_take (i := 37) (oi := { dst := some 171, op := Go.Op.unOp Go.UnOp.not 4 (Go.Operand.tmp 170), type := 4, pos := "law.go:61", after := #[{ on := 36, ground := Go.Ground.data }, { on := 29, ground := Go.Ground.guard }], guard := some (29, true) }) (v := _) rfl (by kernel_rfl) (by kernel_rfl) (by kernel_rfl) (fun _ _ _ h => h) (by kernel_rfl) (Or.inl ⟨by rfl, ?hy58⟩) hS53 ?rest58
                case hy58 => (intro W hSw; go_simp; try (with_reducible rfl))
                try simp only [Act.put, List.setIfInBounds_toArray, List.set_cons_zero, List.set_cons_succ]
                refine' wpAnyD_take (i := 38) (oi := { dst := some 172, op := Go.Op.pick (Go.Operand.tmp 163) (Go.Operand.tmp 171) (Go.Operand.const (Go.Value.bool false)), type := 4, pos := "law.go:61", after := #[{ on := 29, ground := Go.Ground.data }, { on := 37, ground := Go.Ground.data }, { on := 26, ground := Go.Ground.guard }], guard := some (26, false) }) (v := _) rfl (by kernel_rfl) (by kernel_rfl) (by kernel_rfl) (fun _ _ _ h => h) (by kernel_rfl) (Or.inl ⟨by rfl, ?hy59⟩) hS53 ?rest59
                case hy59 => (intro W hSw; go_simp; try (with_reducible rfl))
                try simp only [Act.put, List.setIfInBounds_toArray, List.set_cons_zero, List.set_cons_succ]
                refine' wpAnyD_take (i := 39) (oi := { dst := some 173, op := Go.Op.pick (Go.Operand.tmp 160) (Go.Operand.const (Go.Value.bool true)) (Go.Operand.tmp 172), type := 4, pos := "law.go:61", after := #[{ on := 26, ground := Go.Ground.data }, { on := 38, ground := Go.Ground.data }], guard := none }) (v := _) rfl (by kernel_rfl) (by kernel_rfl) (by kernel_rfl) (fun _ _ _ h => h) (by kernel_rfl) (Or.inl ⟨by rfl, ?hy60⟩) hS53 ?rest60
                case hy60 => (intro W hSw; go_simp; try (with_reducible rfl))
                try simp only [Act.put, List.setIfInBounds_toArray, List.set_cons_zero, List.set_cons_succ]
                refine wpAnyD_done (by kernel_rfl) ?_ _
                go_wp2_with fail
                exact ⟨⟨j + 1, by omega, by go_num, HD9.out.below hS53, ⟨HFG9.out.1.below hS53, HFG9.out.2.below hS53⟩⟩, by simp [RowKit.intOf]; omega⟩
              · have hltz : ¬ (j : Int) < (na : Int) := by omega
                go_wp2_with fail
                go_ret
                exact ⟨rfl, HD9.out.bl⟩
      · obtain ⟨e2, rfl⟩ := hg
        have f3 : (q2 == 0) = false := by rw [HQ2.out]; simpa using e2
        have f4 : (q2 != 0) = true := by rw [bne, f3]; rfl
        clear e2 HF8 HQ8 HQ1 HQ2 HOKF HOKG
        have s0 : (0 : Int) ≤ (n : Int) + 1 := by omega
        have s1 : (n : Int) + 1 ≤ (k1 : Int) := by omega
        have HFG : Hid (Flw wc.heap.size w8 (.iface Tf (.pointer (some ⟨bf, 0, none⟩))) x l ∧ True) := ⟨HFl.out, trivial⟩
        clear HFl
        go_wp2_with fail
        clear s0 s1 z1 d1 z3 d3
        go_loopw [13] (fun s13 Wr => ∃ i : Nat, i ≤ n ∧ s13 = .int .i64 (i : Nat) ∧ Hid (Dw w Wr x m p q n c n' c' nb mb ob g k1 (wro l i)) ∧ Hid (Flw wc.heap.size Wr (.iface Tf (.pointer (some ⟨bf, 0, none⟩))) x l ∧ True)) (fun s13 _ => n - (RowKit.intOf s13).toNat)
        case atStart => exact ⟨0, Nat.zero_le _, rfl, by rw [wro_zero]; exact HD8, HFG⟩
        case round =>
          clear HD8 HFG
          obtain ⟨i, hi, rfl, HD8, HFG⟩ := hrel
          obtain ⟨z1, d1, -⟩ := blk_at HD8.out.b1
          obtain ⟨z3, d3, -⟩ := blk_at HD8.out.b3
          by_cases hlt : i < n
          · have hltz : (i : Int) < (n : Int) := by omega
            have hll : i < l.length := by rw [← HNL.out]; exact hlt
            obtain ⟨o, ho⟩ : ∃ o, l[i]? = some o := ⟨l[i], by simp⟩
            have ho2 : (wro l i ++ [mO])[i]? = some o := by rw [List.getElem?_append_left (by rw [wro_len (Nat.le_of_lt hll)]; exact hll), wro_get hll]; exact ho
            obtain ⟨zg, y0, y1⟩ := HD8.out.mkd.at ho2
            have fz := HD8.out.mkd.free
            obtain ⟨b1, o1, c1, e1, zz1, x0, x1⟩ := ls_at (HV.out.below HD8.out.bl) ho
            simp only [Value.slice.injEq] at e1
            obtain ⟨rfl, -, rfl⟩ := e1
            have i0 : (0 : Int) ≤ (i : Int) := by omega
            have HLL := hid hll
            have HO := hid ho
            clear ho ho2 hll
            go_upto_region 13 with fail
            go_quiet (fail)
            have HDq := hid (HD8.out.below ((Gr.refl _).drewN nq).below)
            have HFq : Hid (Flw wc.heap.size (wr.drewN nq) (.iface Tf (.pointer (some ⟨bf, 0, none⟩))) x l ∧ True) := ⟨HFG.out.1.below ((Gr.refl _).drewN nq).below, trivial⟩
            obtain ⟨Wq, hWq⟩ : ∃ Wq, Wq = wr.drewN nq := ⟨_, rfl⟩
            rw [← hWq] at HDq HFq ⊢
            clear hWq HD8 HFG z1 d1 z3 d3 zg y0 y1 fz x0 x1 zz1
            have hmk := HDq.out.mkd
            obtain ⟨zg, y0, y1⟩ := hmk.at (j := i) (o := o) (by rw [List.getElem?_append_left (by rw [wro_len (Nat.le_of_lt HLL.out)]; exact HLL.out), wro_get HLL.out]; exact HO.out)
            have fz := hmk.free
            obtain ⟨z1, d1, -⟩ := blk_at HDq.out.b1
            obtain ⟨z3, d3, -⟩ := blk_at HDq.out.b3
            clear hmk
            go_wp2_with fail
            have hput := HDq.out.put (j := i) (by rw [wro_len (Nat.le_of_lt HLL.out)]; exact HLL.out) m9
            rw [wro_set HLL.out] at hput
            have hkp := (HDq.out.mkd.put (j := i) (by rw [wro_len (Nat.le_of_lt HLL.out)]; exact HLL.out) m9).2
            refine ⟨⟨i + 1, by omega, by go_num, hput, ?_⟩, by simp [RowKit.intOf]; omega⟩
            exact ⟨HFq.out.1.kp hkp (fun j h1 _ e => by have := HGL.out.1; omega), trivial⟩
          · have hltz : ¬ (i : Int) < (n : Int) := by omega
            have hin : n = i := by omega
            subst hin
            obtain ⟨zg, y0, y1⟩ := HD8.out.mkd.at (j := n) (o := mO) (by rw [List.getElem?_append_right (by rw [wro_len (by rw [← HNL.out]; exact Nat.le_refl _), ← HNL.out]; exact Nat.le_refl _), wro_len (by rw [← HNL.out]; exact Nat.le_refl _), ← HNL.out, Nat.sub_self]; rfl)
            have i0 : (0 : Int) ≤ (n : Int) := by omega
            have i1 : (n : Int) < (n : Int) + 1 := by omega
            go_upto_region 18 with fail
            clear z1 d1 z3 d3 zg y0 y1 i0 i1 hltz
            have hS0 : Below wr.heap.size wr wr.drew := (Gr.refl wr).drew.below
            refine wp_regionD (S := (fun W : World => Below wr.heap.size wr W)) (D := []) hmx ?_
            refine' wpAnyD_take (i := 0) (oi := { dst := some 108, op := Go.Op.move (Go.Operand.tmp 8), type := 34, pos := "law.go:57", after := #[], guard := none }) (v := _) rfl (by kernel_rfl) (by kernel_rfl) (by kernel_rfl) (fun _ _ _ h => h) (by kernel_rfl) (Or.inl ⟨by rfl, ?hy61⟩) hS0 ?rest61
            case hy61 => (intro W hSw; go_simp; try (with_reducible rfl))
            try simp only [Act.put, List.setIfInBounds_toArray, List.set_cons_zero, List.set_cons_succ]
            refine' wpAnyD_take (i := 1) (oi := { dst := some 109, op := Go.Op.binOp Go.BinOp.neq 34 (Go.Operand.tmp 108) (Go.Operand.const Go.Value.nilIface) 34, type := 4, pos := "law.go:57", after := #[{ on := 0, ground := Go.Ground.data }], guard := none }) (v := _) rfl (by kernel_rfl) (by kernel_rfl) (by kernel_rfl) (fun _ _ _ h => h) (by kernel_rfl) (Or.inl ⟨by rfl, ?hy62⟩) hS0 ?rest62
            case hy62 => (intro W hSw; go_simp; try (with_reducible rfl))
            try simp only [Act.put, List.setIfInBounds_toArray, List.set_cons_zero, List.set_cons_succ]
            refine' wpAnyD_take (i := 2) (oi := { dst := some 110, op := Go.Op.move (Go.Operand.tmp 109), type := 4, pos := "law.go:57", after := #[{ on := 1, ground := Go.Ground.data }], guard := none }) (v := _) rfl (by kernel_rfl) (by kernel_rfl) (by kernel_rfl) (fun _ _ _ h => h) (by kernel_rfl) (Or.inl ⟨by rfl, ?hy63⟩) hS0 ?rest63
            case hy63 => (intro W hSw; go_simp; try (with_reducible rfl))
            try simp only [Act.put, List.setIfInBounds_toArray, List.set_cons_zero, List.set_cons_succ]
            refine' wpAnyD_take (i := 3) (oi := { dst := some 111, op := Go.Op.move (Go.Operand.tmp 8), type := 34, pos := "law.go:57", after := #[{ on := 2, ground := Go.Ground.guard }], guard := some (2, true) }) (v := _) rfl (by kernel_rfl) (by kernel_rfl) (by kernel_rfl) (fun _ _ _ h => h) (by kernel_rfl) (Or.inl ⟨by rfl, ?hy64⟩) hS0 ?rest64
            case hy64 => (intro W hSw; go_simp; try (with_reducible rfl))
            try simp only [Act.put, List.setIfInBounds_toArray, List.set_cons_zero, List.set_cons_succ]
            refine' wpAnyD_take (i := 5) (oi := { dst := some 113, op := Go.Op.fieldAddr 28 (Go.Operand.tmp 3) 0, type := 0, pos := "law.go:57", after := #[{ on := 2, ground := Go.Ground.guard }], guard := some (2, true) }) (v := _) rfl (by kernel_rfl) (by kernel_rfl) (by kernel_rfl) (fun _ _ _ h => h) (by kernel_rfl) (Or.inl ⟨by rfl, ?hy65⟩) hS0 ?rest65
            case hy65 => (intro W hSw; go_simp; try (with_reducible rfl))
            try simp only [Act.put, List.setIfInBounds_toArray, List.set_cons_zero, List.set_cons_succ]
            refine' wpAnyD_take (i := 6) (oi := { dst := some 114, op := Go.Op.load 3 (Go.Operand.tmp 113), type := 3, pos := "law.go:57", after := #[{ on := 5, ground := Go.Ground.data }, { on := 2, ground := Go.Ground.guard }], guard := some (2, true) }) (v := _) rfl (by kernel_rfl) (by kernel_rfl) (by kernel_rfl) (fun _ _ _ h => h) (by kernel_rfl) (Or.inl ⟨by rfl, ?hy66⟩) hS0 ?rest66
            case hy66 => (intro W hSw; obtain ⟨v1, e1, -⟩ := blk_at (HD8.out.below hSw).b1; go_simp; try (with_reducible rfl))
            try simp only [Act.put, List.setIfInBounds_toArray, List.set_cons_zero, List.set_cons_succ]
            refine wpAnyD_one (i := 4) (o := { dst := some 112, op := Go.Op.call { callee := Go.Callee.value (Go.Operand.func 7), args := #[Go.Operand.tmp 111], argTypes := #[34] }, type := 3, pos := "law.go:57", after := #[{ on := 3, ground := Go.Ground.data }, { on := 2, ground := Go.Ground.chain }, { on := 2, ground := Go.Ground.guard }], guard := some (2, true) }) (by kernel_rfl) rfl (fun K hK => ?_)
            rw [if_pos (by kernel_rfl)]
            go_simp
            refine (kind_any _ (HFG.out.1.below hS0)).mono ?_
            rintro e u1 ⟨rfl, g1⟩
            have hS1 : Below wr.heap.size wr u1 := hS0.trans (g1.below.mono hS0.size)
            clear g1
            go_wp2_with fail
            refine hK.out _ _ (fun hD => hS1) ?_
            clear hK K
            try simp only [Act.put, List.setIfInBounds_toArray, List.set_cons_zero, List.set_cons_succ]
            refine' wpAnyD_take (i := 7) (oi := { dst := some 115, op := Go.Op.binOp Go.BinOp.neq 3 (Go.Operand.tmp 112) (Go.Operand.tmp 114) 3, type := 4, pos := "law.go:57", after := #[{ on := 4, ground := Go.Ground.data }, { on := 6, ground := Go.Ground.data }, { on := 2, ground := Go.Ground.guard }], guard := some (2, true) }) (v := .bool false) rfl (by kernel_rfl) (by kernel_rfl) (by kernel_rfl) (fun _ _ _ h => h) (by kernel_rfl) (Or.inl ⟨by rfl, ?hy68⟩) hS1 ?rest68
            case hy68 => (intro W hSw; go_simp; try (with_reducible rfl))
            try simp only [Act.put, List.setIfInBounds_toArray, List.set_cons_zero, List.set_cons_succ]
            refine' wpAnyD_take (i := 8) (oi := { dst := some 116, op := Go.Op.pick (Go.Operand.tmp 110) (Go.Operand.tmp 115) (Go.Operand.const (Go.Value.bool false)), type := 4, pos := "law.go:57", after := #[{ on := 2, ground := Go.Ground.data }, { on := 7, ground := Go.Ground.data }], guard := none }) (v := _) rfl (by kernel_rfl) (by kernel_rfl) (by kernel_rfl) (fun _ _ _ h => h) (by kernel_rfl) (Or.inl ⟨by rfl, ?hy69⟩) hS1 ?rest69
            case hy69 => (intro W hSw; go_simp; try (with_reducible rfl))
            try simp only [Act.put, List.setIfInBounds_toArray, List.set_cons_zero, List.set_cons_succ]
            refine' wpAnyD_take (i := 9) (oi := { dst := some 117, op := Go.Op.move (Go.Operand.tmp 116), type := 4, pos := "law.go:57", after := #[{ on := 8, ground := Go.Ground.data }, { on := 4, ground := Go.Ground.chain }], guard := none }) (v := _) rfl (by kernel_rfl) (by kernel_rfl) (by kernel_rfl) (fun _ _ _ h => h) (by kernel_rfl) (Or.inl ⟨by rfl, ?hy70⟩) hS1 ?rest70
            case hy70 => (intro W hSw; go_simp; try (with_reducible rfl))
            try simp only [Act.put, List.setIfInBounds_toArray, List.set_cons_zero, List.set_cons_succ]
            refine' wpAnyD_take (i := 10) (oi := { dst := some 118, op := Go.Op.move (Go.Operand.tmp 10), type := 34, pos := "law.go:57", after := #[{ on := 9, ground := Go.Ground.guard }], guard := some (9, false) }) (v := _) rfl (by kernel_rfl) (by kernel_rfl) (by kernel_rfl) (fun _ _ _ h => h) (by kernel_rfl) (Or.inl ⟨by rfl, ?hy71⟩) hS1 ?rest71
            case hy71 => (intro W hSw; go_simp; try (with_reducible rfl))
            try simp only [Act.put, List.setIfInBounds_toArray, List.set_cons_zero, List.set_cons_succ]
            refine' wpAnyD_take (i := 11) (oi := { dst := some 119, op := Go.Op.binOp Go.BinOp.neq 34 (Go.Operand.tmp 118) (Go.Operand.const Go.Value.nilIface) 34, type := 4, pos := "law.go:57", after := #[{ on := 10, ground := Go.Ground.data }, { on := 9, ground := Go.Ground.guard }], guard := some (9, false) }) (v := _) rfl (by kernel_rfl) (by kernel_rfl) (by kernel_rfl) (fun _ _ _ h => h) (by kernel_rfl) (Or.inl ⟨by rfl, ?hy72⟩) hS1 ?rest72
            case hy72 => (intro W hSw; go_simp; try (with_reducible rfl))
            try simp only [Act.put, List.setIfInBounds_toArray, List.set_cons_zero, List.set_cons_succ]
            refine' wpAnyD_take (i := 12) (oi := { dst := some 120, op := Go.Op.move (Go.Operand.tmp 119), type := 4, pos := "law.go:57", after := #[{ on := 11, ground := Go.Ground.data }, { on := 9, ground := Go.Ground.chain }, { on := 9, ground := Go.Ground.guard }], guard := some (9, false) }) (v := _) rfl (by kernel_rfl) (by kernel_rfl) (by kernel_rfl) (fun _ _ _ h => h) (by kernel_rfl) (Or.inl ⟨by rfl, ?hy73⟩) hS1 ?rest73
            case hy73 => (intro W hSw; go_simp; try (with_reducible rfl))
            try simp only [Act.put, List.setIfInBounds_toArray, List.set_cons_zero, List.set_cons_succ]
            refine' wpAnyD_take (i := 13) (oi := { dst := some 121, op := Go.Op.move (Go.Operand.tmp 10), type := 34, pos := "law.go:57", after := #[{ on := 12, ground := Go.Ground.guard }], guard := some (12, true) }) (v := undef) rfl (by kernel_rfl) (by kernel_rfl) (by kernel_rfl) (fun _ _ _ h => h) (by kernel_rfl) (Or.inr ⟨by rfl, rfl⟩) hS1 ?rest74
            try simp only [Act.put, List.setIfInBounds_toArray, List.set_cons_zero, List.set_cons_succ]
            refine' wpAnyD_take (i := 15) (oi := { dst := some 123, op := Go.Op.fieldAddr 28 (Go.Operand.tmp 4) 0, type := 0, pos := "law.go:57", after := #[{ on := 12, ground := Go.Ground.guard }], guard := some (12, true) }) (v := undef) rfl (by kernel_rfl) (by kernel_rfl) (by kernel_rfl) (fun _ _ _ h => h) (by kernel_rfl) (Or.inr ⟨by rfl, rfl⟩) hS1 ?rest75
            try simp only [Act.put, List.setIfInBounds_toArray, List.set_cons_zero, List.set_cons_succ]
            refine' wpAnyD_take (i := 16) (oi := { dst := some 124, op := Go.Op.load 3 (Go.Operand.tmp 123), type := 3, pos := "law.go:57", after := #[{ on := 15, ground := Go.Ground.data }, { on := 12, ground := Go.Ground.guard }], guard := some (12, true) }) (v := undef) rfl (by kernel_rfl) (by kernel_rfl) (by kernel_rfl) (fun _ _ _ h => h) (by kernel_rfl) (Or.inr ⟨by rfl, rfl⟩) hS1 ?rest76
            try simp only [Act.put, List.setIfInBounds_toArray, List.set_cons_zero, List.set_cons_succ]
            refine wpAnyD_one (i := 14) (o := { dst := some 122, op := Go.Op.call { callee := Go.Callee.value (Go.Operand.func 7), args := #[Go.Operand.tmp 121], argTypes := #[34] }, type := 3, pos := "law.go:57", after := #[{ on := 13, ground := Go.Ground.data }, { on := 12, ground := Go.Ground.chain }, { on := 12, ground := Go.Ground.guard }], guard := some (12, true) }) (by kernel_rfl) rfl (fun K hK => ?_)
            rw [if_neg (Bool.eq_false_iff.1 (by kernel_rfl))]
            refine hK.out _ _ (fun hD => hS1) ?_
            clear hK K
            try simp only [Act.put, List.setIfInBounds_toArray, List.set_cons_zero, List.set_cons_succ]
            refine' wpAnyD_take (i := 17) (oi := { dst := some 125, op := Go.Op.binOp Go.BinOp.neq 3 (Go.Operand.tmp 122) (Go.Operand.tmp 124) 3, type := 4, pos := "law.go:57", after := #[{ on := 14, ground := Go.Ground.data }, { on := 16, ground := Go.Ground.data }, { on := 12, ground := Go.Ground.guard }], guard := some (12, true) }) (v := undef) rfl (by kernel_rfl) (by kernel_rfl) (by kernel_rfl) (fun _ _ _ h => h) (by kernel_rfl) (Or.inr ⟨by rfl, rfl⟩) hS1 ?rest78
            try simp only [Act.put, List.setIfInBounds_toArray, List.set_cons_zero, List.set_cons_succ]
            refine' wpAnyD_take (i := 18) (oi := { dst := some 126, op := Go.Op.pick (Go.Operand.tmp 120) (Go.Operand.tmp 125) (Go.Operand.const (Go.Value.bool false)), type := 4, pos := "law.go:57", after := #[{ on := 12, ground := Go.Ground.data }, { on := 17, ground := Go.Ground.data }, { on := 9, ground := Go.Ground.guard }], guard := some (9, false) }) (v := _) rfl (by kernel_rfl) (by kernel_rfl) (by kernel_rfl) (fun _ _ _ h => h) (by kernel_rfl) (Or.inl ⟨by rfl, ?hy79⟩) hS1 ?rest79
            case hy79 => (intro W hSw; go_simp; try (with_reducible rfl))
            try simp only [Act.put, List.setIfInBounds_toArray, List.set_cons_zero, List.set_cons_succ]
            refine' wpAnyD_take (i := 19) (oi := { dst := some 127, op := Go.Op.pick (Go.Operand.tmp 117) (Go.Operand.const (Go.Value.bool true)) (Go.Operand.tmp 126), type := 4, pos := "law.go:57", after := #[{ on := 9, ground := Go.Ground.data }, { on := 18, ground := Go.Ground.data }], guard := none }) (v := _) rfl (by kernel_rfl) (by kernel_rfl) (by kernel_rfl) (fun _ _ _ h => h) (by kernel_rfl) (Or.inl ⟨by rfl, ?hy80⟩) hS1 ?rest80
            case hy80 => (intro W hSw; go_simp; try (with_reducible rfl))
            try simp only [Act.put, List.setIfInBounds_toArray, List.set_cons_zero, List.set_cons_succ]
            refine wpAnyD_done (by kernel_rfl) ?_ _
            have HD9 := hid (HD8.out.below hS1)
            have HFG9 : Hid (Flw wc.heap.size _ (.iface Tf (.pointer (some ⟨bf, 0, none⟩))) x l ∧ True) := ⟨HFG.out.1.below hS1, trivial⟩
            clear HD8 HFG
            go_wp2_with fail
            go_loopw [14] (fun s14 Wr => ∃ j : Nat, j ≤ na ∧ s14 = .int .i64 (j : Nat) ∧ Hid (Dw w Wr x m p q n c n' c' nb mb ob g k1 (wro l n)) ∧ Hid (Flw wc.heap.size Wr (.iface Tf (.pointer (some ⟨bf, 0, none⟩))) x l ∧ True)) (fun s14 _ => na - (RowKit.intOf s14).toNat)
            case atStart => exact ⟨0, Nat.zero_le _, rfl, HD9, HFG9⟩
            case round =>
              clear HD9 HFG9
              obtain ⟨j, hj, rfl, HD9, HFG9⟩ := hrel
              by_cases hlt : j < na
              · have hltz : (j : Int) < (na : Int) := by omega
                have j0 : (0 : Int) ≤ (j : Int) := by omega
                obtain ⟨a, ha⟩ : ∃ a, as'[j]? = some a := ⟨as'[j]'(by have := HNA.out; omega), by simp⟩
                obtain ⟨b1, o1, q1, e1, zz1, hcell⟩ := (HA.out.below HD9.out.bl).get ha
                simp only [Value.slice.injEq] at e1
                obtain ⟨rfl, -, rfl⟩ := e1
                have HAC : Hid (∀ W, Below wr.heap.size wr W → W.cell? ⟨b1, o1 + j * 5, none⟩ = some (.int .u64 a.1.1.a) ∧ W.cell? ⟨b1, o1 + j * 5 + 1, none⟩ = some (.int .u64 a.1.1.b) ∧ W.cell? ⟨b1, o1 + j * 5 + 2, none⟩ = some (.int .u64 a.1.1.c) ∧ W.cell? ⟨b1, o1 + j * 5 + 3, none⟩ = some (.int .u64 a.1.2.key) ∧ W.cell? ⟨b1, o1 + j * 5 + 4, none⟩ = some (.int .u64 a.1.2.val) ∧ b1 < W.heap.size) := fun W hW =>
                  ⟨(hW.cell (p := ⟨b1, o1 + j * 5, none⟩) zz1).trans (hcell 0 _ (by decide) rfl), (hW.cell (p := ⟨b1, o1 + j * 5 + 1, none⟩) zz1).trans (hcell 1 _ (by decide) rfl), (hW.cell (p := ⟨b1, o1 + j * 5 + 2, none⟩) zz1).trans (hcell 2 _ (by decide) rfl), (hW.cell (p := ⟨b1, o1 + j * 5 + 3, none⟩) zz1).trans (hcell 3 _ (by decide) rfl), (hW.cell (p := ⟨b1, o1 + j * 5 + 4, none⟩) zz1).trans (hcell 4 _ (by decide) rfl), Nat.lt_of_lt_of_le zz1 hW.size⟩
                clear ha hcell zz1
                go_upto_region 23 with fail
                have hS0 : Below wr.heap.size wr wr.drew := (Gr.refl wr).drew.below
                refine wp_regionD (S := (fun W : World => Below wr.heap.size wr W)) (D := []) hmx ?_
                refine' wpAnyD_take (i := 0) (oi := { dst := some 134, op := Go.Op.move (Go.Operand.tmp 8), type := 34, pos := "law.go:61", after := #[], guard := none }) (v := _) rfl (by kernel_rfl) (by kernel_rfl) (by kernel_rfl) (fun _ _ _ h => h) (by kernel_rfl) (Or.inl ⟨by rfl, ?hy81⟩) hS0 ?rest81
                case hy81 => (intro W hSw; go_simp; try (with_reducible rfl))
                try simp only [Act.put, List.setIfInBounds_toArray, List.set_cons_zero, List.set_cons_succ]
                refine' wpAnyD_take (i := 1) (oi := { dst := some 135, op := Go.Op.binOp Go.BinOp.neq 34 (Go.Operand.tmp 134) (Go.Operand.const Go.Value.nilIface) 34, type := 4, pos := "law.go:61", after := #[{ on := 0, ground := Go.Ground.data }], guard := none }) (v := _) rfl (by kernel_rfl) (by kernel_rfl) (by kernel_rfl) (fun _ _ _ h => h) (by kernel_rfl) (Or.inl ⟨by rfl, ?hy82⟩) hS0 ?rest82
                case hy82 => (intro W hSw; go_simp; try (with_reducible rfl))
                try simp only [Act.put, List.setIfInBounds_toArray, List.set_cons_zero, List.set_cons_succ]
                refine' wpAnyD_take (i := 2) (oi := { dst := some 136, op := Go.Op.move (Go.Operand.tmp 135), type := 4, pos := "law.go:61", after := #[{ on := 1, ground := Go.Ground.data }], guard := none }) (v := _) rfl (by kernel_rfl) (by kernel_rfl) (by kernel_rfl) (fun _ _ _ h => h) (by kernel_rfl) (Or.inl ⟨by rfl, ?hy83⟩) hS0 ?rest83
                case hy83 => (intro W hSw; go_simp; try (with_reducible rfl))
                try simp only [Act.put, List.setIfInBounds_toArray, List.set_cons_zero, List.set_cons_succ]
                refine' wpAnyD_take (i := 3) (oi := { dst := some 137, op := Go.Op.move (Go.Operand.tmp 8), type := 34, pos := "law.go:61", after := #[{ on := 2, ground := Go.Ground.guard }], guard := some (2, true) }) (v := _) rfl (by kernel_rfl) (by kernel_rfl) (by kernel_rfl) (fun _ _ _ h => h) (by kernel_rfl) (Or.inl ⟨by rfl, ?hy84⟩) hS0 ?rest84
                case hy84 => (intro W hSw; go_simp; try (with_reducible rfl))
                try simp only [Act.put, List.setIfInBounds_toArray, List.set_cons_zero, List.set_cons_succ]
                refine' wpAnyD_take (i := 4) (oi := { dst := some 138, op := Go.Op.load 28 (Go.Operand.tmp 3), type := 28, pos := "law.go:61", after := #[{ on := 2, ground := Go.Ground.guard }], guard := some (2, true) }) (v := _) rfl (by kernel_rfl) (by kernel_rfl) (by kernel_rfl) (fun _ _ _ h => h) (by kernel_rfl) (Or.inl ⟨by rfl, ?hy85⟩) hS0 ?rest85
                case hy85 => (intro W hSw; obtain ⟨v1, e1, -⟩ := blk_at (HD9.out.below hSw).b1; go_simp; try (with_reducible rfl))
                try simp only [Act.put, List.setIfInBounds_toArray, List.set_cons_zero, List.set_cons_succ]
                refine' wpAnyD_take (i := 5) (oi := { dst := some 139, op := Go.Op.move (Go.Operand.tmp 2), type := 41, pos := "law.go:61", after := #[{ on := 2, ground := Go.Ground.guard }], guard := some (2, true) }) (v := _) rfl (by kernel_rfl) (by kernel_rfl) (by kernel_rfl) (fun _ _ _ h => h) (by kernel_rfl) (Or.inl ⟨by rfl, ?hy86⟩) hS0 ?rest86
                case hy86 => (intro W hSw; go_simp; try (with_reducible rfl))
                try simp only [Act.put, List.setIfInBounds_toArray, List.set_cons_zero, List.set_cons_succ]
                refine' wpAnyD_take (i := 6) (oi := { dst := some 140, op := Go.Op.move (Go.Operand.tmp 14), type := 3, pos := "law.go:61", after := #[{ on := 2, ground := Go.Ground.guard }], guard := some (2, true) }) (v := _) rfl (by kernel_rfl) (by kernel_rfl) (by kernel_rfl) (fun _ _ _ h => h) (by kernel_rfl) (Or.inl ⟨by rfl, ?hy87⟩) hS0 ?rest87
                case hy87 => (intro W hSw; go_simp; try (with_reducible rfl))
                try simp only [Act.put, List.setIfInBounds_toArray, List.set_cons_zero, List.set_cons_succ]
                refine' wpAnyD_take (i := 7) (oi := { dst := some 141, op := Go.Op.indexAddr 41 (Go.Operand.tmp 139) (Go.Operand.tmp 140), type := 0, pos := "law.go:61", after := #[{ on := 5, ground := Go.Ground.data }, { on := 6, ground := Go.Ground.data }, { on := 2, ground := Go.Ground.guard }], guard := some (2, true) }) (v := _) rfl (by kernel_rfl) (by kernel_rfl) (by kernel_rfl) (fun _ _ _ h => h) (by kernel_rfl) (Or.inl ⟨by rfl, ?hy88⟩) hS0 ?rest88
                case hy88 => (intro W hSw; go_simp; try (with_reducible rfl))
                try simp only [Act.put, List.setIfInBounds_toArray, List.set_cons_zero, List.set_cons_succ]
                refine' wpAnyD_take (i := 8) (oi := { dst := some 142, op := Go.Op.load 50 (Go.Operand.tmp 141), type := 50, pos := "law.go:61", after := #[{ on := 7, ground := Go.Ground.data }, { on := 2, ground := Go.Ground.guard }], guard := some (2, true) }) (v := _) rfl (by kernel_rfl) (by kernel_rfl) (by kernel_rfl) (fun _ _ _ h => h) (by kernel_rfl) (Or.inl ⟨by rfl, ?hy89⟩) hS0 ?rest89
                case hy89 => (intro W hSw; obtain ⟨v0, v1, v2, v3, v4, v5⟩ := HAC.out _ hSw; go_simp; try (with_reducible rfl))
                try simp only [Act.put, List.setIfInBounds_toArray, List.set_cons_zero, List.set_cons_succ]
                refine wpAnyD_one (i := 9) (o := { dst := some 143, op := Go.Op.call { callee := Go.Callee.value (Go.Operand.func 9), args := #[Go.Operand.tmp 137, Go.Operand.tmp 138, Go.Operand.tmp 142], argTypes := #[34, 28, 50] }, type := 4, pos := "law.go:61", after := #[{ on := 3, ground := Go.Ground.data }, { on := 4, ground := Go.Ground.data }, { on := 8, ground := Go.Ground.data }, { on := 2, ground := Go.Ground.chain }, { on := 2, ground := Go.Ground.guard }], guard := some (2, true) }) (by kernel_rfl) rfl (fun K hK => ?_)
                rw [if_pos (by kernel_rfl)]
                go_simp
                refine (does_any HOK.out.1 a.2.1 a.2.2 HOK.out.2.2.1 _ (HFG9.out.1.below hS0) (HV.out.below (HD9.out.below hS0).bl)).mono ?_
                rintro e u51 ⟨rfl, g51⟩
                have hS51 : Below wr.heap.size wr u51 := hS0.trans (g51.mono hS0.size)
                clear g51
                go_wp2_with fail
                refine hK.out _ _ (fun hD => hS51) ?_
                clear hK K
                try simp only [Act.put, List.setIfInBounds_toArray, List.set_cons_zero, List.set_cons_succ]
                refine' wpAnyD_take (i := 10) (oi := { dst := some 144, op := Go.Op.unOp Go.UnOp.not 4 (Go.Operand.tmp 143), type := 4, pos := "law.go:61", after := #[{ on := 9, ground := Go.Ground.data }, { on := 2, ground := Go.Ground.guard }], guard := some (2, true) }) (v := _) rfl (by kernel_rfl) (by kernel_rfl) (by kernel_rfl) (fun _ _ _ h => h) (by kernel_rfl) (Or.inl ⟨by rfl, ?hy91⟩) hS51 ?rest91
                case hy91 => (intro W hSw; go_simp; try (with_reducible rfl))
                try simp only [Act.put, List.setIfInBounds_toArray, List.set_cons_zero, List.set_cons_succ]
                refine' wpAnyD_take (i := 11) (oi := { dst := some 145, op := Go.Op.pick (Go.Operand.tmp 136) (Go.Operand.tmp 144) (Go.Operand.const (Go.Value.bool false)), type := 4, pos := "law.go:61", after := #[{ on := 2, ground := Go.Ground.data }, { on := 10, ground := Go.Ground.data }], guard := none }) (v := _) rfl (by kernel_rfl) (by kernel_rfl) (by kernel_rfl) (fun _ _ _ h => h) (by kernel_rfl) (Or.inl ⟨by rfl, ?hy92⟩) hS51 ?rest92
                case hy92 => (intro W hSw; go_simp; try (with_reducible rfl))
                try simp only [Act.put, List.setIfInBounds_toArray, List.set_cons_zero, List.set_cons_succ]
                refine' wpAnyD_take (i := 12) (oi := { dst := some 146, op := Go.Op.move (Go.Operand.tmp 145), type := 4, pos := "law.go:61", after := #[{ on := 11, ground := Go.Ground.data }, { on := 9, ground := Go.Ground.chain }], guard := none }) (v := _) rfl (by kernel_rfl) (by kernel_rfl) (by kernel_rfl) (fun _ _ _ h => h) (by kernel_rfl) (Or.inl ⟨by rfl, ?hy93⟩) hS51 ?rest93
                case hy93 => (intro W hSw; go_simp; try (with_reducible rfl))
                try simp only [Act.put, List.setIfInBounds_toArray, List.set_cons_zero, List.set_cons_succ]
                refine' wpAnyD_take (i := 13) (oi := { dst := some 147, op := Go.Op.move (Go.Operand.tmp 10), type := 34, pos := "law.go:61", after := #[{ on := 12, ground := Go.Ground.guard }], guard := some (12, false) }) (v := _) rfl (by kernel_rfl) (by kernel_rfl) (by kernel_rfl) (fun _ _ _ h => h) (by kernel_rfl) (Or.inl ⟨by rfl, ?hy94⟩) hS51 ?rest94
                case hy94 => (intro W hSw; go_simp; try (with_reducible rfl))
                try simp only [Act.put, List.setIfInBounds_toArray, List.set_cons_zero, List.set_cons_succ]
                refine' wpAnyD_take (i := 14) (oi := { dst := some 148, op := Go.Op.binOp Go.BinOp.neq 34 (Go.Operand.tmp 147) (Go.Operand.const Go.Value.nilIface) 34, type := 4, pos := "law.go:61", after := #[{ on := 13, ground := Go.Ground.data }, { on := 12, ground := Go.Ground.guard }], guard := some (12, false) }) (v := _) rfl (by kernel_rfl) (by kernel_rfl) (by kernel_rfl) (fun _ _ _ h => h) (by kernel_rfl) (Or.inl ⟨by rfl, ?hy95⟩) hS51 ?rest95
                case hy95 => (intro W hSw; go_simp; try (with_reducible rfl))
                try simp only [Act.put, List.setIfInBounds_toArray, List.set_cons_zero, List.set_cons_succ]
                refine' wpAnyD_take (i := 15) (oi := { dst := some 149, op := Go.Op.move (Go.Operand.tmp 148), type := 4, pos := "law.go:61", after := #[{ on := 14, ground := Go.Ground.data }, { on := 12, ground := Go.Ground.chain }, { on := 12, ground := Go.Ground.guard }], guard := some (12, false) }) (v := _) rfl (by kernel_rfl) (by kernel_rfl) (by kernel_rfl) (fun _ _ _ h => h) (by kernel_rfl) (Or.inl ⟨by rfl, ?hy96⟩) hS51 ?rest96
                case hy96 => (intro W hSw; go_simp; try (with_reducible rfl))
                try simp only [Act.put, List.setIfInBounds_toArray, List.set_cons_zero, List.set_cons_succ]
                refine' wpAnyD_take (i := 16) (oi := { dst := some 150, op := Go.Op.move (Go.Operand.tmp 10), type := 34, pos := "law.go:61", after := #[{ on := 15, ground := Go.Ground.guard }], guard := some (15, true) }) (v := undef) rfl (by kernel_rfl) (by kernel_rfl) (by kernel_rfl) (fun _ _ _ h => h) (by kernel_rfl) (Or.inr ⟨by rfl, rfl⟩) hS51 ?rest97
                try simp only [Act.put, List.setIfInBounds_toArray, List.set_cons_zero, List.set_cons_succ]
                refine' wpAnyD_take (i := 17) (oi := { dst := some 151, op := Go.Op.load 28 (Go.Operand.tmp 4), type := 28, pos := "law.go:61", after := #[{ on := 15, ground := Go.Ground.guard }], guard := some (15, true) }) (v := undef) rfl (by kernel_rfl) (by kernel_rfl) (by kernel_rfl) (fun _ _ _ h => h) (by kernel_rfl) (Or.inr ⟨by rfl, rfl⟩) hS51 ?rest98
                try simp only [Act.put, List.setIfInBounds_toArray, List.set_cons_zero, List.set_cons_succ]
                refine' wpAnyD_take (i := 18) (oi := { dst := some 152, op := Go.Op.move (Go.Operand.tmp 2), type := 41, pos := "law.go:61", after := #[{ on := 15, ground := Go.Ground.guard }], guard := some (15, true) }) (v := undef) rfl (by kernel_rfl) (by kernel_rfl) (by kernel_rfl) (fun _ _ _ h => h) (by kernel_rfl) (Or.inr ⟨by rfl, rfl⟩) hS51 ?rest99
                try simp only [Act.put, List.setIfInBounds_toArray, List.set_cons_zero, List.set_cons_succ]
                refine' wpAnyD_take (i := 19) (oi := { dst := some 153, op := Go.Op.move (Go.Operand.tmp 14), type := 3, pos := "law.go:61", after := #[{ on := 15, ground := Go.Ground.guard }], guard := some (15, true) }) (v := undef) rfl (by kernel_rfl) (by kernel_rfl) (by kernel_rfl) (fun _ _ _ h => h) (by kernel_rfl) (Or.inr ⟨by rfl, rfl⟩) hS51 ?rest100
                try simp only [Act.put, List.setIfInBounds_toArray, List.set_cons_zero, List.set_cons_succ]
                refine' wpAnyD_take (i := 20) (oi := { dst := some 154, op := Go.Op.indexAddr 41 (Go.Operand.tmp 152) (Go.Operand.tmp 153), type := 0, pos := "law.go:61", after := #[{ on := 18, ground := Go.Ground.data }, { on := 19, ground := Go.Ground.data }, { on := 15, ground := Go.Ground.guard }], guard := some (15, true) }) (v := undef) rfl (by kernel_rfl) (by kernel_rfl) (by kernel_rfl) (fun _ _ _ h => h) (by kernel_rfl) (Or.inr ⟨by rfl, rfl⟩) hS51 ?rest101
                try simp only [Act.put, List.setIfInBounds_toArray, List.set_cons_zero, List.set_cons_succ]
                refine' wpAnyD_take (i := 21) (oi := { dst := some 155, op := Go.Op.load 50 (Go.Operand.tmp 154), type := 50, pos := "law.go:61", after := #[{ on := 20, ground := Go.Ground.data }, { on := 15, ground := Go.Ground.guard }], guard := some (15, true) }) (v := undef) rfl (by kernel_rfl) (by kernel_rfl) (by kernel_rfl) (fun _ _ _ h => h) (by kernel_rfl) (Or.inr ⟨by rfl, rfl⟩) hS51 ?rest102
                try simp only [Act.put, List.setIfInBounds_toArray, List.set_cons_zero, List.set_cons_succ]
                refine wpAnyD_one (i := 22) (o := { dst := some 156, op := Go.Op.call { callee := Go.Callee.value (Go.Operand.func 9), args := #[Go.Operand.tmp 150, Go.Operand.tmp 151, Go.Operand.tmp 155], argTypes := #[34, 28, 50] }, type := 4, pos := "law.go:61", after := #[{ on := 16, ground := Go.Ground.data }, { on := 17, ground := Go.Ground.data }, { on := 21, ground := Go.Ground.data }, { on := 15, ground := Go.Ground.chain }, { on := 15, ground := Go.Ground.guard }], guard := some (15, true) }) (by kernel_rfl) rfl (fun K hK => ?_)
                rw [if_neg (Bool.eq_false_iff.1 (by kernel_rfl))]
                refine hK.out _ _ (fun hD => hS51) ?_
                clear hK K
                try simp only [Act.put, List.setIfInBounds_toArray, List.set_cons_zero, List.set_cons_succ]
                refine' wpAnyD_take (i := 23) (oi := { dst := some 157, op := Go.Op.unOp Go.UnOp.not 4 (Go.Operand.tmp 156), type := 4, pos := "law.go:61", after := #[{ on := 22, ground := Go.Ground.data }, { on := 15, ground := Go.Ground.guard }], guard := some (15, true) }) (v := undef) rfl (by kernel_rfl) (by kernel_rfl) (by kernel_rfl) (fun _ _ _ h => h) (by kernel_rfl) (Or.inr ⟨by rfl, rfl⟩) hS51 ?rest104
                try simp only [Act.put, List.setIfInBounds_toArray, List.set_cons_zero, List.set_cons_succ]
                refine' wpAnyD_take (i := 24) (oi := { dst := some 158, op := Go.Op.pick (Go.Operand.tmp 149) (Go.Operand.tmp 157) (Go.Operand.const (Go.Value.bool false)), type := 4, pos := "law.go:61", after := #[{ on := 15, ground := Go.Ground.data }, { on := 23, ground := Go.Ground.data }, { on := 12, ground := Go.Ground.guard }], guard := some (12, false) }) (v := _) rfl (by kernel_rfl) (by kernel_rfl) (by kernel_rfl) (fun _ _ _ h => h) (by kernel_rfl) (Or.inl ⟨by rfl, ?hy105⟩) hS51 ?rest105
                case hy105 => (intro W hSw; go_simp; try (with_reducible rfl))
                try simp only [Act.put, List.setIfInBounds_toArray, List.set_cons_zero, List.set_cons_succ]
                refine' wpAnyD_take (i := 25) (oi := { dst := some 159, op := Go.Op.pick (Go.Operand.tmp 146) (Go.Operand.const (Go.Value.bool true)) (Go.Operand.tmp 158), type := 4, pos := "law.go:61", after := #[{ on := 12, ground := Go.Ground.data }, { on := 24, ground := Go.Ground.data }], guard := none }) (v := _) rfl (by kernel_rfl) (by kernel_rfl) (by kernel_rfl) (fun _ _ _ h => h) (by kernel_rfl) (Or.inl ⟨by rfl, ?hy106⟩) hS51 ?rest106
                case hy106 => (intro W hSw; go_simp; try (with_reducible rfl))
                try simp only [Act.put, List.setIfInBounds_toArray, List.set_cons_zero, List.set_cons_succ]
                refine' wpAnyD_take (i := 26) (oi := { dst := some 160, op := Go.Op.move (Go.Operand.tmp 159), type := 4, pos := "law.go:61", after := #[{ on := 25, ground := Go.Ground.data }, { on := 22, ground := Go.Ground.chain }], guard := none }) (v := _) rfl (by kernel_rfl) (by kernel_rfl) (by kernel_rfl) (fun _ _ _ h => h) (by kernel_rfl) (Or.inl ⟨by rfl, ?hy107⟩) hS51 ?rest107
                case hy107 => (intro W hSw; go_simp; try (with_reducible rfl))
                try simp only [Act.put, List.setIfInBounds_toArray, List.set_cons_zero, List.set_cons_succ]
                refine' wpAnyD_take (i := 27) (oi := { dst := some 161, op := Go.Op.move (Go.Operand.tmp 8), type := 34, pos := "law.go:61", after := #[{ on := 26, ground := Go.Ground.guard }], guard := some (26, false) }) (v := _) rfl (by kernel_rfl) (by kernel_rfl) (by kernel_rfl) (fun _ _ _ h => h) (by kernel_rfl) (Or.inl ⟨by rfl, ?hy108⟩) hS51 ?rest108
                case hy108 => (intro W hSw; go_simp; try (with_reducible rfl))
                try simp only [Act.put, List.setIfInBounds_toArray, List.set_cons_zero, List.set_cons_succ]
                refine' wpAnyD_take (i := 28) (oi := { dst := some 162, op := Go.Op.binOp Go.BinOp.neq 34 (Go.Operand.tmp 161) (Go.Operand.const Go.Value.nilIface) 34, type := 4, pos := "law.go:61", after := #[{ on := 27, ground := Go.Ground.data }, { on := 26, ground := Go.Ground.guard }], guard := some (26, false) }) (v := _) rfl (by kernel_rfl) (by kernel_rfl) (by kernel_rfl) (fun _ _ _ h => h) (by kernel_rfl) (Or.inl ⟨by rfl, ?hy109⟩) hS51 ?rest109
                case hy109 => (intro W hSw; go_simp; try (with_reducible rfl))
                try simp only [Act.put, List.setIfInBounds_toArray, List.set_cons_zero, List.set_cons_succ]
                refine' wpAnyD_take (i := 29) (oi := { dst := some 163, op := Go.Op.move (Go.Operand.tmp 162), type := 4, pos := "law.go:61", after := #[{ on := 28, ground := Go.Ground.data }, { on := 26, ground := Go.Ground.chain }, { on := 26, ground := Go.Ground.guard }], guard := some (26, false) }) (v := _) rfl (by kernel_rfl) (by kernel_rfl) (by kernel_rfl) (fun _ _ _ h => h) (by kernel_rfl) (Or.inl ⟨by rfl, ?hy110⟩) hS51 ?rest110
                case hy110 => (intro W hSw; go_simp; try (with_reducible rfl))
                try simp only [Act.put, List.setIfInBounds_toArray, List.set_cons_zero, List.set_cons_succ]
                refine' wpAnyD_take (i := 30) (oi := { dst := some 164, op := Go.Op.move (Go.Operand.tmp 8), type := 34, pos := "law.go:61", after := #[{ on := 29, ground := Go.Ground.guard }], guard := some (29, true) }) (v := _) rfl (by kernel_rfl) (by kernel_rfl) (by kernel_rfl) (fun _ _ _ h => h) (by kernel_rfl) (Or.inl ⟨by rfl, ?hy111⟩) hS51 ?rest111
                case hy111 => (intro W hSw; go_simp; try (with_reducible rfl))
                try simp only [Act.put, List.setIfInBounds_toArray, List.set_cons_zero, List.set_cons_succ]
                refine' wpAnyD_take (i := 31) (oi := { dst := some 165, op := Go.Op.load 28 (Go.Operand.tmp 3), type := 28, pos := "law.go:61", after := #[{ on := 29, ground := Go.Ground.guard }], guard := some (29, true) }) (v := _) rfl (by kernel_rfl) (by kernel_rfl) (by kernel_rfl) (fun _ _ _ h => h) (by kernel_rfl) (Or.inl ⟨by rfl, ?hy112⟩) hS51 ?rest112
                case hy112 => (intro W hSw; obtain ⟨v1, e1, -⟩ := blk_at (HD9.out.below hSw).b1; go_simp; try (with_reducible rfl))
                try simp only [Act.put, List.setIfInBounds_toArray, List.set_cons_zero, List.set_cons_succ]
                refine' wpAnyD_take (i := 32) (oi := { dst := some 166, op := Go.Op.move (Go.Operand.tmp 2), type := 41, pos := "law.go:61", after := #[{ on := 29, ground := Go.Ground.guard }], guard := some (29, true) }) (v := _) rfl (by kernel_rfl) (by kernel_rfl) (by kernel_rfl) (fun _ _ _ h => h) (by kernel_rfl) (Or.inl ⟨by rfl, ?hy113⟩) hS51 ?rest113
                case hy113 => (intro W hSw; go_simp; try (with_reducible rfl))
                try simp only [Act.put, List.setIfInBounds_toArray, List.set_cons_zero, List.set_cons_succ]
                refine' wpAnyD_take (i := 33) (oi := { dst := some 167, op := Go.Op.move (Go.Operand.tmp 14), type := 3, pos := "law.go:61", after := #[{ on := 29, ground := Go.Ground.guard }], guard := some (29, true) }) (v := _) rfl (by kernel_rfl) (by kernel_rfl) (by kernel_rfl) (fun _ _ _ h => h) (by kernel_rfl) (Or.inl ⟨by rfl, ?hy114⟩) hS51 ?rest114
                case hy114 => (intro W hSw; go_simp; try (with_reducible rfl))
                try simp only [Act.put, List.setIfInBounds_toArray, List.set_cons_zero, List.set_cons_succ]
                refine' wpAnyD_take (i := 34) (oi := { dst := some 168, op := Go.Op.indexAddr 41 (Go.Operand.tmp 166) (Go.Operand.tmp 167), type := 0, pos := "law.go:61", after := #[{ on := 32, ground := Go.Ground.data }, { on := 33, ground := Go.Ground.data }, { on := 29, ground := Go.Ground.guard }], guard := some (29, true) }) (v := _) rfl (by kernel_rfl) (by kernel_rfl) (by kernel_rfl) (fun _ _ _ h => h) (by kernel_rfl) (Or.inl ⟨by rfl, ?hy115⟩) hS51 ?rest115
                case hy115 => (intro W hSw; go_simp; try (with_reducible rfl))
                try simp only [Act.put, List.setIfInBounds_toArray, List.set_cons_zero, List.set_cons_succ]
                refine' wpAnyD_take (i := 35) (oi := { dst := some 169, op := Go.Op.load 50 (Go.Operand.tmp 168), type := 50, pos := "law.go:61", after := #[{ on := 34, ground := Go.Ground.data }, { on := 29, ground := Go.Ground.guard }], guard := some (29, true) }) (v := _) rfl (by kernel_rfl) (by kernel_rfl) (by kernel_rfl) (fun _ _ _ h => h) (by kernel_rfl) (Or.inl ⟨by rfl, ?hy116⟩) hS51 ?rest116
                case hy116 => (intro W hSw; obtain ⟨v0, v1, v2, v3, v4, v5⟩ := HAC.out _ hSw; go_simp; try (with_reducible rfl))
                try simp only [Act.put, List.setIfInBounds_toArray, List.set_cons_zero, List.set_cons_succ]
                refine wpAnyD_one (i := 36) (o := { dst := some 170, op := Go.Op.call { callee := Go.Callee.value (Go.Operand.func 9), args := #[Go.Operand.tmp 164, Go.Operand.tmp 165, Go.Operand.tmp 169], argTypes := #[34, 28, 50] }, type := 4, pos := "law.go:61", after := #[{ on := 30, ground := Go.Ground.data }, { on := 31, ground := Go.Ground.data }, { on := 35, ground := Go.Ground.data }, { on := 29, ground := Go.Ground.chain }, { on := 29, ground := Go.Ground.guard }], guard := some (29, true) }) (by kernel_rfl) rfl (fun K hK => ?_)
                rw [if_pos (by kernel_rfl)]
                go_simp
                refine (does_any HOK.out.1 a.2.1 a.2.2 HOK.out.2.2.1 _ (HFG9.out.1.below hS51) (HV.out.below (HD9.out.below hS51).bl)).mono ?_
                rintro e u52 ⟨rfl, g52⟩
                have hS52 : Below wr.heap.size wr u52 := hS51.trans (g52.mono hS51.size)
                clear g52
                go_wp2_with fail
                refine hK.out _ _ (fun hD => hS52) ?_
                clear hK K
                try simp only [Act.put, List.setIfInBounds_toArray, List.set_cons_zero, List.set_cons_succ]
                refine' wpAnyD_take (i := 37) (oi := { dst := some 171, op := Go.Op.unOp Go.UnOp.not 4 (Go.Operand.tmp 170), type := 4, pos := "law.go:61", after := #[{ on := 36, ground := Go.Ground.data }, { on := 29, ground := Go.Ground.guard }], guard := some (29, true) }) (v := _) rfl (by kernel_rfl) (by kernel_rfl) (by kernel_rfl) (fun _ _ _ h => h) (by kernel_rfl) (Or.inl ⟨by rfl, ?hy118⟩) hS52 ?rest118
                case hy118 => (intro W hSw; go_simp; try (with_reducible rfl))
                try simp only [Act.put, List.setIfInBounds_toArray, List.set_cons_zero, List.set_cons_succ]
                refine' wpAnyD_take (i := 38) (oi := { dst := some 172, op := Go.Op.pick (Go.Operand.tmp 163) (Go.Operand.tmp 171) (Go.Operand.const (Go.Value.bool false)), type := 4, pos := "law.go:61", after := #[{ on := 29, ground := Go.Ground.data }, { on := 37, ground := Go.Ground.data }, { on := 26, ground := Go.Ground.guard }], guard := some (26, false) }) (v := _) rfl (by kernel_rfl) (by kernel_rfl) (by kernel_rfl) (fun _ _ _ h => h) (by kernel_rfl) (Or.inl ⟨by rfl, ?hy119⟩) hS52 ?rest119
                case hy119 => (intro W hSw; go_simp; try (with_reducible rfl))
                try simp only [Act.put, List.setIfInBounds_toArray, List.set_cons_zero, List.set_cons_succ]
                refine' wpAnyD_take (i := 39) (oi := { dst := some 173, op := Go.Op.pick (Go.Operand.tmp 160) (Go.Operand.const (Go.Value.bool true)) (Go.Operand.tmp 172), type := 4, pos := "law.go:61", after := #[{ on := 26, ground := Go.Ground.data }, { on := 38, ground := Go.Ground.data }], guard := none }) (v := _) rfl (by kernel_rfl) (by kernel_rfl) (by kernel_rfl) (fun _ _ _ h => h) (by kernel_rfl) (Or.inl ⟨by rfl, ?hy120⟩) hS52 ?rest120
                case hy120 => (intro W hSw; go_simp; try (with_reducible rfl))
                try simp only [Act.put, List.setIfInBounds_toArray, List.set_cons_zero, List.set_cons_succ]
                refine wpAnyD_done (by kernel_rfl) ?_ _
                go_wp2_with fail
                exact ⟨⟨j + 1, by omega, by go_num, HD9.out.below hS52, ⟨HFG9.out.1.below hS52, trivial⟩⟩, by simp [RowKit.intOf]; omega⟩
              · have hltz : ¬ (j : Int) < (na : Int) := by omega
                go_wp2_with fail
                go_ret
                exact ⟨rfl, HD9.out.bl⟩
    · obtain ⟨e1, rfl⟩ := hf
      have f1 : (q1 == 0) = false := by rw [HQ1.out]; simpa using e1
      have f2 : (q1 != 0) = true := by rw [bne, f1]; rfl
      clear e1
      rcases HQ8.out with hg | hg
      · obtain ⟨e2, HGG⟩ := hg
        obtain ⟨Tg, bg, rfl⟩ := HOKG.out HGG
        have HGl := hid HGG
        clear HGG
        have hq2 : q2 = 0 := HQ2.out.trans e2
        subst hq2
        clear e2 HF8 HQ8 HQ1 HQ2 HOKF HOKG
        have s0 : (0 : Int) ≤ (n : Int) + 1 := by omega
        have s1 : (n : Int) + 1 ≤ (k1 : Int) := by omega
        have HFG : Hid (True ∧ Flw wc.heap.size w8 (.iface Tg (.pointer (some ⟨bg, 0, none⟩))) m l') := ⟨trivial, HGl.out⟩
        clear HGl
        go_wp2_with fail
        clear s0 s1 z1 d1 z3 d3
        go_loopw [13] (fun s13 Wr => ∃ i : Nat, i ≤ n ∧ s13 = .int .i64 (i : Nat) ∧ Hid (Dw w Wr x m p q n c n' c' nb mb ob g k1 (wro l i)) ∧ Hid (True ∧ Flw wc.heap.size Wr (.iface Tg (.pointer (some ⟨bg, 0, none⟩))) m l')) (fun s13 _ => n - (RowKit.intOf s13).toNat)
        case atStart => exact ⟨0, Nat.zero_le _, rfl, by rw [wro_zero]; exact HD8, HFG⟩
        case round =>
          clear HD8 HFG
          obtain ⟨i, hi, rfl, HD8, HFG⟩ := hrel
          obtain ⟨z1, d1, -⟩ := blk_at HD8.out.b1
          obtain ⟨z3, d3, -⟩ := blk_at HD8.out.b3
          by_cases hlt : i < n
          · have hltz : (i : Int) < (n : Int) := by omega
            have hll : i < l.length := by rw [← HNL.out]; exact hlt
            obtain ⟨o, ho⟩ : ∃ o, l[i]? = some o := ⟨l[i], by simp⟩
            have ho2 : (wro l i ++ [mO])[i]? = some o := by rw [List.getElem?_append_left (by rw [wro_len (Nat.le_of_lt hll)]; exact hll), wro_get hll]; exact ho
            obtain ⟨zg, y0, y1⟩ := HD8.out.mkd.at ho2
            have fz := HD8.out.mkd.free
            obtain ⟨b1, o1, c1, e1, zz1, x0, x1⟩ := ls_at (HV.out.below HD8.out.bl) ho
            simp only [Value.slice.injEq] at e1
            obtain ⟨rfl, -, rfl⟩ := e1
            have i0 : (0 : Int) ≤ (i : Int) := by omega
            have HLL := hid hll
            have HO := hid ho
            clear ho ho2 hll
            go_upto_region 13 with fail
            go_quiet (fail)
            have HDq := hid (HD8.out.below ((Gr.refl _).drewN nq).below)
            have HFq : Hid (True ∧ Flw wc.heap.size (wr.drewN nq) (.iface Tg (.pointer (some ⟨bg, 0, none⟩))) m l') := ⟨trivial, HFG.out.2.below ((Gr.refl _).drewN nq).below⟩
            obtain ⟨Wq, hWq⟩ : ∃ Wq, Wq = wr.drewN nq := ⟨_, rfl⟩
            rw [← hWq] at HDq HFq ⊢
            clear hWq HD8 HFG z1 d1 z3 d3 zg y0 y1 fz x0 x1 zz1
            have hmk := HDq.out.mkd
            obtain ⟨zg, y0, y1⟩ := hmk.at (j := i) (o := o) (by rw [List.getElem?_append_left (by rw [wro_len (Nat.le_of_lt HLL.out)]; exact HLL.out), wro_get HLL.out]; exact HO.out)
            have fz := hmk.free
            obtain ⟨z1, d1, -⟩ := blk_at HDq.out.b1
            obtain ⟨z3, d3, -⟩ := blk_at HDq.out.b3
            clear hmk
            go_wp2_with fail
            have hput := HDq.out.put (j := i) (by rw [wro_len (Nat.le_of_lt HLL.out)]; exact HLL.out) m9
            rw [wro_set HLL.out] at hput
            have hkp := (HDq.out.mkd.put (j := i) (by rw [wro_len (Nat.le_of_lt HLL.out)]; exact HLL.out) m9).2
            refine ⟨⟨i + 1, by omega, by go_num, hput, ?_⟩, by simp [RowKit.intOf]; omega⟩
            exact ⟨trivial, HFq.out.2.kp hkp (fun j h1 _ e => by have := HGL.out.1; omega)⟩
          · have hltz : ¬ (i : Int) < (n : Int) := by omega
            have hin : n = i := by omega
            subst hin
            obtain ⟨zg, y0, y1⟩ := HD8.out.mkd.at (j := n) (o := mO) (by rw [List.getElem?_append_right (by rw [wro_len (by rw [← HNL.out]; exact Nat.le_refl _), ← HNL.out]; exact Nat.le_refl _), wro_len (by rw [← HNL.out]; exact Nat.le_refl _), ← HNL.out, Nat.sub_self]; rfl)
            have i0 : (0 : Int) ≤ (n : Int) := by omega
            have i1 : (n : Int) < (n : Int) + 1 := by omega
            go_upto_region 18 with fail
            clear z1 d1 z3 d3 zg y0 y1 i0 i1 hltz
            have hS0 : Below wr.heap.size wr wr.drew := (Gr.refl wr).drew.below
            refine wp_regionD (S := (fun W : World => Below wr.heap.size wr W)) (D := []) hmx ?_
            refine' wpAnyD_take (i := 0) (oi := { dst := some 108, op := Go.Op.move (Go.Operand.tmp 8), type := 34, pos := "law.go:57", after := #[], guard := none }) (v := _) rfl (by kernel_rfl) (by kernel_rfl) (by kernel_rfl) (fun _ _ _ h => h) (by kernel_rfl) (Or.inl ⟨by rfl, ?hy121⟩) hS0 ?rest121
            case hy121 => (intro W hSw; go_simp; try (with_reducible rfl))
            try simp only [Act.put, List.setIfInBounds_toArray, List.set_cons_zero, List.set_cons_succ]
            refine' wpAnyD_take (i := 1) (oi := { dst := some 109, op := Go.Op.binOp Go.BinOp.neq 34 (Go.Operand.tmp 108) (Go.Operand.const Go.Value.nilIface) 34, type := 4, pos := "law.go:57", after := #[{ on := 0, ground := Go.Ground.data }], guard := none }) (v := _) rfl (by kernel_rfl) (by kernel_rfl) (by kernel_rfl) (fun _ _ _ h => h) (by kernel_rfl) (Or.inl ⟨by rfl, ?hy122⟩) hS0 ?rest122
            case hy122 => (intro W hSw; go_simp; try (with_reducible rfl))
            try simp only [Act.put, List.setIfInBounds_toArray, List.set_cons_zero, List.set_cons_succ]
            refine' wpAnyD_take (i := 2) (oi := { dst := some 110, op := Go.Op.move (Go.Operand.tmp 109), type := 4, pos := "law.go:57", after := #[{ on := 1, ground := Go.Ground.data }], guard := none }) (v := _) rfl (by kernel_rfl) (by kernel_rfl) (by kernel_rfl) (fun _ _ _ h => h) (by kernel_rfl) (Or.inl ⟨by rfl, ?hy123⟩) hS0 ?rest123
            case hy123 => (intro W hSw; go_simp; try (with_reducible rfl))
            try simp only [Act.put, List.setIfInBounds_toArray, List.set_cons_zero, List.set_cons_succ]
            refine' wpAnyD_take (i := 3) (oi := { dst := some 111, op := Go.Op.move (Go.Operand.tmp 8), type := 34, pos := "law.go:57", after := #[{ on := 2, ground := Go.Ground.guard }], guard := some (2, true) }) (v := undef) rfl (by kernel_rfl) (by kernel_rfl) (by kernel_rfl) (fun _ _ _ h => h) (by kernel_rfl) (Or.inr ⟨by rfl, rfl⟩) hS0 ?rest124
            try simp only [Act.put, List.setIfInBounds_toArray, List.set_cons_zero, List.set_cons_succ]
            refine' wpAnyD_take (i := 5) (oi := { dst := some 113, op := Go.Op.fieldAddr 28 (Go.Operand.tmp 3) 0, type := 0, pos := "law.go:57", after := #[{ on := 2, ground := Go.Ground.guard }], guard := some (2, true) }) (v := undef) rfl (by kernel_rfl) (by kernel_rfl) (by kernel_rfl) (fun _ _ _ h => h) (by kernel_rfl) (Or.inr ⟨by rfl, rfl⟩) hS0 ?rest125
            try simp only [Act.put, List.setIfInBounds_toArray, List.set_cons_zero, List.set_cons_succ]
            refine' wpAnyD_take (i := 6) (oi := { dst := some 114, op := Go.Op.load 3 (Go.Operand.tmp 113), type := 3, pos := "law.go:57", after := #[{ on := 5, ground := Go.Ground.data }, { on := 2, ground := Go.Ground.guard }], guard := some (2, true) }) (v := undef) rfl (by kernel_rfl) (by kernel_rfl) (by kernel_rfl) (fun _ _ _ h => h) (by kernel_rfl) (Or.inr ⟨by rfl, rfl⟩) hS0 ?rest126
            try simp only [Act.put, List.setIfInBounds_toArray, List.set_cons_zero, List.set_cons_succ]
            refine wpAnyD_one (i := 4) (o := { dst := some 112, op := Go.Op.call { callee := Go.Callee.value (Go.Operand.func 7), args := #[Go.Operand.tmp 111], argTypes := #[34] }, type := 3, pos := "law.go:57", after := #[{ on := 3, ground := Go.Ground.data }, { on := 2, ground := Go.Ground.chain }, { on := 2, ground := Go.Ground.guard }], guard := some (2, true) }) (by kernel_rfl) rfl (fun K hK => ?_)
            rw [if_neg (Bool.eq_false_iff.1 (by kernel_rfl))]
            refine hK.out _ _ (fun hD => hS0) ?_
            clear hK K
            try simp only [Act.put, List.setIfInBounds_toArray, List.set_cons_zero, List.set_cons_succ]
            refine' wpAnyD_take (i := 7) (oi := { dst := some 115, op := Go.Op.binOp Go.BinOp.neq 3 (Go.Operand.tmp 112) (Go.Operand.tmp 114) 3, type := 4, pos := "law.go:57", after := #[{ on := 4, ground := Go.Ground.data }, { on := 6, ground := Go.Ground.data }, { on := 2, ground := Go.Ground.guard }], guard := some (2, true) }) (v := undef) rfl (by kernel_rfl) (by kernel_rfl) (by kernel_rfl) (fun _ _ _ h => h) (by kernel_rfl) (Or.inr ⟨by rfl, rfl⟩) hS0 ?rest128
            try simp only [Act.put, List.setIfInBounds_toArray, List.set_cons_zero, List.set_cons_succ]
            refine' wpAnyD_take (i := 8) (oi := { dst := some 116, op := Go.Op.pick (Go.Operand.tmp 110) (Go.Operand.tmp 115) (Go.Operand.const (Go.Value.bool false)), type := 4, pos := "law.go:57", after := #[{ on := 2, ground := Go.Ground.data }, { on := 7, ground := Go.Ground.data }], guard := none }) (v := _) rfl (by kernel_rfl) (by kernel_rfl) (by kernel_rfl) (fun _ _ _ h => h) (by kernel_rfl) (Or.inl ⟨by rfl, ?hy129⟩) hS0 ?rest129
            case hy129 => (intro W hSw; go_simp; try (with_reducible rfl))
            try simp only [Act.put, List.setIfInBounds_toArray, List.set_cons_zero, List.set_cons_succ]
            refine' wpAnyD_take (i := 9) (oi := { dst := some 117, op := Go.Op.move (Go.Operand.tmp 116), type := 4, pos := "law.go:57", after := #[{ on := 8, ground := Go.Ground.data }, { on := 4, ground := Go.Ground.chain }], guard := none }) (v := _) rfl (by kernel_rfl) (by kernel_rfl) (by kernel_rfl) (fun _ _ _ h => h) (by kernel_rfl) (Or.inl ⟨by rfl, ?hy130⟩) hS0 ?rest130
            case hy130 => (intro W hSw; go_simp; try (with_reducible rfl))
            try simp only [Act.put, List.setIfInBounds_toArray, List.set_cons_zero, List.set_cons_succ]
            refine' wpAnyD_take (i := 10) (oi := { dst := some 118, op := Go.Op.move (Go.Operand.tmp 10), type := 34, pos := "law.go:57", after := #[{ on := 9, ground := Go.Ground.guard }], guard := some (9, false) }) (v := _) rfl (by kernel_rfl) (by kernel_rfl) (by kernel_rfl) (fun _ _ _ h => h) (by kernel_rfl) (Or.inl ⟨by rfl, ?hy131⟩) hS0 ?rest131
            case hy131 => (intro W hSw; go_simp; try (with_reducible rfl))
            try simp only [Act.put, List.setIfInBounds_toArray, List.set_cons_zero, List.set_cons_succ]
            refine' wpAnyD_take (i := 11) (oi := { dst := some 119, op := Go.Op.binOp Go.BinOp.neq 34 (Go.Operand.tmp 118) (Go.Operand.const Go.Value.nilIface) 34, type := 4, pos := "law.go:57", after := #[{ on := 10, ground := Go.Ground.data }, { on := 9, ground := Go.Ground.guard }], guard := some (9, false) }) (v := _) rfl (by kernel_rfl) (by kernel_rfl) (by kernel_rfl) (fun _ _ _ h => h) (by kernel_rfl) (Or.inl ⟨by rfl, ?hy132⟩) hS0 ?rest132
            case hy132 => (intro W hSw; go_simp; try (with_reducible rfl))
            try simp only [Act.put, List.setIfInBounds_toArray, List.set_cons_zero, List.set_cons_succ]
            refine' wpAnyD_take (i := 12) (oi := { dst := some 120, op := Go.Op.move (Go.Operand.tmp 119), type := 4, pos := "law.go:57", after := #[{ on := 11, ground := Go.Ground.data }, { on := 9, ground := Go.Ground.chain }, { on := 9, ground := Go.Ground.guard }], guard := some (9, false) }) (v := _) rfl (by kernel_rfl) (by kernel_rfl) (by kernel_rfl) (fun _ _ _ h => h) (by kernel_rfl) (Or.inl ⟨by rfl, ?hy133⟩) hS0 ?rest133
            case hy133 => (intro W hSw; go_simp; try (with_reducible rfl))
            try simp only [Act.put, List.setIfInBounds_toArray, List.set_cons_zero, List.set_cons_succ]
            refine' wpAnyD_take (i := 13) (oi := { dst := some 121, op := Go.Op.move (Go.Operand.tmp 10), type := 34, pos := "law.go:57", after := #[{ on := 12, ground := Go.Ground.guard }], guard := some (12, true) }) (v := _) rfl (by kernel_rfl) (by kernel_rfl) (by kernel_rfl) (fun _ _ _ h => h) (by kernel_rfl) (Or.inl ⟨by rfl, ?hy134⟩) hS0 ?rest134
            case hy134 => (intro W hSw; go_simp; try (with_reducible rfl))
            try simp only [Act.put, List.setIfInBounds_toArray, List.set_cons_zero, List.set_cons_succ]
            refine' wpAnyD_take (i := 15) (oi := { dst := some 123, op := Go.Op.fieldAddr 28 (Go.Operand.tmp 4) 0, type := 0, pos := "law.go:57", after := #[{ on := 12, ground := Go.Ground.guard }], guard := some (12, true) }) (v := _) rfl (by kernel_rfl) (by kernel_rfl) (by kernel_rfl) (fun _ _ _ h => h) (by kernel_rfl) (Or.inl ⟨by rfl, ?hy135⟩) hS0 ?rest135
            case hy135 => (intro W hSw; go_simp; try (with_reducible rfl))
            try simp only [Act.put, List.setIfInBounds_toArray, List.set_cons_zero, List.set_cons_succ]
            refine' wpAnyD_take (i := 16) (oi := { dst := some 124, op := Go.Op.load 3 (Go.Operand.tmp 123), type := 3, pos := "law.go:57", after := #[{ on := 15, ground := Go.Ground.data }, { on := 12, ground := Go.Ground.guard }], guard := some (12, true) }) (v := _) rfl (by kernel_rfl) (by kernel_rfl) (by kernel_rfl) (fun _ _ _ h => h) (by kernel_rfl) (Or.inl ⟨by rfl, ?hy136⟩) hS0 ?rest136
            case hy136 => (intro W hSw; obtain ⟨v1, e1, -⟩ := blk_at (HD8.out.below hSw).b2; go_simp; try (with_reducible rfl))
            try simp only [Act.put, List.setIfInBounds_toArray, List.set_cons_zero, List.set_cons_succ]
            refine wpAnyD_one (i := 14) (o := { dst := some 122, op := Go.Op.call { callee := Go.Callee.value (Go.Operand.func 7), args := #[Go.Operand.tmp 121], argTypes := #[34] }, type := 3, pos := "law.go:57", after := #[{ on := 13, ground := Go.Ground.data }, { on := 12, ground := Go.Ground.chain }, { on := 12, ground := Go.Ground.guard }], guard := some (12, true) }) (by kernel_rfl) rfl (fun K hK => ?_)
            rw [if_pos (by kernel_rfl)]
            go_simp
            refine (kind_any _ (HFG.out.2.below hS0)).mono ?_
            rintro e u1 ⟨rfl, g1⟩
            have hS1 : Below wr.heap.size wr u1 := hS0.trans (g1.below.mono hS0.size)
            clear g1
            go_wp2_with fail
            refine hK.out _ _ (fun hD => hS1) ?_
            clear hK K
            try simp only [Act.put, List.setIfInBounds_toArray, List.set_cons_zero, List.set_cons_succ]
            refine' wpAnyD_take (i := 17) (oi := { dst := some 125, op := Go.Op.binOp Go.BinOp.neq 3 (Go.Operand.tmp 122) (Go.Operand.tmp 124) 3, type := 4, pos := "law.go:57", after := #[{ on := 14, ground := Go.Ground.data }, { on := 16, ground := Go.Ground.data }, { on := 12, ground := Go.Ground.guard }], guard := some (12, true) }) (v := .bool false) rfl (by kernel_rfl) (by kernel_rfl) (by kernel_rfl) (fun _ _ _ h => h) (by kernel_rfl) (Or.inl ⟨by rfl, ?hy138⟩) hS1 ?rest138
            case hy138 => (intro W hSw; go_simp; try (with_reducible rfl))
            try simp only [Act.put, List.setIfInBounds_toArray, List.set_cons_zero, List.set_cons_succ]
            refine' wpAnyD_take (i := 18) (oi := { dst := some 126, op := Go.Op.pick (Go.Operand.tmp 120) (Go.Operand.tmp 125) (Go.Operand.const (Go.Value.bool false)), type := 4, pos := "law.go:57", after := #[{ on := 12, ground := Go.Ground.data }, { on := 17, ground := Go.Ground.data }, { on := 9, ground := Go.Ground.guard }], guard := some (9, false) }) (v := _) rfl (by kernel_rfl) (by kernel_rfl) (by kernel_rfl) (fun _ _ _ h => h) (by kernel_rfl) (Or.inl ⟨by rfl, ?hy139⟩) hS1 ?rest139
            case hy139 => (intro W hSw; go_simp; try (with_reducible rfl))
            try simp only [Act.put, List.setIfInBounds_toArray, List.set_cons_zero, List.set_cons_succ]
            refine' wpAnyD_take (i := 19) (oi := { dst := some 127, op := Go.Op.pick (Go.Operand.tmp 117) (Go.Operand.const (Go.Value.bool true)) (Go.Operand.tmp 126), type := 4, pos := "law.go:57", after := #[{ on := 9, ground := Go.Ground.data }, { on := 18, ground := Go.Ground.data }], guard := none }) (v := _) rfl (by kernel_rfl) (by kernel_rfl) (by kernel_rfl) (fun _ _ _ h => h) (by kernel_rfl) (Or.inl ⟨by rfl, ?hy140⟩) hS1 ?rest140
            case hy140 => (intro W hSw; go_simp; try (with_reducible rfl))
            try simp only [Act.put, List.setIfInBounds_toArray, List.set_cons_zero, List.set_cons_succ]
            refine wpAnyD_done (by kernel_rfl) ?_ _
            have HD9 := hid (HD8.out.below hS1)
            have HFG9 : Hid (True ∧ Flw wc.heap.size _ (.iface Tg (.pointer (some ⟨bg, 0, none⟩))) m l') := ⟨trivial, HFG.out.2.below hS1⟩
            clear HD8 HFG
            go_wp2_with fail
            go_loopw [14] (fun s14 Wr => ∃ j : Nat, j ≤ na ∧ s14 = .int .i64 (j : Nat) ∧ Hid (Dw w Wr x m p q n c n' c' nb mb ob g k1 (wro l n)) ∧ Hid (True ∧ Flw wc.heap.size Wr (.iface Tg (.pointer (some ⟨bg, 0, none⟩))) m l')) (fun s14 _ => na - (RowKit.intOf s14).toNat)
            case atStart => exact ⟨0, Nat.zero_le _, rfl, HD9, HFG9⟩
            case round =>
              clear HD9 HFG9
              obtain ⟨j, hj, rfl, HD9, HFG9⟩ := hrel
              by_cases hlt : j < na
              · have hltz : (j : Int) < (na : Int) := by omega
                have j0 : (0 : Int) ≤ (j : Int) := by omega
                obtain ⟨a, ha⟩ : ∃ a, as'[j]? = some a := ⟨as'[j]'(by have := HNA.out; omega), by simp⟩
                obtain ⟨b1, o1, q1, e1, zz1, hcell⟩ := (HA.out.below HD9.out.bl).get ha
                simp only [Value.slice.injEq] at e1
                obtain ⟨rfl, -, rfl⟩ := e1
                have HAC : Hid (∀ W, Below wr.heap.size wr W → W.cell? ⟨b1, o1 + j * 5, none⟩ = some (.int .u64 a.1.1.a) ∧ W.cell? ⟨b1, o1 + j * 5 + 1, none⟩ = some (.int .u64 a.1.1.b) ∧ W.cell? ⟨b1, o1 + j * 5 + 2, none⟩ = some (.int .u64 a.1.1.c) ∧ W.cell? ⟨b1, o1 + j * 5 + 3, none⟩ = some (.int .u64 a.1.2.key) ∧ W.cell? ⟨b1, o1 + j * 5 + 4, none⟩ = some (.int .u64 a.1.2.val) ∧ b1 < W.heap.size) := fun W hW =>
                  ⟨(hW.cell (p := ⟨b1, o1 + j * 5, none⟩) zz1).trans (hcell 0 _ (by decide) rfl), (hW.cell (p := ⟨b1, o1 + j * 5 + 1, none⟩) zz1).trans (hcell 1 _ (by decide) rfl), (hW.cell (p := ⟨b1, o1 + j * 5 + 2, none⟩) zz1).trans (hcell 2 _ (by decide) rfl), (hW.cell (p := ⟨b1, o1 + j * 5 + 3, none⟩) zz1).trans (hcell 3 _ (by decide) rfl), (hW.cell (p := ⟨b1, o1 + j * 5 + 4, none⟩) zz1).trans (hcell 4 _ (by decide) rfl), Nat.lt_of_lt_of_le zz1 hW.size⟩
                clear ha hcell zz1
                go_upto_region 23 with fail
                have hS0 : Below wr.heap.size wr wr.drew := (Gr.refl wr).drew.below
                refine wp_regionD (S := (fun W : World => Below wr.heap.size wr W)) (D := []) hmx ?_
                refine' wpAnyD_take (i := 0) (oi := { dst := some 134, op := Go.Op.move (Go.Operand.tmp 8), type := 34, pos := "law.go:61", after := #[], guard := none }) (v := _) rfl (by kernel_rfl) (by kernel_rfl) (by kernel_rfl) (fun _ _ _ h => h) (by kernel_rfl) (Or.inl ⟨by rfl, ?hy141⟩) hS0 ?rest141
                case hy141 => (intro W hSw; go_simp; try (with_reducible rfl))
                try simp only [Act.put, List.setIfInBounds_toArray, List.set_cons_zero, List.set_cons_succ]
                refine' wpAnyD_take (i := 1) (oi := { dst := some 135, op := Go.Op.binOp Go.BinOp.neq 34 (Go.Operand.tmp 134) (Go.Operand.const Go.Value.nilIface) 34, type := 4, pos := "law.go:61", after := #[{ on := 0, ground := Go.Ground.data }], guard := none }) (v := _) rfl (by kernel_rfl) (by kernel_rfl) (by kernel_rfl) (fun _ _ _ h => h) (by kernel_rfl) (Or.inl ⟨by rfl, ?hy142⟩) hS0 ?rest142
                case hy142 => (intro W hSw; go_simp; try (with_reducible rfl))
                try simp only [Act.put, List.setIfInBounds_toArray, List.set_cons_zero, List.set_cons_succ]
                refine' wpAnyD_take (i := 2) (oi := { dst := some 136, op := Go.Op.move (Go.Operand.tmp 135), type := 4, pos := "law.go:61", after := #[{ on := 1, ground := Go.Ground.data }], guard := none }) (v := _) rfl (by kernel_rfl) (by kernel_rfl) (by kernel_rfl) (fun _ _ _ h => h) (by kernel_rfl) (Or.inl ⟨by rfl, ?hy143⟩) hS0 ?rest143
                case hy143 => (intro W hSw; go_simp; try (with_reducible rfl))
                try simp only [Act.put, List.setIfInBounds_toArray, List.set_cons_zero, List.set_cons_succ]
                refine' wpAnyD_take (i := 3) (oi := { dst := some 137, op := Go.Op.move (Go.Operand.tmp 8), type := 34, pos := "law.go:61", after := #[{ on := 2, ground := Go.Ground.guard }], guard := some (2, true) }) (v := undef) rfl (by kernel_rfl) (by kernel_rfl) (by kernel_rfl) (fun _ _ _ h => h) (by kernel_rfl) (Or.inr ⟨by rfl, rfl⟩) hS0 ?rest144
                try simp only [Act.put, List.setIfInBounds_toArray, List.set_cons_zero, List.set_cons_succ]
                refine' wpAnyD_take (i := 4) (oi := { dst := some 138, op := Go.Op.load 28 (Go.Operand.tmp 3), type := 28, pos := "law.go:61", after := #[{ on := 2, ground := Go.Ground.guard }], guard := some (2, true) }) (v := undef) rfl (by kernel_rfl) (by kernel_rfl) (by kernel_rfl) (fun _ _ _ h => h) (by kernel_rfl) (Or.inr ⟨by rfl, rfl⟩) hS0 ?rest145
                try simp only [Act.put, List.setIfInBounds_toArray, List.set_cons_zero, List.set_cons_succ]
                refine' wpAnyD_take (i := 5) (oi := { dst := some 139, op := Go.Op.move (Go.Operand.tmp 2), type := 41, pos := "law.go:61", after := #[{ on := 2, ground := Go.Ground.guard }], guard := some (2, true) }) (v := undef) rfl (by kernel_rfl) (by kernel_rfl) (by kernel_rfl) (fun _ _ _ h => h) (by kernel_rfl) (Or.inr ⟨by rfl, rfl⟩) hS0 ?rest146
                try simp only [Act.put, List.setIfInBounds_toArray, List.set_cons_zero, List.set_cons_succ]
                refine' wpAnyD_take (i := 6) (oi := { dst := some 140, op := Go.Op.move (Go.Operand.tmp 14), type := 3, pos := "law.go:61", after := #[{ on := 2, ground := Go.Ground.guard }], guard := some (2, true) }) (v := undef) rfl (by kernel_rfl) (by kernel_rfl) (by kernel_rfl) (fun _ _ _ h => h) (by kernel_rfl) (Or.inr ⟨by rfl, rfl⟩) hS0 ?rest147
                try simp only [Act.put, List.setIfInBounds_toArray, List.set_cons_zero, List.set_cons_succ]
                refine' wpAnyD_take (i := 7) (oi := { dst := some 141, op := Go.Op.indexAddr 41 (Go.Operand.tmp 139) (Go.Operand.tmp 140), type := 0, pos := "law.go:61", after := #[{ on := 5, ground := Go.Ground.data }, { on := 6, ground := Go.Ground.data }, { on := 2, ground := Go.Ground.guard }], guard := some (2, true) }) (v := undef) rfl (by kernel_rfl) (by kernel_rfl) (by kernel_rfl) (fun _ _ _ h => h) (by kernel_rfl) (Or.inr ⟨by rfl, rfl⟩) hS0 ?rest148
                try simp only [Act.put, List.setIfInBounds_toArray, List.set_cons_zero, List.set_cons_succ]
                refine' wpAnyD_take (i := 8) (oi := { dst := some 142, op := Go.Op.load 50 (Go.Operand.tmp 141), type := 50, pos := "law.go:61", after := #[{ on := 7, ground := Go.Ground.data }, { on := 2, ground := Go.Ground.guard }], guard := some (2, true) }) (v := undef) rfl (by kernel_rfl) (by kernel_rfl) (by kernel_rfl) (fun _ _ _ h => h) (by kernel_rfl) (Or.inr ⟨by rfl, rfl⟩) hS0 ?rest149
                try simp only [Act.put, List.setIfInBounds_toArray, List.set_cons_zero, List.set_cons_succ]
                refine wpAnyD_one (i := 9) (o := { dst := some 143, op := Go.Op.call { callee := Go.Callee.value (Go.Operand.func 9), args := #[Go.Operand.tmp 137, Go.Operand.tmp 138, Go.Operand.tmp 142], argTypes := #[34, 28, 50] }, type := 4, pos := "law.go:61", after := #[{ on := 3, ground := Go.Ground.data }, { on := 4, ground := Go.Ground.data }, { on := 8, ground := Go.Ground.data }, { on := 2, ground := Go.Ground.chain }, { on := 2, ground := Go.Ground.guard }], guard := some (2, true) }) (by kernel_rfl) rfl (fun K hK => ?_)
                rw [if_neg (Bool.eq_false_iff.1 (by kernel_rfl))]
                refine hK.out _ _ (fun hD => hS0) ?_
                clear hK K
                try simp only [Act.put, List.setIfInBounds_toArray, List.set_cons_zero, List.set_cons_succ]
                refine' wpAnyD_take (i := 10) (oi := { dst := some 144, op := Go.Op.unOp Go.UnOp.not 4 (Go.Operand.tmp 143), type := 4, pos := "law.go:61", after := #[{ on := 9, ground := Go.Ground.data }, { on := 2, ground := Go.Ground.guard }], guard := some (2, true) }) (v := undef) rfl (by kernel_rfl) (by kernel_rfl) (by kernel_rfl) (fun _ _ _ h => h) (by kernel_rfl) (Or.inr ⟨by rfl, rfl⟩) hS0 ?rest151
                try simp only [Act.put, List.setIfInBounds_toArray, List.set_cons_zero, List.set_cons_succ]
                refine' wpAnyD_take (i := 11) (oi := { dst := some 145, op := Go.Op.pick (Go.Operand.tmp 136) (Go.Operand.tmp 144) (Go.Operand.const (Go.Value.bool false)), type := 4, pos := "law.go:61", after := #[{ on := 2, ground := Go.Ground.data }, { on := 10, ground := Go.Ground.data }], guard := none }) (v := _) rfl (by kernel_rfl) (by kernel_rfl) (by kernel_rfl) (fun _ _ _ h => h) (by kernel_rfl) (Or.inl ⟨by rfl, ?hy152⟩) hS0 ?rest152
                case hy152 => (intro W hSw; go_simp; try (with_reducible rfl))
                try simp only [Act.put, List.setIfInBounds_toArray, List.set_cons_zero, List.set_cons_succ]
                refine' wpAnyD_take (i := 12) (oi := { dst := some 146, op := Go.Op.move (Go.Operand.tmp 145), type := 4, pos := "law.go:61", after := #[{ on := 11, ground := Go.Ground.data }, { on := 9, ground := Go.Ground.chain }], guard := none }) (v := _) rfl (by kernel_rfl) (by kernel_rfl) (by kernel_rfl) (fun _ _ _ h => h) (by kernel_rfl) (Or.inl ⟨by rfl, ?hy153⟩) hS0 ?rest153
                case hy153 => (intro W hSw; go_simp; try (with_reducible rfl))
                try simp only [Act.put, List.setIfInBounds_toArray, List.set_cons_zero, List.set_cons_succ]
                refine' wpAnyD_take (i := 13) (oi := { dst := some 147, op := Go.Op.move (Go.Operand.tmp 10), type := 34, pos := "law.go:61", after := #[{ on := 12, ground := Go.Ground.guard }], guard := some (12, false) }) (v := _) rfl (by kernel_rfl) (by kernel_rfl) (by kernel_rfl) (fun _ _ _ h => h) (by kernel_rfl) (Or.inl ⟨by rfl, ?hy154⟩) hS0 ?rest154
                case hy154 => (intro W hSw; go_simp; try (with_reducible rfl))
                try simp only [Act.put, List.setIfInBounds_toArray, List.set_cons_zero, List.set_cons_succ]
                refine' wpAnyD_take (i := 14) (oi := { dst := some 148, op := Go.Op.binOp Go.BinOp.neq 34 (Go.Operand.tmp 147) (Go.Operand.const Go.Value.nilIface) 34, type := 4, pos := "law.go:61", after := #[{ on := 13, ground := Go.Ground.data }, { on := 12, ground := Go.Ground.guard }], guard := some (12, false) }) (v := _) rfl (by kernel_rfl) (by kernel_rfl) (by kernel_rfl) (fun _ _ _ h => h) (by kernel_rfl) (Or.inl ⟨by rfl, ?hy155⟩) hS0 ?rest155
                case hy155 => (intro W hSw; go_simp; try (with_reducible rfl))
                try simp only [Act.put, List.setIfInBounds_toArray, List.set_cons_zero, List.set_cons_succ]
                refine' wpAnyD_take (i := 15) (oi := { dst := some 149, op := Go.Op.move (Go.Operand.tmp 148), type := 4, pos := "law.go:61", after := #[{ on := 14, ground := Go.Ground.data }, { on := 12, ground := Go.Ground.chain }, { on := 12, ground := Go.Ground.guard }], guard := some (12, false) }) (v := _) rfl (by kernel_rfl) (by kernel_rfl) (by kernel_rfl) (fun _ _ _ h => h) (by kernel_rfl) (Or.inl ⟨by rfl, ?hy156⟩) hS0 ?rest156
                case hy156 => (intro W hSw; go_simp; try (with_reducible rfl))
                try simp only [Act.put, List.setIfInBounds_toArray, List.set_cons_zero, List.set_cons_succ]
                refine' wpAnyD_take (i := 16) (oi := { dst := some 150, op := Go.Op.move (Go.Operand.tmp 10), type := 34, pos := "law.go:61", after := #[{ on := 15, ground := Go.Ground.guard }], guard := some (15, true) }) (v := _) rfl (by kernel_rfl) (by kernel_rfl) (by kernel_rfl) (fun _ _ _ h => h) (by kernel_rfl) (Or.inl ⟨by rfl, ?hy157⟩) hS0 ?rest157
                case hy157 => (intro W hSw; go_simp; try (with_reducible rfl))
                try simp only [Act.put, List.setIfInBounds_toArray, List.set_cons_zero, List.set_cons_succ]
                refine' wpAnyD_take (i := 17) (oi := { dst := some 151, op := Go.Op.load 28 (Go.Operand.tmp 4), type := 28, pos := "law.go:61", after := #[{ on := 15, ground := Go.Ground.guard }], guard := some (15, true) }) (v := _) rfl (by kernel_rfl) (by kernel_rfl) (by kernel_rfl) (fun _ _ _ h => h) (by kernel_rfl) (Or.inl ⟨by rfl, ?hy158⟩) hS0 ?rest158
                case hy158 => (intro W hSw; obtain ⟨v1, e1, -⟩ := blk_at (HD9.out.below hSw).b2; go_simp; try (with_reducible rfl))
                try simp only [Act.put, List.setIfInBounds_toArray, List.set_cons_zero, List.set_cons_succ]
                refine' wpAnyD_take (i := 18) (oi := { dst := some 152, op := Go.Op.move (Go.Operand.tmp 2), type := 41, pos := "law.go:61", after := #[{ on := 15, ground := Go.Ground.guard }], guard := some (15, true) }) (v := _) rfl (by kernel_rfl) (by kernel_rfl) (by kernel_rfl) (fun _ _ _ h => h) (by kernel_rfl) (Or.inl ⟨by rfl, ?hy159⟩) hS0 ?rest159
                case hy159 => (intro W hSw; go_simp; try (with_reducible rfl))
                try simp only [Act.put, List.setIfInBounds_toArray, List.set_cons_zero, List.set_cons_succ]
                refine' wpAnyD_take (i := 19) (oi := { dst := some 153, op := Go.Op.move (Go.Operand.tmp 14), type := 3, pos := "law.go:61", after := #[{ on := 15, ground := Go.Ground.guard }], guard := some (15, true) }) (v := _) rfl (by kernel_rfl) (by kernel_rfl) (by kernel_rfl) (fun _ _ _ h => h) (by kernel_rfl) (Or.inl ⟨by rfl, ?hy160⟩) hS0 ?rest160
                case hy160 => (intro W hSw; go_simp; try (with_reducible rfl))
                try simp only [Act.put, List.setIfInBounds_toArray, List.set_cons_zero, List.set_cons_succ]
                refine' wpAnyD_take (i := 20) (oi := { dst := some 154, op := Go.Op.indexAddr 41 (Go.Operand.tmp 152) (Go.Operand.tmp 153), type := 0, pos := "law.go:61", after := #[{ on := 18, ground := Go.Ground.data }, { on := 19, ground := Go.Ground.data }, { on := 15, ground := Go.Ground.guard }], guard := some (15, true) }) (v := _) rfl (by kernel_rfl) (by kernel_rfl) (by kernel_rfl) (fun _ _ _ h => h) (by kernel_rfl) (Or.inl ⟨by rfl, ?hy161⟩) hS0 ?rest161
                case hy161 => (intro W hSw; go_simp; try (with_reducible rfl))
                try simp only [Act.put, List.setIfInBounds_toArray, List.set_cons_zero, List.set_cons_succ]
                refine' wpAnyD_take (i := 21) (oi := { dst := some 155, op := Go.Op.load 50 (Go.Operand.tmp 154), type := 50, pos := "law.go:61", after := #[{ on := 20, ground := Go.Ground.data }, { on := 15, ground := Go.Ground.guard }], guard := some (15, true) }) (v := _) rfl (by kernel_rfl) (by kernel_rfl) (by kernel_rfl) (fun _ _ _ h => h) (by kernel_rfl) (Or.inl ⟨by rfl, ?hy162⟩) hS0 ?rest162
                case hy162 => (intro W hSw; obtain ⟨v0, v1, v2, v3, v4, v5⟩ := HAC.out _ hSw; go_simp; try (with_reducible rfl))
                try simp only [Act.put, List.setIfInBounds_toArray, List.set_cons_zero, List.set_cons_succ]
                refine wpAnyD_one (i := 22) (o := { dst := some 156, op := Go.Op.call { callee := Go.Callee.value (Go.Operand.func 9), args := #[Go.Operand.tmp 150, Go.Operand.tmp 151, Go.Operand.tmp 155], argTypes := #[34, 28, 50] }, type := 4, pos := "law.go:61", after := #[{ on := 16, ground := Go.Ground.data }, { on := 17, ground := Go.Ground.data }, { on := 21, ground := Go.Ground.data }, { on := 15, ground := Go.Ground.chain }, { on := 15, ground := Go.Ground.guard }], guard := some (15, true) }) (by kernel_rfl) rfl (fun K hK => ?_)
                rw [if_pos (by kernel_rfl)]
                go_simp
                refine (does_any HOK.out.2.1 a.2.1 a.2.2 HOK.out.2.2.2 _ (HFG9.out.2.below hS0) (HV'.out.below (HD9.out.below hS0).bl)).mono ?_
                rintro e u51 ⟨rfl, g51⟩
                have hS51 : Below wr.heap.size wr u51 := hS0.trans (g51.mono hS0.size)
                clear g51
                go_wp2_with fail
                refine hK.out _ _ (fun hD => hS51) ?_
                clear hK K
                try simp only [Act.put, List.setIfInBounds_toArray, List.set_cons_zero, List.set_cons_succ]
                refine' wpAnyD_take (i := 23) (oi := { dst := some 157, op := Go.Op.unOp Go.UnOp.not 4 (Go.Operand.tmp 156), type := 4, pos := "law.go:61", after := #[{ on := 22, ground := Go.Ground.data }, { on := 15, ground := Go.Ground.guard }], guard := some (15, true) }) (v := _) rfl (by kernel_rfl) (by kernel_rfl) (by kernel_rfl) (fun _ _ _ h => h) (by kernel_rfl) (Or.inl ⟨by rfl, ?hy164⟩) hS51 ?rest164
                case hy164 => (intro W hSw; go_simp; try (with_reducible rfl))
                try simp only [Act.put, List.setIfInBounds_toArray, List.set_cons_zero, List.set_cons_succ]
                refine' wpAnyD_take (i := 24) (oi := { dst := some 158, op := Go.Op.pick (Go.Operand.tmp 149) (Go.Operand.tmp 157) (Go.Operand.const (Go.Value.bool false)), type := 4, pos := "law.go:61", after := #[{ on := 15, ground := Go.Ground.data }, { on := 23, ground := Go.Ground.data }, { on := 12, ground := Go.Ground.guard }], guard := some (12, false) }) (v := _) rfl (by kernel_rfl) (by kernel_rfl) (by kernel_rfl) (fun _ _ _ h => h) (by kernel_rfl) (Or.inl ⟨by rfl, ?hy165⟩) hS51 ?rest165
                case hy165 => (intro W hSw; go_simp; try (with_reducible rfl))
                try simp only [Act.put, List.setIfInBounds_toArray, List.set_cons_zero, List.set_cons_succ]
                refine' wpAnyD_take (i := 25) (oi := { dst := some 159, op := Go.Op.pick (Go.Operand.tmp 146) (Go.Operand.const (Go.Value.bool true)) (Go.Operand.tmp 158), type := 4, pos := "law.go:61", after := #[{ on := 12, ground := Go.Ground.data }, { on := 24, ground := Go.Ground.data }], guard := none }) (v := _) rfl (by kernel_rfl) (by kernel_rfl) (by kernel_rfl) (fun _ _ _ h => h) (by kernel_rfl) (Or.inl ⟨by rfl, ?hy166⟩) hS51 ?rest166
                case hy166 => (intro W hSw; go_simp; try (with_reducible rfl))
                try simp only [Act.put, List.setIfInBounds_toArray, List.set_cons_zero, List.set_cons_succ]
                refine' wpAnyD_take (i := 26) (oi := { dst := some 160, op := Go.Op.move (Go.Operand.tmp 159), type := 4, pos := "law.go:61", after := #[{ on := 25, ground := Go.Ground.data }, { on := 22, ground := Go.Ground.chain }], guard := none }) (v := _) rfl (by kernel_rfl) (by kernel_rfl) (by kernel_rfl) (fun _ _ _ h => h) (by kernel_rfl) (Or.inl ⟨by rfl, ?hy167⟩) hS51 ?rest167
                case hy167 => (intro W hSw; go_simp; try (with_reducible rfl))
                try simp only [Act.put, List.setIfInBounds_toArray, List.set_cons_zero, List.set_cons_succ]
                refine' wpAnyD_take (i := 27) (oi := { dst := some 161, op := Go.Op.move (Go.Operand.tmp 8), type := 34, pos := "law.go:61", after := #[{ on := 26, ground := Go.Ground.guard }], guard := some (26, false) }) (v := _) rfl (by kernel_rfl) (by kernel_rfl) (by kernel_rfl) (fun _ _ _ h => h) (by kernel_rfl) (Or.inl ⟨by rfl, ?hy168⟩) hS51 ?rest168
                case hy168 => (intro W hSw; go_simp; try (with_reducible rfl))
                try simp only [Act.put, List.setIfInBounds_toArray, List.set_cons_zero, List.set_cons_succ]
                refine' wpAnyD_take (i := 28) (oi := { dst := some 162, op := Go.Op.binOp Go.BinOp.neq 34 (Go.Operand.tmp 161) (Go.Operand.const Go.Value.nilIface) 34, type := 4, pos := "law.go:61", after := #[{ on := 27, ground := Go.Ground.data }, { on := 26, ground := Go.Ground.guard }], guard := some (26, false) }) (v := _) rfl (by kernel_rfl) (by kernel_rfl) (by kernel_rfl) (fun _ _ _ h => h) (by kernel_rfl) (Or.inl ⟨by rfl, ?hy169⟩) hS51 ?rest169
                case hy169 => (intro W hSw; go_simp; try (with_reducible rfl))
                try simp only [Act.put, List.setIfInBounds_toArray, List.set_cons_zero, List.set_cons_succ]
                refine' wpAnyD_take (i := 29) (oi := { dst := some 163, op := Go.Op.move (Go.Operand.tmp 162), type := 4, pos := "law.go:61", after := #[{ on := 28, ground := Go.Ground.data }, { on := 26, ground := Go.Ground.chain }, { on := 26, ground := Go.Ground.guard }], guard := some (26, false) }) (v := _) rfl (by kernel_rfl) (by kernel_rfl) (by kernel_rfl) (fun _ _ _ h => h) (by kernel_rfl) (Or.inl ⟨by rfl, ?hy170⟩) hS51 ?rest170
                case hy170 => (intro W hSw; go_simp; try (with_reducible rfl))
                try simp only [Act.put, List.setIfInBounds_toArray, List.set_cons_zero, List.set_cons_succ]
                refine' wpAnyD_take (i := 30) (oi := { dst := some 164, op := Go.Op.move (Go.Operand.tmp 8), type := 34, pos := "law.go:61", after := #[{ on := 29, ground := Go.Ground.guard }], guard := some (29, true) }) (v := undef) rfl (by kernel_rfl) (by kernel_rfl) (by kernel_rfl) (fun _ _ _ h => h) (by kernel_rfl) (Or.inr ⟨by rfl, rfl⟩) hS51 ?rest171
                try simp only [Act.put, List.setIfInBounds_toArray, List.set_cons_zero, List.set_cons_succ]
                refine' wpAnyD_take (i := 31) (oi := { dst := some 165, op := Go.Op.load 28 (Go.Operand.tmp 3), type := 28, pos := "law.go:61", after := #[{ on := 29, ground := Go.Ground.guard }], guard := some (29, true) }) (v := undef) rfl (by kernel_rfl) (by kernel_rfl) (by kernel_rfl) (fun _ _ _ h => h) (by kernel_rfl) (Or.inr ⟨by rfl, rfl⟩) hS51 ?rest172
                try simp only [Act.put, List.setIfInBounds_toArray, List.set_cons_zero, List.set_cons_succ]
                refine' wpAnyD_take (i := 32) (oi := { dst := some 166, op := Go.Op.move (Go.Operand.tmp 2), type := 41, pos := "law.go:61", after := #[{ on := 29, ground := Go.Ground.guard }], guard := some (29, true) }) (v := undef) rfl (by kernel_rfl) (by kernel_rfl) (by kernel_rfl) (fun _ _ _ h => h) (by kernel_rfl) (Or.inr ⟨by rfl, rfl⟩) hS51 ?rest173
                try simp only [Act.put, List.setIfInBounds_toArray, List.set_cons_zero, List.set_cons_succ]
                refine' wpAnyD_take (i := 33) (oi := { dst := some 167, op := Go.Op.move (Go.Operand.tmp 14), type := 3, pos := "law.go:61", after := #[{ on := 29, ground := Go.Ground.guard }], guard := some (29, true) }) (v := undef) rfl (by kernel_rfl) (by kernel_rfl) (by kernel_rfl) (fun _ _ _ h => h) (by kernel_rfl) (Or.inr ⟨by rfl, rfl⟩) hS51 ?rest174
                try simp only [Act.put, List.setIfInBounds_toArray, List.set_cons_zero, List.set_cons_succ]
                refine' wpAnyD_take (i := 34) (oi := { dst := some 168, op := Go.Op.indexAddr 41 (Go.Operand.tmp 166) (Go.Operand.tmp 167), type := 0, pos := "law.go:61", after := #[{ on := 32, ground := Go.Ground.data }, { on := 33, ground := Go.Ground.data }, { on := 29, ground := Go.Ground.guard }], guard := some (29, true) }) (v := undef) rfl (by kernel_rfl) (by kernel_rfl) (by kernel_rfl) (fun _ _ _ h => h) (by kernel_rfl) (Or.inr ⟨by rfl, rfl⟩) hS51 ?rest175
                try simp only [Act.put, List.setIfInBounds_toArray, List.set_cons_zero, List.set_cons_succ]
                refine' wpAnyD_take (i := 35) (oi := { dst := some 169, op := Go.Op.load 50 (Go.Operand.tmp 168), type := 50, pos := "law.go:61", after := #[{ on := 34, ground := Go.Ground.data }, { on := 29, ground := Go.Ground.guard }], guard := some (29, true) }) (v := undef) rfl (by kernel_rfl) (by kernel_rfl) (by kernel_rfl) (fun _ _ _ h => h) (by kernel_rfl) (Or.inr ⟨by rfl, rfl⟩) hS51 ?rest176
                try simp only [Act.put, List.setIfInBounds_toArray, List.set_cons_zero, List.set_cons_succ]
                refine wpAnyD_one (i := 36) (o := { dst := some 170, op := Go.Op.call { callee := Go.Callee.value (Go.Operand.func 9), args := #[Go.Operand.tmp 164, Go.Operand.tmp 165, Go.Operand.tmp 169], argTypes := #[34, 28, 50] }, type := 4, pos := "law.go:61", after := #[{ on := 30, ground := Go.Ground.data }, { on := 31, ground := Go.Ground.data }, { on := 35, ground := Go.Ground.data }, { on := 29, ground := Go.Ground.chain }, { on := 29, ground := Go.Ground.guard }], guard := some (29, true) }) (by kernel_rfl) rfl (fun K hK => ?_)
                rw [if_neg (Bool.eq_false_iff.1 (by kernel_rfl))]
                refine hK.out _ _ (fun hD => hS51) ?_
                clear hK K
                try simp only [Act.put, List.setIfInBounds_toArray, List.set_cons_zero, List.set_cons_succ]
                refine' wpAnyD_take (i := 37) (oi := { dst := some 171, op := Go.Op.unOp Go.UnOp.not 4 (Go.Operand.tmp 170), type := 4, pos := "law.go:61", after := #[{ on := 36, ground := Go.Ground.data }, { on := 29, ground := Go.Ground.guard }], guard := some (29, true) }) (v := undef) rfl (by kernel_rfl) (by kernel_rfl) (by kernel_rfl) (fun _ _ _ h => h) (by kernel_rfl) (Or.inr ⟨by rfl, rfl⟩) hS51 ?rest178
                try simp only [Act.put, List.setIfInBounds_toArray, List.set_cons_zero, List.set_cons_succ]
                refine' wpAnyD_take (i := 38) (oi := { dst := some 172, op := Go.Op.pick (Go.Operand.tmp 163) (Go.Operand.tmp 171) (Go.Operand.const (Go.Value.bool false)), type := 4, pos := "law.go:61", after := #[{ on := 29, ground := Go.Ground.data }, { on := 37, ground := Go.Ground.data }, { on := 26, ground := Go.Ground.guard }], guard := some (26, false) }) (v := _) rfl (by kernel_rfl) (by kernel_rfl) (by kernel_rfl) (fun _ _ _ h => h) (by kernel_rfl) (Or.inl ⟨by rfl, ?hy179⟩) hS51 ?rest179
                case hy179 => (intro W hSw; go_simp; try (with_reducible rfl))
                try simp only [Act.put, List.setIfInBounds_toArray, List.set_cons_zero, List.set_cons_succ]
                refine' wpAnyD_take (i := 39) (oi := { dst := some 173, op := Go.Op.pick (Go.Operand.tmp 160) (Go.Operand.const (Go.Value.bool true)) (Go.Operand.tmp 172), type := 4, pos := "law.go:61", after := #[{ on := 26, ground := Go.Ground.data }, { on := 38, ground := Go.Ground.data }], guard := none }) (v := _) rfl (by kernel_rfl) (by kernel_rfl) (by kernel_rfl) (fun _ _ _ h => h) (by kernel_rfl) (Or.inl ⟨by rfl, ?hy180⟩) hS51 ?rest180
                case hy180 => (intro W hSw; go_simp; try (with_reducible rfl))
                try simp only [Act.put, List.setIfInBounds_toArray, List.set_cons_zero, List.set_cons_succ]
                refine wpAnyD_done (by kernel_rfl) ?_ _
                go_wp2_with fail
                exact ⟨⟨j + 1, by omega, by go_num, HD9.out.below hS51, ⟨trivial, HFG9.out.2.below hS51⟩⟩, by simp [RowKit.intOf]; omega⟩
              · have hltz : ¬ (j : Int) < (na : Int) := by omega
                go_wp2_with fail
                go_ret
                exact ⟨rfl, HD9.out.bl⟩
      · obtain ⟨e2, rfl⟩ := hg
        have f3 : (q2 == 0) = false := by rw [HQ2.out]; simpa using e2
        have f4 : (q2 != 0) = true := by rw [bne, f3]; rfl
        clear e2 HF8 HQ8 HQ1 HQ2 HOKF HOKG
        have s0 : (0 : Int) ≤ (n : Int) + 1 := by omega
        have s1 : (n : Int) + 1 ≤ (k1 : Int) := by omega
        have HFG : Hid (True ∧ True) := ⟨trivial, trivial⟩
        skip
        go_wp2_with fail
        clear s0 s1 z1 d1 z3 d3
        go_loopw [13] (fun s13 Wr => ∃ i : Nat, i ≤ n ∧ s13 = .int .i64 (i : Nat) ∧ Hid (Dw w Wr x m p q n c n' c' nb mb ob g k1 (wro l i)) ∧ Hid (True ∧ True)) (fun s13 _ => n - (RowKit.intOf s13).toNat)
        case atStart => exact ⟨0, Nat.zero_le _, rfl, by rw [wro_zero]; exact HD8, HFG⟩
        case round =>
          clear HD8 HFG
          obtain ⟨i, hi, rfl, HD8, HFG⟩ := hrel
          obtain ⟨z1, d1, -⟩ := blk_at HD8.out.b1
          obtain ⟨z3, d3, -⟩ := blk_at HD8.out.b3
          by_cases hlt : i < n
          · have hltz : (i : Int) < (n : Int) := by omega
            have hll : i < l.length := by rw [← HNL.out]; exact hlt
            obtain ⟨o, ho⟩ : ∃ o, l[i]? = some o := ⟨l[i], by simp⟩
            have ho2 : (wro l i ++ [mO])[i]? = some o := by rw [List.getElem?_append_left (by rw [wro_len (Nat.le_of_lt hll)]; exact hll), wro_get hll]; exact ho
            obtain ⟨zg, y0, y1⟩ := HD8.out.mkd.at ho2
            have fz := HD8.out.mkd.free
            obtain ⟨b1, o1, c1, e1, zz1, x0, x1⟩ := ls_at (HV.out.below HD8.out.bl) ho
            simp only [Value.slice.injEq] at e1
            obtain ⟨rfl, -, rfl⟩ := e1
            have i0 : (0 : Int) ≤ (i : Int) := by omega
            have HLL := hid hll
            have HO := hid ho
            clear ho ho2 hll
            go_upto_region 13 with fail
            go_quiet (fail)
            have HDq := hid (HD8.out.below ((Gr.refl _).drewN nq).below)
            have HFq : Hid (True ∧ True) := ⟨trivial, trivial⟩
            obtain ⟨Wq, hWq⟩ : ∃ Wq, Wq = wr.drewN nq := ⟨_, rfl⟩
            rw [← hWq] at HDq ⊢
            clear hWq HD8 HFG z1 d1 z3 d3 zg y0 y1 fz x0 x1 zz1
            have hmk := HDq.out.mkd
            obtain ⟨zg, y0, y1⟩ := hmk.at (j := i) (o := o) (by rw [List.getElem?_append_left (by rw [wro_len (Nat.le_of_lt HLL.out)]; exact HLL.out), wro_get HLL.out]; exact HO.out)
            have fz := hmk.free
            obtain ⟨z1, d1, -⟩ := blk_at HDq.out.b1
            obtain ⟨z3, d3, -⟩ := blk_at HDq.out.b3
            clear hmk
            go_wp2_with fail
            have hput := HDq.out.put (j := i) (by rw [wro_len (Nat.le_of_lt HLL.out)]; exact HLL.out) m9
            rw [wro_set HLL.out] at hput
            have hkp := (HDq.out.mkd.put (j := i) (by rw [wro_len (Nat.le_of_lt HLL.out)]; exact HLL.out) m9).2
            refine ⟨⟨i + 1, by omega, by go_num, hput, ?_⟩, by simp [RowKit.intOf]; omega⟩
            exact ⟨trivial, trivial⟩
          · have hltz : ¬ (i : Int) < (n : Int) := by omega
            have hin : n = i := by omega
            subst hin
            obtain ⟨zg, y0, y1⟩ := HD8.out.mkd.at (j := n) (o := mO) (by rw [List.getElem?_append_right (by rw [wro_len (by rw [← HNL.out]; exact Nat.le_refl _), ← HNL.out]; exact Nat.le_refl _), wro_len (by rw [← HNL.out]; exact Nat.le_refl _), ← HNL.out, Nat.sub_self]; rfl)
            have i0 : (0 : Int) ≤ (n : Int) := by omega
            have i1 : (n : Int) < (n : Int) + 1 := by omega
            go_upto_region 18 with fail
            clear z1 d1 z3 d3 zg y0 y1 i0 i1 hltz
            have hS0 : Below wr.heap.size wr wr.drew := (Gr.refl wr).drew.below
            refine wp_regionD (S := (fun W : World => Below wr.heap.size wr W)) (D := []) hmx ?_
            refine' wpAnyD_take (i := 0) (oi := { dst := some 108, op := Go.Op.move (Go.Operand.tmp 8), type := 34, pos := "law.go:57", after := #[], guard := none }) (v := _) rfl (by kernel_rfl) (by kernel_rfl) (by kernel_rfl) (fun _ _ _ h => h) (by kernel_rfl) (Or.inl ⟨by rfl, ?hy181⟩) hS0 ?rest181
            case hy181 => (intro W hSw; go_simp; try (with_reducible rfl))
            try simp only [Act.put, List.setIfInBounds_toArray, List.set_cons_zero, List.set_cons_succ]
            refine' wpAnyD_take (i := 1) (oi := { dst := some 109, op := Go.Op.binOp Go.BinOp.neq 34 (Go.Operand.tmp 108) (Go.Operand.const Go.Value.nilIface) 34, type := 4, pos := "law.go:57", after := #[{ on := 0, ground := Go.Ground.data }], guard := none }) (v := _) rfl (by kernel_rfl) (by kernel_rfl) (by kernel_rfl) (fun _ _ _ h => h) (by kernel_rfl) (Or.inl ⟨by rfl, ?hy182⟩) hS0 ?rest182
            case hy182 => (intro W hSw; go_simp; try (with_reducible rfl))
            try simp only [Act.put, List.setIfInBounds_toArray, List.set_cons_zero, List.set_cons_succ]
            refine' wpAnyD_take (i := 2) (oi := { dst := some 110, op := Go.Op.move (Go.Operand.tmp 109), type := 4, pos := "law.go:57", after := #[{ on := 1, ground := Go.Ground.data }], guard := none }) (v := _) rfl (by kernel_rfl) (by kernel_rfl) (by kernel_rfl) (fun _ _ _ h => h) (by kernel_rfl) (Or.inl ⟨by rfl, ?hy183⟩) hS0 ?rest183
            case hy183 => (intro W hSw; go_simp; try (with_reducible rfl))
            try simp only [Act.put, List.setIfInBounds_toArray, List.set_cons_zero, List.set_cons_succ]
            refine' wpAnyD_take (i := 3) (oi := { dst := some 111, op := Go.Op.move (Go.Operand.tmp 8), type := 34, pos := "law.go:57", after := #[{ on := 2, ground := Go.Ground.guard }], guard := some (2, true) }) (v := undef) rfl (by kernel_rfl) (by kernel_rfl) (by kernel_rfl) (fun _ _ _ h => h) (by kernel_rfl) (Or.inr ⟨by rfl, rfl⟩) hS0 ?rest184
            try simp only [Act.put, List.setIfInBounds_toArray, List.set_cons_zero, List.set_cons_succ]
            refine' wpAnyD_take (i := 5) (oi := { dst := some 113, op := Go.Op.fieldAddr 28 (Go.Operand.tmp 3) 0, type := 0, pos := "law.go:57", after := #[{ on := 2, ground := Go.Ground.guard }], guard := some (2, true) }) (v := undef) rfl (by kernel_rfl) (by kernel_rfl) (by kernel_rfl) (fun _ _ _ h => h) (by kernel_rfl) (Or.inr ⟨by rfl, rfl⟩) hS0 ?rest185
            try simp only [Act.put, List.setIfInBounds_toArray, List.set_cons_zero, List.set_cons_succ]
            refine' wpAnyD_take (i := 6) (oi := { dst := some 114, op := Go.Op.load 3 (Go.Operand.tmp 113), type := 3, pos := "law.go:57", after := #[{ on := 5, ground := Go.Ground.data }, { on := 2, ground := Go.Ground.guard }], guard := some (2, true) }) (v := undef) rfl (by kernel_rfl) (by kernel_rfl) (by kernel_rfl) (fun _ _ _ h => h) (by kernel_rfl) (Or.inr ⟨by rfl, rfl⟩) hS0 ?rest186
            try simp only [Act.put, List.setIfInBounds_toArray, List.set_cons_zero, List.set_cons_succ]
            refine wpAnyD_one (i := 4) (o := { dst := some 112, op := Go.Op.call { callee := Go.Callee.value (Go.Operand.func 7), args := #[Go.Operand.tmp 111], argTypes := #[34] }, type := 3, pos := "law.go:57", after := #[{ on := 3, ground := Go.Ground.data }, { on := 2, ground := Go.Ground.chain }, { on := 2, ground := Go.Ground.guard }], guard := some (2, true) }) (by kernel_rfl) rfl (fun K hK => ?_)
            rw [if_neg (Bool.eq_false_iff.1 (by kernel_rfl))]
            refine hK.out _ _ (fun hD => hS0) ?_
            clear hK K
            try simp only [Act.put, List.setIfInBounds_toArray, List.set_cons_zero, List.set_cons_succ]
            refine' wpAnyD_take (i := 7) (oi := { dst := some 115, op := Go.Op.binOp Go.BinOp.neq 3 (Go.Operand.tmp 112) (Go.Operand.tmp 114) 3, type := 4, pos := "law.go:57", after := #[{ on := 4, ground := Go.Ground.data }, { on := 6, ground := Go.Ground.data }, { on := 2, ground := Go.Ground.guard }], guard := some (2, true) }) (v := undef) rfl (by kernel_rfl) (by kernel_rfl) (by kernel_rfl) (fun _ _ _ h => h) (by kernel_rfl) (Or.inr ⟨by rfl, rfl⟩) hS0 ?rest188
            try simp only [Act.put, List.setIfInBounds_toArray, List.set_cons_zero, List.set_cons_succ]
            refine' wpAnyD_take (i := 8) (oi := { dst := some 116, op := Go.Op.pick (Go.Operand.tmp 110) (Go.Operand.tmp 115) (Go.Operand.const (Go.Value.bool false)), type := 4, pos := "law.go:57", after := #[{ on := 2, ground := Go.Ground.data }, { on := 7, ground := Go.Ground.data }], guard := none }) (v := _) rfl (by kernel_rfl) (by kernel_rfl) (by kernel_rfl) (fun _ _ _ h => h) (by kernel_rfl) (Or.inl ⟨by rfl, ?hy189⟩) hS0 ?rest189
            case hy189 => (intro W hSw; go_simp; try (with_reducible rfl))
            try simp only [Act.put, List.setIfInBounds_toArray, List.set_cons_zero, List.set_cons_succ]
            refine' wpAnyD_take (i := 9) (oi := { dst := some 117, op := Go.Op.move (Go.Operand.tmp 116), type := 4, pos := "law.go:57", after := #[{ on := 8, ground := Go.Ground.data }, { on := 4, ground := Go.Ground.chain }], guard := none }) (v := _) rfl (by kernel_rfl) (by kernel_rfl) (by kernel_rfl) (fun _ _ _ h => h) (by kernel_rfl) (Or.inl ⟨by rfl, ?hy190⟩) hS0 ?rest190
            case hy190 => (intro W hSw; go_simp; try (with_reducible rfl))
            try simp only [Act.put, List.setIfInBounds_toArray, List.set_cons_zero, List.set_cons_succ]
            refine' wpAnyD_take (i := 10) (oi := { dst := some 118, op := Go.Op.move (Go.Operand.tmp 10), type := 34, pos := "law.go:57", after := #[{ on := 9, ground := Go.Ground.guard }], guard := some (9, false) }) (v := _) rfl (by kernel_rfl) (by kernel_rfl) (by kernel_rfl) (fun _ _ _ h => h) (by kernel_rfl) (Or.inl ⟨by rfl, ?hy191⟩) hS0 ?rest191
            case hy191 => (intro W hSw; go_simp; try (with_reducible rfl))
            try simp only [Act.put, List.setIfInBounds_toArray, List.set_cons_zero, List.set_cons_succ]
            refine' wpAnyD_take (i := 11) (oi := { dst := some 119, op := Go.Op.binOp Go.BinOp.neq 34 (Go.Operand.tmp 118) (Go.Operand.const Go.Value.nilIface) 34, type := 4, pos := "law.go:57", after := #[{ on := 10, ground := Go.Ground.data }, { on := 9, ground := Go.Ground.guard }], guard := some (9, false) }) (v := _) rfl (by kernel_rfl) (by kernel_rfl) (by kernel_rfl) (fun _ _ _ h => h) (by kernel_rfl) (Or.inl ⟨by rfl, ?hy192⟩) hS0 ?rest192
            case hy192 => (intro W hSw; go_simp; try (with_reducible rfl))
            try simp only [Act.put, List.setIfInBounds_toArray, List.set_cons_zero, List.set_cons_succ]
            refine' wpAnyD_take (i := 12) (oi := { dst := some 120, op := Go.Op.move (Go.Operand.tmp 119), type := 4, pos := "law.go:57", after := #[{ on := 11, ground := Go.Ground.data }, { on := 9, ground := Go.Ground.chain }, { on := 9, ground := Go.Ground.guard }], guard := some (9, false) }) (v := _) rfl (by kernel_rfl) (by kernel_rfl) (by kernel_rfl) (fun _ _ _ h => h) (by kernel_rfl) (Or.inl ⟨by rfl, ?hy193⟩) hS0 ?rest193
            case hy193 => (intro W hSw; go_simp; try (with_reducible rfl))
            try simp only [Act.put, List.setIfInBounds_toArray, List.set_cons_zero, List.set_cons_succ]
            refine' wpAnyD_take (i := 13) (oi := { dst := some 121, op := Go.Op.move (Go.Operand.tmp 10), type := 34, pos := "law.go:57", after := #[{ on := 12, ground := Go.Ground.guard }], guard := some (12, true) }) (v := undef) rfl (by kernel_rfl) (by kernel_rfl) (by kernel_rfl) (fun _ _ _ h => h) (by kernel_rfl) (Or.inr ⟨by rfl, rfl⟩) hS0 ?rest194
            try simp only [Act.put, List.setIfInBounds_toArray, List.set_cons_zero, List.set_cons_succ]
            refine' wpAnyD_take (i := 15) (oi := { dst := some 123, op := Go.Op.fieldAddr 28 (Go.Operand.tmp 4) 0, type := 0, pos := "law.go:57", after := #[{ on := 12, ground := Go.Ground.guard }], guard := some (12, true) }) (v := undef) rfl (by kernel_rfl) (by kernel_rfl) (by kernel_rfl) (fun _ _ _ h => h) (by kernel_rfl) (Or.inr ⟨by rfl, rfl⟩) hS0 ?rest195
            try simp only [Act.put, List.setIfInBounds_toArray, List.set_cons_zero, List.set_cons_succ]
            refine' wpAnyD_take (i := 16) (oi := { dst := some 124, op := Go.Op.load 3 (Go.Operand.tmp 123), type := 3, pos := "law.go:57", after := #[{ on := 15, ground := Go.Ground.data }, { on := 12, ground := Go.Ground.guard }], guard := some (12, true) }) (v := undef) rfl (by kernel_rfl) (by kernel_rfl) (by kernel_rfl) (fun _ _ _ h => h) (by kernel_rfl) (Or.inr ⟨by rfl, rfl⟩) hS0 ?rest196
            try simp only [Act.put, List.setIfInBounds_toArray, List.set_cons_zero, List.set_cons_succ]
            refine wpAnyD_one (i := 14) (o := { dst := some 122, op := Go.Op.call { callee := Go.Callee.value (Go.Operand.func 7), args := #[Go.Operand.tmp 121], argTypes := #[34] }, type := 3, pos := "law.go:57", after := #[{ on := 13, ground := Go.Ground.data }, { on := 12, ground := Go.Ground.chain }, { on := 12, ground := Go.Ground.guard }], guard := some (12, true) }) (by kernel_rfl) rfl (fun K hK => ?_)
            rw [if_neg (Bool.eq_false_iff.1 (by kernel_rfl))]
            refine hK.out _ _ (fun hD => hS0) ?_
            clear hK K
            try simp only [Act.put, List.setIfInBounds_toArray, List.set_cons_zero, List.set_cons_succ]
            refine' wpAnyD_take (i := 17) (oi := { dst := some 125, op := Go.Op.binOp Go.BinOp.neq 3 (Go.Operand.tmp 122) (Go.Operand.tmp 124) 3, type := 4, pos := "law.go:57", after := #[{ on := 14, ground := Go.Ground.data }, { on := 16, ground := Go.Ground.data }, { on := 12, ground := Go.Ground.guard }], guard := some (12, true) }) (v := undef) rfl (by kernel_rfl) (by kernel_rfl) (by kernel_rfl) (fun _ _ _ h => h) (by kernel_rfl) (Or.inr ⟨by rfl, rfl⟩) hS0 ?rest198
            try simp only [Act.put, List.setIfInBounds_toArray, List.set_cons_zero, List.set_cons_succ]
            refine' wpAnyD_take (i := 18) (oi := { dst := some 126, op := Go.Op.pick (Go.Operand.tmp 120) (Go.Operand.tmp 125) (Go.Operand.const (Go.Value.bool false)), type := 4, pos := "law.go:57", after := #[{ on := 12, ground := Go.Ground.data }, { on := 17, ground := Go.Ground.data }, { on := 9, ground := Go.Ground.guard }], guard := some (9, false) }) (v := _) rfl (by kernel_rfl) (by kernel_rfl) (by kernel_rfl) (fun _ _ _ h => h) (by kernel_rfl) (Or.inl ⟨by rfl, ?hy199⟩) hS0 ?rest199
            case hy199 => (intro W hSw; go_simp; try (with_reducible rfl))
            try simp only [Act.put, List.setIfInBounds_toArray, List.set_cons_zero, List.set_cons_succ]
            refine' wpAnyD_take (i := 19) (oi := { dst := some 127, op := Go.Op.pick (Go.Operand.tmp 117) (Go.Operand.const (Go.Value.bool true)) (Go.Operand.tmp 126), type := 4, pos := "law.go:57", after := #[{ on := 9, ground := Go.Ground.data }, { on := 18, ground := Go.Ground.data }], guard := none }) (v := _) rfl (by kernel_rfl) (by kernel_rfl) (by kernel_rfl) (fun _ _ _ h => h) (by kernel_rfl) (Or.inl ⟨by rfl, ?hy200⟩) hS0 ?rest200
            case hy200 => (intro W hSw; go_simp; try (with_reducible rfl))
            try simp only [Act.put, List.setIfInBounds_toArray, List.set_cons_zero, List.set_cons_succ]
            refine wpAnyD_done (by kernel_rfl) ?_ _
            have HD9 := hid (HD8.out.below hS0)
            have HFG9 : Hid (True ∧ True) := ⟨trivial, trivial⟩
            clear HD8 HFG
            go_wp2_with fail
            go_loopw [14] (fun s14 Wr => ∃ j : Nat, j ≤ na ∧ s14 = .int .i64 (j : Nat) ∧ Hid (Dw w Wr x m p q n c n' c' nb mb ob g k1 (wro l n)) ∧ Hid (True ∧ True)) (fun s14 _ => na - (RowKit.intOf s14).toNat)
            case atStart => exact ⟨0, Nat.zero_le _, rfl, HD9, HFG9⟩
            case round =>
              clear HD9 HFG9
              obtain ⟨j, hj, rfl, HD9, HFG9⟩ := hrel
              by_cases hlt : j < na
              · have hltz : (j : Int) < (na : Int) := by omega
                have j0 : (0 : Int) ≤ (j : Int) := by omega
                obtain ⟨a, ha⟩ : ∃ a, as'[j]? = some a := ⟨as'[j]'(by have := HNA.out; omega), by simp⟩
                obtain ⟨b1, o1, q1, e1, zz1, hcell⟩ := (HA.out.below HD9.out.bl).get ha
                simp only [Value.slice.injEq] at e1
                obtain ⟨rfl, -, rfl⟩ := e1
                have HAC : Hid (∀ W, Below wr.heap.size wr W → W.cell? ⟨b1, o1 + j * 5, none⟩ = some (.int .u64 a.1.1.a) ∧ W.cell? ⟨b1, o1 + j * 5 + 1, none⟩ = some (.int .u64 a.1.1.b) ∧ W.cell? ⟨b1, o1 + j * 5 + 2, none⟩ = some (.int .u64 a.1.1.c) ∧ W.cell? ⟨b1, o1 + j * 5 + 3, none⟩ = some (.int .u64 a.1.2.key) ∧ W.cell? ⟨b1, o1 + j * 5 + 4, none⟩ = some (.int .u64 a.1.2.val) ∧ b1 < W.heap.size) := fun W hW =>
                  ⟨(hW.cell (p := ⟨b1, o1 + j * 5, none⟩) zz1).trans (hcell 0 _ (by decide) rfl), (hW.cell (p := ⟨b1, o1 + j * 5 + 1, none⟩) zz1).trans (hcell 1 _ (by decide) rfl), (hW.cell (p := ⟨b1, o1 + j * 5 + 2, none⟩) zz1).trans (hcell 2 _ (by decide) rfl), (hW.cell (p := ⟨b1, o1 + j * 5 + 3, none⟩) zz1).trans (hcell 3 _ (by decide) rfl), (hW.cell (p := ⟨b1, o1 + j * 5 + 4, none⟩) zz1).trans (hcell 4 _ (by decide) rfl), Nat.lt_of_lt_of_le zz1 hW.size⟩
                clear ha hcell zz1
                go_upto_region 23 with fail
                have hS0 : Below wr.heap.size wr wr.drew := (Gr.refl wr).drew.below
                refine wp_regionD (S := (fun W : World => Below wr.heap.size wr W)) (D := []) hmx ?_
                refine' wpAnyD_take (i := 0) (oi := { dst := some 134, op := Go.Op.move (Go.Operand.tmp 8), type := 34, pos := "law.go:61", after := #[], guard := none }) (v := _) rfl (by kernel_rfl) (by kernel_rfl) (by kernel_rfl) (fun _ _ _ h => h) (by kernel_rfl) (Or.inl ⟨by rfl, ?hy201⟩) hS0 ?rest201
                case hy201 => (intro W hSw; go_simp; try (with_reducible rfl))
                try simp only [Act.put, List.setIfInBounds_toArray, List.set_cons_zero, List.set_cons_succ]
                refine' wpAnyD_take (i := 1) (oi := { dst := some 135, op := Go.Op.binOp Go.BinOp.neq 34 (Go.Operand.tmp 134) (Go.Operand.const Go.Value.nilIface) 34, type := 4, pos := "law.go:61", after := #[{ on := 0, ground := Go.Ground.data }], guard := none }) (v := _) rfl (by kernel_rfl) (by kernel_rfl) (by kernel_rfl) (fun _ _ _ h => h) (by kernel_rfl) (Or.inl ⟨by rfl, ?hy202⟩) hS0 ?rest202
                case hy202 => (intro W hSw; go_simp; try (with_reducible rfl))
                try simp only [Act.put, List.setIfInBounds_toArray, List.set_cons_zero, List.set_cons_succ]
                refine' wpAnyD_take (i := 2) (oi := { dst := some 136, op := Go.Op.move (Go.Operand.tmp 135), type := 4, pos := "law.go:61", after := #[{ on := 1, ground := Go.Ground.data }], guard := none }) (v := _) rfl (by kernel_rfl) (by kernel_rfl) (by kernel_rfl) (fun _ _ _ h => h) (by kernel_rfl) (Or.inl ⟨by rfl, ?hy203⟩) hS0 ?rest203
                case hy203 => (intro W hSw; go_simp; try (with_reducible rfl))
                try simp only [Act.put, List.setIfInBounds_toArray, List.set_cons_zero, List.set_cons_succ]
                refine' wpAnyD_take (i := 3) (oi := { dst := some 137, op := Go.Op.move (Go.Operand.tmp 8), type := 34, pos := "law.go:61", after := #[{ on := 2, ground := Go.Ground.guard }], guard := some (2, true) }) (v := undef) rfl (by kernel_rfl) (by kernel_rfl) (by kernel_rfl) (fun _ _ _ h => h) (by kernel_rfl) (Or.inr ⟨by rfl, rfl⟩) hS0 ?rest204
                try simp only [Act.put, List.setIfInBounds_toArray, List.set_cons_zero, List.set_cons_succ]
                refine' wpAnyD_take (i := 4) (oi := { dst := some 138, op := Go.Op.load 28 (Go.Operand.tmp 3), type := 28, pos := "law.go:61", after := #[{ on := 2, ground := Go.Ground.guard }], guard := some (2, true) }) (v := undef) rfl (by kernel_rfl) (by kernel_rfl) (by kernel_rfl) (fun _ _ _ h => h) (by kernel_rfl) (Or.inr ⟨by rfl, rfl⟩) hS0 ?rest205
                try simp only [Act.put, List.setIfInBounds_toArray, List.set_cons_zero, List.set_cons_succ]
                refine' wpAnyD_take (i := 5) (oi := { dst := some 139, op := Go.Op.move (Go.Operand.tmp 2), type := 41, pos := "law.go:61", after := #[{ on := 2, ground := Go.Ground.guard }], guard := some (2, true) }) (v := undef) rfl (by kernel_rfl) (by kernel_rfl) (by kernel_rfl) (fun _ _ _ h => h) (by kernel_rfl) (Or.inr ⟨by rfl, rfl⟩) hS0 ?rest206
                try simp only [Act.put, List.setIfInBounds_toArray, List.set_cons_zero, List.set_cons_succ]
                refine' wpAnyD_take (i := 6) (oi := { dst := some 140, op := Go.Op.move (Go.Operand.tmp 14), type := 3, pos := "law.go:61", after := #[{ on := 2, ground := Go.Ground.guard }], guard := some (2, true) }) (v := undef) rfl (by kernel_rfl) (by kernel_rfl) (by kernel_rfl) (fun _ _ _ h => h) (by kernel_rfl) (Or.inr ⟨by rfl, rfl⟩) hS0 ?rest207
                try simp only [Act.put, List.setIfInBounds_toArray, List.set_cons_zero, List.set_cons_succ]
                refine' wpAnyD_take (i := 7) (oi := { dst := some 141, op := Go.Op.indexAddr 41 (Go.Operand.tmp 139) (Go.Operand.tmp 140), type := 0, pos := "law.go:61", after := #[{ on := 5, ground := Go.Ground.data }, { on := 6, ground := Go.Ground.data }, { on := 2, ground := Go.Ground.guard }], guard := some (2, true) }) (v := undef) rfl (by kernel_rfl) (by kernel_rfl) (by kernel_rfl) (fun _ _ _ h => h) (by kernel_rfl) (Or.inr ⟨by rfl, rfl⟩) hS0 ?rest208
                try simp only [Act.put, List.setIfInBounds_toArray, List.set_cons_zero, List.set_cons_succ]
                refine' wpAnyD_take (i := 8) (oi := { dst := some 142, op := Go.Op.load 50 (Go.Operand.tmp 141), type := 50, pos := "law.go:61", after := #[{ on := 7, ground := Go.Ground.data }, { on := 2, ground := Go.Ground.guard }], guard := some (2, true) }) (v := undef) rfl (by kernel_rfl) (by kernel_rfl) (by kernel_rfl) (fun _ _ _ h => h) (by kernel_rfl) (Or.inr ⟨by rfl, rfl⟩) hS0 ?rest209
                try simp only [Act.put, List.setIfInBounds_toArray, List.set_cons_zero, List.set_cons_succ]
                refine wpAnyD_one (i := 9) (o := { dst := some 143, op := Go.Op.call { callee := Go.Callee.value (Go.Operand.func 9), args := #[Go.Operand.tmp 137, Go.Operand.tmp 138, Go.Operand.tmp 142], argTypes := #[34, 28, 50] }, type := 4, pos := "law.go:61", after := #[{ on := 3, ground := Go.Ground.data }, { on := 4, ground := Go.Ground.data }, { on := 8, ground := Go.Ground.data }, { on := 2, ground := Go.Ground.chain }, { on := 2, ground := Go.Ground.guard }], guard := some (2, true) }) (by kernel_rfl) rfl (fun K hK => ?_)
                rw [if_neg (Bool.eq_false_iff.1 (by kernel_rfl))]
                refine hK.out _ _ (fun hD => hS0) ?_
                clear hK K
                try simp only [Act.put, List.setIfInBounds_toArray, List.set_cons_zero, List.set_cons_succ]
                refine' wpAnyD_take (i := 10) (oi := { dst := some 144, op := Go.Op.unOp Go.UnOp.not 4 (Go.Operand.tmp 143), type := 4, pos := "law.go:61", after := #[{ on := 9, ground := Go.Ground.data }, { on := 2, ground := Go.Ground.guard }], guard := some (2, true) }) (v := undef) rfl (by kernel_rfl) (by kernel_rfl) (by kernel_rfl) (fun _ _ _ h => h) (by kernel_rfl) (Or.inr ⟨by rfl, rfl⟩) hS0 ?rest211
                try simp only [Act.put, List.setIfInBounds_toArray, List.set_cons_zero, List.set_cons_succ]
                refine' wpAnyD_take (i := 11) (oi := { dst := some 145, op := Go.Op.pick (Go.Operand.tmp 136) (Go.Operand.tmp 144) (Go.Operand.const (Go.Value.bool false)), type := 4, pos := "law.go:61", after := #[{ on := 2, ground := Go.Ground.data }, { on := 10, ground := Go.Ground.data }], guard := none }) (v := _) rfl (by kernel_rfl) (by kernel_rfl) (by kernel_rfl) (fun _ _ _ h => h) (by kernel_rfl) (Or.inl ⟨by rfl, ?hy212⟩) hS0 ?rest212
                case hy212 => (intro W hSw; go_simp; try (with_reducible rfl))
                try simp only [Act.put, List.setIfInBounds_toArray, List.set_cons_zero, List.set_cons_succ]
                refine' wpAnyD_take (i := 12) (oi := { dst := some 146, op := Go.Op.move (Go.Operand.tmp 145), type := 4, pos := "law.go:61", after := #[{ on := 11, ground := Go.Ground.data }, { on := 9, ground := Go.Ground.chain }], guard := none }) (v := _) rfl (by kernel_rfl) (by kernel_rfl) (by kernel_rfl) (fun _ _ _ h => h) (by kernel_rfl) (Or.inl ⟨by rfl, ?hy213⟩) hS0 ?rest213
                case hy213 => (intro W hSw; go_simp; try (with_reducible rfl))
                try simp only [Act.put, List.setIfInBounds_toArray, List.set_cons_zero, List.set_cons_succ]
                refine' wpAnyD_take (i := 13) (oi := { dst := some 147, op := Go.Op.move (Go.Operand.tmp 10), type := 34, pos := "law.go:61", after := #[{ on := 12, ground := Go.Ground.guard }], guard := some (12, false) }) (v := _) rfl (by kernel_rfl) (by kernel_rfl) (by kernel_rfl) (fun _ _ _ h => h) (by kernel_rfl) (Or.inl ⟨by rfl, ?hy214⟩) hS0 ?rest214
                case hy214 => (intro W hSw; go_simp; try (with_reducible rfl))
                try simp only [Act.put, List.setIfInBounds_toArray, List.set_cons_zero, List.set_cons_succ]
                refine' wpAnyD_take (i := 14) (oi := { dst := some 148, op := Go.Op.binOp Go.BinOp.neq 34 (Go.Operand.tmp 147) (Go.Operand.const Go.Value.nilIface) 34, type := 4, pos := "law.go:61", after := #[{ on := 13, ground := Go.Ground.data }, { on := 12, ground := Go.Ground.guard }], guard := some (12, false) }) (v := _) rfl (by kernel_rfl) (by kernel_rfl) (by kernel_rfl) (fun _ _ _ h => h) (by kernel_rfl) (Or.inl ⟨by rfl, ?hy215⟩) hS0 ?rest215
                case hy215 => (intro W hSw; go_simp; try (with_reducible rfl))
                try simp only [Act.put, List.setIfInBounds_toArray, List.set_cons_zero, List.set_cons_succ]
                refine' wpAnyD_take (i := 15) (oi := { dst := some 149, op := Go.Op.move (Go.Operand.tmp 148), type := 4, pos := "law.go:61", after := #[{ on := 14, ground := Go.Ground.data }, { on := 12, ground := Go.Ground.chain }, { on := 12, ground := Go.Ground.guard }], guard := some (12, false) }) (v := _) rfl (by kernel_rfl) (by kernel_rfl) (by kernel_rfl) (fun _ _ _ h => h) (by kernel_rfl) (Or.inl ⟨by rfl, ?hy216⟩) hS0 ?rest216
                case hy216 => (intro W hSw; go_simp; try (with_reducible rfl))
                try simp only [Act.put, List.setIfInBounds_toArray, List.set_cons_zero, List.set_cons_succ]
                refine' wpAnyD_take (i := 16) (oi := { dst := some 150, op := Go.Op.move (Go.Operand.tmp 10), type := 34, pos := "law.go:61", after := #[{ on := 15, ground := Go.Ground.guard }], guard := some (15, true) }) (v := undef) rfl (by kernel_rfl) (by kernel_rfl) (by kernel_rfl) (fun _ _ _ h => h) (by kernel_rfl) (Or.inr ⟨by rfl, rfl⟩) hS0 ?rest217
                try simp only [Act.put, List.setIfInBounds_toArray, List.set_cons_zero, List.set_cons_succ]
                refine' wpAnyD_take (i := 17) (oi := { dst := some 151, op := Go.Op.load 28 (Go.Operand.tmp 4), type := 28, pos := "law.go:61", after := #[{ on := 15, ground := Go.Ground.guard }], guard := some (15, true) }) (v := undef) rfl (by kernel_rfl) (by kernel_rfl) (by kernel_rfl) (fun _ _ _ h => h) (by kernel_rfl) (Or.inr ⟨by rfl, rfl⟩) hS0 ?rest218
                try simp only [Act.put, List.setIfInBounds_toArray, List.set_cons_zero, List.set_cons_succ]
                refine' wpAnyD_take (i := 18) (oi := { dst := some 152, op := Go.Op.move (Go.Operand.tmp 2), type := 41, pos := "law.go:61", after := #[{ on := 15, ground := Go.Ground.guard }], guard := some (15, true) }) (v := undef) rfl (by kernel_rfl) (by kernel_rfl) (by kernel_rfl) (fun _ _ _ h => h) (by kernel_rfl) (Or.inr ⟨by rfl, rfl⟩) hS0 ?rest219
                try simp only [Act.put, List.setIfInBounds_toArray, List.set_cons_zero, List.set_cons_succ]
                refine' wpAnyD_take (i := 19) (oi := { dst := some 153, op := Go.Op.move (Go.Operand.tmp 14), type := 3, pos := "law.go:61", after := #[{ on := 15, ground := Go.Ground.guard }], guard := some (15, true) }) (v := undef) rfl (by kernel_rfl) (by kernel_rfl) (by kernel_rfl) (fun _ _ _ h => h) (by kernel_rfl) (Or.inr ⟨by rfl, rfl⟩) hS0 ?rest220
                try simp only [Act.put, List.setIfInBounds_toArray, List.set_cons_zero, List.set_cons_succ]
                refine' wpAnyD_take (i := 20) (oi := { dst := some 154, op := Go.Op.indexAddr 41 (Go.Operand.tmp 152) (Go.Operand.tmp 153), type := 0, pos := "law.go:61", after := #[{ on := 18, ground := Go.Ground.data }, { on := 19, ground := Go.Ground.data }, { on := 15, ground := Go.Ground.guard }], guard := some (15, true) }) (v := undef) rfl (by kernel_rfl) (by kernel_rfl) (by kernel_rfl) (fun _ _ _ h => h) (by kernel_rfl) (Or.inr ⟨by rfl, rfl⟩) hS0 ?rest221
                try simp only [Act.put, List.setIfInBounds_toArray, List.set_cons_zero, List.set_cons_succ]
                refine' wpAnyD_take (i := 21) (oi := { dst := some 155, op := Go.Op.load 50 (Go.Operand.tmp 154), type := 50, pos := "law.go:61", after := #[{ on := 20, ground := Go.Ground.data }, { on := 15, ground := Go.Ground.guard }], guard := some (15, true) }) (v := undef) rfl (by kernel_rfl) (by kernel_rfl) (by kernel_rfl) (fun _ _ _ h => h) (by kernel_rfl) (Or.inr ⟨by rfl, rfl⟩) hS0 ?rest222
                try simp only [Act.put, List.setIfInBounds_toArray, List.set_cons_zero, List.set_cons_succ]
                refine wpAnyD_one (i := 22) (o := { dst := some 156, op := Go.Op.call { callee := Go.Callee.value (Go.Operand.func 9), args := #[Go.Operand.tmp 150, Go.Operand.tmp 151, Go.Operand.tmp 155], argTypes := #[34, 28, 50] }, type := 4, pos := "law.go:61", after := #[{ on := 16, ground := Go.Ground.data }, { on := 17, ground := Go.Ground.data }, { on := 21, ground := Go.Ground.data }, { on := 15, ground := Go.Ground.chain }, { on := 15, ground := Go.Ground.guard }], guard := some (15, true) }) (by kernel_rfl) rfl (fun K hK => ?_)
                rw [if_neg (Bool.eq_false_iff.1 (by kernel_rfl))]
                refine hK.out _ _ (fun hD => hS0) ?_
                clear hK K
                try simp only [Act.put, List.setIfInBounds_toArray, List.set_cons_zero, List.set_cons_succ]
                refine' wpAnyD_take (i := 23) (oi := { dst := some 157, op := Go.Op.unOp Go.UnOp.not 4 (Go.Operand.tmp 156), type := 4, pos := "law.go:61", after := #[{ on := 22, ground := Go.Ground.data }, { on := 15, ground := Go.Ground.guard }], guard := some (15, true) }) (v := undef) rfl (by kernel_rfl) (by kernel_rfl) (by kernel_rfl) (fun _ _ _ h => h) (by kernel_rfl) (Or.inr ⟨by rfl, rfl⟩) hS0 ?rest224
                try simp only [Act.put, List.setIfInBounds_toArray, List.set_cons_zero, List.set_cons_succ]
                refine' wpAnyD_take (i := 24) (oi := { dst := some 158, op := Go.Op.pick (Go.Operand.tmp 149) (Go.Operand.tmp 157) (Go.Operand.const (Go.Value.bool false)), type := 4, pos := "law.go:61", after := #[{ on := 15, ground := Go.Ground.data }, { on := 23, ground := Go.Ground.data }, { on := 12, ground := Go.Ground.guard }], guard := some (12, false) }) (v := _) rfl (by kernel_rfl) (by kernel_rfl) (by kernel_rfl) (fun _ _ _ h => h) (by kernel_rfl) (Or.inl ⟨by rfl, ?hy225⟩) hS0 ?rest225
                case hy225 => (intro W hSw; go_simp; try (with_reducible rfl))
                try simp only [Act.put, List.setIfInBounds_toArray, List.set_cons_zero, List.set_cons_succ]
                refine' wpAnyD_take (i := 25) (oi := { dst := some 159, op := Go.Op.pick (Go.Operand.tmp 146) (Go.Operand.const (Go.Value.bool true)) (Go.Operand.tmp 158), type := 4, pos := "law.go:61", after := #[{ on := 12, ground := Go.Ground.data }, { on := 24, ground := Go.Ground.data }], guard := none }) (v := _) rfl (by kernel_rfl) (by kernel_rfl) (by kernel_rfl) (fun _ _ _ h => h) (by kernel_rfl) (Or.inl ⟨by rfl, ?hy226⟩) hS0 ?rest226
                case hy226 => (intro W hSw; go_simp; try (with_reducible rfl))
                try simp only [Act.put, List.setIfInBounds_toArray, List.set_cons_zero, List.set_cons_succ]
                refine' wpAnyD_take (i := 26) (oi := { dst := some 160, op := Go.Op.move (Go.Operand.tmp 159), type := 4, pos := "law.go:61", after := #[{ on := 25, ground := Go.Ground.data }, { on := 22, ground := Go.Ground.chain }], guard := none }) (v := _) rfl (by kernel_rfl) (by kernel_rfl) (by kernel_rfl) (fun _ _ _ h => h) (by kernel_rfl) (Or.inl ⟨by rfl, ?hy227⟩) hS0 ?rest227
                case hy227 => (intro W hSw; go_simp; try (with_reducible rfl))
                try simp only [Act.put, List.setIfInBounds_toArray, List.set_cons_zero, List.set_cons_succ]
                refine' wpAnyD_take (i := 27) (oi := { dst := some 161, op := Go.Op.move (Go.Operand.tmp 8), type := 34, pos := "law.go:61", after := #[{ on := 26, ground := Go.Ground.guard }], guard := some (26, false) }) (v := _) rfl (by kernel_rfl) (by kernel_rfl) (by kernel_rfl) (fun _ _ _ h => h) (by kernel_rfl) (Or.inl ⟨by rfl, ?hy228⟩) hS0 ?rest228
                case hy228 => (intro W hSw; go_simp; try (with_reducible rfl))
                try simp only [Act.put, List.setIfInBounds_toArray, List.set_cons_zero, List.set_cons_succ]
                refine' wpAnyD_take (i := 28) (oi := { dst := some 162, op := Go.Op.binOp Go.BinOp.neq 34 (Go.Operand.tmp 161) (Go.Operand.const Go.Value.nilIface) 34, type := 4, pos := "law.go:61", after := #[{ on := 27, ground := Go.Ground.data }, { on := 26, ground := Go.Ground.guard }], guard := some (26, false) }) (v := _) rfl (by kernel_rfl) (by kernel_rfl) (by kernel_rfl) (fun _ _ _ h => h) (by kernel_rfl) (Or.inl ⟨by rfl, ?hy229⟩) hS0 ?rest229
                case hy229 => (intro W hSw; go_simp; try (with_reducible rfl))
                try simp only [Act.put, List.setIfInBounds_toArray, List.set_cons_zero, List.set_cons_succ]
                refine' wpAnyD_take (i := 29) (oi := { dst := some 163, op := Go.Op.move (Go.Operand.tmp 162), type := 4, pos := "law.go:61", after := #[{ on := 28, ground := Go.Ground.data }, { on := 26, ground := Go.Ground.chain }, { on := 26, ground := Go.Ground.guard }], guard := some (26, false) }) (v := _) rfl (by kernel_rfl) (by kernel_rfl) (by kernel_rfl) (fun _ _ _ h => h) (by kernel_rfl) (Or.inl ⟨by rfl, ?hy230⟩) hS0 ?rest230
                case hy230 => (intro W hSw; go_simp; try (with_reducible rfl))
                try simp only [Act.put, List.setIfInBounds_toArray, List.set_cons_zero, List.set_cons_succ]
                refine' wpAnyD_take (i := 30) (oi := { dst := some 164, op := Go.Op.move (Go.Operand.tmp 8), type := 34, pos := "law.go:61", after := #[{ on := 29, ground := Go.Ground.guard }], guard := some (29, true) }) (v := undef) rfl (by kernel_rfl) (by kernel_rfl) (by kernel_rfl) (fun _ _ _ h => h) (by kernel_rfl) (Or.inr ⟨by rfl, rfl⟩) hS0 ?rest231
                try simp only [Act.put, List.setIfInBounds_toArray, List.set_cons_zero, List.set_cons_succ]
                refine' wpAnyD_take (i := 31) (oi := { dst := some 165, op := Go.Op.load 28 (Go.Operand.tmp 3), type := 28, pos := "law.go:61", after := #[{ on := 29, ground := Go.Ground.guard }], guard := some (29, true) }) (v := undef) rfl (by kernel_rfl) (by kernel_rfl) (by kernel_rfl) (fun _ _ _ h => h) (by kernel_rfl) (Or.inr ⟨by rfl, rfl⟩) hS0 ?rest232
                try simp only [Act.put, List.setIfInBounds_toArray, List.set_cons_zero, List.set_cons_succ]
                refine' wpAnyD_take (i := 32) (oi := { dst := some 166, op := Go.Op.move (Go.Operand.tmp 2), type := 41, pos := "law.go:61", after := #[{ on := 29, ground := Go.Ground.guard }], guard := some (29, true) }) (v := undef) rfl (by kernel_rfl) (by kernel_rfl) (by kernel_rfl) (fun _ _ _ h => h) (by kernel_rfl) (Or.inr ⟨by rfl, rfl⟩) hS0 ?rest233
                try simp only [Act.put, List.setIfInBounds_toArray, List.set_cons_zero, List.set_cons_succ]
                refine' wpAnyD_take (i := 33) (oi := { dst := some 167, op := Go.Op.move (Go.Operand.tmp 14), type := 3, pos := "law.go:61", after := #[{ on := 29, ground := Go.Ground.guard }], guard := some (29, true) }) (v := undef) rfl (by kernel_rfl) (by kernel_rfl) (by kernel_rfl) (fun _ _ _ h => h) (by kernel_rfl) (Or.inr ⟨by rfl, rfl⟩) hS0 ?rest234
                try simp only [Act.put, List.setIfInBounds_toArray, List.set_cons_zero, List.set_cons_succ]
                refine' wpAnyD_take (i := 34) (oi := { dst := some 168, op := Go.Op.indexAddr 41 (Go.Operand.tmp 166) (Go.Operand.tmp 167), type := 0, pos := "law.go:61", after := #[{ on := 32, ground := Go.Ground.data }, { on := 33, ground := Go.Ground.data }, { on := 29, ground := Go.Ground.guard }], guard := some (29, true) }) (v := undef) rfl (by kernel_rfl) (by kernel_rfl) (by kernel_rfl) (fun _ _ _ h => h) (by kernel_rfl) (Or.inr ⟨by rfl, rfl⟩) hS0 ?rest235
                try simp only [Act.put, List.setIfInBounds_toArray, List.set_cons_zero, List.set_cons_succ]
                refine' wpAnyD_take (i := 35) (oi := { dst := some 169, op := Go.Op.load 50 (Go.Operand.tmp 168), type := 50, pos := "law.go:61", after := #[{ on := 34, ground := Go.Ground.data }, { on := 29, ground := Go.Ground.guard }], guard := some (29, true) }) (v := undef) rfl (by kernel_rfl) (by kernel_rfl) (by kernel_rfl) (fun _ _ _ h => h) (by kernel_rfl) (Or.inr ⟨by rfl, rfl⟩) hS0 ?rest236
                try simp only [Act.put, List.setIfInBounds_toArray, List.set_cons_zero, List.set_cons_succ]
                refine wpAnyD_one (i := 36) (o := { dst := some 170, op := Go.Op.call { callee := Go.Callee.value (Go.Operand.func 9), args := #[Go.Operand.tmp 164, Go.Operand.tmp 165, Go.Operand.tmp 169], argTypes := #[34, 28, 50] }, type := 4, pos := "law.go:61", after := #[{ on := 30, ground := Go.Ground.data }, { on := 31, ground := Go.Ground.data }, { on := 35, ground := Go.Ground.data }, { on := 29, ground := Go.Ground.chain }, { on := 29, ground := Go.Ground.guard }], guard := some (29, true) }) (by kernel_rfl) rfl (fun K hK => ?_)
                rw [if_neg (Bool.eq_false_iff.1 (by kernel_rfl))]
                refine hK.out _ _ (fun hD => hS0) ?_
                clear hK K
                try simp only [Act.put, List.setIfInBounds_toArray, List.set_cons_zero, List.set_cons_succ]
                refine' wpAnyD_take (i := 37) (oi := { dst := some 171, op := Go.Op.unOp Go.UnOp.not 4 (Go.Operand.tmp 170), type := 4, pos := "law.go:61", after := #[{ on := 36, ground := Go.Ground.data }, { on := 29, ground := Go.Ground.guard }], guard := some (29, true) }) (v := undef) rfl (by kernel_rfl) (by kernel_rfl) (by kernel_rfl) (fun _ _ _ h => h) (by kernel_rfl) (Or.inr ⟨by rfl, rfl⟩) hS0 ?rest238
                try simp only [Act.put, List.setIfInBounds_toArray, List.set_cons_zero, List.set_cons_succ]
                refine' wpAnyD_take (i := 38) (oi := { dst := some 172, op := Go.Op.pick (Go.Operand.tmp 163) (Go.Operand.tmp 171) (Go.Operand.const (Go.Value.bool false)), type := 4, pos := "law.go:61", after := #[{ on := 29, ground := Go.Ground.data }, { on := 37, ground := Go.Ground.data }, { on := 26, ground := Go.Ground.guard }], guard := some (26, false) }) (v := _) rfl (by kernel_rfl) (by kernel_rfl) (by kernel_rfl) (fun _ _ _ h => h) (by kernel_rfl) (Or.inl ⟨by rfl, ?hy239⟩) hS0 ?rest239
                case hy239 => (intro W hSw; go_simp; try (with_reducible rfl))
                try simp only [Act.put, List.setIfInBounds_toArray, List.set_cons_zero, List.set_cons_succ]
                refine' wpAnyD_take (i := 39) (oi := { dst := some 173, op := Go.Op.pick (Go.Operand.tmp 160) (Go.Operand.const (Go.Value.bool true)) (Go.Operand.tmp 172), type := 4, pos := "law.go:61", after := #[{ on := 26, ground := Go.Ground.data }, { on := 38, ground := Go.Ground.data }], guard := none }) (v := _) rfl (by kernel_rfl) (by kernel_rfl) (by kernel_rfl) (fun _ _ _ h => h) (by kernel_rfl) (Or.inl ⟨by rfl, ?hy240⟩) hS0 ?rest240
                case hy240 => (intro W hSw; go_simp; try (with_reducible rfl))
                try simp only [Act.put, List.setIfInBounds_toArray, List.set_cons_zero, List.set_cons_succ]
                refine wpAnyD_done (by kernel_rfl) ?_ _
                go_wp2_with fail
                exact ⟨⟨j + 1, by omega, by go_num, HD9.out.below hS0, ⟨trivial, trivial⟩⟩, by simp [RowKit.intOf]; omega⟩
              · have hltz : ¬ (j : Int) < (na : Int) := by omega
                go_wp2_with fail
                go_ret
                exact ⟨rfl, HD9.out.bl⟩
end Go.Proofs.Ytpnjpdnjapfjlaa.Cd
