import Derived.Test.YtnclnagpfjmlcaaDRnod2
namespace Go.Proofs.Ytnclnagpfjmlcaa.Df
open Go.RowKit Go.Sort Wi
attribute [local go_sem ↓] Go.wp_at_zero Go.wp_at_succ

/-- The document's node, any. -/
theorem rnode_any {x : NV} (hT : NodT x.n) (w : World) (hN : NR w.heap.size w x) (lc : x.n.code.length ≤ 140737488355328) (ld : x.n.conns.length ≤ 140737488355328) : Calls Try.prog 36 #[.agg x.cells] w (Nb w x.n) := by
  by_cases hk : x.n.kind < 1 ∨ 8 < x.n.kind
  · exact rnode20 hT w hN lc ld hk
  · have hk1 : ¬ x.n.kind < 1 := fun h => hk (Or.inl h)
    have hk8 : ¬ 8 < x.n.kind := fun h => hk (Or.inr h)
    cases hp : ports x.n with
    | false => exact rnode21 hT w hN lc ld hk1 hk8 hp
    | true =>
      cases hb : bare x.n with
      | false => exact rnode22 hT w hN lc ld hk1 hk8 hp hb
      | true =>
        by_cases hl : 16 < x.n.code.length ∨ 16 < x.n.conns.length
        · exact rnode2e hT w hN lc ld hk1 hk8 hp hb hl
        · have hc : x.n.code.length ≤ 16 := by omega
          have hd : x.n.conns.length ≤ 16 := by omega
          rcases (by omega : x.n.kind = 1 ∨ x.n.kind = 2 ∨ x.n.kind = 3 ∨ x.n.kind = 4 ∨ x.n.kind = 5 ∨ x.n.kind = 6 ∨ x.n.kind = 7 ∨ x.n.kind = 8) with h | h | h | h | h | h | h | h
          · exact rnode1' h hT w hN lc ld hp hb hc hd
          · exact rnode2' h hT w hN lc ld hp hb hc hd
          · exact rnode3' h hT w hN lc ld hp hb hc hd
          · exact rnode4' h hT w hN lc ld hp hb hc hd
          · exact rnode5' h hT w hN lc ld hp hb hc hd
          · exact rnode6' h hT w hN lc ld hp hb hc hd
          · exact rnode7' h hT w hN lc ld hp hb hc hd
          · exact rnode8' h hT w hN lc ld hp hb hc hd
/-- What stands while bytes are laid: blocks that stay, the bytes so far. -/
structure Rf (w W : World) (F : List (Nat × Obj)) (d : Value) (A : List UInt8) : Prop where
  bl : Below w.heap.size w W
  fx : ∀ p ∈ F, W.heap[p.1]? = some p.2 ∧ d.ownBlock ≠ some p.1
  row : W.ownsRow w.heap.size 5 1 d A.length (fl EB A)
section
variable {w W w2 w3 : World} {F : List (Nat × Obj)} {d v : Value} {A B : List UInt8}
theorem Rf.app (h : Rf w W F d A) (b2 : Below W.heap.size W w2) (h3 : w3.ownsRow w.heap.size 5 1 v (A ++ B).length (fl EB (A ++ B))) (k3 : Tn d v w2 w3) : Rf w w3 F v (A ++ B) := by
  have h4 := fun k hk => (owns_rd h.row k hk).1
  have h5 := h.bl.trans (b2.mono h.bl.size)
  refine ⟨h5.trans (k3.1.below h5.size h4), fun p hp => ?_, h3⟩
  obtain ⟨h6, h7⟩ := h.fx p hp
  have h8 := (Array.getElem?_eq_some_iff.1 h6).1
  refine ⟨(k3.1.block _ (Nat.lt_of_lt_of_le h8 b2.size) h7).trans ((b2.block _ h8).trans h6), fun e => ?_⟩
  rcases k3.2 _ e with h9 | h9
  · exact h7 h9
  · have := b2.size
    omega
theorem Rf.new (h : Rf w W F d A) (o : Obj) : Rf w (W.alloc o) ((W.heap.size, o) :: F) d A := by
  have hg := (Gr.refl W).alloc o
  refine ⟨h.bl.trans (hg.below.mono h.bl.size), fun p hp => ?_, owns_below h.row hg.below⟩
  rcases List.mem_cons.1 hp with rfl | hp
  · exact ⟨heap_alloc_new W o, fun e => by have := (owns_rd h.row _ e).2; simp at this⟩
  · obtain ⟨h6, h7⟩ := h.fx p hp
    exact ⟨(hg.below.block _ (Array.getElem?_eq_some_iff.1 h6).1).trans h6, h7⟩
theorem Rf.less {p : Nat × Obj} (h : Rf w W (p :: F) d A) : Rf w W F d A := ⟨h.bl, fun q hq => h.fx q (List.mem_cons_of_mem _ hq), h.row⟩
theorem Rf.at {b : Nat} {cs : Array Value} {t : TypeId} (h : Rf w W F d A) (hp : (b, Obj.cells cs t (0, 0)) ∈ F) : (∀ i, W.cell? ⟨b, i, none⟩ = cs[i]?) ∧ b < W.heap.size := by
  have h6 := (h.fx _ hp).1
  exact ⟨(tk_store h6).1, tk_lt h6⟩
end
theorem laid_bad {w W : World} {g : Gph} {k : Nat} (hb : Below w.heap.size w W) (he : egph g = k) (hk : k ≠ 0) : Laid w g (.returned (.tuple #[.slice none 0 0, .int .i64 (k : Nat)])) W := ⟨hb, _, by rw [he], Or.inr ⟨by rw [he]; exact hk, rfl⟩⟩
theorem Rf.laid {w W : World} {F : List (Nat × Obj)} {d : Value} {A : List UInt8} {g : Gph} (h : Rf w W F d A) (he : egph g = 0) (hA : A = bgph g) : Laid w g (.returned (.tuple #[d, .int .i64 0])) W := ⟨h.bl, d, by rw [he]; rfl, Or.inl ⟨he, by rw [← hA]; exact h.row⟩⟩
set_option maxRecDepth 100000 in
set_option maxHeartbeats 8000000 in
theorem rput_any {nv ev : Value} {a : Int} {xs : List NV} {es : List Edg} (hT : GphT (gof a xs es)) (w : World) (hG : GR w.heap.size w nv ev xs es) : Calls Try.prog 17 #[.agg (gvc a nv ev)] w (Laid w (gof a xs es)) := by
  have hmx : Try.prog.follows .mixedOrders = true := by kernel_rfl
  obtain ⟨pn, cn, hnv⟩ := hG.nodes.form
  obtain ⟨pe, ce, hev⟩ := hG.edges.form
  obtain ⟨nl, hnl⟩ : ∃ n, n = xs.length := ⟨_, rfl⟩
  obtain ⟨el, hel⟩ : ∃ n, n = es.length := ⟨_, rfl⟩
  rw [← hnl] at hnv
  rw [← hel] at hev
  subst hnv
  subst hev
  have HG := hid hG
  have HT := hid hT
  have HNL := hid hnl
  have HEL := hid hel
  clear hnl hel
  obtain ⟨W0, hW0⟩ : ∃ W, W = w.alloc (.cells (gvc a (.slice pn nl cn) (.slice pe el ce)) 25) := ⟨_, rfl⟩
  have G0 : Hid (Gr w W0 ∧ W0.heap[w.heap.size]? = some (.cells (gvc a (.slice pn nl cn) (.slice pe el ce)) 25 (0, 0))) := by
    rw [hW0]
    exact ⟨(Gr.refl w).alloc _, heap_new' _ _⟩
  have HW : Hid (w.alloc (.cells #[.int .i64 a, .slice pn nl cn, .slice pe el ce] 25) = W0) := hW0.symm
  have B0 := hid G0.out.1.below
  have c0 := (tk_store G0.out.2).1
  have l0 := tk_lt G0.out.2
  clear hG hT hW0
  go_enter Try.func17, Try.ntmps17
  go_upto_region 1 with fail
  rw [HW.out]
  clear HW
  by_cases hn : 24 < nl
  · have z1 : (24 : Int) < (nl : Int) := by omega
    have he : Hid (egph (gof a xs es) = 2) := by
      show egph _ = _
      have h1 := HNL.out
      unfold egph
      rw [if_pos (by simp; omega)]
    clear hn
    go_wp2_with fail
    refine bodyPost_ret (v := .tuple #[.slice none 0 0, .int .i64 2]) (by simp [results, Try.results17, go_sem]) rfl ?_
    exact laid_bad B0.out he.out (by decide)
  · have z1 : ¬ (24 : Int) < (nl : Int) := by omega
    by_cases hm : 48 < el
    · have z2 : (48 : Int) < (el : Int) := by omega
      have he : Hid (egph (gof a xs es) = 2) := by
        show egph _ = _
        have h1 := HNL.out
        have h2 := HEL.out
        unfold egph
        rw [if_neg (by simp; omega), if_pos (by simp; omega)]
      clear hn hm
      go_wp2_with fail
      refine bodyPost_ret (v := .tuple #[.slice none 0 0, .int .i64 2]) (by simp [results, Try.results17, go_sem]) rfl ?_
      exact laid_bad B0.out he.out (by decide)
    · have z2 : ¬ (48 : Int) < (el : Int) := by omega
      by_cases ha : a < 0
      · have he : Hid (egph (gof a xs es) = 10) := by
          show egph _ = _
          have h1 := HNL.out
          have h2 := HEL.out
          unfold egph
          rw [if_neg (by simp; omega), if_neg (by simp; omega), if_pos (by simpa using ha)]
        clear hn hm
        go_wp2_with fail
        refine bodyPost_ret (v := .tuple #[.slice none 0 0, .int .i64 10]) (by simp [results, Try.results17, go_sem]) rfl ?_
        exact laid_bad B0.out he.out (by decide)
      · have he : Hid (egph (gof a xs es) = if efirst enod (xs.map NV.n) ≠ 0 then efirst enod (xs.map NV.n) else efirst eedg es) := by
          show egph _ = _
          have h1 := HNL.out
          have h2 := HEL.out
          unfold egph
          rw [if_neg (by simp; omega), if_neg (by simp; omega), if_neg (by simpa using ha)]
        have hcv := u64_conv HT.out.1 (by show (0 : Int) ≤ a; omega)
        have hcn : IntKind.u64.wrap (nl : Int) = (nl : Int) := by rw [IntKind.wrap_u64]; omega
        have hce : IntKind.u64.wrap (el : Int) = (el : Int) := by rw [IntKind.wrap_u64]; omega
        have hle : Hid (nl ≤ 24 ∧ el ≤ 48 ∧ 0 ≤ a) := ⟨by omega, by omega, by omega⟩
        simp only at hcv
        clear hn hm
        go_wp2_with fail
        have hS0 : W0.drew.heap[w.heap.size]? = some (.cells (gvc a (.slice pn nl cn) (.slice pe el ce)) 25 (0, 0)) := G0.out.2
        refine wp_regionD (S := fun W => W.heap[w.heap.size]? = some (.cells (gvc a (.slice pn nl cn) (.slice pe el ce)) 25 (0, 0))) (D := []) hmx ?_
        refine' wpAnyD_take (i := 0) (oi := { dst := some 26, op := Go.Op.fieldAddr 25 (Go.Operand.tmp 1) 0, type := 0, pos := "ref.go:135", after := #[], guard := none }) (v := _) rfl (by kernel_rfl) (by kernel_rfl) (by kernel_rfl) (fun _ _ _ h => h) (by kernel_rfl) (Or.inl ⟨by rfl, ?hy1⟩) hS0 ?rest1
        case hy1 => (intro W hSw; go_simp; try (with_reducible rfl))
        try simp only [Act.put, List.setIfInBounds_toArray, List.set_cons_zero, List.set_cons_succ]
        refine' wpAnyD_take (i := 1) (oi := { dst := some 27, op := Go.Op.load 3 (Go.Operand.tmp 26), type := 3, pos := "ref.go:135", after := #[{ on := 0, ground := Go.Ground.data }], guard := none }) (v := _) rfl (by kernel_rfl) (by kernel_rfl) (by kernel_rfl) (fun _ _ _ h => h) (by kernel_rfl) (Or.inl ⟨by rfl, ?hy2⟩) hS0 ?rest2
        case hy2 => (intro W hSw; have hc := (tk_store hSw).1 0; have hl := tk_lt hSw; go_simp; try (with_reducible rfl))
        try simp only [Act.put, List.setIfInBounds_toArray, List.set_cons_zero, List.set_cons_succ]
        refine' wpAnyD_take (i := 2) (oi := { dst := some 28, op := Go.Op.convert 3 62 (Go.Operand.tmp 27), type := 62, pos := "ref.go:135", after := #[{ on := 1, ground := Go.Ground.data }], guard := none }) (v := _) rfl (by kernel_rfl) (by kernel_rfl) (by kernel_rfl) (fun _ _ _ h => h) (by kernel_rfl) (Or.inl ⟨by rfl, ?hy3⟩) hS0 ?rest3
        case hy3 => (intro W hSw; go_simp; try (with_reducible rfl))
        try simp only [Act.put, List.setIfInBounds_toArray, List.set_cons_zero, List.set_cons_succ]
        refine' wpAnyD_take (i := 4) (oi := { dst := some 30, op := Go.Op.fieldAddr 25 (Go.Operand.tmp 1) 1, type := 0, pos := "ref.go:135", after := #[], guard := none }) (v := _) rfl (by kernel_rfl) (by kernel_rfl) (by kernel_rfl) (fun _ _ _ h => h) (by kernel_rfl) (Or.inl ⟨by rfl, ?hy4⟩) hS0 ?rest4
        case hy4 => (intro W hSw; go_simp; try (with_reducible rfl))
        try simp only [Act.put, List.setIfInBounds_toArray, List.set_cons_zero, List.set_cons_succ]
        refine' wpAnyD_take (i := 5) (oi := { dst := some 31, op := Go.Op.load 22 (Go.Operand.tmp 30), type := 22, pos := "ref.go:135", after := #[{ on := 4, ground := Go.Ground.data }], guard := none }) (v := _) rfl (by kernel_rfl) (by kernel_rfl) (by kernel_rfl) (fun _ _ _ h => h) (by kernel_rfl) (Or.inl ⟨by rfl, ?hy5⟩) hS0 ?rest5
        case hy5 => (intro W hSw; have hc := (tk_store hSw).1 1; have hl := tk_lt hSw; go_simp; try (with_reducible rfl))
        try simp only [Act.put, List.setIfInBounds_toArray, List.set_cons_zero, List.set_cons_succ]
        refine' wpAnyD_take (i := 6) (oi := { dst := some 32, op := Go.Op.call { callee := Go.Callee.builtin Go.Builtin.len, args := #[Go.Operand.tmp 31], argTypes := #[22] }, type := 3, pos := "ref.go:135", after := #[{ on := 5, ground := Go.Ground.data }], guard := none }) (v := _) rfl (by kernel_rfl) (by kernel_rfl) (by kernel_rfl) (fun _ _ _ h => h) (by kernel_rfl) (Or.inl ⟨by rfl, ?hy6⟩) hS0 ?rest6
        case hy6 => (intro W hSw; go_simp; try (with_reducible rfl))
        try simp only [Act.put, List.setIfInBounds_toArray, List.set_cons_zero, List.set_cons_succ]
        refine' wpAnyD_take (i := 7) (oi := { dst := some 33, op := Go.Op.convert 3 62 (Go.Operand.tmp 32), type := 62, pos := "ref.go:135", after := #[{ on := 6, ground := Go.Ground.data }], guard := none }) (v := _) rfl (by kernel_rfl) (by kernel_rfl) (by kernel_rfl) (fun _ _ _ h => h) (by kernel_rfl) (Or.inl ⟨by rfl, ?hy7⟩) hS0 ?rest7
        case hy7 => (intro W hSw; go_simp; try (with_reducible rfl))
        try simp only [Act.put, List.setIfInBounds_toArray, List.set_cons_zero, List.set_cons_succ]
        refine wpAnyD_one (i := 3) (o := { dst := some 29, op := Go.Op.call { callee := Go.Callee.value (Go.Operand.func 35), args := #[Go.Operand.tmp 28], argTypes := #[62] }, type := 26, pos := "ref.go:135", after := #[{ on := 2, ground := Go.Ground.data }], guard := none }) (by kernel_rfl) rfl (fun K hK => ?_)
        go_simp
        refine (rint_any HT.out.1 hle.out.2.2 _).mono ?_
        rintro r w1 ⟨b1, d1, rfl, h1⟩
        have hS1 := (b1.block _ (tk_lt hS0)).trans hS0
        have P1 := hid (And.intro b1 h1)
        clear b1 h1
        go_wp2_with fail
        refine hK.out _ _ (fun hD => hS1) ?_
        clear hK K
        try simp only [Act.put, List.setIfInBounds_toArray, List.set_cons_zero, List.set_cons_succ]
        refine wpAnyD_one (i := 8) (o := { dst := some 34, op := Go.Op.call { callee := Go.Callee.value (Go.Operand.func 35), args := #[Go.Operand.tmp 33], argTypes := #[62] }, type := 26, pos := "ref.go:135", after := #[{ on := 7, ground := Go.Ground.data }, { on := 3, ground := Go.Ground.chain }], guard := none }) (by kernel_rfl) rfl (fun K hK => ?_)
        go_simp
        refine (rnumber_any nl (by have := hle.out.1; omega) _).mono ?_
        rintro r w2 ⟨b2, d2, rfl, h2⟩
        have hS2 := (b2.block _ (tk_lt hS1)).trans hS1
        have P2 := hid (And.intro b2 h2)
        clear b2 h2
        go_wp2_with fail
        refine hK.out _ _ (fun hD => hS2) ?_
        clear hK K
        try simp only [Act.put, List.setIfInBounds_toArray, List.set_cons_zero, List.set_cons_succ]
        refine wpAnyD_one (i := 9) (o := { dst := some 35, op := Go.Op.call { callee := Go.Callee.builtin Go.Builtin.append, args := #[Go.Operand.tmp 29, Go.Operand.tmp 34], argTypes := #[26, 26] }, type := 26, pos := "ref.go:135", after := #[{ on := 3, ground := Go.Ground.data }, { on := 8, ground := Go.Ground.data }, { on := 8, ground := Go.Ground.chain }], guard := none }) (by kernel_rfl) rfl (fun K hK => ?_)
        refine step_appL EB Try.underlying26 infoB rfl (by decide) rfl _ _ rfl W0.drew.heap.size d1 (bint a).length (fl EB (bint a)) rfl (owns_below P1.out.2 P2.out.1) (Nat.le_trans P1.out.1.size P2.out.1.size) d2 (form nl) rfl (owns_ls (E := EB) P2.out.2) (by have h1 := bint_len HT.out.1; have h2 := form_ten (v := nl) (by have := hle.out.1; omega); simp only at h1; omega) (by have h1 := bint_len HT.out.1; have h2 := form_ten (v := nl) (by have := hle.out.1; omega); simp only at h1; unfold maxLen; omega) ?_
        intro v3 w3 h3 k3
        have K3 := hid (Kp.grownBy (S := fun k => d1.ownBlock = some k) k3.out (fun _ h => h))
        have hS3 := (K3.out.block _ (tk_lt hS2) (fun e => by have := (owns_rd P1.out.2 _ e).1; have := tk_lt hS0; omega)).trans hS2
        have hsz := tk_lt hS0
        obtain ⟨A3, hA3⟩ : ∃ A : List UInt8, A = bint a ++ form nl := ⟨_, rfl⟩
        have O3 : Hid (w3.ownsRow W0.drew.heap.size 5 1 v3 A3.length (fl EB A3)) := by
          rw [hA3]
          exact owns_re h3.out (by simp) (by rw [fl_append])
        have R3 : Hid (Rf w w3 [(w.heap.size, .cells (gvc a (.slice pn nl cn) (.slice pe el ce)) 25 (0, 0))] v3 A3) := by
          have h1 := B0.out.trans (((Gr.refl W0).drew.below.trans P1.out.1).mono B0.out.size)
          have h2 := h1.trans (P2.out.1.mono h1.size)
          refine ⟨h2.trans (K3.out.below h2.size (fun k hk => by have := (owns_rd P1.out.2 k hk).1; omega)), fun p hp => ?_, owns_base O3.out (by omega)⟩
          rw [List.mem_singleton] at hp
          subst hp
          exact ⟨hS3, fun e => by have := (owns_rd O3.out _ e).1; omega⟩
        have HA3 := hid hA3
        have LA3 : Hid (A3.length ≤ 20) := by
          show _ ≤ _
          have h1 := bint_len HT.out.1
          have h2 := form_ten (v := nl) (by have := hle.out.1; omega)
          simp only at h1
          rw [hA3, List.length_append]
          omega
        clear k3 hA3 h3 hsz
        refine hK.out _ _ (fun hD => hS3) ?_
        clear hK K
        try simp only [Act.put, List.setIfInBounds_toArray, List.set_cons_zero, List.set_cons_succ]
        refine' wpAnyD_take (i := 10) (oi := { dst := some 4, op := Go.Op.assign (Go.Operand.tmp 35), type := 26, pos := "ref.go:135", after := #[{ on := 9, ground := Go.Ground.data }, { on := 9, ground := Go.Ground.chain }, { on := 0, ground := Go.Ground.phase }, { on := 1, ground := Go.Ground.phase }, { on := 2, ground := Go.Ground.phase }, { on := 3, ground := Go.Ground.phase }, { on := 4, ground := Go.Ground.phase }, { on := 5, ground := Go.Ground.phase }, { on := 6, ground := Go.Ground.phase }, { on := 7, ground := Go.Ground.phase }, { on := 8, ground := Go.Ground.phase }, { on := 9, ground := Go.Ground.phase }], guard := none }) (v := _) rfl (by kernel_rfl) (by kernel_rfl) (by kernel_rfl) (fun _ _ _ h => h) (by kernel_rfl) (Or.inl ⟨by rfl, ?hy11⟩) hS3 ?rest11
        case hy11 => (intro W hSw; go_simp; try (with_reducible rfl))
        try simp only [Act.put, List.setIfInBounds_toArray, List.set_cons_zero, List.set_cons_succ]
        refine wpAnyD_done (by kernel_rfl) ?_ _
        clear hS0 hS1 hS2 hS3 P1 P2 K3 O3 c0 l0 G0
        obtain ⟨c3, l3⟩ := R3.out.at (List.mem_singleton.2 rfl)
        go_wp2_with fail
        go_loopw [4, 39] (fun s4 s39 wr => ∃ (j : Nat) (A : List UInt8), j ≤ nl ∧ s39 = .int .i64 (j : Nat) ∧ Hid (Rf w wr [(w.heap.size, .cells (gvc a (.slice pn nl cn) (.slice pe el ce)) 25 (0, 0))] s4 A ∧ A = A3 ++ ((xs.take j).map NV.n).flatMap bnod ∧ (∀ y ∈ xs.take j, enod y.n = 0) ∧ A.length ≤ 20 + 2000 * j)) (fun _ s39 _ => nl - (RowKit.intOf s39).toNat)
        case atStart => exact ⟨0, A3, Nat.zero_le _, rfl, R3.out, by simp, fun y hy => (by simp at hy), by have := LA3.out; omega⟩
        case round =>
          clear R3 c3 l3
          obtain ⟨j, A, hj, rfl, HI⟩ := hrel
          obtain ⟨c3, l3⟩ := HI.out.1.at (List.mem_singleton.2 rfl)
          by_cases hlt : j < nl
          · have hltz : (j : Int) < (nl : Int) := by omega
            obtain ⟨y, hy⟩ : ∃ y, xs[j]? = some y := ⟨xs[j]'(by have := HNL.out; omega), by simp⟩
            have hym := List.mem_of_getElem? hy
            have hTy := HT.out.2.1 y.n (List.mem_map.2 ⟨y, hym, rfl⟩)
            obtain ⟨b1, o1, q1, ev1, zz1, x0, x1, x2, x3, x4, x5, x6, x7, x8, x9⟩ := ls_atV ((HG.out.nodes.below HI.out.1.bl).ls hy) hy
            simp only [Value.slice.injEq] at ev1
            obtain ⟨rfl, -, rfl⟩ := ev1
            have R4 := hid (HI.out.1.new (.cells y.cells 67))
            have NRy : Hid (NR (wr.alloc (.cells y.cells 67)).heap.size (wr.alloc (.cells y.cells 67)) y) := by
              have h1 := HG.out.each y hym
              have h2 := R4.out.bl
              exact ⟨(h1.code.below h2).up h2.size, (h1.conns.below h2).up h2.size⟩
            have hbg := hid (HG.out.big y hym)
            have HY := hid hy
            clear hy hym
            go_wp2_with fail
            refine (rnode_any hTy _ NRy.out hbg.out.1 hbg.out.2).mono ?_
            rintro r w5 ⟨b5, d5, rfl, h5⟩
            have HB5 := hid b5
            clear x0 x1 x2 x3 x4 x5 x6 x7 x8 x9 zz1 b5
            by_cases e0 : enod y.n = 0
            · have h5 := (h5.resolve_right (fun h => h.1 e0)).2
              rw [e0]
              obtain ⟨Bn, hBn⟩ : ∃ B : List UInt8, B = bnod y.n := ⟨_, rfl⟩
              rw [← hBn] at h5
              have lBn : Hid (Bn.length ≤ 2000) := by
                show _ ≤ _
                rw [hBn]
                have h6 := e0
                unfold enod at h6
                have hc : ¬ (16 < y.n.code.length ∨ 16 < y.n.conns.length) := fun h => by
                  split at h6
                  · cases h6
                  · split at h6
                    · cases h6
                    · split at h6
                      · cases h6
                      · cases h6
                exact bnod_len hTy (by omega) (by omega)
              have HBn := hid hBn
              have O5 := hid (owns_below R4.out.less.row HB5.out)
              have D5 := hid (owns_ls (E := EB) h5)
              have E0 := hid e0
              have LA4 : Hid (A.length ≤ 50000) := by show _ ≤ _; have := HI.out.2.2.2; have := hle.out.1; omega
              clear h5 hBn c3 l3 e0
              go_wp2_with (at_builtin; refine wpBL rfl _ _ rfl w.heap.size _ A rfl O5.out _ Bn rfl (Or.inl D5.out) (by have := lBn.out; have := LA4.out; omega) (Nat.le_trans R4.out.bl.size HB5.out.size) ?_)
              intro d6 w6 h6 k6
              have R6 := hid (R4.out.less.app (B := Bn) HB5.out (owns_re h6.out (by simp) rfl) k6.out)
              clear h6 k6 O5 D5
              obtain ⟨A6, hA6⟩ : ∃ A' : List UInt8, A' = A ++ Bn := ⟨_, rfl⟩
              rw [← hA6] at R6
              have HA6 := hid hA6
              clear hA6
              go_wp2_with fail
              go_roundw
              case rel =>
                refine ⟨j + 1, A6, by omega, by go_num, R6.out, ?_, take_all HY.out HI.out.2.2.1 E0.out, ?_⟩
                · rw [HA6.out, HBn.out, HI.out.2.1, List.append_assoc]
                  congr 1
                  have h7 := take_flat (fun z : NV => bnod z.n) HY.out
                  rw [List.flatMap_map, List.flatMap_map]
                  exact h7.symm
                · have h7 := HI.out.2.2.2
                  have h8 := lBn.out
                  rw [HA6.out, List.length_append]
                  omega
              case measure => simp [RowKit.intOf]; omega
            · have hd5 := (h5.resolve_left (fun h => e0 h.1)).2
              subst hd5
              have he2 : Hid (egph (gof a xs es) = enod y.n) := by
                show egph _ = _
                have h7 : efirst enod (xs.map NV.n) = enod y.n := efirst_take enod (xs.map NV.n) j y.n (fun z hz => by
                  rw [← List.map_take] at hz
                  obtain ⟨q, hq, rfl⟩ := List.mem_map.1 hz
                  exact HI.out.2.2.1 q hq) (by rw [List.getElem?_map, HY.out]; rfl) e0
                rw [he.out, h7, if_pos e0]
              have hz : ((enod y.n : Int) == 0) = false := by simp; omega
              have hz' : ¬ (enod y.n : Int) = 0 := by omega
              have B5 := hid (R4.out.bl.trans (HB5.out.mono R4.out.bl.size))
              have E0 := hid e0
              obtain ⟨k5, hk5⟩ : ∃ k, k = enod y.n := ⟨_, rfl⟩
              rw [← hk5] at he2 hz hz' E0 ⊢
              clear c3 l3 hk5 e0 h5
              go_wp2_with fail
              refine bodyPost_ret (v := .tuple #[.slice none 0 0, .int .i64 (k5 : Nat)]) (by simp [results, Try.results17, go_sem]) rfl ?_
              exact laid_bad B5.out he2.out E0.out
          · have hltz : ¬ (j : Int) < (nl : Int) := by omega
            have hjl : j = xs.length := by have := HNL.out; omega
            have HT2 : Hid (A = A3 ++ (xs.map NV.n).flatMap bnod ∧ ∀ y ∈ xs, enod y.n = 0) := by
              have h1 := HI.out.2.1
              have h2 := HI.out.2.2.1
              rw [hjl, List.take_length] at h1 h2
              exact ⟨h1, h2⟩
            have R7 := hid HI.out.1
            have LA7 : Hid (A.length ≤ 50000) := by show _ ≤ _; have := HI.out.2.2.2; have := hle.out.1; omega
            have he2 : Hid (egph (gof a xs es) = efirst eedg es) := by
              show egph _ = _
              rw [he.out, if_neg]
              intro h
              apply h
              rw [efirst_ok]
              intro z hz
              obtain ⟨q, hq, rfl⟩ := List.mem_map.1 hz
              exact HT2.out.2 q hq
            clear HI hjl
            go_wp2_with fail
            refine (rnumber_any el (by have := hle.out.2.1; omega) _).mono ?_
            rintro r w8 ⟨b8, d8, rfl, h8⟩
            obtain ⟨B8, hB8⟩ : ∃ B : List UInt8, B = form el := ⟨_, rfl⟩
            rw [← hB8] at h8
            have lB8 : Hid (B8.length ≤ 10) := by show _ ≤ _; rw [hB8]; exact form_ten (by have := hle.out.2.1; omega)
            have HB8 := hid hB8
            have O8 := hid (owns_below R7.out.row b8)
            have D8 := hid (owns_ls (E := EB) h8)
            have Ba8 := hid b8
            clear h8 b8 hB8 c3 l3
            go_wp2_with (at_builtin; refine wpBL rfl _ _ rfl w.heap.size _ A rfl O8.out _ B8 rfl (Or.inl D8.out) (by have := lB8.out; have := LA7.out; omega) (Nat.le_trans R7.out.bl.size Ba8.out.size) ?_)
            intro d9 w9 h9 k9
            have R9 : Hid (Rf w w9 [(w.heap.size, .cells (gvc a (.slice pn nl cn) (.slice pe el ce)) 25 (0, 0))] d9 (A ++ B8)) := R7.out.app Ba8.out (owns_re h9.out (by simp) rfl) k9.out
            obtain ⟨A9, hA9⟩ : ∃ A' : List UInt8, A' = A ++ B8 := ⟨_, rfl⟩
            rw [← hA9] at R9
            have HA9 := hid hA9
            have LA9 : Hid (A9.length ≤ 50010) := by show _ ≤ _; have := lB8.out; have := LA7.out; rw [hA9, List.length_append]; omega
            clear hA9 h9 k9 O8 D8 Ba8 R7
            obtain ⟨c9, l9⟩ := R9.out.at (List.mem_singleton.2 rfl)
            go_wp2_with fail
            go_loopw [4, 65] (fun s4 s65 wr => ∃ (j : Nat) (A : List UInt8), j ≤ el ∧ s65 = .int .i64 (j : Nat) ∧ Hid (Rf w wr [(w.heap.size, .cells (gvc a (.slice pn nl cn) (.slice pe el ce)) 25 (0, 0))] s4 A ∧ A = A9 ++ (es.take j).flatMap bedg ∧ (∀ y ∈ es.take j, eedg y = 0) ∧ A.length ≤ 50010 + 50 * j)) (fun _ s65 _ => el - (RowKit.intOf s65).toNat)
            case atStart => exact ⟨0, A9, Nat.zero_le _, rfl, R9.out, by simp, fun y hy => (by simp at hy), by have := LA9.out; omega⟩
            case round =>
              clear R9 c9 l9
              obtain ⟨j2, A2, hj2, rfl, HJ⟩ := hrel
              obtain ⟨c9, l9⟩ := HJ.out.1.at (List.mem_singleton.2 rfl)
              by_cases hlt2 : j2 < el
              · have hltz2 : (j2 : Int) < (el : Int) := by omega
                obtain ⟨y, hy⟩ : ∃ y, es[j2]? = some y := ⟨es[j2]'(by have := HEL.out; omega), by simp⟩
                have hTy := HT.out.2.2 y (List.mem_of_getElem? hy)
                obtain ⟨b1, o1, q1, ev1, zz1, x0, x1, x2, x3, x4⟩ := ls_atD ((HG.out.edges.below HJ.out.1.bl).ls hy) hy
                simp only [Value.slice.injEq] at ev1
                obtain ⟨rfl, -, rfl⟩ := ev1
                have HY := hid hy
                have R10 := (HJ.out.1.new (.cells #[.int .i64 y.src, .int .i64 y.out, .int .i64 y.dst, .int .i64 y.inn, .bool y.keyed] 69)).new (.cells #[.int .i64 y.src, .int .i64 y.out, .int .i64 y.dst, .int .i64 y.inn] 3)
                rw [show (wr.alloc (.cells #[.int .i64 y.src, .int .i64 y.out, .int .i64 y.dst, .int .i64 y.inn, .bool y.keyed] 69)).heap.size = wr.heap.size + 1 by simp] at R10
                obtain ⟨eb, heb⟩ : ∃ eb, eb = wr.heap.size := ⟨_, rfl⟩
                obtain ⟨W10, hW10⟩ : ∃ W, W = (wr.alloc (.cells #[.int .i64 y.src, .int .i64 y.out, .int .i64 y.dst, .int .i64 y.inn, .bool y.keyed] 69)).alloc (.cells #[.int .i64 y.src, .int .i64 y.out, .int .i64 y.dst, .int .i64 y.inn] 3) := ⟨_, rfl⟩
                rw [← heb, ← hW10] at R10
                have HEB := hid heb
                have HW10 := hid hW10.symm
                have RH := hid R10
                have LA10 : Hid (A2.length ≤ 60000) := by show _ ≤ _; have := HJ.out.2.2.2; have := hle.out.2.1; omega
                obtain ⟨l4, hl4⟩ : ∃ l, l = [y.src, y.out, y.dst, y.inn] := ⟨_, rfl⟩
                have HL4 := hid hl4
                have HI4 : Hid (∀ z ∈ l4, I64 z) := by
                  intro z hz
                  rw [hl4] at hz
                  simp at hz
                  rcases hz with rfl | rfl | rfl | rfl
                  · exact hTy.1
                  · exact hTy.2.1
                  · exact hTy.2.2.1
                  · exact hTy.2.2.2
                clear hy heb hW10 R10 hl4
                go_upto_region 19 with fail
                rw [HW10.out, ← HEB.out]
                clear HW10 HEB x0 x1 x2 x3 x4 zz1 c9 l9
                go_loopw [4, 79] (fun s4 s79 wi => ∃ (i : Nat) (A' : List UInt8), i ≤ 4 ∧ s79 = .int .i64 (i : Nat) ∧ Hid (Rf w wi [(eb + 1, .cells #[.int .i64 y.src, .int .i64 y.out, .int .i64 y.dst, .int .i64 y.inn] 3 (0, 0)), (eb, .cells #[.int .i64 y.src, .int .i64 y.out, .int .i64 y.dst, .int .i64 y.inn, .bool y.keyed] 69 (0, 0)), (w.heap.size, .cells (gvc a (.slice pn nl cn) (.slice (some ⟨b1, o1, none⟩) el ce)) 25 (0, 0))] s4 A' ∧ A' = A2 ++ (l4.take i).flatMap bint ∧ (∀ z ∈ l4.take i, 0 ≤ z) ∧ A'.length ≤ 60000 + 10 * i)) (fun _ s79 _ => 4 - (RowKit.intOf s79).toNat)
                case atStart => exact ⟨0, A2, Nat.zero_le _, rfl, RH.out, by simp, fun y hy => (by simp at hy), by have := LA10.out; omega⟩
                case round =>
                  clear RH
                  obtain ⟨i, A4, hi, rfl, HK⟩ := hrel
                  by_cases hlt3 : i < 4
                  · have hltz3 : (i : Int) < 4 := by omega
                    obtain ⟨z, hz, hcz⟩ : ∃ z, l4[i]? = some z ∧ wr.cell? ⟨eb + 1, i, none⟩ = some (.int .i64 z) := by
                      have h := (HK.out.1.at (b := eb + 1) (List.mem_cons_self ..)).1 i
                      rw [HL4.out]
                      rcases (by omega : i = 0 ∨ i = 1 ∨ i = 2 ∨ i = 3) with rfl | rfl | rfl | rfl <;> exact ⟨_, rfl, h⟩
                    have hlz := (HK.out.1.at (b := eb + 1) (List.mem_cons_self ..)).2
                    have hTz := HI4.out z (List.mem_of_getElem? hz)
                    have HZ := hid hz
                    clear hz
                    by_cases hneg : z < 0
                    · have e25 : eedg y = 25 := by
                        have hm := List.mem_of_getElem? HZ.out
                        rw [HL4.out] at hm
                        simp at hm
                        unfold eedg
                        rw [if_pos]
                        rcases hm with h | h | h | h <;> omega
                      have he3 : Hid (egph (gof a xs es) = 25) := by
                        show egph _ = _
                        rw [he2.out, efirst_take eedg es j2 y HJ.out.2.2.1 HY.out (by rw [e25]; decide), e25]
                      have B11 := hid HK.out.1.bl
                      clear e25
                      go_wp2_with fail
                      refine bodyPost_ret (v := .tuple #[.slice none 0 0, .int .i64 25]) (by simp [results, Try.results17, go_sem]) rfl ?_
                      exact laid_bad B11.out he3.out (by decide)
                    · have hv1 := u64_conv hTz (by omega : 0 ≤ z)
                      obtain ⟨B11, hB11⟩ : ∃ B : List UInt8, B = bint z := ⟨_, rfl⟩
                      have lB11 : Hid (B11.length ≤ 10) := by show _ ≤ _; rw [hB11]; exact bint_len hTz
                      have HB11 := hid hB11
                      clear hB11
                      go_wp2_with fail
                      refine (rint_any hTz (by omega) _).mono ?_
                      rintro r wa11 ⟨ba, da, rfl, ha⟩
                      rw [← HB11.out] at ha
                      have Oa := hid (owns_below HK.out.1.row ba)
                      have Da := hid (owns_ls (E := EB) ha)
                      have Ba := hid ba
                      have LA11 : Hid (A4.length ≤ 60040) := by show _ ≤ _; have := HK.out.2.2.2; omega
                      clear ba ha hcz hlz
                      go_wp2_with (at_builtin; refine wpBL rfl _ _ rfl w.heap.size _ A4 rfl Oa.out _ B11 rfl (Or.inl Da.out) (by have := lB11.out; have := LA11.out; omega) (Nat.le_trans HK.out.1.bl.size Ba.out.size) ?_)
                      intro d12 w12 h12 k12
                      have R12 := hid (HK.out.1.app (B := B11) Ba.out (owns_re h12.out (by simp) rfl) k12.out)
                      obtain ⟨A12, hA12⟩ : ∃ A' : List UInt8, A' = A4 ++ B11 := ⟨_, rfl⟩
                      rw [← hA12] at R12
                      have HA12 := hid hA12
                      clear hA12 h12 k12 Oa Da Ba
                      go_wp2_with fail
                      go_roundw
                      case rel =>
                        refine ⟨i + 1, A12, by omega, by go_num, R12.out, ?_, take_all HZ.out HK.out.2.2.1 (by omega), ?_⟩
                        · rw [HA12.out, HB11.out, HK.out.2.1, List.append_assoc, take_flat bint HZ.out]
                        · have h7 := HK.out.2.2.2
                          have h8 := lB11.out
                          rw [HA12.out, List.length_append]
                          omega
                      case measure => simp [RowKit.intOf]; omega
                  · have hltz3 : ¬ (i : Int) < 4 := by omega
                    have hi4 : i = 4 := by omega
                    have HE : Hid (A4 = A2 ++ l4.flatMap bint ∧ eedg y = 0) := by
                      have h1 := HK.out.2.1
                      have h2 := HK.out.2.2.1
                      rw [hi4, HL4.out] at h1 h2
                      refine ⟨by rw [HL4.out]; exact h1, ?_⟩
                      simp at h2
                      unfold eedg
                      rw [if_neg (by omega)]
                    have R13 := hid HK.out.1
                    have LA13 : Hid (A4.length ≤ 60040) := by show _ ≤ _; have := HK.out.2.2.2; omega
                    obtain ⟨c13, l13⟩ := R13.out.at (b := eb) (List.mem_cons_of_mem _ (List.mem_cons_self ..))
                    obtain ⟨B14, hB14⟩ : ∃ B : List UInt8, B = btruth y.keyed := ⟨_, rfl⟩
                    have lB14 : Hid (B14.length ≤ 1) := by show _ ≤ _; rw [hB14]; simp [btruth]
                    have HB14 := hid hB14
                    clear hB14 HK hi4
                    go_wp2_with fail
                    refine (rtruth_any y.keyed _).mono ?_
                    rintro r wa14 ⟨ba, da, rfl, ha⟩
                    rw [← HB14.out] at ha
                    have Oa := hid (owns_below R13.out.row ba)
                    have Da := hid (owns_ls (E := EB) ha)
                    have Ba := hid ba
                    clear ba ha c13 l13
                    go_wp2_with (at_builtin; refine wpBL rfl _ _ rfl w.heap.size _ A4 rfl Oa.out _ B14 rfl (Or.inl Da.out) (by have := lB14.out; have := LA13.out; omega) (Nat.le_trans R13.out.bl.size Ba.out.size) ?_)
                    intro d15 w15 h15 k15
                    have R15 := hid ((R13.out.less.less).app (B := B14) Ba.out (owns_re h15.out (by simp) rfl) k15.out)
                    obtain ⟨A15, hA15⟩ : ∃ A' : List UInt8, A' = A4 ++ B14 := ⟨_, rfl⟩
                    rw [← hA15] at R15
                    have HA15 := hid hA15
                    clear hA15 h15 k15 Oa Da Ba R13
                    have HB15 : Hid (A15 = A2 ++ bedg y) := by
                      show _ = _
                      rw [HA15.out, HE.out.1, HB14.out, HL4.out, List.append_assoc]
                      congr 1
                      simp [bedg]
                    go_wp2_with fail
                    go_roundw
                    case rel =>
                      refine ⟨j2 + 1, A15, by omega, by go_num, R15.out, ?_, take_all HY.out HJ.out.2.2.1 HE.out.2, ?_⟩
                      · rw [HB15.out, HJ.out.2.1, List.append_assoc, take_flat bedg HY.out]
                      · have h7 := HJ.out.2.2.2
                        have h8 := bedg_len hTy
                        rw [HB15.out, List.length_append]
                        omega
                    case measure => simp [RowKit.intOf]; omega
              · have hltz2 : ¬ (j2 : Int) < (el : Int) := by omega
                have hjl : j2 = es.length := by have := HEL.out; omega
                have HE : Hid (A2 = A9 ++ es.flatMap bedg ∧ ∀ y ∈ es, eedg y = 0) := by
                  have h1 := HJ.out.2.1
                  have h2 := HJ.out.2.2.1
                  rw [hjl, List.take_length] at h1 h2
                  exact ⟨h1, h2⟩
                have R20 := hid HJ.out.1
                have he4 : Hid (egph (gof a xs es) = 0) := by
                  show egph _ = _
                  rw [he2.out, efirst_ok]
                  exact HE.out.2
                clear HJ hjl
                go_wp2_with fail
                refine bodyPost_ret (v := .tuple #[u4, .int .i64 0]) (by simp [results, Try.results17, go_sem]) rfl ?_
                exact R20.out.laid he4.out (by rw [HE.out.1, HA9.out, HT2.out.1, HA3.out, HB8.out, HNL.out, HEL.out]; simp [bgph, blst])
end Go.Proofs.Ytnclnagpfjmlcaa.Df
