import Derived.Test.YtghpekkncfckaaaCaRef
namespace Go.Proofs.Ytghpekkncfckaaa.Ca
open Go.RowKit Go.Sort
attribute [local go_sem ↓] Go.wp_at_zero Go.wp_at_succ
/-- 'append(own, nil...)'. -/
theorem wpAppNil {P : Program} {α : Type} (E : El α) {w : World} {ops : Array Oper} {rest : List Oper} {o : Oper} {a : Act} {Q : Exit → Act → World → Prop} {e sT : TypeId} {z : Value} {bt : Nat} (hu : P.underlying sT = some (.slice e)) (hI : (P.info? e).map (fun i => (i.zero, i.size, i.bytes)) = some (some z, E.k, bt))
    (hgd : o.guard = none) (s x : Operand) (ho : o.op = .call { callee := .builtin .append, args := #[s, x], argTypes := #[sT, sT] })
    (base : Nat) (v : Value) (n : Nat) (xs : List Value) (hs : a.eval s = v) (hown : w.ownsRow base e E.k v n xs) (hx : a.eval x = .slice none 0 0)
    (h : wpList P ops Q rest (a.put o.dst v) w) : wpList P ops Q (o :: rest) a w := by
  obtain ⟨i0, hi, hz0, hz1, hz2⟩ := info_parts hI
  exact wpList_append_own_none hgd s x _ ho base e i0 E.k hu hi v n xs hs hown hx h
set_option maxHeartbeats 4000000 in
set_option maxRecDepth 100000 in
theorem rupto_any {S : Nat → Prop} {rb : Nat} {M : List Ct} (t : T3) (w : World) (h : Rp w S rb M) (hl : M.length * 40 ≤ 140737488355328) :
    Calls Try.prog 21 #[.pointer (some ⟨rb, 0, none⟩), tv t] w fun e w' => ∃ p n c, e = .returned (.slice p n c) ∧ Hid (Tld w (M.filter fun x => bel x.t t) (.slice p n c) w' ∧ n = (M.filter fun x => bel x.t t).length) := by
  have hmx : Try.prog.follows .mixedOrders = true := by kernel_rfl
  obtain ⟨v, h1, -, h3, -, -⟩ := h
  obtain ⟨pv, cv0, rfl⟩ := own_form h3
  obtain ⟨n, hn⟩ : ∃ n, n = M.length := ⟨_, rfl⟩
  rw [← hn] at h1 h3 hl
  have HN := hid hn
  have hnb : n ≤ 3518437208883 := by omega
  obtain ⟨W1, hW1⟩ : ∃ W1, W1 = w.alloc (.cells #[.int .u64 t.1, .int .u64 t.2.1, .int .u64 t.2.2] 25) := ⟨_, rfl⟩
  have G1 : Gr w W1 := by rw [hW1]; exact (Gr.refl _).alloc _
  have HB : Hid (W1.heap[rb]? = some (.cells #[.slice pv n cv0] 54 (0, 0))) := (G1.below.block rb (tk_lt h1)).trans h1
  have HO : Hid (Ls EC W1 (.slice pv n cv0) M) := owns_ls (E := EC) (ts := M) (by rw [← hn]; exact owns_below h3 G1.below)
  have HG1 := hid G1
  obtain ⟨B, hB⟩ : ∃ B, B = w.heap.size := ⟨_, rfl⟩
  have HX : Hid ((Tc W1 B 0 t) ∧ B < W1.heap.size) := by rw [hW1, hB]; exact ⟨tc_new w t, by simp⟩
  have HC0 : Hid (∀ W, Below W1.heap.size W1 W → W.cell? ⟨rb, 0, none⟩ = some (.slice pv n cv0) ∧ rb < W.heap.size ∧ (Tc W B 0 t) ∧ B < W.heap.size) := fun W hb => by
    have h6 := (hb.block rb (tk_lt HB.out)).trans HB.out
    exact ⟨(tk_store h6).1 0, tk_lt h6, HX.out.1.below HX.out.2 hb, Nat.lt_of_lt_of_le HX.out.2 hb.size⟩
  clear h1 h3 hn hl G1
  go_enter Try.func21, Try.ntmps21
  go_upto_region 1 with fail
  rw [← hW1, ← hB]
  clear hW1 hB
  go_wp2_with fail
  go_loopw [5, 6] (fun s5 s6 wr => ∃ i : Nat, i ≤ n ∧ s6 = .int .i64 (i : Nat) ∧ Hid (wr.ownsRow W1.heap.size 36 5 s5 ((M.take i).filter (fun x => bel x.t t)).length (fl EC ((M.take i).filter (fun x => bel x.t t))) ∧ Below W1.heap.size W1 wr)) (fun _ s6 _ => n - (RowKit.intOf s6).toNat)
  case atStart => exact ⟨0, Nat.zero_le _, rfl, World.ownsRow_nil _ _ _ _, Below.refl _ _⟩
  case round =>
    obtain ⟨i, hi, rfl, HI⟩ := hrel
    have hi0 : (0 : Int) ≤ (i : Int) := by omega
    obtain ⟨s1, s2, ⟨s3, s4, s5⟩, s8⟩ := HC0.out wr HI.out.2
    by_cases hlt : i < n
    · have hz : (i : Int) < (n : Int) := by omega
      obtain ⟨x, hx⟩ : ∃ x, M[i]? = some x := ⟨M[i]'(by have := HN.out; omega), by simp⟩
      obtain ⟨b2, o2, hpa⟩ : ∃ b o, pv = some ⟨b, o, none⟩ := by
        obtain ⟨b, o, q', e', -, -⟩ := atC HO.out hx
        simp only [Value.slice.injEq] at e'
        exact ⟨b, o, e'.1⟩
      subst hpa
      have HYA : Hid (∀ W, Below W1.heap.size W1 W → b2 < W.heap.size ∧ Cc W b2 (o2 + i * 5) x) := fun W hb => by
        obtain ⟨b, o, q', e', l', h'⟩ := atC (HO.out.below hb) hx
        simp only [Value.slice.injEq, Option.some.injEq, Addr.mk.injEq, and_true] at e'
        obtain ⟨⟨rfl, rfl⟩, -⟩ := e'
        exact ⟨l', h'⟩
      have F1 := hid (filter_take_succ (p := ((fun x => bel x.t t) : Ct → Bool)) hx)
      have M1 : ((M.take i).filter (fun x => bel x.t t)).length ≤ 3518437208882 := by
        have h1 := List.length_filter_le ((fun x => bel x.t t) : Ct → Bool) (M.take i)
        rw [List.length_take] at h1
        omega
      obtain ⟨N1, hN1⟩ : ∃ N, N = ((M.take (i + 1)).filter (fun x => bel x.t t)) := ⟨_, rfl⟩
      rw [← hN1] at F1
      have HN1 := hid hN1
      obtain ⟨bb, hbb⟩ : ∃ b, b = (bel x.t t) := ⟨_, rfl⟩
      rw [← hbb] at F1
      have HBB := hid hbb
      have hah : ∀ W, Calls Try.prog 14 #[.agg #[.int .u64 x.a, .int .u64 x.b, .int .u64 x.c], tv t] W fun e w' => e = .returned (.bool bb) ∧ Gr W w' := fun W => by
        rw [hbb]
        exact r5ahead_any x.t t W
      obtain ⟨K1, hK1⟩ : ∃ N, N = ((M.take i).filter (fun x => bel x.t t)) := ⟨_, rfl⟩
      rw [← hK1] at HI F1 M1
      have BD1 : Hid ((K1.length + 1) * 40 ≤ 140737488355328 ∧ K1.length + 1 ≤ maxLen) := ⟨by omega, by unfold maxLen; omega⟩
      obtain ⟨p5, c5, rfl⟩ := own_form HI.out.1
      clear hx hN1 hK1 hbb M1
      have hS0 : Below W1.heap.size W1 wr.drew := HI.out.2.trans ((Gr.refl wr).drew.below.mono HI.out.2.size)
      have HRd := hid (owns_below HI.out.1 (Gr.refl wr).drew.below)
      clear HI
      go_upto_region 5 with fail
      clear s1 s2 s3 s4 s5 s8
      refine wp_regionD (S := fun W' => Below W1.heap.size W1 W') (D := []) hmx ?_
      refine' wpAnyD_take (i := 0) (oi := { dst := some 16, op := Go.Op.move (Go.Operand.tmp 0), type := 52, pos := "ref.go:40", after := #[], guard := none }) (v := _) rfl (by kernel_rfl) (by kernel_rfl) (by kernel_rfl) (fun _ _ _ h => h) (by kernel_rfl) (Or.inl ⟨by rfl, ?hy1⟩) hS0 ?rest1
      case hy1 => (intro W hSw; go_simp; try (with_reducible rfl))
      try simp only [Act.put, List.setIfInBounds_toArray, List.set_cons_zero, List.set_cons_succ]
      refine' wpAnyD_take (i := 1) (oi := { dst := some 17, op := Go.Op.nilCheck (Go.Operand.tmp 16), type := 0, pos := "ref.go:40", after := #[{ on := 0, ground := Go.Ground.data }], guard := none }) (v := _) rfl (by kernel_rfl) (by kernel_rfl) (by kernel_rfl) (fun _ _ _ h => h) (by kernel_rfl) (Or.inl ⟨by rfl, ?hy2⟩) hS0 ?rest2
      case hy2 => (intro W hSw; obtain ⟨s1, s2, ⟨s3, s4, s5⟩, s8⟩ := HC0.out W hSw; go_simp; try (with_reducible rfl))
      try simp only [Act.put, List.setIfInBounds_toArray, List.set_cons_zero, List.set_cons_succ]
      refine' wpAnyD_take (i := 2) (oi := { dst := some 18, op := Go.Op.fieldAddr 54 (Go.Operand.tmp 17) 0, type := 0, pos := "ref.go:40", after := #[{ on := 1, ground := Go.Ground.data }], guard := none }) (v := _) rfl (by kernel_rfl) (by kernel_rfl) (by kernel_rfl) (fun _ _ _ h => h) (by kernel_rfl) (Or.inl ⟨by rfl, ?hy3⟩) hS0 ?rest3
      case hy3 => (intro W hSw; go_simp; try (with_reducible rfl))
      try simp only [Act.put, List.setIfInBounds_toArray, List.set_cons_zero, List.set_cons_succ]
      refine' wpAnyD_take (i := 3) (oi := { dst := some 19, op := Go.Op.load 22 (Go.Operand.tmp 18), type := 22, pos := "ref.go:40", after := #[{ on := 2, ground := Go.Ground.data }], guard := none }) (v := _) rfl (by kernel_rfl) (by kernel_rfl) (by kernel_rfl) (fun _ _ _ h => h) (by kernel_rfl) (Or.inl ⟨by rfl, ?hy4⟩) hS0 ?rest4
      case hy4 => (intro W hSw; obtain ⟨s1, s2, ⟨s3, s4, s5⟩, s8⟩ := HC0.out W hSw; go_simp; try (with_reducible rfl))
      try simp only [Act.put, List.setIfInBounds_toArray, List.set_cons_zero, List.set_cons_succ]
      refine' wpAnyD_take (i := 4) (oi := { dst := some 20, op := Go.Op.move (Go.Operand.tmp 6), type := 3, pos := "ref.go:40", after := #[], guard := none }) (v := _) rfl (by kernel_rfl) (by kernel_rfl) (by kernel_rfl) (fun _ _ _ h => h) (by kernel_rfl) (Or.inl ⟨by rfl, ?hy5⟩) hS0 ?rest5
      case hy5 => (intro W hSw; go_simp; try (with_reducible rfl))
      try simp only [Act.put, List.setIfInBounds_toArray, List.set_cons_zero, List.set_cons_succ]
      refine' wpAnyD_take (i := 5) (oi := { dst := some 21, op := Go.Op.indexAddr 22 (Go.Operand.tmp 19) (Go.Operand.tmp 20), type := 0, pos := "ref.go:40", after := #[{ on := 3, ground := Go.Ground.data }, { on := 4, ground := Go.Ground.data }], guard := none }) (v := _) rfl (by kernel_rfl) (by kernel_rfl) (by kernel_rfl) (fun _ _ _ h => h) (by kernel_rfl) (Or.inl ⟨by rfl, ?hy6⟩) hS0 ?rest6
      case hy6 => (intro W hSw; obtain ⟨s1, s2, ⟨s3, s4, s5⟩, s8⟩ := HC0.out W hSw; obtain ⟨s9, ⟨s10, s11, s12, s13, s14⟩⟩ := HYA.out W hSw; go_simp; try (with_reducible rfl))
      try simp only [Act.put, List.setIfInBounds_toArray, List.set_cons_zero, List.set_cons_succ]
      refine' wpAnyD_take (i := 6) (oi := { dst := some 22, op := Go.Op.fieldAddr 36 (Go.Operand.tmp 21) 0, type := 0, pos := "ref.go:40", after := #[{ on := 5, ground := Go.Ground.data }], guard := none }) (v := _) rfl (by kernel_rfl) (by kernel_rfl) (by kernel_rfl) (fun _ _ _ h => h) (by kernel_rfl) (Or.inl ⟨by rfl, ?hy7⟩) hS0 ?rest7
      case hy7 => (intro W hSw; go_simp; try (with_reducible rfl))
      try simp only [Act.put, List.setIfInBounds_toArray, List.set_cons_zero, List.set_cons_succ]
      refine' wpAnyD_take (i := 7) (oi := { dst := some 23, op := Go.Op.load 25 (Go.Operand.tmp 22), type := 25, pos := "ref.go:40", after := #[{ on := 6, ground := Go.Ground.data }], guard := none }) (v := _) rfl (by kernel_rfl) (by kernel_rfl) (by kernel_rfl) (fun _ _ _ h => h) (by kernel_rfl) (Or.inl ⟨by rfl, ?hy8⟩) hS0 ?rest8
      case hy8 => (intro W hSw; obtain ⟨s1, s2, ⟨s3, s4, s5⟩, s8⟩ := HC0.out W hSw; obtain ⟨s9, ⟨s10, s11, s12, s13, s14⟩⟩ := HYA.out W hSw; go_simp; try (with_reducible rfl))
      try simp only [Act.put, List.setIfInBounds_toArray, List.set_cons_zero, List.set_cons_succ]
      refine' wpAnyD_take (i := 8) (oi := { dst := some 24, op := Go.Op.load 25 (Go.Operand.tmp 3), type := 25, pos := "ref.go:40", after := #[], guard := none }) (v := _) rfl (by kernel_rfl) (by kernel_rfl) (by kernel_rfl) (fun _ _ _ h => h) (by kernel_rfl) (Or.inl ⟨by rfl, ?hy9⟩) hS0 ?rest9
      case hy9 => (intro W hSw; obtain ⟨s1, s2, ⟨s3, s4, s5⟩, s8⟩ := HC0.out W hSw; go_simp; try (with_reducible rfl))
      try simp only [Act.put, List.setIfInBounds_toArray, List.set_cons_zero, List.set_cons_succ]
      refine wpAnyD_one (i := 9) (o := { dst := some 25, op := Go.Op.call { callee := Go.Callee.value (Go.Operand.func 14), args := #[Go.Operand.tmp 23, Go.Operand.tmp 24], argTypes := #[25, 25] }, type := 4, pos := "ref.go:40", after := #[{ on := 7, ground := Go.Ground.data }, { on := 8, ground := Go.Ground.data }], guard := none }) (by kernel_rfl) rfl (fun K hK => ?_)
      rw [if_pos (by kernel_rfl)]
      go_simp
      refine (hah _).mono ?_
      rintro e w5 ⟨rfl, g5⟩
      have hS5 : Below W1.heap.size W1 w5 := hS0.trans (g5.below.mono hS0.size)
      have HR5 := hid (owns_below HRd.out g5.below)
      clear g5
      dsimp only
      refine hK.out _ _ (fun hD => hS5) ?_
      clear hK K
      try simp only [Act.put, List.setIfInBounds_toArray, List.set_cons_zero, List.set_cons_succ]
      refine wpAnyD_done (by kernel_rfl) ?_ _
      have HB5 := hid hS5
      clear hS0 hS5 HRd hah
      cases bb with
      | true =>
        have HE : Hid (N1 = K1 ++ [x]) := show _ = _ by have := F1.out; simpa using this
        clear F1
        obtain ⟨y1, ⟨y2, y3, y4, y5, y6⟩⟩ := HYA.out w5 HB5.out
        obtain ⟨s1, s2, ⟨s3, s4, s5⟩, s8⟩ := HC0.out w5 HB5.out
        clear s3 s4 s5 s8
        go_wp2_with (at_builtin; refine wpApp1 EC Try.underlying22 infoC rfl (by decide) rfl _ _ rfl W1.heap.size _ K1.length _ rfl HR5.out x (by first | rfl | (go_simp; done)) BD1.out.1 BD1.out.2 HB5.out.size _ rfl _ ?_)
        intro g6 c6 w6 ho6 hg6 hn6
        have HO6 := hid ho6
        have HB6 : Hid (Below W1.heap.size W1 w6) := HB5.out.trans ((Kp.grownBy (S := fun k => W1.heap.size ≤ k) hg6 (fun k hk => (HR5.out.lt k hk).1)).below HB5.out.size (fun _ h => h))
        clear ho6 hg6 hn6
        go_wp2_with fail
        go_roundw
        case rel =>
          refine ⟨i + 1, hlt, by go_num, ?_⟩
          rw [← HN1.out, HE.out]
          exact ⟨owns_re HO6.out (by simp) (by rw [fl_append, fl_one]), HB6.out⟩
        case measure => simp [RowKit.intOf]; omega
      | false =>
        have HE : Hid (N1 = K1) := show _ = _ by have := F1.out; simpa using this
        clear F1
        go_wp2_with fail
        go_roundw
        case rel =>
          refine ⟨i + 1, hlt, by go_num, ?_⟩
          rw [← HN1.out, HE.out]
          exact ⟨HR5.out, HB5.out⟩
        case measure => simp [RowKit.intOf]; omega
    · have hz : ¬ ((i : Int) < (n : Int)) := by omega
      have hAi : M.take i = M := List.take_of_length_le (by have := HN.out; omega)
      rw [hAi] at HI
      obtain ⟨p5, c5, rfl⟩ := own_form HI.out.1
      go_wp2
      go_ret
      exact ⟨p5, _, c5, rfl, ⟨owns_base HI.out.1 HG1.out.size, HG1.out.below.trans (HI.out.2.mono HG1.out.size)⟩, rfl⟩
set_option maxHeartbeats 4000000 in
set_option maxRecDepth 100000 in
theorem rdone_any {S : Nat → Prop} {rb : Nat} {M : List Ct} {fv : Value} {F : List T3} (w : World) (h : Rp w S rb M) (hl : M.length * 40 ≤ 140737488355328) (hop : ∀ (W : World) (x : T3), Below w.heap.size w W → Calls Try.prog 15 #[fv, tv x] W fun e w' => e = .returned (.bool (opn F x)) ∧ Gr W w') :
    Calls Try.prog 23 #[.pointer (some ⟨rb, 0, none⟩), fv] w fun e w' => ∃ p n c, e = .returned (.slice p n c) ∧ Hid (Tld w (M.filter fun x => !opn F x.t) (.slice p n c) w' ∧ n = (M.filter fun x => !opn F x.t).length) := by
  have hmx : Try.prog.follows .mixedOrders = true := by kernel_rfl
  obtain ⟨v, h1, -, h3, -, -⟩ := h
  obtain ⟨pv, cv0, rfl⟩ := own_form h3
  obtain ⟨n, hn⟩ : ∃ n, n = M.length := ⟨_, rfl⟩
  rw [← hn] at h1 h3 hl
  have HN := hid hn
  have hnb : n ≤ 3518437208883 := by omega
  obtain ⟨W1, hW1⟩ : ∃ W1, W1 = w := ⟨_, rfl⟩
  have G1 : Gr w W1 := by rw [hW1]; exact Gr.refl _
  have HB : Hid (W1.heap[rb]? = some (.cells #[.slice pv n cv0] 54 (0, 0))) := (G1.below.block rb (tk_lt h1)).trans h1
  have HO : Hid (Ls EC W1 (.slice pv n cv0) M) := owns_ls (E := EC) (ts := M) (by rw [← hn]; exact owns_below h3 G1.below)
  have HG1 := hid G1
  have HC0 : Hid (∀ W, Below W1.heap.size W1 W → W.cell? ⟨rb, 0, none⟩ = some (.slice pv n cv0) ∧ rb < W.heap.size) := fun W hb => by
    have h6 := (hb.block rb (tk_lt HB.out)).trans HB.out
    exact ⟨(tk_store h6).1 0, tk_lt h6⟩
  have HOP := hid hop
  clear hop
  clear h1 h3 hn hl G1
  go_enter Try.func23, Try.ntmps23
  obtain rfl : W1 = w := hW1
  go_upto_region 1 with fail
  go_wp2_with fail
  go_loopw [5, 6] (fun s5 s6 wr => ∃ i : Nat, i ≤ n ∧ s6 = .int .i64 (i : Nat) ∧ Hid (wr.ownsRow W1.heap.size 36 5 s5 ((M.take i).filter (fun x => !opn F x.t)).length (fl EC ((M.take i).filter (fun x => !opn F x.t))) ∧ Below W1.heap.size W1 wr)) (fun _ s6 _ => n - (RowKit.intOf s6).toNat)
  case atStart => exact ⟨0, Nat.zero_le _, rfl, World.ownsRow_nil _ _ _ _, Below.refl _ _⟩
  case round =>
    obtain ⟨i, hi, rfl, HI⟩ := hrel
    have hi0 : (0 : Int) ≤ (i : Int) := by omega
    obtain ⟨s1, s2⟩ := HC0.out wr HI.out.2
    by_cases hlt : i < n
    · have hz : (i : Int) < (n : Int) := by omega
      obtain ⟨x, hx⟩ : ∃ x, M[i]? = some x := ⟨M[i]'(by have := HN.out; omega), by simp⟩
      obtain ⟨b2, o2, hpa⟩ : ∃ b o, pv = some ⟨b, o, none⟩ := by
        obtain ⟨b, o, q', e', -, -⟩ := atC HO.out hx
        simp only [Value.slice.injEq] at e'
        exact ⟨b, o, e'.1⟩
      subst hpa
      have HYA : Hid (∀ W, Below W1.heap.size W1 W → b2 < W.heap.size ∧ Cc W b2 (o2 + i * 5) x) := fun W hb => by
        obtain ⟨b, o, q', e', l', h'⟩ := atC (HO.out.below hb) hx
        simp only [Value.slice.injEq, Option.some.injEq, Addr.mk.injEq, and_true] at e'
        obtain ⟨⟨rfl, rfl⟩, -⟩ := e'
        exact ⟨l', h'⟩
      have F1 := hid (filter_take_succ (p := ((fun x => !opn F x.t) : Ct → Bool)) hx)
      have M1 : ((M.take i).filter (fun x => !opn F x.t)).length ≤ 3518437208882 := by
        have h1 := List.length_filter_le ((fun x => !opn F x.t) : Ct → Bool) (M.take i)
        rw [List.length_take] at h1
        omega
      obtain ⟨N1, hN1⟩ : ∃ N, N = ((M.take (i + 1)).filter (fun x => !opn F x.t)) := ⟨_, rfl⟩
      rw [← hN1] at F1
      have HN1 := hid hN1
      obtain ⟨bb, hbb⟩ : ∃ b, b = (!opn F x.t) := ⟨_, rfl⟩
      rw [← hbb] at F1
      have HBB := hid hbb
      obtain ⟨ob, hob⟩ : ∃ b, b = opn F x.t := ⟨_, rfl⟩
      have hop : ∀ W, Below W1.heap.size W1 W → Calls Try.prog 15 #[fv, .agg #[.int .u64 x.a, .int .u64 x.b, .int .u64 x.c]] W fun e w' => e = .returned (.bool ob) ∧ Gr W w' := fun W hb => by
        rw [hob]
        exact HOP.out W x.t (HG1.out.below.trans (hb.mono HG1.out.size))
      have hbo : bb = !ob := by rw [hbb, hob]
      have HBO := hid hbo
      clear hbo hob
      obtain ⟨K1, hK1⟩ : ∃ N, N = ((M.take i).filter (fun x => !opn F x.t)) := ⟨_, rfl⟩
      rw [← hK1] at HI F1 M1
      have BD1 : Hid ((K1.length + 1) * 40 ≤ 140737488355328 ∧ K1.length + 1 ≤ maxLen) := ⟨by omega, by unfold maxLen; omega⟩
      obtain ⟨p5, c5, rfl⟩ := own_form HI.out.1
      clear hx hN1 hK1 hbb M1
      have hop1 := hop wr HI.out.2
      obtain ⟨y1, ⟨y2, y3, y4, y5, y6⟩⟩ := HYA.out wr HI.out.2
      go_wp2_with fail
      refine hop1.mono ?_
      rintro e w5 ⟨rfl, g5⟩
      have HB5 : Hid (Below W1.heap.size W1 w5) := HI.out.2.trans (g5.below.mono HI.out.2.size)
      have HR5 := hid (owns_below HI.out.1 g5.below)
      clear g5 hop1 hop HI s1 s2 y1 y2 y3 y4 y5 y6
      cases ob with
      | true =>
        have HB1 := hid (show bb = false from HBO.out)
        have HE : Hid (N1 = K1) := show _ = _ by have := F1.out; rw [HB1.out] at this; simpa using this
        clear F1
        go_wp2_with fail
        go_roundw
        case rel =>
          refine ⟨i + 1, hlt, by go_num, ?_⟩
          rw [← HN1.out, HE.out]
          exact ⟨HR5.out, HB5.out⟩
        case measure => simp [RowKit.intOf]; omega
      | false =>
        have HB1 := hid (show bb = true from HBO.out)
        have HE : Hid (N1 = K1 ++ [x]) := show _ = _ by have := F1.out; rw [HB1.out] at this; simpa using this
        clear F1
        obtain ⟨y1, ⟨y2, y3, y4, y5, y6⟩⟩ := HYA.out w5 HB5.out
        obtain ⟨s1, s2⟩ := HC0.out w5 HB5.out
        go_wp2_with (at_builtin; refine wpApp1 EC Try.underlying22 infoC rfl (by decide) rfl _ _ rfl W1.heap.size _ K1.length _ rfl HR5.out x (by first | rfl | (go_simp; done)) BD1.out.1 BD1.out.2 HB5.out.size _ rfl _ ?_)
        intro g6 c6 w6 ho6 hg6 hn6
        have HO6 := hid ho6
        have HB6 : Hid (Below W1.heap.size W1 w6) := HB5.out.trans ((Kp.grownBy (S := fun k => W1.heap.size ≤ k) hg6 (fun k hk => (HR5.out.lt k hk).1)).below HB5.out.size (fun _ h => h))
        clear ho6 hg6 hn6
        go_wp2_with fail
        go_roundw
        case rel =>
          refine ⟨i + 1, hlt, by go_num, ?_⟩
          rw [← HN1.out, HE.out]
          exact ⟨owns_re HO6.out (by simp) (by rw [fl_append, fl_one]), HB6.out⟩
        case measure => simp [RowKit.intOf]; omega
    · have hz : ¬ ((i : Int) < (n : Int)) := by omega
      have hAi : M.take i = M := List.take_of_length_le (by have := HN.out; omega)
      rw [hAi] at HI
      obtain ⟨p5, c5, rfl⟩ := own_form HI.out.1
      go_wp2
      go_ret
      exact ⟨p5, _, c5, rfl, ⟨owns_base HI.out.1 HG1.out.size, HG1.out.below.trans (HI.out.2.mono HG1.out.size)⟩, rfl⟩
set_option maxHeartbeats 4000000 in
set_option maxRecDepth 100000 in
theorem rof_any {S : Nat → Prop} {rb : Nat} {M : List Ct} (ky : Int) (w : World) (h : Rp w S rb M) (hl : M.length * 40 ≤ 140737488355328) :
    Calls Try.prog 24 #[.pointer (some ⟨rb, 0, none⟩), .int .u64 ky] w fun e w' => ∃ p n c, e = .returned (.slice p n c) ∧ Hid (Tld w (M.filter fun x => decide (x.k = ky)) (.slice p n c) w' ∧ n = (M.filter fun x => decide (x.k = ky)).length) := by
  have hmx : Try.prog.follows .mixedOrders = true := by kernel_rfl
  obtain ⟨v, h1, -, h3, -, -⟩ := h
  obtain ⟨pv, cv0, rfl⟩ := own_form h3
  obtain ⟨n, hn⟩ : ∃ n, n = M.length := ⟨_, rfl⟩
  rw [← hn] at h1 h3 hl
  have HN := hid hn
  have hnb : n ≤ 3518437208883 := by omega
  obtain ⟨W1, hW1⟩ : ∃ W1, W1 = w := ⟨_, rfl⟩
  have G1 : Gr w W1 := by rw [hW1]; exact Gr.refl _
  have HB : Hid (W1.heap[rb]? = some (.cells #[.slice pv n cv0] 54 (0, 0))) := (G1.below.block rb (tk_lt h1)).trans h1
  have HO : Hid (Ls EC W1 (.slice pv n cv0) M) := owns_ls (E := EC) (ts := M) (by rw [← hn]; exact owns_below h3 G1.below)
  have HG1 := hid G1
  have HC0 : Hid (∀ W, Below W1.heap.size W1 W → W.cell? ⟨rb, 0, none⟩ = some (.slice pv n cv0) ∧ rb < W.heap.size) := fun W hb => by
    have h6 := (hb.block rb (tk_lt HB.out)).trans HB.out
    exact ⟨(tk_store h6).1 0, tk_lt h6⟩
  clear h1 h3 hn hl G1
  go_enter Try.func24, Try.ntmps24
  obtain rfl : W1 = w := hW1
  go_upto_region 1 with fail
  go_wp2_with fail
  go_loopw [5, 6] (fun s5 s6 wr => ∃ i : Nat, i ≤ n ∧ s6 = .int .i64 (i : Nat) ∧ Hid (wr.ownsRow W1.heap.size 36 5 s5 ((M.take i).filter (fun x => decide (x.k = ky))).length (fl EC ((M.take i).filter (fun x => decide (x.k = ky)))) ∧ Below W1.heap.size W1 wr)) (fun _ s6 _ => n - (RowKit.intOf s6).toNat)
  case atStart => exact ⟨0, Nat.zero_le _, rfl, World.ownsRow_nil _ _ _ _, Below.refl _ _⟩
  case round =>
    obtain ⟨i, hi, rfl, HI⟩ := hrel
    have hi0 : (0 : Int) ≤ (i : Int) := by omega
    obtain ⟨s1, s2⟩ := HC0.out wr HI.out.2
    by_cases hlt : i < n
    · have hz : (i : Int) < (n : Int) := by omega
      obtain ⟨x, hx⟩ : ∃ x, M[i]? = some x := ⟨M[i]'(by have := HN.out; omega), by simp⟩
      obtain ⟨b2, o2, hpa⟩ : ∃ b o, pv = some ⟨b, o, none⟩ := by
        obtain ⟨b, o, q', e', -, -⟩ := atC HO.out hx
        simp only [Value.slice.injEq] at e'
        exact ⟨b, o, e'.1⟩
      subst hpa
      have HYA : Hid (∀ W, Below W1.heap.size W1 W → b2 < W.heap.size ∧ Cc W b2 (o2 + i * 5) x) := fun W hb => by
        obtain ⟨b, o, q', e', l', h'⟩ := atC (HO.out.below hb) hx
        simp only [Value.slice.injEq, Option.some.injEq, Addr.mk.injEq, and_true] at e'
        obtain ⟨⟨rfl, rfl⟩, -⟩ := e'
        exact ⟨l', h'⟩
      have F1 := hid (filter_take_succ (p := ((fun x => decide (x.k = ky)) : Ct → Bool)) hx)
      have M1 : ((M.take i).filter (fun x => decide (x.k = ky))).length ≤ 3518437208882 := by
        have h1 := List.length_filter_le ((fun x => decide (x.k = ky)) : Ct → Bool) (M.take i)
        rw [List.length_take] at h1
        omega
      obtain ⟨N1, hN1⟩ : ∃ N, N = ((M.take (i + 1)).filter (fun x => decide (x.k = ky))) := ⟨_, rfl⟩
      rw [← hN1] at F1
      have HN1 := hid hN1
      obtain ⟨bb, hbb⟩ : ∃ b, b = (decide (x.k = ky)) := ⟨_, rfl⟩
      rw [← hbb] at F1
      have HBB := hid hbb
      have hkb : (x.k == ky) = bb := by rw [hbb]; rw [Bool.eq_iff_iff]; simp
      obtain ⟨K1, hK1⟩ : ∃ N, N = ((M.take i).filter (fun x => decide (x.k = ky))) := ⟨_, rfl⟩
      rw [← hK1] at HI F1 M1
      have BD1 : Hid ((K1.length + 1) * 40 ≤ 140737488355328 ∧ K1.length + 1 ≤ maxLen) := ⟨by omega, by unfold maxLen; omega⟩
      obtain ⟨p5, c5, rfl⟩ := own_form HI.out.1
      clear hx hN1 hK1 hbb M1
      have HB5 := hid HI.out.2
      have HR5 := hid HI.out.1
      clear HI
      obtain ⟨w5, hw5⟩ : ∃ V, V = wr := ⟨_, rfl⟩
      rw [← hw5] at HB5 HR5 s1 s2 ⊢
      clear hw5
      obtain ⟨y1, ⟨y2, y3, y4, y5, y6⟩⟩ := HYA.out w5 HB5.out
      cases bb with
      | true =>
        have HE : Hid (N1 = K1 ++ [x]) := show _ = _ by have := F1.out; simpa using this
        clear F1
        go_wp2_with (at_builtin; refine wpApp1 EC Try.underlying22 infoC rfl (by decide) rfl _ _ rfl W1.heap.size _ K1.length _ rfl HR5.out x (by first | rfl | (go_simp; done)) BD1.out.1 BD1.out.2 HB5.out.size _ rfl _ ?_)
        intro g6 c6 w6 ho6 hg6 hn6
        have HO6 := hid ho6
        have HB6 : Hid (Below W1.heap.size W1 w6) := HB5.out.trans ((Kp.grownBy (S := fun k => W1.heap.size ≤ k) hg6 (fun k hk => (HR5.out.lt k hk).1)).below HB5.out.size (fun _ h => h))
        clear ho6 hg6 hn6
        go_wp2_with fail
        go_roundw
        case rel =>
          refine ⟨i + 1, hlt, by go_num, ?_⟩
          rw [← HN1.out, HE.out]
          exact ⟨owns_re HO6.out (by simp) (by rw [fl_append, fl_one]), HB6.out⟩
        case measure => simp [RowKit.intOf]; omega
      | false =>
        have HE : Hid (N1 = K1) := show _ = _ by have := F1.out; simpa using this
        clear F1
        go_wp2_with fail
        go_roundw
        case rel =>
          refine ⟨i + 1, hlt, by go_num, ?_⟩
          rw [← HN1.out, HE.out]
          exact ⟨HR5.out, HB5.out⟩
        case measure => simp [RowKit.intOf]; omega
    · have hz : ¬ ((i : Int) < (n : Int)) := by omega
      have hAi : M.take i = M := List.take_of_length_le (by have := HN.out; omega)
      rw [hAi] at HI
      obtain ⟨p5, c5, rfl⟩ := own_form HI.out.1
      go_wp2
      go_ret
      exact ⟨p5, _, c5, rfl, ⟨owns_base HI.out.1 HG1.out.size, HG1.out.below.trans (HI.out.2.mono HG1.out.size)⟩, rfl⟩
set_option maxHeartbeats 4000000 in
set_option maxRecDepth 100000 in
theorem rcount_any {S : Nat → Prop} {rb : Nat} {M : List Ct} (z : Ct) (w : World) (h : Rp w S rb M) (hl : M.length * 40 ≤ 140737488355328) :
    Calls Try.prog 25 #[.pointer (some ⟨rb, 0, none⟩), cv z] w fun e w' => e = .returned (.int .i64 (M.count z : Nat)) ∧ Gr w w' := by
  have hmx : Try.prog.follows .mixedOrders = true := by kernel_rfl
  obtain ⟨v, h1, -, h3, -, -⟩ := h
  obtain ⟨pv, cv0, rfl⟩ := own_form h3
  obtain ⟨n, hn⟩ : ∃ n, n = M.length := ⟨_, rfl⟩
  rw [← hn] at h1 h3 hl
  have HN := hid hn
  have hnb : n ≤ 3518437208883 := by omega
  obtain ⟨W1, hW1⟩ : ∃ W1, W1 = w.alloc (.cells #[.int .u64 z.a, .int .u64 z.b, .int .u64 z.c, .int .u64 z.k, .int .u64 z.v] 36) := ⟨_, rfl⟩
  have G1 : Gr w W1 := by rw [hW1]; exact (Gr.refl _).alloc _
  have HB : Hid (W1.heap[rb]? = some (.cells #[.slice pv n cv0] 54 (0, 0))) := (G1.below.block rb (tk_lt h1)).trans h1
  have HO : Hid (Ls EC W1 (.slice pv n cv0) M) := owns_ls (E := EC) (ts := M) (by rw [← hn]; exact owns_below h3 G1.below)
  have HG1 := hid G1
  obtain ⟨B, hB⟩ : ∃ B, B = w.heap.size := ⟨_, rfl⟩
  have HX : Hid ((Cc W1 B 0 z) ∧ B < W1.heap.size) := by rw [hW1, hB]; exact ⟨cc_new w z, by simp⟩
  have HC0 : Hid (∀ W, Below W1.heap.size W1 W → W.cell? ⟨rb, 0, none⟩ = some (.slice pv n cv0) ∧ rb < W.heap.size ∧ (Cc W B 0 z) ∧ B < W.heap.size) := fun W hb => by
    have h6 := (hb.block rb (tk_lt HB.out)).trans HB.out
    exact ⟨(tk_store h6).1 0, tk_lt h6, HX.out.1.below HX.out.2 hb, Nat.lt_of_lt_of_le HX.out.2 hb.size⟩
  clear h1 h3 hn hl G1
  go_enter Try.func25, Try.ntmps25
  go_upto_region 1 with fail
  rw [← hW1, ← hB]
  clear hW1 hB
  have HEQ := hid (fun (y : Ct) (W : World) => run_eqC y z W)
  go_wp2_with fail
  go_loopw [5, 6] (fun s5 s6 wr => ∃ i : Nat, i ≤ n ∧ s6 = .int .i64 (i : Nat) ∧ s5 = .int .i64 ((M.take i).count z : Nat) ∧ Hid (Gr W1 wr)) (fun _ s6 _ => n - (RowKit.intOf s6).toNat)
  case atStart => exact ⟨0, Nat.zero_le _, rfl, by simp, Gr.refl _⟩
  case round =>
    obtain ⟨i, hi, rfl, rfl, HI⟩ := hrel
    have hi0 : (0 : Int) ≤ (i : Int) := by omega
    obtain ⟨s1, s2, ⟨s3, s4, s5, s6, s7⟩, s8⟩ := HC0.out wr HI.out.below
    by_cases hlt : i < n
    · have hz : (i : Int) < (n : Int) := by omega
      obtain ⟨x, hx⟩ : ∃ x, M[i]? = some x := ⟨M[i]'(by have := HN.out; omega), by simp⟩
      obtain ⟨b2, o2, q2, e2, l2, y0, y1, y2, y3, y4⟩ := atC (HO.out.below HI.out.below) hx
      simp only [Value.slice.injEq] at e2
      obtain ⟨rfl, -, rfl⟩ := e2
      have HF : Hid ((M.take (i + 1)).count z = (M.take i).count z + (if x = z then 1 else 0)) := by
        show _ = _
        rw [List.take_add_one, hx, List.count_append]
        congr 1
        simp [List.count_cons]
      have hcb : (M.take i).count z ≤ 3518437208883 := Nat.le_trans List.count_le_length (by rw [List.length_take]; omega)
      have heq2 := HEQ.out x
      generalize (M.take i).count z = k at *
      clear hx
      by_cases hyx : x = z
      · rw [decide_eq_true hyx] at heq2
        have HF' := HF.out
        rw [if_pos hyx] at HF'
        have HF2 := hid HF'
        clear hyx HF HF'
        go_wp2_with fail
        go_quiet (fail)
        go_wp2_with fail
        go_roundw
        case rel => exact ⟨i + 1, hlt, by go_num, by rw [HF2.out]; go_num, HI.out.drewN _⟩
        case measure => simp [RowKit.intOf]; omega
      · rw [decide_eq_false hyx] at heq2
        have HF' := HF.out
        rw [if_neg hyx] at HF'
        have HF2 := hid HF'
        clear hyx HF HF'
        go_wp2_with fail
        go_quiet (fail)
        go_wp2_with fail
        go_roundw
        case rel => exact ⟨i + 1, hlt, by go_num, by rw [HF2.out]; simp, HI.out.drewN _⟩
        case measure => simp [RowKit.intOf]; omega
    · have hz : ¬ ((i : Int) < (n : Int)) := by omega
      have hin : M.take i = M := List.take_of_length_le (by have := HN.out; omega)
      rw [hin]
      go_wp2
      go_ret
      exact ⟨rfl, HG1.out.trans HI.out⟩
set_option maxHeartbeats 2000000 in
set_option maxRecDepth 100000 in
theorem rcopy_any {S : Nat → Prop} {rb : Nat} {M : List Ct} (w : World) (h : Rp w S rb M) (hl : M.length * 40 ≤ 140737488355328) :
    Calls Try.prog 27 #[.pointer (some ⟨rb, 0, none⟩)] w fun e w' => ∃ qb, e = .returned (.pointer (some ⟨qb, 0, none⟩)) ∧ Hid (Rp w' (fun k => w.heap.size ≤ k) qb M ∧ Below w.heap.size w w') := by
  obtain ⟨v, h1, -, h3, -, h5⟩ := h
  have c0 := (tk_store h1).1 0
  have hlt := tk_lt h1
  have HL := hid (owns_ls (E := EC) h3)
  have HNL := hid h5
  obtain ⟨pv, cv0, rfl⟩ := own_form h3
  have HBD : Hid ((0 + M.length) * 40 ≤ 140737488355328 ∧ 0 + M.length ≤ maxLen) := ⟨by omega, by unfold maxLen; omega⟩
  clear h1 h3 h5 hl
  by_cases hM : M = []
  · subst hM
    have e := HNL.out rfl
    cases e
    clear HL HNL HBD
    go_enter Try.func27, Try.ntmps27
    go_wp2_with (at_builtin; refine wpAppNil EC Try.underlying22 infoC rfl _ _ rfl 0 (.slice none 0 0) 0 [] rfl (World.ownsRow_nil _ _ _ _) rfl ?_)
    obtain ⟨B, hB⟩ : ∃ B, B = w.heap.size := ⟨_, rfl⟩
    go_wp2_with fail
    rw [← hB]
    go_ret
    subst hB
    refine ⟨_, rfl, ?_⟩
    have hG : Gr w (w.alloc (.cells #[.slice none 0 0] 54)) := (Gr.refl _).alloc _
    have hnew := heap_new' w (.cells #[.slice none 0 0] 54)
    exact ⟨⟨_, hnew, Nat.le_refl _, World.ownsRow_nil _ _ _ _, ⟨fun g hg => by simp [Value.ownBlock] at hg, fun _ => rfl⟩⟩, hG.below⟩
  · have HM := hid hM
    clear hM HNL
    go_enter Try.func27, Try.ntmps27
    go_wp2_with (at_builtin; refine wpAppL EC Try.underlying22 infoC rfl (by decide) rfl _ _ rfl w.heap.size (.slice none 0 0) 0 [] rfl (World.ownsRow_nil _ _ _ _) _ M rfl HL.out HBD.out.1 HBD.out.2 (Nat.le_refl _) ?_)
    intro v6 w6 ho6 hg6
    have B6 : Hid (Below w.heap.size w w6) := (Kp.grownBy (S := fun _ => False) hg6 (fun k hk => by simp [Value.ownBlock] at hk)).below (Nat.le_refl _) (fun _ h => h.elim)
    have O6 : Hid (w6.ownsRow w.heap.size 36 5 v6 M.length (fl EC M)) := owns_re ho6 (by simp) (by simp)
    clear ho6 hg6
    obtain ⟨p6, c6, rfl⟩ := own_form O6.out
    obtain ⟨B, hB⟩ : ∃ B, B = w6.heap.size := ⟨_, rfl⟩
    obtain ⟨n6, hn6⟩ : ∃ k, k = M.length := ⟨_, rfl⟩
    rw [← hn6] at O6
    rw [← hn6]
    have HN6 := hid hn6
    clear hn6
    go_wp2_with fail
    rw [← hB]
    go_ret
    refine ⟨B, rfl, ?_⟩
    have hG : Gr w6 (w6.alloc (.cells #[.slice p6 n6 c6] 54)) := (Gr.refl _).alloc _
    have hnew := heap_new' w6 (.cells #[.slice p6 n6 c6] 54)
    rw [← hB] at hnew
    refine ⟨⟨_, hnew, by have := B6.out.size; show w.heap.size ≤ B; omega, owns_base (owns_re (owns_below O6.out hG.below) HN6.out rfl) (Nat.zero_le _), fun g hg => ⟨(O6.out.lt g hg).1, ?_⟩, fun e => absurd e HM.out⟩, B6.out.trans (hG.below.mono B6.out.size)⟩
    have := (O6.out.lt g hg).2
    omega
end Go.Proofs.Ytghpekkncfckaaa.Ca
