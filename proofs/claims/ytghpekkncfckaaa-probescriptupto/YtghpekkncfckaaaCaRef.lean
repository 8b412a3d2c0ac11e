import Derived.Test.YtghpekkncfckaaaCaFro
namespace Go.Proofs.Ytghpekkncfckaaa.Ca
open Go.RowKit Go.Sort
attribute [local go_sem ↓] Go.wp_at_zero Go.wp_at_succ
/-- The document's probe: its block, its own list; all its blocks are in S. -/
def Rp (w : World) (S : Nat → Prop) (rb : Nat) (M : List Ct) : Prop := ∃ v, w.heap[rb]? = some (.cells #[v] 54 (0, 0)) ∧ S rb ∧ w.ownsRow 0 36 5 v M.length (fl EC M) ∧ (∀ g, v.ownBlock = some g → S g ∧ g ≠ rb) ∧ (M = [] → v = .slice none 0 0)
section
variable {w w' : World} {S S' : Nat → Prop} {rb : Nat} {M : List Ct}
theorem Rp.kp (h : Rp w S rb M) (hk : Kp S' w w') (hd : ∀ k, S k → ¬ S' k) : Rp w' S rb M := by
  obtain ⟨v, h1, h2, h3, h4, h5⟩ := h
  exact ⟨v, (hk.block rb (tk_lt h1) (hd _ h2)).trans h1, h2, owns_kp hk h3 (fun k e => hd k (h4 k e).1), h4, h5⟩
theorem Rp.below (h : Rp w S rb M) (hb : Below w.heap.size w w') : Rp w' S rb M := h.kp (S' := fun _ => False) (Kp.of_below hb) fun _ _ h => h
theorem Rp.mono (h : Rp w S rb M) (hS : ∀ k, k < w.heap.size → S k → S' k) : Rp w S' rb M := by
  obtain ⟨v, h1, h2, h3, h4, h5⟩ := h
  exact ⟨v, h1, hS _ (tk_lt h1) h2, h3, fun g hg => ⟨hS g (h3.lt g hg).2 (h4 g hg).1, (h4 g hg).2⟩, h5⟩
theorem Rp.lt (h : Rp w S rb M) : rb < w.heap.size := by
  obtain ⟨v, h1, _⟩ := h
  exact tk_lt h1
end
theorem clt_time {x y : Ct} (h : x.t ≠ y.t) : tol x.t y.t = clt x y := by
  have : ¬ (x.a = y.a ∧ x.b = y.b ∧ x.c = y.c) := fun e => h (Prod.ext e.1 (Prod.ext e.2.1 e.2.2))
  rw [Bool.eq_iff_iff, tol_iff, clt_iff]
  dsimp only
  omega
theorem clt_key {x y : Ct} (h : x.t = y.t) (hk : x.k ≠ y.k) : decide (x.k < y.k) = clt x y := by
  have h1 : x.a = y.a := congrArg Prod.fst h
  have h2 : x.b = y.b := congrArg (fun q => q.2.1) h
  have h3 : x.c = y.c := congrArg (fun q => q.2.2) h
  rw [Bool.eq_iff_iff, clt_iff, decide_eq_true_iff]
  omega
theorem clt_val {x y : Ct} (h : x.t = y.t) (hk : x.k = y.k) : decide (x.v < y.v) = clt x y := by
  have h1 : x.a = y.a := congrArg Prod.fst h
  have h2 : x.b = y.b := congrArg (fun q => q.2.1) h
  have h3 : x.c = y.c := congrArg (fun q => q.2.2) h
  rw [Bool.eq_iff_iff, clt_iff, decide_eq_true_iff]
  omega
set_option maxHeartbeats 2000000 in
set_option maxRecDepth 100000 in
theorem rtold_any (x y : Ct) (w : World) : Calls Try.prog 47 #[cv x, cv y] w fun e w' => e = .returned (.bool (clt x y)) ∧ Gr w w' := by
  have heq := run_eqT x.a x.b x.c y.a y.b y.c
  rw [show teq x.a x.b x.c y.a y.b y.c = decide (x.t = y.t) from teq_dec x.t y.t] at heq
  by_cases ht : x.t = y.t
  · rw [decide_eq_true ht] at heq
    by_cases hk : x.k = y.k
    · have d2 : (x.k != y.k) = false := by simp [hk]
      rw [← clt_val ht hk]
      clear ht hk
      go_enter Try.func47, Try.ntmps47
      go_wp2
      go_ret
      exact ⟨rfl, ((Gr.refl _).alloc _).alloc _⟩
    · have d2 : (x.k != y.k) = true := by simp [hk]
      rw [← clt_key ht hk]
      clear ht hk
      go_enter Try.func47, Try.ntmps47
      go_wp2
      go_ret
      exact ⟨rfl, ((Gr.refl _).alloc _).alloc _⟩
  · have hk := clt_time ht
    rw [decide_eq_false ht] at heq
    have H := fun W => r5told_any x.t y.t W
    rw [hk] at H
    generalize clt x y = r at H ⊢
    clear ht hk
    go_enter Try.func47, Try.ntmps47
    go_wp2_with fail
    refine (H _).mono ?_
    rintro e w1 ⟨rfl, hg⟩
    go_wp2
    go_ret
    exact ⟨rfl, (((Gr.refl _).alloc _).alloc _).trans hg⟩
set_option maxHeartbeats 8000000 in
set_option maxRecDepth 100000 in
theorem rcatch_any {S : Nat → Prop} {rb : Nat} {M : List Ct} (x : Ct) (w : World) (h : Rp w S rb M) (hl : (M.length + 1) * 40 ≤ 140737488355328) :
    Calls Try.prog 39 #[.pointer (some ⟨rb, 0, none⟩), cv x] w fun e w' => e = .returned (.tuple #[]) ∧ Hid (∃ a : Nat, Rp w' (nx S w) rb (M.take a ++ x :: M.drop a) ∧ (∀ j y, j < a → M[j]? = some y → clt y x = true) ∧ (∀ y, M[a]? = some y → clt y x = false) ∧ Kp (fun k => k = rb) w w') := by
  have hmx : Try.prog.follows .mixedOrders = true := by kernel_rfl
  obtain ⟨v, h1, h2, h3, h4, h5⟩ := h
  obtain ⟨pv, cv0, rfl⟩ := own_form h3
  obtain ⟨n, hn⟩ : ∃ n, n = M.length := ⟨_, rfl⟩
  rw [← hn] at h1 h3 h4 h5 hl
  have HN := hid hn
  have HSR := hid h2
  have HNL := hid h5
  have hnb : n ≤ 3518437208882 := by omega
  obtain ⟨W1, hW1⟩ : ∃ W1, W1 = w.alloc (.cells #[.int .u64 x.a, .int .u64 x.b, .int .u64 x.c, .int .u64 x.k, .int .u64 x.v] 36) := ⟨_, rfl⟩
  obtain ⟨bx, hbx⟩ : ∃ b, b = w.heap.size := ⟨_, rfl⟩
  have G1 : Gr w W1 := by rw [hW1]; exact (Gr.refl _).alloc _
  have HX : Hid (Cc W1 bx 0 x ∧ bx < W1.heap.size ∧ bx = w.heap.size) := by rw [hW1, hbx]; exact ⟨cc_new w x, by simp, rfl⟩
  have HB : Hid (W1.heap[rb]? = some (.cells #[.slice pv n cv0] 54 (0, 0)) ∧ rb < w.heap.size) := ⟨(G1.below.block rb (tk_lt h1)).trans h1, tk_lt h1⟩
  have HO : Hid (W1.ownsRow 0 36 5 (.slice pv n cv0) n (fl EC M)) := owns_below h3 G1.below
  have HG1 := hid G1
  have hcap := (owns_cap HO.out).1
  have hcap2 := (owns_cap HO.out).2
  unfold maxLen at hcap2
  have HC0 : Hid (∀ W, Below W1.heap.size W1 W → W.cell? ⟨rb, 0, none⟩ = some (.slice pv n cv0) ∧ rb < W.heap.size ∧ Cc W bx 0 x ∧ bx < W.heap.size) := fun W hb => by
    have h6 := (hb.block rb (tk_lt HB.out.1)).trans HB.out.1
    exact ⟨(tk_store h6).1 0, tk_lt h6, HX.out.1.below HX.out.2.1 hb, Nat.lt_of_lt_of_le HX.out.2.1 hb.size⟩
  clear h1 h2 h3 h4 h5 hn hl G1
  go_enter Try.func39, Try.ntmps39
  go_upto_region 1 with fail
  rw [← hW1, ← hbx]
  clear hW1 hbx
  go_wp2_with fail
  go_loopw [4] (fun s4 wr => ∃ a : Nat, a ≤ n ∧ s4 = .int .i64 (a : Nat) ∧ Hid (Gr W1 wr ∧ ∀ j y, j < a → M[j]? = some y → clt y x = true)) (fun s4 _ => n - (RowKit.intOf s4).toNat)
  case atStart => exact ⟨0, Nat.zero_le _, rfl, Gr.refl _, fun j y hj => absurd hj (Nat.not_lt_zero _)⟩
  case round =>
    obtain ⟨a, ha, rfl, HI⟩ := hrel
    have hS0 : Below W1.heap.size W1 wr.drew := HI.out.1.below.trans ((Gr.refl wr).drew.below.mono HI.out.1.size)
    have ha0 : (0 : Int) ≤ (a : Int) := by omega
    by_cases hlt : a < n
    · have hz : decide ((a : Int) < (n : Int)) = true := by simp; omega
      have haz : (a : Int) < (n : Int) := by omega
      obtain ⟨y, hy⟩ : ∃ y, M[a]? = some y := ⟨M[a]'(by have := HN.out; omega), by simp⟩
      obtain ⟨g, hpg⟩ : ∃ g, pv = some ⟨g, 0, none⟩ := by
        rcases id HO.out.2 with ⟨h0, h1⟩ | ⟨g, cap, cur, h0, _⟩
        · omega
        · cases h0; exact ⟨g, rfl⟩
      subst hpg
      have HYA : Hid (∀ W, Below W1.heap.size W1 W → g < W.heap.size ∧ Cc W g (a * 5) y) := fun W hb => by
        obtain ⟨b, o, q', e', l', h'⟩ := atC ((owns_ls (E := EC) (ts := M) (by rw [← HN.out]; exact HO.out)).below hb) hy
        simp only [Value.slice.injEq, Option.some.injEq, Addr.mk.injEq, and_true] at e'
        obtain ⟨⟨rfl, rfl⟩, -⟩ := e'
        rw [Nat.zero_add] at h'
        exact ⟨l', h'⟩
      have HY := hid hy
      have htl := fun W => rtold_any y x W
      obtain ⟨b, hb⟩ : ∃ b, b = clt y x := ⟨_, rfl⟩
      rw [← hb] at htl
      have HBB := hid hb
      clear hy hb
      go_upto_region 2 with fail
      cases b with
      | true =>
        refine wp_regionD (S := fun W' => Below W1.heap.size W1 W') (D := []) hmx ?_
        refine' wpAnyD_take (i := 0) (oi := { dst := some 6, op := Go.Op.move (Go.Operand.tmp 4), type := 3, pos := "ref.go:26", after := #[], guard := none }) (v := _) rfl (by kernel_rfl) (by kernel_rfl) (by kernel_rfl) (fun _ _ _ h => h) (by kernel_rfl) (Or.inl ⟨by rfl, ?hy1⟩) hS0 ?rest1
        case hy1 => (intro W hSw; go_simp; try (with_reducible rfl))
        try simp only [Act.put, List.setIfInBounds_toArray, List.set_cons_zero, List.set_cons_succ]
        refine' wpAnyD_take (i := 1) (oi := { dst := some 7, op := Go.Op.move (Go.Operand.tmp 0), type := 52, pos := "ref.go:26", after := #[], guard := none }) (v := _) rfl (by kernel_rfl) (by kernel_rfl) (by kernel_rfl) (fun _ _ _ h => h) (by kernel_rfl) (Or.inl ⟨by rfl, ?hy2⟩) hS0 ?rest2
        case hy2 => (intro W hSw; go_simp; try (with_reducible rfl))
        try simp only [Act.put, List.setIfInBounds_toArray, List.set_cons_zero, List.set_cons_succ]
        refine' wpAnyD_take (i := 2) (oi := { dst := some 8, op := Go.Op.nilCheck (Go.Operand.tmp 7), type := 0, pos := "ref.go:26", after := #[{ on := 1, ground := Go.Ground.data }], guard := none }) (v := _) rfl (by kernel_rfl) (by kernel_rfl) (by kernel_rfl) (fun _ _ _ h => h) (by kernel_rfl) (Or.inl ⟨by rfl, ?hy3⟩) hS0 ?rest3
        case hy3 => (intro W hSw; obtain ⟨s1, s2, ⟨s3, s4, s5, s6, s7⟩, s8⟩ := HC0.out W hSw; go_simp; try (with_reducible rfl))
        try simp only [Act.put, List.setIfInBounds_toArray, List.set_cons_zero, List.set_cons_succ]
        refine' wpAnyD_take (i := 3) (oi := { dst := some 9, op := Go.Op.fieldAddr 54 (Go.Operand.tmp 8) 0, type := 0, pos := "ref.go:26", after := #[{ on := 2, ground := Go.Ground.data }], guard := none }) (v := _) rfl (by kernel_rfl) (by kernel_rfl) (by kernel_rfl) (fun _ _ _ h => h) (by kernel_rfl) (Or.inl ⟨by rfl, ?hy4⟩) hS0 ?rest4
        case hy4 => (intro W hSw; go_simp; try (with_reducible rfl))
        try simp only [Act.put, List.setIfInBounds_toArray, List.set_cons_zero, List.set_cons_succ]
        refine' wpAnyD_take (i := 4) (oi := { dst := some 10, op := Go.Op.load 22 (Go.Operand.tmp 9), type := 22, pos := "ref.go:26", after := #[{ on := 3, ground := Go.Ground.data }], guard := none }) (v := _) rfl (by kernel_rfl) (by kernel_rfl) (by kernel_rfl) (fun _ _ _ h => h) (by kernel_rfl) (Or.inl ⟨by rfl, ?hy5⟩) hS0 ?rest5
        case hy5 => (intro W hSw; obtain ⟨s1, s2, ⟨s3, s4, s5, s6, s7⟩, s8⟩ := HC0.out W hSw; go_simp; try (with_reducible rfl))
        try simp only [Act.put, List.setIfInBounds_toArray, List.set_cons_zero, List.set_cons_succ]
        refine' wpAnyD_take (i := 5) (oi := { dst := some 11, op := Go.Op.call { callee := Go.Callee.builtin Go.Builtin.len, args := #[Go.Operand.tmp 10], argTypes := #[22] }, type := 3, pos := "ref.go:26", after := #[{ on := 4, ground := Go.Ground.data }], guard := none }) (v := _) rfl (by kernel_rfl) (by kernel_rfl) (by kernel_rfl) (fun _ _ _ h => h) (by kernel_rfl) (Or.inl ⟨by rfl, ?hy6⟩) hS0 ?rest6
        case hy6 => (intro W hSw; go_simp; try (with_reducible rfl))
        try simp only [Act.put, List.setIfInBounds_toArray, List.set_cons_zero, List.set_cons_succ]
        refine' wpAnyD_take (i := 6) (oi := { dst := some 12, op := Go.Op.binOp Go.BinOp.lss 3 (Go.Operand.tmp 6) (Go.Operand.tmp 11) 3, type := 4, pos := "ref.go:26", after := #[{ on := 0, ground := Go.Ground.data }, { on := 5, ground := Go.Ground.data }], guard := none }) (v := .bool true) rfl (by kernel_rfl) (by kernel_rfl) (by kernel_rfl) (fun _ _ _ h => h) (by kernel_rfl) (Or.inl ⟨by rfl, ?hy7⟩) hS0 ?rest7
        case hy7 => (intro W hSw; go_simp; first | done | omega)
        try simp only [Act.put, List.setIfInBounds_toArray, List.set_cons_zero, List.set_cons_succ]
        refine' wpAnyD_take (i := 7) (oi := { dst := some 13, op := Go.Op.move (Go.Operand.tmp 12), type := 4, pos := "ref.go:26", after := #[{ on := 6, ground := Go.Ground.data }], guard := none }) (v := .bool true) rfl (by kernel_rfl) (by kernel_rfl) (by kernel_rfl) (fun _ _ _ h => h) (by kernel_rfl) (Or.inl ⟨by rfl, ?hy8⟩) hS0 ?rest8
        case hy8 => (intro W hSw; go_simp; try (with_reducible rfl))
        try simp only [Act.put, List.setIfInBounds_toArray, List.set_cons_zero, List.set_cons_succ]
        refine' wpAnyD_take (i := 8) (oi := { dst := some 14, op := Go.Op.move (Go.Operand.tmp 0), type := 52, pos := "ref.go:26", after := #[{ on := 7, ground := Go.Ground.guard }], guard := some (7, true) }) (v := _) rfl (by kernel_rfl) (by kernel_rfl) (by kernel_rfl) (fun _ _ _ h => h) (by kernel_rfl) (Or.inl ⟨by rfl, ?hy9⟩) hS0 ?rest9
        case hy9 => (intro W hSw; go_simp; try (with_reducible rfl))
        try simp only [Act.put, List.setIfInBounds_toArray, List.set_cons_zero, List.set_cons_succ]
        refine' wpAnyD_take (i := 9) (oi := { dst := some 15, op := Go.Op.nilCheck (Go.Operand.tmp 14), type := 0, pos := "ref.go:26", after := #[{ on := 8, ground := Go.Ground.data }, { on := 7, ground := Go.Ground.guard }], guard := some (7, true) }) (v := _) rfl (by kernel_rfl) (by kernel_rfl) (by kernel_rfl) (fun _ _ _ h => h) (by kernel_rfl) (Or.inl ⟨by rfl, ?hy10⟩) hS0 ?rest10
        case hy10 => (intro W hSw; obtain ⟨s1, s2, ⟨s3, s4, s5, s6, s7⟩, s8⟩ := HC0.out W hSw; go_simp; try (with_reducible rfl))
        try simp only [Act.put, List.setIfInBounds_toArray, List.set_cons_zero, List.set_cons_succ]
        refine' wpAnyD_take (i := 10) (oi := { dst := some 16, op := Go.Op.fieldAddr 54 (Go.Operand.tmp 15) 0, type := 0, pos := "ref.go:26", after := #[{ on := 9, ground := Go.Ground.data }, { on := 7, ground := Go.Ground.guard }], guard := some (7, true) }) (v := _) rfl (by kernel_rfl) (by kernel_rfl) (by kernel_rfl) (fun _ _ _ h => h) (by kernel_rfl) (Or.inl ⟨by rfl, ?hy11⟩) hS0 ?rest11
        case hy11 => (intro W hSw; go_simp; try (with_reducible rfl))
        try simp only [Act.put, List.setIfInBounds_toArray, List.set_cons_zero, List.set_cons_succ]
        refine' wpAnyD_take (i := 11) (oi := { dst := some 17, op := Go.Op.load 22 (Go.Operand.tmp 16), type := 22, pos := "ref.go:26", after := #[{ on := 10, ground := Go.Ground.data }, { on := 7, ground := Go.Ground.guard }], guard := some (7, true) }) (v := _) rfl (by kernel_rfl) (by kernel_rfl) (by kernel_rfl) (fun _ _ _ h => h) (by kernel_rfl) (Or.inl ⟨by rfl, ?hy12⟩) hS0 ?rest12
        case hy12 => (intro W hSw; obtain ⟨s1, s2, ⟨s3, s4, s5, s6, s7⟩, s8⟩ := HC0.out W hSw; go_simp; try (with_reducible rfl))
        try simp only [Act.put, List.setIfInBounds_toArray, List.set_cons_zero, List.set_cons_succ]
        refine' wpAnyD_take (i := 12) (oi := { dst := some 18, op := Go.Op.move (Go.Operand.tmp 4), type := 3, pos := "ref.go:26", after := #[{ on := 7, ground := Go.Ground.guard }], guard := some (7, true) }) (v := _) rfl (by kernel_rfl) (by kernel_rfl) (by kernel_rfl) (fun _ _ _ h => h) (by kernel_rfl) (Or.inl ⟨by rfl, ?hy13⟩) hS0 ?rest13
        case hy13 => (intro W hSw; go_simp; try (with_reducible rfl))
        try simp only [Act.put, List.setIfInBounds_toArray, List.set_cons_zero, List.set_cons_succ]
        refine' wpAnyD_take (i := 13) (oi := { dst := some 19, op := Go.Op.indexAddr 22 (Go.Operand.tmp 17) (Go.Operand.tmp 18), type := 0, pos := "ref.go:26", after := #[{ on := 11, ground := Go.Ground.data }, { on := 12, ground := Go.Ground.data }, { on := 7, ground := Go.Ground.guard }], guard := some (7, true) }) (v := _) rfl (by kernel_rfl) (by kernel_rfl) (by kernel_rfl) (fun _ _ _ h => h) (by kernel_rfl) (Or.inl ⟨by rfl, ?hy14⟩) hS0 ?rest14
        case hy14 => (intro W hSw; obtain ⟨s1, s2, ⟨s3, s4, s5, s6, s7⟩, s8⟩ := HC0.out W hSw; obtain ⟨s9, ⟨s10, s11, s12, s13, s14⟩⟩ := HYA.out W hSw; go_simp; try (with_reducible rfl))
        try simp only [Act.put, List.setIfInBounds_toArray, List.set_cons_zero, List.set_cons_succ]
        refine' wpAnyD_take (i := 14) (oi := { dst := some 20, op := Go.Op.load 36 (Go.Operand.tmp 19), type := 36, pos := "ref.go:26", after := #[{ on := 13, ground := Go.Ground.data }, { on := 7, ground := Go.Ground.guard }], guard := some (7, true) }) (v := _) rfl (by kernel_rfl) (by kernel_rfl) (by kernel_rfl) (fun _ _ _ h => h) (by kernel_rfl) (Or.inl ⟨by rfl, ?hy15⟩) hS0 ?rest15
        case hy15 => (intro W hSw; obtain ⟨s1, s2, ⟨s3, s4, s5, s6, s7⟩, s8⟩ := HC0.out W hSw; obtain ⟨s9, ⟨s10, s11, s12, s13, s14⟩⟩ := HYA.out W hSw; go_simp; try (with_reducible rfl))
        try simp only [Act.put, List.setIfInBounds_toArray, List.set_cons_zero, List.set_cons_succ]
        refine' wpAnyD_take (i := 15) (oi := { dst := some 21, op := Go.Op.load 36 (Go.Operand.tmp 3), type := 36, pos := "ref.go:26", after := #[{ on := 7, ground := Go.Ground.guard }], guard := some (7, true) }) (v := _) rfl (by kernel_rfl) (by kernel_rfl) (by kernel_rfl) (fun _ _ _ h => h) (by kernel_rfl) (Or.inl ⟨by rfl, ?hy16⟩) hS0 ?rest16
        case hy16 => (intro W hSw; obtain ⟨s1, s2, ⟨s3, s4, s5, s6, s7⟩, s8⟩ := HC0.out W hSw; obtain ⟨s9, ⟨s10, s11, s12, s13, s14⟩⟩ := HYA.out W hSw; go_simp; try (with_reducible rfl))
        try simp only [Act.put, List.setIfInBounds_toArray, List.set_cons_zero, List.set_cons_succ]
        refine wpAnyD_one (i := 16) (o := { dst := some 22, op := Go.Op.call { callee := Go.Callee.value (Go.Operand.func 47), args := #[Go.Operand.tmp 20, Go.Operand.tmp 21], argTypes := #[36, 36] }, type := 4, pos := "ref.go:26", after := #[{ on := 14, ground := Go.Ground.data }, { on := 15, ground := Go.Ground.data }, { on := 7, ground := Go.Ground.chain }, { on := 7, ground := Go.Ground.guard }], guard := some (7, true) }) (by kernel_rfl) rfl (fun K hK => ?_)
        rw [if_pos (by kernel_rfl)]
        go_simp
        refine (htl _).mono ?_
        rintro e w5 ⟨rfl, g5⟩
        have hS5 : Below W1.heap.size W1 w5 := hS0.trans (g5.below.mono hS0.size)
        have HG5 : Hid (Gr W1 w5) := HI.out.1.drew.trans g5
        clear g5
        dsimp only
        refine hK.out _ _ (fun hD => hS5) ?_
        clear hK K
        try simp only [Act.put, List.setIfInBounds_toArray, List.set_cons_zero, List.set_cons_succ]
        refine' wpAnyD_take (i := 17) (oi := { dst := some 23, op := Go.Op.pick (Go.Operand.tmp 13) (Go.Operand.tmp 22) (Go.Operand.const (Go.Value.bool false)), type := 4, pos := "ref.go:26", after := #[{ on := 7, ground := Go.Ground.data }, { on := 16, ground := Go.Ground.data }], guard := none }) (v := .bool true) rfl (by kernel_rfl) (by kernel_rfl) (by kernel_rfl) (fun _ _ _ h => h) (by kernel_rfl) (Or.inl ⟨by rfl, ?hy18⟩) hS5 ?rest18
        case hy18 => (intro W hSw; go_simp; try (with_reducible rfl))
        try simp only [Act.put, List.setIfInBounds_toArray, List.set_cons_zero, List.set_cons_succ]
        refine wpAnyD_done (by kernel_rfl) ?_ _
        clear hS0 hS5 HYA htl
        go_wp2_with fail
        go_roundw
        case rel =>
          refine ⟨a + 1, by omega, by go_num, HG5.out, fun j z hj hq => ?_⟩
          by_cases e : j = a
          · subst e
            have := HY.out
            rw [hq] at this
            cases this
            exact HBB.out.symm
          · exact HI.out.2 j z (by omega) hq
        case measure => simp [RowKit.intOf]; omega
      | false =>
        refine wp_regionD (S := fun W' => Below W1.heap.size W1 W') (D := []) hmx ?_
        refine' wpAnyD_take (i := 0) (oi := { dst := some 6, op := Go.Op.move (Go.Operand.tmp 4), type := 3, pos := "ref.go:26", after := #[], guard := none }) (v := _) rfl (by kernel_rfl) (by kernel_rfl) (by kernel_rfl) (fun _ _ _ h => h) (by kernel_rfl) (Or.inl ⟨by rfl, ?hy19⟩) hS0 ?rest19
        case hy19 => (intro W hSw; go_simp; try (with_reducible rfl))
        try simp only [Act.put, List.setIfInBounds_toArray, List.set_cons_zero, List.set_cons_succ]
        refine' wpAnyD_take (i := 1) (oi := { dst := some 7, op := Go.Op.move (Go.Operand.tmp 0), type := 52, pos := "ref.go:26", after := #[], guard := none }) (v := _) rfl (by kernel_rfl) (by kernel_rfl) (by kernel_rfl) (fun _ _ _ h => h) (by kernel_rfl) (Or.inl ⟨by rfl, ?hy20⟩) hS0 ?rest20
        case hy20 => (intro W hSw; go_simp; try (with_reducible rfl))
        try simp only [Act.put, List.setIfInBounds_toArray, List.set_cons_zero, List.set_cons_succ]
        refine' wpAnyD_take (i := 2) (oi := { dst := some 8, op := Go.Op.nilCheck (Go.Operand.tmp 7), type := 0, pos := "ref.go:26", after := #[{ on := 1, ground := Go.Ground.data }], guard := none }) (v := _) rfl (by kernel_rfl) (by kernel_rfl) (by kernel_rfl) (fun _ _ _ h => h) (by kernel_rfl) (Or.inl ⟨by rfl, ?hy21⟩) hS0 ?rest21
        case hy21 => (intro W hSw; obtain ⟨s1, s2, ⟨s3, s4, s5, s6, s7⟩, s8⟩ := HC0.out W hSw; go_simp; try (with_reducible rfl))
        try simp only [Act.put, List.setIfInBounds_toArray, List.set_cons_zero, List.set_cons_succ]
        refine' wpAnyD_take (i := 3) (oi := { dst := some 9, op := Go.Op.fieldAddr 54 (Go.Operand.tmp 8) 0, type := 0, pos := "ref.go:26", after := #[{ on := 2, ground := Go.Ground.data }], guard := none }) (v := _) rfl (by kernel_rfl) (by kernel_rfl) (by kernel_rfl) (fun _ _ _ h => h) (by kernel_rfl) (Or.inl ⟨by rfl, ?hy22⟩) hS0 ?rest22
        case hy22 => (intro W hSw; go_simp; try (with_reducible rfl))
        try simp only [Act.put, List.setIfInBounds_toArray, List.set_cons_zero, List.set_cons_succ]
        refine' wpAnyD_take (i := 4) (oi := { dst := some 10, op := Go.Op.load 22 (Go.Operand.tmp 9), type := 22, pos := "ref.go:26", after := #[{ on := 3, ground := Go.Ground.data }], guard := none }) (v := _) rfl (by kernel_rfl) (by kernel_rfl) (by kernel_rfl) (fun _ _ _ h => h) (by kernel_rfl) (Or.inl ⟨by rfl, ?hy23⟩) hS0 ?rest23
        case hy23 => (intro W hSw; obtain ⟨s1, s2, ⟨s3, s4, s5, s6, s7⟩, s8⟩ := HC0.out W hSw; go_simp; try (with_reducible rfl))
        try simp only [Act.put, List.setIfInBounds_toArray, List.set_cons_zero, List.set_cons_succ]
        refine' wpAnyD_take (i := 5) (oi := { dst := some 11, op := Go.Op.call { callee := Go.Callee.builtin Go.Builtin.len, args := #[Go.Operand.tmp 10], argTypes := #[22] }, type := 3, pos := "ref.go:26", after := #[{ on := 4, ground := Go.Ground.data }], guard := none }) (v := _) rfl (by kernel_rfl) (by kernel_rfl) (by kernel_rfl) (fun _ _ _ h => h) (by kernel_rfl) (Or.inl ⟨by rfl, ?hy24⟩) hS0 ?rest24
        case hy24 => (intro W hSw; go_simp; try (with_reducible rfl))
        try simp only [Act.put, List.setIfInBounds_toArray, List.set_cons_zero, List.set_cons_succ]
        refine' wpAnyD_take (i := 6) (oi := { dst := some 12, op := Go.Op.binOp Go.BinOp.lss 3 (Go.Operand.tmp 6) (Go.Operand.tmp 11) 3, type := 4, pos := "ref.go:26", after := #[{ on := 0, ground := Go.Ground.data }, { on := 5, ground := Go.Ground.data }], guard := none }) (v := .bool true) rfl (by kernel_rfl) (by kernel_rfl) (by kernel_rfl) (fun _ _ _ h => h) (by kernel_rfl) (Or.inl ⟨by rfl, ?hy25⟩) hS0 ?rest25
        case hy25 => (intro W hSw; go_simp; first | done | omega)
        try simp only [Act.put, List.setIfInBounds_toArray, List.set_cons_zero, List.set_cons_succ]
        refine' wpAnyD_take (i := 7) (oi := { dst := some 13, op := Go.Op.move (Go.Operand.tmp 12), type := 4, pos := "ref.go:26", after := #[{ on := 6, ground := Go.Ground.data }], guard := none }) (v := .bool true) rfl (by kernel_rfl) (by kernel_rfl) (by kernel_rfl) (fun _ _ _ h => h) (by kernel_rfl) (Or.inl ⟨by rfl, ?hy26⟩) hS0 ?rest26
        case hy26 => (intro W hSw; go_simp; try (with_reducible rfl))
        try simp only [Act.put, List.setIfInBounds_toArray, List.set_cons_zero, List.set_cons_succ]
        refine' wpAnyD_take (i := 8) (oi := { dst := some 14, op := Go.Op.move (Go.Operand.tmp 0), type := 52, pos := "ref.go:26", after := #[{ on := 7, ground := Go.Ground.guard }], guard := some (7, true) }) (v := _) rfl (by kernel_rfl) (by kernel_rfl) (by kernel_rfl) (fun _ _ _ h => h) (by kernel_rfl) (Or.inl ⟨by rfl, ?hy27⟩) hS0 ?rest27
        case hy27 => (intro W hSw; go_simp; try (with_reducible rfl))
        try simp only [Act.put, List.setIfInBounds_toArray, List.set_cons_zero, List.set_cons_succ]
        refine' wpAnyD_take (i := 9) (oi := { dst := some 15, op := Go.Op.nilCheck (Go.Operand.tmp 14), type := 0, pos := "ref.go:26", after := #[{ on := 8, ground := Go.Ground.data }, { on := 7, ground := Go.Ground.guard }], guard := some (7, true) }) (v := _) rfl (by kernel_rfl) (by kernel_rfl) (by kernel_rfl) (fun _ _ _ h => h) (by kernel_rfl) (Or.inl ⟨by rfl, ?hy28⟩) hS0 ?rest28
        case hy28 => (intro W hSw; obtain ⟨s1, s2, ⟨s3, s4, s5, s6, s7⟩, s8⟩ := HC0.out W hSw; go_simp; try (with_reducible rfl))
        try simp only [Act.put, List.setIfInBounds_toArray, List.set_cons_zero, List.set_cons_succ]
        refine' wpAnyD_take (i := 10) (oi := { dst := some 16, op := Go.Op.fieldAddr 54 (Go.Operand.tmp 15) 0, type := 0, pos := "ref.go:26", after := #[{ on := 9, ground := Go.Ground.data }, { on := 7, ground := Go.Ground.guard }], guard := some (7, true) }) (v := _) rfl (by kernel_rfl) (by kernel_rfl) (by kernel_rfl) (fun _ _ _ h => h) (by kernel_rfl) (Or.inl ⟨by rfl, ?hy29⟩) hS0 ?rest29
        case hy29 => (intro W hSw; go_simp; try (with_reducible rfl))
        try simp only [Act.put, List.setIfInBounds_toArray, List.set_cons_zero, List.set_cons_succ]
        refine' wpAnyD_take (i := 11) (oi := { dst := some 17, op := Go.Op.load 22 (Go.Operand.tmp 16), type := 22, pos := "ref.go:26", after := #[{ on := 10, ground := Go.Ground.data }, { on := 7, ground := Go.Ground.guard }], guard := some (7, true) }) (v := _) rfl (by kernel_rfl) (by kernel_rfl) (by kernel_rfl) (fun _ _ _ h => h) (by kernel_rfl) (Or.inl ⟨by rfl, ?hy30⟩) hS0 ?rest30
        case hy30 => (intro W hSw; obtain ⟨s1, s2, ⟨s3, s4, s5, s6, s7⟩, s8⟩ := HC0.out W hSw; go_simp; try (with_reducible rfl))
        try simp only [Act.put, List.setIfInBounds_toArray, List.set_cons_zero, List.set_cons_succ]
        refine' wpAnyD_take (i := 12) (oi := { dst := some 18, op := Go.Op.move (Go.Operand.tmp 4), type := 3, pos := "ref.go:26", after := #[{ on := 7, ground := Go.Ground.guard }], guard := some (7, true) }) (v := _) rfl (by kernel_rfl) (by kernel_rfl) (by kernel_rfl) (fun _ _ _ h => h) (by kernel_rfl) (Or.inl ⟨by rfl, ?hy31⟩) hS0 ?rest31
        case hy31 => (intro W hSw; go_simp; try (with_reducible rfl))
        try simp only [Act.put, List.setIfInBounds_toArray, List.set_cons_zero, List.set_cons_succ]
        refine' wpAnyD_take (i := 13) (oi := { dst := some 19, op := Go.Op.indexAddr 22 (Go.Operand.tmp 17) (Go.Operand.tmp 18), type := 0, pos := "ref.go:26", after := #[{ on := 11, ground := Go.Ground.data }, { on := 12, ground := Go.Ground.data }, { on := 7, ground := Go.Ground.guard }], guard := some (7, true) }) (v := _) rfl (by kernel_rfl) (by kernel_rfl) (by kernel_rfl) (fun _ _ _ h => h) (by kernel_rfl) (Or.inl ⟨by rfl, ?hy32⟩) hS0 ?rest32
        case hy32 => (intro W hSw; obtain ⟨s1, s2, ⟨s3, s4, s5, s6, s7⟩, s8⟩ := HC0.out W hSw; obtain ⟨s9, ⟨s10, s11, s12, s13, s14⟩⟩ := HYA.out W hSw; go_simp; try (with_reducible rfl))
        try simp only [Act.put, List.setIfInBounds_toArray, List.set_cons_zero, List.set_cons_succ]
        refine' wpAnyD_take (i := 14) (oi := { dst := some 20, op := Go.Op.load 36 (Go.Operand.tmp 19), type := 36, pos := "ref.go:26", after := #[{ on := 13, ground := Go.Ground.data }, { on := 7, ground := Go.Ground.guard }], guard := some (7, true) }) (v := _) rfl (by kernel_rfl) (by kernel_rfl) (by kernel_rfl) (fun _ _ _ h => h) (by kernel_rfl) (Or.inl ⟨by rfl, ?hy33⟩) hS0 ?rest33
        case hy33 => (intro W hSw; obtain ⟨s1, s2, ⟨s3, s4, s5, s6, s7⟩, s8⟩ := HC0.out W hSw; obtain ⟨s9, ⟨s10, s11, s12, s13, s14⟩⟩ := HYA.out W hSw; go_simp; try (with_reducible rfl))
        try simp only [Act.put, List.setIfInBounds_toArray, List.set_cons_zero, List.set_cons_succ]
        refine' wpAnyD_take (i := 15) (oi := { dst := some 21, op := Go.Op.load 36 (Go.Operand.tmp 3), type := 36, pos := "ref.go:26", after := #[{ on := 7, ground := Go.Ground.guard }], guard := some (7, true) }) (v := _) rfl (by kernel_rfl) (by kernel_rfl) (by kernel_rfl) (fun _ _ _ h => h) (by kernel_rfl) (Or.inl ⟨by rfl, ?hy34⟩) hS0 ?rest34
        case hy34 => (intro W hSw; obtain ⟨s1, s2, ⟨s3, s4, s5, s6, s7⟩, s8⟩ := HC0.out W hSw; obtain ⟨s9, ⟨s10, s11, s12, s13, s14⟩⟩ := HYA.out W hSw; go_simp; try (with_reducible rfl))
        try simp only [Act.put, List.setIfInBounds_toArray, List.set_cons_zero, List.set_cons_succ]
        refine wpAnyD_one (i := 16) (o := { dst := some 22, op := Go.Op.call { callee := Go.Callee.value (Go.Operand.func 47), args := #[Go.Operand.tmp 20, Go.Operand.tmp 21], argTypes := #[36, 36] }, type := 4, pos := "ref.go:26", after := #[{ on := 14, ground := Go.Ground.data }, { on := 15, ground := Go.Ground.data }, { on := 7, ground := Go.Ground.chain }, { on := 7, ground := Go.Ground.guard }], guard := some (7, true) }) (by kernel_rfl) rfl (fun K hK => ?_)
        rw [if_pos (by kernel_rfl)]
        go_simp
        refine (htl _).mono ?_
        rintro e w5 ⟨rfl, g5⟩
        have hS5 : Below W1.heap.size W1 w5 := hS0.trans (g5.below.mono hS0.size)
        have HG5 : Hid (Gr W1 w5) := HI.out.1.drew.trans g5
        clear g5
        dsimp only
        refine hK.out _ _ (fun hD => hS5) ?_
        clear hK K
        try simp only [Act.put, List.setIfInBounds_toArray, List.set_cons_zero, List.set_cons_succ]
        refine' wpAnyD_take (i := 17) (oi := { dst := some 23, op := Go.Op.pick (Go.Operand.tmp 13) (Go.Operand.tmp 22) (Go.Operand.const (Go.Value.bool false)), type := 4, pos := "ref.go:26", after := #[{ on := 7, ground := Go.Ground.data }, { on := 16, ground := Go.Ground.data }], guard := none }) (v := .bool false) rfl (by kernel_rfl) (by kernel_rfl) (by kernel_rfl) (fun _ _ _ h => h) (by kernel_rfl) (Or.inl ⟨by rfl, ?hy36⟩) hS5 ?rest36
        case hy36 => (intro W hSw; go_simp; try (with_reducible rfl))
        try simp only [Act.put, List.setIfInBounds_toArray, List.set_cons_zero, List.set_cons_succ]
        refine wpAnyD_done (by kernel_rfl) ?_ _
        have HB9 : Hid (∀ z, M[a]? = some z → clt z x = false) := fun z hq => by
          have := HY.out
          rw [hq] at this
          cases this
          exact HBB.out.symm
        obtain ⟨W9, hW9⟩ : ∃ V, V = w5 := ⟨_, rfl⟩
        rw [← hW9] at HG5 ⊢
        have HG9 := HG5
        have HLP : Hid (Ls EC W1 (.slice (some ⟨g, 0, none⟩) a cv0) (M.take a) ∧ (M.take a).length = a ∧ Ls EC W1 (.slice (some ⟨g, a * 5, none⟩) (n - a) (cv0 - a)) (M.drop a)) := by
          have hO : Ls EC W1 (.slice (some ⟨g, 0, none⟩) n cv0) M := owns_ls (E := EC) (ts := M) (by rw [← HN.out]; exact HO.out)
          refine ⟨hO.cut (by have := HN.out; omega) cv0, by rw [List.length_take]; have := HN.out; omega, ?_⟩
          have h := hO.tail (k := a) (cv0 - a)
          rw [Nat.zero_add, ← HN.out] at h
          exact h
        have zz2 : (a : Int) ≤ (cv0 : Int) := by omega
        have zz3 : ¬ cv0 = 0 := by omega
        have zz4 : ¬ cv0 = a := by omega
        have zz5 : (a : Int) ≤ (n : Int) := by omega
        clear hS0 hS5 HYA htl hW9 HG5 HBB HY hlt hz haz
        have BW : Below W1.heap.size W1 W9 := HG9.out.below
        have L1 : Hid (Ls EC W9 (.slice (some ⟨g, 0, none⟩) a cv0) (M.take a) ∧ (M.take a).length = a) := ⟨HLP.out.1.below BW, HLP.out.2.1⟩
        have hw0 : W1.heap.size ≤ W9.heap.size := BW.size
        obtain ⟨s1, s2, ⟨s3, s4, s5, s6, s7⟩, s8⟩ := HC0.out W9 BW
        clear s3 s4 s5 s6 s7 s8
        have BDA : Hid ((0 + (M.take a).length) * 40 ≤ 140737488355328 ∧ 0 + (M.take a).length ≤ maxLen ∧ (a + 1) * 40 ≤ 140737488355328 ∧ a + 1 ≤ maxLen ∧ (a + 1 + (M.drop a).length) * 40 ≤ 140737488355328 ∧ a + 1 + (M.drop a).length ≤ maxLen) := by
          have e1 := HLP.out.2.1
          have e2 : (M.drop a).length = n - a := by rw [List.length_drop, HN.out]
          unfold maxLen
          rw [e1, e2]
          refine ⟨?_, ?_, ?_, ?_, ?_, ?_⟩ <;> omega
        go_wp2_with (at_builtin; refine wpAppL EC Try.underlying22 infoC rfl (by decide) rfl _ _ rfl W9.heap.size (.slice none 0 0) 0 [] rfl (World.ownsRow_nil _ _ _ _) (.slice (some ⟨g, 0, none⟩) a cv0) (M.take a) rfl L1.out.1 BDA.out.1 BDA.out.2.1 (Nat.le_refl _) ?_)
        intro v6 w6 ho6 hg6
        have B6 : Hid (Below W9.heap.size W9 w6) := (Kp.grownBy (S := fun _ => False) hg6 (fun k hk => by simp [Value.ownBlock] at hk)).below (Nat.le_refl _) (fun _ h => h.elim)
        have O6 : Hid (w6.ownsRow W9.heap.size 36 5 v6 a (fl EC (M.take a))) := owns_re ho6 (by first | rfl | (have e1 := L1.out.2; rw [List.length_take] at e1; omega)) (by simp)
        have BW6 : Hid (Below W1.heap.size W1 w6) := BW.trans (B6.out.mono BW.size)
        clear ho6 hg6 s1 s2 BW L1
        obtain ⟨s1, s2, ⟨s3, s4, s5, s6, s7⟩, s8⟩ := HC0.out w6 BW6.out
        go_wp2_with (at_builtin; refine wpApp1 EC Try.underlying22 infoC rfl (by decide) rfl _ _ rfl W9.heap.size v6 a _ rfl O6.out x (by first | rfl | (go_simp; done)) BDA.out.2.2.1 BDA.out.2.2.2.1 B6.out.size _ rfl _ ?_)
        intro g7 c7 w7 ho7 hg7 hl7
        have B7 : Hid (Below W9.heap.size W9 w7) := B6.out.trans ((Kp.grownBy (S := fun k => W9.heap.size ≤ k) hg7 (fun k hk => (O6.out.lt k hk).1)).below B6.out.size (fun _ h => h))
        have BW7 : Hid (Below W1.heap.size W1 w7) := HG9.out.below.trans (B7.out.mono hw0)
        have O7 := hid ho7
        clear ho7 hg7 hl7 s1 s2 s3 s4 s5 s6 s7 s8 O6 B6 BW6
        obtain ⟨s1, s2, ⟨s3, s4, s5, s6, s7⟩, s8⟩ := HC0.out w7 BW7.out
        clear s3 s4 s5 s6 s7 s8
        have L3 : Hid (Ls EC w7 (.slice (some ⟨g, a * 5, none⟩) (n - a) (cv0 - a)) (M.drop a)) := HLP.out.2.2.below BW7.out
        go_wp2_with (at_builtin; refine wpAppL EC Try.underlying22 infoC rfl (by decide) rfl _ _ rfl W9.heap.size (.slice (some ⟨g7, 0, none⟩) (a + 1) c7) (a + 1) _ rfl O7.out (.slice (some ⟨g, a * 5, none⟩) (n - a) (cv0 - a)) (M.drop a) rfl L3.out BDA.out.2.2.2.2.1 BDA.out.2.2.2.2.2 B7.out.size ?_)
        intro v8 w8 ho8 hg8
        have B8 : Hid (Below W9.heap.size W9 w8) := B7.out.trans ((Kp.grownBy (S := fun k => W9.heap.size ≤ k) hg8 (fun k hk => (O7.out.lt k hk).1)).below B7.out.size (fun _ h => h))
        have BW8 : Hid (Below W1.heap.size W1 w8) := HG9.out.below.trans (B8.out.mono hw0)
        have O8 : Hid (w8.ownsRow W9.heap.size 36 5 v8 ((M.take a) ++ x :: (M.drop a)).length (fl EC ((M.take a) ++ x :: (M.drop a)))) := owns_re ho8 (by simp only [List.length_append, List.length_cons, HLP.out.2.1, List.length_drop]; omega) (by first | (rw [fl_append, fl_cons]; done) | (rw [fl_append, fl_cons]; simp))
        clear ho8 hg8 s1 s2 O7 B7 BW7 L3
        have hb8 : Hid (w8.heap[rb]? = some (.cells #[.slice (some ⟨g, 0, none⟩) n cv0] 54 (0, 0))) := (BW8.out.block rb (tk_lt HB.out.1)).trans HB.out.1
        have z8 := (tk_store hb8.out).1 0
        have f8 := (tk_store hb8.out).2 0
        have l8 := tk_lt hb8.out
        obtain ⟨p8, c8, rfl⟩ := own_form O8.out
        obtain ⟨n8, hn8⟩ : ∃ k, k = ((M.take a) ++ x :: (M.drop a)).length := ⟨_, rfl⟩
        rw [← hn8] at O8
        rw [← hn8]
        have HN8 := hid hn8
        clear hn8
        go_wp2_with fail
        go_end0
        refine ⟨rfl, a, ?_, HI.out.2, HB9.out, ?_⟩
        · obtain ⟨t1, t2⟩ := tk_set hb8.out 0 (.slice p8 n8 c8)
          have hne : ∀ k, (Value.slice p8 n8 c8).ownBlock = some k → w.heap.size ≤ k := fun k hk => by
            have h1 := (O8.out.lt k hk).1
            have h2 := HG1.out.size
            omega
          refine ⟨_, t1, Or.inl HSR.out, owns_base (owns_re (owns_kp t2 O8.out (fun k hk e => by have h1 := hne k hk; have h2 := HB.out.2; omega)) HN8.out rfl) (Nat.zero_le _), fun k hk => ⟨Or.inr (hne k hk), fun e => by have h1 := hne k hk; have h2 := HB.out.2; omega⟩, fun e => by simp at e⟩
        · obtain ⟨t1, t2⟩ := tk_set hb8.out 0 (.slice p8 n8 c8)
          exact (Kp.of_below (S := fun k => k = rb) (HG1.out.below.trans (BW8.out.mono HG1.out.size))).trans t2 (fun _ _ h => h)
    · have hz : decide ((a : Int) < (n : Int)) = false := by simp; omega
      have han : a = n := by omega
      have HB9 : Hid (∀ z, M[a]? = some z → clt z x = false) := fun z hq => by
        have h1 := (List.getElem?_eq_some_iff.1 hq).1
        have h2 := HN.out
        omega
      have HG9 := hid HI.out.1.drew
      go_upto_region 2 with fail
      refine wp_regionD (S := fun W' => Below W1.heap.size W1 W') (D := []) hmx ?_
      refine' wpAnyD_take (i := 0) (oi := { dst := some 6, op := Go.Op.move (Go.Operand.tmp 4), type := 3, pos := "ref.go:26", after := #[], guard := none }) (v := _) rfl (by kernel_rfl) (by kernel_rfl) (by kernel_rfl) (fun _ _ _ h => h) (by kernel_rfl) (Or.inl ⟨by rfl, ?hy37⟩) hS0 ?rest37
      case hy37 => (intro W hSw; go_simp; try (with_reducible rfl))
      try simp only [Act.put, List.setIfInBounds_toArray, List.set_cons_zero, List.set_cons_succ]
      refine' wpAnyD_take (i := 1) (oi := { dst := some 7, op := Go.Op.move (Go.Operand.tmp 0), type := 52, pos := "ref.go:26", after := #[], guard := none }) (v := _) rfl (by kernel_rfl) (by kernel_rfl) (by kernel_rfl) (fun _ _ _ h => h) (by kernel_rfl) (Or.inl ⟨by rfl, ?hy38⟩) hS0 ?rest38
      case hy38 => (intro W hSw; go_simp; try (with_reducible rfl))
      try simp only [Act.put, List.setIfInBounds_toArray, List.set_cons_zero, List.set_cons_succ]
      refine' wpAnyD_take (i := 2) (oi := { dst := some 8, op := Go.Op.nilCheck (Go.Operand.tmp 7), type := 0, pos := "ref.go:26", after := #[{ on := 1, ground := Go.Ground.data }], guard := none }) (v := _) rfl (by kernel_rfl) (by kernel_rfl) (by kernel_rfl) (fun _ _ _ h => h) (by kernel_rfl) (Or.inl ⟨by rfl, ?hy39⟩) hS0 ?rest39
      case hy39 => (intro W hSw; obtain ⟨s1, s2, ⟨s3, s4, s5, s6, s7⟩, s8⟩ := HC0.out W hSw; go_simp; try (with_reducible rfl))
      try simp only [Act.put, List.setIfInBounds_toArray, List.set_cons_zero, List.set_cons_succ]
      refine' wpAnyD_take (i := 3) (oi := { dst := some 9, op := Go.Op.fieldAddr 54 (Go.Operand.tmp 8) 0, type := 0, pos := "ref.go:26", after := #[{ on := 2, ground := Go.Ground.data }], guard := none }) (v := _) rfl (by kernel_rfl) (by kernel_rfl) (by kernel_rfl) (fun _ _ _ h => h) (by kernel_rfl) (Or.inl ⟨by rfl, ?hy40⟩) hS0 ?rest40
      case hy40 => (intro W hSw; go_simp; try (with_reducible rfl))
      try simp only [Act.put, List.setIfInBounds_toArray, List.set_cons_zero, List.set_cons_succ]
      refine' wpAnyD_take (i := 4) (oi := { dst := some 10, op := Go.Op.load 22 (Go.Operand.tmp 9), type := 22, pos := "ref.go:26", after := #[{ on := 3, ground := Go.Ground.data }], guard := none }) (v := _) rfl (by kernel_rfl) (by kernel_rfl) (by kernel_rfl) (fun _ _ _ h => h) (by kernel_rfl) (Or.inl ⟨by rfl, ?hy41⟩) hS0 ?rest41
      case hy41 => (intro W hSw; obtain ⟨s1, s2, ⟨s3, s4, s5, s6, s7⟩, s8⟩ := HC0.out W hSw; go_simp; try (with_reducible rfl))
      try simp only [Act.put, List.setIfInBounds_toArray, List.set_cons_zero, List.set_cons_succ]
      refine' wpAnyD_take (i := 5) (oi := { dst := some 11, op := Go.Op.call { callee := Go.Callee.builtin Go.Builtin.len, args := #[Go.Operand.tmp 10], argTypes := #[22] }, type := 3, pos := "ref.go:26", after := #[{ on := 4, ground := Go.Ground.data }], guard := none }) (v := _) rfl (by kernel_rfl) (by kernel_rfl) (by kernel_rfl) (fun _ _ _ h => h) (by kernel_rfl) (Or.inl ⟨by rfl, ?hy42⟩) hS0 ?rest42
      case hy42 => (intro W hSw; go_simp; try (with_reducible rfl))
      try simp only [Act.put, List.setIfInBounds_toArray, List.set_cons_zero, List.set_cons_succ]
      refine' wpAnyD_take (i := 6) (oi := { dst := some 12, op := Go.Op.binOp Go.BinOp.lss 3 (Go.Operand.tmp 6) (Go.Operand.tmp 11) 3, type := 4, pos := "ref.go:26", after := #[{ on := 0, ground := Go.Ground.data }, { on := 5, ground := Go.Ground.data }], guard := none }) (v := .bool false) rfl (by kernel_rfl) (by kernel_rfl) (by kernel_rfl) (fun _ _ _ h => h) (by kernel_rfl) (Or.inl ⟨by rfl, ?hy43⟩) hS0 ?rest43
      case hy43 => (intro W hSw; go_simp; first | done | omega)
      try simp only [Act.put, List.setIfInBounds_toArray, List.set_cons_zero, List.set_cons_succ]
      refine' wpAnyD_take (i := 7) (oi := { dst := some 13, op := Go.Op.move (Go.Operand.tmp 12), type := 4, pos := "ref.go:26", after := #[{ on := 6, ground := Go.Ground.data }], guard := none }) (v := .bool false) rfl (by kernel_rfl) (by kernel_rfl) (by kernel_rfl) (fun _ _ _ h => h) (by kernel_rfl) (Or.inl ⟨by rfl, ?hy44⟩) hS0 ?rest44
      case hy44 => (intro W hSw; go_simp; try (with_reducible rfl))
      try simp only [Act.put, List.setIfInBounds_toArray, List.set_cons_zero, List.set_cons_succ]
      refine' wpAnyD_take (i := 8) (oi := { dst := some 14, op := Go.Op.move (Go.Operand.tmp 0), type := 52, pos := "ref.go:26", after := #[{ on := 7, ground := Go.Ground.guard }], guard := some (7, true) }) (v := undef) rfl (by kernel_rfl) (by kernel_rfl) (by kernel_rfl) (fun _ _ _ h => h) (by kernel_rfl) (Or.inr ⟨by rfl, rfl⟩) hS0 ?rest45
      try simp only [Act.put, List.setIfInBounds_toArray, List.set_cons_zero, List.set_cons_succ]
      refine' wpAnyD_take (i := 9) (oi := { dst := some 15, op := Go.Op.nilCheck (Go.Operand.tmp 14), type := 0, pos := "ref.go:26", after := #[{ on := 8, ground := Go.Ground.data }, { on := 7, ground := Go.Ground.guard }], guard := some (7, true) }) (v := undef) rfl (by kernel_rfl) (by kernel_rfl) (by kernel_rfl) (fun _ _ _ h => h) (by kernel_rfl) (Or.inr ⟨by rfl, rfl⟩) hS0 ?rest46
      try simp only [Act.put, List.setIfInBounds_toArray, List.set_cons_zero, List.set_cons_succ]
      refine' wpAnyD_take (i := 10) (oi := { dst := some 16, op := Go.Op.fieldAddr 54 (Go.Operand.tmp 15) 0, type := 0, pos := "ref.go:26", after := #[{ on := 9, ground := Go.Ground.data }, { on := 7, ground := Go.Ground.guard }], guard := some (7, true) }) (v := undef) rfl (by kernel_rfl) (by kernel_rfl) (by kernel_rfl) (fun _ _ _ h => h) (by kernel_rfl) (Or.inr ⟨by rfl, rfl⟩) hS0 ?rest47
      try simp only [Act.put, List.setIfInBounds_toArray, List.set_cons_zero, List.set_cons_succ]
      refine' wpAnyD_take (i := 11) (oi := { dst := some 17, op := Go.Op.load 22 (Go.Operand.tmp 16), type := 22, pos := "ref.go:26", after := #[{ on := 10, ground := Go.Ground.data }, { on := 7, ground := Go.Ground.guard }], guard := some (7, true) }) (v := undef) rfl (by kernel_rfl) (by kernel_rfl) (by kernel_rfl) (fun _ _ _ h => h) (by kernel_rfl) (Or.inr ⟨by rfl, rfl⟩) hS0 ?rest48
      try simp only [Act.put, List.setIfInBounds_toArray, List.set_cons_zero, List.set_cons_succ]
      refine' wpAnyD_take (i := 12) (oi := { dst := some 18, op := Go.Op.move (Go.Operand.tmp 4), type := 3, pos := "ref.go:26", after := #[{ on := 7, ground := Go.Ground.guard }], guard := some (7, true) }) (v := undef) rfl (by kernel_rfl) (by kernel_rfl) (by kernel_rfl) (fun _ _ _ h => h) (by kernel_rfl) (Or.inr ⟨by rfl, rfl⟩) hS0 ?rest49
      try simp only [Act.put, List.setIfInBounds_toArray, List.set_cons_zero, List.set_cons_succ]
      refine' wpAnyD_take (i := 13) (oi := { dst := some 19, op := Go.Op.indexAddr 22 (Go.Operand.tmp 17) (Go.Operand.tmp 18), type := 0, pos := "ref.go:26", after := #[{ on := 11, ground := Go.Ground.data }, { on := 12, ground := Go.Ground.data }, { on := 7, ground := Go.Ground.guard }], guard := some (7, true) }) (v := undef) rfl (by kernel_rfl) (by kernel_rfl) (by kernel_rfl) (fun _ _ _ h => h) (by kernel_rfl) (Or.inr ⟨by rfl, rfl⟩) hS0 ?rest50
      try simp only [Act.put, List.setIfInBounds_toArray, List.set_cons_zero, List.set_cons_succ]
      refine' wpAnyD_take (i := 14) (oi := { dst := some 20, op := Go.Op.load 36 (Go.Operand.tmp 19), type := 36, pos := "ref.go:26", after := #[{ on := 13, ground := Go.Ground.data }, { on := 7, ground := Go.Ground.guard }], guard := some (7, true) }) (v := undef) rfl (by kernel_rfl) (by kernel_rfl) (by kernel_rfl) (fun _ _ _ h => h) (by kernel_rfl) (Or.inr ⟨by rfl, rfl⟩) hS0 ?rest51
      try simp only [Act.put, List.setIfInBounds_toArray, List.set_cons_zero, List.set_cons_succ]
      refine' wpAnyD_take (i := 15) (oi := { dst := some 21, op := Go.Op.load 36 (Go.Operand.tmp 3), type := 36, pos := "ref.go:26", after := #[{ on := 7, ground := Go.Ground.guard }], guard := some (7, true) }) (v := undef) rfl (by kernel_rfl) (by kernel_rfl) (by kernel_rfl) (fun _ _ _ h => h) (by kernel_rfl) (Or.inr ⟨by rfl, rfl⟩) hS0 ?rest52
      try simp only [Act.put, List.setIfInBounds_toArray, List.set_cons_zero, List.set_cons_succ]
      refine' wpAnyD_take (i := 16) (oi := { dst := some 22, op := Go.Op.call { callee := Go.Callee.value (Go.Operand.func 47), args := #[Go.Operand.tmp 20, Go.Operand.tmp 21], argTypes := #[36, 36] }, type := 4, pos := "ref.go:26", after := #[{ on := 14, ground := Go.Ground.data }, { on := 15, ground := Go.Ground.data }, { on := 7, ground := Go.Ground.chain }, { on := 7, ground := Go.Ground.guard }], guard := some (7, true) }) (v := undef) rfl (by kernel_rfl) (by kernel_rfl) (by kernel_rfl) (fun _ _ _ h => h) (by kernel_rfl) (Or.inr ⟨by rfl, rfl⟩) hS0 ?rest53
      try simp only [Act.put, List.setIfInBounds_toArray, List.set_cons_zero, List.set_cons_succ]
      refine' wpAnyD_take (i := 17) (oi := { dst := some 23, op := Go.Op.pick (Go.Operand.tmp 13) (Go.Operand.tmp 22) (Go.Operand.const (Go.Value.bool false)), type := 4, pos := "ref.go:26", after := #[{ on := 7, ground := Go.Ground.data }, { on := 16, ground := Go.Ground.data }], guard := none }) (v := .bool false) rfl (by kernel_rfl) (by kernel_rfl) (by kernel_rfl) (fun _ _ _ h => h) (by kernel_rfl) (Or.inl ⟨by rfl, ?hy54⟩) hS0 ?rest54
      case hy54 => (intro W hSw; go_simp; try (with_reducible rfl))
      try simp only [Act.put, List.setIfInBounds_toArray, List.set_cons_zero, List.set_cons_succ]
      refine wpAnyD_done (by kernel_rfl) ?_ _
      have hge : Below W1.heap.size W1 wr.drew := hS0
      generalize wr.drew = W9 at HG9 hge
      clear hS0 hlt hz
      rcases id HO.out.2 with ⟨e0, h0⟩ | ⟨g, cap, cur, e0, _⟩
      · cases e0
        obtain rfl : a = 0 := by omega
        have HLP : Hid (Ls EC W1 (.slice none 0 0) (M.take 0) ∧ (M.take 0).length = 0 ∧ Ls EC W1 (.slice none 0 0) (M.drop 0)) := by
          have e : M = [] := List.eq_nil_of_length_eq_zero (by rw [← HN.out])
          subst e
          exact ⟨Ls.nil _, rfl, Ls.nil _⟩
        clear han ha ha0 hge
        have BW : Below W1.heap.size W1 W9 := HG9.out.below
        have L1 : Hid (Ls EC W9 (.slice none 0 0) (M.take 0) ∧ (M.take 0).length = 0) := ⟨HLP.out.1.below BW, HLP.out.2.1⟩
        have hw0 : W1.heap.size ≤ W9.heap.size := BW.size
        obtain ⟨s1, s2, ⟨s3, s4, s5, s6, s7⟩, s8⟩ := HC0.out W9 BW
        clear s3 s4 s5 s6 s7 s8
        have BDA : Hid ((0 + (M.take 0).length) * 40 ≤ 140737488355328 ∧ 0 + (M.take 0).length ≤ maxLen ∧ (0 + 1) * 40 ≤ 140737488355328 ∧ 0 + 1 ≤ maxLen ∧ (0 + 1 + (M.drop 0).length) * 40 ≤ 140737488355328 ∧ 0 + 1 + (M.drop 0).length ≤ maxLen) := by
          have e1 := HLP.out.2.1
          have e2 : (M.drop 0).length = 0 - 0 := by rw [List.length_drop, HN.out]
          unfold maxLen
          rw [e1, e2]
          refine ⟨?_, ?_, ?_, ?_, ?_, ?_⟩ <;> omega
        go_wp2_with (at_builtin; refine wpAppL EC Try.underlying22 infoC rfl (by decide) rfl _ _ rfl W9.heap.size (.slice none 0 0) 0 [] rfl (World.ownsRow_nil _ _ _ _) (.slice none 0 0) (M.take 0) rfl L1.out.1 BDA.out.1 BDA.out.2.1 (Nat.le_refl _) ?_)
        intro v6 w6 ho6 hg6
        have B6 : Hid (Below W9.heap.size W9 w6) := (Kp.grownBy (S := fun _ => False) hg6 (fun k hk => by simp [Value.ownBlock] at hk)).below (Nat.le_refl _) (fun _ h => h.elim)
        have O6 : Hid (w6.ownsRow W9.heap.size 36 5 v6 0 (fl EC (M.take 0))) := owns_re ho6 (by first | rfl | (have e1 := L1.out.2; rw [List.length_take] at e1; omega)) (by simp)
        have BW6 : Hid (Below W1.heap.size W1 w6) := BW.trans (B6.out.mono BW.size)
        clear ho6 hg6 s1 s2 BW L1
        obtain ⟨s1, s2, ⟨s3, s4, s5, s6, s7⟩, s8⟩ := HC0.out w6 BW6.out
        go_wp2_with (at_builtin; refine wpApp1 EC Try.underlying22 infoC rfl (by decide) rfl _ _ rfl W9.heap.size v6 0 _ rfl O6.out x (by first | rfl | (go_simp; done)) BDA.out.2.2.1 BDA.out.2.2.2.1 B6.out.size _ rfl _ ?_)
        intro g7 c7 w7 ho7 hg7 hl7
        have B7 : Hid (Below W9.heap.size W9 w7) := B6.out.trans ((Kp.grownBy (S := fun k => W9.heap.size ≤ k) hg7 (fun k hk => (O6.out.lt k hk).1)).below B6.out.size (fun _ h => h))
        have BW7 : Hid (Below W1.heap.size W1 w7) := HG9.out.below.trans (B7.out.mono hw0)
        have O7 := hid ho7
        clear ho7 hg7 hl7 s1 s2 s3 s4 s5 s6 s7 s8 O6 B6 BW6
        obtain ⟨s1, s2, ⟨s3, s4, s5, s6, s7⟩, s8⟩ := HC0.out w7 BW7.out
        clear s3 s4 s5 s6 s7 s8
        have L3 : Hid (Ls EC w7 (.slice none 0 0) (M.drop 0)) := HLP.out.2.2.below BW7.out
        go_wp2_with (at_builtin; refine wpAppL EC Try.underlying22 infoC rfl (by decide) rfl _ _ rfl W9.heap.size (.slice (some ⟨g7, 0, none⟩) (0 + 1) c7) (0 + 1) _ rfl O7.out (.slice none 0 0) (M.drop 0) rfl L3.out BDA.out.2.2.2.2.1 BDA.out.2.2.2.2.2 B7.out.size ?_)
        intro v8 w8 ho8 hg8
        have B8 : Hid (Below W9.heap.size W9 w8) := B7.out.trans ((Kp.grownBy (S := fun k => W9.heap.size ≤ k) hg8 (fun k hk => (O7.out.lt k hk).1)).below B7.out.size (fun _ h => h))
        have BW8 : Hid (Below W1.heap.size W1 w8) := HG9.out.below.trans (B8.out.mono hw0)
        have O8 : Hid (w8.ownsRow W9.heap.size 36 5 v8 ((M.take 0) ++ x :: (M.drop 0)).length (fl EC ((M.take 0) ++ x :: (M.drop 0)))) := owns_re ho8 (by simp only [List.length_append, List.length_cons, HLP.out.2.1, List.length_drop]; omega) (by first | (rw [fl_append, fl_cons]; done) | (rw [fl_append, fl_cons]; simp))
        clear ho8 hg8 s1 s2 O7 B7 BW7 L3
        have hb8 : Hid (w8.heap[rb]? = some (.cells #[.slice none 0 0] 54 (0, 0))) := (BW8.out.block rb (tk_lt HB.out.1)).trans HB.out.1
        have z8 := (tk_store hb8.out).1 0
        have f8 := (tk_store hb8.out).2 0
        have l8 := tk_lt hb8.out
        obtain ⟨p8, c8, rfl⟩ := own_form O8.out
        obtain ⟨n8, hn8⟩ : ∃ k, k = ((M.take 0) ++ x :: (M.drop 0)).length := ⟨_, rfl⟩
        rw [← hn8] at O8
        rw [← hn8]
        have HN8 := hid hn8
        clear hn8
        go_wp2_with fail
        go_end0
        refine ⟨rfl, 0, ?_, HI.out.2, HB9.out, ?_⟩
        · obtain ⟨t1, t2⟩ := tk_set hb8.out 0 (.slice p8 n8 c8)
          have hne : ∀ k, (Value.slice p8 n8 c8).ownBlock = some k → w.heap.size ≤ k := fun k hk => by
            have h1 := (O8.out.lt k hk).1
            have h2 := HG1.out.size
            omega
          refine ⟨_, t1, Or.inl HSR.out, owns_base (owns_re (owns_kp t2 O8.out (fun k hk e => by have h1 := hne k hk; have h2 := HB.out.2; omega)) HN8.out rfl) (Nat.zero_le _), fun k hk => ⟨Or.inr (hne k hk), fun e => by have h1 := hne k hk; have h2 := HB.out.2; omega⟩, fun e => by simp at e⟩
        · obtain ⟨t1, t2⟩ := tk_set hb8.out 0 (.slice p8 n8 c8)
          exact (Kp.of_below (S := fun k => k = rb) (HG1.out.below.trans (BW8.out.mono HG1.out.size))).trans t2 (fun _ _ h => h)
      · simp only [Value.slice.injEq] at e0
        obtain ⟨rfl, -, rfl⟩ := e0
        have hn0 : n ≠ 0 := fun e => by
          have h6 := HNL.out (List.eq_nil_of_length_eq_zero (by rw [← HN.out]; exact e))
          cases h6
        have hO : Ls EC W1 (.slice (some ⟨g, 0, none⟩) n cv0) M := owns_ls (E := EC) (ts := M) (by rw [← HN.out]; exact HO.out)
        have zz2 : (a : Int) ≤ (cv0 : Int) := by omega
        have zz3 : ¬ cv0 = 0 := by omega
        have zz5 : (a : Int) ≤ (n : Int) := by omega
        by_cases hca : cv0 = a
        · have HLP : Hid (Ls EC W1 (.slice (some ⟨g, 0, none⟩) a a) (M.take a) ∧ (M.take a).length = a ∧ Ls EC W1 (.slice (some ⟨g, 0, none⟩) 0 0) (M.drop a)) := by
            refine ⟨hO.cut (by have := HN.out; omega) a, by rw [List.length_take]; have := HN.out; omega, ?_⟩
            rw [List.drop_of_length_le (by have := HN.out; omega)]
            exact Or.inr ⟨g, 0, 0, rfl, (HO.out.lt g rfl).2, fun j u hj => by simp [fl] at hj⟩
          subst hca
          have hd0 : n - cv0 = 0 := by omega
          clear hge hO han
          have BW : Below W1.heap.size W1 W9 := HG9.out.below
          have L1 : Hid (Ls EC W9 (.slice (some ⟨g, 0, none⟩) cv0 cv0) (M.take cv0) ∧ (M.take cv0).length = cv0) := ⟨HLP.out.1.below BW, HLP.out.2.1⟩
          have hw0 : W1.heap.size ≤ W9.heap.size := BW.size
          obtain ⟨s1, s2, ⟨s3, s4, s5, s6, s7⟩, s8⟩ := HC0.out W9 BW
          clear s3 s4 s5 s6 s7 s8
          have BDA : Hid ((0 + (M.take cv0).length) * 40 ≤ 140737488355328 ∧ 0 + (M.take cv0).length ≤ maxLen ∧ (cv0 + 1) * 40 ≤ 140737488355328 ∧ cv0 + 1 ≤ maxLen ∧ (cv0 + 1 + (M.drop cv0).length) * 40 ≤ 140737488355328 ∧ cv0 + 1 + (M.drop cv0).length ≤ maxLen) := by
            have e1 := HLP.out.2.1
            have e2 : (M.drop cv0).length = n - cv0 := by rw [List.length_drop, HN.out]
            unfold maxLen
            rw [e1, e2]
            refine ⟨?_, ?_, ?_, ?_, ?_, ?_⟩ <;> omega
          go_wp2_with (at_builtin; refine wpAppL EC Try.underlying22 infoC rfl (by decide) rfl _ _ rfl W9.heap.size (.slice none 0 0) 0 [] rfl (World.ownsRow_nil _ _ _ _) (.slice (some ⟨g, 0, none⟩) cv0 cv0) (M.take cv0) rfl L1.out.1 BDA.out.1 BDA.out.2.1 (Nat.le_refl _) ?_)
          intro v6 w6 ho6 hg6
          have B6 : Hid (Below W9.heap.size W9 w6) := (Kp.grownBy (S := fun _ => False) hg6 (fun k hk => by simp [Value.ownBlock] at hk)).below (Nat.le_refl _) (fun _ h => h.elim)
          have O6 : Hid (w6.ownsRow W9.heap.size 36 5 v6 cv0 (fl EC (M.take cv0))) := owns_re ho6 (by first | rfl | (have e1 := L1.out.2; rw [List.length_take] at e1; omega)) (by simp)
          have BW6 : Hid (Below W1.heap.size W1 w6) := BW.trans (B6.out.mono BW.size)
          clear ho6 hg6 s1 s2 BW L1
          obtain ⟨s1, s2, ⟨s3, s4, s5, s6, s7⟩, s8⟩ := HC0.out w6 BW6.out
          go_wp2_with (at_builtin; refine wpApp1 EC Try.underlying22 infoC rfl (by decide) rfl _ _ rfl W9.heap.size v6 cv0 _ rfl O6.out x (by first | rfl | (go_simp; done)) BDA.out.2.2.1 BDA.out.2.2.2.1 B6.out.size _ rfl _ ?_)
          intro g7 c7 w7 ho7 hg7 hl7
          have B7 : Hid (Below W9.heap.size W9 w7) := B6.out.trans ((Kp.grownBy (S := fun k => W9.heap.size ≤ k) hg7 (fun k hk => (O6.out.lt k hk).1)).below B6.out.size (fun _ h => h))
          have BW7 : Hid (Below W1.heap.size W1 w7) := HG9.out.below.trans (B7.out.mono hw0)
          have O7 := hid ho7
          clear ho7 hg7 hl7 s1 s2 s3 s4 s5 s6 s7 s8 O6 B6 BW6
          obtain ⟨s1, s2, ⟨s3, s4, s5, s6, s7⟩, s8⟩ := HC0.out w7 BW7.out
          clear s3 s4 s5 s6 s7 s8
          have L3 : Hid (Ls EC w7 (.slice (some ⟨g, 0, none⟩) 0 0) (M.drop cv0)) := HLP.out.2.2.below BW7.out
          go_wp2_with (at_builtin; refine wpAppL EC Try.underlying22 infoC rfl (by decide) rfl _ _ rfl W9.heap.size (.slice (some ⟨g7, 0, none⟩) (cv0 + 1) c7) (cv0 + 1) _ rfl O7.out (.slice (some ⟨g, 0, none⟩) 0 0) (M.drop cv0) rfl L3.out BDA.out.2.2.2.2.1 BDA.out.2.2.2.2.2 B7.out.size ?_)
          intro v8 w8 ho8 hg8
          have B8 : Hid (Below W9.heap.size W9 w8) := B7.out.trans ((Kp.grownBy (S := fun k => W9.heap.size ≤ k) hg8 (fun k hk => (O7.out.lt k hk).1)).below B7.out.size (fun _ h => h))
          have BW8 : Hid (Below W1.heap.size W1 w8) := HG9.out.below.trans (B8.out.mono hw0)
          have O8 : Hid (w8.ownsRow W9.heap.size 36 5 v8 ((M.take cv0) ++ x :: (M.drop cv0)).length (fl EC ((M.take cv0) ++ x :: (M.drop cv0)))) := owns_re ho8 (by simp only [List.length_append, List.length_cons, HLP.out.2.1, List.length_drop]; omega) (by first | (rw [fl_append, fl_cons]; done) | (rw [fl_append, fl_cons]; simp))
          clear ho8 hg8 s1 s2 O7 B7 BW7 L3
          have hb8 : Hid (w8.heap[rb]? = some (.cells #[.slice (some ⟨g, 0, none⟩) n cv0] 54 (0, 0))) := (BW8.out.block rb (tk_lt HB.out.1)).trans HB.out.1
          have z8 := (tk_store hb8.out).1 0
          have f8 := (tk_store hb8.out).2 0
          have l8 := tk_lt hb8.out
          obtain ⟨p8, c8, rfl⟩ := own_form O8.out
          obtain ⟨n8, hn8⟩ : ∃ k, k = ((M.take cv0) ++ x :: (M.drop cv0)).length := ⟨_, rfl⟩
          rw [← hn8] at O8
          rw [← hn8]
          have HN8 := hid hn8
          clear hn8
          go_wp2_with fail
          go_end0
          refine ⟨rfl, cv0, ?_, HI.out.2, HB9.out, ?_⟩
          · obtain ⟨t1, t2⟩ := tk_set hb8.out 0 (.slice p8 n8 c8)
            have hne : ∀ k, (Value.slice p8 n8 c8).ownBlock = some k → w.heap.size ≤ k := fun k hk => by
              have h1 := (O8.out.lt k hk).1
              have h2 := HG1.out.size
              omega
            refine ⟨_, t1, Or.inl HSR.out, owns_base (owns_re (owns_kp t2 O8.out (fun k hk e => by have h1 := hne k hk; have h2 := HB.out.2; omega)) HN8.out rfl) (Nat.zero_le _), fun k hk => ⟨Or.inr (hne k hk), fun e => by have h1 := hne k hk; have h2 := HB.out.2; omega⟩, fun e => by simp at e⟩
          · obtain ⟨t1, t2⟩ := tk_set hb8.out 0 (.slice p8 n8 c8)
            exact (Kp.of_below (S := fun k => k = rb) (HG1.out.below.trans (BW8.out.mono HG1.out.size))).trans t2 (fun _ _ h => h)
        · have zz4 : ¬ cv0 = a := hca
          have HLP : Hid (Ls EC W1 (.slice (some ⟨g, 0, none⟩) a cv0) (M.take a) ∧ (M.take a).length = a ∧ Ls EC W1 (.slice (some ⟨g, a * 5, none⟩) (n - a) (cv0 - a)) (M.drop a)) := by
            refine ⟨hO.cut (by have := HN.out; omega) cv0, by rw [List.length_take]; have := HN.out; omega, ?_⟩
            have h := hO.tail (k := a) (cv0 - a)
            rw [Nat.zero_add, ← HN.out] at h
            exact h
          clear hca hge hO han
          have BW : Below W1.heap.size W1 W9 := HG9.out.below
          have L1 : Hid (Ls EC W9 (.slice (some ⟨g, 0, none⟩) a cv0) (M.take a) ∧ (M.take a).length = a) := ⟨HLP.out.1.below BW, HLP.out.2.1⟩
          have hw0 : W1.heap.size ≤ W9.heap.size := BW.size
          obtain ⟨s1, s2, ⟨s3, s4, s5, s6, s7⟩, s8⟩ := HC0.out W9 BW
          clear s3 s4 s5 s6 s7 s8
          have BDA : Hid ((0 + (M.take a).length) * 40 ≤ 140737488355328 ∧ 0 + (M.take a).length ≤ maxLen ∧ (a + 1) * 40 ≤ 140737488355328 ∧ a + 1 ≤ maxLen ∧ (a + 1 + (M.drop a).length) * 40 ≤ 140737488355328 ∧ a + 1 + (M.drop a).length ≤ maxLen) := by
            have e1 := HLP.out.2.1
            have e2 : (M.drop a).length = n - a := by rw [List.length_drop, HN.out]
            unfold maxLen
            rw [e1, e2]
            refine ⟨?_, ?_, ?_, ?_, ?_, ?_⟩ <;> omega
          go_wp2_with (at_builtin; refine wpAppL EC Try.underlying22 infoC rfl (by decide) rfl _ _ rfl W9.heap.size (.slice none 0 0) 0 [] rfl (World.ownsRow_nil _ _ _ _) (.slice (some ⟨g, 0, none⟩) a cv0) (M.take a) rfl L1.out.1 BDA.out.1 BDA.out.2.1 (Nat.le_refl _) ?_)
          intro v6 w6 ho6 hg6
          have B6 : Hid (Below W9.heap.size W9 w6) := (Kp.grownBy (S := fun _ => False) hg6 (fun k hk => by simp [Value.ownBlock] at hk)).below (Nat.le_refl _) (fun _ h => h.elim)
          have O6 : Hid (w6.ownsRow W9.heap.size 36 5 v6 a (fl EC (M.take a))) := owns_re ho6 (by first | rfl | (have e1 := L1.out.2; rw [List.length_take] at e1; omega)) (by simp)
          have BW6 : Hid (Below W1.heap.size W1 w6) := BW.trans (B6.out.mono BW.size)
          clear ho6 hg6 s1 s2 BW L1
          obtain ⟨s1, s2, ⟨s3, s4, s5, s6, s7⟩, s8⟩ := HC0.out w6 BW6.out
          go_wp2_with (at_builtin; refine wpApp1 EC Try.underlying22 infoC rfl (by decide) rfl _ _ rfl W9.heap.size v6 a _ rfl O6.out x (by first | rfl | (go_simp; done)) BDA.out.2.2.1 BDA.out.2.2.2.1 B6.out.size _ rfl _ ?_)
          intro g7 c7 w7 ho7 hg7 hl7
          have B7 : Hid (Below W9.heap.size W9 w7) := B6.out.trans ((Kp.grownBy (S := fun k => W9.heap.size ≤ k) hg7 (fun k hk => (O6.out.lt k hk).1)).below B6.out.size (fun _ h => h))
          have BW7 : Hid (Below W1.heap.size W1 w7) := HG9.out.below.trans (B7.out.mono hw0)
          have O7 := hid ho7
          clear ho7 hg7 hl7 s1 s2 s3 s4 s5 s6 s7 s8 O6 B6 BW6
          obtain ⟨s1, s2, ⟨s3, s4, s5, s6, s7⟩, s8⟩ := HC0.out w7 BW7.out
          clear s3 s4 s5 s6 s7 s8
          have L3 : Hid (Ls EC w7 (.slice (some ⟨g, a * 5, none⟩) (n - a) (cv0 - a)) (M.drop a)) := HLP.out.2.2.below BW7.out
          go_wp2_with (at_builtin; refine wpAppL EC Try.underlying22 infoC rfl (by decide) rfl _ _ rfl W9.heap.size (.slice (some ⟨g7, 0, none⟩) (a + 1) c7) (a + 1) _ rfl O7.out (.slice (some ⟨g, a * 5, none⟩) (n - a) (cv0 - a)) (M.drop a) rfl L3.out BDA.out.2.2.2.2.1 BDA.out.2.2.2.2.2 B7.out.size ?_)
          intro v8 w8 ho8 hg8
          have B8 : Hid (Below W9.heap.size W9 w8) := B7.out.trans ((Kp.grownBy (S := fun k => W9.heap.size ≤ k) hg8 (fun k hk => (O7.out.lt k hk).1)).below B7.out.size (fun _ h => h))
          have BW8 : Hid (Below W1.heap.size W1 w8) := HG9.out.below.trans (B8.out.mono hw0)
          have O8 : Hid (w8.ownsRow W9.heap.size 36 5 v8 ((M.take a) ++ x :: (M.drop a)).length (fl EC ((M.take a) ++ x :: (M.drop a)))) := owns_re ho8 (by simp only [List.length_append, List.length_cons, HLP.out.2.1, List.length_drop]; omega) (by first | (rw [fl_append, fl_cons]; done) | (rw [fl_append, fl_cons]; simp))
          clear ho8 hg8 s1 s2 O7 B7 BW7 L3
          have hb8 : Hid (w8.heap[rb]? = some (.cells #[.slice (some ⟨g, 0, none⟩) n cv0] 54 (0, 0))) := (BW8.out.block rb (tk_lt HB.out.1)).trans HB.out.1
          have z8 := (tk_store hb8.out).1 0
          have f8 := (tk_store hb8.out).2 0
          have l8 := tk_lt hb8.out
          obtain ⟨p8, c8, rfl⟩ := own_form O8.out
          obtain ⟨n8, hn8⟩ : ∃ k, k = ((M.take a) ++ x :: (M.drop a)).length := ⟨_, rfl⟩
          rw [← hn8] at O8
          rw [← hn8]
          have HN8 := hid hn8
          clear hn8
          go_wp2_with fail
          go_end0
          refine ⟨rfl, a, ?_, HI.out.2, HB9.out, ?_⟩
          · obtain ⟨t1, t2⟩ := tk_set hb8.out 0 (.slice p8 n8 c8)
            have hne : ∀ k, (Value.slice p8 n8 c8).ownBlock = some k → w.heap.size ≤ k := fun k hk => by
              have h1 := (O8.out.lt k hk).1
              have h2 := HG1.out.size
              omega
            refine ⟨_, t1, Or.inl HSR.out, owns_base (owns_re (owns_kp t2 O8.out (fun k hk e => by have h1 := hne k hk; have h2 := HB.out.2; omega)) HN8.out rfl) (Nat.zero_le _), fun k hk => ⟨Or.inr (hne k hk), fun e => by have h1 := hne k hk; have h2 := HB.out.2; omega⟩, fun e => by simp at e⟩
          · obtain ⟨t1, t2⟩ := tk_set hb8.out 0 (.slice p8 n8 c8)
            exact (Kp.of_below (S := fun k => k = rb) (HG1.out.below.trans (BW8.out.mono HG1.out.size))).trans t2 (fun _ _ h => h)
end Go.Proofs.Ytghpekkncfckaaa.Ca
