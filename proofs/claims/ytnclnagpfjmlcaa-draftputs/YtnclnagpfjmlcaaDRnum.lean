import Derived.Test.YtnclnagpfjmlcaaDPutF
import Derived.Test.YtnclnagpfjmlcaaLStep2
import Derived.Test.YtnclnagpfjmlcaaLHold
namespace Go.Proofs.Ytnclnagpfjmlcaa.Df
open Go.RowKit Go.Sort Wi
attribute [local go_sem ↓] Go.wp_at_zero Go.wp_at_succ

/-- What a laying call of the document's leaves: new bytes. -/
def Bs (w : World) (L : List UInt8) (e : Ending) (w' : World) : Prop := Below w.heap.size w w' ∧ ∃ d, e = .returned d ∧ w'.ownsRow w.heap.size 5 1 d L.length (fl EB L)
theorem made1 (w : World) (x : UInt8) (n : Int) (hn : n = (x.toNat : Int)) : (w.alloc (.cells #[.int .u8 n] 5)).ownsRow w.heap.size 5 1 (.slice (some ⟨w.heap.size, 0, none⟩) 1 1) [x].length (fl EB [x]) := by
  subst hn
  exact ⟨by simp [fl, EB], .inr ⟨w.heap.size, 1, #[bv x], rfl, Nat.le_refl _, heap_alloc_new w _, Nat.le_refl _, by decide, rfl, by simp [fl, EB]⟩⟩
theorem u8w {n : Nat} (h : n < 256) : IntKind.u8.wrap (n : Int) = (((UInt8.ofNat n).toNat : Nat) : Int) := by
  rw [IntKind.wrap_u8, u8_of h]
  omega
theorem u64lt {n : Nat} (h : U64 n) : n < 18446744073709551616 := by unfold U64 at h; omega
set_option maxHeartbeats 1000000 in
theorem rnumber_any (u : Nat) : ∀ (_ : u < 18446744073709551616) (w : World), Calls Try.prog 35 #[.int .u64 (u : Nat)] w (Bs w (form u)) := by
  induction u using Nat.strongRecOn with
  | _ u ih =>
    intro hu w
    by_cases hs : u < 128
    · have hz : (u : Int) < 128 := by omega
      go_enter Try.func35, Try.ntmps35
      go_wp2_with fail
      go_ret
      refine ⟨((Gr.refl w).alloc _).below, _, rfl, ?_⟩
      rw [form_small hs]
      exact made1 w _ _ (by rw [u8_of (by omega)])
    · have hz : ¬ (u : Int) < 128 := by omega
      have HLN := hid (form_ten (v := u / 128) (by omega))
      have HIH := hid (ih (u / 128) (by omega) (by omega))
      clear ih
      go_enter Try.func35, Try.ntmps35
      go_wp2_with fail
      rw [show ((u : Int) / 128) = ((u / 128 : Nat) : Int) by omega]
      refine (HIH.out _).mono ?_
      rintro r w2 ⟨b2, d, rfl, hd⟩
      have g1 := (Gr.refl w).alloc (.cells #[.int .u8 ((u : Int) % 128 + 128)] 5)
      obtain ⟨x, hx, hf⟩ : ∃ x : UInt8, ((u : Int) % 128 + 128) = (x.toNat : Int) ∧ form u = x :: form (u / 128) := ⟨_, by rw [u8_of (n := u % 128 + 128) (by omega)]; omega, form_great hs⟩
      have M1 := hid (owns_below (made1 w x ((u : Int) % 128 + 128) hx) b2)
      have D2 := hid (owns_ls (E := EB) hd)
      have B2 := hid (g1.below.trans (b2.mono g1.size))
      have HF := hid hf
      clear b2 hd g1 HIH hx hf
      go_wp2_with (at_builtin; refine wpBL rfl _ _ rfl w.heap.size _ [x] rfl M1.out _ (form (u / 128)) rfl (Or.inl D2.out) (by have := HLN.out; simp; omega) B2.out.size ?_)
      intro v3 w3 h3 k3
      go_wp2_with fail
      go_ret
      refine ⟨B2.out.trans (k3.out.1.below B2.out.size (fun k hk => ?_)), _, rfl, ?_⟩
      · exact (owns_rd M1.out k hk).1
      · rw [HF.out]
        exact h3.out
/-- Two rows of bytes, one behind the other. -/
theorem bs_app {w w1 w2 w3 : World} {v1 v3 : Value} {A B : List UInt8} (b1 : Below w.heap.size w w1) (h1 : w1.ownsRow w.heap.size 5 1 v1 A.length (fl EB A)) (b2 : Below w1.heap.size w1 w2) (h3 : w3.ownsRow w.heap.size 5 1 v3 (A ++ B).length (fl EB (A ++ B))) (k3 : Tn v1 v3 w2 w3) : Bs w (A ++ B) (.returned v3) w3 :=
  ⟨(b1.trans (b2.mono b1.size)).trans (k3.1.below (Nat.le_trans b1.size b2.size) (fun k hk => (owns_rd h1 k hk).1)), _, rfl, h3⟩
theorem rtruth_any (t : Bool) (w : World) : Calls Try.prog 37 #[.bool t] w (Bs w (btruth t)) := by
  cases t with
  | true =>
    go_enter Try.func37, Try.ntmps37
    go_wp2_with fail
    go_ret
    exact ⟨((Gr.refl w).alloc _).below, _, rfl, made1 w 1 1 rfl⟩
  | false =>
    go_enter Try.func37, Try.ntmps37
    go_wp2_with fail
    go_ret
    exact ⟨((Gr.refl w).alloc _).below, _, rfl, made1 w 0 0 rfl⟩
set_option maxHeartbeats 2000000 in
theorem rpath_any (p : Pth) (hp : PthT p) (w : World) : Calls Try.prog 58 #[.agg #[.int .u64 (p.1 : Nat), .int .u64 (p.2.1 : Nat), .int .u64 (p.2.2 : Nat)]] w (Bs w (bpth p)) := by
  have hmx : Try.prog.follows .mixedOrders = true := by kernel_rfl
  have n1 := fun W => rnumber_any p.1 (u64lt hp.1) W
  have n2 := fun W => rnumber_any p.2.1 (u64lt hp.2.1) W
  have n3 := fun W => rnumber_any p.2.2 (u64lt hp.2.2) W
  have l1 := form_ten (u64lt hp.1)
  have l2 := form_ten (u64lt hp.2.1)
  have l3 := form_ten (u64lt hp.2.2)
  have HN := hid (And.intro n1 (And.intro n2 n3))
  have HL := hid (And.intro l1 (And.intro l2 l3))
  have HP := hid hp
  clear n1 n2 n3 l1 l2 l3 hp
  obtain ⟨W0, hW0⟩ : ∃ W0, W0 = w.alloc (.cells #[.int .u64 (p.1 : Nat), .int .u64 (p.2.1 : Nat), .int .u64 (p.2.2 : Nat)] 64) := ⟨_, rfl⟩
  have N0 : Hid (W0.heap[w.heap.size]? = some (.cells #[.int .u64 (p.1 : Nat), .int .u64 (p.2.1 : Nat), .int .u64 (p.2.2 : Nat)] 64 (0, 0)) ∧ Below w.heap.size w W0) := by
    rw [hW0]
    exact ⟨heap_new' _ _, ((Gr.refl w).alloc _).below⟩
  have HW := hid hW0.symm
  clear hW0
  go_enter Try.func58, Try.ntmps58
  go_wp2_with fail
  rw [HW.out]
  clear HW
  have hS0 : W0.drew.heap[w.heap.size]? = some (.cells #[.int .u64 (p.1 : Nat), .int .u64 (p.2.1 : Nat), .int .u64 (p.2.2 : Nat)] 64 (0, 0)) := N0.out.1
  refine wp_regionD (S := fun W => W.heap[w.heap.size]? = some (.cells #[.int .u64 (p.1 : Nat), .int .u64 (p.2.1 : Nat), .int .u64 (p.2.2 : Nat)] 64 (0, 0))) (D := []) hmx ?_
  refine' wpAnyD_take (i := 0) (oi := { dst := some 4, op := Go.Op.fieldAddr 64 (Go.Operand.tmp 1) 0, type := 0, pos := "ref.go:46", after := #[], guard := none }) (v := _) rfl (by kernel_rfl) (by kernel_rfl) (by kernel_rfl) (fun _ _ _ h => h) (by kernel_rfl) (Or.inl ⟨by rfl, ?hy1⟩) hS0 ?rest1
  case hy1 => (intro W hSw; go_simp; try (with_reducible rfl))
  try simp only [Act.put, List.setIfInBounds_toArray, List.set_cons_zero, List.set_cons_succ]
  refine' wpAnyD_take (i := 1) (oi := { dst := some 5, op := Go.Op.load 62 (Go.Operand.tmp 4), type := 62, pos := "ref.go:46", after := #[{ on := 0, ground := Go.Ground.data }], guard := none }) (v := _) rfl (by kernel_rfl) (by kernel_rfl) (by kernel_rfl) (fun _ _ _ h => h) (by kernel_rfl) (Or.inl ⟨by rfl, ?hy2⟩) hS0 ?rest2
  case hy2 => (intro W hSw; have hc := (tk_store hSw).1 0; have hl := tk_lt hSw; go_simp; try (with_reducible rfl))
  try simp only [Act.put, List.setIfInBounds_toArray, List.set_cons_zero, List.set_cons_succ]
  refine' wpAnyD_take (i := 3) (oi := { dst := some 7, op := Go.Op.fieldAddr 64 (Go.Operand.tmp 1) 1, type := 0, pos := "ref.go:46", after := #[], guard := none }) (v := _) rfl (by kernel_rfl) (by kernel_rfl) (by kernel_rfl) (fun _ _ _ h => h) (by kernel_rfl) (Or.inl ⟨by rfl, ?hy3⟩) hS0 ?rest3
  case hy3 => (intro W hSw; go_simp; try (with_reducible rfl))
  try simp only [Act.put, List.setIfInBounds_toArray, List.set_cons_zero, List.set_cons_succ]
  refine' wpAnyD_take (i := 4) (oi := { dst := some 8, op := Go.Op.load 62 (Go.Operand.tmp 7), type := 62, pos := "ref.go:46", after := #[{ on := 3, ground := Go.Ground.data }], guard := none }) (v := _) rfl (by kernel_rfl) (by kernel_rfl) (by kernel_rfl) (fun _ _ _ h => h) (by kernel_rfl) (Or.inl ⟨by rfl, ?hy4⟩) hS0 ?rest4
  case hy4 => (intro W hSw; have hc := (tk_store hSw).1 1; have hl := tk_lt hSw; go_simp; try (with_reducible rfl))
  try simp only [Act.put, List.setIfInBounds_toArray, List.set_cons_zero, List.set_cons_succ]
  refine wpAnyD_one (i := 2) (o := { dst := some 6, op := Go.Op.call { callee := Go.Callee.value (Go.Operand.func 35), args := #[Go.Operand.tmp 5], argTypes := #[62] }, type := 26, pos := "ref.go:46", after := #[{ on := 1, ground := Go.Ground.data }], guard := none }) (by kernel_rfl) rfl (fun K hK => ?_)
  go_simp
  refine (HN.out.1 _).mono ?_
  rintro r w1 ⟨b1, d1, rfl, h1⟩
  have hS1 := (b1.block _ (tk_lt hS0)).trans hS0
  have P1 := hid (And.intro b1 h1)
  clear b1 h1
  go_wp2_with fail
  refine hK.out _ _ (fun hD => hS1) ?_
  clear hK K
  try simp only [Act.put, List.setIfInBounds_toArray, List.set_cons_zero, List.set_cons_succ]
  refine wpAnyD_one (i := 5) (o := { dst := some 9, op := Go.Op.call { callee := Go.Callee.value (Go.Operand.func 35), args := #[Go.Operand.tmp 8], argTypes := #[62] }, type := 26, pos := "ref.go:46", after := #[{ on := 4, ground := Go.Ground.data }, { on := 2, ground := Go.Ground.chain }], guard := none }) (by kernel_rfl) rfl (fun K hK => ?_)
  go_simp
  refine (HN.out.2.1 _).mono ?_
  rintro r w2 ⟨b2, d2, rfl, h2⟩
  have hS2 := (b2.block _ (tk_lt hS1)).trans hS1
  have P2 := hid (And.intro b2 h2)
  clear b2 h2
  go_wp2_with fail
  refine hK.out _ _ (fun hD => hS2) ?_
  clear hK K
  try simp only [Act.put, List.setIfInBounds_toArray, List.set_cons_zero, List.set_cons_succ]
  refine wpAnyD_one (i := 6) (o := { dst := some 10, op := Go.Op.call { callee := Go.Callee.builtin Go.Builtin.append, args := #[Go.Operand.tmp 6, Go.Operand.tmp 9], argTypes := #[26, 26] }, type := 26, pos := "ref.go:46", after := #[{ on := 2, ground := Go.Ground.data }, { on := 5, ground := Go.Ground.data }, { on := 5, ground := Go.Ground.chain }], guard := none }) (by kernel_rfl) rfl (fun K hK => ?_)
  refine step_appL EB Try.underlying26 infoB rfl (by decide) rfl _ _ rfl W0.drew.heap.size d1 (form p.1).length (fl EB (form p.1)) rfl (owns_below P1.out.2 P2.out.1) (Nat.le_trans P1.out.1.size P2.out.1.size) d2 (form p.2.1) rfl (owns_ls (E := EB) P2.out.2) (by have := HL.out; omega) (by have := HL.out; unfold maxLen; omega) ?_
  intro v3 w3 h3 k3
  have K3 := hid (Kp.grownBy (S := fun k => d1.ownBlock = some k) k3.out (fun _ h => h))
  have hS3 := (K3.out.block _ (tk_lt hS2) (fun e => by have := (owns_rd P1.out.2 _ e).1; have := tk_lt hS0; omega)).trans hS2
  clear k3
  refine hK.out _ _ (fun hD => hS3) ?_
  clear hK K
  try simp only [Act.put, List.setIfInBounds_toArray, List.set_cons_zero, List.set_cons_succ]
  refine' wpAnyD_take (i := 7) (oi := { dst := some 3, op := Go.Op.assign (Go.Operand.tmp 10), type := 26, pos := "ref.go:46", after := #[{ on := 6, ground := Go.Ground.data }, { on := 6, ground := Go.Ground.chain }, { on := 0, ground := Go.Ground.phase }, { on := 1, ground := Go.Ground.phase }, { on := 2, ground := Go.Ground.phase }, { on := 3, ground := Go.Ground.phase }, { on := 4, ground := Go.Ground.phase }, { on := 5, ground := Go.Ground.phase }, { on := 6, ground := Go.Ground.phase }], guard := none }) (v := _) rfl (by kernel_rfl) (by kernel_rfl) (by kernel_rfl) (fun _ _ _ h => h) (by kernel_rfl) (Or.inl ⟨by rfl, ?hy8⟩) hS3 ?rest8
  case hy8 => (intro W hSw; go_simp; try (with_reducible rfl))
  try simp only [Act.put, List.setIfInBounds_toArray, List.set_cons_zero, List.set_cons_succ]
  refine wpAnyD_done (by kernel_rfl) ?_ _
  have hb0 := N0.out.2
  have hsz := tk_lt hS0
  have B3 : Hid (Below w.heap.size w w3) := by
    have h1 := hb0.trans (((Gr.refl W0).drew.below.trans P1.out.1).mono hb0.size)
    have h2 := h1.trans (P2.out.1.mono h1.size)
    exact h2.trans (K3.out.below h2.size (fun k hk => by have := (owns_rd P1.out.2 k hk).1; omega))
  have O3 : Hid (w3.ownsRow w.heap.size 5 1 v3 (form p.1 ++ form p.2.1).length (fl EB (form p.1 ++ form p.2.1))) := owns_re (owns_base h3.out (by omega)) (by simp) (by rw [fl_append])
  have c3 := (tk_store hS3).1
  have l3 := tk_lt hS3
  clear hS0 hS1 hS2 hS3 P1 P2 K3 h3 N0 hb0 hsz
  go_wp2_with fail
  refine (HN.out.2.2 _).mono ?_
  rintro r w4 ⟨b4, d4, rfl, h4⟩
  have O4 := hid (owns_below O3.out b4)
  have D4 := hid (owns_ls (E := EB) h4)
  have B4 := hid b4
  clear b4 h4 c3 l3
  go_wp2_with (at_builtin; refine wpBL rfl _ _ rfl w.heap.size _ (form p.1 ++ form p.2.1) rfl O4.out _ (form p.2.2) rfl (Or.inl D4.out) (by have := HL.out; rw [List.length_append]; omega) (Nat.le_trans B3.out.size B4.out.size) ?_)
  intro v5 w5 h5 k5
  go_wp2_with fail
  go_ret
  have h6 := bs_app (B := form p.2.2) B3.out O3.out B4.out (owns_re h5.out (by simp) (by rw [List.append_assoc])) k5.out
  rw [List.append_assoc] at h6
  exact h6
end Go.Proofs.Ytnclnagpfjmlcaa.Df
