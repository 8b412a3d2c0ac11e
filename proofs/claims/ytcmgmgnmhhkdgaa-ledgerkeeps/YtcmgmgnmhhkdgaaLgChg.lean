import Derived.Test.YtcmgmgnmhhkdgaaLgMeth
import Derived.Test.YtcmgmgnmhhkdgaaLgKeys
import Derived.Test.YtcmgmgnmhhkdgaaLHold
import Derived.Test.YtcmgmgnmhhkdgaaLStep
import Derived.Deep.DeepCutAuto
namespace Go.Proofs.Ytcmgmgnmhhkdgaa
open Go.RowKit Go.Sort Go.Maps
open Tt (Tl addc addf)
attribute [local go_sem ↓] Go.wp_at_zero Go.wp_at_succ
theorem sstamps_any {tb b n : Nat} {f : Sm → Int} (w : World) (h : Tl w tb b 39 n f) (hn : n * 32 ≤ 140737488355328) :
    Calls Try.prog 23 #[nv tb] w fun e w' => ∃ (v : Value) (ks : List Sm), Sup f ks ∧ e = .returned v ∧
      w'.ownsRow w.heap.size 35 4 v (stS ks).length (fl ES (stS ks)) ∧ v ≠ .slice none 0 0 ∧ Below w.heap.size w w' := by
  have hk := fun o => keys_any _ (h.gr ((Gr.refl w).alloc o)) hn
  have HG : Hid (∀ o, Gr w (w.alloc o)) := fun o => (Gr.refl w).alloc o
  clear h
  go_enter Try.func23, Try.ntmps23
  go_wp2_with fail
  refine (hk _).mono ?_
  rintro e w1 ⟨v, ks, hS, rfl, ho, hv, hb⟩
  go_wp2
  go_ret
  exact ⟨_, ks, hS, rfl, owns_base ho (by simp), hv, (HG.out _).below.trans (hb.mono (by simp))⟩
theorem lkeys_any {lb tb b n : Nat} {f : Sm → Int} (w : World) (h : Lg w lb tb b n f) (hn : n * 32 ≤ 140737488355328) :
    Calls Try.prog 10 #[lp lb] w fun e w' => ∃ (v : Value) (ks : List Sm), Sup f ks ∧ e = .returned v ∧
      w'.ownsRow w.heap.size 35 4 v (stS ks).length (fl ES (stS ks)) ∧ v ≠ .slice none 0 0 ∧ Below w.heap.size w w' := by
  have hk := sstamps_any w h.tl hn
  have c0 := h.c0
  clear h
  go_enter Try.func10, Try.ntmps10
  go_wp2_with fail
  refine hk.mono ?_
  rintro e w1 ⟨v, ks, hS, rfl, ho, hv, hb⟩
  go_wp2
  go_ret
  exact ⟨_, ks, hS, rfl, ho, hv, hb⟩
theorem owns_form {w : World} {base : Nat} {e : TypeId} {s : Nat} {v : Value} {n : Nat} {xs : List Value} (h : w.ownsRow base e s v n xs) : ∃ p c, v = .slice p n c := by
  obtain ⟨_, ⟨h0, h1⟩ | ⟨g, cap, cur, h0, _⟩⟩ := h
  · exact ⟨none, 0, by rw [h0, h1]⟩
  · exact ⟨_, _, h0⟩
theorem chs_take {f : Sm → Int} {K : List Sm} {i : Nat} {s : Sm} (h : K[i]? = some s) : (K.take (i + 1)).map (fun s => ((s, f s) : Cg)) = (K.take i).map (fun s => (s, f s)) ++ [(s, f s)] := by
  rw [List.take_add_one, h, List.map_append]
  rfl
set_option maxHeartbeats 4000000 in
set_option maxRecDepth 100000 in
theorem changes_any {lb tb b n : Nat} {f : Sm → Int} (w : World) (h : Lg w lb tb b n f) (hn : n * 40 ≤ 140737488355328) :
    Calls Try.prog 9 #[lp lb] w fun e w' => ∃ (v : Value) (ks : List Sm), Sup f ks ∧ e = .returned v ∧
      w'.ownsRow w.heap.size 47 5 v (chs f ks).length (fl EC (chs f ks)) ∧ v ≠ .slice none 0 0 ∧ Below w.heap.size w w' := by
  have hmx : Try.prog.follows .mixedOrders = true := by kernel_rfl
  obtain ⟨i0, hi, hz0, hz1, hz2⟩ := info_parts infoC
  obtain ⟨k0, hk0, hkn⟩ := h.sup
  have HSL : Hid (∀ ks, Sup f ks → ks.length = k0.length) := fun ks hs => (hs.perm hk0).length_eq
  have HL := hid h
  have hln : Calls Try.prog 22 #[nv tb] w fun e w' => e = .returned (.int .i64 k0.length) ∧ Gr w w' := (smany_any w h.tl).mono fun _ _ ⟨ks, h1, h2, h3⟩ => ⟨by rw [h2, HSL.out ks h1], h3⟩
  have c0 := h.c0
  clear h hk0
  go_enter Try.func9, Try.ntmps9
  go_wp2_with (first
    | (go_at_call 22; refine hln.mono ?_; rintro e w1 ⟨rfl, hg1⟩)
    | (at_make; refine wpList_make_own _ rfl _ _ 27 rfl w.heap.size 47 i0 (.agg #[.int .i64 0, .int .u64 0, .int .u64 0, .int .u64 0, .int .i64 0]) 5 Try.underlying27 hi hz0 hz1 _ _ _ k0.length rfl rfl rfl (by rw [hz2]; omega) (by unfold maxLen; omega) hg1.size ?_; intro w2 hrow2 hg2
       have L2 := HL.out.below (hg1.below.trans ((Below.refl _ _).grown hg2 hg1.size (fun j hj => by cases hj)))
       have c2 := L2.c0
       have hst := sstamps_any w2 L2.tl (by omega))
    | (go_at_call 23; refine hst.mono ?_; rintro e w3 ⟨v3, ks, hS, rfl, ho3, hv3, hb3⟩; obtain ⟨p3, c3, rfl⟩ := owns_form ho3)
    | go_in)
  obtain ⟨K, hK⟩ : ∃ K, K = stS ks := ⟨_, rfl⟩
  have hKl : K.length = k0.length := by rw [hK, srtBy_length]; exact HSL.out ks hS
  rw [← hK] at ho3 ⊢
  have HKL := hid hKl
  have hk5 : K.length ≤ n := by omega
  clear hKl
  have HK := hid hK
  have HS := hid hS
  have HO := hid (owns_ls (E := ES) ho3)
  have B2 : Below w.heap.size w w2 := hg1.below.trans ((Below.refl _ _).grown hg2 hg1.size (fun j hj => by cases hj))
  have HB3 := hid (B2.trans (hb3.mono B2.size))
  have HR3 := hid (owns_below hrow2 hb3)
  have HZ := hid B2.size
  have HW := hid (ho3.lt)
  have HV2 := hid (fun g hg => (hrow2.lt g hg).2)
  clear hK hS ho3 hv3 hb3 hrow2 hg2 hg1 B2 L2 c2 hst hln c0
  go_loopw [3, 20] (fun s3 s20 wr => ∃ (i : Nat) (p : Option Addr) (c : Nat), i ≤ K.length ∧ s20 = .int .i64 (i : Nat) ∧ s3 = .slice p i c ∧ p ≠ none ∧ Hid (∀ g, (Value.slice p i c).ownBlock = some g → g < w2.heap.size ∨ w3.heap.size ≤ g) ∧ Hid (wr.ownsRow w.heap.size 47 5 (.slice p i c) i (fl EC ((K.take i).map fun s => (s, f s)))) ∧ Hid (Below w.heap.size w wr) ∧ Hid (Ls ES wr (.slice p3 K.length c3) K) ∧ w3.heap.size ≤ wr.heap.size) (fun _ s20 _ => K.length - (RowKit.intOf s20).toNat)
  case atStart => exact ⟨0, _, _, Nat.zero_le _, rfl, rfl, by simp, fun g hg => Or.inl (HV2.out g hg), HR3.out, HB3.out, HO.out, Nat.le_refl _⟩
  case round =>
    clear HR3 HO HV2
    obtain ⟨i, p, c, hi5, rfl, rfl, hpn, HV, HR, HB, HO, hw3⟩ := hrel
    by_cases hlt : i < K.length
    · have hltz : (i : Int) < (K.length : Int) := by omega
      have hi0 : (0 : Int) ≤ (i : Int) := by omega
      obtain ⟨s, hs⟩ : ∃ s, K[i]? = some s := ⟨K[i], by simp⟩
      obtain ⟨b1, o1, c1, e1, z1, x0, x1, x2, x3⟩ := HO.out.atS hs
      simp only [Value.slice.injEq] at e1
      obtain ⟨rfl, -, rfl⟩ := e1
      go_upto_region 7 with fail
      obtain ⟨B5, hB5⟩ : ∃ B, B = wr.heap.size := ⟨_, rfl⟩
      obtain ⟨W5, hW5⟩ : ∃ W, W = wr.alloc (.cells #[.int .i64 s.1.1, .int .u64 s.1.2.1, .int .u64 s.1.2.2.1, .int .u64 s.1.2.2.2] 35) := ⟨_, rfl⟩
      rw [← hB5]
      have G5 : Gr wr W5 := by rw [hW5]; exact (Gr.refl _).alloc _
      have L5 := (HL.out.below HB.out).gr (G5.trans (Gr.refl _).drew)
      have z5 : B5 < W5.drew.heap.size := by rw [hW5, hB5]; show _ < (Tt.bx s wr).heap.size; simp
      have hS0 : (fun W => W.cell? ⟨lb, 0, none⟩ = some (.pointer (some ⟨tb, 0, none⟩)) ∧ W.cell? ⟨B5, 0, none⟩ = some (.int .i64 s.1.1) ∧ W.cell? ⟨B5, 1, none⟩ = some (.int .u64 s.1.2.1) ∧ W.cell? ⟨B5, 2, none⟩ = some (.int .u64 s.1.2.2.1) ∧ W.cell? ⟨B5, 3, none⟩ = some (.int .u64 s.1.2.2.2)) W5.drew := by
        refine ⟨L5.c0, ?_⟩
        rw [hW5, hB5]
        exact Tt.bx_cells s wr
      have zl := L5.lt
      have hsum := ssum_any s W5.drew L5.tl
      have HC5 := hid (hS0)
      have HRW := hid (owns_below HR.out (G5.trans (Gr.refl _).drew).below)
      have HBW := hid (HB.out.trans ((G5.trans (Gr.refl W5).drew).below.mono HB.out.size))
      have HOW := hid (HO.out.below (G5.trans (Gr.refl W5).drew).below)
      have HSS := hid hs
      have hgb : Hid (∀ g, (Value.slice p i c).ownBlock = some g → w.heap.size ≤ g ∧ g < B5) := fun g hg => by rw [hB5]; exact HR.out.lt g hg
      have hlw : lb < w.heap.size := HL.out.lt
      have hw35 : w3.heap.size ≤ W5.drew.heap.size := Nat.le_trans hw3 (G5.trans (Gr.refl W5).drew).size
      have KEEP : Hid (∀ W : World, Below W5.drew.heap.size W5.drew W → (fun W => W.cell? ⟨lb, 0, none⟩ = some (.pointer (some ⟨tb, 0, none⟩)) ∧ W.cell? ⟨B5, 0, none⟩ = some (.int .i64 s.1.1) ∧ W.cell? ⟨B5, 1, none⟩ = some (.int .u64 s.1.2.1) ∧ W.cell? ⟨B5, 2, none⟩ = some (.int .u64 s.1.2.2.1) ∧ W.cell? ⟨B5, 3, none⟩ = some (.int .u64 s.1.2.2.2)) W) := fun W hb => ⟨(hb.cell (p := ⟨lb, 0, none⟩) zl).trans HC5.out.1, (hb.cell (p := ⟨B5, 0, none⟩) z5).trans HC5.out.2.1, (hb.cell (p := ⟨B5, 1, none⟩) z5).trans HC5.out.2.2.1, (hb.cell (p := ⟨B5, 2, none⟩) z5).trans HC5.out.2.2.2.1, (hb.cell (p := ⟨B5, 3, none⟩) z5).trans HC5.out.2.2.2.2⟩
      rw [show (wr.alloc (.cells #[.int .i64 s.1.1, .int .u64 s.1.2.1, .int .u64 s.1.2.2.1, .int .u64 s.1.2.2.2] 35)) = W5 from hW5.symm]
      clear hs x0 x1 x2 x3 z1 L5 G5 HR HB HO hW5 hB5
      refine wp_regionD (S := fun W => W.cell? ⟨lb, 0, none⟩ = some (.pointer (some ⟨tb, 0, none⟩)) ∧ W.cell? ⟨B5, 0, none⟩ = some (.int .i64 s.1.1) ∧ W.cell? ⟨B5, 1, none⟩ = some (.int .u64 s.1.2.1) ∧ W.cell? ⟨B5, 2, none⟩ = some (.int .u64 s.1.2.2.1) ∧ W.cell? ⟨B5, 3, none⟩ = some (.int .u64 s.1.2.2.2)) (D := []) hmx ?_
      refine' wpAnyD_take (i := 0) (oi := { dst := some 24, op := Go.Op.move (Go.Operand.tmp 3), type := 27, pos := "ledger.go:59", after := #[], guard := none }) (v := _) rfl (by kernel_rfl) (by kernel_rfl) (by kernel_rfl) (fun _ _ _ h => h) (by kernel_rfl) (Or.inl ⟨by rfl, ?hy1⟩) hS0 ?rest1
      case hy1 => (intro W hSw; go_simp; try (with_reducible rfl))
      try simp only [Act.put, List.setIfInBounds_toArray, List.set_cons_zero, List.set_cons_succ]
      refine' wpAnyD_take (i := 1) (oi := { dst := some 25, op := Go.Op.load 35 (Go.Operand.tmp 5), type := 35, pos := "ledger.go:59", after := #[], guard := none }) (v := _) rfl (by kernel_rfl) (by kernel_rfl) (by kernel_rfl) (fun _ _ _ h => h) (by kernel_rfl) (Or.inl ⟨by rfl, ?hy2⟩) hS0 ?rest2
      case hy2 => (intro W hSw; obtain ⟨s0, s1, s2, s3, s4⟩ := hSw; go_simp; try (with_reducible rfl))
      try simp only [Act.put, List.setIfInBounds_toArray, List.set_cons_zero, List.set_cons_succ]
      refine' wpAnyD_take (i := 2) (oi := { dst := some 26, op := Go.Op.move (Go.Operand.tmp 0), type := 24, pos := "ledger.go:59", after := #[], guard := none }) (v := _) rfl (by kernel_rfl) (by kernel_rfl) (by kernel_rfl) (fun _ _ _ h => h) (by kernel_rfl) (Or.inl ⟨by rfl, ?hy3⟩) hS0 ?rest3
      case hy3 => (intro W hSw; go_simp; try (with_reducible rfl))
      try simp only [Act.put, List.setIfInBounds_toArray, List.set_cons_zero, List.set_cons_succ]
      refine' wpAnyD_take (i := 3) (oi := { dst := some 27, op := Go.Op.nilCheck (Go.Operand.tmp 26), type := 0, pos := "ledger.go:59", after := #[{ on := 2, ground := Go.Ground.data }], guard := none }) (v := _) rfl (by kernel_rfl) (by kernel_rfl) (by kernel_rfl) (fun _ _ _ h => h) (by kernel_rfl) (Or.inl ⟨by rfl, ?hy4⟩) hS0 ?rest4
      case hy4 => (intro W hSw; obtain ⟨s0, s1, s2, s3, s4⟩ := hSw; go_simp; try (with_reducible rfl))
      try simp only [Act.put, List.setIfInBounds_toArray, List.set_cons_zero, List.set_cons_succ]
      refine' wpAnyD_take (i := 4) (oi := { dst := some 28, op := Go.Op.fieldAddr 62 (Go.Operand.tmp 27) 0, type := 0, pos := "ledger.go:59", after := #[{ on := 3, ground := Go.Ground.data }], guard := none }) (v := _) rfl (by kernel_rfl) (by kernel_rfl) (by kernel_rfl) (fun _ _ _ h => h) (by kernel_rfl) (Or.inl ⟨by rfl, ?hy5⟩) hS0 ?rest5
      case hy5 => (intro W hSw; go_simp; try (with_reducible rfl))
      try simp only [Act.put, List.setIfInBounds_toArray, List.set_cons_zero, List.set_cons_succ]
      refine' wpAnyD_take (i := 5) (oi := { dst := some 29, op := Go.Op.load 60 (Go.Operand.tmp 28), type := 60, pos := "ledger.go:59", after := #[{ on := 4, ground := Go.Ground.data }], guard := none }) (v := _) rfl (by kernel_rfl) (by kernel_rfl) (by kernel_rfl) (fun _ _ _ h => h) (by kernel_rfl) (Or.inl ⟨by rfl, ?hy6⟩) hS0 ?rest6
      case hy6 => (intro W hSw; obtain ⟨s0, s1, s2, s3, s4⟩ := hSw; go_simp; try (with_reducible rfl))
      try simp only [Act.put, List.setIfInBounds_toArray, List.set_cons_zero, List.set_cons_succ]
      refine' wpAnyD_take (i := 6) (oi := { dst := some 30, op := Go.Op.load 35 (Go.Operand.tmp 5), type := 35, pos := "ledger.go:59", after := #[], guard := none }) (v := _) rfl (by kernel_rfl) (by kernel_rfl) (by kernel_rfl) (fun _ _ _ h => h) (by kernel_rfl) (Or.inl ⟨by rfl, ?hy7⟩) hS0 ?rest7
      case hy7 => (intro W hSw; obtain ⟨s0, s1, s2, s3, s4⟩ := hSw; go_simp; try (with_reducible rfl))
      try simp only [Act.put, List.setIfInBounds_toArray, List.set_cons_zero, List.set_cons_succ]
      refine wpAnyD_one (i := 7) (o := { dst := some 31, op := Go.Op.call { callee := Go.Callee.value (Go.Operand.func 24), args := #[Go.Operand.tmp 29, Go.Operand.tmp 30], argTypes := #[60, 35] }, type := 2, pos := "ledger.go:59", after := #[{ on := 5, ground := Go.Ground.data }, { on := 6, ground := Go.Ground.data }], guard := none }) (by kernel_rfl) rfl (fun K hK => ?_)
      go_simp
      refine hsum.mono ?_
      rintro e w6 ⟨rfl, g6⟩
      have hS6 := KEEP.out w6 g6.below
      have HR6 := hid (owns_below HRW.out g6.below)
      have G6 := hid g6
      clear g6
      go_wp2_with fail
      refine hK.out _ _ (fun hD => hS6) ?_
      clear hK K
      try simp only [Act.put, List.setIfInBounds_toArray, List.set_cons_zero, List.set_cons_succ]
      refine' wpAnyD_take (i := 8) (oi := { dst := some 32, op := Go.Op.build 47 #[(0, Go.Operand.tmp 25), (1, Go.Operand.tmp 31)], type := 47, pos := "ledger.go:59", after := #[{ on := 1, ground := Go.Ground.data }, { on := 7, ground := Go.Ground.data }], guard := none }) (v := _) rfl (by kernel_rfl) (by kernel_rfl) (by kernel_rfl) (fun _ _ _ h => h) (by kernel_rfl) (Or.inl ⟨by rfl, ?hy9⟩) hS6 ?rest9
      case hy9 => (intro W hSw; go_simp; try (with_reducible rfl))
      try simp only [Act.put, List.setIfInBounds_toArray, List.set_cons_zero, List.set_cons_succ]
      refine wpAnyD_one (i := 9) (o := { dst := some 33, op := Go.Op.buildSlice 27 1 #[(0, Go.Operand.tmp 32)], type := 27, pos := "ledger.go:59", after := #[{ on := 8, ground := Go.Ground.data }], guard := none }) (by kernel_rfl) rfl (fun K hK => ?_)
      go_simp
      have hS7 : (fun W => W.cell? ⟨lb, 0, none⟩ = some (.pointer (some ⟨tb, 0, none⟩)) ∧ W.cell? ⟨B5, 0, none⟩ = some (.int .i64 s.1.1) ∧ W.cell? ⟨B5, 1, none⟩ = some (.int .u64 s.1.2.1) ∧ W.cell? ⟨B5, 2, none⟩ = some (.int .u64 s.1.2.2.1) ∧ W.cell? ⟨B5, 3, none⟩ = some (.int .u64 s.1.2.2.2)) (w6.alloc (.cells #[.int .i64 s.1.1, .int .u64 s.1.2.1, .int .u64 s.1.2.2.1, .int .u64 s.1.2.2.2, .int .i64 (f s)] 47)) := KEEP.out _ (G6.out.alloc _).below
      refine hK.out _ _ (fun hD => hS7) ?_
      clear hK K
      try simp only [Act.put, List.setIfInBounds_toArray, List.set_cons_zero, List.set_cons_succ]
      refine wpAnyD_one (i := 10) (o := { dst := some 34, op := Go.Op.call { callee := Go.Callee.builtin Go.Builtin.append, args := #[Go.Operand.tmp 24, Go.Operand.tmp 33], argTypes := #[27, 27] }, type := 27, pos := "ledger.go:59", after := #[{ on := 0, ground := Go.Ground.data }, { on := 9, ground := Go.Ground.data }, { on := 7, ground := Go.Ground.chain }], guard := none }) (by kernel_rfl) rfl (fun K hK => ?_)
      refine step_app1 EC Try.underlying27 infoC rfl (by decide) rfl _ _ rfl w.heap.size (.slice p i c) i _ rfl HR6.out (s, f s) (by first | rfl | simp) (by omega) (by unfold maxLen; omega) (Nat.le_trans HBW.out.size G6.out.size) _ rfl _ ?_
      intro g8 cap8 w8 HO8 HG8 HB8
      have K8 := hid (Kp.grownBy (S := fun k => (Value.slice p i c).ownBlock = some k) HG8.out (fun _ h => h))
      have hS8 : (fun W => W.cell? ⟨lb, 0, none⟩ = some (.pointer (some ⟨tb, 0, none⟩)) ∧ W.cell? ⟨B5, 0, none⟩ = some (.int .i64 s.1.1) ∧ W.cell? ⟨B5, 1, none⟩ = some (.int .u64 s.1.2.1) ∧ W.cell? ⟨B5, 2, none⟩ = some (.int .u64 s.1.2.2.1) ∧ W.cell? ⟨B5, 3, none⟩ = some (.int .u64 s.1.2.2.2)) w8 := by
        have zz : ∀ k, k < W5.drew.heap.size → k < w6.heap.size := fun k h => Nat.lt_of_lt_of_le h G6.out.size
        have c1 : ∀ o, w8.cell? ⟨lb, o, none⟩ = w6.cell? ⟨lb, o, none⟩ := fun o => K8.out.cell (zz _ zl) (fun e => by have := hgb.out _ e; omega)
        have c2 : ∀ o, w8.cell? ⟨B5, o, none⟩ = w6.cell? ⟨B5, o, none⟩ := fun o => K8.out.cell (zz _ z5) (fun e => by have := hgb.out _ e; omega)
        exact ⟨(c1 0).trans hS6.1, (c2 0).trans hS6.2.1, (c2 1).trans hS6.2.2.1, (c2 2).trans hS6.2.2.2.1, (c2 3).trans hS6.2.2.2.2⟩
      refine hK.out _ _ (fun hD => hS8) ?_
      clear hK K
      try simp only [Act.put, List.setIfInBounds_toArray, List.set_cons_zero, List.set_cons_succ]
      refine' wpAnyD_take (i := 11) (oi := { dst := some 3, op := Go.Op.assign (Go.Operand.tmp 34), type := 27, pos := "ledger.go:59", after := #[{ on := 10, ground := Go.Ground.data }, { on := 10, ground := Go.Ground.chain }, { on := 0, ground := Go.Ground.phase }, { on := 1, ground := Go.Ground.phase }, { on := 2, ground := Go.Ground.phase }, { on := 3, ground := Go.Ground.phase }, { on := 4, ground := Go.Ground.phase }, { on := 5, ground := Go.Ground.phase }, { on := 6, ground := Go.Ground.phase }, { on := 7, ground := Go.Ground.phase }, { on := 8, ground := Go.Ground.phase }, { on := 9, ground := Go.Ground.phase }, { on := 10, ground := Go.Ground.phase }], guard := none }) (v := _) rfl (by kernel_rfl) (by kernel_rfl) (by kernel_rfl) (fun _ _ _ h => h) (by kernel_rfl) (Or.inl ⟨by rfl, ?hy12⟩) hS8 ?rest12
      case hy12 => (intro W hSw; go_simp; try (with_reducible rfl))
      try simp only [Act.put, List.setIfInBounds_toArray, List.set_cons_zero, List.set_cons_succ]
      refine wpAnyD_done (by kernel_rfl) ?_ _
      have z68 := K8.out.size
      have HE1 : Hid (w8.ownsRow w.heap.size 47 5 (.slice (some ⟨g8, 0, none⟩) (i + 1) cap8) (i + 1) (fl EC ((K.take (i + 1)).map fun s => (s, f s)))) := by
        rw [chs_take HSS.out, fl_append, fl_one]
        exact HO8.out
      have HE2 : Hid (∀ g, (Value.slice (some ⟨g8, 0, none⟩) (i + 1) cap8).ownBlock = some g → g < w2.heap.size ∨ w3.heap.size ≤ g) := fun g hg => by
        have e : g = g8 := by simpa [Value.ownBlock] using hg.symm
        subst e
        rcases HB8.out with h | h
        · exact HV.out g h
        · exact Or.inr (Nat.le_trans hw35 (Nat.le_trans G6.out.size h))
      have HE3 : Hid (Below w.heap.size w w8) := (HBW.out.trans (G6.out.below.mono HBW.out.size)).trans (K8.out.below (Nat.le_trans HBW.out.size G6.out.size) (fun k hk => (hgb.out k hk).1))
      have HE4 : Hid (Ls ES w8 (.slice (some ⟨b1, o1, none⟩) K.length c3) K) := K8.out.ls (HOW.out.below G6.out.below) (fun k hk e => by have h1 := HW.out k hk; have h2 := HV.out k e; omega)
      have HE5 : Hid (w3.heap.size ≤ w8.heap.size) := Nat.le_trans hw35 (Nat.le_trans G6.out.size z68)
      clear HO8 HG8 HB8 K8 hS0 hS6 hS7 hS8 HR6 HRW HBW HOW KEEP HC5
      go_wp2_with fail
      go_roundw
      case rel => exact ⟨i + 1, _, _, by omega, by go_num, rfl, by simp, HE2.out, HE1.out, HE3.out, HE4.out, HE5.out⟩
      case measure => simp [RowKit.intOf]; omega
    · have hltz : ¬ (i : Int) < (K.length : Int) := by omega
      have hie : i = K.length := by omega
      subst hie
      have HR' : Hid (wr.ownsRow w.heap.size 47 5 (.slice p K.length c) (chs f ks).length (fl EC (chs f ks))) := by
        have h := HR.out
        rw [List.take_length] at h
        have e1 : (chs f ks).length = K.length := by rw [chs_length, ← srtBy_length scm ks, HK.out]
        rw [e1]
        unfold chs
        rw [← HK.out]
        exact h
      go_wp2
      go_ret
      exact ⟨.slice p K.length c, ks, HS.out, rfl, HR'.out, fun e => hpn (Value.slice.inj e).1, HB.out⟩
end Go.Proofs.Ytcmgmgnmhhkdgaa
