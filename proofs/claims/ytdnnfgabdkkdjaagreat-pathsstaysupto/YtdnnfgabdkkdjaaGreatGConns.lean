import Derived.Test.YtdnnfgabdkkdjaaGreatGCon
namespace Go.Proofs.YtdnnfgabdkkdjaaGreat.Df
open Go.RowKit Go.Sort
attribute [local go_sem ↓] Go.wp_at_zero Go.wp_at_succ
def cgood (i o a : Int) (l : List Con) (j : Nat) (c : Con) : Prop := (0 ≤ c.inn ∧ c.inn < i) ∧ (0 ≤ c.out ∧ c.out < o) ∧ tfits c.via.1 c.via.2.1 c.via.2.2 a = 0 ∧ isin (l.take j) c = false
def Cf (i o a : Int) (l : List Con) (z : Int) : Prop := (z = 0 ∧ l.length ≤ 16 ∧ ∀ j c, l[j]? = some c → cgood i o a l j c) ∨ (z = 23 ∧ (16 < l.length ∨ ∃ j c, l[j]? = some c ∧ ¬ cgood i o a l j c))
set_option maxHeartbeats 4000000 in
theorem connsflaw_any {M : Nat} (k i o : Int) (cq : Option Addr) (cm cc : Nat) (via : Pth) (bd : Nat) (dq : Option Addr) (dc : Nat) (st : Bool) (l : List Con) (a : Int) (w : World) (hL : Lz EC M w (.slice dq l.length dc) l) (hsz : l.length ≤ 140737488351232) (hcap : l.length ≤ dc) : Calls Tryz.prog 138 #[.agg (ncells k i o (.slice cq cm cc) via bd (.slice dq l.length dc) st), .int .i64 a] w fun r w' => ∃ z : Int, r = .returned (.int .i64 z) ∧ Cf i o a l z ∧ Below w.heap.size w w' := by
 have hmx : Tryz.prog.follows .mixedOrders = true := by kernel_rfl
 have g0 := (Gr.refl w).alloc (.cells (ncells k i o (.slice cq cm cc) via bd (.slice dq l.length dc) st) 89)
 have HL := hid (hL.below g0.below)
 have HB := hid (heap_new' w (.cells (ncells k i o (.slice cq cm cc) via bd (.slice dq l.length dc) st) 89))
 have B0 := hid g0.below
 obtain ⟨n, hn⟩ : ∃ n, n = l.length := ⟨_, rfl⟩
 rw [← hn] at HL HB B0 ⊢
 have HN := hid hn
 have hcap : n ≤ dc := by omega
 have hsz : n ≤ 140737488351232 := by omega
 obtain ⟨W0, hW0⟩ : ∃ W, W = w.alloc (.cells (ncells k i o (.slice cq cm cc) via bd (.slice dq n dc) st) 89) := ⟨_, rfl⟩
 have HW : Hid (w.alloc (.cells #[.int .i64 k, .int .i64 i, .int .i64 o, .slice cq cm cc, .int .u64 (via.1 : Nat), .int .u64 (via.2.1 : Nat), .int .u64 (via.2.2 : Nat), .int .u64 (bd : Nat), .slice dq n dc, .bool st] 89) = W0) := hW0.symm
 rw [← hW0] at HL HB B0
 have c0 := (tk_store HB.out).1
 have l0 := tk_lt HB.out
 clear hL g0 hW0 hn
 by_cases h16 : 16 < n
 ·have hz : (16 : Int) < (n : Int) := by omega
  have HF : Hid (Cf i o a l 23) := Or.inr ⟨rfl, Or.inl (by have := HN.out; omega)⟩
  clear h16
  go_enter Tryz.func138, Tryz.ntmps138
  go_upto_region 1 with fail
  rw [HW.out]
  go_wp2_with fail
  go_ret
  exact ⟨23, rfl, HF.out, B0.out⟩
 ·have hz : ¬ (16 : Int) < (n : Int) := by omega
  have H16 := hid h16
  clear h16
  go_enter Tryz.func138, Tryz.ntmps138
  go_upto_region 1 with fail
  rw [HW.out]
  clear HW
  go_wp2_with fail
  clear c0 l0
  go_loopw [15] (fun s15 wr => ∃ j : Nat, j ≤ n ∧ s15 = .int .i64 (j : Nat) ∧ Hid (Below W0.heap.size W0 wr ∧ ∀ m c, m < j → l[m]? = some c → cgood i o a l m c)) (fun s15 _ => n - (RowKit.intOf s15).toNat)
  case atStart => exact ⟨0, Nat.zero_le _, rfl, Below.refl _ _, fun m c hm => by omega⟩
  case round =>
   obtain ⟨j, hj, rfl, HI⟩ := hrel
   by_cases hlt : j < n
   ·have hltz : (j : Int) < (n : Int) := by omega
    obtain ⟨y, hy⟩ : ∃ y, l[j]? = some y := ⟨l[j]'(by have := HN.out; omega), by simp⟩
    obtain ⟨b1, o1, q1, ev1, zz1, x0, x1, x2, x3, x4⟩ := ls_atC ((HL.out.below HI.out.1).ls hy) hy
    simp only [Value.slice.injEq] at ev1
    obtain ⟨rfl, -, rfl⟩ := ev1
    have HY := hid hy
    clear hy
    obtain ⟨yb, hyb⟩ : ∃ b, b = wr.heap.size := ⟨_, rfl⟩
    obtain ⟨W5, hW5⟩ : ∃ W, W = wr.alloc (.cells (ccells y) 92) := ⟨_, rfl⟩
    have P5 : Hid (Below W0.heap.size W0 W5 ∧ W5.heap[yb]? = some (.cells (ccells y) 92 (0, 0)) ∧ W5.heap[w.heap.size]? = some (.cells (ncells k i o (.slice cq cm cc) via bd (.slice (some ⟨b1, o1, none⟩) n dc) st) 89 (0, 0))) := by
     have g5 := ((Gr.refl wr).alloc (.cells (ccells y) 92)).below
     have h5 := HI.out.1.trans (g5.mono HI.out.1.size)
     rw [hW5, hyb]
     exact ⟨h5, heap_new' _ _, (h5.block _ (tk_lt HB.out)).trans HB.out⟩
    have HW5 : Hid (wr.alloc (.cells #[.int .i64 y.inn, .int .i64 y.out, .int .u64 (y.via.1 : Nat), .int .u64 (y.via.2.1 : Nat), .int .u64 (y.via.2.2 : Nat)] 92) = W5 ∧ wr.heap.size = yb) := ⟨hW5.symm, hyb.symm⟩
    have cy := (tk_store P5.out.2.1).1
    have ly := tk_lt P5.out.2.1
    have cn := (tk_store P5.out.2.2).1
    have ln := tk_lt P5.out.2.2
    clear hW5 hyb
    go_upto_region 6 with fail
    rw [HW5.out.1, HW5.out.2]
    clear HW5 x0 x1 x2 x3 x4 zz1
    go_cut [7] (fun s7 w' => ∃ t : Bool, s7 = .bool t ∧ (t = true ↔ (0 ≤ y.inn ∧ y.inn < i) ∧ (0 ≤ y.out ∧ y.out < o)) ∧ w' = W5)
    case first =>
     have h1 := fun W => among_any y.inn i W
     have h2 := fun W => among_any y.out o W
     cases e1 : decide (0 ≤ y.inn ∧ y.inn < i) with
     | false =>
      rw [e1] at h1
      have E1 := hid (of_decide_eq_false e1)
      clear e1 h2
      go_wp2_with fail
      refine (h1 _).mono ?_
      rintro r w1 ⟨rfl, rfl⟩
      go_wp2_with fail
      go_meet
      exact ⟨_, rfl, by have := E1.out; simp; intros; omega, rfl⟩
     | true =>
      rw [e1] at h1
      have E1 := hid (of_decide_eq_true e1)
      generalize e2 : decide (0 ≤ y.out ∧ y.out < o) = t2 at h2
      have E2 : Hid (t2 = true ↔ (0 ≤ y.out ∧ y.out < o)) := by show _ ↔ _; rw [← e2]; simp
      clear e1 e2
      go_wp2_with fail
      refine (h1 _).mono ?_
      rintro r w1 ⟨rfl, rfl⟩
      go_wp2_with fail
      refine (h2 _).mono ?_
      rintro r w1 ⟨rfl, rfl⟩
      go_wp2_with fail
      go_meet
      exact ⟨t2, rfl, ⟨fun h => ⟨E1.out, E2.out.1 h⟩, fun h => E2.out.2 h.2⟩, rfl⟩
    case rest =>
     obtain ⟨t, rfl, ht, rfl⟩ := hcut
     have HT := hid ht
     clear ht cy ly cn ln
     have hj0 : (0 : Int) ≤ (j : Int) := by omega
     have hjc : (j : Int) ≤ (dc : Int) := by omega
     go_upto_region 7 with fail
     have hS0 : Below wc.heap.size wc wc.drew := (Gr.refl _).drew.below
     have HB5 : Hid (Below w.heap.size w wc) := B0.out.trans (P5.out.1.mono B0.out.size)
     cases t with
     | false =>
      have HF : Hid (Cf i o a l 23) := by
       refine Or.inr ⟨rfl, Or.inr ⟨j, y, HY.out, fun h => ?_⟩⟩
       have := HT.out.2 ⟨h.1, h.2.1⟩
       cases this
      refine wp_regionD (S := fun W => Below wc.heap.size wc W) (D := []) hmx ?_
      refine' wpAnyD_take (i := 0) (oi := ⟨some 32, .move (.tmp 7), 4, "kind.go:89", #[], none⟩) (v := _) rfl (by kernel_rfl) (by kernel_rfl) (by kernel_rfl) (fun _ _ _ h => h) (by kernel_rfl) (Or.inl ⟨by rfl, ?hy1⟩) hS0 ?rest1
      case hy1 => (intro W hSw; go_simp; try (with_reducible rfl))
      try simp only [Act.put, List.setIfInBounds_toArray, List.set_cons_zero, List.set_cons_succ]
      refine' wpAnyD_take (i := 1) (oi := ⟨some 33, .unOp .not 4 (.tmp 32), 4, "kind.go:89", #[⟨0, .data⟩], none⟩) (v := _) rfl (by kernel_rfl) (by kernel_rfl) (by kernel_rfl) (fun _ _ _ h => h) (by kernel_rfl) (Or.inl ⟨by rfl, ?hy2⟩) hS0 ?rest2
      case hy2 => (intro W hSw; go_simp; try (with_reducible rfl))
      try simp only [Act.put, List.setIfInBounds_toArray, List.set_cons_zero, List.set_cons_succ]
      refine' wpAnyD_take (i := 2) (oi := ⟨some 34, .move (.tmp 33), 4, "kind.go:89", #[⟨1, .data⟩], none⟩) (v := _) rfl (by kernel_rfl) (by kernel_rfl) (by kernel_rfl) (fun _ _ _ h => h) (by kernel_rfl) (Or.inl ⟨by rfl, ?hy3⟩) hS0 ?rest3
      case hy3 => (intro W hSw; go_simp; try (with_reducible rfl))
      try simp only [Act.put, List.setIfInBounds_toArray, List.set_cons_zero, List.set_cons_succ]
      refine' wpAnyD_take (i := 3) (oi := ⟨some 35, .fieldAddr 92 (.tmp 6) 2, 0, "kind.go:89", #[⟨2, .guard⟩], some (2, false)⟩) (v := undef) rfl (by kernel_rfl) (by kernel_rfl) (by kernel_rfl) (fun _ _ _ h => h) (by kernel_rfl) (Or.inr ⟨by rfl, rfl⟩) hS0 ?rest4
      try simp only [Act.put, List.setIfInBounds_toArray, List.set_cons_zero, List.set_cons_succ]
      refine' wpAnyD_take (i := 4) (oi := ⟨some 36, .load 39 (.tmp 35), 39, "kind.go:89", #[⟨3, .data⟩, ⟨2, .guard⟩], some (2, false)⟩) (v := undef) rfl (by kernel_rfl) (by kernel_rfl) (by kernel_rfl) (fun _ _ _ h => h) (by kernel_rfl) (Or.inr ⟨by rfl, rfl⟩) hS0 ?rest5
      try simp only [Act.put, List.setIfInBounds_toArray, List.set_cons_zero, List.set_cons_succ]
      refine' wpAnyD_take (i := 5) (oi := ⟨some 37, .move (.tmp 1), 3, "kind.go:89", #[⟨2, .guard⟩], some (2, false)⟩) (v := undef) rfl (by kernel_rfl) (by kernel_rfl) (by kernel_rfl) (fun _ _ _ h => h) (by kernel_rfl) (Or.inr ⟨by rfl, rfl⟩) hS0 ?rest6
      try simp only [Act.put, List.setIfInBounds_toArray, List.set_cons_zero, List.set_cons_succ]
      refine' wpAnyD_take (i := 6) (oi := ⟨some 38, .call ⟨.value (.func 151), #[.tmp 36, .tmp 37], #[39, 3]⟩, 76, "kind.go:89", #[⟨4, .data⟩, ⟨5, .data⟩, ⟨2, .chain⟩, ⟨2, .guard⟩], some (2, false)⟩) (v := undef) rfl (by kernel_rfl) (by kernel_rfl) (by kernel_rfl) (fun _ _ _ h => h) (by kernel_rfl) (Or.inr ⟨by rfl, rfl⟩) hS0 ?rest7
      try simp only [Act.put, List.setIfInBounds_toArray, List.set_cons_zero, List.set_cons_succ]
      refine' wpAnyD_take (i := 7) (oi := ⟨some 39, .binOp .neq 76 (.tmp 38) (.const (.int .i64 0)) 76, 4, "kind.go:89", #[⟨6, .data⟩, ⟨2, .guard⟩], some (2, false)⟩) (v := undef) rfl (by kernel_rfl) (by kernel_rfl) (by kernel_rfl) (fun _ _ _ h => h) (by kernel_rfl) (Or.inr ⟨by rfl, rfl⟩) hS0 ?rest8
      try simp only [Act.put, List.setIfInBounds_toArray, List.set_cons_zero, List.set_cons_succ]
      refine' wpAnyD_take (i := 8) (oi := ⟨some 40, .pick (.tmp 34) (.const (.bool true)) (.tmp 39), 4, "kind.go:89", #[⟨2, .data⟩, ⟨7, .data⟩], none⟩) (v := _) rfl (by kernel_rfl) (by kernel_rfl) (by kernel_rfl) (fun _ _ _ h => h) (by kernel_rfl) (Or.inl ⟨by rfl, ?hy9⟩) hS0 ?rest9
      case hy9 => (intro W hSw; go_simp; try (with_reducible rfl))
      try simp only [Act.put, List.setIfInBounds_toArray, List.set_cons_zero, List.set_cons_succ]
      refine' wpAnyD_take (i := 9) (oi := ⟨some 41, .move (.tmp 40), 4, "kind.go:89", #[⟨8, .data⟩, ⟨6, .chain⟩], none⟩) (v := _) rfl (by kernel_rfl) (by kernel_rfl) (by kernel_rfl) (fun _ _ _ h => h) (by kernel_rfl) (Or.inl ⟨by rfl, ?hy10⟩) hS0 ?rest10
      case hy10 => (intro W hSw; go_simp; try (with_reducible rfl))
      try simp only [Act.put, List.setIfInBounds_toArray, List.set_cons_zero, List.set_cons_succ]
      refine' wpAnyD_take (i := 10) (oi := ⟨some 42, .fieldAddr 89 (.tmp 2) 6, 0, "kind.go:89", #[⟨9, .guard⟩], some (9, false)⟩) (v := undef) rfl (by kernel_rfl) (by kernel_rfl) (by kernel_rfl) (fun _ _ _ h => h) (by kernel_rfl) (Or.inr ⟨by rfl, rfl⟩) hS0 ?rest11
      try simp only [Act.put, List.setIfInBounds_toArray, List.set_cons_zero, List.set_cons_succ]
      refine' wpAnyD_take (i := 11) (oi := ⟨some 43, .load 85 (.tmp 42), 85, "kind.go:89", #[⟨10, .data⟩, ⟨9, .guard⟩], some (9, false)⟩) (v := undef) rfl (by kernel_rfl) (by kernel_rfl) (by kernel_rfl) (fun _ _ _ h => h) (by kernel_rfl) (Or.inr ⟨by rfl, rfl⟩) hS0 ?rest12
      try simp only [Act.put, List.setIfInBounds_toArray, List.set_cons_zero, List.set_cons_succ]
      refine' wpAnyD_take (i := 12) (oi := ⟨some 44, .move (.tmp 5), 3, "kind.go:89", #[⟨9, .guard⟩], some (9, false)⟩) (v := undef) rfl (by kernel_rfl) (by kernel_rfl) (by kernel_rfl) (fun _ _ _ h => h) (by kernel_rfl) (Or.inr ⟨by rfl, rfl⟩) hS0 ?rest13
      try simp only [Act.put, List.setIfInBounds_toArray, List.set_cons_zero, List.set_cons_succ]
      refine' wpAnyD_take (i := 13) (oi := ⟨some 45, .slice 85 (.tmp 43) none (some (.tmp 44)) none, 85, "kind.go:89", #[⟨11, .data⟩, ⟨12, .data⟩, ⟨9, .guard⟩], some (9, false)⟩) (v := undef) rfl (by kernel_rfl) (by kernel_rfl) (by kernel_rfl) (fun _ _ _ h => h) (by kernel_rfl) (Or.inr ⟨by rfl, rfl⟩) hS0 ?rest14
      try simp only [Act.put, List.setIfInBounds_toArray, List.set_cons_zero, List.set_cons_succ]
      refine' wpAnyD_take (i := 14) (oi := ⟨some 46, .load 92 (.tmp 6), 92, "kind.go:89", #[⟨9, .guard⟩], some (9, false)⟩) (v := undef) rfl (by kernel_rfl) (by kernel_rfl) (by kernel_rfl) (fun _ _ _ h => h) (by kernel_rfl) (Or.inr ⟨by rfl, rfl⟩) hS0 ?rest15
      try simp only [Act.put, List.setIfInBounds_toArray, List.set_cons_zero, List.set_cons_succ]
      refine' wpAnyD_take (i := 15) (oi := ⟨some 47, .call ⟨.value (.func 152), #[.tmp 45, .tmp 46], #[85, 92]⟩, 4, "kind.go:89", #[⟨13, .data⟩, ⟨14, .data⟩, ⟨9, .chain⟩, ⟨9, .guard⟩], some (9, false)⟩) (v := undef) rfl (by kernel_rfl) (by kernel_rfl) (by kernel_rfl) (fun _ _ _ h => h) (by kernel_rfl) (Or.inr ⟨by rfl, rfl⟩) hS0 ?rest16
      try simp only [Act.put, List.setIfInBounds_toArray, List.set_cons_zero, List.set_cons_succ]
      refine' wpAnyD_take (i := 16) (oi := ⟨some 48, .pick (.tmp 41) (.const (.bool true)) (.tmp 47), 4, "kind.go:89", #[⟨9, .data⟩, ⟨15, .data⟩], none⟩) (v := _) rfl (by kernel_rfl) (by kernel_rfl) (by kernel_rfl) (fun _ _ _ h => h) (by kernel_rfl) (Or.inl ⟨by rfl, ?hy17⟩) hS0 ?rest17
      case hy17 => (intro W hSw; go_simp; try (with_reducible rfl))
      try simp only [Act.put, List.setIfInBounds_toArray, List.set_cons_zero, List.set_cons_succ]
      refine wpAnyD_done (by kernel_rfl) ?_ _
      have B9 := hid (HB5.out.trans (hS0.mono HB5.out.size))
      clear hS0
      go_wp2_with fail
      go_ret
      exact ⟨23, rfl, HF.out, B9.out⟩
     | true =>
      have hfi := fun W => pfits_any y.via a W
      generalize htf : tfits (y.via.1 : Nat) (y.via.2.1 : Nat) (y.via.2.2 : Nat) a = tf at hfi
      have HTF := hid htf
      clear htf
      by_cases hf0 : tf = 0
      ·subst hf0
       have LT : Hid (∀ W, Below wc.heap.size wc W → Lz EC W.heap.size W (.slice (some ⟨b1, o1, none⟩) j dc) (l.take j)) := fun W hb => by
        have h5 := P5.out.1.trans (hb.mono P5.out.1.size)
        have h6 := (HL.out.below h5).ls HY.out
        have h7 := h6.cut (k := j) (by have := HN.out; omega) dc
        exact Or.inl ⟨h7, h7.blk⟩
       have hct := fun W (hb : Below wc.heap.size wc W) => containscon_any y W (LT.out W hb) (by rw [List.length_take]; omega)
       generalize hin : isin (l.take j) y = ii at hct
       have HIN := hid hin
       clear hin
       refine wp_regionD (S := fun W => Below wc.heap.size wc W) (D := []) hmx ?_
       refine' wpAnyD_take (i := 0) (oi := ⟨some 32, .move (.tmp 7), 4, "kind.go:89", #[], none⟩) (v := _) rfl (by kernel_rfl) (by kernel_rfl) (by kernel_rfl) (fun _ _ _ h => h) (by kernel_rfl) (Or.inl ⟨by rfl, ?hy18⟩) hS0 ?rest18
       case hy18 => (intro W hSw; go_simp; try (with_reducible rfl))
       try simp only [Act.put, List.setIfInBounds_toArray, List.set_cons_zero, List.set_cons_succ]
       refine' wpAnyD_take (i := 1) (oi := ⟨some 33, .unOp .not 4 (.tmp 32), 4, "kind.go:89", #[⟨0, .data⟩], none⟩) (v := _) rfl (by kernel_rfl) (by kernel_rfl) (by kernel_rfl) (fun _ _ _ h => h) (by kernel_rfl) (Or.inl ⟨by rfl, ?hy19⟩) hS0 ?rest19
       case hy19 => (intro W hSw; go_simp; try (with_reducible rfl))
       try simp only [Act.put, List.setIfInBounds_toArray, List.set_cons_zero, List.set_cons_succ]
       refine' wpAnyD_take (i := 2) (oi := ⟨some 34, .move (.tmp 33), 4, "kind.go:89", #[⟨1, .data⟩], none⟩) (v := _) rfl (by kernel_rfl) (by kernel_rfl) (by kernel_rfl) (fun _ _ _ h => h) (by kernel_rfl) (Or.inl ⟨by rfl, ?hy20⟩) hS0 ?rest20
       case hy20 => (intro W hSw; go_simp; try (with_reducible rfl))
       try simp only [Act.put, List.setIfInBounds_toArray, List.set_cons_zero, List.set_cons_succ]
       refine' wpAnyD_take (i := 3) (oi := ⟨some 35, .fieldAddr 92 (.tmp 6) 2, 0, "kind.go:89", #[⟨2, .guard⟩], some (2, false)⟩) (v := _) rfl (by kernel_rfl) (by kernel_rfl) (by kernel_rfl) (fun _ _ _ h => h) (by kernel_rfl) (Or.inl ⟨by rfl, ?hy21⟩) hS0 ?rest21
       case hy21 => (intro W hSw; go_simp; try (with_reducible rfl))
       try simp only [Act.put, List.setIfInBounds_toArray, List.set_cons_zero, List.set_cons_succ]
       refine' wpAnyD_take (i := 4) (oi := ⟨some 36, .load 39 (.tmp 35), 39, "kind.go:89", #[⟨3, .data⟩, ⟨2, .guard⟩], some (2, false)⟩) (v := _) rfl (by kernel_rfl) (by kernel_rfl) (by kernel_rfl) (fun _ _ _ h => h) (by kernel_rfl) (Or.inl ⟨by rfl, ?hy22⟩) hS0 ?rest22
       case hy22 => (intro W hSw; have hb := (hSw.block _ (tk_lt P5.out.2.1)).trans P5.out.2.1; have hc := (tk_store hb).1; have hl := tk_lt hb; go_simp; try (with_reducible rfl))
       try simp only [Act.put, List.setIfInBounds_toArray, List.set_cons_zero, List.set_cons_succ]
       refine' wpAnyD_take (i := 5) (oi := ⟨some 37, .move (.tmp 1), 3, "kind.go:89", #[⟨2, .guard⟩], some (2, false)⟩) (v := _) rfl (by kernel_rfl) (by kernel_rfl) (by kernel_rfl) (fun _ _ _ h => h) (by kernel_rfl) (Or.inl ⟨by rfl, ?hy23⟩) hS0 ?rest23
       case hy23 => (intro W hSw; go_simp; try (with_reducible rfl))
       try simp only [Act.put, List.setIfInBounds_toArray, List.set_cons_zero, List.set_cons_succ]
       refine wpAnyD_one (i := 6) (o := ⟨some 38, .call ⟨.value (.func 151), #[.tmp 36, .tmp 37], #[39, 3]⟩, 76, "kind.go:89", #[⟨4, .data⟩, ⟨5, .data⟩, ⟨2, .chain⟩, ⟨2, .guard⟩], some (2, false)⟩) (by kernel_rfl) rfl (fun K hK => ?_)
       go_simp
       refine (hfi _).mono ?_
       rintro r w9 ⟨rfl, g9⟩
       have hS9 : Below wc.heap.size wc w9 := hS0.trans (g9.below.mono hS0.size)
       clear g9
       go_wp2_with fail
       refine hK.out _ _ (fun hD => hS9) ?_
       clear hK K
       try simp only [Act.put, List.setIfInBounds_toArray, List.set_cons_zero, List.set_cons_succ]
       refine' wpAnyD_take (i := 7) (oi := ⟨some 39, .binOp .neq 76 (.tmp 38) (.const (.int .i64 0)) 76, 4, "kind.go:89", #[⟨6, .data⟩, ⟨2, .guard⟩], some (2, false)⟩) (v := _) rfl (by kernel_rfl) (by kernel_rfl) (by kernel_rfl) (fun _ _ _ h => h) (by kernel_rfl) (Or.inl ⟨by rfl, ?hy25⟩) hS9 ?rest25
       case hy25 => (intro W hSw; go_simp; try (with_reducible rfl))
       try simp only [Act.put, List.setIfInBounds_toArray, List.set_cons_zero, List.set_cons_succ]
       refine' wpAnyD_take (i := 8) (oi := ⟨some 40, .pick (.tmp 34) (.const (.bool true)) (.tmp 39), 4, "kind.go:89", #[⟨2, .data⟩, ⟨7, .data⟩], none⟩) (v := _) rfl (by kernel_rfl) (by kernel_rfl) (by kernel_rfl) (fun _ _ _ h => h) (by kernel_rfl) (Or.inl ⟨by rfl, ?hy26⟩) hS9 ?rest26
       case hy26 => (intro W hSw; go_simp; try (with_reducible rfl))
       try simp only [Act.put, List.setIfInBounds_toArray, List.set_cons_zero, List.set_cons_succ]
       refine' wpAnyD_take (i := 9) (oi := ⟨some 41, .move (.tmp 40), 4, "kind.go:89", #[⟨8, .data⟩, ⟨6, .chain⟩], none⟩) (v := _) rfl (by kernel_rfl) (by kernel_rfl) (by kernel_rfl) (fun _ _ _ h => h) (by kernel_rfl) (Or.inl ⟨by rfl, ?hy27⟩) hS9 ?rest27
       case hy27 => (intro W hSw; go_simp; try (with_reducible rfl))
       try simp only [Act.put, List.setIfInBounds_toArray, List.set_cons_zero, List.set_cons_succ]
       refine' wpAnyD_take (i := 10) (oi := ⟨some 42, .fieldAddr 89 (.tmp 2) 6, 0, "kind.go:89", #[⟨9, .guard⟩], some (9, false)⟩) (v := _) rfl (by kernel_rfl) (by kernel_rfl) (by kernel_rfl) (fun _ _ _ h => h) (by kernel_rfl) (Or.inl ⟨by rfl, ?hy28⟩) hS9 ?rest28
       case hy28 => (intro W hSw; go_simp; try (with_reducible rfl))
       try simp only [Act.put, List.setIfInBounds_toArray, List.set_cons_zero, List.set_cons_succ]
       refine' wpAnyD_take (i := 11) (oi := ⟨some 43, .load 85 (.tmp 42), 85, "kind.go:89", #[⟨10, .data⟩, ⟨9, .guard⟩], some (9, false)⟩) (v := _) rfl (by kernel_rfl) (by kernel_rfl) (by kernel_rfl) (fun _ _ _ h => h) (by kernel_rfl) (Or.inl ⟨by rfl, ?hy29⟩) hS9 ?rest29
       case hy29 => (intro W hSw; have hb := (hSw.block _ (tk_lt P5.out.2.2)).trans P5.out.2.2; have hc := (tk_store hb).1; have hl := tk_lt hb; go_simp; try (with_reducible rfl))
       try simp only [Act.put, List.setIfInBounds_toArray, List.set_cons_zero, List.set_cons_succ]
       refine' wpAnyD_take (i := 12) (oi := ⟨some 44, .move (.tmp 5), 3, "kind.go:89", #[⟨9, .guard⟩], some (9, false)⟩) (v := _) rfl (by kernel_rfl) (by kernel_rfl) (by kernel_rfl) (fun _ _ _ h => h) (by kernel_rfl) (Or.inl ⟨by rfl, ?hy30⟩) hS9 ?rest30
       case hy30 => (intro W hSw; go_simp; try (with_reducible rfl))
       try simp only [Act.put, List.setIfInBounds_toArray, List.set_cons_zero, List.set_cons_succ]
       refine' wpAnyD_take (i := 13) (oi := ⟨some 45, .slice 85 (.tmp 43) none (some (.tmp 44)) none, 85, "kind.go:89", #[⟨11, .data⟩, ⟨12, .data⟩, ⟨9, .guard⟩], some (9, false)⟩) (v := _) rfl (by kernel_rfl) (by kernel_rfl) (by kernel_rfl) (fun _ _ _ h => h) (by kernel_rfl) (Or.inl ⟨by rfl, ?hy31⟩) hS9 ?rest31
       case hy31 => (intro W hSw; go_simp; try (with_reducible rfl))
       try simp only [Act.put, List.setIfInBounds_toArray, List.set_cons_zero, List.set_cons_succ]
       refine' wpAnyD_take (i := 14) (oi := ⟨some 46, .load 92 (.tmp 6), 92, "kind.go:89", #[⟨9, .guard⟩], some (9, false)⟩) (v := _) rfl (by kernel_rfl) (by kernel_rfl) (by kernel_rfl) (fun _ _ _ h => h) (by kernel_rfl) (Or.inl ⟨by rfl, ?hy32⟩) hS9 ?rest32
       case hy32 => (intro W hSw; have hb := (hSw.block _ (tk_lt P5.out.2.1)).trans P5.out.2.1; have hc := (tk_store hb).1; have hl := tk_lt hb; go_simp; try (with_reducible rfl))
       try simp only [Act.put, List.setIfInBounds_toArray, List.set_cons_zero, List.set_cons_succ]
       refine wpAnyD_one (i := 15) (o := ⟨some 47, .call ⟨.value (.func 152), #[.tmp 45, .tmp 46], #[85, 92]⟩, 4, "kind.go:89", #[⟨13, .data⟩, ⟨14, .data⟩, ⟨9, .chain⟩, ⟨9, .guard⟩], some (9, false)⟩) (by kernel_rfl) rfl (fun K hK => ?_)
       go_simp
       refine (hct _ hS9).mono ?_
       rintro r w10 ⟨rfl, b10⟩
       have hS10 : Below wc.heap.size wc w10 := hS9.trans (b10.mono hS9.size)
       clear b10
       go_wp2_with fail
       refine hK.out _ _ (fun hD => hS10) ?_
       clear hK K
       try simp only [Act.put, List.setIfInBounds_toArray, List.set_cons_zero, List.set_cons_succ]
       refine' wpAnyD_take (i := 16) (oi := ⟨some 48, .pick (.tmp 41) (.const (.bool true)) (.tmp 47), 4, "kind.go:89", #[⟨9, .data⟩, ⟨15, .data⟩], none⟩) (v := _) rfl (by kernel_rfl) (by kernel_rfl) (by kernel_rfl) (fun _ _ _ h => h) (by kernel_rfl) (Or.inl ⟨by rfl, ?hy34⟩) hS10 ?rest34
       case hy34 => (intro W hSw; go_simp; try (with_reducible rfl))
       try simp only [Act.put, List.setIfInBounds_toArray, List.set_cons_zero, List.set_cons_succ]
       refine wpAnyD_done (by kernel_rfl) ?_ _
       have B9 := hid (HB5.out.trans (hS10.mono HB5.out.size))
       have B8 := hid (P5.out.1.trans (hS10.mono P5.out.1.size))
       clear hS0 hS9 hS10 hct
       cases ii with
       | true =>
        have HF : Hid (Cf i o a l 23) := Or.inr ⟨rfl, Or.inr ⟨j, y, HY.out, fun h => by have h1 := h.2.2.2; rw [HIN.out] at h1; cases h1⟩⟩
        go_wp2_with fail
        go_ret
        exact ⟨23, rfl, HF.out, B9.out⟩
       | false =>
        go_wp2_with fail
        go_roundw
        case rel =>
         refine ⟨j + 1, by omega, by go_num, B8.out, fun m c hm hc => ?_⟩
         by_cases hmj : m < j
         ·exact HI.out.2 m c hmj hc
         ·obtain rfl : m = j := by omega
          rw [HY.out] at hc
          cases hc
          have h := HT.out.1 (by simp)
          exact ⟨h.1, h.2, HTF.out, HIN.out⟩
        case measure => simp [RowKit.intOf]; omega
      ·have hb0 : (tf == 0) = false := by simp [hf0]
       have hb1 : (tf != 0) = true := by simp [hf0]
       have HF : Hid (Cf i o a l 23) := Or.inr ⟨rfl, Or.inr ⟨j, y, HY.out, fun h => hf0 (HTF.out ▸ h.2.2.1)⟩⟩
       clear hf0
       refine wp_regionD (S := fun W => Below wc.heap.size wc W) (D := []) hmx ?_
       refine' wpAnyD_take (i := 0) (oi := ⟨some 32, .move (.tmp 7), 4, "kind.go:89", #[], none⟩) (v := _) rfl (by kernel_rfl) (by kernel_rfl) (by kernel_rfl) (fun _ _ _ h => h) (by kernel_rfl) (Or.inl ⟨by rfl, ?hy35⟩) hS0 ?rest35
       case hy35 => (intro W hSw; go_simp; try (with_reducible rfl))
       try simp only [Act.put, List.setIfInBounds_toArray, List.set_cons_zero, List.set_cons_succ]
       refine' wpAnyD_take (i := 1) (oi := ⟨some 33, .unOp .not 4 (.tmp 32), 4, "kind.go:89", #[⟨0, .data⟩], none⟩) (v := _) rfl (by kernel_rfl) (by kernel_rfl) (by kernel_rfl) (fun _ _ _ h => h) (by kernel_rfl) (Or.inl ⟨by rfl, ?hy36⟩) hS0 ?rest36
       case hy36 => (intro W hSw; go_simp; try (with_reducible rfl))
       try simp only [Act.put, List.setIfInBounds_toArray, List.set_cons_zero, List.set_cons_succ]
       refine' wpAnyD_take (i := 2) (oi := ⟨some 34, .move (.tmp 33), 4, "kind.go:89", #[⟨1, .data⟩], none⟩) (v := _) rfl (by kernel_rfl) (by kernel_rfl) (by kernel_rfl) (fun _ _ _ h => h) (by kernel_rfl) (Or.inl ⟨by rfl, ?hy37⟩) hS0 ?rest37
       case hy37 => (intro W hSw; go_simp; try (with_reducible rfl))
       try simp only [Act.put, List.setIfInBounds_toArray, List.set_cons_zero, List.set_cons_succ]
       refine' wpAnyD_take (i := 3) (oi := ⟨some 35, .fieldAddr 92 (.tmp 6) 2, 0, "kind.go:89", #[⟨2, .guard⟩], some (2, false)⟩) (v := _) rfl (by kernel_rfl) (by kernel_rfl) (by kernel_rfl) (fun _ _ _ h => h) (by kernel_rfl) (Or.inl ⟨by rfl, ?hy38⟩) hS0 ?rest38
       case hy38 => (intro W hSw; go_simp; try (with_reducible rfl))
       try simp only [Act.put, List.setIfInBounds_toArray, List.set_cons_zero, List.set_cons_succ]
       refine' wpAnyD_take (i := 4) (oi := ⟨some 36, .load 39 (.tmp 35), 39, "kind.go:89", #[⟨3, .data⟩, ⟨2, .guard⟩], some (2, false)⟩) (v := _) rfl (by kernel_rfl) (by kernel_rfl) (by kernel_rfl) (fun _ _ _ h => h) (by kernel_rfl) (Or.inl ⟨by rfl, ?hy39⟩) hS0 ?rest39
       case hy39 => (intro W hSw; have hb := (hSw.block _ (tk_lt P5.out.2.1)).trans P5.out.2.1; have hc := (tk_store hb).1; have hl := tk_lt hb; go_simp; try (with_reducible rfl))
       try simp only [Act.put, List.setIfInBounds_toArray, List.set_cons_zero, List.set_cons_succ]
       refine' wpAnyD_take (i := 5) (oi := ⟨some 37, .move (.tmp 1), 3, "kind.go:89", #[⟨2, .guard⟩], some (2, false)⟩) (v := _) rfl (by kernel_rfl) (by kernel_rfl) (by kernel_rfl) (fun _ _ _ h => h) (by kernel_rfl) (Or.inl ⟨by rfl, ?hy40⟩) hS0 ?rest40
       case hy40 => (intro W hSw; go_simp; try (with_reducible rfl))
       try simp only [Act.put, List.setIfInBounds_toArray, List.set_cons_zero, List.set_cons_succ]
       refine wpAnyD_one (i := 6) (o := ⟨some 38, .call ⟨.value (.func 151), #[.tmp 36, .tmp 37], #[39, 3]⟩, 76, "kind.go:89", #[⟨4, .data⟩, ⟨5, .data⟩, ⟨2, .chain⟩, ⟨2, .guard⟩], some (2, false)⟩) (by kernel_rfl) rfl (fun K hK => ?_)
       go_simp
       refine (hfi _).mono ?_
       rintro r w9 ⟨rfl, g9⟩
       have hS9 : Below wc.heap.size wc w9 := hS0.trans (g9.below.mono hS0.size)
       clear g9
       go_wp2_with fail
       refine hK.out _ _ (fun hD => hS9) ?_
       clear hK K
       try simp only [Act.put, List.setIfInBounds_toArray, List.set_cons_zero, List.set_cons_succ]
       refine' wpAnyD_take (i := 7) (oi := ⟨some 39, .binOp .neq 76 (.tmp 38) (.const (.int .i64 0)) 76, 4, "kind.go:89", #[⟨6, .data⟩, ⟨2, .guard⟩], some (2, false)⟩) (v := _) rfl (by kernel_rfl) (by kernel_rfl) (by kernel_rfl) (fun _ _ _ h => h) (by kernel_rfl) (Or.inl ⟨by rfl, ?hy42⟩) hS9 ?rest42
       case hy42 => (intro W hSw; go_simp; try (with_reducible rfl))
       try simp only [Act.put, List.setIfInBounds_toArray, List.set_cons_zero, List.set_cons_succ]
       refine' wpAnyD_take (i := 8) (oi := ⟨some 40, .pick (.tmp 34) (.const (.bool true)) (.tmp 39), 4, "kind.go:89", #[⟨2, .data⟩, ⟨7, .data⟩], none⟩) (v := _) rfl (by kernel_rfl) (by kernel_rfl) (by kernel_rfl) (fun _ _ _ h => h) (by kernel_rfl) (Or.inl ⟨by rfl, ?hy43⟩) hS9 ?rest43
       case hy43 => (intro W hSw; go_simp; try (with_reducible rfl))
       try simp only [Act.put, List.setIfInBounds_toArray, List.set_cons_zero, List.set_cons_succ]
       refine' wpAnyD_take (i := 9) (oi := ⟨some 41, .move (.tmp 40), 4, "kind.go:89", #[⟨8, .data⟩, ⟨6, .chain⟩], none⟩) (v := _) rfl (by kernel_rfl) (by kernel_rfl) (by kernel_rfl) (fun _ _ _ h => h) (by kernel_rfl) (Or.inl ⟨by rfl, ?hy44⟩) hS9 ?rest44
       case hy44 => (intro W hSw; go_simp; try (with_reducible rfl))
       try simp only [Act.put, List.setIfInBounds_toArray, List.set_cons_zero, List.set_cons_succ]
       refine' wpAnyD_take (i := 10) (oi := ⟨some 42, .fieldAddr 89 (.tmp 2) 6, 0, "kind.go:89", #[⟨9, .guard⟩], some (9, false)⟩) (v := undef) rfl (by kernel_rfl) (by kernel_rfl) (by kernel_rfl) (fun _ _ _ h => h) (by kernel_rfl) (Or.inr ⟨by rfl, rfl⟩) hS9 ?rest45
       try simp only [Act.put, List.setIfInBounds_toArray, List.set_cons_zero, List.set_cons_succ]
       refine' wpAnyD_take (i := 11) (oi := ⟨some 43, .load 85 (.tmp 42), 85, "kind.go:89", #[⟨10, .data⟩, ⟨9, .guard⟩], some (9, false)⟩) (v := undef) rfl (by kernel_rfl) (by kernel_rfl) (by kernel_rfl) (fun _ _ _ h => h) (by kernel_rfl) (Or.inr ⟨by rfl, rfl⟩) hS9 ?rest46
       try simp only [Act.put, List.setIfInBounds_toArray, List.set_cons_zero, List.set_cons_succ]
       refine' wpAnyD_take (i := 12) (oi := ⟨some 44, .move (.tmp 5), 3, "kind.go:89", #[⟨9, .guard⟩], some (9, false)⟩) (v := undef) rfl (by kernel_rfl) (by kernel_rfl) (by kernel_rfl) (fun _ _ _ h => h) (by kernel_rfl) (Or.inr ⟨by rfl, rfl⟩) hS9 ?rest47
       try simp only [Act.put, List.setIfInBounds_toArray, List.set_cons_zero, List.set_cons_succ]
       refine' wpAnyD_take (i := 13) (oi := ⟨some 45, .slice 85 (.tmp 43) none (some (.tmp 44)) none, 85, "kind.go:89", #[⟨11, .data⟩, ⟨12, .data⟩, ⟨9, .guard⟩], some (9, false)⟩) (v := undef) rfl (by kernel_rfl) (by kernel_rfl) (by kernel_rfl) (fun _ _ _ h => h) (by kernel_rfl) (Or.inr ⟨by rfl, rfl⟩) hS9 ?rest48
       try simp only [Act.put, List.setIfInBounds_toArray, List.set_cons_zero, List.set_cons_succ]
       refine' wpAnyD_take (i := 14) (oi := ⟨some 46, .load 92 (.tmp 6), 92, "kind.go:89", #[⟨9, .guard⟩], some (9, false)⟩) (v := undef) rfl (by kernel_rfl) (by kernel_rfl) (by kernel_rfl) (fun _ _ _ h => h) (by kernel_rfl) (Or.inr ⟨by rfl, rfl⟩) hS9 ?rest49
       try simp only [Act.put, List.setIfInBounds_toArray, List.set_cons_zero, List.set_cons_succ]
       refine' wpAnyD_take (i := 15) (oi := ⟨some 47, .call ⟨.value (.func 152), #[.tmp 45, .tmp 46], #[85, 92]⟩, 4, "kind.go:89", #[⟨13, .data⟩, ⟨14, .data⟩, ⟨9, .chain⟩, ⟨9, .guard⟩], some (9, false)⟩) (v := undef) rfl (by kernel_rfl) (by kernel_rfl) (by kernel_rfl) (fun _ _ _ h => h) (by kernel_rfl) (Or.inr ⟨by rfl, rfl⟩) hS9 ?rest50
       try simp only [Act.put, List.setIfInBounds_toArray, List.set_cons_zero, List.set_cons_succ]
       refine' wpAnyD_take (i := 16) (oi := ⟨some 48, .pick (.tmp 41) (.const (.bool true)) (.tmp 47), 4, "kind.go:89", #[⟨9, .data⟩, ⟨15, .data⟩], none⟩) (v := _) rfl (by kernel_rfl) (by kernel_rfl) (by kernel_rfl) (fun _ _ _ h => h) (by kernel_rfl) (Or.inl ⟨by rfl, ?hy51⟩) hS9 ?rest51
       case hy51 => (intro W hSw; go_simp; try (with_reducible rfl))
       try simp only [Act.put, List.setIfInBounds_toArray, List.set_cons_zero, List.set_cons_succ]
       refine wpAnyD_done (by kernel_rfl) ?_ _
       have B9 := hid (HB5.out.trans (hS9.mono HB5.out.size))
       clear hS0 hS9
       go_wp2_with fail
       go_ret
       exact ⟨23, rfl, HF.out, B9.out⟩
   ·have hltz : ¬ (j : Int) < (n : Int) := by omega
    have HF : Hid (Cf i o a l 0) := Or.inl ⟨rfl, by have := HN.out; have := H16.out; omega, fun m c hm => HI.out.2 m c (by have h := (List.getElem?_eq_some_iff.1 hm).1; have := HN.out; omega) hm⟩
    go_wp2_with fail
    go_ret
    exact ⟨0, rfl, HF.out, B0.out.trans (HI.out.1.mono B0.out.size)⟩
end Go.Proofs.YtdnnfgabdkkdjaaGreat.Df
