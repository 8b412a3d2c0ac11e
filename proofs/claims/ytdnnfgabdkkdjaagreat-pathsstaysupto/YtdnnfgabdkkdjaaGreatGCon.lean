import Derived.Test.YtdnnfgabdkkdjaaGreatGEdge
namespace Go.Proofs.YtdnnfgabdkkdjaaGreat.Df
open Go.RowKit Go.Sort
attribute [local go_sem ↓] Go.wp_at_zero Go.wp_at_succ
abbrev ccells (x : Con) : Array Value := #[.int .i64 x.inn, .int .i64 x.out, .int .u64 (x.via.1 : Nat), .int .u64 (x.via.2.1 : Nat), .int .u64 (x.via.2.2 : Nat)]
def isin (l : List Con) (d : Con) : Bool := l.any (fun c => decide (d = c))
set_option maxHeartbeats 2000000 in
theorem indexcon_any {M : Nat} {v : Value} {l : List Con} (d : Con) (w : World) (hL : Lz EC M w v l) (hl : l.length ≤ 140737488351232) :
    Calls Tryz.prog 166 #[v, .agg (ccells d)] w fun r w' => ∃ z : Int, r = .returned (.int .i64 z) ∧ (0 ≤ z ↔ isin l d = true) ∧ Below w.heap.size w w' := by
 have hmx : Tryz.prog.follows .mixedOrders = true := by kernel_rfl
 have g0 := (Gr.refl w).alloc (.cells (ccells d) 92)
 have HL := hid (hL.below g0.below)
 have HB := hid (heap_new' w (.cells (ccells d) 92))
 have B0 := hid g0.below
 obtain ⟨p, c, hv⟩ := hL.form
 obtain ⟨n, hn⟩ : ∃ n, n = l.length := ⟨_, rfl⟩
 rw [← hn] at hv
 subst hv
 have hn9 : n ≤ 140737488351232 := by omega
 have HN := hid hn
 obtain ⟨W0, hW0⟩ : ∃ W, W = w.alloc (.cells (ccells d) 92) := ⟨_, rfl⟩
 have HW : Hid (w.alloc (.cells #[.int .i64 d.inn, .int .i64 d.out, .int .u64 (d.via.1 : Nat), .int .u64 (d.via.2.1 : Nat), .int .u64 (d.via.2.2 : Nat)] 92) = W0) := hW0.symm
 rw [← hW0] at HL HB B0
 clear hL hn hl g0 hW0
 go_enter Tryz.func166, Tryz.ntmps166
 go_upto_region 1 with fail
 rw [HW.out]
 clear HW
 go_wp2_with fail
 go_loopw [8] (fun s8 wr => ∃ i : Nat, i ≤ n ∧ s8 = .int .i64 (i : Nat) ∧ Hid (Below W0.heap.size W0 wr ∧ ∀ y ∈ l.take i, ¬ d = y)) (fun s8 _ => n - (RowKit.intOf s8).toNat)
 case atStart => exact ⟨0, Nat.zero_le _, rfl, Below.refl _ _, fun y hy => (by simp at hy)⟩
 case round =>
  obtain ⟨i, hi, rfl, HI⟩ := hrel
  by_cases hlt : i < n
  ·have hltz : (i : Int) < (n : Int) := by omega
   have hi0 : (0 : Int) ≤ (i : Int) := by omega
   obtain ⟨y, hy⟩ : ∃ y, l[i]? = some y := ⟨l[i]'(by have := HN.out; omega), by simp⟩
   obtain ⟨b1, o1, q1, ev1, zz1, x0, x1, x2, x3, x4⟩ := ls_atC ((HL.out.below HI.out.1).ls hy) hy
   simp only [Value.slice.injEq] at ev1
   obtain ⟨rfl, -, rfl⟩ := ev1
   have hb2 := (HI.out.1.block _ (tk_lt HB.out)).trans HB.out
   have cb := (tk_store hb2).1
   have lb := tk_lt hb2
   have HY := hid hy
   have heq := fun W => run_eqC d y W
   have B1 : Hid (Below W0.heap.size W0 wr.drew) := HI.out.1.trans ((Gr.refl wr).drew.below.mono HI.out.1.size)
   clear hy hb2
   go_upto_region 4 with fail
   have hS0 : wr.drew = wr.drew := rfl
   refine wp_regionD (S := fun W => W = wr.drew) (D := []) hmx ?_
   refine' wpAnyD_take (i := 0) (oi := ⟨some 11, .load 92 (.tmp 3), 92, "slices.go:98", #[], none⟩) (v := _) rfl (by kernel_rfl) (by kernel_rfl) (by kernel_rfl) (fun _ _ _ h => h) (by kernel_rfl) (Or.inl ⟨by rfl, ?hy1⟩) hS0 ?rest1
   case hy1 => (intro W hSw; subst hSw; go_simp; try (with_reducible rfl))
   try simp only [Act.put, List.setIfInBounds_toArray, List.set_cons_zero, List.set_cons_succ]
   refine' wpAnyD_take (i := 1) (oi := ⟨some 12, .move (.tmp 0), 85, "slices.go:98", #[], none⟩) (v := _) rfl (by kernel_rfl) (by kernel_rfl) (by kernel_rfl) (fun _ _ _ h => h) (by kernel_rfl) (Or.inl ⟨by rfl, ?hy2⟩) hS0 ?rest2
   case hy2 => (intro W hSw; subst hSw; go_simp; try (with_reducible rfl))
   try simp only [Act.put, List.setIfInBounds_toArray, List.set_cons_zero, List.set_cons_succ]
   refine' wpAnyD_take (i := 2) (oi := ⟨some 13, .move (.tmp 5), 3, "slices.go:98", #[], none⟩) (v := _) rfl (by kernel_rfl) (by kernel_rfl) (by kernel_rfl) (fun _ _ _ h => h) (by kernel_rfl) (Or.inl ⟨by rfl, ?hy3⟩) hS0 ?rest3
   case hy3 => (intro W hSw; subst hSw; go_simp; try (with_reducible rfl))
   try simp only [Act.put, List.setIfInBounds_toArray, List.set_cons_zero, List.set_cons_succ]
   refine' wpAnyD_take (i := 3) (oi := ⟨some 14, .indexAddr 85 (.tmp 12) (.tmp 13), 0, "slices.go:98", #[⟨1, .data⟩, ⟨2, .data⟩], none⟩) (v := _) rfl (by kernel_rfl) (by kernel_rfl) (by kernel_rfl) (fun _ _ _ h => h) (by kernel_rfl) (Or.inl ⟨by rfl, ?hy4⟩) hS0 ?rest4
   case hy4 => (intro W hSw; subst hSw; go_simp; try (with_reducible rfl))
   try simp only [Act.put, List.setIfInBounds_toArray, List.set_cons_zero, List.set_cons_succ]
   refine' wpAnyD_take (i := 4) (oi := ⟨some 15, .load 92 (.tmp 14), 92, "slices.go:98", #[⟨3, .data⟩], none⟩) (v := _) rfl (by kernel_rfl) (by kernel_rfl) (by kernel_rfl) (fun _ _ _ h => h) (by kernel_rfl) (Or.inl ⟨by rfl, ?hy5⟩) hS0 ?rest5
   case hy5 => (intro W hSw; subst hSw; go_simp; try (with_reducible rfl))
   try simp only [Act.put, List.setIfInBounds_toArray, List.set_cons_zero, List.set_cons_succ]
   refine' wpAnyD_take (i := 5) (oi := ⟨some 16, .binOp .eql 92 (.tmp 11) (.tmp 15) 92, 4, "slices.go:98", #[⟨0, .data⟩, ⟨4, .data⟩], none⟩) (v := _) rfl (by kernel_rfl) (by kernel_rfl) (by kernel_rfl) (fun _ _ _ h => h) (by kernel_rfl) (Or.inl ⟨by rfl, ?hy6⟩) hS0 ?rest6
   case hy6 => (intro W hSw; subst hSw; go_simp; try (with_reducible rfl))
   try simp only [Act.put, List.setIfInBounds_toArray, List.set_cons_zero, List.set_cons_succ]
   refine wpAnyD_done (by kernel_rfl) ?_ _
   clear hS0 heq x0 x1 x2 x3 x4 zz1 cb lb
   by_cases hd : d = y
   ·have HR : Hid (isin l d = true) := List.any_eq_true.2 ⟨y, List.mem_of_getElem? HY.out, by simp [hd]⟩
    have hd2 : decide (d = y) = true := by simp [hd]
    rw [hd2]
    clear hd hd2
    go_wp2_with fail
    go_ret
    exact ⟨(i : Int), rfl, by rw [HR.out]; simp, B0.out.trans (B1.out.mono B0.out.size)⟩
   ·have hd2 : decide (d = y) = false := by simp [hd]
    rw [hd2]
    have HD := hid hd
    clear hd hd2
    go_wp2_with fail
    go_roundw
    case rel => exact ⟨i + 1, by omega, by go_num, B1.out, take_ind HY.out HI.out.2 HD.out⟩
    case measure => simp [RowKit.intOf]; omega
  ·have hltz : ¬ (i : Int) < (n : Int) := by omega
   have HR : Hid (isin l d = false) := by
    have h2 := HI.out.2
    rw [List.take_of_length_le (by have := HN.out; omega)] at h2
    show isin l d = false
    unfold isin
    rw [List.any_eq_false]
    intro y hy
    simp [h2 y hy]
   go_wp2_with fail
   go_ret
   exact ⟨-1, rfl, by rw [HR.out]; simp, B0.out.trans (HI.out.1.mono B0.out.size)⟩
theorem containscon_any {M : Nat} {v : Value} {l : List Con} (d : Con) (w : World) (hL : Lz EC M w v l) (hl : l.length ≤ 140737488351232) :
    Calls Tryz.prog 152 #[v, .agg (ccells d)] w fun r w' => r = .returned (.bool (isin l d)) ∧ Below w.heap.size w w' := by
 have g0 := (Gr.refl w).alloc (.cells (ccells d) 92)
 have hi := indexcon_any d (w.alloc (.cells (ccells d) 92)) (hL.below g0.below) hl
 have B0 := hid g0.below
 obtain ⟨p, c, rfl⟩ := hL.form
 generalize isin l d = e at hi ⊢
 generalize l.length = n at hi
 clear hL hl g0
 go_enter Tryz.func152, Tryz.ntmps152
 go_wp2_with fail
 refine hi.mono ?_
 rintro r w1 ⟨z, rfl, hz, b1⟩
 have B1 := hid (B0.out.trans (b1.mono B0.out.size))
 have HZ : Hid (decide (0 ≤ z) = e) := by
  show _ = _
  rw [Bool.eq_iff_iff, ← hz]
  simp
 clear b1 hz
 go_wp2_with fail
 go_ret
 exact ⟨by rw [← HZ.out]; rfl, B1.out⟩
end Go.Proofs.YtdnnfgabdkkdjaaGreat.Df
