import Derived.Test.YtdnnfgabdkkdjaaGreatJ11
import Derived.Test.YtdnnfgabdkkdjaaGreatLHold
import Derived.BigQuiet
namespace Go.Proofs.YtdnnfgabdkkdjaaGreat.Df
open Go.RowKit Go.Sort
attribute [local go_sem ↓] Go.wp_at_zero Go.wp_at_succ
theorem cok_bad {i o a : Int} {l : List Con} {j : Nat} {c : Con} (hj : l[j]? = some c) (h : ¬ cgood i o a l j c) : cok i o a l = false := by
 rw [Bool.eq_false_iff]
 intro hc
 exact h ((cok_iff.1 hc).2 j c hj)
theorem isin_false {l : List Con} {j : Nat} {y : Con} (h : ∀ m c, m < j → l[m]? = some c → c ≠ y) : isin (l.take j) y = false := by
 unfold isin
 rw [List.any_eq_false]
 intro c hc
 obtain ⟨m, hm, rfl⟩ := List.mem_iff_getElem.1 hc
 have hm2 : m < j ∧ m < l.length := by simp at hm; omega
 have := h m l[m] hm2.1 (by simp [hm2.2])
 simp only [List.getElem_take, decide_eq_true_eq]
 exact fun e => this e.symm
theorem isin_true {l : List Con} {j m : Nat} {y : Con} (hm : m < j) (h : l[m]? = some y) : isin (l.take j) y = true := by
 unfold isin
 rw [List.any_eq_true]
 exact ⟨y, List.mem_of_getElem? (i := m) (by rw [List.getElem?_take, if_pos hm]; exact h), by simp⟩
set_option maxRecDepth 100000 in
set_option maxHeartbeats 8000000 in
theorem rconns_any {M : Nat} (k i o : Int) (cq : Option Addr) (cm cc : Nat) (via : Pth) (bd : Nat) (dq : Option Addr) (dc : Nat) (st : Bool) (l : List Con) (a : Int) (w : World) (hL : Lz EC M w (.slice dq l.length dc) l) : Calls Tryz.prog 74 #[.agg (ncells k i o (.slice cq cm cc) via bd (.slice dq l.length dc) st), .int .i64 a] w fun r w' => r = .returned (.bool (cok i o a l)) ∧ Below w.heap.size w w' := by
 have hmx : Tryz.prog.follows .mixedOrders = true := by kernel_rfl
 have g0 := (Gr.refl w).alloc (.cells (ncells k i o (.slice cq cm cc) via bd (.slice dq l.length dc) st) 89)
 have HL := hid (hL.below g0.below)
 have HB := hid (heap_new' w (.cells (ncells k i o (.slice cq cm cc) via bd (.slice dq l.length dc) st) 89))
 have B0 := hid g0.below
 obtain ⟨n, hn⟩ : ∃ n, n = l.length := ⟨_, rfl⟩
 rw [← hn] at HL HB B0 ⊢
 have HN := hid hn
 obtain ⟨W0, hW0⟩ : ∃ W, W = w.alloc (.cells (ncells k i o (.slice cq cm cc) via bd (.slice dq n dc) st) 89) := ⟨_, rfl⟩
 have HW : Hid (w.alloc (.cells #[.int .i64 k, .int .i64 i, .int .i64 o, .slice cq cm cc, .int .u64 (via.1 : Nat), .int .u64 (via.2.1 : Nat), .int .u64 (via.2.2 : Nat), .int .u64 (bd : Nat), .slice dq n dc, .bool st] 89) = W0) := hW0.symm
 rw [← hW0] at HL HB B0
 have c0 := (tk_store HB.out).1
 have l0 := tk_lt HB.out
 clear hL g0 hW0 hn
 by_cases h16 : 16 < n
 ·have hz : (16 : Int) < (n : Int) := by omega
  have HR : Hid (cok i o a l = false) := by
   show _ = _
   unfold cok
   rw [decide_eq_false (by have := HN.out; omega)]
   rfl
  clear h16
  go_enter Tryz.func74, Tryz.ntmps74
  go_upto_region 1 with fail
  rw [HW.out]
  go_wp2_with fail
  go_ret
  exact ⟨by rw [HR.out]; rfl, B0.out⟩
 ·have hz : ¬ (16 : Int) < (n : Int) := by omega
  go_enter Tryz.func74, Tryz.ntmps74
  go_upto_region 1 with fail
  rw [HW.out]
  clear HW
  go_wp2_with fail
  clear c0 l0
  go_loopw [5] (fun s5 wr => ∃ j : Nat, j ≤ n ∧ s5 = .int .i64 (j : Nat) ∧ Hid (Below W0.heap.size W0 wr ∧ ∀ m c, m < j → l[m]? = some c → cgood i o a l m c)) (fun s5 _ => n - (RowKit.intOf s5).toNat)
  case atStart => exact ⟨0, Nat.zero_le _, rfl, Below.refl _ _, fun m c hm => by omega⟩
  case round =>
   obtain ⟨j, hj, rfl, HI⟩ := hrel
   have hb0 := (HI.out.1.block _ (tk_lt HB.out)).trans HB.out
   have c1 := (tk_store hb0).1
   have l1 := tk_lt hb0
   clear hb0
   by_cases hlt : j < n
   ·have hltz : (j : Int) < (n : Int) := by omega
    have hj0 : (0 : Int) ≤ (j : Int) := by omega
    obtain ⟨y, hy⟩ : ∃ y, l[j]? = some y := ⟨l[j]'(by have := HN.out; omega), by simp⟩
    obtain ⟨b1, o1, q1, ev1, zz1, x0, x1, x2, x3, x4⟩ := ls_atC ((HL.out.below HI.out.1).ls hy) hy
    simp only [Value.slice.injEq] at ev1
    obtain ⟨rfl, -, rfl⟩ := ev1
    have HY := hid hy
    clear hy
    obtain ⟨yb, hyb⟩ : ∃ b, b = wr.heap.size := ⟨_, rfl⟩
    obtain ⟨W5, hW5⟩ : ∃ W, W = wr.alloc (.cells (ccells y) 92) := ⟨_, rfl⟩
    have P5 : Hid (Below W0.heap.size W0 W5 ∧ W5.heap[yb]? = some (.cells (ccells y) 92 (0, 0)) ∧ W5.heap[w.heap.size]? = some (.cells (ncells k i o (.slice cq cm cc) via bd (.slice (some ⟨b1, o1, none⟩) n dc) st) 89 (0, 0))) := by
     have g5 := ((Gr.refl wr).alloc (.cells (ccells y) 92)).below
     have h5 := HI.out.1.trans (g5.mono HI.out.1.size)
     rw [hW5, hyb]
     exact ⟨h5, heap_new' _ _, (h5.block _ (tk_lt HB.out)).trans HB.out⟩
    have HW5 : Hid (wr.alloc (.cells #[.int .i64 y.inn, .int .i64 y.out, .int .u64 (y.via.1 : Nat), .int .u64 (y.via.2.1 : Nat), .int .u64 (y.via.2.2 : Nat)] 92) = W5 ∧ wr.heap.size = yb) := ⟨hW5.symm, hyb.symm⟩
    clear hW5 hyb
    go_upto_region 7 with fail
    rw [HW5.out.1, HW5.out.2]
    clear HW5 x0 x1 x2 x3 x4 zz1 c1 l1
    have cy := (tk_store P5.out.2.1).1
    have ly := tk_lt P5.out.2.1
    have cn := (tk_store P5.out.2.2).1
    have ln := tk_lt P5.out.2.2
    have hf := fun W => rfits_any y.via a W
    by_cases h1 : y.inn < 0
    ·have HR : Hid (cok i o a l = false) := cok_bad HY.out (fun h => by have h1 := h.1; have h2 := h.2.1; omega)
     go_wp2_with fail
     go_ret
     exact ⟨by rw [HR.out]; rfl, B0.out.trans (P5.out.1.mono B0.out.size)⟩
    ·by_cases h2 : i ≤ y.inn
     ·have HR : Hid (cok i o a l = false) := cok_bad HY.out (fun h => by have h1 := h.1; have h2 := h.2.1; omega)
      go_wp2_with fail
      go_ret
      exact ⟨by rw [HR.out]; rfl, B0.out.trans (P5.out.1.mono B0.out.size)⟩
     ·by_cases h3 : y.out < 0
      ·have HR : Hid (cok i o a l = false) := cok_bad HY.out (fun h => by have h1 := h.1; have h2 := h.2.1; omega)
       go_wp2_with fail
       go_ret
       exact ⟨by rw [HR.out]; rfl, B0.out.trans (P5.out.1.mono B0.out.size)⟩
      ·by_cases h4 : o ≤ y.out
       ·have HR : Hid (cok i o a l = false) := cok_bad HY.out (fun h => by have h1 := h.1; have h2 := h.2.1; omega)
        go_wp2_with fail
        go_ret
        exact ⟨by rw [HR.out]; rfl, B0.out.trans (P5.out.1.mono B0.out.size)⟩
       ·by_cases g5 : ¬ tfits y.via.1 y.via.2.1 y.via.2.2 a = 0
        ·have d5 : decide (tfits y.via.1 y.via.2.1 y.via.2.2 a = 0) = false := by simp [g5]
         rw [d5] at hf
         have HR : Hid (cok i o a l = false) := cok_bad HY.out (fun h => g5 h.2.2.1)
         clear g5 d5
         go_wp2_with fail
         refine (hf _).mono ?_
         rintro r w6 ⟨rfl, g6⟩
         have B6 := hid (B0.out.trans ((P5.out.1.trans (g6.below.mono P5.out.1.size)).mono B0.out.size))
         clear g6
         go_wp2_with fail
         go_ret
         exact ⟨by rw [HR.out]; rfl, B6.out⟩
        ·have g5 : tfits y.via.1 y.via.2.1 y.via.2.2 a = 0 := by simpa using g5
         have d5 : decide (tfits y.via.1 y.via.2.1 y.via.2.2 a = 0) = true := by simp [g5]
         rw [d5] at hf
         have HT : Hid ((0 ≤ y.inn ∧ y.inn < i) ∧ (0 ≤ y.out ∧ y.out < o) ∧ tfits y.via.1 y.via.2.1 y.via.2.2 a = 0) := ⟨⟨by omega, by omega⟩, ⟨by omega, by omega⟩, g5⟩
         clear g5 d5
         go_wp2_with fail
         refine (hf _).mono ?_
         rintro r w6 ⟨rfl, g6⟩
         have P6 : Hid (Below W0.heap.size W0 w6 ∧ w6.heap[yb]? = some (.cells (ccells y) 92 (0, 0)) ∧ w6.heap[w.heap.size]? = some (.cells (ncells k i o (.slice cq cm cc) via bd (.slice (some ⟨b1, o1, none⟩) n dc) st) 89 (0, 0))) := ⟨P5.out.1.trans (g6.below.mono P5.out.1.size), (g6.below.block _ (tk_lt P5.out.2.1)).trans P5.out.2.1, (g6.below.block _ (tk_lt P5.out.2.2)).trans P5.out.2.2⟩
         clear g6 cy ly cn ln hf h1 h2 h3 h4
         go_wp2_with fail
         go_loopw [7] (fun s7 wr => ∃ p : Nat, p ≤ j ∧ s7 = .int .i64 (p : Nat) ∧ Hid ((Below W0.heap.size W0 wr ∧ wr.heap[yb]? = some (.cells (ccells y) 92 (0, 0)) ∧ wr.heap[w.heap.size]? = some (.cells (ncells k i o (.slice cq cm cc) via bd (.slice (some ⟨b1, o1, none⟩) n dc) st) 89 (0, 0))) ∧ ∀ m c, m < p → l[m]? = some c → c ≠ y)) (fun s7 _ => j - (RowKit.intOf s7).toNat)
         case atStart => exact ⟨0, Nat.zero_le _, rfl, P6.out, fun m c hm => by omega⟩
         case round =>
          clear P6
          obtain ⟨p, hp, rfl, HP⟩ := hrel
          by_cases hpl : p < j
          ·have hplz : (p : Int) < (j : Int) := by omega
           have hp0 : (0 : Int) ≤ (p : Int) := by omega
           have hpn : (p : Int) < (n : Int) := by omega
           obtain ⟨z, hz2⟩ : ∃ z, l[p]? = some z := ⟨l[p]'(by have := HN.out; omega), by simp⟩
           obtain ⟨b2, o2, q2, ev2, zz2, x0, x1, x2, x3, x4⟩ := ls_atC ((HL.out.below HP.out.1.1).ls hz2) hz2
           simp only [Value.slice.injEq, Option.some.injEq, Addr.mk.injEq] at ev2
           obtain ⟨⟨rfl, rfl, -⟩, -, rfl⟩ := ev2
           have HZ := hid hz2
           have heq := fun W => run_eqC z y W
           have cy := (tk_store HP.out.1.2.1).1
           have ly := tk_lt HP.out.1.2.1
           have cn := (tk_store HP.out.1.2.2).1
           have ln := tk_lt HP.out.1.2.2
           clear hz2
           go_upto_region 12 with fail
           have hS0 : wr.drew = wr.drew := rfl
           refine wp_regionD (S := fun W => W = wr.drew) (D := []) hmx ?_
           refine' wpAnyD_take (i := 0) (oi := ⟨some 58, .fieldAddr 89 (.tmp 2) 6, 0, "ref.go:83", #[], none⟩) (v := _) rfl (by kernel_rfl) (by kernel_rfl) (by kernel_rfl) (fun _ _ _ h => h) (by kernel_rfl) (Or.inl ⟨by rfl, ?hy1⟩) hS0 ?rest1
           case hy1 => (intro W hSw; subst hSw; go_simp; try (with_reducible rfl))
           try simp only [Act.put, List.setIfInBounds_toArray, List.set_cons_zero, List.set_cons_succ]
           refine' wpAnyD_take (i := 1) (oi := ⟨some 59, .load 85 (.tmp 58), 85, "ref.go:83", #[⟨0, .data⟩], none⟩) (v := _) rfl (by kernel_rfl) (by kernel_rfl) (by kernel_rfl) (fun _ _ _ h => h) (by kernel_rfl) (Or.inl ⟨by rfl, ?hy2⟩) hS0 ?rest2
           case hy2 => (intro W hSw; subst hSw; go_simp; try (with_reducible rfl))
           try simp only [Act.put, List.setIfInBounds_toArray, List.set_cons_zero, List.set_cons_succ]
           refine' wpAnyD_take (i := 2) (oi := ⟨some 60, .move (.tmp 7), 3, "ref.go:83", #[], none⟩) (v := _) rfl (by kernel_rfl) (by kernel_rfl) (by kernel_rfl) (fun _ _ _ h => h) (by kernel_rfl) (Or.inl ⟨by rfl, ?hy3⟩) hS0 ?rest3
           case hy3 => (intro W hSw; subst hSw; go_simp; try (with_reducible rfl))
           try simp only [Act.put, List.setIfInBounds_toArray, List.set_cons_zero, List.set_cons_succ]
           refine' wpAnyD_take (i := 3) (oi := ⟨some 61, .indexAddr 85 (.tmp 59) (.tmp 60), 0, "ref.go:83", #[⟨1, .data⟩, ⟨2, .data⟩], none⟩) (v := _) rfl (by kernel_rfl) (by kernel_rfl) (by kernel_rfl) (fun _ _ _ h => h) (by kernel_rfl) (Or.inl ⟨by rfl, ?hy4⟩) hS0 ?rest4
           case hy4 => (intro W hSw; subst hSw; go_simp; try (with_reducible rfl))
           try simp only [Act.put, List.setIfInBounds_toArray, List.set_cons_zero, List.set_cons_succ]
           refine' wpAnyD_take (i := 4) (oi := ⟨some 62, .load 92 (.tmp 61), 92, "ref.go:83", #[⟨3, .data⟩], none⟩) (v := _) rfl (by kernel_rfl) (by kernel_rfl) (by kernel_rfl) (fun _ _ _ h => h) (by kernel_rfl) (Or.inl ⟨by rfl, ?hy5⟩) hS0 ?rest5
           case hy5 => (intro W hSw; subst hSw; go_simp; try (with_reducible rfl))
           try simp only [Act.put, List.setIfInBounds_toArray, List.set_cons_zero, List.set_cons_succ]
           refine' wpAnyD_take (i := 5) (oi := ⟨some 63, .load 92 (.tmp 6), 92, "ref.go:83", #[], none⟩) (v := _) rfl (by kernel_rfl) (by kernel_rfl) (by kernel_rfl) (fun _ _ _ h => h) (by kernel_rfl) (Or.inl ⟨by rfl, ?hy6⟩) hS0 ?rest6
           case hy6 => (intro W hSw; subst hSw; go_simp; try (with_reducible rfl))
           try simp only [Act.put, List.setIfInBounds_toArray, List.set_cons_zero, List.set_cons_succ]
           refine' wpAnyD_take (i := 6) (oi := ⟨some 64, .binOp .eql 92 (.tmp 62) (.tmp 63) 92, 4, "ref.go:83", #[⟨4, .data⟩, ⟨5, .data⟩], none⟩) (v := _) rfl (by kernel_rfl) (by kernel_rfl) (by kernel_rfl) (fun _ _ _ h => h) (by kernel_rfl) (Or.inl ⟨by rfl, ?hy7⟩) hS0 ?rest7
           case hy7 => (intro W hSw; subst hSw; go_simp; try (with_reducible rfl))
           try simp only [Act.put, List.setIfInBounds_toArray, List.set_cons_zero, List.set_cons_succ]
           refine wpAnyD_done (by kernel_rfl) ?_ _
           have PD : Hid ((Below W0.heap.size W0 wr.drew ∧ wr.drew.heap[yb]? = some (.cells (ccells y) 92 (0, 0)) ∧ wr.drew.heap[w.heap.size]? = some (.cells (ncells k i o (.slice cq cm cc) via bd (.slice (some ⟨b1, o1, none⟩) n dc) st) 89 (0, 0)))) := ⟨HP.out.1.1.trans ((Gr.refl wr).drew.below.mono HP.out.1.1.size), HP.out.1.2⟩
           clear x0 x1 x2 x3 x4 zz2 cy ly cn ln heq hS0
           generalize wr.drew = Wd at PD ⊢
           by_cases hzy : z = y
           ·have HR : Hid (cok i o a l = false) := cok_bad HY.out (fun h => by
              have h4 := h.2.2.2
              rw [isin_true hpl (by rw [HZ.out, hzy])] at h4
              cases h4)
            have hd : decide (z = y) = true := by simp [hzy]
            rw [hd]
            clear hd hzy
            go_wp2_with fail
            go_ret
            exact ⟨by rw [HR.out]; rfl, B0.out.trans (PD.out.1.mono B0.out.size)⟩
           ·have hd : decide (z = y) = false := by simp [hzy]
            rw [hd]
            have HZY := hid hzy
            clear hd hzy
            go_wp2_with fail
            go_roundw
            case rel => exact ⟨p + 1, by omega, by go_num, PD.out, fun m c hm hc => by
             by_cases e : m = p
             ·subst e
              rw [HZ.out] at hc
              cases hc
              exact HZY.out
             ·exact HP.out.2 m c (by omega) hc⟩
            case measure => simp [RowKit.intOf]; omega
          ·have hplz : ¬ (p : Int) < (j : Int) := by omega
           obtain rfl : p = j := by omega
           have FIN : Hid (Below W0.heap.size W0 wr ∧ ∀ m c, m < p + 1 → l[m]? = some c → cgood i o a l m c) := ⟨HP.out.1.1, fun m c hm hc => by
            by_cases e : m = p
            ·subst e
             rw [HY.out] at hc
             cases hc
             exact ⟨HT.out.1, HT.out.2.1, HT.out.2.2, isin_false HP.out.2⟩
            ·exact HI.out.2 m c (by omega) hc⟩
           go_wp2_with fail
           go_roundw
           case rel => exact ⟨p + 1, by omega, by go_num, FIN.out⟩
           case measure => simp [RowKit.intOf]; omega
   ·have hltz : ¬ (j : Int) < (n : Int) := by omega
    have HR : Hid (cok i o a l = true) := cok_iff.2 ⟨by have := HN.out; omega, fun m c hm => HI.out.2 m c (by have h := (List.getElem?_eq_some_iff.1 hm).1; have := HN.out; omega) hm⟩
    go_wp2_with fail
    go_ret
    exact ⟨by rw [HR.out]; rfl, B0.out.trans (HI.out.1.mono B0.out.size)⟩
theorem nflaw_doc {k i o : Int} {cd : List Opd} {via : Pth} {bd : Nat} {cn : List Con} {st : Bool} {a : Int} (ha : 1 ≤ a ∧ a ≤ 3) (hk1 : ¬ k < 1) (hk8 : ¬ 8 < k) : nflaw a ⟨k, i, o, cd, via, bd, cn, st⟩ = if (pIn k i && pOut k o) = false then 21 else if rfl9 k cd.length via bd cn.length st a = false then 22 else if 16 < cd.length then 24 else if cok i o a cn = false then 23 else 0 := by
 have hz : tfits ((0, 0, 0) : Pth).1 ((0, 0, 0) : Pth).2.1 ((0, 0, 0) : Pth).2.2 a = 0 := by
  show tfits (0 : Nat) (0 : Nat) (0 : Nat) a = 0
  unfold tfits
  rw [if_neg (by omega), if_pos (by simp)]
 have hd0 : (decide (tfits ((0, 0, 0) : Pth).1 ((0, 0, 0) : Pth).2.1 ((0, 0, 0) : Pth).2.2 a = 0) && decide (0 ≤ 64)) = true := by rw [decide_eq_true hz]; rfl
 unfold nflaw
 simp only
 rw [if_neg (by omega)]
 cases hpp : (pIn k i && pOut k o) with
 | false => rw [if_pos (by intro h; rw [h.1, h.2] at hpp; cases hpp), if_pos rfl]
 | true =>
  rw [Bool.and_eq_true] at hpp
  rw [if_neg (by intro h; exact h hpp), if_neg (show ¬ (true = false) by decide)]
  by_cases hh : nhas ⟨k, i, o, cd, via, bd, cn, st⟩ = true
  ·rw [if_pos hh, if_pos]
   have : has (if k = 2 ∨ k = 3 then 0 else cd.length) (if k = 5 then (0, 0, 0) else via) (if k = 5 then 0 else bd) (if k = 8 then 0 else cn.length) (if k = 8 then false else st) = true := hh
   unfold rfl9
   rw [this]
   rfl
  ·rw [if_neg hh]
   have hh2 : nhas ⟨k, i, o, cd, via, bd, cn, st⟩ = false := by simpa using hh
   change has (if k = 2 ∨ k = 3 then 0 else cd.length) (if k = 5 then (0, 0, 0) else via) (if k = 5 then 0 else bd) (if k = 8 then 0 else cn.length) (if k = 8 then false else st) = false at hh2
   have hr9 : rfl9 k cd.length via bd cn.length st a = (decide (tfits via.1 via.2.1 via.2.2 a = 0) && decide (bd ≤ 64)) := by
    unfold rfl9
    rw [hh2]
    rfl
   rw [hr9]
   simp only [has, Bool.or_eq_false_iff, decide_eq_false_iff_not] at hh2
   obtain ⟨⟨⟨⟨q1, q2⟩, q3⟩, q4⟩, q5⟩ := hh2
   unfold nrest
   simp only
   have ce : cok i o a [] = true := by simp [cok]
   by_cases e23 : k = 2 ∨ k = 3
   ·have e5 : ¬ k = 5 := by omega
    have e8 : ¬ k = 8 := by omega
    rw [if_neg e5] at q2 q3
    rw [if_neg e8] at q4
    have v0 : via = (0, 0, 0) := by simpa using q2
    have b0 : bd = 0 := by omega
    have c0 : cn = [] := List.eq_nil_of_length_eq_zero (by omega)
    subst v0 b0 c0
    rw [if_pos e23, hd0, if_neg (show ¬ (true = false) by decide), ce, if_neg (show ¬ (true = false) by decide)]
   ·rw [if_neg e23] at q1
    have l0 : ¬ 16 < cd.length := by omega
    rw [if_neg e23, if_neg l0]
    by_cases e5 : k = 5
    ·have e8 : ¬ k = 8 := by omega
     rw [if_neg e8] at q4
     have c0 : cn = [] := List.eq_nil_of_length_eq_zero (by omega)
     subst c0
     rw [if_pos e5, ce, if_neg (show ¬ (true = false) by decide)]
     by_cases hb : 64 < bd ∨ tfits via.1 via.2.1 via.2.2 a ≠ 0
     ·rw [if_pos hb, if_pos]
      rw [Bool.and_eq_false_iff]
      rcases hb with h | h
      ·exact Or.inr (decide_eq_false (by omega))
      ·exact Or.inl (decide_eq_false h)
     ·have h1 : tfits via.1 via.2.1 via.2.2 a = 0 := Classical.not_not.1 (fun h => hb (Or.inr h))
      have h2 : bd ≤ 64 := by omega
      rw [if_neg hb, if_neg]
      rw [decide_eq_true h1, decide_eq_true h2]
      decide
    ·rw [if_neg e5] at q2 q3
     have v0 : via = (0, 0, 0) := by simpa using q2
     have b0 : bd = 0 := by omega
     subst v0 b0
     rw [if_neg e5, hd0, if_neg (show ¬ (true = false) by decide)]
     by_cases e8 : k = 8
     ·rw [if_pos e8]
      cases cok i o a cn <;> rfl
     ·rw [if_neg e8] at q4
      have c0 : cn = [] := List.eq_nil_of_length_eq_zero (by omega)
      subst c0
      rw [if_neg e8, ce]
      rfl
set_option maxHeartbeats 4000000 in
theorem rnode_any {M : Nat} (x : NV) (a : Int) (ha : 1 ≤ a ∧ a ≤ 3) (w : World) (hx : NR M w x) : Calls Tryz.prog 51 #[.agg x.cells, .int .i64 a] w fun r w' => r = .returned (.int .i64 (nflaw a x.n)) ∧ Below w.heap.size w w' := by
 obtain ⟨⟨k, i, o, cd, via, bd, cn, st⟩, cq, cm, cc, dq, dm, dc⟩ := x
 obtain ⟨_, _, h1⟩ := hx.code.form
 obtain ⟨_, _, h2⟩ := hx.conns.form
 simp only [Value.slice.injEq] at h1 h2
 obtain ⟨-, rfl, -⟩ := h1
 obtain ⟨-, rfl, -⟩ := h2
 have hL := hx.conns
 simp only at hL
 have B0 := hid ((Gr.refl w).alloc (.cells (ncells k i o (.slice cq cd.length cc) via bd (.slice dq cn.length dc) st) 89)).below
 have N0 := hid (heap_new' w (.cells (ncells k i o (.slice cq cd.length cc) via bd (.slice dq cn.length dc) st) 89))
 obtain ⟨W0, hW0⟩ : ∃ W, W = w.alloc (.cells (ncells k i o (.slice cq cd.length cc) via bd (.slice dq cn.length dc) st) 89) := ⟨_, rfl⟩
 have HW : Hid (w.alloc (.cells #[.int .i64 k, .int .i64 i, .int .i64 o, .slice cq cd.length cc, .int .u64 (via.1 : Nat), .int .u64 (via.2.1 : Nat), .int .u64 (via.2.2 : Nat), .int .u64 (bd : Nat), .slice dq cn.length dc, .bool st] 89) = W0) := hW0.symm
 rw [← hW0] at B0 N0
 have c0 := (tk_store N0.out).1
 have l0 := tk_lt N0.out
 have hN : ∀ W, Below W0.heap.size W0 W → W.heap[w.heap.size]? = some (.cells (ncells k i o (.slice cq cd.length cc) via bd (.slice dq cn.length dc) st) 89 (0, 0)) := fun W hb => (hb.block _ (tk_lt N0.out)).trans N0.out
 have HN := hid hN
 clear hW0 hx hN
 by_cases hk1 : k < 1
 ·have HR : Hid (nflaw a ⟨k, i, o, cd, via, bd, cn, st⟩ = 20) := if_pos (Or.inl hk1)
  go_enter Tryz.func51, Tryz.ntmps51
  go_upto_region 1 with fail
  rw [HW.out]
  go_wp2_with fail
  go_ret
  exact ⟨by rw [HR.out]; rfl, B0.out⟩
 ·by_cases hk8 : 8 < k
  ·have HR : Hid (nflaw a ⟨k, i, o, cd, via, bd, cn, st⟩ = 20) := if_pos (Or.inr hk8)
   go_enter Tryz.func51, Tryz.ntmps51
   go_upto_region 1 with fail
   rw [HW.out]
   go_wp2_with fail
   go_ret
   exact ⟨by rw [HR.out]; rfl, B0.out⟩
  ·have hk : k = 1 ∨ k = 2 ∨ k = 3 ∨ k = 4 ∨ k = 5 ∨ k = 6 ∨ k = 7 ∨ k = 8 := by omega
   have hp : ∀ W, Calls Tryz.prog 72 #[.agg (ncells k i o (.slice cq cd.length cc) via bd (.slice dq cn.length dc) st)] W fun r w' => r = .returned (.bool (pIn k i && pOut k o)) ∧ Below W.heap.size W w' := fun W => by
    rcases hk with rfl | rfl | rfl | rfl | rfl | rfl | rfl | rfl
    ·exact rports1_any i o cq cd.length cc via bd dq cn.length dc st W
    ·exact rports2_any i o cq cd.length cc via bd dq cn.length dc st W
    ·exact rports3_any i o cq cd.length cc via bd dq cn.length dc st W
    ·exact rports4_any i o cq cd.length cc via bd dq cn.length dc st W
    ·exact rports5_any i o cq cd.length cc via bd dq cn.length dc st W
    ·exact rports6_any i o cq cd.length cc via bd dq cn.length dc st W
    ·exact rports7_any i o cq cd.length cc via bd dq cn.length dc st W
    ·exact rports8_any i o cq cd.length cc via bd dq cn.length dc st W
   have hfl : ∀ W, Calls Tryz.prog 73 #[.agg (ncells k i o (.slice cq cd.length cc) via bd (.slice dq cn.length dc) st), .int .i64 a] W fun r w' => r = .returned (.bool (rfl9 k cd.length via bd cn.length st a)) ∧ Below W.heap.size W w' := fun W => by
    by_cases e2 : k = 2
    ·subst e2; exact rfields2_any i o cq cd.length cc via bd dq cn.length dc st a W
    ·by_cases e3 : k = 3
     ·subst e3; exact rfields3_any i o cq cd.length cc via bd dq cn.length dc st a W
     ·by_cases e5 : k = 5
      ·subst e5; exact rfields5_any i o cq cd.length cc via bd dq cn.length dc st a W
      ·by_cases e8 : k = 8
       ·subst e8; exact rfields8_any i o cq cd.length cc via bd dq cn.length dc st a W
       ·exact rfields0_any k e2 e3 e5 e8 i o cq cd.length cc via bd dq cn.length dc st a W
   have hcn : ∀ W, Below w.heap.size w W → Calls Tryz.prog 74 #[.agg (ncells k i o (.slice cq cd.length cc) via bd (.slice dq cn.length dc) st), .int .i64 a] W fun r w' => r = .returned (.bool (cok i o a cn)) ∧ Below W.heap.size W w' := fun W hb => rconns_any k i o cq cd.length cc via bd dq dc st cn a W (hL.below hb)
   have HE : Hid (nflaw a ⟨k, i, o, cd, via, bd, cn, st⟩ = if (pIn k i && pOut k o) = false then 21 else if rfl9 k cd.length via bd cn.length st a = false then 22 else if 16 < cd.length then 24 else if cok i o a cn = false then 23 else 0) := nflaw_doc ha hk1 hk8
   clear hk hL
   generalize hlc : cd.length = lc at *
   generalize hld : cn.length = ld at *
   go_enter Tryz.func51, Tryz.ntmps51
   go_upto_region 1 with fail
   rw [HW.out]
   clear HW hlc hld
   cases e1 : (pIn k i && pOut k o) with
   | false =>
    rw [e1] at hp
    have HR : Hid (nflaw a ⟨k, i, o, cd, via, bd, cn, st⟩ = 21) := HE.out.trans (if_pos e1)
    clear e1
    go_wp2_with fail
    refine (hp _).mono ?_
    rintro r w1 ⟨rfl, b1⟩
    have B1 := hid (B0.out.trans (b1.mono B0.out.size))
    clear b1
    go_wp2_with fail
    go_ret
    exact ⟨by rw [HR.out]; rfl, B1.out⟩
   | true =>
    rw [e1] at hp
    cases e2 : rfl9 k lc via bd ld st a with
    | false =>
     rw [e2] at hfl
     have HR : Hid (nflaw a ⟨k, i, o, cd, via, bd, cn, st⟩ = 22) := HE.out.trans ((if_neg (by rw [e1]; decide)).trans (if_pos e2))
     clear e1 e2
     go_wp2_with fail
     refine (hp _).mono ?_
     rintro r w1 ⟨rfl, b1⟩
     have B1 := hid (B0.out.trans (b1.mono B0.out.size))
     have c1 := (tk_store (HN.out w1 b1)).1
     have l1 := tk_lt (HN.out w1 b1)
     clear b1
     go_wp2_with fail
     refine (hfl _).mono ?_
     rintro r w2 ⟨rfl, b2⟩
     have B2 := hid (B1.out.trans (b2.mono B1.out.size))
     clear b2
     go_wp2_with fail
     go_ret
     exact ⟨by rw [HR.out]; rfl, B2.out⟩
    | true =>
     rw [e2] at hfl
     by_cases h16 : 16 < lc
     ·have hz : (16 : Int) < (lc : Int) := by omega
      have HR : Hid (nflaw a ⟨k, i, o, cd, via, bd, cn, st⟩ = 24) := HE.out.trans ((if_neg (by rw [e1]; decide)).trans ((if_neg (by rw [e2]; decide)).trans (if_pos h16)))
      clear e1 e2 h16
      go_wp2_with fail
      refine (hp _).mono ?_
      rintro r w1 ⟨rfl, b1⟩
      have B1 := hid b1
      have c1 := (tk_store (HN.out w1 b1)).1
      have l1 := tk_lt (HN.out w1 b1)
      clear b1
      go_wp2_with fail
      refine (hfl _).mono ?_
      rintro r w2 ⟨rfl, b2⟩
      have b3 := B1.out.trans (b2.mono B1.out.size)
      have B2 := hid (B0.out.trans (b3.mono B0.out.size))
      have c2 := (tk_store (HN.out w2 b3)).1
      have l2 := tk_lt (HN.out w2 b3)
      clear b2 b3
      go_wp2_with fail
      go_ret
      exact ⟨by rw [HR.out]; rfl, B2.out⟩
     ·have hz : ¬ (16 : Int) < (lc : Int) := by omega
      have HR : Hid (nflaw a ⟨k, i, o, cd, via, bd, cn, st⟩ = if cok i o a cn = false then 23 else 0) := HE.out.trans ((if_neg (by rw [e1]; decide)).trans ((if_neg (by rw [e2]; decide)).trans (if_neg h16)))
      clear e1 e2 h16
      go_wp2_with fail
      refine (hp _).mono ?_
      rintro r w1 ⟨rfl, b1⟩
      have B1 := hid b1
      have c1 := (tk_store (HN.out w1 b1)).1
      have l1 := tk_lt (HN.out w1 b1)
      clear b1
      go_wp2_with fail
      refine (hfl _).mono ?_
      rintro r w2 ⟨rfl, b2⟩
      have b3 := B1.out.trans (b2.mono B1.out.size)
      have B2 := hid b3
      have c2 := (tk_store (HN.out w2 b3)).1
      have l2 := tk_lt (HN.out w2 b3)
      have q := hcn w2 (B0.out.trans (b3.mono B0.out.size))
      clear b2 b3 c1 l1 hp hfl hcn
      cases e3 : cok i o a cn with
      | false =>
       rw [e3] at q
       have HR2 : Hid (nflaw a ⟨k, i, o, cd, via, bd, cn, st⟩ = 23) := HR.out.trans (if_pos e3)
       clear e3
       go_wp2_with fail
       refine q.mono ?_
       rintro r w4 ⟨rfl, b4⟩
       have B4 := hid (B0.out.trans ((B2.out.trans (b4.mono B2.out.size)).mono B0.out.size))
       clear b4
       go_wp2_with fail
       go_ret
       exact ⟨by rw [HR2.out]; rfl, B4.out⟩
      | true =>
       rw [e3] at q
       have HR2 : Hid (nflaw a ⟨k, i, o, cd, via, bd, cn, st⟩ = 0) := HR.out.trans (if_neg (by rw [e3]; decide))
       clear e3
       go_wp2_with fail
       refine q.mono ?_
       rintro r w4 ⟨rfl, b4⟩
       have B4 := hid (B0.out.trans ((B2.out.trans (b4.mono B2.out.size)).mono B0.out.size))
       clear b4
       go_wp2_with fail
       go_ret
       exact ⟨by rw [HR2.out]; rfl, B4.out⟩
end Go.Proofs.YtdnnfgabdkkdjaaGreat.Df

namespace Go.Proofs.YtdnnfgabdkkdjaaGreat.Df
open Go.RowKit Go.Sort
attribute [local go_sem ↓] Go.wp_at_zero Go.wp_at_succ
structure Nr (w : World) (nv : Value) (xs : List NV) : Prop where
 nodes : Lz EV w.heap.size w nv xs
 nl : xs.length ≤ 24
 pok : Pok (xs.map NV.n)
theorem Nr.below {w w' : World} {nv : Value} {xs : List NV} (h : Nr w nv xs) (hb : Below w.heap.size w w') : Nr w' nv xs := ⟨(h.nodes.below hb).up hb.size, h.nl, h.pok⟩
theorem fn_pos {ns : List Nod} {i : Nat} {n : Nod} (hi : ns[i]? = some n) (hp : Pok ns) : (firstN ns i : Int) + n.ins + n.outs = (firstN ns (i + 1) : Nat) := by
 have := hp n (List.mem_of_getElem? hi)
 rw [firstN_succ hi]
 push_cast
 omega
set_option maxHeartbeats 4000000 in
theorem rfirst_any {nv ev : Value} {a : Int} {xs : List NV} (j : Nat) (hj : j ≤ xs.length) (w : World) (h : Nr w nv xs) : Calls Tryz.prog 110 #[.agg (gvc a nv ev), .int .i64 (j : Nat)] w fun r w' => r = .returned (.int .i64 (firstN (xs.map NV.n) j : Nat)) ∧ Gr w w' := by
 have g0 := (Gr.refl w).alloc (.cells (gvc a nv ev) 25)
 have HB := hid (heap_new' w (.cells (gvc a nv ev) 25))
 have HN := hid (h.below g0.below)
 obtain ⟨W0, hW0⟩ : ∃ W, W = w.alloc (.cells (gvc a nv ev) 25) := ⟨_, rfl⟩
 have HW : Hid (w.alloc (.cells #[.int .i64 a, nv, ev] 25) = W0) := hW0.symm
 rw [← hW0] at g0 HB HN
 have G0 := hid g0
 obtain ⟨qn, cn, rfl⟩ := h.nodes.form
 have hnl := h.nl
 have HP := hid h.pok
 obtain ⟨ns, hns⟩ : ∃ ns, ns = xs.map NV.n := ⟨_, rfl⟩
 rw [← hns] at HP ⊢
 have HNS := hid hns
 generalize hxl : xs.length = nl at *
 have HXL := hid hxl
 clear h hW0 g0 hns hxl
 have c0 := (tk_store HB.out).1
 have l0 := tk_lt HB.out
 go_enter Tryz.func110, Tryz.ntmps110
 go_upto_region 1 with fail
 rw [HW.out]
 clear HW
 go_wp2_with fail
 clear c0 l0
 go_loopw [5, 6] (fun sn si wr => ∃ i : Nat, i ≤ j ∧ si = .int .i64 (i : Nat) ∧ sn = .int .i64 (firstN ns i : Nat) ∧ Hid (Gr W0 wr)) (fun _ si _ => j - (RowKit.intOf si).toNat)
 case atStart => exact ⟨0, Nat.zero_le _, rfl, rfl, Gr.refl _⟩
 case round =>
  obtain ⟨i, hi, rfl, rfl, HI⟩ := hrel
  have hb0 := (HI.out.below.block _ (tk_lt HB.out)).trans HB.out
  have c1 := (tk_store hb0).1
  have l1 := tk_lt hb0
  clear hb0
  by_cases hlt : i < j
  ·have hltz : (i : Int) < (j : Int) := by omega
   have hi0 : (0 : Int) ≤ (i : Int) := by omega
   have hil : (i : Int) < (nl : Int) := by omega
   obtain ⟨y, hy⟩ : ∃ y, xs[i]? = some y := ⟨xs[i]'(by have := HXL.out; omega), by simp⟩
   have HYN : Hid (ns[i]? = some y.n) := by show _ = _; rw [HNS.out]; simp [hy]
   obtain ⟨b1, o1, q1, ev1, zz1, x0, x1, x2, -⟩ := ls_atV ((HN.out.nodes.below HI.out.below).ls hy) hy
   simp only [Value.slice.injEq] at ev1
   obtain ⟨rfl, -, rfl⟩ := ev1
   have HFS := hid (fn_pos HYN.out HP.out)
   have hf1 := firstN_le HP.out i
   have hq := HP.out y.n (List.mem_of_getElem? HYN.out)
   obtain ⟨m, hm⟩ : ∃ m, m = firstN ns i := ⟨_, rfl⟩
   rw [← hm] at HFS hf1 ⊢
   have hm9 : (m : Int) ≤ 192 := by omega
   have q1 : 0 ≤ y.n.ins := hq.1
   have q2 : y.n.ins ≤ 4 := hq.2.1
   have q3 : 0 ≤ y.n.outs := hq.2.2.1
   have q4 : y.n.outs ≤ 4 := hq.2.2.2
   clear hy hm hq hf1
   go_upto_region 5 with fail
   go_quiet (fail)
   have G1 := hid (HI.out.drewN nq)
   clear x0 x1 x2 zz1 c1 l1
   go_wp2_with fail
   go_roundw
   case rel => exact ⟨i + 1, by omega, by go_num, by rw [← HFS.out], G1.out⟩
   case measure => simp [RowKit.intOf]; omega
  ·have hltz : ¬ (i : Int) < (j : Int) := by omega
   obtain rfl : i = j := by omega
   go_wp2_with fail
   go_ret
   exact ⟨rfl, G0.out.trans HI.out⟩
end Go.Proofs.YtdnnfgabdkkdjaaGreat.Df

namespace Go.Proofs.YtdnnfgabdkkdjaaGreat.Df
open Go.RowKit Go.Sort
attribute [local go_sem ↓] Go.wp_at_zero Go.wp_at_succ
set_option maxHeartbeats 4000000 in
theorem rin_any {nv : Value} {qe : Option Addr} {me ce : Nat} {a : Int} {xs : List NV} (i p : Int) (w : World) (h : Nr w nv xs) : Calls Tryz.prog 76 #[.agg (gvc a nv (.slice qe me ce)), .int .i64 i, .int .i64 p] w fun r w' => r = .returned (.int .i64 (inN (xs.map NV.n) i p)) ∧ Gr w w' := by
 have hmx : Tryz.prog.follows .mixedOrders = true := by kernel_rfl
 have g0 := (Gr.refl w).alloc (.cells (gvc a nv (.slice qe me ce)) 25)
 have HB := hid (heap_new' w (.cells (gvc a nv (.slice qe me ce)) 25))
 have HN := hid (h.below g0.below)
 obtain ⟨W0, hW0⟩ : ∃ W, W = w.alloc (.cells (gvc a nv (.slice qe me ce)) 25) := ⟨_, rfl⟩
 have HW : Hid (w.alloc (.cells #[.int .i64 a, nv, .slice qe me ce] 25) = W0) := hW0.symm
 rw [← hW0] at g0 HB HN
 have G0 := hid g0
 have hfst := fun (j : Nat) (hj : j ≤ xs.length) W (hb : Below W0.heap.size W0 W) => rfirst_any (ev := .slice qe me ce) (a := a) j hj W (HN.out.below hb)
 obtain ⟨qn, cn, rfl⟩ := h.nodes.form
 have hnl := h.nl
 have HP := hid h.pok
 obtain ⟨ns, hns⟩ : ∃ ns, ns = xs.map NV.n := ⟨_, rfl⟩
 rw [← hns] at HP hfst ⊢
 have HNS : Hid (ns = xs.map NV.n ∧ ns.length = xs.length) := ⟨hns, by rw [hns, List.length_map]⟩
 generalize hxl : xs.length = nl at *
 have HXL := hid hxl
 clear h hW0 g0 hns hxl
 have c0 := (tk_store HB.out).1
 have l0 := tk_lt HB.out
 have HFALSE : Hid (hasIN ns i p = false → inN ns i p = -1) := fun e => by unfold inN; rw [if_neg (by rw [e]; decide)]
 by_cases hi0 : i < 0
 ·have HR : Hid (inN ns i p = -1) := HFALSE.out (by unfold hasIN natN?; rw [if_neg (by omega)])
  go_enter Tryz.func76, Tryz.ntmps76
  go_upto_region 1 with fail
  rw [HW.out]
  go_wp2_with fail
  go_ret
  exact ⟨by rw [HR.out]; rfl, G0.out⟩
 ·by_cases hil : (nl : Int) ≤ i
  ·have HR : Hid (inN ns i p = -1) := HFALSE.out (by unfold hasIN natN?; rw [if_pos (by omega), List.getElem?_eq_none (by have := HNS.out.2; have := HXL.out; omega)])
   go_enter Tryz.func76, Tryz.ntmps76
   go_upto_region 1 with fail
   rw [HW.out]
   go_wp2_with fail
   go_ret
   exact ⟨by rw [HR.out]; rfl, G0.out⟩
  ·obtain ⟨j, rfl⟩ : ∃ j : Nat, i = (j : Int) := ⟨i.toNat, by omega⟩
   obtain ⟨y, hy⟩ : ∃ y, xs[j]? = some y := ⟨xs[j]'(by have := HXL.out; omega), by simp⟩
   have HYN : Hid (ns[j]? = some y.n) := by show _ = _; rw [HNS.out.1]; simp [hy]
   have HHAS : Hid (hasIN ns (j : Int) p = decide (0 ≤ p ∧ p < y.n.ins)) := by
    show _ = _
    unfold hasIN natN?
    rw [if_pos (by omega), Int.toNat_natCast, HYN.out]
   have HQ := hid (HP.out y.n (List.mem_of_getElem? HYN.out))
   obtain ⟨b1, o1, q1, ev1, zz1, x0, x1, x2, -⟩ := ls_atV (HN.out.nodes.ls hy) hy
   simp only [Value.slice.injEq] at ev1
   obtain ⟨rfl, -, rfl⟩ := ev1
   have HY := hid hy
   clear hy
   have hjz : (j : Int) < (nl : Int) := by omega
   have hj0 : (0 : Int) ≤ (j : Int) := by omega
   by_cases hp0 : p < 0
   ·have HR : Hid (inN ns (j : Int) p = -1) := HFALSE.out (by rw [HHAS.out]; simp; omega)
    go_enter Tryz.func76, Tryz.ntmps76
    go_upto_region 1 with fail
    rw [HW.out]
    go_wp2_with fail
    go_ret
    exact ⟨by rw [HR.out]; rfl, G0.out⟩
   ·by_cases hpn : y.n.ins ≤ p
    ·have HR : Hid (inN ns (j : Int) p = -1) := HFALSE.out (by rw [HHAS.out]; simp; omega)
     go_enter Tryz.func76, Tryz.ntmps76
     go_upto_region 1 with fail
     rw [HW.out]
     go_wp2_with fail
     go_ret
     exact ⟨by rw [HR.out]; rfl, G0.out⟩
    ·have hf1 := firstN_le HP.out j
     have hcall := fun W hb => hfst j (by omega) W hb
     obtain ⟨m, hm⟩ : ∃ m, m = firstN ns j := ⟨_, rfl⟩
     rw [← hm] at hcall hf1
     have q1 : 0 ≤ y.n.ins := HQ.out.1
     have q2 : y.n.ins ≤ 4 := HQ.out.2.1
     have hp4 : p < 4 := by have := HQ.out; omega
     have hm9 : (m : Int) ≤ 192 := by omega
     have HR : Hid (inN ns (j : Int) p = (m : Int) + p) := by
      show _ = _
      unfold inN
      rw [if_pos (by rw [HHAS.out]; simp; omega), Int.toNat_natCast, hm]
     clear hfst hm hf1
     go_enter Tryz.func76, Tryz.ntmps76
     go_upto_region 1 with fail
     rw [HW.out]
     clear HW
     go_wp2_with fail
     refine (hcall _ (Below.refl _ _)).mono ?_
     rintro r w1 ⟨rfl, g1⟩
     have G1 := hid (G0.out.trans g1)
     clear g1
     go_wp2_with fail
     go_ret
     exact ⟨by rw [HR.out]; rfl, G1.out⟩
set_option maxHeartbeats 4000000 in
theorem rout_any {nv : Value} {qe : Option Addr} {me ce : Nat} {a : Int} {xs : List NV} (i p : Int) (w : World) (h : Nr w nv xs) : Calls Tryz.prog 75 #[.agg (gvc a nv (.slice qe me ce)), .int .i64 i, .int .i64 p] w fun r w' => r = .returned (.int .i64 (outN (xs.map NV.n) i p)) ∧ Gr w w' := by
 have hmx : Tryz.prog.follows .mixedOrders = true := by kernel_rfl
 have g0 := (Gr.refl w).alloc (.cells (gvc a nv (.slice qe me ce)) 25)
 have HB := hid (heap_new' w (.cells (gvc a nv (.slice qe me ce)) 25))
 have HN := hid (h.below g0.below)
 obtain ⟨W0, hW0⟩ : ∃ W, W = w.alloc (.cells (gvc a nv (.slice qe me ce)) 25) := ⟨_, rfl⟩
 have HW : Hid (w.alloc (.cells #[.int .i64 a, nv, .slice qe me ce] 25) = W0) := hW0.symm
 rw [← hW0] at g0 HB HN
 have G0 := hid g0
 have hfst := fun (j : Nat) (hj : j ≤ xs.length) W (hb : Below W0.heap.size W0 W) => rfirst_any (ev := .slice qe me ce) (a := a) j hj W (HN.out.below hb)
 obtain ⟨qn, cn, rfl⟩ := h.nodes.form
 have hnl := h.nl
 have HP := hid h.pok
 obtain ⟨ns, hns⟩ : ∃ ns, ns = xs.map NV.n := ⟨_, rfl⟩
 rw [← hns] at HP hfst ⊢
 have HNS : Hid (ns = xs.map NV.n ∧ ns.length = xs.length) := ⟨hns, by rw [hns, List.length_map]⟩
 generalize hxl : xs.length = nl at *
 have HXL := hid hxl
 clear h hW0 g0 hns hxl
 have c0 := (tk_store HB.out).1
 have l0 := tk_lt HB.out
 have HFALSE : Hid (hasON ns i p = false → outN ns i p = -1) := fun e => by unfold outN; rw [if_neg (by rw [e]; decide)]
 by_cases hi0 : i < 0
 ·have HR : Hid (outN ns i p = -1) := HFALSE.out (by unfold hasON natN?; rw [if_neg (by omega)])
  go_enter Tryz.func75, Tryz.ntmps75
  go_upto_region 1 with fail
  rw [HW.out]
  go_wp2_with fail
  go_ret
  exact ⟨by rw [HR.out]; rfl, G0.out⟩
 ·by_cases hil : (nl : Int) ≤ i
  ·have HR : Hid (outN ns i p = -1) := HFALSE.out (by unfold hasON natN?; rw [if_pos (by omega), List.getElem?_eq_none (by have := HNS.out.2; have := HXL.out; omega)])
   go_enter Tryz.func75, Tryz.ntmps75
   go_upto_region 1 with fail
   rw [HW.out]
   go_wp2_with fail
   go_ret
   exact ⟨by rw [HR.out]; rfl, G0.out⟩
  ·obtain ⟨j, rfl⟩ : ∃ j : Nat, i = (j : Int) := ⟨i.toNat, by omega⟩
   obtain ⟨y, hy⟩ : ∃ y, xs[j]? = some y := ⟨xs[j]'(by have := HXL.out; omega), by simp⟩
   have HYN : Hid (ns[j]? = some y.n) := by show _ = _; rw [HNS.out.1]; simp [hy]
   have HHAS : Hid (hasON ns (j : Int) p = decide (0 ≤ p ∧ p < y.n.outs)) := by
    show _ = _
    unfold hasON natN?
    rw [if_pos (by omega), Int.toNat_natCast, HYN.out]
   have HQ := hid (HP.out y.n (List.mem_of_getElem? HYN.out))
   obtain ⟨b1, o1, q1, ev1, zz1, x0, x1, x2, -⟩ := ls_atV (HN.out.nodes.ls hy) hy
   simp only [Value.slice.injEq] at ev1
   obtain ⟨rfl, -, rfl⟩ := ev1
   have HY := hid hy
   clear hy
   have hjz : (j : Int) < (nl : Int) := by omega
   have hj0 : (0 : Int) ≤ (j : Int) := by omega
   by_cases hp0 : p < 0
   ·have HR : Hid (outN ns (j : Int) p = -1) := HFALSE.out (by rw [HHAS.out]; simp; omega)
    go_enter Tryz.func75, Tryz.ntmps75
    go_upto_region 1 with fail
    rw [HW.out]
    go_wp2_with fail
    go_ret
    exact ⟨by rw [HR.out]; rfl, G0.out⟩
   ·by_cases hpn : y.n.outs ≤ p
    ·have HR : Hid (outN ns (j : Int) p = -1) := HFALSE.out (by rw [HHAS.out]; simp; omega)
     go_enter Tryz.func75, Tryz.ntmps75
     go_upto_region 1 with fail
     rw [HW.out]
     go_wp2_with fail
     go_ret
     exact ⟨by rw [HR.out]; rfl, G0.out⟩
    ·have hf1 := firstN_le HP.out j
     have hcall := fun W hb => hfst j (by omega) W hb
     obtain ⟨m, hm⟩ : ∃ m, m = firstN ns j := ⟨_, rfl⟩
     rw [← hm] at hcall hf1
     have q1 : 0 ≤ y.n.ins := HQ.out.1
     have q2 : y.n.ins ≤ 4 := HQ.out.2.1
     have hp4 : p < 4 := by have := HQ.out; omega
     have hm9 : (m : Int) ≤ 192 := by omega
     have HR : Hid (outN ns (j : Int) p = (m : Int) + y.n.ins + p) := by
      show _ = _
      unfold outN
      rw [if_pos (by rw [HHAS.out]; simp; omega), Int.toNat_natCast, hm, HYN.out]
     clear hfst hm hf1
     go_enter Tryz.func75, Tryz.ntmps75
     go_upto_region 1 with fail
     rw [HW.out]
     clear HW
     have hw1 : IntKind.i64.wrap ((m : Int) + y.n.ins) = (m : Int) + y.n.ins := by rw [IntKind.wrap_i64]; omega
     have hw2 : IntKind.i64.wrap ((m : Int) + y.n.ins + p) = (m : Int) + y.n.ins + p := by rw [IntKind.wrap_i64]; omega
     go_upto_region 3 with fail
     have hS0 : Gr W0 W0.drew := (Gr.refl W0).drew
     refine wp_regionD (S := fun W => Gr W0 W) (D := []) hmx ?_
     refine' wpAnyD_take (i := 0) (oi := ⟨some 30, .load 25 (.tmp 3), 25, "ref.go:180", #[], none⟩) (v := _) rfl (by kernel_rfl) (by kernel_rfl) (by kernel_rfl) (fun _ _ _ h => h) (by kernel_rfl) (Or.inl ⟨by rfl, ?hy1⟩) hS0 ?rest1
     case hy1 => (intro W hSw; have hb := (hSw.below.block _ (tk_lt HB.out)).trans HB.out; have hc := (tk_store hb).1; have hl := tk_lt hb; go_simp; try (with_reducible rfl))
     try simp only [Act.put, List.setIfInBounds_toArray, List.set_cons_zero, List.set_cons_succ]
     refine' wpAnyD_take (i := 1) (oi := ⟨some 31, .move (.tmp 1), 3, "ref.go:180", #[], none⟩) (v := _) rfl (by kernel_rfl) (by kernel_rfl) (by kernel_rfl) (fun _ _ _ h => h) (by kernel_rfl) (Or.inl ⟨by rfl, ?hy2⟩) hS0 ?rest2
     case hy2 => (intro W hSw; go_simp; try (with_reducible rfl))
     try simp only [Act.put, List.setIfInBounds_toArray, List.set_cons_zero, List.set_cons_succ]
     refine' wpAnyD_take (i := 3) (oi := ⟨some 33, .fieldAddr 25 (.tmp 3) 1, 0, "ref.go:180", #[], none⟩) (v := _) rfl (by kernel_rfl) (by kernel_rfl) (by kernel_rfl) (fun _ _ _ h => h) (by kernel_rfl) (Or.inl ⟨by rfl, ?hy3⟩) hS0 ?rest3
     case hy3 => (intro W hSw; go_simp; try (with_reducible rfl))
     try simp only [Act.put, List.setIfInBounds_toArray, List.set_cons_zero, List.set_cons_succ]
     refine' wpAnyD_take (i := 4) (oi := ⟨some 34, .load 22 (.tmp 33), 22, "ref.go:180", #[⟨3, .data⟩], none⟩) (v := _) rfl (by kernel_rfl) (by kernel_rfl) (by kernel_rfl) (fun _ _ _ h => h) (by kernel_rfl) (Or.inl ⟨by rfl, ?hy4⟩) hS0 ?rest4
     case hy4 => (intro W hSw; have hb := (hSw.below.block _ (tk_lt HB.out)).trans HB.out; have hc := (tk_store hb).1; have hl := tk_lt hb; go_simp; try (with_reducible rfl))
     try simp only [Act.put, List.setIfInBounds_toArray, List.set_cons_zero, List.set_cons_succ]
     refine' wpAnyD_take (i := 5) (oi := ⟨some 35, .move (.tmp 1), 3, "ref.go:180", #[], none⟩) (v := _) rfl (by kernel_rfl) (by kernel_rfl) (by kernel_rfl) (fun _ _ _ h => h) (by kernel_rfl) (Or.inl ⟨by rfl, ?hy5⟩) hS0 ?rest5
     case hy5 => (intro W hSw; go_simp; try (with_reducible rfl))
     try simp only [Act.put, List.setIfInBounds_toArray, List.set_cons_zero, List.set_cons_succ]
     refine' wpAnyD_take (i := 6) (oi := ⟨some 36, .indexAddr 22 (.tmp 34) (.tmp 35), 0, "ref.go:180", #[⟨4, .data⟩, ⟨5, .data⟩], none⟩) (v := _) rfl (by kernel_rfl) (by kernel_rfl) (by kernel_rfl) (fun _ _ _ h => h) (by kernel_rfl) (Or.inl ⟨by rfl, ?hy6⟩) hS0 ?rest6
     case hy6 => (intro W hSw; go_simp; try (with_reducible rfl))
     try simp only [Act.put, List.setIfInBounds_toArray, List.set_cons_zero, List.set_cons_succ]
     refine' wpAnyD_take (i := 7) (oi := ⟨some 37, .fieldAddr 89 (.tmp 36) 1, 0, "ref.go:180", #[⟨6, .data⟩], none⟩) (v := _) rfl (by kernel_rfl) (by kernel_rfl) (by kernel_rfl) (fun _ _ _ h => h) (by kernel_rfl) (Or.inl ⟨by rfl, ?hy7⟩) hS0 ?rest7
     case hy7 => (intro W hSw; go_simp; try (with_reducible rfl))
     try simp only [Act.put, List.setIfInBounds_toArray, List.set_cons_zero, List.set_cons_succ]
     refine' wpAnyD_take (i := 8) (oi := ⟨some 38, .load 3 (.tmp 37), 3, "ref.go:180", #[⟨7, .data⟩], none⟩) (v := _) rfl (by kernel_rfl) (by kernel_rfl) (by kernel_rfl) (fun _ _ _ h => h) (by kernel_rfl) (Or.inl ⟨by rfl, ?hy8⟩) hS0 ?rest8
     case hy8 => (intro W hSw; obtain ⟨b9, o9, q9, e9, z9, y0, y1, -⟩ := ls_atV ((HN.out.nodes.below hSw.below).ls HY.out) HY.out; simp only [Value.slice.injEq, Option.some.injEq, Addr.mk.injEq] at e9; obtain ⟨⟨rfl, rfl, -⟩, -, rfl⟩ := e9; go_simp; try (with_reducible rfl))
     try simp only [Act.put, List.setIfInBounds_toArray, List.set_cons_zero, List.set_cons_succ]
     refine' wpAnyD_take (i := 10) (oi := ⟨some 40, .move (.tmp 2), 3, "ref.go:180", #[], none⟩) (v := _) rfl (by kernel_rfl) (by kernel_rfl) (by kernel_rfl) (fun _ _ _ h => h) (by kernel_rfl) (Or.inl ⟨by rfl, ?hy9⟩) hS0 ?rest9
     case hy9 => (intro W hSw; go_simp; try (with_reducible rfl))
     try simp only [Act.put, List.setIfInBounds_toArray, List.set_cons_zero, List.set_cons_succ]
     refine wpAnyD_one (i := 2) (o := ⟨some 32, .call ⟨.value (.func 110), #[.tmp 30, .tmp 31], #[25, 3]⟩, 3, "ref.go:180", #[⟨0, .data⟩, ⟨1, .data⟩], none⟩) (by kernel_rfl) rfl (fun K hK => ?_)
     go_simp
     refine (hcall _ hS0.below).mono ?_
     rintro r w6 ⟨rfl, g6⟩
     have hS6 : Gr W0 w6 := hS0.trans g6
     clear g6
     go_wp2_with fail
     refine hK.out _ _ (fun hD => hS6) ?_
     clear hK K
     try simp only [Act.put, List.setIfInBounds_toArray, List.set_cons_zero, List.set_cons_succ]
     refine' wpAnyD_take (i := 9) (oi := ⟨some 39, .binOp .add 3 (.tmp 32) (.tmp 38) 3, 3, "ref.go:180", #[⟨2, .data⟩, ⟨8, .data⟩], none⟩) (v := _) rfl (by kernel_rfl) (by kernel_rfl) (by kernel_rfl) (fun _ _ _ h => h) (by kernel_rfl) (Or.inl ⟨by rfl, ?hy11⟩) hS6 ?rest11
     case hy11 => (intro W hSw; go_simp; try (with_reducible rfl))
     try simp only [Act.put, List.setIfInBounds_toArray, List.set_cons_zero, List.set_cons_succ]
     refine' wpAnyD_take (i := 11) (oi := ⟨some 41, .binOp .add 3 (.tmp 39) (.tmp 40) 3, 3, "ref.go:180", #[⟨9, .data⟩, ⟨10, .data⟩], none⟩) (v := _) rfl (by kernel_rfl) (by kernel_rfl) (by kernel_rfl) (fun _ _ _ h => h) (by kernel_rfl) (Or.inl ⟨by rfl, ?hy12⟩) hS6 ?rest12
     case hy12 => (intro W hSw; go_simp; try (with_reducible rfl))
     try simp only [Act.put, List.setIfInBounds_toArray, List.set_cons_zero, List.set_cons_succ]
     refine' wpAnyD_take (i := 12) (oi := ⟨some 6, .assign (.tmp 41), 3, "ref.go:180", #[⟨11, .data⟩, ⟨2, .chain⟩, ⟨0, .phase⟩, ⟨1, .phase⟩, ⟨2, .phase⟩, ⟨3, .phase⟩, ⟨4, .phase⟩, ⟨5, .phase⟩, ⟨6, .phase⟩, ⟨7, .phase⟩, ⟨8, .phase⟩, ⟨9, .phase⟩, ⟨10, .phase⟩, ⟨11, .phase⟩], none⟩) (v := _) rfl (by kernel_rfl) (by kernel_rfl) (by kernel_rfl) (fun _ _ _ h => h) (by kernel_rfl) (Or.inl ⟨by rfl, ?hy13⟩) hS6 ?rest13
     case hy13 => (intro W hSw; go_simp; try (with_reducible rfl))
     try simp only [Act.put, List.setIfInBounds_toArray, List.set_cons_zero, List.set_cons_succ]
     refine wpAnyD_done (by kernel_rfl) ?_ _
     have G6 := hid (G0.out.trans hS6)
     clear hS0 hS6 hcall
     go_wp2_with fail
     go_ret
     exact ⟨by rw [HR.out]; rfl, G6.out⟩
end Go.Proofs.YtdnnfgabdkkdjaaGreat.Df

namespace Go.Proofs.YtdnnfgabdkkdjaaGreat.Df
open Go.RowKit Go.Sort
attribute [local go_sem ↓] Go.wp_at_zero Go.wp_at_succ
theorem outN_neg {ns : List Nod} {i p : Int} (hp : Pok ns) : outN ns i p < 0 ↔ hasON ns i p = false := by
 unfold outN
 constructor
 ·intro h
  cases e : hasON ns i p with
  | false => rfl
  | true =>
   obtain ⟨n, hn, _, _, h1, _⟩ := has_out e
   have := hp n (List.mem_of_getElem? hn)
   rw [if_pos e, hn] at h
   simp only at h
   omega
 ·intro h
  rw [if_neg (by rw [h]; decide)]
  decide
theorem inN_neg {ns : List Nod} {i p : Int} : inN ns i p < 0 ↔ hasIN ns i p = false := by
 unfold inN
 constructor
 ·intro h
  cases e : hasIN ns i p with
  | false => rfl
  | true =>
   obtain ⟨n, hn, _, _, h1, _⟩ := has_in e
   rw [if_pos e] at h
   omega
 ·intro h
  rw [if_neg (by rw [h]; decide)]
  decide
theorem anyw_false {l : List Edg} {j : Nat} {y : Edg} (h : ∀ m c, m < j → l[m]? = some c → way c y = false) : anyw (l.take j) y = false := by
 unfold anyw
 rw [List.any_eq_false]
 intro c hc
 obtain ⟨m, hm, rfl⟩ := List.mem_iff_getElem.1 hc
 have hm2 : m < j ∧ m < l.length := by simp at hm; omega
 have := h m l[m] hm2.1 (by simp [hm2.2])
 simp only [List.getElem_take]
 rw [this]
 decide
theorem anyw_true {l : List Edg} {j m : Nat} {c y : Edg} (hm : m < j) (h : l[m]? = some c) (hw : way c y = true) : anyw (l.take j) y = true := by
 unfold anyw
 rw [List.any_eq_true]
 exact ⟨c, List.mem_of_getElem? (i := m) (by rw [List.getElem?_take, if_pos hm]; exact h), hw⟩
set_option maxRecDepth 100000 in
set_option maxHeartbeats 8000000 in
theorem redge_any {M : Nat} {nv ev : Value} {a : Int} {xs : List NV} {es : List Edg} (i : Nat) (y : Edg) (hi : es[i]? = some y) (hel : es.length ≤ 48) (w : World) (h : Nr w nv xs) (hE : Lz ED M w ev es) : Calls Tryz.prog 52 #[.agg (gvc a nv ev), .int .i64 (i : Nat)] w fun r w' => r = .returned (.int .i64 (eflawN (xs.map NV.n) (es.take i) y)) ∧ Below w.heap.size w w' := by
 have g0 := (Gr.refl w).alloc (.cells (gvc a nv ev) 25)
 have HB := hid (heap_new' w (.cells (gvc a nv ev) 25))
 have HN := hid (h.below g0.below)
 have HE := hid (hE.below g0.below)
 obtain ⟨W0, hW0⟩ : ∃ W, W = w.alloc (.cells (gvc a nv ev) 25) := ⟨_, rfl⟩
 have HW : Hid (w.alloc (.cells #[.int .i64 a, nv, ev] 25) = W0) := hW0.symm
 rw [← hW0] at g0 HB HN HE
 have B0 := hid g0.below
 obtain ⟨qn, cn, rfl⟩ := h.nodes.form
 obtain ⟨qe, ce, rfl⟩ := hE.form
 have HP := hid h.pok
 obtain ⟨ns, hns⟩ : ∃ ns, ns = xs.map NV.n := ⟨_, rfl⟩
 rw [← hns] at HP ⊢
 have HNS := hid hns
 have hil := (List.getElem?_eq_some_iff.1 hi).1
 have HY := hid hi
 generalize hxl : xs.length = nl at *
 generalize hes : es.length = el at *
 have HXL := hid hxl
 have HES := hid hes
 have hiz : (i : Int) < (el : Int) := by omega
 have hi0 : (0 : Int) ≤ (i : Int) := by omega
 obtain ⟨b1, o1, q1, ev1, zz1, x0, x1, x2, x3, x4⟩ := ls_atD (HE.out.ls hi) hi
 simp only [Value.slice.injEq] at ev1
 obtain ⟨rfl, -, rfl⟩ := ev1
 clear h hE hW0 g0 hns hxl hes hi
 have c0 := (tk_store HB.out).1
 have l0 := tk_lt HB.out
 obtain ⟨yb, hyb⟩ : ∃ b, b = W0.heap.size := ⟨_, rfl⟩
 obtain ⟨W5, hW5⟩ : ∃ W, W = W0.alloc (.cells (ecells y) 94) := ⟨_, rfl⟩
 have P5 : Hid (Below W0.heap.size W0 W5 ∧ W5.heap[yb]? = some (.cells (ecells y) 94 (0, 0)) ∧ W5.heap[w.heap.size]? = some (.cells (gvc a (.slice qn nl cn) (.slice (some ⟨b1, o1, none⟩) el ce)) 25 (0, 0))) := by
  have g5 := ((Gr.refl W0).alloc (.cells (ecells y) 94)).below
  rw [hW5, hyb]
  exact ⟨g5, heap_new' _ _, (g5.block _ (tk_lt HB.out)).trans HB.out⟩
 have HW5 : Hid (W0.alloc (.cells #[.int .i64 y.src, .int .i64 y.out, .int .i64 y.dst, .int .i64 y.inn, .bool y.keyed] 94) = W5 ∧ W0.heap.size = yb) := ⟨hW5.symm, hyb.symm⟩
 clear hW5 hyb
 go_enter Tryz.func52, Tryz.ntmps52
 go_upto_region 1 with fail
 rw [HW.out]
 clear HW
 go_upto_region 2 with fail
 rw [HW5.out.1, HW5.out.2]
 clear HW5 x0 x1 x2 x3 x4 zz1 c0 l0
 have cy := (tk_store P5.out.2.1).1
 have ly := tk_lt P5.out.2.1
 have cg := (tk_store P5.out.2.2).1
 have lg := tk_lt P5.out.2.2
 have ho := rout_any (a := a) (qe := some ⟨b1, o1, none⟩) (me := el) (ce := ce) y.src y.out W5 (HN.out.below P5.out.1)
 rw [← HNS.out] at ho
 by_cases h1 : outN ns y.src y.out < 0
 ·have HR : Hid (eflawN ns (es.take i) y = 25) := if_pos (Or.inl ((outN_neg HP.out).1 h1))
  generalize outN ns y.src y.out = z1 at ho h1
  go_wp2_with fail
  refine ho.mono ?_
  rintro r w6 ⟨rfl, g6⟩
  have B6 := hid (B0.out.trans ((P5.out.1.trans (g6.below.mono P5.out.1.size)).mono B0.out.size))
  clear g6 ho
  go_wp2_with fail
  go_ret
  exact ⟨by rw [HR.out]; rfl, B6.out⟩
 ·have HO : Hid (hasON ns y.src y.out = true) := by
    show _ = _
    cases e : hasON ns y.src y.out with
    | true => rfl
    | false => exact absurd ((outN_neg HP.out).2 e) h1
  generalize outN ns y.src y.out = z1 at ho h1
  go_wp2_with fail
  refine ho.mono ?_
  rintro r w6 ⟨rfl, g6⟩
  have P6 : Hid (Below W0.heap.size W0 w6 ∧ w6.heap[yb]? = some (.cells (ecells y) 94 (0, 0)) ∧ w6.heap[w.heap.size]? = some (.cells (gvc a (.slice qn nl cn) (.slice (some ⟨b1, o1, none⟩) el ce)) 25 (0, 0))) := ⟨P5.out.1.trans (g6.below.mono P5.out.1.size), (g6.below.block _ (tk_lt P5.out.2.1)).trans P5.out.2.1, (g6.below.block _ (tk_lt P5.out.2.2)).trans P5.out.2.2⟩
  clear g6 ho cy ly cg lg
  have cy := (tk_store P6.out.2.1).1
  have ly := tk_lt P6.out.2.1
  have cg := (tk_store P6.out.2.2).1
  have lg := tk_lt P6.out.2.2
  have hn := rin_any (a := a) (qe := some ⟨b1, o1, none⟩) (me := el) (ce := ce) y.dst y.inn w6 (HN.out.below P6.out.1)
  rw [← HNS.out] at hn
  by_cases h2 : inN ns y.dst y.inn < 0
  ·have HR : Hid (eflawN ns (es.take i) y = 25) := if_pos (Or.inr (Or.inl (inN_neg.1 h2)))
   generalize inN ns y.dst y.inn = z2 at hn h2
   go_wp2_with fail
   refine hn.mono ?_
   rintro r w7 ⟨rfl, g7⟩
   have B7 := hid (B0.out.trans ((P6.out.1.trans (g7.below.mono P6.out.1.size)).mono B0.out.size))
   clear g7 hn
   go_wp2_with fail
   go_ret
   exact ⟨by rw [HR.out]; rfl, B7.out⟩
  ·have HI2 : Hid (hasIN ns y.dst y.inn = true) := by
     show _ = _
     cases e : hasIN ns y.dst y.inn with
     | true => rfl
     | false => exact absurd (inN_neg.2 e) h2
   generalize inN ns y.dst y.inn = z2 at hn h2
   go_wp2_with fail
   refine hn.mono ?_
   rintro r w7 ⟨rfl, g7⟩
   have P7 : Hid (Below W0.heap.size W0 w7 ∧ w7.heap[yb]? = some (.cells (ecells y) 94 (0, 0)) ∧ w7.heap[w.heap.size]? = some (.cells (gvc a (.slice qn nl cn) (.slice (some ⟨b1, o1, none⟩) el ce)) 25 (0, 0))) := ⟨P6.out.1.trans (g7.below.mono P6.out.1.size), (g7.below.block _ (tk_lt P6.out.2.1)).trans P6.out.2.1, (g7.below.block _ (tk_lt P6.out.2.2)).trans P6.out.2.2⟩
   clear g7 hn cy ly cg lg
   go_wp2_with fail
   clear h1 h2
   go_loopw [6] (fun s6 wr => ∃ p : Nat, p ≤ i ∧ s6 = .int .i64 (p : Nat) ∧ Hid ((Below W0.heap.size W0 wr ∧ wr.heap[yb]? = some (.cells (ecells y) 94 (0, 0)) ∧ wr.heap[w.heap.size]? = some (.cells (gvc a (.slice qn nl cn) (.slice (some ⟨b1, o1, none⟩) el ce)) 25 (0, 0))) ∧ ∀ m c, m < p → es[m]? = some c → way c y = false)) (fun s6 _ => i - (RowKit.intOf s6).toNat)
   case atStart => exact ⟨0, Nat.zero_le _, rfl, P7.out, fun m c hm => by omega⟩
   case round =>
    clear P7
    obtain ⟨p, hp, rfl, HI⟩ := hrel
    have cy := (tk_store HI.out.1.2.1).1
    have ly := tk_lt HI.out.1.2.1
    have cg := (tk_store HI.out.1.2.2).1
    have lg := tk_lt HI.out.1.2.2
    by_cases hpl : p < i
    ·have hplz : (p : Int) < (i : Int) := by omega
     have hp0 : (0 : Int) ≤ (p : Int) := by omega
     have hpe : (p : Int) < (el : Int) := by omega
     obtain ⟨z, hz⟩ : ∃ z, es[p]? = some z := ⟨es[p]'(by have := HES.out; omega), by simp⟩
     obtain ⟨b2, o2, q2, ev2, zz2, x0, x1, x2, x3, x4⟩ := ls_atD ((HE.out.below HI.out.1.1).ls hz) hz
     simp only [Value.slice.injEq, Option.some.injEq, Addr.mk.injEq] at ev2
     obtain ⟨⟨rfl, rfl, -⟩, -, rfl⟩ := ev2
     have HZ := hid hz
     clear hz
     obtain ⟨zb, hzb⟩ : ∃ b, b = wr.heap.size := ⟨_, rfl⟩
     obtain ⟨W8, hW8⟩ : ∃ W, W = wr.alloc (.cells (ecells z) 94) := ⟨_, rfl⟩
     have P8 : Hid ((Below W0.heap.size W0 W8 ∧ W8.heap[yb]? = some (.cells (ecells y) 94 (0, 0)) ∧ W8.heap[w.heap.size]? = some (.cells (gvc a (.slice qn nl cn) (.slice (some ⟨b1, o1, none⟩) el ce)) 25 (0, 0))) ∧ W8.heap[zb]? = some (.cells (ecells z) 94 (0, 0))) := by
      have g8 := ((Gr.refl wr).alloc (.cells (ecells z) 94)).below
      rw [hW8, hzb]
      exact ⟨⟨HI.out.1.1.trans (g8.mono HI.out.1.1.size), (g8.block _ (tk_lt HI.out.1.2.1)).trans HI.out.1.2.1, (g8.block _ (tk_lt HI.out.1.2.2)).trans HI.out.1.2.2⟩, heap_new' _ _⟩
     have HW8 : Hid (wr.alloc (.cells #[.int .i64 z.src, .int .i64 z.out, .int .i64 z.dst, .int .i64 z.inn, .bool z.keyed] 94) = W8 ∧ wr.heap.size = zb) := ⟨hW8.symm, hzb.symm⟩
     clear hW8 hzb
     go_upto_region 8 with fail
     rw [HW8.out.1, HW8.out.2]
     clear HW8 x0 x1 x2 x3 x4 zz2 cy ly cg lg
     have cz := (tk_store P8.out.2).1
     have lz := tk_lt P8.out.2
     have cy := (tk_store P8.out.1.2.1).1
     have ly := tk_lt P8.out.1.2.1
     by_cases h0 : z.src = y.src
     ·have hb0 : (z.src == y.src) = true := by simp [h0]
      by_cases h1 : z.out = y.out
      ·have hb1 : (z.out == y.out) = true := by simp [h1]
       by_cases h2 : z.dst = y.dst
       ·have hb2 : (z.dst == y.dst) = true := by simp [h2]
        by_cases h3 : z.inn = y.inn
        ·have hb3 : (z.inn == y.inn) = true := by simp [h3]
         have HR : Hid (eflawN ns (es.take i) y = 25) := if_pos (Or.inr (Or.inr (anyw_true hpl HZ.out ((way_iff z y).2 ⟨h0, h1, h2, h3⟩))))
         clear h0 h1 h2 h3
         go_wp2_with fail
         go_ret
         exact ⟨by rw [HR.out]; rfl, B0.out.trans (P8.out.1.1.mono B0.out.size)⟩
        ·have hb3 : (z.inn == y.inn) = false := by simp [h3]
         have HWY : Hid (way z y = false) := by
          show _ = _
          rw [Bool.eq_false_iff]
          intro e
          exact h3 ((way_iff z y).1 e).2.2.2
         clear h0 h1 h2 h3
         go_wp2_with fail
         go_roundw
         case rel => exact ⟨p + 1, by omega, by go_num, P8.out.1, fun m c hm hc => by
          by_cases e : m = p
          ·subst e
           rw [HZ.out] at hc
           cases hc
           exact HWY.out
          ·exact HI.out.2 m c (by omega) hc⟩
         case measure => simp [RowKit.intOf]; omega
       ·have hb2 : (z.dst == y.dst) = false := by simp [h2]
        have HWY : Hid (way z y = false) := by
         show _ = _
         rw [Bool.eq_false_iff]
         intro e
         exact h2 ((way_iff z y).1 e).2.2.1
        clear h0 h1 h2
        go_wp2_with fail
        go_roundw
        case rel => exact ⟨p + 1, by omega, by go_num, P8.out.1, fun m c hm hc => by
         by_cases e : m = p
         ·subst e
          rw [HZ.out] at hc
          cases hc
          exact HWY.out
         ·exact HI.out.2 m c (by omega) hc⟩
        case measure => simp [RowKit.intOf]; omega
      ·have hb1 : (z.out == y.out) = false := by simp [h1]
       have HWY : Hid (way z y = false) := by
        show _ = _
        rw [Bool.eq_false_iff]
        intro e
        exact h1 ((way_iff z y).1 e).2.1
       clear h0 h1
       go_wp2_with fail
       go_roundw
       case rel => exact ⟨p + 1, by omega, by go_num, P8.out.1, fun m c hm hc => by
        by_cases e : m = p
        ·subst e
         rw [HZ.out] at hc
         cases hc
         exact HWY.out
        ·exact HI.out.2 m c (by omega) hc⟩
       case measure => simp [RowKit.intOf]; omega
     ·have hb0 : (z.src == y.src) = false := by simp [h0]
      have HWY : Hid (way z y = false) := by
       show _ = _
       rw [Bool.eq_false_iff]
       intro e
       exact h0 ((way_iff z y).1 e).1
      clear h0
      go_wp2_with fail
      go_roundw
      case rel => exact ⟨p + 1, by omega, by go_num, P8.out.1, fun m c hm hc => by
       by_cases e : m = p
       ·subst e
        rw [HZ.out] at hc
        cases hc
        exact HWY.out
       ·exact HI.out.2 m c (by omega) hc⟩
      case measure => simp [RowKit.intOf]; omega
    ·have hplz : ¬ (p : Int) < (i : Int) := by omega
     obtain rfl : p = i := by omega
     have HA := hid (anyw_false HI.out.2)
     obtain ⟨n, hn, hd0, hdl, -, -⟩ := has_in HI2.out
     obtain ⟨j, hj⟩ : ∃ j : Nat, y.dst = (j : Int) := ⟨y.dst.toNat, by omega⟩
     rw [hj, Int.toNat_natCast] at hn hdl
     rw [HNS.out] at hn
     obtain ⟨v, hv, hvn⟩ := nd_get hn
     have hjl : (j : Int) < (nl : Int) := by
      have := (List.getElem?_eq_some_iff.1 hv).1
      have := HXL.out
      omega
     have HR : Hid (eflawN ns (es.take p) y = if v.n.kind = 6 ∧ y.keyed = false then 26 else 0) := by
      show _ = _
      unfold eflawN
      rw [if_neg (by rw [HO.out, HI2.out, HA.out]; simp)]
      unfold natN?
      rw [if_pos hd0, hj, Int.toNat_natCast, HNS.out, hn, hvn]
     obtain ⟨b4, o4, c4, e4, z4, x0, -⟩ := ls_atV ((HN.out.nodes.below HI.out.1.1).ls hv) hv
     simp only [Value.slice.injEq] at e4
     obtain ⟨rfl, -, rfl⟩ := e4
     have hj0 : (0 : Int) ≤ (j : Int) := by omega
     obtain ⟨ds, dt, dd, di, dk⟩ := y
     simp only at hj
     subst hj
     clear hn hv hvn hdl hd0
     by_cases k6 : v.n.kind = 6
     ·cases dk with
      | true =>
       go_wp2_with fail
       go_ret
       exact ⟨by rw [HR.out]; simp, B0.out.trans (HI.out.1.1.mono B0.out.size)⟩
      | false =>
       go_wp2_with fail
       go_ret
       exact ⟨by rw [HR.out]; simp [k6], B0.out.trans (HI.out.1.1.mono B0.out.size)⟩
     ·have kb : (v.n.kind == 6) = false := by simp [k6]
      go_wp2_with fail
      go_ret
      exact ⟨by rw [HR.out]; simp [k6], B0.out.trans (HI.out.1.1.mono B0.out.size)⟩
set_option maxRecDepth 100000 in
set_option maxHeartbeats 8000000 in
theorem rcheck_any {M : Nat} {nv ev : Value} {a : Int} {xs : List NV} {es : List Edg} (w : World) (hG : GR M w nv ev xs es) (hM : M ≤ w.heap.size) : Calls Tryz.prog 31 #[.agg (gvc a nv ev)] w fun r w' => ∃ e t : Int, r = .returned (.tuple #[.int .i64 e, .int .i64 t]) ∧ Fl (gof a xs es) e t ∧ Below w.heap.size w w' := by
 have hmx : Tryz.prog.follows .mixedOrders = true := by kernel_rfl
 obtain ⟨pn, cn, hnv⟩ := hG.nodes.form
 obtain ⟨pe, ce, hev⟩ := hG.edges.form
 obtain ⟨nl, hnl⟩ : ∃ n, n = xs.length := ⟨_, rfl⟩
 obtain ⟨el, hel⟩ : ∃ n, n = es.length := ⟨_, rfl⟩
 rw [← hnl] at hnv
 rw [← hel] at hev
 subst hnv
 subst hev
 have HNL : Hid (nl = (gof a xs es).nodes.length ∧ nl = xs.length) := ⟨by simp [hnl], hnl⟩
 have HEL : Hid (el = (gof a xs es).edges.length ∧ el = es.length) := ⟨by simp [hel], hel⟩
 have g0 := (Gr.refl w).alloc (.cells (gvc a (.slice pn nl cn) (.slice pe el ce)) 25)
 have HG := hid ((hG.up hM).later (Nat.le_refl _) g0.below)
 have HB := hid (heap_new' w (.cells (gvc a (.slice pn nl cn) (.slice pe el ce)) 25))
 have B0 := hid g0.below
 obtain ⟨W0, hW0⟩ : ∃ W, W = w.alloc (.cells (gvc a (.slice pn nl cn) (.slice pe el ce)) 25) := ⟨_, rfl⟩
 have HW : Hid (w.alloc (.cells #[.int .i64 a, .slice pn nl cn, .slice pe el ce] 25) = W0) := hW0.symm
 rw [← hW0] at HG HB B0
 have c0 := (tk_store HB.out).1
 have l0 := tk_lt HB.out
 clear hG g0 hW0 hnl hel hM
 by_cases ha : a < 1
 ·have HF : Hid (Fl (gof a xs es) 10 0) := .arity (Or.inl ha)
  go_enter Tryz.func31, Tryz.ntmps31
  go_upto_region 1 with fail
  rw [HW.out]
  go_wp2_with fail
  go_ret2
  exact ⟨10, 0, rfl, HF.out, B0.out⟩
 ·by_cases ha3 : 3 < a
  ·have HF : Hid (Fl (gof a xs es) 10 0) := .arity (Or.inr ha3)
   go_enter Tryz.func31, Tryz.ntmps31
   go_upto_region 1 with fail
   rw [HW.out]
   go_wp2_with fail
   go_ret2
   exact ⟨10, 0, rfl, HF.out, B0.out⟩
  ·by_cases hn : 24 < nl
   ·have hnz : (24 : Int) < (nl : Int) := by omega
    have HF : Hid (Fl (gof a xs es) 2 0) := .long (show 1 ≤ a by omega) (show a ≤ 3 by omega) (Or.inl (by rw [← HNL.out.1]; exact hn))
    clear hn
    go_enter Tryz.func31, Tryz.ntmps31
    go_upto_region 1 with fail
    rw [HW.out]
    go_wp2_with fail
    go_ret2
    exact ⟨2, 0, rfl, HF.out, B0.out⟩
   ·have hnz : ¬ (24 : Int) < (nl : Int) := by omega
    by_cases he : 48 < el
    ·have hez : (48 : Int) < (el : Int) := by omega
     have HF : Hid (Fl (gof a xs es) 2 0) := .long (show 1 ≤ a by omega) (show a ≤ 3 by omega) (Or.inr (by rw [← HEL.out.1]; exact he))
     clear hn he
     go_enter Tryz.func31, Tryz.ntmps31
     go_upto_region 1 with fail
     rw [HW.out]
     go_wp2_with fail
     go_ret2
     exact ⟨2, 0, rfl, HF.out, B0.out⟩
    ·have hez : ¬ (48 : Int) < (el : Int) := by omega
     have HA : Hid (1 ≤ (gof a xs es).arity ∧ (gof a xs es).arity ≤ 3 ∧ (gof a xs es).nodes.length ≤ 24 ∧ (gof a xs es).edges.length ≤ 48) := ⟨show 1 ≤ a by omega, show a ≤ 3 by omega, by rw [← HNL.out.1]; omega, by rw [← HEL.out.1]; omega⟩
     have h24 : nl ≤ 24 := by omega
     have h48 : el ≤ 48 := by omega
     have HAA : Hid (1 ≤ a ∧ a ≤ 3) := ⟨by omega, by omega⟩
     clear hn he
     go_enter Tryz.func31, Tryz.ntmps31
     go_upto_region 1 with fail
     rw [HW.out]
     clear HW
     go_wp2_with fail
     clear hnz hez ha ha3
     go_loopw [4] (fun s4 wr => ∃ j : Nat, j ≤ nl ∧ s4 = .int .i64 (j : Nat) ∧ Hid (Below W0.heap.size W0 wr ∧ NG (gof a xs es) j)) (fun s4 _ => nl - (RowKit.intOf s4).toNat)
     case atStart => exact ⟨0, Nat.zero_le _, rfl, Below.refl _ _, fun _ _ h => absurd h (Nat.not_lt_zero _)⟩
     case round =>
      clear c0 l0
      obtain ⟨j, hj, rfl, HI⟩ := hrel
      have hb0 := (HI.out.1.block _ (tk_lt HB.out)).trans HB.out
      have c1 := (tk_store hb0).1
      have l1 := tk_lt hb0
      have HB1 := hid hb0
      clear hb0
      by_cases hlt : j < nl
      ·have hltz : (j : Int) < (nl : Int) := by omega
       have hj0 : (0 : Int) ≤ (j : Int) := by omega
       obtain ⟨y, hy⟩ : ∃ y, xs[j]? = some y := ⟨xs[j]'(by have := HNL.out.2; omega), by simp⟩
       have hym := List.mem_of_getElem? hy
       have HYN : Hid ((gof a xs es).nodes[j]? = some y.n) := by show _ = _; simp [hy]
       have HY := hid hy
       obtain ⟨b1, o1, q1, ev1, -⟩ := ls_atV ((HG.out.nodes.below HI.out.1).ls hy) hy
       simp only [Value.slice.injEq] at ev1
       obtain ⟨rfl, -, rfl⟩ := ev1
       have hcall : ∀ W, Below wr.heap.size wr W → Calls Tryz.prog 51 #[.agg y.cells, .int .i64 a] W fun r w' => r = .returned (.int .i64 (nflaw a y.n)) ∧ Below W.heap.size W w' := fun W hb => rnode_any y a HAA.out W ((HG.out.each y hym).below (HI.out.1.trans (hb.mono HI.out.1.size)))
       clear hy hym
       go_upto_region 8 with fail
       have hS0 : Below wr.heap.size wr wr.drew := (Gr.refl wr).drew.below
       refine wp_regionD (S := fun W => Below wr.heap.size wr W) (D := []) hmx ?_
       refine' wpAnyD_take (i := 0) (oi := ⟨some 33, .fieldAddr 25 (.tmp 1) 1, 0, "ref.go:135", #[], none⟩) (v := _) rfl (by kernel_rfl) (by kernel_rfl) (by kernel_rfl) (fun _ _ _ h => h) (by kernel_rfl) (Or.inl ⟨by rfl, ?hy1⟩) hS0 ?rest1
       case hy1 => (intro W hSw; go_simp; try (with_reducible rfl))
       try simp only [Act.put, List.setIfInBounds_toArray, List.set_cons_zero, List.set_cons_succ]
       refine' wpAnyD_take (i := 1) (oi := ⟨some 34, .load 22 (.tmp 33), 22, "ref.go:135", #[⟨0, .data⟩], none⟩) (v := _) rfl (by kernel_rfl) (by kernel_rfl) (by kernel_rfl) (fun _ _ _ h => h) (by kernel_rfl) (Or.inl ⟨by rfl, ?hy2⟩) hS0 ?rest2
       case hy2 => (intro W hSw; have hb := (hSw.block _ (tk_lt HB1.out)).trans HB1.out; have hc := (tk_store hb).1; have hl := tk_lt hb; go_simp; try (with_reducible rfl))
       try simp only [Act.put, List.setIfInBounds_toArray, List.set_cons_zero, List.set_cons_succ]
       refine' wpAnyD_take (i := 2) (oi := ⟨some 35, .move (.tmp 4), 3, "ref.go:135", #[], none⟩) (v := _) rfl (by kernel_rfl) (by kernel_rfl) (by kernel_rfl) (fun _ _ _ h => h) (by kernel_rfl) (Or.inl ⟨by rfl, ?hy3⟩) hS0 ?rest3
       case hy3 => (intro W hSw; go_simp; try (with_reducible rfl))
       try simp only [Act.put, List.setIfInBounds_toArray, List.set_cons_zero, List.set_cons_succ]
       refine' wpAnyD_take (i := 3) (oi := ⟨some 36, .indexAddr 22 (.tmp 34) (.tmp 35), 0, "ref.go:135", #[⟨1, .data⟩, ⟨2, .data⟩], none⟩) (v := _) rfl (by kernel_rfl) (by kernel_rfl) (by kernel_rfl) (fun _ _ _ h => h) (by kernel_rfl) (Or.inl ⟨by rfl, ?hy4⟩) hS0 ?rest4
       case hy4 => (intro W hSw; go_simp; try (with_reducible rfl))
       try simp only [Act.put, List.setIfInBounds_toArray, List.set_cons_zero, List.set_cons_succ]
       refine' wpAnyD_take (i := 4) (oi := ⟨some 37, .load 89 (.tmp 36), 89, "ref.go:135", #[⟨3, .data⟩], none⟩) (v := _) rfl (by kernel_rfl) (by kernel_rfl) (by kernel_rfl) (fun _ _ _ h => h) (by kernel_rfl) (Or.inl ⟨by rfl, ?hy5⟩) hS0 ?rest5
       case hy5 => (intro W hSw; obtain ⟨b9, o9, q9, e9, z9, x0, x1, x2, x3, x4, x5, x6, x7, x8, x9⟩ := ls_atV ((HG.out.nodes.below (HI.out.1.trans (hSw.mono HI.out.1.size))).ls HY.out) HY.out; simp only [Value.slice.injEq, Option.some.injEq, Addr.mk.injEq] at e9; obtain ⟨⟨rfl, rfl, -⟩, -, rfl⟩ := e9; go_simp; try (with_reducible rfl))
       try simp only [Act.put, List.setIfInBounds_toArray, List.set_cons_zero, List.set_cons_succ]
       refine' wpAnyD_take (i := 5) (oi := ⟨some 38, .fieldAddr 25 (.tmp 1) 0, 0, "ref.go:135", #[], none⟩) (v := _) rfl (by kernel_rfl) (by kernel_rfl) (by kernel_rfl) (fun _ _ _ h => h) (by kernel_rfl) (Or.inl ⟨by rfl, ?hy6⟩) hS0 ?rest6
       case hy6 => (intro W hSw; go_simp; try (with_reducible rfl))
       try simp only [Act.put, List.setIfInBounds_toArray, List.set_cons_zero, List.set_cons_succ]
       refine' wpAnyD_take (i := 6) (oi := ⟨some 39, .load 3 (.tmp 38), 3, "ref.go:135", #[⟨5, .data⟩], none⟩) (v := _) rfl (by kernel_rfl) (by kernel_rfl) (by kernel_rfl) (fun _ _ _ h => h) (by kernel_rfl) (Or.inl ⟨by rfl, ?hy7⟩) hS0 ?rest7
       case hy7 => (intro W hSw; have hb := (hSw.block _ (tk_lt HB1.out)).trans HB1.out; have hc := (tk_store hb).1; have hl := tk_lt hb; go_simp; try (with_reducible rfl))
       try simp only [Act.put, List.setIfInBounds_toArray, List.set_cons_zero, List.set_cons_succ]
       refine wpAnyD_one (i := 7) (o := ⟨some 40, .call ⟨.value (.func 51), #[.tmp 37, .tmp 39], #[89, 3]⟩, 3, "ref.go:135", #[⟨4, .data⟩, ⟨6, .data⟩], none⟩) (by kernel_rfl) rfl (fun K hK => ?_)
       go_simp
       refine (hcall _ hS0).mono ?_
       rintro r w6 ⟨rfl, b6⟩
       have hS6 : Below wr.heap.size wr w6 := hS0.trans (b6.mono hS0.size)
       clear b6
       go_wp2_with fail
       refine hK.out _ _ (fun hD => hS6) ?_
       clear hK K
       try simp only [Act.put, List.setIfInBounds_toArray, List.set_cons_zero, List.set_cons_succ]
       refine' wpAnyD_take (i := 8) (oi := ⟨some 5, .assign (.tmp 40), 3, "ref.go:135", #[⟨7, .data⟩, ⟨7, .chain⟩, ⟨0, .phase⟩, ⟨1, .phase⟩, ⟨2, .phase⟩, ⟨3, .phase⟩, ⟨4, .phase⟩, ⟨5, .phase⟩, ⟨6, .phase⟩, ⟨7, .phase⟩], none⟩) (v := _) rfl (by kernel_rfl) (by kernel_rfl) (by kernel_rfl) (fun _ _ _ h => h) (by kernel_rfl) (Or.inl ⟨by rfl, ?hy9⟩) hS6 ?rest9
       case hy9 => (intro W hSw; go_simp; try (with_reducible rfl))
       try simp only [Act.put, List.setIfInBounds_toArray, List.set_cons_zero, List.set_cons_succ]
       refine wpAnyD_done (by kernel_rfl) ?_ _
       have B6 := hid (HI.out.1.trans (hS6.mono HI.out.1.size))
       clear hS0 hS6 hcall c1 l1
       by_cases hz : nflaw a y.n = 0
       ·have HZ := hid hz
        rw [hz]
        clear hz
        go_wp2_with fail
        go_roundw
        case rel => exact ⟨j + 1, by omega, by go_num, B6.out, ng_step HI.out.2 HYN.out HZ.out⟩
        case measure => simp [RowKit.intOf]; omega
       ·have HF : Hid (Fl (gof a xs es) (nflaw a y.n) j) := .node j y.n HA.out.1 HA.out.2.1 HA.out.2.2.1 HA.out.2.2.2 HYN.out HI.out.2 hz
        generalize nflaw a y.n = zz at HF hz ⊢
        have hb : (zz == 0) = false := by simp [hz]
        have hb' : (zz != 0) = true := by simp [hz]
        go_wp2_with fail
        go_ret2
        exact ⟨zz, j, rfl, HF.out, B0.out.trans (B6.out.mono B0.out.size)⟩
      ·have hltz : ¬ (j : Int) < (nl : Int) := by omega
       have HNG : Hid (NG (gof a xs es) (gof a xs es).nodes.length) := by
        have h := HI.out.2
        rw [show j = nl by omega, HNL.out.1] at h
        exact h
       have HNR : Hid (Pok (xs.map NV.n)) := fun n hn => by
        obtain ⟨q, hq, rfl⟩ := List.mem_iff_getElem.1 hn
        exact nflaw_ports (HNG.out q _ hq (List.getElem?_eq_getElem hq))
       go_wp2_with fail
       have BI := hid HI.out.1
       clear c1 l1 HI hltz hlt HB1
       go_loopw [6] (fun s6 wr => ∃ j : Nat, j ≤ el ∧ s6 = .int .i64 (j : Nat) ∧ Hid (Below W0.heap.size W0 wr ∧ EG (gof a xs es) j)) (fun s6 _ => el - (RowKit.intOf s6).toNat)
       case atStart => exact ⟨0, Nat.zero_le _, rfl, BI.out, fun _ _ h => absurd h (Nat.not_lt_zero _)⟩
       case round =>
        obtain ⟨i, hi, rfl, HI⟩ := hrel
        clear BI
        have hb0 := (HI.out.1.block _ (tk_lt HB.out)).trans HB.out
        have c1 := (tk_store hb0).1
        have l1 := tk_lt hb0
        clear hb0
        by_cases hlt : i < el
        ·have hltz : (i : Int) < (el : Int) := by omega
         obtain ⟨y, hy⟩ : ∃ y, es[i]? = some y := ⟨es[i]'(by have := HEL.out.2; omega), by simp⟩
         have HYN : Hid ((gof a xs es).edges[i]? = some y) := hy
         have hcall := redge_any (a := a) (nv := .slice pn nl cn) (ev := .slice pe el ce) i y hy (by have := HEL.out.2; omega) wr ⟨(HG.out.nodes.below HI.out.1).up HI.out.1.size, by have := HNL.out.2; omega, HNR.out⟩ (HG.out.edges.below HI.out.1)
         generalize hzz : eflawN (xs.map NV.n) (es.take i) y = zz at hcall
         have HZZ : Hid (eflawN (gof a xs es).nodes ((gof a xs es).edges.take i) y = zz) := hzz
         clear hzz hy
         by_cases hz : zz = 0
         ·subst hz
          go_wp2_with fail
          refine hcall.mono ?_
          rintro r w6 ⟨rfl, b6⟩
          have B6 := hid (HI.out.1.trans (b6.mono HI.out.1.size))
          clear b6 hcall c1 l1
          go_wp2_with fail
          go_roundw
          case rel => exact ⟨i + 1, by omega, by go_num, B6.out, eg_step HI.out.2 HYN.out HZZ.out⟩
          case measure => simp [RowKit.intOf]; omega
         ·have hb : (zz == 0) = false := by simp [hz]
          have hb' : (zz != 0) = true := by simp [hz]
          have HF : Hid (Fl (gof a xs es) zz (nl + i : Nat)) := by
           have h := Fl.edge (g := gof a xs es) i y HA.out.1 HA.out.2.1 HA.out.2.2.1 HA.out.2.2.2 HNG.out HYN.out HI.out.2 (by rw [HZZ.out]; exact hz)
           rw [HZZ.out, ← HNL.out.1] at h
           exact h
          go_wp2_with fail
          refine hcall.mono ?_
          rintro r w6 ⟨rfl, b6⟩
          have B6 := hid (HI.out.1.trans (b6.mono HI.out.1.size))
          clear b6 hcall c1 l1
          have hb9 := (B6.out.block _ (tk_lt HB.out)).trans HB.out
          have c9 := (tk_store hb9).1
          have l9 := tk_lt hb9
          have hnn : (nl : Int) ≤ 24 := by omega
          have hii : (i : Int) ≤ 48 := by omega
          clear hb9
          go_upto_region 16 with fail
          go_quiet (fail)
          go_wp2_with fail
          go_ret2
          exact ⟨zz, (nl + i : Nat), by push_cast; rfl, HF.out, B0.out.trans ((B6.out.trans (((Gr.refl _).drewN _).below.mono B6.out.size)).mono B0.out.size)⟩
        ·have hltz : ¬ (i : Int) < (el : Int) := by omega
         have HF : Hid (Fl (gof a xs es) 0 0) := .none HA.out.1 HA.out.2.1 HA.out.2.2.1 HA.out.2.2.2 HNG.out (by
          have h := HI.out.2
          rw [show i = el by omega, HEL.out.1] at h
          exact h)
         go_wp2_with fail
         go_ret2
         exact ⟨0, 0, rfl, HF.out, B0.out.trans (HI.out.1.mono B0.out.size)⟩
end Go.Proofs.YtdnnfgabdkkdjaaGreat.Df
