import Derived.Test.YtijbmchgajhkeaaSuTell
namespace Go.Proofs.Ytijbmchgajhkeaa
open Go.RowKit Go.Sort Go.Maps Go.Shelf
attribute [local go_sem ↓] Go.wp_at_zero Go.wp_at_succ

theorem run_eqR (x y : Int) (w : World) : Sem.run Try.prog (Op.equalIn 10000 37 (.agg #[.int .u64 x, .int .u64 y]) (.agg #[.int .u64 x, .int .u64 y])) w = .ok true w := by
  have u3 := Try.underlying30
  have a3 := Try.isAgg30
  have z3 := Try.sizeOf30
  have hS : Try.prog.underlying 37 = some (.struct (Try.prog.fieldsOf 37)) := by kernel_rfl
  have hp : Try.prog.stoodInHeld 37 = false := by kernel_rfl
  rw [show (10000 : Nat) = 9999 + 1 from rfl, run_equalIn_agg w 9999 37 _ _ hS hp]
  simp only [Program.fieldsOf, Try.underlying37]
  go_simp
set_option maxHeartbeats 2000000 in
theorem times_eq {a b : Value} {l : List Tm} (w : World) (ha : Ls ET w a l) (hb : Ls ET w b l) (hl : l.length ≤ 5864062014806) : Calls Try.prog 8 #[a, b] w fun e w' => e = .returned (.bool true) ∧ Gr w w' := by
  have hmx : Try.prog.follows .mixedOrders = true := by kernel_rfl
  have heq : ∀ (a b c : Int) (W : World), Sem.run Try.prog (Op.equalIn 10000 32 (.agg #[.int .u64 a, .int .u64 b, .int .u64 c]) (.agg #[.int .u64 a, .int .u64 b, .int .u64 c])) W = .ok true W := fun a b c W => by rw [run_eqT]; simp [teq]
  obtain ⟨p1, c1, rfl⟩ := ha.form
  obtain ⟨p2, c2, rfl⟩ := hb.form
  obtain ⟨n, hn⟩ : ∃ n, n = l.length := ⟨_, rfl⟩
  rw [← hn] at ha hb hl ⊢
  have HA := hid ha
  have HB := hid hb
  have HN := hid hn
  clear ha hb hn
  go_enter Try.func8, Try.ntmps8
  go_wp2_with fail
  go_loopw [5, 13] (fun _ s5 wr => ∃ i : Nat, i ≤ n ∧ s5 = .int .i64 (i : Nat) ∧ Hid (Gr w wr)) (fun _ s5 _ => n - (RowKit.intOf s5).toNat)
  case atStart => exact ⟨0, Nat.zero_le _, rfl, Gr.refl _⟩
  case round =>
    obtain ⟨i, hi, rfl, HG⟩ := hrel
    by_cases hlt : i < n
    · have hz : (i : Int) < (n : Int) := by omega
      have hi0 : (0 : Int) ≤ (i : Int) := by omega
      obtain ⟨x, hx⟩ : ∃ x, l[i]? = some x := ⟨l[i]'(by have := HN.out; omega), by simp⟩
      obtain ⟨b1, o1, q1, e1, l1, y0, y1, y2⟩ := (HA.out.below HG.out.below).at3 hx
      obtain ⟨b2, o2, q2, e2, l2, z0, z1, z2⟩ := (HB.out.below HG.out.below).at3 hx
      simp only [Value.slice.injEq] at e1 e2
      obtain ⟨rfl, -, rfl⟩ := e1
      obtain ⟨rfl, -, rfl⟩ := e2
      clear hx
      go_wp2_with fail
      go_quiet (fail)
      go_wp2_with fail
      go_roundw
      case rel => exact ⟨i + 1, hlt, by simp, HG.out.drewN _⟩
      case measure => simp [RowKit.intOf]; omega
    · have hz : ¬ ((i : Int) < (n : Int)) := by omega
      go_wp2
      go_ret
      exact ⟨rfl, HG.out⟩
set_option maxHeartbeats 2000000 in
theorem records_eq {a b : Value} {l : List Rc} (w : World) (ha : Ls ER w a l) (hb : Ls ER w b l) (hl : l.length ≤ 5864062014806) : Calls Try.prog 13 #[a, b] w fun e w' => e = .returned (.bool true) ∧ Gr w w' := by
  have hmx : Try.prog.follows .mixedOrders = true := by kernel_rfl
  have heq := fun a b W => run_eqR a b W
  obtain ⟨p1, c1, rfl⟩ := ha.form
  obtain ⟨p2, c2, rfl⟩ := hb.form
  obtain ⟨n, hn⟩ : ∃ n, n = l.length := ⟨_, rfl⟩
  rw [← hn] at ha hb hl ⊢
  have HA := hid ha
  have HB := hid hb
  have HN := hid hn
  clear ha hb hn
  go_enter Try.func13, Try.ntmps13
  go_wp2_with fail
  go_loopw [5, 13] (fun _ s5 wr => ∃ i : Nat, i ≤ n ∧ s5 = .int .i64 (i : Nat) ∧ Hid (Gr w wr)) (fun _ s5 _ => n - (RowKit.intOf s5).toNat)
  case atStart => exact ⟨0, Nat.zero_le _, rfl, Gr.refl _⟩
  case round =>
    obtain ⟨i, hi, rfl, HG⟩ := hrel
    by_cases hlt : i < n
    · have hz : (i : Int) < (n : Int) := by omega
      have hi0 : (0 : Int) ≤ (i : Int) := by omega
      obtain ⟨x, hx⟩ : ∃ x, l[i]? = some x := ⟨l[i]'(by have := HN.out; omega), by simp⟩
      obtain ⟨b1, o1, q1, e1, l1, y0, y1⟩ := (HA.out.below HG.out.below).atR hx
      obtain ⟨b2, o2, q2, e2, l2, z0, z1⟩ := (HB.out.below HG.out.below).atR hx
      simp only [Value.slice.injEq] at e1 e2
      obtain ⟨rfl, -, rfl⟩ := e1
      obtain ⟨rfl, -, rfl⟩ := e2
      clear hx
      go_wp2_with fail
      go_quiet (fail)
      go_wp2_with fail
      go_roundw
      case rel => exact ⟨i + 1, hlt, by simp, HG.out.drewN _⟩
      case measure => simp [RowKit.intOf]; omega
    · have hz : ¬ ((i : Int) < (n : Int)) := by omega
      go_wp2
      go_ret
      exact ⟨rfl, HG.out⟩
/-- What matched so far. -/
theorem sub_hit {α : Type} {a b : α} {l m : List α} (h : List.Sublist (a :: l) (b :: m)) (e : a = b) : List.Sublist l m := by subst e; exact List.cons_sublist_cons.1 h
theorem sub_miss {α : Type} {a b : α} {l m : List α} (h : List.Sublist (a :: l) (b :: m)) (e : a ≠ b) : List.Sublist (a :: l) m := by
  cases h with
  | cons _ h => exact h
  | cons_cons _ h => exact absurd rfl e
set_option maxHeartbeats 4000000 in
set_option maxRecDepth 100000 in
theorem within_any {a b : Value} {l m : List Tm} (w : World) (ha : Ls ET w a l) (hb : Ls ET w b m) (hl : l.length ≤ 1000000000) (hm : m.length ≤ 1000000000) (hs : List.Sublist l m) : Calls Try.prog 11 #[a, b] w fun e w' => e = .returned (.bool true) ∧ Gr w w' := by
  have hmx : Try.prog.follows .mixedOrders = true := by kernel_rfl
  have heq : ∀ (x y : Tm) (W : World), Sem.run Try.prog (Op.equalIn 10000 32 (tv x) (tv y)) W = .ok (decide (x = y)) W := fun x y W => by
    rw [← teq_dec]
    exact run_eqT _ _ _ _ _ _ W
  obtain ⟨p1, c1, rfl⟩ := ha.form
  obtain ⟨p2, c2, rfl⟩ := hb.form
  obtain ⟨n1, hn1⟩ : ∃ n, n = l.length := ⟨_, rfl⟩
  obtain ⟨n2, hn2⟩ : ∃ n, n = m.length := ⟨_, rfl⟩
  rw [← hn1] at ha hl
  rw [← hn2] at hb hm
  rw [← hn1, ← hn2]
  have HA := hid ha
  have HB := hid hb
  have HN1 := hid hn1
  have HN2 := hid hn2
  have HS := hid hs
  clear ha hb hn1 hn2 hs
  go_enter Try.func11, Try.ntmps11
  go_wp2_with fail
  go_loopw [5, 7, 10] (fun s5 _ s10 wr => ∃ i k : Nat, i ≤ n2 ∧ k ≤ n1 ∧ s10 = .int .i64 (i : Nat) ∧ s5 = .int .i64 (k : Nat) ∧ Hid (Gr w wr ∧ List.Sublist (l.drop k) (m.drop i))) (fun _ _ s10 _ => n2 - (RowKit.intOf s10).toNat)
  case atStart => exact ⟨0, 0, Nat.zero_le _, Nat.zero_le _, rfl, rfl, Gr.refl _, HS.out⟩
  case round =>
    obtain ⟨i, k, hi, hk, rfl, rfl, HI⟩ := hrel
    by_cases hlt : i < n2
    · have hz : (i : Int) < (n2 : Int) := by omega
      have hi0 : (0 : Int) ≤ (i : Int) := by omega
      obtain ⟨x, hx⟩ : ∃ x, m[i]? = some x := ⟨m[i]'(by have := HN2.out; omega), by simp⟩
      obtain ⟨b2, o2, q2, e2, l2, z0, z1, z2⟩ := (HB.out.below HI.out.1.below).at3 hx
      simp only [Value.slice.injEq] at e2
      obtain ⟨rfl, -, rfl⟩ := e2
      have hdm : m.drop i = x :: m.drop (i + 1) := by
        obtain ⟨h1, h2⟩ := List.getElem?_eq_some_iff.1 hx
        rw [List.drop_eq_getElem_cons h1, h2]
      have HDM := hid hdm
      obtain ⟨W2, hW2⟩ : ∃ W2, W2 = wr.alloc (.cells #[.int .u64 x.1.1, .int .u64 x.1.2.1, .int .u64 x.1.2.2] 32) := ⟨_, rfl⟩
      obtain ⟨b3, hb3⟩ : ∃ b3, b3 = wr.heap.size := ⟨_, rfl⟩
      have G2 : Gr wr W2 := by rw [hW2]; exact (Gr.refl _).alloc _
      have hx3 : W2.heap[b3]? = some (.cells #[.int .u64 x.1.1, .int .u64 x.1.2.1, .int .u64 x.1.2.2] 32 (0, 0)) := by rw [hW2, hb3]; exact heap_new' _ _
      obtain ⟨m0, m1, m2, m3⟩ := bx_cell hx3
      have HG2 := hid G2
      clear hx hdm hx3
      by_cases hkl : k < n1
      · have hkz : (k : Int) < (n1 : Int) := by omega
        have hk0 : (0 : Int) ≤ (k : Int) := by omega
        obtain ⟨y, hy⟩ : ∃ y, l[k]? = some y := ⟨l[k]'(by have := HN1.out; omega), by simp⟩
        obtain ⟨b1, o1, q1, e1, l1, y0, y1, y2⟩ := (HA.out.below (HI.out.1.trans G2).below).at3 hy
        simp only [Value.slice.injEq] at e1
        obtain ⟨rfl, -, rfl⟩ := e1
        have hdl : l.drop k = y :: l.drop (k + 1) := by
          obtain ⟨h1, h2⟩ := List.getElem?_eq_some_iff.1 hy
          rw [List.drop_eq_getElem_cons h1, h2]
        have HDL := hid hdl
        clear hy hdl
        have heq2 := heq y x
        by_cases hxy : y = x
        · have HXY := hid hxy
          rw [decide_eq_true hxy] at heq2
          clear hxy heq G2
          go_upto_region 5 with fail
          rw [← hW2, ← hb3]
          clear hW2 hb3
          go_quiet (fail)
          go_wp2_with fail
          go_roundw
          case rel => exact ⟨i + 1, k + 1, by omega, by omega, by simp, by simp, (HI.out.1.trans HG2.out).drewN _, by have h := HI.out.2; rw [HDL.out, HDM.out] at h; exact sub_hit h HXY.out⟩
          case measure => simp [RowKit.intOf]; omega
        · have HXY := hid hxy
          rw [decide_eq_false hxy] at heq2
          clear hxy heq G2
          go_upto_region 5 with fail
          rw [← hW2, ← hb3]
          clear hW2 hb3
          go_quiet (fail)
          go_wp2_with fail
          go_roundw
          case rel => exact ⟨i + 1, k, by omega, by omega, by simp, rfl, (HI.out.1.trans HG2.out).drewN _, by have h := HI.out.2; rw [HDL.out, HDM.out] at h; rw [HDL.out]; exact sub_miss h HXY.out⟩
          case measure => simp [RowKit.intOf]; omega
      · have hkz : ¬ (k : Int) < (n1 : Int) := by omega
        clear G2 heq
        go_upto_region 5 with fail
        rw [← hW2, ← hb3]
        clear hW2 hb3
        go_quiet (fail)
        go_wp2_with fail
        go_roundw
        case rel => exact ⟨i + 1, k, by omega, by omega, by simp, rfl, (HI.out.1.trans HG2.out).drewN _, by rw [List.drop_of_length_le (by have := HN1.out; omega)]; exact List.nil_sublist _⟩
        case measure => simp [RowKit.intOf]; omega
    · have hz : ¬ ((i : Int) < (n2 : Int)) := by omega
      have hkn : k = n1 := by
        have h := HI.out.2
        rw [List.drop_of_length_le (l := m) (by have := HN2.out; omega)] at h
        have h2 := congrArg List.length (List.sublist_nil.1 h)
        rw [List.length_drop] at h2
        have := HN1.out
        simp at h2
        omega
      have hb : ((k : Int) == (n1 : Int)) = true := by simp [hkn]
      clear hkn
      go_wp2
      go_ret
      exact ⟨by simp_all, HI.out.1⟩
end Go.Proofs.Ytijbmchgajhkeaa
