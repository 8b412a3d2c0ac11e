import Derived.Test.YtaaobchodbnkpaaQuCnt
namespace Go.Proofs.Ytaaobchodbnkpaa.Qe
open Go.RowKit Go.Sort
attribute [local go_sem ↓] Go.wp_at_zero Go.wp_at_succ

theorem run_eqT2 (d : Nat) (a b c x y z : Int) (w : World) : Sem.run Try.prog (Op.equalIn (d + 2) 32 (.agg #[.int .u64 a, .int .u64 b, .int .u64 c]) (.agg #[.int .u64 x, .int .u64 y, .int .u64 z])) w = .ok (a == x && (b == y && c == z)) w := by
  have u3 := Try.underlying30
  have a3 := Try.isAgg30
  have z3 := Try.sizeOf30
  have hS : Try.prog.underlying 32 = some (.struct (Try.prog.fieldsOf 32)) := by kernel_rfl
  have hp : Try.prog.stoodInHeld 32 = false := by kernel_rfl
  rw [show (d + 2 : Nat) = (d + 1) + 1 from rfl, run_equalIn_agg w (d + 1) 32 _ _ hS hp]
  simp only [Program.fieldsOf, Try.underlying32]
  go_simp
  by_cases h1 : a = x <;> by_cases h2 : b = y <;> by_cases h3 : c = z <;> simp [h1, h2, h3]
theorem run_eqR2 (d : Nat) (a b x y : Int) (w : World) : Sem.run Try.prog (Op.equalIn (d + 2) 34 (.agg #[.int .u64 a, .int .u64 b]) (.agg #[.int .u64 x, .int .u64 y])) w = .ok (a == x && b == y) w := by
  have u3 := Try.underlying30
  have a3 := Try.isAgg30
  have z3 := Try.sizeOf30
  have hS : Try.prog.underlying 34 = some (.struct (Try.prog.fieldsOf 34)) := by kernel_rfl
  have hp : Try.prog.stoodInHeld 34 = false := by kernel_rfl
  rw [show (d + 2 : Nat) = (d + 1) + 1 from rfl, run_equalIn_agg w (d + 1) 34 _ _ hS hp]
  simp only [Program.fieldsOf, Try.underlying34]
  go_simp
  by_cases h1 : a = x <;> by_cases h2 : b = y <;> simp [h1, h2]
/-- A message is itself. -/
theorem run_eqM (p a b c k v : Int) (w : World) : Sem.run Try.prog (Op.equalIn 10000 36 (.agg #[.int .i64 p, .int .u64 a, .int .u64 b, .int .u64 c, .int .u64 k, .int .u64 v]) (.agg #[.int .i64 p, .int .u64 a, .int .u64 b, .int .u64 c, .int .u64 k, .int .u64 v])) w = .ok true w := by
  have u4 := Try.underlying3
  have a4 := Try.isAgg3
  have z4 := Try.sizeOf3
  have a5 := Try.isAgg32
  have z5 := Try.sizeOf32
  have a6 := Try.isAgg34
  have z6 := Try.sizeOf34
  have hT := run_eqT2 9997
  have hR := run_eqR2 9997
  have hS : Try.prog.underlying 36 = some (.struct (Try.prog.fieldsOf 36)) := by kernel_rfl
  have hp : Try.prog.stoodInHeld 36 = false := by kernel_rfl
  rw [show (10000 : Nat) = 9999 + 1 from rfl, run_equalIn_agg w 9999 36 _ _ hS hp]
  simp only [Program.fieldsOf, Try.underlying36]
  go_simp
theorem run_eqS2 (p a b c : Int) (w : World) : Sem.run Try.prog (Op.equalIn 9999 49 (.agg #[.int .i64 p, .int .u64 a, .int .u64 b, .int .u64 c]) (.agg #[.int .i64 p, .int .u64 a, .int .u64 b, .int .u64 c])) w = .ok true w := by
  have u4 := Try.underlying3
  have a4 := Try.isAgg3
  have z4 := Try.sizeOf3
  have a5 := Try.isAgg32
  have z5 := Try.sizeOf32
  have hT := run_eqT2 9996
  have hS : Try.prog.underlying 49 = some (.struct (Try.prog.fieldsOf 49)) := by kernel_rfl
  have hp : Try.prog.stoodInHeld 49 = false := by kernel_rfl
  rw [show (9999 : Nat) = 9998 + 1 from rfl, run_equalIn_agg w 9998 49 _ _ hS hp]
  simp only [Program.fieldsOf, Try.underlying49]
  go_simp
/-- A change is itself. -/
theorem run_eqC (p a b c n : Int) (w : World) : Sem.run Try.prog (Op.equalIn 10000 51 (.agg #[.int .i64 p, .int .u64 a, .int .u64 b, .int .u64 c, .int .i64 n]) (.agg #[.int .i64 p, .int .u64 a, .int .u64 b, .int .u64 c, .int .i64 n])) w = .ok true w := by
  have u4 := Try.underlying2
  have a4 := Try.isAgg2
  have z4 := Try.sizeOf2
  have a5 := Try.isAgg49
  have z5 := Try.sizeOf49
  have hT := run_eqS2
  have hS : Try.prog.underlying 51 = some (.struct (Try.prog.fieldsOf 51)) := by kernel_rfl
  have hp : Try.prog.stoodInHeld 51 = false := by kernel_rfl
  rw [show (10000 : Nat) = 9999 + 1 from rfl, run_equalIn_agg w 9999 51 _ _ hS hp]
  simp only [Program.fieldsOf, Try.underlying51]
  go_simp
set_option maxHeartbeats 2000000 in
theorem messages_eq {a b : Value} {l : List Ms} (w : World) (ha : Ls EM w a l) (hb : Ls EM w b l) (hl : l.length ≤ 5864062014806) : Calls Try.prog 12 #[a, b] w fun e w' => e = .returned (.bool true) ∧ Gr w w' := by
  have hmx : Try.prog.follows .mixedOrders = true := by kernel_rfl
  have heq := fun p a b c k v W => run_eqM p a b c k v W
  obtain ⟨p1, c1, rfl⟩ := ha.form
  obtain ⟨p2, c2, rfl⟩ := hb.form
  obtain ⟨n, hn⟩ : ∃ n, n = l.length := ⟨_, rfl⟩
  rw [← hn] at ha hb hl ⊢
  have HA := hid ha
  have HB := hid hb
  have HN := hid hn
  clear ha hb hn
  go_enter Try.func12, Try.ntmps12
  go_wp2_with fail
  go_loopw [5] (fun s5 wr => ∃ i : Nat, i ≤ n ∧ s5 = .int .i64 (i : Nat) ∧ Hid (Gr w wr)) (fun s5 _ => n - (RowKit.intOf s5).toNat)
  case atStart => exact ⟨0, Nat.zero_le _, rfl, Gr.refl _⟩
  case round =>
    obtain ⟨i, hi, rfl, HG⟩ := hrel
    by_cases hlt : i < n
    · have hz : (i : Int) < (n : Int) := by omega
      have hi0 : (0 : Int) ≤ (i : Int) := by omega
      obtain ⟨x, hx⟩ : ∃ x, l[i]? = some x := ⟨l[i]'(by have := HN.out; omega), by simp⟩
      obtain ⟨b1, o1, q1, e1, l1, y0, y1, y2, y3, y4, y5⟩ := ls_at (HA.out.below HG.out.below) hx
      obtain ⟨b2, o2, q2, e2, l2, z0, z1, z2, z3, z4, z5⟩ := ls_at (HB.out.below HG.out.below) hx
      simp only [Value.slice.injEq] at e1 e2
      obtain ⟨rfl, -, rfl⟩ := e1
      obtain ⟨rfl, -, rfl⟩ := e2
      clear hx
      go_wp2_with fail
      go_quiet (fail)
      go_wp2_with fail
      go_roundw
      case rel => exact ⟨i + 1, hlt, by simp, HG.out.drewN _⟩
      case measure => simp [RowKit.intOf]; omega
    · have hz : ¬ ((i : Int) < (n : Int)) := by omega
      go_wp2
      go_ret
      exact ⟨rfl, HG.out⟩
theorem lc_at {w : World} {v : Value} {ts : List Cg} (h : Ls EC w v ts) {j : Nat} {x : Cg} (hj : ts[j]? = some x) :
    ∃ b off c, v = .slice (some ⟨b, off, none⟩) ts.length c ∧ b < w.heap.size ∧ w.cell? ⟨b, off + j * 5, none⟩ = some (.int .i64 x.at_) ∧ w.cell? ⟨b, off + j * 5 + 1, none⟩ = some (.int .u64 x.a) ∧ w.cell? ⟨b, off + j * 5 + 2, none⟩ = some (.int .u64 x.b) ∧ w.cell? ⟨b, off + j * 5 + 3, none⟩ = some (.int .u64 x.c) ∧ w.cell? ⟨b, off + j * 5 + 4, none⟩ = some (.int .i64 x.n) := by
  obtain ⟨b, off, c, hv, hb, hc⟩ := h.get hj
  simp only [show EC.k = 5 from rfl] at hc
  exact ⟨b, off, c, hv, hb, hc 0 _ (by decide) rfl, hc 1 _ (by decide) rfl, hc 2 _ (by decide) rfl, hc 3 _ (by decide) rfl, hc 4 _ (by decide) rfl⟩
set_option maxHeartbeats 2000000 in
theorem changes_eq {a b : Value} {l : List Cg} (w : World) (ha : Ls EC w a l) (hb : Ls EC w b l) (hl : l.length ≤ 5864062014806000) : Calls Try.prog 20 #[a, b] w fun e w' => e = .returned (.bool true) ∧ Gr w w' := by
  have hmx : Try.prog.follows .mixedOrders = true := by kernel_rfl
  have heq := fun p a b c n W => run_eqC p a b c n W
  obtain ⟨p1, c1, rfl⟩ := ha.form
  obtain ⟨p2, c2, rfl⟩ := hb.form
  obtain ⟨n, hn⟩ : ∃ n, n = l.length := ⟨_, rfl⟩
  rw [← hn] at ha hb hl ⊢
  have HA := hid ha
  have HB := hid hb
  have HN := hid hn
  clear ha hb hn
  go_enter Try.func20, Try.ntmps20
  go_wp2_with fail
  go_loopw [5] (fun s5 wr => ∃ i : Nat, i ≤ n ∧ s5 = .int .i64 (i : Nat) ∧ Hid (Gr w wr)) (fun s5 _ => n - (RowKit.intOf s5).toNat)
  case atStart => exact ⟨0, Nat.zero_le _, rfl, Gr.refl _⟩
  case round =>
    obtain ⟨i, hi, rfl, HG⟩ := hrel
    by_cases hlt : i < n
    · have hz : (i : Int) < (n : Int) := by omega
      have hi0 : (0 : Int) ≤ (i : Int) := by omega
      obtain ⟨x, hx⟩ : ∃ x, l[i]? = some x := ⟨l[i]'(by have := HN.out; omega), by simp⟩
      obtain ⟨b1, o1, q1, e1, l1, y0, y1, y2, y3, y4⟩ := lc_at (HA.out.below HG.out.below) hx
      obtain ⟨b2, o2, q2, e2, l2, z0, z1, z2, z3, z4⟩ := lc_at (HB.out.below HG.out.below) hx
      simp only [Value.slice.injEq] at e1 e2
      obtain ⟨rfl, -, rfl⟩ := e1
      obtain ⟨rfl, -, rfl⟩ := e2
      clear hx
      go_wp2_with fail
      go_quiet (fail)
      go_wp2_with fail
      go_roundw
      case rel => exact ⟨i + 1, hlt, by simp, HG.out.drewN _⟩
      case measure => simp [RowKit.intOf]; omega
    · have hz : ¬ ((i : Int) < (n : Int)) := by omega
      go_wp2
      go_ret
      exact ⟨rfl, HG.out⟩
end Go.Proofs.Ytaaobchodbnkpaa.Qe
