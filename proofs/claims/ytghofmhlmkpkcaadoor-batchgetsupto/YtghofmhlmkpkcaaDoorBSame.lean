import Derived.Test.YtghofmhlmkpkcaaDoorBBeh
import Derived.BigQuiet
namespace Go.Proofs.YtghofmhlmkpkcaaDoor.Wi
open Go.RowKit Go.Sort
attribute [local go_sem ↓] Go.wp_at_zero Go.wp_at_succ

/-- '==' of changes. -/
def teq3 (a b c x y z : Int) : Bool := a == x && (b == y && c == z)
theorem run_eqT (d : Nat) (a b c x y z : Int) (w : World) : Sem.run Tryd.prog (Op.equalIn (d + 2) 39 (.agg #[.int .u64 a, .int .u64 b, .int .u64 c]) (.agg #[.int .u64 x, .int .u64 y, .int .u64 z])) w = .ok (teq3 a b c x y z) w := by
  have u3 := Tryd.underlying37
  have a3 := Tryd.isAgg37
  have z3 := Tryd.sizeOf37
  have hS : Tryd.prog.underlying 39 = some (.struct (Tryd.prog.fieldsOf 39)) := by kernel_rfl
  have hp : Tryd.prog.stoodInHeld 39 = false := by kernel_rfl
  rw [show (d + 2 : Nat) = (d + 1) + 1 from rfl, run_equalIn_agg w (d + 1) 39 _ _ hS hp]
  simp only [Program.fieldsOf, Tryd.underlying39]
  go_simp
  by_cases h1 : a = x <;> by_cases h2 : b = y <;> by_cases h3 : c = z <;> simp [teq3, h1, h2, h3]
theorem run_eqS (d : Nat) (p a b c q x y z : Int) (w : World) : Sem.run Tryd.prog (Op.equalIn (d + 3) 41 (.agg #[.int .i64 p, .int .u64 a, .int .u64 b, .int .u64 c]) (.agg #[.int .i64 q, .int .u64 x, .int .u64 y, .int .u64 z])) w = .ok (p == q && teq3 a b c x y z) w := by
  have u4 := Tryd.underlying3
  have a4 := Tryd.isAgg3
  have z4 := Tryd.sizeOf3
  have a5 := Tryd.isAgg39
  have z5 := Tryd.sizeOf39
  have hP := run_eqT d
  have hS : Tryd.prog.underlying 41 = some (.struct (Tryd.prog.fieldsOf 41)) := by kernel_rfl
  have hp : Tryd.prog.stoodInHeld 41 = false := by kernel_rfl
  rw [show (d + 3 : Nat) = (d + 2) + 1 from rfl, run_equalIn_agg w (d + 2) 41 _ _ hS hp]
  simp only [Program.fieldsOf, Tryd.underlying41]
  go_simp
  by_cases h1 : p = q <;> cases teq3 a b c x y z <;> simp [h1]
theorem run_eqC (h k : Cx) (w : World) : Sem.run Tryd.prog (Op.equalIn 10000 43 (gv h) (gv k)) w = .ok (decide (h = k)) w := by
  have hd : decide (h = k) = ((h.pl == k.pl && teq3 (h.A : Nat) (h.B : Nat) (h.C : Nat) (k.A : Nat) (k.B : Nat) (k.C : Nat)) && h.N == k.N) := by
    rw [Bool.eq_iff_iff]
    simp only [teq3, Bool.and_eq_true, beq_iff_eq, decide_eq_true_iff]
    rw [Cx.eq_iff]
    constructor
    · rintro ⟨h0, h1, h2, h3, h4⟩
      exact ⟨⟨h0, by omega, by omega, by omega⟩, h4⟩
    · rintro ⟨⟨h0, h1, h2, h3⟩, h4⟩
      exact ⟨h0, by omega, by omega, by omega, h4⟩
  rw [hd]
  clear hd
  have u4 := Tryd.underlying2
  have a4 := Tryd.isAgg2
  have z4 := Tryd.sizeOf2
  have a5 := Tryd.isAgg41
  have z5 := Tryd.sizeOf41
  have hP := run_eqS 9996
  have hS : Tryd.prog.underlying 43 = some (.struct (Tryd.prog.fieldsOf 43)) := by kernel_rfl
  have hp : Tryd.prog.stoodInHeld 43 = false := by kernel_rfl
  rw [show (10000 : Nat) = 9999 + 1 from rfl, run_equalIn_agg w 9999 43 _ _ hS hp]
  simp only [Program.fieldsOf, Tryd.underlying43]
  go_simp
  by_cases h1 : h.pl = k.pl <;> by_cases h2 : h.N = k.N <;> cases teq3 (h.A : Nat) (h.B : Nat) (h.C : Nat) (k.A : Nat) (k.B : Nat) (k.C : Nat) <;> simp [h1, h2]
theorem ne_at {l m : List Cx} {k : Nat} {s t : Cx} (hs : l[k]? = some s) (ht : m[k]? = some t) (h : s ≠ t) : l ≠ m := fun e => by
  subst e
  rw [hs] at ht
  exact h (Option.some.inj ht)
theorem take_same {l m : List Cx} {k : Nat} {s : Cx} (h : l.take k = m.take k) (hs : l[k]? = some s) (ht : m[k]? = some s) : l.take (k + 1) = m.take (k + 1) := by
  rw [List.take_add_one, List.take_add_one, h, hs, ht]
set_option maxHeartbeats 4000000 in
/-- The same changes. -/
theorem same_any {va vb : Value} {l m : List Cx} (w : World) (ha : Ls EC w va l) (hb : Ls EC w vb m) (hl : l.length < 4611686018427387904) : Calls Tryd.prog 12 #[va, vb] w fun e w' => e = .returned (.bool (decide (l = m))) ∧ Gr w w' := by
  obtain ⟨pa, ca, rfl⟩ := ha.form
  obtain ⟨pb, cb, rfl⟩ := hb.form
  have hm : Tryd.prog.follows .mixedOrders = true := by kernel_rfl
  by_cases hne : l.length = m.length
  · have Ha := hid ha
    have Hb : Hid (Ls EC w (.slice pb l.length cb) m) := by rw [hne]; exact hb
    have HN := hid hne
    rw [← hne]
    have HLE := hid hl
    obtain ⟨n, hn⟩ : ∃ n, l.length = n := ⟨_, rfl⟩
    rw [hn] at Ha Hb hl HN ⊢
    have HNN := hid hn
    clear ha hb hne hn HLE
    go_enter Tryd.func12, Tryd.ntmps12
    go_wp2_with fail
    go_loopw [5] (fun s5 wr => ∃ k : Nat, k ≤ n ∧ s5 = .int .i64 (k : Nat) ∧ Gr w wr ∧ Hid (l.take k = m.take k)) (fun s5 _ => n - (RowKit.intOf s5).toNat)
    case atStart => exact ⟨0, Nat.zero_le _, rfl, Gr.refl _, rfl⟩
    case round =>
      obtain ⟨k, hk, rfl, hgr, HT⟩ := hrel
      by_cases hlt : k < n
      · have hltz : (k : Int) < (n : Int) := by omega
        have hk0 : (0 : Int) ≤ (k : Int) := by omega
        obtain ⟨s, hs⟩ : ∃ s, l[k]? = some s := ⟨l[k]'(by rw [HNN.out]; exact hlt), by simp⟩
        obtain ⟨t, ht⟩ : ∃ t, m[k]? = some t := ⟨m[k]'(by rw [← HN.out]; exact hlt), by simp⟩
        obtain ⟨b1, o1, c1, e1, z1, x0, x1, x2, x3, x4⟩ := ls_atC (Ha.out.below hgr.below) hs
        obtain ⟨b2, o2, c2, e2, z2, y0, y1, y2, y3, y4⟩ := ls_atC (Hb.out.below hgr.below) ht
        simp only [Value.slice.injEq] at e1 e2
        obtain ⟨rfl, -, rfl⟩ := e1
        obtain ⟨rfl, -, rfl⟩ := e2
        have HS := hid hs
        have HTT := hid ht
        have hq := fun W => run_eqC s t W
        have GR' := hid hgr
        by_cases hst : s = t
        · rw [decide_eq_true hst] at hq
          have HK : Hid (l.take (k + 1) = m.take (k + 1)) := take_same HT.out HS.out (hst ▸ HTT.out)
          clear hs ht hgr hst
          go_wp2_with fail
          go_quiet (fail)
          go_wp2_with fail
          go_roundw
          case rel => exact ⟨k + 1, by omega, by go_num, GR'.out.drewN _, HK.out⟩
          case measure => simp [RowKit.intOf]; omega
        · rw [decide_eq_false hst] at hq
          have HK : Hid (decide (l = m) = false) := decide_eq_false (ne_at HS.out HTT.out hst)
          clear hs ht hgr hst
          go_wp2_with fail
          go_quiet (fail)
          go_wp2_with fail
          go_ret
          rw [HK.out]
          exact ⟨rfl, GR'.out.drewN _⟩
      · have hltz : ¬ (k : Int) < (n : Int) := by omega
        have HK : Hid (decide (l = m) = true) := decide_eq_true (by
          have h := HT.out
          rw [List.take_of_length_le (by rw [HNN.out]; omega), List.take_of_length_le (by rw [← HN.out]; omega)] at h
          exact h)
        go_wp2
        go_ret
        rw [HK.out]
        exact ⟨rfl, hgr⟩
  · have hz : ¬ (l.length : Int) = (m.length : Int) := by omega
    rw [decide_eq_false (fun e => hne (by rw [e]))]
    clear ha hb hl
    go_enter Tryd.func12, Tryd.ntmps12
    go_wp2_with fail
    go_ret
    exact ⟨rfl, Gr.refl _⟩
end Go.Proofs.YtghofmhlmkpkcaaDoor.Wi
