import Derived.Test.YtnpmmodcmfgbjaaGreatMFace
namespace Go.Proofs.YtnpmmodcmfgbjaaGreat
open Go.RowKit Go.Sort
attribute [local go_sem ↓] Go.wp_at_zero Go.wp_at_succ

theorem take_same {α : Type} {a b : List α} {k : Nat} {s : α} (h : a.take k = b.take k) (hs : a[k]? = some s) (ht : b[k]? = some s) : a.take (k + 1) = b.take (k + 1) := by
  rw [List.take_add_one, List.take_add_one, h, hs, ht]
theorem run_eqT9 (a b c x y z : Int) (w : World) : Sem.run Tryz.prog (Op.equalIn 9999 37 (.agg #[.int .u64 a, .int .u64 b, .int .u64 c]) (.agg #[.int .u64 x, .int .u64 y, .int .u64 z])) w = .ok (teq a b c x y z) w := by
  have u3 := Tryz.underlying35
  have a3 := Tryz.isAgg35
  have z3 := Tryz.sizeOf35
  have hS : Tryz.prog.underlying 37 = some (.struct (Tryz.prog.fieldsOf 37)) := by kernel_rfl
  have hp : Tryz.prog.stoodInHeld 37 = false := by kernel_rfl
  rw [show (9999 : Nat) = 9998 + 1 from rfl, run_equalIn_agg w 9998 37 _ _ hS hp]
  simp only [Program.fieldsOf, Tryz.underlying37]
  go_simp
  by_cases h1 : a = x <;> by_cases h2 : b = y <;> by_cases h3 : c = z <;> simp [teq, h1, h2, h3]
/-- '==' of two deltas. -/
def deq (s t : Dl) : Bool := teq s.1.1.1 s.1.1.2.1 s.1.1.2.2 t.1.1.1 t.1.1.2.1 t.1.1.2.2 && (s.2 == t.2)
theorem deq_t {s t : Dl} (h : s = t) : deq s t = true := by subst h; simp [deq, teq]
theorem deq_f {s t : Dl} (h : s ≠ t) : deq s t = false := by
  rw [← Bool.not_eq_true]
  intro h1
  unfold deq at h1
  rw [Bool.and_eq_true, teq_iff] at h1
  exact h (Prod.ext (tm_ext h1.1.1 h1.1.2.1 h1.1.2.2) (by simpa using h1.2))
theorem run_eqD (s t : Dl) (w : World) : Sem.run Tryz.prog (Op.equalIn 10000 54 (.agg #[.int .u64 s.1.1.1, .int .u64 s.1.1.2.1, .int .u64 s.1.1.2.2, .int .i64 s.2]) (.agg #[.int .u64 t.1.1.1, .int .u64 t.1.1.2.1, .int .u64 t.1.1.2.2, .int .i64 t.2])) w = .ok (deq s t) w := by
  have u3 := Tryz.underlying2
  have a3 := Tryz.isAgg2
  have z3 := Tryz.sizeOf2
  have a4 := Tryz.isAgg37
  have z4 := Tryz.sizeOf37
  have hT := run_eqT9
  have hS : Tryz.prog.underlying 54 = some (.struct (Tryz.prog.fieldsOf 54)) := by kernel_rfl
  have hp : Tryz.prog.stoodInHeld 54 = false := by kernel_rfl
  rw [show (10000 : Nat) = 9999 + 1 from rfl, run_equalIn_agg w 9999 54 _ _ hS hp]
  simp only [Program.fieldsOf, Tryz.underlying54]
  unfold deq
  go_simp
  cases teq s.1.1.1 s.1.1.2.1 s.1.1.2.2 t.1.1.1 t.1.1.2.1 t.1.1.2.2 <;> by_cases h : s.2 = t.2 <;> simp [h]

set_option maxHeartbeats 1000000 in
theorem deltas_any (va vb : Value) (ta tb : List Dl) (w : World) (ha : Ls ED w va ta) (hb : Ls ED w vb tb) (hl : ta.length ≤ maxLen) :
    Calls Tryz.prog 22 #[va, vb] w fun e w' => e = .returned (.bool (decide (ta = tb))) ∧ Gr w w' := by
  unfold maxLen at hl
  obtain ⟨pa, ca, rfl⟩ := ha.form
  obtain ⟨pb, cb, rfl⟩ := hb.form
  have heq := fun s t W => run_eqD s t W
  have hm : Tryz.prog.follows .mixedOrders = true := by kernel_rfl
  by_cases hlen : ta.length = tb.length
  · have hne : ((ta.length : Int) != (tb.length : Int)) = false := by simp [hlen]
    have Hlen : Hid (ta.length = tb.length) := hlen
    have Ha : Hid (Ls ED w (.slice pa ta.length ca) ta) := ha
    have Hb : Hid (Ls ED w (.slice pb tb.length cb) tb) := hb
    clear ha hb hlen
    go_enter Tryz.func22, Tryz.ntmps22
    go_wp2
    go_loopw [5] (fun s5 wr => ∃ k : Nat, k ≤ ta.length ∧ s5 = .int .i64 k ∧ Gr w wr ∧ Hid (ta.take k = tb.take k)) (fun s5 _ => ta.length - (RowKit.intOf s5).toNat)
    case atStart => exact ⟨0, Nat.zero_le _, rfl, Gr.refl _, rfl⟩
    case round =>
      obtain ⟨k, hk, rfl, hgr, HTK⟩ := hrel
      by_cases hlt : k < ta.length
      · have hltz : (k : Int) < (ta.length : Int) := by omega
        have hltz2 : (k : Int) < (tb.length : Int) := by have := Hlen.out; omega
        obtain ⟨s, hs⟩ : ∃ s, ta[k]? = some s := ⟨ta[k], by simp⟩
        obtain ⟨t, ht⟩ : ∃ t, tb[k]? = some t := ⟨tb[k]'(by omega), by simp⟩
        obtain ⟨b1, o1, c1, e1, z1, x1, x2, x3, x4⟩ := (Ha.out.below hgr.below).at4 hs
        obtain ⟨b2, o2, c2, e2, z2, y1, y2, y3, y4⟩ := (Hb.out.below hgr.below).at4 ht
        simp only [Value.slice.injEq] at e1 e2
        obtain ⟨rfl, -, rfl⟩ := e1
        obtain ⟨rfl, -, rfl⟩ := e2
        have HS : Hid (ta[k]? = some s) := hs
        have HT : Hid (tb[k]? = some t) := ht
        clear hs ht
        by_cases hst : s = t
        · have hq := deq_t hst
          have HST : Hid (s = t) := hst
          clear hst
          go_wp2_with fail
          go_region
          all_goals go_wp2
          all_goals exact ⟨⟨k + 1, by omega, by go_num, hgr.drew, take_same HTK.out HS.out (by rw [HST.out]; exact HT.out)⟩, by simp [RowKit.intOf]; omega⟩
        · have hq := deq_f hst
          have HST : Hid (s ≠ t) := hst
          clear hst
          go_wp2_with fail
          go_region
          all_goals go_wp2
          all_goals go_ret
          all_goals refine ⟨?_, hgr.drew⟩
          all_goals rw [decide_eq_false (fun e => HST.out (Option.some.inj (HS.out.symm.trans ((congrArg (·[k]?) e).trans HT.out))))]
          all_goals rfl
      · have hltz : ¬ (k : Int) < (ta.length : Int) := by omega
        go_wp2
        go_ret
        refine ⟨?_, hgr⟩
        have h1 := HTK.out
        rw [List.take_of_length_le (by omega), List.take_of_length_le (by have := Hlen.out; omega)] at h1
        rw [decide_eq_true h1]
        rfl
  · have hne : ((ta.length : Int) != (tb.length : Int)) = true := by simp; omega
    have hd : decide (ta = tb) = false := decide_eq_false (fun h => hlen (by rw [h]))
    rw [hd]
    clear ha hb hlen
    go_enter Tryz.func22, Tryz.ntmps22
    go_wp2
    go_ret
    exact ⟨rfl, Gr.refl _⟩

end Go.Proofs.YtnpmmodcmfgbjaaGreat
