import Derived.Test.YtkopmkmfigenlaaDLays
import Derived.Test.YtkopmkmfigenlaaDNods
import Derived.Test.YtkopmkmfigenlaaDEq
namespace Go.Proofs.Ytkopmkmfigenlaa.Df
open Go.RowKit Go.Sort Wi
attribute [local go_sem ↓] Go.wp_at_zero Go.wp_at_succ

def fit (many own : Int) : Bool := if own = -1 then decide (0 ≤ many) else decide (many = own)
theorem fit_any (many own : Int) (w : World) : Calls Try.prog 85 #[.int .i64 many, .int .i64 own] w fun r w' => r = .returned (.bool (fit many own)) ∧ w' = w := by
  unfold fit
  by_cases h : own = -1
  · subst h
    go_enter Try.func85, Try.ntmps85
    go_wp2
    go_ret
    refine ⟨?_, rfl⟩
    simp
  · have hz : (own == -1) = false := by simp [h]
    rw [if_neg h]
    go_enter Try.func85, Try.ntmps85
    go_wp2
    go_ret
    refine ⟨?_, rfl⟩
    congr 1
theorem ports_fit (n : Nod) : ports n = (fit n.ins (own n.kind).1 && fit n.outs (own n.kind).2) := by
  unfold ports own fit
  by_cases h1 : n.kind = 1
  · simp [h1]
  · by_cases h7 : n.kind = 7
    · simp [h7]
    · by_cases h4 : n.kind = 4
      · simp [h4]
      · by_cases h8 : n.kind = 8
        · simp [h8]
        · simp [h1, h7, h4, h8]
set_option maxHeartbeats 1000000 in
theorem ports_any (x : NV) (w : World) : Calls Try.prog 61 #[.agg x.cells] w fun r w' => r = .returned (.bool (ports x.n)) ∧ Gr w w' := by
  have how := fun W => own_any x.n.kind W
  rw [ports_fit]
  have hf1 := fun W => fit_any x.n.ins (own x.n.kind).1 W
  have hf2 := fun W => fit_any x.n.outs (own x.n.kind).2 W
  generalize own x.n.kind = O at how hf1 hf2 ⊢
  generalize fit x.n.ins O.1 = b1 at hf1 ⊢
  generalize fit x.n.outs O.2 = b2 at hf2 ⊢
  cases b1
  · go_enter Try.func61, Try.ntmps61
    go_wp2_with (first | (go_at_call 71; refine (how _).mono ?_; rintro r w4 ⟨rfl, rfl⟩) | (go_at_call 85; refine (hf1 _).mono ?_; rintro r w5 ⟨rfl, rfl⟩))
    go_ret
    exact ⟨rfl, (Gr.refl _).alloc _⟩
  · go_enter Try.func61, Try.ntmps61
    go_wp2_with (first | (go_at_call 71; refine (how _).mono ?_; rintro r w4 ⟨rfl, rfl⟩))
    go_at_call 85
    refine (hf1 _).mono ?_
    rintro r w5 ⟨rfl, rfl⟩
    go_wp2_with fail
    go_at_call 85
    refine (hf2 _).mono ?_
    rintro r w6 ⟨rfl, rfl⟩
    go_wp2_with fail
    go_ret
    exact ⟨rfl, (Gr.refl _).alloc _⟩
/-- Is anything left? -/
def more (k : Int) (cm : Nat) (p : Pth) (b dm : Nat) (s : Bool) : Bool := !((k = 2 || k = 3 || cm = 0) && (k = 5 || (p = (0, 0, 0) && b = 0)) && (k = 8 || (dm = 0 && !s)))
theorem more_bare (n : Nod) : more n.kind n.code.length n.via n.bound n.conns.length n.start = !bare n := by
  obtain ⟨k, i, o, c, p, b, d, s⟩ := n
  rw [Bool.eq_iff_iff]
  simp [more, bare]
set_option maxHeartbeats 2000000 in
theorem more2_any (i o : Int) (cq : Option Addr) (cm cc : Nat) (p : Pth) (b : Nat) (dq : Option Addr) (dm dc : Nat) (s : Bool) (_hc : cm ≤ 140737488355328) (_hd : dm ≤ 140737488355328) (w : World) : Calls Try.prog 62 #[.agg (ncells 2 i o (.slice cq cm cc) p b (.slice dq dm dc) s)] w fun r w' => r = .returned (.bool (more 2 cm p b dm s)) ∧ Below w.heap.size w w' := by
  have hP := run_eqP 9998
  have hT := hid (teq_pth p (0, 0, 0))
  cases s
  · skip
    by_cases hb : b = 0
    · subst hb
      by_cases hp : p = (0, 0, 0)
      · subst hp
        clear hT
        have hv : decide (0 < dm) = more 2 cm (0, 0, 0) 0 dm false := by
          rw [Bool.eq_iff_iff]
          simp [more]
          try omega
        have HV := hid hv
        clear hv
        go_enter Try.func62, Try.ntmps62
        go_wp2_with fail
        go_ret
        refine ⟨?_, ((Gr.refl _).alloc _).below⟩
        rw [← HV.out]
        rfl
      · have hT := hT.out
        rw [decide_eq_false hp] at hT
        have hT : teq (p.1 : Nat) (p.2.1 : Nat) (p.2.2 : Nat) 0 0 0 = false := hT
        go_enter Try.func62, Try.ntmps62
        go_wp2_with fail
        go_ret
        refine ⟨?_, ((Gr.refl _).alloc _).below⟩
        simp [more, hp]
    · have hbz : ((b : Int) != 0) = true := by simp; omega
      have hbz' : ¬ (b : Int) = 0 := by omega
      go_enter Try.func62, Try.ntmps62
      go_wp2_with fail
      go_ret
      refine ⟨?_, ((Gr.refl _).alloc _).below⟩
      simp [more, hb]
  · skip
    go_enter Try.func62, Try.ntmps62
    go_wp2_with fail
    go_ret
    refine ⟨?_, ((Gr.refl _).alloc _).below⟩
    simp [more]
set_option maxHeartbeats 2000000 in
theorem more3_any (i o : Int) (cq : Option Addr) (cm cc : Nat) (p : Pth) (b : Nat) (dq : Option Addr) (dm dc : Nat) (s : Bool) (_hc : cm ≤ 140737488355328) (_hd : dm ≤ 140737488355328) (w : World) : Calls Try.prog 62 #[.agg (ncells 3 i o (.slice cq cm cc) p b (.slice dq dm dc) s)] w fun r w' => r = .returned (.bool (more 3 cm p b dm s)) ∧ Below w.heap.size w w' := by
  have hP := run_eqP 9998
  have hT := hid (teq_pth p (0, 0, 0))
  cases s
  · skip
    by_cases hb : b = 0
    · subst hb
      by_cases hp : p = (0, 0, 0)
      · subst hp
        clear hT
        have hv : decide (0 < dm) = more 3 cm (0, 0, 0) 0 dm false := by
          rw [Bool.eq_iff_iff]
          simp [more]
          try omega
        have HV := hid hv
        clear hv
        go_enter Try.func62, Try.ntmps62
        go_wp2_with fail
        go_ret
        refine ⟨?_, ((Gr.refl _).alloc _).below⟩
        rw [← HV.out]
        rfl
      · have hT := hT.out
        rw [decide_eq_false hp] at hT
        have hT : teq (p.1 : Nat) (p.2.1 : Nat) (p.2.2 : Nat) 0 0 0 = false := hT
        go_enter Try.func62, Try.ntmps62
        go_wp2_with fail
        go_ret
        refine ⟨?_, ((Gr.refl _).alloc _).below⟩
        simp [more, hp]
    · have hbz : ((b : Int) != 0) = true := by simp; omega
      have hbz' : ¬ (b : Int) = 0 := by omega
      go_enter Try.func62, Try.ntmps62
      go_wp2_with fail
      go_ret
      refine ⟨?_, ((Gr.refl _).alloc _).below⟩
      simp [more, hb]
  · skip
    go_enter Try.func62, Try.ntmps62
    go_wp2_with fail
    go_ret
    refine ⟨?_, ((Gr.refl _).alloc _).below⟩
    simp [more]
set_option maxHeartbeats 2000000 in
theorem more5_any (i o : Int) (cq : Option Addr) (cm cc : Nat) (p : Pth) (b : Nat) (dq : Option Addr) (dm dc : Nat) (s : Bool) (_hc : cm ≤ 140737488355328) (_hd : dm ≤ 140737488355328) (w : World) : Calls Try.prog 62 #[.agg (ncells 5 i o (.slice cq cm cc) p b (.slice dq dm dc) s)] w fun r w' => r = .returned (.bool (more 5 cm p b dm s)) ∧ Below w.heap.size w w' := by
  have hP := run_eqP 9998
  have hT := hid (teq_pth p (0, 0, 0))
  cases s
  · skip
    have hw : wrap64 ((cm : Int) + (dm : Int)) = (cm : Int) + (dm : Int) := by unfold wrap64; omega
    have hv : decide ((0 : Int) < (cm : Int) + (dm : Int)) = more 5 cm p b dm false := by
      rw [Bool.eq_iff_iff]
      simp [more]
      try omega
    have HV := hid hv
    clear hv
    go_enter Try.func62, Try.ntmps62
    go_wp2_with fail
    go_ret
    refine ⟨?_, ((Gr.refl _).alloc _).below⟩
    rw [← HV.out]
    rfl
  · skip
    go_enter Try.func62, Try.ntmps62
    go_wp2_with fail
    go_ret
    refine ⟨?_, ((Gr.refl _).alloc _).below⟩
    simp [more]
set_option maxHeartbeats 2000000 in
theorem more8_any (i o : Int) (cq : Option Addr) (cm cc : Nat) (p : Pth) (b : Nat) (dq : Option Addr) (dm dc : Nat) (s : Bool) (_hc : cm ≤ 140737488355328) (_hd : dm ≤ 140737488355328) (w : World) : Calls Try.prog 62 #[.agg (ncells 8 i o (.slice cq cm cc) p b (.slice dq dm dc) s)] w fun r w' => r = .returned (.bool (more 8 cm p b dm s)) ∧ Below w.heap.size w w' := by
  have hP := run_eqP 9998
  have hT := hid (teq_pth p (0, 0, 0))
  by_cases hb : b = 0
  · subst hb
    by_cases hp : p = (0, 0, 0)
    · subst hp
      clear hT
      have hv : decide (0 < cm) = more 8 cm (0, 0, 0) 0 dm s := by
        rw [Bool.eq_iff_iff]
        simp [more]
        try omega
      have HV := hid hv
      clear hv
      go_enter Try.func62, Try.ntmps62
      go_wp2_with fail
      go_ret
      refine ⟨?_, ((Gr.refl _).alloc _).below⟩
      rw [← HV.out]
      rfl
    · have hT := hT.out
      rw [decide_eq_false hp] at hT
      have hT : teq (p.1 : Nat) (p.2.1 : Nat) (p.2.2 : Nat) 0 0 0 = false := hT
      go_enter Try.func62, Try.ntmps62
      go_wp2_with fail
      go_ret
      refine ⟨?_, ((Gr.refl _).alloc _).below⟩
      simp [more, hp]
  · have hbz : ((b : Int) != 0) = true := by simp; omega
    have hbz' : ¬ (b : Int) = 0 := by omega
    go_enter Try.func62, Try.ntmps62
    go_wp2_with fail
    go_ret
    refine ⟨?_, ((Gr.refl _).alloc _).below⟩
    simp [more, hb]
set_option maxHeartbeats 2000000 in
theorem more0_any (k i o : Int) (h2 : k ≠ 2) (h3 : k ≠ 3) (h5 : k ≠ 5) (h8 : k ≠ 8) (cq : Option Addr) (cm cc : Nat) (p : Pth) (b : Nat) (dq : Option Addr) (dm dc : Nat) (s : Bool) (_hc : cm ≤ 140737488355328) (_hd : dm ≤ 140737488355328) (w : World) : Calls Try.prog 62 #[.agg (ncells k i o (.slice cq cm cc) p b (.slice dq dm dc) s)] w fun r w' => r = .returned (.bool (more k cm p b dm s)) ∧ Below w.heap.size w w' := by
  have hP := run_eqP 9998
  have hT := hid (teq_pth p (0, 0, 0))
  have z2 : (k == 2) = false := by simp [h2]
  have z3 : (k == 3) = false := by simp [h3]
  have z5 : (k == 5) = false := by simp [h5]
  have z8 : (k == 8) = false := by simp [h8]
  cases s
  · skip
    by_cases hb : b = 0
    · subst hb
      by_cases hp : p = (0, 0, 0)
      · subst hp
        clear hT
        have hw : wrap64 ((cm : Int) + (dm : Int)) = (cm : Int) + (dm : Int) := by unfold wrap64; omega
        have hv : decide ((0 : Int) < (cm : Int) + (dm : Int)) = more k cm (0, 0, 0) 0 dm false := by
          rw [Bool.eq_iff_iff]
          simp [more, h2, h3, h5, h8]
          try omega
        have HV := hid hv
        clear hv
        go_enter Try.func62, Try.ntmps62
        go_wp2_with fail
        go_ret
        refine ⟨?_, ((Gr.refl _).alloc _).below⟩
        rw [← HV.out]
        rfl
      · have hT := hT.out
        rw [decide_eq_false hp] at hT
        have hT : teq (p.1 : Nat) (p.2.1 : Nat) (p.2.2 : Nat) 0 0 0 = false := hT
        go_enter Try.func62, Try.ntmps62
        go_wp2_with fail
        go_ret
        refine ⟨?_, ((Gr.refl _).alloc _).below⟩
        simp [more, h2, h3, h5, h8, hp]
    · have hbz : ((b : Int) != 0) = true := by simp; omega
      have hbz' : ¬ (b : Int) = 0 := by omega
      go_enter Try.func62, Try.ntmps62
      go_wp2_with fail
      go_ret
      refine ⟨?_, ((Gr.refl _).alloc _).below⟩
      simp [more, h2, h3, h5, h8, hb]
  · skip
    go_enter Try.func62, Try.ntmps62
    go_wp2_with fail
    go_ret
    refine ⟨?_, ((Gr.refl _).alloc _).below⟩
    simp [more, h2, h3, h5, h8]
end Go.Proofs.Ytkopmkmfigenlaa.Df
