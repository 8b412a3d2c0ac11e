import Derived.Test.YtnclnagpfjmlcaaDRnum
namespace Go.Proofs.Ytnclnagpfjmlcaa.Df
open Go.RowKit Go.Sort Wi
attribute [local go_sem ↓] Go.wp_at_zero Go.wp_at_succ

set_option maxHeartbeats 2000000 in
theorem rports_any (x : NV) (w : World) : Calls Try.prog 56 #[.agg x.cells] w fun r w' => r = .returned (.bool (ports x.n)) ∧ Gr w w' := by
  obtain ⟨⟨k, i, o, cd, via, bd, cn, st⟩, cq, cm, cc, dq, dm, dc⟩ := x
  simp only [NV.cells, NV.cv, NV.dv]
  unfold ports
  simp only
  by_cases h1 : k = 1
  · subst h1
    by_cases hi : i = 0
    · go_enter Try.func56, Try.ntmps56
      go_wp2_with fail
      go_ret
      exact ⟨by simp; rfl, (Gr.refl _).alloc _⟩
    · go_enter Try.func56, Try.ntmps56
      go_wp2_with fail
      go_ret
      exact ⟨by simp, (Gr.refl _).alloc _⟩
  · by_cases h7 : k = 7
    · subst h7
      by_cases hi : i = 1
      · go_enter Try.func56, Try.ntmps56
        go_wp2_with fail
        go_ret
        exact ⟨by simp; rfl, (Gr.refl _).alloc _⟩
      · go_enter Try.func56, Try.ntmps56
        go_wp2_with fail
        go_ret
        exact ⟨by simp, (Gr.refl _).alloc _⟩
    · by_cases h4 : k = 4
      · subst h4
        by_cases hi : 0 ≤ i
        · go_enter Try.func56, Try.ntmps56
          go_wp2_with fail
          go_ret
          exact ⟨by simp; rfl, (Gr.refl _).alloc _⟩
        · go_enter Try.func56, Try.ntmps56
          go_wp2_with fail
          go_ret
          exact ⟨by simp; intros; omega, (Gr.refl _).alloc _⟩
      · by_cases h8 : k = 8
        · subst h8
          by_cases hi : 0 ≤ i
          · go_enter Try.func56, Try.ntmps56
            go_wp2_with fail
            go_ret
            exact ⟨by simp, (Gr.refl _).alloc _⟩
          · go_enter Try.func56, Try.ntmps56
            go_wp2_with fail
            go_ret
            exact ⟨by simp; intros; omega, (Gr.refl _).alloc _⟩
        · skip
          by_cases hi : i = 1
          · go_enter Try.func56, Try.ntmps56
            go_wp2_with fail
            go_ret
            exact ⟨by simp; rfl, (Gr.refl _).alloc _⟩
          · go_enter Try.func56, Try.ntmps56
            go_wp2_with fail
            go_ret
            exact ⟨by simp, (Gr.refl _).alloc _⟩
theorem nz_beq (n : Nat) : ((n : Int) == 0) = decide (n = 0) := by rw [Bool.eq_iff_iff]; simp
set_option maxHeartbeats 2000000 in
theorem rbare_any (x : NV) (hcm : x.cm = x.n.code.length) (hdm : x.dm = x.n.conns.length) (w : World) : Calls Try.prog 57 #[.agg x.cells] w fun r w' => r = .returned (.bool (bare x.n)) ∧ Gr w w' := by
  have heq := fun (W : World) => run_eqP 9998 x.n.via.1 x.n.via.2.1 x.n.via.2.2 0 0 0 W
  have heq2 : ∀ W : World, Sem.run Try.prog (Op.equalIn 10000 64 (.agg #[.int .u64 (x.n.via.1 : Nat), .int .u64 (x.n.via.2.1 : Nat), .int .u64 (x.n.via.2.2 : Nat)]) (.agg #[.int .u64 0, .int .u64 0, .int .u64 0])) W = .ok (decide (x.n.via = (0, 0, 0))) W := fun W => by
    rw [heq W]
    exact congrArg (fun b => Result.ok b W) (teq_pth x.n.via (0, 0, 0))
  clear heq
  obtain ⟨⟨k, i, o, cd, via, bd, cn, st⟩, cq, cm, cc, dq, dm, dc⟩ := x
  simp only at hcm hdm heq2
  simp only [NV.cells, NV.cv, NV.dv]
  have HC := hid hcm
  have HD := hid hdm
  clear hcm hdm
  have GB := hid ((Gr.refl w).alloc (.cells (ncells k i o (.slice cq cm cc) via bd (.slice dq dm dc) st) 67))
  have nb := heap_new' w (.cells (ncells k i o (.slice cq cm cc) via bd (.slice dq dm dc) st) 67)
  obtain ⟨W, hW⟩ : ∃ W, W = w.alloc (.cells (ncells k i o (.slice cq cm cc) via bd (.slice dq dm dc) st) 67) := ⟨_, rfl⟩
  rw [← hW] at GB nb
  have c0 := (tk_store nb).1
  have l0 := tk_lt nb
  have HW := hid hW.symm
  clear nb hW
  go_enter Try.func57, Try.ntmps57
  go_upto_region 1 with fail
  rw [show w.alloc (.cells #[.int .i64 k, .int .i64 i, .int .i64 o, .slice cq cm cc, .int .u64 (via.1 : Nat), .int .u64 (via.2.1 : Nat), .int .u64 (via.2.2 : Nat), .int .u64 (bd : Nat), .slice dq dm dc, .bool st] 67) = W from HW.out]
  go_cut [3] (fun s3 w' => ∃ b : Bool, s3 = .bool b ∧ b = (decide (k = 2) || decide (k = 3) || decide (cd.length = 0)) ∧ w' = W)
  case first =>
    by_cases h2 : k = 2
    · go_wp2_with fail
      go_meet
      exact ⟨_, rfl, by simp [h2], rfl⟩
    · by_cases h3 : k = 3
      · go_wp2_with fail
        go_meet
        exact ⟨_, rfl, by simp [h3], rfl⟩
      · go_wp2_with fail
        go_meet
        exact ⟨_, rfl, by rw [← HC.out, ← nz_beq]; simp [h2, h3], rfl⟩
  case rest =>
    obtain ⟨b1, rfl, hb1, rfl⟩ := hcut
    have HB1 := hid hb1
    clear hb1
    go_upto_region 2 with fail
    go_cut [4] (fun s4 w' => ∃ b : Bool, s4 = .bool b ∧ b = (decide (k = 5) || (decide (via = (0, 0, 0)) && decide (bd = 0))) ∧ w' = wc)
    case first =>
      by_cases h5 : k = 5
      · go_wp2_with fail
        go_meet
        exact ⟨_, rfl, by simp [h5], rfl⟩
      · by_cases hv : via = (0, 0, 0)
        · have hd : decide (via = (0, 0, 0)) = true := by simp [hv]
          rw [hd] at heq2
          clear hv
          go_wp2_with fail
          go_meet
          exact ⟨_, rfl, by rw [hd, ← nz_beq]; simp [h5], rfl⟩
        · have hd : decide (via = (0, 0, 0)) = false := by simp [hv]
          rw [hd] at heq2
          clear hv
          go_wp2_with fail
          go_meet
          exact ⟨_, rfl, by rw [hd]; simp [h5], rfl⟩
    case rest =>
      obtain ⟨b2, rfl, hb2, rfl⟩ := hcut
      have HB2 := hid hb2
      clear hb2 heq2
      go_upto_region 3 with fail
      go_cut [5] (fun s5 w' => ∃ b : Bool, s5 = .bool b ∧ b = (decide (k = 8) || (decide (cn.length = 0) && !st)) ∧ w' = wc)
      case first =>
        by_cases h8 : k = 8
        · go_wp2_with fail
          go_meet
          exact ⟨_, rfl, by simp [h8], rfl⟩
        · by_cases hn : dm = 0
          · have hnz : ((dm : Int) == 0) = true := by simp [hn]
            have HN := hid hn
            clear hn
            go_wp2_with fail
            go_meet
            exact ⟨_, rfl, by rw [← HD.out]; simp [h8, HN.out], rfl⟩
          · have hnz : ((dm : Int) == 0) = false := by simp [hn]
            have HN := hid hn
            clear hn
            go_wp2_with fail
            go_meet
            exact ⟨_, rfl, by rw [← HD.out]; simp [h8, HN.out], rfl⟩
      case rest =>
        obtain ⟨b3, rfl, hb3, rfl⟩ := hcut
        have HB3 := hid hb3
        have HR : Hid (bare ⟨k, i, o, cd, via, bd, cn, st⟩ = (b1 && b2 && b3)) := by
          show bare _ = _
          rw [HB1.out, HB2.out, HB3.out]
          rfl
        clear HB1 HB2 HB3 hb3
        cases b1 <;> cases b2 <;>
          (go_wp2_with fail
           go_ret
           exact ⟨by rw [HR.out]; rfl, GB.out⟩)
end Go.Proofs.Ytnclnagpfjmlcaa.Df
