import Derived.Test.YtdiecnacbkpceaaGEds
import Derived.Test.YtdiecnacbkpceaaGEq
import Derived.BigQuiet
namespace Go.Proofs.Ytdiecnacbkpceaa.Df
open Go.RowKit Go.Sort
attribute [local go_sem ↓] Go.wp_at_zero Go.wp_at_succ

set_option maxHeartbeats 1000000 in
theorem sops_eq {M : Nat} {va vb : Value} {l : List Opd} (w : World) (ha : Lz EO M w va l) (hb : Lz EO M w vb l) (hl : l.length ≤ 140737488355328) : Calls Try.prog 54 #[va, vb] w fun e w' => e = .returned (.bool true) ∧ Gr w w' := by
  obtain ⟨pa, ca, rfl⟩ := ha.form
  obtain ⟨pb, cb, rfl⟩ := hb.form
  have heq := fun (s t : Opd) W => run_eqO s t W
  have hm : Try.prog.follows .mixedOrders = true := by kernel_rfl
  have Ha := hid ha
  have Hb := hid hb
  clear ha hb
  go_enter Try.func54, Try.ntmps54
  go_wp2_with fail
  go_loopw [5] (fun s5 wr => ∃ k : Nat, k ≤ l.length ∧ s5 = .int .i64 (k : Nat) ∧ Gr w wr) (fun s5 _ => l.length - (RowKit.intOf s5).toNat)
  case atStart => exact ⟨0, Nat.zero_le _, rfl, Gr.refl _⟩
  case round =>
    obtain ⟨k, hk, rfl, hgr⟩ := hrel
    by_cases hlt : k < l.length
    · have hltz : (k : Int) < (l.length : Int) := by omega
      have hk0 : (0 : Int) ≤ (k : Int) := by omega
      obtain ⟨s, hs⟩ : ∃ s, l[k]? = some s := ⟨l[k], by simp⟩
      obtain ⟨b1, o1, c1, e1, z1, x0, x1⟩ := ls_atO ((Ha.out.below hgr.below).ls hs) hs
      obtain ⟨b2, o2, c2, e2, z2, y0, y1⟩ := ls_atO ((Hb.out.below hgr.below).ls hs) hs
      simp only [Value.slice.injEq] at e1 e2
      obtain ⟨rfl, -, rfl⟩ := e1
      obtain ⟨rfl, -, rfl⟩ := e2
      have GR' := hid hgr
      clear hs hgr
      go_wp2_with fail
      go_quiet (fail)
      go_wp2_with fail
      go_roundw
      case rel => exact ⟨k + 1, by omega, by go_num, GR'.out.drewN _⟩
      case measure => simp [RowKit.intOf]; omega
    · have hltz : ¬ (k : Int) < (l.length : Int) := by omega
      go_wp2_with fail
      go_ret
      exact ⟨rfl, hgr⟩
set_option maxHeartbeats 1000000 in
theorem scons_eq {M : Nat} {va vb : Value} {l : List Con} (w : World) (ha : Lz EC M w va l) (hb : Lz EC M w vb l) (hl : l.length ≤ 140737488355328) : Calls Try.prog 25 #[va, vb] w fun e w' => e = .returned (.bool true) ∧ Gr w w' := by
  obtain ⟨pa, ca, rfl⟩ := ha.form
  obtain ⟨pb, cb, rfl⟩ := hb.form
  have heq := fun (s t : Con) W => run_eqC s t W
  have hm : Try.prog.follows .mixedOrders = true := by kernel_rfl
  have Ha := hid ha
  have Hb := hid hb
  clear ha hb
  go_enter Try.func25, Try.ntmps25
  go_wp2_with fail
  go_loopw [5] (fun s5 wr => ∃ k : Nat, k ≤ l.length ∧ s5 = .int .i64 (k : Nat) ∧ Gr w wr) (fun s5 _ => l.length - (RowKit.intOf s5).toNat)
  case atStart => exact ⟨0, Nat.zero_le _, rfl, Gr.refl _⟩
  case round =>
    obtain ⟨k, hk, rfl, hgr⟩ := hrel
    by_cases hlt : k < l.length
    · have hltz : (k : Int) < (l.length : Int) := by omega
      have hk0 : (0 : Int) ≤ (k : Int) := by omega
      obtain ⟨s, hs⟩ : ∃ s, l[k]? = some s := ⟨l[k], by simp⟩
      obtain ⟨b1, o1, c1, e1, z1, x0, x1, x2, x3, x4⟩ := ls_atC ((Ha.out.below hgr.below).ls hs) hs
      obtain ⟨b2, o2, c2, e2, z2, y0, y1, y2, y3, y4⟩ := ls_atC ((Hb.out.below hgr.below).ls hs) hs
      simp only [Value.slice.injEq] at e1 e2
      obtain ⟨rfl, -, rfl⟩ := e1
      obtain ⟨rfl, -, rfl⟩ := e2
      have GR' := hid hgr
      clear hs hgr
      go_wp2_with fail
      go_quiet (fail)
      go_wp2_with fail
      go_roundw
      case rel => exact ⟨k + 1, by omega, by go_num, GR'.out.drewN _⟩
      case measure => simp [RowKit.intOf]; omega
    · have hltz : ¬ (k : Int) < (l.length : Int) := by omega
      go_wp2_with fail
      go_ret
      exact ⟨rfl, hgr⟩
set_option maxHeartbeats 1000000 in
theorem sints_eq {M : Nat} {va vb : Value} {l : List Int} (w : World) (ha : Lz EI M w va l) (hb : Lz EI M w vb l) (hl : l.length ≤ 140737488355328) : Calls Try.prog 41 #[va, vb] w fun e w' => e = .returned (.bool true) ∧ Gr w w' := by
  obtain ⟨pa, ca, rfl⟩ := ha.form
  obtain ⟨pb, cb, rfl⟩ := hb.form
  have hm : Try.prog.follows .mixedOrders = true := by kernel_rfl
  have Ha := hid ha
  have Hb := hid hb
  clear ha hb
  go_enter Try.func41, Try.ntmps41
  go_wp2_with fail
  go_loopw [5] (fun s5 wr => ∃ k : Nat, k ≤ l.length ∧ s5 = .int .i64 (k : Nat) ∧ Gr w wr) (fun s5 _ => l.length - (RowKit.intOf s5).toNat)
  case atStart => exact ⟨0, Nat.zero_le _, rfl, Gr.refl _⟩
  case round =>
    obtain ⟨k, hk, rfl, hgr⟩ := hrel
    by_cases hlt : k < l.length
    · have hltz : (k : Int) < (l.length : Int) := by omega
      have hk0 : (0 : Int) ≤ (k : Int) := by omega
      obtain ⟨s, hs⟩ : ∃ s, l[k]? = some s := ⟨l[k], by simp⟩
      obtain ⟨b1, o1, c1, e1, z1, x0⟩ := ls_atI ((Ha.out.below hgr.below).ls hs) hs
      obtain ⟨b2, o2, c2, e2, z2, y0⟩ := ls_atI ((Hb.out.below hgr.below).ls hs) hs
      simp only [Value.slice.injEq] at e1 e2
      obtain ⟨rfl, -, rfl⟩ := e1
      obtain ⟨rfl, -, rfl⟩ := e2
      have GR' := hid hgr
      clear hs hgr
      go_wp2_with fail
      go_quiet (fail)
      go_wp2_with fail
      go_roundw
      case rel => exact ⟨k + 1, by omega, by go_num, GR'.out.drewN _⟩
      case measure => simp [RowKit.intOf]; omega
    · have hltz : ¬ (k : Int) < (l.length : Int) := by omega
      go_wp2_with fail
      go_ret
      exact ⟨rfl, hgr⟩
end Go.Proofs.Ytdiecnacbkpceaa.Df
