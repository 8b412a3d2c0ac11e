import Derived.Test.YtcmgmgnmhhkdgaaLgChg
import Derived.Test.YtcmgmgnmhhkdgaaLgPur
import Derived.BigQuiet
namespace Go.Proofs.Ytcmgmgnmhhkdgaa
open Go.RowKit Go.Sort Go.Maps Go.Shelf
open Tt (Tl addc addf byd byd_f)
attribute [local go_sem ↓] Go.wp_at_zero Go.wp_at_succ

theorem stS_eq {ks l : List Sm} (hp : ks.Perm l) (hs : l.Pairwise fun a b => slt a b = true) : stS ks = l := by
  refine List.Perm.eq_of_pairwise (le := fun x y => (!(ltOf scm) y x) = true) (fun x y _ _ h1 h2 => ?_) (srtBy_sorted swoS ks) (hs.imp fun {a b} hab => ?_) ((srtBy_perm scm ks).trans hp)
  · simp only [Bool.not_eq_true'] at h1 h2
    exact totS x y h2 h1
  · cases hq : ltOf scm b a with
    | false => rfl
    | true => have := swoS.trans _ _ _ hab hq; rw [swoS.irrefl] at this; cases this
set_option maxHeartbeats 1000000 in
/-- The same changes. -/
theorem same_any {va vb : Value} {l : List Cg} (w : World) (ha : Ls EC w va l) (hb : Ls EC w vb l) (hl : l.length ≤ 140737488355328) : Calls Try.prog 8 #[va, vb] w fun e w' => e = .returned (.bool true) ∧ Gr w w' := by
  obtain ⟨pa, ca, rfl⟩ := ha.form
  obtain ⟨pb, cb, rfl⟩ := hb.form
  have heq := fun (s t : Cg) W => run_eqC s t W
  have hm : Try.prog.follows .mixedOrders = true := by kernel_rfl
  have Ha := hid ha
  have Hb := hid hb
  clear ha hb
  go_enter Try.func8, Try.ntmps8
  go_wp2_with fail
  go_loopw [13] (fun s13 wr => ∃ k : Nat, k ≤ l.length ∧ s13 = .int .i64 (k : Nat) ∧ Gr w wr) (fun s13 _ => l.length - (RowKit.intOf s13).toNat)
  case atStart => exact ⟨0, Nat.zero_le _, rfl, Gr.refl _⟩
  case round =>
    obtain ⟨k, hk, rfl, hgr⟩ := hrel
    by_cases hlt : k < l.length
    · have hltz : (k : Int) < (l.length : Int) := by omega
      have hk0 : (0 : Int) ≤ (k : Int) := by omega
      obtain ⟨s, hs⟩ : ∃ s, l[k]? = some s := ⟨l[k], by simp⟩
      obtain ⟨b1, o1, c1, e1, z1, x0, x1, x2, x3, x4⟩ := (Ha.out.below hgr.below).atC hs
      obtain ⟨b2, o2, c2, e2, z2, y0, y1, y2, y3, y4⟩ := (Hb.out.below hgr.below).atC hs
      simp only [Value.slice.injEq] at e1 e2
      obtain ⟨rfl, -, rfl⟩ := e1
      obtain ⟨rfl, -, rfl⟩ := e2
      have hq := fun W => heq s s W
      simp only [decide_true] at hq
      have GR' := hid hgr
      clear hs hgr heq
      go_wp2_with fail
      go_quiet (fail)
      go_wp2_with fail
      go_roundw
      case rel => exact ⟨k + 1, by omega, by go_num, GR'.out.drewN _⟩
      case measure => simp [RowKit.intOf]; omega
    · have hltz : ¬ (k : Int) < (l.length : Int) := by omega
      go_wp2
      go_ret
      exact ⟨rfl, hgr⟩
end Go.Proofs.Ytcmgmgnmhhkdgaa
