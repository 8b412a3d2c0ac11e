import Derived.Test.YtnpmmodcmfgbjaaGreatMMeth
import Derived.Lib.SliceRun
namespace Go.Proofs.YtnpmmodcmfgbjaaGreat
open Go.RowKit Go.Sort Go.Maps
attribute [local go_sem ↓] Go.wp_at_zero Go.wp_at_succ

set_option maxHeartbeats 1000000 in
theorem open1_any (x t : Tm) (B : Nat) (w : World) (hB : B < w.heap.size) (g0 : w.cell? ⟨B, 0, none⟩ = some (.int .u64 t.1.1)) (g1 : w.cell? ⟨B, 1, none⟩ = some (.int .u64 t.1.2.1)) (g2 : w.cell? ⟨B, 2, none⟩ = some (.int .u64 t.1.2.2)) :
    Calls Tryz.prog 77 #[tv x, .pointer (some ⟨B, 0, none⟩)] w fun e w' => e = .returned (.bool (bel x t)) ∧ Gr w w' := by
  have H := fun W => ahead_ok.calls x t W
  generalize bel x t = r at H ⊢
  have hne : B ≠ w.heap.size := by omega
  go_enter Tryz.func77, Tryz.ntmps77
  go_wp2_with (go_at_call 27; refine (H _).mono ?_; rintro e w1 ⟨rfl, hg⟩)
  go_ret
  exact ⟨rfl, ((Gr.refl _).alloc _).trans hg⟩
set_option maxHeartbeats 1000000 in
/-- Open at a list of times. -/
theorem sopen_any (v : Value) (l : List Tm) (x : Tm) (w : World) (hv : Lst w v l) (hl : l.length ≤ maxLen) :
    Calls Tryz.prog 67 #[v, tv x] w fun e w' => e = .returned (.bool (ccov bel l x)) ∧ Gr w w' := by
  obtain ⟨W2, hW2⟩ : ∃ W2, W2 = w.alloc (.cells #[.int .u64 x.1.1, .int .u64 x.1.2.1, .int .u64 x.1.2.2] 37) := ⟨_, rfl⟩
  have G2 : Gr w W2 := by rw [hW2]; exact (Gr.refl _).alloc _
  have hz : w.heap.size < W2.heap.size := by rw [hW2]; simp
  have b2 : W2.cell? ⟨w.heap.size, 0, none⟩ = some (.int .u64 x.1.1) := by rw [hW2]; simp
  have b3 : W2.cell? ⟨w.heap.size, 1, none⟩ = some (.int .u64 x.1.2.1) := by rw [hW2]; simp
  have b4 : W2.cell? ⟨w.heap.size, 2, none⟩ = some (.int .u64 x.1.2.2) := by rw [hW2]; simp
  have hP : Cn.PredG 77 #[.pointer (some ⟨w.heap.size, 0, none⟩)] (fun y => bel y x) W2 := fun W y hg =>
    open1_any y x w.heap.size W (Nat.lt_of_lt_of_le hz hg.size) ((hg.cell hz).trans b2) ((hg.cell hz).trans b3) ((hg.cell hz).trans b4)
  have h := Cn.containsFunc_any v l _ _ _ W2 (hv.below G2.below) hl (enters_of Tryz.func77 (by kernel_rfl) rfl) hP
  rw [show (l.any fun y => bel y x) = ccov bel l x from rfl] at h
  generalize ccov bel l x = r at h ⊢
  obtain ⟨pl, cl, rfl⟩ := hv.form
  clear hP b2 b3 b4 hv
  subst hW2
  go_enter Tryz.func67, Tryz.ntmps67
  go_wp2_with fail
  refine h.mono ?_
  rintro e w1 ⟨rfl, hg⟩
  go_wp2
  go_ret
  exact ⟨rfl, G2.trans hg⟩
end Go.Proofs.YtnpmmodcmfgbjaaGreat
