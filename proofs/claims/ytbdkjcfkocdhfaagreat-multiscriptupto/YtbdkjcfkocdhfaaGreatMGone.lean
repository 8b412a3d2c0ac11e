import Derived.Test.YtbdkjcfkocdhfaaGreatMKeys
import Derived.Lib.SliceRun
namespace Go.Proofs.YtbdkjcfkocdhfaaGreat
open Go.RowKit Go.Sort Go.Maps
open Tt (Tl byd byd_f byd_t)
attribute [local go_sem ↓] Go.wp_at_zero Go.wp_at_succ

set_option maxHeartbeats 2000000 in
theorem gone_any {B mb tb b g n : Nat} {f : Tm → Int} (x : Tm) (w : World) (hB : w.cell? ⟨B, 0, none⟩ = some (.pointer (some ⟨mb, 0, none⟩))) (hm : w.cell? ⟨mb, 0, none⟩ = some (.pointer (some ⟨tb, 0, none⟩))) (hBl : B < w.heap.size) (hml : mb < w.heap.size) (ht : Tl w tb b g n f) :
    Calls Tryz.prog 58 #[tv x, .pointer (some ⟨B, 0, none⟩)] w fun e w' => e = .returned (.bool (decide (f x ≤ 0))) ∧ Gr w w' := by
  have hmx : Tryz.prog.follows .mixedOrders = true := by kernel_rfl
  obtain ⟨W1, hW1⟩ : ∃ W1, W1 = w.alloc (.cells #[.int .u64 x.1.1, .int .u64 x.1.2.1, .int .u64 x.1.2.2] 32) := ⟨_, rfl⟩
  obtain ⟨nb, hnb⟩ : ∃ nb, nb = w.heap.size := ⟨_, rfl⟩
  have G1 : Gr w W1 := by rw [hW1]; exact (Gr.refl _).alloc _
  have HG : Hid (Gr w W1.drew) := G1.drew
  have hco := mcount_any x W1.drew (ht.gr G1.drew)
  have hblk : W1.heap[nb]? = some (.cells #[.int .u64 x.1.1, .int .u64 x.1.2.1, .int .u64 x.1.2.2] 32 (0, 0)) := by rw [hW1, hnb]; exact heap_new' _ _
  have S0 : W1.drew.cell? ⟨B, 0, none⟩ = some (.pointer (some ⟨mb, 0, none⟩)) ∧ W1.drew.cell? ⟨mb, 0, none⟩ = some (.pointer (some ⟨tb, 0, none⟩)) ∧ W1.drew.cell? ⟨nb, 0, none⟩ = some (.int .u64 x.1.1) ∧ W1.drew.cell? ⟨nb, 1, none⟩ = some (.int .u64 x.1.2.1) ∧ W1.drew.cell? ⟨nb, 2, none⟩ = some (.int .u64 x.1.2.2) ∧ B < W1.drew.heap.size ∧ mb < W1.drew.heap.size ∧ nb < W1.drew.heap.size := by
    refine ⟨(G1.drew.cell hBl).trans hB, (G1.drew.cell hml).trans hm, ?_, ?_, ?_, Nat.lt_of_lt_of_le hBl G1.size, Nat.lt_of_lt_of_le hml G1.size, (Array.getElem?_eq_some_iff.1 hblk).1⟩
    all_goals (show W1.cell? _ = _; simp only [World.cell?]; rw [hblk]; rfl)
  have keepG : ∀ W W' : World, (W.cell? ⟨B, 0, none⟩ = some (.pointer (some ⟨mb, 0, none⟩)) ∧ W.cell? ⟨mb, 0, none⟩ = some (.pointer (some ⟨tb, 0, none⟩)) ∧ W.cell? ⟨nb, 0, none⟩ = some (.int .u64 x.1.1) ∧ W.cell? ⟨nb, 1, none⟩ = some (.int .u64 x.1.2.1) ∧ W.cell? ⟨nb, 2, none⟩ = some (.int .u64 x.1.2.2) ∧ B < W.heap.size ∧ mb < W.heap.size ∧ nb < W.heap.size) → Gr W W' →
      (W'.cell? ⟨B, 0, none⟩ = some (.pointer (some ⟨mb, 0, none⟩)) ∧ W'.cell? ⟨mb, 0, none⟩ = some (.pointer (some ⟨tb, 0, none⟩)) ∧ W'.cell? ⟨nb, 0, none⟩ = some (.int .u64 x.1.1) ∧ W'.cell? ⟨nb, 1, none⟩ = some (.int .u64 x.1.2.1) ∧ W'.cell? ⟨nb, 2, none⟩ = some (.int .u64 x.1.2.2) ∧ B < W'.heap.size ∧ mb < W'.heap.size ∧ nb < W'.heap.size) := fun W W' h hg =>
    ⟨(hg.cell h.2.2.2.2.2.1).trans h.1, (hg.cell h.2.2.2.2.2.2.1).trans h.2.1, (hg.cell h.2.2.2.2.2.2.2).trans h.2.2.1, (hg.cell h.2.2.2.2.2.2.2).trans h.2.2.2.1, (hg.cell h.2.2.2.2.2.2.2).trans h.2.2.2.2.1, Nat.lt_of_lt_of_le h.2.2.2.2.2.1 hg.size, Nat.lt_of_lt_of_le h.2.2.2.2.2.2.1 hg.size, Nat.lt_of_lt_of_le h.2.2.2.2.2.2.2 hg.size⟩
  generalize f x = c at hco ⊢
  clear ht hblk
  go_enter Tryz.func58, Tryz.ntmps58
  go_wp2_with fail
  rw [← hW1, ← hnb]
  clear hW1 hnb hB hm hBl hml G1
  go_region_held3 (fun w' => w'.cell? ⟨B, 0, none⟩ = some (.pointer (some ⟨mb, 0, none⟩)) ∧ w'.cell? ⟨mb, 0, none⟩ = some (.pointer (some ⟨tb, 0, none⟩)) ∧ w'.cell? ⟨nb, 0, none⟩ = some (.int .u64 x.1.1) ∧ w'.cell? ⟨nb, 1, none⟩ = some (.int .u64 x.1.2.1) ∧ w'.cell? ⟨nb, 2, none⟩ = some (.int .u64 x.1.2.2) ∧ B < w'.heap.size ∧ mb < w'.heap.size ∧ nb < w'.heap.size)
    (first | exact S0 | exact keepG _ _ (by assumption) (by assumption))
    (first | (go_at_call 43; refine hco.mono ?_; rintro e w5 ⟨rfl, hg5⟩))
  go_wp2
  go_ret
  exact ⟨rfl, HG.out.trans hg5⟩
end Go.Proofs.YtbdkjcfkocdhfaaGreat
