import Derived.Test.YtnpmmodcmfgbjaaGreatMFn
import Derived.Deep.LoopGhost
namespace Go.Proofs.YtnpmmodcmfgbjaaGreat.Cn
open Go.RowKit Go.Sort
attribute [local go_sem ↓] Go.wp_at_zero Go.wp_at_succ

theorem len_ok {l : List Tm} (h : l.length * 24 ≤ 140737488355328) : l.length ≤ maxLen := by unfold maxLen; omega

set_option maxHeartbeats 1000000 in
theorem covers_any {cb fb ff : Nat} {v : Value} {l : List Tm} {bel : Tm → Tm → Bool} (x : Tm) (w : World) (hc : Ch w cb fb ff v l) (hl : l.length * 24 ≤ 140737488355328) (hF : FnOk fb bel) :
    Calls Tryz.prog 31 #[.pointer (some ⟨cb, 0, none⟩), tv x] w fun e w' => e = .returned (.bool (ccov bel l x)) ∧ Gr w w' := by
  obtain ⟨W2, hW2⟩ : ∃ W2, W2 = (w.alloc (.cells #[.pointer (some ⟨cb, 0, none⟩)] 62)).alloc (.cells #[.int .u64 x.1.1, .int .u64 x.1.2.1, .int .u64 x.1.2.2] 37) := ⟨_, rfl⟩
  have G2 : Gr w W2 := by rw [hW2]; exact ((Gr.refl _).alloc _).alloc _
  have hz : w.heap.size + 1 < W2.heap.size := by rw [hW2]; simp
  have b1 : W2.cell? ⟨w.heap.size, 0, none⟩ = some (.pointer (some ⟨cb, 0, none⟩)) := by rw [hW2]; simp
  have b2 : W2.cell? ⟨w.heap.size + 1, 0, none⟩ = some (.int .u64 x.1.1) := by rw [hW2]; simp
  have b3 : W2.cell? ⟨w.heap.size + 1, 1, none⟩ = some (.int .u64 x.1.2.1) := by rw [hW2]; simp
  have b4 : W2.cell? ⟨w.heap.size + 1, 2, none⟩ = some (.int .u64 x.1.2.2) := by rw [hW2]; simp
  have hc2 := hc.below G2.below
  have hP : PredG 54 #[.pointer (some ⟨w.heap.size, 0, none⟩), .pointer (some ⟨w.heap.size + 1, 0, none⟩)] (fun y => bel y x) W2 := fun W y hg =>
    covers1_any fb bel hF y x w.heap.size (w.heap.size + 1) cb W (Nat.lt_of_lt_of_le (by omega) hg.size) (Nat.lt_of_lt_of_le hz hg.size) (Nat.lt_of_lt_of_le hc2.lt hg.size)
      ((hg.cell (by omega)).trans b1) ((hg.cell hz).trans b2) ((hg.cell hz).trans b3) ((hg.cell hz).trans b4) ((hg.cell hc2.lt).trans hc2.c0)
  have h := containsFunc_any v l _ _ _ W2 hc2.lst (len_ok hl) (enters_of Tryz.func54 (by kernel_rfl) rfl) hP
  rw [show (l.any fun y => bel y x) = ccov bel l x from rfl] at h
  generalize ccov bel l x = r at h ⊢
  have k2 := hc.c2
  have kl := hc.lt
  clear hP hc2 b1 b2 b3 b4
  subst hW2
  go_enter Tryz.func31, Tryz.ntmps31
  go_wp2_with fail
  refine h.mono ?_
  rintro e w1 ⟨rfl, hg⟩
  go_wp2
  go_ret
  exact ⟨rfl, G2.trans hg⟩
set_option maxHeartbeats 1000000 in
theorem covers_nil (x : Tm) (w : World) : Calls Tryz.prog 31 #[.pointer none, tv x] w fun e w' => e = .returned (.bool false) ∧ Gr w w' := by
  go_enter Tryz.func31, Tryz.ntmps31
  go_wp2
  go_ret
  exact ⟨rfl, ((Gr.refl _).alloc _).alloc _⟩

theorem idxv_place (p : Tm → Bool) (l : List Tm) : (idxv p l < 0 ∧ (l.length : Int) = (l.findIdx p : Int)) ∨ (¬ idxv p l < 0 ∧ idxv p l = (l.findIdx p : Int)) := by
  unfold idxv
  by_cases h : l.findIdx p < l.length
  · rw [if_pos h]; right; exact ⟨by omega, rfl⟩
  · rw [if_neg h]; left; have := List.findIdx_le_length (p := p) (xs := l); exact ⟨by omega, by omega⟩
set_option maxHeartbeats 1000000 in
/-- Where v comes into a list. -/
theorem place_any {cb fb ff : Nat} {v u : Value} {l m : List Tm} {fst : Tm → Tm → Bool} (x : Tm) (w : World) (hc : Ch w cb fb ff v l) (hu : Lst w u m) (hl : m.length * 24 ≤ 140737488355328) (hF : FnOk ff fst) :
    Calls Tryz.prog 78 #[.pointer (some ⟨cb, 0, none⟩), u, tv x] w fun e w' => e = .returned (.int .i64 (m.findIdx fun y => fst x y : Nat)) ∧ Gr w w' := by
  obtain ⟨W2, hW2⟩ : ∃ W2, W2 = (w.alloc (.cells #[.pointer (some ⟨cb, 0, none⟩)] 62)).alloc (.cells #[.int .u64 x.1.1, .int .u64 x.1.2.1, .int .u64 x.1.2.2] 37) := ⟨_, rfl⟩
  have G2 : Gr w W2 := by rw [hW2]; exact ((Gr.refl _).alloc _).alloc _
  have hz : w.heap.size + 1 < W2.heap.size := by rw [hW2]; simp
  have b1 : W2.cell? ⟨w.heap.size, 0, none⟩ = some (.pointer (some ⟨cb, 0, none⟩)) := by rw [hW2]; simp
  have b2 : W2.cell? ⟨w.heap.size + 1, 0, none⟩ = some (.int .u64 x.1.1) := by rw [hW2]; simp
  have b3 : W2.cell? ⟨w.heap.size + 1, 1, none⟩ = some (.int .u64 x.1.2.1) := by rw [hW2]; simp
  have b4 : W2.cell? ⟨w.heap.size + 1, 2, none⟩ = some (.int .u64 x.1.2.2) := by rw [hW2]; simp
  have hc2 := hc.below G2.below
  have hP : PredG 85 #[.pointer (some ⟨w.heap.size, 0, none⟩), .pointer (some ⟨w.heap.size + 1, 0, none⟩)] (fun y => fst x y) W2 := fun W y hg =>
    place1_any ff fst hF y x w.heap.size (w.heap.size + 1) cb W (Nat.lt_of_lt_of_le (by omega) hg.size) (Nat.lt_of_lt_of_le hz hg.size) (Nat.lt_of_lt_of_le hc2.lt hg.size)
      ((hg.cell (by omega)).trans b1) ((hg.cell hz).trans b2) ((hg.cell hz).trans b3) ((hg.cell hz).trans b4) ((hg.cell hc2.lt).trans hc2.c1)
  have h := indexFunc_any u m _ _ _ W2 (hu.below G2.below) (len_ok hl) (enters_of Tryz.func85 (by kernel_rfl) rfl) hP
  have hi := idxv_place (fun y => fst x y) m
  obtain ⟨pu, cu, rfl⟩ := hu.form
  generalize idxv (fun y => fst x y) m = r at h hi
  generalize List.findIdx (fun y => fst x y) m = q at hi ⊢
  have k2 := hc.c2
  have kl := hc.lt
  clear hP hc2 b1 b2 b3 b4 hu
  subst hW2
  rcases hi with ⟨h1, h2⟩ | ⟨h1, h2⟩
  · have HQ : Hid ((m.length : Int) = (q : Int)) := h2
    clear h2
    go_enter Tryz.func78, Tryz.ntmps78
    go_wp2_with fail
    refine h.mono ?_
    rintro e w1 ⟨rfl, hg⟩
    go_wp2
    go_ret
    exact ⟨by rw [← HQ.out]; rfl, G2.trans hg⟩
  · have HQ : Hid (r = (q : Int)) := h2
    clear h2
    go_enter Tryz.func78, Tryz.ntmps78
    go_wp2_with fail
    refine h.mono ?_
    rintro e w1 ⟨rfl, hg⟩
    go_wp2
    go_ret
    exact ⟨by rw [← HQ.out]; rfl, G2.trans hg⟩
end Go.Proofs.YtnpmmodcmfgbjaaGreat.Cn
