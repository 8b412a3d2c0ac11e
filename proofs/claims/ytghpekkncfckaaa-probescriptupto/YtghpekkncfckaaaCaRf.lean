import Derived.Test.YtghpekkncfckaaaCaBase
import Derived.Shelf.SlSortCmp.QuietGrown
namespace Go.Proofs.Ytghpekkncfckaaa.Ca
open Go.RowKit Go.Sort
attribute [local go_sem ↓] Go.wp_at_zero Go.wp_at_succ

theorem opn_true {l : List T3} {t : T3} : opn l t = true ↔ ∃ y ∈ l, bel y t = true := by simp [opn]
theorem opn_false {l : List T3} {t : T3} : opn l t = false ↔ ∀ y ∈ l, bel y t = false := by simp [opn]
set_option maxHeartbeats 1000000 in
theorem r5ahead_any (a b : T3) (w : World) : Calls Try.prog 14 #[tv a, tv b] w fun e w' => e = .returned (.bool (bel a b)) ∧ Gr w w' := by
  by_cases h1 : a.1 ≤ b.1
  · by_cases h2 : a.2.1 ≤ b.2.1
    · by_cases h3 : a.2.2 ≤ b.2.2
      · rw [show bel a b = true by simp [bel, *]]
        go_enter Try.func14, Try.ntmps14
        go_wp2
        go_ret
        exact ⟨rfl, ((Gr.refl _).alloc _).alloc _⟩
      · rw [show bel a b = false by simp [bel, *]]
        go_enter Try.func14, Try.ntmps14
        go_wp2
        go_ret
        exact ⟨rfl, ((Gr.refl _).alloc _).alloc _⟩
    · rw [show bel a b = false by simp [bel, *]]
      go_enter Try.func14, Try.ntmps14
      go_wp2
      go_ret
      exact ⟨rfl, ((Gr.refl _).alloc _).alloc _⟩
  · rw [show bel a b = false by simp [bel, *]]
    go_enter Try.func14, Try.ntmps14
    go_wp2
    go_ret
    exact ⟨rfl, ((Gr.refl _).alloc _).alloc _⟩
set_option maxHeartbeats 1000000 in
theorem r5told_any (a b : T3) (w : World) : Calls Try.prog 32 #[tv a, tv b] w fun e w' => e = .returned (.bool (tol a b)) ∧ Gr w w' := by
  by_cases h1 : a.1 = b.1
  · have g1 : (a.1 != b.1) = false := by simp [h1]
    by_cases h2 : a.2.1 = b.2.1
    · have g2 : (a.2.1 != b.2.1) = false := by simp [h2]
      by_cases h3 : a.2.2 < b.2.2
      · rw [show tol a b = true by first | (rw [tol_iff]; omega) | (rw [tol_not]; omega)]
        go_enter Try.func32, Try.ntmps32
        go_wp2
        go_ret
        exact ⟨rfl, ((Gr.refl _).alloc _).alloc _⟩
      · rw [show tol a b = false by first | (rw [tol_iff]; omega) | (rw [tol_not]; omega)]
        go_enter Try.func32, Try.ntmps32
        go_wp2
        go_ret
        exact ⟨rfl, ((Gr.refl _).alloc _).alloc _⟩
    · have g2 : (a.2.1 != b.2.1) = true := by simp [h2]
      by_cases h3 : a.2.1 < b.2.1
      · rw [show tol a b = true by first | (rw [tol_iff]; omega) | (rw [tol_not]; omega)]
        go_enter Try.func32, Try.ntmps32
        go_wp2
        go_ret
        exact ⟨rfl, ((Gr.refl _).alloc _).alloc _⟩
      · rw [show tol a b = false by first | (rw [tol_iff]; omega) | (rw [tol_not]; omega)]
        go_enter Try.func32, Try.ntmps32
        go_wp2
        go_ret
        exact ⟨rfl, ((Gr.refl _).alloc _).alloc _⟩
  · have g1 : (a.1 != b.1) = true := by simp [h1]
    by_cases h3 : a.1 < b.1
    · rw [show tol a b = true by first | (rw [tol_iff]; omega) | (rw [tol_not]; omega)]
      go_enter Try.func32, Try.ntmps32
      go_wp2
      go_ret
      exact ⟨rfl, ((Gr.refl _).alloc _).alloc _⟩
    · rw [show tol a b = false by first | (rw [tol_iff]; omega) | (rw [tol_not]; omega)]
      go_enter Try.func32, Try.ntmps32
      go_wp2
      go_ret
      exact ⟨rfl, ((Gr.refl _).alloc _).alloc _⟩
set_option maxHeartbeats 1000000 in
set_option maxRecDepth 100000 in
theorem r5open_any (v : Value) (l : List T3) (x : T3) (w : World) (hv : Ls ET w v l) (hl : l.length ≤ 9223372036854775807) :
    Calls Try.prog 15 #[v, tv x] w fun e w' => e = .returned (.bool (opn l x)) ∧ Gr w w' := by
  have hmx : Try.prog.follows .mixedOrders = true := by kernel_rfl
  obtain ⟨pl, cl, rfl⟩ := hv.form
  obtain ⟨W1, hW1⟩ : ∃ W1, W1 = w.alloc (.cells #[.int .u64 x.1, .int .u64 x.2.1, .int .u64 x.2.2] 25) := ⟨_, rfl⟩
  obtain ⟨B0, hB0⟩ : ∃ B0, B0 = w.heap.size := ⟨_, rfl⟩
  have G1 : Gr w W1 := by rw [hW1]; exact (Gr.refl _).alloc _
  have HG : Hid (Gr w W1) := G1
  have HL : Hid (Ls ET W1 (.slice pl l.length cl) l) := hv.below G1.below
  have hblk : W1.heap[B0]? = some (.cells #[.int .u64 x.1, .int .u64 x.2.1, .int .u64 x.2.2] 25 (0, 0)) := by rw [hW1, hB0]; exact heap_new' _ _
  have hB : B0 < W1.heap.size := (Array.getElem?_eq_some_iff.1 hblk).1
  have q0 : W1.cell? ⟨B0, 0, none⟩ = some (.int .u64 x.1) := by simp only [World.cell?]; rw [hblk]; rfl
  have q1 : W1.cell? ⟨B0, 1, none⟩ = some (.int .u64 x.2.1) := by simp only [World.cell?]; rw [hblk]; rfl
  have q2 : W1.cell? ⟨B0, 2, none⟩ = some (.int .u64 x.2.2) := by simp only [World.cell?]; rw [hblk]; rfl
  clear hblk hv G1
  go_enter Try.func15, Try.ntmps15
  go_wp2_with fail
  rw [← hW1, ← hB0]
  clear hW1 hB0
  go_loopw [5] (fun s5 wr => ∃ k : Nat, k ≤ l.length ∧ s5 = .int .i64 k ∧ Gr W1 wr ∧ Hid (∀ y ∈ l.take k, bel y x = false)) (fun s5 _ => l.length - (RowKit.intOf s5).toNat)
  case atStart => exact ⟨0, Nat.zero_le _, rfl, Gr.refl _, by simp [Hid]⟩
  case round =>
    obtain ⟨k, hk, rfl, hgr, A⟩ := hrel
    by_cases hlt : k < l.length
    · have hltz : (k : Int) < (l.length : Int) := by omega
      obtain ⟨y, hy⟩ : ∃ y, l[k]? = some y := ⟨l[k], by simp⟩
      obtain ⟨b1, o1, c1, e1, z1, x1, x2, x3⟩ := atT (HL.out.below hgr.below) hy
      simp only [Value.slice.injEq] at e1
      obtain ⟨rfl, -, rfl⟩ := e1
      have HY : Hid (l[k]? = some y) := hy
      have S0 : (wr.drew.cell? ⟨b1, o1 + k * 3, none⟩ = some (.int .u64 y.1) ∧ wr.drew.cell? ⟨b1, o1 + k * 3 + 1, none⟩ = some (.int .u64 y.2.1) ∧ wr.drew.cell? ⟨b1, o1 + k * 3 + 2, none⟩ = some (.int .u64 y.2.2) ∧ wr.drew.cell? ⟨B0, 0, none⟩ = some (.int .u64 x.1) ∧ wr.drew.cell? ⟨B0, 1, none⟩ = some (.int .u64 x.2.1) ∧ wr.drew.cell? ⟨B0, 2, none⟩ = some (.int .u64 x.2.2) ∧ b1 < wr.drew.heap.size ∧ B0 < wr.drew.heap.size) := ⟨x1, x2, x3, (hgr.cell hB).trans q0, (hgr.cell hB).trans q1, (hgr.cell hB).trans q2, z1, Nat.lt_of_lt_of_le hB hgr.size⟩
      have keepG : ∀ W W' : World, (W.cell? ⟨b1, o1 + k * 3, none⟩ = some (.int .u64 y.1) ∧ W.cell? ⟨b1, o1 + k * 3 + 1, none⟩ = some (.int .u64 y.2.1) ∧ W.cell? ⟨b1, o1 + k * 3 + 2, none⟩ = some (.int .u64 y.2.2) ∧ W.cell? ⟨B0, 0, none⟩ = some (.int .u64 x.1) ∧ W.cell? ⟨B0, 1, none⟩ = some (.int .u64 x.2.1) ∧ W.cell? ⟨B0, 2, none⟩ = some (.int .u64 x.2.2) ∧ b1 < W.heap.size ∧ B0 < W.heap.size) → Gr W W' → (W'.cell? ⟨b1, o1 + k * 3, none⟩ = some (.int .u64 y.1) ∧ W'.cell? ⟨b1, o1 + k * 3 + 1, none⟩ = some (.int .u64 y.2.1) ∧ W'.cell? ⟨b1, o1 + k * 3 + 2, none⟩ = some (.int .u64 y.2.2) ∧ W'.cell? ⟨B0, 0, none⟩ = some (.int .u64 x.1) ∧ W'.cell? ⟨B0, 1, none⟩ = some (.int .u64 x.2.1) ∧ W'.cell? ⟨B0, 2, none⟩ = some (.int .u64 x.2.2) ∧ b1 < W'.heap.size ∧ B0 < W'.heap.size) := fun W W' h hg =>
        ⟨(hg.cell h.2.2.2.2.2.2.1).trans h.1, (hg.cell h.2.2.2.2.2.2.1).trans h.2.1, (hg.cell h.2.2.2.2.2.2.1).trans h.2.2.1, (hg.cell h.2.2.2.2.2.2.2).trans h.2.2.2.1, (hg.cell h.2.2.2.2.2.2.2).trans h.2.2.2.2.1, (hg.cell h.2.2.2.2.2.2.2).trans h.2.2.2.2.2.1, Nat.lt_of_lt_of_le h.2.2.2.2.2.2.1 hg.size, Nat.lt_of_lt_of_le h.2.2.2.2.2.2.2 hg.size⟩
      have hcm := fun W => r5ahead_any y x W
      have HGR : Hid (Gr W1 wr.drew) := hgr.drew
      clear hy hgr x1 x2 x3
      cases hq : bel y x with
      | true =>
        rw [hq] at hcm
        go_wp2_with fail
        go_region_held3 (fun w' => w'.cell? ⟨b1, o1 + k * 3, none⟩ = some (.int .u64 y.1) ∧ w'.cell? ⟨b1, o1 + k * 3 + 1, none⟩ = some (.int .u64 y.2.1) ∧ w'.cell? ⟨b1, o1 + k * 3 + 2, none⟩ = some (.int .u64 y.2.2) ∧ w'.cell? ⟨B0, 0, none⟩ = some (.int .u64 x.1) ∧ w'.cell? ⟨B0, 1, none⟩ = some (.int .u64 x.2.1) ∧ w'.cell? ⟨B0, 2, none⟩ = some (.int .u64 x.2.2) ∧ b1 < w'.heap.size ∧ B0 < w'.heap.size)
          (first | exact S0 | exact keepG _ _ (by assumption) (by assumption))
          (first | (go_at_call 14; refine (hcm _).mono ?_; rintro e w5 ⟨rfl, hg5⟩))
        go_wp2
        go_ret
        refine ⟨?_, HG.out.trans (HGR.out.trans hg5)⟩
        rw [opn_true.2 ⟨y, List.mem_of_getElem? HY.out, hq⟩]
        rfl
      | false =>
        rw [hq] at hcm
        go_wp2_with fail
        go_region_held3 (fun w' => w'.cell? ⟨b1, o1 + k * 3, none⟩ = some (.int .u64 y.1) ∧ w'.cell? ⟨b1, o1 + k * 3 + 1, none⟩ = some (.int .u64 y.2.1) ∧ w'.cell? ⟨b1, o1 + k * 3 + 2, none⟩ = some (.int .u64 y.2.2) ∧ w'.cell? ⟨B0, 0, none⟩ = some (.int .u64 x.1) ∧ w'.cell? ⟨B0, 1, none⟩ = some (.int .u64 x.2.1) ∧ w'.cell? ⟨B0, 2, none⟩ = some (.int .u64 x.2.2) ∧ b1 < w'.heap.size ∧ B0 < w'.heap.size)
          (first | exact S0 | exact keepG _ _ (by assumption) (by assumption))
          (first | (go_at_call 14; refine (hcm _).mono ?_; rintro e w5 ⟨rfl, hg5⟩))
        go_wp2
        go_roundw
        case rel =>
          refine ⟨k + 1, by omega, by go_num, HGR.out.trans hg5, fun z hz => ?_⟩
          rw [List.take_add_one, HY.out] at hz
          rcases List.mem_append.1 hz with h | h
          · exact A.out z h
          · simp at h; subst h; exact hq
        case measure => simp [RowKit.intOf]; omega
    · have hltz : ¬ (k : Int) < (l.length : Int) := by omega
      have hkl : k = l.length := by omega
      subst hkl
      rw [List.take_length] at A
      go_wp2
      go_ret
      refine ⟨?_, HG.out.trans hgr⟩
      rw [opn_false.2 A.out]
      rfl
end Go.Proofs.Ytghpekkncfckaaa.Ca
