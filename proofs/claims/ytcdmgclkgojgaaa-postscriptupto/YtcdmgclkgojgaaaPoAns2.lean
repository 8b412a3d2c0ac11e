import Derived.Test.YtcdmgclkgojgaaaPoAns
namespace Go.Proofs.Ytcdmgclkgojgaaa.Pi
open Go.RowKit Go.Sort
attribute [local go_sem ↓] Go.wp_at_zero Go.wp_at_succ
set_option maxHeartbeats 4000000 in
set_option maxRecDepth 100000 in
theorem answered2_any {tag : Nat → Nat} {a b hb rb W N : Nat} {Q : Nat → List Int} {L : List Tg} (F T xv : Int) (w : World) (h : Pr w tag a b hb rb W N Q L) (hN : (N + 1) * 24 ≤ 140737488355328) :
    Calls Try.prog 22 #[.pointer (some ⟨hb, 0, none⟩), .pointer (some ⟨rb, 0, none⟩), .agg #[.int .i64 2, .int .i64 0, .int .i64 F, .int .i64 T, .int .i64 xv]] w fun e w' => e = .returned (.bool true) ∧ Below w.heap.size w w' := by
  obtain ⟨b5, hb5⟩ : ∃ b5, b5 = w.heap.size := ⟨_, rfl⟩
  obtain ⟨W1, hW1⟩ : ∃ W1, W1 = w.alloc (.cells #[.int .i64 2, .int .i64 0, .int .i64 F, .int .i64 T, .int .i64 xv] 28) := ⟨_, rfl⟩
  have G1 : Gr w W1 := by rw [hW1]; exact (Gr.refl _).alloc _
  have X1 : Hid (W1.heap[b5]? = some (.cells #[.int .i64 2, .int .i64 0, .int .i64 F, .int .i64 T, .int .i64 xv] 28 (0, 0))) := by rw [hW1, hb5]; exact heap_new' _ _
  have P1 := hid (h.same G1.below)
  have HG1 := hid G1
  have HN := hid hN
  clear h G1 hN
  have hlo := look_any F T xv W1 P1.out.p
  have hloR := fun (wP : World) (hB : Below W1.heap.size W1 wP) => (by
    obtain ⟨v, h1, h2, h3⟩ := P1.out.r
    exact rlook_any F T xv wP (h1.below hB) P1.out.rel (Nat.le_trans (Nat.mul_le_mul_right _ (Nat.le_succ_of_le P1.out.le)) HN.out) : Calls Try.prog 49 #[.pointer (some ⟨rb, 0, none⟩), .int .i64 F, .int .i64 T, .int .i64 xv] wP fun e w' => e = .returned (.tuple #[.int .i64 (lk W Q F T xv).1, .int .i64 ((lk W Q F T xv).2 : Nat)]) ∧ Below wP.heap.size wP w')
  generalize lk W Q F T xv = r at hlo hloR
  obtain ⟨rx, rn⟩ := r
  unfold lv at hlo
  dsimp only at hlo hloR
  go_enter Try.func22, Try.ntmps22
  go_upto_region 1 with fail
  rw [← hW1, ← hb5]
  clear hW1 hb5
  obtain ⟨⟨q0, q1, q2, q3, q4⟩, -, q5⟩ := Po.box_at (x := ((2 : Int), (0 : Int), F, T, xv)) X1.out
  dsimp only at q0 q1 q2 q3 q4
  go_wp2_with fail
  refine hlo.mono ?_
  rintro e w5 ⟨rfl, H5⟩
  have X5 : Hid (w5.heap[b5]? = some (.cells #[.int .i64 2, .int .i64 0, .int .i64 F, .int .i64 T, .int .i64 xv] 28 (0, 0))) := (H5.block b5 q5).trans X1.out
  have hloR := hloR w5 H5
  have HB5 := hid H5
  clear hlo q0 q1 q2 q3 q4 H5
  obtain ⟨⟨s0, s1, s2, s3, s4⟩, -, s5⟩ := Po.box_at (x := ((2 : Int), (0 : Int), F, T, xv)) X5.out
  dsimp only at s0 s1 s2 s3 s4
  go_wp2_with fail
  refine hloR.mono ?_
  rintro e w6 ⟨rfl, H6⟩
  have HB6 := hid (HB5.out.trans (H6.mono HB5.out.size))
  clear hloR H6
  go_wp2
  go_ret
  exact ⟨rfl, HG1.out.below.trans (HB6.out.mono HG1.out.size)⟩
end Go.Proofs.Ytcdmgclkgojgaaa.Pi
