import Derived.Test.YtpnjpdnjapfjlaaFlLaw0
namespace Go.Proofs.Ytpnjpdnjapfjlaa.Cd
open Go.RowKit Go.Sort
attribute [local go_sem ↓] Go.wp_at_zero Go.wp_at_succ

def lp : Nd := ⟨5, 1, 1, ⟨0, 1, 0⟩, 3, none, 0, 0, false⟩
def sm : Nd := ⟨6, 1, 1, ⟨0, 0, 0⟩, 0, none, 0, 0, false⟩
theorem newLp_any (w : World) : Calls Try.prog 6 #[.agg #[.int .i64 5, .int .i64 1, .int .i64 1, .slice none 0 0, .int .u64 0, .int .u64 1, .int .u64 0, .int .u64 3, .slice none 0 0, .bool false]] w fun e w' => ∃ T b g, e = .returned (.tuple #[.iface T (.pointer (some ⟨b, 0, none⟩)), .int .i64 0]) ∧ Hid (Below w.heap.size w w' ∧ Flw 0 w' (.iface T (.pointer (some ⟨b, 0, none⟩))) lp [] ∧ Mt w' T b g lp []) := by
  refine (new_any lp w (Ls.nil w)).mono ?_
  rintro e w' ⟨v, rfl, H⟩
  obtain ⟨hB, ⟨h0, h1⟩ | ⟨h0, -⟩⟩ := H.out
  · obtain ⟨T, b, g, rfl, hm⟩ := h1.mt ⟨by decide, by decide, by decide⟩ (fun o ho => by cases ho)
    exact ⟨T, b, g, rfl, hB, h1.low (Nat.zero_le _), hm⟩
  · exact absurd (by decide) h0
theorem newSm_any (w : World) : Calls Try.prog 6 #[.agg #[.int .i64 6, .int .i64 1, .int .i64 1, .slice none 0 0, .int .u64 0, .int .u64 0, .int .u64 0, .int .u64 0, .slice none 0 0, .bool false]] w fun e w' => e = .returned (.tuple #[.nilIface, .int .i64 20]) ∧ Below w.heap.size w w' := by
  refine (new_any sm w (Ls.nil w)).mono ?_
  rintro e w' ⟨v, rfl, H⟩
  obtain ⟨hB, ⟨h0, h1⟩ | ⟨h0, rfl⟩⟩ := H.out
  · exact absurd h0 (by decide)
  · exact ⟨rfl, hB⟩
theorem lp_do1 : ndo lp [] ⟨9, 2, 5⟩ ⟨7, 8⟩ = (⟨9, 3, 5⟩, ⟨7, 8⟩, true) := by simp [ndo, lp, lok, okp]
theorem lp_do2 : ndo lp [] ⟨9, 3, 5⟩ ⟨7, 8⟩ = (⟨0, 0, 0⟩, ⟨0, 0⟩, false) := by simp [ndo, lp, lok, okp]
set_option maxHeartbeats 4000000 in
set_option maxRecDepth 100000 in
theorem taken_any (w : World) : Calls Try.prog 5 #[] w fun e w' => e = .returned (.bool true) ∧ Below w.heap.size w w' := by
  have heqT := fun (a b c : Int) W => run_eqT a b c a b c W
  have hteq : ∀ a b c : Int, teq a b c a b c = true := fun a b c => by simp [teq]
  simp only [hteq] at heqT
  have heqR := fun x y W => run_eqR x y W
  clear hteq
  go_enter Try.func5, Try.ntmps5
  go_wp2_with fail
  refine (newLp_any _).mono ?_
  rintro e w1 ⟨T, b, g, rfl, H1⟩
  go_wp2_with fail
  refine (newSm_any _).mono ?_
  rintro e w2 ⟨rfl, B2⟩
  have HB2 : Hid (Below w1.heap.size w1 w2) := B2
  have HG2 : Hid (Below w.heap.size w w2) := H1.out.1.trans (B2.mono H1.out.1.size)
  clear B2
  go_wp2_with fail
  refine (kindNil_any _).mono ?_
  rintro e w3 ⟨rfl, g3⟩
  have HB3 : Hid (Below w1.heap.size w1 w3) := HB2.out.trans (g3.below.mono HB2.out.size)
  have HG3 : Hid (Below w.heap.size w w3) := HG2.out.trans (g3.below.mono HG2.out.size)
  clear g3 HB2 HG2
  go_wp2_with fail
  refine (kind_any _ (H1.out.2.1.below HB3.out)).mono ?_
  rintro e w4 ⟨rfl, g4⟩
  have HB4 : Hid (Below w1.heap.size w1 w4) := HB3.out.trans (g4.below.mono HB3.out.size)
  have HG4 : Hid (Below w.heap.size w w4) := HG3.out.trans (g4.below.mono HG3.out.size)
  clear g4 HB3 HG3
  have hk : lp.kind = 5 := rfl
  rw [hk]
  clear hk
  go_upto_region 6 with fail
  obtain ⟨W5, hW5⟩ : ∃ W5, W5 = w4.alloc (.cells #[.int .u64 7, .int .u64 8] 31) := ⟨_, rfl⟩
  have hG5 : Gr w4 W5 := by rw [hW5]; exact (Gr.refl w4).alloc _
  have h5 : W5.heap[w4.heap.size]? = some (.cells #[.int .u64 7, .int .u64 8] 31 (0, 0)) := by rw [hW5]; exact heap_new' _ _
  obtain ⟨rb, hrb⟩ : ∃ rb, rb = w4.heap.size := ⟨_, rfl⟩
  rw [← hW5, ← hrb]
  rw [← hrb] at h5
  have HB5 : Hid (Below w1.heap.size w1 W5) := HB4.out.trans (hG5.below.mono HB4.out.size)
  have HG5 : Hid (Below w.heap.size w W5) := HG4.out.trans (hG5.below.mono HG4.out.size)
  have HR5 := hid h5
  clear hW5 hrb h5 hG5 HB4 HG4
  obtain ⟨HM, HE, HD⟩ := H1.out.2.2
  have HD1 : Hid (∀ W, Below w1.heap.size w1 W → Calls Try.prog g #[.pointer (some ⟨b, 0, none⟩), .agg #[.int .u64 9, .int .u64 2, .int .u64 5], .agg #[.int .u64 7, .int .u64 8]] W fun e w' => e = .returned (.tuple #[.agg #[.int .u64 9, .int .u64 3, .int .u64 5], .agg #[.int .u64 7, .int .u64 8], .bool true]) ∧ Below W.heap.size W w') := fun W hW => by
    have h := HD W ⟨9, 2, 5⟩ ⟨7, 8⟩ hW ⟨by decide, by decide, by decide⟩ ⟨by decide, by decide, by decide, by decide⟩
    rw [lp_do1] at h
    exact h
  have HD2 : Hid (∀ W, Below w1.heap.size w1 W → Calls Try.prog g #[.pointer (some ⟨b, 0, none⟩), .agg #[.int .u64 9, .int .u64 3, .int .u64 5], .agg #[.int .u64 7, .int .u64 8]] W fun e w' => e = .returned (.tuple #[.agg #[.int .u64 0, .int .u64 0, .int .u64 0], .agg #[.int .u64 0, .int .u64 0], .bool false]) ∧ Below W.heap.size W w') := fun W hW => by
    have h := HD W ⟨9, 3, 5⟩ ⟨7, 8⟩ hW ⟨by decide, by decide, by decide⟩ ⟨by decide, by decide, by decide, by decide⟩
    rw [lp_do2] at h
    exact h
  clear HD
  obtain ⟨z1, d1, -⟩ := blk_at HR5.out
  go_wp2_with fail
  refine (HD1.out _ HB5.out).mono ?_
  rintro e u1 ⟨rfl, g1⟩
  go_upto_region 7 with fail
  obtain ⟨W2, hW2⟩ : ∃ W2, W2 = (u1.alloc (.cells #[.int .u64 9, .int .u64 3, .int .u64 5] 29)).alloc (.cells #[.int .u64 7, .int .u64 8] 31) := ⟨_, rfl⟩
  have hG2 : Gr u1 W2 := by rw [hW2]; exact ((Gr.refl u1).alloc _).alloc _
  have h2 := two_nw u1 (.cells #[.int .u64 9, .int .u64 3, .int .u64 5] 29) (.cells #[.int .u64 7, .int .u64 8] 31)
  rw [← hW2] at h2
  obtain ⟨ub, hub⟩ : ∃ ub, ub = u1.heap.size := ⟨_, rfl⟩
  obtain ⟨vb, hvb⟩ : ∃ vb, vb = ub + 1 := ⟨_, rfl⟩
  rw [← hW2, ← hub, ← hvb]
  rw [← hub, ← hvb] at h2
  have hB2 : Below W5.heap.size W5 W2 := g1.trans (hG2.below.mono g1.size)
  have HG6 : Hid (Below w.heap.size w W2) := HG5.out.trans (hB2.mono HG5.out.size)
  have HB6 : Hid (Below w1.heap.size w1 W2) := HB5.out.trans (hB2.mono HB5.out.size)
  have HT2 := hid h2
  have HR6 := hid ((hB2.block rb (tk_lt HR5.out)).trans HR5.out)
  clear z1 d1 hW2 hub hvb h2 hG2 g1 hB2 HB5 HG5 HR5 HD1
  obtain ⟨z1, d1, -⟩ := blk_at HR6.out
  go_wp2_with fail
  refine (HD2.out _ HB6.out).mono ?_
  rintro e u3 ⟨rfl, g3⟩
  go_upto_region 8 with fail
  obtain ⟨W4, hW4⟩ : ∃ W4, W4 = (u3.alloc (.cells #[.int .u64 0, .int .u64 0, .int .u64 0] 29)).alloc (.cells #[.int .u64 0, .int .u64 0] 31) := ⟨_, rfl⟩
  have hG4 : Gr u3 W4 := by rw [hW4]; exact ((Gr.refl u3).alloc _).alloc _
  have h4 := two_nw u3 (.cells #[.int .u64 0, .int .u64 0, .int .u64 0] 29) (.cells #[.int .u64 0, .int .u64 0] 31)
  rw [← hW4] at h4
  obtain ⟨xb, hxb⟩ : ∃ xb, xb = u3.heap.size := ⟨_, rfl⟩
  obtain ⟨yb, hyb⟩ : ∃ yb, yb = xb + 1 := ⟨_, rfl⟩
  rw [← hW4, ← hxb, ← hyb]
  rw [← hxb, ← hyb] at h4
  have hB4 : Below W2.heap.size W2 W4 := g3.trans (hG4.below.mono g3.size)
  have HG8 : Hid (Below w.heap.size w W4) := HG6.out.trans (hB4.mono HG6.out.size)
  clear z1 d1 hW4 hxb hyb hG4 g3
  obtain ⟨z1, d1, -⟩ := blk_at ((hB4.block ub (tk_lt HT2.out.1)).trans HT2.out.1)
  obtain ⟨z2, d2, -⟩ := blk_at ((hB4.block vb (tk_lt HT2.out.2)).trans HT2.out.2)
  obtain ⟨z3, d3, -⟩ := blk_at h4.1
  obtain ⟨z4, d4, -⟩ := blk_at h4.2
  obtain ⟨z5, d5, -⟩ := blk_at ((hB4.block rb (tk_lt HR6.out)).trans HR6.out)
  clear hB4 h4 HT2 HG6 HB6 HD2 HR6
  go_wp2_with fail
  go_ret
  exact ⟨rfl, HG8.out⟩
end Go.Proofs.Ytpnjpdnjapfjlaa.Cd
