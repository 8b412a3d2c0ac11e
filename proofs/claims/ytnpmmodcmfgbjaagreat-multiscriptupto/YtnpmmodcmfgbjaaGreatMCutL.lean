import Derived.Test.YtnpmmodcmfgbjaaGreatMRest
namespace Go.Proofs.YtnpmmodcmfgbjaaGreat.Cn
open Go.RowKit Go.Sort
attribute [local go_sem ↓] Go.wp_at_zero Go.wp_at_succ

set_option maxHeartbeats 1000000 in
set_option maxRecDepth 100000 in
theorem cut_any {cb fb ff : Nat} {v : Value} {l : List Tm} {bel : Tm → Tm → Bool} (x : Tm) (w : World) (hc : Ch w cb fb ff v l) (hl : l.length * 24 ≤ 140737488355328) (hB : FnOk fb bel) :
    Calls Tryz.prog 62 #[.pointer (some ⟨cb, 0, none⟩), tv x] w fun e w' => ∃ v', e = .returned (.int .i64 ((l.length - (ccut bel l x).length : Nat) : Int)) ∧ Ch w' cb fb ff v' (ccut bel l x) ∧ Kp (fun k => k = cb) w w' ∧ ∀ g, v'.ownBlock = some g → v.ownBlock = some g ∨ w.heap.size ≤ g := by
  obtain ⟨W1, hW1⟩ : ∃ W1, W1 = w.alloc (.cells #[.int .u64 x.1.1, .int .u64 x.1.2.1, .int .u64 x.1.2.2] 37) := ⟨_, rfl⟩
  have G1 : Gr w W1 := by rw [hW1]; exact (Gr.refl _).alloc _
  have HZ : Hid (w.heap.size < W1.heap.size) := by rw [hW1]; simp [Hid]
  have hc1 := hc.below G1.below
  have h1 := staying_any (bel := bel) x W1 hc1 hl hB
  have hml := ccut_length (bel := bel) l x
  generalize hm : ccut bel l x = m at *
  have HC : Hid (Ch w cb fb ff v l) := hc
  obtain ⟨pl, cl, rfl⟩ := hc.lst.form
  clear hm hc hc1
  subst hW1
  go_enter Tryz.func62, Tryz.ntmps62
  go_wp2_with fail
  refine h1.mono ?_
  rintro e w3 ⟨v3, rfl, ho3, hb3, hor⟩
  have A3 : Hid (Below w.heap.size w w3) := G1.below.trans (hb3.mono (Nat.le_of_lt HZ.out))
  obtain ⟨d1, d2, d3⟩ := Blk.cells (HC.out.below A3.out).blk
  obtain ⟨p3, c3, rfl⟩ := (owns_lst ho3).form
  have zz : IntKind.i64.wrap ((l.length : Int) - (m.length : Int)) = ((l.length - m.length : Nat) : Int) := by rw [IntKind.wrap_i64]; omega
  clear h1
  go_wp2
  go_ret
  have hlt := HC.out.lt
  have hnoff : (Value.slice p3 m.length c3).ownBlock ≠ some cb := by
    intro h
    rcases hor with h' | h'
    · exact HC.out.off (h' ▸ h)
    · have := h' cb h; have := HZ.out; omega
  obtain ⟨hch, hks⟩ := Blk.set (HC.out.below A3.out).blk (v2 := .slice p3 m.length c3) (l2 := m) ho3 hnoff
  refine ⟨_, by first | rfl | simp, hch, (Kp.of_below A3.out).trans hks (fun _ _ h => h), fun g hg => ?_⟩
  rcases hor with h' | h'
  · left; rw [← h']; exact hg
  · right; have := h' g hg; have := HZ.out; omega

set_option maxHeartbeats 1000000 in
theorem len_any {cb fb ff : Nat} {v : Value} {l : List Tm} (w : World) (hc : Ch w cb fb ff v l) :
    Calls Tryz.prog 63 #[.pointer (some ⟨cb, 0, none⟩)] w fun e w' => e = .returned (.int .i64 (l.length : Nat)) ∧ w' = w := by
  obtain ⟨pl, cl, rfl⟩ := hc.lst.form
  have k2 := hc.c2
  have kl := hc.lt
  go_enter Tryz.func63, Tryz.ntmps63
  go_wp2
  go_ret
  exact ⟨rfl, rfl⟩

end Go.Proofs.YtnpmmodcmfgbjaaGreat.Cn
