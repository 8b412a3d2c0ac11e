import Derived.Test.YthekfbillnpkkaaCoKn
namespace Go.Proofs.Ythekfbillnpkkaa.Cd
open Go.RowKit Go.Sort
attribute [local go_sem ↓] Go.wp_at_zero Go.wp_at_succ

set_option maxHeartbeats 1000000 in
theorem joined_any {a b : Value} {l m : List Op2} (w : World) (ha : Ls EO w a l) (hb : Ls EO w b m) (hs : (l.length + m.length) * 16 ≤ 140737488355328) : Calls Try.prog 6 #[a, b] w fun e w' => ∃ v, e = .returned v ∧ Ls EO w' v (l ++ m) ∧ Below w.heap.size w w' := by
  obtain ⟨p1, c1, rfl⟩ := ha.form
  obtain ⟨p2, c2, rfl⟩ := hb.form
  have HA := hid ha
  have HB := hid hb
  have HS1 : Hid ((0 + l.length) * 16 ≤ 140737488355328 ∧ 0 + l.length ≤ maxLen ∧ (l.length + m.length) * 16 ≤ 140737488355328 ∧ l.length + m.length ≤ maxLen) := by
    show _ ∧ _ ∧ _ ∧ _
    unfold maxLen
    omega
  clear ha hb hs
  go_enter Try.func6, Try.ntmps6
  have hG := (Gr.refl w).alloc (.cells #[] 35)
  have HA0 := hid (HA.out.below hG.below)
  have HO0 : Hid ((w.alloc (.cells #[] 35)).ownsRow w.heap.size 35 2 (.slice (some ⟨w.heap.size, 0, none⟩) 0 0) 0 []) := World.ownsRow_made w #[] 0 (Nat.le_refl _) (by unfold maxLen; omega) rfl
  go_wp2_with (at_builtin; refine wpAppL EO Try.underlying22 infoO rfl (by decide) rfl _ _ rfl w.heap.size (.slice (some ⟨w.heap.size, 0, none⟩) 0 0) 0 [] rfl HO0.out _ l rfl HA0.out HS1.out.1 HS1.out.2.1 (by simp) ?_)
  intro v1 w1 h1 g1
  have hK1 : Below w.heap.size w w1 := hG.below.trans ((Kp.grownBy (S := fun k => k = w.heap.size) g1 (fun k e => by simp [Value.ownBlock] at e; exact e.symm)).below hG.size (fun k e => by rw [e]; exact Nat.le_refl _))
  have HK1 := hid hK1
  have HB1 := hid (HB.out.below hK1)
  have HO1 : Hid (w1.ownsRow w.heap.size 35 2 v1 l.length (fl EO l)) := owns_re h1 (by simp) (by simp)
  have hb1 : w.heap.size ≤ w1.heap.size := hK1.size
  obtain ⟨q, r, s, rfl⟩ : ∃ q r s, v1 = .slice q r s := by
    rcases HO1.out.2 with ⟨h0, _⟩ | ⟨_, _, _, hv, _⟩
    · exact ⟨_, _, _, h0⟩
    · exact ⟨_, _, _, hv⟩
  clear h1 g1 hK1 HO0 HA0 hG HA HB
  go_wp2_with (at_builtin; refine wpAppL EO Try.underlying22 infoO rfl (by decide) rfl _ _ rfl w.heap.size (.slice q r s) l.length _ rfl HO1.out _ m rfl HB1.out HS1.out.2.2.1 HS1.out.2.2.2 hb1 ?_)
  intro v2 w2 h2 g2
  have hls : Ls EO w2 v2 (l ++ m) := owns_ls (owns_re h2 (by simp) (by rw [fl_append]))
  have hK2 : Below w.heap.size w w2 := HK1.out.trans ((Kp.grownBy (S := fun k => w.heap.size ≤ k) g2 (fun k e => (HO1.out.lt k e).1)).below HK1.out.size (fun k e => e))
  clear h2 g2
  go_wp2_with fail
  go_ret
  exact ⟨_, rfl, hls, hK2⟩
/-- One instruction. -/
theorem op_any (k n : Int) (b : Nat) (w : World) (h : w.heap[b]? = some (.cells #[.int .u64 n] 23 (0, 0))) : Calls Try.prog 12 #[.int .i64 k, .pointer (some ⟨b, 0, none⟩)] w fun e w' => ∃ v, e = .returned v ∧ Ls EO w' v [⟨k, n⟩] ∧ Gr w w' := by
  obtain ⟨lb, c, _⟩ := blk_at h
  have c0 := c 0
  simp at c0
  clear h c
  go_enter Try.func12, Try.ntmps12
  go_wp2_with fail
  go_ret
  exact ⟨_, rfl, ls_new1 _ _ _, (Gr.refl w).alloc _⟩
end Go.Proofs.Ythekfbillnpkkaa.Cd
