import Derived.Test.YtpcamjmfddnglaaHQI
namespace Go.Proofs.Ytpcamjmfddnglaa.Hi
open Go.RowKit Go.Sort Hp
attribute [local go_sem ↓] Go.wp_at_zero Go.wp_at_succ

theorem pop_nil (w : World) : Calls Try.prog 27 #[.pointer none] w fun e w' => e = .returned (ans zt false) ∧ Gr w w' := by
  have hpk := fun W => peek_nil W
  go_enter Try.func27, Try.ntmps27
  go_wp2_with fail
  refine (hpk _).mono ?_
  rintro e w1 ⟨rfl, hg1⟩
  go_wp2
  go_ret2
  exact ⟨rfl, hg1⟩
theorem copy_nil (w : World) : Calls Try.prog 30 #[.pointer none] w fun e w' => e = .returned (.pointer none) ∧ Gr w w' := by
  go_enter Try.func30, Try.ntmps30
  go_wp2
  go_ret
  exact ⟨rfl, Gr.refl _⟩
theorem less_ok : FnOk 25 (key id) := by
  refine ⟨enters_of Try.func25 (by kernel_rfl) rfl, fun a b W => ?_⟩
  go_enter Try.func25, Try.ntmps25
  go_wp2
  go_ret
  exact ⟨rfl, Gr.refl _⟩
set_option maxHeartbeats 2000000 in
theorem taken_any (w : World) : Calls Try.prog 6 #[] w fun e w' => e = .returned (.bool true) ∧ Below w.heap.size w w' := by
  have hen := less_ok.enter
  have HF : Hid (FnOk 25 (key id)) := less_ok
  have hnew := newq_any 25 id w
  have hpn := fun W => push_nil 1 W
  have hpo := fun W => pop_nil W
  have hpe := fun W => peek_nil W
  have hle := fun W => len_nil W
  have hco := fun W => copy_nil W
  go_enter Try.func6, Try.ntmps6
  go_wp2_with fail
  refine hnew.mono ?_
  rintro e w1 ⟨hb, rfl, hge, hq1, hg1⟩
  clear hnew
  go_wp2_with fail
  refine (hpn _).mono ?_
  rintro e w2 ⟨rfl, hg2⟩
  go_wp2_with fail
  refine (hpo _).mono ?_
  rintro e w3 ⟨rfl, hg3⟩
  go_wp2_with fail
  refine (hpe _).mono ?_
  rintro e w4 ⟨rfl, hg4⟩
  have Q4 := hid (hq1.below ((hg2.trans hg3).trans hg4).below)
  have B4 := hid (hg1.below.trans (((hg2.trans hg3).trans hg4).below.mono hg1.size))
  clear hq1 hg1 hg2 hg3 hg4 hpn hpo hpe
  go_wp2_with fail
  refine (hle _).mono ?_
  rintro e w5 ⟨rfl, rfl⟩
  go_wp2_with fail
  refine (hco _).mono ?_
  rintro e w6 ⟨rfl, hg6⟩
  have hpu := pushq_any 3 w6 (Q4.out.below hg6.below) (by simp) (by omega) HF.out
  clear hle hco
  go_wp2_with fail
  refine hpu.mono ?_
  rintro e w7 ⟨v7, L7, rfl, q7, p7, t7⟩
  have hn7 : L7.length = 1 := by have := p7.length_eq; simpa using this
  have hpu2 := pushq_any 1 w7 q7 (by rw [hn7]; simp) (by omega) HF.out
  have P7 := hid p7
  have T7 := hid t7
  clear hpu hn7 p7 t7 q7
  go_wp2_with fail
  refine hpu2.mono ?_
  rintro e w8 ⟨v8, L8, rfl, q8, p8, t8⟩
  have p8' : L8.Perm [(3, 0), (1, 1)] := p8.trans (P7.out.append_right _)
  have hn8 : L8.length = 2 := by have := p8'.length_eq; simpa using this
  have hpu3 := pushq_any 2 w8 q8 (by rw [hn8]; simp) (by omega) HF.out
  have P8 := hid p8'
  have T8 := hid t8
  clear hpu2 hn8 p8 p8' t8 q8
  go_wp2_with fail
  refine hpu3.mono ?_
  rintro e w9 ⟨v9, L9, rfl, q9, p9, t9⟩
  have p9' : L9.Perm [(3, 0), (1, 1), (2, 2)] := p9.trans (P8.out.append_right _)
  have hn9 : L9.length = 3 := by have := p9'.length_eq; simpa using this
  obtain ⟨t, ht⟩ : ∃ t, L9[0]? = some t := ⟨L9[0]'(by omega), by rw [List.getElem?_eq_getElem]⟩
  have hte : t = (1, 1) := by
    obtain ⟨h1, h2⟩ := q9.first ht
    have h3 := h2 (1, 1) (p9'.mem_iff.2 (by simp))
    have h4 := p9'.mem_iff.1 h1
    simp at h4
    rcases h4 with rfl | rfl | rfl
    · simp at h3
    · rfl
    · simp at h3
  subst hte
  have hpp := popq_any w9 q9 ht (by omega) HF.out
  have P9 := hid p9'
  have T9 := hid t9
  clear hpu3 hn9 p9 p9' t9 q9 ht
  go_wp2_with fail
  refine hpp.mono ?_
  rintro e w10 ⟨v10, L10, rfl, q10, p10, _, t10⟩
  have p10' : L10.Perm [(3, 0), (2, 2)] := by
    have h : ((1, 1) :: L10).Perm ((1, 1) :: [((3 : Int), 0), ((2 : Int), 2)]) := (p10.trans P9.out).trans (List.Perm.swap _ _ _)
    exact h.cons_inv
  have hn10 : L10.length = 2 := by have := p10'.length_eq; simpa using this
  obtain ⟨t, ht⟩ : ∃ t, L10[0]? = some t := ⟨L10[0]'(by omega), by rw [List.getElem?_eq_getElem]⟩
  have hte : t = (2, 2) := by
    obtain ⟨h1, h2⟩ := q10.first ht
    have h3 := h2 (2, 2) (p10'.mem_iff.2 (by simp))
    have h4 := p10'.mem_iff.1 h1
    simp at h4
    rcases h4 with rfl | rfl
    · simp at h3
    · rfl
  subst hte
  have hpk := peek_any w10 q10.h ht
  have hlen := fun W (h : Gr w10 W) => len_any W (q10.h.gr h)
  rw [hn10] at hlen
  have T10 := hid t10
  clear hpp hn10 p10 p10' t10 q10 ht
  go_wp2_with fail
  refine hpk.mono ?_
  rintro e w11 ⟨rfl, hg11⟩
  have hl11 := hlen _ hg11
  clear hlen
  go_wp2_with fail
  refine hl11.mono ?_
  rintro e w12 ⟨rfl, rfl⟩
  go_wp2
  go_ret
  refine ⟨rfl, ?_⟩
  have hB6 : Below w.heap.size w w6 := B4.out.trans (hg6.below.mono B4.out.size)
  have hT := ((T7.out.trans T8.out).trans T9.out).trans T10.out
  have hB10 : Below w.heap.size w6 w10 := hT.1.below hB6.size (fun k hk => by
    rcases hk with rfl | hk
    · exact hge
    · simp [Value.ownBlock] at hk)
  have hB := hB6.trans hB10
  exact hB.trans (hg11.below.mono hB.size)
end Go.Proofs.Ytpcamjmfddnglaa.Hi
