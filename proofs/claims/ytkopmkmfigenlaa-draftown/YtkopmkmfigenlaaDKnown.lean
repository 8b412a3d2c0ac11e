import Derived.Test.YtkopmkmfigenlaaDKn
import Derived.Lib.SlBytesConst
namespace Go.Proofs.Ytkopmkmfigenlaa.Df
open Go.RowKit Go.Sort Wi
attribute [local go_sem ↓] Go.wp_at_zero Go.wp_at_succ

set_option maxRecDepth 100000 in
set_option maxHeartbeats 2000000 in
theorem known_any (w : World) : Calls Try.prog 9 #[] w fun r w' => r = .returned (.bool true) ∧ Below w.heap.size w w' := by
  have kc := fun (w : World) (C : Array Value) (n c : Nat) => Lib.run_convert_bytes_const (P := Try.prog) w 26 5 C n c Try.underlying26 Try.underlying5
  obtain ⟨W1, hW1⟩ : ∃ W1, W1 = ((w.alloc (.cells #[.int .i64 1, .int .i64 0, .int .i64 1, .slice none 0 0, .int .u64 0, .int .u64 0, .int .u64 0, .int .u64 0, .slice none 0 0, .bool false, .int .i64 7, .int .i64 1, .int .i64 0, .slice none 0 0, .int .u64 0, .int .u64 0, .int .u64 0, .int .u64 0, .slice none 0 0, .bool false] 67)).alloc (.cells #[.int .i64 0, .int .i64 0, .int .i64 1, .int .i64 0, .bool false] 69)).alloc (.cells #[.int .i64 2, .slice (some ⟨w.heap.size, 0, none⟩) 2 2, .slice (some ⟨w.heap.size + 1, 0, none⟩) 1 1] 25) := ⟨_, rfl⟩
  obtain ⟨⟨b0, b1, b2⟩, hg1, hs1⟩ : (W1.heap[w.heap.size]? = some (.cells #[.int .i64 1, .int .i64 0, .int .i64 1, .slice none 0 0, .int .u64 0, .int .u64 0, .int .u64 0, .int .u64 0, .slice none 0 0, .bool false, .int .i64 7, .int .i64 1, .int .i64 0, .slice none 0 0, .int .u64 0, .int .u64 0, .int .u64 0, .int .u64 0, .slice none 0 0, .bool false] 67 (0, 0)) ∧ W1.heap[w.heap.size + 1]? = some (.cells #[.int .i64 0, .int .i64 0, .int .i64 1, .int .i64 0, .bool false] 69 (0, 0)) ∧ W1.heap[w.heap.size + 2]? = some (.cells #[.int .i64 2, .slice (some ⟨w.heap.size, 0, none⟩) 2 2, .slice (some ⟨w.heap.size + 1, 0, none⟩) 1 1] 25 (0, 0))) ∧ Gr w W1 ∧ W1.heap.size = w.heap.size + 3 := by
    rw [hW1]
    exact ⟨new3 w _ _ _, (((Gr.refl w).alloc _).alloc _).alloc _, by simp⟩
  have hG1 : GR W1.heap.size W1 (.slice (some ⟨w.heap.size, 0, none⟩) 2 2) (.slice (some ⟨w.heap.size + 1, 0, none⟩) 1 1) [kx1, kx2] [ke1] := by
    have hn : ∀ x ∈ [kx1, kx2], x.n.code = [] ∧ x.n.conns = [] ∧ x.cv = .slice none 0 0 ∧ x.dv = .slice none 0 0 := by
      intro x hx
      simp only [List.mem_cons, List.not_mem_nil, or_false] at hx
      rcases hx with rfl | rfl <;> exact ⟨rfl, rfl, rfl, rfl⟩
    refine ⟨Or.inl ⟨ls_block (l := [kx1, kx2]) b0 rfl 2, fun k hk => ?_⟩, Or.inl ⟨ls_block (l := [ke1]) b1 rfl 1, fun k hk => ?_⟩, fun x hx => ?_, fun x hx => ?_, by decide⟩
    · simp [Value.ownBlock] at hk; omega
    · simp [Value.ownBlock] at hk; omega
    · obtain ⟨h1, h2, h3, h4⟩ := hn x hx
      exact ⟨by rw [h1, h3]; exact Lz.nil _ _ _, by rw [h2, h4]; exact Lz.nil _ _ _⟩
    · obtain ⟨h1, h2, _⟩ := hn x hx
      rw [h1, h2]
      decide
  have HG1 := hid hG1
  have HW1 := hid hW1.symm
  have H1 := hid (And.intro hg1 (And.intro b2 hs1))
  clear hW1 hG1 b0 b1 b2 hg1 hs1
  go_enter Try.func9, Try.ntmps9
  go_wp2_with fail
  rw [HW1.out]
  clear HW1
  refine (put_any kg_t W1 HG1.out).mono ?_
  rintro r w2 ⟨hb2, d, rfl, hd⟩
  rw [kg_e, kg_b] at hd
  rw [kg_e]
  have hd := (hd.resolve_right (fun h => h.1 rfl)).2
  obtain ⟨pd, cd, rfl⟩ := (owns_ls (E := EB) hd).form
  have D2 := hid (owns_ls (E := EB) hd)
  have B2 := hid (H1.out.1.below.trans (hb2.mono H1.out.1.size))
  have v2 := (hb2.block _ (tk_lt H1.out.2.1)).trans H1.out.2.1
  have G2 := hid (HG1.out.later (Nat.le_refl _) hb2)
  clear hd hb2 H1 HG1
  go_wp2_with fail
  have g3 := (Gr.refl w2).alloc (.cells #[.int .u8 2, .int .u8 2, .int .u8 1, .int .u8 7, .int .u8 1, .int .u8 0, .int .u8 0, .int .u8 1, .int .u8 0, .int .u8 0] 5 (10, 11))
  have hls : Ls EB (w2.alloc (.cells #[.int .u8 2, .int .u8 2, .int .u8 1, .int .u8 7, .int .u8 1, .int .u8 0, .int .u8 0, .int .u8 1, .int .u8 0, .int .u8 0] 5 (10, 11))) (.slice (some ⟨w2.heap.size, 0, none⟩) 10 10) kb := ls_block (E := EB) (l := kb) (heap_new' w2 _) rfl 10
  refine (get_any _ hls (by decide)).mono ?_
  rintro r w4 ⟨hb4, u4, rfl, nv4, ev4, xs4, rfl, hx4, go4⟩
  have G4x := hid (vg_gr hx4 go4)
  rw [kg_g] at hx4 G4x ⊢
  obtain ⟨qn, mn, cn, rfl⟩ := owns_form go4.nodes.row
  obtain ⟨qe, me, ce, rfl⟩ := owns_form go4.edges
  have hb4' := (g3.below.trans (hb4.mono g3.size))
  have D4 := hid (D2.out.below hb4')
  have B4 := hid (B2.out.trans (hb4'.mono B2.out.size))
  have v4 := (hb4'.block _ (tk_lt v2)).trans v2
  have G4 := hid (G2.out.later (Nat.le_refl _) hb4')
  have HX4 := hid hx4
  clear hls g3 hb4 hb4' D2 B2 v2 G2 go4 hx4 hd
  go_wp2_with fail
  have g5 := ((Gr.refl w4).alloc (.cells #[.int .i64 2, .slice qn mn cn, .slice qe me ce] 25)).alloc (.cells #[.int .u8 1] 5)
  have n5 := new2 w4 (.cells #[.int .i64 2, .slice qn mn cn, .slice qe me ce] 25) (.cells #[.int .u8 1] 5)
  have u5 := new1 w4 (.cells #[.int .i64 2, .slice qn mn cn, .slice qe me ce] 25) (.cells #[.int .u8 1] 5)
  have hls : Ls EB ((w4.alloc (.cells #[.int .i64 2, .slice qn mn cn, .slice qe me ce] 25)).alloc (.cells #[.int .u8 1] 5)) (.slice (some ⟨w4.heap.size + 1, 0, none⟩) 1 1) [1] := ls_block (E := EB) (l := [1]) n5 rfl 1
  refine (get_any _ hls (by decide)).mono ?_
  rintro r w6 ⟨hb6, u6, rfl, nv6, ev6, xs6, rfl, hx6, go6⟩
  rw [k1_g]
  obtain ⟨q6, m6, c6, rfl⟩ := owns_form go6.nodes.row
  obtain ⟨q7, m7, c7, rfl⟩ := owns_form go6.edges
  have u6 := (hb6.block _ (tk_lt u5)).trans u5
  have hb6' := g5.below.trans (hb6.mono g5.size)
  have v6 := (hb6'.block _ (tk_lt v4)).trans v4
  have g7 := (Gr.refl w6).alloc (.cells #[.int .i64 0, .slice q6 m6 c6, .slice q7 m7 c7] 25)
  have D7 := (D4.out.below hb6').below g7.below
  have B7 := hid (B4.out.trans ((hb6'.mono B4.out.size).trans (g7.below.mono (Nat.le_trans B4.out.size hb6'.size))))
  have hsa := same_eq (a := 2) HX4.out.symm _ ((G4.out.later (Nat.le_refl _) hb6').later (Nat.le_refl _) g7.below) ((G4x.out.later (Nat.le_refl _) hb6').later (Nat.le_refl _) g7.below)
  have htx : (convert 26 9 (.slice pd 10 cd)).run Try.prog (w6.alloc (.cells #[.int .i64 0, .slice q6 m6 c6, .slice q7 m7 c7] 25)) = .ok (.string ⟨#[2, 2, 1, 7, 1, 0, 0, 1, 0, 0]⟩) (w6.alloc (.cells #[.int .i64 0, .slice q6 m6 c6, .slice q7 m7 c7] 25)) := to_text D7
  have hna : none'.arity = 0 := rfl
  have c0 := (tk_store v6).1
  have c1 := (tk_store u6).1
  have l0 := tk_lt v6
  have l1 := tk_lt u6
  clear hls g5 n5 u5 hb6 hb6' go6 hx6 D4 B4 v4 v6 u6 G4 G4x HX4 D7 g7
  go_wp2_with fail
  go_at_call 11
  refine hsa.mono ?_
  rintro r w8 ⟨rfl, g8⟩
  have G8 := hid (B7.out.trans (g8.below.mono B7.out.size))
  clear g8
  go_wp2_with fail
  go_ret
  exact ⟨rfl, G8.out⟩
end Go.Proofs.Ytkopmkmfigenlaa.Df
