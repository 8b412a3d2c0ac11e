import Derived.Test.YtnclnagpfjmlcaaDKnown
namespace Go.Proofs.Ytnclnagpfjmlcaa.Df
open Go.RowKit Go.Sort Wi
attribute [local go_sem ↓] Go.wp_at_zero Go.wp_at_succ

theorem gr_none (w : World) {xs : List NV} (hx : xs.map NV.n = []) : GR w.heap.size w (.slice none 0 0) (.slice none 0 0) [] [] ∧ xs.map NV.n = ([] : List NV).map NV.n :=
  ⟨⟨Lz.nil _ _ _, Lz.nil _ _ _, fun _ h => (by cases h), fun _ h => (by cases h), by decide⟩, hx⟩
set_option maxRecDepth 100000 in
set_option maxHeartbeats 2000000 in
theorem sole_any {v : Value} {L : List UInt8} (w : World) (hL : Ls EB w v L) (hl : L.length ≤ 140737488351232) : Calls Try.prog 4 #[v] w fun r w' => r = .returned (.bool true) ∧ Below w.heap.size w w' := by
  have hmx : Try.prog.follows .mixedOrders = true := by kernel_rfl
  have HL := hid hL
  obtain ⟨p, c, rfl⟩ := hL.form
  clear hL
  go_enter Try.func4, Try.ntmps4
  go_wp2_with (at_builtin; refine wpBL rfl _ _ rfl w.heap.size _ [] rfl (World.ownsRow_made w #[] 0 (Nat.le_refl _) (Nat.zero_le _) rfl) _ L rfl (Or.inl (HL.out.below ((Gr.refl _).alloc _).below)) (by simp; omega) (by simp) ?_)
  intro v1 w1 h1 h2
  have b1 : Below w.heap.size w w1 := by
    have hg := ((Gr.refl w).alloc (.cells #[] 5)).below
    exact hg.trans (h2.out.1.below hg.size (fun k hk => by simp [Value.ownBlock] at hk; omega))
  have L1 := owns_ls (E := EB) (owns_re (n' := L.length) (xs' := fl EB L) h1.out (by simp) (by simp))
  obtain ⟨p1, c1, rfl⟩ := L1.form
  clear h1 h2
  go_wp2_with fail
  refine (get_any _ L1 (by omega)).mono ?_
  rintro r w2 ⟨b2, u, rfl, nv, ev, xs, rfl, hx, go⟩
  have G2 := hid (vg_gr hx go)
  obtain ⟨qn, mn, cn, rfl⟩ := owns_form go.nodes.row
  obtain ⟨qe, me, ce, rfl⟩ := owns_form go.edges
  have B2 := hid (b1.trans (b2.mono b1.size))
  have hgT := (got_small (L := L)).2.2.2
  clear L1 b1 b2 go
  go_wp2_with fail
  go_at_call 9
  refine (known_any _).mono ?_
  rintro r w3 ⟨rfl, b3⟩
  have g3 := (Gr.refl w2).alloc (.cells (gvc (get L).1.arity (.slice qn mn cn) (.slice qe me ce)) 25)
  have v3 := (b3.block _ (by simp)).trans (heap_new' w2 (.cells (gvc (get L).1.arity (.slice qn mn cn) (.slice qe me ce)) 25))
  have G3 := hid ((G2.out.later (Nat.le_refl _) g3.below).later (Nat.le_refl _) b3)
  have B3 := hid (B2.out.trans ((g3.below.mono B2.out.size).trans (b3.mono (Nat.le_trans B2.out.size g3.size))))
  have c3 := (tk_store v3).1
  have l3 := tk_lt v3
  clear g3 b3 G2 B2 v3
  rcases get_back L with ⟨e, t, hg, he, ht⟩ | ⟨g, hg, hT, h0, hbg⟩
  · rw [hg] at hx G3 c3 ⊢
    have hz : ((e : Int) == 0) = false := by simp; omega
    have hz' : ¬ (e : Int) = 0 := by omega
    have ht0 : (0 : Int) ≤ (t : Int) := by omega
    have htl : (t : Int) ≤ (L.length : Int) := by omega
    have hsa := same_eq (a := 0) (gr_none w3 hx).2 w3 G3.out (gr_none w3 hx).1
    go_wp2_with fail
    go_at_call 11
    refine hsa.mono ?_
    rintro r w4 ⟨rfl, g4⟩
    have B4 := hid (B3.out.trans (g4.below.mono B3.out.size))
    clear g4
    go_wp2_with fail
    go_ret
    exact ⟨rfl, B4.out⟩
  · rw [hg] at hx G3 c3 hgT ⊢
    have hgo : gof g.arity xs g.edges = g := by
      obtain ⟨ga, gn, ge⟩ := g
      simp only at hx
      rw [gof, hx]
    have hpu := put_any (a := g.arity) (by rw [hgo]; exact hT) w3 G3.out
    rw [hgo] at hpu
    go_wp2_with fail
    go_at_call 8
    refine hpu.mono ?_
    rintro r w4 ⟨b4, d, rfl, hd⟩
    rw [h0, hbg] at hd
    rw [h0]
    have hd := (hd.resolve_right (fun h => h.1 rfl)).2
    obtain ⟨pd, cd, rfl⟩ := (owns_ls (E := EB) hd).form
    have t1 := to_text (owns_ls (E := EB) hd)
    have B4 := hid (B3.out.trans (b4.mono B3.out.size))
    have t2 := to_text (HL.out.below B4.out)
    clear hd b4
    go_wp2_with fail
    go_ret
    exact ⟨rfl, B4.out⟩
end Go.Proofs.Ytnclnagpfjmlcaa.Df
