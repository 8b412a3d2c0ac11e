import Derived.Test.YtghofmhlmkpkcaaDoorBTkn
namespace Go.Proofs.YtghofmhlmkpkcaaDoor.Wi
open Go.RowKit Go.Sort
attribute [local go_sem ↓] Go.wp_at_zero Go.wp_at_succ

theorem bts_le {l : List Cx} (h : bgo none l = 0) (hl : l.length < 18446744073709551616) : (bts l).length ≤ 50 * l.length + 10 := by
  by_cases h0 : l = []
  · subst h0; simp [bts]
  · rw [bts_ne h0, List.length_append]
    have := fcs_le l none h
    have := form_ten hl
    omega
theorem bput_ok {l : List Cx} (h : bgo none l = 0) : bput l = (bts l, 0) := by unfold bput; rw [if_pos h]
theorem owned_cap {w : World} {base : Nat} {e : TypeId} {size n : Nat} {v : Value} {xs : List Value} (h : w.ownsRow base e size v n xs) : ∀ p m c, v = .slice p m c → m ≤ c := by
  intro p m c hv
  subst hv
  obtain ⟨_, ⟨h0, h1⟩ | ⟨g', cap', cur, hv, _, _, hn, _, _⟩⟩ := h
  · cases h0; exact Nat.le_refl _
  · cases hv; exact hn
set_option maxHeartbeats 8000000 in
set_option maxRecDepth 100000 in
theorem batchOne_any {v : Value} {L : List UInt8} (w : World) (hg : Ety w) (hL : Ls EB w v L) (hl : L.length ≤ 1048576) :
    Calls Tryd.prog 3 #[v] w fun e w' => e = .returned (.bool true) ∧ Below w.heap.size w w' := by
  have hst := @to_text
  have htk := taken_any w hg
  have HL := hid hL
  have HG := hid hg
  have HLL := hid hl
  clear hg hL hl
  go_enter Tryd.func3, Tryd.ntmps3
  go_wp2_with fail
  refine htk.mono ?_
  rintro r w1 ⟨rfl, b1⟩
  have B1 := hid b1
  have L1 := hid (HL.out.below b1)
  clear htk b1
  go_wp2_with (at_builtin; refine wpBL rfl _ _ rfl w1.heap.size _ [] rfl (World.ownsRow_made w1 #[] 0 (Nat.le_refl _) (Nat.zero_le _) rfl) _ L rfl (Or.inl (L1.out.below ((Gr.refl _).alloc _).below)) (by have := HLL.out; simp; omega) (by simp) ?_)
  intro v2 w2 h2 t2
  have hal := ((Gr.refl w1).alloc (.cells #[] 5)).below
  have B2 : Hid (Below w1.heap.size w1 w2) := hal.trans (t2.out.1.below hal.size (fun k hk => by simp [Value.ownBlock] at hk; omega))
  have L2 := hid (owns_ls (E := EB) h2.out)
  have hgt := get_any w2 L2.out (by have := HLL.out; omega)
  clear h2 t2 hal
  go_wp2_with fail
  refine hgt.mono ?_
  rintro r w3 ⟨b3, h3⟩
  have B3 := hid b3
  have BW : Hid (Below w.heap.size w w3) := B1.out.trans ((B2.out.trans (b3.mono B2.out.size)).mono B1.out.size)
  have L3 := hid (HL.out.below BW.out)
  clear hgt b3
  cases hbg : bget L with
  | ok l =>
    rw [hbg] at h3
    obtain ⟨d, rfl, hd⟩ := h3
    obtain ⟨g1, g2, g3, g4⟩ := bget_ok hbg
    have hpu := put_any w3 (owns_ls (E := EC) hd) (owned_cap hd) (by have := HLL.out; omega)
    rw [bput_ok g1, g2] at hpu
    clear hd hbg g1 g2 g3 g4
    go_wp2_with fail
    refine hpu.mono ?_
    rintro r w4 ⟨d4, rfl, hd4, b4⟩
    have hc4 := hst (owns_ls (E := EB) hd4)
    have hc0 := hst (L3.out.below b4)
    have B4 := hid b4
    obtain ⟨p4, c4, rfl⟩ := (owns_ls (E := EB) hd4).form
    obtain ⟨pv, cv, rfl⟩ := L3.out.form
    clear hpu hd4 b4 hst
    go_wp2_with fail
    go_ret
    refine ⟨?_, BW.out.trans (B4.out.mono BW.out.size)⟩
    simp
  | error pe =>
    obtain ⟨p, e⟩ := pe
    rw [hbg] at h3
    obtain ⟨fb, rfl, hfb, hf⟩ := h3
    obtain ⟨q1, q2⟩ := bget_err hbg
    simp only at q1 q2
    have E3 : Hid (Ety w3) := HG.out.below BW.out
    have hft := fault_any w3 E3.out hf
    obtain ⟨pv, cv, rfl⟩ := L3.out.form
    have hz1 : (0 : Int) ≤ (p : Int) := by omega
    have hz2 : (p : Int) ≤ (L.length : Int) := by omega
    clear hf hfb hbg hst
    go_wp2_with fail
    refine hft.mono ?_
    rintro r w4 ⟨rfl, b4⟩
    have B4 := hid b4
    clear hft b4
    rcases q2 with rfl | rfl | rfl | rfl
    all_goals (
      go_wp2_with fail
      go_ret
      exact ⟨rfl, BW.out.trans (B4.out.mono BW.out.size)⟩)
end Go.Proofs.YtghofmhlmkpkcaaDoor.Wi
