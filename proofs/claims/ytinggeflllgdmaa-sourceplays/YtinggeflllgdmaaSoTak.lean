import Derived.Test.YtinggeflllgdmaaSoMeth2
namespace Go.Proofs.Ytinggeflllgdmaa
open Go.RowKit Go.Sort
attribute [local go_sem ↓] Go.wp_at_zero Go.wp_at_succ
set_option maxHeartbeats 1000000 in
theorem nilEpoch_any (w : World) : Calls Try.prog 7 #[.pointer none] w fun e w' => e = .returned (ep none) ∧ Gr w w' := by
  simp only [ep, tv, Option.getD_none, Option.isSome_none]
  go_enter Try.func7, Try.ntmps7
  go_wp2
  exact bodyPost_ret (v := .tuple #[tv (0, 0, 0), .bool false]) (by simp [results, Try.results7, go_sem]) rfl ⟨rfl, (Gr.refl _).alloc _⟩
set_option maxHeartbeats 1000000 in
theorem nilSend_any (t : T3) (w : World) : Calls Try.prog 8 #[.pointer none, tv t] w fun e w' => e = .returned (.int .i64 0) ∧ Gr w w' := by
  simp only [tv]
  go_enter Try.func8, Try.ntmps8
  go_wp2
  go_ret
  exact ⟨rfl, (Gr.refl _).alloc _⟩
set_option maxHeartbeats 1000000 in
theorem nilAdv_any (t : T3) (w : World) : Calls Try.prog 9 #[.pointer none, tv t] w fun e w' => e = .returned (.int .i64 0) ∧ Gr w w' := by
  simp only [tv]
  go_enter Try.func9, Try.ntmps9
  go_wp2
  go_ret
  exact ⟨rfl, (Gr.refl _).alloc _⟩
set_option maxHeartbeats 1000000 in
theorem nilClose_any (w : World) : Calls Try.prog 10 #[.pointer none] w fun e w' => e = .returned (.int .i64 0) ∧ w' = w := by
  go_enter Try.func10, Try.ntmps10
  go_wp2
  go_ret
  exact ⟨rfl, rfl⟩
set_option maxHeartbeats 1000000 in
theorem nilCopy_any (w : World) : Calls Try.prog 12 #[.pointer none] w fun e w' => e = .returned (.pointer none) ∧ w' = w := by
  go_enter Try.func12, Try.ntmps12
  go_wp2
  go_ret
  exact ⟨rfl, rfl⟩
/-- An input and a time in a box, both made behind w. -/
structure Tk (w : World) (W : World) (sb b6 : Nat) (n : Int) (s : Option T3) (t : T3) : Prop where
  bl : Below w.heap.size w W
  so : So W sb n s
  bx : W.heap[b6]? = some (.cells (tc t) 30 (0, 0))
  ne : b6 ≠ sb
  ls : w.heap.size ≤ sb
  lb : w.heap.size ≤ b6
section
variable {w W W' : World} {sb b6 : Nat} {n : Int} {s s' : Option T3} {t : T3}
theorem Tk.gr (h : Tk w W sb b6 n s t) (g : Below W.heap.size W W') : Tk w W' sb b6 n s t := ⟨h.bl.trans (g.mono h.bl.size), h.so.below g, (g.block _ (tk_lt h.bx)).trans h.bx, h.ne, h.ls, h.lb⟩
theorem Tk.turn (h : Tk w W sb b6 n s t) (hs : So W' sb n s') (g : Kp (fun k => k = sb) W W') : Tk w W' sb b6 n s' t := ⟨h.bl.trans (g.below h.bl.size fun k hk => by rw [hk]; exact h.ls), hs, (g.block _ (tk_lt h.bx) h.ne).trans h.bx, h.ne, h.ls, h.lb⟩
theorem Tk.put (h : Tk w W sb b6 n s t) (u : T3) : Tk w (((W.setCell ⟨b6, 0, none⟩ (.int .u64 u.1)).setCell ⟨b6, 1, none⟩ (.int .u64 u.2.1)).setCell ⟨b6, 2, none⟩ (.int .u64 u.2.2)) sb b6 n s u := by
  obtain ⟨q0, k0⟩ := tk_set h.bx 0 (.int .u64 u.1)
  obtain ⟨q1, k1⟩ := tk_set q0 1 (.int .u64 u.2.1)
  obtain ⟨q2, k2⟩ := tk_set q1 2 (.int .u64 u.2.2)
  have k := (k0.trans k1 (fun _ _ h => h)).trans k2 (fun _ _ h => h)
  exact ⟨h.bl.trans (k.below h.bl.size fun k hk => by rw [hk]; exact h.lb), h.so.kp k fun e => h.ne e.symm, q2, h.ne, h.ls, h.lb⟩
theorem Tk.new {b : Nat} {w1 : World} (h1 : So w1 b n s) (h2 : Below w.heap.size w w1) (h3 : w.heap.size ≤ b) (t : T3) : Tk w (w1.alloc (.cells (tc t) 30)) b w1.heap.size n s t :=
  ⟨h2.trans (((Gr.refl w1).alloc _).below.mono h2.size), h1.below ((Gr.refl w1).alloc _).below, heap_new' _ _, fun e => by have := tk_lt h1; omega, h3, h2.size⟩
end
theorem put3 {W : World} {b : Nat} {t : T3} {T : TypeId} (h : W.heap[b]? = some (.cells (tc t) T (0, 0))) : W.frozen? ⟨b, 0, none⟩ = false ∧ W.frozen? ⟨b, 1, none⟩ = false ∧ W.frozen? ⟨b, 2, none⟩ = false := ⟨(tk_store h).2 0, (tk_store h).2 1, (tk_store h).2 2⟩
theorem sn_1 : snd 2 (some (0, 0, 0)) (2, 0, 0) = 0 ∧ adv 2 (some (0, 0, 0)) (2, 0, 0) = some (2, 0, 0) ∧ snd 2 (some (2, 0, 0)) (1, 9, 0) = 46 ∧ snd 2 (some (2, 0, 0)) (2, 0, 1) = 10 := by decide
set_option maxHeartbeats 8000000 in
set_option maxRecDepth 100000 in
theorem taken_any (w : World) : Calls Try.prog 6 #[] w fun e w' => e = .returned (.bool true) ∧ Below w.heap.size w w' := by
  have heqT := fun (a b c : Int) W => run_eqT a b c a b c W
  have hteq : ∀ a b c : Int, teq a b c a b c = true := fun a b c => by simp [teq]
  simp only [hteq] at heqT
  clear hteq
  have N2 := hid (fun W => newOk_any (n := 2) (by decide) W)
  have N4 := hid (fun W => newNo_any (n := 4) (by decide) W)
  go_enter Try.func6, Try.ntmps6
  go_wp2_with fail
  refine (N2.out _).mono ?_
  rintro e w1 ⟨sb, rfl, h1⟩
  clear N2
  go_wp2_with fail
  refine (N4.out _).mono ?_
  rintro e w2 ⟨rfl, g2⟩
  clear N4
  go_wp2_with fail
  refine (nilEpoch_any _).mono ?_
  rintro e w3 ⟨rfl, g3⟩
  simp only [ep, tv, Option.getD_none, Option.isSome_none]
  go_upto_region 5 with fail
  obtain ⟨W4, hW4⟩ : ∃ W4, W4 = w3.alloc (.cells #[.int .u64 0, .int .u64 0, .int .u64 0] 30) := ⟨_, rfl⟩
  obtain ⟨b6, hb6⟩ : ∃ b6, b6 = w3.heap.size := ⟨_, rfl⟩
  have hk4 : Hid (Tk w W4 sb b6 2 (some (0, 0, 0)) (0, 0, 0)) := by
    rw [hW4, hb6]
    exact Tk.new (h1.out.1.below (g2.trans g3).below) (h1.out.2.2.trans (g2.trans g3)).below h1.out.2.1 (0, 0, 0)
  rw [← hW4, ← hb6]
  clear hW4 hb6 h1 g2 g3
  obtain ⟨y0, y1, y2, yz⟩ := box3 hk4.out.bx
  simp only at y0 y1 y2
  go_wp2_with fail
  refine (nilSend_any (0, 0, 0) _).mono ?_
  rintro e w5 ⟨rfl, g5⟩
  have hk5 := hid (hk4.out.gr g5.below)
  clear hk4 g5 y0 y1 y2 yz
  obtain ⟨y0, y1, y2, yz⟩ := box3 hk5.out.bx
  simp only at y0 y1 y2
  go_wp2_with fail
  refine (nilAdv_any (0, 0, 0) _).mono ?_
  rintro e w6 ⟨rfl, g6⟩
  have hk6 := hid (hk5.out.gr g6.below)
  clear hk5 g6 y0 y1 y2 yz
  go_wp2_with fail
  refine (nilClose_any _).mono ?_
  rintro e w7 ⟨rfl, rfl⟩
  go_wp2_with fail
  refine (nilCopy_any _).mono ?_
  rintro e w8 ⟨rfl, rfl⟩
  have HA := hid (fun W hW => advance_any (b := sb) (n := 2) (s := some (0, 0, 0)) (2, 0, 0) W hW)
  rw [sn_1.1, sn_1.2.1] at HA
  go_wp2_with fail
  refine (HA.out _ hk6.out.so).mono ?_
  rintro e w9 ⟨rfl, h9⟩
  have hk9 := hid (hk6.out.turn h9.out.1 h9.out.2)
  clear hk6 h9 HA
  have HB := hid (fun W hW => send_any (b := sb) (n := 2) (s := some (2, 0, 0)) (1, 9, 0) W hW)
  rw [sn_1.2.2.1] at HB
  go_wp2_with fail
  refine (HB.out _ hk9.out.so).mono ?_
  rintro e w10 ⟨rfl, g10⟩
  have hk10 := hid (hk9.out.gr g10.below)
  clear hk9 g10 HB
  have HB := hid (fun W hW => send_any (b := sb) (n := 2) (s := some (2, 0, 0)) (2, 0, 1) W hW)
  rw [sn_1.2.2.2] at HB
  go_wp2_with fail
  refine (HB.out _ hk10.out.so).mono ?_
  rintro e w11 ⟨rfl, g11⟩
  have hk11 := hid (hk10.out.gr g11.below)
  clear hk10 g11 HB
  go_wp2_with fail
  refine (epoch_any _ hk11.out.so).mono ?_
  rintro e w12 ⟨rfl, g12⟩
  have hk12 := hid (hk11.out.gr g12)
  clear hk11 g12
  simp only [ep, tv, Option.getD_some, Option.isSome_some]
  obtain ⟨y0, y1, y2, yz⟩ := box3 hk12.out.bx
  obtain ⟨f0, f1, f2⟩ := put3 hk12.out.bx
  have hk13 := hid (hk12.out.put (2, 0, 0))
  obtain ⟨z0, z1, z2, zz⟩ := box3 hk13.out.bx
  simp only at z0 z1 z2 zz
  clear hk12
  simp only at hk13
  obtain ⟨W13, hW13⟩ : ∃ W13, W13 = (((w12.setCell ⟨b6, 0, none⟩ (.int .u64 2)).setCell ⟨b6, 1, none⟩ (.int .u64 0)).setCell ⟨b6, 2, none⟩ (.int .u64 0)) := ⟨_, rfl⟩
  rw [← hW13] at hk13 z0 z1 z2 zz
  go_upto_region 10 with fail
  rw [← hW13]
  clear hW13 f0 f1 f2 y0 y1 y2 yz
  go_wp2_with fail
  go_ret
  exact ⟨rfl, hk13.out.bl⟩
end Go.Proofs.Ytinggeflllgdmaa
