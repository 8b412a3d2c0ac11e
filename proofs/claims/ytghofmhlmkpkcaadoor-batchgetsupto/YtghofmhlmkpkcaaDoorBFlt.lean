import Derived.Test.YtghofmhlmkpkcaaDoorBErr
import Derived.Test.YtghofmhlmkpkcaaDoorBTake
import Derived.Deep.QuietTactic
namespace Go.Proofs.YtghofmhlmkpkcaaDoor.Wi
open Go.RowKit Go.Sort
attribute [local go_sem ↓] Go.wp_at_zero Go.wp_at_succ

theorem Ety.lt {w : World} (h : Ety w) : 0 < w.heap.size := by
  unfold Ety at h
  rcases Nat.eq_zero_or_pos w.heap.size with h0 | h1
  · simp [World.cell?, h0] at h
  · exact h1
theorem Ety.kp {S : Nat → Prop} {w w' : World} (h : Ety w) (hk : Kp S w w') (hS : ¬ S 0) : Ety w' := by
  have := hk.cell (o := 0) h.lt hS
  unfold Ety at *
  exact this.trans h
theorem Ety.below {w w' : World} (h : Ety w) (hb : Below w.heap.size w w') : Ety w' := h.kp (S := fun _ => False) (Kp.of_below hb) (fun h => h)
theorem Ety.gr {w w' : World} (h : Ety w) (hg : Gr w w') : Ety w' := h.below hg.below
/-- errors.As of a fault. -/
theorem as_any (e : Addr) (tb : Nat) (old : Value) (w : World) (hg : Ety w) (ht : w.heap[tb]? = some (.cells #[old] 51 (0, 0))) :
    Calls Tryd.prog 33 #[.iface 51 (.pointer (some e)), .iface 71 (.pointer (some ⟨tb, 0, none⟩))] w fun ev w' => ev = .returned (.bool true) ∧ w'.heap[tb]? = some (.cells #[.pointer (some e)] 51 (0, 0)) ∧ Kp (fun k => k = tb) w w' := by
  refine (as_hit e ⟨tb, 0, none⟩ old w hg ((tk_store ht).1 0) ((tk_store ht).2 0)).mono ?_
  rintro ev w' ⟨rfl, rfl⟩
  refine ⟨rfl, ?_⟩
  have G4 := ((((Gr.refl w).alloc (.cells #[.pointer (some ⟨tb, 0, none⟩)] 71)).alloc (.cells #[.pointer (some ⟨4, 71, none⟩), .pointer (some ⟨w.heap.size, 0, none⟩), .int .u64 150] 100)).alloc (.cells #[.pointer (some ⟨4, 71, none⟩), .pointer (some ⟨w.heap.size, 0, none⟩), .int .u64 150] 100)).alloc (.cells #[.pointer (some e)] 51)
  have h4 := (G4.below.block tb (Array.getElem?_eq_some_iff.1 ht).1).trans ht
  obtain ⟨k1, k2⟩ := tk_set h4 0 (.pointer (some e))
  exact ⟨k1, (Kp.of_gr G4).trans k2 (fun _ _ h => h)⟩
theorem fault_nil (w : World) : Calls Tryd.prog 10 #[.nilIface] w fun r w' => r = .returned (.tuple #[.int .i64 0, .int .i64 0]) ∧ w' = w := by
  go_enter Tryd.func10, Tryd.ntmps10
  go_wp2
  go_ret2
  exact ⟨rfl, rfl⟩
set_option maxHeartbeats 4000000 in
theorem fault_any {fb p e : Nat} (w : World) (hg : Ety w) (hf : w.heap[fb]? = some (.cells #[.int .i64 (p : Nat), .int .i64 (e : Nat)] 60 (0, 0))) :
    Calls Tryd.prog 10 #[.iface 51 (.pointer (some ⟨fb, 0, none⟩))] w fun r w' => r = .returned (.tuple #[.int .i64 (p : Nat), .int .i64 (e : Nat)]) ∧ Below w.heap.size w w' := by
  have hmx : Tryd.prog.follows .mixedOrders = true := by kernel_rfl
  obtain ⟨W1, hW1⟩ : ∃ W, W = w.alloc (.cells #[.pointer none] 51) := ⟨_, rfl⟩
  obtain ⟨tb, htb⟩ : ∃ t, t = w.heap.size := ⟨_, rfl⟩
  have G1 : Gr w W1 := by rw [hW1]; exact (Gr.refl _).alloc _
  have hb1 : W1.heap[tb]? = some (.cells #[.pointer none] 51 (0, 0)) := by rw [hW1, htb]; exact heap_new' _ _
  have hlt := (Array.getElem?_eq_some_iff.1 hf).1
  have hf1 := (G1.below.block fb hlt).trans hf
  have has := as_any ⟨fb, 0, none⟩ tb _ W1 (hg.gr G1) hb1
  have HF1 := hid hf1
  have hne : Hid (fb ≠ tb ∧ fb < W1.heap.size ∧ w.heap.size ≤ tb) := ⟨by omega, (Array.getElem?_eq_some_iff.1 hf1).1, by omega⟩
  have HG1 := hid G1
  clear hf hg hf1 hb1 hlt G1
  go_enter Tryd.func10, Tryd.ntmps10
  go_wp2_with fail
  rw [← hW1, ← htb]
  clear hW1 htb
  refine has.mono ?_
  rintro r w2 ⟨rfl, h2, k2⟩
  have hf2 := (k2.block fb hne.out.2.1 hne.out.1).trans HF1.out
  have q0 := (tk_store h2).1 0
  have ql := (Array.getElem?_eq_some_iff.1 h2).1
  have z0 := (tk_store hf2).1 0
  have z1 := (tk_store hf2).1 1
  have zl := (Array.getElem?_eq_some_iff.1 hf2).1
  have his := is_same fb (e : Nat) w2 zl z1
  have HK := hid (HG1.out.below.trans ((k2.below (B := w.heap.size) HG1.out.size (fun k hk => by have := hne.out; omega))))
  clear has h2 k2 hf2
  go_wp2_with fail
  refine his.mono ?_
  rintro r w3 ⟨rfl, rfl⟩
  clear his
  go_wp2_with fail
  go_quiet (fail)
  go_wp2
  go_ret2
  exact ⟨rfl, HK.out.trans (((Gr.refl _).drewN _).below.mono HK.out.size)⟩
end Go.Proofs.YtghofmhlmkpkcaaDoor.Wi
