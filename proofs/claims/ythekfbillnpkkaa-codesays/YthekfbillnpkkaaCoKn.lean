import Derived.Test.YthekfbillnpkkaaCoPass
import Derived.Deep.RegionWith
import Derived.Deep.QuietTactic
import Derived.BigQuiet
namespace Go.Proofs.Ythekfbillnpkkaa.Cd
open Go.RowKit Go.Sort
attribute [local go_sem ↓] Go.wp_at_zero Go.wp_at_succ

theorem run_eqR (x y : Int) (w : World) : Sem.run Try.prog (Op.equalIn 10000 25 (.agg #[.int .u64 x, .int .u64 y]) (.agg #[.int .u64 x, .int .u64 y])) w = .ok true w := by
  have u3 := Try.underlying23
  have a3 := Try.isAgg23
  have z3 := Try.sizeOf23
  have hS : Try.prog.underlying 25 = some (.struct (Try.prog.fieldsOf 25)) := by kernel_rfl
  have hp : Try.prog.stoodInHeld 25 = false := by kernel_rfl
  rw [show (10000 : Nat) = 9999 + 1 from rfl, run_equalIn_agg w 9999 25 _ _ hS hp]
  simp only [Program.fieldsOf, Try.underlying25]
  go_simp
theorem run_eqO (x y : Int) (w : World) : Sem.run Try.prog (Op.equalIn 10000 35 (.agg #[.int .i64 x, .int .u64 y]) (.agg #[.int .i64 x, .int .u64 y])) w = .ok true w := by
  have u3 := Try.underlying23
  have a3 := Try.isAgg23
  have z3 := Try.sizeOf23
  have u4 := Try.underlying3
  have a4 := Try.isAgg3
  have z4 := Try.sizeOf3
  have hS : Try.prog.underlying 35 = some (.struct (Try.prog.fieldsOf 35)) := by kernel_rfl
  have hp : Try.prog.stoodInHeld 35 = false := by kernel_rfl
  rw [show (10000 : Nat) = 9999 + 1 from rfl, run_equalIn_agg w 9999 35 _ _ hS hp]
  simp only [Program.fieldsOf, Try.underlying35]
  go_simp
theorem ls_new1 (w : World) (k a : Int) : Ls EO (w.alloc (.cells #[.int .i64 k, .int .u64 a] 35)) (.slice (some ⟨w.heap.size, 0, none⟩) 1 1) [⟨k, a⟩] := by
  have h := heap_new' w (.cells #[.int .i64 k, .int .u64 a] 35)
  refine Or.inr ⟨_, 0, 1, rfl, (Array.getElem?_eq_some_iff.1 h).1, fun j u hj => ?_⟩
  simp only [World.cell?, h]
  have hj : ([.int .i64 k, .int .u64 a] : List Value)[j]? = some u := hj
  simpa using hj
theorem ls_new2 (w : World) (k a l b : Int) : Ls EO (w.alloc (.cells #[.int .i64 k, .int .u64 a, .int .i64 l, .int .u64 b] 35)) (.slice (some ⟨w.heap.size, 0, none⟩) 2 2) [⟨k, a⟩, ⟨l, b⟩] := by
  have h := heap_new' w (.cells #[.int .i64 k, .int .u64 a, .int .i64 l, .int .u64 b] 35)
  refine Or.inr ⟨_, 0, 2, rfl, (Array.getElem?_eq_some_iff.1 h).1, fun j u hj => ?_⟩
  simp only [World.cell?, h]
  have hj : ([.int .i64 k, .int .u64 a, .int .i64 l, .int .u64 b] : List Value)[j]? = some u := hj
  simpa using hj
set_option maxHeartbeats 4000000 in
set_option maxRecDepth 100000 in
theorem known_any (w : World) : Calls Try.prog 7 #[] w fun e w' => e = .returned (.bool true) ∧ Below w.heap.size w w' := by
  have hR := fun W => run_eqR 1 3 W
  have h1 : ∀ (W : World) (v : Value), Ls EO W v [⟨9, 2⟩] → Calls Try.prog 9 #[v, rv ⟨18446744073709551615, 1⟩] W fun e w' => e = .returned (rv ⟨1, 3⟩) ∧ Below W.heap.size W w' := fun W v hv => by
    have h := map_any (r := ⟨18446744073709551615, 1⟩) (by unfold Rok; simp) (by simp [Ook]) W hv
    rwa [show mapL [⟨9, 2⟩] ⟨18446744073709551615, 1⟩ = ⟨1, 3⟩ by decide +kernel] at h
  have h2 : ∀ (W : World) (v : Value), Ls EO W v [⟨21, 3⟩, ⟨26, 5⟩] → Calls Try.prog 10 #[v, rv ⟨3, 4⟩] W fun e w' => e = .returned (.bool true) ∧ Below W.heap.size W w' := fun W v hv => by
    have h := pass_any ⟨3, 4⟩ W hv
    rwa [show passL [⟨21, 3⟩, ⟨26, 5⟩] ⟨3, 4⟩ = true by decide +kernel] at h
  have h3 : ∀ (W : World) (v : Value), Ls EO W v [⟨27, 4⟩] → Calls Try.prog 10 #[v, rv ⟨3, 4⟩] W fun e w' => e = .returned (.bool false) ∧ Below W.heap.size W w' := fun W v hv => by
    have h := pass_any ⟨3, 4⟩ W hv
    rwa [show passL [⟨27, 4⟩] ⟨3, 4⟩ = false by decide +kernel] at h
  have h4 : ∀ (W : World) (v : Value), Ls EO W v [⟨3, 0⟩] → Calls Try.prog 8 #[.int .i64 2, v] W fun e w' => e = .returned (.int .i64 24) ∧ Below W.heap.size W w' := fun W v hv => by
    have h := check_any 2 W hv
    rwa [show chk 2 [⟨3, 0⟩] = 24 by decide +kernel] at h
  have h5 : ∀ (W : World), Calls Try.prog 8 #[.int .i64 6, .slice none 0 0] W fun e w' => e = .returned (.int .i64 20) ∧ Below W.heap.size W w' := fun W => by
    have h := check_any 6 W (Ls.nil (E := EO) W)
    rwa [show chk 6 [] = 20 by decide +kernel] at h
  go_enter Try.func7, Try.ntmps7
  go_wp2_with fail
  refine (h1 _ _ (ls_new1 _ _ _)).mono ?_
  rintro e w1 ⟨rfl, B1⟩
  have HB1 : Hid (Below w.heap.size w w1) := ((Gr.refl w).alloc _).below.trans (B1.mono ((Gr.refl w).alloc _).size)
  clear B1
  go_upto_region 2 with fail
  obtain ⟨W2, hW2⟩ : ∃ W2, W2 = w1.alloc (.cells #[.int .u64 1, .int .u64 3] 25) := ⟨_, rfl⟩
  have hG : Gr w1 W2 := by rw [hW2]; exact (Gr.refl w1).alloc _
  have hb : W2.heap[w1.heap.size]? = some (.cells #[.int .u64 1, .int .u64 3] 25 (0, 0)) := by rw [hW2]; exact heap_new' _ _
  obtain ⟨rb, hrb⟩ : ∃ rb, rb = w1.heap.size := ⟨_, rfl⟩
  rw [← hW2, ← hrb]
  rw [← hrb] at hb
  have HB2 : Hid (Below w.heap.size w W2) := HB1.out.trans (hG.below.mono HB1.out.size)
  clear hW2 hrb hG HB1
  have HK := hid hb
  clear hb
  go_wp2_with fail
  refine (h2 _ _ (ls_new2 _ _ _ _ _)).mono ?_
  rintro e w3 ⟨rfl, B3⟩
  have hG3 := ((Gr.refl W2).alloc (.cells #[.int .i64 21, .int .u64 3, .int .i64 26, .int .u64 5] 35)).below
  have B3' := hG3.trans (B3.mono hG3.size)
  have HB3 : Hid (Below w.heap.size w w3) := HB2.out.trans (B3'.mono HB2.out.size)
  have HK3 := hid ((B3'.block rb (blk_at HK.out).1).trans HK.out)
  clear B3 B3' hG3 HB2 HK
  go_wp2_with fail
  refine (h3 _ _ (ls_new1 _ _ _)).mono ?_
  rintro e w4 ⟨rfl, B4⟩
  have hG4 := ((Gr.refl w3).alloc (.cells #[.int .i64 27, .int .u64 4] 35)).below
  have B4' := hG4.trans (B4.mono hG4.size)
  have HB4 : Hid (Below w.heap.size w w4) := HB3.out.trans (B4'.mono HB3.out.size)
  have k4 := (B4'.block rb (blk_at HK3.out).1).trans HK3.out
  obtain ⟨l4, c4, f4⟩ := blk_at k4
  have c40 := c4 0
  have c41 := c4 1
  simp at c40 c41
  clear B4 B4' hG4 HB3 HK3 k4 c4
  go_wp2_with fail
  refine (h4 _ _ (ls_new1 _ _ _)).mono ?_
  rintro e w5 ⟨rfl, B5⟩
  have hG5 := ((Gr.refl w4).alloc (.cells #[.int .i64 3, .int .u64 0] 35)).below
  have HB5 : Hid (Below w.heap.size w w5) := HB4.out.trans ((hG5.trans (B5.mono hG5.size)).mono HB4.out.size)
  clear B5 hG5 HB4
  go_wp2_with fail
  refine (h5 _).mono ?_
  rintro e w6 ⟨rfl, B6⟩
  have HB6 : Hid (Below w.heap.size w w6) := HB5.out.trans (B6.mono HB5.out.size)
  go_wp2_with fail
  go_ret
  exact ⟨rfl, HB6.out⟩
end Go.Proofs.Ythekfbillnpkkaa.Cd
