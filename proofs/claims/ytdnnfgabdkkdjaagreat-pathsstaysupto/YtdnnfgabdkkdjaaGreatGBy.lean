import Derived.Test.YtdnnfgabdkkdjaaGreatGHas
import Derived.Test.YtdnnfgabdkkdjaaGreatFits
namespace Go.Proofs.YtdnnfgabdkkdjaaGreat.Df
open Go.RowKit Go.Sort
attribute [local go_sem ↓] Go.wp_at_zero Go.wp_at_succ
theorem pfits_any (p : Pth) (a : Int) (w : World) : Calls Tryz.prog 151 #[.agg #[.int .u64 (p.1 : Nat), .int .u64 (p.2.1 : Nat), .int .u64 (p.2.2 : Nat)], .int .i64 a] w fun r w' => r = .returned (.int .i64 (tfits p.1 p.2.1 p.2.2 a)) ∧ Gr w w' := by
 have hf := fun W => Fits_any p.1 p.2.1 p.2.2 a W
 generalize tfits (p.1 : Nat) (p.2.1 : Nat) (p.2.2 : Nat) a = t at hf ⊢
 go_enter Tryz.func151, Tryz.ntmps151
 go_wp2_with fail
 refine (hf _).mono ?_
 rintro r w1 ⟨rfl, g1⟩
 have G1 := hid (((Gr.refl w).alloc (.cells #[.int .u64 (p.1 : Nat), .int .u64 (p.2.1 : Nat), .int .u64 (p.2.2 : Nat)] 39)).trans g1)
 clear g1
 go_wp2_with fail
 go_ret
 exact ⟨rfl, G1.out⟩
set_option maxHeartbeats 1000000 in
theorem byflaw_any (k i o : Int) (cq : Option Addr) (cm cc : Nat) (via : Pth) (bd : Nat) (dq : Option Addr) (dm dc : Nat) (st : Bool) (a : Int) (w : World) : Calls Tryz.prog 135 #[.agg (ncells k i o (.slice cq cm cc) via bd (.slice dq dm dc) st), .int .i64 a] w fun r w' => r = .returned (.int .i64 (if 64 < bd ∨ tfits via.1 via.2.1 via.2.2 a ≠ 0 then 22 else 0)) ∧ Below w.heap.size w w' := by
 have hf := fun W => pfits_any via a W
 by_cases h : 64 < bd
 ·have hz : (64 : Int) < (bd : Int) := by omega
  rw [if_pos (Or.inl h)]
  clear h hf
  go_enter Tryz.func135, Tryz.ntmps135
  go_wp2_with fail
  go_ret
  exact ⟨rfl, ((Gr.refl w).alloc _).below⟩
 ·have hz : ¬ (64 : Int) < (bd : Int) := by omega
  by_cases ht : tfits via.1 via.2.1 via.2.2 a = 0
  ·rw [if_neg (by simp [h, ht])]
   rw [ht] at hf
   clear h ht
   go_enter Tryz.func135, Tryz.ntmps135
   go_wp2_with fail
   refine (hf _).mono ?_
   rintro r w1 ⟨rfl, g1⟩
   have G1 := hid (((Gr.refl w).alloc (.cells (ncells k i o (.slice cq cm cc) via bd (.slice dq dm dc) st) 89)).trans g1)
   clear g1
   go_wp2_with fail
   go_ret
   exact ⟨rfl, G1.out.below⟩
  ·rw [if_pos (Or.inr ht)]
   generalize tfits (via.1 : Nat) (via.2.1 : Nat) (via.2.2 : Nat) a = t at hf ht
   have hb : (t == 0) = false := by simp [ht]
   have hb' : (t != 0) = true := by simp [ht]
   clear h
   go_enter Tryz.func135, Tryz.ntmps135
   go_wp2_with fail
   refine (hf _).mono ?_
   rintro r w1 ⟨rfl, g1⟩
   have G1 := hid (((Gr.refl w).alloc (.cells (ncells k i o (.slice cq cm cc) via bd (.slice dq dm dc) st) 89)).trans g1)
   clear g1
   go_wp2_with fail
   go_ret
   exact ⟨rfl, G1.out.below⟩
def way (c d : Edg) : Bool := decide ((⟨c.src, c.out, c.dst, c.inn, d.keyed⟩ : Edg) = d)
abbrev ecells (x : Edg) : Array Value := #[.int .i64 x.src, .int .i64 x.out, .int .i64 x.dst, .int .i64 x.inn, .bool x.keyed]
theorem way_iff (c d : Edg) : way c d = true ↔ c.src = d.src ∧ c.out = d.out ∧ c.dst = d.dst ∧ c.inn = d.inn := by
 obtain ⟨a1, a2, a3, a4, a5⟩ := d
 simp [way]
set_option maxHeartbeats 1000000 in
theorem waysame_any (c d : Edg) (w : World) : Calls Tryz.prog 114 #[.agg (ecells c), .agg (ecells d)] w fun r w' => r = .returned (.bool (way c d)) ∧ Below w.heap.size w w' := by
 have heq := fun W => run_eqD ⟨c.src, c.out, c.dst, c.inn, d.keyed⟩ d W
 simp only at heq
 change ∀ W, _ = Result.ok (way c d) W at heq
 generalize way c d = b at heq ⊢
 go_enter Tryz.func114, Tryz.ntmps114
 go_wp2_with fail
 go_ret
 exact ⟨rfl, (((Gr.refl w).alloc _).alloc _).below⟩
set_option maxHeartbeats 1000000 in
theorem edgeflaw1_any (c d : Edg) (b : Nat) (w : World) (h : w.heap[b]? = some (.cells (ecells d) 94 (0, 0))) : Calls Tryz.prog 113 #[.agg (ecells c), .pointer (some ⟨b, 0, none⟩)] w fun r w' => r = .returned (.bool (way c d)) ∧ Below w.heap.size w w' := by
 have hw := fun W => waysame_any c d W
 generalize way c d = e at hw ⊢
 have h1 := (((Gr.refl w).alloc (.cells (ecells c) 94)).below.block _ (tk_lt h)).trans h
 have cc := (tk_store h1).1
 have cl := tk_lt h1
 have c0 := (tk_store h).1
 have l0 := tk_lt h
 clear h h1
 go_enter Tryz.func113, Tryz.ntmps113
 go_wp2_with fail
 refine (hw _).mono ?_
 rintro r w1 ⟨rfl, b1⟩
 have B1 : Hid (Below w.heap.size w w1) := ((Gr.refl w).alloc (.cells (ecells c) 94)).below.trans (b1.mono ((Gr.refl w).alloc (.cells (ecells c) 94)).size)
 clear b1
 go_wp2_with fail
 go_ret
 exact ⟨rfl, B1.out⟩
end Go.Proofs.YtdnnfgabdkkdjaaGreat.Df
