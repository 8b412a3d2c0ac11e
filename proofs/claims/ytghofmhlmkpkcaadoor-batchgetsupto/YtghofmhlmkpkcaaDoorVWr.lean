import Derived.Test.YtghofmhlmkpkcaaDoorVNum
import Derived.Lib.SliceRun
namespace Go.Proofs.YtghofmhlmkpkcaaDoor.Wi
open Go.RowKit Go.Sort
attribute [local go_sem ↓] Go.wp_at_zero Go.wp_at_succ

set_option maxHeartbeats 1000000 in
theorem clone_any {v : Value} {l : List UInt8} (w : World) (hL : Ls EB w v l) (hl : l.length ≤ 140737488355328) :
    Calls Tryd.prog 41 #[v] w fun e w' => ∃ d, e = .returned d ∧ w'.ownsRow w.heap.size 5 1 d l.length (fl EB l) ∧ Below w.heap.size w w' := by
  have hmx : Tryd.prog.follows .mixedOrders = true := by kernel_rfl
  have q22 : ∀ (w : World) (a : Option Addr) (n c n' c' : Nat), (binOp .eql 22 (.slice a n c) (.slice none n' c')).run Tryd.prog w = .ok (.bool a.isNone) w := fun w a n c n' c' => Lib.run_eql_slice_nil w _ _ a n c n' c' Tryd.underlying22
  have HL : Hid (Ls EB w v l) := hL
  rcases hL with ⟨rfl, rfl⟩ | ⟨b, off, c, rfl, hb, ht⟩
  · go_enter Tryd.func41, Tryd.ntmps41
    go_wp2_with fail
    go_ret
    exact ⟨_, rfl, World.ownsRow_nil _ _ _ _, Below.refl _ _⟩
  · clear ht hb
    go_enter Tryd.func41, Tryd.ntmps41
    go_wp2_with (at_builtin; refine wpBL rfl _ _ rfl w.heap.size _ [] rfl (World.ownsRow_made w #[] 0 (Nat.le_refl _) (Nat.zero_le _) rfl) _ l rfl (Or.inl (HL.out.below ((Gr.refl _).alloc _).below)) (by simpa using hl) (by simp) ?_)
    intro v' w1 h1 h2
    go_wp2
    go_ret
    refine ⟨v', rfl, by simpa using h1.out, ?_⟩
    have hb2 : Below w.heap.size w (w.alloc (.cells #[] 5)) := ((Gr.refl w).alloc _).below
    exact hb2.trans (h2.out.1.below hb2.size (fun k hk => by simp [Value.ownBlock] at hk; omega))
theorem xor_ones (y : Int) : (BitVec.allOnes 64 ^^^ BitVec.ofInt 64 y).toNat = 18446744073709551615 - (y % 18446744073709551616).toNat := by
  rw [BitVec.allOnes_xor, BitVec.toNat_not, BitVec.toNat_ofInt]
  rfl
theorem xor_u64 (y : Int) (h0 : 0 ≤ y) (h1 : y < 18446744073709551616) : bits .xor .u64 IntKind.u64.max y = 18446744073709551615 - y := by
  show IntKind.u64.wrap ((BitVec.allOnes 64 ^^^ BitVec.ofInt 64 y).toNat : Int) = _
  rw [xor_ones, IntKind.wrap_u64]
  omega
theorem xor_i64 (y : Int) (h0 : 0 ≤ y) (h1 : y < 9223372036854775808) : bits .xor .i64 (-1) y = -y - 1 := by
  show IntKind.i64.wrap ((BitVec.allOnes 64 ^^^ BitVec.ofInt 64 y).toNat : Int) = _
  rw [xor_ones, IntKind.wrap_i64]
  omega
theorem folded_any (n : Int) (h0 : -9223372036854775808 ≤ n) (h1 : n ≤ 9223372036854775807) (w : World) : Calls Tryd.prog 72 #[.int .i64 n] w fun e w' => e = .returned (.int .u64 (fold n : Nat)) ∧ w' = w := by
  by_cases hn : n < 0
  · have e : bits .xor .u64 IntKind.u64.max (IntKind.u64.wrap (IntKind.u64.wrap n * 2)) = (fold n : Nat) := by
      rw [IntKind.wrap_u64, IntKind.wrap_u64, xor_u64 _ (by omega) (by omega)]
      unfold fold
      rw [if_pos hn]
      omega
    generalize fold n = F at e ⊢
    go_enter Tryd.func72, Tryd.ntmps72
    go_wp2
    go_ret
    exact ⟨rfl, rfl⟩
  · have e : n * 2 = (fold n : Nat) := by
      unfold fold
      rw [if_neg hn]
      omega
    have H := hid e
    clear e
    go_enter Tryd.func72, Tryd.ntmps72
    go_wp2
    go_ret
    refine ⟨?_, rfl⟩
    rw [← H.out]
    rfl
theorem unfolded_any (u : Nat) (h1 : u < 18446744073709551616) (w : World) : Calls Tryd.prog 68 #[.int .u64 u] w fun e w' => e = .returned (.int .i64 (unfold u)) ∧ w' = w := by
  by_cases hn : u % 2 = 1
  · have hz : (u : Int) % 2 = 1 := by omega
    have e : bits .xor .i64 (-1) ((u : Int) / 2) = unfold u := by
      rw [xor_i64 _ (by omega) (by omega)]
      unfold unfold
      rw [if_pos hn]
      omega
    have H := hid e
    clear e
    go_enter Tryd.func68, Tryd.ntmps68
    go_wp2
    go_ret
    refine ⟨?_, rfl⟩
    rw [← H.out]
    rfl
  · have hz : ¬ (u : Int) % 2 = 1 := by omega
    have e : (u : Int) / 2 = unfold u := by
      unfold unfold
      rw [if_neg hn]
      omega
    have H := hid e
    clear e
    go_enter Tryd.func68, Tryd.ntmps68
    go_wp2
    go_ret
    refine ⟨?_, rfl⟩
    rw [← H.out]
    rfl
theorem ow_form {w : World} {v : Value} {L : List UInt8} (h : Ow w v L) : ∃ p n c, v = .slice p n c := by
  obtain ⟨p, c, h⟩ := (ow_ls h).form
  exact ⟨p, _, c, h⟩
/-- A writer's block and its row. -/
structure Wr (w : World) (wb : Nat) (v : Value) (L : List UInt8) (e : Nat) : Prop where
  blk : w.heap[wb]? = some (.cells #[.int .i64 (e : Nat), v] 94 (0, 0))
  own : Ow w v L
  off : v.ownBlock ≠ some wb
section
variable {w w' : World} {wb e : Nat} {v : Value} {L : List UInt8}
theorem Wr.lt (h : Wr w wb v L e) : wb < w.heap.size := (Array.getElem?_eq_some_iff.1 h.blk).1
theorem Wr.c0 (h : Wr w wb v L e) : w.cell? ⟨wb, 0, none⟩ = some (.int .i64 (e : Nat)) := by simp [World.cell?, h.blk]
theorem Wr.c1 (h : Wr w wb v L e) : w.cell? ⟨wb, 1, none⟩ = some v := by simp [World.cell?, h.blk]
theorem Wr.fz (h : Wr w wb v L e) (o : Nat) : w.frozen? ⟨wb, o, none⟩ = false := by simp [World.frozen?, h.blk]
theorem Wr.row (h : Wr w wb v L e) : ∀ k, v.ownBlock = some k → k < w.heap.size := fun k hk => (h.own.lt k hk).2
theorem Wr.kp {S : Nat → Prop} (h : Wr w wb v L e) (hk : Kp S w w') (h1 : ¬ S wb) (h2 : ∀ k, v.ownBlock = some k → ¬ S k) : Wr w' wb v L e :=
  ⟨(hk.block wb h.lt h1).trans h.blk, owns_kp hk h.own h2, h.off⟩
theorem Wr.below (h : Wr w wb v L e) (hb' : Below w.heap.size w w') : Wr w' wb v L e := h.kp (S := fun _ => False) (Kp.of_below hb') (fun h => h) (fun _ _ h => h)
theorem Wr.gr (h : Wr w wb v L e) (hg : Gr w w') : Wr w' wb v L e := h.below hg.below
end
/-- The block is set anew. -/
theorem wr_set {w : World} {wb : Nat} {e : Value} {v : Value} (h : w.heap[wb]? = some (.cells #[e, v] 94 (0, 0))) :
    (∀ v2, (w.setCell ⟨wb, 1, none⟩ v2).heap[wb]? = some (.cells #[e, v2] 94 (0, 0)) ∧ Kp (fun k => k = wb) w (w.setCell ⟨wb, 1, none⟩ v2)) ∧ (∀ e2, (w.setCell ⟨wb, 0, none⟩ e2).heap[wb]? = some (.cells #[e2, v] 94 (0, 0)) ∧ Kp (fun k => k = wb) w (w.setCell ⟨wb, 0, none⟩ e2)) := by
  refine ⟨fun v2 => ?_, fun n2 => ?_⟩
  · have e := setCell_eq_setRow w wb 1 _ _ _ v2 h
    rw [e]
    exact ⟨by rw [setRow_heap w wb _ _ _ _ h]; simp, rfl, rfl, rfl, by simp [World.setRow], fun k _ hne => setRow_other w wb k _ (by omega)⟩
  · have e := setCell_eq_setRow w wb 0 _ _ _ n2 h
    rw [e]
    exact ⟨by rw [setRow_heap w wb _ _ _ _ h]; simp, rfl, rfl, rfl, by simp [World.setRow], fun k _ hne => setRow_other w wb k _ (by omega)⟩
/-- What a call may turn of a writer: its block, its row. -/
def Turn (wb : Nat) (v v' : Value) (w w' : World) : Prop := Kp (fun k => k = wb ∨ v.ownBlock = some k) w w' ∧ ∀ g, v'.ownBlock = some g → v.ownBlock = some g ∨ w.heap.size ≤ g
theorem Turn.refl (wb : Nat) (v : Value) (w : World) : Turn wb v v w w := ⟨Kp.refl _ _, fun _ h => Or.inl h⟩
theorem Turn.of_below {wb : Nat} {v : Value} {w w' : World} (h : Below w.heap.size w w') : Turn wb v v w w' := ⟨Kp.of_below h, fun _ h => Or.inl h⟩
theorem Turn.trans {wb : Nat} {v1 v2 v3 : Value} {a b c : World} (h : Turn wb v1 v2 a b) (k : Turn wb v2 v3 b c) : Turn wb v1 v3 a c := by
  refine ⟨h.1.trans k.1 fun j hj hs => ?_, fun g hg => ?_⟩
  · rcases hs with hs | hs
    · exact Or.inl hs
    · rcases h.2 j hs with h1 | h1
      · exact Or.inr h1
      · omega
  · rcases k.2 g hg with h1 | h1
    · exact h.2 g h1
    · exact Or.inr (Nat.le_trans h.1.size h1)
/-- What is put behind what stands, if there was no error. -/
def put (e : Nat) (L l : List UInt8) : List UInt8 := if e = 0 then L ++ l else L
/-- The row is stored anew. -/
theorem Wr.store {w w1 : World} {wb e : Nat} {v v1 : Value} {L M : List UInt8} (h : Wr w wb v L e) (ho : Ow w1 v1 M) (ht : Tn v v1 w w1) :
    w1.cell? ⟨wb, 0, none⟩ = some (.int .i64 (e : Nat)) ∧ w1.frozen? ⟨wb, 1, none⟩ = false ∧ wb < w1.heap.size ∧ w1.cell? ⟨wb, 1, none⟩ = some v ∧ Wr (w1.setCell ⟨wb, 1, none⟩ v1) wb v1 M e ∧ Turn wb v v1 w (w1.setCell ⟨wb, 1, none⟩ v1) := by
  have hb : w1.heap[wb]? = some (.cells #[.int .i64 (e : Nat), v] 94 (0, 0)) := (ht.1.block wb h.lt h.off).trans h.blk
  obtain ⟨h1, h2⟩ := (wr_set hb).1 v1
  have hne : v1.ownBlock ≠ some wb := fun e => by
    rcases ht.2 wb e with h3 | h3
    · exact h.off h3
    · have := h.lt; omega
  refine ⟨by simp [World.cell?, hb], by simp [World.frozen?, hb], (Array.getElem?_eq_some_iff.1 hb).1, by simp [World.cell?, hb], ⟨h1, owns_kp h2 ho (fun k hk e => hne (e ▸ hk)), hne⟩, ?_, ht.2⟩
  exact (ht.1.mono (fun _ h => Or.inr h)).trans (h2.mono (fun _ h => Or.inl h)) (fun _ _ h => h)
theorem failed_any {b e : Nat} (w : World) (_hlt : b < w.heap.size) (_hc : w.cell? ⟨b, 0, none⟩ = some (.int .i64 (e : Nat))) : Calls Tryd.prog 42 #[.pointer (some ⟨b, 0, none⟩)] w fun r w' => r = .returned (.bool (decide (¬ e = 0))) ∧ w' = w := by
  by_cases h0 : e = 0
  · subst h0
    go_enter Tryd.func42, Tryd.ntmps42
    go_wp2
    go_ret
    exact ⟨rfl, rfl⟩
  · have hz : ¬ (e : Int) = 0 := by omega
    rw [decide_eq_true h0]
    go_enter Tryd.func42, Tryd.ntmps42
    go_wp2
    go_ret
    refine ⟨?_, rfl⟩
    simp_all
set_option maxHeartbeats 1000000 in
theorem wnum_any {wb e : Nat} {v : Value} {L : List UInt8} (u : Nat) (hu : u < 18446744073709551616) (w : World) (hW : Wr w wb v L e) (hl : L.length + 10 ≤ 140737488355328) :
    Calls Tryd.prog 28 #[.pointer (some ⟨wb, 0, none⟩), .int .u64 u] w fun r w' => ∃ v', r = .returned (.tuple #[]) ∧ Wr w' wb v' (put e L (form u)) e ∧ Turn wb v v' w w' := by
  have hf := failed_any w hW.lt hW.c0
  have k1 := hW.c1
  have kl := hW.lt
  have HW := hid hW
  clear hW
  by_cases h0 : e = 0
  · subst h0
    have hfo := form_any u hu w HW.out.own hl
    go_enter Tryd.func28, Tryd.ntmps28
    go_wp2_with (first | (go_at_call 42; refine hf.mono ?_; rintro r w4 ⟨rfl, rfl⟩) | (go_at_call 49; refine hfo.mono ?_; rintro r w5 ⟨v5, rfl, ho5, ht5⟩; obtain ⟨p5, n5, c5, rfl⟩ := ow_form ho5; obtain ⟨s0, s1, s2, s3, s4, s5⟩ := HW.out.store ho5 ht5; have S4 := hid s4; have S5 := hid s5; clear s4 s5 ho5 ht5))
    go_end0
    exact ⟨_, rfl, S4.out, S5.out⟩
  · have hput : put e L (form u) = L := by unfold put; rw [if_neg h0]
    rw [hput]
    rw [decide_eq_true h0] at hf
    clear hput
    go_enter Tryd.func28, Tryd.ntmps28
    go_wp2_with (first | (go_at_call 42; refine hf.mono ?_; rintro r w4 ⟨rfl, rfl⟩))
    refine bodyPost_ret (results_none rfl _ _ _) rfl ?_
    exact ⟨_, rfl, HW.out, Turn.refl _ _ _⟩
end Go.Proofs.YtghofmhlmkpkcaaDoor.Wi
