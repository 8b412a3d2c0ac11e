import Derived.Test.YtghofmhlmkpkcaaDoorVWr
namespace Go.Proofs.YtghofmhlmkpkcaaDoor.Wi
open Go.RowKit Go.Sort
attribute [local go_sem ↓] Go.wp_at_zero Go.wp_at_succ

theorem newwriter_any (w : World) : Calls Tryd.prog 27 #[] w fun r w' => ∃ wb, r = .returned (.pointer (some ⟨wb, 0, none⟩)) ∧ w.heap.size ≤ wb ∧ Wr w' wb (.slice none 0 0) [] 0 ∧ Gr w w' := by
  go_enter Tryd.func27, Tryd.ntmps27
  go_wp2
  go_ret
  exact ⟨_, rfl, Nat.le_refl _, ⟨heap_new' _ _, ow_nil _, by simp [Value.ownBlock]⟩, (Gr.refl _).alloc _⟩
theorem wdata_any {wb e : Nat} {v : Value} {L : List UInt8} (w : World) (hW : Wr w wb v L e) (hl : L.length ≤ 140737488355328) : Calls Tryd.prog 32 #[.pointer (some ⟨wb, 0, none⟩)] w fun r w' => ∃ d, r = .returned d ∧ w'.ownsRow w.heap.size 5 1 d L.length (fl EB L) ∧ Below w.heap.size w w' := by
  have k1 := hW.c1
  have kl := hW.lt
  have hc := clone_any w (ow_ls hW.own) hl
  clear hW
  go_enter Tryd.func32, Tryd.ntmps32
  go_wp2_with (go_at_call 41; refine hc.mono ?_; rintro r w4 ⟨d, rfl, h1, h2⟩)
  go_ret
  exact ⟨d, rfl, h1, h2⟩
set_option maxHeartbeats 1000000 in
theorem wint_any {wb e : Nat} {v : Value} {L : List UInt8} (n : Int) (h0 : -9223372036854775808 ≤ n) (h1 : n ≤ 9223372036854775807) (w : World) (hW : Wr w wb v L e) (hl : L.length + 10 ≤ 140737488355328) :
    Calls Tryd.prog 51 #[.pointer (some ⟨wb, 0, none⟩), .int .i64 n] w fun r w' => ∃ v', r = .returned (.tuple #[]) ∧ Wr w' wb v' (put e L (form (fold n))) e ∧ Turn wb v v' w w' := by
  have hf := folded_any n h0 h1 w
  have hn := wnum_any (fold n) (fold_lt h0 h1) w hW hl
  generalize fold n = F at hf hn ⊢
  clear hW
  go_enter Tryd.func51, Tryd.ntmps51
  go_wp2_with (first | (go_at_call 72; refine hf.mono ?_; rintro r w4 ⟨rfl, rfl⟩) | (go_at_call 28; refine hn.mono ?_; rintro r w5 ⟨v5, rfl, h5, t5⟩))
  go_end0
  exact ⟨_, rfl, h5, t5⟩
theorem note_any {b e n : Nat} (w : World) (_hlt : b < w.heap.size) (_hc : w.cell? ⟨b, 0, none⟩ = some (.int .i64 (e : Nat))) (_hfz : w.frozen? ⟨b, 0, none⟩ = false) :
    Calls Tryd.prog 48 #[.pointer (some ⟨b, 0, none⟩), .int .i64 (n : Nat)] w fun r w' => r = .returned (.tuple #[]) ∧ w' = if e = 0 then w.setCell ⟨b, 0, none⟩ (.int .i64 (n : Nat)) else w := by
  by_cases h0 : e = 0
  · subst h0
    rw [if_pos rfl]
    go_enter Tryd.func48, Tryd.ntmps48
    go_wp2
    go_end0
    exact ⟨rfl, rfl⟩
  · have hz : ¬ (e : Int) = 0 := by omega
    rw [if_neg h0]
    go_enter Tryd.func48, Tryd.ntmps48
    go_wp2
    go_end0
    exact ⟨rfl, rfl⟩
/-- What Bytes puts, and its error. -/
def putB (e : Nat) (L l : List UInt8) : List UInt8 := if e = 0 then (if 65536 < l.length then L else L ++ form l.length ++ l) else L
def putE (e : Nat) (l : List UInt8) : Nat := if e = 0 then (if 65536 < l.length then 2 else 0) else e
/-- Nil ones. -/
theorem wnum_nil (u : Nat) (w : World) : Calls Tryd.prog 28 #[.pointer none, .int .u64 u] w fun r w' => r = .returned (.tuple #[]) ∧ w' = w := by
  go_enter Tryd.func28, Tryd.ntmps28
  go_wp2_with fail
  refine bodyPost_ret (results_none rfl _ _ _) rfl ?_
  exact ⟨rfl, rfl⟩
theorem wint_nil (n : Int) (h0 : -9223372036854775808 ≤ n) (h1 : n ≤ 9223372036854775807) (w : World) : Calls Tryd.prog 51 #[.pointer none, .int .i64 n] w fun r w' => r = .returned (.tuple #[]) ∧ w' = w := by
  have hf := folded_any n h0 h1 w
  have hn := wnum_nil (fold n) w
  generalize fold n = F at hf hn ⊢
  go_enter Tryd.func51, Tryd.ntmps51
  go_wp2_with (first | (go_at_call 72; refine hf.mono ?_; rintro r w4 ⟨rfl, rfl⟩) | (go_at_call 28; refine hn.mono ?_; rintro r w5 ⟨rfl, rfl⟩))
  go_end0
  exact ⟨rfl, rfl⟩
theorem wdata_nil (w : World) : Calls Tryd.prog 32 #[.pointer none] w fun r w' => r = .returned (.slice none 0 0) ∧ w' = w := by
  go_enter Tryd.func32, Tryd.ntmps32
  go_wp2_with fail
  go_ret
  exact ⟨rfl, rfl⟩
end Go.Proofs.YtghofmhlmkpkcaaDoor.Wi
