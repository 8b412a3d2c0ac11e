import Derived.Test.YtkopmkmfigenlaaVWr
namespace Go.Proofs.Ytkopmkmfigenlaa.Wi
open Go.RowKit Go.Sort
attribute [local go_sem ↓] Go.wp_at_zero Go.wp_at_succ

theorem newwriter_any (w : World) : Calls Try.prog 22 #[] w fun r w' => ∃ wb, r = .returned (.pointer (some ⟨wb, 0, none⟩)) ∧ w.heap.size ≤ wb ∧ Wr w' wb (.slice none 0 0) [] 0 ∧ Gr w w' := by
  go_enter Try.func22, Try.ntmps22
  go_wp2
  go_ret
  exact ⟨_, rfl, Nat.le_refl _, ⟨heap_new' _ _, ow_nil _, by simp [Value.ownBlock]⟩, (Gr.refl _).alloc _⟩
theorem wdata_any {wb e : Nat} {v : Value} {L : List UInt8} (w : World) (hW : Wr w wb v L e) (hl : L.length ≤ 140737488355328) : Calls Try.prog 24 #[.pointer (some ⟨wb, 0, none⟩)] w fun r w' => ∃ d, r = .returned d ∧ w'.ownsRow w.heap.size 5 1 d L.length (fl EB L) ∧ Below w.heap.size w w' := by
  have k1 := hW.c1
  have kl := hW.lt
  have hc := clone_any w (ow_ls hW.own) hl
  clear hW
  go_enter Try.func24, Try.ntmps24
  go_wp2_with (go_at_call 44; refine hc.mono ?_; rintro r w4 ⟨d, rfl, h1, h2⟩)
  go_ret
  exact ⟨d, rfl, h1, h2⟩
set_option maxHeartbeats 1000000 in
theorem wbyte_any {wb e : Nat} {v : Value} {L : List UInt8} (x : UInt8) (w : World) (hW : Wr w wb v L e) (hl : L.length + 1 ≤ 140737488355328) :
    Calls Try.prog 86 #[.pointer (some ⟨wb, 0, none⟩), bv x] w fun r w' => ∃ v', r = .returned (.tuple #[]) ∧ Wr w' wb v' (put e L [x]) e ∧ Turn wb v v' w w' := by
  have hf := failed_any w hW.lt hW.c0
  have k1 := hW.c1
  have kl := hW.lt
  have HW := hid hW
  clear hW
  by_cases h0 : e = 0
  · subst h0
    go_enter Try.func86, Try.ntmps86
    go_wp2_with (first | (go_at_call 83; refine hf.mono ?_; rintro r w4 ⟨rfl, rfl⟩) | (at_builtin; refine wpB1 rfl _ _ rfl v L rfl HW.out.own x rfl hl _ rfl _ ?_))
    intro v5 w5 h5 t5
    obtain ⟨p5, n5, c5, rfl⟩ := ow_form h5.out
    obtain ⟨s0, s1, s2, s3, s4, s5⟩ := HW.out.store h5.out t5.out
    have S4 := hid s4
    have S5 := hid s5
    clear s4 s5 h5 t5
    go_wp2_with fail
    go_end0
    exact ⟨_, rfl, S4.out, S5.out⟩
  · have hput : put e L [x] = L := by unfold put; rw [if_neg h0]
    rw [hput]
    rw [decide_eq_true h0] at hf
    clear hput
    go_enter Try.func86, Try.ntmps86
    go_wp2_with (first | (go_at_call 83; refine hf.mono ?_; rintro r w4 ⟨rfl, rfl⟩))
    refine bodyPost_ret (results_none rfl _ _ _) rfl ?_
    exact ⟨_, rfl, HW.out, Turn.refl _ _ _⟩
theorem note_any {b e n : Nat} (w : World) (_hlt : b < w.heap.size) (_hc : w.cell? ⟨b, 0, none⟩ = some (.int .i64 (e : Nat))) (_hfz : w.frozen? ⟨b, 0, none⟩ = false) :
    Calls Try.prog 80 #[.pointer (some ⟨b, 0, none⟩), .int .i64 (n : Nat)] w fun r w' => r = .returned (.tuple #[]) ∧ w' = if e = 0 then w.setCell ⟨b, 0, none⟩ (.int .i64 (n : Nat)) else w := by
  by_cases h0 : e = 0
  · subst h0
    rw [if_pos rfl]
    go_enter Try.func80, Try.ntmps80
    go_wp2
    go_end0
    exact ⟨rfl, rfl⟩
  · have hz : ¬ (e : Int) = 0 := by omega
    rw [if_neg h0]
    go_enter Try.func80, Try.ntmps80
    go_wp2
    go_end0
    exact ⟨rfl, rfl⟩
/-- What Bytes puts, and its error. -/
def putB (e : Nat) (L l : List UInt8) : List UInt8 := if e = 0 then (if 65536 < l.length then L else L ++ form l.length ++ l) else L
def putE (e : Nat) (l : List UInt8) : Nat := if e = 0 then (if 65536 < l.length then 2 else 0) else e
/-- Nil ones. -/
theorem wnum_nil (u : Nat) (w : World) : Calls Try.prog 60 #[.pointer none, .int .u64 u] w fun r w' => r = .returned (.tuple #[]) ∧ w' = w := by
  go_enter Try.func60, Try.ntmps60
  go_wp2_with fail
  refine bodyPost_ret (results_none rfl _ _ _) rfl ?_
  exact ⟨rfl, rfl⟩
theorem wbyte_nil (x : Value) (w : World) : Calls Try.prog 86 #[.pointer none, x] w fun r w' => r = .returned (.tuple #[]) ∧ w' = w := by
  go_enter Try.func86, Try.ntmps86
  go_wp2_with fail
  refine bodyPost_ret (results_none rfl _ _ _) rfl ?_
  exact ⟨rfl, rfl⟩
theorem wdata_nil (w : World) : Calls Try.prog 24 #[.pointer none] w fun r w' => r = .returned (.slice none 0 0) ∧ w' = w := by
  go_enter Try.func24, Try.ntmps24
  go_wp2_with fail
  go_ret
  exact ⟨rfl, rfl⟩
end Go.Proofs.Ytkopmkmfigenlaa.Wi
