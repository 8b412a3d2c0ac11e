import Derived.Test.YtgojhhdjpkilmaaVWr
namespace Go.Proofs.Ytgojhhdjpkilmaa.Wi
open Go.RowKit Go.Sort
attribute [local go_sem ↓] Go.wp_at_zero Go.wp_at_succ

theorem newwriter_any (w : World) : Calls Try.prog 10 #[] w fun r w' => ∃ wb, r = .returned (.pointer (some ⟨wb, 0, none⟩)) ∧ w.heap.size ≤ wb ∧ Wr w' wb (.slice none 0 0) [] 0 ∧ Gr w w' := by
  go_enter Try.func10, Try.ntmps10
  go_wp2
  go_ret
  exact ⟨_, rfl, Nat.le_refl _, ⟨heap_new' _ _, ow_nil _, by simp [Value.ownBlock]⟩, (Gr.refl _).alloc _⟩
theorem werr_any {wb e : Nat} {v : Value} {L : List UInt8} (w : World) (hW : Wr w wb v L e) : Calls Try.prog 25 #[.pointer (some ⟨wb, 0, none⟩)] w fun r w' => r = .returned (.int .i64 (e : Nat)) ∧ w' = w := by
  have k0 := hW.c0
  have kl := hW.lt
  clear hW
  go_enter Try.func25, Try.ntmps25
  go_wp2
  go_ret
  exact ⟨rfl, rfl⟩
theorem wdata_any {wb e : Nat} {v : Value} {L : List UInt8} (w : World) (hW : Wr w wb v L e) (hl : L.length ≤ 140737488355328) : Calls Try.prog 17 #[.pointer (some ⟨wb, 0, none⟩)] w fun r w' => ∃ d, r = .returned d ∧ w'.ownsRow w.heap.size 5 1 d L.length (fl EB L) ∧ Below w.heap.size w w' := by
  have k1 := hW.c1
  have kl := hW.lt
  have hc := clone_any w (ow_ls hW.own) hl
  clear hW
  go_enter Try.func17, Try.ntmps17
  go_wp2_with (go_at_call 32; refine hc.mono ?_; rintro r w4 ⟨d, rfl, h1, h2⟩)
  go_ret
  exact ⟨d, rfl, h1, h2⟩
set_option maxHeartbeats 1000000 in
theorem wint_any {wb e : Nat} {v : Value} {L : List UInt8} (n : Int) (h0 : -9223372036854775808 ≤ n) (h1 : n ≤ 9223372036854775807) (w : World) (hW : Wr w wb v L e) (hl : L.length + 10 ≤ 140737488355328) :
    Calls Try.prog 11 #[.pointer (some ⟨wb, 0, none⟩), .int .i64 n] w fun r w' => ∃ v', r = .returned (.tuple #[]) ∧ Wr w' wb v' (put e L (form (fold n))) e ∧ Turn wb v v' w w' := by
  have hf := folded_any n h0 h1 w
  have hn := wnum_any (fold n) (fold_lt h0 h1) w hW hl
  generalize fold n = F at hf hn ⊢
  clear hW
  go_enter Try.func11, Try.ntmps11
  go_wp2_with (first | (go_at_call 33; refine hf.mono ?_; rintro r w4 ⟨rfl, rfl⟩) | (go_at_call 13; refine hn.mono ?_; rintro r w5 ⟨v5, rfl, h5, t5⟩))
  go_end0
  exact ⟨_, rfl, h5, t5⟩
set_option maxHeartbeats 1000000 in
theorem wbyte_any {wb e : Nat} {v : Value} {L : List UInt8} (x : UInt8) (w : World) (hW : Wr w wb v L e) (hl : L.length + 1 ≤ 140737488355328) :
    Calls Try.prog 30 #[.pointer (some ⟨wb, 0, none⟩), bv x] w fun r w' => ∃ v', r = .returned (.tuple #[]) ∧ Wr w' wb v' (put e L [x]) e ∧ Turn wb v v' w w' := by
  have hf := failed_any w hW.lt hW.c0
  have k1 := hW.c1
  have kl := hW.lt
  have HW := hid hW
  clear hW
  by_cases h0 : e = 0
  · subst h0
    go_enter Try.func30, Try.ntmps30
    go_wp2_with (first | (go_at_call 35; refine hf.mono ?_; rintro r w4 ⟨rfl, rfl⟩) | (at_builtin; refine wpB1 rfl _ _ rfl v L rfl HW.out.own x rfl hl _ rfl _ ?_))
    intro v5 w5 h5 t5
    obtain ⟨p5, n5, c5, rfl⟩ := ow_form h5.out
    obtain ⟨s0, s1, s2, s3, s4, s5⟩ := HW.out.store h5.out t5.out
    have S4 := hid s4
    have S5 := hid s5
    clear s4 s5 h5 t5
    go_wp2_with fail
    go_end0
    exact ⟨_, rfl, S4.out, S5.out⟩
  · have hput : put e L [x] = L := by unfold put; rw [if_neg h0]
    rw [hput]
    rw [decide_eq_true h0] at hf
    clear hput
    go_enter Try.func30, Try.ntmps30
    go_wp2_with (first | (go_at_call 35; refine hf.mono ?_; rintro r w4 ⟨rfl, rfl⟩))
    refine bodyPost_ret (results_none rfl _ _ _) rfl ?_
    exact ⟨_, rfl, HW.out, Turn.refl _ _ _⟩
theorem note_any {b e n : Nat} (w : World) (_hlt : b < w.heap.size) (_hc : w.cell? ⟨b, 0, none⟩ = some (.int .i64 (e : Nat))) (_hfz : w.frozen? ⟨b, 0, none⟩ = false) :
    Calls Try.prog 40 #[.pointer (some ⟨b, 0, none⟩), .int .i64 (n : Nat)] w fun r w' => r = .returned (.tuple #[]) ∧ w' = if e = 0 then w.setCell ⟨b, 0, none⟩ (.int .i64 (n : Nat)) else w := by
  by_cases h0 : e = 0
  · subst h0
    rw [if_pos rfl]
    go_enter Try.func40, Try.ntmps40
    go_wp2
    go_end0
    exact ⟨rfl, rfl⟩
  · have hz : ¬ (e : Int) = 0 := by omega
    rw [if_neg h0]
    go_enter Try.func40, Try.ntmps40
    go_wp2
    go_end0
    exact ⟨rfl, rfl⟩
/-- What Bytes puts, and its error. -/
def putB (e : Nat) (L l : List UInt8) : List UInt8 := if e = 0 then (if 65536 < l.length then L else L ++ form l.length ++ l) else L
def putE (e : Nat) (l : List UInt8) : Nat := if e = 0 then (if 65536 < l.length then 2 else 0) else e
set_option maxHeartbeats 1000000 in
theorem wbytes_any {wb e : Nat} {v b : Value} {L l : List UInt8} (w : World) (hW : Wr w wb v L e) (hB : ∀ W, Kp (fun k => v.ownBlock = some k) w W → Lb W b l) (hl : L.length + 65546 ≤ 140737488355328) (hll : l.length < 9223372036854775808) :
    Calls Try.prog 31 #[.pointer (some ⟨wb, 0, none⟩), b] w fun r w' => ∃ v', r = .returned (.tuple #[]) ∧ Wr w' wb v' (putB e L l) (putE e l) ∧ Turn wb v v' w w' := by
  have hf := failed_any w hW.lt hW.c0
  have k1 := hW.c1
  have kl := hW.lt
  have HW := hid hW
  have HB := hid hB
  clear hW
  obtain ⟨pb, cb, rfl⟩ := (hB w (Kp.refl _ _)).form
  clear hB
  by_cases h0 : e = 0
  · subst h0
    by_cases hbig : 65536 < l.length
    · have hbz : (65536 : Int) < (l.length : Int) := by omega
      have hpb : putB 0 L l = L := by unfold putB; rw [if_pos rfl, if_pos hbig]
      have hpe : putE 0 l = 2 := by unfold putE; rw [if_pos rfl, if_pos hbig]
      rw [hpb, hpe]
      have hn := note_any (n := 2) w HW.out.lt HW.out.c0 (HW.out.fz 0)
      rw [if_pos rfl] at hn
      clear hpb hpe
      go_enter Try.func31, Try.ntmps31
      go_wp2_with (first | (go_at_call 35; refine hf.mono ?_; rintro r w4 ⟨rfl, rfl⟩) | (go_at_call 40; refine hn.mono ?_; rintro r w5 ⟨rfl, rfl⟩))
      refine bodyPost_ret (results_none rfl _ _ _) rfl ?_
      obtain ⟨h1, h2⟩ := (wr_set HW.out.blk).2 (.int .i64 (2 : Nat))
      exact ⟨v, rfl, ⟨h1, owns_kp h2 HW.out.own (fun k hk e => HW.out.off (e ▸ hk)), HW.out.off⟩, h2.mono (fun _ h => Or.inl h), fun _ h => Or.inl h⟩
    · have hbz : ¬ (65536 : Int) < (l.length : Int) := by omega
      have hpb : putB 0 L l = L ++ form l.length ++ l := by unfold putB; rw [if_pos rfl, if_neg hbig]
      have hpe : putE 0 l = 0 := by unfold putE; rw [if_pos rfl, if_neg hbig]
      rw [hpb, hpe]
      have hfo := form_any l.length (by omega) w HW.out.own (by omega)
      have hten := form_ten (v := l.length) (by omega)
      clear hpb hpe
      go_enter Try.func31, Try.ntmps31
      go_wp2_with (first | (go_at_call 35; refine hf.mono ?_; rintro r w4 ⟨rfl, rfl⟩) | (go_at_call 36; refine hfo.mono ?_; rintro r w5 ⟨v5, rfl, ho5, ht5⟩; have O5 := hid ho5; have T5 := hid ht5; clear ho5 ht5) | (at_builtin; refine wpBL rfl _ _ rfl 0 v5 (L ++ form l.length) rfl O5.out _ l rfl (HB.out _ T5.out.1) (by rw [List.length_append]; omega) (Nat.zero_le _) ?_))
      intro v6 w6 h6 t6
      have h6' : Ow w6 v6 (L ++ form l.length ++ l) := owns_re h6.out (by simp) (by simp)
      obtain ⟨p6, n6, c6, rfl⟩ := ow_form h6'
      obtain ⟨s0, s1, s2, s3, s4, s5⟩ := HW.out.store h6' (T5.out.trans t6.out)
      have S4 := hid s4
      have S5 := hid s5
      clear s4 s5 h6 t6 h6'
      go_wp2_with fail
      go_end0
      exact ⟨_, rfl, by simpa using S4.out, S5.out⟩
  · have hpb : putB e L l = L := by unfold putB; rw [if_neg h0]
    have hpe : putE e l = e := by unfold putE; rw [if_neg h0]
    rw [hpb, hpe]
    rw [decide_eq_true h0] at hf
    clear hpb hpe
    go_enter Try.func31, Try.ntmps31
    go_wp2_with (first | (go_at_call 35; refine hf.mono ?_; rintro r w4 ⟨rfl, rfl⟩))
    refine bodyPost_ret (results_none rfl _ _ _) rfl ?_
    exact ⟨_, rfl, HW.out, Turn.refl _ _ _⟩
/-- Nil ones. -/
theorem wnum_nil (u : Nat) (w : World) : Calls Try.prog 13 #[.pointer none, .int .u64 u] w fun r w' => r = .returned (.tuple #[]) ∧ w' = w := by
  go_enter Try.func13, Try.ntmps13
  go_wp2_with fail
  refine bodyPost_ret (results_none rfl _ _ _) rfl ?_
  exact ⟨rfl, rfl⟩
theorem wint_nil (n : Int) (h0 : -9223372036854775808 ≤ n) (h1 : n ≤ 9223372036854775807) (w : World) : Calls Try.prog 11 #[.pointer none, .int .i64 n] w fun r w' => r = .returned (.tuple #[]) ∧ w' = w := by
  have hf := folded_any n h0 h1 w
  have hn := wnum_nil (fold n) w
  generalize fold n = F at hf hn ⊢
  go_enter Try.func11, Try.ntmps11
  go_wp2_with (first | (go_at_call 33; refine hf.mono ?_; rintro r w4 ⟨rfl, rfl⟩) | (go_at_call 13; refine hn.mono ?_; rintro r w5 ⟨rfl, rfl⟩))
  go_end0
  exact ⟨rfl, rfl⟩
theorem wbyte_nil (x : Value) (w : World) : Calls Try.prog 30 #[.pointer none, x] w fun r w' => r = .returned (.tuple #[]) ∧ w' = w := by
  go_enter Try.func30, Try.ntmps30
  go_wp2_with fail
  refine bodyPost_ret (results_none rfl _ _ _) rfl ?_
  exact ⟨rfl, rfl⟩
theorem wbytes_nil (x : Value) (w : World) : Calls Try.prog 31 #[.pointer none, x] w fun r w' => r = .returned (.tuple #[]) ∧ w' = w := by
  go_enter Try.func31, Try.ntmps31
  go_wp2_with fail
  refine bodyPost_ret (results_none rfl _ _ _) rfl ?_
  exact ⟨rfl, rfl⟩
theorem wdata_nil (w : World) : Calls Try.prog 17 #[.pointer none] w fun r w' => r = .returned (.slice none 0 0) ∧ w' = w := by
  go_enter Try.func17, Try.ntmps17
  go_wp2_with fail
  go_ret
  exact ⟨rfl, rfl⟩
theorem werr_nil (w : World) : Calls Try.prog 25 #[.pointer none] w fun r w' => r = .returned (.int .i64 0) ∧ w' = w := by
  go_enter Try.func25, Try.ntmps25
  go_wp2_with fail
  go_ret
  exact ⟨rfl, rfl⟩
end Go.Proofs.Ytgojhhdjpkilmaa.Wi
