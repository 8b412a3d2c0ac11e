import Derived.Test.YtghpekkncfckaaaCaTold
namespace Go.Proofs.Ytghpekkncfckaaa.Ca
open Go.RowKit Go.Sort
attribute [local go_sem ↓] Go.wp_at_zero Go.wp_at_succ

/-- What a telling call leaves. -/
def Tld (w : World) (m : List Ct) (v : Value) (w' : World) : Prop := w'.ownsRow w.heap.size 36 5 v m.length (fl EC m) ∧ Below w.heap.size w w'
theorem own_form {w : World} {base n : Nat} {e : TypeId} {s : Nat} {v : Value} {xs : List Value} (h : w.ownsRow base e s v n xs) : ∃ p c, v = .slice p n c := by
  rcases h.2 with ⟨e1, e2⟩ | ⟨g, cap, cur, e1, _⟩
  · exact ⟨none, 0, by rw [e1, e2]⟩
  · exact ⟨_, _, e1⟩
theorem ask_all (w : World) : Ask 31 #[] (fun _ => true) w := by
  intro W x _
  show Calls Try.prog _ #[cv x] W _
  go_enter Try.func31, Try.ntmps31
  go_wp2
  go_ret
  exact ⟨rfl, (Gr.refl _).alloc _⟩
set_option maxHeartbeats 1000000 in
theorem ask_upto {B : Nat} {t : T3} (w : World) (hB : B < w.heap.size) (ht : Tc w B 0 t) : Ask 33 #[.pointer (some ⟨B, 0, none⟩)] (fun x => bel x.t t) w := by
  intro W x hb
  obtain ⟨g0, g1, g2⟩ := ht.below hB hb
  have hBW : B < W.heap.size := Nat.lt_of_lt_of_le hB hb.size
  have hne : B ≠ W.heap.size := by omega
  have H := fun V => Ahead_any x.a x.b x.c t.1 t.2.1 t.2.2 V
  rw [show tle x.a x.b x.c t.1 t.2.1 t.2.2 = bel x.t t from rfl] at H
  show Calls Try.prog _ #[cv x, .pointer (some ⟨B, 0, none⟩)] W _
  have e1 : (fun x : Ct => bel x.t t) x = bel x.t t := rfl
  rw [e1]
  clear e1
  generalize bel x.t t = r at H ⊢
  clear hb hB ht
  go_enter Try.func33, Try.ntmps33
  go_wp2_with (go_at_call 34; refine (H _).mono ?_; rintro e w1 ⟨rfl, hg⟩)
  go_ret
  exact ⟨rfl, ((Gr.refl _).alloc _).trans hg⟩
set_option maxHeartbeats 1000000 in
theorem ask_of {B : Nat} {k : Int} (w : World) (hB : B < w.heap.size) (hk : w.cell? ⟨B, 0, none⟩ = some (.int .u64 k)) : Ask 35 #[.pointer (some ⟨B, 0, none⟩)] (fun x => decide (x.k = k)) w := by
  intro W x hb
  have g0 := (hb.cell (p := ⟨B, 0, none⟩) hB).trans hk
  have hBW : B < W.heap.size := Nat.lt_of_lt_of_le hB hb.size
  have hne : B ≠ W.heap.size := by omega
  show Calls Try.prog _ #[cv x, .pointer (some ⟨B, 0, none⟩)] W _
  have e1 : (fun x : Ct => decide (x.k = k)) x = decide (x.k = k) := rfl
  rw [e1]
  clear e1 hb hB hk
  go_enter Try.func35, Try.ntmps35
  go_wp2
  go_ret
  refine ⟨?_, (Gr.refl _).alloc _⟩
  first | rfl | (by_cases h : x.k = k <;> simp [h])
set_option maxHeartbeats 1000000 in
theorem ask_done {B : Nat} {v : Value} {F : List T3} (w : World) (hB : B < w.heap.size) (hc : w.cell? ⟨B, 0, none⟩ = some v) (hv : Ls ET w v F) (hF : F.length ≤ maxLen) : Ask 36 #[.pointer (some ⟨B, 0, none⟩)] (fun x => !opn F x.t) w := by
  intro W x hb
  have g0 := (hb.cell (p := ⟨B, 0, none⟩) hB).trans hc
  have hBW : B < W.heap.size := Nat.lt_of_lt_of_le hB hb.size
  have hne : B ≠ W.heap.size := by omega
  obtain ⟨W1, hW1⟩ : ∃ W1, W1 = W.alloc (.cells #[.int .u64 x.a, .int .u64 x.b, .int .u64 x.c, .int .u64 x.k, .int .u64 x.v] 36) := ⟨_, rfl⟩
  have G1 : Gr W W1 := by rw [hW1]; exact (Gr.refl _).alloc _
  have H := sopen_any v F x.t W1 ((hv.below hb).below G1.below) hF
  show Calls Try.prog _ #[cv x, .pointer (some ⟨B, 0, none⟩)] W _
  have e1 : (fun x : Ct => !opn F x.t) x = !opn F x.t := rfl
  rw [e1]
  clear e1
  generalize opn F x.t = r at H ⊢
  obtain ⟨p, c, rfl⟩ := hv.form
  clear hb hB hc hv
  subst hW1
  go_enter Try.func36, Try.ntmps36
  go_wp2_with fail
  refine H.mono ?_
  rintro e w1 ⟨rfl, hg⟩
  go_wp2
  go_ret
  exact ⟨rfl, G1.trans hg⟩
section
variable {S : Nat → Prop} {pb : Nat} {l : List Ct}
set_option maxHeartbeats 1000000 in
theorem all_any (w : World) (h : Pb w S pb l) (hl : l.length * 40 ≤ 140737488355328) : Calls Try.prog 9 #[.pointer (some ⟨pb, 0, none⟩)] w fun e w' => ∃ p c, e = .returned (.slice p l.length c) ∧ Hid (Tld w (srt l) (.slice p l.length c) w') := by
  have H := told_any _ _ _ w h hl (enters_of Try.func31 (by kernel_rfl) rfl) (ask_all w)
  rw [show l.filter (fun _ => true) = l from List.filter_eq_self.2 (fun _ _ => rfl)] at H
  clear h hl
  go_enter Try.func9, Try.ntmps9
  go_wp2_with fail
  refine H.mono ?_
  rintro e w1 ⟨v, rfl, HR⟩
  obtain ⟨p, c, rfl⟩ := own_form HR.out.1
  go_wp2
  go_ret
  rw [srt_len] at HR ⊢
  exact ⟨p, c, rfl, by unfold Tld; rw [srt_len]; exact HR.out⟩
set_option maxHeartbeats 1000000 in
theorem upto_any (t : T3) (w : World) (h : Pb w S pb l) (hl : l.length * 40 ≤ 140737488355328) : Calls Try.prog 16 #[.pointer (some ⟨pb, 0, none⟩), tv t] w fun e w' => ∃ p n c, e = .returned (.slice p n c) ∧ Hid (Tld w ((srt l).filter fun x => bel x.t t) (.slice p n c) w' ∧ n = ((srt l).filter fun x => bel x.t t).length) := by
  obtain ⟨W1, hW1⟩ : ∃ W1, W1 = w.alloc (.cells #[.int .u64 t.1, .int .u64 t.2.1, .int .u64 t.2.2] 25) := ⟨_, rfl⟩
  have G1 : Gr w W1 := by rw [hW1]; exact (Gr.refl _).alloc _
  have H := told_any _ _ _ W1 (h.below G1.below) hl (enters_of Try.func33 (by kernel_rfl) rfl) (ask_upto (B := w.heap.size) (t := t) W1 (by rw [hW1]; simp) (by rw [hW1]; exact tc_new w t))
  rw [srt_filter] at H
  have HG := hid G1
  clear h hl G1
  go_enter Try.func16, Try.ntmps16
  go_wp2_with fail
  rw [← hW1]
  clear hW1
  refine H.mono ?_
  rintro e w1 ⟨v, rfl, HR⟩
  obtain ⟨p, c, rfl⟩ := own_form HR.out.1
  go_wp2
  go_ret
  exact ⟨p, _, c, rfl, ⟨owns_base HR.out.1 HG.out.size, HG.out.below.trans (HR.out.2.mono HG.out.size)⟩, rfl⟩
set_option maxHeartbeats 1000000 in
theorem of_any (k : Int) (w : World) (h : Pb w S pb l) (hl : l.length * 40 ≤ 140737488355328) : Calls Try.prog 17 #[.pointer (some ⟨pb, 0, none⟩), .int .u64 k] w fun e w' => ∃ p n c, e = .returned (.slice p n c) ∧ Hid (Tld w ((srt l).filter fun x => decide (x.k = k)) (.slice p n c) w' ∧ n = ((srt l).filter fun x => decide (x.k = k)).length) := by
  obtain ⟨W1, hW1⟩ : ∃ W1, W1 = w.alloc (.cells #[.int .u64 k] 23) := ⟨_, rfl⟩
  have G1 : Gr w W1 := by rw [hW1]; exact (Gr.refl _).alloc _
  have H := told_any _ _ _ W1 (h.below G1.below) hl (enters_of Try.func35 (by kernel_rfl) rfl) (ask_of (B := w.heap.size) (k := k) W1 (by rw [hW1]; simp) (by rw [hW1]; simp))
  rw [srt_filter] at H
  have HG := hid G1
  clear h hl G1
  go_enter Try.func17, Try.ntmps17
  go_wp2_with fail
  rw [← hW1]
  clear hW1
  refine H.mono ?_
  rintro e w1 ⟨v, rfl, HR⟩
  obtain ⟨p, c, rfl⟩ := own_form HR.out.1
  go_wp2
  go_ret
  exact ⟨p, _, c, rfl, ⟨owns_base HR.out.1 HG.out.size, HG.out.below.trans (HR.out.2.mono HG.out.size)⟩, rfl⟩
set_option maxHeartbeats 1000000 in
theorem done_any {v : Value} {F : List T3} (w : World) (h : Pb w S pb l) (hl : l.length * 40 ≤ 140737488355328) (hv : Ls ET w v F) (hF : F.length ≤ maxLen) : Calls Try.prog 18 #[.pointer (some ⟨pb, 0, none⟩), v] w fun e w' => ∃ p n c, e = .returned (.slice p n c) ∧ Hid (Tld w ((srt l).filter fun x => !opn F x.t) (.slice p n c) w' ∧ n = ((srt l).filter fun x => !opn F x.t).length) := by
  obtain ⟨W1, hW1⟩ : ∃ W1, W1 = w.alloc (.cells #[v] 26) := ⟨_, rfl⟩
  have G1 : Gr w W1 := by rw [hW1]; exact (Gr.refl _).alloc _
  have H := told_any _ _ _ W1 (h.below G1.below) hl (enters_of Try.func36 (by kernel_rfl) rfl) (ask_done (B := w.heap.size) W1 (by rw [hW1]; simp) (by rw [hW1]; simp) (hv.below G1.below) hF)
  rw [srt_filter] at H
  have HG := hid G1
  obtain ⟨pv, cv, rfl⟩ := hv.form
  clear h hl G1 hv
  go_enter Try.func18, Try.ntmps18
  go_wp2_with fail
  rw [← hW1]
  clear hW1
  refine H.mono ?_
  rintro e w1 ⟨v, rfl, HR⟩
  obtain ⟨p, c, rfl⟩ := own_form HR.out.1
  go_wp2
  go_ret
  exact ⟨p, _, c, rfl, ⟨owns_base HR.out.1 HG.out.size, HG.out.below.trans (HR.out.2.mono HG.out.size)⟩, rfl⟩
theorem len_any (w : World) (h : Pb w S pb l) : Calls Try.prog 10 #[.pointer (some ⟨pb, 0, none⟩)] w fun e w' => e = .returned (.int .i64 (l.length : Nat)) ∧ w' = w := by
  obtain ⟨v0, h1, h2, _⟩ := h.blk
  have c0 := (tk_store h1).1 0
  have hpl := tk_lt h1
  obtain ⟨p, c, rfl⟩ := own_form h2
  clear h h1 h2
  go_enter Try.func10, Try.ntmps10
  go_wp2
  go_ret
  exact ⟨rfl, rfl⟩
end
end Go.Proofs.Ytghpekkncfckaaa.Ca
