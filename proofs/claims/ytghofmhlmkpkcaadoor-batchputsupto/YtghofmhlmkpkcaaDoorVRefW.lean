import Derived.Test.YtghofmhlmkpkcaaDoorVWr2
namespace Go.Proofs.YtghofmhlmkpkcaaDoor.Wi
open Go.RowKit Go.Sort
attribute [local go_sem ↓] Go.wp_at_zero Go.wp_at_succ

set_option maxHeartbeats 1000000 in
set_option maxRecDepth 100000 in
theorem rform_any (u : Nat) (hu : u < 18446744073709551616) (w : World) :
    Calls Tryd.prog 60 #[.int .u64 u] w fun r w' => ∃ d, r = .returned d ∧ Ow w' d (form u) ∧ (∀ k, d.ownBlock = some k → w.heap.size ≤ k) ∧ Below w.heap.size w w' := by
  have hmx : Tryd.prog.follows .mixedOrders = true := by kernel_rfl
  have hfin : ∀ v1 w1, Tn (.slice none 0 0) v1 w w1 → (∀ k, v1.ownBlock = some k → w.heap.size ≤ k) ∧ Below w.heap.size w w1 := fun v1 w1 h =>
    ⟨fun k hk => (h.2 k hk).elim (fun e => by simp [Value.ownBlock] at e) id, h.1.below (Nat.le_refl _) (fun k hk => by simp [Value.ownBlock] at hk)⟩
  have HF := hid hfin
  clear hfin
  go_enter Tryd.func60, Tryd.ntmps60
  go_wp2_with fail
  go_loopw [0, 3] (fun s0 s3 wr => ∃ (v1 : Value) (P : List UInt8) (u1 : Nat), s3 = v1 ∧ s0 = .int .u64 u1 ∧ Hid (Ow wr v1 P ∧ Tn (.slice none 0 0) v1 w wr ∧ P ++ form u1 = form u ∧ u1 ≤ u)) (fun s0 _ _ => (RowKit.intOf s0).toNat)
  case atStart => exact ⟨_, [], u, rfl, rfl, ow_nil _, Tn.refl _ _, rfl, Nat.le_refl _⟩
  case round =>
    obtain ⟨v1, P, u1, rfl, rfl, HI⟩ := hrel
    have HPL : Hid (P.length + 1 ≤ 10) := by
      have h1 := congrArg List.length HI.out.2.2.1
      have h2 := form_ten hu
      have h3 := form_pos u1
      rw [List.length_append] at h1
      show P.length + 1 ≤ 10
      omega
    by_cases hs : u1 < 128
    · have hsz : ¬ (128 : Int) ≤ (u1 : Int) := by omega
      go_wp2_with (at_builtin; refine wpB1 rfl _ _ rfl _ P rfl HI.out.1 (UInt8.ofNat u1) rfl (by have := HPL.out; omega) _ (by rw [u8_of (by omega)]) _ ?_)
      intro v' w' h1 h2
      go_wp2_with fail
      go_ret
      obtain ⟨f1, f2⟩ := HF.out v' w' (HI.out.2.1.trans h2.out)
      refine ⟨v', rfl, ?_, f1, f2⟩
      rw [← HI.out.2.2.1, form_small hs]
      simpa using h1.out
    · have hsz : (128 : Int) ≤ (u1 : Int) := by omega
      have hq : IntKind.u64.wrap ((u1 : Int) / 128) = (u1 : Int) / 128 := by
        have := HI.out.2.2.2
        rw [IntKind.wrap_u64]; omega
      go_wp2_with (at_builtin; refine wpB1 rfl _ _ rfl _ P rfl HI.out.1 (UInt8.ofNat (u1 % 128 + 128)) rfl (by have := HPL.out; omega) _ (by rw [u8_of (by omega)]; omega) _ ?_)
      intro v' w' h1 h2
      go_wp2_with fail
      go_roundw
      case rel => exact ⟨v', P ++ [UInt8.ofNat (u1 % 128 + 128)], u1 / 128, rfl, rfl, by simpa using h1.out, HI.out.2.1.trans h2.out, by rw [List.append_assoc, List.singleton_append, ← form_great hs]; exact HI.out.2.2.1, Nat.le_trans (Nat.div_le_self _ _) HI.out.2.2.2⟩
      case measure => simp [RowKit.intOf]; omega
theorem rwhole_any (n : Int) (h0 : -9223372036854775808 ≤ n) (h1 : n ≤ 9223372036854775807) (w : World) : Calls Tryd.prog 61 #[.int .i64 n] w fun e w' => e = .returned (.int .u64 (fold n : Nat)) ∧ w' = w := by
  by_cases hn : n < 0
  · have hn2 : ¬ (0 : Int) ≤ n := by omega
    have e : (fold n : Int) = 2 * (-(n + 1)) + 1 := by unfold fold; rw [if_pos hn]; omega
    have H := hid e
    clear e
    go_enter Tryd.func61, Tryd.ntmps61
    go_wp2
    go_ret
    refine ⟨?_, rfl⟩
    rw [H.out]
    rfl
  · have hn2 : (0 : Int) ≤ n := by omega
    have e : (fold n : Int) = 2 * n := by unfold fold; rw [if_neg hn]; omega
    have H := hid e
    clear e
    go_enter Tryd.func61, Tryd.ntmps61
    go_wp2
    go_ret
    refine ⟨?_, rfl⟩
    rw [H.out]
    rfl
/-- The document's writer. -/
structure Rw (w : World) (rb : Nat) (v : Value) (L : List UInt8) (e : Nat) : Prop where
  blk : w.heap[rb]? = some (.cells #[v, .int .i64 (e : Nat)] 76 (0, 0))
  own : Ow w v L
  off : v.ownBlock ≠ some rb
section
variable {w w' : World} {rb e : Nat} {v : Value} {L : List UInt8}
theorem Rw.lt (h : Rw w rb v L e) : rb < w.heap.size := (Array.getElem?_eq_some_iff.1 h.blk).1
theorem Rw.c0 (h : Rw w rb v L e) : w.cell? ⟨rb, 0, none⟩ = some v := by simp [World.cell?, h.blk]
theorem Rw.c1 (h : Rw w rb v L e) : w.cell? ⟨rb, 1, none⟩ = some (.int .i64 (e : Nat)) := by simp [World.cell?, h.blk]
theorem Rw.fz (h : Rw w rb v L e) (o : Nat) : w.frozen? ⟨rb, o, none⟩ = false := by simp [World.frozen?, h.blk]
theorem Rw.row (h : Rw w rb v L e) : ∀ k, v.ownBlock = some k → k < w.heap.size := fun k hk => (h.own.lt k hk).2
theorem Rw.kp {S : Nat → Prop} (h : Rw w rb v L e) (hk : Kp S w w') (h1 : ¬ S rb) (h2 : ∀ k, v.ownBlock = some k → ¬ S k) : Rw w' rb v L e :=
  ⟨(hk.block rb h.lt h1).trans h.blk, owns_kp hk h.own h2, h.off⟩
theorem Rw.below (h : Rw w rb v L e) (hb' : Below w.heap.size w w') : Rw w' rb v L e := h.kp (S := fun _ => False) (Kp.of_below hb') (fun h => h) (fun _ _ h => h)
end
theorem rw_set {w : World} {rb : Nat} {e : Value} {v : Value} (h : w.heap[rb]? = some (.cells #[v, e] 76 (0, 0))) :
    (∀ v2, (w.setCell ⟨rb, 0, none⟩ v2).heap[rb]? = some (.cells #[v2, e] 76 (0, 0)) ∧ Kp (fun k => k = rb) w (w.setCell ⟨rb, 0, none⟩ v2)) ∧ (∀ e2, (w.setCell ⟨rb, 1, none⟩ e2).heap[rb]? = some (.cells #[v, e2] 76 (0, 0)) ∧ Kp (fun k => k = rb) w (w.setCell ⟨rb, 1, none⟩ e2)) := by
  refine ⟨fun v2 => ?_, fun n2 => ?_⟩
  · have e := setCell_eq_setRow w rb 0 _ _ _ v2 h
    rw [e]
    exact ⟨by rw [setRow_heap w rb _ _ _ _ h]; simp, rfl, rfl, rfl, by simp [World.setRow], fun k _ hne => setRow_other w rb k _ (by omega)⟩
  · have e := setCell_eq_setRow w rb 1 _ _ _ n2 h
    rw [e]
    exact ⟨by rw [setRow_heap w rb _ _ _ _ h]; simp, rfl, rfl, rfl, by simp [World.setRow], fun k _ hne => setRow_other w rb k _ (by omega)⟩
theorem Rw.store {w w1 : World} {rb e : Nat} {v v1 : Value} {L M : List UInt8} (h : Rw w rb v L e) (ho : Ow w1 v1 M) (ht : Tn v v1 w w1) :
    w1.frozen? ⟨rb, 0, none⟩ = false ∧ rb < w1.heap.size ∧ w1.cell? ⟨rb, 0, none⟩ = some v ∧ Rw (w1.setCell ⟨rb, 0, none⟩ v1) rb v1 M e ∧ Turn rb v v1 w (w1.setCell ⟨rb, 0, none⟩ v1) := by
  have hb : w1.heap[rb]? = some (.cells #[v, .int .i64 (e : Nat)] 76 (0, 0)) := (ht.1.block rb h.lt h.off).trans h.blk
  obtain ⟨h1, h2⟩ := (rw_set hb).1 v1
  have hne : v1.ownBlock ≠ some rb := fun e => by
    rcases ht.2 rb e with h3 | h3
    · exact h.off h3
    · have := h.lt; omega
  refine ⟨by simp [World.frozen?, hb], (Array.getElem?_eq_some_iff.1 hb).1, by simp [World.cell?, hb], ⟨h1, owns_kp h2 ho (fun k hk e => hne (e ▸ hk)), hne⟩, ?_, ht.2⟩
  exact (ht.1.mono (fun _ h => Or.inr h)).trans (h2.mono (fun _ h => Or.inl h)) (fun _ _ h => h)
set_option maxHeartbeats 1000000 in
theorem rput_any {rb e : Nat} {v b : Value} {L l : List UInt8} (w : World) (hR : Rw w rb v L e) (hB : Lb w b l) (hl : e = 0 → L.length + l.length ≤ 140737488355328) :
    Calls Tryd.prog 59 #[.pointer (some ⟨rb, 0, none⟩), b] w fun r w' => ∃ v', r = .returned (.tuple #[]) ∧ Rw w' rb v' (put e L l) e ∧ Turn rb v v' w w' := by
  have k0 := hR.c0
  have k1 := hR.c1
  have kl := hR.lt
  have HR := hid hR
  have HB := hid hB
  clear hR hB
  by_cases h0 : e = 0
  · subst h0
    go_enter Tryd.func59, Tryd.ntmps59
    go_wp2_with (at_builtin; refine wpBL rfl _ _ rfl 0 v L rfl HR.out.own b l rfl HB.out (hl rfl) (Nat.zero_le _) ?_)
    intro v5 w5 h5 t5
    have h5' : Ow w5 v5 (L ++ l) := owns_re h5.out (by simp) rfl
    obtain ⟨p5, n5, c5, rfl⟩ := ow_form h5'
    obtain ⟨s1, s2, s3, s4, s5⟩ := HR.out.store h5' t5.out
    have S4 := hid s4
    have S5 := hid s5
    clear s4 s5 h5 t5 h5'
    go_wp2_with fail
    go_end0
    exact ⟨_, rfl, S4.out, S5.out⟩
  · have hz : ¬ (e : Int) = 0 := by omega
    have hput : put e L l = L := by unfold put; rw [if_neg h0]
    rw [hput]
    clear hput
    go_enter Tryd.func59, Tryd.ntmps59
    go_wp2_with fail
    go_end0
    exact ⟨_, rfl, HR.out, Turn.refl _ _ _⟩
theorem Turn.ofB {rb : Nat} {v v' : Value} {w w1 w' : World} (hb : Below w.heap.size w w1) (h : Turn rb v v' w1 w') : Turn rb v v' w w' := (Turn.of_below hb).trans h
set_option maxHeartbeats 1000000 in
theorem rwnum_any {rb e : Nat} {v : Value} {L : List UInt8} (u : Nat) (hu : u < 18446744073709551616) (w : World) (hR : Rw w rb v L e) (hl : L.length + 10 ≤ 140737488355328) :
    Calls Tryd.prog 37 #[.pointer (some ⟨rb, 0, none⟩), .int .u64 u] w fun r w' => ∃ v', r = .returned (.tuple #[]) ∧ Rw w' rb v' (put e L (form u)) e ∧ Turn rb v v' w w' := by
  have hf := rform_any u hu w
  have HR := hid hR
  have ht := hid (form_ten hu)
  clear hR
  go_enter Tryd.func37, Tryd.ntmps37
  go_wp2_with fail
  refine hf.mono ?_
  rintro r w1 ⟨d, rfl, hd, hk, hb⟩
  have hp := rput_any w1 (HR.out.below hb) (Or.inl (ow_ls hd)) (fun _ => by have := ht.out; omega)
  have B1 := hid hb
  clear hd hk hb hf
  go_wp2_with fail
  refine hp.mono ?_
  rintro r w2 ⟨v2, rfl, h2, t2⟩
  go_wp2_with fail
  go_end0
  exact ⟨_, rfl, h2, Turn.ofB B1.out t2⟩
set_option maxHeartbeats 1000000 in
theorem rwint_any {rb e : Nat} {v : Value} {L : List UInt8} (n : Int) (h0 : -9223372036854775808 ≤ n) (h1 : n ≤ 9223372036854775807) (w : World) (hR : Rw w rb v L e) (hl : L.length + 10 ≤ 140737488355328) :
    Calls Tryd.prog 38 #[.pointer (some ⟨rb, 0, none⟩), .int .i64 n] w fun r w' => ∃ v', r = .returned (.tuple #[]) ∧ Rw w' rb v' (put e L (form (fold n))) e ∧ Turn rb v v' w w' := by
  have hw := rwhole_any n h0 h1 w
  have hf := rform_any (fold n) (fold_lt h0 h1) w
  have HR := hid hR
  have ht := hid (form_ten (fold_lt h0 h1))
  generalize fold n = F at hw hf ht ⊢
  clear hR
  go_enter Tryd.func38, Tryd.ntmps38
  go_wp2_with fail
  refine hw.mono ?_
  rintro r w0 ⟨rfl, rfl⟩
  go_wp2_with fail
  refine hf.mono ?_
  rintro r w1 ⟨d, rfl, hd, hk, hb⟩
  have hp := rput_any w1 (HR.out.below hb) (Or.inl (ow_ls hd)) (fun _ => by have := ht.out; omega)
  have B1 := hid hb
  clear hd hk hb hf hw
  go_wp2_with fail
  refine hp.mono ?_
  rintro r w2 ⟨v2, rfl, h2, t2⟩
  go_wp2_with fail
  go_end0
  exact ⟨_, rfl, h2, Turn.ofB B1.out t2⟩
end Go.Proofs.YtghofmhlmkpkcaaDoor.Wi
