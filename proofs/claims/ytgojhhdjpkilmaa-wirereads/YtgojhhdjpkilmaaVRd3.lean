import Derived.Test.YtgojhhdjpkilmaaVRd2
namespace Go.Proofs.Ytgojhhdjpkilmaa.Wi
open Go.RowKit Go.Sort
attribute [local go_sem ↓] Go.wp_at_zero Go.wp_at_succ

/-- The most that a number of bytes may be. -/
def lim (most : Int) : Nat := (min (max most 0) 65536).toNat
/-- What Bytes takes: the bytes, how many with the number's form, the error. -/
def cnt (most : Int) (l : List UInt8) : List UInt8 × Nat × Nat :=
  if (scan (lim most) 0 0 l).2.2 ≠ 0 then ([], 0, (scan (lim most) 0 0 l).2.2)
  else if most < 0 then ([], 0, 12)
  else if l.length - (scan (lim most) 0 0 l).2.1 < (scan (lim most) 0 0 l).1 then ([], 0, 30)
  else ((l.drop (scan (lim most) 0 0 l).2.1).take (scan (lim most) 0 0 l).1, (scan (lim most) 0 0 l).2.1 + (scan (lim most) 0 0 l).1, 0)
/-- Bytes out of the midst of a list. -/
theorem ls_mid {w : World} {p : Option Addr} {c n m : Nat} {L : List UInt8} (h : Ls EB w (.slice p L.length c) L) (hle : n + m ≤ L.length) (hc : L.length ≤ c) :
    Ls EB w (.slice (if c = n then p else Option.map (fun x => x.add n) p) m (c - n)) ((L.drop n).take m) ∧ ∀ k, (Value.slice (if c = n then p else Option.map (fun x => x.add n) p) m (c - n)).ownBlock = some k → (Value.slice p L.length c).ownBlock = some k := by
  obtain ⟨h1, h2⟩ := ls_rest (at_ := n) h (by omega) hc
  generalize (if c = n then p else Option.map (fun x => x.add n) p) = q at h1 h2 ⊢
  have hl : m ≤ (L.drop n).length := by rw [List.length_drop]; omega
  refine ⟨?_, fun k hk => h2 k ?_⟩
  · rcases h1 with ⟨e, h⟩ | ⟨b, off, c', hv, hb, ht⟩
    · rw [e] at hl ⊢
      have hm : m = 0 := by simpa using hl
      subst hm
      simp only [Value.slice.injEq] at h
      obtain ⟨rfl, -, h5⟩ := h
      rw [h5]
      exact Or.inl ⟨rfl, rfl⟩
    · simp only [Value.slice.injEq] at hv
      obtain ⟨rfl, h3, rfl⟩ := hv
      have hL : Ls EB w (.slice (some ⟨b, off, none⟩) (L.length - n) (c - n)) (L.drop n) := Or.inr ⟨b, off, c - n, by rw [h3], hb, ht⟩
      exact hL.cut hl _
  · cases q with
    | none => simp [Value.ownBlock] at hk
    | some a => simpa [Value.ownBlock] using hk
set_option maxHeartbeats 2000000 in
theorem counted_any {d : Value} {l : List UInt8} (most : Int) (w : World) (hL : Ls EB w d l) (hcap : ∀ p n c, d = .slice p n c → n ≤ c) (hl : l.length < 9223372036854775807) :
    Calls Try.prog 41 #[d, .int .i64 most] w fun r w' => ∃ b, r = .returned (.tuple #[b, .int .i64 ((cnt most l).2.1 : Nat), .int .i64 ((cnt most l).2.2 : Nat)]) ∧ Ls EB w b (cnt most l).1 ∧ (∀ k, b.ownBlock = some k → d.ownBlock = some k) ∧ w' = w := by
  have hlim : (lim most : Int) = min (max most 0) 65536 := by unfold lim; omega
  have hnu := number_any (lim most) w hL hl
  obtain ⟨p, c, rfl⟩ := hL.form
  have hc := hcap _ _ _ rfl
  have HL := hid hL
  obtain ⟨hs1, hs2, hs3⟩ := scan_le (lim most) l
  obtain ⟨C, hC⟩ : ∃ C, C = cnt most l := ⟨_, rfl⟩
  rw [← hC]
  unfold cnt at hC
  have hnu : ∀ z : Int, z = min (max most 0) 65536 → Calls Try.prog 37 #[.slice p l.length c, .int .u64 z] w fun e w' => e = .returned (.tuple #[.int .u64 ((scan (lim most) 0 0 l).1 : Nat), .int .i64 ((scan (lim most) 0 0 l).2.1 : Nat), .int .i64 ((scan (lim most) 0 0 l).2.2 : Nat)]) ∧ w' = w := fun z hz => by
    rw [hz, ← hlim]
    exact hnu
  generalize scan (lim most) 0 0 l = S at hnu hs1 hs2 hs3 hC
  obtain ⟨s1, s2, s3⟩ := S
  simp only at hnu hs1 hs2 hs3 hC
  clear hlim hcap hL
  by_cases h3 : s3 = 0
  · subst h3
    rw [if_neg (by simp)] at hC
    by_cases hgt : 65536 < most <;> by_cases hm : most < 0
    · omega
    rotate_left 1
    · rw [if_pos hm] at hC
      subst hC
      go_enter Try.func41, Try.ntmps41
      go_wp2_with (first | (go_at_call 37; refine (hnu _ (by omega)).mono ?_; rintro r w4 ⟨rfl, rfl⟩))
      go_ret3
      exact ⟨_, rfl, Or.inl ⟨rfl, rfl⟩, by simp [Value.ownBlock], rfl⟩
    all_goals (
      rw [if_neg hm] at hC
      by_cases hlt : l.length - s2 < s1
      · rw [if_pos hlt] at hC
        subst hC
        have hlt2 : (l.length : Int) - (s2 : Int) < (s1 : Int) := by omega
        clear hlt
        go_enter Try.func41, Try.ntmps41
        go_wp2_with (first | (go_at_call 37; refine (hnu _ (by omega)).mono ?_; rintro r w4 ⟨rfl, rfl⟩))
        go_ret3
        exact ⟨_, rfl, Or.inl ⟨rfl, rfl⟩, by simp [Value.ownBlock], rfl⟩
      · rw [if_neg hlt] at hC
        subst hC
        have hlt2 : ¬ (l.length : Int) - (s2 : Int) < (s1 : Int) := by omega
        obtain ⟨h1, h2⟩ := ls_mid (n := s2) (m := s1) HL.out (by omega) hc
        have hz1 : ((s2 : Int) + (s1 : Int)) ≤ (l.length : Int) := by omega
        have hz2 : (l.length : Int) ≤ (c : Int) := by omega
        have hs1' : s1 < 9223372036854775808 := by omega
        have hsub : s2 + s1 - s2 = s1 := by omega
        have h1' : Ls EB w (.slice (if c = s2 then p else Option.map (fun x => x.add s2) p) (s2 + s1 - s2) (c - s2)) ((l.drop s2).take s1) := by rw [hsub]; exact h1
        have h2' : ∀ k, (Value.slice (if c = s2 then p else Option.map (fun x => x.add s2) p) (s2 + s1 - s2) (c - s2)).ownBlock = some k → (Value.slice p l.length c).ownBlock = some k := by rw [hsub]; exact h2
        clear hs2 hsub h1 h2
        by_cases hcs : c = s2
        · rw [if_pos hcs] at h1' h2'
          subst hcs
          have H1 := hid h1'
          have H2 := hid h2'
          clear h1' h2'
          go_enter Try.func41, Try.ntmps41
          go_wp2_with (first | (go_at_call 37; refine (hnu _ (by omega)).mono ?_; rintro r w4 ⟨rfl, rfl⟩))
          go_ret3
          refine ⟨_, rfl, ?_, ?_, rfl⟩
          · have := H1.out
            simpa using this
          · have := H2.out
            simpa using this
        · rw [if_neg hcs] at h1' h2'
          have H1 := hid h1'
          have H2 := hid h2'
          clear h1' h2'
          go_enter Try.func41, Try.ntmps41
          go_wp2_with (first | (go_at_call 37; refine (hnu _ (by omega)).mono ?_; rintro r w4 ⟨rfl, rfl⟩))
          go_ret3
          refine ⟨_, rfl, ?_, ?_, rfl⟩
          · exact H1.out
          · exact H2.out)
  · rw [if_pos (by simpa using h3)] at hC
    subst hC
    have hz : ¬ (s3 : Int) = 0 := by omega
    by_cases hgt : 65536 < most <;> by_cases hm : most < 0
    · omega
    all_goals (
      go_enter Try.func41, Try.ntmps41
      go_wp2_with (first | (go_at_call 37; refine (hnu _ (by omega)).mono ?_; rintro r w4 ⟨rfl, rfl⟩))
      go_ret3
      exact ⟨_, rfl, Or.inl ⟨rfl, rfl⟩, by simp [Value.ownBlock], rfl⟩)
/-- What Bytes takes, behind an error nothing. -/
def rbs (e : Nat) (most : Int) (l : List UInt8) : List UInt8 × Nat × Nat := if e = 0 then cnt most l else ([], 0, e)
theorem cnt_le (most : Int) (l : List UInt8) : (cnt most l).2.1 ≤ l.length ∧ ((cnt most l).2.2 ≠ 0 → (cnt most l).2.1 = 0) ∧ (cnt most l).1.length ≤ l.length := by
  have h := (scan_le (lim most) l).1
  unfold cnt
  split
  · simp
  · split
    · simp
    · split
      · simp
      · simp [List.length_take]
        omega
set_option maxHeartbeats 1000000 in
theorem rbytes_any {rb at_ e : Nat} {v : Value} {L : List UInt8} (most : Int) (w : World) (hR : Rd w rb v L at_ e) : Calls Try.prog 20 #[.pointer (some ⟨rb, 0, none⟩), .int .i64 most] w fun r w' => ∃ d, r = .returned d ∧ w'.ownsRow w.heap.size 5 1 d (rbs e most (L.drop at_)).1.length (fl EB (rbs e most (L.drop at_)).1) ∧ Rd w' rb v L (at_ + (rbs e most (L.drop at_)).2.1) (rbs e most (L.drop at_)).2.2 ∧ Kp (fun k => k = rb) w w' := by
  have hf := failed_any w hR.lt hR.c0
  have hbg := hR.big
  have HR := hid hR
  clear hR
  by_cases h0 : e = 0
  · subst h0
    have hre := rest_any w HR.out
    have hco := fun (W : World) (d : Value) (hd : Ls EB W d (L.drop at_)) (hc : ∀ p n c, d = .slice p n c → n ≤ c) => counted_any most W hd hc (by rw [List.length_drop]; omega)
    have hta : ∀ (W : World), Gr w W → Calls Try.prog 39 #[.pointer (some ⟨rb, 0, none⟩), .int .i64 ((cnt most (L.drop at_)).2.1 : Nat), .int .i64 ((cnt most (L.drop at_)).2.2 : Nat)] W fun r w' => r = .returned (.tuple #[]) ∧ Rd w' rb v L (at_ + (cnt most (L.drop at_)).2.1) (cnt most (L.drop at_)).2.2 ∧ Kp (fun k => k = rb) W w' := fun W hg => by
      obtain ⟨h1, h2, _⟩ := cnt_le most (L.drop at_)
      rw [List.length_drop] at h1
      exact take_any W (HR.out.gr hg) (by have := HR.out.le; omega) h2
    have hcl := fun (W : World) (d : Value) (hd : Ls EB W d (cnt most (L.drop at_)).1) => clone_any W hd (by have := (cnt_le most (L.drop at_)).2.2; rw [List.length_drop] at this; omega)
    rw [show rbs 0 most (L.drop at_) = cnt most (L.drop at_) from rfl]
    generalize cnt most (L.drop at_) = S at hco hta hcl ⊢
    obtain ⟨s1, s2, s3⟩ := S
    go_enter Try.func20, Try.ntmps20
    go_wp2_with (first | (go_at_call 35; refine hf.mono ?_; rintro r w4 ⟨rfl, rfl⟩) | (go_at_call 38; refine hre.mono ?_; rintro r w5 ⟨d, rfl, hd, hbk, hca, hg5⟩; have HD := hid (hd.below hg5.below); have HK := hid hbk; have HCA := hid hca; have G5 := hid hg5; clear hd hg5 hbk hca) | (go_at_call 41; refine (hco _ _ HD.out HCA.out).mono ?_; rintro r w6 ⟨b, rfl, hb6, hk6, rfl⟩; have HB6 := hid hb6; have HK6 := hid hk6; clear hb6 hk6) | (go_at_call 39; refine (hta _ G5.out).mono ?_; rintro r w7 ⟨rfl, h7, k7⟩; have H7 := hid h7; have K7 := hid k7; have HB7 := hid (k7.ls HB6.out (fun k hk e => HR.out.off (by rw [HK.out k (HK6.out k hk), e]))); clear h7 k7) | (go_at_call 32; refine (hcl _ _ HB7.out).mono ?_; rintro r w8 ⟨d8, rfl, h8, b8⟩; have H8 := hid h8; have B8 := hid b8; clear h8 b8))
    go_ret
    have hz := Nat.le_trans G5.out.size K7.out.size
    refine ⟨_, rfl, owns_base H8.out hz, H7.out.below B8.out, ?_⟩
    exact ((Kp.of_gr G5.out).trans K7.out (fun _ _ h => h)).trans (Kp.of_below B8.out) (fun _ _ h => h)
  · have hrn : rbs e most (L.drop at_) = ([], 0, e) := by unfold rbs; rw [if_neg h0]
    rw [hrn]
    rw [decide_eq_true h0] at hf
    clear hrn
    go_enter Try.func20, Try.ntmps20
    go_wp2_with (first | (go_at_call 35; refine hf.mono ?_; rintro r w4 ⟨rfl, rfl⟩))
    go_ret
    exact ⟨_, rfl, World.ownsRow_nil _ _ _ _, HR.out, Kp.refl _ _⟩
/-- Nil ones. -/
theorem rnum_nil (u : Nat) (w : World) : Calls Try.prog 14 #[.pointer none, .int .u64 u] w fun r w' => r = .returned (.int .u64 0) ∧ w' = w := by
  go_enter Try.func14, Try.ntmps14
  go_wp2_with fail
  go_ret
  exact ⟨rfl, rfl⟩
theorem rint_nil (w : World) : Calls Try.prog 12 #[.pointer none] w fun r w' => r = .returned (.int .i64 0) ∧ w' = w := by
  have hn := rnum_nil 18446744073709551615 w
  have hu := unfolded_any 0 (by decide) w
  rw [show unfold 0 = 0 from rfl] at hu
  go_enter Try.func12, Try.ntmps12
  go_wp2_with (first | (go_at_call 14; refine hn.mono ?_; rintro r w4 ⟨rfl, rfl⟩) | (go_at_call 34; refine hu.mono ?_; rintro r w5 ⟨rfl, rfl⟩))
  go_ret
  exact ⟨rfl, rfl⟩
theorem rbyte_nil (w : World) : Calls Try.prog 19 #[.pointer none] w fun r w' => r = .returned (.int .u8 0) ∧ w' = w := by
  go_enter Try.func19, Try.ntmps19
  go_wp2_with fail
  go_ret
  exact ⟨rfl, rfl⟩
theorem rbytes_nil (n : Int) (w : World) : Calls Try.prog 20 #[.pointer none, .int .i64 n] w fun r w' => r = .returned (.slice none 0 0) ∧ w' = w := by
  go_enter Try.func20, Try.ntmps20
  go_wp2_with fail
  go_ret
  exact ⟨rfl, rfl⟩
theorem rend_nil (w : World) : Calls Try.prog 18 #[.pointer none] w fun r w' => r = .returned (.tuple #[]) ∧ w' = w := by
  go_enter Try.func18, Try.ntmps18
  go_wp2_with fail
  go_end0
  exact ⟨rfl, rfl⟩
theorem rat_nil (w : World) : Calls Try.prog 16 #[.pointer none] w fun r w' => r = .returned (.int .i64 0) ∧ w' = w := by
  go_enter Try.func16, Try.ntmps16
  go_wp2_with fail
  go_ret
  exact ⟨rfl, rfl⟩
theorem rerr_nil (w : World) : Calls Try.prog 15 #[.pointer none] w fun r w' => r = .returned (.int .i64 0) ∧ w' = w := by
  go_enter Try.func15, Try.ntmps15
  go_wp2_with fail
  go_ret
  exact ⟨rfl, rfl⟩
end Go.Proofs.Ytgojhhdjpkilmaa.Wi
