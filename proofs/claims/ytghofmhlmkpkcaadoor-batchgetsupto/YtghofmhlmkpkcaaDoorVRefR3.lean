import Derived.Test.YtghofmhlmkpkcaaDoorVRefR2
namespace Go.Proofs.YtghofmhlmkpkcaaDoor.Wi
open Go.RowKit Go.Sort
attribute [local go_sem ↓] Go.wp_at_zero Go.wp_at_succ

theorem number_len {w : World} {rb at_ e : Nat} {v : Value} {L : List UInt8} (hR : Rr w rb v L at_ e) (most : Nat) : Calls Tryd.prog 76 #[v, .int .u64 most] w fun e w' => e = .returned (.tuple #[.int .u64 ((scan most 0 0 (L.drop at_)).1 : Nat), .int .i64 ((scan most 0 0 (L.drop at_)).2.1 : Nat), .int .i64 ((scan most 0 0 (L.drop at_)).2.2 : Nat)]) ∧ w' = w :=
  rnumber_any most w hR.ls (by rw [List.length_drop]; have := hR.big; omega)
set_option maxHeartbeats 1000000 in
theorem rrnum_any {rb at_ e : Nat} {v : Value} {L : List UInt8} (most : Nat) (w : World) (hR : Rr w rb v L at_ e) : Calls Tryd.prog 63 #[.pointer (some ⟨rb, 0, none⟩), .int .u64 most] w fun r w' => ∃ v', r = .returned (.int .u64 ((rn e most (L.drop at_)).1 : Nat)) ∧ Rr w' rb v' L (at_ + (rn e most (L.drop at_)).2.1) (rn e most (L.drop at_)).2.2 ∧ (∀ k, v'.ownBlock = some k → v.ownBlock = some k) ∧ Kp (fun k => k = rb) w w' := by
  have k0 := hR.c0
  have k2 := hR.c2
  have f2 := hR.fz 2
  have kl := hR.lt
  have HR := hid hR
  by_cases h0 : e = 0
  · subst h0
    have hnu := number_len hR most
    obtain ⟨h1, h2, _⟩ := scan_le most (L.drop at_)
    rw [List.length_drop] at h1
    have hle := hR.le
    rw [show rn 0 most (L.drop at_) = scan most 0 0 (L.drop at_) from rfl]
    generalize scan most 0 0 (L.drop at_) = S at hnu h1 h2 ⊢
    obtain ⟨s1, s2, s3⟩ := S
    simp only at hnu h1 h2 ⊢
    obtain ⟨g1, g2⟩ := hR.setE s3
    have hta := rtake_any (n := s2) _ g1 (by omega)
    have G2 := hid g2
    clear hR g1 g2 h1 h2
    go_enter Tryd.func63, Tryd.ntmps63
    go_wp2_with fail
    refine hnu.mono ?_
    rintro r w5 ⟨rfl, rfl⟩
    go_wp2_with fail
    refine hta.mono ?_
    rintro r w6 ⟨d, v', rfl, _, h6, b6, k6⟩
    have H6 := hid h6
    have B6 := hid b6
    have K6 := hid (G2.out.trans k6 (fun _ _ h => h))
    clear h6 b6 k6 hta hnu
    go_wp2_with fail
    go_ret
    exact ⟨_, rfl, H6.out, B6.out, K6.out⟩
  · have hz : ¬ (e : Int) = 0 := by omega
    have hrn : rn e most (L.drop at_) = (0, 0, e) := by unfold rn; rw [if_neg h0]
    rw [hrn]
    clear hrn hR
    go_enter Tryd.func63, Tryd.ntmps63
    go_wp2_with fail
    go_ret
    exact ⟨_, rfl, HR.out, fun _ h => h, Kp.refl _ _⟩
theorem rback_any (u : Nat) (h1 : u < 18446744073709551616) (w : World) : Calls Tryd.prog 82 #[.int .u64 u] w fun e w' => e = .returned (.int .i64 (unfold u)) ∧ w' = w := by
  by_cases hn : u % 2 = 0
  · have hz : (u : Int) % 2 = 0 := by omega
    have e : unfold u = (u : Int) / 2 := by unfold unfold; rw [if_neg (by omega)]; omega
    have H := hid e
    have hq : IntKind.u64.wrap ((u : Int) / 2) = (u : Int) / 2 := by rw [IntKind.wrap_u64]; omega
    clear e
    go_enter Tryd.func82, Tryd.ntmps82
    go_wp2
    go_ret
    exact ⟨by rw [H.out]; rfl, rfl⟩
  · have hz : ¬ (u : Int) % 2 = 0 := by omega
    have e : unfold u = -((u : Int) / 2) - 1 := by unfold unfold; rw [if_pos (by omega)]; omega
    have H := hid e
    have hq : IntKind.u64.wrap ((u : Int) / 2) = (u : Int) / 2 := by rw [IntKind.wrap_u64]; omega
    clear e
    go_enter Tryd.func82, Tryd.ntmps82
    go_wp2
    go_ret
    exact ⟨by rw [H.out]; rfl, rfl⟩
set_option maxHeartbeats 1000000 in
theorem rrint_any {rb at_ e : Nat} {v : Value} {L : List UInt8} (w : World) (hR : Rr w rb v L at_ e) : Calls Tryd.prog 78 #[.pointer (some ⟨rb, 0, none⟩)] w fun r w' => ∃ v', r = .returned (.int .i64 (unfold (rn e 18446744073709551615 (L.drop at_)).1)) ∧ Rr w' rb v' L (at_ + (rn e 18446744073709551615 (L.drop at_)).2.1) (rn e 18446744073709551615 (L.drop at_)).2.2 ∧ (∀ k, v'.ownBlock = some k → v.ownBlock = some k) ∧ Kp (fun k => k = rb) w w' := by
  have hn := rrnum_any 18446744073709551615 w hR
  have hu := fun W => rback_any (rn e 18446744073709551615 (L.drop at_)).1 (by
    unfold rn
    split
    · exact (scan_le _ _).2.2
    · simp) W
  have hze : (rn e 18446744073709551615 (L.drop at_)).2.2 ≠ 0 → unfold (rn e 18446744073709551615 (L.drop at_)).1 = 0 := fun h => by
    unfold rn at *
    split
    · rename_i h0
      rw [if_pos h0] at h
      rw [((scan_le _ _).2.1 h).2]
      exact (show unfold 0 = 0 from rfl)
    · exact (show unfold 0 = 0 from rfl)
  generalize rn e 18446744073709551615 (L.drop at_) = S at hn hu hze ⊢
  obtain ⟨s1, s2, s3⟩ := S
  simp only at hn hu hze ⊢
  clear hR
  have HZ := hid hze
  clear hze
  go_enter Tryd.func78, Tryd.ntmps78
  go_wp2_with fail
  refine hn.mono ?_
  rintro r w5 ⟨v', rfl, h5, b5, k5⟩
  have H5 := hid h5
  have B5 := hid b5
  have K5 := hid k5
  have d2 := h5.c2
  have dl := h5.lt
  clear h5 b5 k5 hn
  by_cases h3 : s3 = 0
  · subst h3
    go_wp2_with fail
    refine (hu _).mono ?_
    rintro r w6 ⟨rfl, rfl⟩
    go_wp2_with fail
    go_ret
    exact ⟨_, rfl, H5.out, B5.out, K5.out⟩
  · have hz : ¬ (s3 : Int) = 0 := by omega
    go_wp2_with fail
    go_ret
    exact ⟨_, by rw [HZ.out h3]; rfl, H5.out, B5.out, K5.out⟩
set_option maxHeartbeats 1000000 in
theorem rrend_any {rb at_ e : Nat} {v : Value} {L : List UInt8} (w : World) (hR : Rr w rb v L at_ e) : Calls Tryd.prog 65 #[.pointer (some ⟨rb, 0, none⟩)] w fun r w' => r = .returned (.tuple #[]) ∧ Rr w' rb v L at_ (re1 e (L.drop at_)) ∧ Kp (fun k => k = rb) w w' := by
  have k0 := hR.c0
  have k2 := hR.c2
  have f2 := hR.fz 2
  have kl := hR.lt
  have HR := hid hR
  obtain ⟨p, c, hv⟩ := hR.ls.form
  rw [hv] at k0
  by_cases h0 : e = 0
  · subst h0
    by_cases hl : (L.drop at_).length = 0
    · have hlz : ¬ (0 : Int) < ((L.drop at_).length : Int) := by omega
      rw [show re1 0 (L.drop at_) = 0 by unfold re1; rw [if_pos rfl, if_pos hl]]
      clear hR hv hl
      generalize (L.drop at_).length = m at k0 hlz
      go_enter Tryd.func65, Tryd.ntmps65
      go_wp2_with fail
      go_end0
      exact ⟨rfl, HR.out, Kp.refl _ _⟩
    · have hlz : (0 : Int) < ((L.drop at_).length : Int) := by omega
      rw [show re1 0 (L.drop at_) = 32 by unfold re1; rw [if_pos rfl, if_neg hl]]
      obtain ⟨g1, g2⟩ := hR.setE 32
      have H1 := hid g1
      have H2 := hid g2
      clear hR hv hl g1 g2
      generalize (L.drop at_).length = m at k0 hlz
      go_enter Tryd.func65, Tryd.ntmps65
      go_wp2_with fail
      go_end0
      exact ⟨rfl, H1.out, H2.out⟩
  · have hz : ¬ (e : Int) = 0 := by omega
    rw [show re1 e (L.drop at_) = e by unfold re1; rw [if_neg h0]]
    clear hR hv k0
    go_enter Tryd.func65, Tryd.ntmps65
    go_wp2_with fail
    go_end0
    exact ⟨rfl, HR.out, Kp.refl _ _⟩
set_option maxHeartbeats 1000000 in
theorem rnewreader_any {v : Value} {l : List UInt8} (w : World) (hL : Ls EB w v l) (hl : l.length ≤ 140737488355328) : Calls Tryd.prog 62 #[v] w fun r w' => ∃ rb d, r = .returned (.pointer (some ⟨rb, 0, none⟩)) ∧ w.heap.size ≤ rb ∧ Rr w' rb d l 0 0 ∧ (∀ k, d.ownBlock = some k → w.heap.size ≤ k) ∧ Below w.heap.size w w' := by
  have hmx : Tryd.prog.follows .mixedOrders = true := by kernel_rfl
  have HL := hid hL
  clear hL
  go_enter Tryd.func62, Tryd.ntmps62
  go_wp2_with (at_builtin; refine wpBL rfl _ _ rfl w.heap.size _ [] rfl (World.ownsRow_made w #[] 0 (Nat.le_refl _) (Nat.zero_le _) rfl) _ l rfl (Or.inl (HL.out.below ((Gr.refl _).alloc _).below)) (by simpa using hl) (by simp) ?_)
  intro v1 w1 h1 t1
  have hal := ((Gr.refl w).alloc (.cells #[] 5)).below
  have B1 : Hid (Below w.heap.size w w1) := hal.trans (t1.out.1.below hal.size (fun k hk => by simp [Value.ownBlock] at hk; omega))
  have h1' : w1.ownsRow w.heap.size 5 1 v1 l.length (fl EB l) := by simpa using h1.out
  obtain ⟨p, c, rfl⟩ := (ow_ls (owns_base h1' (Nat.zero_le _))).form
  have O1 := hid h1'
  clear h1 t1 hal h1'
  go_wp2_with fail
  go_ret
  have hg := (Gr.refl w1).alloc (.cells #[.slice p l.length c, .int .i64 0, .int .i64 0] 118)
  have hlt := O1.out.lt
  refine ⟨w1.heap.size, _, rfl, B1.out.size, ⟨heap_new' _ _, (ow_ls (owns_base O1.out (Nat.zero_le _))).below hg.below, Nat.zero_le _, fun h => ?_, hl, fun p' n' c' h => ?_⟩, fun k hk => (hlt k hk).1, B1.out.trans (hg.below.mono B1.out.size)⟩
  · have := (hlt _ h).2; omega
  · cases h
    exact (owns_cap O1.out).1
end Go.Proofs.YtghofmhlmkpkcaaDoor.Wi
