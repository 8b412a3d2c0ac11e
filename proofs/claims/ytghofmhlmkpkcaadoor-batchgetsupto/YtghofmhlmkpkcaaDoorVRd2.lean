import Derived.Test.YtghofmhlmkpkcaaDoorVRd
namespace Go.Proofs.YtghofmhlmkpkcaaDoor.Wi
open Go.RowKit Go.Sort
attribute [local go_sem ↓] Go.wp_at_zero Go.wp_at_succ

set_option maxHeartbeats 1000000 in
theorem rint_any {rb at_ e : Nat} {v : Value} {L : List UInt8} (w : World) (hR : Rd w rb v L at_ e) : Calls Tryd.prog 47 #[.pointer (some ⟨rb, 0, none⟩)] w fun r w' => r = .returned (.int .i64 (unfold (rn e 18446744073709551615 (L.drop at_)).1)) ∧ Rd w' rb v L (at_ + (rn e 18446744073709551615 (L.drop at_)).2.1) (rn e 18446744073709551615 (L.drop at_)).2.2 ∧ Kp (fun k => k = rb) w w' := by
  have hn := rnum_any 18446744073709551615 w hR
  have hu := fun W => unfolded_any (rn e 18446744073709551615 (L.drop at_)).1 (by
    unfold rn
    split
    · exact (scan_le _ _).2.2
    · simp) W
  generalize rn e 18446744073709551615 (L.drop at_) = S at hn hu ⊢
  clear hR
  go_enter Tryd.func47, Tryd.ntmps47
  go_wp2_with (first | (go_at_call 22; refine hn.mono ?_; rintro r w4 ⟨rfl, h4, k4⟩; have H4 := hid h4; have K4 := hid k4; clear h4 k4) | (go_at_call 68; refine (hu _).mono ?_; rintro r w5 ⟨rfl, rfl⟩))
  go_ret
  exact ⟨rfl, H4.out, K4.out⟩
/-- What Byte takes. -/
def rb1 (e : Nat) (l : List UInt8) : Nat × Nat × Nat := if e = 0 then (match l with | [] => (0, 0, 30) | x :: _ => (x.toNat, 1, 0)) else (0, 0, e)
/-- What End leaves. -/
def re1 (e : Nat) (l : List UInt8) : Nat := if e = 0 then (if l.length = 0 then 0 else 32) else e
set_option maxHeartbeats 1000000 in
theorem rend_any {rb at_ e : Nat} {v : Value} {L : List UInt8} (w : World) (hR : Rd w rb v L at_ e) : Calls Tryd.prog 26 #[.pointer (some ⟨rb, 0, none⟩)] w fun r w' => r = .returned (.tuple #[]) ∧ Rd w' rb v L at_ (re1 e (L.drop at_)) ∧ Kp (fun k => k = rb) w w' := by
  have hbg := hR.big
  have hle := hR.le
  have HR := hid hR
  have hre := rest_any w hR
  clear hR
  have hno : ∀ W, Gr w W → Calls Tryd.prog 48 #[.pointer (some ⟨rb, 0, none⟩), .int .i64 (32 : Nat)] W fun r w' => r = .returned (.tuple #[]) ∧ w' = if e = 0 then W.setCell ⟨rb, 0, none⟩ (.int .i64 (32 : Nat)) else W := fun W hg => note_any W (HR.out.gr hg).lt (HR.out.gr hg).c0 ((HR.out.gr hg).fz 0)
  by_cases hlt : at_ < L.length
  · have hpos : (0 : Int) < ((L.drop at_).length : Int) := by rw [List.length_drop]; omega
    have hfin : ∀ W, Gr w W → Rd (if e = 0 then W.setCell ⟨rb, 0, none⟩ (.int .i64 (32 : Nat)) else W) rb v L at_ (re1 e (L.drop at_)) ∧ Kp (fun k => k = rb) W (if e = 0 then W.setCell ⟨rb, 0, none⟩ (.int .i64 (32 : Nat)) else W) := fun W hg => by
      unfold re1
      by_cases h0 : e = 0
      · rw [if_pos h0, if_pos h0, if_neg (by omega)]
        exact (HR.out.gr hg).setE 32
      · rw [if_neg h0, if_neg h0]
        exact ⟨HR.out.gr hg, Kp.refl _ _⟩
    have HF := hid hfin
    clear hfin
    generalize re1 e (L.drop at_) = E1 at HF ⊢
    generalize L.drop at_ = M at hre hpos
    go_enter Tryd.func26, Tryd.ntmps26
    go_wp2_with (first | (go_at_call 44; refine hre.mono ?_; rintro r w5 ⟨d, rfl, hd, hbk, _, hg5⟩; obtain ⟨p1, c1, rfl⟩ := hd.form; have G5 := hid hg5; clear hd hbk hg5) | (go_at_call 48; refine (hno _ G5.out).mono ?_; rintro r w6 ⟨rfl, hw6⟩; have W6 := hid hw6; clear hw6))
    go_end0
    rw [W6.out]
    obtain ⟨h1, h2⟩ := HF.out _ G5.out
    exact ⟨rfl, h1, (Kp.of_gr G5.out).trans h2 (fun _ _ h => h)⟩
  · have hd0 : L.drop at_ = [] := List.drop_of_length_le (by omega)
    rw [hd0] at hre ⊢
    have he : re1 e [] = e := by
      unfold re1
      split
      · rename_i h; rw [h]; rfl
      · rfl
    rw [he]
    clear he hd0
    go_enter Tryd.func26, Tryd.ntmps26
    go_wp2_with (first | (go_at_call 44; refine hre.mono ?_; rintro r w5 ⟨d, rfl, hd, hbk, _, hg5⟩; obtain ⟨p1, c1, rfl⟩ := hd.form; have G5 := hid hg5; clear hd hbk hg5))
    go_end0
    exact ⟨rfl, HR.out.gr G5.out, Kp.of_gr G5.out⟩
end Go.Proofs.YtghofmhlmkpkcaaDoor.Wi
