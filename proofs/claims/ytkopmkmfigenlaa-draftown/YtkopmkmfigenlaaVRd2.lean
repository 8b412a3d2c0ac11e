import Derived.Test.YtkopmkmfigenlaaVRd
namespace Go.Proofs.Ytkopmkmfigenlaa.Wi
open Go.RowKit Go.Sort
attribute [local go_sem ↓] Go.wp_at_zero Go.wp_at_succ

/-- What Byte takes. -/
def rb1 (e : Nat) (l : List UInt8) : Nat × Nat × Nat := if e = 0 then (match l with | [] => (0, 0, 30) | x :: _ => (x.toNat, 1, 0)) else (0, 0, e)
set_option maxHeartbeats 1000000 in
theorem rbyte_any {rb at_ e : Nat} {v : Value} {L : List UInt8} (w : World) (hR : Rd w rb v L at_ e) : Calls Try.prog 88 #[.pointer (some ⟨rb, 0, none⟩)] w fun r w' => r = .returned (.int .u8 ((rb1 e (L.drop at_)).1 : Nat)) ∧ Rd w' rb v L (at_ + (rb1 e (L.drop at_)).2.1) (rb1 e (L.drop at_)).2.2 ∧ Kp (fun k => k = rb) w w' := by
  have hf := failed_any w hR.lt hR.c0
  have hbg := hR.big
  have hle := hR.le
  have HR := hid hR
  clear hR
  by_cases h0 : e = 0
  · subst h0
    have hre := rest_any w HR.out
    by_cases hlt : at_ < L.length
    · obtain ⟨x, hx⟩ : ∃ x, L.drop at_ = x :: L.drop (at_ + 1) := ⟨L[at_], List.drop_eq_getElem_cons hlt⟩
      have hlen : ¬ ((L.drop at_).length : Int) = 0 := by rw [List.length_drop]; omega
      have hpos : (0 : Int) < ((L.drop at_).length : Int) := by omega
      rw [show rb1 0 (L.drop at_) = (x.toNat, 1, 0) by rw [hx]; rfl]
      have HX : Hid ((L.drop at_)[0]? = some x) := by rw [hx]; rfl
      have hz : wrap64 ((at_ : Int) + 1) = ((at_ + 1 : Nat) : Int) := by unfold wrap64; omega
      clear hx
      generalize L.drop at_ = M at hre hlen hpos HX ⊢
      go_enter Try.func88, Try.ntmps88
      go_wp2_with (first | (go_at_call 83; refine hf.mono ?_; rintro r w4 ⟨rfl, rfl⟩) | (go_at_call 79; refine hre.mono ?_; rintro r w5 ⟨d, rfl, hd, hbk, _, hg5⟩; obtain ⟨b1, o1, c1, rfl, z1, x0⟩ := ls_at hd HX.out; rw [Nat.add_zero] at x0; have HD := hid (hd.below hg5.below); have HK := hid hbk; have G5 := hid hg5; have k2 := (HR.out.gr hg5).c2; have f2 := (HR.out.gr hg5).fz 2; have kl := (HR.out.gr hg5).lt; have y0 := (hg5.cell z1).trans x0; have z2 := Nat.lt_of_lt_of_le z1 hg5.size; have hne : ¬ b1 = rb := (fun e => HR.out.off (by have := hbk b1 rfl; rw [this, e])); clear hd hbk hg5 x0 z1))
      go_ret
      obtain ⟨h1, h2⟩ := (HR.out.gr G5.out).setAt (at_ + 1) (by omega)
      exact ⟨rfl, h1, (Kp.of_gr G5.out).trans h2 (fun _ _ h => h)⟩
    · have hd0 : L.drop at_ = [] := List.drop_of_length_le (by omega)
      rw [hd0] at hre ⊢
      have hno : ∀ W, Gr w W → Calls Try.prog 80 #[.pointer (some ⟨rb, 0, none⟩), .int .i64 (30 : Nat)] W fun r w' => r = .returned (.tuple #[]) ∧ w' = W.setCell ⟨rb, 0, none⟩ (.int .i64 (30 : Nat)) := fun W hg => note_any (e := 0) W (HR.out.gr hg).lt (HR.out.gr hg).c0 ((HR.out.gr hg).fz 0)
      rw [show rb1 0 [] = (0, 0, 30) from rfl]
      clear hd0
      go_enter Try.func88, Try.ntmps88
      go_wp2_with (first | (go_at_call 83; refine hf.mono ?_; rintro r w4 ⟨rfl, rfl⟩) | (go_at_call 79; refine hre.mono ?_; rintro r w5 ⟨d, rfl, hd, hbk, _, hg5⟩; obtain ⟨p1, c1, rfl⟩ := hd.form; have G5 := hid hg5; clear hd hbk hg5) | (go_at_call 80; refine (hno _ G5.out).mono ?_; rintro r w6 ⟨rfl, rfl⟩))
      go_ret
      obtain ⟨h1, h2⟩ := (HR.out.gr G5.out).setE 30
      exact ⟨rfl, h1, (Kp.of_gr G5.out).trans h2 (fun _ _ h => h)⟩
  · have hrn : rb1 e (L.drop at_) = (0, 0, e) := by unfold rb1; rw [if_neg h0]
    rw [hrn]
    rw [decide_eq_true h0] at hf
    clear hrn
    go_enter Try.func88, Try.ntmps88
    go_wp2_with (first | (go_at_call 83; refine hf.mono ?_; rintro r w4 ⟨rfl, rfl⟩))
    go_ret
    exact ⟨rfl, HR.out, Kp.refl _ _⟩
/-- What End leaves. -/
def re1 (e : Nat) (l : List UInt8) : Nat := if e = 0 then (if l.length = 0 then 0 else 32) else e
set_option maxHeartbeats 1000000 in
theorem rend_any {rb at_ e : Nat} {v : Value} {L : List UInt8} (w : World) (hR : Rd w rb v L at_ e) : Calls Try.prog 50 #[.pointer (some ⟨rb, 0, none⟩)] w fun r w' => r = .returned (.tuple #[]) ∧ Rd w' rb v L at_ (re1 e (L.drop at_)) ∧ Kp (fun k => k = rb) w w' := by
  have hbg := hR.big
  have hle := hR.le
  have HR := hid hR
  have hre := rest_any w hR
  clear hR
  have hno : ∀ W, Gr w W → Calls Try.prog 80 #[.pointer (some ⟨rb, 0, none⟩), .int .i64 (32 : Nat)] W fun r w' => r = .returned (.tuple #[]) ∧ w' = if e = 0 then W.setCell ⟨rb, 0, none⟩ (.int .i64 (32 : Nat)) else W := fun W hg => note_any W (HR.out.gr hg).lt (HR.out.gr hg).c0 ((HR.out.gr hg).fz 0)
  by_cases hlt : at_ < L.length
  · have hpos : (0 : Int) < ((L.drop at_).length : Int) := by rw [List.length_drop]; omega
    have hfin : ∀ W, Gr w W → Rd (if e = 0 then W.setCell ⟨rb, 0, none⟩ (.int .i64 (32 : Nat)) else W) rb v L at_ (re1 e (L.drop at_)) ∧ Kp (fun k => k = rb) W (if e = 0 then W.setCell ⟨rb, 0, none⟩ (.int .i64 (32 : Nat)) else W) := fun W hg => by
      unfold re1
      by_cases h0 : e = 0
      · rw [if_pos h0, if_pos h0, if_neg (by omega)]
        exact (HR.out.gr hg).setE 32
      · rw [if_neg h0, if_neg h0]
        exact ⟨HR.out.gr hg, Kp.refl _ _⟩
    have HF := hid hfin
    clear hfin
    generalize re1 e (L.drop at_) = E1 at HF ⊢
    generalize L.drop at_ = M at hre hpos
    go_enter Try.func50, Try.ntmps50
    go_wp2_with (first | (go_at_call 79; refine hre.mono ?_; rintro r w5 ⟨d, rfl, hd, hbk, _, hg5⟩; obtain ⟨p1, c1, rfl⟩ := hd.form; have G5 := hid hg5; clear hd hbk hg5) | (go_at_call 80; refine (hno _ G5.out).mono ?_; rintro r w6 ⟨rfl, hw6⟩; have W6 := hid hw6; clear hw6))
    go_end0
    rw [W6.out]
    obtain ⟨h1, h2⟩ := HF.out _ G5.out
    exact ⟨rfl, h1, (Kp.of_gr G5.out).trans h2 (fun _ _ h => h)⟩
  · have hd0 : L.drop at_ = [] := List.drop_of_length_le (by omega)
    rw [hd0] at hre ⊢
    have he : re1 e [] = e := by
      unfold re1
      split
      · rename_i h; rw [h]; rfl
      · rfl
    rw [he]
    clear he hd0
    go_enter Try.func50, Try.ntmps50
    go_wp2_with (first | (go_at_call 79; refine hre.mono ?_; rintro r w5 ⟨d, rfl, hd, hbk, _, hg5⟩; obtain ⟨p1, c1, rfl⟩ := hd.form; have G5 := hid hg5; clear hd hbk hg5))
    go_end0
    exact ⟨rfl, HR.out.gr G5.out, Kp.of_gr G5.out⟩
end Go.Proofs.Ytkopmkmfigenlaa.Wi
