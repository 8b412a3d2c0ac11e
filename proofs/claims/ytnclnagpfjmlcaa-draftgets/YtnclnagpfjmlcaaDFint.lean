import Derived.Test.YtnclnagpfjmlcaaDFnum
namespace Go.Proofs.Ytnclnagpfjmlcaa.Wi
open Go.RowKit Go.Sort Df
attribute [local go_sem ↓] Go.wp_at_zero Go.wp_at_succ

theorem Took.map {α β : Type} {p : Pa α} {L : List UInt8} {a e bd : Nat} {z x : α} {a' e' bd' : Nat} (t : α → β) (h : Took p L a e bd z x a' e' bd') : Took (p.map t) L a e bd (t z) (t x) a' e' bd' := by
  unfold Took at h ⊢
  split
  · rename_i h0
    rw [if_pos h0] at h
    unfold Pa.map
    cases hp : p L a with
    | inl y => rw [hp] at h; exact ⟨by rw [h.1], h.2⟩
    | inr y => rw [hp] at h; exact ⟨by rw [h.1], h.2⟩
  · rename_i h0
    rw [if_neg h0] at h
    exact ⟨by rw [h.1], h.2⟩
/-- What was taken fits. -/
theorem Took.ok {α : Type} {p : Pa α} {f : α → List UInt8} {okp : α → Prop} {L : List UInt8} {a e bd : Nat} {z x : α} {a' e' bd' : Nat} (hp : Fits p f okp) (hz : okp z) (ha : a ≤ L.length) (h : Took p L a e bd z x a' e' bd') : okp x := by
  unfold Took at h
  split at h
  · split at h
    · rename_i y hy
      obtain ⟨rfl, _⟩ := h
      exact (hp.back L a y.1 y.2 ha hy).1
    · rw [h.1]; exact hz
  · rw [h.1]; exact hz
section
variable {fb a e bd : Nat} {v : Value} {L : List UInt8}
theorem fany_any (w : World) (h : Ft w fb v L a e bd) :
    Calls Try.prog 54 #[.pointer (some ⟨fb, 0, none⟩)] w fun r w' => ∃ x a' e' bd', r = .returned (.int .u64 (x : Nat)) ∧ Ft w' fb v L a' e' bd' ∧ Kp (fun k => k = fb) w w' ∧ Took any L a e bd 0 x a' e' bd' := by
  have hn := fnumber_any 18446744073709551615 12 w h
  clear h
  go_enter Try.func54, Try.ntmps54
  go_wp2_with (go_at_call 31; refine hn.mono ?_; rintro r w5 ⟨x, a', e', bd', rfl, h5⟩; have H5 := hid h5; clear h5)
  go_ret
  exact ⟨x, a', e', bd', rfl, H5.out⟩
theorem fint_any (w : World) (h : Ft w fb v L a e bd) :
    Calls Try.prog 30 #[.pointer (some ⟨fb, 0, none⟩)] w fun r w' => ∃ (x : Int) (a' e' bd' : Nat), r = .returned (.int .i64 x) ∧ Ft w' fb v L a' e' bd' ∧ Kp (fun k => k = fb) w w' ∧ Took int L a e bd 0 x a' e' bd' := by
  have hn := fnumber_any 9223372036854775807 12 w h
  have hn2 := hn.mono (R' := fun r w' => ∃ x a' e' bd', (r = .returned (.int .u64 (x : Nat)) ∧ x ≤ 9223372036854775807) ∧ Ft w' fb v L a' e' bd' ∧ Kp (fun k => k = fb) w w' ∧ Took (num 9223372036854775807 12) L a e bd 0 x a' e' bd') (by
    rintro r w5 ⟨x, a', e', bd', rfl, h1, h2, h3⟩
    have hx := Took.ok (fits_num (most := 9223372036854775807) (over := 12) (by decide) (by decide)) (Nat.zero_le _) h.le h3
    exact ⟨x, a', e', bd', ⟨rfl, hx⟩, h1, h2, h3⟩)
  clear h hn
  go_enter Try.func30, Try.ntmps30
  go_wp2_with (go_at_call 31; refine hn2.mono ?_; rintro r w5 ⟨x, a', e', bd', ⟨rfl, hx⟩, h5⟩; have H5 := hid h5; clear h5)
  go_ret
  refine ⟨(x : Int), a', e', bd', by go_num, H5.out.1, H5.out.2.1, H5.out.2.2.map Int.ofNat⟩
end
end Go.Proofs.Ytnclnagpfjmlcaa.Wi
