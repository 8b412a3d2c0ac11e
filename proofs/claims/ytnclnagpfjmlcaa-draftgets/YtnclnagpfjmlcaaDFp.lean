import Derived.Test.YtnclnagpfjmlcaaDFint
import Derived.Test.YtnclnagpfjmlcaaDTl
namespace Go.Proofs.Ytnclnagpfjmlcaa.Df
open Go.RowKit Go.Sort Wi
attribute [local go_sem ↓] Go.wp_at_zero Go.wp_at_succ

/-- What a call on a front has taken; with an error what is told is of no matter. -/
def Tf {α : Type} (p : Pa α) (L : List UInt8) (a e bd : Nat) (x : α) (a' e' bd' : Nat) : Prop :=
  if e = 0 then match p L a with
    | .inl y => e' = y.1 ∧ bd' = y.2 ∧ e' ≠ 0
    | .inr y => x = y.1 ∧ a' = y.2 ∧ e' = 0
  else e' = e ∧ bd' = bd
section
variable {α β : Type} {p : Pa α} {q : Pa β} {L : List UInt8} {a e bd : Nat} {x : α} {y : β} {a1 e1 bd1 a2 e2 bd2 : Nat}
theorem Tf.of {f : α → List UInt8} {okp : α → Prop} {z : α} (hp : Fits p f okp) (ha : a ≤ L.length) (h : Took p L a e bd z x a1 e1 bd1) : Tf p L a e bd x a1 e1 bd1 := by
  unfold Took at h
  unfold Tf
  split
  · rename_i h0
    rw [if_pos h0] at h
    cases hpa : p L a with
    | inl y =>
      rw [hpa] at h
      obtain ⟨_, _, h3⟩ := hp.fault L a y.1 y.2 ha hpa
      exact ⟨h.2.1, h.2.2, by rw [h.2.1]; exact h3⟩
    | inr y => rw [hpa] at h; exact ⟨h.1, h.2.1, h.2.2.1⟩
  · rename_i h0
    rw [if_neg h0] at h
    exact h.2
theorem Tf.and (h : Tf p L a e bd x a1 e1 bd1) (k : Tf q L a1 e1 bd1 y a2 e2 bd2) : Tf (p.and q) L a e bd (x, y) a2 e2 bd2 := by
  unfold Tf at h k ⊢
  by_cases h0 : e = 0
  · rw [if_pos h0] at h ⊢
    unfold Pa.and Pa.bind Pa.map
    cases hp : p L a with
    | inl z =>
      rw [hp] at h
      obtain ⟨h1, h2, h3⟩ := h
      rw [if_neg h3] at k
      exact ⟨k.1.trans h1, k.2.trans h2, by rw [k.1]; exact h3⟩
    | inr z =>
      rw [hp] at h
      obtain ⟨h1, h2, h3⟩ := h
      rw [if_pos h3, h2] at k
      dsimp only
      cases hq : q L z.2 with
      | inl u => rw [hq] at k; exact k
      | inr u => rw [hq] at k; exact ⟨by rw [h1, k.1], k.2⟩
  · rw [if_neg h0] at h ⊢
    obtain ⟨h1, h2⟩ := h
    rw [if_neg (by rw [h1]; exact h0)] at k
    exact ⟨k.1.trans h1, k.2.trans h2⟩
theorem Tf.map (t : α → β) (h : Tf p L a e bd x a1 e1 bd1) : Tf (p.map t) L a e bd (t x) a1 e1 bd1 := by
  unfold Tf at h ⊢
  split
  · rename_i h0
    rw [if_pos h0] at h
    unfold Pa.map
    cases hp : p L a with
    | inl z => rw [hp] at h; exact h
    | inr z => rw [hp] at h; exact ⟨by rw [h.1], h.2⟩
  · rename_i h0
    rw [if_neg h0] at h
    exact h
theorem Tf.bad (h : Tf p L a 0 bd x a1 e1 bd1) {z : Nat × Nat} (hp : p L a = .inl z) : e1 = z.1 ∧ bd1 = z.2 ∧ e1 ≠ 0 := by
  unfold Tf at h
  rw [if_pos rfl, hp] at h
  exact h
theorem Tf.good (h : Tf p L a 0 bd x a1 e1 bd1) {z : α × Nat} (hp : p L a = .inr z) : x = z.1 ∧ a1 = z.2 ∧ e1 = 0 := by
  unfold Tf at h
  rw [if_pos rfl, hp] at h
  exact h
end
theorem fill3' {w : World} {b : Nat} {t : TypeId} {z0 z1 z2 : Value} (h : w.heap[b]? = some (.cells #[z0, z1, z2] t (0, 0))) (x0 x1 x2 : Value) : (((w.setCell ⟨b, 0, none⟩ x0).setCell ⟨b, 1, none⟩ x1).setCell ⟨b, 2, none⟩ x2).heap[b]? = some (.cells #[x0, x1, x2] t (0, 0)) ∧ Kp (fun k => k = b) w (((w.setCell ⟨b, 0, none⟩ x0).setCell ⟨b, 1, none⟩ x1).setCell ⟨b, 2, none⟩ x2) := by
  have s0 : (w.setCell ⟨b, 0, none⟩ x0).heap[b]? = some (.cells #[x0, z1, z2] t (0, 0)) ∧ Kp (fun k => k = b) w (w.setCell ⟨b, 0, none⟩ x0) := tk_set h 0 x0
  have s1 : ((w.setCell ⟨b, 0, none⟩ x0).setCell ⟨b, 1, none⟩ x1).heap[b]? = some (.cells #[x0, x1, z2] t (0, 0)) ∧ Kp (fun k => k = b) (w.setCell ⟨b, 0, none⟩ x0) ((w.setCell ⟨b, 0, none⟩ x0).setCell ⟨b, 1, none⟩ x1) := tk_set s0.1 1 x1
  have s2 := tk_set s1.1 2 x2
  exact ⟨s2.1, (s0.2.trans s1.2 (fun _ _ h => h)).trans s2.2 (fun _ _ h => h)⟩
/-- What a call on a front leaves. -/
def Fk {α : Type} (p : Pa α) (V : World → Value → α → Prop) (fb : Nat) (v : Value) (L : List UInt8) (a e bd : Nat) (w : World) (r : Ending) (w' : World) : Prop :=
  ∃ x u a' e' bd', r = .returned u ∧ V w' u x ∧ Ft w' fb v L a' e' bd' ∧ Kp (fun k => k = fb) w w' ∧ Tf p L a e bd x a' e' bd'
section
variable {fb a e bd : Nat} {v : Value} {L : List UInt8}
theorem fany_k (w : World) (h : Ft w fb v L a e bd) : Calls Try.prog 54 #[.pointer (some ⟨fb, 0, none⟩)] w (Fk any Vu fb v L a e bd w) :=
  (fany_any w h).mono fun _ _ ⟨x, a', e', bd', h1, h2, h3, h4⟩ => ⟨x, _, a', e', bd', h1, rfl, h2, h3, Tf.of fits_any h.le h4⟩
theorem fint_k (w : World) (h : Ft w fb v L a e bd) : Calls Try.prog 30 #[.pointer (some ⟨fb, 0, none⟩)] w (Fk int Vi fb v L a e bd w) :=
  (fint_any w h).mono fun _ _ ⟨x, a', e', bd', h1, h2, h3, h4⟩ => ⟨x, _, a', e', bd', h1, rfl, h2, h3, Tf.of fits_int h.le h4⟩
theorem fnum_k (most over : Nat) (hm : most < 18446744073709551616) (ho : over ≠ 0) (w : World) (h : Ft w fb v L a e bd) : Calls Try.prog 31 #[.pointer (some ⟨fb, 0, none⟩), .int .u64 (most : Nat), .int .i64 (over : Nat)] w fun r w' => Fk (num most over) Vu fb v L a e bd w r w' ∧ ∀ u, r = .returned (.int .u64 (u : Nat)) → u ≤ most :=
  (fnumber_any most over w h).mono fun r _ ⟨x, a', e', bd', h1, h2, h3, h4⟩ => ⟨⟨x, _, a', e', bd', h1, rfl, h2, h3, Tf.of (fits_num hm ho) h.le h4⟩, fun u hu => by
    have hx := Took.ok (fits_num hm ho) (Nat.zero_le _) h.le h4
    rw [h1] at hu
    simp only [Ending.returned.injEq, Value.int.injEq, true_and] at hu
    omega⟩
set_option maxHeartbeats 1000000 in
theorem fpath_k (w : World) (h : Ft w fb v L a e bd) : Calls Try.prog 55 #[.pointer (some ⟨fb, 0, none⟩)] w (Fk ppth Vpth fb v L a e bd w) := by
  have g0 := (Gr.refl w).alloc (.cells #[.int .u64 0, .int .u64 0, .int .u64 0] 64)
  have n0 := heap_new' w (.cells #[.int .u64 0, .int .u64 0, .int .u64 0] 64)
  have hlt := h.lt
  have hrow : ∀ k, v.ownBlock = some k → k < w.heap.size := h.ls.blk
  have h0 := h.below g0.below
  clear h
  go_enter Try.func55, Try.ntmps55
  go_wp2_with fail
  refine (fany_k _ h0).mono ?_
  rintro r w1 ⟨x1, u1, a1, e1, bd1, rfl, rfl, f1, k1, t1⟩
  have n1 := (k1.block _ (tk_lt n0) (by omega)).trans n0
  have K1 := hid (kp_then g0 k1)
  clear k1 n0 h0 g0
  go_wp2_with fail
  refine (fany_k _ f1).mono ?_
  rintro r w2 ⟨x2, u2, a2, e2, bd2, rfl, rfl, f2, k2, t2⟩
  have n2 := (k2.block _ (tk_lt n1) (by omega)).trans n1
  have K2 := hid (K1.out.trans k2 (fun _ _ h => h))
  clear k2 n1 f1 K1
  go_wp2_with fail
  refine (fany_k _ f2).mono ?_
  rintro r w3 ⟨x3, u3, a3, e3, bd3, rfl, rfl, f3, k3, t3⟩
  have n3 := (k3.block _ (tk_lt n2) (by omega)).trans n2
  have K3 := hid (K2.out.trans k3 (fun _ _ h => h))
  have F3 := hid f3
  have N3 := hid n3
  have TT := hid (t1.and (t2.and t3))
  obtain ⟨c3, z3⟩ := tk_store n3
  have l3 := tk_lt n3
  clear k3 n2 f2 K2 n3 f3 t1 t2 t3
  go_wp2_with fail
  obtain ⟨wf, hwf⟩ : ∃ wf, wf = ((w3.setCell ⟨w.heap.size, 0, none⟩ (.int .u64 (x1 : Nat))).setCell ⟨w.heap.size, 1, none⟩ (.int .u64 (x2 : Nat))).setCell ⟨w.heap.size, 2, none⟩ (.int .u64 (x3 : Nat)) := ⟨_, rfl⟩
  rw [← hwf]
  obtain ⟨hbf, hkf⟩ : wf.heap[w.heap.size]? = some (.cells #[.int .u64 (x1 : Nat), .int .u64 (x2 : Nat), .int .u64 (x3 : Nat)] 64 (0, 0)) ∧ Kp (fun k => k = w.heap.size) w3 wf := by
    rw [hwf]
    exact fill3' N3.out _ _ _
  clear hwf c3 z3 l3
  obtain ⟨qf, -⟩ := tk_store hbf
  have hlf := tk_lt hbf
  refine bodyPost_ret (v := .agg #[.int .u64 (x1 : Nat), .int .u64 (x2 : Nat), .int .u64 (x3 : Nat)]) (by simp [results, Try.results55, go_sem, qf]) rfl ?_
  exact ⟨(x1, x2, x3), _, a3, e3, bd3, rfl, rfl, F3.out.kp hkf (by omega) (fun k hk e => by have := hrow k hk; omega), K3.out.trans hkf (fun j hj e => by omega), TT.out⟩
end
end Go.Proofs.Ytnclnagpfjmlcaa.Df
