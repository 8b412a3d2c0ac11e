import Derived.Test.YtpcamjmfddnglaaHStep
namespace Go.Proofs.Ytpcamjmfddnglaa.Ht
open Go.RowKit Go.Sort Hp
attribute [local go_sem ↓] Go.wp_at_zero Go.wp_at_succ

/-- A pair as a value; a step. -/
abbrev pv (hb rb : Nat) : Value := .agg #[.pointer (some ⟨hb, 0, none⟩), .pointer (some ⟨rb, 0, none⟩)]
abbrev ov (kind on k : Int) : Value := .agg #[.int .i64 kind, .int .i64 on, .int .i64 k]
/-- The boxes of a step. -/
structure Bx (w : World) (hb rb : Nat) (kind on k : Int) (B3 B4 : Nat) (W : World) : Prop where
  b3 : W.heap[B3]? = some (.cells #[.pointer (some ⟨hb, 0, none⟩), .pointer (some ⟨rb, 0, none⟩)] 49 (0, 0))
  b4 : W.heap[B4]? = some (.cells #[.int .i64 kind, .int .i64 on, .int .i64 k] 52 (0, 0))
  l3 : w.heap.size ≤ B3
  l4 : w.heap.size ≤ B4
theorem Bx.kp {w W W' : World} {hb rb B3 B4 : Nat} {kind on k : Int} {S : Nat → Prop} (h : Bx w hb rb kind on k B3 B4 W) (hk : Kp S W W') (hS : ∀ j, S j → j < w.heap.size) : Bx w hb rb kind on k B3 B4 W' :=
  ⟨(hk.block B3 (Array.getElem?_eq_some_iff.1 h.b3).1 (fun e => by have := hS _ e; have := h.l3; omega)).trans h.b3, (hk.block B4 (Array.getElem?_eq_some_iff.1 h.b4).1 (fun e => by have := hS _ e; have := h.l4; omega)).trans h.b4, h.l3, h.l4⟩
theorem Bx.below {w W W' : World} {hb rb B3 B4 : Nat} {kind on k : Int} (h : Bx w hb rb kind on k B3 B4 W) (hb' : Below W.heap.size W W') : Bx w hb rb kind on k B3 B4 W' := h.kp (S := fun _ => False) (Kp.of_below hb') (fun _ h => h.elim)
theorem Bx.c {w W : World} {hb rb B3 B4 : Nat} {kind on k : Int} (h : Bx w hb rb kind on k B3 B4 W) : W.cell? ⟨B3, 0, none⟩ = some (.pointer (some ⟨hb, 0, none⟩)) ∧ W.cell? ⟨B3, 1, none⟩ = some (.pointer (some ⟨rb, 0, none⟩)) ∧ W.cell? ⟨B4, 0, none⟩ = some (.int .i64 kind) ∧ W.cell? ⟨B4, 2, none⟩ = some (.int .i64 k) ∧ B3 < W.heap.size ∧ B4 < W.heap.size := by
  refine ⟨by simp [World.cell?, h.b3], by simp [World.cell?, h.b3], by simp [World.cell?, h.b4], by simp [World.cell?, h.b4], (Array.getElem?_eq_some_iff.1 h.b3).1, (Array.getElem?_eq_some_iff.1 h.b4).1⟩
theorem Bx.init (w : World) (hb rb : Nat) (kind on k : Int) : Bx w hb rb kind on k w.heap.size (w.heap.size + 1) ((w.alloc (.cells #[.pointer (some ⟨hb, 0, none⟩), .pointer (some ⟨rb, 0, none⟩)] 49)).alloc (.cells #[.int .i64 kind, .int .i64 on, .int .i64 k] 52)) := by
  refine ⟨(((Gr.refl _).alloc _).below.block _ (by simp)).trans (heap_new' _ _), ?_, Nat.le_refl _, Nat.le_succ _⟩
  have h := heap_new' (w.alloc (.cells #[.pointer (some ⟨hb, 0, none⟩), .pointer (some ⟨rb, 0, none⟩)] 49)) (.cells #[.int .i64 kind, .int .i64 on, .int .i64 k] 52)
  rwa [show (w.alloc (.cells #[.pointer (some ⟨hb, 0, none⟩), .pointer (some ⟨rb, 0, none⟩)] 49)).heap.size = w.heap.size + 1 by simp] at h

set_option maxHeartbeats 2000000 in
set_option maxRecDepth 100000 in
theorem step_push {ff : Nat} {o : Int} {p : Pp} (on k name : Int) (w : World) (hO : Ok1 ff o p w) (hl : (p.S.length + 1) * 24 ≤ 140737488355328) (hnp : p.np + 1 < 18446744073709551616) (hF : FnOk ff (key (okey o))) :
    Calls Try.prog 23 #[pv p.hb p.rb, ov 1 on k, .int .i64 name] w fun e w' => e = .returned (.bool true) ∧ SP ff o p 1 w w' := by
  have hmx : Try.prog.follows .mixedOrders = true := by kernel_rfl
  obtain ⟨B3, hB3⟩ : ∃ B, B = w.heap.size := ⟨_, rfl⟩
  obtain ⟨B4, hB4⟩ : ∃ B, B = B3 + 1 := ⟨_, rfl⟩
  obtain ⟨B5, hB5⟩ : ∃ B, B = B4 + 1 := ⟨_, rfl⟩
  obtain ⟨W2, hW2⟩ : ∃ W, W = (w.alloc (.cells #[.pointer (some ⟨p.hb, 0, none⟩), .pointer (some ⟨p.rb, 0, none⟩)] 49)).alloc (.cells #[.int .i64 1, .int .i64 on, .int .i64 k] 52) := ⟨_, rfl⟩
  obtain ⟨W3, hW3⟩ : ∃ W, W = W2.alloc (.cells #[.int .i64 k, .int .i64 name] 26) := ⟨_, rfl⟩
  have X2 : Hid (Bx w p.hb p.rb 1 on k B3 B4 W2) := by rw [hW2, hB4, hB3]; exact Bx.init w p.hb p.rb 1 on k
  have hs2 : W2.heap.size = B5 := by rw [hW2, hB5, hB4, hB3]; simp
  have G2 : Gr w W2 := by rw [hW2]; exact ((Gr.refl _).alloc _).alloc _
  have G3 : Gr W2 W3 := by rw [hW3]; exact (Gr.refl _).alloc _
  have X3 := hid (X2.out.below G3.below)
  have Y3 : Hid (W3.heap[B5]? = some (.cells #[.int .i64 k, .int .i64 name] 26 (0, 0)) ∧ w.heap.size ≤ B5) := ⟨by rw [hW3, ← hs2]; exact heap_new' _ _, by omega⟩
  have HO : Hid (Ok1 ff o p w) := hO
  have O3 := hid (hO.gr (G2.trans G3))
  have HG3 := hid (G2.trans G3)
  have hpu := pushq_any (k, name) W3 O3.out.q (by rw [O3.out.pm.length_eq]; exact hl) hnp hF
  clear hO
  go_enter Try.func23, Try.ntmps23
  go_wp2_with fail
  rw [← hW2, ← hW3, ← hB3, ← hB4, ← hB5]
  clear hW2 hW3 hB3 hB4 hB5 hs2 G2 G3
  refine hpu.mono ?_
  rintro e w4 ⟨v4, L4, rfl, q4, p4, t4⟩
  have hS4 : ∀ j, (j = p.hb ∨ p.v.ownBlock = some j) → j < w.heap.size := fun j hj => HO.out.lt (hj.elim Or.inl (fun h => Or.inr (Or.inl h)))
  have X4 := hid (X3.out.kp t4.1 hS4)
  have Y4 := hid ((t4.1.block B5 (Array.getElem?_eq_some_iff.1 Y3.out.1).1 (fun e => by have := hS4 _ e; have := Y3.out.2; omega)).trans Y3.out.1)
  obtain ⟨c30, c31, c40, c42, l3, l4⟩ := X4.out.c
  obtain ⟨c50, c51⟩ : w4.cell? ⟨B5, 0, none⟩ = some (.int .i64 k) ∧ w4.cell? ⟨B5, 1, none⟩ = some (.int .i64 name) := by simp [World.cell?, Y4.out]
  have l5 : B5 < w4.heap.size := (Array.getElem?_eq_some_iff.1 Y4.out).1
  obtain ⟨r4, r4b, r4c⟩ := O3.out.turnP t4
  have hrp := rpush_any (k, name) w4 r4 (by rw [List.length_map]; omega)
  have Q4 := hid q4
  have P4 := hid p4
  have T4 := hid t4
  clear hpu q4 p4 t4 r4 r4b r4c
  go_wp2_with fail
  refine hrp.mono ?_
  rintro e w5 ⟨v5, rfl, r5, t5⟩
  obtain ⟨O5, PT5⟩ := O3.out.push Q4.out P4.out T4.out r5 t5
  have X5 := hid (X4.out.kp t5.1 (fun j hj => HO.out.lt (hj.elim (fun h => Or.inr (Or.inr (Or.inl h))) (fun h => Or.inr (Or.inr (Or.inr h))))))
  have HS5 : Hid (SP ff o p 1 w w5) := ⟨_, O5, (PT.of_below HG3.out.below).trans PT5, by simp, by simp⟩
  have hlen := fun W (h : Gr w5 W) => len_any W (O5.gr h).q.h
  have hLS : L4.length = p.S.length + 1 := by have := O5.pm.length_eq; simpa using this
  simp only [hLS] at hlen
  obtain ⟨pr, cr, e5⟩ := r5.lst.form
  have c5 : w5.cell? ⟨p.rb, 1, none⟩ = some (.slice pr (p.S.length + 1) cr) := by
    have h := r5.c1
    rw [e5] at h
    simpa using h
  have c5l := O5.r.lt
  obtain ⟨c30, c31, c40, c42, l3, l4⟩ := X5.out.c
  have S0 : w5.drew.cell? ⟨p.rb, 1, none⟩ = some (.slice pr (p.S.length + 1) cr) ∧ w5.drew.cell? ⟨B3, 0, none⟩ = some (.pointer (some ⟨p.hb, 0, none⟩)) ∧ w5.drew.cell? ⟨B3, 1, none⟩ = some (.pointer (some ⟨p.rb, 0, none⟩)) := ⟨c5, c30, c31⟩
  have hl5 := hlen w5.drew (Gr.refl _).drew
  clear hrp r5 t5 O5 PT5 hlen hLS e5
  go_wp2_with fail
  go_region_held3 (fun w' => w'.cell? ⟨p.rb, 1, none⟩ = some (.slice pr (p.S.length + 1) cr) ∧ w'.cell? ⟨B3, 0, none⟩ = some (.pointer (some ⟨p.hb, 0, none⟩)) ∧ w'.cell? ⟨B3, 1, none⟩ = some (.pointer (some ⟨p.rb, 0, none⟩)))
    (first | exact S0 | assumption)
    (first | (go_at_call 11; refine hl5.mono ?_; rintro e w7 ⟨rfl, rfl⟩))
  go_wp2
  go_ret
  obtain ⟨p', a1, a2, a3, a4⟩ := HS5.out
  exact ⟨by first | rfl | simp, p', a1.gr (Gr.refl _).drew, a2.trans (PT.of_below (Gr.refl _).drew.below), a3, a4⟩
end Go.Proofs.Ytpcamjmfddnglaa.Ht
