import Derived.Test.YtpcamjmfddnglaaHStep2
namespace Go.Proofs.Ytpcamjmfddnglaa.Ht
open Go.RowKit Go.Sort Hp
attribute [local go_sem ↓] Go.wp_at_zero Go.wp_at_succ

set_option maxHeartbeats 2000000 in
set_option maxRecDepth 100000 in
theorem step_pop {ff : Nat} {o : Int} {p : Pp} (on k name : Int) (w : World) (hO : Ok1 ff o p w) (hl : (p.S.length + 1) * 24 ≤ 140737488355328) (hF : FnOk ff (key (okey o))) :
    Calls Try.prog 23 #[pv p.hb p.rb, ov 2 on k, .int .i64 name] w fun e w' => e = .returned (.bool true) ∧ SP ff o p 2 w w' := by
  have hmx : Try.prog.follows .mixedOrders = true := by kernel_rfl
  have heq := fun a b x y W => run_eqV a b x y W
  obtain ⟨B3, hB3⟩ : ∃ B, B = w.heap.size := ⟨_, rfl⟩
  obtain ⟨B4, hB4⟩ : ∃ B, B = B3 + 1 := ⟨_, rfl⟩
  obtain ⟨W2, hW2⟩ : ∃ W, W = (w.alloc (.cells #[.pointer (some ⟨p.hb, 0, none⟩), .pointer (some ⟨p.rb, 0, none⟩)] 49)).alloc (.cells #[.int .i64 2, .int .i64 on, .int .i64 k] 52) := ⟨_, rfl⟩
  have X2 : Hid (Bx w p.hb p.rb 2 on k B3 B4 W2) := by rw [hW2, hB4, hB3]; exact Bx.init w p.hb p.rb 2 on k
  have G2 : Gr w W2 := by rw [hW2]; exact ((Gr.refl _).alloc _).alloc _
  have HO : Hid (Ok1 ff o p w) := hO
  have O2 := hid (hO.gr G2)
  have HG2 := hid G2
  clear hO
  have hl1 : p.L.length ≤ 140737488355328 := by rw [HO.out.pm.length_eq]; omega
  cases hL : p.L[0]? with
  | none =>
    have hLn : p.L = [] := by
      cases h : p.L with
      | nil => rfl
      | cons a l => rw [h] at hL; simp at hL
    have hSn : p.S = [] := by have := O2.out.pm; rw [hLn] at this; exact this.nil_eq.symm
    have hpp := pop_none W2 (by have := O2.out.q.h; rw [hLn] at this; exact this)
    have RN : Hid (∀ W, Gr W2 W → Rh W p.rb o p.rv []) := fun W h => by have := (O2.out.gr h).r; rw [hSn] at this; exact this
    have RB : Hid (∀ W, Below W2.heap.size W2 W → Rh W p.rb o p.rv []) := fun W h => by have := (O2.out.below h).r; rw [hSn] at this; exact this
    clear hL hLn hSn
    go_enter Try.func23, Try.ntmps23
    go_wp2_with fail
    rw [← hW2, ← hB3, ← hB4]
    clear hW2 hB3 hB4 G2
    refine hpp.mono ?_
    rintro e w4 ⟨rfl, hb4⟩
    obtain ⟨B8, hB8⟩ : ∃ B, B = w4.heap.size := ⟨_, rfl⟩
    obtain ⟨W5, hW5⟩ : ∃ W, W = w4.alloc (.cells #[.int .i64 0, .int .i64 0] 26) := ⟨_, rfl⟩
    have b5 : Below W2.heap.size W2 W5 := hb4.trans ((by rw [hW5]; exact ((Gr.refl _).alloc _).below : Below w4.heap.size w4 W5).mono hb4.size)
    have X4 := hid (X2.out.below hb4)
    have X5 := hid (X2.out.below b5)
    have Y5 : Hid (W5.heap[B8]? = some (.cells #[.int .i64 0, .int .i64 0] 26 (0, 0))) := by rw [hW5, hB8]; exact heap_new' _ _
    have hrp := rpop_none W5 (RB.out W5 b5)
    obtain ⟨c30, c31, c40, c42, l3, l4⟩ := X4.out.c
    have HB5 := hid b5
    clear hpp hb4 b5
    go_wp2_with fail
    rw [← hW5, ← hB8]
    clear hW5 hB8 c30 c31 c40 c42 l3 l4
    refine hrp.mono ?_
    rintro e w6 ⟨rfl, hb6⟩
    have Y6 := hid ((hb6.block B8 (Array.getElem?_eq_some_iff.1 Y5.out).1).trans Y5.out)
    obtain ⟨y0, y1⟩ : w6.cell? ⟨B8, 0, none⟩ = some (.int .i64 0) ∧ w6.cell? ⟨B8, 1, none⟩ = some (.int .i64 0) := by simp [World.cell?, Y6.out]
    have l8 : B8 < w6.heap.size := (Array.getElem?_eq_some_iff.1 Y6.out).1
    have hv := veq_self 0 0
    have HB6 := hid (HB5.out.trans (hb6.mono HB5.out.size))
    clear hrp hb6
    go_wp2
    go_ret
    exact ⟨by first | rfl | simp, SP.same HO.out ((HG2.out.below.trans (HB6.out.mono HG2.out.size)).trans ((((Gr.refl _).alloc _).below).mono (Nat.le_trans HG2.out.size HB6.out.size)))⟩
  | some t =>
    obtain ⟨k0, hk1, hk2, hk3⟩ := O2.out.first hL
    have hpp := popq_any W2 O2.out.q hL hl1 hF
    clear hL
    go_enter Try.func23, Try.ntmps23
    go_wp2_with fail
    rw [← hW2, ← hB3, ← hB4]
    clear hW2 hB3 hB4 G2
    refine hpp.mono ?_
    rintro e w4 ⟨v4, L4, rfl, q4, p4, _, t4⟩
    obtain ⟨B8, hB8⟩ : ∃ B, B = w4.heap.size := ⟨_, rfl⟩
    obtain ⟨W5, hW5⟩ : ∃ W, W = w4.alloc (.cells #[.int .i64 t.1.1, .int .i64 t.1.2] 26) := ⟨_, rfl⟩
    have G5 : Gr w4 W5 := by rw [hW5]; exact (Gr.refl _).alloc _
    have hS4 : ∀ j, (j = p.hb ∨ p.v.ownBlock = some j) → j < w.heap.size := fun j hj => HO.out.lt (hj.elim Or.inl (fun h => Or.inr (Or.inl h)))
    have X4 := hid (X2.out.kp t4.1 hS4)
    have X5 := hid (X4.out.below G5.below)
    have Y5 : Hid (W5.heap[B8]? = some (.cells #[.int .i64 t.1.1, .int .i64 t.1.2] 26 (0, 0)) ∧ w.heap.size ≤ B8) := ⟨by rw [hW5, hB8]; exact heap_new' _ _, by rw [hB8]; exact Nat.le_trans HG2.out.size t4.1.size⟩
    obtain ⟨r4, _, _⟩ := O2.out.turnP t4
    have r5 := r4.gr G5
    have hrp := rpop_any W5 r5 (by rw [List.length_map]; omega) hk2 (at_is W5 r5 (by rw [List.length_map]; omega) hk3)
    obtain ⟨c30, c31, c40, c42, l3, l4⟩ := X4.out.c
    have Q4 := hid q4
    have P4 := hid p4
    have T4 := hid t4
    have K1 := hid hk1
    have HG5 := hid G5
    clear hpp q4 p4 t4 r4 r5 hk1 hk2 hk3 G5
    go_wp2_with fail
    rw [← hW5, ← hB8]
    clear hW5 hB8 c30 c31 c40 c42 l3 l4
    refine hrp.mono ?_
    rintro e w6 ⟨rfl, v6, r6, t6⟩
    obtain ⟨O6, PT6⟩ := O2.out.pop K1.out Q4.out P4.out T4.out HG5.out r6 t6
    have Y6 := hid ((t6.1.block B8 (Array.getElem?_eq_some_iff.1 Y5.out.1).1 (fun e => by
      have h1 := HO.out.lt (k := B8) (e.elim (fun h => Or.inr (Or.inr (Or.inl h))) (fun h => Or.inr (Or.inr (Or.inr h))))
      have := Y5.out.2
      omega)).trans Y5.out.1)
    have HS6 : Hid (SP ff o p 2 w w6) := ⟨_, O6, (PT.of_below HG2.out.below).trans PT6, by
      rw [if_neg (by decide)]
      exact List.length_eraseIdx_le _ _, Nat.le_add_right _ _⟩
    obtain ⟨y0, y1⟩ : w6.cell? ⟨B8, 0, none⟩ = some (.int .i64 t.1.1) ∧ w6.cell? ⟨B8, 1, none⟩ = some (.int .i64 t.1.2) := by simp [World.cell?, Y6.out]
    have l8 : B8 < w6.heap.size := (Array.getElem?_eq_some_iff.1 Y6.out).1
    have hv := veq_self t.1.1 t.1.2
    clear hrp r6 t6 O6 PT6
    go_wp2
    go_ret
    obtain ⟨p', a1, a2, a3, a4⟩ := HS6.out
    exact ⟨by first | rfl | simp, p', a1.gr ((Gr.refl _).alloc _), a2.trans (PT.of_below ((Gr.refl _).alloc _).below), a3, a4⟩

set_option maxHeartbeats 2000000 in
set_option maxRecDepth 100000 in
theorem step_peek {ff : Nat} {o : Int} {p : Pp} (on k name : Int) (w : World) (hO : Ok1 ff o p w) (hl : (p.S.length + 1) * 24 ≤ 140737488355328) :
    Calls Try.prog 23 #[pv p.hb p.rb, ov 3 on k, .int .i64 name] w fun e w' => e = .returned (.bool true) ∧ SP ff o p 3 w w' := by
  have hmx : Try.prog.follows .mixedOrders = true := by kernel_rfl
  have heq := fun a b x y W => run_eqV a b x y W
  obtain ⟨B3, hB3⟩ : ∃ B, B = w.heap.size := ⟨_, rfl⟩
  obtain ⟨B4, hB4⟩ : ∃ B, B = B3 + 1 := ⟨_, rfl⟩
  obtain ⟨W2, hW2⟩ : ∃ W, W = (w.alloc (.cells #[.pointer (some ⟨p.hb, 0, none⟩), .pointer (some ⟨p.rb, 0, none⟩)] 49)).alloc (.cells #[.int .i64 3, .int .i64 on, .int .i64 k] 52) := ⟨_, rfl⟩
  have X2 : Hid (Bx w p.hb p.rb 3 on k B3 B4 W2) := by rw [hW2, hB4, hB3]; exact Bx.init w p.hb p.rb 3 on k
  have G2 : Gr w W2 := by rw [hW2]; exact ((Gr.refl _).alloc _).alloc _
  have HO : Hid (Ok1 ff o p w) := hO
  have O2 := hid (hO.gr G2)
  have HG2 := hid G2
  clear hO
  obtain ⟨x, b, hpp, hrr⟩ : ∃ (x : Th) (b : Bool), Calls Try.prog 34 #[.pointer (some ⟨p.hb, 0, none⟩)] W2 (fun e w' => e = .returned (ans x b) ∧ Gr W2 w') ∧ ∀ W, Gr W2 W → Calls Try.prog 44 #[.pointer (some ⟨p.rb, 0, none⟩)] W fun e w' => e = .returned (ans x b) ∧ Below W.heap.size W w' := by
    cases hL : p.L[0]? with
    | none =>
      have hLn : p.L = [] := by
        cases h : p.L with
        | nil => rfl
        | cons a l => rw [h] at hL; simp at hL
      have hSn : p.S = [] := by have := O2.out.pm; rw [hLn] at this; exact this.nil_eq.symm
      exact ⟨zt, false, peek_none W2 (by have := O2.out.q.h; rw [hLn] at this; exact this), fun W h => rpeek_none W (by have := (O2.out.gr h).r; rw [hSn] at this; exact this)⟩
    | some t =>
      obtain ⟨k0, _, hk2, hk3⟩ := O2.out.first hL
      exact ⟨t.1, true, peek_any W2 O2.out.q.h hL, fun W h => rpeek_any W (O2.out.gr h).r hk2 (at_is W (O2.out.gr h).r (by rw [List.length_map]; omega) hk3)⟩
  go_enter Try.func23, Try.ntmps23
  go_wp2_with fail
  rw [← hW2, ← hB3, ← hB4]
  clear hW2 hB3 hB4 G2
  refine hpp.mono ?_
  rintro e w4 ⟨rfl, hg4⟩
  obtain ⟨B8, hB8⟩ : ∃ B, B = w4.heap.size := ⟨_, rfl⟩
  obtain ⟨W5, hW5⟩ : ∃ W, W = w4.alloc (.cells #[.int .i64 x.1, .int .i64 x.2] 26) := ⟨_, rfl⟩
  have G5 : Gr w4 W5 := by rw [hW5]; exact (Gr.refl _).alloc _
  have X4 := hid (X2.out.below hg4.below)
  have Y5 : Hid (W5.heap[B8]? = some (.cells #[.int .i64 x.1, .int .i64 x.2] 26 (0, 0))) := by rw [hW5, hB8]; exact heap_new' _ _
  have hrp := hrr W5 (hg4.trans G5)
  obtain ⟨c30, c31, c40, c42, l3, l4⟩ := X4.out.c
  have HG5 := hid (HG2.out.trans (hg4.trans G5))
  clear hpp hrr hg4 G5
  go_wp2_with fail
  rw [← hW5, ← hB8]
  clear hW5 hB8 c30 c31 c40 c42 l3 l4
  refine hrp.mono ?_
  rintro e w6 ⟨rfl, hb6⟩
  have Y6 := hid ((hb6.block B8 (Array.getElem?_eq_some_iff.1 Y5.out).1).trans Y5.out)
  obtain ⟨y0, y1⟩ : w6.cell? ⟨B8, 0, none⟩ = some (.int .i64 x.1) ∧ w6.cell? ⟨B8, 1, none⟩ = some (.int .i64 x.2) := by simp [World.cell?, Y6.out]
  have l8 : B8 < w6.heap.size := (Array.getElem?_eq_some_iff.1 Y6.out).1
  have hv := veq_self x.1 x.2
  have HB6 := hid (HG5.out.below.trans (hb6.mono HG5.out.size))
  clear hrp hb6
  go_wp2
  go_ret
  exact ⟨by first | rfl | simp, SP.same HO.out (HB6.out.trans ((((Gr.refl _).alloc _).below).mono HB6.out.size))⟩

set_option maxHeartbeats 2000000 in
set_option maxRecDepth 100000 in
theorem step_len {ff : Nat} {o : Int} {p : Pp} (kind on k name : Int) (w : World) (hO : Ok1 ff o p w) (h1 : ¬ kind = 1) (h2 : ¬ kind = 2) (h3 : ¬ kind = 3) :
    Calls Try.prog 23 #[pv p.hb p.rb, ov kind on k, .int .i64 name] w fun e w' => e = .returned (.bool true) ∧ SP ff o p kind w w' := by
  have hmx : Try.prog.follows .mixedOrders = true := by kernel_rfl
  obtain ⟨B3, hB3⟩ : ∃ B, B = w.heap.size := ⟨_, rfl⟩
  obtain ⟨B4, hB4⟩ : ∃ B, B = B3 + 1 := ⟨_, rfl⟩
  obtain ⟨W2, hW2⟩ : ∃ W, W = (w.alloc (.cells #[.pointer (some ⟨p.hb, 0, none⟩), .pointer (some ⟨p.rb, 0, none⟩)] 49)).alloc (.cells #[.int .i64 kind, .int .i64 on, .int .i64 k] 52) := ⟨_, rfl⟩
  have X2 : Hid (Bx w p.hb p.rb kind on k B3 B4 W2) := by rw [hW2, hB4, hB3]; exact Bx.init w p.hb p.rb kind on k
  have G2 : Gr w W2 := by rw [hW2]; exact ((Gr.refl _).alloc _).alloc _
  have HO : Hid (Ok1 ff o p w) := hO
  have O2 := hid (hO.gr G2)
  have HG2 := hid G2
  have e1 : (kind == 1) = false := by simpa using h1
  have e2 : (kind == 2) = false := by simpa using h2
  have e3 : (kind == 3) = false := by simpa using h3
  have hlen := len_any W2.drew (O2.out.gr (Gr.refl _).drew).q.h
  rw [O2.out.pm.length_eq] at hlen
  obtain ⟨pr, cr, e5⟩ := O2.out.r.lst.form
  have c5 : W2.cell? ⟨p.rb, 1, none⟩ = some (.slice pr p.S.length cr) := by
    have h := O2.out.r.c1
    rw [e5] at h
    simpa using h
  have c5l := O2.out.r.lt
  obtain ⟨c30, c31, c40, c42, l3, l4⟩ := X2.out.c
  have S0 : W2.drew.cell? ⟨p.rb, 1, none⟩ = some (.slice pr p.S.length cr) ∧ W2.drew.cell? ⟨B3, 0, none⟩ = some (.pointer (some ⟨p.hb, 0, none⟩)) ∧ W2.drew.cell? ⟨B3, 1, none⟩ = some (.pointer (some ⟨p.rb, 0, none⟩)) := ⟨c5, c30, c31⟩
  clear hO e5
  go_enter Try.func23, Try.ntmps23
  go_wp2_with fail
  rw [← hW2, ← hB3, ← hB4]
  clear hW2 hB3 hB4 G2
  go_region_held3 (fun w' => w'.cell? ⟨p.rb, 1, none⟩ = some (.slice pr p.S.length cr) ∧ w'.cell? ⟨B3, 0, none⟩ = some (.pointer (some ⟨p.hb, 0, none⟩)) ∧ w'.cell? ⟨B3, 1, none⟩ = some (.pointer (some ⟨p.rb, 0, none⟩)))
    (first | exact S0 | assumption)
    (first | (go_at_call 11; refine hlen.mono ?_; rintro e w7 ⟨rfl, rfl⟩))
  go_wp2
  go_ret
  exact ⟨by first | rfl | simp, SP.same HO.out HG2.out.drew.below⟩
theorem step_any {ff : Nat} {o : Int} {p : Pp} (kind on k name : Int) (w : World) (hO : Ok1 ff o p w) (hl : (p.S.length + 1) * 24 ≤ 140737488355328) (hnp : p.np + 1 < 18446744073709551616) (hF : FnOk ff (key (okey o))) :
    Calls Try.prog 23 #[pv p.hb p.rb, ov kind on k, .int .i64 name] w fun e w' => e = .returned (.bool true) ∧ SP ff o p kind w w' := by
  by_cases h1 : kind = 1
  · subst h1; exact step_push on k name w hO hl hnp hF
  · by_cases h2 : kind = 2
    · subst h2; exact step_pop on k name w hO hl hF
    · by_cases h3 : kind = 3
      · subst h3; exact step_peek on k name w hO hl
      · exact step_len kind on k name w hO h1 h2 h3
end Go.Proofs.Ytpcamjmfddnglaa.Ht
