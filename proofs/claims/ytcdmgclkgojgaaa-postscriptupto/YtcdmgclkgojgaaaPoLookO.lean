import Derived.Test.YtcdmgclkgojgaaaPoFaceO
namespace Go.Proofs.Ytcdmgclkgojgaaa.Po
open Go.RowKit Go.Sort
attribute [local go_sem ↓] Go.wp_at_zero Go.wp_at_succ

/-- What Look answers. -/
def lv (r : Th × Nat) : Value := .tuple #[tv r.1, .int .i64 (r.2 : Nat)]
theorem Pq.on {w : World} {S : Nat → Prop} {hb W N : Nat} {Q : Nat → List Th} (h : Pq w S hb W N Q) {f t : Int} (hk : Lnk W f t) :
    ∃ p c, Ls ET w (.slice p (Q (nm f t)).length c) (Q (nm f t)) ∧ Calls Try.prog 56 #[.pointer (some ⟨hb, 1 + 2 * nm f t, none⟩)] w fun e w' => e = .returned (.slice p (Q (nm f t)).length c) ∧ ∃ m, w' = w.drewN m := by
  have hi := nm_lt hk h.w8
  obtain ⟨v, tk, X, hP, h1, h2, h3, h4⟩ := h
  obtain ⟨p, c, hL, hon⟩ := on_any (hb := hb) (o := 1 + 2 * nm f t) w (hP.own _ hi) (hP.le _ hi)
  have hon := hon w hP.blk.lt (hP.blk.cv hi) (hP.blk.ct hi)
  have e : (X (nm f t)).length - tk (nm f t) = (Q (nm f t)).length := by rw [← h1 _ hi]; simp
  rw [e] at hon hL
  rw [h1 _ hi] at hL
  exact ⟨p, c, hL, hon⟩
/-- A box is set anew. -/
theorem box_set {w : World} {b : Nat} {x y : Th} (h : w.heap[b]? = some (.cells #[.int .i64 x.1, .int .i64 x.2.1, .int .i64 x.2.2.1, .int .i64 x.2.2.2.1, .int .i64 x.2.2.2.2] 28 (0, 0))) :
    ((((((w.setCell ⟨b, 0, none⟩ (.int .i64 y.1)).setCell ⟨b, 1, none⟩ (.int .i64 y.2.1)).setCell ⟨b, 2, none⟩ (.int .i64 y.2.2.1)).setCell ⟨b, 3, none⟩ (.int .i64 y.2.2.2.1)).setCell ⟨b, 4, none⟩ (.int .i64 y.2.2.2.2))).heap[b]? = some (.cells #[.int .i64 y.1, .int .i64 y.2.1, .int .i64 y.2.2.1, .int .i64 y.2.2.2.1, .int .i64 y.2.2.2.2] 28 (0, 0)) ∧ Kp (fun k => k = b) w ((((((w.setCell ⟨b, 0, none⟩ (.int .i64 y.1)).setCell ⟨b, 1, none⟩ (.int .i64 y.2.1)).setCell ⟨b, 2, none⟩ (.int .i64 y.2.2.1)).setCell ⟨b, 3, none⟩ (.int .i64 y.2.2.2.1)).setCell ⟨b, 4, none⟩ (.int .i64 y.2.2.2.2))) := by
  have e0 := setCell_eq_setRow w b 0 _ _ _ (.int .i64 y.1) h
  have h0 := setRow_heap w b _ ((#[.int .i64 x.1, .int .i64 x.2.1, .int .i64 x.2.2.1, .int .i64 x.2.2.2.1, .int .i64 x.2.2.2.2] : Array Value).setIfInBounds 0 (.int .i64 y.1)) _ _ h
  rw [← e0] at h0
  have k0 : Kp (fun k => k = b) w (w.setCell ⟨b, 0, none⟩ (.int .i64 y.1)) := by rw [e0]; exact ⟨rfl, rfl, rfl, by simp [World.setRow], fun k _ hne => setRow_other _ b k _ (by omega)⟩
  have e1 := setCell_eq_setRow (w.setCell ⟨b, 0, none⟩ (.int .i64 y.1)) b 1 _ _ _ (.int .i64 y.2.1) h0
  have h1 := setRow_heap (w.setCell ⟨b, 0, none⟩ (.int .i64 y.1)) b _ (((#[.int .i64 x.1, .int .i64 x.2.1, .int .i64 x.2.2.1, .int .i64 x.2.2.2.1, .int .i64 x.2.2.2.2] : Array Value).setIfInBounds 0 (.int .i64 y.1)).setIfInBounds 1 (.int .i64 y.2.1)) _ _ h0
  rw [← e1] at h1
  have k1 : Kp (fun k => k = b) (w.setCell ⟨b, 0, none⟩ (.int .i64 y.1)) ((w.setCell ⟨b, 0, none⟩ (.int .i64 y.1)).setCell ⟨b, 1, none⟩ (.int .i64 y.2.1)) := by rw [e1]; exact ⟨rfl, rfl, rfl, by simp [World.setRow], fun k _ hne => setRow_other _ b k _ (by omega)⟩
  have e2 := setCell_eq_setRow ((w.setCell ⟨b, 0, none⟩ (.int .i64 y.1)).setCell ⟨b, 1, none⟩ (.int .i64 y.2.1)) b 2 _ _ _ (.int .i64 y.2.2.1) h1
  have h2 := setRow_heap ((w.setCell ⟨b, 0, none⟩ (.int .i64 y.1)).setCell ⟨b, 1, none⟩ (.int .i64 y.2.1)) b _ ((((#[.int .i64 x.1, .int .i64 x.2.1, .int .i64 x.2.2.1, .int .i64 x.2.2.2.1, .int .i64 x.2.2.2.2] : Array Value).setIfInBounds 0 (.int .i64 y.1)).setIfInBounds 1 (.int .i64 y.2.1)).setIfInBounds 2 (.int .i64 y.2.2.1)) _ _ h1
  rw [← e2] at h2
  have k2 : Kp (fun k => k = b) ((w.setCell ⟨b, 0, none⟩ (.int .i64 y.1)).setCell ⟨b, 1, none⟩ (.int .i64 y.2.1)) (((w.setCell ⟨b, 0, none⟩ (.int .i64 y.1)).setCell ⟨b, 1, none⟩ (.int .i64 y.2.1)).setCell ⟨b, 2, none⟩ (.int .i64 y.2.2.1)) := by rw [e2]; exact ⟨rfl, rfl, rfl, by simp [World.setRow], fun k _ hne => setRow_other _ b k _ (by omega)⟩
  have e3 := setCell_eq_setRow (((w.setCell ⟨b, 0, none⟩ (.int .i64 y.1)).setCell ⟨b, 1, none⟩ (.int .i64 y.2.1)).setCell ⟨b, 2, none⟩ (.int .i64 y.2.2.1)) b 3 _ _ _ (.int .i64 y.2.2.2.1) h2
  have h3 := setRow_heap (((w.setCell ⟨b, 0, none⟩ (.int .i64 y.1)).setCell ⟨b, 1, none⟩ (.int .i64 y.2.1)).setCell ⟨b, 2, none⟩ (.int .i64 y.2.2.1)) b _ (((((#[.int .i64 x.1, .int .i64 x.2.1, .int .i64 x.2.2.1, .int .i64 x.2.2.2.1, .int .i64 x.2.2.2.2] : Array Value).setIfInBounds 0 (.int .i64 y.1)).setIfInBounds 1 (.int .i64 y.2.1)).setIfInBounds 2 (.int .i64 y.2.2.1)).setIfInBounds 3 (.int .i64 y.2.2.2.1)) _ _ h2
  rw [← e3] at h3
  have k3 : Kp (fun k => k = b) (((w.setCell ⟨b, 0, none⟩ (.int .i64 y.1)).setCell ⟨b, 1, none⟩ (.int .i64 y.2.1)).setCell ⟨b, 2, none⟩ (.int .i64 y.2.2.1)) ((((w.setCell ⟨b, 0, none⟩ (.int .i64 y.1)).setCell ⟨b, 1, none⟩ (.int .i64 y.2.1)).setCell ⟨b, 2, none⟩ (.int .i64 y.2.2.1)).setCell ⟨b, 3, none⟩ (.int .i64 y.2.2.2.1)) := by rw [e3]; exact ⟨rfl, rfl, rfl, by simp [World.setRow], fun k _ hne => setRow_other _ b k _ (by omega)⟩
  have e4 := setCell_eq_setRow ((((w.setCell ⟨b, 0, none⟩ (.int .i64 y.1)).setCell ⟨b, 1, none⟩ (.int .i64 y.2.1)).setCell ⟨b, 2, none⟩ (.int .i64 y.2.2.1)).setCell ⟨b, 3, none⟩ (.int .i64 y.2.2.2.1)) b 4 _ _ _ (.int .i64 y.2.2.2.2) h3
  have h4 := setRow_heap ((((w.setCell ⟨b, 0, none⟩ (.int .i64 y.1)).setCell ⟨b, 1, none⟩ (.int .i64 y.2.1)).setCell ⟨b, 2, none⟩ (.int .i64 y.2.2.1)).setCell ⟨b, 3, none⟩ (.int .i64 y.2.2.2.1)) b _ ((((((#[.int .i64 x.1, .int .i64 x.2.1, .int .i64 x.2.2.1, .int .i64 x.2.2.2.1, .int .i64 x.2.2.2.2] : Array Value).setIfInBounds 0 (.int .i64 y.1)).setIfInBounds 1 (.int .i64 y.2.1)).setIfInBounds 2 (.int .i64 y.2.2.1)).setIfInBounds 3 (.int .i64 y.2.2.2.1)).setIfInBounds 4 (.int .i64 y.2.2.2.2)) _ _ h3
  rw [← e4] at h4
  have k4 : Kp (fun k => k = b) ((((w.setCell ⟨b, 0, none⟩ (.int .i64 y.1)).setCell ⟨b, 1, none⟩ (.int .i64 y.2.1)).setCell ⟨b, 2, none⟩ (.int .i64 y.2.2.1)).setCell ⟨b, 3, none⟩ (.int .i64 y.2.2.2.1)) (((((w.setCell ⟨b, 0, none⟩ (.int .i64 y.1)).setCell ⟨b, 1, none⟩ (.int .i64 y.2.1)).setCell ⟨b, 2, none⟩ (.int .i64 y.2.2.1)).setCell ⟨b, 3, none⟩ (.int .i64 y.2.2.2.1)).setCell ⟨b, 4, none⟩ (.int .i64 y.2.2.2.2)) := by rw [e4]; exact ⟨rfl, rfl, rfl, by simp [World.setRow], fun k _ hne => setRow_other _ b k _ (by omega)⟩
  exact ⟨by simpa using h4, ((((k0.trans k1 (fun _ _ h => h)).trans k2 (fun _ _ h => h)).trans k3 (fun _ _ h => h)).trans k4 (fun _ _ h => h))⟩
theorem box_at {w : World} {b : Nat} {x : Th} (h : w.heap[b]? = some (.cells #[.int .i64 x.1, .int .i64 x.2.1, .int .i64 x.2.2.1, .int .i64 x.2.2.2.1, .int .i64 x.2.2.2.2] 28 (0, 0))) : (w.cell? ⟨b, 0, none⟩ = some (.int .i64 x.1) ∧ w.cell? ⟨b, 0 + 1, none⟩ = some (.int .i64 x.2.1) ∧ w.cell? ⟨b, 0 + 2, none⟩ = some (.int .i64 x.2.2.1) ∧ w.cell? ⟨b, 0 + 3, none⟩ = some (.int .i64 x.2.2.2.1) ∧ w.cell? ⟨b, 0 + 4, none⟩ = some (.int .i64 x.2.2.2.2)) ∧ (w.frozen? ⟨b, 0, none⟩ = false ∧ w.frozen? ⟨b, 1, none⟩ = false ∧ w.frozen? ⟨b, 2, none⟩ = false ∧ w.frozen? ⟨b, 3, none⟩ = false ∧ w.frozen? ⟨b, 4, none⟩ = false) ∧ b < w.heap.size :=
  ⟨by simp [World.cell?, h], by simp [World.frozen?, h], (Array.getElem?_eq_some_iff.1 h).1⟩
theorem box_kp {S : Nat → Prop} {w w' : World} {b : Nat} {x : Th} (h : w.heap[b]? = some (.cells #[.int .i64 x.1, .int .i64 x.2.1, .int .i64 x.2.2.1, .int .i64 x.2.2.2.1, .int .i64 x.2.2.2.2] 28 (0, 0))) (hk : Kp S w w') (hS : ¬ S b) : w'.heap[b]? = some (.cells #[.int .i64 x.1, .int .i64 x.2.1, .int .i64 x.2.2.1, .int .i64 x.2.2.2.1, .int .i64 x.2.2.2.2] 28 (0, 0)) :=
  (hk.block b (Array.getElem?_eq_some_iff.1 h).1 hS).trans h
theorem tz_eq : tz = (0, 0, 0, 0, 0) := rfl
set_option maxHeartbeats 4000000 in
set_option maxRecDepth 100000 in
theorem look_any {S : Nat → Prop} {hb W N : Nat} {Q : Nat → List Th} (f t i : Int) (w : World) (h : Pq w S hb W N Q) : Calls Try.prog 36 #[.pointer (some ⟨hb, 0, none⟩), .int .i64 f, .int .i64 t, .int .i64 i] w fun e w' => e = .returned (lv (lk W Q f t i)) ∧ Below w.heap.size w w' := by
  obtain ⟨b1, hb1⟩ : ∃ b1, b1 = w.heap.size := ⟨_, rfl⟩
  obtain ⟨W1, hW1⟩ : ∃ W1, W1 = (w.alloc (.cells #[.int .i64 0, .int .i64 0, .int .i64 0, .int .i64 0, .int .i64 0] 28)).alloc (.cells #[.int .i64 0, .int .i64 0, .int .i64 0, .int .i64 0, .int .i64 0] 28) := ⟨_, rfl⟩
  have G1 : Gr w W1 := by rw [hW1]; exact ((Gr.refl _).alloc _).alloc _
  have HX1 : Hid (W1.heap[b1]? = some (.cells #[.int .i64 tz.1, .int .i64 tz.2.1, .int .i64 tz.2.2.1, .int .i64 tz.2.2.2.1, .int .i64 tz.2.2.2.2] 28 (0, 0))) := by rw [hW1, hb1]; exact heap_alloc2_old _ _ _
  have HX2 : Hid (W1.heap[b1 + 1]? = some (.cells #[.int .i64 tz.1, .int .i64 tz.2.1, .int .i64 tz.2.2.1, .int .i64 tz.2.2.2.1, .int .i64 tz.2.2.2.2] 28 (0, 0))) := by rw [hW1, hb1]; exact heap_alloc2_new _ _ _
  have HLE : Hid (w.heap.size ≤ b1) := Nat.le_of_eq hb1.symm
  have HG1 := hid G1
  have h := h.gr G1
  clear G1
  have c0 := h.c0
  have hl := h.lt
  by_cases hk : Lnk W f t
  · have hbt := between_yes hb W f t W1 hl c0 hk h.w8
    obtain ⟨p, c, hL, hon⟩ := h.on hk
    have HLK : Hid (lk W Q f t i = if 0 ≤ i then match (Q (nm f t))[i.toNat]? with | some x => (x, 0) | none => (tz, 43) else (tz, 43)) := by show _ = _; unfold lk; rw [if_pos hk]; rfl
    generalize Q (nm f t) = L at *
    clear h hk
    by_cases h0 : 0 ≤ i
    · obtain ⟨I, rfl⟩ : ∃ I : Nat, i = I := ⟨i.toNat, by omega⟩
      by_cases h1 : I < L.length
      · have hIl : (I : Int) < (L.length : Int) := by omega
        obtain ⟨x, hx⟩ : ∃ x, L[I]? = some x := ⟨L[I], by rw [List.getElem?_eq_getElem]⟩
        obtain ⟨b2, o2, c2, e2, z2, x0, x1, x2, x3, x4⟩ := ls_at hL hx
        simp only [Value.slice.injEq] at e2
        obtain ⟨rfl, -, rfl⟩ := e2
        have HR : Hid (lk W Q f t I = (x, 0)) := by
          show _ = _
          rw [HLK.out, if_pos h0, Int.toNat_natCast, hx]
        clear HLK hx hL h1
        go_enter Try.func36, Try.ntmps36
        go_upto_region 2 with fail
        rw [← hW1, ← hb1]
        clear hW1 hb1
        go_wp2_with fail
        refine hbt.mono ?_
        rintro e w1 ⟨rfl, rfl⟩
        go_wp2_with fail
        refine hon.mono ?_
        rintro e w2 ⟨rfl, m, hm⟩
        have HG2 : Hid (Gr w1 w2) := by rw [hm]; exact (Gr.refl _).drewN _
        have HB2 : Hid (Below w.heap.size w w2) := (HG1.out.trans HG2.out).below
        have HY1 := hid (box_kp (x := tz) (S := fun _ => False) HX1.out (Kp.of_gr HG2.out) (fun h => h))
        have HY2 := hid (box_kp (x := tz) (S := fun _ => False) HX2.out (Kp.of_gr HG2.out) (fun h => h))
        obtain ⟨⟨q0, q1, q2, q3, q4⟩, -, q5⟩ := box_at (x := tz) HY2.out
        obtain ⟨⟨s0, s1, s2, s3, s4⟩, ⟨t0, t1, t2, t3, t4⟩, s5⟩ := box_at (x := tz) HY1.out
        dsimp only at q0 q1 q2 q3 q4 s0 s1 s2 s3 s4
        have z3 : b2 < w2.heap.size := by rw [hm]; exact z2
        obtain ⟨y0, y1, y2, y3, y4⟩ : w2.cell? ⟨b2, o2 + I * 5, none⟩ = some (.int .i64 x.1) ∧ w2.cell? ⟨b2, o2 + I * 5 + 1, none⟩ = some (.int .i64 x.2.1) ∧ w2.cell? ⟨b2, o2 + I * 5 + 2, none⟩ = some (.int .i64 x.2.2.1) ∧ w2.cell? ⟨b2, o2 + I * 5 + 3, none⟩ = some (.int .i64 x.2.2.2.1) ∧ w2.cell? ⟨b2, o2 + I * 5 + 4, none⟩ = some (.int .i64 x.2.2.2.2) := by rw [hm]; exact ⟨x0, x1, x2, x3, x4⟩
        clear hm x0 x1 x2 x3 x4 z2
        go_wp2
        obtain ⟨g1, g2⟩ := box_set (x := tz) (y := x) HY1.out
        try dsimp only at g1 g2
        have HK9 := hid g2
        generalize (((((w2.setCell ⟨b1, 0, none⟩ (.int .i64 x.1)).setCell ⟨b1, 1, none⟩ (.int .i64 x.2.1)).setCell ⟨b1, 2, none⟩ (.int .i64 x.2.2.1)).setCell ⟨b1, 3, none⟩ (.int .i64 x.2.2.2.1)).setCell ⟨b1, 4, none⟩ (.int .i64 x.2.2.2.2)) = w9 at *
        obtain ⟨⟨r0, r1, r2, r3, r4⟩, -, -⟩ := box_at (x := x) g1
        refine bodyPost_ret (v := lv (x, 0)) (by simp [results, Try.results36, go_sem, lv, r0, r1, r2, r3, r4]) rfl ?_
        refine ⟨by rw [HR.out], (Kp.below (S := fun k => k = b1) ((Kp.of_below HB2.out).trans HK9.out (fun _ _ h => h)) (Nat.le_refl _) (fun k h => by have := HLE.out; omega))⟩
      · have hIl : ¬ (I : Int) < (L.length : Int) := by omega
        have hI2 : (L.length : Int) ≤ (I : Int) := by omega
        have HR : Hid (lk W Q f t I = (tz, 43)) := by
          show _ = _
          rw [HLK.out, if_pos h0, Int.toNat_natCast, List.getElem?_eq_none (by omega)]
        clear HLK hL h1
        go_enter Try.func36, Try.ntmps36
        go_upto_region 2 with fail
        rw [← hW1, ← hb1]
        clear hW1 hb1
        go_wp2_with fail
        refine hbt.mono ?_
        rintro e w1 ⟨rfl, rfl⟩
        go_wp2_with fail
        refine hon.mono ?_
        rintro e w2 ⟨rfl, m, hm⟩
        have HG2 : Hid (Gr w1 w2) := by rw [hm]; exact (Gr.refl _).drewN _
        have HB2 : Hid (Below w.heap.size w w2) := (HG1.out.trans HG2.out).below
        have HY1 := hid (box_kp (x := tz) (S := fun _ => False) HX1.out (Kp.of_gr HG2.out) (fun h => h))
        have HY2 := hid (box_kp (x := tz) (S := fun _ => False) HX2.out (Kp.of_gr HG2.out) (fun h => h))
        obtain ⟨⟨q0, q1, q2, q3, q4⟩, -, q5⟩ := box_at (x := tz) HY2.out
        obtain ⟨⟨s0, s1, s2, s3, s4⟩, ⟨t0, t1, t2, t3, t4⟩, s5⟩ := box_at (x := tz) HY1.out
        dsimp only at q0 q1 q2 q3 q4 s0 s1 s2 s3 s4
        clear hm
        go_wp2
        obtain ⟨g1, g2⟩ := box_set (x := tz) (y := tz) HY1.out
        try dsimp only at g1 g2
        have HK9 := hid g2
        generalize (((((w2.setCell ⟨b1, 0, none⟩ (.int .i64 0)).setCell ⟨b1, 1, none⟩ (.int .i64 0)).setCell ⟨b1, 2, none⟩ (.int .i64 0)).setCell ⟨b1, 3, none⟩ (.int .i64 0)).setCell ⟨b1, 4, none⟩ (.int .i64 0)) = w9 at *
        obtain ⟨⟨r0, r1, r2, r3, r4⟩, -, -⟩ := box_at (x := tz) g1
        dsimp only at r0 r1 r2 r3 r4
        refine bodyPost_ret (v := lv (tz, 43)) (by simp [results, Try.results36, go_sem, lv, tz, r0, r1, r2, r3, r4]) rfl ?_
        refine ⟨by rw [HR.out], (Kp.below (S := fun k => k = b1) ((Kp.of_below HB2.out).trans HK9.out (fun _ _ h => h)) (Nat.le_refl _) (fun k h => by have := HLE.out; omega))⟩
    · have h0' : i < 0 := by omega
      have HR : Hid (lk W Q f t i = (tz, 43)) := by
        show _ = _
        rw [HLK.out, if_neg h0]
      clear HLK hL
      go_enter Try.func36, Try.ntmps36
      go_upto_region 2 with fail
      rw [← hW1, ← hb1]
      clear hW1 hb1
      go_wp2_with fail
      refine hbt.mono ?_
      rintro e w1 ⟨rfl, rfl⟩
      go_wp2_with fail
      refine hon.mono ?_
      rintro e w2 ⟨rfl, m, hm⟩
      have HG2 : Hid (Gr w1 w2) := by rw [hm]; exact (Gr.refl _).drewN _
      have HB2 : Hid (Below w.heap.size w w2) := (HG1.out.trans HG2.out).below
      have HY1 := hid (box_kp (x := tz) (S := fun _ => False) HX1.out (Kp.of_gr HG2.out) (fun h => h))
      have HY2 := hid (box_kp (x := tz) (S := fun _ => False) HX2.out (Kp.of_gr HG2.out) (fun h => h))
      obtain ⟨⟨q0, q1, q2, q3, q4⟩, -, q5⟩ := box_at (x := tz) HY2.out
      obtain ⟨⟨s0, s1, s2, s3, s4⟩, ⟨t0, t1, t2, t3, t4⟩, s5⟩ := box_at (x := tz) HY1.out
      dsimp only at q0 q1 q2 q3 q4 s0 s1 s2 s3 s4
      clear hm
      go_wp2
      obtain ⟨g1, g2⟩ := box_set (x := tz) (y := tz) HY1.out
      try dsimp only at g1 g2
      have HK9 := hid g2
      generalize (((((w2.setCell ⟨b1, 0, none⟩ (.int .i64 0)).setCell ⟨b1, 1, none⟩ (.int .i64 0)).setCell ⟨b1, 2, none⟩ (.int .i64 0)).setCell ⟨b1, 3, none⟩ (.int .i64 0)).setCell ⟨b1, 4, none⟩ (.int .i64 0)) = w9 at *
      obtain ⟨⟨r0, r1, r2, r3, r4⟩, -, -⟩ := box_at (x := tz) g1
      dsimp only at r0 r1 r2 r3 r4
      refine bodyPost_ret (v := lv (tz, 43)) (by simp [results, Try.results36, go_sem, lv, tz, r0, r1, r2, r3, r4]) rfl ?_
      refine ⟨by rw [HR.out], (Kp.below (S := fun k => k = b1) ((Kp.of_below HB2.out).trans HK9.out (fun _ _ h => h)) (Nat.le_refl _) (fun k h => by have := HLE.out; omega))⟩
  · have hbt := between_no hb W f t W1 hl c0 hk
    have HR : Hid (lk W Q f t i = (tz, 40)) := by show _ = _; unfold lk; rw [if_neg hk]
    clear h hk
    go_enter Try.func36, Try.ntmps36
    go_upto_region 2 with fail
    rw [← hW1, ← hb1]
    clear hW1 hb1
    go_wp2_with fail
    refine hbt.mono ?_
    rintro e w1 ⟨rfl, rfl⟩
    have HB2 : Hid (Below w.heap.size w w1) := HG1.out.below
    have HY1 := HX1
    obtain ⟨⟨q0, q1, q2, q3, q4⟩, -, q5⟩ := box_at (x := tz) HX2.out
    obtain ⟨⟨s0, s1, s2, s3, s4⟩, ⟨t0, t1, t2, t3, t4⟩, s5⟩ := box_at (x := tz) HX1.out
    dsimp only at q0 q1 q2 q3 q4 s0 s1 s2 s3 s4
    go_wp2
    obtain ⟨g1, g2⟩ := box_set (x := tz) (y := tz) HY1.out
    try dsimp only at g1 g2
    have HK9 := hid g2
    generalize (((((w1.setCell ⟨b1, 0, none⟩ (.int .i64 0)).setCell ⟨b1, 1, none⟩ (.int .i64 0)).setCell ⟨b1, 2, none⟩ (.int .i64 0)).setCell ⟨b1, 3, none⟩ (.int .i64 0)).setCell ⟨b1, 4, none⟩ (.int .i64 0)) = w9 at *
    obtain ⟨⟨r0, r1, r2, r3, r4⟩, -, -⟩ := box_at (x := tz) g1
    dsimp only at r0 r1 r2 r3 r4
    refine bodyPost_ret (v := lv (tz, 40)) (by simp [results, Try.results36, go_sem, lv, tz, r0, r1, r2, r3, r4]) rfl ?_
    refine ⟨by rw [HR.out], (Kp.below (S := fun k => k = b1) ((Kp.of_below HB2.out).trans HK9.out (fun _ _ h => h)) (Nat.le_refl _) (fun k h => by have := HLE.out; omega))⟩
/-- What is told of the first one. -/
theorem lk_first {W : Nat} {Q : Nat → List Th} {f t : Int} : (Lnk W f t ∧ ∃ x l, Q (nm f t) = x :: l ∧ lk W Q f t 0 = (x, 0)) ∨ ((lk W Q f t 0).2 ≠ 0 ∧ tkn W Q f t = Q ∧ (lk W Q f t 0).1 = tz ∧ (lk W Q f t 0).2 ≤ 43) := by
  by_cases hk : Lnk W f t
  · unfold lk tkn
    rw [if_pos hk, if_pos (Int.le_refl _), if_pos hk]
    cases hq : Q (nm f t) with
    | nil =>
      right
      refine ⟨by simp, ?_, rfl, by decide⟩
      have := upd_id Q (nm f t)
      rw [hq] at this
      exact this
    | cons x l => exact Or.inl ⟨hk, x, l, rfl, rfl⟩
  · right
    unfold lk tkn
    rw [if_neg hk, if_neg hk]
    exact ⟨by decide, rfl, rfl, by decide⟩
set_option maxHeartbeats 4000000 in
set_option maxRecDepth 100000 in
theorem take_any {S : Nat → Prop} {hb W N : Nat} {Q : Nat → List Th} (f t : Int) (w : World) (h : Pq w S hb W N Q) (hN : N * 40 ≤ 140737488355328) : Calls Try.prog 9 #[.pointer (some ⟨hb, 0, none⟩), .int .i64 f, .int .i64 t] w fun e w' => e = .returned (lv (lk W Q f t 0)) ∧ Pq w' (nx S w w') hb W N (tkn W Q f t) ∧ Kp S w w' := by
  obtain ⟨b1, hb1⟩ : ∃ b1, b1 = w.heap.size := ⟨_, rfl⟩
  obtain ⟨W1, hW1⟩ : ∃ W1, W1 = w.alloc (.cells #[.int .i64 0, .int .i64 0, .int .i64 0, .int .i64 0, .int .i64 0] 28) := ⟨_, rfl⟩
  have G1 : Gr w W1 := by rw [hW1]; exact (Gr.refl _).alloc _
  have HX1 : Hid (W1.heap[b1]? = some (.cells #[.int .i64 tz.1, .int .i64 tz.2.1, .int .i64 tz.2.2.1, .int .i64 tz.2.2.2.1, .int .i64 tz.2.2.2.2] 28 (0, 0))) := by rw [hW1, hb1]; exact heap_new' _ _
  have HLE : Hid (w.heap.size ≤ b1) := Nat.le_of_eq hb1.symm
  have HG1 := hid G1
  have HPW := hid h
  have h := h.gr G1
  clear G1
  have hlk := look_any f t 0 W1 h
  have HB1 : Hid (b1 < W1.heap.size) := (Array.getElem?_eq_some_iff.1 HX1.out).1
  rcases lk_first (W := W) (Q := Q) (f := f) (t := t) with ⟨hk, x, l, hq, he⟩ | ⟨h1, h2, h3, h4⟩
  · rw [he] at hlk ⊢
    have HP0 := hid h
    have HTK : Hid (tkn W Q f t = upd Q (nm f t) l) := by show _ = _; unfold tkn; rw [if_pos hk, hq]; rfl
    have HK := hid hk
    have HQ := hid hq
    have HN := hid hN
    clear h hk hq he hN
    unfold lv at *
    go_enter Try.func9, Try.ntmps9
    go_upto_region 1 with fail
    rw [← hW1, ← hb1]
    clear hW1 hb1
    go_wp2_with fail
    refine hlk.mono ?_
    rintro e w1 ⟨rfl, hB1⟩
    obtain ⟨b2, hb2⟩ : ∃ b2, b2 = w1.heap.size := ⟨_, rfl⟩
    obtain ⟨V, hV⟩ : ∃ V, V = w1.alloc (.cells #[.int .i64 x.1, .int .i64 x.2.1, .int .i64 x.2.2.1, .int .i64 x.2.2.2.1, .int .i64 x.2.2.2.2] 28) := ⟨_, rfl⟩
    have g1 : V.heap[b2]? = some (.cells #[.int .i64 x.1, .int .i64 x.2.1, .int .i64 x.2.2.1, .int .i64 x.2.2.2.1, .int .i64 x.2.2.2.2] 28 (0, 0)) := by rw [hV, hb2]; exact heap_new' _ _
    have HX2 := hid g1
    have HBV : Hid (Below w1.heap.size w1 V) := by rw [hV]; exact ((Gr.refl _).alloc _).below
    have HBW : Hid (Below W1.heap.size W1 V) := hB1.trans (HBV.out.mono hB1.size)
    have HX1 := hid (box_kp (x := tz) (S := fun _ => False) HX1.out (Kp.of_below HBW.out) (fun h => h))
    have HP1 := hid (HP0.out.below HBW.out)
    have HNE : Hid (b1 ≠ b2) := by have h1 := HB1.out; have h2 := hB1.size; show ¬ _; omega
    have HLE2 : Hid (w.heap.size ≤ b2) := by have h1 := HB1.out; have h2 := hB1.size; have h3 := HLE.out; show _ ≤ _; omega
    go_upto_region 2 with fail
    rw [← hV, ← hb2]
    clear hV hb2 g1 hB1 hlk HBV
    have hbt := between_yes hb W f t V HP1.out.lt HP1.out.c0 HK.out HP1.out.w8
    go_wp2_with fail
    refine hbt.mono ?_
    rintro e w2 ⟨rfl, rfl⟩
    clear hbt
    have hi := nm_lt HK.out HP1.out.w8
    obtain ⟨v, tk, X, hPw, e1, e2, e3, e4⟩ := (HPW.out.mono (S' := fun k => S k ∧ k < w.heap.size) (fun k hk h => ⟨h, hk⟩) (Nat.le_refl _))
    have hP := (hPw.gr HG1.out).below HBW.out
    have hdr := ldrop_any w2 hP hi (by have := e1 _ hi; rw [HQ.out] at this; by_cases hh : tk (nm f t) < (X (nm f t)).length; exact hh; rw [List.drop_of_length_le (by omega)] at this; cases this) (Nat.le_trans (Nat.mul_le_mul_right _ (e2 _ hi)) HN.out)
    have HE := hid (And.intro e1 (And.intro e2 (And.intro e3 e4)))
    have HI := hid hi
    have HKD : Hid (∀ w3, Trn hb (v (nm f t)) w2 w3 → Kp (fun k => S k ∧ k < w.heap.size) w2 w3) := fun w3 h => Kp.mono h (fun k hk => by
      rcases hk with rfl | hk
      · exact e3
      · exact e4 _ _ hi hk)
    clear hP hPw e1 e2 e3 e4 hi
    go_wp2_with fail
    refine hdr.mono ?_
    rintro e w3 ⟨rfl, hd⟩
    have HD := hid hd
    have HKS : Hid (Kp (fun k => S k ∧ k < w.heap.size) w2 w3) := by
      obtain ⟨u, t', Y, d1, d2, d3, d4, d5⟩ := hd
      exact HKD.out w3 d4
    have HZ1 := hid (box_kp (x := tz) HX1.out HKS.out (fun h => by have := HLE.out; omega))
    have HZ2 := hid (box_kp (x := x) HX2.out HKS.out (fun h => by have := HLE2.out; omega))
    have hne := HNE.out
    have hne2 : b2 ≠ b1 := fun e => hne e.symm
    clear hdr hd
    obtain ⟨⟨q0, q1, q2, q3, q4⟩, -, q5⟩ := box_at (x := x) HZ2.out
    obtain ⟨⟨s0, s1, s2, s3, s4⟩, ⟨t0, t1, t2, t3, t4⟩, s5⟩ := box_at (x := tz) HZ1.out
    dsimp only at s0 s1 s2 s3 s4
    go_wp2
    obtain ⟨g1, g2⟩ := box_set (x := tz) (y := x) HZ1.out
    have HK9 := hid g2
    generalize (((((w3.setCell ⟨b1, 0, none⟩ (.int .i64 x.1)).setCell ⟨b1, 1, none⟩ (.int .i64 x.2.1)).setCell ⟨b1, 2, none⟩ (.int .i64 x.2.2.1)).setCell ⟨b1, 3, none⟩ (.int .i64 x.2.2.2.1)).setCell ⟨b1, 4, none⟩ (.int .i64 x.2.2.2.2)) = w9 at *
    obtain ⟨⟨r0, r1, r2, r3, r4⟩, -, -⟩ := box_at (x := x) g1
    refine bodyPost_ret (v := lv (x, 0)) (by simp [results, Try.results9, go_sem, lv, r0, r1, r2, r3, r4]) rfl ?_
    rw [HTK.out]
    obtain ⟨u, t', Y, d1, d2, d3, d4, d5⟩ := HD.out
    have hB2 : Below w.heap.size w w2 := HG1.out.below.trans (HBW.out.mono HG1.out.size)
    refine ⟨rfl, ?_, ((Kp.of_below hB2).trans (HKS.out.mono (T := S) (fun _ h => h.1)) (fun _ _ h => h)).trans HK9.out (fun k hk h => by have := HLE.out; omega)⟩
    have hr := Pq.turn (w := w2) (N' := N) (L := l) HE.out.1 HE.out.2.1 HE.out.2.2.1 HE.out.2.2.2 HKS.out.size d1 HI.out ?_ (Nat.le_trans d3 (HE.out.2.1 _ HI.out)) (Nat.le_refl _) d5
    · refine (hr.kp HK9.out (fun k hk hs e => ?_)).mono (fun k hk hs => ?_) (Nat.le_refl _)
      · rcases hs with hs | hs
        · have := HLE.out; omega
        · have := (Array.getElem?_eq_some_iff.1 HX1.out).1; omega
      · rcases hs with hs | hs
        · exact Or.inl hs.1
        · exact Or.inr ⟨Nat.le_trans hB2.size hs.1, hk⟩
    · rw [d2, ← List.drop_drop, HE.out.1 _ HI.out, HQ.out]
      rfl
  · have hnz : ((lk W Q f t 0).2 : Int) ≠ 0 := by omega
    have HP0 := hid h
    rw [h2]
    generalize lk W Q f t 0 = r at *
    obtain ⟨x, n⟩ := r
    have hnz : ((n : Int) == 0) = false := by simp at hnz ⊢; omega
    clear h h1 h2 h3 h4 hN
    unfold lv at *
    go_enter Try.func9, Try.ntmps9
    go_upto_region 1 with fail
    rw [← hW1, ← hb1]
    clear hW1 hb1
    go_wp2_with fail
    refine hlk.mono ?_
    rintro e w1 ⟨rfl, hB1⟩
    obtain ⟨b2, hb2⟩ : ∃ b2, b2 = w1.heap.size := ⟨_, rfl⟩
    obtain ⟨V, hV⟩ : ∃ V, V = w1.alloc (.cells #[.int .i64 x.1, .int .i64 x.2.1, .int .i64 x.2.2.1, .int .i64 x.2.2.2.1, .int .i64 x.2.2.2.2] 28) := ⟨_, rfl⟩
    have g1 : V.heap[b2]? = some (.cells #[.int .i64 x.1, .int .i64 x.2.1, .int .i64 x.2.2.1, .int .i64 x.2.2.2.1, .int .i64 x.2.2.2.2] 28 (0, 0)) := by rw [hV, hb2]; exact heap_new' _ _
    have HX2 := hid g1
    have HBV : Hid (Below w1.heap.size w1 V) := by rw [hV]; exact ((Gr.refl _).alloc _).below
    have HBW : Hid (Below W1.heap.size W1 V) := hB1.trans (HBV.out.mono hB1.size)
    have HX1 := hid (box_kp (x := tz) (S := fun _ => False) HX1.out (Kp.of_below HBW.out) (fun h => h))
    have HP1 := hid (HP0.out.below HBW.out)
    have HNE : Hid (b1 ≠ b2) := by have h1 := HB1.out; have h2 := hB1.size; show ¬ _; omega
    have HLE2 : Hid (w.heap.size ≤ b2) := by have h1 := HB1.out; have h2 := hB1.size; have h3 := HLE.out; show _ ≤ _; omega
    go_upto_region 2 with fail
    rw [← hV, ← hb2]
    clear hV hb2 g1 hB1 hlk HBV
    have HZ1 := HX1
    have HZ2 := HX2
    have hne := HNE.out
    have hne2 : b2 ≠ b1 := fun e => hne e.symm
    obtain ⟨⟨q0, q1, q2, q3, q4⟩, -, q5⟩ := box_at (x := x) HZ2.out
    obtain ⟨⟨s0, s1, s2, s3, s4⟩, ⟨t0, t1, t2, t3, t4⟩, s5⟩ := box_at (x := tz) HZ1.out
    dsimp only at s0 s1 s2 s3 s4
    go_wp2
    obtain ⟨g1, g2⟩ := box_set (x := tz) (y := x) HZ1.out
    have HK9 := hid g2
    generalize (((((V.setCell ⟨b1, 0, none⟩ (.int .i64 x.1)).setCell ⟨b1, 1, none⟩ (.int .i64 x.2.1)).setCell ⟨b1, 2, none⟩ (.int .i64 x.2.2.1)).setCell ⟨b1, 3, none⟩ (.int .i64 x.2.2.2.1)).setCell ⟨b1, 4, none⟩ (.int .i64 x.2.2.2.2)) = w9 at *
    obtain ⟨⟨r0, r1, r2, r3, r4⟩, -, -⟩ := box_at (x := x) g1
    refine bodyPost_ret (v := lv (x, n)) (by simp [results, Try.results9, go_sem, lv, r0, r1, r2, r3, r4]) rfl ?_
    have hB2 : Below w.heap.size w V := HG1.out.below.trans (HBW.out.mono HG1.out.size)
    have hB3 : Below w.heap.size w w9 := Kp.below (S := fun k => k = b1) ((Kp.of_below hB2).trans HK9.out (fun _ _ h => h)) (Nat.le_refl _) (fun k h => by have := HLE.out; omega)
    exact ⟨rfl, (HPW.out.below hB3).mono (fun k _ h => Or.inl h) (Nat.le_refl _), Kp.of_below hB3⟩
end Go.Proofs.Ytcdmgclkgojgaaa.Po
