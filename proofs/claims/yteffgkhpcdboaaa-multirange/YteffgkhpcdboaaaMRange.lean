import Derived.Test.YteffgkhpcdboaaaMSn
namespace Go.Proofs.Yteffgkhpcdboaaa
open Go.RowKit Go.Sort Go.Maps
open Tt (Tl byd byd_f byd_t)
attribute [local go_sem ↓] Go.wp_at_zero Go.wp_at_succ

/-- The box of the time, in every later world. -/
theorem box_at {W w : World} {B : Nat} {x : Tm} (hb : Below W.heap.size W w) (hB : B < W.heap.size) (q : W.cell? ⟨B, 0, none⟩ = some (.int .u64 x.1.1) ∧ W.cell? ⟨B, 1, none⟩ = some (.int .u64 x.1.2.1) ∧ W.cell? ⟨B, 2, none⟩ = some (.int .u64 x.1.2.2)) :
    w.cell? ⟨B, 0, none⟩ = some (.int .u64 x.1.1) ∧ w.cell? ⟨B, 1, none⟩ = some (.int .u64 x.1.2.1) ∧ w.cell? ⟨B, 2, none⟩ = some (.int .u64 x.1.2.2) ∧ B < w.heap.size :=
  ⟨(hb.cell (p := ⟨B, 0, none⟩) hB).trans q.1, (hb.cell (p := ⟨B, 1, none⟩) hB).trans q.2.1, (hb.cell (p := ⟨B, 2, none⟩) hB).trans q.2.2, Nat.lt_of_lt_of_le hB hb.size⟩
theorem sup_zero {ks : List Tm} (h : Sup (fun _ => 0) ks) : ks = [] := by
  cases ks with
  | nil => rfl
  | cons k ks => exact absurd rfl ((h.2 k).1 (by simp))

set_option maxHeartbeats 2000000 in
set_option maxRecDepth 100000 in
theorem range_any (x : Tm) (n ov : Int) (hn : -9223372036854775808 ≤ n ∧ n ≤ 9223372036854775807) (hov : -9223372036854775808 ≤ ov ∧ ov ≤ 9223372036854775807) (w : World) :
    Calls Try.prog 3 #[tv x, .int .i64 n, .int .i64 ov] w fun e w' => e = .returned (.bool true) ∧ Below w.heap.size w w' := by
  obtain ⟨W1, hW1⟩ : ∃ W1, W1 = w.alloc (.cells #[.int .u64 x.1.1, .int .u64 x.1.2.1, .int .u64 x.1.2.2] 24) := ⟨_, rfl⟩
  obtain ⟨B0, hB0⟩ : ∃ B0, B0 = w.heap.size := ⟨_, rfl⟩
  have G1 : Gr w W1 := by rw [hW1]; exact (Gr.refl _).alloc _
  have HG1 : Hid (Gr w W1) := G1
  have hblk : W1.heap[B0]? = some (.cells #[.int .u64 x.1.1, .int .u64 x.1.2.1, .int .u64 x.1.2.2] 24 (0, 0)) := by rw [hW1, hB0]; exact heap_new' _ _
  have HB : Hid (B0 < W1.heap.size) := (Array.getElem?_eq_some_iff.1 hblk).1
  have HQ : Hid (W1.cell? ⟨B0, 0, none⟩ = some (.int .u64 x.1.1) ∧ W1.cell? ⟨B0, 1, none⟩ = some (.int .u64 x.1.2.1) ∧ W1.cell? ⟨B0, 2, none⟩ = some (.int .u64 x.1.2.2)) := by
    refine ⟨?_, ?_, ?_⟩
    all_goals (simp only [World.cell?]; rw [hblk]; rfl)
  have hne := Sn.new W1
  have hkn := fun W => known_any W
  have HEND : Hid (∀ w', Below W1.heap.size W1 w' → Below w.heap.size w w') := fun w' h => G1.below.trans (h.mono G1.size)
  clear hblk G1
  go_enter Try.func3, Try.ntmps3
  go_wp2_with fail
  rw [← hW1]
  refine hne.mono ?_
  rintro e w2 ⟨mb, tb, b, cb, rfl, S2⟩
  have HS2 : Hid (Sn W1 w2 mb tb b cb 0 (.slice none 0 0) (fun _ => 0) []) := S2
  clear hne S2 hW1
  go_wp2_with fail
  refine (hkn _).mono ?_
  rintro e w3 ⟨rfl, hb3⟩
  have HS3 : Hid (Sn W1 w3 mb tb b cb 0 (.slice none 0 0) (fun _ => 0) []) := HS2.out.below hb3
  obtain ⟨q0, q1, q2, q3⟩ := box_at HS3.out.bl HB.out HQ.out
  clear hkn hb3
  rw [hB0] at q0 q1 q2 q3
  cases hbn : byd n with
  | true =>
    obtain ⟨W4, hW4⟩ : ∃ W4, W4 = w3.alloc (.cells #[.int .u64 x.1.1, .int .u64 x.1.2.1, .int .u64 x.1.2.2, .int .i64 n] 33) := ⟨_, rfl⟩
    have G4 : Gr w3 W4 := by rw [hW4]; exact (Gr.refl _).alloc _
    have L4 : Ls ED W4 (.slice (some ⟨w3.heap.size, 0, none⟩) 1 1) [(x, n)] := by rw [hW4]; exact ls_new (E := ED) w3 [(x, n)] _ _ 1 rfl
    have HS4 : Hid (Sn W1 W4 mb tb b cb 0 (.slice none 0 0) (fun _ => 0) []) := HS3.out.below G4.below
    have hap := HS4.out.bad L4 (by simp) (by rw [fx_zero x, bad_one, hbn]; rfl)
    clear L4 G4
    rcases byd_t.1 hbn with hz | hz
    · have hz1 : n < -2147483647 := hz
      go_wp2_with fail
      rw [← hW4]
      refine hap.mono ?_
      rintro e w5 ⟨rfl, hb5⟩
      have HS5 : Hid (Sn W1 w5 mb tb b cb 0 (.slice none 0 0) (fun _ => 0) []) := HS4.out.below hb5
      obtain ⟨q0, q1, q2, q3⟩ := box_at HS5.out.bl HB.out HQ.out
      rw [hB0] at q0 q1 q2 q3
      have hct := count_any x w5 HS5.out.mu
      clear hap hb5
      go_wp2_with fail
      refine hct.mono ?_
      rintro e w6 ⟨rfl, hg6⟩
      have HS6 : Hid (Sn W1 w6 mb tb b cb 0 (.slice none 0 0) (fun _ => 0) []) := HS5.out.below hg6.below
      have hle := len_any w6 HS6.out.mu
      clear hct hg6
      go_wp2_with fail
      refine hle.mono ?_
      rintro e w7 ⟨ks, hks, rfl, hg7⟩
      obtain rfl := sup_zero hks
      go_wp2
      go_ret
      exact ⟨rfl, HEND.out _ (HS6.out.below hg7.below).bl⟩
    · have hz1 : ¬ n < -2147483647 := by omega
      have hz2 : 2147483647 < n := hz
      go_wp2_with fail
      rw [← hW4]
      refine hap.mono ?_
      rintro e w5 ⟨rfl, hb5⟩
      have HS5 : Hid (Sn W1 w5 mb tb b cb 0 (.slice none 0 0) (fun _ => 0) []) := HS4.out.below hb5
      obtain ⟨q0, q1, q2, q3⟩ := box_at HS5.out.bl HB.out HQ.out
      rw [hB0] at q0 q1 q2 q3
      have hct := count_any x w5 HS5.out.mu
      clear hap hb5
      go_wp2_with fail
      refine hct.mono ?_
      rintro e w6 ⟨rfl, hg6⟩
      have HS6 : Hid (Sn W1 w6 mb tb b cb 0 (.slice none 0 0) (fun _ => 0) []) := HS5.out.below hg6.below
      have hle := len_any w6 HS6.out.mu
      clear hct hg6
      go_wp2_with fail
      refine hle.mono ?_
      rintro e w7 ⟨ks, hks, rfl, hg7⟩
      obtain rfl := sup_zero hks
      go_wp2
      go_ret
      exact ⟨rfl, HEND.out _ (HS6.out.below hg7.below).bl⟩
  | false =>
    have hnr := byd_f.1 hbn
    have hz1 : ¬ n < -2147483647 := by omega
    have hz2 : ¬ 2147483647 < n := by omega
    obtain ⟨W4, hW4⟩ : ∃ W4, W4 = w3.alloc (.cells #[.int .u64 x.1.1, .int .u64 x.1.2.1, .int .u64 x.1.2.2, .int .i64 n] 33) := ⟨_, rfl⟩
    have G4 : Gr w3 W4 := by rw [hW4]; exact (Gr.refl _).alloc _
    have L4 : Ls ED W4 (.slice (some ⟨w3.heap.size, 0, none⟩) 1 1) [(x, n)] := by rw [hW4]; exact ls_new (E := ED) w3 [(x, n)] _ _ 1 rfl
    have hwn : wrap64 (wrap64 (0 + n) + 0) = n := by unfold wrap64; omega
    have hap := (HS3.out.below G4.below).ok L4 (by simp) (by rw [fx_zero x, bad_one, hwn, hbn]; rfl) (f' := fx x n) (by rw [fx_zero x, newc_one, hwn]) (frx_is x n)
    clear L4 G4 hwn
    go_wp2_with fail
    rw [← hW4]
    refine hap.mono ?_
    rintro e w5 ⟨vo5, v5, rfl, _, S5, _⟩
    have HS5 : Hid (Sn W1 w5 mb tb b cb 2 v5 (fx x n) (frx x n)) := S5
    obtain ⟨q0, q1, q2, q3⟩ := box_at HS5.out.bl HB.out HQ.out
    rw [hB0] at q0 q1 q2 q3
    have hct := count_any x w5 HS5.out.mu
    rw [fx_at] at hct
    clear hap S5 hW4
    go_wp2_with fail
    refine hct.mono ?_
    rintro e w6 ⟨rfl, hg6⟩
    have HS6 : Hid (Sn W1 w6 mb tb b cb 2 v5 (fx x n) (frx x n)) := HS5.out.below hg6.below
    obtain ⟨q0, q1, q2, q3⟩ := box_at HS6.out.bl HB.out HQ.out
    rw [hB0] at q0 q1 q2 q3
    obtain ⟨W7, hW7⟩ : ∃ W7, W7 = w6.alloc (.cells #[.int .u64 x.1.1, .int .u64 x.1.2.1, .int .u64 x.1.2.2, .int .i64 ov] 33) := ⟨_, rfl⟩
    have G7 : Gr w6 W7 := by rw [hW7]; exact (Gr.refl _).alloc _
    have L7 : Ls ED W7 (.slice (some ⟨w6.heap.size, 0, none⟩) 1 1) [(x, ov)] := by rw [hW7]; exact ls_new (E := ED) w6 [(x, ov)] _ _ 1 rfl
    have HS7 : Hid (Sn W1 W7 mb tb b cb 2 v5 (fx x n) (frx x n)) := HS6.out.below G7.below
    have HL7 : Hid (Ls ED W7 (.slice (some ⟨w6.heap.size, 0, none⟩) 1 1) [(x, ov)]) := L7
    clear hct hg6 G7 L7
    go_wp2_with fail
    rw [← hW7]
    by_cases hfit : (-2147483647 ≤ ov ∧ ov ≤ 2147483647) ∧ (-2147483647 ≤ n + ov ∧ n + ov ≤ 2147483647)
    · obtain ⟨⟨f1, f2⟩, f3, f4⟩ := hfit
      have hwo : wrap64 (wrap64 (0 + ov) + n) = n + ov := by unfold wrap64; omega
      have hwo2 : wrap64 (n + ov) = n + ov := by unfold wrap64; omega
      have HNB : Hid (byd (n + ov) = false) := byd_f.2 ⟨f3, f4⟩
      have hap := HS7.out.ok HL7.out (by simp) (by rw [bad_one, hwo, HNB.out, byd_f.2 ⟨f1, f2⟩]; rfl) (f' := fx x (n + ov)) (by rw [newc_one, hwo]) (frx_is x (n + ov))
      clear hwo
      refine hap.mono ?_
      rintro e w9 ⟨vo9, v9, rfl, _, S9, _⟩
      have HS9 : Hid (Sn W1 w9 mb tb b cb 4 v9 (fx x (n + ov)) (frx x (n + ov))) := S9
      obtain ⟨q0, q1, q2, q3⟩ := box_at HS9.out.bl HB.out HQ.out
      rw [hB0] at q0 q1 q2 q3
      clear hap S9 hW7
      have hc14 := fun W (h : Sn W1 W mb tb b cb 4 v9 (fx x (n + ov)) (frx x (n + ov))) => count_any x W h.mu
      rw [fx_at] at hc14
      have hc14 := hc14 _ HS9.out
      by_cases hnow : 0 < n + ov
      · have hnw : 0 < n + ov := hnow
        go_wp2_with fail
        refine hc14.mono ?_
        rintro e w14 ⟨rfl, hg14⟩
        have HS14 : Hid (Sn W1 w14 mb tb b cb 4 v9 (fx x (n + ov)) (frx x (n + ov))) := HS9.out.below hg14.below
        obtain ⟨q0, q1, q2, q3⟩ := box_at HS14.out.bl HB.out HQ.out
        rw [hB0] at q0 q1 q2 q3
        obtain ⟨W15, hW15⟩ : ∃ W15, W15 = w14.alloc (.cells #[.int .u64 x.1.1, .int .u64 x.1.2.1, .int .u64 x.1.2.2, .int .i64 2147483647, .int .u64 x.1.1, .int .u64 x.1.2.1, .int .u64 x.1.2.2, .int .i64 (-2147483647)] 33) := ⟨_, rfl⟩
        have G15 : Gr w14 W15 := by rw [hW15]; exact (Gr.refl _).alloc _
        have L15 : Ls ED W15 (.slice (some ⟨w14.heap.size, 0, none⟩) 2 2) [(x, 2147483647), (x, (-2147483647))] := by rw [hW15]; exact ls_new (E := ED) w14 [(x, 2147483647), (x, (-2147483647))] _ _ 2 rfl
        have hw15 : wrap64 (wrap64 (wrap64 (0 + 2147483647) + (-2147483647)) + (n + ov)) = n + ov := by unfold wrap64; omega
        have hap15 := (HS14.out.below G15.below).ok L15 (by simp) (by rw [bad_two, hw15, HNB.out]; decide) (f' := fx x (n + ov)) (by rw [newc_two, hw15]) (frx_is x (n + ov))
        clear L15 G15 hc14 hg14 hw15
        go_wp2_with fail
        rw [← hW15]
        refine hap15.mono ?_
        rintro e w16 ⟨vo16, v16, rfl, _, S16, _⟩
        have HS16 : Hid (Sn W1 w16 mb tb b cb (4 + 4) v16 (fx x (n + ov)) (frx x (n + ov))) := S16
        obtain ⟨q0, q1, q2, q3⟩ := box_at HS16.out.bl HB.out HQ.out
        rw [hB0] at q0 q1 q2 q3
        have hc16 := count_any x w16 HS16.out.mu
        rw [fx_at] at hc16
        clear hap15 S16 hW15
        go_wp2_with fail
        refine hc16.mono ?_
        rintro e w17 ⟨rfl, hg17⟩
        go_wp2
        go_ret
        exact ⟨rfl, HEND.out _ (HS16.out.below hg17.below).bl⟩
      · have hnw : ¬ 0 < n + ov := hnow
        go_wp2_with fail
        refine hc14.mono ?_
        rintro e w14 ⟨rfl, hg14⟩
        have HS14 : Hid (Sn W1 w14 mb tb b cb 4 v9 (fx x (n + ov)) (frx x (n + ov))) := HS9.out.below hg14.below
        obtain ⟨q0, q1, q2, q3⟩ := box_at HS14.out.bl HB.out HQ.out
        rw [hB0] at q0 q1 q2 q3
        obtain ⟨W15, hW15⟩ : ∃ W15, W15 = w14.alloc (.cells #[.int .u64 x.1.1, .int .u64 x.1.2.1, .int .u64 x.1.2.2, .int .i64 (-2147483647), .int .u64 x.1.1, .int .u64 x.1.2.1, .int .u64 x.1.2.2, .int .i64 2147483647] 33) := ⟨_, rfl⟩
        have G15 : Gr w14 W15 := by rw [hW15]; exact (Gr.refl _).alloc _
        have L15 : Ls ED W15 (.slice (some ⟨w14.heap.size, 0, none⟩) 2 2) [(x, (-2147483647)), (x, 2147483647)] := by rw [hW15]; exact ls_new (E := ED) w14 [(x, (-2147483647)), (x, 2147483647)] _ _ 2 rfl
        have hw15 : wrap64 (wrap64 (wrap64 (0 + (-2147483647)) + 2147483647) + (n + ov)) = n + ov := by unfold wrap64; omega
        have hap15 := (HS14.out.below G15.below).ok L15 (by simp) (by rw [bad_two, hw15, HNB.out]; decide) (f' := fx x (n + ov)) (by rw [newc_two, hw15]) (frx_is x (n + ov))
        clear L15 G15 hc14 hg14 hw15
        go_wp2_with fail
        rw [← hW15]
        refine hap15.mono ?_
        rintro e w16 ⟨vo16, v16, rfl, _, S16, _⟩
        have HS16 : Hid (Sn W1 w16 mb tb b cb (4 + 4) v16 (fx x (n + ov)) (frx x (n + ov))) := S16
        obtain ⟨q0, q1, q2, q3⟩ := box_at HS16.out.bl HB.out HQ.out
        rw [hB0] at q0 q1 q2 q3
        have hc16 := count_any x w16 HS16.out.mu
        rw [fx_at] at hc16
        clear hap15 S16 hW15
        go_wp2_with fail
        refine hc16.mono ?_
        rintro e w17 ⟨rfl, hg17⟩
        go_wp2
        go_ret
        exact ⟨rfl, HEND.out _ (HS16.out.below hg17.below).bl⟩
    rcases Classical.em (ov < -2147483647) with g1 | g1
    · clear hfit
      have f1 : ¬ -2147483647 ≤ ov := by omega
      have hbad2 : bad (fx x n) [(x, ov)] = true := by rw [bad_one, byd_t.2 (Or.inl g1)]; rfl
      have HNB : Hid (byd n = false) := hbn
      have hap := HS7.out.bad HL7.out (by simp) hbad2
      refine hap.mono ?_
      rintro e w8 ⟨rfl, hb8⟩
      have HS8 : Hid (Sn W1 w8 mb tb b cb 2 v5 (fx x n) (frx x n)) := HS7.out.below hb8
      obtain ⟨q0, q1, q2, q3⟩ := box_at HS8.out.bl HB.out HQ.out
      rw [hB0] at q0 q1 q2 q3
      have hc8 := count_any x w8 HS8.out.mu
      rw [fx_at] at hc8
      clear hap hb8 hbad2 hW7
      go_wp2_with fail
      refine hc8.mono ?_
      rintro e w9 ⟨rfl, hg9⟩
      have HS9 : Hid (Sn W1 w9 mb tb b cb 2 v5 (fx x n) (frx x n)) := HS8.out.below hg9.below
      obtain ⟨q0, q1, q2, q3⟩ := box_at HS9.out.bl HB.out HQ.out
      rw [hB0] at q0 q1 q2 q3
      clear hc8 hg9
      have hc14 := fun W (h : Sn W1 W mb tb b cb 2 v5 (fx x (n)) (frx x (n))) => count_any x W h.mu
      rw [fx_at] at hc14
      have hc14 := hc14 _ HS9.out
      by_cases hnow : 0 < n
      · have hnw : 0 < n := hnow
        go_wp2_with fail
        refine hc14.mono ?_
        rintro e w14 ⟨rfl, hg14⟩
        have HS14 : Hid (Sn W1 w14 mb tb b cb 2 v5 (fx x (n)) (frx x (n))) := HS9.out.below hg14.below
        obtain ⟨q0, q1, q2, q3⟩ := box_at HS14.out.bl HB.out HQ.out
        rw [hB0] at q0 q1 q2 q3
        obtain ⟨W15, hW15⟩ : ∃ W15, W15 = w14.alloc (.cells #[.int .u64 x.1.1, .int .u64 x.1.2.1, .int .u64 x.1.2.2, .int .i64 2147483647, .int .u64 x.1.1, .int .u64 x.1.2.1, .int .u64 x.1.2.2, .int .i64 (-2147483647)] 33) := ⟨_, rfl⟩
        have G15 : Gr w14 W15 := by rw [hW15]; exact (Gr.refl _).alloc _
        have L15 : Ls ED W15 (.slice (some ⟨w14.heap.size, 0, none⟩) 2 2) [(x, 2147483647), (x, (-2147483647))] := by rw [hW15]; exact ls_new (E := ED) w14 [(x, 2147483647), (x, (-2147483647))] _ _ 2 rfl
        have hw15 : wrap64 (wrap64 (wrap64 (0 + 2147483647) + (-2147483647)) + (n)) = n := by unfold wrap64; omega
        have hap15 := (HS14.out.below G15.below).ok L15 (by simp) (by rw [bad_two, hw15, HNB.out]; decide) (f' := fx x (n)) (by rw [newc_two, hw15]) (frx_is x (n))
        clear L15 G15 hc14 hg14 hw15
        go_wp2_with fail
        rw [← hW15]
        refine hap15.mono ?_
        rintro e w16 ⟨vo16, v16, rfl, _, S16, _⟩
        have HS16 : Hid (Sn W1 w16 mb tb b cb (2 + 4) v16 (fx x (n)) (frx x (n))) := S16
        obtain ⟨q0, q1, q2, q3⟩ := box_at HS16.out.bl HB.out HQ.out
        rw [hB0] at q0 q1 q2 q3
        have hc16 := count_any x w16 HS16.out.mu
        rw [fx_at] at hc16
        clear hap15 S16 hW15
        go_wp2_with fail
        refine hc16.mono ?_
        rintro e w17 ⟨rfl, hg17⟩
        go_wp2
        go_ret
        exact ⟨rfl, HEND.out _ (HS16.out.below hg17.below).bl⟩
      · have hnw : ¬ 0 < n := hnow
        go_wp2_with fail
        refine hc14.mono ?_
        rintro e w14 ⟨rfl, hg14⟩
        have HS14 : Hid (Sn W1 w14 mb tb b cb 2 v5 (fx x (n)) (frx x (n))) := HS9.out.below hg14.below
        obtain ⟨q0, q1, q2, q3⟩ := box_at HS14.out.bl HB.out HQ.out
        rw [hB0] at q0 q1 q2 q3
        obtain ⟨W15, hW15⟩ : ∃ W15, W15 = w14.alloc (.cells #[.int .u64 x.1.1, .int .u64 x.1.2.1, .int .u64 x.1.2.2, .int .i64 (-2147483647), .int .u64 x.1.1, .int .u64 x.1.2.1, .int .u64 x.1.2.2, .int .i64 2147483647] 33) := ⟨_, rfl⟩
        have G15 : Gr w14 W15 := by rw [hW15]; exact (Gr.refl _).alloc _
        have L15 : Ls ED W15 (.slice (some ⟨w14.heap.size, 0, none⟩) 2 2) [(x, (-2147483647)), (x, 2147483647)] := by rw [hW15]; exact ls_new (E := ED) w14 [(x, (-2147483647)), (x, 2147483647)] _ _ 2 rfl
        have hw15 : wrap64 (wrap64 (wrap64 (0 + (-2147483647)) + 2147483647) + (n)) = n := by unfold wrap64; omega
        have hap15 := (HS14.out.below G15.below).ok L15 (by simp) (by rw [bad_two, hw15, HNB.out]; decide) (f' := fx x (n)) (by rw [newc_two, hw15]) (frx_is x (n))
        clear L15 G15 hc14 hg14 hw15
        go_wp2_with fail
        rw [← hW15]
        refine hap15.mono ?_
        rintro e w16 ⟨vo16, v16, rfl, _, S16, _⟩
        have HS16 : Hid (Sn W1 w16 mb tb b cb (2 + 4) v16 (fx x (n)) (frx x (n))) := S16
        obtain ⟨q0, q1, q2, q3⟩ := box_at HS16.out.bl HB.out HQ.out
        rw [hB0] at q0 q1 q2 q3
        have hc16 := count_any x w16 HS16.out.mu
        rw [fx_at] at hc16
        clear hap15 S16 hW15
        go_wp2_with fail
        refine hc16.mono ?_
        rintro e w17 ⟨rfl, hg17⟩
        go_wp2
        go_ret
        exact ⟨rfl, HEND.out _ (HS16.out.below hg17.below).bl⟩
    rcases Classical.em (2147483647 < ov) with g2 | g2
    · clear hfit
      have f1 : -2147483647 ≤ ov := by omega
      have f2 : ¬ ov ≤ 2147483647 := by omega
      have hbad2 : bad (fx x n) [(x, ov)] = true := by rw [bad_one, byd_t.2 (Or.inr g2)]; rfl
      have HNB : Hid (byd n = false) := hbn
      have hap := HS7.out.bad HL7.out (by simp) hbad2
      refine hap.mono ?_
      rintro e w8 ⟨rfl, hb8⟩
      have HS8 : Hid (Sn W1 w8 mb tb b cb 2 v5 (fx x n) (frx x n)) := HS7.out.below hb8
      obtain ⟨q0, q1, q2, q3⟩ := box_at HS8.out.bl HB.out HQ.out
      rw [hB0] at q0 q1 q2 q3
      have hc8 := count_any x w8 HS8.out.mu
      rw [fx_at] at hc8
      clear hap hb8 hbad2 hW7
      go_wp2_with fail
      refine hc8.mono ?_
      rintro e w9 ⟨rfl, hg9⟩
      have HS9 : Hid (Sn W1 w9 mb tb b cb 2 v5 (fx x n) (frx x n)) := HS8.out.below hg9.below
      obtain ⟨q0, q1, q2, q3⟩ := box_at HS9.out.bl HB.out HQ.out
      rw [hB0] at q0 q1 q2 q3
      clear hc8 hg9
      have hc14 := fun W (h : Sn W1 W mb tb b cb 2 v5 (fx x (n)) (frx x (n))) => count_any x W h.mu
      rw [fx_at] at hc14
      have hc14 := hc14 _ HS9.out
      by_cases hnow : 0 < n
      · have hnw : 0 < n := hnow
        go_wp2_with fail
        refine hc14.mono ?_
        rintro e w14 ⟨rfl, hg14⟩
        have HS14 : Hid (Sn W1 w14 mb tb b cb 2 v5 (fx x (n)) (frx x (n))) := HS9.out.below hg14.below
        obtain ⟨q0, q1, q2, q3⟩ := box_at HS14.out.bl HB.out HQ.out
        rw [hB0] at q0 q1 q2 q3
        obtain ⟨W15, hW15⟩ : ∃ W15, W15 = w14.alloc (.cells #[.int .u64 x.1.1, .int .u64 x.1.2.1, .int .u64 x.1.2.2, .int .i64 2147483647, .int .u64 x.1.1, .int .u64 x.1.2.1, .int .u64 x.1.2.2, .int .i64 (-2147483647)] 33) := ⟨_, rfl⟩
        have G15 : Gr w14 W15 := by rw [hW15]; exact (Gr.refl _).alloc _
        have L15 : Ls ED W15 (.slice (some ⟨w14.heap.size, 0, none⟩) 2 2) [(x, 2147483647), (x, (-2147483647))] := by rw [hW15]; exact ls_new (E := ED) w14 [(x, 2147483647), (x, (-2147483647))] _ _ 2 rfl
        have hw15 : wrap64 (wrap64 (wrap64 (0 + 2147483647) + (-2147483647)) + (n)) = n := by unfold wrap64; omega
        have hap15 := (HS14.out.below G15.below).ok L15 (by simp) (by rw [bad_two, hw15, HNB.out]; decide) (f' := fx x (n)) (by rw [newc_two, hw15]) (frx_is x (n))
        clear L15 G15 hc14 hg14 hw15
        go_wp2_with fail
        rw [← hW15]
        refine hap15.mono ?_
        rintro e w16 ⟨vo16, v16, rfl, _, S16, _⟩
        have HS16 : Hid (Sn W1 w16 mb tb b cb (2 + 4) v16 (fx x (n)) (frx x (n))) := S16
        obtain ⟨q0, q1, q2, q3⟩ := box_at HS16.out.bl HB.out HQ.out
        rw [hB0] at q0 q1 q2 q3
        have hc16 := count_any x w16 HS16.out.mu
        rw [fx_at] at hc16
        clear hap15 S16 hW15
        go_wp2_with fail
        refine hc16.mono ?_
        rintro e w17 ⟨rfl, hg17⟩
        go_wp2
        go_ret
        exact ⟨rfl, HEND.out _ (HS16.out.below hg17.below).bl⟩
      · have hnw : ¬ 0 < n := hnow
        go_wp2_with fail
        refine hc14.mono ?_
        rintro e w14 ⟨rfl, hg14⟩
        have HS14 : Hid (Sn W1 w14 mb tb b cb 2 v5 (fx x (n)) (frx x (n))) := HS9.out.below hg14.below
        obtain ⟨q0, q1, q2, q3⟩ := box_at HS14.out.bl HB.out HQ.out
        rw [hB0] at q0 q1 q2 q3
        obtain ⟨W15, hW15⟩ : ∃ W15, W15 = w14.alloc (.cells #[.int .u64 x.1.1, .int .u64 x.1.2.1, .int .u64 x.1.2.2, .int .i64 (-2147483647), .int .u64 x.1.1, .int .u64 x.1.2.1, .int .u64 x.1.2.2, .int .i64 2147483647] 33) := ⟨_, rfl⟩
        have G15 : Gr w14 W15 := by rw [hW15]; exact (Gr.refl _).alloc _
        have L15 : Ls ED W15 (.slice (some ⟨w14.heap.size, 0, none⟩) 2 2) [(x, (-2147483647)), (x, 2147483647)] := by rw [hW15]; exact ls_new (E := ED) w14 [(x, (-2147483647)), (x, 2147483647)] _ _ 2 rfl
        have hw15 : wrap64 (wrap64 (wrap64 (0 + (-2147483647)) + 2147483647) + (n)) = n := by unfold wrap64; omega
        have hap15 := (HS14.out.below G15.below).ok L15 (by simp) (by rw [bad_two, hw15, HNB.out]; decide) (f' := fx x (n)) (by rw [newc_two, hw15]) (frx_is x (n))
        clear L15 G15 hc14 hg14 hw15
        go_wp2_with fail
        rw [← hW15]
        refine hap15.mono ?_
        rintro e w16 ⟨vo16, v16, rfl, _, S16, _⟩
        have HS16 : Hid (Sn W1 w16 mb tb b cb (2 + 4) v16 (fx x (n)) (frx x (n))) := S16
        obtain ⟨q0, q1, q2, q3⟩ := box_at HS16.out.bl HB.out HQ.out
        rw [hB0] at q0 q1 q2 q3
        have hc16 := count_any x w16 HS16.out.mu
        rw [fx_at] at hc16
        clear hap15 S16 hW15
        go_wp2_with fail
        refine hc16.mono ?_
        rintro e w17 ⟨rfl, hg17⟩
        go_wp2
        go_ret
        exact ⟨rfl, HEND.out _ (HS16.out.below hg17.below).bl⟩
    rcases Classical.em (n + ov < -2147483647) with g3 | g3
    · clear hfit
      have f1 : -2147483647 ≤ ov := by omega
      have f2 : ov ≤ 2147483647 := by omega
      have f3 : ¬ -2147483647 ≤ n + ov := by omega
      have hwo : wrap64 (wrap64 (0 + ov) + n) = n + ov := by unfold wrap64; omega
      have hwo2 : wrap64 (n + ov) = n + ov := by unfold wrap64; omega
      have hbad2 : bad (fx x n) [(x, ov)] = true := by rw [bad_one, hwo, byd_t.2 (Or.inl g3)]; simp
      clear hwo
      have HNB : Hid (byd n = false) := hbn
      have hap := HS7.out.bad HL7.out (by simp) hbad2
      refine hap.mono ?_
      rintro e w8 ⟨rfl, hb8⟩
      have HS8 : Hid (Sn W1 w8 mb tb b cb 2 v5 (fx x n) (frx x n)) := HS7.out.below hb8
      obtain ⟨q0, q1, q2, q3⟩ := box_at HS8.out.bl HB.out HQ.out
      rw [hB0] at q0 q1 q2 q3
      have hc8 := count_any x w8 HS8.out.mu
      rw [fx_at] at hc8
      clear hap hb8 hbad2 hW7
      go_wp2_with fail
      refine hc8.mono ?_
      rintro e w9 ⟨rfl, hg9⟩
      have HS9 : Hid (Sn W1 w9 mb tb b cb 2 v5 (fx x n) (frx x n)) := HS8.out.below hg9.below
      obtain ⟨q0, q1, q2, q3⟩ := box_at HS9.out.bl HB.out HQ.out
      rw [hB0] at q0 q1 q2 q3
      clear hc8 hg9
      have hc14 := fun W (h : Sn W1 W mb tb b cb 2 v5 (fx x (n)) (frx x (n))) => count_any x W h.mu
      rw [fx_at] at hc14
      have hc14 := hc14 _ HS9.out
      have hnow : ¬ 0 < n := by omega
      · have hnw : ¬ 0 < n := hnow
        go_wp2_with fail
        refine hc14.mono ?_
        rintro e w14 ⟨rfl, hg14⟩
        have HS14 : Hid (Sn W1 w14 mb tb b cb 2 v5 (fx x (n)) (frx x (n))) := HS9.out.below hg14.below
        obtain ⟨q0, q1, q2, q3⟩ := box_at HS14.out.bl HB.out HQ.out
        rw [hB0] at q0 q1 q2 q3
        obtain ⟨W15, hW15⟩ : ∃ W15, W15 = w14.alloc (.cells #[.int .u64 x.1.1, .int .u64 x.1.2.1, .int .u64 x.1.2.2, .int .i64 (-2147483647), .int .u64 x.1.1, .int .u64 x.1.2.1, .int .u64 x.1.2.2, .int .i64 2147483647] 33) := ⟨_, rfl⟩
        have G15 : Gr w14 W15 := by rw [hW15]; exact (Gr.refl _).alloc _
        have L15 : Ls ED W15 (.slice (some ⟨w14.heap.size, 0, none⟩) 2 2) [(x, (-2147483647)), (x, 2147483647)] := by rw [hW15]; exact ls_new (E := ED) w14 [(x, (-2147483647)), (x, 2147483647)] _ _ 2 rfl
        have hw15 : wrap64 (wrap64 (wrap64 (0 + (-2147483647)) + 2147483647) + (n)) = n := by unfold wrap64; omega
        have hap15 := (HS14.out.below G15.below).ok L15 (by simp) (by rw [bad_two, hw15, HNB.out]; decide) (f' := fx x (n)) (by rw [newc_two, hw15]) (frx_is x (n))
        clear L15 G15 hc14 hg14 hw15
        go_wp2_with fail
        rw [← hW15]
        refine hap15.mono ?_
        rintro e w16 ⟨vo16, v16, rfl, _, S16, _⟩
        have HS16 : Hid (Sn W1 w16 mb tb b cb (2 + 4) v16 (fx x (n)) (frx x (n))) := S16
        obtain ⟨q0, q1, q2, q3⟩ := box_at HS16.out.bl HB.out HQ.out
        rw [hB0] at q0 q1 q2 q3
        have hc16 := count_any x w16 HS16.out.mu
        rw [fx_at] at hc16
        clear hap15 S16 hW15
        go_wp2_with fail
        refine hc16.mono ?_
        rintro e w17 ⟨rfl, hg17⟩
        go_wp2
        go_ret
        exact ⟨rfl, HEND.out _ (HS16.out.below hg17.below).bl⟩
    · have g4 : 2147483647 < n + ov := by omega
      clear hfit
      have f1 : -2147483647 ≤ ov := by omega
      have f2 : ov ≤ 2147483647 := by omega
      have f3 : -2147483647 ≤ n + ov := by omega
      have f4 : ¬ n + ov ≤ 2147483647 := by omega
      have hwo : wrap64 (wrap64 (0 + ov) + n) = n + ov := by unfold wrap64; omega
      have hwo2 : wrap64 (n + ov) = n + ov := by unfold wrap64; omega
      have hbad2 : bad (fx x n) [(x, ov)] = true := by rw [bad_one, hwo, byd_t.2 (Or.inr g4)]; simp
      clear hwo
      have HNB : Hid (byd n = false) := hbn
      have hap := HS7.out.bad HL7.out (by simp) hbad2
      refine hap.mono ?_
      rintro e w8 ⟨rfl, hb8⟩
      have HS8 : Hid (Sn W1 w8 mb tb b cb 2 v5 (fx x n) (frx x n)) := HS7.out.below hb8
      obtain ⟨q0, q1, q2, q3⟩ := box_at HS8.out.bl HB.out HQ.out
      rw [hB0] at q0 q1 q2 q3
      have hc8 := count_any x w8 HS8.out.mu
      rw [fx_at] at hc8
      clear hap hb8 hbad2 hW7
      go_wp2_with fail
      refine hc8.mono ?_
      rintro e w9 ⟨rfl, hg9⟩
      have HS9 : Hid (Sn W1 w9 mb tb b cb 2 v5 (fx x n) (frx x n)) := HS8.out.below hg9.below
      obtain ⟨q0, q1, q2, q3⟩ := box_at HS9.out.bl HB.out HQ.out
      rw [hB0] at q0 q1 q2 q3
      clear hc8 hg9
      have hc14 := fun W (h : Sn W1 W mb tb b cb 2 v5 (fx x (n)) (frx x (n))) => count_any x W h.mu
      rw [fx_at] at hc14
      have hc14 := hc14 _ HS9.out
      have hnow : 0 < n := by omega
      · have hnw : 0 < n := hnow
        go_wp2_with fail
        refine hc14.mono ?_
        rintro e w14 ⟨rfl, hg14⟩
        have HS14 : Hid (Sn W1 w14 mb tb b cb 2 v5 (fx x (n)) (frx x (n))) := HS9.out.below hg14.below
        obtain ⟨q0, q1, q2, q3⟩ := box_at HS14.out.bl HB.out HQ.out
        rw [hB0] at q0 q1 q2 q3
        obtain ⟨W15, hW15⟩ : ∃ W15, W15 = w14.alloc (.cells #[.int .u64 x.1.1, .int .u64 x.1.2.1, .int .u64 x.1.2.2, .int .i64 2147483647, .int .u64 x.1.1, .int .u64 x.1.2.1, .int .u64 x.1.2.2, .int .i64 (-2147483647)] 33) := ⟨_, rfl⟩
        have G15 : Gr w14 W15 := by rw [hW15]; exact (Gr.refl _).alloc _
        have L15 : Ls ED W15 (.slice (some ⟨w14.heap.size, 0, none⟩) 2 2) [(x, 2147483647), (x, (-2147483647))] := by rw [hW15]; exact ls_new (E := ED) w14 [(x, 2147483647), (x, (-2147483647))] _ _ 2 rfl
        have hw15 : wrap64 (wrap64 (wrap64 (0 + 2147483647) + (-2147483647)) + (n)) = n := by unfold wrap64; omega
        have hap15 := (HS14.out.below G15.below).ok L15 (by simp) (by rw [bad_two, hw15, HNB.out]; decide) (f' := fx x (n)) (by rw [newc_two, hw15]) (frx_is x (n))
        clear L15 G15 hc14 hg14 hw15
        go_wp2_with fail
        rw [← hW15]
        refine hap15.mono ?_
        rintro e w16 ⟨vo16, v16, rfl, _, S16, _⟩
        have HS16 : Hid (Sn W1 w16 mb tb b cb (2 + 4) v16 (fx x (n)) (frx x (n))) := S16
        obtain ⟨q0, q1, q2, q3⟩ := box_at HS16.out.bl HB.out HQ.out
        rw [hB0] at q0 q1 q2 q3
        have hc16 := count_any x w16 HS16.out.mu
        rw [fx_at] at hc16
        clear hap15 S16 hW15
        go_wp2_with fail
        refine hc16.mono ?_
        rintro e w17 ⟨rfl, hg17⟩
        go_wp2
        go_ret
        exact ⟨rfl, HEND.out _ (HS16.out.below hg17.below).bl⟩
end Go.Proofs.Yteffgkhpcdboaaa
