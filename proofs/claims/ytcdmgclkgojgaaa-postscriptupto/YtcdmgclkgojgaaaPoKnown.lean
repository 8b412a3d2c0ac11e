import Derived.Test.YtcdmgclkgojgaaaPoNil
namespace Go.Proofs.Ytcdmgclkgojgaaa.Ps
open Go.RowKit Go.Sort
attribute [local go_sem ↓] Go.wp_at_zero Go.wp_at_succ
abbrev sA : ByteArray := ⟨#[97]⟩
abbrev sB : ByteArray := ⟨#[98]⟩
abbrev sD : ByteArray := ⟨#[100]⟩
abbrev q0 : Nat → List ByteArray := fun _ => []
abbrev q1 := ptn 3 q0 0 1 sA
abbrev q2 := ptn 3 q1 0 1 sB
abbrev q3 := tkn 3 q2 0 1
abbrev q4 := tkn 3 q3 1 0
theorem kn_a : lk 3 q2 0 1 0 = (sA, 0) := rfl
theorem kn_b : lk 3 q3 0 1 0 = (sB, 0) := rfl
theorem kn_c : lk 3 q3 1 0 0 = (ByteArray.empty, 43) := rfl
theorem kn_l : ln 3 q2 0 1 = 2 := rfl
set_option maxHeartbeats 4000000 in
set_option maxRecDepth 100000 in
theorem known_any (w : World) : Calls Try.prog 7 #[] w fun e w' => e = .returned (.bool true) ∧ Below w.heap.size w w' := by
  have hnew := new_any 3 w (by decide) (by decide)
  obtain ⟨hb, hhb⟩ : ∃ hb, hb = w.heap.size := ⟨_, rfl⟩
  rw [← hhb] at hnew
  have HHB := hid hhb
  clear hhb
  have hne : ∀ {S : Nat → Prop} {w' : World}, (∀ k, S k → w.heap.size ≤ k) → ∀ k, nx S w w' k → w.heap.size ≤ k := fun h k hk => hk.elim (h k) (fun h => h.1)
  clear hne
  go_enter Try.func7, Try.ntmps7
  go_wp2_with fail
  refine hnew.mono ?_
  rintro e w1 ⟨rfl, hP, hG⟩
  have P1 : Hid (Pq w1 (fun k => w.heap.size ≤ k) hb 3 0 q0) := hP.mono (fun k _ e => by rw [e, HHB.out]; exact Nat.le_refl _) (Nat.le_refl _)
  have B1 : Hid (Below w.heap.size w w1) := hG.below
  clear hP hG hnew
  have hc1 := put_any 0 1 sA w1 P1.out (by decide)
  rw [show pe 3 0 1 = 0 from rfl] at hc1
  go_wp2_with fail
  refine hc1.mono ?_
  rintro e w2 ⟨rfl, hP, hK⟩
  have P2 := hid (hP.mono (S' := fun k => w.heap.size ≤ k) (fun k _ hk => hk.elim id (fun h => Nat.le_trans B1.out.size h.1)) (Nat.le_refl _))
  have B2 := hid (B1.out.trans (hK.below B1.out.size (fun _ h => h)))
  clear hP hK hc1
  have hc2 := put_any 0 1 sB w2 P2.out (by decide)
  rw [show pe 3 0 1 = 0 from rfl] at hc2
  go_wp2_with fail
  refine hc2.mono ?_
  rintro e w3 ⟨rfl, hP, hK⟩
  have P3 := hid (hP.mono (S' := fun k => w.heap.size ≤ k) (fun k _ hk => hk.elim id (fun h => Nat.le_trans B2.out.size h.1)) (Nat.le_refl _))
  have B3 := hid (B2.out.trans (hK.below B2.out.size (fun _ h => h)))
  clear hP hK hc2
  have hc3 := len_any 0 1 w3 P3.out
  rw [kn_l] at hc3
  go_wp2_with fail
  refine hc3.mono ?_
  rintro e w4 ⟨rfl, m, hm⟩
  have hB : Below w3.heap.size w3 w4 := by rw [hm]; exact ((Gr.refl _).drewN _).below
  have P4 := hid (P3.out.below hB)
  have B4 := hid (B3.out.trans (hB.mono B3.out.size))
  clear hB hm hc3
  have hc4 := workers_any w4 P4.out
  go_wp2_with fail
  refine hc4.mono ?_
  rintro e w5 ⟨rfl, hm⟩
  have hB : Below w4.heap.size w4 w5 := by rw [hm]; exact (Gr.refl _).below
  have P5 := hid (P4.out.below hB)
  have B5 := hid (B4.out.trans (hB.mono B4.out.size))
  clear hB hm hc4
  have hc5 := take_any 0 1 w5 P5.out (by decide)
  rw [kn_a] at hc5
  unfold lv at hc5
  go_wp2_with fail
  refine hc5.mono ?_
  rintro e w6 ⟨rfl, hP, hK⟩
  have P6 := hid (hP.mono (S' := fun k => w.heap.size ≤ k) (fun k _ hk => hk.elim id (fun h => Nat.le_trans B5.out.size h.1)) (Nat.le_refl _))
  have B6 := hid (B5.out.trans (hK.below B5.out.size (fun _ h => h)))
  clear hP hK hc5
  have hc6 := look_any 0 1 0 w6 P6.out
  rw [kn_b] at hc6
  unfold lv at hc6
  go_wp2_with fail
  refine hc6.mono ?_
  rintro e w7 ⟨rfl, hB⟩
  have P7 := hid (P6.out.below hB)
  have B7 := hid (B6.out.trans (hB.mono B6.out.size))
  clear hB hc6
  have hc7 := take_any 1 0 w7 P7.out (by decide)
  rw [kn_c] at hc7
  unfold lv at hc7
  go_wp2_with fail
  refine hc7.mono ?_
  rintro e w8 ⟨rfl, hP, hK⟩
  have P8 := hid (hP.mono (S' := fun k => w.heap.size ≤ k) (fun k _ hk => hk.elim id (fun h => Nat.le_trans B7.out.size h.1)) (Nat.le_refl _))
  have B8 := hid (B7.out.trans (hK.below B7.out.size (fun _ h => h)))
  clear hP hK hc7
  have hc8 := put_any 1 1 sD w8 P8.out (by decide)
  rw [show pe 3 1 1 = 40 from rfl] at hc8
  go_wp2_with fail
  refine hc8.mono ?_
  rintro e w9 ⟨rfl, hP, hK⟩
  have P9 := hid (hP.mono (S' := fun k => w.heap.size ≤ k) (fun k _ hk => hk.elim id (fun h => Nat.le_trans B8.out.size h.1)) (Nat.le_refl _))
  have B9 := hid (B8.out.trans (hK.below B8.out.size (fun _ h => h)))
  clear hP hK hc8
  have hc9 := nil_take 0 1 w9
  go_wp2_with fail
  refine hc9.mono ?_
  rintro e w10 ⟨rfl, hm⟩
  have hB : Below w9.heap.size w9 w10 := by rw [hm]; exact (Gr.refl _).below
  have P10 := hid (P9.out.below hB)
  have B10 := hid (B9.out.trans (hB.mono B9.out.size))
  clear hB hm hc9
  have hc10 := nil_look 0 1 0 w10
  go_wp2_with fail
  refine hc10.mono ?_
  rintro e w11 ⟨rfl, hm⟩
  have hB : Below w10.heap.size w10 w11 := by rw [hm]; exact (Gr.refl _).below
  have P11 := hid (P10.out.below hB)
  have B11 := hid (B10.out.trans (hB.mono B10.out.size))
  clear hB hm hc10
  have hc11 := nil_put 0 1 sA w11
  go_wp2_with fail
  refine hc11.mono ?_
  rintro e w12 ⟨rfl, hm⟩
  have hB : Below w11.heap.size w11 w12 := by rw [hm]; exact (Gr.refl _).below
  have P12 := hid (P11.out.below hB)
  have B12 := hid (B11.out.trans (hB.mono B11.out.size))
  clear hB hm hc11
  have hc12 := nil_len 0 1 w12
  go_wp2_with fail
  refine hc12.mono ?_
  rintro e w13 ⟨rfl, hm⟩
  have hB : Below w12.heap.size w12 w13 := by rw [hm]; exact (Gr.refl _).below
  have P13 := hid (P12.out.below hB)
  have B13 := hid (B12.out.trans (hB.mono B12.out.size))
  clear hB hm hc12
  have hc13 := nil_total w13
  go_wp2_with fail
  refine hc13.mono ?_
  rintro e w14 ⟨rfl, hm⟩
  have hB : Below w13.heap.size w13 w14 := by rw [hm]; exact (Gr.refl _).below
  have P14 := hid (P13.out.below hB)
  have B14 := hid (B13.out.trans (hB.mono B13.out.size))
  clear hB hm hc13
  have hc14 := nil_busy w14
  go_wp2_with fail
  refine hc14.mono ?_
  rintro e w15 ⟨rfl, hm⟩
  have hB : Below w14.heap.size w14 w15 := by rw [hm]; exact (Gr.refl _).below
  have P15 := hid (P14.out.below hB)
  have B15 := hid (B14.out.trans (hB.mono B14.out.size))
  clear hB hm hc14
  have hc15 := nil_workers w15
  go_wp2_with fail
  refine hc15.mono ?_
  rintro e w16 ⟨rfl, hm⟩
  have hB : Below w15.heap.size w15 w16 := by rw [hm]; exact (Gr.refl _).below
  have P16 := hid (P15.out.below hB)
  have B16 := hid (B15.out.trans (hB.mono B15.out.size))
  clear hB hm hc15
  have hc16 := nil_copy w16
  go_wp2_with fail
  refine hc16.mono ?_
  rintro e w17 ⟨rfl, hm⟩
  have hB : Below w16.heap.size w16 w17 := by rw [hm]; exact (Gr.refl _).below
  have P17 := hid (P16.out.below hB)
  have B17 := hid (B16.out.trans (hB.mono B16.out.size))
  clear hB hm hc16
  go_wp2
  go_ret
  exact ⟨rfl, B17.out⟩
end Go.Proofs.Ytcdmgclkgojgaaa.Ps
