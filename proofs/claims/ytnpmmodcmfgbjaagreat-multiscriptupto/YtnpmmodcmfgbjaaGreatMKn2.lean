import Derived.Test.YtnpmmodcmfgbjaaGreatMKn
namespace Go.Proofs.YtnpmmodcmfgbjaaGreat
open Go.RowKit Go.Sort Go.Maps
open Tt (Tl byd byd_f byd_t)
attribute [local go_sem ↓] Go.wp_at_zero Go.wp_at_succ

/-- A list that is laid in the newest block. -/
theorem ls_new {α : Type} {E : El α} (w : World) (ds : List α) (cs : Array Value) (te : TypeId) (c : Nat) (h : cs.toList = fl E ds) : Ls E (w.alloc (.cells cs te)) (.slice (some ⟨w.heap.size, 0, none⟩) ds.length c) ds := by
  refine Or.inr ⟨w.heap.size, 0, c, rfl, by simp, fun j u hj => ?_⟩
  have h1 := World.news_of_block (heap_new' w (.cells cs te)) j u (by rw [h]; exact hj)
  rw [addA] at h1
  exact h1
section
variable {mb tb b cb n : Nat} {v : Value} {f f' : Tm → Int} {fr fr' : List Tm}
theorem apply_ok (ds : List Dl) (u : Value) (w : World) (h : Mu w mb tb b cb n v f fr) (hF : IsFr f fr) (hu : Ls ED w u ds) (hbig : n + 2 * ds.length + 1 ≤ 2199023255552) (hb : bad f ds = false) (hf : newc f ds = f') (hF' : IsFr f' fr') :
    Calls Tryz.prog 21 #[.pointer (some ⟨mb, 0, none⟩), u] w fun e w' => ∃ vo v' : Value, e = .returned (.tuple #[vo, .int .i64 0]) ∧ w'.ownsRow w.heap.size 54 4 vo (dlt fr fr').length (fl ED (dlt fr fr')) ∧ Mu w' mb tb b cb (n + 2 * ds.length) v' f' fr' ∧
        Kp (fun k => k = b ∨ k = cb ∨ v.ownBlock = some k) w w' ∧ (∀ g, v'.ownBlock = some g → v.ownBlock = some g ∨ w.heap.size ≤ g) ∧ ∀ g, v'.ownBlock = some g → vo.ownBlock ≠ some g := by
  refine (apply_any ds u w h hF hu hbig).mono ?_
  rintro e w' (⟨h1, _⟩ | ⟨_, vo, v', fr2, h2, rfl, h3, h4, h5, h6, h7⟩)
  · rw [hb] at h1; cases h1
  · rw [hf] at h2 h4
    obtain rfl := h2.same hF'
    exact ⟨vo, v', rfl, h3, h4, h5, h6, h7⟩
end

set_option maxHeartbeats 1000000 in
set_option maxRecDepth 100000 in
theorem known_any (w : World) : Calls Tryz.prog 4 #[] w fun e w' => e = .returned (.bool true) ∧ Below w.heap.size w w' := by
  have hne := mnew_any w
  go_enter Tryz.func4, Tryz.ntmps4
  go_wp2_with fail
  refine hne.mono ?_
  rintro e w1 ⟨mb, tb, b, cb, rfl, hM1, ⟨z1, z2, z3, z4⟩, hB1⟩
  obtain ⟨W2, hW2⟩ : ∃ W2, W2 = w1.alloc (.cells #[.int .u64 0, .int .u64 0, .int .u64 0, .int .i64 2] 54) := ⟨_, rfl⟩
  have G2 : Gr w1 W2 := by rw [hW2]; exact (Gr.refl _).alloc _
  have L2 : Ls ED W2 (.slice (some ⟨w1.heap.size, 0, none⟩) 1 1) kd1 := by rw [hW2]; exact ls_new (E := ED) w1 kd1 _ _ 1 rfl
  have hA1 := apply_ok kd1 _ W2 (hM1.below G2.below) IsFr.nil L2 (by decide) kb1 kf1_eq kfr1
  rw [kdl1] at hA1
  have HB2 : Hid (Below w.heap.size w W2) := hB1.trans (G2.below.mono hB1.size)
  have hc2 : cb < W2.heap.size := (hM1.below G2.below).ch.lt
  have hb2 : b < W2.heap.size := (hM1.below G2.below).tl.ta.lt
  clear hne L2 hM1 G2 hB1
  go_wp2_with fail
  rw [← hW2]
  refine hA1.mono ?_
  rintro e w3 ⟨vo, v3, rfl, ho3, hM3, hK3, hV3, hN3⟩
  obtain ⟨p1, d1, rfl⟩ := (owns_ls (E := ED) (ts := [(t0, (1 : Int))]) ho3).form
  have HM3 : Hid (Mu w3 mb tb b cb 2 v3 kf1 [t0]) := hM3
  have HO3 : Hid (w3.ownsRow W2.heap.size 54 4 (.slice p1 1 d1) 1 (fl ED [(t0, (1 : Int))])) := ho3
  have HB3 : Hid (Below w.heap.size w w3) := HB2.out.trans (hK3.below HB2.out.size (fun k hk => by rcases hk with rfl | rfl | hk; exact z3; exact z4; simp [Value.ownBlock] at hk))
  have HN3 : Hid (∀ g, v3.ownBlock = some g → (Value.slice p1 1 d1).ownBlock ≠ some g) := hN3
  have HV3 : Hid (∀ g, v3.ownBlock = some g → w.heap.size ≤ g) := fun g hg => (hV3 g hg).elim (fun h => by simp [Value.ownBlock] at h) (fun h => Nat.le_trans HB2.out.size h)
  obtain ⟨W4, hW4⟩ : ∃ W4, W4 = w3.alloc (.cells #[.int .u64 0, .int .u64 0, .int .u64 0, .int .i64 (-2), .int .u64 1, .int .u64 0, .int .u64 0, .int .i64 1, .int .u64 0, .int .u64 1, .int .u64 0, .int .i64 1] 54) := ⟨_, rfl⟩
  have G4 : Gr w3 W4 := by rw [hW4]; exact (Gr.refl _).alloc _
  have L4 : Ls ED W4 (.slice (some ⟨w3.heap.size, 0, none⟩) 3 3) kd2 := by rw [hW4]; exact ls_new (E := ED) w3 kd2 _ _ 3 rfl
  have hA2 := apply_ok kd2 _ W4 (hM3.below G4.below) kfr1 L4 (by decide) kb2 kf2_eq kfr2
  rw [kdl2] at hA2
  have HG4 : Hid (Gr w3 W4) := G4
  clear hA1 L4 hM3 hK3 hV3 hN3 ho3 hW2 G4
  go_wp2_with fail
  rw [← hW4]
  refine hA2.mono ?_
  rintro e w5 ⟨vo2, v5, rfl, ho5, hM5, hK5, hV5, hN5⟩
  obtain ⟨p2, d2, rfl⟩ := (owns_ls (E := ED) (ts := [(t0, (-1 : Int)), (tB, 1), (tA, 1)]) ho5).form
  have HO5 : Hid (w5.ownsRow W4.heap.size 54 4 (.slice p2 3 d2) 3 (fl ED [(t0, (-1 : Int)), (tB, 1), (tA, 1)])) := ho5
  have B4 : Below w.heap.size w W4 := HB3.out.trans (HG4.out.below.mono HB3.out.size)
  have HB5 : Hid (Below w.heap.size w w5) := B4.trans (hK5.below B4.size (fun k hk => by rcases hk with rfl | rfl | hk; exact z3; exact z4; exact HV3.out _ hk))
  have HO1 : Hid (w5.ownsRow W2.heap.size 54 4 (.slice p1 1 d1) 1 (fl ED [(t0, (1 : Int))])) := owns_kp hK5 (owns_below HO3.out HG4.out.below) (fun k hk hk2 => by
    have h1 := (HO3.out.lt k hk).1
    rcases hk2 with rfl | rfl | hk2
    · exact nlt h1 hb2
    · exact nlt h1 hc2
    · exact HN3.out _ hk2 hk)
  clear hA2 hM5 hK5 hV5 hN5 ho5 hW4 B4 HO3 hb2 hc2
  have hD1 := fun (te : TypeId) => deltas_any (.slice p1 1 d1) (.slice (some ⟨w5.heap.size, 0, none⟩) 1 1) [(t0, (1 : Int))] [(t0, (1 : Int))] (w5.alloc (.cells #[.int .u64 0, .int .u64 0, .int .u64 0, .int .i64 1] te)) ((owns_ls (E := ED) (ts := [(t0, (1 : Int))]) HO1.out).below ((Gr.refl _).alloc _).below) (ls_new (E := ED) w5 [(t0, (1 : Int))] _ _ 1 rfl) (by decide)
  rw [decide_eq_true rfl] at hD1
  go_wp2_with fail
  refine (hD1 _).mono ?_
  rintro e w6 ⟨rfl, hg6⟩
  have HG6 : Hid (Gr w5 w6) := ((Gr.refl _).alloc _).trans hg6
  have hD2 := fun (te : TypeId) => deltas_any (.slice p2 3 d2) (.slice (some ⟨w6.heap.size, 0, none⟩) 3 3) [(t0, (-1 : Int)), (tB, 1), (tA, 1)] [(t0, (-1 : Int)), (tB, 1), (tA, 1)] (w6.alloc (.cells #[.int .u64 0, .int .u64 0, .int .u64 0, .int .i64 (-1), .int .u64 0, .int .u64 1, .int .u64 0, .int .i64 1, .int .u64 1, .int .u64 0, .int .u64 0, .int .i64 1] te)) ((owns_ls (E := ED) (ts := [(t0, (-1 : Int)), (tB, 1), (tA, 1)]) HO5.out).below (HG6.out.trans ((Gr.refl _).alloc _)).below) (ls_new (E := ED) w6 [(t0, (-1 : Int)), (tB, 1), (tA, 1)] _ _ 3 rfl) (by decide)
  rw [decide_eq_true rfl] at hD2
  clear hD1 hg6
  go_wp2_with fail
  refine (hD2 _).mono ?_
  rintro e w7 ⟨rfl, hg7⟩
  have HB7 : Hid (Below w.heap.size w w7) := HB5.out.trans ((HG6.out.trans (((Gr.refl _).alloc _).trans hg7)).below.mono HB5.out.size)
  have e1 := fun u W => apply_nil u W
  have e2 := fun W => front_nil W
  have e3 := fun W => open_nil t0 W
  have e4 := fun W => count_nil t0 W
  have e5 := fun W => len_nil W
  have e6 := fun W => times_nil W
  have e7 := fun W => copy_nil W
  clear hD2 hg7 HO1 HO5 HG6
  go_wp2_with fail
  refine (e1 _ _).mono ?_
  rintro e w8 ⟨rfl, rfl⟩
  go_wp2_with fail
  refine (e2 _).mono ?_
  rintro e w9 ⟨rfl, rfl⟩
  go_wp2_with fail
  refine (e3 _).mono ?_
  rintro e w10 ⟨rfl, hg10⟩
  go_wp2_with fail
  refine (e4 _).mono ?_
  rintro e w11 ⟨rfl, hg11⟩
  go_wp2_with fail
  refine (e5 _).mono ?_
  rintro e w12 ⟨rfl, rfl⟩
  go_wp2_with fail
  refine (e6 _).mono ?_
  rintro e w13 ⟨rfl, rfl⟩
  go_wp2_with fail
  refine (e7 _).mono ?_
  rintro e w14 ⟨rfl, rfl⟩
  go_wp2
  go_ret
  exact ⟨rfl, HB7.out.trans ((((Gr.refl _).alloc _).trans (hg10.trans hg11)).below.mono HB7.out.size)⟩
end Go.Proofs.YtnpmmodcmfgbjaaGreat
