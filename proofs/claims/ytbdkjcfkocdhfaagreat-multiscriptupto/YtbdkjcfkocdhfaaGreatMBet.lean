import Derived.Test.YtbdkjcfkocdhfaaGreatMBin
import Derived.Test.YtbdkjcfkocdhfaaGreatMGr
import Derived.Shelf.Spec.SlicesGrow
namespace Go.Proofs.YtbdkjcfkocdhfaaGreat
open Go.RowKit Go.Sort Go.Maps Go.Lib
attribute [local go_sem ↓] Go.wp_at_zero Go.wp_at_succ

/-- Those of the one list that are not in the other. -/
def mis (a b : List Tm) : List Tm := a.filter fun t => !decide (t ∈ b)
set_option maxHeartbeats 1000000 in
set_option maxRecDepth 100000 in
theorem missing_any (v u : Value) (l m : List Tm) (n : Int) (w : World) (hv : Lst w v l) (hu : Lst w u m) (hl : l.length * 32 ≤ 140737488355328) (hm : m.length * 24 ≤ 140737488355328) (hs : m.Pairwise fun a b => tol a b = true) :
    Calls Tryz.prog 65 #[v, u, .int .i64 n] w fun e w' => ∃ v', e = .returned v' ∧ w'.ownsRow w.heap.size 34 4 v' (mis l m).length (fl ED ((mis l m).map fun t => (t, n))) ∧ Below w.heap.size w w' := by
  obtain ⟨pl, cl, rfl⟩ := hv.form
  have HL : Hid (Lst w (.slice pl l.length cl) l) := hv
  have HU : Hid (Lst w u m) := hu
  have HBS : Hid (∀ (x : Tm) (W : World), Lst W u m → Calls Tryz.prog 84 #[u, tv x, .func (.func fC) #[] #[]] W fun e w' => ∃ i : Int, e = .returned (.tuple #[.int .i64 i, .bool (decide (x ∈ m))]) ∧ Gr W w') := fun x W h => bsearch_any u m x W h hm hs
  clear hv hu hs
  go_enter Tryz.func65, Tryz.ntmps65
  go_wp2_with fail
  go_loopw [7, 9, 10, 11, 14] (fun s7 _ _ _ s14 wr => ∃ k : Nat, k ≤ l.length ∧ s14 = .int .i64 k ∧ Hid (wr.ownsRow w.heap.size 34 4 s7 (mis (l.take k) m).length (fl ED ((mis (l.take k) m).map fun t => (t, n))) ∧ Below w.heap.size w wr)) (fun _ _ _ _ s14 _ => l.length - (RowKit.intOf s14).toNat)
  case atStart => exact ⟨0, Nat.zero_le _, rfl, World.ownsRow_nil _ _ _ _, Below.refl _ _⟩
  case round =>
    obtain ⟨k, hk, rfl, HI⟩ := hrel
    by_cases hlt : k < l.length
    · have hltz : (k : Int) < (l.length : Int) := by omega
      obtain ⟨y, hy⟩ : ∃ y, l[k]? = some y := ⟨l[k], by simp⟩
      obtain ⟨b1, o1, c1, e1, z1, x1, x2, x3⟩ := (HL.out.below HI.out.2).at3 hy
      simp only [Value.slice.injEq] at e1
      obtain ⟨rfl, -, rfl⟩ := e1
      have HJ : Hid (mis (l.take (k + 1)) m = mis (l.take k) m ++ (if (!decide (y ∈ m)) then [y] else [])) := filter_take_succ hy
      have hFL : (mis (l.take k) m).length ≤ k := Nat.le_trans (List.length_filter_le _ _) (by rw [List.length_take]; omega)
      clear hy
      generalize mis (l.take k) m = L at *
      obtain ⟨W2, hW2⟩ : ∃ W2, W2 = wr.alloc (.cells #[.int .u64 y.1.1, .int .u64 y.1.2.1, .int .u64 y.1.2.2] 32) := ⟨_, rfl⟩
      have G2 : Gr wr W2 := by rw [hW2]; exact (Gr.refl _).alloc _
      have B2 : Below w.heap.size w W2 := HI.out.2.trans (G2.below.mono HI.out.2.size)
      have hbs := HBS.out y W2 (HU.out.below B2)
      have hq0 : W2.cell? ⟨wr.heap.size, 0, none⟩ = some (.int .u64 y.1.1) := by rw [hW2]; simp
      have hq1 : W2.cell? ⟨wr.heap.size, 1, none⟩ = some (.int .u64 y.1.2.1) := by rw [hW2]; simp
      have hq2 : W2.cell? ⟨wr.heap.size, 2, none⟩ = some (.int .u64 y.1.2.2) := by rw [hW2]; simp
      have hnl : wr.heap.size < W2.heap.size := by rw [hW2]; simp
      cases hq : decide (y ∈ m) with
      | true =>
        have HE : Hid (mis (l.take (k + 1)) m = L) := by rw [HJ.out, hq]; simp [Hid]
        rw [hq] at hbs
        go_wp2_with fail
        rw [← hW2]
        refine hbs.mono ?_
        rintro e w3 ⟨i, rfl, hg3⟩
        go_wp2
        go_roundw
        case rel => exact ⟨k + 1, by omega, by go_num, by rw [HE.out]; exact owns_below HI.out.1 (G2.trans hg3).below, B2.trans (hg3.below.mono B2.size)⟩
        case measure => simp [RowKit.intOf]; omega
      | false =>
        have HE : Hid (mis (l.take (k + 1)) m = L ++ [y]) := by rw [HJ.out, hq]; simp [Hid]
        rw [hq] at hbs
        go_wp2_with fail
        rw [← hW2]
        refine hbs.mono ?_
        rintro e w3 ⟨i, rfl, hg3⟩
        have r0 := (hg3.cell hnl).trans hq0
        have r1 := (hg3.cell hnl).trans hq1
        have r2 := (hg3.cell hnl).trans hq2
        have hn3 := Nat.lt_of_lt_of_le hnl hg3.size
        have B3 : Below w.heap.size w w3 := B2.trans (hg3.below.mono B2.size)
        have ho3 := owns_below HI.out.1 (G2.trans hg3).below
        clear hq0 hq1 hq2 x1 x2 x3 hbs
        go_wp2_with (at_builtin; refine wpApp1D rfl _ _ rfl w.heap.size _ L.length _ rfl ho3 (y, n) rfl (by omega) B3.size ?_; intro g' cap' w6 ho6 hg6 hl6)
        go_roundw
        case rel =>
          refine ⟨k + 1, by omega, by go_num, ?_, B3.trans ((Kp.grownBy (S := fun k => w.heap.size ≤ k) hg6 (fun k hk => (ho3.lt k hk).1)).below B3.size (fun _ h => h))⟩
          rw [HE.out, List.length_append, List.map_append, fl_append]
          exact ho6
        case measure => simp [RowKit.intOf]; omega
    · have hltz : ¬ (k : Int) < (l.length : Int) := by omega
      have hk' : k = l.length := by omega
      subst hk'
      rw [List.take_length] at HI
      go_wp2
      go_ret
      exact ⟨_, rfl, HI.out.1, HI.out.2⟩

theorem grow_any (n : Nat) (w : World) (hn : n * 32 ≤ 140737488355328) : Calls Tryz.prog 83 #[.slice none 0 0, .int .i64 n] w fun e w' => ∃ v, e = .returned v ∧ w'.ownsRow w.heap.size 34 4 v 0 [] ∧ Below w.heap.size w w' := by
  obtain ⟨i0, hi, hz0, hz1, hz2⟩ := info_parts infoDl
  by_cases h0 : n = 0
  · subst h0
    have h := Any8.slices_Grow_room Tryz.lGrow none 0 0 0 w (by omega) (by omega) (by omega) (by omega)
    refine (show Calls Tryz.prog 83 _ _ _ from h).mono ?_
    rintro e w' ⟨rfl, rfl⟩
    exact ⟨_, rfl, World.ownsRow_nil _ _ _ _, Below.refl _ _⟩
  · have h := Any8.slices_Grow_grow Tryz.lGrow i0 _ hi hz0 (by omega) none 0 0 n [] w (by omega) (by omega) (by rw [hz2]; omega) (by omega) (by simp) (fun _ => rfl) (fun a ha => by cases ha)
    refine (show Calls Tryz.prog 83 _ _ _ from h).mono ?_
    rintro e w' ⟨rfl, rfl⟩
    refine ⟨_, rfl, ⟨rfl, Or.inr ⟨w.heap.size, _, _, rfl, Nat.le_refl _, heap_new' w.drew _, Nat.zero_le _, grownCap_le_maxLen w _ _ _ (by unfold maxLen; omega), ?_, rfl⟩⟩, (((Gr.refl w).drew).alloc _).below⟩
    have := grownCap_ge w n 0 (Tryz.lGrow_ren.t 25)
    simp [Builtin.zeroCells, Value.cells]
    omega

set_option maxHeartbeats 1000000 in
set_option maxRecDepth 100000 in
theorem concat_any (B : Nat) (v1 v2 : Value) (l1 l2 : List Dl) (w : World) (hB : B < w.heap.size) (c1 : w.cell? ⟨B, 0, none⟩ = some v1) (c2 : w.cell? ⟨B, 1, none⟩ = some v2) (h1 : Ls ED w v1 l1) (h2 : Ls ED w v2 l2) (hl : (l1.length + l2.length) * 32 ≤ 140737488355328) :
    Calls Tryz.prog 64 #[.slice (some ⟨B, 0, none⟩) 2 2] w fun e w' => ∃ v, e = .returned v ∧ w'.ownsRow w.heap.size 34 4 v (l1 ++ l2).length (fl ED (l1 ++ l2)) ∧ Below w.heap.size w w' := by
  obtain ⟨p1, d1, rfl⟩ := h1.form
  obtain ⟨p2, d2, rfl⟩ := h2.form
  have H1 : Hid (Ls ED w (.slice p1 l1.length d1) l1) := h1
  have H2 : Hid (Ls ED w (.slice p2 l2.length d2) l2) := h2
  have hgr := grow_any (l1.length + l2.length) w hl
  have z1 : ¬ ((l1.length : Int) < 0) := by omega
  have z2 : ¬ ((l1.length : Int) + (l2.length : Int) < 0) := by omega
  have hcast : ((l1.length + l2.length : Nat) : Int) = (l1.length : Int) + (l2.length : Int) := by omega
  rw [hcast] at hgr
  clear h1 h2 hcast
  go_enter Tryz.func64, Tryz.ntmps64
  go_wp2
  refine wp_loop_rounds 3 ?_
  rw [rounds_succ]; go_wp2
  rw [rounds_succ]; go_wp2
  rw [rounds_succ]; go_wp2_with fail
  refine hgr.mono ?_
  rintro e w2 ⟨v3, rfl, ho3, hb3⟩
  have k1 := (hb3.cell (p := ⟨B, 0, none⟩) hB).trans c1
  have k2 := (hb3.cell (p := ⟨B, 1, none⟩) hB).trans c2
  have hB2 := Nat.lt_of_lt_of_le hB hb3.size
  clear c1 c2 hgr
  go_wp2
  refine wp_loop_rounds 3 ?_
  rw [rounds_succ]; go_wp2_with (at_builtin; refine wpAppLD rfl _ _ rfl w.heap.size v3 0 [] rfl ho3 (.slice p1 l1.length d1) l1 rfl (H1.out.below hb3) (by omega) hb3.size ?_; intro v4 w4 ho4 hg4)
  have B4 : Below w.heap.size w w4 := hb3.trans ((Kp.grownBy (S := fun k => w.heap.size ≤ k) hg4 (fun k hk => (ho3.lt k hk).1)).below hb3.size (fun _ h => h))
  have k3 := (B4.cell (p := ⟨B, 1, none⟩) hB).trans ((hb3.cell (p := ⟨B, 1, none⟩) hB).symm.trans k2)
  have hB4 := Nat.lt_of_lt_of_le hB B4.size
  have L4 := H2.out.below B4
  clear k1 k2 hg4
  rw [rounds_succ]; go_wp2_with (at_builtin; refine wpAppLD rfl _ _ rfl w.heap.size v4 (0 + l1.length) _ rfl ho4 (.slice p2 l2.length d2) l2 rfl L4 (by omega) B4.size ?_; intro v5 w5 ho5 hg5)
  have B5 : Below w.heap.size w w5 := B4.trans ((Kp.grownBy (S := fun k => w.heap.size ≤ k) hg5 (fun k hk => (ho4.lt k hk).1)).below B4.size (fun _ h => h))
  rw [rounds_succ]; go_wp2
  go_ret
  refine ⟨_, rfl, ?_, B5⟩
  exact owns_re ho5 (by simp) (by rw [fl_append]; simp)
end Go.Proofs.YtbdkjcfkocdhfaaGreat
