import Derived.Test.YtconceigfommeaaGreatDoorLattice
import Derived.Test.YtconceigfommeaaGreatDoorPure
import Derived.Test.YtconceigfommeaaGreatDoorTaken
import Derived.Deep.DeepCutAuto
import Derived.Shelf.SlSortCmp.QuietGrown
namespace Go.Proofs.YtconceigfommeaaGreatDoor
open Go.RowKit Go.Shelf Go.Lib
open Go.Sort hiding Below
attribute [local go_sem ↓] Go.wp_at_zero Go.wp_at_succ

/-- Three boxes, kept. -/
structure Box3 (B : Nat) (a b c x y z p q r : Int) (W : World) : Prop where
  size : B + 2 < W.heap.size
  a0 : W.cell? ⟨B, 0, none⟩ = some (.int .u64 a)
  a1 : W.cell? ⟨B, 1, none⟩ = some (.int .u64 b)
  a2 : W.cell? ⟨B, 2, none⟩ = some (.int .u64 c)
  b0 : W.cell? ⟨B + 1, 0, none⟩ = some (.int .u64 x)
  b1 : W.cell? ⟨B + 1, 1, none⟩ = some (.int .u64 y)
  b2 : W.cell? ⟨B + 1, 2, none⟩ = some (.int .u64 z)
  c0 : W.cell? ⟨B + 1 + 1, 0, none⟩ = some (.int .u64 p)
  c1 : W.cell? ⟨B + 1 + 1, 1, none⟩ = some (.int .u64 q)
  c2 : W.cell? ⟨B + 1 + 1, 2, none⟩ = some (.int .u64 r)
theorem Box3.below {B : Nat} {a b c x y z p q r : Int} {W w1 : World} (h : Box3 B a b c x y z p q r W) (hb : Below W.heap.size W w1) : Box3 B a b c x y z p q r w1 := by
  have s := h.size
  have s1 := hb.size
  exact ⟨by omega, (hb.cell (p := ⟨B, 0, none⟩) (by show B < _; omega)).trans h.a0, (hb.cell (p := ⟨B, 1, none⟩) (by show B < _; omega)).trans h.a1, (hb.cell (p := ⟨B, 2, none⟩) (by show B < _; omega)).trans h.a2,
    (hb.cell (p := ⟨B + 1, 0, none⟩) (by show B + 1 < _; omega)).trans h.b0, (hb.cell (p := ⟨B + 1, 1, none⟩) (by show B + 1 < _; omega)).trans h.b1, (hb.cell (p := ⟨B + 1, 2, none⟩) (by show B + 1 < _; omega)).trans h.b2,
    (hb.cell (p := ⟨B + 1 + 1, 0, none⟩) (by show B + 1 + 1 < _; omega)).trans h.c0, (hb.cell (p := ⟨B + 1 + 1, 1, none⟩) (by show B + 1 + 1 < _; omega)).trans h.c1, (hb.cell (p := ⟨B + 1 + 1, 2, none⟩) (by show B + 1 + 1 < _; omega)).trans h.c2⟩

theorem conj5_keep {B bj bm : Nat} {a b c x y z p q r j1 j2 j3 m1 m2 m3 : Int} {W w1 : World} (h : B + 2 < W.heap.size ∧ bj < W.heap.size ∧ bm < W.heap.size ∧ W.cell? ⟨B, 0, none⟩ = some (.int .u64 a) ∧ W.cell? ⟨B, 1, none⟩ = some (.int .u64 b) ∧ W.cell? ⟨B, 2, none⟩ = some (.int .u64 c) ∧ W.cell? ⟨B + 1, 0, none⟩ = some (.int .u64 x) ∧ W.cell? ⟨B + 1, 1, none⟩ = some (.int .u64 y) ∧ W.cell? ⟨B + 1, 2, none⟩ = some (.int .u64 z) ∧ W.cell? ⟨B + 1 + 1, 0, none⟩ = some (.int .u64 p) ∧ W.cell? ⟨B + 1 + 1, 1, none⟩ = some (.int .u64 q) ∧ W.cell? ⟨B + 1 + 1, 2, none⟩ = some (.int .u64 r) ∧ W.cell? ⟨bj, 0, none⟩ = some (.int .u64 j1) ∧ W.cell? ⟨bj, 1, none⟩ = some (.int .u64 j2) ∧ W.cell? ⟨bj, 2, none⟩ = some (.int .u64 j3) ∧ W.cell? ⟨bm, 0, none⟩ = some (.int .u64 m1) ∧ W.cell? ⟨bm, 1, none⟩ = some (.int .u64 m2) ∧ W.cell? ⟨bm, 2, none⟩ = some (.int .u64 m3)) (hb : Below W.heap.size W w1) : B + 2 < w1.heap.size ∧ bj < w1.heap.size ∧ bm < w1.heap.size ∧ w1.cell? ⟨B, 0, none⟩ = some (.int .u64 a) ∧ w1.cell? ⟨B, 1, none⟩ = some (.int .u64 b) ∧ w1.cell? ⟨B, 2, none⟩ = some (.int .u64 c) ∧ w1.cell? ⟨B + 1, 0, none⟩ = some (.int .u64 x) ∧ w1.cell? ⟨B + 1, 1, none⟩ = some (.int .u64 y) ∧ w1.cell? ⟨B + 1, 2, none⟩ = some (.int .u64 z) ∧ w1.cell? ⟨B + 1 + 1, 0, none⟩ = some (.int .u64 p) ∧ w1.cell? ⟨B + 1 + 1, 1, none⟩ = some (.int .u64 q) ∧ w1.cell? ⟨B + 1 + 1, 2, none⟩ = some (.int .u64 r) ∧ w1.cell? ⟨bj, 0, none⟩ = some (.int .u64 j1) ∧ w1.cell? ⟨bj, 1, none⟩ = some (.int .u64 j2) ∧ w1.cell? ⟨bj, 2, none⟩ = some (.int .u64 j3) ∧ w1.cell? ⟨bm, 0, none⟩ = some (.int .u64 m1) ∧ w1.cell? ⟨bm, 1, none⟩ = some (.int .u64 m2) ∧ w1.cell? ⟨bm, 2, none⟩ = some (.int .u64 m3) := by
  obtain ⟨s0, s1, s2, h0, h1, h2, h3, h4, h5, h6, h7, h8, h9, h10, h11, h12, h13, h14⟩ := h
  have z := hb.size
  refine ⟨by omega, by omega, by omega, ?_, ?_, ?_, ?_, ?_, ?_, ?_, ?_, ?_, ?_, ?_, ?_, ?_, ?_, ?_⟩
  · exact (hb.cell (p := ⟨B, 0, none⟩) (by show B < _; omega)).trans h0
  · exact (hb.cell (p := ⟨B, 1, none⟩) (by show B < _; omega)).trans h1
  · exact (hb.cell (p := ⟨B, 2, none⟩) (by show B < _; omega)).trans h2
  · exact (hb.cell (p := ⟨B + 1, 0, none⟩) (by show B + 1 < _; omega)).trans h3
  · exact (hb.cell (p := ⟨B + 1, 1, none⟩) (by show B + 1 < _; omega)).trans h4
  · exact (hb.cell (p := ⟨B + 1, 2, none⟩) (by show B + 1 < _; omega)).trans h5
  · exact (hb.cell (p := ⟨B + 1 + 1, 0, none⟩) (by show B + 1 + 1 < _; omega)).trans h6
  · exact (hb.cell (p := ⟨B + 1 + 1, 1, none⟩) (by show B + 1 + 1 < _; omega)).trans h7
  · exact (hb.cell (p := ⟨B + 1 + 1, 2, none⟩) (by show B + 1 + 1 < _; omega)).trans h8
  · exact (hb.cell (p := ⟨bj, 0, none⟩) (by show bj < _; omega)).trans h9
  · exact (hb.cell (p := ⟨bj, 1, none⟩) (by show bj < _; omega)).trans h10
  · exact (hb.cell (p := ⟨bj, 2, none⟩) (by show bj < _; omega)).trans h11
  · exact (hb.cell (p := ⟨bm, 0, none⟩) (by show bm < _; omega)).trans h12
  · exact (hb.cell (p := ⟨bm, 1, none⟩) (by show bm < _; omega)).trans h13
  · exact (hb.cell (p := ⟨bm, 2, none⟩) (by show bm < _; omega)).trans h14
theorem teq_le (a b c x y z : Int) : teq a b c x y z = (tle a b c x y z && tle x y z a b c) := by
  rw [Bool.eq_iff_iff, teq_iff, Bool.and_eq_true]
  simp only [tle, Bool.and_eq_true, decide_eq_true_iff]
  omega
theorem lat_rules (a b c x y z : Int) : tle a b c (max a x) (max b y) (max c z) = true ∧ tle x y z (max a x) (max b y) (max c z) = true ∧ tle (min a x) (min b y) (min c z) a b c = true ∧ tle (min a x) (min b y) (min c z) x y z = true := by
  simp only [tle, Bool.and_eq_true, decide_eq_true_iff]
  omega
theorem join_rule (a b c x y z p q r : Int) : tle (max a x) (max b y) (max c z) p q r = (tle a b c p q r && tle x y z p q r) := by
  rw [Bool.eq_iff_iff]
  simp only [tle, Bool.and_eq_true, decide_eq_true_iff]
  omega
theorem meet_rule (a b c x y z p q r : Int) : tle p q r (min a x) (min b y) (min c z) = (tle p q r a b c && tle p q r x y z) := by
  rw [Bool.eq_iff_iff]
  simp only [tle, Bool.and_eq_true, decide_eq_true_iff]
  omega
theorem ends_rule (a b c x y z : Int) : teq (max a x) (max b y) (max c z) x y z = tle a b c x y z ∧ teq (min a x) (min b y) (min c z) a b c = tle a b c x y z := by
  constructor
  · rw [Bool.eq_iff_iff, teq_iff]
    simp only [tle, Bool.and_eq_true, decide_eq_true_iff]
    omega
  · rw [Bool.eq_iff_iff, teq_iff]
    simp only [tle, Bool.and_eq_true, decide_eq_true_iff]
    omega
theorem two_bools (p q : Bool) : (p = true ∧ q = true) ∨ (p = true ∧ q = false) ∨ (p = false ∧ q = true) ∨ (p = false ∧ q = false) := by
  cases p <;> cases q <;> simp
theorem cmp_ways (a b c x y z : Int) : (tcmp a b c x y z = -1 ∧ tcmp x y z a b c = 1 ∧ teq a b c x y z = false ∧ tle a b c x y z = true) ∨ (tcmp a b c x y z = -1 ∧ tcmp x y z a b c = 1 ∧ teq a b c x y z = false ∧ tle a b c x y z = false) ∨ (tcmp a b c x y z = 0 ∧ tcmp x y z a b c = 0 ∧ teq a b c x y z = true ∧ tle a b c x y z = true) ∨ (tcmp a b c x y z = 1 ∧ tcmp x y z a b c = -1 ∧ teq a b c x y z = false ∧ tle a b c x y z = false) := by
  have h1 := tcmp_bd a b c x y z
  have h2 := tcmp_neg a b c x y z
  have h3 := tcmp_zero a b c x y z
  have h4 := teq_iff a b c x y z
  have h5 : tle a b c x y z = true ↔ a ≤ x ∧ b ≤ y ∧ c ≤ z := by simp [tle]
  cases ht : teq a b c x y z <;> cases hl : tle a b c x y z <;> rw [ht] at h4 <;> rw [hl] at h5 <;> simp at h4 h5 ⊢ <;> omega
theorem cmp_tri (a b c x y z p q r : Int) : 0 < tcmp a b c x y z ∨ (tcmp a b c x y z ≤ 0 ∧ 0 < tcmp x y z p q r) ∨ (tcmp a b c x y z ≤ 0 ∧ tcmp x y z p q r ≤ 0 ∧ tcmp a b c p q r ≤ 0) := by
  have h1 := tcmp_bd a b c x y z; have h2 := tcmp_neg a b c x y z; have h3 := tcmp_zero a b c x y z
  have k1 := tcmp_bd x y z p q r; have k2 := tcmp_neg x y z p q r; have k3 := tcmp_zero x y z p q r
  have l1 := tcmp_bd a b c p q r; have l2 := tcmp_neg a b c p q r; have l3 := tcmp_zero a b c p q r
  generalize tcmp a b c x y z = k at *; generalize tcmp x y z p q r = m at *; generalize tcmp a b c p q r = n at *
  omega
theorem tle_trans' (a b c x y z p q r : Int) : tle a b c x y z = true → tle x y z p q r = true → tle a b c p q r = true := by
  simp only [tle, Bool.and_eq_true, decide_eq_true_iff]
  omega

set_option maxHeartbeats 4000000 in
set_option maxRecDepth 100000 in
theorem ord_any (a b c x y z p q r : Int) (w : World) (he : Env w) :
    Calls Tryz.prog 3 #[.agg #[.int .u64 a, .int .u64 b, .int .u64 c], .agg #[.int .u64 x, .int .u64 y, .int .u64 z], .agg #[.int .u64 p, .int .u64 q, .int .u64 r]] w fun e w' => e = .returned (.bool true) ∧ Below w.heap.size w w' := by
  have heq := fun a b c x y z W => run_eqT a b c x y z W
  have hA := fun a b c x y z W => Ahead_any a b c x y z W
  have hC := fun a b c x y z W => Compare_any a b c x y z W
  have hK := fun W hW => taken_any W hW
  have hJ := fun W => Join_any a b c x y z W
  have hM := fun W => Meet_any a b c x y z W
  go_enter Tryz.func3, Tryz.ntmps3
  go_wp2_with fail
  have X0 : Box3 w.heap.size a b c x y z p q r (((w.alloc (.cells #[.int .u64 a, .int .u64 b, .int .u64 c] 24)).alloc (.cells #[.int .u64 x, .int .u64 y, .int .u64 z] 24)).alloc (.cells #[.int .u64 p, .int .u64 q, .int .u64 r] 24)) := by
    refine ⟨by simp, ?_, ?_, ?_, ?_, ?_, ?_, ?_, ?_, ?_⟩ <;> go_simp
  have B0 : Below w.heap.size w (((w.alloc (.cells #[.int .u64 a, .int .u64 b, .int .u64 c] 24)).alloc (.cells #[.int .u64 x, .int .u64 y, .int .u64 z] 24)).alloc (.cells #[.int .u64 p, .int .u64 q, .int .u64 r] 24)) := ((((Gr.refl _).alloc _).alloc _).alloc _).below
  refine (hA _ _ _ _ _ _ _).mono ?_
  rintro e w1 ⟨rfl, hg1⟩
  have X1 := X0.below hg1.below
  have B1 := B0.trans (hg1.below.mono B0.size)
  obtain ⟨s1, a0, a1, a2, b0, b1, b2, c0, c1, c2⟩ := X1
  go_wp2_with fail
  refine (hA _ _ _ _ _ _ _).mono ?_
  rintro e w2 ⟨rfl, hg2⟩
  have X2 := Box3.below ⟨s1, a0, a1, a2, b0, b1, b2, c0, c1, c2⟩ hg2.below
  have B2 := B1.trans (hg2.below.mono B1.size)
  clear s1 a0 a1 a2 b0 b1 b2 c0 c1 c2
  obtain ⟨s1, a0, a1, a2, b0, b1, b2, c0, c1, c2⟩ := X2
  go_wp2_with fail
  refine (hA _ _ _ _ _ _ _).mono ?_
  rintro e w3 ⟨rfl, hg3⟩
  have X3 := Box3.below ⟨s1, a0, a1, a2, b0, b1, b2, c0, c1, c2⟩ hg3.below
  have B3 := B2.trans (hg3.below.mono B2.size)
  clear s1 a0 a1 a2 b0 b1 b2 c0 c1 c2 hg1 hg2 hg3
  obtain ⟨s1, a0, a1, a2, b0, b1, b2, c0, c1, c2⟩ := X3
  have BB := B3
  clear B0 B1 B2 B3 X0
  go_upto_region 4 with fail
  go_cut [7, 8, 9, 51] (fun s7 s8 s9 s51 w' => s7 = .bool (tle a b c x y z) ∧ s8 = .bool (tle x y z a b c) ∧ s9 = .bool (tle x y z p q r) ∧ s51 = .bool false ∧ Box3 w.heap.size a b c x y z p q r w' ∧ Below w.heap.size w w')
  case first =>
    have hte := teq_le a b c x y z
    have htr := tle_trans' a b c x y z p q r
    have hrf : tle a b c a b c = true := by simp [tle]
    cases hab : tle a b c x y z <;> cases hba : tle x y z a b c <;> cases hbc : tle x y z p q r <;> simp only [hab, hba, hbc, Bool.and_false, Bool.and_true, forall_const, Bool.false_eq_true, false_implies, imp_true_iff] at hte htr
    all_goals go_wp2_with (first | (go_at_call 8; refine (hK _ (he.below BB)).mono ?_; rintro e w6 ⟨rfl, hb6⟩; have X5 := Box3.below ⟨s1, a0, a1, a2, b0, b1, b2, c0, c1, c2⟩ hb6; replace BB := BB.trans (RowKit.Below.mono hb6 BB.size); clear s1 a0 a1 a2 b0 b1 b2 c0 c1 c2 hb6; obtain ⟨s1, a0, a1, a2, b0, b1, b2, c0, c1, c2⟩ := X5) | (go_at_call 7; refine (hA _ _ _ _ _ _ _).mono ?_; rintro e w5 ⟨rfl, hg5⟩; have hb5 := hg5.below; clear hg5; have X5 := Box3.below ⟨s1, a0, a1, a2, b0, b1, b2, c0, c1, c2⟩ hb5; replace BB := BB.trans (RowKit.Below.mono hb5 BB.size); clear s1 a0 a1 a2 b0 b1 b2 c0 c1 c2 hb5; obtain ⟨s1, a0, a1, a2, b0, b1, b2, c0, c1, c2⟩ := X5))
    all_goals go_meet
    all_goals exact ⟨by rw [hab], by rw [hba], by rw [hbc], rfl, ⟨s1, a0, a1, a2, b0, b1, b2, c0, c1, c2⟩, BB⟩
  case rest =>
    obtain ⟨rfl, rfl, rfl, rfl, X3, BB⟩ := hcut
    clear s1 a0 a1 a2 b0 b1 b2 c0 c1 c2
    obtain ⟨s1, a0, a1, a2, b0, b1, b2, c0, c1, c2⟩ := X3
    go_upto_region 7 with (first | (go_at_call 9; refine (hC _ _ _ _ _ _ _).mono ?_; rintro e w5 ⟨rfl, hg5⟩; have hb5 := hg5.below; clear hg5; have X5 := Box3.below ⟨s1, a0, a1, a2, b0, b1, b2, c0, c1, c2⟩ hb5; replace BB := BB.trans (RowKit.Below.mono hb5 BB.size); clear s1 a0 a1 a2 b0 b1 b2 c0 c1 c2 hb5; obtain ⟨s1, a0, a1, a2, b0, b1, b2, c0, c1, c2⟩ := X5))
    go_cut [7, 8, 9, 10, 83] (fun s7 s8 s9 s10 s83 w' => s7 = .bool (tle a b c x y z) ∧ s8 = .bool (tle x y z a b c) ∧ s9 = .bool (tle x y z p q r) ∧ s10 = .int .i64 (tcmp a b c x y z) ∧ s83 = .bool false ∧ Box3 w.heap.size a b c x y z p q r w' ∧ Below w.heap.size w w')
    case first =>
      rcases cmp_ways a b c x y z with ⟨hk, hk', hte, hab⟩ | ⟨hk, hk', hte, hab⟩ | ⟨hk, hk', hte, hab⟩ | ⟨hk, hk', hte, hab⟩
      all_goals go_wp2_with (first | (go_at_call 9; refine (hC _ _ _ _ _ _ _).mono ?_; rintro e w5 ⟨rfl, hg5⟩; have hb5 := hg5.below; clear hg5; have X5 := Box3.below ⟨s1, a0, a1, a2, b0, b1, b2, c0, c1, c2⟩ hb5; replace BB := BB.trans (RowKit.Below.mono hb5 BB.size); clear s1 a0 a1 a2 b0 b1 b2 c0 c1 c2 hb5; obtain ⟨s1, a0, a1, a2, b0, b1, b2, c0, c1, c2⟩ := X5))
      all_goals go_meet
      all_goals exact ⟨by rw [hab], rfl, rfl, by rw [hk], rfl, ⟨s1, a0, a1, a2, b0, b1, b2, c0, c1, c2⟩, BB⟩
    case rest =>
      obtain ⟨rfl, rfl, rfl, rfl, rfl, X3, BB⟩ := hcut
      clear s1 a0 a1 a2 b0 b1 b2 c0 c1 c2
      obtain ⟨s1, a0, a1, a2, b0, b1, b2, c0, c1, c2⟩ := X3
      go_upto_region 9 with fail
      go_cut [97] (fun s97 w' => s97 = .bool false ∧ Box3 w.heap.size a b c x y z p q r w' ∧ Below w.heap.size w w')
      case first =>
        rcases cmp_tri a b c x y z p q r with hk | ⟨hk, hk2⟩ | ⟨hk, hk2, hk3⟩
        all_goals go_wp2_with (first | (go_at_call 9; refine (hC _ _ _ _ _ _ _).mono ?_; rintro e w5 ⟨rfl, hg5⟩; have hb5 := hg5.below; clear hg5; have X5 := Box3.below ⟨s1, a0, a1, a2, b0, b1, b2, c0, c1, c2⟩ hb5; replace BB := BB.trans (RowKit.Below.mono hb5 BB.size); clear s1 a0 a1 a2 b0 b1 b2 c0 c1 c2 hb5; obtain ⟨s1, a0, a1, a2, b0, b1, b2, c0, c1, c2⟩ := X5))
        all_goals go_meet
        all_goals exact ⟨by first | rfl | exact congrArg Value.bool (decide_eq_false (by omega)), ⟨s1, a0, a1, a2, b0, b1, b2, c0, c1, c2⟩, BB⟩
      case rest =>
        obtain ⟨rfl, X3, BB⟩ := hcut
        clear s1 a0 a1 a2 b0 b1 b2 c0 c1 c2
        obtain ⟨s1, a0, a1, a2, b0, b1, b2, c0, c1, c2⟩ := X3
        go_wp2_with fail
        refine (hJ _).mono ?_
        rintro e w7 ⟨rfl, hb7⟩
        have X5 := Box3.below ⟨s1, a0, a1, a2, b0, b1, b2, c0, c1, c2⟩ hb7; replace BB := BB.trans (RowKit.Below.mono hb7 BB.size); clear s1 a0 a1 a2 b0 b1 b2 c0 c1 c2 hb7; obtain ⟨s1, a0, a1, a2, b0, b1, b2, c0, c1, c2⟩ := X5
        have hb7' : Below w7.heap.size w7 (w7.alloc (.cells #[.int .u64 (max a x), .int .u64 (max b y), .int .u64 (max c z)] 24)) := ((Gr.refl _).alloc _).below
        have X7 := Box3.below ⟨s1, a0, a1, a2, b0, b1, b2, c0, c1, c2⟩ hb7'
        have n1 : w.heap.size < w7.heap.size := by omega
        have n2 : w.heap.size + 1 < w7.heap.size := by omega
        go_wp2_with fail
        refine (hM _).mono ?_
        rintro e w8 ⟨rfl, hb8⟩
        have X8 := (X7.below hb8)
        have z8 : w7.heap.size < w8.heap.size := by have := hb8.size; simp at this; omega
        have j0 : w8.cell? ⟨w7.heap.size, 0, none⟩ = some (.int .u64 (max a x)) := by rw [hb8.cell (p := ⟨w7.heap.size, 0, none⟩) (by simp)]; go_simp
        have j1 : w8.cell? ⟨w7.heap.size, 1, none⟩ = some (.int .u64 (max b y)) := by rw [hb8.cell (p := ⟨w7.heap.size, 1, none⟩) (by simp)]; go_simp
        have j2 : w8.cell? ⟨w7.heap.size, 2, none⟩ = some (.int .u64 (max c z)) := by rw [hb8.cell (p := ⟨w7.heap.size, 2, none⟩) (by simp)]; go_simp
        replace BB := (BB.trans (RowKit.Below.mono hb7' BB.size)).trans (RowKit.Below.mono hb8 (by have := BB.size; simp; omega))
        clear s1 a0 a1 a2 b0 b1 b2 c0 c1 c2 hb7' hb8 X7 hJ hM n1 n2
        have X9 : w.heap.size + 2 < (w8.alloc (.cells #[.int .u64 (min a x), .int .u64 (min b y), .int .u64 (min c z)] 24)).heap.size ∧ w7.heap.size < (w8.alloc (.cells #[.int .u64 (min a x), .int .u64 (min b y), .int .u64 (min c z)] 24)).heap.size ∧ w8.heap.size < (w8.alloc (.cells #[.int .u64 (min a x), .int .u64 (min b y), .int .u64 (min c z)] 24)).heap.size ∧ (w8.alloc (.cells #[.int .u64 (min a x), .int .u64 (min b y), .int .u64 (min c z)] 24)).cell? ⟨w.heap.size, 0, none⟩ = some (.int .u64 a) ∧ (w8.alloc (.cells #[.int .u64 (min a x), .int .u64 (min b y), .int .u64 (min c z)] 24)).cell? ⟨w.heap.size, 1, none⟩ = some (.int .u64 b) ∧ (w8.alloc (.cells #[.int .u64 (min a x), .int .u64 (min b y), .int .u64 (min c z)] 24)).cell? ⟨w.heap.size, 2, none⟩ = some (.int .u64 c) ∧ (w8.alloc (.cells #[.int .u64 (min a x), .int .u64 (min b y), .int .u64 (min c z)] 24)).cell? ⟨w.heap.size + 1, 0, none⟩ = some (.int .u64 x) ∧ (w8.alloc (.cells #[.int .u64 (min a x), .int .u64 (min b y), .int .u64 (min c z)] 24)).cell? ⟨w.heap.size + 1, 1, none⟩ = some (.int .u64 y) ∧ (w8.alloc (.cells #[.int .u64 (min a x), .int .u64 (min b y), .int .u64 (min c z)] 24)).cell? ⟨w.heap.size + 1, 2, none⟩ = some (.int .u64 z) ∧ (w8.alloc (.cells #[.int .u64 (min a x), .int .u64 (min b y), .int .u64 (min c z)] 24)).cell? ⟨w.heap.size + 1 + 1, 0, none⟩ = some (.int .u64 p) ∧ (w8.alloc (.cells #[.int .u64 (min a x), .int .u64 (min b y), .int .u64 (min c z)] 24)).cell? ⟨w.heap.size + 1 + 1, 1, none⟩ = some (.int .u64 q) ∧ (w8.alloc (.cells #[.int .u64 (min a x), .int .u64 (min b y), .int .u64 (min c z)] 24)).cell? ⟨w.heap.size + 1 + 1, 2, none⟩ = some (.int .u64 r) ∧ (w8.alloc (.cells #[.int .u64 (min a x), .int .u64 (min b y), .int .u64 (min c z)] 24)).cell? ⟨w7.heap.size, 0, none⟩ = some (.int .u64 (max a x)) ∧ (w8.alloc (.cells #[.int .u64 (min a x), .int .u64 (min b y), .int .u64 (min c z)] 24)).cell? ⟨w7.heap.size, 1, none⟩ = some (.int .u64 (max b y)) ∧ (w8.alloc (.cells #[.int .u64 (min a x), .int .u64 (min b y), .int .u64 (min c z)] 24)).cell? ⟨w7.heap.size, 2, none⟩ = some (.int .u64 (max c z)) ∧ (w8.alloc (.cells #[.int .u64 (min a x), .int .u64 (min b y), .int .u64 (min c z)] 24)).cell? ⟨w8.heap.size, 0, none⟩ = some (.int .u64 (min a x)) ∧ (w8.alloc (.cells #[.int .u64 (min a x), .int .u64 (min b y), .int .u64 (min c z)] 24)).cell? ⟨w8.heap.size, 1, none⟩ = some (.int .u64 (min b y)) ∧ (w8.alloc (.cells #[.int .u64 (min a x), .int .u64 (min b y), .int .u64 (min c z)] 24)).cell? ⟨w8.heap.size, 2, none⟩ = some (.int .u64 (min c z)) := by
          have hb9 : Below w8.heap.size w8 (w8.alloc (.cells #[.int .u64 (min a x), .int .u64 (min b y), .int .u64 (min c z)] 24)) := ((Gr.refl _).alloc _).below
          have X9 := X8.below hb9
          exact ⟨X9.size, by simp; omega, by simp, X9.a0, X9.a1, X9.a2, X9.b0, X9.b1, X9.b2, X9.c0, X9.c1, X9.c2, (hb9.cell (p := ⟨w7.heap.size, 0, none⟩) z8).trans j0, (hb9.cell (p := ⟨w7.heap.size, 1, none⟩) z8).trans j1, (hb9.cell (p := ⟨w7.heap.size, 2, none⟩) z8).trans j2, by go_simp, by go_simp, by go_simp⟩
        replace BB := BB.alloc BB.size (.cells #[.int .u64 (min a x), .int .u64 (min b y), .int .u64 (min c z)] 24)
        clear j0 j1 j2 X8
        obtain ⟨s1, s2, s3, a0, a1, a2, b0, b1, b2, c0, c1, c2, j0, j1, j2, m0, m1, m2⟩ := X9
        obtain ⟨t1, t2, t3, t4⟩ := lat_rules a b c x y z
        have r1 := join_rule a b c x y z p q r
        have r2 := meet_rule a b c x y z p q r
        obtain ⟨r3, r4⟩ := ends_rule a b c x y z
        have R1 : Hid (tle (max a x) (max b y) (max c z) p q r = (tle a b c p q r && tle x y z p q r)) := r1
        have R2 : Hid (tle p q r (min a x) (min b y) (min c z) = (tle p q r a b c && tle p q r x y z)) := r2
        have R3 : Hid (teq (max a x) (max b y) (max c z) x y z = tle a b c x y z) := r3
        have R4 : Hid (teq (min a x) (min b y) (min c z) a b c = tle a b c x y z) := r4
        clear r1 r2 r3 r4
        go_upto_region 15 with (first | (go_at_call 7; refine (hA _ _ _ _ _ _ _).mono ?_; rintro e w5 ⟨rfl, hg5⟩; have hb5 := hg5.below; clear hg5; have X5 := conj5_keep ⟨s1, s2, s3, a0, a1, a2, b0, b1, b2, c0, c1, c2, j0, j1, j2, m0, m1, m2⟩ hb5; replace BB := BB.trans (RowKit.Below.mono hb5 BB.size); clear s1 s2 s3 a0 a1 a2 b0 b1 b2 c0 c1 c2 j0 j1 j2 m0 m1 m2 hb5; obtain ⟨s1, s2, s3, a0, a1, a2, b0, b1, b2, c0, c1, c2, j0, j1, j2, m0, m1, m2⟩ := X5))
        have hm : Tryz.prog.follows .mixedOrders = true := by kernel_rfl
        have ga0 := cell_grown (a := ⟨w.heap.size, 0, none⟩) (by show w.heap.size < _; omega) a0
        have ga1 := cell_grown (a := ⟨w.heap.size, 1, none⟩) (by show w.heap.size < _; omega) a1
        have ga2 := cell_grown (a := ⟨w.heap.size, 2, none⟩) (by show w.heap.size < _; omega) a2
        have gb0 := cell_grown (a := ⟨w.heap.size + 1, 0, none⟩) (by show w.heap.size + 1 < _; omega) b0
        have gb1 := cell_grown (a := ⟨w.heap.size + 1, 1, none⟩) (by show w.heap.size + 1 < _; omega) b1
        have gb2 := cell_grown (a := ⟨w.heap.size + 1, 2, none⟩) (by show w.heap.size + 1 < _; omega) b2
        have gc0 := cell_grown (a := ⟨w.heap.size + 1 + 1, 0, none⟩) (by show w.heap.size + 1 + 1 < _; omega) c0
        have gc1 := cell_grown (a := ⟨w.heap.size + 1 + 1, 1, none⟩) (by show w.heap.size + 1 + 1 < _; omega) c1
        have gc2 := cell_grown (a := ⟨w.heap.size + 1 + 1, 2, none⟩) (by show w.heap.size + 1 + 1 < _; omega) c2
        have gj0 := cell_grown (a := ⟨w7.heap.size, 0, none⟩) (by show w7.heap.size < _; omega) j0
        have gj1 := cell_grown (a := ⟨w7.heap.size, 1, none⟩) (by show w7.heap.size < _; omega) j1
        have gj2 := cell_grown (a := ⟨w7.heap.size, 2, none⟩) (by show w7.heap.size < _; omega) j2
        have gm0 := cell_grown (a := ⟨w8.heap.size, 0, none⟩) (by show w8.heap.size < _; omega) m0
        have gm1 := cell_grown (a := ⟨w8.heap.size, 1, none⟩) (by show w8.heap.size < _; omega) m1
        have gm2 := cell_grown (a := ⟨w8.heap.size, 2, none⟩) (by show w8.heap.size < _; omega) m2
        have X9 := And.intro s1 (And.intro s2 (And.intro s3 (And.intro a0 (And.intro a1 (And.intro a2 (And.intro b0 (And.intro b1 (And.intro b2 (And.intro c0 (And.intro c1 (And.intro c2 (And.intro j0 (And.intro j1 (And.intro j2 (And.intro m0 (And.intro m1 m2))))))))))))))))
        replace X9 : Hid _ := X9
        clear a0 a1 a2 b0 b1 b2 c0 c1 c2 j0 j1 j2 m0 m1 m2 s1 s2 s3
        rcases two_bools (tle a b c p q r) (tle p q r a b c) with ⟨h1, h2⟩ | ⟨h1, h2⟩ | ⟨h1, h2⟩ | ⟨h1, h2⟩
        all_goals have r1 := R1.out
        all_goals have r2 := R2.out
        all_goals simp only [h1, h2, Bool.true_and, Bool.false_and] at r1 r2
        all_goals have e1 : (tle x y z p q r != tle x y z p q r) = false := by simp
        all_goals have e2 : (tle p q r x y z != tle p q r x y z) = false := by simp
        all_goals go_quiet_grown (first | (go_at_call 7; refine Calls.grown_of (hA _ _ _ _ _ _ _)))
        all_goals have X5 := conj5_keep X9.out (Gr.below ⟨nq, osq, rfl⟩)
        all_goals replace BB := BB.trans (RowKit.Below.mono (Gr.below ⟨nq, osq, rfl⟩) BB.size)
        all_goals generalize grow (w5.drewN nq) osq = wn at X5 BB ⊢
        all_goals clear ga0 ga1 ga2 gb0 gb1 gb2 gc0 gc1 gc2 gj0 gj1 gj2 gm0 gm1 gm2 X9 e1 e2 r1 r2 h1 h2
        all_goals obtain ⟨s1, s2, s3, a0, a1, a2, b0, b1, b2, c0, c1, c2, j0, j1, j2, m0, m1, m2⟩ := X5
        all_goals have r3 := R3.out
        all_goals have r4 := R4.out
        all_goals cases hab : tle a b c x y z <;> simp only [hab] at r3 r4
        all_goals go_wp2_with fail
        all_goals go_ret
        all_goals exact ⟨rfl, BB⟩
end Go.Proofs.YtconceigfommeaaGreatDoor
