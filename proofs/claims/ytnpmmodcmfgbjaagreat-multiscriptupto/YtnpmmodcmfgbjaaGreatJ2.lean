import Derived.Test.YtnpmmodcmfgbjaaGreatRows
import Derived.Test.YtnpmmodcmfgbjaaGreatJ1
import Derived.WalkKit
import Derived.WalkSpells
import Derived.Deep.RegionHeld3
import Derived.Deep.DrawnRows
import Derived.Deep.QuietTactic
import Derived.BigQuiet
import Derived.Sort.Grow
import Derived.Test.YtnpmmodcmfgbjaaGreatCPure
import Derived.DeepKeys4
import Derived.Shelf.SlSortCmp.QuietGrown
import Derived.Sort.KeysCollected
import Derived.Defers
import Derived.Recover
namespace Go.Proofs.YtnpmmodcmfgbjaaGreat
open Go.RowKit Go.Sort
attribute [local go_sem ↓] Go.wp_at_zero Go.wp_at_succ

/-- At or ahead, number by number. -/
def tle (a b c x y z : Int) : Bool := decide (a ≤ x) && (decide (b ≤ y) && decide (c ≤ z))
/-- cmp.Compare on two numbers. -/
def c64 (x y : Int) : Int := if x < y then -1 else if y < x then 1 else 0
/-- The first that is not 0. -/
def or3 (p q r : Int) : Int := if p = 0 then (if q = 0 then r else q) else p
/-- The order of telling. -/
def tcmp (a b c x y z : Int) : Int := or3 (c64 a x) (c64 b y) (c64 c z)

theorem ret_int {k : IntKind} {a b : Int} (h : a = b) : Ending.returned (.int k a) = .returned (.int k b) := by rw [h]
theorem ret_bool {a b : Bool} (h : a = b) : Ending.returned (.bool a) = .returned (.bool b) := by rw [h]

set_option maxHeartbeats 400000 in
theorem leq_any (x y : Int) (w : World) :
    Calls Tryz.prog 48 #[.int .u64 x, .int .u64 y] w fun e w' => e = .returned (.bool (decide (x ≤ y))) ∧ w' = w := by
  go_enter Tryz.func48, Tryz.ntmps48
  go_wp2
  go_ret
  exact ⟨rfl, rfl⟩

set_option maxHeartbeats 1000000 in
theorem overB_any (a b c x y z : Int) (w : World) :
    Calls Tryz.prog 47 #[.agg #[.int .u64 a, .int .u64 b, .int .u64 c], .agg #[.int .u64 x, .int .u64 y, .int .u64 z], .func (.func 48) #[] #[]] w fun e w' =>
      e = .returned (.agg #[.bool (decide (a ≤ x)), .bool (decide (b ≤ y)), .bool (decide (c ≤ z))]) ∧ Gr w w' := by
  go_enter Tryz.func47, Tryz.ntmps47
  go_wp2
  go_region_held3 (fun w' => w'.cell? ⟨w.heap.size, 0, none⟩ = some (.int .u64 a) ∧ w'.cell? ⟨w.heap.size, 1, none⟩ = some (.int .u64 b) ∧ w'.cell? ⟨w.heap.size, 2, none⟩ = some (.int .u64 c) ∧ w'.cell? ⟨w.heap.size + 1, 0, none⟩ = some (.int .u64 x) ∧ w'.cell? ⟨w.heap.size + 1, 1, none⟩ = some (.int .u64 y) ∧ w'.cell? ⟨w.heap.size + 1, 2, none⟩ = some (.int .u64 z)) (go_keep)
    (first | (go_at_call 48; refine (leq_any _ _ _).mono ?_; rintro e w' ⟨rfl, rfl⟩))
  go_wp2
  exact bodyPost_ret (v := .agg #[.bool (decide (a ≤ x)), .bool (decide (b ≤ y)), .bool (decide (c ≤ z))]) (by simp [results, Tryz.results47, go_sem]) rfl ⟨rfl, ((((Gr.refl _).alloc _).alloc _).alloc _).drew⟩

set_option maxHeartbeats 1000000 in
set_option maxRecDepth 100000 in
theorem Ahead_any (a b c x y z : Int) (w : World) :
    Calls Tryz.prog 27 #[.agg #[.int .u64 a, .int .u64 b, .int .u64 c], .agg #[.int .u64 x, .int .u64 y, .int .u64 z]] w fun e w' =>
      e = .returned (.bool (tle a b c x y z)) ∧ Gr w w' := by
  unfold tle
  have H := fun W => overB_any a b c x y z W
  have heq := fun p q r p' q' r' W => run_eqB3 p q r p' q' r' W
  generalize decide (a ≤ x) = p1 at *
  generalize decide (b ≤ y) = p2 at *
  generalize decide (c ≤ z) = p3 at *
  go_enter Tryz.func27, Tryz.ntmps27
  go_wp2_with (go_at_call 47; refine (H _).mono ?_; rintro e w1 ⟨rfl, hg⟩)
  go_ret
  exact ⟨rfl, (((Gr.refl _).alloc _).alloc _ |>.trans hg).alloc _⟩

set_option maxHeartbeats 400000 in
theorem isNaN_any (x : Int) (w : World) :
    Calls Tryz.prog 69 #[.int .u64 x] w fun e w' => e = .returned (.bool false) ∧ w' = w := by
  go_enter Tryz.func69, Tryz.ntmps69
  go_wp2
  go_ret
  exact ⟨by simp, rfl⟩

set_option maxHeartbeats 1000000 in
theorem cmp64_any (x y : Int) (w : World) :
    Calls Tryz.prog 44 #[.int .u64 x, .int .u64 y] w fun e w' => e = .returned (.int .i64 (c64 x y)) ∧ w' = w := by
  have H := fun v W => isNaN_any v W
  go_enter Tryz.func44, Tryz.ntmps44
  go_wp2_with (go_at_call 69; refine (H _ _).mono ?_; rintro e w1 ⟨rfl, rfl⟩)
  all_goals go_ret
  all_goals refine ⟨?_, rfl⟩
  all_goals refine ret_int ?_
  all_goals unfold c64
  all_goals (repeat split) <;> omega

end Go.Proofs.YtnpmmodcmfgbjaaGreat

namespace Go.Proofs.YtnpmmodcmfgbjaaGreat
open Go.RowKit Go.Sort
attribute [local go_sem ↓] Go.wp_at_zero Go.wp_at_succ

set_option maxHeartbeats 1000000 in
theorem overI_any (a b c x y z : Int) (w : World) :
    Calls Tryz.prog 43 #[.agg #[.int .u64 a, .int .u64 b, .int .u64 c], .agg #[.int .u64 x, .int .u64 y, .int .u64 z], .func (.func 44) #[] #[]] w fun e w' =>
      e = .returned (.agg #[.int .i64 (c64 a x), .int .i64 (c64 b y), .int .i64 (c64 c z)]) ∧ Gr w w' := by
  go_enter Tryz.func43, Tryz.ntmps43
  go_wp2
  go_region_held3 (fun w' => w'.cell? ⟨w.heap.size, 0, none⟩ = some (.int .u64 a) ∧ w'.cell? ⟨w.heap.size, 1, none⟩ = some (.int .u64 b) ∧ w'.cell? ⟨w.heap.size, 2, none⟩ = some (.int .u64 c) ∧ w'.cell? ⟨w.heap.size + 1, 0, none⟩ = some (.int .u64 x) ∧ w'.cell? ⟨w.heap.size + 1, 1, none⟩ = some (.int .u64 y) ∧ w'.cell? ⟨w.heap.size + 1, 2, none⟩ = some (.int .u64 z)) (go_keep)
    (first | (go_at_call 44; refine (cmp64_any _ _ _).mono ?_; rintro e w' ⟨rfl, rfl⟩))
  go_wp2
  exact bodyPost_ret (v := .agg #[.int .i64 (c64 a x), .int .i64 (c64 b y), .int .i64 (c64 c z)]) (by simp [results, Tryz.results43, go_sem]) rfl ⟨rfl, ((((Gr.refl _).alloc _).alloc _).alloc _).drew⟩

set_option maxHeartbeats 1000000 in
theorem orInt_any (p q r : Int) (b : Nat) (w : World) (h0 : w.cell? ⟨b, 0, none⟩ = some (.int .i64 p)) (h1 : w.cell? ⟨b, 1, none⟩ = some (.int .i64 q)) (h2 : w.cell? ⟨b, 2, none⟩ = some (.int .i64 r)) :
    Calls Tryz.prog 45 #[.slice (some ⟨b, 0, none⟩) 3 3] w fun e w' => e = .returned (.int .i64 (or3 p q r)) ∧ w' = w := by
  by_cases e0 : p = 0
  · subst e0
    by_cases e1 : q = 0
    · subst e1
      by_cases e2 : r = 0
      · subst e2
        go_enter Tryz.func45, Tryz.ntmps45
        go_wp2
        refine wp_loop_rounds 4 ?_
        rw [rounds_succ]; go_wp2
        rw [rounds_succ]; go_wp2
        rw [rounds_succ]; go_wp2
        rw [rounds_succ]; go_wp2
        go_ret
        exact ⟨rfl, rfl⟩
      · have b2 : (r != 0) = true := by rw [bne_iff_ne]; exact e2
        go_enter Tryz.func45, Tryz.ntmps45
        go_wp2
        refine wp_loop_rounds 3 ?_
        rw [rounds_succ]; go_wp2
        rw [rounds_succ]; go_wp2
        rw [rounds_succ]; go_wp2
        go_ret
        exact ⟨rfl, rfl⟩
    · have b1 : (q != 0) = true := by rw [bne_iff_ne]; exact e1
      have hr : or3 0 q r = q := by simp [or3, e1]
      rw [hr]
      clear hr
      go_enter Tryz.func45, Tryz.ntmps45
      go_wp2
      refine wp_loop_rounds 2 ?_
      rw [rounds_succ]; go_wp2
      rw [rounds_succ]; go_wp2
      go_ret
      exact ⟨rfl, rfl⟩
  · have b0 : (p != 0) = true := by rw [bne_iff_ne]; exact e0
    have hr : or3 p q r = p := by simp [or3, e0]
    rw [hr]
    clear hr
    go_enter Tryz.func45, Tryz.ntmps45
    go_wp2
    refine wp_loop_rounds 1 ?_
    rw [rounds_succ]; go_wp2
    go_ret
    exact ⟨rfl, rfl⟩

set_option maxHeartbeats 1000000 in
theorem Compare_any (a b c x y z : Int) (w : World) :
    Calls Tryz.prog 24 #[.agg #[.int .u64 a, .int .u64 b, .int .u64 c], .agg #[.int .u64 x, .int .u64 y, .int .u64 z]] w fun e w' =>
      e = .returned (.int .i64 (tcmp a b c x y z)) ∧ Gr w w' := by
  unfold tcmp
  have H := fun W => overI_any a b c x y z W
  generalize c64 a x = p at *
  generalize c64 b y = q at *
  generalize c64 c z = r at *
  go_enter Tryz.func24, Tryz.ntmps24
  go_wp2_with (first | (go_at_call 43; refine (H _).mono ?_; rintro e w1 ⟨rfl, hg⟩) | (go_at_call 45; refine (orInt_any p q r _ _ (by simp) (by simp) (by simp)).mono ?_; rintro e w2 ⟨rfl, rfl⟩))
  go_ret
  exact ⟨rfl, (((Gr.refl _).alloc _).alloc _ |>.trans hg).alloc _⟩

end Go.Proofs.YtnpmmodcmfgbjaaGreat

namespace Go.Proofs.YtnpmmodcmfgbjaaGreat
open Go.RowKit Go.Sort Go.Maps

theorem laidOut : laidOutB Tryz.prog = true := by kernel_rfl
/-- A time. -/
abbrev Tm := { p : Int × Int × Int // (Lit.int .u64 p.1).wf = true ∧ (Lit.int .u64 p.2.1).wf = true ∧ (Lit.int .u64 p.2.2).wf = true }
instance : Inhabited Tm := ⟨⟨(0, 0, 0), by decide⟩⟩
abbrev tv (t : Tm) : Value := .agg #[.int .u64 t.1.1, .int .u64 t.1.2.1, .int .u64 t.1.2.2]
/-- Times as elements of lists. -/
def ET : El Tm where
  k := 3
  enc t := [.int .u64 t.1.1, .int .u64 t.1.2.1, .int .u64 t.1.2.2]
  len _ := rfl
  one x u hu := by
    simp at hu
    rcases hu with rfl | rfl | rfl <;> rfl
theorem tm_ext {s t : Tm} (h1 : s.1.1 = t.1.1) (h2 : s.1.2.1 = t.1.2.1) (h3 : s.1.2.2 = t.1.2.2) : s = t := Subtype.ext (Prod.ext h1 (Prod.ext h2 h3))
theorem teq_dec (s t : Tm) : teq s.1.1 s.1.2.1 s.1.2.2 t.1.1 t.1.2.1 t.1.2.2 = decide (s = t) := by
  rw [Bool.eq_iff_iff, teq_iff, decide_eq_true_iff]
  exact ⟨fun h => tm_ext h.1 h.2.1 h.2.2, fun h => by subst h; exact ⟨rfl, rfl, rfl⟩⟩
abbrev flT (l : List Tm) : List Value := fl ET l
theorem flT_nil : flT [] = [] := rfl
theorem flT_append (a b : List Tm) : flT (a ++ b) = flT a ++ flT b := fl_append ET a b
theorem flT_one (t : Tm) : flT [t] = ET.enc t := fl_one ET t
theorem flT_length (ts : List Tm) : (flT ts).length = ts.length * 3 := fl_length ET ts
theorem flT_take (l : List Tm) (k : Nat) : (flT l).take (k * 3) = flT (l.take k) := fl_take ET l k
theorem flT_drop (l : List Tm) (k : Nat) : (flT l).drop (k * 3) = flT (l.drop k) := fl_drop ET l k
theorem flT_oneCell (ts : List Tm) : ∀ u ∈ flT ts, u.oneCell' = true := fl_oneCell ET ts
abbrev Lst (w : World) (v : Value) (ts : List Tm) : Prop := Ls ET w v ts
theorem Ls.at3 {w : World} {v : Value} {ts : List Tm} (h : Ls ET w v ts) {j : Nat} {t : Tm} (hj : ts[j]? = some t) :
    ∃ b off c, v = .slice (some ⟨b, off, none⟩) ts.length c ∧ b < w.heap.size ∧ w.cell? ⟨b, off + j * 3, none⟩ = some (.int .u64 t.1.1) ∧ w.cell? ⟨b, off + j * 3 + 1, none⟩ = some (.int .u64 t.1.2.1) ∧ w.cell? ⟨b, off + j * 3 + 2, none⟩ = some (.int .u64 t.1.2.2) := by
  obtain ⟨b, off, c, hv, hb, hc⟩ := h.get hj
  exact ⟨b, off, c, hv, hb, hc 0 _ (by decide) rfl, hc 1 _ (by decide) rfl, hc 2 _ (by decide) rfl⟩
theorem owns_lst {w : World} {base : Nat} {e : TypeId} {v : Value} {ts : List Tm} (h : w.ownsRow base e 3 v ts.length (flT ts)) : Lst w v ts := owns_ls (E := ET) h
theorem infoTm : (Tryz.prog.info? 37).map (fun i => (i.zero, i.size, i.bytes)) = some (some (.agg #[.int .u64 0, .int .u64 0, .int .u64 0]), 3, 24) := by kernel_rfl

/-- At or ahead; told ahead; the order of telling. -/
def bel (s t : Tm) : Bool := tle s.1.1 s.1.2.1 s.1.2.2 t.1.1 t.1.2.1 t.1.2.2
def tcm (s t : Tm) : Int := tcmp s.1.1 s.1.2.1 s.1.2.2 t.1.1 t.1.2.1 t.1.2.2
def tol (s t : Tm) : Bool := decide (tcm s t < 0)
theorem bel_iff (s t : Tm) : bel s t = true ↔ s.1.1 ≤ t.1.1 ∧ s.1.2.1 ≤ t.1.2.1 ∧ s.1.2.2 ≤ t.1.2.2 := by simp [bel, tle]
theorem c64_neg (x y : Int) : c64 x y < 0 ↔ x < y := by unfold c64; (repeat split) <;> omega
theorem c64_zero (x y : Int) : c64 x y = 0 ↔ x = y := by unfold c64; (repeat split) <;> omega
theorem c64_bd (x y : Int) : -1 ≤ c64 x y ∧ c64 x y ≤ 1 ∧ c64 x y = - c64 y x := by unfold c64; (repeat split) <;> omega
theorem tcmp_neg (a b c x y z : Int) : tcmp a b c x y z < 0 ↔ a < x ∨ (a = x ∧ (b < y ∨ (b = y ∧ c < z))) := by
  have h1 := c64_neg a x; have h2 := c64_zero a x; have h3 := c64_neg b y; have h4 := c64_zero b y; have h5 := c64_neg c z
  unfold tcmp or3
  generalize c64 a x = p at *; generalize c64 b y = q at *; generalize c64 c z = r at *
  (repeat split) <;> omega
theorem tcmp_zero (a b c x y z : Int) : tcmp a b c x y z = 0 ↔ a = x ∧ b = y ∧ c = z := by
  have h2 := c64_zero a x; have h4 := c64_zero b y; have h5 := c64_zero c z
  unfold tcmp or3
  generalize c64 a x = p at *; generalize c64 b y = q at *; generalize c64 c z = r at *
  (repeat split) <;> omega
theorem tcmp_bd (a b c x y z : Int) : -1 ≤ tcmp a b c x y z ∧ tcmp a b c x y z ≤ 1 ∧ tcmp a b c x y z = - tcmp x y z a b c := by
  have h1 := c64_bd a x; have h2 := c64_bd b y; have h3 := c64_bd c z
  unfold tcmp or3
  generalize c64 a x = p at *; generalize c64 b y = q at *; generalize c64 c z = r at *
  generalize c64 x a = p' at *; generalize c64 y b = q' at *; generalize c64 z c = r' at *
  (repeat split) <;> omega
theorem tcm_zero (s t : Tm) : tcm s t = 0 ↔ s = t := by
  unfold tcm
  rw [tcmp_zero]
  exact ⟨fun h => tm_ext h.1 h.2.1 h.2.2, fun h => by subst h; exact ⟨rfl, rfl, rfl⟩⟩
theorem tcm_bd (s t : Tm) : -1 ≤ tcm s t ∧ tcm s t ≤ 1 ∧ tcm s t = - tcm t s := tcmp_bd _ _ _ _ _ _
theorem tol_iff (s t : Tm) : tol s t = true ↔ s.1.1 < t.1.1 ∨ (s.1.1 = t.1.1 ∧ (s.1.2.1 < t.1.2.1 ∨ (s.1.2.1 = t.1.2.1 ∧ s.1.2.2 < t.1.2.2))) := by
  unfold tol tcm
  rw [decide_eq_true_iff]
  exact tcmp_neg _ _ _ _ _ _
theorem tol_not (s t : Tm) : tol s t = false ↔ ¬ (s.1.1 < t.1.1 ∨ (s.1.1 = t.1.1 ∧ (s.1.2.1 < t.1.2.1 ∨ (s.1.2.1 = t.1.2.1 ∧ s.1.2.2 < t.1.2.2)))) := by
  rw [← tol_iff, Bool.not_eq_true]
theorem ords : Ords bel tol where
  refl a := by rw [bel_iff]; omega
  trans a b c h1 h2 := by rw [bel_iff] at *; omega
  anti a b h1 h2 := by
    rw [bel_iff] at *
    exact tm_ext (by omega) (by omega) (by omega)
  irr a := by rw [tol_not]; omega
  tr a b c h1 h2 := by rw [tol_iff] at *; omega
  tot a b hne h := by
    rw [tol_not] at h
    rw [tol_iff]
    have : ¬ (a.1.1 = b.1.1 ∧ a.1.2.1 = b.1.2.1 ∧ a.1.2.2 = b.1.2.2) := fun e => hne (tm_ext e.1 e.2.1 e.2.2)
    omega
theorem bel_tol {a b : Tm} (h : bel a b = true) (hne : a ≠ b) : tol a b = true := by
  rw [bel_iff] at h
  rw [tol_iff]
  have : ¬ (a.1.1 = b.1.1 ∧ a.1.2.1 = b.1.2.1 ∧ a.1.2.2 = b.1.2.2) := fun e => hne (tm_ext e.1 e.2.1 e.2.2)
  omega

/-- Times as keys. -/
theorem wideTm : (match Tryz.prog.underlying 37 with | some (.array _ _) | some (.struct _) => true | _ => false) = true := by kernel_rfl
theorem rowTm : (37 : TypeId) < Tryz.prog.types.size := of_decide_eq_true (by kernel_rfl)
set_option maxRecDepth 100000 in
theorem lawTm : WideMaps.KeyLaw Tryz.prog 37 := deep_law_laid laidOut (m := 3) (by omega) rowTm (by kernel_rfl) wideTm
theorem cellsTm : Tryz.prog.cellsOf 37 = 3 := by kernel_rfl
theorem cellsU64 : Tryz.prog.cellsOf 35 = 1 := by kernel_rfl
theorem keyTTm : Tryz.prog.keyType 37 = true := by kernel_rfl
theorem litsInt {t : TypeId} {q : IntKind} (hu : Tryz.prog.underlying t = some (.int q)) (d : Nat) (n : Int) (h : (Lit.int q n).wf = true) : Tryz.prog.keyLits (d + 1) t [.int q n] = some [.int q n] := by
  unfold Program.keyLits
  simp only [hu]
  simp [h]
theorem litsInt' {t : TypeId} {q : IntKind} (hu : Tryz.prog.underlying t = some (.int q)) (d : Nat) {x : Value} {ls : List Lit} (h : Tryz.prog.keyLits (d + 1) t [x] = some ls) : ∃ n, x = .int q n ∧ (Lit.int q n).wf = true ∧ ls = [.int q n] := by
  unfold Program.keyLits at h
  simp only [hu] at h
  split at h <;> simp_all
theorem litsTm (d : Nat) (x y z : Value) : Tryz.prog.keyLits (d + 2) 37 [x, y, z] = (do let a ← Tryz.prog.keyLits (d + 1) 35 [x]; let b ← Tryz.prog.keyLits (d + 1) 35 [y]; let c ← Tryz.prog.keyLits (d + 1) 35 [z]; pure (a ++ (b ++ c))) := by
  conv => lhs; unfold Program.keyLits
  simp only [Tryz.underlying37, cellsTm]
  simp [cellsU64]
  cases Tryz.prog.keyLits (d + 1) 35 [x] <;> cases Tryz.prog.keyLits (d + 1) 35 [y] <;> cases Tryz.prog.keyLits (d + 1) 35 [z] <;> simp
theorem sizeTm : ∃ d, Tryz.prog.types.size + 1 = d + 2 := ⟨Tryz.prog.types.size - 1, by have h : (37 : Nat) < Tryz.prog.types.size := rowTm; omega⟩
theorem keyTm (p : Tm) : keyOf Tryz.prog 37 (tv p) = some (.string (keyBytes [.int .u64 p.1.1, .int .u64 p.1.2.1, .int .u64 p.1.2.2])) := by
  obtain ⟨d, hd⟩ := sizeTm
  have h1 := litsInt Tryz.underlying35 d p.1.1 p.2.1
  have h2 := litsInt Tryz.underlying35 d p.1.2.1 p.2.2.1
  have h3 := litsInt Tryz.underlying35 d p.1.2.2 p.2.2.2
  have hf : (tv p).formed Tryz.prog 37 = true := by simp [Value.formed, Tryz.underlying37, cellsTm]
  unfold keyOf
  rw [Tryz.underlying37]
  simp only [keyTTm, hf, Bool.and_self, if_true, hd]
  simp only [Value.cells, litsTm, h1, h2, h3]
  simp
set_option maxRecDepth 100000 in
theorem invTm (v : Value) (l : Lit) (h : keyOf Tryz.prog 37 v = some l) : ∃ p : Tm, v = tv p := by
  obtain ⟨d, hd⟩ := sizeTm
  unfold keyOf at h
  rw [Tryz.underlying37] at h
  simp only [keyTTm, Bool.true_and] at h
  split at h
  · next hf =>
    cases v <;> simp [Value.formed, Tryz.underlying37, cellsTm] at hf
    next cs =>
    obtain ⟨cs⟩ := cs
    match cs, hf with
    | [x, y, z], _ =>
      simp only [Value.cells, hd, litsTm] at h
      cases h1 : Tryz.prog.keyLits (d + 1) 35 [x] with
      | none => simp [h1] at h
      | some a =>
        cases h2 : Tryz.prog.keyLits (d + 1) 35 [y] with
        | none => simp [h1, h2] at h
        | some b =>
          cases h3 : Tryz.prog.keyLits (d + 1) 35 [z] with
          | none => simp [h1, h2, h3] at h
          | some c =>
            obtain ⟨n1, rfl, w1, _⟩ := litsInt' Tryz.underlying35 d h1
            obtain ⟨n2, rfl, w2, _⟩ := litsInt' Tryz.underlying35 d h2
            obtain ⟨n3, rfl, w3, _⟩ := litsInt' Tryz.underlying35 d h3
            exact ⟨⟨(n1, n2, n3), w1, w2, w3⟩, rfl⟩
  · cases h
def ZT : KK Tryz.prog 37 Tm where
  enc := tv
  lit p := .string (keyBytes [.int .u64 p.1.1, .int .u64 p.1.2.1, .int .u64 p.1.2.2])
  law := Keyed.of_law lawTm
  key := keyTm
  inv v l h := by
    obtain ⟨p, rfl⟩ := invTm v l h
    rw [keyTm p] at h
    exact ⟨p, rfl, (Option.some.inj h).symm⟩
  inj p q h := by
    have e := lawTm.inj (keyTm p) ((keyTm q).trans (congrArg some h.symm))
    obtain ⟨⟨a, b, c⟩, _⟩ := p
    obtain ⟨⟨a', b', c'⟩, _⟩ := q
    simp at e
    obtain ⟨rfl, rfl, rfl⟩ := e
    rfl

/-- A function as a value. -/
abbrev fv (f : Nat) : Value := .func (.func f) #[] #[]
/-- A function that answers r. -/
structure FnOk (f : Nat) (r : Tm → Tm → Bool) : Prop where
  enter : ∀ args w, (callFunc f args).run Tryz.prog w = .ok (.enter f args) w
  calls : ∀ (a b : Tm) (W : World), Calls Tryz.prog f #[tv a, tv b] W fun e w' => e = .returned (.bool (r a b)) ∧ Gr W w'
theorem ahead_ok : FnOk 27 bel :=
  ⟨enters_of Tryz.func27 (by kernel_rfl) rfl, fun a b W => Ahead_any _ _ _ _ _ _ W⟩
set_option maxHeartbeats 1000000 in
theorem told_ok : FnOk 23 tol := by
  refine ⟨enters_of Tryz.func23 (by kernel_rfl) rfl, fun a b W => ?_⟩
  have h := fun W => Compare_any a.1.1 a.1.2.1 a.1.2.2 b.1.1 b.1.2.1 b.1.2.2 W
  unfold tol
  rw [show tcmp a.1.1 a.1.2.1 a.1.2.2 b.1.1 b.1.2.1 b.1.2.2 = tcm a b from rfl] at h
  generalize tcm a b = r at h ⊢
  go_enter Tryz.func23, Tryz.ntmps23
  go_wp2_with fail
  refine (h _).mono ?_
  rintro e w' ⟨rfl, hg⟩
  go_wp2
  go_ret
  exact ⟨rfl, (((Gr.refl _).alloc _).alloc _).trans hg⟩
end Go.Proofs.YtnpmmodcmfgbjaaGreat

namespace Go.Proofs.YtnpmmodcmfgbjaaGreat.Tt
open Go.RowKit Go.Sort Go.Maps
attribute [local go_sem ↓] Go.wp_at_zero Go.wp_at_succ

theorem zeroE (w : World) : (zeroValue 2).run Tryz.prog w = .ok (.int .i64 0) w := by kernel_rfl

def byd (n : Int) : Bool := decide (n < -2147483647) || decide (2147483647 < n)
theorem byd_f {n : Int} : byd n = false ↔ -2147483647 ≤ n ∧ n ≤ 2147483647 := by unfold byd; simp
theorem byd_t {n : Int} : byd n = true ↔ n < -2147483647 ∨ 2147483647 < n := by unfold byd; simp
theorem beyond_any (n : Int) (w : World) : Calls Tryz.prog 74 #[.int .i64 n] w fun e w' => e = .returned (.bool (byd n)) ∧ w' = w := by
  unfold byd
  go_enter Tryz.func74, Tryz.ntmps74
  go_wp2
  all_goals (go_ret; refine ⟨?_, rfl⟩; simp_all)


/-- A tally: its order's function, its counts. -/
structure Tl (w : World) (tb b g n : Nat) (f : Tm → Int) : Prop where
  blk : w.heap[tb]? = some (.cells #[fv g, .map (some b)] 99 (0, 0))
  ta : Ta ZT 2 w b n f
  bd : ∀ s, -2147483647 ≤ f s ∧ f s ≤ 2147483647
section
variable {w w' : World} {tb b g n : Nat} {f : Tm → Int}
theorem Tl.lt (h : Tl w tb b g n f) : tb < w.heap.size := (Array.getElem?_eq_some_iff.1 h.blk).1
theorem Tl.c0 (h : Tl w tb b g n f) : w.cell? ⟨tb, 0, none⟩ = some (fv g) := by simp [World.cell?, h.blk]
theorem Tl.c1 (h : Tl w tb b g n f) : w.cell? ⟨tb, 1, none⟩ = some (.map (some b)) := by simp [World.cell?, h.blk]
theorem Tl.fz (h : Tl w tb b g n f) : w.frozen? ⟨tb, 1, none⟩ = false := by simp [World.frozen?, h.blk]
theorem Tl.ne (h : Tl w tb b g n f) : tb ≠ b := fun e => by
  obtain ⟨D, ⟨es, clock, hb, _⟩, _⟩ := h.ta
  rw [← e, h.blk] at hb
  cases hb
theorem Tl.kp {S : Nat → Prop} (h : Tl w tb b g n f) (hk : Kp S w w') (h1 : ¬ S tb) (h2 : ¬ S b) : Tl w' tb b g n f :=
  ⟨(hk.block tb h.lt h1).trans h.blk, h.ta.kept (hk.block b h.ta.lt h2), h.bd⟩
theorem Tl.below (h : Tl w tb b g n f) (hb : Below w.heap.size w w') : Tl w' tb b g n f := h.kp (S := fun _ => False) (Kp.of_below hb) (fun h => h) (fun h => h)
theorem Tl.gr (h : Tl w tb b g n f) (hb : Gr w w') : Tl w' tb b g n f := h.below hb.below
end

theorem new_any (g : Nat) (w : World) : Calls Tryz.prog 46 #[fv g] w fun e w' => e = .returned (.pointer (some ⟨w.heap.size + 1, 0, none⟩)) ∧ Tl w' (w.heap.size + 1) w.heap.size g 0 (fun _ => 0) ∧ Gr w w' := by
  have hmm := @run_makeMap Tryz.prog
  go_enter Tryz.func46, Tryz.ntmps46
  go_wp2
  go_ret
  refine ⟨rfl, ⟨?_, ?_, fun _ => ?_⟩, ((Gr.refl _).alloc _).alloc _⟩
  · exact heap_alloc2_new _ _ _
  · exact (Ta.made w).kept ((heap_alloc2_old _ _ _).trans (MapKept.heap_alloc w _).1.symm)
  · decide

theorem recover_idle (w : World) : CallsD Tryz.prog 80 #[] .returning w fun e u' w' => e = .returned (.tuple #[]) ∧ u' = .returning ∧ w' = w := by
  refine callsD_of_wpS Tryz.func80 rfl fun c₀ cs hu => ?_
  apply wpS_region
  simp [wpOpsS, go_sem, recoverD, hu, Tryz.ntmps80, bodyPostS, results, Tryz.results80]
  cases c₀
  simp_all
/-- The box of a key. -/
abbrev bx (x : Tm) (w : World) : World := w.alloc (.cells #[.int .u64 x.1.1, .int .u64 x.1.2.1, .int .u64 x.1.2.2] 37)
set_option maxHeartbeats 1000000 in
theorem count_any {tb b g n : Nat} {f : Tm → Int} (x : Tm) (w : World) (h : Tl w tb b g n f) :
    Calls Tryz.prog 71 #[.pointer (some ⟨tb, 0, none⟩), tv x] w fun e w' => e = .returned (.tuple #[.int .i64 (f x), .bool true]) ∧ Gr w w' := by
  have hmx : Tryz.prog.follows .mixedOrders = true := by kernel_rfl
  have HT : Hid (Tl (bx x w).drew tb b g n f) := (h.gr ((Gr.refl _).alloc _)).gr (Gr.refl _).drew
  have hblk : (bx x w).heap[w.heap.size]? = some (.cells #[.int .u64 x.1.1, .int .u64 x.1.2.1, .int .u64 x.1.2.2] 37 (0, 0)) := heap_alloc_new _ _
  have S0 : (bx x w).drew.cell? ⟨tb, 1, none⟩ = some (.map (some b)) ∧ (bx x w).drew.cell? ⟨w.heap.size, 0, none⟩ = some (.int .u64 x.1.1) ∧ (bx x w).drew.cell? ⟨w.heap.size, 1, none⟩ = some (.int .u64 x.1.2.1) ∧ (bx x w).drew.cell? ⟨w.heap.size, 2, none⟩ = some (.int .u64 x.1.2.2) := by
    refine ⟨HT.out.c1, ?_, ?_, ?_⟩ <;> (show (bx x w).cell? _ = _; simp only [World.cell?]; rw [hblk]; rfl)
  obtain ⟨D, hown, h1, h2⟩ := HT.out.ta
  have hx := h1 x
  obtain ⟨c, hrun, hat, _⟩ := hown.lookup_int ZT.law Tryz.underlying92 Tryz.underlying2 (zeroE _) (ZT.key x)
  have e0 : c = f x := by
    rw [hx] at hat
    simpa using hat.symm
  subst e0
  have hrun : (Instr.lookup 92 (.map (some b)) (tv x) false).run Tryz.prog (bx x w).drew = .ok (.int .i64 (f x)) (bx x w).drew := hrun
  have hG : Gr w (bx x w).drew := ((Gr.refl _).alloc _).drew
  clear hx hat h1 h2 hown h HT hblk
  generalize f x = r at hrun ⊢
  go_enter_defers Tryz.func71, Tryz.ntmps71
  go_wp2_with fail
  go_region_held3 (fun w' => w'.cell? ⟨tb, 1, none⟩ = some (.map (some b)) ∧ w'.cell? ⟨w.heap.size, 0, none⟩ = some (.int .u64 x.1.1) ∧ w'.cell? ⟨w.heap.size, 1, none⟩ = some (.int .u64 x.1.2.1) ∧ w'.cell? ⟨w.heap.size, 2, none⟩ = some (.int .u64 x.1.2.2))
    (first | exact S0) (fail)
  go_wp2
  refine leaves_cons (f := 80) (args := #[]) (by simp) (by simp [go_sem]) ?_
  refine (recover_idle _).mono ?_
  rintro e u' w'' ⟨rfl, rfl, rfl⟩
  simp [Leaves, settle, results, Tryz.results71, go_sem]
  exact hG
theorem bx_cells (x : Tm) (w : World) : (bx x w).cell? ⟨w.heap.size, 0, none⟩ = some (.int .u64 x.1.1) ∧ (bx x w).cell? ⟨w.heap.size, 1, none⟩ = some (.int .u64 x.1.2.1) ∧ (bx x w).cell? ⟨w.heap.size, 2, none⟩ = some (.int .u64 x.1.2.2) := by
  have hblk : (bx x w).heap[w.heap.size]? = some (.cells #[.int .u64 x.1.1, .int .u64 x.1.2.1, .int .u64 x.1.2.2] 37 (0, 0)) := heap_alloc_new _ _
  refine ⟨?_, ?_, ?_⟩ <;> (simp only [World.cell?]; rw [hblk]; rfl)
set_option maxHeartbeats 4000000 in
set_option maxRecDepth 100000 in
theorem set_any {tb b g n : Nat} {f : Tm → Int} (x : Tm) (v : Int) (w : World) (h : Tl w tb b g n f) (hn : n < maxLen) (hv : -2147483647 ≤ v ∧ v ≤ 2147483647) :
    Calls Tryz.prog 75 #[.pointer (some ⟨tb, 0, none⟩), tv x, .int .i64 v] w fun e w' => e = .returned (.tuple #[]) ∧ Tl w' tb b g (n + 1) (upd f x v) ∧ Kp (fun k => k = b) w w' := by
  have hmx : Tryz.prog.follows .mixedOrders = true := by kernel_rfl
  have HT : Hid (Tl (bx x w).drew tb b g n f) := (h.gr ((Gr.refl _).alloc _)).gr (Gr.refl _).drew
  have HG : Hid (Gr w (bx x w).drew) := ((Gr.refl _).alloc _).drew
  have S0 : (bx x w).drew.cell? ⟨tb, 1, none⟩ = some (.map (some b)) ∧ (bx x w).drew.cell? ⟨w.heap.size, 0, none⟩ = some (.int .u64 x.1.1) ∧ (bx x w).drew.cell? ⟨w.heap.size, 1, none⟩ = some (.int .u64 x.1.2.1) ∧ (bx x w).drew.cell? ⟨w.heap.size, 2, none⟩ = some (.int .u64 x.1.2.2) :=
    ⟨HT.out.c1, (bx_cells x w).1, (bx_cells x w).2.1, (bx_cells x w).2.2⟩
  have hbd' : ∀ s, -2147483647 ≤ upd f x v s ∧ upd f x v s ≤ 2147483647 := fun s => by unfold upd; split; exact hv; exact h.bd s
  have HBD : Hid (∀ s, -2147483647 ≤ upd f x v s ∧ upd f x v s ≤ 2147483647) := hbd'
  obtain ⟨D, hown, h1, h2⟩ := HT.out.ta
  have hne := HT.out.ne
  have hlt := HT.out.lt
  have hbl : b < w.heap.size := h.ta.lt
  have hbx : w.heap.size < (bx x w).drew.heap.size := by show w.heap.size < (bx x w).heap.size; simp
  clear h hbd'
  by_cases h0 : v = 0
  · subst h0
    have ht := del_tied h1 h2 x
    obtain ⟨w1, hrun, hown1, hturn1⟩ := hown.drop ZT.law Tryz.underlying92 (ZT.key x) 0
    have hrun : Sem.run Tryz.prog (Builtin.delete_ #[92, 37] 0 #[.map (some b), tv x]) (bx x w).drew = .ok (.tuple #[]) w1 := hrun
    have HGB : Hid ((bx x w).drew.grownBy w1 (some b)) := hturn1.grown
    have S1 : w1.cell? ⟨tb, 1, none⟩ = some (.map (some b)) ∧ w1.cell? ⟨w.heap.size, 0, none⟩ = some (.int .u64 x.1.1) ∧ w1.cell? ⟨w.heap.size, 1, none⟩ = some (.int .u64 x.1.2.1) ∧ w1.cell? ⟨w.heap.size, 2, none⟩ = some (.int .u64 x.1.2.2) := by
      have e1 : ∀ q, w1.cell? ⟨tb, q, none⟩ = (bx x w).drew.cell? ⟨tb, q, none⟩ := fun q => World.cell?_of_block (a := ⟨tb, q, none⟩) (HGB.out.block tb hlt (by simp [hne]))
      have e2 : ∀ q, w1.cell? ⟨w.heap.size, q, none⟩ = (bx x w).drew.cell? ⟨w.heap.size, q, none⟩ := fun q => World.cell?_of_block (a := ⟨w.heap.size, q, none⟩) (HGB.out.block w.heap.size hbx (by simp; omega))
      exact ⟨(e1 1).trans S0.1, (e2 0).trans S0.2.1, (e2 1).trans S0.2.2.1, (e2 2).trans S0.2.2.2⟩
    have HE : Hid (Tl w1 tb b g (n + 1) (upd f x 0) ∧ Kp (fun k => k = b) w w1) :=
      ⟨⟨(HGB.out.block tb hlt (by simp [hne])).trans HT.out.blk, ⟨_, hown1.mono (Nat.le_succ _), ht.1, ht.2⟩, HBD.out⟩, (Kp.of_gr (S := fun k => k = b) HG.out).trans (Kp.grownBy (S := fun k => k = b) HGB.out (fun k hk => by simpa using hk.symm)) (fun _ _ h => h)⟩
    clear h1 h2 hown hown1 hturn1 HGB HBD HT HG hlt hbx
    go_enter Tryz.func75, Tryz.ntmps75
    go_wp2_with fail
    go_region_held3 (fun w' => w'.cell? ⟨tb, 1, none⟩ = some (.map (some b)) ∧ w'.cell? ⟨w.heap.size, 0, none⟩ = some (.int .u64 x.1.1) ∧ w'.cell? ⟨w.heap.size, 1, none⟩ = some (.int .u64 x.1.2.1) ∧ w'.cell? ⟨w.heap.size, 2, none⟩ = some (.int .u64 x.1.2.2))
      (first | exact S0 | exact S1) (fail)
    go_wp2
    refine bodyPost_ret (results_none rfl _ _ _) rfl ?_
    exact ⟨rfl, HE.out.1, HE.out.2⟩
  · have ht := put_tied (hown.isMap) h1 h2 x v h0
    have hwf : (Lit.int .i64 v).wf = true := WalkArith.wf_i64 (by omega)
    obtain ⟨w1, hrun, hown1, hturn1⟩ := hown.store ZT.law Tryz.underlying92 hn (ZT.key x) (plainElem_int Tryz.underlying2 hwf)
    have hrun : (Instr.mapUpdate 92 (.map (some b)) (tv x) (.int .i64 v)).run Tryz.prog (bx x w).drew = .ok () w1 := hrun
    have HGB : Hid ((bx x w).drew.grownBy w1 (some b)) := hturn1.grown
    have S1 : w1.cell? ⟨tb, 1, none⟩ = some (.map (some b)) ∧ w1.cell? ⟨w.heap.size, 0, none⟩ = some (.int .u64 x.1.1) ∧ w1.cell? ⟨w.heap.size, 1, none⟩ = some (.int .u64 x.1.2.1) ∧ w1.cell? ⟨w.heap.size, 2, none⟩ = some (.int .u64 x.1.2.2) := by
      have e1 : ∀ q, w1.cell? ⟨tb, q, none⟩ = (bx x w).drew.cell? ⟨tb, q, none⟩ := fun q => World.cell?_of_block (a := ⟨tb, q, none⟩) (HGB.out.block tb hlt (by simp [hne]))
      have e2 : ∀ q, w1.cell? ⟨w.heap.size, q, none⟩ = (bx x w).drew.cell? ⟨w.heap.size, q, none⟩ := fun q => World.cell?_of_block (a := ⟨w.heap.size, q, none⟩) (HGB.out.block w.heap.size hbx (by simp; omega))
      exact ⟨(e1 1).trans S0.1, (e2 0).trans S0.2.1, (e2 1).trans S0.2.2.1, (e2 2).trans S0.2.2.2⟩
    have HE : Hid (Tl w1 tb b g (n + 1) (upd f x v) ∧ Kp (fun k => k = b) w w1) :=
      ⟨⟨(HGB.out.block tb hlt (by simp [hne])).trans HT.out.blk, ⟨_, hown1, ht.1, ht.2⟩, HBD.out⟩, (Kp.of_gr (S := fun k => k = b) HG.out).trans (Kp.grownBy (S := fun k => k = b) HGB.out (fun k hk => by simpa using hk.symm)) (fun _ _ h => h)⟩
    clear h1 h2 hown hown1 hturn1 HGB HBD HT HG hlt hbx
    go_enter Tryz.func75, Tryz.ntmps75
    go_wp2_with fail
    go_region_held3 (fun w' => w'.cell? ⟨tb, 1, none⟩ = some (.map (some b)) ∧ w'.cell? ⟨w.heap.size, 0, none⟩ = some (.int .u64 x.1.1) ∧ w'.cell? ⟨w.heap.size, 1, none⟩ = some (.int .u64 x.1.2.1) ∧ w'.cell? ⟨w.heap.size, 2, none⟩ = some (.int .u64 x.1.2.2))
      (first | exact S0 | exact S1) (fail)
    go_wp2
    go_end0
    exact ⟨rfl, HE.out.1, HE.out.2⟩
theorem bx_keep {x : Tm} {w w2 : World} (h : Gr (bx x w) w2) : w2.cell? ⟨w.heap.size, 0, none⟩ = some (.int .u64 x.1.1) ∧ w2.cell? ⟨w.heap.size, 1, none⟩ = some (.int .u64 x.1.2.1) ∧ w2.cell? ⟨w.heap.size, 2, none⟩ = some (.int .u64 x.1.2.2) := by
  have hz : w.heap.size < (bx x w).heap.size := by simp
  exact ⟨(h.cell hz).trans (bx_cells x w).1, (h.cell hz).trans (bx_cells x w).2.1, (h.cell hz).trans (bx_cells x w).2.2⟩
def addc (f : Tm → Int) (x : Tm) (v : Int) : Int := if byd v = true ∨ byd (f x + v) = true then 12 else 0
def addf (f : Tm → Int) (x : Tm) (v : Int) : Tm → Int := if byd v = true ∨ byd (f x + v) = true then f else upd f x (f x + v)
set_option maxHeartbeats 4000000 in
theorem add_any {tb b g n : Nat} {f : Tm → Int} (x : Tm) (v : Int) (w : World) (h : Tl w tb b g n f) (hn : n < maxLen) :
    Calls Tryz.prog 61 #[.pointer (some ⟨tb, 0, none⟩), tv x, .int .i64 v] w fun e w' => e = .returned (.int .i64 (addc f x v)) ∧ Tl w' tb b g (n + 1) (addf f x v) ∧ Kp (fun k => k = b) w w' := by
  have hb := h.bd x
  have HG : Hid (Gr w (bx x w)) := (Gr.refl _).alloc _
  have HT : Hid (Tl (bx x w) tb b g n f) := h.gr HG.out
  have hco := count_any x (bx x w) HT.out
  have hset := fun (W : World) (hW : Gr (bx x w) W) (hv : -2147483647 ≤ f x + v ∧ f x + v ≤ 2147483647) => set_any x (f x + v) W (HT.out.gr hW) hn hv
  have h1 := fun W => beyond_any v W
  have h2 := fun W => beyond_any (f x + v) W
  have HKP : Hid (∀ W, Gr (bx x w) W → Kp (fun k => k = b) w W) := fun W hW => (Kp.of_gr (HG.out.trans hW))
  unfold addc addf
  clear h
  cases hv : byd v with
  | true =>
    rw [hv] at h1
    clear hv
    rw [if_pos (Or.inl rfl), if_pos (Or.inl rfl)]
    go_enter Tryz.func61, Tryz.ntmps61
    go_wp2_with fail
    refine (h1 _).mono ?_
    rintro e w1 ⟨rfl, rfl⟩
    go_wp2
    go_ret
    exact ⟨rfl, ⟨HT.out.blk, HT.out.ta.mono (Nat.le_succ _), HT.out.bd⟩, HKP.out _ (Gr.refl _)⟩
  | false =>
    have hv' := byd_f.1 hv
    rw [hv] at h1
    clear hv
    cases hv2 : byd (f x + v) with
    | true =>
      rw [hv2] at h2
      clear hv2 hset
      rw [if_pos (Or.inr rfl), if_pos (Or.inr rfl)]
      generalize f x = c at *
      go_enter Tryz.func61, Tryz.ntmps61
      go_wp2_with fail
      refine (h1 _).mono ?_
      rintro e w1 ⟨rfl, rfl⟩
      go_wp2_with fail
      refine hco.mono ?_
      rintro e w2 ⟨rfl, g2⟩
      go_wp2_with fail
      refine (h2 _).mono ?_
      rintro e w3 ⟨rfl, rfl⟩
      go_wp2
      go_ret
      have ht := HT.out.gr g2
      exact ⟨rfl, ⟨ht.blk, ht.ta.mono (Nat.le_succ _), ht.bd⟩, HKP.out _ g2⟩
    | false =>
      have hv3 := byd_f.1 hv2
      rw [hv2] at h2
      clear hv2
      rw [if_neg (by simp), if_neg (by simp)]
      have hset2 := fun W hW => hset W hW hv3
      clear hset
      generalize f x = c at *
      go_enter Tryz.func61, Tryz.ntmps61
      go_wp2_with fail
      refine (h1 _).mono ?_
      rintro e w1 ⟨rfl, rfl⟩
      go_wp2_with fail
      refine hco.mono ?_
      rintro e w2 ⟨rfl, g2⟩
      obtain ⟨c0, c1, c2⟩ := bx_keep g2
      go_wp2_with fail
      refine (h2 _).mono ?_
      rintro e w3 ⟨rfl, rfl⟩
      go_wp2_with fail
      refine (hset2 _ g2).mono ?_
      rintro e w4 ⟨rfl, ht, hk⟩
      go_wp2
      go_ret
      exact ⟨rfl, ht, (HKP.out _ g2).trans hk (fun _ _ h => h)⟩
theorem get_any {tb b g n : Nat} {f : Tm → Int} (x : Tm) (w : World) (h : Tl w tb b g n f) :
    Calls Tryz.prog 55 #[.pointer (some ⟨tb, 0, none⟩), tv x] w fun e w' => e = .returned (.int .i64 (f x)) ∧ Gr w w' := by
  have HG : Hid (Gr w (bx x w)) := (Gr.refl _).alloc _
  have hco := count_any x (bx x w) (h.gr HG.out)
  generalize f x = c at hco ⊢
  clear h
  go_enter Tryz.func55, Tryz.ntmps55
  go_wp2_with fail
  refine hco.mono ?_
  rintro e w1 ⟨rfl, g1⟩
  go_wp2
  go_ret
  exact ⟨rfl, HG.out.trans g1⟩
theorem len_any {tb b g n : Nat} {f : Tm → Int} (w : World) (h : Tl w tb b g n f) :
    Calls Tryz.prog 56 #[.pointer (some ⟨tb, 0, none⟩)] w fun e w' => ∃ ks : List Tm, Sup f ks ∧ e = .returned (.int .i64 ks.length) ∧ w' = w := by
  have c1 := h.c1
  obtain ⟨D, hown, h1, h2⟩ := h.ta
  obtain ⟨ks, hks, hl⟩ := owns_sup hown h2
  have hlen := fun ty => hown.len Tryz.underlying92 ty
  clear h h1 h2 hown
  go_enter Tryz.func56, Tryz.ntmps56
  go_wp2
  go_ret
  exact ⟨ks, hks, by rw [hl]; rfl, rfl⟩
end Go.Proofs.YtnpmmodcmfgbjaaGreat.Tt
