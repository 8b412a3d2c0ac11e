import Derived.Test.YthbdbmbdfhbeiaaGreatRows
import Derived.Test.YthbdbmbdfhbeiaaGreatYMap
import Derived.WalkKit
import Derived.WalkSpells
import Derived.Deep.RegionHeld3
import Derived.Deep.DrawnRows
import Derived.Deep.QuietTactic
import Derived.BigQuiet
import Derived.Shelf.SlSortCmp.Kit1
namespace Go.Proofs.YthbdbmbdfhbeiaaGreat
open Go.RowKit Go.Sort Go.Maps
attribute [local go_sem ↓] Go.wp_at_zero Go.wp_at_succ

/-- A text. -/
abbrev BS := { s : ByteArray // s.size ≤ maxLen }
abbrev sv (x : BS) : Value := .string x.1
instance : Inhabited BS := ⟨⟨ByteArray.empty, by decide⟩⟩
theorem bs_ext {x y : BS} (h : x.1.toList = y.1.toList) : x = y := by
  rw [ByteArray.toList_eq, ByteArray.toList_eq] at h
  apply Subtype.ext
  apply ByteArray.ext
  exact Array.toList_inj.1 h
theorem bs_eq (x y : BS) : (x.1.toList == y.1.toList) = decide (x = y) := by
  by_cases h : x = y
  · subst h; simp
  · rw [decide_eq_false h, beq_eq_false_iff_ne]; exact fun e => h (bs_ext e)

theorem bytesLess_lt : ∀ (x y : List UInt8), Op.bytesLess x y = decide (x < y)
  | [], [] => by simp [Op.bytesLess]
  | _ :: _, [] => by simp [Op.bytesLess]
  | [], _ :: _ => by simp [Op.bytesLess]
  | a :: x, b :: y => by
    rw [Op.bytesLess, bytesLess_lt x y]
    by_cases h1 : a < b
    · simp [h1, List.cons_lt_cons_iff]
    · by_cases h2 : a = b
      · subst h2; simp
      · simp [h1, h2, List.cons_lt_cons_iff]
/-- x ahead of y, byte by byte. -/
def bl (x y : BS) : Bool := Op.bytesLess x.1.toList y.1.toList
theorem bl_iff (x y : BS) : bl x y = true ↔ x.1.toList < y.1.toList := by unfold bl; rw [bytesLess_lt]; simp
theorem bl_irrefl (x : BS) : bl x x = false := by rw [← Bool.not_eq_true, bl_iff]; exact List.lt_irrefl _
theorem bl_trans {x y z : BS} (h1 : bl x y = true) (h2 : bl y z = true) : bl x z = true := by rw [bl_iff] at *; exact List.lt_trans h1 h2
theorem bl_total {x y : BS} (h1 : bl x y = false) (h2 : bl y x = false) : x = y := by
  rw [← Bool.not_eq_true, bl_iff] at h1 h2
  exact bs_ext (List.le_antisymm (List.not_lt.1 h2) (List.not_lt.1 h1))

/-- A key of the document: a text and a number. -/
abbrev kv (x : BS) (n : Int) : Value := .agg #[.string x.1, .int .i64 n]
def ris (x : BS) (m : Int) (y : BS) (n : Int) : Int := if bl x y = true ∨ (x = y ∧ m < n) then -1 else if x = y ∧ m = n then 0 else 1
def keq (x : BS) (m : Int) (y : BS) (n : Int) : Bool := decide (x = y) && (m == n)
theorem run_eqK (x y : BS) (m n : Int) (w : World) : Sem.run Tryz.prog (Op.equalIn 10000 49 (kv x m) (kv y n)) w = .ok (keq x m y n) w := by
  have u3 := Tryz.underlying3
  have a3 := Tryz.isAgg3
  have z3 := Tryz.sizeOf3
  have u9 := Tryz.underlying9
  have a9 := Tryz.isAgg9
  have z9 := Tryz.sizeOf9
  have hS : Tryz.prog.underlying 49 = some (.struct (Tryz.prog.fieldsOf 49)) := by kernel_rfl
  have hp : Tryz.prog.stoodInHeld 49 = false := by kernel_rfl
  rw [show (10000 : Nat) = 9999 + 1 from rfl, run_equalIn_agg w 9999 49 _ _ hS hp]
  simp only [Program.fieldsOf, Tryz.underlying49]
  have hb := bs_eq x y
  unfold keq
  go_simp
  by_cases h1 : x = y <;> by_cases h2 : m = n <;> simp [h1, h2]

set_option maxHeartbeats 2000000 in
set_option maxRecDepth 100000 in
theorem rising_any (x y : BS) (m n : Int) (w : World) :
    Calls Tryz.prog 39 #[kv x m, kv y n] w fun e w' => e = .returned (.int .i64 (ris x m y n)) ∧ Gr w w' := by
  have heq := fun W => run_eqK x y m n W
  have hbs := bs_eq x y
  unfold ris
  cases hb : bl x y with
  | true =>
    unfold bl at hb
    rw [if_pos (Or.inl rfl)]
    go_enter Tryz.func39, Tryz.ntmps39
    go_wp2
    all_goals (go_ret; exact ⟨rfl, ((Gr.refl _).alloc _).alloc _⟩)
  | false =>
    unfold bl at hb
    by_cases he : x = y
    · subst he
      by_cases hn : m < n
      · rw [if_pos (Or.inr ⟨rfl, hn⟩)]
        go_enter Tryz.func39, Tryz.ntmps39
        go_wp2
        all_goals (go_ret; exact ⟨rfl, ((Gr.refl _).alloc _).alloc _⟩)
      · rw [if_neg (by simp [hn])]
        by_cases hm : m = n
        · subst hm
          have hk : keq x m x m = true := by simp [keq]
          rw [if_pos ⟨rfl, rfl⟩]
          rw [hk] at heq
          clear hk
          go_enter Tryz.func39, Tryz.ntmps39
          go_wp2
          all_goals (go_ret; exact ⟨rfl, ((Gr.refl _).alloc _).alloc _⟩)
        · have hk : keq x m x n = false := by simp [keq, hm]
          rw [if_neg (by simp [hm])]
          rw [hk] at heq
          clear hk
          go_enter Tryz.func39, Tryz.ntmps39
          go_wp2
          all_goals (go_ret; exact ⟨rfl, ((Gr.refl _).alloc _).alloc _⟩)
    · rw [decide_eq_false he] at hbs
      have hk : keq x m y n = false := by simp [keq, he]
      rw [if_neg (by simp [he]), if_neg (by simp [he])]
      rw [hk] at heq
      clear hk
      go_enter Tryz.func39, Tryz.ntmps39
      go_wp2
      all_goals (go_ret; exact ⟨rfl, ((Gr.refl _).alloc _).alloc _⟩)

/-- The order of the number k. -/
def cfk (k : Int) (x : BS) (m : Int) (y : BS) (n : Int) : Int := if k = 1 then ris y n x m else if k ≠ 0 ∧ x.1.size ≠ y.1.size then (x.1.size : Int) - (y.1.size : Int) else ris x m y n
set_option maxHeartbeats 2000000 in
set_option maxRecDepth 100000 in
theorem Order_any (k : Int) (x y : BS) (m n : Int) (w : World) :
    Calls Tryz.prog 19 #[.int .i64 k, kv x m, kv y n] w fun e w' => e = .returned (.int .i64 (cfk k x m y n)) ∧ Gr w w' := by
  have h1 := fun W => rising_any x y m n W
  have h2 := fun W => rising_any y x n m W
  have hx := x.2
  have hy := y.2
  unfold maxLen at hx hy
  unfold cfk
  by_cases hk : k = 1
  · subst hk
    rw [if_pos rfl]
    generalize ris y n x m = r at h2 ⊢
    generalize ris x m y n = r' at h1
    go_enter Tryz.func19, Tryz.ntmps19
    go_wp2_with fail
    refine (h2 _).mono ?_
    rintro e w1 ⟨rfl, hg⟩
    go_wp2
    go_ret
    exact ⟨rfl, (((Gr.refl _).alloc _).alloc _).trans hg⟩
  · rw [if_neg hk]
    generalize ris y n x m = r' at h2
    generalize ris x m y n = r at h1 ⊢
    by_cases hk0 : k = 0
    · subst hk0
      rw [if_neg (by simp)]
      go_enter Tryz.func19, Tryz.ntmps19
      go_wp2_with fail
      refine (h1 _).mono ?_
      rintro e w1 ⟨rfl, hg⟩
      go_wp2
      go_ret
      exact ⟨rfl, (((Gr.refl _).alloc _).alloc _).trans hg⟩
    · by_cases hs : x.1.size = y.1.size
      · rw [if_neg (by simp [hs])]
        have hsz : ((x.1.size : Int) != (y.1.size : Int)) = false := by simp [hs]
        go_enter Tryz.func19, Tryz.ntmps19
        go_wp2_with fail
        refine (h1 _).mono ?_
        rintro e w1 ⟨rfl, hg⟩
        go_wp2
        go_ret
        exact ⟨rfl, (((Gr.refl _).alloc _).alloc _).trans hg⟩
      · rw [if_pos ⟨hk0, hs⟩]
        have hsz : ((x.1.size : Int) != (y.1.size : Int)) = true := by simp; omega
        go_enter Tryz.func19, Tryz.ntmps19
        go_wp2
        go_ret
        exact ⟨rfl, ((Gr.refl _).alloc _).alloc _⟩
theorem text_any (x : BS) (w : World) : Calls Tryz.prog 53 #[sv x] w fun e w' => e = .returned (kv x 0) ∧ Gr w w' := by
  go_enter Tryz.func53, Tryz.ntmps53
  go_wp2
  refine bodyPost_ret (v := kv x 0) (by simp [results, Tryz.results53, go_sem]) rfl ⟨rfl, ?_⟩
  exact (Gr.refl _).alloc _

/-- A function value of no bound values. -/
abbrev fv (g : Nat) : Value := .func (.func g) #[] #[]
/-- A function that orders by cf. -/
structure OrdOk (g : Nat) (cf : BS → BS → Int) : Prop where
  enter : ∀ args w, (callFunc g args).run Tryz.prog w = .ok (.enter g args) w
  calls : ∀ (x y : BS) (W : World), Calls Tryz.prog g #[sv x, sv y] W fun e w' => e = .returned (.int .i64 (cf x y)) ∧ Gr W w'
  swo : SWO (ltOf cf)
  tot : ∀ x y, ltOf cf x y = false → ltOf cf y x = false → x = y
def cf (k : Int) (x y : BS) : Int := cfk k x 0 y 0
theorem ris_lt (x y : BS) : ris x 0 y 0 < 0 ↔ bl x y = true := by
  unfold ris
  by_cases h : bl x y = true
  · simp [h]
  · rw [if_neg (by simp [h])]
    constructor
    · intro hq; split at hq <;> omega
    · intro hq; exact absurd hq h
theorem swo_of {α : Type} {lt : α → α → Bool} (h1 : ∀ x, lt x x = false) (h2 : ∀ x y z, lt x y = true → lt y z = true → lt x z = true) (h3 : ∀ x y, lt x y = false → lt y x = false → x = y) : SWO lt where
  irrefl := h1
  trans := h2
  ntrans x y z a b := by
    cases hq : lt x z with
    | false => rfl
    | true =>
      cases hyx : lt y x with
      | true => have := h2 y x z hyx hq; rw [b] at this; cases this
      | false => have e := h3 x y a hyx; subst e; rw [b] at hq; cases hq
theorem lt0 (x y : BS) : ltOf (cf 0) x y = bl x y := by
  have h := ris_lt x y
  unfold ltOf cf cfk
  simp only [Int.zero_ne_one, if_false, ne_eq, not_true_eq_false, false_and]
  by_cases hb : bl x y = true
  · rw [hb, decide_eq_true (h.2 hb)]
  · rw [Bool.not_eq_true] at hb; rw [hb, decide_eq_false]; intro hq; rw [h.1 hq] at hb; cases hb
theorem lt1 (x y : BS) : ltOf (cf 1) x y = bl y x := by
  have h := ris_lt y x
  unfold ltOf cf cfk
  simp only [if_true]
  by_cases hb : bl y x = true
  · rw [hb, decide_eq_true (h.2 hb)]
  · rw [Bool.not_eq_true] at hb; rw [hb, decide_eq_false]; intro hq; rw [h.1 hq] at hb; cases hb
theorem lt2 (x y : BS) : ltOf (cf 2) x y = (decide (x.1.size < y.1.size) || (decide (x.1.size = y.1.size) && bl x y)) := by
  have h := ris_lt x y
  unfold ltOf cf cfk
  rw [if_neg (by decide)]
  by_cases hs : x.1.size = y.1.size
  · rw [if_neg (by simp [hs])]
    by_cases hb : bl x y = true
    · rw [hb, decide_eq_true (h.2 hb)]; simp [hs]
    · rw [Bool.not_eq_true] at hb; rw [hb, decide_eq_false]
      · simp; omega
      · intro hq; rw [h.1 hq] at hb; cases hb
  · rw [if_pos ⟨by decide, hs⟩]
    by_cases hl : x.1.size < y.1.size
    · rw [decide_eq_true hl, decide_eq_true]; rfl; omega
    · rw [decide_eq_false hl, decide_eq_false, decide_eq_false hs]; rfl; omega
theorem order_swo : ∀ k : Int, k = 0 ∨ k = 1 ∨ k = 2 → SWO (ltOf (cf k)) ∧ ∀ x y, ltOf (cf k) x y = false → ltOf (cf k) y x = false → x = y := by
  intro k hk
  have : (∀ x, ltOf (cf k) x x = false) ∧ (∀ x y z, ltOf (cf k) x y = true → ltOf (cf k) y z = true → ltOf (cf k) x z = true) ∧ (∀ x y, ltOf (cf k) x y = false → ltOf (cf k) y x = false → x = y) := by
    rcases hk with rfl | rfl | rfl
    · simp only [lt0]
      exact ⟨bl_irrefl, fun _ _ _ => bl_trans, fun _ _ => bl_total⟩
    · simp only [lt1]
      exact ⟨bl_irrefl, fun _ _ _ h1 h2 => bl_trans h2 h1, fun _ _ h1 h2 => bl_total h2 h1⟩
    · simp only [lt2]
      refine ⟨fun x => by simp [bl_irrefl], fun x y z h1 h2 => ?_, fun x y h1 h2 => ?_⟩
      · simp only [Bool.or_eq_true, decide_eq_true_eq, Bool.and_eq_true] at *
        rcases h1 with h1 | ⟨h1, h1'⟩ <;> rcases h2 with h2 | ⟨h2, h2'⟩
        · left; omega
        · left; omega
        · left; omega
        · right; exact ⟨h1.trans h2, bl_trans h1' h2'⟩
      · simp only [Bool.or_eq_false_iff, decide_eq_false_iff_not, Bool.and_eq_false_iff] at *
        have hs : x.1.size = y.1.size := by omega
        exact bl_total (h1.2.resolve_left (fun h => h hs)) (h2.2.resolve_left (fun h => h hs.symm))
  exact ⟨swo_of this.1 this.2.1 this.2.2, this.2.2⟩
set_option maxHeartbeats 1000000 in
theorem order0_ok : OrdOk 41 (cf 0) := by
  refine ⟨enters_of Tryz.func41 (by kernel_rfl) rfl, fun x y W => ?_, (order_swo 0 (by decide)).1, (order_swo 0 (by decide)).2⟩
  have h := fun W => Order_any 0 x y 0 0 W
  have ht := fun z W => text_any z W
  unfold cf
  generalize cfk 0 x 0 y 0 = r at h ⊢
  go_enter Tryz.func41, Tryz.ntmps41
  go_wp2_with fail
  refine (ht x _).mono ?_
  rintro e w1 ⟨rfl, hg1⟩
  go_wp2_with fail
  refine (ht y _).mono ?_
  rintro e w2 ⟨rfl, hg2⟩
  go_wp2_with fail
  refine (h _).mono ?_
  rintro e w3 ⟨rfl, hg3⟩
  go_wp2
  go_ret
  exact ⟨rfl, (hg1.trans hg2).trans hg3⟩
set_option maxHeartbeats 1000000 in
theorem order1_ok : OrdOk 42 (cf 1) := by
  refine ⟨enters_of Tryz.func42 (by kernel_rfl) rfl, fun x y W => ?_, (order_swo 1 (by decide)).1, (order_swo 1 (by decide)).2⟩
  have h := fun W => Order_any 1 x y 0 0 W
  have ht := fun z W => text_any z W
  unfold cf
  generalize cfk 1 x 0 y 0 = r at h ⊢
  go_enter Tryz.func42, Tryz.ntmps42
  go_wp2_with fail
  refine (ht x _).mono ?_
  rintro e w1 ⟨rfl, hg1⟩
  go_wp2_with fail
  refine (ht y _).mono ?_
  rintro e w2 ⟨rfl, hg2⟩
  go_wp2_with fail
  refine (h _).mono ?_
  rintro e w3 ⟨rfl, hg3⟩
  go_wp2
  go_ret
  exact ⟨rfl, (hg1.trans hg2).trans hg3⟩
set_option maxHeartbeats 1000000 in
theorem order2_ok : OrdOk 43 (cf 2) := by
  refine ⟨enters_of Tryz.func43 (by kernel_rfl) rfl, fun x y W => ?_, (order_swo 2 (by decide)).1, (order_swo 2 (by decide)).2⟩
  have h := fun W => Order_any 2 x y 0 0 W
  have ht := fun z W => text_any z W
  unfold cf
  generalize cfk 2 x 0 y 0 = r at h ⊢
  go_enter Tryz.func43, Tryz.ntmps43
  go_wp2_with fail
  refine (ht x _).mono ?_
  rintro e w1 ⟨rfl, hg1⟩
  go_wp2_with fail
  refine (ht y _).mono ?_
  rintro e w2 ⟨rfl, hg2⟩
  go_wp2_with fail
  refine (h _).mono ?_
  rintro e w3 ⟨rfl, hg3⟩
  go_wp2
  go_ret
  exact ⟨rfl, (hg1.trans hg2).trans hg3⟩
end Go.Proofs.YthbdbmbdfhbeiaaGreat
