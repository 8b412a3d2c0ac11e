import Derived.Test.YtdnnfgabdkkdjaaGreatOrders
import Derived.WalkKit
import Derived.Test.YtdnnfgabdkkdjaaGreatFits
import Derived.Test.YtdnnfgabdkkdjaaGreatLRow
import Derived.Test.YtdnnfgabdkkdjaaGreatJ2
import Derived.Shelf.SlSortCmp.QuietGrown
namespace Go.Proofs.YtdnnfgabdkkdjaaGreat
open Go.RowKit Go.Sort
attribute [local go_sem ↓] Go.wp_at_zero Go.wp_at_succ
set_option maxHeartbeats 1000000 in
theorem overI_any (a b c x y z : Int) (w : World) :
    Calls Tryz.prog 145 #[.agg #[.int .u64 a, .int .u64 b, .int .u64 c], .agg #[.int .u64 x, .int .u64 y, .int .u64 z], .func (.func 146) #[] #[]] w fun e w' =>
     e = .returned (.agg #[.int .i64 (c64 a x), .int .i64 (c64 b y), .int .i64 (c64 c z)]) ∧ Gr w w' := by
 go_enter Tryz.func145, Tryz.ntmps145
 go_wp2
 go_region_held3 (fun w' => w'.cell? ⟨w.heap.size, 0, none⟩ = some (.int .u64 a) ∧ w'.cell? ⟨w.heap.size, 1, none⟩ = some (.int .u64 b) ∧ w'.cell? ⟨w.heap.size, 2, none⟩ = some (.int .u64 c) ∧ w'.cell? ⟨w.heap.size + 1, 0, none⟩ = some (.int .u64 x) ∧ w'.cell? ⟨w.heap.size + 1, 1, none⟩ = some (.int .u64 y) ∧ w'.cell? ⟨w.heap.size + 1, 2, none⟩ = some (.int .u64 z)) (go_keep)
  (first | (go_at_call 146; refine (cmp64_any _ _ _).mono ?_; rintro e w' ⟨rfl, rfl⟩))
 go_wp2
 exact bodyPost_ret (v := .agg #[.int .i64 (c64 a x), .int .i64 (c64 b y), .int .i64 (c64 c z)]) (by simp [results, Tryz.results145, go_sem]) rfl ⟨rfl, ((((Gr.refl _).alloc _).alloc _).alloc _).drew⟩
set_option maxHeartbeats 1000000 in
theorem orInt_any (p q r : Int) (b : Nat) (w : World) (h0 : w.cell? ⟨b, 0, none⟩ = some (.int .i64 p)) (h1 : w.cell? ⟨b, 1, none⟩ = some (.int .i64 q)) (h2 : w.cell? ⟨b, 2, none⟩ = some (.int .i64 r)) :
    Calls Tryz.prog 147 #[.slice (some ⟨b, 0, none⟩) 3 3] w fun e w' => e = .returned (.int .i64 (or3 p q r)) ∧ w' = w := by
 by_cases e0 : p = 0
 ·subst e0
  by_cases e1 : q = 0
  ·subst e1
   by_cases e2 : r = 0
   ·subst e2
    go_enter Tryz.func147, Tryz.ntmps147
    go_wp2
    refine wp_loop_rounds 4 ?_
    rw [rounds_succ]; go_wp2
    rw [rounds_succ]; go_wp2
    rw [rounds_succ]; go_wp2
    rw [rounds_succ]; go_wp2
    go_ret
    exact ⟨rfl, rfl⟩
   ·have b2 : (r != 0) = true := by rw [bne_iff_ne]; exact e2
    go_enter Tryz.func147, Tryz.ntmps147
    go_wp2
    refine wp_loop_rounds 3 ?_
    rw [rounds_succ]; go_wp2
    rw [rounds_succ]; go_wp2
    rw [rounds_succ]; go_wp2
    go_ret
    exact ⟨rfl, rfl⟩
  ·have b1 : (q != 0) = true := by rw [bne_iff_ne]; exact e1
   have hr : or3 0 q r = q := by simp [or3, e1]
   rw [hr]
   clear hr
   go_enter Tryz.func147, Tryz.ntmps147
   go_wp2
   refine wp_loop_rounds 2 ?_
   rw [rounds_succ]; go_wp2
   rw [rounds_succ]; go_wp2
   go_ret
   exact ⟨rfl, rfl⟩
 ·have b0 : (p != 0) = true := by rw [bne_iff_ne]; exact e0
  have hr : or3 p q r = p := by simp [or3, e0]
  rw [hr]
  clear hr
  go_enter Tryz.func147, Tryz.ntmps147
  go_wp2
  refine wp_loop_rounds 1 ?_
  rw [rounds_succ]; go_wp2
  go_ret
  exact ⟨rfl, rfl⟩
set_option maxHeartbeats 1000000 in
theorem Compare_any (a b c x y z : Int) (w : World) :
    Calls Tryz.prog 125 #[.agg #[.int .u64 a, .int .u64 b, .int .u64 c], .agg #[.int .u64 x, .int .u64 y, .int .u64 z]] w fun e w' =>
     e = .returned (.int .i64 (tcmp a b c x y z)) ∧ Gr w w' := by
 unfold tcmp
 have H := fun W => overI_any a b c x y z W
 generalize c64 a x = p at *
 generalize c64 b y = q at *
 generalize c64 c z = r at *
 go_enter Tryz.func125, Tryz.ntmps125
 go_wp2_with (first | (go_at_call 145; refine (H _).mono ?_; rintro e w1 ⟨rfl, hg⟩) | (go_at_call 147; refine (orInt_any p q r _ _ (by simp) (by simp) (by simp)).mono ?_; rintro e w2 ⟨rfl, rfl⟩))
 go_ret
 exact ⟨rfl, (((Gr.refl _).alloc _).alloc _ |>.trans hg).alloc _⟩
end Go.Proofs.YtdnnfgabdkkdjaaGreat

namespace Go.Proofs.YtdnnfgabdkkdjaaGreat
section
variable {α : Type} (bel fst : α → α → Bool)
def ccov (l : List α) (v : α) : Bool := l.any (fun x => bel x v)
def ccut (l : List α) (v : α) : List α := l.filter (fun x => !bel v x)
def cput (l : List α) (v : α) : List α := l.take (l.findIdx (fun y => fst v y)) ++ v :: l.drop (l.findIdx (fun y => fst v y))
def cins (l : List α) (v : α) : List α := if ccov bel l v then l else cput fst (ccut bel l v) v
def cjoin (l vs : List α) : List α := vs.foldl (cins bel fst) l
variable {bel fst}
theorem cjoin_cons (l : List α) (v : α) (vs : List α) : cjoin bel fst l (v :: vs) = cjoin bel fst (cins bel fst l v) vs := rfl
theorem cjoin_append (l vs us : List α) : cjoin bel fst l (vs ++ us) = cjoin bel fst (cjoin bel fst l vs) us := by
 simp [cjoin]
theorem ccut_length (l : List α) (v : α) : (ccut bel l v).length ≤ l.length := List.length_filter_le _ _
theorem cput_length (l : List α) (v : α) : (cput fst l v).length = l.length + 1 := by
 simp [cput]; omega
theorem cins_length (l : List α) (v : α) : (cins bel fst l v).length ≤ l.length + 1 := by
 unfold cins
 split
 ·omega
 ·rw [cput_length]; have := ccut_length (bel := bel) l v; omega
theorem cjoin_length (l vs : List α) : (cjoin bel fst l vs).length ≤ l.length + vs.length := by
 induction vs generalizing l with
 | nil => simp [cjoin]
 | cons v vs ih =>
  have h1 := ih (cins bel fst l v)
  have h2 := cins_length (bel := bel) (fst := fst) l v
  rw [cjoin_cons]; simp only [List.length_cons]; omega
theorem mem_cput {l : List α} {v x : α} : x ∈ cput fst l v ↔ x = v ∨ x ∈ l := by
 unfold cput
 constructor
 ·intro h
  rcases List.mem_append.1 h with h | h
  ·exact Or.inr (List.mem_of_mem_take h)
  ·rcases List.mem_cons.1 h with h | h
   ·exact Or.inl h
   ·exact Or.inr (List.mem_of_mem_drop h)
 ·intro h
  rcases h with h | h
  ·subst h; simp
  ·rw [← List.take_append_drop (l.findIdx fun y => fst v y) l] at h
   rcases List.mem_append.1 h with h | h
   ·exact List.mem_append.2 (Or.inl h)
   ·exact List.mem_append.2 (Or.inr (List.mem_cons_of_mem _ h))
theorem mem_ccut {l : List α} {v x : α} : x ∈ ccut bel l v ↔ x ∈ l ∧ bel v x = false := by
 simp [ccut, List.mem_filter]
theorem ccov_true {l : List α} {v : α} : ccov bel l v = true ↔ ∃ x ∈ l, bel x v = true := by
 simp [ccov]
theorem ccov_false {l : List α} {v : α} : ccov bel l v = false ↔ ∀ x ∈ l, bel x v = false := by
 simp [ccov]
structure Ords (bel fst : α → α → Bool) : Prop where
 refl : ∀ a, bel a a = true
 trans : ∀ a b c, bel a b = true → bel b c = true → bel a c = true
 anti : ∀ a b, bel a b = true → bel b a = true → a = b
 irr : ∀ a, fst a a = false
 tr : ∀ a b c, fst a b = true → fst b c = true → fst a c = true
 tot : ∀ a b, a ≠ b → fst a b = false → fst b a = true
def Good (bel fst : α → α → Bool) (l : List α) : Prop := l.Pairwise fun a b => fst a b = true ∧ bel a b = false ∧ bel b a = false
theorem findIdx_take_false {l : List α} {p : α → Bool} {x : α} (h : x ∈ l.take (l.findIdx p)) : p x = false := by
 obtain ⟨i, hi, rfl⟩ := List.mem_iff_getElem.1 h
 rw [List.getElem_take]
 have hi' : i < l.findIdx p := by simp at hi; omega
 have := List.not_of_lt_findIdx (p := p) (xs := l) hi'
 simpa using this
theorem findIdx_drop_true (O : Ords bel fst) {l : List α} (hl : l.Pairwise fun a b => fst a b = true) {v x : α} (h : x ∈ l.drop (l.findIdx fun y => fst v y)) : fst v x = true := by
 induction l with
 | nil => simp at h
 | cons y l ih =>
  rw [List.pairwise_cons] at hl
  rw [List.findIdx_cons] at h
  cases hy : fst v y with
  | true =>
   rw [hy] at h
   simp at h
   rcases h with rfl | h
   ·exact hy
   ·exact O.tr _ _ _ hy (hl.1 _ h)
  | false =>
   rw [hy] at h
   simp at h
   exact ih hl.2 h
theorem good_cut {l : List α} (h : Good bel fst l) (v : α) : Good bel fst (ccut bel l v) := List.Pairwise.filter _ h
theorem good_ins (O : Ords bel fst) {l : List α} (h : Good bel fst l) (v : α) : Good bel fst (cins bel fst l v) := by
 unfold cins
 split
 ·exact h
 ·rename_i hc
  have hc : ccov bel l v = false := by simpa using hc
  rw [ccov_false] at hc
  have hg := good_cut h v
  have hm : ∀ x ∈ ccut bel l v, bel x v = false ∧ bel v x = false := fun x hx => ⟨hc x (mem_ccut.1 hx).1, (mem_ccut.1 hx).2⟩
  generalize ccut bel l v = m at hg hm
  have hs : m.Pairwise fun a b => fst a b = true := hg.imp (fun h => h.1)
  unfold Good cput
  have hsplit : (m.take (m.findIdx fun y => fst v y) ++ m.drop (m.findIdx fun y => fst v y)).Pairwise fun a b => fst a b = true ∧ bel a b = false ∧ bel b a = false := by rw [List.take_append_drop]; exact hg
  rw [List.pairwise_append] at hsplit
  refine List.pairwise_append.2 ⟨hsplit.1, List.pairwise_cons.2 ⟨?_, hsplit.2.1⟩, ?_⟩
  ·intro x hx
   have hxm := List.mem_of_mem_drop hx
   exact ⟨findIdx_drop_true O hs hx, (hm x hxm).2, (hm x hxm).1⟩
  ·intro a ha b hb
   rcases List.mem_cons.1 hb with rfl | hb
   ·have ham := List.mem_of_mem_take ha
    have hf := findIdx_take_false ha
    refine ⟨O.tot _ _ ?_ hf, hm a ham⟩
    rintro rfl
    have := (hm _ ham).1
    rw [O.refl] at this; cases this
   ·exact hsplit.2.2 a ha b hb
theorem good_join (O : Ords bel fst) {l : List α} (h : Good bel fst l) (vs : List α) : Good bel fst (cjoin bel fst l vs) := by
 induction vs generalizing l with
 | nil => exact h
 | cons v vs ih => exact ih (good_ins O h v)
theorem good_nil : Good bel fst ([] : List α) := List.Pairwise.nil
theorem cov_ins (O : Ords bel fst) (l : List α) (v : α) : ccov bel (cins bel fst l v) v = true := by
 unfold cins
 split
 ·assumption
 ·exact ccov_true.2 ⟨v, mem_cput.2 (Or.inl rfl), O.refl v⟩
theorem cov_ins_mono (O : Ords bel fst) {l : List α} {x : α} (v : α) (h : ccov bel l x = true) : ccov bel (cins bel fst l v) x = true := by
 unfold cins
 split
 ·exact h
 ·obtain ⟨y, hy, hyx⟩ := ccov_true.1 h
  cases hv : bel v y with
  | true => exact ccov_true.2 ⟨v, mem_cput.2 (Or.inl rfl), O.trans _ _ _ hv hyx⟩
  | false => exact ccov_true.2 ⟨y, mem_cput.2 (Or.inr (mem_ccut.2 ⟨hy, hv⟩)), hyx⟩
theorem mem_ins {l : List α} {x v : α} (h : x ∈ cins bel fst l v) : x = v ∨ x ∈ l := by
 unfold cins at h
 split at h
 ·exact Or.inr h
 ·rcases mem_cput.1 h with h | h
  ·exact Or.inl h
  ·exact Or.inr (mem_ccut.1 h).1
theorem cov_join_mono (O : Ords bel fst) {l : List α} {x : α} (vs : List α) (h : ccov bel l x = true) : ccov bel (cjoin bel fst l vs) x = true := by
 induction vs generalizing l with
 | nil => exact h
 | cons v vs ih => exact ih (cov_ins_mono O v h)
theorem cov_join (O : Ords bel fst) (l : List α) {vs : List α} {x : α} (h : x ∈ vs) : ccov bel (cjoin bel fst l vs) x = true := by
 induction vs generalizing l with
 | nil => simp at h
 | cons v vs ih =>
  rcases List.mem_cons.1 h with rfl | h
  ·exact cov_join_mono O vs (cov_ins O l x)
  ·exact ih _ h
theorem mem_join {l vs : List α} {x : α} (h : x ∈ cjoin bel fst l vs) : x ∈ vs ∨ x ∈ l := by
 induction vs generalizing l with
 | nil => exact Or.inr h
 | cons v vs ih =>
  rcases ih h with h | h
  ·exact Or.inl (List.mem_cons_of_mem _ h)
  ·rcases mem_ins h with rfl | h
   ·exact Or.inl (by simp)
   ·exact Or.inr h
theorem good_off {l : List α} (h : Good bel fst l) {i j : Nat} {a b : α} (ha : l[i]? = some a) (hb : l[j]? = some b) (hne : i ≠ j) : bel a b = false := by
 obtain ⟨hi, rfl⟩ := List.getElem?_eq_some_iff.1 ha
 obtain ⟨hj, rfl⟩ := List.getElem?_eq_some_iff.1 hb
 rcases Nat.lt_or_gt_of_ne hne with h1 | h1
 ·exact (List.pairwise_iff_getElem.1 h i j hi hj h1).2.1
 ·exact (List.pairwise_iff_getElem.1 h j i hj hi h1).2.2
theorem mem_least (O : Ords bel fst) {vs : List α} {x : α} : x ∈ cjoin bel fst [] vs ↔ x ∈ vs ∧ ∀ y ∈ vs, bel y x = true → y = x := by
 have hg := good_join O (good_nil (bel := bel) (fst := fst)) vs
 constructor
 ·intro h
  have hx : x ∈ vs := by
   rcases mem_join h with h | h
   ·exact h
   ·simp at h
  refine ⟨hx, fun y hy hyx => ?_⟩
  obtain ⟨z, hz, hzy⟩ := ccov_true.1 (cov_join O [] hy)
  have hzx := O.trans _ _ _ hzy hyx
  have : z = x := by
   obtain ⟨i, hi⟩ := List.mem_iff_getElem?.1 hz
   obtain ⟨j, hj⟩ := List.mem_iff_getElem?.1 h
   by_cases hij : i = j
   ·subst hij; rw [hi] at hj; exact Option.some.inj hj
   ·have := good_off hg hi hj hij
    rw [hzx] at this; cases this
  subst this
  exact O.anti _ _ hyx hzy
 ·rintro ⟨hx, hm⟩
  obtain ⟨z, hz, hzx⟩ := ccov_true.1 (cov_join O [] hx)
  have hzv : z ∈ vs := by
   rcases mem_join hz with h | h
   ·exact h
   ·simp at h
  rw [hm z hzv hzx] at hz
  exact hz
theorem sorted_same (O : Ords bel fst) {l m : List α} (hl : l.Pairwise fun a b => fst a b = true) (hm : m.Pairwise fun a b => fst a b = true) (h : ∀ x, x ∈ l ↔ x ∈ m) : l = m := by
 induction l generalizing m with
 | nil =>
  cases m with
  | nil => rfl
  | cons b m => exact absurd ((h b).2 (by simp)) (by simp)
 | cons a l ih =>
  cases m with
  | nil => exact absurd ((h a).1 (by simp)) (by simp)
  | cons b m =>
   rw [List.pairwise_cons] at hl hm
   have hab : a = b := by
    by_cases e : a = b
    ·exact e
    ·have h1 := (h a).1 (by simp)
     have h2 := (h b).2 (by simp)
     rcases List.mem_cons.1 h1 with h1 | h1
     ·exact h1
     rcases List.mem_cons.1 h2 with h2 | h2
     ·exact h2.symm
     have := O.tr _ _ _ (hl.1 b h2) (hm.1 a h1)
     rw [O.irr] at this; cases this
   subst hab
   rw [ih hl.2 hm.2 (fun x => ?_)]
   constructor
   ·intro hx
    rcases List.mem_cons.1 ((h x).1 (List.mem_cons_of_mem _ hx)) with rfl | h1
    ·have := hl.1 _ hx; rw [O.irr] at this; cases this
    ·exact h1
   ·intro hx
    rcases List.mem_cons.1 ((h x).2 (List.mem_cons_of_mem _ hx)) with rfl | h1
    ·have := hm.1 _ hx; rw [O.irr] at this; cases this
    ·exact h1
end
end Go.Proofs.YtdnnfgabdkkdjaaGreat

namespace Go.Proofs.YtdnnfgabdkkdjaaGreat
open Go.RowKit Go.Sort
theorem run_eqP (a b c x y z : Int) (w : World) : Sem.run Tryz.prog (Op.equalIn 10000 39 (.agg #[.int .u64 a, .int .u64 b, .int .u64 c]) (.agg #[.int .u64 x, .int .u64 y, .int .u64 z])) w = .ok (teq a b c x y z) w := by
 have u3 := Tryz.underlying37
 have a3 := Tryz.isAgg37
 have z3 := Tryz.sizeOf37
 have hS : Tryz.prog.underlying 39 = some (.struct (Tryz.prog.fieldsOf 39)) := by kernel_rfl
 have hp : Tryz.prog.stoodInHeld 39 = false := by kernel_rfl
 rw [show (10000 : Nat) = 9999 + 1 from rfl, run_equalIn_agg w 9999 39 _ _ hS hp]
 simp only [Program.fieldsOf, Tryz.underlying39]
 go_simp
 by_cases h1 : a = x <;> by_cases h2 : b = y <;> by_cases h3 : c = z <;> simp [teq, h1, h2, h3]
def pok (a b c x y z : Nat) : Bool := decide (a + x < 18446744073709551616) && (decide (b + y < 18446744073709551616) && decide (c + z < 18446744073709551616))
def pon (ok : Bool) (s : Nat) : Nat := if ok then s else 0
theorem wrap_sum (a x : Nat) (h : a + x < 18446744073709551616) : IntKind.u64.wrap ((x : Int) + a) = ((a + x : Nat) : Int) := by
 simp [IntKind.wrap, IntKind.signed, IntKind.bits]; omega
theorem wrap_less (a x : Nat) (ha : a < 18446744073709551616) (hx : x < 18446744073709551616) (h : ¬ a + x < 18446744073709551616) : IntKind.u64.wrap ((x : Int) + a) < x := by
 simp [IntKind.wrap, IntKind.signed, IntKind.bits]; omega
set_option maxHeartbeats 1000000 in
theorem On_any (a b c x y z : Nat) (w : World) (ha : a < 18446744073709551616) (hb : b < 18446744073709551616) (hc : c < 18446744073709551616) (hx : x < 18446744073709551616) (hy : y < 18446744073709551616) (hz : z < 18446744073709551616) :
    Calls Tryz.prog 45 #[.agg #[.int .u64 a, .int .u64 b, .int .u64 c], .agg #[.int .u64 x, .int .u64 y, .int .u64 z]] w fun e w' =>
     e = .returned (.tuple #[.agg #[.int .u64 (pon (pok a b c x y z) (a + x) : Nat), .int .u64 (pon (pok a b c x y z) (b + y) : Nat), .int .u64 (pon (pok a b c x y z) (c + z) : Nat)], .bool (pok a b c x y z)]) ∧ Below w.heap.size w w' := by
 have hA := fun p q r W => Ahead_any x y z p q r W
 cases hp : pok a b c x y z
 ·have ht : tle x y z (IntKind.u64.wrap ((x : Int) + a)) (IntKind.u64.wrap ((y : Int) + b)) (IntKind.u64.wrap ((z : Int) + c)) = false := by
    rw [← Bool.not_eq_true, tle]
    simp only [Bool.and_eq_true, decide_eq_true_iff]
    intro ⟨h1, h2, h3⟩
    have e1 : a + x < 18446744073709551616 := Classical.byContradiction fun h => by have := wrap_less a x ha hx h; omega
    have e2 : b + y < 18446744073709551616 := Classical.byContradiction fun h => by have := wrap_less b y hb hy h; omega
    have e3 : c + z < 18446744073709551616 := Classical.byContradiction fun h => by have := wrap_less c z hc hz h; omega
    simp [pok, e1, e2, e3] at hp
  simp only [pon, Bool.false_eq_true, if_false]
  clear ha hb hc hx hy hz hp
  go_enter Tryz.func45, Tryz.ntmps45
  go_wp2_with (go_at_call 65; refine (hA _ _ _ _).mono ?_; rintro e w1 ⟨rfl, hg1⟩; rw [ht]; obtain ⟨hc1, hf1⟩ := hg1.cells; have hz1 : w.heap.size + 2 < w1.heap.size := by { have := hg1.size; simp at this; omega })
  refine bodyPost_ret (v := .tuple #[.agg #[.int .u64 0, .int .u64 0, .int .u64 0], .bool false]) (by simp [results, Tryz.results45, go_sem, *]) rfl ⟨rfl, ?_⟩
  have hB : Below w.heap.size w w1 := ((((((Gr.refl _).alloc _).alloc _).alloc _).alloc _).trans hg1).below
  have k : w.heap.size ≤ w.heap.size + 1 + 1 := by omega
  exact ((hB.setCell (p := ⟨w.heap.size + 1 + 1, 0, none⟩) k _).setCell (p := ⟨w.heap.size + 1 + 1, 1, none⟩) k _).setCell (p := ⟨w.heap.size + 1 + 1, 2, none⟩) k _
 ·have e1 : a + x < 18446744073709551616 := by simp [pok] at hp; omega
  have e2 : b + y < 18446744073709551616 := by simp [pok] at hp; omega
  have e3 : c + z < 18446744073709551616 := by simp [pok] at hp; omega
  have ht : tle x y z (IntKind.u64.wrap ((x : Int) + a)) (IntKind.u64.wrap ((y : Int) + b)) (IntKind.u64.wrap ((z : Int) + c)) = true := by
   rw [wrap_sum a x e1, wrap_sum b y e2, wrap_sum c z e3]
   simp [tle]; omega
  have ht1 : tle x y z ((a + x : Nat) : Int) ((b + y : Nat) : Int) ((c + z : Nat) : Int) = true := by simp [tle]; omega
  have ht2 : tle x y z ((a : Int) + x) ((b : Int) + y) ((c : Int) + z) = true := by simp [tle]; omega
  have s1 := wrap_sum a x e1
  have s2 := wrap_sum b y e2
  have s3 := wrap_sum c z e3
  simp only [pon, if_true]
  clear ha hb hc hx hy hz hp e1 e2 e3
  go_enter Tryz.func45, Tryz.ntmps45
  go_wp2_with (go_at_call 65; refine (hA _ _ _ _).mono ?_; rintro e w1 ⟨rfl, hg1⟩; first | rw [ht] | rw [ht1] | rw [ht2]; obtain ⟨hc1, hf1⟩ := hg1.cells; have hz1 : w.heap.size + 2 < w1.heap.size := by { have := hg1.size; simp at this; omega })
  refine bodyPost_ret (v := .tuple #[.agg #[.int .u64 (a + x : Nat), .int .u64 (b + y : Nat), .int .u64 (c + z : Nat)], .bool true]) (by simp [results, Tryz.results45, go_sem, *]) rfl ⟨rfl, ?_⟩
  have hB : Below w.heap.size w w1 := ((((((Gr.refl _).alloc _).alloc _).alloc _).alloc _).trans hg1).below
  have k : w.heap.size ≤ w.heap.size + 1 + 1 := by omega
  exact ((hB.setCell (p := ⟨w.heap.size + 1 + 1, 0, none⟩) k _).setCell (p := ⟨w.heap.size + 1 + 1, 1, none⟩) k _).setCell (p := ⟨w.heap.size + 1 + 1, 2, none⟩) k _
set_option maxHeartbeats 1000000 in
theorem Then_any (a b c x y z : Nat) (w : World) (ha : a < 18446744073709551616) (hb : b < 18446744073709551616) (hc : c < 18446744073709551616) (hx : x < 18446744073709551616) (hy : y < 18446744073709551616) (hz : z < 18446744073709551616) :
    Calls Tryz.prog 96 #[.agg #[.int .u64 a, .int .u64 b, .int .u64 c], .agg #[.int .u64 x, .int .u64 y, .int .u64 z]] w fun e w' =>
     e = .returned (.tuple #[.agg #[.int .u64 (pon (pok a b c x y z) (a + x) : Nat), .int .u64 (pon (pok a b c x y z) (b + y) : Nat), .int .u64 (pon (pok a b c x y z) (c + z) : Nat)], .bool (pok a b c x y z)]) ∧ Below w.heap.size w w' := by
 have hO := fun W => On_any a b c x y z W ha hb hc hx hy hz
 generalize pon (pok a b c x y z) (a + x) = s1 at *
 generalize pon (pok a b c x y z) (b + y) = s2 at *
 generalize pon (pok a b c x y z) (c + z) = s3 at *
 generalize pok a b c x y z = ok at *
 clear ha hb hc hx hy hz
 go_enter Tryz.func96, Tryz.ntmps96
 go_wp2_with (go_at_call 45; refine (hO _).mono ?_; rintro e w1 ⟨rfl, hb1⟩; obtain ⟨hc1, hf1⟩ := below_cells hb1; have hz1 : w.heap.size + 2 < w1.heap.size := by { have := hb1.size; simp at this; omega }; have hz2 : w.heap.size + 1 + 1 < w1.heap.size := by omega)
 refine bodyPost_ret (v := .tuple #[.agg #[.int .u64 s1, .int .u64 s2, .int .u64 s3], .bool ok]) (by simp [results, Tryz.results96, go_sem, *]) rfl ⟨rfl, ?_⟩
 have hB : Below w.heap.size w w1 := ((((Gr.refl _).alloc _).alloc _).alloc _).below.trans (hb1.mono (by simp; omega))
 have k : w.heap.size ≤ w.heap.size + 1 + 1 := by omega
 have hq := ((hB.setCell (p := ⟨w.heap.size + 1 + 1, 0, none⟩) k (.int .u64 s1)).setCell (p := ⟨w.heap.size + 1 + 1, 1, none⟩) k (.int .u64 s2)).setCell (p := ⟨w.heap.size + 1 + 1, 2, none⟩) k (.int .u64 s3)
 exact hq.alloc hq.size _
set_option maxHeartbeats 1000000 in
theorem pAhead_any (a b c x y z : Int) (w : World) :
    Calls Tryz.prog 46 #[.agg #[.int .u64 a, .int .u64 b, .int .u64 c], .agg #[.int .u64 x, .int .u64 y, .int .u64 z]] w fun e w' => e = .returned (.bool (tle a b c x y z)) ∧ Gr w w' := by
 have hA := fun W => Ahead_any a b c x y z W
 generalize tle a b c x y z = p at *
 go_enter Tryz.func46, Tryz.ntmps46
 go_wp2_with (go_at_call 65; refine (hA _).mono ?_; rintro e w1 ⟨rfl, hg1⟩)
 go_ret
 exact ⟨rfl, (((Gr.refl _).alloc _).alloc _).trans hg1⟩
set_option maxHeartbeats 1000000 in
theorem pCompare_any (a b c x y z : Int) (w : World) :
    Calls Tryz.prog 105 #[.agg #[.int .u64 a, .int .u64 b, .int .u64 c], .agg #[.int .u64 x, .int .u64 y, .int .u64 z]] w fun e w' => e = .returned (.int .i64 (tcmp a b c x y z)) ∧ Gr w w' := by
 have hA := fun W => Compare_any a b c x y z W
 generalize tcmp a b c x y z = p at *
 go_enter Tryz.func105, Tryz.ntmps105
 go_wp2_with (go_at_call 125; refine (hA _).mono ?_; rintro e w1 ⟨rfl, hg1⟩)
 go_ret
 exact ⟨rfl, (((Gr.refl _).alloc _).alloc _).trans hg1⟩
end Go.Proofs.YtdnnfgabdkkdjaaGreat

namespace Go.Proofs.YtdnnfgabdkkdjaaGreat.Pc
open Go.RowKit Go.Sort
abbrev Tm := { p : Int × Int × Int // (Lit.int .u64 p.1).wf = true ∧ (Lit.int .u64 p.2.1).wf = true ∧ (Lit.int .u64 p.2.2).wf = true }
instance : Inhabited Tm := ⟨⟨(0, 0, 0), by decide⟩⟩
abbrev tv (t : Tm) : Value := .agg #[.int .u64 t.1.1, .int .u64 t.1.2.1, .int .u64 t.1.2.2]
def ET : El Tm where
 k := 3
 enc t := [.int .u64 t.1.1, .int .u64 t.1.2.1, .int .u64 t.1.2.2]
 len _ := rfl
 one x u hu := by
  simp at hu
  rcases hu with rfl | rfl | rfl <;> rfl
theorem tm_ext {s t : Tm} (h1 : s.1.1 = t.1.1) (h2 : s.1.2.1 = t.1.2.1) (h3 : s.1.2.2 = t.1.2.2) : s = t := Subtype.ext (Prod.ext h1 (Prod.ext h2 h3))
theorem teq_dec (s t : Tm) : teq s.1.1 s.1.2.1 s.1.2.2 t.1.1 t.1.2.1 t.1.2.2 = decide (s = t) := by
 rw [Bool.eq_iff_iff, teq_iff, decide_eq_true_iff]
 exact ⟨fun h => tm_ext h.1 h.2.1 h.2.2, fun h => by subst h; exact ⟨rfl, rfl, rfl⟩⟩
abbrev flT (l : List Tm) : List Value := fl ET l
theorem flT_nil : flT [] = [] := rfl
theorem flT_append (a b : List Tm) : flT (a ++ b) = flT a ++ flT b := fl_append ET a b
theorem flT_one (t : Tm) : flT [t] = ET.enc t := fl_one ET t
theorem flT_length (ts : List Tm) : (flT ts).length = ts.length * 3 := fl_length ET ts
theorem flT_take (l : List Tm) (k : Nat) : (flT l).take (k * 3) = flT (l.take k) := fl_take ET l k
theorem flT_drop (l : List Tm) (k : Nat) : (flT l).drop (k * 3) = flT (l.drop k) := fl_drop ET l k
theorem flT_oneCell (ts : List Tm) : ∀ u ∈ flT ts, u.oneCell' = true := fl_oneCell ET ts
abbrev Lst (w : World) (v : Value) (ts : List Tm) : Prop := Ls ET w v ts
theorem _root_.Go.Proofs.YtdnnfgabdkkdjaaGreat.Ls.atP {w : World} {v : Value} {ts : List Tm} (h : Ls ET w v ts) {j : Nat} {t : Tm} (hj : ts[j]? = some t) :
    ∃ b off c, v = .slice (some ⟨b, off, none⟩) ts.length c ∧ b < w.heap.size ∧ w.cell? ⟨b, off + j * 3, none⟩ = some (.int .u64 t.1.1) ∧ w.cell? ⟨b, off + j * 3 + 1, none⟩ = some (.int .u64 t.1.2.1) ∧ w.cell? ⟨b, off + j * 3 + 2, none⟩ = some (.int .u64 t.1.2.2) := by
 obtain ⟨b, off, c, hv, hb, hc⟩ := h.get hj
 exact ⟨b, off, c, hv, hb, hc 0 _ (by decide) rfl, hc 1 _ (by decide) rfl, hc 2 _ (by decide) rfl⟩
theorem owns_lst {w : World} {base : Nat} {e : TypeId} {v : Value} {ts : List Tm} (h : w.ownsRow base e 3 v ts.length (flT ts)) : Lst w v ts := owns_ls (E := ET) h
theorem infoTm : (Tryz.prog.info? 39).map (fun i => (i.zero, i.size, i.bytes)) = some (some (.agg #[.int .u64 0, .int .u64 0, .int .u64 0]), 3, 24) := by kernel_rfl
def bel (s t : Tm) : Bool := tle s.1.1 s.1.2.1 s.1.2.2 t.1.1 t.1.2.1 t.1.2.2
def tcm (s t : Tm) : Int := tcmp s.1.1 s.1.2.1 s.1.2.2 t.1.1 t.1.2.1 t.1.2.2
def tol (s t : Tm) : Bool := decide (tcm s t < 0)
theorem bel_iff (s t : Tm) : bel s t = true ↔ s.1.1 ≤ t.1.1 ∧ s.1.2.1 ≤ t.1.2.1 ∧ s.1.2.2 ≤ t.1.2.2 := by simp [bel, tle]
theorem c64_neg (x y : Int) : c64 x y < 0 ↔ x < y := by unfold c64; (repeat split) <;> omega
theorem c64_zero (x y : Int) : c64 x y = 0 ↔ x = y := by unfold c64; (repeat split) <;> omega
theorem tcmp_neg (a b c x y z : Int) : tcmp a b c x y z < 0 ↔ a < x ∨ (a = x ∧ (b < y ∨ (b = y ∧ c < z))) := by
 have h1 := c64_neg a x; have h2 := c64_zero a x; have h3 := c64_neg b y; have h4 := c64_zero b y; have h5 := c64_neg c z
 unfold tcmp or3
 generalize c64 a x = p at *; generalize c64 b y = q at *; generalize c64 c z = r at *
 (repeat split) <;> omega
theorem tol_iff (s t : Tm) : tol s t = true ↔ s.1.1 < t.1.1 ∨ (s.1.1 = t.1.1 ∧ (s.1.2.1 < t.1.2.1 ∨ (s.1.2.1 = t.1.2.1 ∧ s.1.2.2 < t.1.2.2))) := by
 unfold tol tcm
 rw [decide_eq_true_iff]
 exact tcmp_neg _ _ _ _ _ _
theorem tol_not (s t : Tm) : tol s t = false ↔ ¬ (s.1.1 < t.1.1 ∨ (s.1.1 = t.1.1 ∧ (s.1.2.1 < t.1.2.1 ∨ (s.1.2.1 = t.1.2.1 ∧ s.1.2.2 < t.1.2.2)))) := by
 rw [← tol_iff, Bool.not_eq_true]
theorem ords : Ords bel tol where
 refl a := by rw [bel_iff]; omega
 trans a b c h1 h2 := by rw [bel_iff] at *; omega
 anti a b h1 h2 := by
  rw [bel_iff] at *
  exact tm_ext (by omega) (by omega) (by omega)
 irr a := by rw [tol_not]; omega
 tr a b c h1 h2 := by rw [tol_iff] at *; omega
 tot a b hne h := by
  rw [tol_not] at h
  rw [tol_iff]
  have : ¬ (a.1.1 = b.1.1 ∧ a.1.2.1 = b.1.2.1 ∧ a.1.2.2 = b.1.2.2) := fun e => hne (tm_ext e.1 e.2.1 e.2.2)
  omega
abbrev fv (f : Nat) : Value := .func (.func f) #[] #[]
structure FnOk (f : Nat) (r : Tm → Tm → Bool) : Prop where
 enter : ∀ args w, (callFunc f args).run Tryz.prog w = .ok (.enter f args) w
 calls : ∀ (a b : Tm) (W : World), Calls Tryz.prog f #[tv a, tv b] W fun e w' => e = .returned (.bool (r a b)) ∧ Gr W w'
theorem ahead_ok : FnOk 46 bel :=
 ⟨enters_of Tryz.func46 (by kernel_rfl) rfl, fun a b W => (pAhead_any a.1.1 a.1.2.1 a.1.2.2 b.1.1 b.1.2.1 b.1.2.2 W)⟩
set_option maxHeartbeats 1000000 in
theorem told_ok : FnOk 67 tol := by
 refine ⟨enters_of Tryz.func67 (by kernel_rfl) rfl, fun a b W => ?_⟩
 have h := fun W => pCompare_any a.1.1 a.1.2.1 a.1.2.2 b.1.1 b.1.2.1 b.1.2.2 W
 unfold tol
 rw [show tcmp a.1.1 a.1.2.1 a.1.2.2 b.1.1 b.1.2.1 b.1.2.2 = tcm a b from rfl] at h
 generalize tcm a b = r at h ⊢
 go_enter Tryz.func67, Tryz.ntmps67
 go_wp2_with fail
 refine (h _).mono ?_
 rintro e w' ⟨rfl, hg⟩
 go_wp2
 go_ret
 exact ⟨rfl, (((Gr.refl _).alloc _).alloc _).trans hg⟩
theorem bel_px (a b : Tm) : bel a b = true ↔ Pt.PX.ahd a b := bel_iff a b
theorem tol_px (a b : Tm) : tol a b = true ↔ Pt.PX.tld a b := tol_iff a b
end Go.Proofs.YtdnnfgabdkkdjaaGreat.Pc
