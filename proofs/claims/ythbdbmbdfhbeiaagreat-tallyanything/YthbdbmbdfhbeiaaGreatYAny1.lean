import Derived.Test.YthbdbmbdfhbeiaaGreatYAny0
import Derived.Test.YthbdbmbdfhbeiaaGreatYPd
namespace Go.Proofs.YthbdbmbdfhbeiaaGreat
open Go.RowKit Go.Sort Go.Maps
open Mm (Sz st EM)
open Pp (kr)
attribute [local go_sem ↓] Go.wp_at_zero Go.wp_at_succ

theorem radd_rel {r : Rf} {f : Pr → Int} {N : List Rk} {C : List Int} (x : Pr) (v : Int) (w : World) (h : RT w r 0 N C) (hr : Pp.Rel f N C) (hfw : N.length < 90000) :
    Calls Tryz.prog 10 #[rp r, rkv (kr x), .int .i64 v] w fun e w' => e = .returned (.int .i64 (Pp.addc f x v)) ∧ ∃ r' N' C', r'.b = r.b ∧ RT w' r' 0 N' C' ∧ Kp r.own w w' ∧ (∀ q, r'.own q → r.own q ∨ w.heap.size ≤ q) ∧ Pp.Rel (Pp.addf f x v) N' C' ∧ N'.length ≤ N.length + 1 := by
  refine (radd_any (kr x) v w h hfw).mono fun e w' hq => ?_
  have he := hr.eq x
  unfold Pp.addc Pp.addf
  rw [he]
  rcases hq with ⟨hc, rfl, hg⟩ | ⟨hc, rfl, r', h1, h2, h3, h4⟩
  · rw [if_pos hc, if_pos hc]
    exact ⟨rfl, r, N, C, rfl, h.gr hg, Kp.of_gr hg, fun q hq => Or.inl hq, hr, by omega⟩
  · rw [if_neg (by rw [hc.1, hc.2]; simp), if_neg (by rw [hc.1, hc.2]; simp)]
    refine ⟨rfl, r', _, _, h1, h2, h3, h4, ?_, ?_⟩
    · rw [← he]; exact hr.add h.len h.nd x v
    · unfold rN
      split
      · omega
      · simp
theorem fu_add (k : Nat) (hk : k < 200) : Mm.addc (fu k) (st ⟨k, by omega⟩) ((k : Int) + 1) = 0 ∧ Mm.addf (fu k) (st ⟨k, by omega⟩) ((k : Int) + 1) = fu (k + 1) := by
  have h0 : fu k (st ⟨k, by omega⟩) = 0 := by rw [fu_st, if_neg (by simp)]
  unfold Mm.addc Mm.addf
  have h1 : byd ((k : Int) + 1) = false := byd_f.2 (by omega)
  rw [h0, Int.zero_add, h1]
  simp only [Bool.false_eq_true, or_self, if_false]
  exact ⟨trivial, fu_succ k (by omega)⟩

/-- One row of the law's list: a pair and how much is added. -/
abbrev Ct := Pr × Int
def EC : Q.El Ct where
  k := 4
  enc c := [.int .i64 c.1.1.1, .int .u8 c.1.1.2.1, .int .u8 c.1.1.2.2, .int .i64 c.2]
  len _ := rfl
  one x u hu := by
    simp at hu
    rcases hu with rfl | rfl | rfl | rfl <;> rfl
theorem ls_at4 {w : World} {v : Value} {l : List Ct} (h : Q.Ls EC w v l) {j : Nat} {p : Ct} (hj : l[j]? = some p) :
    ∃ b off c, v = .slice (some ⟨b, off, none⟩) l.length c ∧ b < w.heap.size ∧ w.cell? ⟨b, off + j * 4, none⟩ = some (.int .i64 p.1.1.1) ∧ w.cell? ⟨b, off + j * 4 + 1, none⟩ = some (.int .u8 p.1.1.2.1) ∧ w.cell? ⟨b, off + j * 4 + 2, none⟩ = some (.int .u8 p.1.1.2.2) ∧ w.cell? ⟨b, off + j * 4 + 3, none⟩ = some (.int .i64 p.2) := by
  rcases h with ⟨rfl, _⟩ | ⟨b, off, c, hv, hb, ht⟩
  · simp at hj
  · have hg := fun (i : Nat) (hi : i < 4) => Q.fl_get EC l j i p hj hi
    exact ⟨b, off, c, hv, hb, ht (j * 4) _ (hg 0 (by decide)), ht (j * 4 + 1) _ (hg 1 (by decide)), ht (j * 4 + 2) _ (hg 2 (by decide)), ht (j * 4 + 3) _ (hg 3 (by decide))⟩
theorem ls_atM {w : World} {v : Value} {l : List Sm} (h : Q.Ls EM w v l) {j : Nat} {p : Sm} (hj : l[j]? = some p) :
    ∃ b off c, v = .slice (some ⟨b, off, none⟩) l.length c ∧ b < w.heap.size ∧ w.cell? ⟨b, off + j * 4, none⟩ = some (.int .i64 p.1.1) ∧ w.cell? ⟨b, off + j * 4 + 1, none⟩ = some (.int .u64 p.1.2.1) ∧ w.cell? ⟨b, off + j * 4 + 2, none⟩ = some (.int .u64 p.1.2.2.1) ∧ w.cell? ⟨b, off + j * 4 + 3, none⟩ = some (.int .u64 p.1.2.2.2) := by
  rcases h with ⟨rfl, _⟩ | ⟨b, off, c, hv, hb, ht⟩
  · simp at hj
  · have hg := fun (i : Nat) (hi : i < 4) => Q.fl_get EM l j i p hj hi
    exact ⟨b, off, c, hv, hb, ht (j * 4) _ (hg 0 (by decide)), ht (j * 4 + 1) _ (hg 1 (by decide)), ht (j * 4 + 2) _ (hg 2 (by decide)), ht (j * 4 + 3) _ (hg 3 (by decide))⟩

/-- The first state. -/
theorem All.init {w w1 w2 w3 : World} {tb b ub bu : Nat} (hg : Gr w w1) (ht : Pp.Tl w1 tb b 5 0 (fun _ => 0)) (hb : w.heap.size ≤ b) (hg2 : Gr (w1.alloc (.cells #[.int .i64 0, .slice none 0 0, .slice none 0 0] 33)) w2) (hu : Mm.Tl w2 ub bu 7 0 (fun _ => 0))
    (hbu : w1.heap.size + 1 ≤ bu) (hub : w1.heap.size + 1 ≤ ub) (h3 : Below w2.heap.size w2 w3) : All w w3 tb b ub bu ⟨w1.heap.size, .slice none 0 0, .slice none 0 0⟩ (fun _ => 0) [] [] 0 0 := by
  have ha : Gr w1 (w1.alloc (.cells #[.int .i64 0, .slice none 0 0, .slice none 0 0] 33)) := (Gr.refl _).alloc _
  have hr : RT (w1.alloc (.cells #[.int .i64 0, .slice none 0 0, .slice none 0 0] 33)) ⟨w1.heap.size, .slice none 0 0, .slice none 0 0⟩ 0 [] [] :=
    ⟨heap_alloc_new _ _, World.ownsRow_nil _ _ _ _, World.ownsRow_nil _ _ _ _, rfl, by simp [Value.ownBlock], by simp [Value.ownBlock], by simp [Value.ownBlock], List.nodup_nil, by simp, by simp⟩
  have z1 := hg.size
  have z2 : w1.heap.size + 1 ≤ w2.heap.size := by simpa using hg2.size
  have z3 := h3.size
  have y1 := ht.lt
  have y2 := ht.ta.lt
  refine ⟨((ht.gr ha).gr hg2).below h3, by rw [fu_zero]; exact hu.below h3, (hr.gr hg2).bel h3, ⟨fun p => by simp [rget], by simp⟩, by simp, fun q hq => ?_, by omega, by omega, by omega, hb, by omega, by omega, ?_⟩
  · rcases hq with rfl | hq | hq
    · exact ⟨by simp only; omega, by simp only; omega, by simp only; omega, by simp only; omega, z1⟩
    · simp [Value.ownBlock] at hq
    · simp [Value.ownBlock] at hq
  · exact ((hg.below.trans (ha.below.mono z1)).trans (hg2.below.mono (by simp; omega))).trans (h3.mono (by omega))

end Go.Proofs.YthbdbmbdfhbeiaaGreat
