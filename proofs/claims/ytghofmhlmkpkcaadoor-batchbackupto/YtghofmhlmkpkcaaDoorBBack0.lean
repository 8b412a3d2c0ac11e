import Derived.Test.YtghofmhlmkpkcaaDoorBOne
import Derived.Test.YtghofmhlmkpkcaaDoorBSame
import Derived.Test.YtghofmhlmkpkcaaDoorBRow
namespace Go.Proofs.YtghofmhlmkpkcaaDoor.Wi
open Go.RowKit Go.Sort
attribute [local go_sem ↓] Go.wp_at_zero Go.wp_at_succ
theorem bts_eqb {A B : List Cx} (ha : bgo none A = 0) (hb : bgo none B = 0) (la : A.length < 18446744073709551616) (lb : B.length < 18446744073709551616) : (bts A == bts B) = decide (A = B) := by
  by_cases h : A = B
  · subst h; simp
  · rw [decide_eq_false h]
    exact beq_eq_false_iff_ne.2 (fun e => h (bts_inj la lb ha hb e))
set_option maxHeartbeats 4000000 in
/-- Two elements the other way round, cell by cell. -/
theorem swap_ls {w : World} {g n c : Nat} {cur : Array Value} {a b : Cx} {r : List Cx} (hg : w.heap[g]? = some (.cells cur 43 (0, 0))) (hL : Ls EC w (.slice (some ⟨g, 0, none⟩) n c) (a :: b :: r)) :
    Ls EC ((((((((((w.setCell ⟨g, 0, none⟩ (.int .i64 b.pl)).setCell ⟨g, 1, none⟩ (.int .u64 (b.A : Nat))).setCell ⟨g, 2, none⟩ (.int .u64 (b.B : Nat))).setCell ⟨g, 3, none⟩ (.int .u64 (b.C : Nat))).setCell ⟨g, 4, none⟩ (.int .i64 b.N)).setCell ⟨g, 5, none⟩ (.int .i64 a.pl)).setCell ⟨g, 6, none⟩ (.int .u64 (a.A : Nat))).setCell ⟨g, 7, none⟩ (.int .u64 (a.B : Nat))).setCell ⟨g, 8, none⟩ (.int .u64 (a.C : Nat))).setCell ⟨g, 9, none⟩ (.int .i64 a.N)) (.slice (some ⟨g, 0, none⟩) n c) (b :: a :: r) ∧ Kp (fun k => k = g) w ((((((((((w.setCell ⟨g, 0, none⟩ (.int .i64 b.pl)).setCell ⟨g, 1, none⟩ (.int .u64 (b.A : Nat))).setCell ⟨g, 2, none⟩ (.int .u64 (b.B : Nat))).setCell ⟨g, 3, none⟩ (.int .u64 (b.C : Nat))).setCell ⟨g, 4, none⟩ (.int .i64 b.N)).setCell ⟨g, 5, none⟩ (.int .i64 a.pl)).setCell ⟨g, 6, none⟩ (.int .u64 (a.A : Nat))).setCell ⟨g, 7, none⟩ (.int .u64 (a.B : Nat))).setCell ⟨g, 8, none⟩ (.int .u64 (a.C : Nat))).setCell ⟨g, 9, none⟩ (.int .i64 a.N)) := by
  obtain ⟨h0, k0⟩ := tk_set hg 0 (.int .i64 b.pl)
  obtain ⟨h1, k1⟩ := tk_set h0 1 (.int .u64 (b.A : Nat))
  obtain ⟨h2, k2⟩ := tk_set h1 2 (.int .u64 (b.B : Nat))
  obtain ⟨h3, k3⟩ := tk_set h2 3 (.int .u64 (b.C : Nat))
  obtain ⟨h4, k4⟩ := tk_set h3 4 (.int .i64 b.N)
  obtain ⟨h5, k5⟩ := tk_set h4 5 (.int .i64 a.pl)
  obtain ⟨h6, k6⟩ := tk_set h5 6 (.int .u64 (a.A : Nat))
  obtain ⟨h7, k7⟩ := tk_set h6 7 (.int .u64 (a.B : Nat))
  obtain ⟨h8, k8⟩ := tk_set h7 8 (.int .u64 (a.C : Nat))
  obtain ⟨h9, k9⟩ := tk_set h8 9 (.int .i64 a.N)
  have kk := ((((((((k0.trans k1 (fun _ _ h => h)).trans k2 (fun _ _ h => h)).trans k3 (fun _ _ h => h)).trans k4 (fun _ _ h => h)).trans k5 (fun _ _ h => h)).trans k6 (fun _ _ h => h)).trans k7 (fun _ _ h => h)).trans k8 (fun _ _ h => h)).trans k9 (fun _ _ h => h)
  refine ⟨?_, kk⟩
  rcases hL with ⟨h, _⟩ | ⟨b', off', c', hv, hb, ht⟩
  · cases h
  cases hv
  have hc : ∀ j u, (fl EC (a :: b :: r))[j]? = some u → cur[j]? = some u := fun j u hj => by
    have := ht j u hj
    rw [(tk_store hg).1] at this
    simpa using this
  have hs : 10 ≤ cur.size := by
    have := hc 9 (.int .i64 b.N) rfl
    exact (Array.getElem?_eq_some_iff.1 this).1
  refine Or.inr ⟨g, 0, c, by simp, Nat.lt_of_lt_of_le hb kk.size, fun j u hj => ?_⟩
  rw [(tk_store h9).1, Nat.zero_add]
  by_cases hj10 : j < 10
  · have hsz : ∀ i, i < 10 → i < cur.size := fun i hi => Nat.lt_of_lt_of_le hi hs
    have hlist : (fl EC (b :: a :: r))[j]? = ([Value.int .i64 b.pl, Value.int .u64 (b.A : Nat), Value.int .u64 (b.B : Nat), Value.int .u64 (b.C : Nat), Value.int .i64 b.N, Value.int .i64 a.pl, Value.int .u64 (a.A : Nat), Value.int .u64 (a.B : Nat), Value.int .u64 (a.C : Nat), Value.int .i64 a.N] : List Value)[j]? := by
      have : fl EC (b :: a :: r) = [Value.int .i64 b.pl, Value.int .u64 (b.A : Nat), Value.int .u64 (b.B : Nat), Value.int .u64 (b.C : Nat), Value.int .i64 b.N, Value.int .i64 a.pl, Value.int .u64 (a.A : Nat), Value.int .u64 (a.B : Nat), Value.int .u64 (a.C : Nat), Value.int .i64 a.N] ++ fl EC r := rfl
      rw [this, List.getElem?_append_left (by simpa using hj10)]
    rw [hlist] at hj
    have hcase : j = 0 ∨ j = 1 ∨ j = 2 ∨ j = 3 ∨ j = 4 ∨ j = 5 ∨ j = 6 ∨ j = 7 ∨ j = 8 ∨ j = 9 := by omega
    rcases hcase with rfl | rfl | rfl | rfl | rfl | rfl | rfl | rfl | rfl | rfl
    all_goals (
      simp at hj
      subst hj
      simp [hsz 0 (by decide), hsz 1 (by decide), hsz 2 (by decide), hsz 3 (by decide), hsz 4 (by decide), hsz 5 (by decide), hsz 6 (by decide), hsz 7 (by decide), hsz 8 (by decide), hsz 9 (by decide)])
  · have e : (fl EC (b :: a :: r))[j]? = (fl EC (a :: b :: r))[j]? := by
      have e1 : fl EC (b :: a :: r) = [Value.int .i64 b.pl, Value.int .u64 (b.A : Nat), Value.int .u64 (b.B : Nat), Value.int .u64 (b.C : Nat), Value.int .i64 b.N, Value.int .i64 a.pl, Value.int .u64 (a.A : Nat), Value.int .u64 (a.B : Nat), Value.int .u64 (a.C : Nat), Value.int .i64 a.N] ++ fl EC r := rfl
      have e2 : fl EC (a :: b :: r) = [Value.int .i64 a.pl, Value.int .u64 (a.A : Nat), Value.int .u64 (a.B : Nat), Value.int .u64 (a.C : Nat), Value.int .i64 a.N, Value.int .i64 b.pl, Value.int .u64 (b.A : Nat), Value.int .u64 (b.B : Nat), Value.int .u64 (b.C : Nat), Value.int .i64 b.N] ++ fl EC r := rfl
      rw [e1, e2, List.getElem?_append_right (by simp; omega), List.getElem?_append_right (by simp; omega)]
      rfl
    rw [e] at hj
    have h1 := hc j u hj
    simp only [Array.getElem?_setIfInBounds]
    rw [if_neg (by omega), if_neg (by omega), if_neg (by omega), if_neg (by omega), if_neg (by omega), if_neg (by omega), if_neg (by omega), if_neg (by omega), if_neg (by omega), if_neg (by omega)]
    exact h1
end Go.Proofs.YtghofmhlmkpkcaaDoor.Wi
