import Derived.Test.YtghofmhlmkpkcaaDoorBPure
namespace Go.Proofs.YtghofmhlmkpkcaaDoor.Wi

/-- A change made small. -/
theorem nrm_ok (c : Cx) : (-9223372036854775808 ≤ c.pl % 128 ∧ c.pl % 128 ≤ 9223372036854775807) ∧ (c.A < 18446744073709551616 ∧ c.B < 18446744073709551616 ∧ c.C < 18446744073709551616) ∧ (-9223372036854775808 ≤ c.N.tmod 2147483648 ∧ c.N.tmod 2147483648 ≤ 9223372036854775807) := by
  have h := c.ok
  refine ⟨by omega, h.2.1, ?_⟩
  rcases Int.le_total 0 c.N with h0 | h0
  · have h1 := Int.tmod_nonneg 2147483648 h0
    have h2 := Int.tmod_lt_of_pos c.N (b := 2147483648) (by decide)
    omega
  · have h1 : (-c.N).tmod 2147483648 = -(c.N.tmod 2147483648) := Int.neg_tmod _ _
    have h2 := Int.tmod_nonneg 2147483648 (a := -c.N) (by omega)
    have h3 := Int.tmod_lt_of_pos (-c.N) (b := 2147483648) (by decide)
    omega
theorem tmod_bd (x : Int) : -2147483647 ≤ x.tmod 2147483648 ∧ x.tmod 2147483648 ≤ 2147483647 := by
  rcases Int.le_total 0 x with h0 | h0
  · have h1 := Int.tmod_nonneg 2147483648 h0
    have h2 := Int.tmod_lt_of_pos x (b := 2147483648) (by decide)
    omega
  · have h1 : (-x).tmod 2147483648 = -(x.tmod 2147483648) := Int.neg_tmod _ _
    have h2 := Int.tmod_nonneg 2147483648 (a := -x) (by omega)
    have h3 := Int.tmod_lt_of_pos (-x) (b := 2147483648) (by decide)
    omega
def nrm (c : Cx) : Cx := ⟨c.pl % 128, c.A, c.B, c.C, c.N.tmod 2147483648, nrm_ok c⟩
theorem nrm_wr {c : Cx} (h : (nrm c).N ≠ 0) : wr1 (nrm c) = 0 := by
  have h1 : (nrm c).pl = c.pl % 128 := rfl
  have h2 := tmod_bd c.N
  have h3 : (nrm c).N = c.N.tmod 2147483648 := rfl
  unfold wr1
  rw [if_neg (by omega), if_neg h]
/-- Is a time told behind another? -/
def lat (a b c x y z : Nat) : Prop := x < a ∨ (a = x ∧ (y < b ∨ (b = y ∧ z < c)))
instance (a b c x y z : Nat) : Decidable (lat a b c x y z) := by unfold lat; infer_instance
def drops (s d : Cx) : Prop := d.N = 0 ∨ d.pl < s.pl ∨ (d.pl = s.pl ∧ ¬ lat d.A d.B d.C s.A s.B s.C)
instance (s d : Cx) : Decidable (drops s d) := by unfold drops; infer_instance
/-- The changes that may stand one behind the other. -/
def rowL : Cx → List Cx → List Cx
  | _, [] => []
  | s, c :: l => if drops s (nrm c) then rowL s l else nrm c :: rowL (nrm c) l
def frs : Cx := ⟨-1, 0, 0, 0, 0, by decide⟩
theorem rowL_len (s : Cx) (l : List Cx) : (rowL s l).length ≤ l.length := by
  induction l generalizing s with
  | nil => simp [rowL]
  | cons c l ih =>
    rw [rowL]
    split
    · have := ih s; rw [List.length_cons]; omega
    · have := ih (nrm c); rw [List.length_cons, List.length_cons]; omega
theorem rowL_good (l : List Cx) (s : Cx) (p : Option Cx) (h : ∀ d, ¬ drops s d → bh p d = true) : bgo p (rowL s l) = 0 := by
  induction l generalizing s p with
  | nil => rfl
  | cons c l ih =>
    rw [rowL]
    split
    · exact ih s p h
    · rename_i hd
      have hn : (nrm c).N ≠ 0 := fun e => hd (Or.inl e)
      rw [bgo_mk (nrm_wr hn) (h _ hd)]
      refine ih _ _ fun d hdd => ?_
      show decide (lt4 (nrm c) d) = true
      refine decide_eq_true ?_
      unfold drops lat at hdd
      unfold lt4
      omega
theorem rowL_ok (l : List Cx) : bgo none (rowL frs l) = 0 := rowL_good l frs none (fun _ _ => rfl)
theorem rowL_step {l : List Cx} {k : Nat} {c s : Cx} (h : l[k]? = some c) : rowL s (l.drop k) = if drops s (nrm c) then rowL s (l.drop (k + 1)) else nrm c :: rowL (nrm c) (l.drop (k + 1)) := by
  have hlt := (List.getElem?_eq_some_iff.1 h).1
  have he : l[k] = c := (List.getElem?_eq_some_iff.1 h).2
  rw [List.drop_eq_getElem_cons hlt, he, rowL]
end Go.Proofs.YtghofmhlmkpkcaaDoor.Wi
