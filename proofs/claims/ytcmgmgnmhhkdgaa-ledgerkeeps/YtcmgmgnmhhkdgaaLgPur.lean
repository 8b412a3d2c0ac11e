import Derived.Test.YtcmgmgnmhhkdgaaLgMeth
namespace Go.Proofs.Ytcmgmgnmhhkdgaa
open Go.RowKit Go.Sort Go.Maps
open Tt (Tl addc addf byd byd_f)

/-- The sum of what was written of a stamp. -/
def smf : List Cg → Sm → Int
  | [], _ => 0
  | o :: l, s => (if o.1 = s then o.2 else 0) + smf l s
theorem smf_append (l m : List Cg) (s : Sm) : smf (l ++ m) s = smf l s + smf m s := by
  induction l with
  | nil => simp [smf]
  | cons o l ih => rw [List.cons_append, smf, smf, ih]; omega
theorem smf_reverse (l : List Cg) (s : Sm) : smf l.reverse s = smf l s := by
  induction l with
  | nil => rfl
  | cons o l ih => rw [List.reverse_cons, smf_append, ih, smf]; simp [smf]; omega
/-- Ones alone. -/
def Ones (l : List Cg) : Prop := ∀ o ∈ l, o.2 = 1 ∨ o.2 = -1
theorem smf_bd {l : List Cg} (h : Ones l) (s : Sm) : -(l.length : Int) ≤ smf l s ∧ smf l s ≤ l.length := by
  induction l with
  | nil => simp [smf]
  | cons o l ih =>
    have h1 := ih fun o ho => h o (List.mem_cons_of_mem _ ho)
    have h2 := h o List.mem_cons_self
    rw [smf, List.length_cons]
    split <;> omega
theorem smf_snoc (l : List Cg) (x : Sm) (v : Int) : upd (smf l) x (smf l x + v) = smf (l ++ [(x, v)]) := by
  funext s
  rw [smf_append]
  by_cases e : s = x
  · subst e; rw [upd_same]; simp [smf]
  · rw [upd_other _ _ e]
    have : ¬ x = s := fun h => e h.symm
    simp [smf, this]
theorem add_in {f : Sm → Int} {x : Sm} {v : Int} (hv : v = 1 ∨ v = -1) (h : -2147483000 ≤ f x ∧ f x ≤ 2147483000) : addc f x v = 0 ∧ addf f x v = upd f x (f x + v) := by
  unfold addc addf
  have h1 : byd v = false := byd_f.2 (by omega)
  have h2 : byd (f x + v) = false := byd_f.2 (by omega)
  rw [h1, h2]
  simp
/-- A making or a using of a sum of ones. -/
theorem add_smf {l : List Cg} (h : Ones l) (hl : l.length ≤ 2147483000) {x : Sm} {v : Int} (hv : v = 1 ∨ v = -1) : addc (smf l) x v = 0 ∧ addf (smf l) x v = smf (l ++ [(x, v)]) := by
  have hb := smf_bd h x
  have h1 := add_in (f := smf l) (x := x) hv (by omega)
  exact ⟨h1.1, h1.2.trans (smf_snoc l x v)⟩
theorem Ones.snoc {l : List Cg} (h : Ones l) {x : Sm} {v : Int} (hv : v = 1 ∨ v = -1) : Ones (l ++ [(x, v)]) := fun o ho => by
  rcases List.mem_append.1 ho with ho | ho
  · exact h o ho
  · rw [List.mem_singleton] at ho; subst ho; exact hv
theorem Ones.append {l m : List Cg} (h : Ones l) (k : Ones m) : Ones (l ++ m) := fun o ho => by
  rcases List.mem_append.1 ho with ho | ho
  · exact h o ho
  · exact k o ho
theorem Ones.reverse {l : List Cg} (h : Ones l) : Ones l.reverse := fun o ho => h o (List.mem_reverse.1 ho)
theorem Ones.nil : Ones [] := fun o ho => by cases ho

/-- A step of a script. -/
structure Opx where
  k : Int
  i : Int
  s : Sm
  hk : (Lit.int .i64 k).wf = true
instance : Inhabited Opx := ⟨⟨0, 0, default, by decide⟩⟩
def EO : El Opx where
  k := 6
  enc o := [.int .i64 o.k, .int .i64 o.i, .int .i64 o.s.1.1, .int .u64 o.s.1.2.1, .int .u64 o.s.1.2.2.1, .int .u64 o.s.1.2.2.2]
  len _ := rfl
  one x u hu := by simp at hu; rcases hu with rfl | rfl | rfl | rfl | rfl | rfl <;> rfl
theorem Ls.atO {w : World} {v : Value} {ts : List Opx} (h : Ls EO w v ts) {j : Nat} {t : Opx} (hj : ts[j]? = some t) :
    ∃ b off c, v = .slice (some ⟨b, off, none⟩) ts.length c ∧ b < w.heap.size ∧ w.cell? ⟨b, off + j * 6, none⟩ = some (.int .i64 t.k) ∧ w.cell? ⟨b, off + j * 6 + 1, none⟩ = some (.int .i64 t.i) ∧ w.cell? ⟨b, off + j * 6 + 2, none⟩ = some (.int .i64 t.s.1.1) ∧
      w.cell? ⟨b, off + j * 6 + 3, none⟩ = some (.int .u64 t.s.1.2.1) ∧ w.cell? ⟨b, off + j * 6 + 4, none⟩ = some (.int .u64 t.s.1.2.2.1) ∧ w.cell? ⟨b, off + j * 6 + 5, none⟩ = some (.int .u64 t.s.1.2.2.2) := by
  obtain ⟨b, off, c, hv, hb, hc⟩ := h.get hj
  exact ⟨b, off, c, hv, hb, hc 0 _ (by decide) rfl, hc 1 _ (by decide) rfl, hc 2 _ (by decide) rfl, hc 3 _ (by decide) rfl, hc 4 _ (by decide) rfl, hc 5 _ (by decide) rfl⟩
/-- Even: a making; odd: a using. -/
def sg (k : Int) : Int := if k.tmod 2 = 0 then 1 else -1
theorem sg_one (k : Int) : sg k = 1 ∨ sg k = -1 := by unfold sg; split <;> simp
def wr (l : List Opx) : List Cg := l.map fun o => (o.s, sg o.k)
theorem wr_ones (l : List Opx) : Ones (wr l) := fun o ho => by
  obtain ⟨x, _, rfl⟩ := List.mem_map.1 ho
  exact sg_one _
theorem wr_length (l : List Opx) : (wr l).length = l.length := List.length_map ..
theorem wr_append (l m : List Opx) : wr (l ++ m) = wr l ++ wr m := List.map_append ..
theorem wr_reverse (l : List Opx) : wr l.reverse = (wr l).reverse := List.map_reverse ..
theorem wr_take_succ {l : List Opx} {i : Nat} {o : Opx} (h : l[i]? = some o) : wr (l.take (i + 1)) = wr (l.take i) ++ [(o.s, sg o.k)] := by
  rw [List.take_add_one, h, wr_append]
  rfl
/-- What is written from the front, or from the end. -/
def ord (back : Bool) (l : List Opx) : List Opx := if back then l.reverse else l
theorem ord_length (back : Bool) (l : List Opx) : (ord back l).length = l.length := by unfold ord; split <;> simp
theorem smf_ord (back : Bool) (l : List Opx) (s : Sm) : smf (wr (ord back l)) s = smf (wr l) s := by
  unfold ord; split
  · rw [wr_reverse, smf_reverse]
  · rfl
end Go.Proofs.Ytcmgmgnmhhkdgaa
