import Derived.Test.YtplbcamliiajdaaYKn2
namespace Go.Proofs.Ytplbcamliiajdaa
open Go.RowKit Go.Sort Go.Maps

/-- A step that came in. -/
structure Opx where
  k : Int
  i : Int
  j : Int
  key : BS
  n : Int
abbrev ov (o : Opx) : Value := .agg #[.int .i64 o.k, .int .i64 o.i, .int .i64 o.j, .string o.key.1, .int .i64 o.n]
/-- The steps lie there. -/
def OpsAt (w : World) (b off : Nat) (l : List Opx) : Prop := ∀ (j : Nat) (o : Opx), l[j]? = some o →
  w.cell? ⟨b, off + j * 5, none⟩ = some (.int .i64 o.k) ∧ w.cell? ⟨b, off + j * 5 + 1, none⟩ = some (.int .i64 o.i) ∧ w.cell? ⟨b, off + j * 5 + 2, none⟩ = some (.int .i64 o.j) ∧
  w.cell? ⟨b, off + j * 5 + 3, none⟩ = some (.string o.key.1) ∧ w.cell? ⟨b, off + j * 5 + 4, none⟩ = some (.int .i64 o.n)
/-- A slice value that reads as these steps. -/
def Lo (w : World) (v : Value) (l : List Opx) : Prop :=
  (l = [] ∧ v = .slice none 0 0) ∨ ∃ b off c, v = .slice (some ⟨b, off, none⟩) l.length c ∧ l.length ≤ c ∧ b < w.heap.size ∧ OpsAt w b off l
theorem Lo.below {w w' : World} {v : Value} {l : List Opx} {B : Nat} (h : Lo w v l) (hB : w.heap.size ≤ B) (hb : Below B w w') : Lo w' v l := by
  rcases h with h | ⟨b, off, c, hv, hc, hbs, ht⟩
  · exact Or.inl h
  · refine Or.inr ⟨b, off, c, hv, hc, Nat.lt_of_lt_of_le hbs hb.size, fun j o hj => ?_⟩
    have e : ∀ q, w'.cell? ⟨b, q, none⟩ = w.cell? ⟨b, q, none⟩ := fun q => hb.cell (p := ⟨b, q, none⟩) (Nat.lt_of_lt_of_le hbs hB)
    simp only [e]
    exact ht j o hj
theorem Lo.form {w : World} {v : Value} {l : List Opx} (h : Lo w v l) : ∃ p c, v = .slice p l.length c ∧ l.length ≤ c := by
  rcases h with ⟨rfl, rfl⟩ | ⟨b, off, c, hv, hc, _, _⟩
  · exact ⟨_, _, rfl, by simp⟩
  · exact ⟨_, _, hv, hc⟩
theorem Lo.at5 {w : World} {v : Value} {l : List Opx} (h : Lo w v l) {j : Nat} {o : Opx} (hj : l[j]? = some o) :
    ∃ b off c, v = .slice (some ⟨b, off, none⟩) l.length c ∧ b < w.heap.size ∧
      w.cell? ⟨b, off + j * 5, none⟩ = some (.int .i64 o.k) ∧ w.cell? ⟨b, off + j * 5 + 1, none⟩ = some (.int .i64 o.i) ∧ w.cell? ⟨b, off + j * 5 + 2, none⟩ = some (.int .i64 o.j) ∧
      w.cell? ⟨b, off + j * 5 + 3, none⟩ = some (.string o.key.1) ∧ w.cell? ⟨b, off + j * 5 + 4, none⟩ = some (.int .i64 o.n) := by
  rcases h with ⟨rfl, _⟩ | ⟨b, off, c, hv, _, hb, ht⟩
  · simp at hj
  · exact ⟨b, off, c, hv, hb, ht j o hj⟩
theorem Lo.cut {w : World} {p : Option Addr} {n c k : Nat} {l : List Opx} (h : Lo w (.slice p n c) l) (hk : k ≤ l.length) : Lo w (.slice p k c) (l.take k) := by
  rcases h with ⟨rfl, hv⟩ | ⟨b, off, c', hv, hc, hb, ht⟩
  · cases hv
    simp at hk
    subst hk
    exact Or.inl ⟨by simp, rfl⟩
  · cases hv
    refine Or.inr ⟨b, off, c, by rw [List.length_take, Nat.min_eq_left hk], by rw [List.length_take]; omega, hb, fun j o hj => ht j o ?_⟩
    rw [List.getElem?_take] at hj
    split at hj
    · exact hj
    · cases hj

/-- What a step adds. -/
def md (n : Int) : Int := n.tmod 1000
theorem md_bd (n : Int) : -999 ≤ md n ∧ md n ≤ 999 := by
  unfold md
  have h1 := Int.tmod_lt_of_pos n (b := 1000) (by decide)
  have h2 := Int.lt_tmod_of_pos n (b := 1000) (by decide)
  omega
/-- The sum of what steps add to a key. -/
def sumv (l : List Opx) (x : BS) : Int := (l.map fun o => if x = o.key then md o.n else 0).sum
theorem sumv_nil : sumv [] = fun _ => 0 := rfl
theorem upd_add (f : BS → Int) (x : BS) (d : Int) : upd f x (f x + d) = fun y => f y + (if y = x then d else 0) := by
  funext y
  unfold upd
  by_cases h : y = x
  · subst h; simp
  · simp [h]
theorem sumv_snoc (l : List Opx) (o : Opx) : sumv (l ++ [o]) = upd (sumv l) o.key (sumv l o.key + md o.n) := by
  rw [upd_add]
  funext y
  simp [sumv]
theorem sumv_take {l : List Opx} {k : Nat} {o : Opx} (h : l[k]? = some o) : sumv (l.take (k + 1)) = upd (sumv (l.take k)) o.key (sumv (l.take k) o.key + md o.n) := by
  rw [List.take_add_one, h]
  exact sumv_snoc _ _
theorem sumv_bd (l : List Opx) (x : BS) : -(999 * (l.length : Int)) ≤ sumv l x ∧ sumv l x ≤ 999 * (l.length : Int) := by
  induction l with
  | nil => simp [sumv]
  | cons o l ih =>
    have h := md_bd o.n
    have e : sumv (o :: l) x = (if x = o.key then md o.n else 0) + sumv l x := by simp [sumv]
    rw [e, List.length_cons]
    split <;> omega
theorem sumv_append (a b : List Opx) (x : BS) : sumv (a ++ b) x = sumv a x + sumv b x := by simp [sumv]
theorem sumv_rev (l : List Opx) : sumv l.reverse = sumv l := by
  funext x
  induction l with
  | nil => rfl
  | cons o l ih =>
    rw [List.reverse_cons, sumv_append, ih, show o :: l = [o] ++ l from rfl, sumv_append]
    omega
theorem sumv_key {l : List Opx} {x : BS} (h : sumv l x ≠ 0) : x ∈ l.map (·.key) := by
  induction l with
  | nil => exact absurd rfl h
  | cons o l ih =>
    rw [show o :: l = [o] ++ l from rfl, sumv_append] at h
    by_cases hx : x = o.key
    · simp [hx]
    · have h0 : sumv [o] x = 0 := by simp [sumv, hx]
      rw [h0, Int.zero_add] at h
      exact List.mem_cons_of_mem _ (ih h)
theorem sup_len {l : List Opx} {ks : List BS} (h : Sup (sumv l) ks) : ks.length ≤ l.length := by
  have := h.le (ms := l.map (·.key)) fun s hs => sumv_key hs
  simpa using this
theorem sub_take {l : List Opx} {k : Nat} {o : Opx} (h : l[k]? = some o) : (fun x => sumv l x - sumv (l.take (k + 1)) x) = upd (fun x => sumv l x - sumv (l.take k) x) o.key ((sumv l o.key - sumv (l.take k) o.key) + -(md o.n)) := by
  have e := upd_add (fun x => sumv l x - sumv (l.take k) x) o.key (-(md o.n))
  rw [e, sumv_take h, upd_add]
  funext x
  by_cases hx : x = o.key
  · simp [hx]; omega
  · simp [hx]
theorem sub_bd (l : List Opx) (k : Nat) (x : BS) : -(999 * (l.length : Int)) ≤ sumv l x - sumv (l.take k) x ∧ sumv l x - sumv (l.take k) x ≤ 999 * (l.length : Int) := by
  have h := sumv_append (l.take k) (l.drop k) x
  rw [List.take_append_drop] at h
  have h2 := sumv_bd (l.drop k) x
  rw [List.length_drop] at h2
  omega
theorem sup_zero {ks : List BS} (h : Sup (fun _ => (0 : Int)) ks) : ks = [] := by
  cases ks with
  | nil => rfl
  | cons a _ => exact absurd ((h.2 a).1 List.mem_cons_self) (by simp)
theorem rev_get {l : List Opx} {k : Nat} {o : Opx} (hk : k < l.length) (h : l[l.length - 1 - k]? = some o) : l.reverse[k]? = some o := by
  rw [List.getElem?_reverse hk]; exact h
end Go.Proofs.Ytplbcamliiajdaa
