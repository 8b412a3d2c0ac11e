import Derived.Test.YtnpmmodcmfgbjaaGreatMRcp
import Derived.Test.YtnpmmodcmfgbjaaGreatMTel1
namespace Go.Proofs.YtnpmmodcmfgbjaaGreat
open Go.RowKit Go.Sort Go.Maps
open Tt (Tl byd byd_f byd_t)

theorem newc_nil {f : Tm → Int} (hf : ∀ t, -2147483647 ≤ f t ∧ f t ≤ 2147483647) : newc f [] = f := by
  funext t
  have := hf t
  unfold newc sm wrap64
  simp only [List.foldl_nil]
  omega
theorem newc_take_succ {f : Tm → Int} {ds : List Dl} {k : Nat} {d : Dl} (h : ds[k]? = some d) : newc f (ds.take (k + 1)) = upd (newc f (ds.take k)) d.1 (wrap64 (newc f (ds.take k) d.1 + d.2)) := by
  funext t
  unfold newc
  rw [sm_take_succ h]
  by_cases e : t = d.1
  · subst e
    rw [upd_same, upd_same]
    unfold wrap64
    omega
  · rw [upd_other _ _ e, upd_other _ _ e]
theorem bad_d {f : Tm → Int} {ds : List Dl} {d : Dl} (h : d ∈ ds) (hb : byd d.2 = true) : bad f ds = true := by
  unfold bad
  rw [Bool.or_eq_true]
  exact Or.inl (List.any_eq_true.2 ⟨d, h, hb⟩)
theorem bad_t {f : Tm → Int} {ds : List Dl} {t : Tm} (hf : ∀ t, -2147483647 ≤ f t ∧ f t ≤ 2147483647) (hb : byd (newc f ds t) = true) : bad f ds = true := by
  by_cases h : t ∈ ds.map Prod.fst
  · obtain ⟨d, hd, rfl⟩ := List.mem_map.1 h
    unfold bad
    rw [Bool.or_eq_true]
    exact Or.inr (List.any_eq_true.2 ⟨d, hd, hb⟩)
  · rw [newc_other (hf t) h, byd_f.2 (hf t)] at hb
    cases hb
theorem bad_not {f : Tm → Int} {ds : List Dl} (h1 : ∀ d ∈ ds, byd d.2 = false) (h2 : ∀ t, byd (newc f ds t) = false) : bad f ds = false := by
  unfold bad
  rw [Bool.or_eq_false_iff]
  exact ⟨List.any_eq_false.2 fun d hd => by simp [h1 d hd], List.any_eq_false.2 fun d _ => by simp [h2 d.1]⟩
theorem cn_not {T : List Tm} {N : List Int} (hn : T.Nodup) (hl : N.length = T.length) (h : ∀ n ∈ N, byd n = false) (t : Tm) : byd (cn T N t) = false := by
  by_cases ht : t ∈ T
  · obtain ⟨k, hk⟩ := List.getElem?_of_mem ht
    obtain ⟨n, hN⟩ : ∃ n, N[k]? = some n := ⟨N[k]'(by have := (List.getElem?_eq_some_iff.1 hk).1; omega), by simp⟩
    rw [cn_at hk (nodup_take hk hn) hN]
    exact h n (List.mem_of_getElem? hN)
  · rw [cn_out ht hl]
    rfl

/-- What is told of one time, and of all. -/
def om1 (was now : List Tm) (y : Tm) : List Dl := (if y ∈ now then [] else [(y, -1)]) ++ (if y ∈ was then [] else [(y, 1)])
def om (was now both : List Tm) : List Dl := both.flatMap (om1 was now)
theorem om_take_succ {was now both : List Tm} {k : Nat} {y : Tm} (h : both[k]? = some y) : om was now (both.take (k + 1)) = (om was now (both.take k) ++ (if y ∈ now then [] else [(y, -1)])) ++ (if y ∈ was then [] else [(y, 1)]) := by
  unfold om
  rw [List.take_add_one, h, List.flatMap_append]
  simp [om1]
theorem om_length {was now both : List Tm} : (om was now both).length ≤ 2 * both.length := by
  unfold om
  induction both with
  | nil => simp
  | cons y l ih =>
    rw [List.flatMap_cons, List.length_append, List.length_cons]
    have : (om1 was now y).length ≤ 2 := by unfold om1; by_cases h1 : y ∈ now <;> by_cases h2 : y ∈ was <;> simp [h1, h2]
    omega
theorem om_eq {was now : List Tm} (both : List Tm) (h : ∀ y ∈ both, y ∈ was ∨ y ∈ now) : om was now both = (both.filter fun y => !(decide (y ∈ was) && decide (y ∈ now))).map fun t => (t, if t ∈ now then 1 else -1) := by
  unfold om
  induction both with
  | nil => rfl
  | cons y l ih =>
    rw [List.flatMap_cons, ih fun z hz => h z (List.mem_cons_of_mem _ hz), List.filter_cons]
    unfold om1
    by_cases h1 : y ∈ now
    · by_cases h2 : y ∈ was <;> simp [h1, h2]
    · rcases h y List.mem_cons_self with h2 | h2
      · simp [h1, h2]
      · exact absurd h2 h1
theorem om_dlt {was now both : List Tm} (hw : was.Nodup) (hn : now.Nodup) (hs : both.Pairwise fun p q => tol p q = true) (hm : ∀ y, y ∈ both ↔ y ∈ was ++ now) : om was now both = dlt was now := by
  rw [om_eq both fun y hy => List.mem_append.1 ((hm y).1 hy)]
  unfold dlt
  congr 1
  refine sorted_same ords (hs.sublist List.filter_sublist) (stT_sorted (mis_nodup hw hn)) fun y => ?_
  rw [List.mem_filter, hm y, List.mem_append]
  have e : y ∈ stT (mis was now ++ mis now was) ↔ y ∈ mis was now ++ mis now was := srtBy_mem
  rw [e]
  unfold mis
  rw [List.mem_append, List.mem_filter, List.mem_filter]
  by_cases h1 : y ∈ now <;> by_cases h2 : y ∈ was <;> simp [h1, h2]
/-- The front that was found by definition is the front. -/
theorem isFr_same {f : Tm → Int} {fr R : List Tm} (h : IsFr f fr) (hs : R.Pairwise fun p q => tol p q = true) (hm : ∀ y, y ∈ R ↔ 0 < f y ∧ ∀ z, 0 < f z → bel z y = true → z = y) : R = fr :=
  sorted_same ords hs h.sorted fun y => (hm y).trans (h.mem y).symm
end Go.Proofs.YtnpmmodcmfgbjaaGreat
