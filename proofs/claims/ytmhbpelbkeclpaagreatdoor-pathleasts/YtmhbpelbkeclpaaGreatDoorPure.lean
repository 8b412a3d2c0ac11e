import Derived.Test.YtmhbpelbkeclpaaGreatDoorFront
namespace Go.Proofs.YtmhbpelbkeclpaaGreatDoor
open Go.RowKit Go.Shelf Go.Lib
open Go.Sort hiding Below

theorem le3_iff (x y : T3) : le3 x y = true ↔ x.1 ≤ y.1 ∧ x.2.1 ≤ y.2.1 ∧ x.2.2 ≤ y.2.2 := by
  simp [le3, tle]
theorem le3_refl (x : T3) : le3 x x = true := by rw [le3_iff]; omega
theorem le3_trans {x y z : T3} (h : le3 x y = true) (k : le3 y z = true) : le3 x z = true := by
  rw [le3_iff] at *; omega
theorem T3.ext' {x y : T3} (h1 : x.1 = y.1) (h2 : x.2.1 = y.2.1) (h3 : x.2.2 = y.2.2) : x = y := by
  obtain ⟨a, b, c⟩ := x
  obtain ⟨p, q, r⟩ := y
  simp only at h1 h2 h3
  rw [h1, h2, h3]
theorem le3_anti {x y : T3} (h : le3 x y = true) (k : le3 y x = true) : x = y := by
  rw [le3_iff] at *
  exact T3.ext' (by omega) (by omega) (by omega)
theorem lt3_irrefl (x : T3) : ¬ lt3 x x := by unfold lt3; omega
theorem lt3_trans {x y z : T3} (h : lt3 x y) (k : lt3 y z) : lt3 x z := by unfold lt3 at *; omega
theorem le3_lt {x y : T3} (h : le3 x y = true) (hne : x ≠ y) : lt3 x y := by
  rw [le3_iff] at h
  by_cases e1 : x.1 = y.1
  · by_cases e2 : x.2.1 = y.2.1
    · by_cases e3 : x.2.2 = y.2.2
      · exact absurd (T3.ext' e1 e2 e3) hne
      · unfold lt3; omega
    · unfold lt3; omega
  · unfold lt3; omega
theorem lt3_total (x y : T3) (h1 : ¬ lt3 x y) (h2 : ¬ lt3 y x) : x = y := by
  unfold lt3 at *
  exact T3.ext' (by omega) (by omega) (by omega)

theorem topen_iff (f : List T3) (t : T3) : topen f t = true ↔ ∃ u, u ∈ f ∧ le3 u t = true := by
  simp [topen]

theorem tsort_sorted (ts : List T3) : (tsort ts).Pairwise fun x y => ¬ lt3 y x := by
  have h := List.pairwise_mergeSort (le := fun x y => !(ltOf cmp3) y x)
    (fun a b c h1 h2 => by
      simp only [Bool.not_eq_true', ltOf3_not] at *
      unfold lt3 at *; omega)
    (fun a b => by
      simp only [Bool.or_eq_true, Bool.not_eq_true', ltOf3_not]
      unfold lt3; omega) ts
  exact h.imp fun {x y} hxy => by simpa only [Bool.not_eq_true', ltOf3_not] using hxy

/-- What the fold holds. -/
theorem fold_inv (ts f : List T3) (hs : ts.Pairwise fun x y => ¬ lt3 y x) (hf : ∀ u ∈ f, ∀ t ∈ ts, ¬ lt3 t u) (h1 : f.Pairwise fun u v => lt3 u v ∧ le3 u v = false ∧ le3 v u = false) :
    (ts.foldl fstep f).Pairwise (fun u v => lt3 u v ∧ le3 u v = false ∧ le3 v u = false) ∧ (∀ u ∈ ts.foldl fstep f, u ∈ f ∨ u ∈ ts) ∧ (∀ u ∈ f, u ∈ ts.foldl fstep f) ∧ (∀ t ∈ ts, topen (ts.foldl fstep f) t = true) := by
  induction ts generalizing f with
  | nil => exact ⟨h1, fun u hu => Or.inl hu, fun u hu => hu, fun t ht => by simp at ht⟩
  | cons t ts ih =>
    rw [List.foldl_cons]
    have hs2 := (List.pairwise_cons.1 hs)
    have key : (fstep f t).Pairwise (fun u v => lt3 u v ∧ le3 u v = false ∧ le3 v u = false) ∧ (∀ u ∈ fstep f t, u ∈ f ∨ u = t) ∧ (∀ u ∈ f, u ∈ fstep f t) ∧ topen (fstep f t) t = true := by
      unfold fstep
      by_cases ho : topen f t = true
      · rw [if_pos ho]
        exact ⟨h1, fun u hu => Or.inl hu, fun u hu => hu, ho⟩
      · rw [if_neg ho]
        refine ⟨?_, ?_, ?_, ?_⟩
        · rw [List.pairwise_append]
          refine ⟨h1, by simp, ?_⟩
          intro u hu v hv
          simp at hv; subst hv
          have n1 : le3 u v = false := by
            cases hle : le3 u v with
            | false => rfl
            | true => exact absurd ((topen_iff f v).2 ⟨u, hu, hle⟩) ho
          have n2 := hf u hu v (by simp)
          have ne : u ≠ v := fun e => by rw [e, le3_refl] at n1; simp at n1
          have l : lt3 u v := by
            by_cases hl : lt3 u v
            · exact hl
            · exact absurd (lt3_total u v hl n2) ne
          refine ⟨l, n1, ?_⟩
          cases hle : le3 v u with
          | false => rfl
          | true => exact absurd (le3_lt hle (Ne.symm ne)) n2
        · intro u hu; simpa using hu
        · intro u hu; simp [hu]
        · exact (topen_iff _ _).2 ⟨t, by simp, le3_refl t⟩
    obtain ⟨k1, k2, k3, k4⟩ := key
    have hf' : ∀ u ∈ fstep f t, ∀ t' ∈ ts, ¬ lt3 t' u := by
      intro u hu t' ht'
      rcases k2 u hu with h | rfl
      · exact hf u h t' (by simp [ht'])
      · exact hs2.1 t' ht'
    obtain ⟨i1, i2, i3, i4⟩ := ih (fstep f t) hs2.2 hf' k1
    refine ⟨i1, ?_, fun u hu => i3 u (k3 u hu), ?_⟩
    · intro u hu
      rcases i2 u hu with h | h
      · rcases k2 u h with h | rfl
        · exact Or.inl h
        · exact Or.inr (by simp)
      · exact Or.inr (by simp [h])
    · intro t' ht'
      rcases List.mem_cons.1 ht' with rfl | ht'
      · obtain ⟨u, hu, hle⟩ := (topen_iff _ _).1 k4
        exact (topen_iff _ _).2 ⟨u, i3 u hu, hle⟩
      · exact i4 t' ht'

theorem tfront_pw (ts : List T3) : (tfront ts).Pairwise fun u v => lt3 u v ∧ le3 u v = false ∧ le3 v u = false :=
  (fold_inv (tsort ts) [] (tsort_sorted ts) (by simp) (by simp)).1
theorem tfront_sub {ts : List T3} {u : T3} (h : u ∈ tfront ts) : u ∈ ts := by
  rcases (fold_inv (tsort ts) [] (tsort_sorted ts) (by simp) (by simp)).2.1 u h with h | h
  · simp at h
  · exact (tsort_perm ts).mem_iff.1 h
theorem tfront_open {ts : List T3} {t : T3} (h : t ∈ ts) : topen (tfront ts) t = true :=
  (fold_inv (tsort ts) [] (tsort_sorted ts) (by simp) (by simp)).2.2.2 t ((tsort_perm ts).mem_iff.2 h)
theorem tfront_mem (ts : List T3) (x : T3) : x ∈ tfront ts ↔ x ∈ ts ∧ ∀ y ∈ ts, le3 y x = true → y = x := by
  constructor
  · intro hx
    refine ⟨tfront_sub hx, fun y hy hle => ?_⟩
    obtain ⟨u, hu, hle2⟩ := (topen_iff _ _).1 (tfront_open hy)
    have hux := le3_trans hle2 hle
    by_cases e : u = x
    · subst e; exact le3_anti hle hle2
    · exfalso
      have := (tfront_pw ts)
      have h2 : ∀ {l : List T3}, l.Pairwise (fun u v => lt3 u v ∧ le3 u v = false ∧ le3 v u = false) → ∀ a ∈ l, ∀ b ∈ l, a ≠ b → le3 a b = false := by
        intro l hl
        induction hl with
        | nil => intro a ha; simp at ha
        | cons h1 _ ih =>
          intro a ha b hb hab
          rcases List.mem_cons.1 ha with rfl | ha'
          · rcases List.mem_cons.1 hb with rfl | hb'
            · exact absurd rfl hab
            · exact (h1 b hb').2.1
          · rcases List.mem_cons.1 hb with rfl | hb'
            · exact (h1 a ha').2.2
            · exact ih a ha' b hb' hab
      rw [h2 this u hu x hx e] at hux
      simp at hux
  · rintro ⟨hx, hmin⟩
    obtain ⟨u, hu, hle⟩ := (topen_iff _ _).1 (tfront_open hx)
    have := hmin u (tfront_sub hu) hle
    rw [← this]; exact hu

/-- Two lists that rise and hold the same are one. -/
theorem rise_unique : ∀ {a b : List T3}, a.Pairwise lt3 → b.Pairwise lt3 → (∀ x, x ∈ a ↔ x ∈ b) → a = b
  | [], [], _, _, _ => rfl
  | [], y :: b, _, _, h => absurd ((h y).2 (by simp)) (by simp)
  | x :: a, [], _, _, h => absurd ((h x).1 (by simp)) (by simp)
  | x :: a, y :: b, ha, hb, h => by
    have ha' := List.pairwise_cons.1 ha
    have hb' := List.pairwise_cons.1 hb
    have e : x = y := by
      have h1 : x = y ∨ x ∈ b := by simpa using (h x).1 (by simp)
      have h2 : y = x ∨ y ∈ a := by simpa using (h y).2 (by simp)
      rcases h1 with h1 | h1
      · exact h1
      · rcases h2 with h2 | h2
        · exact h2.symm
        · exact absurd (lt3_trans (ha'.1 y h2) (hb'.1 x h1)) (lt3_irrefl x)
    subst e
    have : a = b := rise_unique ha'.2 hb'.2 fun z => by
      constructor
      · intro hz
        have h1 : z = x ∨ z ∈ b := by simpa using (h z).1 (by simp [hz])
        rcases h1 with rfl | h1
        · exact absurd (ha'.1 z hz) (lt3_irrefl z)
        · exact h1
      · intro hz
        have h1 : z = x ∨ z ∈ a := by simpa using (h z).2 (by simp [hz])
        rcases h1 with rfl | h1
        · exact absurd (hb'.1 z hz) (lt3_irrefl z)
        · exact h1
    rw [this]
theorem tfront_rise (ts : List T3) : (tfront ts).Pairwise lt3 := (tfront_pw ts).imp fun h => h.1
theorem tfront_congr {a b : List T3} (h : ∀ x, x ∈ a ↔ x ∈ b) : tfront a = tfront b :=
  rise_unique (tfront_rise a) (tfront_rise b) fun x => by
    rw [tfront_mem, tfront_mem, h]
    exact and_congr_right fun _ => ⟨fun k y hy => k y ((h y).2 hy), fun k y hy => k y ((h y).1 hy)⟩
theorem tfront_twice (ts : List T3) : tfront (tfront ts) = tfront ts :=
  rise_unique (tfront_rise _) (tfront_rise _) fun x => by
    rw [tfront_mem (tfront ts) x]
    constructor
    · exact fun h => h.1
    · exact fun h => ⟨h, fun y hy hle => ((tfront_mem ts x).1 h).2 y (tfront_sub hy) hle⟩
theorem topen_front (ts : List T3) (t : T3) : topen (tfront ts) t = topen ts t := by
  rw [Bool.eq_iff_iff, topen_iff, topen_iff]
  constructor
  · rintro ⟨u, hu, h⟩; exact ⟨u, tfront_sub hu, h⟩
  · rintro ⟨u, hu, h⟩
    obtain ⟨x, hx, h2⟩ := (topen_iff _ _).1 (tfront_open hu)
    exact ⟨x, hx, le3_trans h2 h⟩
end Go.Proofs.YtmhbpelbkeclpaaGreatDoor
