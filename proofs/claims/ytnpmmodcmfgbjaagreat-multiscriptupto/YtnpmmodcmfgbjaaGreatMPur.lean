import Derived.Test.YtnpmmodcmfgbjaaGreatMDlt
namespace Go.Proofs.YtnpmmodcmfgbjaaGreat
open Go.RowKit Go.Sort Go.Maps
open Tt (Tl byd byd_f byd_t)

/-- fr is the front of the times whose count is above 0. -/
structure IsFr (f : Tm → Int) (fr : List Tm) : Prop where
  good : Good bel tol fr
  pos : ∀ x ∈ fr, 0 < f x
  cov : ∀ y, 0 < f y → ccov bel fr y = true
theorem IsFr.nil : IsFr (fun _ => 0) [] := ⟨good_nil, fun _ h => by simp at h, fun _ h => by omega⟩
theorem IsFr.sorted {f : Tm → Int} {fr : List Tm} (h : IsFr f fr) : fr.Pairwise fun a b => tol a b = true := h.good.imp fun h => h.1
theorem IsFr.mem {f : Tm → Int} {fr : List Tm} (h : IsFr f fr) (x : Tm) : x ∈ fr ↔ 0 < f x ∧ ∀ y, 0 < f y → bel y x = true → y = x := by
  constructor
  · intro hx
    refine ⟨h.pos x hx, fun y hy hyx => ?_⟩
    obtain ⟨z, hz, hzy⟩ := ccov_true.1 (h.cov y hy)
    have hzx := ords.trans _ _ _ hzy hyx
    have : z = x := by
      obtain ⟨i, hi⟩ := List.mem_iff_getElem?.1 hz
      obtain ⟨j, hj⟩ := List.mem_iff_getElem?.1 hx
      by_cases hij : i = j
      · subst hij; rw [hi] at hj; exact Option.some.inj hj
      · have := good_off h.good hi hj hij
        rw [hzx] at this; cases this
    subst this
    exact ords.anti _ _ hyx hzy
  · rintro ⟨h1, h2⟩
    obtain ⟨z, hz, hzx⟩ := ccov_true.1 (h.cov x h1)
    rw [← h2 z (h.pos z hz) hzx]
    exact hz
theorem IsFr.same {f : Tm → Int} {a b : List Tm} (h : IsFr f a) (k : IsFr f b) : a = b :=
  sorted_same ords h.sorted k.sorted fun x => by rw [h.mem, k.mem]
theorem IsFr.nodup {f : Tm → Int} {fr : List Tm} (h : IsFr f fr) : fr.Nodup := h.sorted.imp fun {a b} hab e => by subst e; rw [ords.irr] at hab; cases hab
theorem IsFr.le {w : World} {b n : Nat} {f : Tm → Int} {fr : List Tm} (h : IsFr f fr) (ht : Ta ZT 2 w b n f) : fr.length ≤ n := by
  obtain ⟨D, hown, _, h3⟩ := ht
  obtain ⟨ks, hk, hl⟩ := owns_sup hown h3
  have h1 : fr.length ≤ ks.length := length_le_of_sub h.nodup fun x hx => (hk.2 x).2 (by have := h.pos x hx; omega)
  have := hown.size_le
  omega
theorem IsFr.renew {f0 f1 : Tm → Int} {fr fr' : List Tm} {us : List Dl} (h : IsFr f0 fr) (hr : Rnw f1 fr us fr') (hch : ∀ t, f1 t ≠ f0 t → ∃ d ∈ us, d.1 = t) (hus : ∀ d ∈ us, d.2 = f1 d.1) : IsFr f1 fr' := by
  obtain ⟨ks, hks, rfl⟩ := hr
  obtain ⟨h1, h2, h3⟩ := cren_ok ords (l := stT ks) h.good h.pos h.cov hch hus hks.1 hks.2 (fun t => srtBy_mem) (fun F hn hs hle x hx => by
    by_cases hm : x ∈ F
    · exact hm
    · have := length_le_of_sub (l := x :: F) (m := ks) (List.nodup_cons.2 ⟨hm, hn⟩) (fun y hy => by
        rcases List.mem_cons.1 hy with rfl | hy
        · exact hx
        · exact hs y hy)
      rw [List.length_cons] at this
      omega)
  exact ⟨h1, h2, h3⟩

/-- The counts behind the list. -/
theorem sm_other {ds : List Dl} {t : Tm} (h : t ∉ ds.map Prod.fst) : sm ds t = 0 := by
  unfold sm
  have : ∀ (l : List Dl) (g : Tm → Int), t ∉ l.map Prod.fst → l.foldl (fun g d => upd g d.1 (wrap64 (g d.1 + d.2))) g t = g t := by
    intro l
    induction l with
    | nil => intro g _; rfl
    | cons d l ih =>
      intro g hg
      rw [List.foldl_cons, ih _ (fun h => hg (by simp at h ⊢; exact Or.inr h)), upd_other]
      intro e
      exact hg (by rw [e]; simp)
  exact this ds _ h
theorem wrap_small {z : Int} (h : -9223372036854775808 ≤ z ∧ z ≤ 9223372036854775807) : wrap64 z = z := by unfold wrap64; omega
theorem newc_other {f : Tm → Int} {ds : List Dl} {t : Tm} (hf : -2147483647 ≤ f t ∧ f t ≤ 2147483647) (h : t ∉ ds.map Prod.fst) : newc f ds t = f t := by
  unfold newc
  rw [sm_other h, wrap_small (by omega)]
  omega
theorem setl_other (us : List Dl) (f : Tm → Int) {t : Tm} (h : t ∉ us.map Prod.fst) : setl f us t = f t := by
  unfold setl
  induction us generalizing f with
  | nil => rfl
  | cons d l ih =>
    rw [List.foldl_cons, ih _ (fun h' => h (by simp at h' ⊢; exact Or.inr h')), upd_other]
    intro e
    exact h (by rw [e]; simp)
theorem setl_fun (g : Tm → Int) (ks : List Tm) (f : Tm → Int) {t : Tm} (h : t ∈ ks) : setl f (ks.map fun t => (t, g t)) t = g t := by
  induction ks generalizing f with
  | nil => simp at h
  | cons k ks ih =>
    rw [List.map_cons]
    show setl (upd f k (g k)) (ks.map fun t => (t, g t)) t = g t
    by_cases hk : t ∈ ks
    · exact ih _ hk
    · have : t = k := by
        rcases List.mem_cons.1 h with h | h
        · exact h
        · exact absurd h hk
      subst this
      rw [setl_other _ _ (by simpa using hk), upd_same]
theorem setl_newc {f : Tm → Int} {ds : List Dl} {ks : List Tm} (hf : ∀ t, -2147483647 ≤ f t ∧ f t ≤ 2147483647) (hk : ∀ t, t ∈ ks ↔ t ∈ ds.map Prod.fst) : setl f (ks.map fun t => (t, newc f ds t)) = newc f ds := by
  funext t
  by_cases h : t ∈ ks
  · exact setl_fun _ ks f h
  · rw [setl_other _ _ (by simpa using h), newc_other (hf t) (fun h' => h ((hk t).2 h'))]
end Go.Proofs.YtnpmmodcmfgbjaaGreat
