import Derived.Test.YtnpmmodcmfgbjaaGreatMSmall
namespace Go.Proofs.YtnpmmodcmfgbjaaGreat
open Go.RowKit Go.Sort Go.Maps
open Tt (Tl byd byd_f byd_t)

/-- The sum of a time's deltas. -/
def isum (ds : List Dl) (t : Tm) : Int := (ds.map fun d => if d.1 = t then d.2 else 0).sum
theorem isum_nil (t : Tm) : isum [] t = 0 := rfl
theorem isum_cons (d : Dl) (ds : List Dl) (t : Tm) : isum (d :: ds) t = (if d.1 = t then d.2 else 0) + isum ds t := by simp [isum]
theorem isum_append (a b : List Dl) (t : Tm) : isum (a ++ b) t = isum a t + isum b t := by simp [isum]
def Lo9 (ds : List Dl) : Prop := ∀ d ∈ ds, -999 ≤ d.2 ∧ d.2 ≤ 999
theorem isum_bd {ds : List Dl} (h : Lo9 ds) (t : Tm) : -(999 * (ds.length : Int)) ≤ isum ds t ∧ isum ds t ≤ 999 * (ds.length : Int) := by
  induction ds with
  | nil => simp [isum_nil]
  | cons d ds ih =>
    have h1 := ih (fun e he => h e (List.mem_cons_of_mem _ he))
    have h2 := h d (by simp)
    rw [isum_cons, List.length_cons]
    split <;> omega
theorem isum_other {ds : List Dl} {t : Tm} (h : t ∉ ds.map Prod.fst) : isum ds t = 0 := by
  induction ds with
  | nil => rfl
  | cons d ds ih =>
    rw [isum_cons, ih (fun h' => h (by simp at h' ⊢; exact Or.inr h')), if_neg (fun e => h (by rw [← e]; simp))]
    rfl
theorem sm_fold (ds : List Dl) (h : Lo9 ds) (g : Tm → Int) (hg : ∀ t, -1000000000000 + 999 * (ds.length : Int) ≤ g t ∧ g t ≤ 1000000000000 - 999 * (ds.length : Int)) (t : Tm) :
    ds.foldl (fun g d => upd g d.1 (wrap64 (g d.1 + d.2))) g t = g t + isum ds t := by
  induction ds generalizing g with
  | nil => simp [isum_nil]
  | cons d ds ih =>
    have h2 := h d (by simp)
    have h3 : wrap64 (g d.1 + d.2) = g d.1 + d.2 := by
      have := hg d.1
      simp only [List.length_cons] at this
      exact wrap_small (by omega)
    rw [List.foldl_cons, ih (fun e he => h e (List.mem_cons_of_mem _ he)), isum_cons, h3]
    · unfold upd
      by_cases e : t = d.1
      · rw [if_pos e, if_pos e.symm, e]; omega
      · rw [if_neg e, if_neg (fun e' => e e'.symm)]; omega
    · intro s
      rw [h3]
      have h4 := hg s
      have h5 := hg d.1
      simp only [List.length_cons] at h4 h5
      unfold upd
      split <;> omega
theorem sm_isum {ds : List Dl} (h : Lo9 ds) (hl : ds.length ≤ 1000000) (t : Tm) : sm ds t = isum ds t := by
  unfold sm
  rw [sm_fold ds h _ (fun s => by omega)]
  omega
theorem newc_isum {f : Tm → Int} {ds : List Dl} (h : Lo9 ds) (hl : ds.length ≤ 1000000) (hf : ∀ t, -1000000000000 ≤ f t ∧ f t ≤ 1000000000000) : newc f ds = fun t => isum ds t + f t := by
  funext t
  unfold newc
  rw [sm_isum h hl]
  have h1 := isum_bd h t
  have h2 := hf t
  exact wrap_small (by omega)
theorem bad_small {f : Tm → Int} {ds : List Dl} (h : Lo9 ds) (hl : ds.length ≤ 1000000) (hf : ∀ t, -1000000000 ≤ f t ∧ f t ≤ 1000000000) : bad f ds = false := by
  unfold bad
  rw [newc_isum h hl (fun t => by have := hf t; omega), Bool.or_eq_false_iff, List.any_eq_false, List.any_eq_false]
  refine ⟨fun d hd => ?_, fun d hd => ?_⟩
  · have := h d hd
    rw [byd_f.2 (by omega)]; simp
  · have h1 := isum_bd h d.1
    have h2 := hf d.1
    have h3 : byd (isum ds d.1 + f d.1) = false := byd_f.2 (by omega)
    show ¬ byd (isum ds d.1 + f d.1) = true
    rw [h3]; simp
theorem sml_lo (l : List Dl) : Lo9 (sml l) := sml_bd l
section
variable {W w : World} {mb tb b cb n : Nat} {v u : Value} {f f' : Tm → Int} {fr : List Tm} {ds : List Dl}
/-- Apply of small deltas. -/
theorem Sn.small (h : Sn W w mb tb b cb n v f fr) (hu : Ls ED w u ds) (hbig : n + 2 * ds.length + 1 ≤ 2199023255552) (hd : Lo9 ds) (hl : ds.length ≤ 1000000) (hf : ∀ t, -1000000000 ≤ f t ∧ f t ≤ 1000000000) (hf' : f' = fun t => isum ds t + f t) :
    Calls Tryz.prog 21 #[.pointer (some ⟨mb, 0, none⟩), u] w fun e w' => ∃ (vo v' : Value) (fr' : List Tm), e = .returned (.tuple #[vo, .int .i64 0]) ∧ w'.ownsRow w.heap.size 54 4 vo (dlt fr fr').length (fl ED (dlt fr fr')) ∧ Sn W w' mb tb b cb (n + 2 * ds.length) v' f' fr' ∧
        Kp (Tb b cb v) w w' ∧ (∀ g, v'.ownBlock = some g → v.ownBlock = some g ∨ w.heap.size ≤ g) ∧ ∀ g, v'.ownBlock = some g → vo.ownBlock ≠ some g := by
  have hn : newc f ds = f' := by rw [newc_isum hd hl (fun t => by have := hf t; omega), hf']
  refine (apply_any ds u w h.mu h.fr hu hbig).mono ?_
  rintro e w' (⟨h1, _⟩ | ⟨_, vo, v', fr', hF, rfl, ho, hM, hK, hV, hN⟩)
  · rw [bad_small hd hl hf] at h1; cases h1
  · rw [hn] at hF hM
    refine ⟨vo, v', fr', rfl, ho, ⟨hM, hF, h.bl.trans (hK.below h.bl.size fun k hk => ?_), h.zm, h.zt, h.zb, h.zc, fun g hg => ?_⟩, hK, hV, hN⟩
    · rcases hk with rfl | rfl | hk
      · exact h.zb
      · exact h.zc
      · exact h.zv _ hk
    · rcases hV g hg with h1 | h1
      · exact h.zv _ h1
      · exact Nat.le_trans h.bl.size h1
end
end Go.Proofs.YtnpmmodcmfgbjaaGreat
