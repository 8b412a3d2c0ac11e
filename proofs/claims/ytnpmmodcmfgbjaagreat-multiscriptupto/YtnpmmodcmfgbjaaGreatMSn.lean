import Derived.Test.YtnpmmodcmfgbjaaGreatMKn2
namespace Go.Proofs.YtnpmmodcmfgbjaaGreat
open Go.RowKit Go.Sort Go.Maps
open Tt (Tl byd byd_f byd_t)
attribute [local go_sem ↓] Go.wp_at_zero Go.wp_at_succ

/-- A Multi that was made behind the world W, whose blocks are as they were. -/
structure Sn (W w : World) (mb tb b cb n : Nat) (v : Value) (f : Tm → Int) (fr : List Tm) : Prop where
  mu : Mu w mb tb b cb n v f fr
  fr : IsFr f fr
  bl : Below W.heap.size W w
  zm : W.heap.size ≤ mb
  zt : W.heap.size ≤ tb
  zb : W.heap.size ≤ b
  zc : W.heap.size ≤ cb
  zv : ∀ g, v.ownBlock = some g → W.heap.size ≤ g
section
variable {W w w' : World} {mb tb b cb n : Nat} {v u : Value} {f f' : Tm → Int} {fr fr' : List Tm} {ds : List Dl}
theorem Sn.below (h : Sn W w mb tb b cb n v f fr) (hb : Below w.heap.size w w') : Sn W w' mb tb b cb n v f fr :=
  ⟨h.mu.below hb, h.fr, h.bl.trans (hb.mono h.bl.size), h.zm, h.zt, h.zb, h.zc, h.zv⟩
theorem Sn.kp {T : Nat → Prop} (h : Sn W w mb tb b cb n v f fr) (hk : Kp T w w') (h0 : ∀ k, T k → W.heap.size ≤ k) (h1 : ¬ T mb) (h2 : ¬ T tb) (h3 : ¬ T b) (h4 : ¬ T cb) (h5 : ∀ k, v.ownBlock = some k → ¬ T k) : Sn W w' mb tb b cb n v f fr :=
  ⟨h.mu.kp hk h1 h2 h3 h4 h5, h.fr, h.bl.trans (hk.below h.bl.size h0), h.zm, h.zt, h.zb, h.zc, h.zv⟩
theorem Sn.new (w : World) : Calls Tryz.prog 5 #[] w fun e w' => ∃ mb tb b cb, e = .returned (.pointer (some ⟨mb, 0, none⟩)) ∧ Sn w w' mb tb b cb 0 (.slice none 0 0) (fun _ => 0) [] := by
  refine (mnew_any w).mono ?_
  rintro e w' ⟨mb, tb, b, cb, rfl, hM, ⟨z1, z2, z3, z4⟩, hB⟩
  exact ⟨mb, tb, b, cb, rfl, hM, IsFr.nil, hB, z1, z2, z3, z4, fun g hg => by simp [Value.ownBlock] at hg⟩
/-- What Apply may turn. -/
def Tb (b cb : Nat) (v : Value) (k : Nat) : Prop := k = b ∨ k = cb ∨ v.ownBlock = some k
theorem Sn.ok (h : Sn W w mb tb b cb n v f fr) (hu : Ls ED w u ds) (hbig : n + 2 * ds.length + 1 ≤ 2199023255552) (hb : bad f ds = false) (hf : newc f ds = f') (hF' : IsFr f' fr') :
    Calls Tryz.prog 21 #[.pointer (some ⟨mb, 0, none⟩), u] w fun e w' => ∃ vo v' : Value, e = .returned (.tuple #[vo, .int .i64 0]) ∧ w'.ownsRow w.heap.size 54 4 vo (dlt fr fr').length (fl ED (dlt fr fr')) ∧ Sn W w' mb tb b cb (n + 2 * ds.length) v' f' fr' ∧
        Kp (Tb b cb v) w w' ∧ (∀ g, v'.ownBlock = some g → v.ownBlock = some g ∨ w.heap.size ≤ g) ∧ ∀ g, v'.ownBlock = some g → vo.ownBlock ≠ some g := by
  refine (apply_ok ds u w h.mu h.fr hu hbig hb hf hF').mono ?_
  rintro e w' ⟨vo, v', rfl, ho, hM, hK, hV, hN⟩
  refine ⟨vo, v', rfl, ho, ⟨hM, hF', h.bl.trans (hK.below h.bl.size fun k hk => ?_), h.zm, h.zt, h.zb, h.zc, fun g hg => ?_⟩, hK, hV, hN⟩
  · rcases hk with rfl | rfl | hk
    · exact h.zb
    · exact h.zc
    · exact h.zv _ hk
  · rcases hV g hg with h1 | h1
    · exact h.zv _ h1
    · exact Nat.le_trans h.bl.size h1
theorem Sn.bad (h : Sn W w mb tb b cb n v f fr) (hu : Ls ED w u ds) (hbig : n + 2 * ds.length + 1 ≤ 2199023255552) (hb : bad f ds = true) :
    Calls Tryz.prog 21 #[.pointer (some ⟨mb, 0, none⟩), u] w fun e w' => e = .returned (.tuple #[.slice none 0 0, .int .i64 12]) ∧ Below w.heap.size w w' := by
  refine (apply_any ds u w h.mu h.fr hu hbig).mono ?_
  rintro e w' (⟨_, rfl, h1⟩ | ⟨h1, _⟩)
  · exact ⟨rfl, h1⟩
  · rw [hb] at h1; cases h1
end

/-- One time's count alone. -/
def fx (x : Tm) (c : Int) : Tm → Int := upd (fun _ => 0) x c
def frx (x : Tm) (c : Int) : List Tm := if 0 < c then [x] else []
theorem fx_at (x : Tm) (c : Int) : fx x c x = c := upd_same _ _ _
theorem fx_zero (x : Tm) : (fun _ => 0) = fx x 0 := by funext t; unfold fx upd; split <;> rfl
theorem frx_is (x : Tm) (c : Int) : IsFr (fx x c) (frx x c) := by
  unfold frx
  by_cases hc : 0 < c
  · rw [if_pos hc]
    refine ⟨by simp [Good], fun y hy => by simp at hy; subst hy; rw [fx_at]; exact hc, fun y hy => ?_⟩
    have : y = x := by
      by_cases h : y = x
      · exact h
      · rw [fx, upd_other _ _ h] at hy; omega
    subst this
    exact ccov_true.2 ⟨y, by simp, ords.refl y⟩
  · rw [if_neg hc]
    refine ⟨good_nil, fun y hy => by simp at hy, fun y hy => ?_⟩
    by_cases h : y = x
    · subst h; rw [fx_at] at hy; omega
    · rw [fx, upd_other _ _ h] at hy; omega
theorem newc_one (x : Tm) (c a : Int) : newc (fx x c) [(x, a)] = fx x (wrap64 (wrap64 (0 + a) + c)) := by
  funext t
  simp only [newc, sm, fx, List.foldl_cons, List.foldl_nil]
  unfold upd
  by_cases h : t = x
  · rw [if_pos h, if_pos h, if_pos h]
  · rw [if_neg h, if_neg h, if_neg h]
    show wrap64 (0 + 0) = 0
    unfold wrap64; omega
theorem newc_two (x : Tm) (c a d : Int) : newc (fx x c) [(x, a), (x, d)] = fx x (wrap64 (wrap64 (wrap64 (0 + a) + d) + c)) := by
  funext t
  simp only [newc, sm, fx, List.foldl_cons, List.foldl_nil]
  unfold upd
  by_cases h : t = x
  · simp [h]
  · simp [h]
    unfold wrap64; omega
theorem bad_one (x : Tm) (c a : Int) : bad (fx x c) [(x, a)] = (byd a || byd (wrap64 (wrap64 (0 + a) + c))) := by
  unfold bad
  rw [newc_one]
  simp [fx_at]
theorem bad_two (x : Tm) (c a d : Int) : bad (fx x c) [(x, a), (x, d)] = ((byd a || byd d) || byd (wrap64 (wrap64 (wrap64 (0 + a) + d) + c))) := by
  unfold bad
  rw [newc_two]
  simp [fx_at]
end Go.Proofs.YtnpmmodcmfgbjaaGreat
