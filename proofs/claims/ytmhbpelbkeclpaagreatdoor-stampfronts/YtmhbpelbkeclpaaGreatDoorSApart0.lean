import Derived.Test.YtmhbpelbkeclpaaGreatDoorApartL
import Derived.Deep.RegionHeld3
import Derived.Deep.RegionWith
import Derived.Shelf.SlSortCmp.QuietGrown
namespace Go.Proofs.YtmhbpelbkeclpaaGreatDoor
open Go.RowKit Go.Shelf Go.Lib
open Go.Sort hiding Below

/-- Three lists of the call's own, no two in one block. -/
structure Fam (W : World) (B : Nat) (V : Nat → Value) (C : Nat → List T3) : Prop where
  own : ∀ k, k < 3 → W.ownsRow B 25 3 (V k) (C k).length (flat (C k))
  far : ∀ j k, j < 3 → k < 3 → j ≠ k → ∀ g, (V j).ownBlock = some g → (V k).ownBlock ≠ some g
/-- Behind k lists and i of the next one. -/
def stage (C : Nat → List T3) (k i j : Nat) : List T3 := if j < k then List.replicate (C j).length (mk3 j) else if j = k then List.replicate i (mk3 k) ++ (C k).drop i else C j

theorem flat_set (xs : List T3) (i : Nat) (t : T3) : (((flat xs).set (i * 3) (.int .u64 t.1)).set (i * 3 + 1) (.int .u64 t.2.1)).set (i * 3 + 2) (.int .u64 t.2.2) = flat (xs.set i t) := by
  induction xs generalizing i with
  | nil => simp [flat]
  | cons x xs ih =>
    cases i with
    | zero => simp [flat, encT]
    | succ i =>
      have h := ih i
      rw [List.set_cons_succ, flat_cons, flat_cons, ← h]
      rw [show (i + 1) * 3 = i * 3 + 3 by omega]
      simp [encT]
theorem stage_len (C : Nat → List T3) (k i j : Nat) (hi : i ≤ (C k).length) : (stage C k i j).length = (C j).length := by
  unfold stage
  split
  · simp
  · split
    · rename_i h; subst h; simp; omega
    · rfl
theorem stage_zero (C : Nat → List T3) : stage C 0 0 = C := by
  funext j
  unfold stage
  rw [if_neg (Nat.not_lt_zero _)]
  split
  · rename_i h; subst h; simp
  · rfl
theorem stage_next (C : Nat → List T3) (k : Nat) : stage C k (C k).length = stage C (k + 1) 0 := by
  funext j
  unfold stage
  by_cases h1 : j < k
  · rw [if_pos h1, if_pos (by omega)]
  · rw [if_neg h1]
    by_cases h2 : j = k
    · subst h2; rw [if_pos rfl, if_pos (by omega)]; simp
    · rw [if_neg h2, if_neg (by omega)]
      split
      · rename_i h; subst h; simp
      · rfl
theorem stage_step (C : Nat → List T3) (k i : Nat) (hi : i < (C k).length) (j : Nat) : stage C k (i + 1) j = if j = k then (stage C k i k).set i (mk3 k) else stage C k i j := by
  unfold stage
  by_cases h1 : j < k
  · rw [if_pos h1, if_neg (by omega), if_pos h1]
  · rw [if_neg h1]
    by_cases h2 : j = k
    · rw [if_pos h2, if_pos h2, if_neg (Nat.lt_irrefl _), if_pos rfl]
      have hd : (C k).drop i = (C k)[i] :: (C k).drop (i + 1) := List.drop_eq_getElem_cons hi
      rw [hd, List.set_append_right _ _ (by simp), List.length_replicate, Nat.sub_self, List.set_cons_zero, List.replicate_succ', List.append_assoc]
      rfl
    · rw [if_neg h2, if_neg h2, if_neg h1, if_neg h2]
theorem fam_set {W : World} {B k g n cap i : Nat} {V : Nat → Value} {D : Nat → List T3} (h : Fam W B V D) (hk : k < 3) (hV : V k = .slice (some ⟨g, 0, none⟩) n cap) (hn : (D k).length = n) (t : T3) {D' : Nat → List T3} (hD : ∀ j, D' j = if j = k then (D k).set i t else D j) :
    Fam (((W.setCell ⟨g, i * 3, none⟩ (.int .u64 t.1)).setCell ⟨g, i * 3 + 1, none⟩ (.int .u64 t.2.1)).setCell ⟨g, i * 3 + 2, none⟩ (.int .u64 t.2.2)) B V D' := by
  refine ⟨fun j hj => ?_, h.far⟩
  by_cases hjk : j = k
  · subst hjk
    have h0 := h.own j hj
    rw [hV, hn] at h0
    rw [hD, if_pos rfl, List.length_set, hn, hV, ← flat_set]
    exact (((h0.stored (i * 3) (.int .u64 t.1)).1.stored (i * 3 + 1) (.int .u64 t.2.1)).1.stored (i * 3 + 2) (.int .u64 t.2.2)).1
  · rw [hD, if_neg hjk]
    have hne : (V j).ownBlock ≠ some g := fun e => h.far j k hj hk hjk g e (by rw [hV]; rfl)
    exact ownsRow_setCell_other (a := ⟨g, i * 3 + 2, none⟩) (ownsRow_setCell_other (a := ⟨g, i * 3 + 1, none⟩) (ownsRow_setCell_other (a := ⟨g, i * 3, none⟩) (h.own j hj) hne _) hne _) hne _
theorem fam_below {W W' : World} {B : Nat} {V : Nat → Value} {C : Nat → List T3} (h : Fam W B V C) (hb : Below W.heap.size W W') : Fam W' B V C := ⟨fun k hk => owns_below' (h.own k hk) hb, h.far⟩
theorem fam_form {W : World} {B : Nat} {V : Nat → Value} {C : Nat → List T3} (h : Fam W B V C) {k : Nat} (hk : k < 3) : ∃ p c, V k = .slice p (C k).length c := (owns_lst (h.own k hk)).form

/-- What a cell holds. -/
def cval (W : World) (p : Addr) : Value := (W.cell? p).getD (.slice none 0 0)
theorem cval_of {W : World} {p : Addr} {v : Value} (h : W.cell? p = some v) : W.cell? p = some (cval W p) := by rw [cval, h]; rfl
theorem cval_set {W : World} {p q : Addr} {x v : Value} (h : W.cell? q = some v) : (W.setCell p x).cell? q = some (cval (W.setCell p x) q) := by
  by_cases hpq : p = q
  · subst hpq
    exact cval_of (World.cell?_setCell_same _ _ _ h)
  · exact cval_of ((World.cell?_setCell_other _ _ _ _ hpq).trans h)
/-- A list's place that can be written. -/
def CSpot (W : World) (bl k g i n cap : Nat) : Prop :=
  W.cell? ⟨bl, k, none⟩ = some (.slice (some ⟨g, 0, none⟩) n cap) ∧ W.cell? ⟨g, i * 3, none⟩ = some (cval W ⟨g, i * 3, none⟩) ∧ W.cell? ⟨g, i * 3 + 1, none⟩ = some (cval W ⟨g, i * 3 + 1, none⟩) ∧ W.cell? ⟨g, i * 3 + 2, none⟩ = some (cval W ⟨g, i * 3 + 2, none⟩) ∧ W.frozen? ⟨g, i * 3, none⟩ = false ∧ W.frozen? ⟨g, i * 3 + 1, none⟩ = false ∧ W.frozen? ⟨g, i * 3 + 2, none⟩ = false ∧ bl < W.heap.size ∧ g < W.heap.size
theorem cspot_of {W : World} {bl k g i n cap : Nat} (_ : bl ≠ g) (h0 : W.cell? ⟨bl, k, none⟩ = some (.slice (some ⟨g, 0, none⟩) n cap)) (h1 : ∃ v, W.cell? ⟨g, i * 3, none⟩ = some v) (h2 : ∃ v, W.cell? ⟨g, i * 3 + 1, none⟩ = some v) (h3 : ∃ v, W.cell? ⟨g, i * 3 + 2, none⟩ = some v) (f1 : W.frozen? ⟨g, i * 3, none⟩ = false) (f2 : W.frozen? ⟨g, i * 3 + 1, none⟩ = false) (f3 : W.frozen? ⟨g, i * 3 + 2, none⟩ = false) (z1 : bl < W.heap.size) (z2 : g < W.heap.size) : CSpot W bl k g i n cap :=
  ⟨h0, cval_of h1.choose_spec, cval_of h2.choose_spec, cval_of h3.choose_spec, f1, f2, f3, z1, z2⟩
theorem cspot_grown {W W' : World} {bl k g i n cap : Nat} (h : CSpot W bl k g i n cap) (hg : Gr W W') : CSpot W' bl k g i n cap := by
  obtain ⟨h0, h1, h2, h3, h4, h5, h6, h7, h8⟩ := h
  have hz := hg.size
  exact ⟨(hg.cell h7).trans h0, cval_of ((hg.cell h8).trans h1), cval_of ((hg.cell h8).trans h2), cval_of ((hg.cell h8).trans h3), (hg.frozen h8).trans h4, (hg.frozen h8).trans h5, (hg.frozen h8).trans h6, by omega, by omega⟩
theorem cspot_one {W : World} {bl k g i n cap : Nat} (hb : bl ≠ g) (h : CSpot W bl k g i n cap) (o : Nat) (v : Value) : CSpot (W.setCell ⟨g, o, none⟩ v) bl k g i n cap := by
  obtain ⟨h0, h1, h2, h3, h4, h5, h6, h7, h8⟩ := h
  have hs : (W.setCell ⟨g, o, none⟩ v).heap.size = W.heap.size := by simp [World.setCell]
  refine ⟨(World.cell?_setCell_other _ _ _ _ (fun e => hb (congrArg Addr.block e).symm)).trans h0, cval_set h1, cval_set h2, cval_set h3, by rw [World.frozen?_setCell]; exact h4, by rw [World.frozen?_setCell]; exact h5, by rw [World.frozen?_setCell]; exact h6, by omega, by omega⟩
theorem cspot_set {W : World} {bl k g i n cap : Nat} (hb : bl ≠ g) (h : CSpot W bl k g i n cap) (v1 v2 v3 : Value) : CSpot (((W.setCell ⟨g, i * 3, none⟩ v1).setCell ⟨g, i * 3 + 1, none⟩ v2).setCell ⟨g, i * 3 + 2, none⟩ v3) bl k g i n cap :=
  cspot_one hb (cspot_one hb (cspot_one hb h _ _) _ _) _ _

theorem far_set {W : World} {bl j g a b c : Nat} {v x y z : Value} (h : W.cell? ⟨bl, j, none⟩ = some v) (hne : g ≠ bl) : (((W.setCell ⟨g, a, none⟩ x).setCell ⟨g, b, none⟩ y).setCell ⟨g, c, none⟩ z).cell? ⟨bl, j, none⟩ = some v := by
  have n : ∀ i, (⟨g, i, none⟩ : Addr) ≠ ⟨bl, j, none⟩ := fun i e => hne (congrArg Addr.block e)
  rw [World.cell?_setCell_other _ _ _ _ (n _), World.cell?_setCell_other _ _ _ _ (n _), World.cell?_setCell_other _ _ _ _ (n _)]
  exact h
theorem meas_one (n i : Nat) (h : i < n) : n - (RowKit.intOf (.int .i64 ((i : Int) + 1))).toNat < n - (RowKit.intOf (.int .i64 (i : Int))).toNat := by simp [RowKit.intOf]; omega
theorem small3 {k : Nat} (h : k < 3) : k + 1 ≤ maxLen ∧ (k + 1) * 24 ≤ 140737488355328 := by unfold maxLen; omega
theorem one_slice (a : Addr) (n c : Nat) : ∀ u ∈ [Value.slice (some a) n c], u.oneCell' = true := fun u hu => by simp at hu; subst hu; rfl
theorem hideQ {p : Prop} (h : p) : Hid p := h
theorem infoL : (Tryz.prog.info? 22).map (fun i => (i.zero, i.size, i.bytes)) = some (some (.slice none 0 0), 1, 24) := by kernel_rfl
theorem stage_three (C : Nat → List T3) (j : Nat) (hj : j < 3) : stage C 3 0 j = List.replicate (C j).length (mk3 j) := if_pos hj
theorem p2_start {bl B : Nat} {V : Nat → Value} {C : Nat → List T3} {W : World} (h : Fam W B V (stage C 3 0)) (hfar : ∀ k, k < 3 → (V k).ownBlock ≠ some bl) (hc : ∀ j, j < 3 → W.cell? ⟨bl, j, none⟩ = some (V j)) (hlt : bl < W.heap.size) :
    P2 bl B V (fun j => (C j).length) 0 (fun _ => .slice none 0 0) (.slice none 0 0) W := by
  have hl : ∀ j, j < 3 → (stage C 3 0 j).length = (C j).length := fun j hj => by rw [stage_three C j hj, List.length_replicate]
  have ho : ∀ j, j < 3 → W.ownsRow B 25 3 (V j) (C j).length (flat (List.replicate (C j).length (mk3 j))) := fun j hj => by
    have := h.own j hj
    rw [hl j hj, stage_three C j hj] at this
    exact this
  refine ⟨fun j hj _ => ho j hj, fun j hj => owns_lst (by rw [List.length_replicate]; exact ho j hj), fun j hj => absurd hj (Nat.not_lt_zero _), ⟨rfl, Or.inl ⟨rfl, rfl⟩⟩, fun j hj _ g hg => ⟨fun e => hfar j hj (by rw [← e]; exact hg), fun e => by simp [Value.ownBlock] at e, fun i hi hij e => h.far i j hi hj hij g e hg, fun i hi => absurd hi (Nat.not_lt_zero _)⟩, fun g hg => by simp [Value.ownBlock] at hg, hc, hlt, fun i g hi => absurd hi (Nat.not_lt_zero _)⟩
theorem size_set (W : World) (p q r : Addr) (x y z : Value) : (((W.setCell p x).setCell q y).setCell r z).heap.size = W.heap.size := by simp [World.setCell]
end Go.Proofs.YtmhbpelbkeclpaaGreatDoor
