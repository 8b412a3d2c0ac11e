import Derived.Test.YtmhbpelbkeclpaaGreatDoorQApart
import Derived.Test.YtmhbpelbkeclpaaGreatDoorPKnown
import Derived.Deep.LoopGhost
import Derived.Deep.DeepCutAuto
namespace Go.Proofs.YtmhbpelbkeclpaaGreatDoor
open Go.RowKit Go.Shelf Go.Lib
open Go.Sort hiding Below

/-- The mark behind the list that is lent. -/
def m99 : T3 := (18446744073709551615, 18446744073709551606, 18446744073709551599)
theorem mark99 (W : World) : Calls Tryz.prog 15 #[.int .i64 9, .int .i64 9] W fun e w' => e = .returned (.agg #[.int .u64 18446744073709551615, .int .u64 18446744073709551606, .int .u64 18446744073709551599]) ∧ Gr W w' :=
  pmark_any 9 9 (by decide) (by decide) W
theorem lst_tk {w : World} {e : TypeId} {B g cap n : Nat} {ts : List T3} {t : T3} (h : w.ownsRow B e 3 (.slice (some ⟨g, 0, none⟩) (n + 1) cap) (n + 1) (flat (ts ++ [t]))) (hn : ts.length = n) :
    Lst w (.slice (some ⟨g, 0, none⟩) n cap) ts ∧ g < w.heap.size ∧ n + 1 ≤ cap ∧ w.cell? ⟨g, n * 3, none⟩ = some (.int .u64 t.1) ∧ w.cell? ⟨g, n * 3 + 1, none⟩ = some (.int .u64 t.2.1) ∧ w.cell? ⟨g, n * 3 + 2, none⟩ = some (.int .u64 t.2.2) := by
  subst hn
  have hc : ∀ j, j < (ts.length + 1) * 3 → w.cell? ⟨g, j, none⟩ = (flat (ts ++ [t]))[j]? := fun j hj => h.cellAt j hj
  obtain ⟨_, hlt⟩ := h.lt g rfl
  have hcap : ts.length + 1 ≤ cap := by
    rcases h.2 with ⟨h', _⟩ | ⟨g', cap', cur, h', _, _, hc, _⟩
    · cases h'
    · cases h'; exact hc
  have hat : ∀ i, i < 3 → (flat (ts ++ [t]))[ts.length * 3 + i]? = (encT t)[i]? := fun i hi => flat_get (ts ++ [t]) ts.length i t (by simp) hi
  refine ⟨Or.inr ⟨g, 0, cap, rfl, hlt, fun j u hj => ?_⟩, hlt, hcap, ?_, ?_, ?_⟩
  · have hjl : j < ts.length * 3 := by have := (List.getElem?_eq_some_iff.1 hj).1; rwa [flat_length] at this
    rw [Nat.zero_add, hc j (by omega), flat_append, List.getElem?_append_left (by rw [flat_length]; exact hjl)]
    exact hj
  · rw [hc _ (by omega)]; exact hat 0 (by omega)
  · rw [hc _ (by omega)]; exact hat 1 (by omega)
  · rw [hc _ (by omega)]; exact hat 2 (by omega)
theorem same_true (va vb : Value) (ta : List T3) (w : World) (ha : Lst w va ta) (hb : Lst w vb ta) (hl : ta.length ≤ maxLen) :
    Calls Tryz.prog 18 #[va, vb] w fun e w' => e = .returned (.bool true) ∧ Gr w w' := by
  have h := same_any va vb ta ta w ha hb hl
  rwa [decide_eq_true rfl] at h
/-- Four lists, each laid behind the one before. -/
theorem fam_four {W : World} {b0 b1 b2 b3 : Nat} {x0 x1 x2 x3 : Value} {l0 l1 l2 l3 : List T3}
    (h0 : W.ownsRow 0 34 3 x0 l0.length (flat l0)) (h1 : W.ownsRow 0 34 3 x1 l1.length (flat l1)) (h2 : W.ownsRow 0 34 3 x2 l2.length (flat l2)) (h3 : W.ownsRow 0 34 3 x3 l3.length (flat l3))
    (r0 : ∀ g, x0.ownBlock = some g → b0 ≤ g ∧ g < b1) (r1 : ∀ g, x1.ownBlock = some g → b1 ≤ g ∧ g < b2) (r2 : ∀ g, x2.ownBlock = some g → b2 ≤ g ∧ g < b3) (r3 : ∀ g, x3.ownBlock = some g → b3 ≤ g) (z1 : b1 ≤ b2) (z2 : b2 ≤ b3) :
    Q.Fam ET3 34 W 4 (fun k => if k = 0 then x0 else if k = 1 then x1 else if k = 2 then x2 else x3) (fun k => if k = 0 then l0 else if k = 1 then l1 else if k = 2 then l2 else l3) := by
  refine ⟨fun k hk => ?_, fun j k hj hk hne g hg hg' => ?_⟩
  · match k, hk with
    | 0, _ => exact h0
    | 1, _ => exact h1
    | 2, _ => exact h2
    | 3, _ => exact h3
  · have s0 := fun h => r0 g h
    have s1 := fun h => r1 g h
    have s2 := fun h => r2 g h
    have s3 := fun h => r3 g h
    match j, k, hj, hk with
    | 0, 0, _, _ => exact hne rfl
    | 1, 1, _, _ => exact hne rfl
    | 2, 2, _, _ => exact hne rfl
    | 3, 3, _, _ => exact hne rfl
    | 0, 1, _, _ => have := s0 hg; have := s1 hg'; omega
    | 0, 2, _, _ => have := s0 hg; have := s2 hg'; omega
    | 0, 3, _, _ => have := s0 hg; have := s3 hg'; omega
    | 1, 0, _, _ => have := s1 hg; have := s0 hg'; omega
    | 1, 2, _, _ => have := s1 hg; have := s2 hg'; omega
    | 1, 3, _, _ => have := s1 hg; have := s3 hg'; omega
    | 2, 0, _, _ => have := s2 hg; have := s0 hg'; omega
    | 2, 1, _, _ => have := s2 hg; have := s1 hg'; omega
    | 2, 3, _, _ => have := s2 hg; have := s3 hg'; omega
    | 3, 0, _, _ => have := s3 hg; have := s0 hg'; omega
    | 3, 1, _, _ => have := s3 hg; have := s1 hg'; omega
    | 3, 2, _, _ => have := s3 hg; have := s2 hg'; omega
/-- What lies in none of the four. -/
theorem sq_four {x0 x1 x2 x3 : Value} {b q : Nat} (r0 : ∀ g, x0.ownBlock = some g → b ≤ g) (r1 : ∀ g, x1.ownBlock = some g → b ≤ g) (r2 : ∀ g, x2.ownBlock = some g → b ≤ g) (r3 : ∀ g, x3.ownBlock = some g → b ≤ g)
    (h : Sq (fun k => if k = 0 then x0 else if k = 1 then x1 else if k = 2 then x2 else x3) q) : b ≤ q := by
  obtain ⟨i, hi, e⟩ := h
  match i, hi with
  | 0, _ => exact r0 q e
  | 1, _ => exact r1 q e
  | 2, _ => exact r2 q e
  | 3, _ => exact r3 q e
/-- As the list that is lent is written over: m's up to i. -/
def ovr (ts us : List T3) (i : Nat) : List T3 := us.take i ++ ts.drop i
theorem ovr_zero (ts us : List T3) : ovr ts us 0 = ts := by simp [ovr]
theorem ovr_len (ts us : List T3) (i : Nat) (h1 : i ≤ ts.length) (h2 : i ≤ us.length) : (ovr ts us i).length = ts.length := by simp [ovr]; omega
theorem ovr_step {ts us : List T3} {i : Nat} {y : T3} (h1 : i < ts.length) (h2 : us[i]? = some y) : (ovr ts us i ++ [m99]).set i y = ovr ts us (i + 1) ++ [m99] := by
  obtain ⟨hu, rfl⟩ := List.getElem?_eq_some_iff.1 h2
  have hm : (us.take i).length = i := by simp; omega
  rw [List.set_append_left _ _ (by rw [ovr_len ts us i (by omega) (by omega)]; exact h1)]
  unfold ovr
  rw [List.set_append_right _ _ (by omega), hm, Nat.sub_self, List.drop_eq_getElem_cons h1, List.set_cons_zero, List.take_add_one, List.getElem?_eq_getElem hu, Option.toList_some, List.append_assoc, List.append_assoc, List.append_assoc]
  rfl
structure Wro (W0 : World) (B g cap : Nat) (ts us : List T3) (i : Nat) (W : World) : Prop where
  row : W.ownsRow B 34 3 (.slice (some ⟨g, 0, none⟩) (ts.length + 1) cap) (ts.length + 1) (flat (ovr ts us i ++ [m99]))
  kp : Q.Kp (fun q => q = g) W0 W
theorem Wro.step {W0 W : World} {B g cap : Nat} {ts us : List T3} {i : Nat} {y : T3} (h : Wro W0 B g cap ts us i W) (h1 : i < ts.length) (h2 : us[i]? = some y) :
    Wro W0 B g cap ts us (i + 1) (((W.setCell ⟨g, i * 3, none⟩ (.int .u64 y.1)).setCell ⟨g, i * 3 + 1, none⟩ (.int .u64 y.2.1)).setCell ⟨g, i * 3 + 2, none⟩ (.int .u64 y.2.2)) := by
  have hr := owns_tm (i := i) y h.row
  rw [ovr_step h1 h2] at hr
  exact ⟨hr, h.kp.trans (owns_tmk (i := i) y (owns_base2 h.row (Nat.zero_le _))).2 (fun _ _ h => h)⟩
end Go.Proofs.YtmhbpelbkeclpaaGreatDoor
