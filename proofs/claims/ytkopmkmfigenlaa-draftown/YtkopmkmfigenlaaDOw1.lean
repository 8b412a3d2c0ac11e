import Derived.Test.YtkopmkmfigenlaaDOw0
import Derived.WalkKit
import Derived.WalkSpells
import Derived.Deep.DrawnRows
import Derived.Deep.DeepCutAuto
import Derived.Deep.LoopGhost
import Derived.Deep.QuietTactic
import Derived.BigQuiet
import Derived.Deep.RegionWith
namespace Go.Proofs.Ytkopmkmfigenlaa.Df
open Go.RowKit Go.Sort Wi
attribute [local go_sem ↓] Go.wp_at_zero Go.wp_at_succ

def fO (z : Int) : Opd := ⟨z, 0⟩
def fC (z : Int) : Con := ⟨z, 0, (0, 0, 0)⟩
def fN (z : Int) : NV := ⟨⟨z, 0, 0, [], (0, 0, 0), 0, [], false⟩, none, 0, 0, none, 0, 0⟩
def fD (z : Int) : Edg := ⟨z, 0, 0, 0, false⟩
theorem ls_atL {w : World} {v : Value} {ts : List LV} (h : Ls EL w v ts) {j : Nat} {x : LV} (hj : ts[j]? = some x) :
    ∃ b off c, v = .slice (some ⟨b, off, none⟩) ts.length c ∧ b < w.heap.size ∧ w.cell? ⟨b, off + j, none⟩ = some x.v := by
  obtain ⟨b, off, c, hv, hb, hc⟩ := h.get hj
  refine ⟨b, off, c, hv, hb, ?_⟩
  have := hc 0 _ (by decide) rfl
  simpa [EL] using this
theorem owns_at0 {α : Type} {E : El α} {w : World} {B : Nat} {T : TypeId} {v : Value} {l : List α} (h : w.ownsRow B T E.k v l.length (fl E l)) {j : Nat} (hj : j < l.length) : ∃ g c, v = .slice (some ⟨g, 0, none⟩) l.length c := by
  rcases h.2 with ⟨_, h0⟩ | ⟨g, cap, cur, h0, _⟩
  · omega
  · exact ⟨g, cap, h0⟩
set_option maxHeartbeats 1000000 in
theorem mark_any (i j : Nat) (hi : i ≤ 100000) (hj : j ≤ 100000) (w : World) : Calls Try.prog 29 #[.int .i64 (i : Nat), .int .i64 (j : Nat)] w fun r w' => r = .returned (.int .i64 (mkI i j)) ∧ w' = w := by
  go_enter Try.func29, Try.ntmps29
  go_wp2_with fail
  go_ret
  exact ⟨rfl, rfl⟩
/-- A book: the lists that it holds. -/
structure Bk (B : Nat) (w : World) (kb : Nat) (cO cC cN cD : LV) (vO : List LV) (lO : List (List Opd)) (vC : List LV) (lC : List (List Con)) (vN : List LV) (lN : List (List NV)) (vD : List LV) (lD : List (List Edg)) : Prop where
  blk : w.heap[kb]? = some (.cells #[cO.v, cC.v, cN.v, cD.v] 43 (0, 0))
  low : B ≤ kb
  rO : w.ownsRow B 61 1 cO.v vO.length (fl EL vO)
  rC : w.ownsRow B 65 1 cC.v vC.length (fl EL vC)
  rN : w.ownsRow B 22 1 cN.v vN.length (fl EL vN)
  rD : w.ownsRow B 23 1 cD.v vD.length (fl EL vD)
  fO : Fm EO 78 B w vO lO
  fC : Fm EC 80 B w vC lC
  fN : Fm EV 67 B w vN lN
  fD : Fm ED 69 B w vD lD
/-- None is long. -/
def Sm {α : Type} (ls : List (List α)) : Prop := ls.length ≤ 1000 ∧ ∀ l ∈ ls, l.length ≤ 1000
/-- The first i are marked. -/
def mkd {α : Type} (f : Int → α) (ls : List (List α)) (i : Nat) : List (List α) := (ls.take i).zipIdx.map (fun p => mksF f p.2 p.1.length) ++ ls.drop i
theorem set_eq_same {α : Type} {l : List α} {j : Nat} {x : α} (h : l[j]? = some x) : l.set j x = l := by
  refine List.ext_getElem? fun k => ?_
  rw [List.getElem?_set]
  split
  · rename_i e
    subst e
    rw [if_pos (List.getElem?_eq_some_iff.1 h).1, h]
  · rfl
theorem mkd_zero {α : Type} (f : Int → α) (ls : List (List α)) : mkd f ls 0 = ls := by simp [mkd]
theorem mkd_get {α : Type} (f : Int → α) {ls : List (List α)} {i : Nat} {l : List α} (h : ls[i]? = some l) : (mkd f ls i)[i]? = some l := by
  have hi := (List.getElem?_eq_some_iff.1 h).1
  unfold mkd
  rw [List.getElem?_append_right (by simp; omega)]
  simp only [List.length_map, List.length_zipIdx, List.length_take, Nat.min_eq_left (Nat.le_of_lt hi), Nat.sub_self]
  rw [List.getElem?_drop]
  simpa using h
theorem mkd_succ {α : Type} (f : Int → α) {ls : List (List α)} {i : Nat} {l : List α} (h : ls[i]? = some l) : (mkd f ls i).set i (mksF f i l.length) = mkd f ls (i + 1) := by
  have hi := (List.getElem?_eq_some_iff.1 h).1
  unfold mkd
  rw [List.set_append_right _ _ (by simp; omega)]
  simp only [List.length_map, List.length_zipIdx, List.length_take, Nat.min_eq_left (Nat.le_of_lt hi), Nat.sub_self]
  have hd : ls.drop i = l :: ls.drop (i + 1) := by
    rw [List.drop_eq_getElem_cons hi]
    congr 1
    rw [List.getElem?_eq_getElem hi] at h
    exact Option.some.inj h
  rw [hd, List.set_cons_zero, List.take_add_one, h]
  simp [List.zipIdx_append, Nat.min_eq_left (Nat.le_of_lt hi)]
theorem mkd_all {α : Type} (f : Int → α) (ls : List (List α)) {i : Nat} (h : ls.length ≤ i) : mkd f ls i = mkd f ls ls.length := by
  unfold mkd
  rw [List.take_of_length_le h, List.drop_of_length_le h, List.take_length, List.drop_length]
theorem mks0 {α : Type} (f : Int → α) (i : Nat) (l : List α) : mksF f i 0 ++ l.drop 0 = l := by simp [mksF]
/-- The first i are lengthened, all being marked. -/
def grwn {α : Type} (f : Int → α) (ls : List (List α)) (i : Nat) : List (List α) := (ls.take i).zipIdx.map (fun p => mksF f p.2 (p.1.length + 1)) ++ (mkd f ls ls.length).drop i
theorem mkd_len {α : Type} (f : Int → α) (ls : List (List α)) (i : Nat) : (mkd f ls i).length = ls.length := by
  simp [mkd]
  omega
theorem mkd_full {α : Type} (f : Int → α) {ls : List (List α)} {i : Nat} {l : List α} (h : ls[i]? = some l) : (mkd f ls ls.length)[i]? = some (mksF f i l.length) := by
  have hi := (List.getElem?_eq_some_iff.1 h).1
  unfold mkd
  rw [List.take_length, List.drop_length, List.append_nil, List.getElem?_map, List.getElem?_zipIdx, h]
  simp
theorem grwn_zero {α : Type} (f : Int → α) (ls : List (List α)) : grwn f ls 0 = mkd f ls ls.length := by simp [grwn]
theorem grwn_get {α : Type} (f : Int → α) {ls : List (List α)} {i : Nat} {l : List α} (h : ls[i]? = some l) : (grwn f ls i)[i]? = some (mksF f i l.length) := by
  have hi := (List.getElem?_eq_some_iff.1 h).1
  unfold grwn
  rw [List.getElem?_append_right (by simp; omega)]
  simp only [List.length_map, List.length_zipIdx, List.length_take, Nat.min_eq_left (Nat.le_of_lt hi), Nat.sub_self]
  rw [List.getElem?_drop]
  simpa using mkd_full f h
theorem grwn_succ {α : Type} (f : Int → α) {ls : List (List α)} {i : Nat} {l : List α} (h : ls[i]? = some l) : (grwn f ls i).set i (mksF f i (l.length + 1)) = grwn f ls (i + 1) := by
  have hi := (List.getElem?_eq_some_iff.1 h).1
  unfold grwn
  rw [List.set_append_right _ _ (by simp; omega)]
  simp only [List.length_map, List.length_zipIdx, List.length_take, Nat.min_eq_left (Nat.le_of_lt hi), Nat.sub_self]
  have hd : (mkd f ls ls.length).drop i = mksF f i l.length :: (mkd f ls ls.length).drop (i + 1) := by
    have hl : i < (mkd f ls ls.length).length := by rw [mkd_len]; exact hi
    rw [List.drop_eq_getElem_cons hl]
    congr 1
    have := mkd_full f h
    rw [List.getElem?_eq_getElem hl] at this
    exact Option.some.inj this
  rw [hd, List.set_cons_zero, List.take_add_one, h]
  simp [List.zipIdx_append, Nat.min_eq_left (Nat.le_of_lt hi)]
theorem grwn_full {α : Type} (f : Int → α) {ls : List (List α)} {i : Nat} {l : List α} (h : ls[i]? = some l) : (grwn f ls ls.length)[i]? = some (mksF f i (l.length + 1)) := by
  unfold grwn
  rw [List.take_length, List.drop_of_length_le (by rw [mkd_len]; exact Nat.le_refl _), List.append_nil, List.getElem?_map, List.getElem?_zipIdx, h]
  simp
theorem grwn_len {α : Type} (f : Int → α) (ls : List (List α)) : (grwn f ls ls.length).length = ls.length := by
  unfold grwn
  rw [List.take_length, List.drop_of_length_le (by rw [mkd_len]; exact Nat.le_refl _)]
  simp
theorem Bk.markO {B : Nat} {w w' : World} {kb : Nat} {cO cC cN cD : LV} {vO : List LV} {lO : List (List Opd)} {vC : List LV} {lC : List (List Con)} {vN : List LV} {lN : List (List NV)} {vD : List LV} {lD : List (List Edg)} (h : Bk B w kb cO cC cN cD vO lO vC lC vN lN vD lD) {i : Nat} {v : LV} {l' : List Opd} (hv : vO[i]? = some v) (ho : w'.ownsRow B 78 2 v.v l'.length (fl EO l')) (hk : Kp (fun k => v.v.ownBlock = some k) w w') : Bk B w' kb cO cC cN cD vO (lO.set i l') vC lC vN lN vD lD := by
  obtain ⟨l, hl, hr⟩ := h.fO.row hv
  have hne : ∀ {e : TypeId} {size n : Nat} {u : Value} {xs : List Value}, w.ownsRow B e size u n xs → e ≠ 78 → w'.ownsRow B e size u n xs := fun ho hT => owns_kp hk ho (fun b e e2 => owns_ne_own ho hr hT b e e2)
  have hf := h.fO.put (v' := v) hv ho hk (fun b e => Or.inl e)
  rw [set_eq_same hv] at hf
  refine ⟨(hk.block _ (tk_lt h.blk) (fun e => owns_ne_blk hr h.blk (by decide) kb e rfl)).trans h.blk, h.low, hne h.rO (by decide), hne h.rC (by decide), hne h.rN (by decide), hne h.rD (by decide), hf, h.fC.kp hk (h.fC.far hr (by decide)), h.fN.kp hk (h.fN.far hr (by decide)), h.fD.kp hk (h.fD.far hr (by decide))⟩
theorem Bk.growO {B : Nat} {w w' : World} {kb : Nat} {cO cC cN cD : LV} {vO : List LV} {lO : List (List Opd)} {vC : List LV} {lC : List (List Con)} {vN : List LV} {lN : List (List NV)} {vD : List LV} {lD : List (List Edg)} (h : Bk B w kb cO cC cN cD vO lO vC lC vN lN vD lD) {i : Nat} {v v' : LV} {l' : List Opd} (hv : vO[i]? = some v) (ho : w'.ownsRow B 78 2 v'.v l'.length (fl EO l')) (hk : Kp (fun k => v.v.ownBlock = some k) w w') (hb : ∀ b, v'.v.ownBlock = some b → v.v.ownBlock = some b ∨ w.heap.size ≤ b) {cg cc : Nat} (hc : cO.v = .slice (some ⟨cg, 0, none⟩) vO.length cc) : Bk B (w'.setCell ⟨cg, i, none⟩ v'.v) kb cO cC cN cD (vO.set i v') (lO.set i l') vC lC vN lN vD lD ∧ Kp (fun k => B ≤ k) w (w'.setCell ⟨cg, i, none⟩ v'.v) := by
  obtain ⟨l, hl, hr⟩ := h.fO.row hv
  have hne : ∀ {e : TypeId} {size n : Nat} {u : Value} {xs : List Value}, w.ownsRow B e size u n xs → e ≠ 78 → w'.ownsRow B e size u n xs := fun ho hT => owns_kp hk ho (fun b e e2 => owns_ne_own ho hr hT b e e2)
  have hf := h.fO.put (v' := v') hv ho hk hb
  have hrc := hne h.rO (by decide)
  rw [hc] at hrc
  obtain ⟨so, sk⟩ := owns_one hrc i v'.v
  have hrc2 := hne h.rO (by decide)
  have hcb : cO.v.ownBlock = some cg := by rw [hc]; rfl
  have hbk := (hk.block _ (tk_lt h.blk) (fun e => owns_ne_blk hr h.blk (by decide) kb e rfl)).trans h.blk
  have hn2 : ∀ {e : TypeId} {size n : Nat} {u : Value} {xs : List Value}, w'.ownsRow B e size u n xs → e ≠ 61 → (w'.setCell ⟨cg, i, none⟩ v'.v).ownsRow B e size u n xs := fun ho hT => owns_kp sk ho (fun b e e2 => owns_ne_own ho hrc2 hT b e (by rw [e2]; exact hcb))
  have hfl : (fl EL vO).set i v'.v = fl EL (vO.set i v') := by
    have := fl_sets EL vO i v' (List.getElem?_eq_some_iff.1 hv).1
    simpa [EL] using this
  refine ⟨⟨(sk.block _ (tk_lt hbk) (fun e => owns_ne_blk hrc2 hbk (by decide) cg hcb e.symm)).trans hbk, h.low, by rw [hc]; exact owns_re so (by simp) hfl, hn2 (hne h.rC (by decide)) (by decide), hn2 (hne h.rN (by decide)) (by decide), hn2 (hne h.rD (by decide)) (by decide), hf.kp sk (fun u hu b e e2 => (hf.far hrc2 (by decide)) u hu b e (by rw [e2]; exact hcb)), (h.fC.kp hk (h.fC.far hr (by decide))).kp sk (fun u hu b e e2 => ((h.fC.kp hk (h.fC.far hr (by decide))).far hrc2 (by decide)) u hu b e (by rw [e2]; exact hcb)), (h.fN.kp hk (h.fN.far hr (by decide))).kp sk (fun u hu b e e2 => ((h.fN.kp hk (h.fN.far hr (by decide))).far hrc2 (by decide)) u hu b e (by rw [e2]; exact hcb)), (h.fD.kp hk (h.fD.far hr (by decide))).kp sk (fun u hu b e e2 => ((h.fD.kp hk (h.fD.far hr (by decide))).far hrc2 (by decide)) u hu b e (by rw [e2]; exact hcb))⟩, ?_⟩
  exact (hk.mono (T := fun j => B ≤ j) (fun j e => (owns_rd hr j e).1)).trans sk (fun j _ e => by rw [e]; exact (owns_rd hrc2 cg hcb).1)
theorem Bk.markC {B : Nat} {w w' : World} {kb : Nat} {cO cC cN cD : LV} {vO : List LV} {lO : List (List Opd)} {vC : List LV} {lC : List (List Con)} {vN : List LV} {lN : List (List NV)} {vD : List LV} {lD : List (List Edg)} (h : Bk B w kb cO cC cN cD vO lO vC lC vN lN vD lD) {i : Nat} {v : LV} {l' : List Con} (hv : vC[i]? = some v) (ho : w'.ownsRow B 80 5 v.v l'.length (fl EC l')) (hk : Kp (fun k => v.v.ownBlock = some k) w w') : Bk B w' kb cO cC cN cD vO lO vC (lC.set i l') vN lN vD lD := by
  obtain ⟨l, hl, hr⟩ := h.fC.row hv
  have hne : ∀ {e : TypeId} {size n : Nat} {u : Value} {xs : List Value}, w.ownsRow B e size u n xs → e ≠ 80 → w'.ownsRow B e size u n xs := fun ho hT => owns_kp hk ho (fun b e e2 => owns_ne_own ho hr hT b e e2)
  have hf := h.fC.put (v' := v) hv ho hk (fun b e => Or.inl e)
  rw [set_eq_same hv] at hf
  refine ⟨(hk.block _ (tk_lt h.blk) (fun e => owns_ne_blk hr h.blk (by decide) kb e rfl)).trans h.blk, h.low, hne h.rO (by decide), hne h.rC (by decide), hne h.rN (by decide), hne h.rD (by decide), h.fO.kp hk (h.fO.far hr (by decide)), hf, h.fN.kp hk (h.fN.far hr (by decide)), h.fD.kp hk (h.fD.far hr (by decide))⟩
theorem Bk.growC {B : Nat} {w w' : World} {kb : Nat} {cO cC cN cD : LV} {vO : List LV} {lO : List (List Opd)} {vC : List LV} {lC : List (List Con)} {vN : List LV} {lN : List (List NV)} {vD : List LV} {lD : List (List Edg)} (h : Bk B w kb cO cC cN cD vO lO vC lC vN lN vD lD) {i : Nat} {v v' : LV} {l' : List Con} (hv : vC[i]? = some v) (ho : w'.ownsRow B 80 5 v'.v l'.length (fl EC l')) (hk : Kp (fun k => v.v.ownBlock = some k) w w') (hb : ∀ b, v'.v.ownBlock = some b → v.v.ownBlock = some b ∨ w.heap.size ≤ b) {cg cc : Nat} (hc : cC.v = .slice (some ⟨cg, 0, none⟩) vC.length cc) : Bk B (w'.setCell ⟨cg, i, none⟩ v'.v) kb cO cC cN cD vO lO (vC.set i v') (lC.set i l') vN lN vD lD ∧ Kp (fun k => B ≤ k) w (w'.setCell ⟨cg, i, none⟩ v'.v) := by
  obtain ⟨l, hl, hr⟩ := h.fC.row hv
  have hne : ∀ {e : TypeId} {size n : Nat} {u : Value} {xs : List Value}, w.ownsRow B e size u n xs → e ≠ 80 → w'.ownsRow B e size u n xs := fun ho hT => owns_kp hk ho (fun b e e2 => owns_ne_own ho hr hT b e e2)
  have hf := h.fC.put (v' := v') hv ho hk hb
  have hrc := hne h.rC (by decide)
  rw [hc] at hrc
  obtain ⟨so, sk⟩ := owns_one hrc i v'.v
  have hrc2 := hne h.rC (by decide)
  have hcb : cC.v.ownBlock = some cg := by rw [hc]; rfl
  have hbk := (hk.block _ (tk_lt h.blk) (fun e => owns_ne_blk hr h.blk (by decide) kb e rfl)).trans h.blk
  have hn2 : ∀ {e : TypeId} {size n : Nat} {u : Value} {xs : List Value}, w'.ownsRow B e size u n xs → e ≠ 65 → (w'.setCell ⟨cg, i, none⟩ v'.v).ownsRow B e size u n xs := fun ho hT => owns_kp sk ho (fun b e e2 => owns_ne_own ho hrc2 hT b e (by rw [e2]; exact hcb))
  have hfl : (fl EL vC).set i v'.v = fl EL (vC.set i v') := by
    have := fl_sets EL vC i v' (List.getElem?_eq_some_iff.1 hv).1
    simpa [EL] using this
  refine ⟨⟨(sk.block _ (tk_lt hbk) (fun e => owns_ne_blk hrc2 hbk (by decide) cg hcb e.symm)).trans hbk, h.low, hn2 (hne h.rO (by decide)) (by decide), by rw [hc]; exact owns_re so (by simp) hfl, hn2 (hne h.rN (by decide)) (by decide), hn2 (hne h.rD (by decide)) (by decide), (h.fO.kp hk (h.fO.far hr (by decide))).kp sk (fun u hu b e e2 => ((h.fO.kp hk (h.fO.far hr (by decide))).far hrc2 (by decide)) u hu b e (by rw [e2]; exact hcb)), hf.kp sk (fun u hu b e e2 => (hf.far hrc2 (by decide)) u hu b e (by rw [e2]; exact hcb)), (h.fN.kp hk (h.fN.far hr (by decide))).kp sk (fun u hu b e e2 => ((h.fN.kp hk (h.fN.far hr (by decide))).far hrc2 (by decide)) u hu b e (by rw [e2]; exact hcb)), (h.fD.kp hk (h.fD.far hr (by decide))).kp sk (fun u hu b e e2 => ((h.fD.kp hk (h.fD.far hr (by decide))).far hrc2 (by decide)) u hu b e (by rw [e2]; exact hcb))⟩, ?_⟩
  exact (hk.mono (T := fun j => B ≤ j) (fun j e => (owns_rd hr j e).1)).trans sk (fun j _ e => by rw [e]; exact (owns_rd hrc2 cg hcb).1)
theorem Bk.markN {B : Nat} {w w' : World} {kb : Nat} {cO cC cN cD : LV} {vO : List LV} {lO : List (List Opd)} {vC : List LV} {lC : List (List Con)} {vN : List LV} {lN : List (List NV)} {vD : List LV} {lD : List (List Edg)} (h : Bk B w kb cO cC cN cD vO lO vC lC vN lN vD lD) {i : Nat} {v : LV} {l' : List NV} (hv : vN[i]? = some v) (ho : w'.ownsRow B 67 10 v.v l'.length (fl EV l')) (hk : Kp (fun k => v.v.ownBlock = some k) w w') : Bk B w' kb cO cC cN cD vO lO vC lC vN (lN.set i l') vD lD := by
  obtain ⟨l, hl, hr⟩ := h.fN.row hv
  have hne : ∀ {e : TypeId} {size n : Nat} {u : Value} {xs : List Value}, w.ownsRow B e size u n xs → e ≠ 67 → w'.ownsRow B e size u n xs := fun ho hT => owns_kp hk ho (fun b e e2 => owns_ne_own ho hr hT b e e2)
  have hf := h.fN.put (v' := v) hv ho hk (fun b e => Or.inl e)
  rw [set_eq_same hv] at hf
  refine ⟨(hk.block _ (tk_lt h.blk) (fun e => owns_ne_blk hr h.blk (by decide) kb e rfl)).trans h.blk, h.low, hne h.rO (by decide), hne h.rC (by decide), hne h.rN (by decide), hne h.rD (by decide), h.fO.kp hk (h.fO.far hr (by decide)), h.fC.kp hk (h.fC.far hr (by decide)), hf, h.fD.kp hk (h.fD.far hr (by decide))⟩
theorem Bk.growN {B : Nat} {w w' : World} {kb : Nat} {cO cC cN cD : LV} {vO : List LV} {lO : List (List Opd)} {vC : List LV} {lC : List (List Con)} {vN : List LV} {lN : List (List NV)} {vD : List LV} {lD : List (List Edg)} (h : Bk B w kb cO cC cN cD vO lO vC lC vN lN vD lD) {i : Nat} {v v' : LV} {l' : List NV} (hv : vN[i]? = some v) (ho : w'.ownsRow B 67 10 v'.v l'.length (fl EV l')) (hk : Kp (fun k => v.v.ownBlock = some k) w w') (hb : ∀ b, v'.v.ownBlock = some b → v.v.ownBlock = some b ∨ w.heap.size ≤ b) {cg cc : Nat} (hc : cN.v = .slice (some ⟨cg, 0, none⟩) vN.length cc) : Bk B (w'.setCell ⟨cg, i, none⟩ v'.v) kb cO cC cN cD vO lO vC lC (vN.set i v') (lN.set i l') vD lD ∧ Kp (fun k => B ≤ k) w (w'.setCell ⟨cg, i, none⟩ v'.v) := by
  obtain ⟨l, hl, hr⟩ := h.fN.row hv
  have hne : ∀ {e : TypeId} {size n : Nat} {u : Value} {xs : List Value}, w.ownsRow B e size u n xs → e ≠ 67 → w'.ownsRow B e size u n xs := fun ho hT => owns_kp hk ho (fun b e e2 => owns_ne_own ho hr hT b e e2)
  have hf := h.fN.put (v' := v') hv ho hk hb
  have hrc := hne h.rN (by decide)
  rw [hc] at hrc
  obtain ⟨so, sk⟩ := owns_one hrc i v'.v
  have hrc2 := hne h.rN (by decide)
  have hcb : cN.v.ownBlock = some cg := by rw [hc]; rfl
  have hbk := (hk.block _ (tk_lt h.blk) (fun e => owns_ne_blk hr h.blk (by decide) kb e rfl)).trans h.blk
  have hn2 : ∀ {e : TypeId} {size n : Nat} {u : Value} {xs : List Value}, w'.ownsRow B e size u n xs → e ≠ 22 → (w'.setCell ⟨cg, i, none⟩ v'.v).ownsRow B e size u n xs := fun ho hT => owns_kp sk ho (fun b e e2 => owns_ne_own ho hrc2 hT b e (by rw [e2]; exact hcb))
  have hfl : (fl EL vN).set i v'.v = fl EL (vN.set i v') := by
    have := fl_sets EL vN i v' (List.getElem?_eq_some_iff.1 hv).1
    simpa [EL] using this
  refine ⟨⟨(sk.block _ (tk_lt hbk) (fun e => owns_ne_blk hrc2 hbk (by decide) cg hcb e.symm)).trans hbk, h.low, hn2 (hne h.rO (by decide)) (by decide), hn2 (hne h.rC (by decide)) (by decide), by rw [hc]; exact owns_re so (by simp) hfl, hn2 (hne h.rD (by decide)) (by decide), (h.fO.kp hk (h.fO.far hr (by decide))).kp sk (fun u hu b e e2 => ((h.fO.kp hk (h.fO.far hr (by decide))).far hrc2 (by decide)) u hu b e (by rw [e2]; exact hcb)), (h.fC.kp hk (h.fC.far hr (by decide))).kp sk (fun u hu b e e2 => ((h.fC.kp hk (h.fC.far hr (by decide))).far hrc2 (by decide)) u hu b e (by rw [e2]; exact hcb)), hf.kp sk (fun u hu b e e2 => (hf.far hrc2 (by decide)) u hu b e (by rw [e2]; exact hcb)), (h.fD.kp hk (h.fD.far hr (by decide))).kp sk (fun u hu b e e2 => ((h.fD.kp hk (h.fD.far hr (by decide))).far hrc2 (by decide)) u hu b e (by rw [e2]; exact hcb))⟩, ?_⟩
  exact (hk.mono (T := fun j => B ≤ j) (fun j e => (owns_rd hr j e).1)).trans sk (fun j _ e => by rw [e]; exact (owns_rd hrc2 cg hcb).1)
theorem Bk.markD {B : Nat} {w w' : World} {kb : Nat} {cO cC cN cD : LV} {vO : List LV} {lO : List (List Opd)} {vC : List LV} {lC : List (List Con)} {vN : List LV} {lN : List (List NV)} {vD : List LV} {lD : List (List Edg)} (h : Bk B w kb cO cC cN cD vO lO vC lC vN lN vD lD) {i : Nat} {v : LV} {l' : List Edg} (hv : vD[i]? = some v) (ho : w'.ownsRow B 69 5 v.v l'.length (fl ED l')) (hk : Kp (fun k => v.v.ownBlock = some k) w w') : Bk B w' kb cO cC cN cD vO lO vC lC vN lN vD (lD.set i l') := by
  obtain ⟨l, hl, hr⟩ := h.fD.row hv
  have hne : ∀ {e : TypeId} {size n : Nat} {u : Value} {xs : List Value}, w.ownsRow B e size u n xs → e ≠ 69 → w'.ownsRow B e size u n xs := fun ho hT => owns_kp hk ho (fun b e e2 => owns_ne_own ho hr hT b e e2)
  have hf := h.fD.put (v' := v) hv ho hk (fun b e => Or.inl e)
  rw [set_eq_same hv] at hf
  refine ⟨(hk.block _ (tk_lt h.blk) (fun e => owns_ne_blk hr h.blk (by decide) kb e rfl)).trans h.blk, h.low, hne h.rO (by decide), hne h.rC (by decide), hne h.rN (by decide), hne h.rD (by decide), h.fO.kp hk (h.fO.far hr (by decide)), h.fC.kp hk (h.fC.far hr (by decide)), h.fN.kp hk (h.fN.far hr (by decide)), hf⟩
theorem Bk.growD {B : Nat} {w w' : World} {kb : Nat} {cO cC cN cD : LV} {vO : List LV} {lO : List (List Opd)} {vC : List LV} {lC : List (List Con)} {vN : List LV} {lN : List (List NV)} {vD : List LV} {lD : List (List Edg)} (h : Bk B w kb cO cC cN cD vO lO vC lC vN lN vD lD) {i : Nat} {v v' : LV} {l' : List Edg} (hv : vD[i]? = some v) (ho : w'.ownsRow B 69 5 v'.v l'.length (fl ED l')) (hk : Kp (fun k => v.v.ownBlock = some k) w w') (hb : ∀ b, v'.v.ownBlock = some b → v.v.ownBlock = some b ∨ w.heap.size ≤ b) {cg cc : Nat} (hc : cD.v = .slice (some ⟨cg, 0, none⟩) vD.length cc) : Bk B (w'.setCell ⟨cg, i, none⟩ v'.v) kb cO cC cN cD vO lO vC lC vN lN (vD.set i v') (lD.set i l') ∧ Kp (fun k => B ≤ k) w (w'.setCell ⟨cg, i, none⟩ v'.v) := by
  obtain ⟨l, hl, hr⟩ := h.fD.row hv
  have hne : ∀ {e : TypeId} {size n : Nat} {u : Value} {xs : List Value}, w.ownsRow B e size u n xs → e ≠ 69 → w'.ownsRow B e size u n xs := fun ho hT => owns_kp hk ho (fun b e e2 => owns_ne_own ho hr hT b e e2)
  have hf := h.fD.put (v' := v') hv ho hk hb
  have hrc := hne h.rD (by decide)
  rw [hc] at hrc
  obtain ⟨so, sk⟩ := owns_one hrc i v'.v
  have hrc2 := hne h.rD (by decide)
  have hcb : cD.v.ownBlock = some cg := by rw [hc]; rfl
  have hbk := (hk.block _ (tk_lt h.blk) (fun e => owns_ne_blk hr h.blk (by decide) kb e rfl)).trans h.blk
  have hn2 : ∀ {e : TypeId} {size n : Nat} {u : Value} {xs : List Value}, w'.ownsRow B e size u n xs → e ≠ 23 → (w'.setCell ⟨cg, i, none⟩ v'.v).ownsRow B e size u n xs := fun ho hT => owns_kp sk ho (fun b e e2 => owns_ne_own ho hrc2 hT b e (by rw [e2]; exact hcb))
  have hfl : (fl EL vD).set i v'.v = fl EL (vD.set i v') := by
    have := fl_sets EL vD i v' (List.getElem?_eq_some_iff.1 hv).1
    simpa [EL] using this
  refine ⟨⟨(sk.block _ (tk_lt hbk) (fun e => owns_ne_blk hrc2 hbk (by decide) cg hcb e.symm)).trans hbk, h.low, hn2 (hne h.rO (by decide)) (by decide), hn2 (hne h.rC (by decide)) (by decide), hn2 (hne h.rN (by decide)) (by decide), by rw [hc]; exact owns_re so (by simp) hfl, (h.fO.kp hk (h.fO.far hr (by decide))).kp sk (fun u hu b e e2 => ((h.fO.kp hk (h.fO.far hr (by decide))).far hrc2 (by decide)) u hu b e (by rw [e2]; exact hcb)), (h.fC.kp hk (h.fC.far hr (by decide))).kp sk (fun u hu b e e2 => ((h.fC.kp hk (h.fC.far hr (by decide))).far hrc2 (by decide)) u hu b e (by rw [e2]; exact hcb)), (h.fN.kp hk (h.fN.far hr (by decide))).kp sk (fun u hu b e e2 => ((h.fN.kp hk (h.fN.far hr (by decide))).far hrc2 (by decide)) u hu b e (by rw [e2]; exact hcb)), hf.kp sk (fun u hu b e e2 => (hf.far hrc2 (by decide)) u hu b e (by rw [e2]; exact hcb))⟩, ?_⟩
  exact (hk.mono (T := fun j => B ≤ j) (fun j e => (owns_rd hr j e).1)).trans sk (fun j _ e => by rw [e]; exact (owns_rd hrc2 cg hcb).1)
end Go.Proofs.Ytkopmkmfigenlaa.Df
