import Derived.Test.YtcdmgclkgojgaaaRows
import Derived.Test.YtcdmgclkgojgaaaLRow
import Derived.Test.YtcdmgclkgojgaaaLClear
import Derived.Test.YtcdmgclkgojgaaaLHold
import Derived.WalkKit
import Derived.WalkSpells
import Derived.Deep.RegionHeld3
import Derived.Deep.DrawnRows
import Derived.Deep.DeepCutAuto
import Derived.Deep.LoopGhost
import Derived.Deep.QuietTactic
import Derived.BigQuiet
import Derived.Shelf.SlSortCmp.QuietGrown
namespace Go.Proofs.Ytcdmgclkgojgaaa.Pi
open Go.RowKit Go.Sort
attribute [local go_sem ↓] Go.wp_at_zero Go.wp_at_succ

abbrev Th := Int
abbrev tv (a : Th) : Value := .int .i64 a
abbrev tz : Th := (0 : Int)
def ET : El Th where
  k := 1
  enc x := [.int .i64 x]
  len _ := rfl
  one x u hu := by
    simp at hu
    rcases hu with rfl <;> rfl
theorem ls_at {w : World} {v : Value} {ts : List Th} (h : Ls ET w v ts) {j : Nat} {x : Th} (hj : ts[j]? = some x) :
    ∃ b off c, v = .slice (some ⟨b, off, none⟩) ts.length c ∧ b < w.heap.size ∧ w.cell? ⟨b, off + j, none⟩ = some (.int .i64 x) := by
  obtain ⟨b, off, c, hv, hb, hc⟩ := h.get hj
  simp only [show ET.k = 1 from rfl, Nat.mul_one] at hc
  exact ⟨b, off, c, hv, hb, hc 0 _ (by decide) rfl⟩
theorem hid {p : Prop} (h : p) : Hid p := h
/-- The value at one place is another. -/
def upd {β : Type} (f : Nat → β) (i : Nat) (x : β) : Nat → β := fun j => if j = i then x else f j
theorem upd_self {β : Type} (f : Nat → β) (i : Nat) (x : β) : upd f i x i = x := by simp [upd]
theorem upd_ne {β : Type} (f : Nat → β) {i j : Nat} (x : β) (h : j ≠ i) : upd f i x j = f j := by simp [upd, h]
/-- A post's cells. -/
def Bk (w : World) (hb W : Nat) (v : Nat → Value) (tk : Nat → Nat) : Prop :=
  ∃ cs, w.heap[hb]? = some (.cells cs 98 (0, 0)) ∧ cs.size = 129 ∧ cs[0]? = some (.int .i64 (W : Nat)) ∧ ∀ i, i < 64 → cs[1 + 2 * i]? = some (v i) ∧ cs[2 + 2 * i]? = some (.int .i64 (tk i : Nat))
section
variable {w w' : World} {hb W : Nat} {v : Nat → Value} {tk : Nat → Nat}
theorem Bk.lt (h : Bk w hb W v tk) : hb < w.heap.size := by
  obtain ⟨cs, h, _⟩ := h
  exact (Array.getElem?_eq_some_iff.1 h).1
theorem Bk.c0 (h : Bk w hb W v tk) : w.cell? ⟨hb, 0, none⟩ = some (.int .i64 (W : Nat)) := by
  obtain ⟨cs, h, _, h0, _⟩ := h
  simp only [World.cell?, h]
  simpa using h0
theorem Bk.cv (h : Bk w hb W v tk) {i : Nat} (hi : i < 64) : w.cell? ⟨hb, 1 + 2 * i, none⟩ = some (v i) := by
  obtain ⟨cs, h, _, _, h0⟩ := h
  simp only [World.cell?, h]
  simpa using (h0 i hi).1
theorem Bk.ct (h : Bk w hb W v tk) {i : Nat} (hi : i < 64) : w.cell? ⟨hb, 1 + 2 * i + 1, none⟩ = some (.int .i64 (tk i : Nat)) := by
  obtain ⟨cs, h, _, _, h0⟩ := h
  rw [show 1 + 2 * i + 1 = 2 + 2 * i by omega]
  simp only [World.cell?, h]
  simpa using (h0 i hi).2
theorem Bk.fz (h : Bk w hb W v tk) (o : Nat) : w.frozen? ⟨hb, o, none⟩ = false := by
  obtain ⟨cs, h, _⟩ := h
  simp [World.frozen?, h]
theorem Bk.kept (h : Bk w hb W v tk) (he : w'.heap[hb]? = w.heap[hb]?) : Bk w' hb W v tk := by
  obtain ⟨cs, h, r⟩ := h
  exact ⟨cs, he.trans h, r⟩
theorem setCell_blk {w : World} {tb k : Nat} {cs : Array Value} {t : TypeId} {v : Value} (h : w.heap[tb]? = some (.cells cs t (0, 0))) :
    (w.setCell ⟨tb, k, none⟩ v).heap[tb]? = some (.cells (cs.setIfInBounds k v) t (0, 0)) ∧ Kp (fun k => k = tb) w (w.setCell ⟨tb, k, none⟩ v) ∧ (w.setCell ⟨tb, k, none⟩ v).heap.size = w.heap.size := by
  have e := setCell_eq_setRow w tb k _ _ _ v h
  have hz : (w.setCell ⟨tb, k, none⟩ v).heap.size = w.heap.size := by rw [e]; simp [World.setRow]
  refine ⟨?_, ?_, hz⟩
  · rw [e, setRow_heap _ tb _ _ _ _ h]
  · rw [e]
    exact ⟨rfl, rfl, rfl, by simp [World.setRow], fun k _ hne => setRow_other _ tb k _ (by omega)⟩
theorem Bk.setV (h : Bk w hb W v tk) {i : Nat} (hi : i < 64) (x : Value) : Bk (w.setCell ⟨hb, 1 + 2 * i, none⟩ x) hb W (upd v i x) tk ∧ Kp (fun k => k = hb) w (w.setCell ⟨hb, 1 + 2 * i, none⟩ x) := by
  obtain ⟨cs, h, hs, h0, h1⟩ := h
  obtain ⟨e1, e2, _⟩ := setCell_blk (k := 1 + 2 * i) (v := x) h
  refine ⟨⟨_, e1, by simpa using hs, ?_, fun j hj => ⟨?_, ?_⟩⟩, e2⟩
  · rw [Array.getElem?_setIfInBounds_ne (by omega)]; exact h0
  · by_cases e : j = i
    · subst e
      rw [upd_self, Array.getElem?_setIfInBounds_self_of_lt (by omega)]
    · rw [upd_ne _ _ e, Array.getElem?_setIfInBounds_ne (by omega)]; exact (h1 j hj).1
  · rw [Array.getElem?_setIfInBounds_ne (by omega)]; exact (h1 j hj).2
theorem Bk.setT (h : Bk w hb W v tk) {i : Nat} (hi : i < 64) (x : Nat) : Bk (w.setCell ⟨hb, 1 + 2 * i + 1, none⟩ (.int .i64 (x : Nat))) hb W v (upd tk i x) ∧ Kp (fun k => k = hb) w (w.setCell ⟨hb, 1 + 2 * i + 1, none⟩ (.int .i64 (x : Nat))) := by
  obtain ⟨cs, h, hs, h0, h1⟩ := h
  obtain ⟨e1, e2, _⟩ := setCell_blk (k := 1 + 2 * i + 1) (v := .int .i64 (x : Nat)) h
  refine ⟨⟨_, e1, by simpa using hs, ?_, fun j hj => ⟨?_, ?_⟩⟩, e2⟩
  · rw [Array.getElem?_setIfInBounds_ne (by omega)]; exact h0
  · rw [Array.getElem?_setIfInBounds_ne (by omega)]; exact (h1 j hj).1
  · by_cases e : j = i
    · subst e
      rw [upd_self, show 2 + 2 * j = 1 + 2 * j + 1 by omega, Array.getElem?_setIfInBounds_self_of_lt (by omega)]
    · rw [upd_ne _ _ e, Array.getElem?_setIfInBounds_ne (by omega)]; exact (h1 j hj).2
end
/-- A post: its cells and its lists, each with an owner of its own. -/
structure Pb (w : World) (hb W : Nat) (v : Nat → Value) (tk : Nat → Nat) (X : Nat → List Th) : Prop where
  blk : Bk w hb W v tk
  own : ∀ i, i < 64 → w.ownsRow 0 3 1 (v i) (X i).length (fl ET (X i))
  le : ∀ i, i < 64 → tk i ≤ (X i).length
  dup : ∀ i j g, i < 64 → j < 64 → (v i).ownBlock = some g → (v j).ownBlock = some g → i = j
  off : ∀ i, i < 64 → (v i).ownBlock ≠ some hb
  w8 : W ≤ 8
section
variable {w w' : World} {hb W : Nat} {v : Nat → Value} {tk : Nat → Nat} {X : Nat → List Th}
theorem Pb.lst (h : Pb w hb W v tk X) {i : Nat} (hi : i < 64) : Ls ET w (v i) (X i) := owns_ls (E := ET) (h.own i hi)
theorem Pb.row (h : Pb w hb W v tk X) {i : Nat} (hi : i < 64) : ∀ k, (v i).ownBlock = some k → k < w.heap.size := fun k hk => ((h.own i hi).lt k hk).2
theorem Pb.kp {S : Nat → Prop} (h : Pb w hb W v tk X) (hk : Kp S w w') (h1 : ¬ S hb) (h2 : ∀ i k, i < 64 → (v i).ownBlock = some k → ¬ S k) : Pb w' hb W v tk X :=
  ⟨h.blk.kept (hk.block hb h.blk.lt h1), fun i hi => owns_kp hk (h.own i hi) (fun k hb => h2 i k hi hb), h.le, h.dup, h.off, h.w8⟩
theorem Pb.below (h : Pb w hb W v tk X) (hb' : Below w.heap.size w w') : Pb w' hb W v tk X := h.kp (S := fun _ => False) (Kp.of_below hb') (fun h => h) (fun _ _ _ _ h => h)
theorem Pb.gr (h : Pb w hb W v tk X) (hg : Gr w w') : Pb w' hb W v tk X := h.below hg.below
/-- One link is another one. -/
theorem Pb.turn (h : Pb w hb W v tk X) {i : Nat} (hi : i < 64) {v' : Value} {t' : Nat} {X' : List Th} (hB : Bk w' hb W (upd v i v') (upd tk i t')) (ho : w'.ownsRow 0 3 1 v' X'.length (fl ET X')) (hle : t' ≤ X'.length)
    (hk : Kp (fun k => k = hb ∨ (v i).ownBlock = some k) w w') (hn : ∀ g, v'.ownBlock = some g → (v i).ownBlock = some g ∨ w.heap.size ≤ g) : Pb w' hb W (upd v i v') (upd tk i t') (upd X i X') := by
  have old : ∀ j g, j < 64 → j ≠ i → (v j).ownBlock = some g → v'.ownBlock ≠ some g := by
    intro j g hj hne hg h2
    rcases hn g h2 with h3 | h3
    · exact hne (h.dup j i g hj hi hg h3)
    · exact absurd (h.row hj g hg) (by omega)
  refine ⟨hB, fun j hj => ?_, fun j hj => ?_, fun j q g hj hq h1 h2 => ?_, fun j hj hg => ?_, h.w8⟩
  · by_cases e : j = i
    · subst e; rw [upd_self, upd_self]; exact ho
    · rw [upd_ne _ _ e, upd_ne _ _ e]
      refine owns_kp hk (h.own j hj) fun k hk hs => ?_
      rcases hs with hs | hs
      · exact h.off j hj (by rw [hk, hs])
      · exact e (h.dup j i k hj hi hk hs)
  · by_cases e : j = i
    · subst e; rw [upd_self, upd_self]; exact hle
    · rw [upd_ne _ _ e, upd_ne _ _ e]; exact h.le j hj
  · by_cases e : j = i
    · by_cases e2 : q = i
      · rw [e, e2]
      · subst e; rw [upd_self] at h1; rw [upd_ne _ _ e2] at h2
        exact absurd h1 (old q g hq e2 h2)
    · rw [upd_ne _ _ e] at h1
      by_cases e2 : q = i
      · subst e2; rw [upd_self] at h2
        exact absurd h2 (old j g hj e h1)
      · rw [upd_ne _ _ e2] at h2
        exact h.dup j q g hj hq h1 h2
  · by_cases e : j = i
    · subst e; rw [upd_self] at hg
      rcases hn hb hg with h3 | h3
      · exact h.off j hj h3
      · exact absurd h.blk.lt (by omega)
    · rw [upd_ne _ _ e] at hg
      exact h.off j hj hg
end
theorem own_eq {g k n c : Nat} (h : (Value.slice (some ⟨g, 0, none⟩) n c).ownBlock = some k) : g = k := by simpa [Value.ownBlock] using h

set_option maxHeartbeats 1000000 in
theorem isWorker_any (hb W : Nat) (n : Int) (w : World) (_hl : hb < w.heap.size) (c0 : w.cell? ⟨hb, 0, none⟩ = some (.int .i64 (W : Nat))) : Calls Try.prog 62 #[.pointer (some ⟨hb, 0, none⟩), .int .i64 n] w fun e w' => e = .returned (.bool (decide (0 ≤ n ∧ n < (W : Int)))) ∧ w' = w := by
  by_cases h0 : 0 ≤ n
  · by_cases h1 : n < (W : Int)
    · rw [decide_eq_true (⟨h0, h1⟩ : 0 ≤ n ∧ n < (W : Int))]
      go_enter Try.func62, Try.ntmps62
      go_wp2
      go_ret
      exact ⟨rfl, rfl⟩
    · rw [decide_eq_false (fun h : 0 ≤ n ∧ n < (W : Int) => h1 h.2)]
      go_enter Try.func62, Try.ntmps62
      go_wp2
      go_ret
      exact ⟨rfl, rfl⟩
  · rw [decide_eq_false (fun h : 0 ≤ n ∧ n < (W : Int) => h0 h.1)]
    go_enter Try.func62, Try.ntmps62
    go_wp2
    go_ret
    exact ⟨rfl, rfl⟩
/-- There is a link. -/
def Lnk (W : Nat) (f t : Int) : Prop := (0 ≤ f ∧ f < (W : Int)) ∧ (0 ≤ t ∧ t < (W : Int)) ∧ f ≠ t
instance (W : Nat) (f t : Int) : Decidable (Lnk W f t) := by unfold Lnk; infer_instance
/-- Its number. -/
def nm (f t : Int) : Nat := 8 * f.toNat + t.toNat
theorem nm_lt {W : Nat} {f t : Int} (h : Lnk W f t) (h8 : W ≤ 8) : nm f t < 64 := by
  obtain ⟨⟨h1, h2⟩, ⟨h3, h4⟩, _⟩ := h
  unfold nm; omega
set_option maxHeartbeats 2000000 in
theorem between_no (hb W : Nat) (f t : Int) (w : World) (hl : hb < w.heap.size) (c0 : w.cell? ⟨hb, 0, none⟩ = some (.int .i64 (W : Nat))) (hn : ¬ Lnk W f t) : Calls Try.prog 52 #[.pointer (some ⟨hb, 0, none⟩), .int .i64 f, .int .i64 t] w fun e w' => e = .returned (.pointer none) ∧ w' = w := by
  have hf := isWorker_any hb W f w hl c0
  have ht := isWorker_any hb W t w hl c0
  by_cases e : f = t
  · clear hf ht
    have eb : (f == t) = true := by simp [e]
    clear e
    go_enter Try.func52, Try.ntmps52
    go_wp2
    go_ret
    exact ⟨rfl, rfl⟩
  · have eb : (f == t) = false := by simp [e]
    by_cases h1 : 0 ≤ f ∧ f < (W : Int)
    · have h2 : ¬ (0 ≤ t ∧ t < (W : Int)) := fun h => hn ⟨h1, h, e⟩
      rw [decide_eq_true h1] at hf
      rw [decide_eq_false h2] at ht
      clear h1 h2 hn e
      go_enter Try.func52, Try.ntmps52
      go_wp2_with fail
      refine hf.mono ?_
      rintro e w1 ⟨rfl, rfl⟩
      go_wp2_with fail
      refine ht.mono ?_
      rintro e w1 ⟨rfl, rfl⟩
      go_wp2
      go_ret
      exact ⟨rfl, rfl⟩
    · rw [decide_eq_false h1] at hf
      clear h1 hn e ht
      go_enter Try.func52, Try.ntmps52
      go_wp2_with fail
      refine hf.mono ?_
      rintro e w1 ⟨rfl, rfl⟩
      go_wp2
      go_ret
      exact ⟨rfl, rfl⟩
set_option maxHeartbeats 2000000 in
theorem between_yes (hb W : Nat) (f t : Int) (w : World) (hl : hb < w.heap.size) (c0 : w.cell? ⟨hb, 0, none⟩ = some (.int .i64 (W : Nat))) (hn : Lnk W f t) (h8 : W ≤ 8) : Calls Try.prog 52 #[.pointer (some ⟨hb, 0, none⟩), .int .i64 f, .int .i64 t] w fun e w' => e = .returned (.pointer (some ⟨hb, 1 + 2 * nm f t, none⟩)) ∧ w' = w := by
  have hf := isWorker_any hb W f w hl c0
  have ht := isWorker_any hb W t w hl c0
  obtain ⟨h1, h2, e⟩ := hn
  have eb : (f == t) = false := by simp [e]
  rw [decide_eq_true h1] at hf
  rw [decide_eq_true h2] at ht
  obtain ⟨F, rfl⟩ : ∃ F : Nat, f = F := ⟨f.toNat, by omega⟩
  obtain ⟨T, rfl⟩ : ∃ T : Nat, t = T := ⟨t.toNat, by omega⟩
  have a1 : (0 : Int) ≤ F := h1.1
  have a2 : (F : Int) < 8 := by omega
  have a3 : (0 : Int) ≤ T := h2.1
  have a4 : (T : Int) < 8 := by omega
  have HE : Hid (1 + F * 16 + T * 2 = 1 + 2 * nm F T) := by show _ = _; unfold nm; simp; omega
  clear h1 h2 e
  go_enter Try.func52, Try.ntmps52
  go_wp2_with fail
  refine hf.mono ?_
  rintro e w1 ⟨rfl, rfl⟩
  go_wp2_with fail
  refine ht.mono ?_
  rintro e w1 ⟨rfl, rfl⟩
  go_wp2
  go_ret
  refine ⟨?_, rfl⟩
  rw [← HE.out]
  rfl
end Go.Proofs.Ytcdmgclkgojgaaa.Pi
