import Derived.Test.YtaaobchodbnkpaaRows
import Derived.Test.YtaaobchodbnkpaaLRow
import Derived.Test.YtaaobchodbnkpaaLClear
import Derived.Test.YtaaobchodbnkpaaLCopy
import Derived.Test.YtaaobchodbnkpaaLHold
import Derived.Test.YtaaobchodbnkpaaQuRn
import Derived.WalkKit
import Derived.WalkSpells
import Derived.Deep.RegionHeld3
import Derived.Deep.DrawnRows
import Derived.Deep.DeepCutAuto
import Derived.Deep.LoopGhost
import Derived.Deep.QuietTactic
import Derived.Deep.RegionLaw
import Derived.Deep.RegionWith
import Derived.BigQuiet
namespace Go.Proofs.Ytaaobchodbnkpaa.Qe
open Go.RowKit Go.Sort
attribute [local go_sem ↓] Go.wp_at_zero Go.wp_at_succ

/-- A message. -/
structure Ms where
  at_ : Int
  a : Int
  b : Int
  c : Int
  k : Int
  v : Int
  deriving DecidableEq, Inhabited
abbrev mv (m : Ms) : Value := .agg #[.int .i64 m.at_, .int .u64 m.a, .int .u64 m.b, .int .u64 m.c, .int .u64 m.k, .int .u64 m.v]
abbrev mz : Ms := ⟨0, 0, 0, 0, 0, 0⟩
def EM : El Ms where
  k := 6
  enc m := [.int .i64 m.at_, .int .u64 m.a, .int .u64 m.b, .int .u64 m.c, .int .u64 m.k, .int .u64 m.v]
  len _ := rfl
  one x u hu := by
    simp at hu
    rcases hu with rfl | rfl | rfl | rfl | rfl | rfl <;> rfl
theorem infoM : (Try.prog.info? 36).map (fun i => (i.zero, i.size, i.bytes)) = some (some (mv mz), 6, 48) := by kernel_rfl
theorem sizeM : (Try.prog.info? 36).map (·.size) = some EM.k := by kernel_rfl
theorem zeroM (u : World) : (zeroValue 36).run Try.prog u = .ok (mv mz) u := by kernel_rfl
theorem zcM : (Builtin.zeroCells (mv mz).cells 1).toList = EM.enc mz := by kernel_rfl
/-- The cells of a message. -/
def Mc (w : World) (b o : Nat) (x : Ms) : Prop := w.cell? ⟨b, o, none⟩ = some (.int .i64 x.at_) ∧ w.cell? ⟨b, o + 1, none⟩ = some (.int .u64 x.a) ∧ w.cell? ⟨b, o + 2, none⟩ = some (.int .u64 x.b) ∧ w.cell? ⟨b, o + 3, none⟩ = some (.int .u64 x.c) ∧ w.cell? ⟨b, o + 4, none⟩ = some (.int .u64 x.k) ∧ w.cell? ⟨b, o + 5, none⟩ = some (.int .u64 x.v)
theorem ls_at {w : World} {v : Value} {ts : List Ms} (h : Ls EM w v ts) {j : Nat} {x : Ms} (hj : ts[j]? = some x) :
    ∃ b off c, v = .slice (some ⟨b, off, none⟩) ts.length c ∧ b < w.heap.size ∧ Mc w b (off + j * 6) x := by
  obtain ⟨b, off, c, hv, hb, hc⟩ := h.get hj
  simp only [show EM.k = 6 from rfl] at hc
  exact ⟨b, off, c, hv, hb, hc 0 _ (by decide) rfl, hc 1 _ (by decide) rfl, hc 2 _ (by decide) rfl, hc 3 _ (by decide) rfl, hc 4 _ (by decide) rfl, hc 5 _ (by decide) rfl⟩
theorem hid {p : Prop} (h : p) : Hid p := h
theorem made6 (n : Nat) : (madeCells (mv mz).cells (n * 6)).toList = fl EM (List.replicate n mz) := by
  apply List.ext_getElem?
  intro j
  by_cases hj : j < n * 6
  · have hq : j / 6 < n := by omega
    have h1 := fl_get EM (List.replicate n mz) (j / 6) (j % 6) mz (by simp [hq]) (Nat.mod_lt _ (by decide))
    rw [show j / 6 * EM.k + j % 6 = j by show j / 6 * 6 + j % 6 = j; omega] at h1
    rw [h1]
    have h6 : j % 6 < 6 := Nat.mod_lt _ (by decide)
    generalize hr : j % 6 = r at *
    have : (madeCells (mv mz).cells (n * 6)).toList[j]? = some ((mv mz).cells[j % 6]!) := by simp [madeCells, hj, Value.cells]
    rw [this, hr]
    match r, h6 with
    | 0, _ => rfl
    | 1, _ => rfl
    | 2, _ => rfl
    | 3, _ => rfl
    | 4, _ => rfl
    | 5, _ => rfl
  · rw [List.getElem?_eq_none (by simp [madeCells]; omega), List.getElem?_eq_none (by rw [fl_length]; show _ * 6 ≤ j; simp; omega)]
/-- The value at one place is another. -/
def upd {β : Type} (f : Nat → β) (i : Nat) (x : β) : Nat → β := fun j => if j = i then x else f j
theorem upd_self {β : Type} (f : Nat → β) (i : Nat) (x : β) : upd f i x i = x := by simp [upd]
theorem upd_ne {β : Type} (f : Nat → β) {i j : Nat} (x : β) (h : j ≠ i) : upd f i x j = f j := by simp [upd, h]
theorem upd_id {β : Type} (f : Nat → β) (i : Nat) : upd f i (f i) = f := by
  funext j
  by_cases e : j = i
  · rw [e, upd_self]
  · rw [upd_ne _ _ e]
theorem upd_upd {β : Type} (f : Nat → β) (i : Nat) (x y : β) : upd (upd f i x) i y = upd f i y := by
  funext j
  by_cases e : j = i
  · rw [e, upd_self, upd_self]
  · rw [upd_ne _ _ e, upd_ne _ _ e, upd_ne _ _ e]
/-- The cells of the rings. -/
def Bk (w : World) (rb N C : Nat) (v : Nat → Value) (f m : Nat → Nat) : Prop :=
  ∃ cs, w.heap[rb]? = some (.cells cs 80 (0, 0)) ∧ cs.size = C * 3 ∧ N ≤ C ∧ ∀ i, i < N → cs[i * 3]? = some (v i) ∧ cs[i * 3 + 1]? = some (.int .i64 (f i : Nat)) ∧ cs[i * 3 + 2]? = some (.int .i64 (m i : Nat))
section
variable {w w' : World} {rb N C : Nat} {v : Nat → Value} {f m : Nat → Nat}
theorem Bk.lt (h : Bk w rb N C v f m) : rb < w.heap.size := by
  obtain ⟨cs, h, _⟩ := h
  exact (Array.getElem?_eq_some_iff.1 h).1
theorem Bk.cv (h : Bk w rb N C v f m) {i : Nat} (hi : i < N) : w.cell? ⟨rb, i * 3, none⟩ = some (v i) := by
  obtain ⟨cs, h, _, _, h0⟩ := h
  simp only [World.cell?, h]
  simpa using (h0 i hi).1
theorem Bk.cf (h : Bk w rb N C v f m) {i : Nat} (hi : i < N) : w.cell? ⟨rb, i * 3 + 1, none⟩ = some (.int .i64 (f i : Nat)) := by
  obtain ⟨cs, h, _, _, h0⟩ := h
  simp only [World.cell?, h]
  simpa using (h0 i hi).2.1
theorem Bk.cm (h : Bk w rb N C v f m) {i : Nat} (hi : i < N) : w.cell? ⟨rb, i * 3 + 2, none⟩ = some (.int .i64 (m i : Nat)) := by
  obtain ⟨cs, h, _, _, h0⟩ := h
  simp only [World.cell?, h]
  simpa using (h0 i hi).2.2
theorem Bk.fz (h : Bk w rb N C v f m) (o : Nat) : w.frozen? ⟨rb, o, none⟩ = false := by
  obtain ⟨cs, h, _⟩ := h
  simp [World.frozen?, h]
theorem Bk.kept (h : Bk w rb N C v f m) (he : w'.heap[rb]? = w.heap[rb]?) : Bk w' rb N C v f m := by
  obtain ⟨cs, h, r⟩ := h
  exact ⟨cs, he.trans h, r⟩
theorem setCell_blk {w : World} {tb k : Nat} {cs : Array Value} {t : TypeId} {v : Value} (h : w.heap[tb]? = some (.cells cs t (0, 0))) :
    (w.setCell ⟨tb, k, none⟩ v).heap[tb]? = some (.cells (cs.setIfInBounds k v) t (0, 0)) ∧ Kp (fun k => k = tb) w (w.setCell ⟨tb, k, none⟩ v) ∧ (w.setCell ⟨tb, k, none⟩ v).heap.size = w.heap.size := by
  have e := setCell_eq_setRow w tb k _ _ _ v h
  have hz : (w.setCell ⟨tb, k, none⟩ v).heap.size = w.heap.size := by rw [e]; simp [World.setRow]
  refine ⟨?_, ?_, hz⟩
  · rw [e, setRow_heap _ tb _ _ _ _ h]
  · rw [e]
    exact ⟨rfl, rfl, rfl, by simp [World.setRow], fun k _ hne => setRow_other _ tb k _ (by omega)⟩
theorem Bk.setV (h : Bk w rb N C v f m) {i : Nat} (hi : i < N) (x : Value) : Bk (w.setCell ⟨rb, i * 3, none⟩ x) rb N C (upd v i x) f m ∧ Kp (fun k => k = rb) w (w.setCell ⟨rb, i * 3, none⟩ x) := by
  obtain ⟨cs, h, hs, hN, h1⟩ := h
  obtain ⟨e1, e2, _⟩ := setCell_blk (k := i * 3) (v := x) h
  refine ⟨⟨_, e1, by simpa using hs, hN, fun j hj => ⟨?_, ?_, ?_⟩⟩, e2⟩
  · by_cases e : j = i
    · subst e
      rw [upd_self, Array.getElem?_setIfInBounds_self_of_lt (by omega)]
    · rw [upd_ne _ _ e, Array.getElem?_setIfInBounds_ne (by omega)]; exact (h1 j hj).1
  · rw [Array.getElem?_setIfInBounds_ne (by omega)]; exact (h1 j hj).2.1
  · rw [Array.getElem?_setIfInBounds_ne (by omega)]; exact (h1 j hj).2.2
theorem Bk.setF (h : Bk w rb N C v f m) {i : Nat} (hi : i < N) (x : Nat) : Bk (w.setCell ⟨rb, i * 3 + 1, none⟩ (.int .i64 (x : Nat))) rb N C v (upd f i x) m ∧ Kp (fun k => k = rb) w (w.setCell ⟨rb, i * 3 + 1, none⟩ (.int .i64 (x : Nat))) := by
  obtain ⟨cs, h, hs, hN, h1⟩ := h
  obtain ⟨e1, e2, _⟩ := setCell_blk (k := i * 3 + 1) (v := .int .i64 (x : Nat)) h
  refine ⟨⟨_, e1, by simpa using hs, hN, fun j hj => ⟨?_, ?_, ?_⟩⟩, e2⟩
  · rw [Array.getElem?_setIfInBounds_ne (by omega)]; exact (h1 j hj).1
  · by_cases e : j = i
    · subst e
      rw [upd_self, Array.getElem?_setIfInBounds_self_of_lt (by omega)]
    · rw [upd_ne _ _ e, Array.getElem?_setIfInBounds_ne (by omega)]; exact (h1 j hj).2.1
  · rw [Array.getElem?_setIfInBounds_ne (by omega)]; exact (h1 j hj).2.2
theorem Bk.setM (h : Bk w rb N C v f m) {i : Nat} (hi : i < N) (x : Nat) : Bk (w.setCell ⟨rb, i * 3 + 2, none⟩ (.int .i64 (x : Nat))) rb N C v f (upd m i x) ∧ Kp (fun k => k = rb) w (w.setCell ⟨rb, i * 3 + 2, none⟩ (.int .i64 (x : Nat))) := by
  obtain ⟨cs, h, hs, hN, h1⟩ := h
  obtain ⟨e1, e2, _⟩ := setCell_blk (k := i * 3 + 2) (v := .int .i64 (x : Nat)) h
  refine ⟨⟨_, e1, by simpa using hs, hN, fun j hj => ⟨?_, ?_, ?_⟩⟩, e2⟩
  · rw [Array.getElem?_setIfInBounds_ne (by omega)]; exact (h1 j hj).1
  · rw [Array.getElem?_setIfInBounds_ne (by omega)]; exact (h1 j hj).2.1
  · by_cases e : j = i
    · subst e
      rw [upd_self, Array.getElem?_setIfInBounds_self_of_lt (by omega)]
    · rw [upd_ne _ _ e, Array.getElem?_setIfInBounds_ne (by omega)]; exact (h1 j hj).2.2
/-- A row of messages does not lie there. -/
theorem Bk.off (h : Bk w rb N C v f m) {base n : Nat} {u : Value} {xs : List Value} (ho : w.ownsRow base 36 6 u n xs) : u.ownBlock ≠ some rb := by
  obtain ⟨cs, h, _⟩ := h
  intro e
  rcases ho.2 with ⟨rfl, _⟩ | ⟨g, cap, cur, rfl, _, hh, _⟩
  · simp [Value.ownBlock] at e
  · simp [Value.ownBlock] at e
    subst e
    rw [h] at hh
    simp at hh
end
/-- Rings: their cells, and their rooms, each with an owner of its own; what waits in them. -/
structure Pb (w : World) (rb N C : Nat) (v : Nat → Value) (f m : Nat → Nat) (X Q : Nat → List Ms) : Prop where
  blk : Bk w rb N C v f m
  own : ∀ i, i < N → w.ownsRow 0 36 6 (v i) (X i).length (fl EM (X i))
  rn : ∀ i, i < N → Rn (X i) (f i) (m i) (Q i)
  cap : ∀ i, i < N → ∀ p n c, v i = .slice p n c → c = (X i).length
  dup : ∀ i j g, i < N → j < N → (v i).ownBlock = some g → (v j).ownBlock = some g → i = j
section
variable {w w' : World} {rb N C : Nat} {v : Nat → Value} {f m : Nat → Nat} {X Q : Nat → List Ms}
theorem Pb.lst (h : Pb w rb N C v f m X Q) {i : Nat} (hi : i < N) : Ls EM w (v i) (X i) := owns_ls (E := EM) (h.own i hi)
theorem Pb.off (h : Pb w rb N C v f m X Q) {i : Nat} (hi : i < N) : (v i).ownBlock ≠ some rb := h.blk.off (h.own i hi)
theorem Pb.row (h : Pb w rb N C v f m X Q) {i : Nat} (hi : i < N) : ∀ k, (v i).ownBlock = some k → k < w.heap.size := fun k hk => ((h.own i hi).lt k hk).2
theorem Pb.kp {S : Nat → Prop} (h : Pb w rb N C v f m X Q) (hk : Kp S w w') (h1 : ¬ S rb) (h2 : ∀ i k, i < N → (v i).ownBlock = some k → ¬ S k) : Pb w' rb N C v f m X Q :=
  ⟨h.blk.kept (hk.block rb h.blk.lt h1), fun i hi => owns_kp hk (h.own i hi) (fun k hb => h2 i k hi hb), h.rn, h.cap, h.dup⟩
theorem Pb.below (h : Pb w rb N C v f m X Q) (hb' : Below w.heap.size w w') : Pb w' rb N C v f m X Q := h.kp (S := fun _ => False) (Kp.of_below hb') (fun h => h) (fun _ _ _ _ h => h)
theorem Pb.gr (h : Pb w rb N C v f m X Q) (hg : Gr w w') : Pb w' rb N C v f m X Q := h.below hg.below
/-- One ring is another one. -/
theorem Pb.turn (h : Pb w rb N C v f m X Q) {i : Nat} (hi : i < N) {v' : Value} {f' m' : Nat} {X' Q' : List Ms} (hB : Bk w' rb N C (upd v i v') (upd f i f') (upd m i m')) (ho : w'.ownsRow 0 36 6 v' X'.length (fl EM X')) (hr : Rn X' f' m' Q') (hc : ∀ p n c, v' = .slice p n c → c = X'.length)
    (hk : Kp (fun k => k = rb ∨ (v i).ownBlock = some k) w w') (hn : ∀ g, v'.ownBlock = some g → (v i).ownBlock = some g ∨ w.heap.size ≤ g) : Pb w' rb N C (upd v i v') (upd f i f') (upd m i m') (upd X i X') (upd Q i Q') := by
  have old : ∀ j g, j < N → j ≠ i → (v j).ownBlock = some g → v'.ownBlock ≠ some g := by
    intro j g hj hne hg h2
    rcases hn g h2 with h3 | h3
    · exact hne (h.dup j i g hj hi hg h3)
    · exact absurd (h.row hj g hg) (by omega)
  refine ⟨hB, fun j hj => ?_, fun j hj => ?_, fun j hj => ?_, fun j q g hj hq h1 h2 => ?_⟩
  · by_cases e : j = i
    · subst e; rw [upd_self, upd_self]; exact ho
    · rw [upd_ne _ _ e, upd_ne _ _ e]
      refine owns_kp hk (h.own j hj) fun k hk hs => ?_
      rcases hs with hs | hs
      · exact h.off hj (by rw [hk, hs])
      · exact e (h.dup j i k hj hi hk hs)
  · by_cases e : j = i
    · subst e; rw [upd_self, upd_self, upd_self, upd_self]; exact hr
    · rw [upd_ne _ _ e, upd_ne _ _ e, upd_ne _ _ e, upd_ne _ _ e]; exact h.rn j hj
  · by_cases e : j = i
    · subst e; rw [upd_self, upd_self]; exact hc
    · rw [upd_ne _ _ e, upd_ne _ _ e]; exact h.cap j hj
  · by_cases e : j = i
    · by_cases e2 : q = i
      · rw [e, e2]
      · subst e; rw [upd_self] at h1; rw [upd_ne _ _ e2] at h2
        exact absurd h1 (old q g hq e2 h2)
    · rw [upd_ne _ _ e] at h1
      by_cases e2 : q = i
      · subst e2; rw [upd_self] at h2
        exact absurd h2 (old j g hj e h1)
      · rw [upd_ne _ _ e2] at h2
        exact h.dup j q g hj hq h1 h2
end
theorem own_eq {g k n c : Nat} (h : (Value.slice (some ⟨g, 0, none⟩) n c).ownBlock = some k) : g = k := by simpa [Value.ownBlock] using h
/-- A row's value: none, or all of a block. -/
theorem owns_form {w : World} {base e s n : Nat} {v : Value} {xs : List Value} (h : w.ownsRow base e s v n xs) : (v = .slice none 0 0 ∧ n = 0) ∨ ∃ g cap, v = .slice (some ⟨g, 0, none⟩) n cap ∧ n ≤ cap ∧ cap ≤ maxLen ∧ g < w.heap.size := by
  obtain ⟨h1, ⟨h0, h2⟩ | ⟨g', cap', cur, hv, _, hh, hn, hm, _⟩⟩ := h
  · exact Or.inl ⟨h0, h2⟩
  · exact Or.inr ⟨g', cap', hv, hn, hm, (Array.getElem?_eq_some_iff.1 hh).1⟩

set_option maxHeartbeats 2000000 in
theorem at_any {rb o f n c : Nat} {p : Option Addr} (k : Nat) (w : World) (_hl : rb < w.heap.size) (c0 : w.cell? ⟨rb, o, none⟩ = some (.slice p n c)) (c1 : w.cell? ⟨rb, o + 1, none⟩ = some (.int .i64 (f : Nat))) (hn : 0 < n) (hb : f + k ≤ 9000000000000000000) (hb2 : n ≤ 9000000000000000000) :
    Calls Try.prog 37 #[.pointer (some ⟨rb, o, none⟩), .int .i64 (k : Nat)] w fun e w' => e = .returned (.int .i64 ((f + k) % n : Nat)) ∧ ∃ q, w' = w.drewN q := by
  have hmx : Try.prog.follows .mixedOrders = true := by kernel_rfl
  have h1 : ¬ ((n : Int) = 0) := by omega
  have h1b : ((n : Int) == 0) = false := by simp; omega
  have h2 : IntKind.i64.wrap ((f : Int) + (k : Int)) = ((f + k : Nat) : Int) := by rw [IntKind.wrap_i64]; omega
  have h3 : IntKind.i64.wrap (((f + k : Nat) : Int).tmod (n : Int)) = (((f + k) % n : Nat) : Int) := by
    have h4 : ((f + k : Nat) : Int).tmod (n : Int) = (((f + k) % n : Nat) : Int) := by rw [← Int.ofNat_tmod]
    have h5 : (f + k) % n < n := Nat.mod_lt _ hn
    rw [h4, IntKind.wrap_i64]
    omega
  clear hb hb2
  go_enter Try.func37, Try.ntmps37
  go_wp2_with fail
  go_quiet (fail)
  go_wp2
  go_ret
  exact ⟨rfl, _, rfl⟩
end Go.Proofs.Ytaaobchodbnkpaa.Qe
