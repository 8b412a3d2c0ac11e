import Derived.Test.YtijbmchgajhkeaaLFamJ
import Derived.Test.YtijbmchgajhkeaaSuFill
namespace Go.Proofs.Ytijbmchgajhkeaa
open Go.RowKit Go.Sort Go.Maps Go.Shelf
attribute [local go_sem ↓] Go.wp_at_zero Go.wp_at_succ
/-- Times and records as they lie, whatever their numbers. -/
def KT : El (Int × Int × Int) where
  k := 3
  enc p := [.int .u64 p.1, .int .u64 p.2.1, .int .u64 p.2.2]
  len _ := rfl
  one x u hu := by
    simp at hu
    rcases hu with rfl | rfl | rfl <;> rfl
def KR : El (Int × Int) where
  k := 2
  enc p := [.int .u64 p.1, .int .u64 p.2]
  len _ := rfl
  one x u hu := by
    simp at hu
    rcases hu with rfl | rfl <;> rfl
theorem fl_KT (l : List Tm) : fl ET l = fl KT (l.map (·.1)) := by
  induction l with
  | nil => rfl
  | cons s l ih => rw [List.map_cons, fl_cons, fl_cons, ih]; rfl
def rw2 (c : Rc) : Int × Int := (c.1.1, c.2.1)
theorem fl_KR (l : List Rc) : fl ER l = fl KR (l.map rw2) := by
  induction l with
  | nil => rfl
  | cons s l ih => rw [List.map_cons, fl_cons, fl_cons, ih]; rfl
/-- The marks. -/
def mkT (i j : Nat) : Int × Int × Int := (1152921504606846976, (i : Int), (j : Int))
def mkR (i j : Nat) : Int × Int := (1152921504606846976 + (i : Int), (j : Int))
theorem wrapN {i : Nat} (h : i ≤ 1000000) : IntKind.u64.wrap (i : Int) = (i : Int) ∧ IntKind.u64.wrap (1152921504606846976 + (i : Int)) = 1152921504606846976 + (i : Int) := by
  rw [IntKind.wrap_u64, IntKind.wrap_u64]
  omega
theorem fl_set3 (L : List (Int × Int × Int)) (i : Nat) (h : Int × Int × Int) (hi : i < L.length) : ((((fl KT L).set (i * 3) (.int .u64 h.1)).set (i * 3 + 1) (.int .u64 h.2.1)).set (i * 3 + 2) (.int .u64 h.2.2)) = fl KT (L.set i h) := by
  induction L generalizing i with
  | nil => simp at hi
  | cons y L ih =>
    rw [fl_cons]
    cases i with
    | zero => simp [KT, fl]
    | succ i =>
      have e0 : (i + 1) * 3 = 3 + i * 3 := by omega
      have e : ∀ j, (i + 1) * 3 + j = 3 + (i * 3 + j) := fun j => by omega
      have hs : ∀ (l : List Value) (q : Nat) (u : Value), (KT.enc y ++ l).set (3 + q) u = KT.enc y ++ l.set q u := fun l q u => by
        rw [List.set_append_right _ _ (by rw [KT.len]; show 3 ≤ 3 + q; omega), KT.len]
        congr 2
        show 3 + q - 3 = q
        omega
      rw [e, e, e0, hs, hs, hs, ih i (by simpa using hi), List.set_cons_succ, fl_cons]
theorem fl_set2 (L : List (Int × Int)) (i : Nat) (h : Int × Int) (hi : i < L.length) : (((fl KR L).set (i * 2) (.int .u64 h.1)).set (i * 2 + 1) (.int .u64 h.2)) = fl KR (L.set i h) := by
  induction L generalizing i with
  | nil => simp at hi
  | cons y L ih =>
    rw [fl_cons]
    cases i with
    | zero => simp [KR, fl]
    | succ i =>
      have e0 : (i + 1) * 2 = 2 + i * 2 := by omega
      have e : ∀ j, (i + 1) * 2 + j = 2 + (i * 2 + j) := fun j => by omega
      have hs : ∀ (l : List Value) (q : Nat) (u : Value), (KR.enc y ++ l).set (2 + q) u = KR.enc y ++ l.set q u := fun l q u => by
        rw [List.set_append_right _ _ (by rw [KR.len]; show 2 ≤ 2 + q; omega), KR.len]
        congr 2
        show 2 + q - 2 = q
        omega
      rw [e, e0, hs, hs, ih i (by simpa using hi), List.set_cons_succ, fl_cons]
abbrev st3 (W : World) (g i : Nat) (h : Int × Int × Int) : World := ((W.setCell ⟨g, i * 3, none⟩ (.int .u64 h.1)).setCell ⟨g, i * 3 + 1, none⟩ (.int .u64 h.2.1)).setCell ⟨g, i * 3 + 2, none⟩ (.int .u64 h.2.2)
abbrev st2 (W : World) (g i : Nat) (h : Int × Int) : World := (W.setCell ⟨g, i * 2, none⟩ (.int .u64 h.1)).setCell ⟨g, i * 2 + 1, none⟩ (.int .u64 h.2)
theorem fam_markT {W : World} {n k g len cap i : Nat} {V : Nat → Value} {C : Nat → List (Int × Int × Int)} (h : Fam KT 32 W n V (stage mkT C k i)) (hk : k < n) (hV : V k = .slice (some ⟨g, 0, none⟩) len cap) (hl : (C k).length = len) (hi : i < (C k).length) :
    Fam KT 32 (st3 W g i (mkT k i)) n V (stage mkT C k (i + 1)) ∧ Kp (fun q => (V k).ownBlock = some q) W (st3 W g i (mkT k i)) := by
  have hlen := stage_len mkT C k i k (by omega)
  have ho := h.own k hk
  rw [hV, hlen, hl] at ho
  obtain ⟨p0, k0⟩ := owns_cell0 (q := i * 3) (.int .u64 (mkT k i).1) ho
  obtain ⟨p1, k1⟩ := owns_cell0 (q := i * 3 + 1) (.int .u64 (mkT k i).2.1) p0
  obtain ⟨p2, k2⟩ := owns_cell0 (q := i * 3 + 2) (.int .u64 (mkT k i).2.2) p1
  rw [fl_set3 _ _ _ (by rw [hlen]; exact hi)] at p2
  exact h.set hk hV (mkT k i) (stage_step mkT C k i hi) (by rw [hlen, hl]; exact p2) ((k0.trans k1 (fun _ _ h => h)).trans k2 (fun _ _ h => h))
theorem fam_markR {W : World} {n k g len cap i : Nat} {V : Nat → Value} {C : Nat → List (Int × Int)} (h : Fam KR 37 W n V (stage mkR C k i)) (hk : k < n) (hV : V k = .slice (some ⟨g, 0, none⟩) len cap) (hl : (C k).length = len) (hi : i < (C k).length) :
    Fam KR 37 (st2 W g i (mkR k i)) n V (stage mkR C k (i + 1)) ∧ Kp (fun q => (V k).ownBlock = some q) W (st2 W g i (mkR k i)) := by
  have hlen := stage_len mkR C k i k (by omega)
  have ho := h.own k hk
  rw [hV, hlen, hl] at ho
  obtain ⟨p0, k0⟩ := owns_cell0 (q := i * 2) (.int .u64 (mkR k i).1) ho
  obtain ⟨p1, k1⟩ := owns_cell0 (q := i * 2 + 1) (.int .u64 (mkR k i).2) p0
  rw [fl_set2 _ _ _ (by rw [hlen]; exact hi)] at p1
  exact h.set hk hV (mkR k i) (stage_step mkR C k i hi) (by rw [hlen, hl]; exact p1) (k0.trans k1 (fun _ _ h => h))
theorem infoLT : (Try.prog.info? 23).map (fun i => (i.zero, i.size, i.bytes)) = some (some (.slice none 0 0), 1, 24) := by kernel_rfl
theorem infoLR : (Try.prog.info? 33).map (fun i => (i.zero, i.size, i.bytes)) = some (some (.slice none 0 0), 1, 24) := by kernel_rfl
/-- What is marked and grown. -/
def SqN (n : Nat) (V : Nat → Value) (q : Nat) : Prop := ∃ i, i < n ∧ (V i).ownBlock = some q
theorem old_ls {α : Type} {E : El α} {W0 W : World} {e : TypeId} {v : Value} {n : Nat} {l : List α} (ho : W0.ownsRow 0 e E.k v n (fl E l)) (hn : l.length = n) (hs : W0.heap.size ≤ W.heap.size) (hold : ∀ q, v.ownBlock = some q → ∀ j u, (fl E l)[j]? = some u → W.cell? ⟨q, j, none⟩ = some u) : Ls E W v l := by
  subst hn
  obtain ⟨_, ⟨h0, h1⟩ | ⟨g, cap, cur, hv, _, hgg, _⟩⟩ := id ho
  · exact Or.inl ⟨List.eq_nil_of_length_eq_zero h1, h0⟩
  · refine Or.inr ⟨g, 0, cap, hv, Nat.lt_of_lt_of_le (Array.getElem?_eq_some_iff.1 hgg).1 hs, fun j u hj => ?_⟩
    rw [Nat.zero_add]
    exact hold g (by rw [hv]; rfl) j u hj
theorem mks_fl {α : Type} (E : El α) (mk : Nat → Nat → α) (k n : Nat) : fl E (mks mk k n) ++ E.enc (mk k n) = fl E (mks mk k (n + 1)) := by rw [mks_succ, fl_append, fl_one]
theorem meas_up (n i : Nat) (h : i < n) : n - (RowKit.intOf (.int .i64 ((i : Int) + 1))).toNat < n - (RowKit.intOf (.int .i64 (i : Int))).toNat := by simp [RowKit.intOf]; omega
/-- An owned row's cells. -/
theorem row_cell {w : World} {e : TypeId} {s g n cap : Nat} {xs : List Value} (h : w.ownsRow 0 e s (.slice (some ⟨g, 0, none⟩) n cap) n xs) {q : Nat} {u : Value} (hq : xs[q]? = some u) : w.cell? ⟨g, q, none⟩ = some u := by
  have := h.cells (g := g) rfl q u hq
  rw [addA, Nat.zero_add] at this
  exact this
theorem byt5 {n : Nat} (h : n ≤ 2000) : (n + 1) * 24 ≤ 140737488355328 ∧ (n + 1) * 16 ≤ 140737488355328 ∧ n + 1 ≤ maxLen ∧ n ≤ 1000000 ∧ n + 1 ≤ 1000000 := by unfold maxLen; omega
theorem byt6 {k n : Nat} (h : k < n) (hn : n ≤ 2000) : k + 1 ≤ maxLen ∧ (k + 1) * 24 ≤ 140737488355328 ∧ k ≤ 1000000 := by unfold maxLen; omega
theorem atKT {w : World} {v : Value} {l : List (Int × Int × Int)} (h : Ls KT w v l) {j : Nat} {p : Int × Int × Int} (hj : l[j]? = some p) : ∃ b off c, v = .slice (some ⟨b, off, none⟩) l.length c ∧ b < w.heap.size ∧ w.cell? ⟨b, off + j * 3, none⟩ = some (.int .u64 p.1) ∧ w.cell? ⟨b, off + j * 3 + 1, none⟩ = some (.int .u64 p.2.1) ∧ w.cell? ⟨b, off + j * 3 + 2, none⟩ = some (.int .u64 p.2.2) := by
  obtain ⟨b, off, c, hv, hb, hc⟩ := h.get hj
  exact ⟨b, off, c, hv, hb, hc 0 _ (by decide) rfl, hc 1 _ (by decide) rfl, hc 2 _ (by decide) rfl⟩
theorem atKR {w : World} {v : Value} {l : List (Int × Int)} (h : Ls KR w v l) {j : Nat} {p : Int × Int} (hj : l[j]? = some p) : ∃ b off c, v = .slice (some ⟨b, off, none⟩) l.length c ∧ b < w.heap.size ∧ w.cell? ⟨b, off + j * 2, none⟩ = some (.int .u64 p.1) ∧ w.cell? ⟨b, off + j * 2 + 1, none⟩ = some (.int .u64 p.2) := by
  obtain ⟨b, off, c, hv, hb, hc⟩ := h.get hj
  exact ⟨b, off, c, hv, hb, hc 0 _ (by decide) rfl, hc 1 _ (by decide) rfl⟩
theorem row_at {w : World} {base n : Nat} {e : TypeId} {p : Option Addr} {c : Nat} {X : Nat → Value} (h : w.ownsRow base e 1 (.slice p n c) n ((List.range n).map X)) (hn : 0 < n) : ∃ g, p = some ⟨g, 0, none⟩ ∧ g < w.heap.size ∧ ∀ i, i < n → w.cell? ⟨g, i, none⟩ = some (X i) := by
  obtain ⟨_, ⟨_, h1⟩ | ⟨ga, cap, cur, h0, hbg, hgg, _⟩⟩ := id h
  · omega
  · simp only [Value.slice.injEq] at h0
    refine ⟨ga, h0.1, (Array.getElem?_eq_some_iff.1 hgg).1, fun i hi => ?_⟩
    have := h.cells (g := ga) (by rw [h0.1]; rfl) i (X i) (by simp [hi])
    rw [addA, Nat.zero_add] at this
    exact this
end Go.Proofs.Ytijbmchgajhkeaa
