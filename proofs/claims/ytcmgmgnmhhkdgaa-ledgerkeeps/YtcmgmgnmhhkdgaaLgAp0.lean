import Derived.Test.YtcmgmgnmhhkdgaaLFamJ
import Derived.Test.YtcmgmgnmhhkdgaaLgKn
import Derived.Test.YtcmgmgnmhhkdgaaLHold
namespace Go.Proofs.Ytcmgmgnmhhkdgaa
open Go.RowKit Go.Sort Go.Maps Go.Shelf
attribute [local go_sem ↓] Go.wp_at_zero Go.wp_at_succ

/-- Stamps and changes as they lie, whatever their numbers. -/
abbrev Rs := Int × Int × Int × Int
abbrev Rc := Rs × Int
def KS : El Rs where
  k := 4
  enc p := [.int .i64 p.1, .int .u64 p.2.1, .int .u64 p.2.2.1, .int .u64 p.2.2.2]
  len _ := rfl
  one x u hu := by
    simp at hu
    rcases hu with rfl | rfl | rfl | rfl <;> rfl
def KC : El Rc where
  k := 5
  enc c := [.int .i64 c.1.1, .int .u64 c.1.2.1, .int .u64 c.1.2.2.1, .int .u64 c.1.2.2.2, .int .i64 c.2]
  len _ := rfl
  one x u hu := by
    simp at hu
    rcases hu with rfl | rfl | rfl | rfl | rfl <;> rfl
theorem fl_KS (l : List Sm) : fl ES l = fl KS (l.map (·.1)) := by
  induction l with
  | nil => rfl
  | cons s l ih => rw [List.map_cons, fl_cons, fl_cons, ih]; rfl
def rw1 (c : Cg) : Rc := (c.1.1, c.2)
theorem fl_KC (l : List Cg) : fl EC l = fl KC (l.map rw1) := by
  induction l with
  | nil => rfl
  | cons s l ih => rw [List.map_cons, fl_cons, fl_cons, ih]; rfl
/-- The marks. -/
def mz (i j : Nat) : Int := -1099511627776 - (10000 * (i : Int) + (j : Int))
def mkC (i j : Nat) : Rc := ((0, 0, 0, 0), mz i j)
def mkS (i j : Nat) : Rs := (mz i j, 0, 0, 0)
theorem mark_ok {i j : Nat} (hi : i < 1000) (hj : j < 1000000) : IntKind.i64.wrap (10000 * (i : Int)) = 10000 * (i : Int) ∧ IntKind.i64.wrap (10000 * (i : Int) + (j : Int)) = 10000 * (i : Int) + (j : Int) ∧ IntKind.i64.wrap (-1099511627776 - (10000 * (i : Int) + (j : Int))) = -1099511627776 - (10000 * (i : Int) + (j : Int)) := by
  rw [IntKind.wrap_i64, IntKind.wrap_i64, IntKind.wrap_i64]
  omega
theorem mark_any (i j : Nat) (hi : i < 1000) (hj : j < 1000000) (w : World) : Calls Try.prog 27 #[.int .i64 (i : Int), .int .i64 (j : Int)] w fun e w' => e = .returned (.int .i64 (mz i j)) ∧ w' = w := by
  obtain ⟨h1, h2, h3⟩ := mark_ok hi hj
  unfold mz
  go_enter Try.func27, Try.ntmps27
  go_wp2
  go_ret
  exact ⟨rfl, rfl⟩
/-- One of a row of one's own is stored. -/
theorem fl_set4 (L : List Rs) (i : Nat) (h : Rs) (hi : i < L.length) : (((((fl KS L).set (i * 4) (.int .i64 h.1)).set (i * 4 + 1) (.int .u64 h.2.1)).set (i * 4 + 2) (.int .u64 h.2.2.1)).set (i * 4 + 3) (.int .u64 h.2.2.2)) = fl KS (L.set i h) := by
  induction L generalizing i with
  | nil => simp at hi
  | cons y L ih =>
    rw [fl_cons]
    cases i with
    | zero => simp [KS, fl]
    | succ i =>
      have e0 : (i + 1) * 4 = 4 + i * 4 := by omega
      have e : ∀ j, (i + 1) * 4 + j = 4 + (i * 4 + j) := fun j => by omega
      have hs : ∀ (l : List Value) (q : Nat) (u : Value), (KS.enc y ++ l).set (4 + q) u = KS.enc y ++ l.set q u := fun l q u => by
        rw [List.set_append_right _ _ (by rw [KS.len]; show 4 ≤ 4 + q; omega), KS.len]
        congr 2
        show 4 + q - 4 = q
        omega
      rw [e, e, e, e0, hs, hs, hs, hs, ih i (by simpa using hi), List.set_cons_succ, fl_cons]
theorem fl_set5 (L : List Rc) (i : Nat) (h : Rc) (hi : i < L.length) : ((((((fl KC L).set (i * 5) (.int .i64 h.1.1)).set (i * 5 + 1) (.int .u64 h.1.2.1)).set (i * 5 + 2) (.int .u64 h.1.2.2.1)).set (i * 5 + 3) (.int .u64 h.1.2.2.2)).set (i * 5 + 4) (.int .i64 h.2)) = fl KC (L.set i h) := by
  induction L generalizing i with
  | nil => simp at hi
  | cons y L ih =>
    rw [fl_cons]
    cases i with
    | zero => simp [KC, fl]
    | succ i =>
      have e0 : (i + 1) * 5 = 5 + i * 5 := by omega
      have e : ∀ j, (i + 1) * 5 + j = 5 + (i * 5 + j) := fun j => by omega
      have hs : ∀ (l : List Value) (q : Nat) (u : Value), (KC.enc y ++ l).set (5 + q) u = KC.enc y ++ l.set q u := fun l q u => by
        rw [List.set_append_right _ _ (by rw [KC.len]; show 5 ≤ 5 + q; omega), KC.len]
        congr 2
        show 5 + q - 5 = q
        omega
      rw [e, e, e, e, e0, hs, hs, hs, hs, hs, ih i (by simpa using hi), List.set_cons_succ, fl_cons]
abbrev stS4 (W : World) (g i : Nat) (h : Rs) : World := (((W.setCell ⟨g, i * 4, none⟩ (.int .i64 h.1)).setCell ⟨g, i * 4 + 1, none⟩ (.int .u64 h.2.1)).setCell ⟨g, i * 4 + 2, none⟩ (.int .u64 h.2.2.1)).setCell ⟨g, i * 4 + 3, none⟩ (.int .u64 h.2.2.2)
abbrev stC5 (W : World) (g i : Nat) (h : Rc) : World := ((((W.setCell ⟨g, i * 5, none⟩ (.int .i64 h.1.1)).setCell ⟨g, i * 5 + 1, none⟩ (.int .u64 h.1.2.1)).setCell ⟨g, i * 5 + 2, none⟩ (.int .u64 h.1.2.2.1)).setCell ⟨g, i * 5 + 3, none⟩ (.int .u64 h.1.2.2.2)).setCell ⟨g, i * 5 + 4, none⟩ (.int .i64 h.2)
theorem fam_markS {W : World} {n k g len cap i : Nat} {V : Nat → Value} {C : Nat → List Rs} (h : Fam KS 35 W n V (stage mkS C k i)) (hk : k < n) (hV : V k = .slice (some ⟨g, 0, none⟩) len cap) (hl : (C k).length = len) (hi : i < (C k).length) :
    Fam KS 35 (stS4 W g i (mkS k i)) n V (stage mkS C k (i + 1)) ∧ Kp (fun q => (V k).ownBlock = some q) W (stS4 W g i (mkS k i)) := by
  have hlen := stage_len mkS C k i k (by omega)
  have ho := h.own k hk
  rw [hV, hlen, hl] at ho
  obtain ⟨p0, k0⟩ := owns_cell0 (q := i * 4) (.int .i64 (mkS k i).1) ho
  obtain ⟨p1, k1⟩ := owns_cell0 (q := i * 4 + 1) (.int .u64 (mkS k i).2.1) p0
  obtain ⟨p2, k2⟩ := owns_cell0 (q := i * 4 + 2) (.int .u64 (mkS k i).2.2.1) p1
  obtain ⟨p3, k3⟩ := owns_cell0 (q := i * 4 + 3) (.int .u64 (mkS k i).2.2.2) p2
  rw [fl_set4 _ _ _ (by rw [hlen]; exact hi)] at p3
  exact h.set hk hV (mkS k i) (stage_step mkS C k i hi) (by rw [hlen, hl]; exact p3) (((k0.trans k1 (fun _ _ h => h)).trans k2 (fun _ _ h => h)).trans k3 (fun _ _ h => h))
theorem fam_markC {W : World} {n k g len cap i : Nat} {V : Nat → Value} {C : Nat → List Rc} (h : Fam KC 47 W n V (stage mkC C k i)) (hk : k < n) (hV : V k = .slice (some ⟨g, 0, none⟩) len cap) (hl : (C k).length = len) (hi : i < (C k).length) :
    Fam KC 47 (stC5 W g i (mkC k i)) n V (stage mkC C k (i + 1)) ∧ Kp (fun q => (V k).ownBlock = some q) W (stC5 W g i (mkC k i)) := by
  have hlen := stage_len mkC C k i k (by omega)
  have ho := h.own k hk
  rw [hV, hlen, hl] at ho
  obtain ⟨p0, k0⟩ := owns_cell0 (q := i * 5) (.int .i64 (mkC k i).1.1) ho
  obtain ⟨p1, k1⟩ := owns_cell0 (q := i * 5 + 1) (.int .u64 (mkC k i).1.2.1) p0
  obtain ⟨p2, k2⟩ := owns_cell0 (q := i * 5 + 2) (.int .u64 (mkC k i).1.2.2.1) p1
  obtain ⟨p3, k3⟩ := owns_cell0 (q := i * 5 + 3) (.int .u64 (mkC k i).1.2.2.2) p2
  obtain ⟨p4, k4⟩ := owns_cell0 (q := i * 5 + 4) (.int .i64 (mkC k i).2) p3
  rw [fl_set5 _ _ _ (by rw [hlen]; exact hi)] at p4
  exact h.set hk hV (mkC k i) (stage_step mkC C k i hi) (by rw [hlen, hl]; exact p4) ((((k0.trans k1 (fun _ _ h => h)).trans k2 (fun _ _ h => h)).trans k3 (fun _ _ h => h)).trans k4 (fun _ _ h => h))
theorem infoLC : (Try.prog.info? 27).map (fun i => (i.zero, i.size, i.bytes)) = some (some (.slice none 0 0), 1, 24) := by kernel_rfl
theorem infoLS : (Try.prog.info? 29).map (fun i => (i.zero, i.size, i.bytes)) = some (some (.slice none 0 0), 1, 24) := by kernel_rfl
/-- What is marked and grown. -/
def Sq (V : Nat → Value) (q : Nat) : Prop := ∃ i, i < 5 ∧ (V i).ownBlock = some q
theorem old_ls {α : Type} {E : El α} {W0 W : World} {e : TypeId} {v : Value} {n : Nat} {l : List α} (ho : W0.ownsRow 0 e E.k v n (fl E l)) (hn : l.length = n) (hs : W0.heap.size ≤ W.heap.size) (hold : ∀ q, v.ownBlock = some q → ∀ j u, (fl E l)[j]? = some u → W.cell? ⟨q, j, none⟩ = some u) : Ls E W v l := by
  subst hn
  obtain ⟨_, ⟨h0, h1⟩ | ⟨g, cap, cur, hv, _, hgg, _⟩⟩ := id ho
  · exact Or.inl ⟨List.eq_nil_of_length_eq_zero h1, h0⟩
  · refine Or.inr ⟨g, 0, cap, hv, Nat.lt_of_lt_of_le (Array.getElem?_eq_some_iff.1 hgg).1 hs, fun j u hj => ?_⟩
    rw [Nat.zero_add]
    exact hold g (by rw [hv]; rfl) j u hj
theorem mks_fl {α : Type} (E : El α) (mk : Nat → Nat → α) (k n : Nat) : fl E (mks mk k n) ++ E.enc (mk k n) = fl E (mks mk k (n + 1)) := by rw [mks_succ, fl_append, fl_one]
theorem meas_up (n i : Nat) (h : i < n) : n - (RowKit.intOf (.int .i64 ((i : Int) + 1))).toNat < n - (RowKit.intOf (.int .i64 (i : Int))).toNat := by simp [RowKit.intOf]; omega
/-- An owned row's cells. -/
theorem row_cell {w : World} {e : TypeId} {s g n cap : Nat} {xs : List Value} (h : w.ownsRow 0 e s (.slice (some ⟨g, 0, none⟩) n cap) n xs) {q : Nat} {u : Value} (hq : xs[q]? = some u) : w.cell? ⟨g, q, none⟩ = some u := by
  have := h.cells (g := g) rfl q u hq
  rw [addA, Nat.zero_add] at this
  exact this
end Go.Proofs.Ytcmgmgnmhhkdgaa
