import Derived.Test.YtaaobchodbnkpaaQuEq
import Derived.Test.YtaaobchodbnkpaaLKeep2
namespace Go.Proofs.Ytaaobchodbnkpaa.Qs
open Go.RowKit Go.Sort
open Qe (Ms EM Cg EC infoM infoC messages_eq changes_eq ls_at lc_at)

theorem infoLt : (Try.prog.info? 22).map (fun i => (i.zero, i.size, i.bytes)) = some (some (.slice none 0 0), 1, 24) := by kernel_rfl
theorem infoLd : (Try.prog.info? 45).map (fun i => (i.zero, i.size, i.bytes)) = some (some (.slice none 0 0), 1, 24) := by kernel_rfl
/-- The marks of list i. -/
def mkT (i : Nat) : Ms := ⟨-5 - (i : Int), 0, 0, 0, 0, 0⟩
def mkD (i : Nat) : Cg := ⟨0, 0, 0, 0, -5 - (i : Int)⟩
theorem flM_set (L : List Ms) (k : Nat) (x : Ms) : (((((((fl EM L).set (k * 6) (.int .i64 x.at_)).set (k * 6 + 1) (.int .u64 x.a)).set (k * 6 + 2) (.int .u64 x.b)).set (k * 6 + 3) (.int .u64 x.c)).set (k * 6 + 4) (.int .u64 x.k)).set (k * 6 + 5) (.int .u64 x.v)) = fl EM (L.set k x) := by
  induction L generalizing k with
  | nil => simp [fl]
  | cons y L ih =>
    rw [fl_cons]
    cases k with
    | zero => simp [EM, fl]
    | succ k =>
      rw [List.set_cons_succ, fl_cons, ← ih k, show (k + 1) * 6 = k * 6 + 6 by omega]
      simp [EM]
theorem flC_set (L : List Cg) (k : Nat) (x : Cg) : ((((((fl EC L).set (k * 5) (.int .i64 x.at_)).set (k * 5 + 1) (.int .u64 x.a)).set (k * 5 + 2) (.int .u64 x.b)).set (k * 5 + 3) (.int .u64 x.c)).set (k * 5 + 4) (.int .i64 x.n)) = fl EC (L.set k x) := by
  induction L generalizing k with
  | nil => simp [fl]
  | cons y L ih =>
    rw [fl_cons]
    cases k with
    | zero => simp [EC, fl]
    | succ k =>
      rw [List.set_cons_succ, fl_cons, ← ih k, show (k + 1) * 5 = k * 5 + 5 by omega]
      simp [EC]
theorem owns_set6 {w : World} {g N cap k : Nat} {L : List Ms} (x : Ms) (h : w.ownsRow 0 36 6 (.slice (some ⟨g, 0, none⟩) N cap) N (fl EM L)) :
    ((((((w.setCell ⟨g, k * 6, none⟩ (.int .i64 x.at_)).setCell ⟨g, k * 6 + 1, none⟩ (.int .u64 x.a)).setCell ⟨g, k * 6 + 2, none⟩ (.int .u64 x.b)).setCell ⟨g, k * 6 + 3, none⟩ (.int .u64 x.c)).setCell ⟨g, k * 6 + 4, none⟩ (.int .u64 x.k)).setCell ⟨g, k * 6 + 5, none⟩ (.int .u64 x.v)).ownsRow 0 36 6 (.slice (some ⟨g, 0, none⟩) N cap) N (fl EM (L.set k x)) ∧ Kp (fun j => j = g) w ((((((w.setCell ⟨g, k * 6, none⟩ (.int .i64 x.at_)).setCell ⟨g, k * 6 + 1, none⟩ (.int .u64 x.a)).setCell ⟨g, k * 6 + 2, none⟩ (.int .u64 x.b)).setCell ⟨g, k * 6 + 3, none⟩ (.int .u64 x.c)).setCell ⟨g, k * 6 + 4, none⟩ (.int .u64 x.k)).setCell ⟨g, k * 6 + 5, none⟩ (.int .u64 x.v)) := by
  obtain ⟨h1, k1⟩ := owns_cell0 (q := k * 6) (.int .i64 x.at_) h
  obtain ⟨h2, k2⟩ := owns_cell0 (q := k * 6 + 1) (.int .u64 x.a) h1
  obtain ⟨h3, k3⟩ := owns_cell0 (q := k * 6 + 2) (.int .u64 x.b) h2
  obtain ⟨h4, k4⟩ := owns_cell0 (q := k * 6 + 3) (.int .u64 x.c) h3
  obtain ⟨h5, k5⟩ := owns_cell0 (q := k * 6 + 4) (.int .u64 x.k) h4
  obtain ⟨h6, k6⟩ := owns_cell0 (q := k * 6 + 5) (.int .u64 x.v) h5
  rw [flM_set] at h6
  exact ⟨h6, (((((k1.trans k2 (fun _ _ h => h)).trans k3 (fun _ _ h => h)).trans k4 (fun _ _ h => h)).trans k5 (fun _ _ h => h)).trans k6 (fun _ _ h => h))⟩
theorem owns_set5 {w : World} {g N cap k : Nat} {L : List Cg} (x : Cg) (h : w.ownsRow 0 51 5 (.slice (some ⟨g, 0, none⟩) N cap) N (fl EC L)) :
    (((((w.setCell ⟨g, k * 5, none⟩ (.int .i64 x.at_)).setCell ⟨g, k * 5 + 1, none⟩ (.int .u64 x.a)).setCell ⟨g, k * 5 + 2, none⟩ (.int .u64 x.b)).setCell ⟨g, k * 5 + 3, none⟩ (.int .u64 x.c)).setCell ⟨g, k * 5 + 4, none⟩ (.int .i64 x.n)).ownsRow 0 51 5 (.slice (some ⟨g, 0, none⟩) N cap) N (fl EC (L.set k x)) ∧ Kp (fun j => j = g) w (((((w.setCell ⟨g, k * 5, none⟩ (.int .i64 x.at_)).setCell ⟨g, k * 5 + 1, none⟩ (.int .u64 x.a)).setCell ⟨g, k * 5 + 2, none⟩ (.int .u64 x.b)).setCell ⟨g, k * 5 + 3, none⟩ (.int .u64 x.c)).setCell ⟨g, k * 5 + 4, none⟩ (.int .i64 x.n)) := by
  obtain ⟨h1, k1⟩ := owns_cell0 (q := k * 5) (.int .i64 x.at_) h
  obtain ⟨h2, k2⟩ := owns_cell0 (q := k * 5 + 1) (.int .u64 x.a) h1
  obtain ⟨h3, k3⟩ := owns_cell0 (q := k * 5 + 2) (.int .u64 x.b) h2
  obtain ⟨h4, k4⟩ := owns_cell0 (q := k * 5 + 3) (.int .u64 x.c) h3
  obtain ⟨h5, k5⟩ := owns_cell0 (q := k * 5 + 4) (.int .i64 x.n) h4
  rw [flC_set] at h5
  exact ⟨h5, ((((k1.trans k2 (fun _ _ h => h)).trans k3 (fun _ _ h => h)).trans k4 (fun _ _ h => h)).trans k5 (fun _ _ h => h))⟩
section
variable {W : World} {n k g len cap i : Nat} {V : Nat → Value}
theorem fam_markT {C : Nat → List Ms} (h : Fam EM 36 W n V (stage mkT C k i)) (hk : k < n) (hV : V k = .slice (some ⟨g, 0, none⟩) len cap) (hl : (C k).length = len) (hi : i < (C k).length) :
    Fam EM 36 ((((((W.setCell ⟨g, i * 6, none⟩ (.int .i64 (-5 - (k : Int)))).setCell ⟨g, i * 6 + 1, none⟩ (.int .u64 0)).setCell ⟨g, i * 6 + 2, none⟩ (.int .u64 0)).setCell ⟨g, i * 6 + 3, none⟩ (.int .u64 0)).setCell ⟨g, i * 6 + 4, none⟩ (.int .u64 0)).setCell ⟨g, i * 6 + 5, none⟩ (.int .u64 0)) n V (stage mkT C k (i + 1)) ∧ Kp (fun q => (V k).ownBlock = some q) W ((((((W.setCell ⟨g, i * 6, none⟩ (.int .i64 (-5 - (k : Int)))).setCell ⟨g, i * 6 + 1, none⟩ (.int .u64 0)).setCell ⟨g, i * 6 + 2, none⟩ (.int .u64 0)).setCell ⟨g, i * 6 + 3, none⟩ (.int .u64 0)).setCell ⟨g, i * 6 + 4, none⟩ (.int .u64 0)).setCell ⟨g, i * 6 + 5, none⟩ (.int .u64 0)) := by
  have ho := h.own k hk
  have hsl := stage_len mkT C k i k (Nat.le_of_lt hi)
  rw [hV, hsl, hl] at ho
  obtain ⟨h1, h2⟩ := owns_set6 (k := i) (mkT k) ho
  exact h.set hk hV (mkT k) (stage_step mkT C k i hi) (by rw [hsl, hl]; exact h1) h2
theorem fam_markD {C : Nat → List Cg} (h : Fam EC 51 W n V (stage mkD C k i)) (hk : k < n) (hV : V k = .slice (some ⟨g, 0, none⟩) len cap) (hl : (C k).length = len) (hi : i < (C k).length) :
    Fam EC 51 (((((W.setCell ⟨g, i * 5, none⟩ (.int .i64 0)).setCell ⟨g, i * 5 + 1, none⟩ (.int .u64 0)).setCell ⟨g, i * 5 + 2, none⟩ (.int .u64 0)).setCell ⟨g, i * 5 + 3, none⟩ (.int .u64 0)).setCell ⟨g, i * 5 + 4, none⟩ (.int .i64 (-5 - (k : Int)))) n V (stage mkD C k (i + 1)) ∧ Kp (fun q => (V k).ownBlock = some q) W (((((W.setCell ⟨g, i * 5, none⟩ (.int .i64 0)).setCell ⟨g, i * 5 + 1, none⟩ (.int .u64 0)).setCell ⟨g, i * 5 + 2, none⟩ (.int .u64 0)).setCell ⟨g, i * 5 + 3, none⟩ (.int .u64 0)).setCell ⟨g, i * 5 + 4, none⟩ (.int .i64 (-5 - (k : Int)))) := by
  have ho := h.own k hk
  have hsl := stage_len mkD C k i k (Nat.le_of_lt hi)
  rw [hV, hsl, hl] at ho
  obtain ⟨h1, h2⟩ := owns_set5 (k := i) (mkD k) ho
  exact h.set hk hV (mkD k) (stage_step mkD C k i hi) (by rw [hsl, hl]; exact h1) h2
end
theorem rep2 {α : Type} (n : Nat) (x : α) : List.replicate (n + 2) x = List.replicate n x ++ [x, x] := by
  rw [show n + 2 = n + 1 + 1 from rfl, List.replicate_succ', List.replicate_succ', List.append_assoc]; rfl
theorem hideM {P : Prop} (h : P) : Hid P := h
/-- A list of slices: where it lies. -/
theorem row_form {w : World} {e : TypeId} {s : Value} {n : Nat} {V : Nat → Value} (h : w.ownsRow 0 e 1 s n ((List.range n).map V)) : ∃ p g c, s = .slice p n c ∧ ∀ i, i < n → p = some ⟨g, 0, none⟩ ∧ g < w.heap.size ∧ w.cell? ⟨g, i, none⟩ = some (V i) ∧ s.ownBlock = some g := by
  obtain ⟨_, ⟨h0, h1⟩ | ⟨ga, cap, cur, h0, hbg, hgg, _⟩⟩ := id h
  · exact ⟨none, 0, 0, by rw [h0, h1], fun i hi => by omega⟩
  · refine ⟨_, ga, _, h0, fun i hi => ⟨rfl, (Array.getElem?_eq_some_iff.1 hgg).1, ?_, by rw [h0]; rfl⟩⟩
    have := h.cells (g := ga) (by rw [h0]; rfl) i (V i) (by simp [hi])
    rw [addA, Nat.zero_add] at this
    exact this
/-- Blocks of a family. -/
def SqF (n : Nat) (V : Nat → Value) (q : Nat) : Prop := ∃ i, i < n ∧ (V i).ownBlock = some q

/-- The book: four lists of lists. -/
structure Bk (w : World) (kb nT nD : Nat) (sT sU sD sX : Value) (VT VU VD VX : Nat → Value) (CT : Nat → List Ms) (CD : Nat → List Cg) : Prop where
  blk : w.heap[kb]? = some (.cells #[sT, sU, sD, sX] 64 (0, 0))
  rT : w.ownsRow 0 22 1 sT nT ((List.range nT).map VT)
  rU : w.ownsRow 0 22 1 sU nT ((List.range nT).map VU)
  rD : w.ownsRow 0 45 1 sD nD ((List.range nD).map VD)
  rX : w.ownsRow 0 45 1 sX nD ((List.range nD).map VX)
  fT : Fam EM 36 w nT VT CT
  fD : Fam EC 51 w nD VD CD
  wT : ∀ i, i < nT → Ls EM w (VU i) (CT i)
  wD : ∀ i, i < nD → Ls EC w (VX i) (CD i)
  sTD : ∀ q, SqF nT VT q → ¬ SqF nD VD q
  sK : ∀ q, SqF nT VT q ∨ SqF nD VD q → q ≠ kb ∧ sT.ownBlock ≠ some q ∧ sD.ownBlock ≠ some q
  few : nT ≤ 1048576 ∧ nD ≤ 1048576
  small : (∀ i, i < nT → (CT i).length ≤ 1048576) ∧ ∀ i, i < nD → (CD i).length ≤ 1048576
/-- What is read of the book, as long as only the lists' own blocks are turned. -/
def BkOk (W : World) (kb nT nD : Nat) (pT pD : Option Addr) (gT gD cT cD : Nat) (VT VD : Nat → Value) : Prop :=
  W.cell? ⟨kb, 0, none⟩ = some (.slice pT nT cT) ∧ W.cell? ⟨kb, 2, none⟩ = some (.slice pD nD cD) ∧ kb < W.heap.size ∧ (∀ i, i < nT → pT = some ⟨gT, 0, none⟩ ∧ gT < W.heap.size ∧ W.cell? ⟨gT, i, none⟩ = some (VT i)) ∧ ∀ i, i < nD → pD = some ⟨gD, 0, none⟩ ∧ gD < W.heap.size ∧ W.cell? ⟨gD, i, none⟩ = some (VD i)
theorem Bk.ok {w W : World} {kb nT nD : Nat} {pT pD : Option Addr} {gT gD cT cD : Nat} {sU sX : Value} {VT VU VD VX : Nat → Value} {CT : Nat → List Ms} {CD : Nat → List Cg} (h : Bk w kb nT nD (.slice pT nT cT) sU (.slice pD nD cD) sX VT VU VD VX CT CD)
    (fT : ∀ i, i < nT → pT = some ⟨gT, 0, none⟩ ∧ gT < w.heap.size ∧ w.cell? ⟨gT, i, none⟩ = some (VT i) ∧ (Value.slice pT nT cT).ownBlock = some gT) (fD : ∀ i, i < nD → pD = some ⟨gD, 0, none⟩ ∧ gD < w.heap.size ∧ w.cell? ⟨gD, i, none⟩ = some (VD i) ∧ (Value.slice pD nD cD).ownBlock = some gD)
    (hk : Kp (fun q => SqF nT VT q ∨ SqF nD VD q) w W) : BkOk W kb nT nD pT pD gT gD cT cD VT VD := by
  have hkb : kb < w.heap.size := (Array.getElem?_eq_some_iff.1 h.blk).1
  have hn : ¬ (SqF nT VT kb ∨ SqF nD VD kb) := fun e => (h.sK kb e).1 rfl
  refine ⟨?_, ?_, Nat.lt_of_lt_of_le hkb hk.size, fun i hi => ?_, fun i hi => ?_⟩
  · rw [hk.cell hkb hn]; simp [World.cell?, h.blk]
  · rw [hk.cell hkb hn]; simp [World.cell?, h.blk]
  · obtain ⟨h1, h2, h3, h4⟩ := fT i hi
    exact ⟨h1, Nat.lt_of_lt_of_le h2 hk.size, (hk.cell h2 (fun e => (h.sK gT e).2.1 h4)).trans h3⟩
  · obtain ⟨h1, h2, h3, h4⟩ := fD i hi
    exact ⟨h1, Nat.lt_of_lt_of_le h2 hk.size, (hk.cell h2 (fun e => (h.sK gD e).2.2 h4)).trans h3⟩
/-- The grown lists of one kind stay while the others are grown. -/
theorem _root_.Go.Proofs.Ytaaobchodbnkpaa.Grw.far {α : Type} {E : El α} {e eS : TypeId} {mk : Nat → α} {d : Nat} {w2 W W' : World} {N k : Nat} {V X : Nat → Value} {n : Nat → Nat} {s : Value} {S : Nat → Prop} (h : Grw E e eS mk d w2 N V n W k X s) (hk : Kp S W W') (hS : ∀ q, S q → q < w2.heap.size) (hV : ∀ i, i < N → ∀ q, (V i).ownBlock = some q → ¬ S q) (hkN : k ≤ N) :
    (∀ i, i < k → Ls E W' (X i) (List.replicate (n i + d) (mk i))) ∧ (∀ i, i < k → Ls E W' (V i) (List.replicate (n i) (mk i))) ∧ W'.ownsRow w2.heap.size eS 1 s k ((List.range k).map X) :=
  ⟨fun i hi => hk.ls (h.big i hi) (fun q hq e => by
      rcases h.lie i hi q hq with h1 | h1
      · exact hV i (by omega) q h1 e
      · have := hS q e; omega), fun i hi => hk.ls (h.old i hi) (hV i (by omega)), owns_kp hk h.more (fun q hq e => by
      have h1 := (h.more.lt q hq).1
      have h2 := hS q e
      omega)⟩
end Go.Proofs.Ytaaobchodbnkpaa.Qs
