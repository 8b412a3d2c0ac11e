import Derived.Test.YtnpmmodcmfgbjaaGreatMEqT
import Derived.Test.YtnpmmodcmfgbjaaGreatJ4
import Derived.Test.YtnpmmodcmfgbjaaGreatLKeep2
namespace Go.Proofs.YtnpmmodcmfgbjaaGreat
open Go.RowKit Go.Sort

theorem infoLt : (Tryz.prog.info? 42).map (fun i => (i.zero, i.size, i.bytes)) = some (some (.slice none 0 0), 1, 24) := by kernel_rfl
theorem infoLd : (Tryz.prog.info? 38).map (fun i => (i.zero, i.size, i.bytes)) = some (some (.slice none 0 0), 1, 24) := by kernel_rfl
/-- The marks of list i. -/
theorem wf64 {i : Nat} (h : i < 9223372036854775808) : (Lit.int .u64 (i : Int)).wf = true := by
  simp [Lit.wf, IntKind.min, IntKind.max, IntKind.signed, IntKind.bits]; omega
def tz : Tm := ⟨(0, 0, 0), by decide, by decide, by decide⟩
theorem wf77 : (Lit.int .u64 77).wf = true := by decide
theorem wf0 : (Lit.int .u64 0).wf = true := by decide
def mkT (i : Nat) : Tm := if h : i < 9223372036854775808 then ⟨((i : Int), 0, 77), wf64 h, wf0, wf77⟩ else tz
theorem mkT_val {i : Nat} (h : i < 9223372036854775808) : (mkT i).1 = ((i : Int), 0, 77) := by unfold mkT; rw [dif_pos h]
def mkD (i : Nat) : Dl := (tz, 1000 + (i : Int))

theorem flD_set (L : List Dl) (k : Nat) (x : Dl) : ((((fl ED L).set (k * 4) (.int .u64 x.1.1.1)).set (k * 4 + 1) (.int .u64 x.1.1.2.1)).set (k * 4 + 2) (.int .u64 x.1.1.2.2)).set (k * 4 + 3) (.int .i64 x.2) = fl ED (L.set k x) := by
  induction L generalizing k with
  | nil => simp [fl]
  | cons y L ih =>
    rw [fl_cons]
    cases k with
    | zero => simp [ED, fl]
    | succ k =>
      rw [List.set_cons_succ, fl_cons, ← ih k, show (k + 1) * 4 = k * 4 + 4 by omega]
      simp [ED]
theorem owns_set4 {w : World} {g N cap k : Nat} {L : List Dl} (x : Dl) (h : w.ownsRow 0 54 4 (.slice (some ⟨g, 0, none⟩) N cap) N (fl ED L)) :
    ((((w.setCell ⟨g, k * 4, none⟩ (.int .u64 x.1.1.1)).setCell ⟨g, k * 4 + 1, none⟩ (.int .u64 x.1.1.2.1)).setCell ⟨g, k * 4 + 2, none⟩ (.int .u64 x.1.1.2.2)).setCell ⟨g, k * 4 + 3, none⟩ (.int .i64 x.2)).ownsRow 0 54 4 (.slice (some ⟨g, 0, none⟩) N cap) N (fl ED (L.set k x)) ∧
      Kp (fun j => j = g) w ((((w.setCell ⟨g, k * 4, none⟩ (.int .u64 x.1.1.1)).setCell ⟨g, k * 4 + 1, none⟩ (.int .u64 x.1.1.2.1)).setCell ⟨g, k * 4 + 2, none⟩ (.int .u64 x.1.1.2.2)).setCell ⟨g, k * 4 + 3, none⟩ (.int .i64 x.2)) := by
  obtain ⟨h1, k1⟩ := owns_cell0 (q := k * 4) (.int .u64 x.1.1.1) h
  obtain ⟨h2, k2⟩ := owns_cell0 (q := k * 4 + 1) (.int .u64 x.1.1.2.1) h1
  obtain ⟨h3, k3⟩ := owns_cell0 (q := k * 4 + 2) (.int .u64 x.1.1.2.2) h2
  obtain ⟨h4, k4⟩ := owns_cell0 (q := k * 4 + 3) (.int .i64 x.2) h3
  rw [flD_set] at h4
  exact ⟨h4, ((k1.trans k2 (fun _ _ h => h)).trans k3 (fun _ _ h => h)).trans k4 (fun _ _ h => h)⟩
section
variable {W : World} {n k g len cap i : Nat} {V : Nat → Value}
theorem fam_markT {C : Nat → List Tm} (h : Fam ET 37 W n V (stage mkT C k i)) (hk : k < n) (hV : V k = .slice (some ⟨g, 0, none⟩) len cap) (hl : (C k).length = len) (hi : i < (C k).length) (h63 : k < 9223372036854775808) :
    Fam ET 37 (((W.setCell ⟨g, i * 3, none⟩ (.int .u64 (k : Int))).setCell ⟨g, i * 3 + 1, none⟩ (.int .u64 0)).setCell ⟨g, i * 3 + 2, none⟩ (.int .u64 77)) n V (stage mkT C k (i + 1)) ∧ Kp (fun q => (V k).ownBlock = some q) W (((W.setCell ⟨g, i * 3, none⟩ (.int .u64 (k : Int))).setCell ⟨g, i * 3 + 1, none⟩ (.int .u64 0)).setCell ⟨g, i * 3 + 2, none⟩ (.int .u64 77)) := by
  have ho := h.own k hk
  have hsl := stage_len mkT C k i k (Nat.le_of_lt hi)
  rw [hV, hsl, hl] at ho
  obtain ⟨h1, h2⟩ := Cn.owns_set3 (k := i) (mkT k) ho
  rw [mkT_val h63] at h1 h2
  exact h.set hk hV (mkT k) (stage_step mkT C k i hi) (by rw [hsl, hl]; exact h1) h2
theorem fam_markD {C : Nat → List Dl} (h : Fam ED 54 W n V (stage mkD C k i)) (hk : k < n) (hV : V k = .slice (some ⟨g, 0, none⟩) len cap) (hl : (C k).length = len) (hi : i < (C k).length) :
    Fam ED 54 ((((W.setCell ⟨g, i * 4, none⟩ (.int .u64 0)).setCell ⟨g, i * 4 + 1, none⟩ (.int .u64 0)).setCell ⟨g, i * 4 + 2, none⟩ (.int .u64 0)).setCell ⟨g, i * 4 + 3, none⟩ (.int .i64 (1000 + (k : Int)))) n V (stage mkD C k (i + 1)) ∧ Kp (fun q => (V k).ownBlock = some q) W ((((W.setCell ⟨g, i * 4, none⟩ (.int .u64 0)).setCell ⟨g, i * 4 + 1, none⟩ (.int .u64 0)).setCell ⟨g, i * 4 + 2, none⟩ (.int .u64 0)).setCell ⟨g, i * 4 + 3, none⟩ (.int .i64 (1000 + (k : Int)))) := by
  have ho := h.own k hk
  have hsl := stage_len mkD C k i k (Nat.le_of_lt hi)
  rw [hV, hsl, hl] at ho
  obtain ⟨h1, h2⟩ := owns_set4 (k := i) (mkD k) ho
  exact h.set hk hV (mkD k) (stage_step mkD C k i hi) (by rw [hsl, hl]; exact h1) h2
end
theorem rep2 {α : Type} (n : Nat) (x : α) : List.replicate (n + 2) x = List.replicate n x ++ [x, x] := by
  rw [show n + 2 = n + 1 + 1 from rfl, List.replicate_succ', List.replicate_succ', List.append_assoc]; rfl
theorem hideM {P : Prop} (h : P) : Hid P := h
/-- A list of slices: where it lies. -/
theorem row_form {w : World} {e : TypeId} {s : Value} {n : Nat} {V : Nat → Value} (h : w.ownsRow 0 e 1 s n ((List.range n).map V)) : ∃ p g c, s = .slice p n c ∧ ∀ i, i < n → p = some ⟨g, 0, none⟩ ∧ g < w.heap.size ∧ w.cell? ⟨g, i, none⟩ = some (V i) ∧ s.ownBlock = some g := by
  obtain ⟨_, ⟨h0, h1⟩ | ⟨ga, cap, cur, h0, hbg, hgg, _⟩⟩ := id h
  · exact ⟨none, 0, 0, by rw [h0, h1], fun i hi => by omega⟩
  · refine ⟨_, ga, _, h0, fun i hi => ⟨rfl, (Array.getElem?_eq_some_iff.1 hgg).1, ?_, by rw [h0]; rfl⟩⟩
    have := h.cells (g := ga) (by rw [h0]; rfl) i (V i) (by simp [hi])
    rw [addA, Nat.zero_add] at this
    exact this
/-- Blocks of a family. -/
def SqF (n : Nat) (V : Nat → Value) (q : Nat) : Prop := ∃ i, i < n ∧ (V i).ownBlock = some q

/-- The book: four lists of lists. -/
structure Bk (w : World) (kb nT nD : Nat) (sT sU sD sX : Value) (VT VU VD VX : Nat → Value) (CT : Nat → List Tm) (CD : Nat → List Dl) : Prop where
  blk : w.heap[kb]? = some (.cells #[sT, sU, sD, sX] 34 (0, 0))
  rT : w.ownsRow 0 42 1 sT nT ((List.range nT).map VT)
  rU : w.ownsRow 0 42 1 sU nT ((List.range nT).map VU)
  rD : w.ownsRow 0 38 1 sD nD ((List.range nD).map VD)
  rX : w.ownsRow 0 38 1 sX nD ((List.range nD).map VX)
  fT : Fam ET 37 w nT VT CT
  fD : Fam ED 54 w nD VD CD
  wT : ∀ i, i < nT → Ls ET w (VU i) (CT i)
  wD : ∀ i, i < nD → Ls ED w (VX i) (CD i)
  sTD : ∀ q, SqF nT VT q → ¬ SqF nD VD q
  sK : ∀ q, SqF nT VT q ∨ SqF nD VD q → q ≠ kb ∧ sT.ownBlock ≠ some q ∧ sD.ownBlock ≠ some q
  few : nT ≤ 1048576 ∧ nD ≤ 1048576
  small : (∀ i, i < nT → (CT i).length ≤ 1048576) ∧ ∀ i, i < nD → (CD i).length ≤ 1048576
/-- What is read of the book, as long as only the lists' own blocks are turned. -/
def BkOk (W : World) (kb nT nD : Nat) (pT pD : Option Addr) (gT gD cT cD : Nat) (VT VD : Nat → Value) : Prop :=
  W.cell? ⟨kb, 0, none⟩ = some (.slice pT nT cT) ∧ W.cell? ⟨kb, 2, none⟩ = some (.slice pD nD cD) ∧ kb < W.heap.size ∧ (∀ i, i < nT → pT = some ⟨gT, 0, none⟩ ∧ gT < W.heap.size ∧ W.cell? ⟨gT, i, none⟩ = some (VT i)) ∧ ∀ i, i < nD → pD = some ⟨gD, 0, none⟩ ∧ gD < W.heap.size ∧ W.cell? ⟨gD, i, none⟩ = some (VD i)
theorem Bk.ok {w W : World} {kb nT nD : Nat} {pT pD : Option Addr} {gT gD cT cD : Nat} {sU sX : Value} {VT VU VD VX : Nat → Value} {CT : Nat → List Tm} {CD : Nat → List Dl} (h : Bk w kb nT nD (.slice pT nT cT) sU (.slice pD nD cD) sX VT VU VD VX CT CD)
    (fT : ∀ i, i < nT → pT = some ⟨gT, 0, none⟩ ∧ gT < w.heap.size ∧ w.cell? ⟨gT, i, none⟩ = some (VT i) ∧ (Value.slice pT nT cT).ownBlock = some gT) (fD : ∀ i, i < nD → pD = some ⟨gD, 0, none⟩ ∧ gD < w.heap.size ∧ w.cell? ⟨gD, i, none⟩ = some (VD i) ∧ (Value.slice pD nD cD).ownBlock = some gD)
    (hk : Kp (fun q => SqF nT VT q ∨ SqF nD VD q) w W) : BkOk W kb nT nD pT pD gT gD cT cD VT VD := by
  have hkb : kb < w.heap.size := (Array.getElem?_eq_some_iff.1 h.blk).1
  have hn : ¬ (SqF nT VT kb ∨ SqF nD VD kb) := fun e => (h.sK kb e).1 rfl
  refine ⟨?_, ?_, Nat.lt_of_lt_of_le hkb hk.size, fun i hi => ?_, fun i hi => ?_⟩
  · rw [hk.cell hkb hn]; simp [World.cell?, h.blk]
  · rw [hk.cell hkb hn]; simp [World.cell?, h.blk]
  · obtain ⟨h1, h2, h3, h4⟩ := fT i hi
    exact ⟨h1, Nat.lt_of_lt_of_le h2 hk.size, (hk.cell h2 (fun e => (h.sK gT e).2.1 h4)).trans h3⟩
  · obtain ⟨h1, h2, h3, h4⟩ := fD i hi
    exact ⟨h1, Nat.lt_of_lt_of_le h2 hk.size, (hk.cell h2 (fun e => (h.sK gD e).2.2 h4)).trans h3⟩
/-- The grown lists of one kind stay while the others are grown. -/
theorem Grw.far {α : Type} {E : El α} {e eS : TypeId} {mk : Nat → α} {d : Nat} {w2 W W' : World} {N k : Nat} {V X : Nat → Value} {n : Nat → Nat} {s : Value} {S : Nat → Prop} (h : Grw E e eS mk d w2 N V n W k X s) (hk : Kp S W W') (hS : ∀ q, S q → q < w2.heap.size) (hV : ∀ i, i < N → ∀ q, (V i).ownBlock = some q → ¬ S q) (hkN : k ≤ N) :
    (∀ i, i < k → Ls E W' (X i) (List.replicate (n i + d) (mk i))) ∧ (∀ i, i < k → Ls E W' (V i) (List.replicate (n i) (mk i))) ∧ W'.ownsRow w2.heap.size eS 1 s k ((List.range k).map X) :=
  ⟨fun i hi => hk.ls (h.big i hi) (fun q hq e => by
      rcases h.lie i hi q hq with h1 | h1
      · exact hV i (by omega) q h1 e
      · have := hS q e; omega), fun i hi => hk.ls (h.old i hi) (hV i (by omega)), owns_kp hk h.more (fun q hq e => by
      have h1 := (h.more.lt q hq).1
      have h2 := hS q e
      omega)⟩
end Go.Proofs.YtnpmmodcmfgbjaaGreat
