import Derived.Test.YtnpmmodcmfgbjaaGreatMAppd
import Derived.Test.YtnpmmodcmfgbjaaGreatMSty
namespace Go.Proofs.YtnpmmodcmfgbjaaGreat
open Go.RowKit Go.Sort

/-- How many could have come in. -/
def tot (ls : List (List Dl)) : Nat := (ls.map fun l => l.length + 1).sum
theorem tot_append (a b : List (List Dl)) : tot (a ++ b) = tot a + tot b := by simp [tot]
theorem tot_len (a : List (List Dl)) : a.length ≤ tot a := by
  induction a with
  | nil => simp
  | cons x a ih => rw [show x :: a = [x] ++ a from rfl, tot_append, List.length_append]; simp [tot] at ih ⊢; omega
/-- One step of a script. -/
structure Opm where
  kind : Int
  on : Int
  t : Tm
  u : Value
  l : List Dl
/-- The script lies there. -/
def ScriptAt (w : World) (v : Value) (os : List Opm) : Prop := ∃ p c, v = .slice p os.length c ∧ ∀ i o, os[i]? = some o → ∃ b off, p = some ⟨b, off, none⟩ ∧ b < w.heap.size ∧ w.cell? ⟨b, off + i * 6, none⟩ = some (.int .i64 o.kind) ∧ w.cell? ⟨b, off + i * 6 + 1, none⟩ = some (.int .i64 o.on) ∧
  w.cell? ⟨b, off + i * 6 + 2, none⟩ = some (.int .u64 o.t.1.1) ∧ w.cell? ⟨b, off + i * 6 + 3, none⟩ = some (.int .u64 o.t.1.2.1) ∧ w.cell? ⟨b, off + i * 6 + 4, none⟩ = some (.int .u64 o.t.1.2.2) ∧ w.cell? ⟨b, off + i * 6 + 5, none⟩ = some o.u ∧ Lq w o.u o.l
theorem tot_step {os : List Opm} {k : Nat} {o : Opm} (h : os[k]? = some o) : tot ((os.take (k + 1)).map Opm.l) = tot ((os.take k).map Opm.l) + (o.l.length + 1) := by
  rw [List.take_add_one, h, List.map_append, tot_append]
  simp [tot]
theorem tot_le (os : List Opm) (k : Nat) : tot ((os.take k).map Opm.l) ≤ tot (os.map Opm.l) := by
  conv => rhs; rw [← List.take_append_drop k os, List.map_append, tot_append]
  omega
/-- How far all has grown behind k steps. -/
structure Bds (tk k m nT nD : Nat) (M : Nat → Ml) (R : Nat → Rd) (CT CU : Nat → List Tm) (CD : Nat → List Dl) : Prop where
  m1 : 1 ≤ m
  bT : nT ≤ 2 * k
  bD : nD ≤ k
  n : ∀ i, i < m → (M i).n ≤ 2 * tk
  T : ∀ i, i < m → (R i).T.length ≤ tk
  C : ∀ p, p < nT → CU p = CT p ∧ (CT p).length ≤ 1048576
  D : ∀ p, p < nD → (CD p).length ≤ 1048576
/-- What holds behind k steps. -/
def Inv (w : World) (os : List Opm) (k : Nat) (wr : World) (sM sR : Value) (kb : Nat) : Prop :=
  ∃ (m nT nD : Nat) (M : Nat → Ml) (R : Nat → Rd) (VT VU VD VX : Nat → Value) (CT CU : Nat → List Tm) (CD : Nat → List Dl) (ow : Nat → Nat) (sT sU sD sX : Value), Bds (tot ((os.take k).map Opm.l)) k m nT nD M R CT CU CD ∧ Scr w wr m nT nT nD M R VT VU VD VX CT CU CD ow sM sR kb sT sU sD sX
section
variable {w W : World} {m nT nD : Nat} {M : Nat → Ml} {R : Nat → Rd} {VT VU VD VX : Nat → Value} {CT CU : Nat → List Tm} {CD : Nat → List Dl} {ow : Nat → Nat} {sM sR : Value} {kb : Nat} {sT sU sD sX : Value} {os : List Opm} {k c : Nat}
theorem Inv.same (hb : Bds (tot ((os.take k).map Opm.l)) k m nT nD M R CT CU CD) (hT : tot ((os.take (k + 1)).map Opm.l) = tot ((os.take k).map Opm.l) + (c + 1)) (h : Scr w W m nT nT nD M R VT VU VD VX CT CU CD ow sM sR kb sT sU sD sX) : Inv w os (k + 1) W sM sR kb :=
  ⟨m, nT, nD, M, R, VT, VU, VD, VX, CT, CU, CD, ow, sT, sU, sD, sX, ⟨hb.m1, by have := hb.bT; omega, by have := hb.bD; omega, fun i hi => by have := hb.n i hi; omega, fun i hi => by have := hb.T i hi; omega, hb.C, hb.D⟩, h⟩
theorem Inv.apply {i : Nat} {M' : Ml} {R' : Rd} {V1 V2 : Nat → Value} {C' : Nat → List Dl} {ow' : Nat → Nat} {sD' sX' : Value} (hb : Bds (tot ((os.take k).map Opm.l)) k m nT nD M R CT CU CD) (hi : i < m) (hT : tot ((os.take (k + 1)).map Opm.l) = tot ((os.take k).map Opm.l) + (c + 1))
    (h1 : M'.n ≤ (M i).n + 2 * c) (h2 : R'.T.length ≤ (R i).T.length + c) (h3 : ∀ p, p < nD → C' p = CD p) (h4 : (C' nD).length ≤ 1000000) (h : Scr w W m nT nT (nD + 1) (fun j => if j = i then M' else M j) (fun j => if j = i then R' else R j) VT VU V1 V2 CT CU C' ow' sM sR kb sT sU sD' sX') : Inv w os (k + 1) W sM sR kb := by
  refine ⟨m, nT, nD + 1, _, _, VT, VU, V1, V2, CT, CU, C', ow', sT, sU, sD', sX', ⟨hb.m1, by have := hb.bT; omega, by have := hb.bD; omega, fun j hj => ?_, fun j hj => ?_, hb.C, fun p hp => ?_⟩, h⟩
  · have a1 := hb.n j hj
    have a2 := hb.n i hi
    by_cases e : j = i
    · simp only [if_pos e]; omega
    · simp only [if_neg e]; omega
  · have a1 := hb.T j hj
    have a2 := hb.T i hi
    by_cases e : j = i
    · simp only [if_pos e]; omega
    · simp only [if_neg e]; omega
  · by_cases e : p = nD
    · rw [e]; omega
    · rw [h3 p (by omega)]; exact hb.D p (by omega)
theorem Inv.pages {V1 V2 : Nat → Value} {C1 C2 : Nat → List Tm} {ow' : Nat → Nat} {s1 s2 : Value} {d : List Tm} (hb : Bds (tot ((os.take k).map Opm.l)) k m nT nD M R CT CU CD) (hT : tot ((os.take (k + 1)).map Opm.l) = tot ((os.take k).map Opm.l) + (c + 1)) (hd : d.length ≤ 1048576)
    (h1 : (∀ p, p < nT → C1 p = CT p) ∧ C1 nT = d ∧ C1 (nT + 1) = d) (h2 : (∀ p, p < nT → C2 p = CU p) ∧ C2 nT = d ∧ C2 (nT + 1) = d) (h : Scr w W m (nT + 2) (nT + 2) nD M R V1 V2 VD VX C1 C2 CD ow' sM sR kb s1 s2 sD sX) : Inv w os (k + 1) W sM sR kb := by
  refine ⟨m, nT + 2, nD, M, R, V1, V2, VD, VX, C1, C2, CD, ow', s1, s2, sD, sX, ⟨hb.m1, by have := hb.bT; omega, by have := hb.bD; omega, fun i hi => by have := hb.n i hi; omega, fun i hi => by have := hb.T i hi; omega, fun p hp => ?_, hb.D⟩, h⟩
  by_cases e : p < nT
  · rw [h1.1 p e, h2.1 p e]; exact hb.C p e
  · by_cases e2 : p = nT
    · rw [e2, h1.2.1, h2.2.1]; exact ⟨rfl, hd⟩
    · have e3 : p = nT + 1 := by omega
      rw [e3, h1.2.2, h2.2.2]; exact ⟨rfl, hd⟩
theorem Inv.copy {i : Nat} {M' : Ml} {R' : Rd} {ow' : Nat → Nat} {sM' sR' : Value} (hb : Bds (tot ((os.take k).map Opm.l)) k m nT nD M R CT CU CD) (hi : i < m) (hT : tot ((os.take (k + 1)).map Opm.l) = tot ((os.take k).map Opm.l) + (c + 1)) (h1 : M'.n = (M i).n) (h2 : R'.T = (R i).T)
    (h : Scr w W (m + 1) nT nT nD (fun j => if j = m then M' else M j) (fun j => if j = m then R' else R j) VT VU VD VX CT CU CD ow' sM' sR' kb sT sU sD sX) : Inv w os (k + 1) W sM' sR' kb := by
  refine ⟨m + 1, nT, nD, _, _, VT, VU, VD, VX, CT, CU, CD, ow', sT, sU, sD, sX, ⟨by omega, by have := hb.bT; omega, by have := hb.bD; omega, fun j hj => ?_, fun j hj => ?_, hb.C, hb.D⟩, h⟩
  · have a2 := hb.n i hi
    by_cases e : j = m
    · simp only [if_pos e]; omega
    · simp only [if_neg e]; have := hb.n j (by omega); omega
  · have a2 := hb.T i hi
    by_cases e : j = m
    · simp only [if_pos e]; rw [h2]; omega
    · simp only [if_neg e]; have := hb.T j (by omega); omega
end
theorem Scr.mfr {w0 W : World} {m nT nU nD : Nat} {M : Nat → Ml} {R : Nat → Rd} {VT VU VD VX : Nat → Value} {CT CU : Nat → List Tm} {CD : Nat → List Dl} {ow : Nat → Nat} {sM sR : Value} {kb : Nat} {sT sU sD sX : Value} (h : Scr w0 W m nT nU nD M R VT VU VD VX CT CU CD ow sM sR kb sT sU sD sX) {i : Nat} (hi : i < m) : (M i).fr.length ≤ (M i).n := (h.mu i hi).2.1.le (h.mu i hi).1.tl.ta
theorem Ml.sup {m : Ml} {W : World} (h : m.ok W) : ∃ ks : List Tm, Sup m.f ks ∧ ks.length ≤ m.n := by
  obtain ⟨D, hown, _, h2⟩ := h.tl.ta
  obtain ⟨ks, hks, hl⟩ := owns_sup (Z := ZT) hown h2
  exact ⟨ks, hks, by rw [hl]; exact hown.size_le⟩
/-- The document's times are those of the tally. -/
theorem times_same {f : Tm → Int} {ks R : List Tm} (hs : Sup f ks) (h1 : R.Pairwise fun p q => tol p q = true) (h2 : ∀ y, y ∈ R ↔ f y ≠ 0) : R = stT ks :=
  sorted_same ords h1 (stT_sorted hs.1) fun y => (h2 y).trans ((hs.2 y).symm.trans srtBy_mem.symm)
end Go.Proofs.YtnpmmodcmfgbjaaGreat
