import Derived.Test.YtghofmhlmkpkcaaDoorVBase
import Derived.Test.YtghofmhlmkpkcaaDoorLKeep
namespace Go.Proofs.YtghofmhlmkpkcaaDoor.Wi
open Go.RowKit Go.Sort

theorem infoL : (Tryd.prog.info? 22).map (fun i => (i.zero, i.size, i.bytes)) = some (some (.slice none 0 0), 1, 24) := by kernel_rfl
/-- The mark of list i. -/
def mkB (i : Nat) : UInt8 := UInt8.ofNat ((i * 3 + 1) % 256)
theorem mkB_val (i : Nat) : ((mkB i).toNat : Int) = ((i : Int) * 3 + 1) % 256 := by
  unfold mkB
  rw [u8_of (by omega)]
  omega
theorem mkB_wrap (i : Nat) : IntKind.u8.wrap ((i : Int) * 3 + 1) = ((mkB i).toNat : Int) := by rw [IntKind.wrap_u8, mkB_val]
theorem flB_set (L : List UInt8) (k : Nat) (x : UInt8) : (fl EB L).set k (bv x) = fl EB (L.set k x) := by
  induction L generalizing k with
  | nil => simp [fl]
  | cons y L ih =>
    rw [fl_cons]
    cases k with
    | zero => simp [EB, fl]
    | succ k =>
      rw [List.set_cons_succ, fl_cons, ← ih k]
      simp [EB]
theorem fam_markB {W : World} {n k g len cap i : Nat} {V : Nat → Value} {C : Nat → List UInt8} (h : Fam EB 5 W n V (stage mkB C k i)) (hk : k < n) (hV : V k = .slice (some ⟨g, 0, none⟩) len cap) (hl : (C k).length = len) (hi : i < (C k).length) :
    Fam EB 5 (W.setCell ⟨g, i, none⟩ (bv (mkB k))) n V (stage mkB C k (i + 1)) ∧ Kp (fun q => (V k).ownBlock = some q) W (W.setCell ⟨g, i, none⟩ (bv (mkB k))) := by
  have ho := h.own k hk
  have hsl := stage_len mkB C k i k (Nat.le_of_lt hi)
  rw [hV, hsl, hl] at ho
  obtain ⟨h1, h2⟩ := owns_cell0 (q := i) (bv (mkB k)) ho
  rw [flB_set] at h1
  exact h.set hk hV (mkB k) (stage_step mkB C k i hi) (by rw [hsl, hl]; exact h1) h2
/-- A list of slices: where it lies. -/
theorem row_form {w : World} {e : TypeId} {s : Value} {n : Nat} {V : Nat → Value} (h : w.ownsRow 0 e 1 s n ((List.range n).map V)) : ∃ p g c, s = .slice p n c ∧ ∀ i, i < n → p = some ⟨g, 0, none⟩ ∧ g < w.heap.size ∧ w.cell? ⟨g, i, none⟩ = some (V i) ∧ s.ownBlock = some g := by
  obtain ⟨_, ⟨h0, h1⟩ | ⟨ga, cap, cur, h0, hbg, hgg, _⟩⟩ := id h
  · exact ⟨none, 0, 0, by rw [h0, h1], fun i hi => by omega⟩
  · refine ⟨_, ga, _, h0, fun i hi => ⟨rfl, (Array.getElem?_eq_some_iff.1 hgg).1, ?_, by rw [h0]; rfl⟩⟩
    have := h.cells (g := ga) (by rw [h0]; rfl) i (V i) (by simp [hi])
    rw [addA, Nat.zero_add] at this
    exact this
/-- Blocks of a family. -/
def SqF (n : Nat) (V : Nat → Value) (q : Nat) : Prop := ∃ i, i < n ∧ (V i).ownBlock = some q
end Go.Proofs.YtghofmhlmkpkcaaDoor.Wi
