import Derived.Test.YtdnnfgabdkkdjaaGreatJ20
import Derived.BigQuiet
import Derived.Test.YtdnnfgabdkkdjaaGreatJ18
import Derived.Test.YtdnnfgabdkkdjaaGreatGM1
import Derived.Test.YtdnnfgabdkkdjaaGreatEqs
import Derived.Test.YtdnnfgabdkkdjaaGreatLRow
namespace Go.Proofs.YtdnnfgabdkkdjaaGreat.Lf
open Go.RowKit Go.Sort Pt
open Df (hid Gph plN Gok GR NV Edg gof gvc Gcap EI tk_store tk_lt owns_form owns_caps)
attribute [local go_sem ↓] Go.wp_at_zero Go.wp_at_succ
theorem bt_len {g : Gph} {R : Nat → Nat → List Tri} (h : ∀ p, p < plN g.nodes → Res PX (StG g) p (some (R p))) (p q : Int) : (bt (plN g.nodes) R p q).length ≤ 64 := by
 unfold bt
 split
 ·rename_i hc
  exact (h p.toNat (by omega) q.toNat).2.2
 ·exact Nat.zero_le _
def Hw (M M2 tb rb n : Nat) (R : Nat → Nat → List Tri) (sv : Value) (l : List Hf.Th) (W : World) : Prop := TP M W tb n R ∧ TR M W rb n R ∧ Df.Lz EF M2 W sv l ∧ M ≤ W.heap.size
section
variable {M M2 tb rb n : Nat} {R : Nat → Nat → List Tri} {sv : Value} {l : List Hf.Th} {W : World}
theorem Hw.le (h : Hw M M2 tb rb n R sv l W) (p q : Int) (hl : (bt n R p q).length ≤ 64) : Calls Tryz.prog 12 #[.pointer (some ⟨tb, 0, none⟩), .int .i64 p, .int .i64 q] W fun e w' => ∃ pp c, e = .returned (.slice pp (bt n R p q).length c) ∧ Hid (Ls Pc.ET w' (.slice pp (bt n R p q).length c) (bt n R p q) ∧ Below W.heap.size W w') := by
 refine (least_any p q W (Or.inr ⟨tb, rfl, h.1⟩) hl).mono ?_
 rintro e w' ⟨v, rfl, h1, h2⟩
 obtain ⟨pp, c, rfl⟩ := (owns_ls (E := Pc.ET) h1).form
 exact ⟨pp, c, rfl, owns_ls (E := Pc.ET) h1, h2⟩
theorem Hw.to (h : Hw M M2 tb rb n R sv l W) (p : Int) (hn : n ≤ 192) : Calls Tryz.prog 24 #[.pointer (some ⟨tb, 0, none⟩), .int .i64 p] W fun e w' => ∃ pp c, e = .returned (.slice pp (toL n R p n).length c) ∧ Hid (Ls EI w' (.slice pp (toL n R p n).length c) (toL n R p n) ∧ Below W.heap.size W w') := by
 refine (to_any p W (Or.inr ⟨tb, rfl, h.1⟩) h.2.2.2 hn).mono ?_
 rintro e w' ⟨v, rfl, h1, h2⟩
 obtain ⟨pp, c, rfl⟩ := (owns_ls (E := EI) h1).form
 exact ⟨pp, c, rfl, owns_ls (E := EI) h1, h2⟩
theorem Hw.fr (h : Hw M M2 tb rb n R sv l W) (q : Int) (hR : ∀ p q, (bt n R p q).length ≤ 64) (hl : (64 * l.length + 1) * 24 ≤ 140737488355328) : Calls Tryz.prog 19 #[.pointer (some ⟨tb, 0, none⟩), .int .i64 q, sv] W fun e w' => ∃ pp c, e = .returned (.slice pp (frt (allT n R q l)).length c) ∧ Hid (Ls Pc.ET w' (.slice pp (frt (allT n R q l)).length c) (frt (allT n R q l)) ∧ Below W.heap.size W w') := by
 refine (front_any q W (Or.inr ⟨tb, rfl, h.1⟩) h.2.2.2 hR h.2.2.1 hl).mono ?_
 rintro e w' ⟨v, rfl, h1, h2⟩
 obtain ⟨pp, c, rfl⟩ := (owns_ls (E := Pc.ET) h1).form
 exact ⟨pp, c, rfl, owns_ls (E := Pc.ET) h1, h2⟩
end
end Go.Proofs.YtdnnfgabdkkdjaaGreat.Lf

namespace Go.Proofs.YtdnnfgabdkkdjaaGreat.Lf
open Go.RowKit Go.Sort Pt
open Df (Gph plN)
section
variable {St : Nat → Nat → Tri → Prop} {n : Nat} {R : Nat → Nat → List Tri}
end
end Go.Proofs.YtdnnfgabdkkdjaaGreat.Lf

namespace Go.Proofs.YtdnnfgabdkkdjaaGreat.Lf
open Go.RowKit Go.Sort Pt
open Df (tk_store tk_lt)
theorem run_eqT2 (d : Nat) (a b c x y z : Int) (w : World) : Sem.run Tryz.prog (Op.equalIn (d + 2) 50 (.agg #[.int .u64 a, .int .u64 b, .int .u64 c]) (.agg #[.int .u64 x, .int .u64 y, .int .u64 z])) w = .ok (teq a b c x y z) w := by
 have u3 := Tryz.underlying37
 have a3 := Tryz.isAgg37
 have z3 := Tryz.sizeOf37
 have hS : Tryz.prog.underlying 50 = some (.struct (Tryz.prog.fieldsOf 50)) := by kernel_rfl
 have hp : Tryz.prog.stoodInHeld 50 = false := by kernel_rfl
 rw [show (d + 2 : Nat) = (d + 1) + 1 from rfl, run_equalIn_agg w (d + 1) 50 _ _ hS hp]
 simp only [Program.fieldsOf, Tryz.underlying50]
 go_simp
 by_cases h1 : a = x <;> by_cases h2 : b = y <;> by_cases h3 : c = z <;> simp [teq, h1, h2, h3]
theorem run_eqS (d : Nat) (p a b c q x y z : Int) (w : World) : Sem.run Tryz.prog (Op.equalIn (d + 3) 52 (.agg #[.int .i64 p, .int .u64 a, .int .u64 b, .int .u64 c]) (.agg #[.int .i64 q, .int .u64 x, .int .u64 y, .int .u64 z])) w = .ok (p == q && teq a b c x y z) w := by
 have u4 := Tryz.underlying3
 have a4 := Tryz.isAgg3
 have z4 := Tryz.sizeOf3
 have a5 := Tryz.isAgg50
 have z5 := Tryz.sizeOf50
 have hP := run_eqT2 d
 have hS : Tryz.prog.underlying 52 = some (.struct (Tryz.prog.fieldsOf 52)) := by kernel_rfl
 have hp : Tryz.prog.stoodInHeld 52 = false := by kernel_rfl
 rw [show (d + 3 : Nat) = (d + 2) + 1 from rfl, run_equalIn_agg w (d + 2) 52 _ _ hS hp]
 simp only [Program.fieldsOf, Tryz.underlying52]
 go_simp
 by_cases h1 : p = q <;> cases teq a b c x y z <;> simp [h1]
theorem run_eqTh (s u : Hf.Th) (w : World) : Sem.run Tryz.prog (Op.equalIn 10000 52 (.agg #[.int .i64 s.1, .int .u64 s.2.1.1, .int .u64 s.2.1.2.1, .int .u64 s.2.1.2.2]) (.agg #[.int .i64 u.1, .int .u64 u.2.1.1, .int .u64 u.2.1.2.1, .int .u64 u.2.1.2.2])) w = .ok (decide (s = u)) w := by
 rw [show (10000 : Nat) = 9997 + 3 from rfl, run_eqS]
 have : (s.1 == u.1 && teq s.2.1.1 s.2.1.2.1 s.2.1.2.2 u.2.1.1 u.2.1.2.1 u.2.1.2.2) = decide (s = u) := by
  rw [Bool.eq_iff_iff]
  simp only [teq, Bool.and_eq_true, beq_iff_eq, decide_eq_true_iff]
  constructor
  ·rintro ⟨h1, h2, h3, h4⟩
   obtain ⟨s1, s2⟩ := s
   obtain ⟨u1, u2⟩ := u
   simp only at h1 h2 h3 h4
   rw [h1, tri_ext h2 h3 h4]
  ·rintro rfl
   exact ⟨rfl, rfl, rfl, rfl⟩
 rw [this]
theorem run_neqTh {s u : Hf.Th} {b : Bool} (h : decide (s = u) = b) (w : World) : Sem.run Tryz.prog (Op.equalIn 10000 52 (.agg #[.int .i64 s.1, .int .u64 s.2.1.1, .int .u64 s.2.1.2.1, .int .u64 s.2.1.2.2]) (.agg #[.int .i64 u.1, .int .u64 u.2.1.1, .int .u64 u.2.1.2.1, .int .u64 u.2.1.2.2])) w = .ok b w := by rw [run_eqTh, h]
theorem owns_cellB {w : World} {base : Nat} {e : TypeId} {s g n cap q : Nat} {xs : List Value} (u : Value) (h : w.ownsRow base e s (.slice (some ⟨g, 0, none⟩) n cap) n xs) :
    (w.setCell ⟨g, q, none⟩ u).ownsRow base e s (.slice (some ⟨g, 0, none⟩) n cap) n (xs.set q u) ∧ Kp (fun k => k = g) w (w.setCell ⟨g, q, none⟩ u) := by
 obtain ⟨h1, ⟨h0, _⟩ | ⟨g', cap', cur, hv, hg, hh, h2, h3, h4, h5⟩⟩ := h
 ·cases h0
 ·cases hv
  have e1 := setCell_eq_setRow w g q _ _ _ u hh
  have hk1 : Kp (fun k => k = g) w (w.setCell ⟨g, q, none⟩ u) := by
   rw [e1]
   exact ⟨rfl, rfl, rfl, by simp [World.setRow], fun q _ hne => setRow_other _ g q _ (by omega)⟩
  refine ⟨⟨by simpa using h1, Or.inr ⟨g, cap, _, rfl, hg, by rw [e1]; exact setRow_heap _ g _ _ _ _ hh, h2, h3, ?_, ?_⟩⟩, hk1⟩
  ·simp [h4]
  ·rw [Array.toList_setIfInBounds, List.take_set, h5]
theorem fl_th (L : List Hf.Th) (i : Nat) (x : Hf.Th) : (((((fl EF L).set (i * 4) (.int .i64 x.1)).set (i * 4 + 1) (.int .u64 x.2.1.1)).set (i * 4 + 2) (.int .u64 x.2.1.2.1)).set (i * 4 + 3) (.int .u64 x.2.1.2.2)) = fl EF (L.set i x) := by
 induction L generalizing i with
 | nil => simp [fl]
 | cons y L ih =>
  rw [fl_cons]
  cases i with
  | zero => simp [EF, fl]
  | succ i =>
   rw [List.set_cons_succ, fl_cons, ← ih i, show (i + 1) * 4 = i * 4 + 4 by omega]
   simp [EF]
theorem owns_th {w : World} {base g N cap i : Nat} {L : List Hf.Th} (x : Hf.Th) (h : w.ownsRow base 52 4 (.slice (some ⟨g, 0, none⟩) N cap) N (fl EF L)) :
    ((((w.setCell ⟨g, i * 4, none⟩ (.int .i64 x.1)).setCell ⟨g, i * 4 + 1, none⟩ (.int .u64 x.2.1.1)).setCell ⟨g, i * 4 + 2, none⟩ (.int .u64 x.2.1.2.1)).setCell ⟨g, i * 4 + 3, none⟩ (.int .u64 x.2.1.2.2)).ownsRow base 52 4 (.slice (some ⟨g, 0, none⟩) N cap) N (fl EF (L.set i x)) ∧
     Kp (fun k => k = g) w ((((w.setCell ⟨g, i * 4, none⟩ (.int .i64 x.1)).setCell ⟨g, i * 4 + 1, none⟩ (.int .u64 x.2.1.1)).setCell ⟨g, i * 4 + 2, none⟩ (.int .u64 x.2.1.2.1)).setCell ⟨g, i * 4 + 3, none⟩ (.int .u64 x.2.1.2.2)) := by
 obtain ⟨h0, m0⟩ := owns_cellB (q := i * 4) (.int .i64 x.1) h
 obtain ⟨h1, m1⟩ := owns_cellB (q := i * 4 + 1) (.int .u64 x.2.1.1) h0
 obtain ⟨h2, m2⟩ := owns_cellB (q := i * 4 + 2) (.int .u64 x.2.1.2.1) h1
 obtain ⟨h3, m3⟩ := owns_cellB (q := i * 4 + 3) (.int .u64 x.2.1.2.2) h2
 rw [fl_th] at h3
 exact ⟨h3, ((m0.trans m1 (fun _ _ h => h)).trans m2 (fun _ _ h => h)).trans m3 (fun _ _ h => h)⟩
theorem owns_free {w : World} {base : Nat} {e : TypeId} {s g n cap : Nat} {xs : List Value} (h : w.ownsRow base e s (.slice (some ⟨g, 0, none⟩) n cap) n xs) : (∀ o, w.frozen? ⟨g, o, none⟩ = false) ∧ g < w.heap.size ∧ base ≤ g := by
 obtain ⟨_, ⟨h0, _⟩ | ⟨g', cap', cur, hv, hg, hh, _⟩⟩ := h
 ·cases h0
 ·cases hv
  exact ⟨(tk_store hh).2, tk_lt hh, hg⟩
theorem infoSt : (Tryz.prog.info? 52).map (fun i => (i.zero, i.size, i.bytes)) = some (some (.agg #[.int .i64 0, .int .u64 0, .int .u64 0, .int .u64 0]), 4, 32) := by kernel_rfl
theorem own_form {w : World} {base : Nat} {e : TypeId} {s n : Nat} {v : Value} {xs : List Value} (h : w.ownsRow base e s v (n + 1) xs) : ∃ g c, v = .slice (some ⟨g, 0, none⟩) (n + 1) c := by
 obtain ⟨_, ⟨h0, h1⟩ | ⟨g, cap, cur, hv, _⟩⟩ := h
 ·cases h1
 ·exact ⟨g, cap, hv⟩
theorem owns_lsl {α : Type} {E : El α} {w : World} {base n : Nat} {e : TypeId} {v : Value} {l : List α} (h : w.ownsRow base e E.k v n (fl E l)) (hn : l.length = n) : Ls E w v l := by
 subst hn
 exact owns_ls h
section
variable {n : Nat} {R : Nat → Nat → List Tri} {s : Hf.Th} {l : List Hf.Th}
end
end Go.Proofs.YtdnnfgabdkkdjaaGreat.Lf

namespace Go.Proofs.YtdnnfgabdkkdjaaGreat
open Go.RowKit Go.Sort
section
variable {α : Type} {E : El α} {e : TypeId}
variable (E e) in
variable (mk : Nat → α)
variable (E e) in
end
end Go.Proofs.YtdnnfgabdkkdjaaGreat
