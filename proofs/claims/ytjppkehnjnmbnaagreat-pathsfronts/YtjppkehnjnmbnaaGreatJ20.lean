import Derived.Test.YtjppkehnjnmbnaaGreatJ19
import Derived.BigQuiet
import Derived.Test.YtjppkehnjnmbnaaGreatJ17
import Derived.Test.YtjppkehnjnmbnaaGreatGM1
import Derived.Test.YtjppkehnjnmbnaaGreatEqs
namespace Go.Proofs.YtjppkehnjnmbnaaGreat.Lf
open Go.RowKit Go.Sort Pt
open Df (hid LV EL EI infoI tk_store tk_lt)
attribute [local go_sem ↓] Go.wp_at_zero Go.wp_at_succ
theorem sm_row1 {w : World} {b c : Nat} {s : Hf.Th} (hb : w.heap[b]? = some (.cells #[.int .i64 s.1, .int .u64 s.2.1.1, .int .u64 s.2.1.2.1, .int .u64 s.2.1.2.2] 52 (0, 0))) : Ls EF w (.slice (some ⟨b, 0, none⟩) 1 c) [s] := by
 refine Or.inr ⟨b, 0, c, rfl, tk_lt hb, fun j u hj => ?_⟩
 rw [Nat.zero_add, (tk_store hb).1, ← Array.getElem?_toList]
 exact hj
end Go.Proofs.YtjppkehnjnmbnaaGreat.Lf

namespace Go.Proofs.YtjppkehnjnmbnaaGreat.Lf
open Go.RowKit Go.Sort Pt
open Df (hid Gph plN Gok GR NV Edg gof gvc Gcap EI tk_store tk_lt owns_form owns_caps)
attribute [local go_sem ↓] Go.wp_at_zero Go.wp_at_succ
theorem bt_len {g : Gph} {R : Nat → Nat → List Tri} (h : ∀ p, p < plN g.nodes → Res PX (StG g) p (some (R p))) (p q : Int) : (bt (plN g.nodes) R p q).length ≤ 64 := by
 unfold bt
 split
 ·rename_i hc
  exact (h p.toNat (by omega) q.toNat).2.2
 ·exact Nat.zero_le _
section
variable {M M2 tb rb n : Nat} {R : Nat → Nat → List Tri} {sv : Value} {l : List Hf.Th} {W : World}
end
end Go.Proofs.YtjppkehnjnmbnaaGreat.Lf

namespace Go.Proofs.YtjppkehnjnmbnaaGreat.Lf
open Go.RowKit Go.Sort Pt
open Df (Gph plN)
theorem wy_least {St : Nat → Nat → Tri → Prop} {p q : Nat} : ∀ (n : Nat) (a : Tri), (a.1.1 + a.1.2.1 + a.1.2.2).toNat ≤ n → Wy PX St p q a → ∃ m, Lea PX St p q m ∧ PX.ahd m a := by
 classical
 intro n
 induction n with
 | zero =>
  intro a ha hw
  refine ⟨a, ⟨hw, fun b _ hb => ?_⟩, PX_ok.refl a⟩
  have h1 := tri_bd a
  have h2 := tri_bd b
  obtain ⟨k1, k2, k3⟩ := hb
  exact tri_ext (by omega) (by omega) (by omega)
 | succ n ih =>
  intro a ha hw
  by_cases h : ∃ b, Wy PX St p q b ∧ PX.ahd b a ∧ b ≠ a
  ·obtain ⟨b, hb, hba, hne⟩ := h
   have h1 := tri_bd a
   have h2 := tri_bd b
   have hlt : (b.1.1 + b.1.2.1 + b.1.2.2).toNat ≤ n := by
    obtain ⟨k1, k2, k3⟩ := hba
    have : ¬ (b.1.1 = a.1.1 ∧ b.1.2.1 = a.1.2.1 ∧ b.1.2.2 = a.1.2.2) := fun e => hne (tri_ext e.1 e.2.1 e.2.2)
    omega
   obtain ⟨m, hm, hmb⟩ := ih b hlt hb
   exact ⟨m, hm, PX_ok.trans hmb hba⟩
  ·refine ⟨a, ⟨hw, fun b hb hba => ?_⟩, PX_ok.refl a⟩
   by_cases e : b = a
   ·exact e
   ·exact absurd ⟨b, hb, hba, e⟩ h
theorem res_cov {St : Nat → Nat → Tri → Prop} {p : Nat} {rows : Nat → List Tri} (h : Res PX St p (some rows)) (q : Nat) (a : Tri) (ha : Wy PX St p q a) : Cov PX (rows q) a := by
 obtain ⟨m, hm, hma⟩ := wy_least _ a (Nat.le_refl _) ha
 exact ⟨m, ((h q).2.1 m).2 hm, hma⟩
theorem frt_fro (all : List Tri) : Fro PX all (frt all) where
 so := List.Pairwise.imp (fun {a b} h => (Pc.tol_iff a b).1 h.1) (good_join (bel := Pc.bel) (fst := Pc.tol) Pc.ords good_nil all)
 mem a := (mem_least Pc.ords).trans ⟨fun h => ⟨h.1, fun b hb k => h.2 b hb ((Pc.bel_iff b a).2 k)⟩, fun h => ⟨h.1, fun b hb k => h.2 b hb ((Pc.bel_iff b a).1 k)⟩⟩
theorem frt_cov {all all' : List Tri} (h1 : ∀ a ∈ all, Cov PX all' a) (h2 : ∀ a ∈ all', Cov PX all a) : frt all = frt all' := Fro.of_cov PX_ok PX_anti (frt_fro all) (frt_fro all') h1 h2
theorem mem_onL {bl : List Tri} {t x : Tri} : x ∈ onL bl t ↔ ∃ b ∈ bl, thn3 b t = some x := by
 unfold onL
 rw [List.mem_filterMap]
theorem mem_allT {n : Nat} {R : Nat → Nat → List Tri} {q : Int} {l : List Hf.Th} {x : Tri} : x ∈ allT n R q l ↔ ∃ s ∈ l, x ∈ onL (bt n R s.1 q) s.2 := by
 unfold allT
 rw [List.mem_flatMap]
def cldB (n : Nat) (R : Nat → Nat → List Tri) (s u : Hf.Th) : Bool := (bt n R s.1 u.1).any (cldP s.2 u.2)
theorem bt_ne {n : Nat} {R : Nat → Nat → List Tri} {p q : Int} {x : Tri} (h : x ∈ bt n R p q) : ∃ i j : Nat, p = (i : Int) ∧ q = (j : Int) ∧ i < n ∧ j < n ∧ x ∈ R i j := by
 unfold bt at h
 split at h
 ·rename_i hh
  exact ⟨p.toNat, q.toNat, by omega, by omega, by omega, by omega, h⟩
 ·cases h
theorem cldP_iff {s u b : Tri} : cldP s u b = true ↔ ∃ c, thn3 b s = some c ∧ PX.ahd c u := by
 unfold cldP
 rw [Bool.and_eq_true]
 cases h : thn3 b s with
 | none => simp
 | some c =>
  rw [thv_some h, Pc.bel_iff]
  constructor
  ·rintro ⟨_, k⟩
   exact ⟨c, rfl, k⟩
  ·rintro ⟨d, e, k⟩
   cases e
   exact ⟨rfl, k⟩
section
variable {St : Nat → Nat → Tri → Prop} {n : Nat} {R : Nat → Nat → List Tri}
theorem cldB_iff (h : ∀ p, p < n → Res PX St p (some (R p))) {i j : Nat} (hi : i < n) (hj : j < n) {t u : Tri} : cldB n R ((i : Int), t) ((j : Int), u) = true ↔ Cld St i t j u := by
 rw [Cld.least (h i hi) (res_cov (h i hi))]
 unfold cldB
 rw [bt_in hi hj, List.any_eq_true]
 constructor
 ·rintro ⟨b, hb, k⟩
  exact ⟨b, hb, cldP_iff.1 k⟩
 ·rintro ⟨b, hb, k⟩
  exact ⟨b, hb, cldP_iff.2 k⟩
theorem cld_adds (h : ∀ p, p < n → Res PX St p (some (R p))) {s u : Hf.Th} (hc : cldB n R s u = true) (q : Int) {x : Tri} (hx : x ∈ onL (bt n R u.1 q) u.2) : Cov PX (onL (bt n R s.1 q) s.2) x := by
 obtain ⟨b, hb, e⟩ := mem_onL.1 hx
 obtain ⟨j, k, hj, rfl, hjn, hkn, hbR⟩ := bt_ne hb
 have hc0 := hc
 unfold cldB at hc0
 obtain ⟨b', hb', _⟩ := List.any_eq_true.1 hc0
 obtain ⟨i, _, hi, _, hin, _, _⟩ := bt_ne hb'
 obtain ⟨s1, s2⟩ := s
 obtain ⟨u1, u2⟩ := u
 simp only at hi hj e ⊢
 subst hi hj
 have h1 := (cldB_iff h hin hjn).1 hc
 have h2 : Cld St j u2 k x := (Cld.least (h j hjn) (res_cov (h j hjn))).2 ⟨b, hbR, x, e, PX_ok.refl x⟩
 obtain ⟨a, ha, c, hac, hcx⟩ := (Cld.least (h i hin) (res_cov (h i hin))).1 (h1.trans h2)
 exact ⟨c, mem_onL.2 ⟨a, by rw [bt_in hin hkn]; exact ha, hac⟩, hcx⟩
theorem frt_each (q : Int) (l : List Hf.Th) : frt (allT n R q l) = frt (l.flatMap fun s => frt (allT n R q [s])) := by
 refine frt_cov (fun a ha => ?_) (fun a ha => ?_)
 ·obtain ⟨s, hs, hx⟩ := mem_allT.1 ha
  obtain ⟨x, hx1, hx2⟩ := ((frt_fro (allT n R q [s])).open PX_ok a).2 ⟨a, mem_allT.2 ⟨s, by simp, hx⟩, PX_ok.refl a⟩
  exact ⟨x, List.mem_flatMap.2 ⟨s, hs, hx1⟩, hx2⟩
 ·obtain ⟨s, hs, hx⟩ := List.mem_flatMap.1 ha
  obtain ⟨s', hs', hx'⟩ := mem_allT.1 (((frt_fro _).mem a).1 hx).1
  simp at hs'
  subst hs'
  exact ⟨a, mem_allT.2 ⟨_, hs, hx'⟩, PX_ok.refl a⟩
theorem frt_more (h : ∀ p, p < n → Res PX St p (some (R p))) (q : Int) {l mo : List Hf.Th} {s : Hf.Th} (h1 : ∀ u ∈ mo, u ∈ l) (hm : s ∈ mo) (h2 : ∀ u ∈ l, u ∈ mo ∨ cldB n R s u = true) : frt (allT n R q mo) = frt (allT n R q l) := by
 refine frt_cov (fun a ha => ?_) (fun a ha => ?_)
 ·obtain ⟨u, hu, hx⟩ := mem_allT.1 ha
  exact ⟨a, mem_allT.2 ⟨u, h1 u hu, hx⟩, PX_ok.refl a⟩
 ·obtain ⟨u, hu, hx⟩ := mem_allT.1 ha
  rcases h2 u hu with k | k
  ·exact ⟨a, mem_allT.2 ⟨u, k, hx⟩, PX_ok.refl a⟩
  ·obtain ⟨x, hx1, hx2⟩ := cld_adds h k q hx
   exact ⟨x, mem_allT.2 ⟨s, hm, hx1⟩, hx2⟩
end
end Go.Proofs.YtjppkehnjnmbnaaGreat.Lf

namespace Go.Proofs.YtjppkehnjnmbnaaGreat.Lf
open Go.RowKit Go.Sort Pt
open Df (tk_store tk_lt)
theorem run_eqT2 (d : Nat) (a b c x y z : Int) (w : World) : Sem.run Tryz.prog (Op.equalIn (d + 2) 50 (.agg #[.int .u64 a, .int .u64 b, .int .u64 c]) (.agg #[.int .u64 x, .int .u64 y, .int .u64 z])) w = .ok (teq a b c x y z) w := by
 have u3 := Tryz.underlying37
 have a3 := Tryz.isAgg37
 have z3 := Tryz.sizeOf37
 have hS : Tryz.prog.underlying 50 = some (.struct (Tryz.prog.fieldsOf 50)) := by kernel_rfl
 have hp : Tryz.prog.stoodInHeld 50 = false := by kernel_rfl
 rw [show (d + 2 : Nat) = (d + 1) + 1 from rfl, run_equalIn_agg w (d + 1) 50 _ _ hS hp]
 simp only [Program.fieldsOf, Tryz.underlying50]
 go_simp
 by_cases h1 : a = x <;> by_cases h2 : b = y <;> by_cases h3 : c = z <;> simp [teq, h1, h2, h3]
theorem run_eqS (d : Nat) (p a b c q x y z : Int) (w : World) : Sem.run Tryz.prog (Op.equalIn (d + 3) 52 (.agg #[.int .i64 p, .int .u64 a, .int .u64 b, .int .u64 c]) (.agg #[.int .i64 q, .int .u64 x, .int .u64 y, .int .u64 z])) w = .ok (p == q && teq a b c x y z) w := by
 have u4 := Tryz.underlying3
 have a4 := Tryz.isAgg3
 have z4 := Tryz.sizeOf3
 have a5 := Tryz.isAgg50
 have z5 := Tryz.sizeOf50
 have hP := run_eqT2 d
 have hS : Tryz.prog.underlying 52 = some (.struct (Tryz.prog.fieldsOf 52)) := by kernel_rfl
 have hp : Tryz.prog.stoodInHeld 52 = false := by kernel_rfl
 rw [show (d + 3 : Nat) = (d + 2) + 1 from rfl, run_equalIn_agg w (d + 2) 52 _ _ hS hp]
 simp only [Program.fieldsOf, Tryz.underlying52]
 go_simp
 by_cases h1 : p = q <;> cases teq a b c x y z <;> simp [h1]
theorem run_eqTh (s u : Hf.Th) (w : World) : Sem.run Tryz.prog (Op.equalIn 10000 52 (.agg #[.int .i64 s.1, .int .u64 s.2.1.1, .int .u64 s.2.1.2.1, .int .u64 s.2.1.2.2]) (.agg #[.int .i64 u.1, .int .u64 u.2.1.1, .int .u64 u.2.1.2.1, .int .u64 u.2.1.2.2])) w = .ok (decide (s = u)) w := by
 rw [show (10000 : Nat) = 9997 + 3 from rfl, run_eqS]
 have : (s.1 == u.1 && teq s.2.1.1 s.2.1.2.1 s.2.1.2.2 u.2.1.1 u.2.1.2.1 u.2.1.2.2) = decide (s = u) := by
  rw [Bool.eq_iff_iff]
  simp only [teq, Bool.and_eq_true, beq_iff_eq, decide_eq_true_iff]
  constructor
  ·rintro ⟨h1, h2, h3, h4⟩
   obtain ⟨s1, s2⟩ := s
   obtain ⟨u1, u2⟩ := u
   simp only at h1 h2 h3 h4
   rw [h1, tri_ext h2 h3 h4]
  ·rintro rfl
   exact ⟨rfl, rfl, rfl, rfl⟩
 rw [this]
theorem run_neqTh {s u : Hf.Th} {b : Bool} (h : decide (s = u) = b) (w : World) : Sem.run Tryz.prog (Op.equalIn 10000 52 (.agg #[.int .i64 s.1, .int .u64 s.2.1.1, .int .u64 s.2.1.2.1, .int .u64 s.2.1.2.2]) (.agg #[.int .i64 u.1, .int .u64 u.2.1.1, .int .u64 u.2.1.2.1, .int .u64 u.2.1.2.2])) w = .ok b w := by rw [run_eqTh, h]
theorem owns_cellB {w : World} {base : Nat} {e : TypeId} {s g n cap q : Nat} {xs : List Value} (u : Value) (h : w.ownsRow base e s (.slice (some ⟨g, 0, none⟩) n cap) n xs) :
    (w.setCell ⟨g, q, none⟩ u).ownsRow base e s (.slice (some ⟨g, 0, none⟩) n cap) n (xs.set q u) ∧ Kp (fun k => k = g) w (w.setCell ⟨g, q, none⟩ u) := by
 obtain ⟨h1, ⟨h0, _⟩ | ⟨g', cap', cur, hv, hg, hh, h2, h3, h4, h5⟩⟩ := h
 ·cases h0
 ·cases hv
  have e1 := setCell_eq_setRow w g q _ _ _ u hh
  have hk1 : Kp (fun k => k = g) w (w.setCell ⟨g, q, none⟩ u) := by
   rw [e1]
   exact ⟨rfl, rfl, rfl, by simp [World.setRow], fun q _ hne => setRow_other _ g q _ (by omega)⟩
  refine ⟨⟨by simpa using h1, Or.inr ⟨g, cap, _, rfl, hg, by rw [e1]; exact setRow_heap _ g _ _ _ _ hh, h2, h3, ?_, ?_⟩⟩, hk1⟩
  ·simp [h4]
  ·rw [Array.toList_setIfInBounds, List.take_set, h5]
theorem fl_th (L : List Hf.Th) (i : Nat) (x : Hf.Th) : (((((fl EF L).set (i * 4) (.int .i64 x.1)).set (i * 4 + 1) (.int .u64 x.2.1.1)).set (i * 4 + 2) (.int .u64 x.2.1.2.1)).set (i * 4 + 3) (.int .u64 x.2.1.2.2)) = fl EF (L.set i x) := by
 induction L generalizing i with
 | nil => simp [fl]
 | cons y L ih =>
  rw [fl_cons]
  cases i with
  | zero => simp [EF, fl]
  | succ i =>
   rw [List.set_cons_succ, fl_cons, ← ih i, show (i + 1) * 4 = i * 4 + 4 by omega]
   simp [EF]
theorem owns_th {w : World} {base g N cap i : Nat} {L : List Hf.Th} (x : Hf.Th) (h : w.ownsRow base 52 4 (.slice (some ⟨g, 0, none⟩) N cap) N (fl EF L)) :
    ((((w.setCell ⟨g, i * 4, none⟩ (.int .i64 x.1)).setCell ⟨g, i * 4 + 1, none⟩ (.int .u64 x.2.1.1)).setCell ⟨g, i * 4 + 2, none⟩ (.int .u64 x.2.1.2.1)).setCell ⟨g, i * 4 + 3, none⟩ (.int .u64 x.2.1.2.2)).ownsRow base 52 4 (.slice (some ⟨g, 0, none⟩) N cap) N (fl EF (L.set i x)) ∧
     Kp (fun k => k = g) w ((((w.setCell ⟨g, i * 4, none⟩ (.int .i64 x.1)).setCell ⟨g, i * 4 + 1, none⟩ (.int .u64 x.2.1.1)).setCell ⟨g, i * 4 + 2, none⟩ (.int .u64 x.2.1.2.1)).setCell ⟨g, i * 4 + 3, none⟩ (.int .u64 x.2.1.2.2)) := by
 obtain ⟨h0, m0⟩ := owns_cellB (q := i * 4) (.int .i64 x.1) h
 obtain ⟨h1, m1⟩ := owns_cellB (q := i * 4 + 1) (.int .u64 x.2.1.1) h0
 obtain ⟨h2, m2⟩ := owns_cellB (q := i * 4 + 2) (.int .u64 x.2.1.2.1) h1
 obtain ⟨h3, m3⟩ := owns_cellB (q := i * 4 + 3) (.int .u64 x.2.1.2.2) h2
 rw [fl_th] at h3
 exact ⟨h3, ((m0.trans m1 (fun _ _ h => h)).trans m2 (fun _ _ h => h)).trans m3 (fun _ _ h => h)⟩
theorem owns_free {w : World} {base : Nat} {e : TypeId} {s g n cap : Nat} {xs : List Value} (h : w.ownsRow base e s (.slice (some ⟨g, 0, none⟩) n cap) n xs) : (∀ o, w.frozen? ⟨g, o, none⟩ = false) ∧ g < w.heap.size ∧ base ≤ g := by
 obtain ⟨_, ⟨h0, _⟩ | ⟨g', cap', cur, hv, hg, hh, _⟩⟩ := h
 ·cases h0
 ·cases hv
  exact ⟨(tk_store hh).2, tk_lt hh, hg⟩
theorem infoSt : (Tryz.prog.info? 52).map (fun i => (i.zero, i.size, i.bytes)) = some (some (.agg #[.int .i64 0, .int .u64 0, .int .u64 0, .int .u64 0]), 4, 32) := by kernel_rfl
theorem own_form {w : World} {base : Nat} {e : TypeId} {s n : Nat} {v : Value} {xs : List Value} (h : w.ownsRow base e s v (n + 1) xs) : ∃ g c, v = .slice (some ⟨g, 0, none⟩) (n + 1) c := by
 obtain ⟨_, ⟨h0, h1⟩ | ⟨g, cap, cur, hv, _⟩⟩ := h
 ·cases h1
 ·exact ⟨g, cap, hv⟩
theorem owns_lsl {α : Type} {E : El α} {w : World} {base n : Nat} {e : TypeId} {v : Value} {l : List α} (h : w.ownsRow base e E.k v n (fl E l)) (hn : l.length = n) : Ls E w v l := by
 subst hn
 exact owns_ls h
theorem owns_four {w : World} {base g n cap j : Nat} {l : List Hf.Th} (h : w.ownsRow base 52 4 (.slice (some ⟨g, 0, none⟩) n cap) n (fl EF l)) (hn : l.length = n) (hj : j < n) : (∃ v, w.cell? ⟨g, j * 4, none⟩ = some v) ∧ (∃ v, w.cell? ⟨g, j * 4 + 1, none⟩ = some v) ∧ (∃ v, w.cell? ⟨g, j * 4 + 2, none⟩ = some v) ∧ ∃ v, w.cell? ⟨g, j * 4 + 3, none⟩ = some v := by
 obtain ⟨d, hd⟩ : ∃ d, l[j]? = some d := ⟨l[j]'(by omega), by simp⟩
 obtain ⟨b, o, c, hv, _, x0, x1, x2, x3⟩ := EF_at (owns_lsl h hn) hd
 cases hv
 rw [Nat.zero_add] at x0 x1 x2 x3
 exact ⟨⟨_, x0⟩, ⟨_, x1⟩, ⟨_, x2⟩, _, x3⟩
def mor (n : Nat) (R : Nat → Nat → List Tri) (s : Hf.Th) (l : List Hf.Th) (j : Nat) : List Hf.Th := (l.take j).map (fun u => if decide (u ≠ s) && cldB n R s u then s else u) ++ (l.drop j ++ [s])
section
variable {n : Nat} {R : Nat → Nat → List Tri} {s : Hf.Th} {l : List Hf.Th}
theorem mor_zero : mor n R s l 0 = l ++ [s] := by simp [mor]
theorem mor_len {j : Nat} (h : j ≤ l.length) : (mor n R s l j).length = l.length + 1 := by simp [mor]; omega
theorem mor_yes {j : Nat} {u : Hf.Th} (hu : l[j]? = some u) (hc : (decide (u ≠ s) && cldB n R s u) = true) : (mor n R s l j).set j s = mor n R s l (j + 1) := by
 obtain ⟨hj, rfl⟩ := List.getElem?_eq_some_iff.1 hu
 unfold mor
 have hl : ((l.take j).map (fun u => if decide (u ≠ s) && cldB n R s u then s else u)).length = j := by simp; omega
 rw [List.set_append_right _ _ (by omega), hl, Nat.sub_self, List.drop_eq_getElem_cons hj, List.take_add_one, hu, Option.toList_some, List.map_append, List.map_singleton, if_pos hc, List.cons_append, List.set_cons_zero, List.append_assoc, List.singleton_append]
theorem mor_no {j : Nat} {u : Hf.Th} (hu : l[j]? = some u) (hc : (decide (u ≠ s) && cldB n R s u) = false) : mor n R s l (j + 1) = mor n R s l j := by
 obtain ⟨hj, rfl⟩ := List.getElem?_eq_some_iff.1 hu
 unfold mor
 rw [List.drop_eq_getElem_cons hj, List.take_add_one, hu, Option.toList_some, List.map_append, List.map_singleton, if_neg (by rw [hc]; simp), List.append_assoc, List.singleton_append, List.cons_append]
theorem mor_all : mor n R s l l.length = l.map (fun u => if decide (u ≠ s) && cldB n R s u then s else u) ++ [s] := by simp [mor]
theorem mor_in (hs : s ∈ l) {u : Hf.Th} (h : u ∈ mor n R s l l.length) : u ∈ l := by
 rw [mor_all] at h
 rcases List.mem_append.1 h with h | h
 ·obtain ⟨x, hx, rfl⟩ := List.mem_map.1 h
  split
  ·exact hs
  ·exact hx
 ·simp at h
  exact h ▸ hs
theorem mor_self : s ∈ mor n R s l l.length := by rw [mor_all]; simp
theorem mor_or {u : Hf.Th} (hu : u ∈ l) : u ∈ mor n R s l l.length ∨ cldB n R s u = true := by
 by_cases hc : (decide (u ≠ s) && cldB n R s u) = true
 ·rw [Bool.and_eq_true] at hc
  exact Or.inr hc.2
 ·refine Or.inl ?_
  rw [mor_all]
  exact List.mem_append.2 (Or.inl (List.mem_map.2 ⟨u, hu, if_neg hc⟩))
end
end Go.Proofs.YtjppkehnjnmbnaaGreat.Lf
