import Derived.Test.YtghpekkncfckaaaCaPur
import Derived.Test.YtghpekkncfckaaaLRow
import Derived.Test.YtghpekkncfckaaaCompare
import Derived.Test.YtghpekkncfckaaaLSort
import Derived.Lib.SliceRun
import Derived.Deep.LoopGhost
import Derived.Deep.DeepCutAuto
import Derived.Deep.DrawnRows
import Derived.Deep.QuietTactic
import Derived.Laws.EntriesVeiled
namespace Go.Proofs.Ytghpekkncfckaaa.Ca
open Go.RowKit Go.Sort
attribute [local go_sem ↓] Go.wp_at_zero Go.wp_at_succ

theorem hid {p : Prop} (h : p) : Hid p := h
theorem tk_lt {w : World} {b : Nat} {o : Obj} (h : w.heap[b]? = some o) : b < w.heap.size := (Array.getElem?_eq_some_iff.1 h).1
theorem tk_set {w : World} {b : Nat} {cs : Array Value} {t : TypeId} (h : w.heap[b]? = some (.cells cs t (0, 0))) (i : Nat) (x : Value) : (w.setCell ⟨b, i, none⟩ x).heap[b]? = some (.cells (cs.setIfInBounds i x) t (0, 0)) ∧ Kp (fun k => k = b) w (w.setCell ⟨b, i, none⟩ x) := by
  have e1 := setCell_eq_setRow w b i _ _ _ x h
  rw [e1]
  exact ⟨setRow_heap _ b _ _ _ _ h, rfl, rfl, rfl, by simp [World.setRow], fun q _ hne => setRow_other _ b q _ (by omega)⟩
theorem tk_store {w : World} {b : Nat} {cs : Array Value} {t : TypeId} (h : w.heap[b]? = some (.cells cs t (0, 0))) : (∀ i, w.cell? ⟨b, i, none⟩ = cs[i]?) ∧ ∀ i, w.frozen? ⟨b, i, none⟩ = false := by
  refine ⟨fun i => ?_, fun i => ?_⟩
  · simp [World.cell?, h]
  · simp [World.frozen?, h]
abbrev tv (t : T3) : Value := .agg #[.int .u64 t.1, .int .u64 t.2.1, .int .u64 t.2.2]
def ET : El T3 where
  k := 3
  enc t := [.int .u64 t.1, .int .u64 t.2.1, .int .u64 t.2.2]
  len _ := rfl
  one x u hu := by
    simp at hu
    rcases hu with rfl | rfl | rfl <;> rfl
abbrev cv (x : Ct) : Value := .agg #[.int .u64 x.a, .int .u64 x.b, .int .u64 x.c, .int .u64 x.k, .int .u64 x.v]
def EC : El Ct where
  k := 5
  enc x := [.int .u64 x.a, .int .u64 x.b, .int .u64 x.c, .int .u64 x.k, .int .u64 x.v]
  len _ := rfl
  one x u hu := by
    simp at hu
    rcases hu with rfl | rfl | rfl | rfl | rfl <;> rfl
theorem infoT : (Try.prog.info? 25).map (fun i => (i.zero, i.size, i.bytes)) = some (some (.agg #[.int .u64 0, .int .u64 0, .int .u64 0]), 3, 24) := by kernel_rfl
theorem infoC : (Try.prog.info? 36).map (fun i => (i.zero, i.size, i.bytes)) = some (some (.agg #[.int .u64 0, .int .u64 0, .int .u64 0, .int .u64 0, .int .u64 0]), 5, 40) := by kernel_rfl
/-- The cells of a time, of a catch. -/
def Tc (w : World) (b o : Nat) (t : T3) : Prop := w.cell? ⟨b, o, none⟩ = some (.int .u64 t.1) ∧ w.cell? ⟨b, o + 1, none⟩ = some (.int .u64 t.2.1) ∧ w.cell? ⟨b, o + 2, none⟩ = some (.int .u64 t.2.2)
def Cc (w : World) (b o : Nat) (x : Ct) : Prop := w.cell? ⟨b, o, none⟩ = some (.int .u64 x.a) ∧ w.cell? ⟨b, o + 1, none⟩ = some (.int .u64 x.b) ∧ w.cell? ⟨b, o + 2, none⟩ = some (.int .u64 x.c) ∧ w.cell? ⟨b, o + 3, none⟩ = some (.int .u64 x.k) ∧ w.cell? ⟨b, o + 4, none⟩ = some (.int .u64 x.v)
theorem atT {w : World} {v : Value} {ts : List T3} (h : Ls ET w v ts) {j : Nat} {t : T3} (hj : ts[j]? = some t) :
    ∃ b off c, v = .slice (some ⟨b, off, none⟩) ts.length c ∧ b < w.heap.size ∧ Tc w b (off + j * 3) t := by
  obtain ⟨b, off, c, hv, hb, hc⟩ := h.get hj
  exact ⟨b, off, c, hv, hb, hc 0 _ (by decide) rfl, hc 1 _ (by decide) rfl, hc 2 _ (by decide) rfl⟩
theorem atC {w : World} {v : Value} {ts : List Ct} (h : Ls EC w v ts) {j : Nat} {x : Ct} (hj : ts[j]? = some x) :
    ∃ b off c, v = .slice (some ⟨b, off, none⟩) ts.length c ∧ b < w.heap.size ∧ Cc w b (off + j * 5) x := by
  obtain ⟨b, off, c, hv, hb, hc⟩ := h.get hj
  exact ⟨b, off, c, hv, hb, hc 0 _ (by decide) rfl, hc 1 _ (by decide) rfl, hc 2 _ (by decide) rfl, hc 3 _ (by decide) rfl, hc 4 _ (by decide) rfl⟩
theorem Tc.below {w w' : World} {b o : Nat} {t : T3} (h : Tc w b o t) (hb : b < w.heap.size) (hB : Below w.heap.size w w') : Tc w' b o t :=
  ⟨(hB.cell (p := ⟨b, o, none⟩) hb).trans h.1, (hB.cell (p := ⟨b, o + 1, none⟩) hb).trans h.2.1, (hB.cell (p := ⟨b, o + 2, none⟩) hb).trans h.2.2⟩
theorem Cc.below {w w' : World} {b o : Nat} {x : Ct} (h : Cc w b o x) (hb : b < w.heap.size) (hB : Below w.heap.size w w') : Cc w' b o x :=
  ⟨(hB.cell (p := ⟨b, o, none⟩) hb).trans h.1, (hB.cell (p := ⟨b, o + 1, none⟩) hb).trans h.2.1, (hB.cell (p := ⟨b, o + 2, none⟩) hb).trans h.2.2.1, (hB.cell (p := ⟨b, o + 3, none⟩) hb).trans h.2.2.2.1, (hB.cell (p := ⟨b, o + 4, none⟩) hb).trans h.2.2.2.2⟩
theorem cc_new (w : World) (x : Ct) : Cc (w.alloc (.cells #[.int .u64 x.a, .int .u64 x.b, .int .u64 x.c, .int .u64 x.k, .int .u64 x.v] 36)) w.heap.size 0 x := by
  have hh := heap_new' w (.cells #[.int .u64 x.a, .int .u64 x.b, .int .u64 x.c, .int .u64 x.k, .int .u64 x.v] 36)
  simp only [Cc, World.cell?, hh]
  exact ⟨rfl, rfl, rfl, rfl, rfl⟩
theorem tc_new (w : World) (x : T3) : Tc (w.alloc (.cells #[.int .u64 x.1, .int .u64 x.2.1, .int .u64 x.2.2] 25)) w.heap.size 0 x := by
  have hh := heap_new' w (.cells #[.int .u64 x.1, .int .u64 x.2.1, .int .u64 x.2.2] 25)
  simp only [Tc, World.cell?, hh]
  exact ⟨rfl, rfl, rfl⟩
theorem teq_dec (s t : T3) : teq s.1 s.2.1 s.2.2 t.1 t.2.1 t.2.2 = decide (s = t) := by
  rw [Bool.eq_iff_iff, teq_iff, decide_eq_true_iff]
  exact ⟨fun h => Prod.ext h.1 (Prod.ext h.2.1 h.2.2), fun h => by subst h; exact ⟨rfl, rfl, rfl⟩⟩
theorem run_eqT2 (d : Nat) (a b c x y z : Int) (w : World) : Sem.run Try.prog (Op.equalIn (d + 2) 25 (.agg #[.int .u64 a, .int .u64 b, .int .u64 c]) (.agg #[.int .u64 x, .int .u64 y, .int .u64 z])) w = .ok (teq a b c x y z) w := by
  have u3 := Try.underlying23
  have a3 := Try.isAgg23
  have z3 := Try.sizeOf23
  have hS : Try.prog.underlying 25 = some (.struct (Try.prog.fieldsOf 25)) := by kernel_rfl
  have hp : Try.prog.stoodInHeld 25 = false := by kernel_rfl
  rw [show (d + 2 : Nat) = (d + 1) + 1 from rfl, run_equalIn_agg w (d + 1) 25 _ _ hS hp]
  simp only [Program.fieldsOf, Try.underlying25]
  go_simp
  by_cases h1 : a = x <;> by_cases h2 : b = y <;> by_cases h3 : c = z <;> simp [teq, h1, h2, h3]
theorem run_eqR2 (d : Nat) (a b x y : Int) (w : World) : Sem.run Try.prog (Op.equalIn (d + 2) 34 (.agg #[.int .u64 a, .int .u64 b]) (.agg #[.int .u64 x, .int .u64 y])) w = .ok (a == x && b == y) w := by
  have u3 := Try.underlying23
  have a3 := Try.isAgg23
  have z3 := Try.sizeOf23
  have hS : Try.prog.underlying 34 = some (.struct (Try.prog.fieldsOf 34)) := by kernel_rfl
  have hp : Try.prog.stoodInHeld 34 = false := by kernel_rfl
  rw [show (d + 2 : Nat) = (d + 1) + 1 from rfl, run_equalIn_agg w (d + 1) 34 _ _ hS hp]
  simp only [Program.fieldsOf, Try.underlying34]
  go_simp
  by_cases h1 : a = x <;> by_cases h2 : b = y <;> simp [h1, h2]
theorem ct_eqb (x y : Ct) : (teq x.a x.b x.c y.a y.b y.c && (x.k == y.k && x.v == y.v)) = decide (x = y) := by
  rw [Bool.eq_iff_iff]
  simp only [Bool.and_eq_true, beq_iff_eq, teq_iff, decide_eq_true_iff]
  exact ⟨fun h => ct_ext h.1.1 h.1.2.1 h.1.2.2 h.2.1 h.2.2, fun h => by subst h; exact ⟨⟨rfl, rfl, rfl⟩, rfl, rfl⟩⟩
theorem run_eqC (x y : Ct) (w : World) : Sem.run Try.prog (Op.equalIn 10000 36 (cv x) (cv y)) w = .ok (decide (x = y)) w := by
  rw [← ct_eqb]
  have a5 := Try.isAgg25
  have z5 := Try.sizeOf25
  have a6 := Try.isAgg34
  have z6 := Try.sizeOf34
  have hT := run_eqT2 9997
  have hR := run_eqR2 9997
  have hS : Try.prog.underlying 36 = some (.struct (Try.prog.fieldsOf 36)) := by kernel_rfl
  have hp : Try.prog.stoodInHeld 36 = false := by kernel_rfl
  rw [show (10000 : Nat) = 9999 + 1 from rfl, run_equalIn_agg w 9999 36 _ _ hS hp]
  simp only [Program.fieldsOf, Try.underlying36]
  go_simp
  cases teq x.a x.b x.c y.a y.b y.c <;> by_cases h1 : x.k = y.k <;> by_cases h2 : x.v = y.v <;> simp [h1, h2]

/-- The order of catches as a number. -/
def ccm (x y : Ct) : Int := or3 (tcmp x.a x.b x.c y.a y.b y.c) (c64 x.k y.k) (c64 x.v y.v)
theorem c64_neg (x y : Int) : c64 x y < 0 ↔ x < y := by unfold c64; (repeat split) <;> omega
theorem c64_zero (x y : Int) : c64 x y = 0 ↔ x = y := by unfold c64; (repeat split) <;> omega
theorem tcmp_neg (a b c x y z : Int) : tcmp a b c x y z < 0 ↔ a < x ∨ (a = x ∧ (b < y ∨ (b = y ∧ c < z))) := by
  have h1 := c64_neg a x; have h2 := c64_zero a x; have h3 := c64_neg b y; have h4 := c64_zero b y; have h5 := c64_neg c z
  unfold tcmp or3
  generalize c64 a x = p at *; generalize c64 b y = q at *; generalize c64 c z = r at *
  (repeat split) <;> omega
theorem tcmp_zero (a b c x y z : Int) : tcmp a b c x y z = 0 ↔ a = x ∧ b = y ∧ c = z := by
  have h2 := c64_zero a x; have h4 := c64_zero b y; have h5 := c64_zero c z
  unfold tcmp or3
  generalize c64 a x = p at *; generalize c64 b y = q at *; generalize c64 c z = r at *
  (repeat split) <;> omega
theorem ltOf_ccm (x y : Ct) : ltOf ccm x y = clt x y := by
  rw [Bool.eq_iff_iff, clt_iff]
  unfold ltOf ccm
  rw [decide_eq_true_iff]
  have h1 := tcmp_neg x.a x.b x.c y.a y.b y.c; have h2 := tcmp_zero x.a x.b x.c y.a y.b y.c; have h3 := c64_neg x.k y.k; have h4 := c64_zero x.k y.k; have h5 := c64_neg x.v y.v
  unfold or3
  generalize tcmp x.a x.b x.c y.a y.b y.c = p at *; generalize c64 x.k y.k = q at *; generalize c64 x.v y.v = r at *
  (repeat split) <;> omega
theorem swoC : SWO (ltOf ccm) where
  irrefl x := by rw [ltOf_ccm]; exact clt_irr x
  trans x y z h1 h2 := by rw [ltOf_ccm] at *; exact clt_tr h1 h2
  ntrans x y z h1 h2 := by rw [ltOf_ccm] at *; exact clt_nt h1 h2
theorem totC (x y : Ct) (h1 : ltOf ccm x y = false) (h2 : ltOf ccm y x = false) : x = y := by
  rw [ltOf_ccm] at h1 h2
  exact clt_tot h1 h2
theorem srtBy_ccm (l : List Ct) : srtBy ccm l = srt l := by
  unfold srtBy srt
  congr 1
  funext x y
  rw [ltOf_ccm]
end Go.Proofs.Ytghpekkncfckaaa.Ca
