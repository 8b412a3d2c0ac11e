import Derived.Test.YtghofmhlmkpkcaaDoorBSame
import Derived.Test.YtghofmhlmkpkcaaDoorBGet
import Derived.Test.YtghofmhlmkpkcaaDoorBApart
namespace Go.Proofs.YtghofmhlmkpkcaaDoor.Wi
open Go.RowKit Go.Sort
attribute [local go_sem ↓] Go.wp_at_zero Go.wp_at_succ

section
variable {w : World} {ops : Array Oper} {rest : List Oper} {o : Oper} {a : Act} {Q : Exit → Act → World → Prop}
/-- 'append([]Change{}, l...)'. -/
theorem wpCL (hgd : o.guard = none) (s x : Operand) (ho : o.op = .call { callee := .builtin .append, args := #[s, x], argTypes := #[24, 24] })
    (hs : a.eval s = .slice (some ⟨w.heap.size, 0, none⟩) 0 0) (v1 : Value) (l : List Cx) (hx : a.eval x = v1) (hv : Ls EC w v1 l) (hbig : l.length ≤ 1048576)
    (h : ∀ v' w', Hid (w'.ownsRow w.heap.size 43 5 v' l.length (fl EC l)) → Hid (Below w.heap.size w w') → wpList Tryd.prog ops Q rest (a.put o.dst v') w') :
    wpList Tryd.prog ops Q (o :: rest) a (w.alloc (.cells #[] 43)) := by
  have hal := ((Gr.refl w).alloc (.cells #[] 43)).below
  refine wpAppL EC Tryd.underlying24 infoC rfl (by decide) hgd s x ho w.heap.size _ 0 [] hs (World.ownsRow_made w #[] 0 (Nat.le_refl _) (Nat.zero_le _) rfl) v1 l hx (hv.below hal) (by omega) (by unfold maxLen; omega) (by simp) ?_
  intro v' w' h1 h2
  refine h v' w' (owns_re h1 (by simp) (by simp)) ?_
  exact hal.trans ((Kp.grownBy h2 (fun _ h => h) : Kp (fun k => (Value.slice (some ⟨w.heap.size, 0, none⟩) 0 0).ownBlock = some k) _ w').below hal.size (fun k hk => by simp [Value.ownBlock] at hk; omega))
end
/-- The mark. -/
def mk7 : Cx := ⟨0, 0, 0, 0, 777, by decide⟩
/-- A list with a mark behind it, in a row of its own. -/
structure Lt (base : Nat) (w : World) (g cap : Nat) (l : List Cx) : Prop where
  ro : w.ownsRow base 43 5 (.slice (some ⟨g, 0, none⟩) (l ++ [mk7]).length cap) (l ++ [mk7]).length (fl EC (l ++ [mk7]))
theorem Lt.ls {base g cap : Nat} {w : World} {l : List Cx} (h : Lt base w g cap l) : Ls EC w (.slice (some ⟨g, 0, none⟩) l.length cap) l := by
  have := (owns_ls (E := EC) h.ro).cut (k := l.length) (by simp) cap
  rwa [List.take_left] at this
theorem Lt.cap {base g cap : Nat} {w : World} {l : List Cx} (h : Lt base w g cap l) : l.length + 1 ≤ cap ∧ base ≤ g ∧ g < w.heap.size := by
  have h1 := (owns_cap h.ro).1
  have h2 := h.ro.lt g rfl
  rw [List.length_append, List.length_singleton] at h1
  exact ⟨h1, h2.1, h2.2⟩
theorem Lt.kp {S : Nat → Prop} {base g cap : Nat} {w w' : World} {l : List Cx} (h : Lt base w g cap l) (hk : Kp S w w') (hS : ¬ S g) : Lt base w' g cap l :=
  ⟨owns_kp hk h.ro (fun k hk => by simp [Value.ownBlock] at hk; exact hk ▸ hS)⟩
theorem Lt.below {base g cap : Nat} {w w' : World} {l : List Cx} (h : Lt base w g cap l) (hb : Below w.heap.size w w') : Lt base w' g cap l := ⟨owns_below h.ro hb⟩
set_option maxHeartbeats 4000000 in
theorem lent_any {v : Value} {l : List Cx} (w : World) (hL : Ls EC w v l) (hl : l.length ≤ 1048576) :
    Calls Tryd.prog 13 #[v] w fun e w' => ∃ g cap, e = .returned (.slice (some ⟨g, 0, none⟩) l.length cap) ∧ Lt w.heap.size w' g cap l ∧ Below w.heap.size w w' := by
  have HL := hid hL
  obtain ⟨pv, cv, rfl⟩ := hL.form
  have HLL := hid hl
  clear hL
  go_enter Tryd.func13, Tryd.ntmps13
  go_wp2_with (at_builtin; refine wpCL (w := w) rfl _ _ rfl rfl _ l rfl HL.out HLL.out ?_)
  intro v2 w2 h2 b2
  go_wp2_with (at_builtin; refine wpC1 (w := w2) rfl _ _ rfl w.heap.size v2 l rfl h2.out mk7 rfl (by have := HLL.out; omega) b2.out.size _ ?_)
  intro v3 w3 h3 t3
  have B3 : Hid (Below w.heap.size w w3) := b2.out.trans (t3.out.1.below b2.out.size (fun k hk => (h2.out.lt k hk).1))
  have h3' : w3.ownsRow w.heap.size 43 5 v3 (l ++ [mk7]).length (fl EC (l ++ [mk7])) := owns_re h3.out (by simp) rfl
  obtain ⟨g, cap, rfl⟩ : ∃ g cap, v3 = .slice (some ⟨g, 0, none⟩) (l.length + 1) cap := by
    obtain ⟨_, ⟨_, h⟩ | ⟨g, cap, cur, hv, _⟩⟩ := h3'
    · simp at h
    · exact ⟨g, cap, by rw [hv, List.length_append, List.length_singleton]⟩
  have LT : Hid (Lt w.heap.size w3 g cap l) := ⟨by rw [List.length_append, List.length_singleton] at *; exact h3'⟩
  have hc : (l.length : Int) ≤ (cap : Int) := by have := LT.out.cap; omega
  have hz : (0 : Int) ≤ (l.length : Int) := by omega
  clear h2 h3 h3' t3 b2
  go_wp2_with fail
  go_ret
  exact ⟨g, cap, rfl, LT.out, B3.out⟩
set_option maxHeartbeats 4000000 in
theorem kept_any {base g cap : Nat} {v : Value} {l : List Cx} (w : World) (hT : Lt base w g cap l) (hL : Ls EC w v l) (hl : l.length ≤ 1048576) :
    Calls Tryd.prog 15 #[.slice (some ⟨g, 0, none⟩) l.length cap, v] w fun e w' => e = .returned (.bool true) ∧ Gr w w' := by
  have hsm := same_any w hT.ls hL (by omega)
  rw [decide_eq_true rfl] at hsm
  obtain ⟨pv, cv, rfl⟩ := hL.form
  obtain ⟨n, hn⟩ : ∃ n, l.length = n := ⟨_, rfl⟩
  have hcp := hT.cap
  obtain ⟨b1, o1, c1, e1, z1, x0, x1, x2, x3, x4⟩ := ls_atC (j := n) (p := mk7) (owns_ls (E := EC) hT.ro) (by rw [← hn]; simp)
  simp only [Value.slice.injEq, Option.some.injEq, Addr.mk.injEq] at e1
  obtain ⟨⟨rfl, rfl, -⟩, -, rfl⟩ := e1
  rw [hn] at hsm hl hcp ⊢
  have hq := fun W => run_eqC mk7 mk7 W
  rw [decide_eq_true rfl] at hq
  have XX := hid (⟨x0, x1, x2, x3, x4, z1⟩ : w.cell? ⟨g, 0 + n * 5, none⟩ = some (.int .i64 mk7.pl) ∧ w.cell? ⟨g, 0 + n * 5 + 1, none⟩ = some (.int .u64 (mk7.A : Nat)) ∧ w.cell? ⟨g, 0 + n * 5 + 2, none⟩ = some (.int .u64 (mk7.B : Nat)) ∧ w.cell? ⟨g, 0 + n * 5 + 3, none⟩ = some (.int .u64 (mk7.C : Nat)) ∧ w.cell? ⟨g, 0 + n * 5 + 4, none⟩ = some (.int .i64 mk7.N) ∧ g < w.heap.size)
  have hw : wrap64 ((n : Int) + 1) = ((n + 1 : Nat) : Int) := by unfold wrap64; omega
  have hz0 : (0 : Int) ≤ ((n + 1 : Nat) : Int) := by omega
  have hz1 : ((n + 1 : Nat) : Int) ≤ (cap : Int) := by omega
  have hz2 : (n : Int) ≤ (cap : Int) := by omega
  have hz3 : (0 : Int) ≤ (n : Int) := by omega
  have hz4 : (n : Int) < ((n + 1 : Nat) : Int) := by omega
  clear hT hL hn hcp x0 x1 x2 x3 x4 z1
  go_enter Tryd.func15, Tryd.ntmps15
  go_wp2_with fail
  refine hsm.mono ?_
  rintro r w2 ⟨rfl, g2⟩
  obtain ⟨x0, x1, x2, x3, x4, z1⟩ := XX.out
  have y0 := (g2.cell z1).trans x0
  have y1 := (g2.cell z1).trans x1
  have y2 := (g2.cell z1).trans x2
  have y3 := (g2.cell z1).trans x3
  have y4 := (g2.cell z1).trans x4
  have yl := Nat.lt_of_lt_of_le z1 g2.size
  rw [Nat.zero_add] at y0 y1 y2 y3 y4
  have G2 := hid g2
  clear hsm x0 x1 x2 x3 x4 z1 g2
  go_wp2_with fail
  go_ret
  exact ⟨rfl, G2.out⟩
/-- A change turned. -/
theorem trn_ok (c : Cx) : (-9223372036854775808 ≤ c.pl ∧ c.pl ≤ 9223372036854775807) ∧ (c.A < 18446744073709551616 ∧ c.B < 18446744073709551616 ∧ (c.C + 1) % 18446744073709551616 < 18446744073709551616) ∧ (-9223372036854775808 ≤ IntKind.i64.wrap (-c.N) ∧ IntKind.i64.wrap (-c.N) ≤ 9223372036854775807) := by
  have h := c.ok
  refine ⟨h.1, ⟨h.2.1.1, h.2.1.2.1, by omega⟩, ?_⟩
  rw [IntKind.wrap_i64]
  omega
def trn (c : Cx) : Cx := ⟨c.pl, c.A, c.B, (c.C + 1) % 18446744073709551616, IntKind.i64.wrap (-c.N), trn_ok c⟩
theorem flC_trn (L : List Cx) (k : Nat) (c : Cx) (h : L[k]? = some c) : ((fl EC L).set (k * 5 + 4) (.int .i64 (trn c).N)).set (k * 5 + 3) (.int .u64 ((trn c).C : Nat)) = fl EC (L.set k (trn c)) := by
  induction L generalizing k with
  | nil => simp at h
  | cons x L ih =>
    cases k with
    | zero =>
      simp at h
      subst h
      rfl
    | succ k =>
      have h' : L[k]? = some c := by simpa using h
      rw [List.set_cons_succ, fl_cons, fl_cons, ← ih k h']
      have e4 : (k + 1) * 5 + 4 = 5 + (k * 5 + 4) := by omega
      have e3 : (k + 1) * 5 + 3 = 5 + (k * 5 + 3) := by omega
      rw [e4, e3]
      have hl : (EC.enc x).length = 5 := rfl
      rw [List.set_append_right _ _ (by rw [hl]; omega), List.set_append_right _ _ (by rw [hl]; omega), hl]
      simp
end Go.Proofs.YtghofmhlmkpkcaaDoor.Wi
