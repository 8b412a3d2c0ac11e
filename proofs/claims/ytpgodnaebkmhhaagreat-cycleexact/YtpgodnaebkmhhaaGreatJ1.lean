import Derived.Test.YtpgodnaebkmhhaaGreatGQs2
import Derived.BigQuiet
import Derived.Test.YtpgodnaebkmhhaaGreatGHang
namespace Go.Proofs.YtpgodnaebkmhhaaGreat.Df
open Go.RowKit Go.Sort
attribute [local go_sem ↓] Go.wp_at_zero Go.wp_at_succ

set_option maxHeartbeats 1000000 in
/-- slices.Index over ints: the first place of a number, or -1. -/
theorem indexI_any {M : Nat} {v : Value} {l : List Int} (x : Int) (w : World) (hL : Lz EI M w v l) (hl : l.length ≤ 140737488351232) : Calls Tryz.prog 51 #[v, .int .i64 x] w fun r w' => w' = w ∧ ((∃ k : Nat, r = .returned (.int .i64 (k : Nat)) ∧ l[k]? = some x ∧ ∀ j, j < k → l[j]? ≠ some x) ∨ (r = .returned (.int .i64 (-1)) ∧ x ∉ l)) := by
  obtain ⟨p, c, rfl⟩ := hL.form
  have HL := hid hL
  clear hL
  go_enter Tryz.func51, Tryz.ntmps51
  go_wp2_with fail
  go_loopw [8] (fun s8 wr => ∃ i : Nat, i ≤ l.length ∧ s8 = .int .i64 (i : Nat) ∧ wr = w ∧ Hid (∀ j, j < i → l[j]? ≠ some x)) (fun s8 _ => l.length - (RowKit.intOf s8).toNat)
  case atStart => exact ⟨0, Nat.zero_le _, rfl, rfl, fun j hj => absurd hj (Nat.not_lt_zero _)⟩
  case round =>
    obtain ⟨i, hi, rfl, hw, HI⟩ := hrel
    subst hw
    by_cases hlt : i < l.length
    · have hltz : (i : Int) < (l.length : Int) := by omega
      have hi0 : (0 : Int) ≤ (i : Int) := by omega
      obtain ⟨y, hy⟩ : ∃ y, l[i]? = some y := ⟨l[i], by simp⟩
      obtain ⟨b1, o1, c1, e1, z1, x0⟩ := ls_atI (HL.out.ls hy) hy
      simp only [Value.slice.injEq] at e1
      obtain ⟨rfl, -, rfl⟩ := e1
      have HY := hid hy
      clear hy
      by_cases hxy : x = y
      · subst hxy
        go_wp2_with fail
        go_ret
        exact ⟨rfl, Or.inl ⟨i, rfl, HY.out, HI.out⟩⟩
      · have hz : (x == y) = false := by simpa using hxy
        have FIN : Hid (∀ j, j < i + 1 → l[j]? ≠ some x) := fun j hj h => by
          by_cases e : j = i
          · subst e
            rw [HY.out] at h
            exact hxy (Option.some.inj h).symm
          · exact HI.out j (by omega) h
        go_wp2_with fail
        go_roundw
        case rel => exact ⟨i + 1, by omega, by go_num, trivial, FIN.out⟩
        case measure => simp [RowKit.intOf]; omega
    · have hltz : ¬ (i : Int) < (l.length : Int) := by omega
      go_wp2_with fail
      go_ret
      refine ⟨rfl, Or.inr ⟨rfl, fun hm => ?_⟩⟩
      obtain ⟨j, hj⟩ := List.mem_iff_getElem?.1 hm
      exact HI.out j (by have := (List.getElem?_eq_some_iff.1 hj).1; omega) hj
set_option maxHeartbeats 1000000 in
theorem sameI_eq {M : Nat} {va vb : Value} {l : List Int} (w : World) (ha : Lz EI M w va l) (hb : Lz EI M w vb l) (hl : l.length ≤ 140737488355328) : Calls Tryz.prog 19 #[va, vb] w fun e w' => e = .returned (.bool true) ∧ Gr w w' := by
  obtain ⟨pa, ca, rfl⟩ := ha.form
  obtain ⟨pb, cb, rfl⟩ := hb.form
  have hm : Tryz.prog.follows .mixedOrders = true := by kernel_rfl
  have Ha := hid ha
  have Hb := hid hb
  clear ha hb
  go_enter Tryz.func19, Tryz.ntmps19
  go_wp2_with fail
  go_loopw [5] (fun s5 wr => ∃ k : Nat, k ≤ l.length ∧ s5 = .int .i64 (k : Nat) ∧ Gr w wr) (fun s5 _ => l.length - (RowKit.intOf s5).toNat)
  case atStart => exact ⟨0, Nat.zero_le _, rfl, Gr.refl _⟩
  case round =>
    obtain ⟨k, hk, rfl, hgr⟩ := hrel
    by_cases hlt : k < l.length
    · have hltz : (k : Int) < (l.length : Int) := by omega
      have hk0 : (0 : Int) ≤ (k : Int) := by omega
      obtain ⟨s, hs⟩ : ∃ s, l[k]? = some s := ⟨l[k], by simp⟩
      obtain ⟨b1, o1, c1, e1, z1, x0⟩ := ls_atI ((Ha.out.below hgr.below).ls hs) hs
      obtain ⟨b2, o2, c2, e2, z2, y0⟩ := ls_atI ((Hb.out.below hgr.below).ls hs) hs
      simp only [Value.slice.injEq] at e1 e2
      obtain ⟨rfl, -, rfl⟩ := e1
      obtain ⟨rfl, -, rfl⟩ := e2
      have GR' := hid hgr
      clear hs hgr
      go_wp2_with fail
      go_quiet (fail)
      go_wp2_with fail
      go_roundw
      case rel => exact ⟨k + 1, by omega, by go_num, GR'.out.drewN _⟩
      case measure => simp [RowKit.intOf]; omega
    · have hltz : ¬ (k : Int) < (l.length : Int) := by omega
      go_wp2_with fail
      go_ret
      exact ⟨rfl, hgr⟩
end Go.Proofs.YtpgodnaebkmhhaaGreat.Df

namespace Go.Proofs.YtpgodnaebkmhhaaGreat.Df
open Go.RowKit Go.Sort

/-- A slice as an element. -/
structure LV where
  q : Option Addr
  m : Nat
  c : Nat
abbrev LV.v (x : LV) : Value := .slice x.q x.m x.c
def EL : El LV where
  k := 1
  enc x := [x.v]
  len _ := rfl
  one x u hu := by
    simp at hu
    subst hu
    rfl
theorem ls_atL {w : World} {v : Value} {ts : List LV} (h : Ls EL w v ts) {j : Nat} {x : LV} (hj : ts[j]? = some x) : ∃ b off c, v = .slice (some ⟨b, off, none⟩) ts.length c ∧ b < w.heap.size ∧ w.cell? ⟨b, off + j, none⟩ = some x.v := by
  obtain ⟨b, off, c, hv, hb, hc⟩ := h.get hj
  have h0 := hc 0 _ (by decide) rfl
  simp only [show EL.k = 1 from rfl, Nat.mul_one, Nat.add_zero] at h0
  exact ⟨b, off, c, hv, hb, h0⟩
/-- Lists of numbers, one behind the other, that are read. -/
def Ff (M : Nat) (w : World) (v : Value) (ls : List (List Int)) : Prop := ∃ vs : List LV, Lz EL M w v vs ∧ vs.length = ls.length ∧ ∀ (i : Nat) (x : LV) (l : List Int), vs[i]? = some x → ls[i]? = some l → Lz EI M w x.v l
section
variable {M : Nat} {w w' : World} {v : Value} {ls : List (List Int)}
theorem Ff.form (h : Ff M w v ls) : ∃ p c, v = .slice p ls.length c := by
  obtain ⟨vs, h1, h2, _⟩ := h
  rw [← h2]
  exact h1.form
theorem Ff.below (h : Ff M w v ls) (hb : Below w.heap.size w w') : Ff M w' v ls := by
  obtain ⟨vs, h1, h2, h3⟩ := h
  exact ⟨vs, h1.below hb, h2, fun i x l hx hl => (h3 i x l hx hl).below hb⟩
theorem Ff.at (h : Ff M w v ls) {i : Nat} {l : List Int} (hl : ls[i]? = some l) : ∃ b off c q c2, v = .slice (some ⟨b, off, none⟩) ls.length c ∧ b < w.heap.size ∧ w.cell? ⟨b, off + i, none⟩ = some (.slice q l.length c2) ∧ Lz EI M w (.slice q l.length c2) l := by
  obtain ⟨vs, h1, h2, h3⟩ := h
  have hi := (List.getElem?_eq_some_iff.1 hl).1
  obtain ⟨x, hx⟩ : ∃ x, vs[i]? = some x := ⟨vs[i]'(by omega), by simp⟩
  have hz := h3 i x l hx hl
  obtain ⟨b, off, c, hv, hb, hc⟩ := ls_atL (h1.ls hx) hx
  obtain ⟨q, c2, hq⟩ := hz.form
  rw [hq] at hc hz
  exact ⟨b, off, c, q, c2, by rw [hv, h2], hb, hc, hz⟩
end
/-- How often a number stands in lists. -/
def cntL (ls : List (List Int)) (x : Int) : Nat := (ls.map fun l => l.count x).sum
theorem cntL_append (a b : List (List Int)) (x : Int) : cntL (a ++ b) x = cntL a x + cntL b x := by simp [cntL]
theorem cntL_one (l : List Int) (x : Int) : cntL [l] x = l.count x := by simp [cntL]
end Go.Proofs.YtpgodnaebkmhhaaGreat.Df

namespace Go.Proofs.YtpgodnaebkmhhaaGreat.Df
open Go.RowKit Go.Sort

/-- A list by a function of its places. -/
def fnL (n : Nat) (f : Nat → Int) : List Int := (List.range n).map f
theorem fnL_len (n : Nat) (f : Nat → Int) : (fnL n f).length = n := by simp [fnL]
theorem fnL_get {n : Nat} (f : Nat → Int) {k : Nat} (h : k < n) : (fnL n f)[k]? = some (f k) := by simp [fnL, h]
/-- One number is another. -/
def upd (f : Nat → Int) (k : Nat) (x : Int) : Nat → Int := fun j => if j = k then x else f j
theorem fnL_set (n : Nat) (f : Nat → Int) (k : Nat) (x : Int) : (fnL n f).set k x = fnL n (upd f k x) := by
  refine List.ext_getElem? fun j => ?_
  rw [List.getElem?_set]
  by_cases hj : j < n
  · by_cases e : k = j
    · subst e
      rw [if_pos rfl, if_pos (by rw [fnL_len]; exact hj), fnL_get _ hj]
      simp [upd]
    · rw [if_neg e, fnL_get _ hj, fnL_get _ hj]
      have : ¬ j = k := fun h => e h.symm
      simp [upd, this]
  · have h2 : (fnL n (upd f k x))[j]? = none := List.getElem?_eq_none (by rw [fnL_len]; omega)
    rw [h2]
    split
    · rw [if_neg (by rw [fnL_len]; omega)]
    · exact List.getElem?_eq_none (by rw [fnL_len]; omega)
theorem fnL_ext {n : Nat} {f g : Nat → Int} (h : ∀ k, k < n → f k = g k) : fnL n f = fnL n g := by
  unfold fnL
  exact List.map_congr_left fun k hk => h k (List.mem_range.1 hk)
theorem fnL_zero (n : Nat) : List.replicate n (0 : Int) = fnL n (fun _ => 0) := by
  refine List.ext_getElem? fun j => ?_
  by_cases hj : j < n
  · rw [fnL_get _ hj]
    simp [hj]
  · rw [List.getElem?_eq_none (by simp; omega), List.getElem?_eq_none (by rw [fnL_len]; omega)]
/-- The lowest place that waits for none. -/
def zeroN (n : Nat) (f : Nat → Int) : Option Nat := (List.range n).find? fun k => f k == 0
/-- What the places wait for when one is listed. -/
def stepN (ls : List (List Int)) (f : Nat → Int) (p : Nat) : Nat → Int := fun k => (if k = p then -1 else f k) - (((ls[p]?).getD []).count (k : Int) : Nat)
/-- The order so far, and what is waited for; none: there is no order. -/
def ordN (n : Nat) (ls : List (List Int)) : Nat → Option (List Int × (Nat → Int))
  | 0 => some ([], fun k => (cntL ls (k : Int) : Nat))
  | t + 1 => match ordN n ls t with
    | none => none
    | some (o, f) => match zeroN n f with
      | none => none
      | some p => some (o ++ [(p : Int)], stepN ls f p)
end Go.Proofs.YtpgodnaebkmhhaaGreat.Df

namespace Go.Proofs.YtpgodnaebkmhhaaGreat.Df
open Go.RowKit Go.Sort

theorem fl_I (l : List Int) : fl EI l = l.map (Value.int .i64) := by
  induction l with
  | nil => rfl
  | cons x l ih => rw [fl_cons, ih]; rfl
theorem fl_Iset (S : List Int) (e : Nat) (x : Int) : (fl EI S).set e (.int .i64 x) = fl EI (S.set e x) := by rw [fl_I, fl_I, List.map_set]
theorem cntL_le {ls : List (List Int)} {m : Nat} (h : ∀ l ∈ ls, l.length ≤ m) (x : Int) : cntL ls x ≤ ls.length * m := by
  induction ls with
  | nil => simp [cntL]
  | cons l ls ih =>
    have h1 := ih fun l hl => h l (by simp [hl])
    have h2 := h l (by simp)
    have h3 : l.count x ≤ l.length := List.count_le_length
    have h4 : cntL (l :: ls) x = l.count x + cntL ls x := by simp [cntL]
    rw [h4, List.length_cons, Nat.add_mul, Nat.one_mul]
    omega
theorem count_snoc {l : List Int} {k : Nat} {x : Int} (hx : l[k]? = some x) (y : Int) : (l.take (k + 1)).count y = (l.take k).count y + if x = y then 1 else 0 := by
  rw [List.take_add_one, hx, List.count_append]
  simp [List.count_singleton]
theorem cntL_snoc {ls : List (List Int)} {i : Nat} {l : List Int} (hl : ls[i]? = some l) (y : Int) : cntL (ls.take (i + 1)) y = cntL (ls.take i) y + l.count y := by
  rw [List.take_add_one, hl, cntL_append]
  simp [cntL]
/-- What is waited for, as it lies. -/
structure Wt (w : World) (n g : Nat) (f : Nat → Int) (W : World) : Prop where
  bl : Below w.heap.size w W
  row : W.ownsRow w.heap.size 3 1 (.slice (some ⟨g, 0, none⟩) n n) n (fl EI (fnL n f))
section
variable {w W W' : World} {n g : Nat} {f : Nat → Int}
theorem Wt.below (h : Wt w n g f W) (hb : Below W.heap.size W W') : Wt w n g f W' := ⟨h.bl.trans (hb.mono h.bl.size), owns_below h.row hb⟩
theorem Wt.set (h : Wt w n g f W) (k : Nat) (x : Int) : Wt w n g (upd f k x) (W.setCell ⟨g, k, none⟩ (.int .i64 x)) ∧ Kp (fun j => j = g) W (W.setCell ⟨g, k, none⟩ (.int .i64 x)) := by
  obtain ⟨h1, h2⟩ := owns_one h.row k (.int .i64 x)
  rw [fl_Iset, fnL_set] at h1
  exact ⟨⟨h.bl.trans (h2.below h.bl.size (fun j e => by rw [e]; exact (owns_rd h.row g rfl).1)), h1⟩, h2⟩
theorem Wt.cell (h : Wt w n g f W) {k : Nat} (hk : k < n) : W.cell? ⟨g, k, none⟩ = some (.int .i64 (f k)) ∧ g < W.heap.size := by
  have hr : W.ownsRow w.heap.size 3 1 (.slice (some ⟨g, 0, none⟩) n n) (fnL n f).length (fl EI (fnL n f)) := owns_re h.row (fnL_len n f).symm rfl
  obtain ⟨b, o, c, hv, hb, hx⟩ := (owns_ls (E := EI) hr).get (fnL_get f hk)
  simp only [Value.slice.injEq, Option.some.injEq, Addr.mk.injEq] at hv
  obtain ⟨⟨rfl, rfl, -⟩, -, -⟩ := hv
  have h0 := hx 0 _ (by decide) rfl
  simp only [Nat.zero_add, show EI.k = 1 from rfl, Nat.mul_one, Nat.add_zero] at h0
  exact ⟨h0, hb⟩
theorem Wt.re {f' : Nat → Int} (h : Wt w n g f W) (hf : ∀ k, k < n → f k = f' k) : Wt w n g f' W := ⟨h.bl, by rw [← fnL_ext hf]; exact h.row⟩
end
end Go.Proofs.YtpgodnaebkmhhaaGreat.Df
