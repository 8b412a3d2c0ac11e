import Derived.Test.YtconceigfommeaaDoorOdd
import Derived.WideLaws
namespace Go.Proofs.YtconceigfommeaaDoor
open Go.RowKit Go.Shelf Go.Lib
open Go.Sort hiding Below

set_option maxHeartbeats 4000000 in
set_option maxRecDepth 100000 in
theorem back_bad (u v x u2 v2 x2 : Nat) (n : Int) (w : World) (he : Env w) (hf : tfits u v x n = 10) :
    Calls Tryd.prog 3 #[.agg #[.int .u64 u, .int .u64 v, .int .u64 x], .agg #[.int .u64 u2, .int .u64 v2, .int .u64 x2], .int .i64 n] w fun e w' => e = .returned (.bool true) ∧ Below w.heap.size w w' := by
  have hK := fun W hW => taken_any W hW
  have hT := fun W => Text_bad u v x n W hf
  have hF := fun W => Fits_any u v x n W
  rw [hf] at hF
  clear hf
  go_enter Tryd.func3, Tryd.ntmps3
  go_wp2_with fail
  refine (hK _ ((he.alloc _).alloc _)).mono ?_
  rintro e w1 ⟨rfl, hb1⟩
  obtain ⟨hc1, hf1⟩ := below_cells hb1
  have z1 : w.heap.size + 1 < w1.heap.size := by have := hb1.size; simp at this; omega
  have z1' : w.heap.size < w1.heap.size := by omega
  have B1 : Below w.heap.size w w1 := (((Below.refl _ w).alloc (Nat.le_refl _) _).alloc (by simp) _).trans (hb1.mono (by simp; omega))
  go_wp2_with fail
  refine (hT _).mono ?_
  rintro e w2 ⟨rfl, hb2⟩
  obtain ⟨hc2, hf2⟩ := below_cells hb2
  go_wp2_with fail
  refine (hF _).mono ?_
  rintro e w3 ⟨rfl, hg3⟩
  go_wp2
  go_ret
  have z2 := hb2.size
  exact ⟨rfl, (B1.trans (hb2.mono (by omega))).trans (hg3.below.mono (by omega))⟩

theorem hideP {p : Prop} (h : p) : Hid p := h
theorem ok_arity {u v x : Nat} {n : Int} (hf : tfits u v x n = 0) : ∃ m : Nat, n = m ∧ 1 ≤ m ∧ m ≤ 3 ∧ (n < 2 → v = 0) ∧ (n < 3 → x = 0) := by
  unfold tfits at hf
  split at hf
  · exact absurd hf (by decide)
  · split at hf
    · rename_i h1 h2
      exact ⟨n.toNat, by omega, by omega, by omega, fun h => by have := h2.1 h; omega, fun h => by have := h2.2 h; omega⟩
    · exact absurd hf (by decide)
theorem fits_two (u v x : Nat) (n : Int) : tfits u v x n = 0 ∨ tfits u v x n = 10 := by
  unfold tfits
  split
  · exact Or.inr rfl
  · split
    · exact Or.inl rfl
    · exact Or.inr rfl

theorem parse_own {u v x m : Nat} (h1 : 1 ≤ m) (h3 : m ≤ 3) (hu : u < 18446744073709551616) (hv : v < 18446744073709551616) (hx : x < 18446744073709551616) (h2 : (m : Int) < 2 → v = 0) (h3' : (m : Int) < 3 → x = 0) {e : Ending} (h : ParseEnd ⟨(ttext u v x m).toArray⟩ m e) :
    e = .returned (.tuple #[.agg #[.int .u64 u, .int .u64 v, .int .u64 x], .int .i64 0]) := by
  have ht : IsText (⟨(ttext u v x m).toArray⟩ : ByteArray).data.toList m u v x := ⟨hu, hv, hx, h2, h3', rfl⟩
  rcases h with ⟨h, _⟩ | ⟨_, ⟨a, b, c, hk, rfl⟩ | ⟨hno, _⟩⟩
  · omega
  · obtain ⟨rfl, rfl, rfl⟩ := text_unique h1 h3 hk ht
    rfl
  · exact absurd ht (hno u v x)
theorem parse_none {l : ByteArray} {m : Nat} (h1 : 1 ≤ m) (h3 : m ≤ 3) (hno : NoText l.data.toList m) {e : Ending} (h : ParseEnd l m e) :
    e = .returned (.tuple #[.agg #[.int .u64 0, .int .u64 0, .int .u64 0], .int .i64 11]) := by
  rcases h with ⟨h, _⟩ | ⟨_, ⟨a, b, c, hk, rfl⟩ | ⟨_, h⟩⟩
  · omega
  · exact absurd hk (hno a b c)
  · exact h
theorem texts_eq {u v x u2 v2 x2 m : Nat} (h1 : 1 ≤ m) (h3 : m ≤ 3) (a : IsText (ttext u v x m) m u v x) (b : IsText (ttext u2 v2 x2 m) m u2 v2 x2) :
    ((⟨(ttext u2 v2 x2 m).toArray⟩ : ByteArray).toList == ttext u v x m) = teq u v x u2 v2 x2 := by
  rw [ByteArray.toList_eq, Bool.eq_iff_iff, teq_iff, beq_iff_eq]
  constructor
  · intro h
    have h' : ttext u2 v2 x2 m = ttext u v x m := h
    have b' : IsText (⟨(ttext u v x m).toArray⟩ : ByteArray).data.toList m u2 v2 x2 := ⟨b.hu, b.hv, b.hx, b.h2, b.h3, h'.symm⟩
    obtain ⟨e1, e2, e3⟩ := text_unique h1 h3 (l := ⟨(ttext u v x m).toArray⟩) a b'
    omega
  · rintro ⟨e1, e2, e3⟩
    have e1' : u = u2 := by omega
    have e2' : v = v2 := by omega
    have e3' : x = x2 := by omega
    rw [e1', e2', e3']

set_option maxHeartbeats 4000000 in
set_option maxRecDepth 100000 in
theorem back_ok (u v x u2 v2 x2 m : Nat) (w : World) (he : Env w) (h1 : 1 ≤ m) (h3 : m ≤ 3) (hu : u < 18446744073709551616) (hv : v < 18446744073709551616) (hx : x < 18446744073709551616) (hf : tfits u v x m = 0) (xs : ByteArray) (g : Int)
    (hg : (g == 0) = true ∨ (g == 0) = false)
    (hT2 : ∀ W, Env W → Calls Tryd.prog 6 #[.agg #[.int .u64 u2, .int .u64 v2, .int .u64 x2], .int .i64 m] W fun e w' => e = .returned (.tuple #[.string xs, .int .i64 g]) ∧ Below W.heap.size W w')
    (hx2 : (xs.toList == ttext u v x m) = teq u v x u2 v2 x2 ∨ (g == 0) = false) :
    Calls Tryd.prog 3 #[.agg #[.int .u64 u, .int .u64 v, .int .u64 x], .agg #[.int .u64 u2, .int .u64 v2, .int .u64 x2], .int .i64 m] w fun e w' => e = .returned (.bool true) ∧ Below w.heap.size w w' := by
  have hK := fun W hW => taken_any W hW
  have hT := fun W hW => Text_ok u v x m W hW hu hv hx h1 h3 hf
  have hF := fun W => Fits_any u v x m W
  obtain ⟨m', hm', _, _, hv2, hx3⟩ := ok_arity hf
  clear hm'
  have hP : ∀ W, Env W → Calls Tryd.prog 8 #[.string ⟨(ttext u v x m).toArray⟩, .int .i64 m] W fun e w' => e = .returned (.tuple #[.agg #[.int .u64 u, .int .u64 v, .int .u64 x], .int .i64 0]) ∧ Below W.heap.size W w' := fun W hW =>
    (Parse_any ⟨(ttext u v x m).toArray⟩ m W hW (by have := text_len u v x m hu hv hx; simp [ByteArray.size]; omega)).mono fun e w' ⟨h, hb⟩ => ⟨parse_own h1 h3 hu hv hx hv2 hx3 h, hb⟩
  rw [hf] at hF
  have heq := fun a b c x y z W => run_eqT a b c x y z W
  have hself : teq u v x u v x = true := by simp [teq]
  have hsl := text_len u v x m hu hv hx
  have hodd := odds_no (v := v) (x := x) h1 h3 hu
  have Hodd : Hid (∀ o ∈ odds (ttext u v x m), NoText o m) := hodd
  have Hsl : Hid ((ttext u v x m).length ≤ 62) := hsl
  clear hf hodd hsl
  generalize hs : ttext u v x m = l at *
  clear hs
  go_enter Tryd.func3, Tryd.ntmps3
  go_wp2_with fail
  refine (hK _ ((he.alloc _).alloc _)).mono ?_
  rintro e w1 ⟨rfl, hb1⟩
  have B1 : Below w.heap.size w w1 := (((Below.refl _ w).alloc (Nat.le_refl _) _).alloc (by simp) _).trans (hb1.mono (by simp; omega))
  have z1 : w.heap.size + 1 < w1.heap.size := by have := hb1.size; simp at this; omega
  have z1' : w.heap.size < w1.heap.size := by omega
  obtain ⟨hc1, hf1⟩ := below_cells hb1
  have a0 : w1.cell? ⟨w.heap.size, 0, none⟩ = some (.int .u64 u) := by rw [hc1 _ _ (by simp; omega)]; simp
  have a1 : w1.cell? ⟨w.heap.size, 1, none⟩ = some (.int .u64 v) := by rw [hc1 _ _ (by simp; omega)]; simp
  have a2 : w1.cell? ⟨w.heap.size, 2, none⟩ = some (.int .u64 x) := by rw [hc1 _ _ (by simp; omega)]; simp
  have b0 : w1.cell? ⟨w.heap.size + 1, 0, none⟩ = some (.int .u64 u2) := by rw [hc1 _ _ (by simp)]; simp
  have b1 : w1.cell? ⟨w.heap.size + 1, 1, none⟩ = some (.int .u64 v2) := by rw [hc1 _ _ (by simp)]; simp
  have b2 : w1.cell? ⟨w.heap.size + 1, 2, none⟩ = some (.int .u64 x2) := by rw [hc1 _ _ (by simp)]; simp
  have he1 := he.below B1
  clear hc1 hf1 hK hb1
  go_wp2_with fail
  refine (hT _ he1).mono ?_
  rintro e w2 ⟨rfl, hb2⟩
  obtain ⟨hc2, hf2⟩ := below_cells hb2
  have z2 := hb2.size
  have he2 := he1.below hb2
  go_wp2_with fail
  refine (hP _ he2).mono ?_
  rintro e w3 ⟨rfl, hb3⟩
  obtain ⟨hc3, hf3⟩ := below_cells hb3
  have z3 := hb3.size
  have he3 := he2.below hb3
  have y1 : w.heap.size < w2.heap.size := by omega
  have y2 : w.heap.size + 1 < w2.heap.size := by omega
  have y3 : w.heap.size < w3.heap.size := by omega
  have y4 : w.heap.size + 1 < w3.heap.size := by omega
  go_wp2_with fail
  refine (hT2 _ (he3.alloc _)).mono ?_
  rintro e w4 ⟨rfl, hb4⟩
  have z4 : w3.heap.size < w4.heap.size := by have := hb4.size; simp at this; omega
  obtain ⟨hc4, hf4⟩ := below_cells hb4
  have B3 : Below w1.heap.size w1 w3 := hb2.trans (hb3.mono z2)
  have B4 : Below w1.heap.size w1 w4 := (B3.alloc B3.size _).trans (hb4.mono (by simp; omega))
  have c0 := (B4.cell (p := ⟨w.heap.size, 0, none⟩) z1').trans a0
  have c1 := (B4.cell (p := ⟨w.heap.size, 1, none⟩) z1').trans a1
  have c2 := (B4.cell (p := ⟨w.heap.size, 2, none⟩) z1').trans a2
  have d0 := (B4.cell (p := ⟨w.heap.size + 1, 0, none⟩) z1).trans b0
  have d1 := (B4.cell (p := ⟨w.heap.size + 1, 1, none⟩) z1).trans b1
  have d2 := (B4.cell (p := ⟨w.heap.size + 1, 2, none⟩) z1).trans b2
  have t0 : w4.cell? ⟨w3.heap.size, 0, none⟩ = some (.int .u64 u) := by rw [hc4 _ _ (by simp)]; simp
  have t1 : w4.cell? ⟨w3.heap.size, 1, none⟩ = some (.int .u64 v) := by rw [hc4 _ _ (by simp)]; simp
  have t2 : w4.cell? ⟨w3.heap.size, 2, none⟩ = some (.int .u64 x) := by rw [hc4 _ _ (by simp)]; simp
  have B4w : Below w.heap.size w w4 := B1.trans (B4.mono B1.size)
  have he4 := he.below B4w
  clear hc2 hf2 hc3 hf3 hc4 hf4 hT hT2 hP a0 a1 a2 b0 b1 b2 hb2 hb3 hb4
  have q1 : w.heap.size < w4.heap.size := by omega
  have q2 : w.heap.size + 1 < w4.heap.size := by omega
  go_wp2_with fail
  refine (hF _).mono ?_
  rintro e w5 ⟨rfl, hg5⟩
  have e0 := (hg5.below.cell (p := ⟨w.heap.size, 0, none⟩) q1).trans c0
  have e1 := (hg5.below.cell (p := ⟨w.heap.size, 1, none⟩) q1).trans c1
  have e2 := (hg5.below.cell (p := ⟨w.heap.size, 2, none⟩) q1).trans c2
  have f0 := (hg5.below.cell (p := ⟨w.heap.size + 1, 0, none⟩) q2).trans d0
  have f1 := (hg5.below.cell (p := ⟨w.heap.size + 1, 1, none⟩) q2).trans d1
  have f2 := (hg5.below.cell (p := ⟨w.heap.size + 1, 2, none⟩) q2).trans d2
  have z5 := hg5.size
  have B5 : Below w.heap.size w w5 := B4w.trans (hg5.below.mono (by omega))
  have he5 := he.below B5
  have x5 : w.heap.size < w5.heap.size := by omega
  clear c0 c1 c2 d0 d1 d2 t0 t1 t2 hF
  have hlen := Hsl.out
  have hNo : ∀ k, k < 7 → ∃ o : ByteArray, NoText o.data.toList m ∧ o.size ≤ 281474976710656 ∧ (#[Value.string (⟨#[48]⟩ ++ ⟨l.toArray⟩), Value.string (⟨#[43]⟩ ++ ⟨l.toArray⟩), Value.string (⟨l.toArray⟩ ++ ⟨#[46]⟩), Value.string (⟨l.toArray⟩ ++ ⟨#[32]⟩), Value.string (⟨#[45]⟩ ++ ⟨l.toArray⟩), Value.string (⟨l.toArray⟩ ++ ⟨#[46, 48]⟩), Value.string (⟨#[46]⟩ ++ ⟨l.toArray⟩)] : Array Value)[k]? = some (.string o) := by
    have ho := Hodd.out
    have hd : ∀ a b : List UInt8, ((⟨a.toArray⟩ : ByteArray) ++ ⟨b.toArray⟩).data.toList = a ++ b := fun a b => by simp
    have hz : ∀ a b : List UInt8, ((⟨a.toArray⟩ : ByteArray) ++ ⟨b.toArray⟩).size = a.length + b.length := fun a b => by
      rw [ByteArray.size_append]; rfl
    intro k hk
    have : k = 0 ∨ k = 1 ∨ k = 2 ∨ k = 3 ∨ k = 4 ∨ k = 5 ∨ k = 6 := by omega
    rcases this with rfl | rfl | rfl | rfl | rfl | rfl | rfl
    · exact ⟨_, by rw [hd [48] l]; exact ho _ (by simp [odds]), by rw [hz [48] l]; simp; omega, rfl⟩
    · exact ⟨_, by rw [hd [43] l]; exact ho _ (by simp [odds]), by rw [hz [43] l]; simp; omega, rfl⟩
    · exact ⟨_, by rw [hd l [46]]; exact ho _ (by simp [odds]), by rw [hz l [46]]; simp; omega, rfl⟩
    · exact ⟨_, by rw [hd l [32]]; exact ho _ (by simp [odds]), by rw [hz l [32]]; simp; omega, rfl⟩
    · exact ⟨_, by rw [hd [45] l]; exact ho _ (by simp [odds]), by rw [hz [45] l]; simp; omega, rfl⟩
    · exact ⟨_, by rw [hd l [46, 48]]; exact ho _ (by simp [odds]), by rw [hz l [46, 48]]; simp; omega, rfl⟩
    · exact ⟨_, by rw [hd [46] l]; exact ho _ (by simp [odds]), by rw [hz [46] l]; simp; omega, rfl⟩
  have HNo := hideP hNo
  clear hNo
  have hgx : ((g == 0) = true ∧ (xs.toList == l) = true ∧ teq u v x u2 v2 x2 = true) ∨ ((g == 0) = true ∧ (xs.toList == l) = false ∧ teq u v x u2 v2 x2 = false) ∨ (g == 0) = false := by
    rcases hg with h | h
    · rcases hx2 with h2 | h2
      · cases hr : teq u v x u2 v2 x2
        · exact Or.inr (Or.inl ⟨h, h2.trans hr, rfl⟩)
        · exact Or.inl ⟨h, h2.trans hr, rfl⟩
      · exact Or.inr (Or.inr h2)
    · exact Or.inr (Or.inr h)
  clear hg hx2
  rcases hgx with ⟨hg, hx2, hr⟩ | ⟨hg, hx2, hr⟩ | hg
  all_goals go_wp2
  all_goals clear e0 e1 e2 f0 f1 f2
  all_goals
    go_loopw [14] (fun s14 wr => ∃ k : Nat, k ≤ 7 ∧ s14 = .int .i64 k ∧ Below (w5.heap.size + 1) (w5.alloc (.cells #[Value.string (⟨#[48]⟩ ++ ⟨l.toArray⟩), Value.string (⟨#[43]⟩ ++ ⟨l.toArray⟩), Value.string (⟨l.toArray⟩ ++ ⟨#[46]⟩), Value.string (⟨l.toArray⟩ ++ ⟨#[32]⟩), Value.string (⟨#[45]⟩ ++ ⟨l.toArray⟩), Value.string (⟨l.toArray⟩ ++ ⟨#[46, 48]⟩), Value.string (⟨#[46]⟩ ++ ⟨l.toArray⟩)] 9)) wr) (fun s14 _ => 7 - (RowKit.intOf s14).toNat)
    case atStart => exact ⟨0, Nat.zero_le _, rfl, Below.refl _ _⟩
    case round =>
      obtain ⟨k, hk, rfl, hbw⟩ := hrel
      have zr : w5.heap.size + 1 ≤ wr.heap.size := by have := hbw.size; simpa using this
      have Bw : Below w.heap.size w wr := (B5.alloc (by omega) _).trans (hbw.mono (by omega))
      by_cases hlt : k < 7
      · have hltz : (k : Int) < 7 := by omega
        obtain ⟨o, hno, hsz, hcell⟩ := HNo.out k hlt
        have hc0 : wr.cell? ⟨w5.heap.size, k, none⟩ = some (.string o) := by
          rw [hbw.cell (p := ⟨w5.heap.size, k, none⟩) (by show w5.heap.size < w5.heap.size + 1; omega), World.cell?_alloc_new]
          exact hcell
        have hP := (Parse_any o m wr (he.below Bw) hsz).mono fun e w' ⟨h, hb⟩ => (⟨parse_none h1 h3 hno h, hb⟩ : e = Ending.returned (.tuple #[.agg #[.int .u64 0, .int .u64 0, .int .u64 0], .int .i64 11]) ∧ Below wr.heap.size wr w')
        have hz0 : teq 0 0 0 0 0 0 = true := rfl
        clear hcell
        go_wp2_with fail
        refine hP.mono ?_
        rintro e w6 ⟨rfl, hb6⟩
        have z6 := hb6.size
        go_wp2
        go_roundw
        case rel => exact ⟨k + 1, by omega, by go_num, (hbw.trans (hb6.mono zr)).alloc (by omega) _⟩
        case measure => simp [RowKit.intOf]; omega
      · have hltz : ¬ (k : Int) < 7 := by omega
        go_wp2
        go_ret
        exact ⟨rfl, Bw⟩

theorem back_any (u v x u2 v2 x2 : Nat) (n : Int) (w : World) (he : Env w) (hu : u < 18446744073709551616) (hv : v < 18446744073709551616) (hx : x < 18446744073709551616) (hu2 : u2 < 18446744073709551616) (hv2 : v2 < 18446744073709551616) (hx2 : x2 < 18446744073709551616) :
    Calls Tryd.prog 3 #[.agg #[.int .u64 u, .int .u64 v, .int .u64 x], .agg #[.int .u64 u2, .int .u64 v2, .int .u64 x2], .int .i64 n] w fun e w' => e = .returned (.bool true) ∧ Below w.heap.size w w' := by
  rcases fits_two u v x n with hf | hf
  · obtain ⟨m, rfl, h1, h3, a2, a3⟩ := ok_arity hf
    rcases fits_two u2 v2 x2 m with hg | hg
    · obtain ⟨m', hm', _, _, b2, b3⟩ := ok_arity hg
      exact back_ok u v x u2 v2 x2 m w he h1 h3 hu hv hx hf ⟨(ttext u2 v2 x2 m).toArray⟩ 0 (Or.inl rfl) (fun W hW => Text_ok u2 v2 x2 m W hW hu2 hv2 hx2 h1 h3 hg)
        (Or.inl (texts_eq h1 h3 ⟨hu, hv, hx, a2, a3, rfl⟩ ⟨hu2, hv2, hx2, b2, b3, rfl⟩))
    · exact back_ok u v x u2 v2 x2 m w he h1 h3 hu hv hx hf ⟨#[]⟩ 10 (Or.inr rfl) (fun W _ => Text_bad u2 v2 x2 m W hg) (Or.inr rfl)
  · exact back_bad u v x u2 v2 x2 n w he hf
end Go.Proofs.YtconceigfommeaaDoor
