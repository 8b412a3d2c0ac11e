import Derived.Test.YtbomkeginbhhoaaCLeast
namespace Go.Proofs.Ytbomkeginbhhoaa
open Go.RowKit Go.Sort
attribute [local go_sem ↓] Go.wp_at_zero Go.wp_at_succ

/-- A list of whole numbers that is only read. -/
def LstI (w : World) (v : Value) (n : Nat) : Prop := ∃ p c, v = .slice p n c ∧ ∀ i, i < n → ∃ b off x, p = some ⟨b, off, none⟩ ∧ b < w.heap.size ∧ w.cell? ⟨b, off + i, none⟩ = some (.int .i64 x)
theorem cins_twice (L : List P2) (y : P2) : cins (rbel 0) (rfst 0) (cins (rbel 0) (rfst 0) L y) y = cins (rbel 0) (rfst 0) L y := by
  have h := cov_ins ords0 L y
  generalize cins (rbel 0) (rfst 0) L y = M at *
  unfold cins
  rw [h]; simp
def sliceLen : Value → Nat
  | .slice _ n _ => n
  | _ => 0
theorem mem_split (R : List P2) {k : Nat} {y : P2} (h : R[k]? = some y) (x : P2) : x ∈ R ↔ x = y ∨ x ∈ R.take k ++ R.drop (k + 1) := by
  obtain ⟨hk, rfl⟩ := List.getElem?_eq_some_iff.1 h
  have h1 : R = R.take k ++ R[k] :: R.drop (k + 1) := by rw [← List.drop_eq_getElem_cons hk, List.take_append_drop]
  conv => lhs; rw [h1]
  simp only [List.mem_append, List.mem_cons]
  constructor
  · rintro (h | h | h)
    · exact Or.inr (Or.inl h)
    · exact Or.inl h
    · exact Or.inr (Or.inr h)
  · rintro (h | h | h)
    · exact Or.inr (Or.inl h)
    · exact Or.inl h
    · exact Or.inr (Or.inr h)

/-- What a round keeps. -/
structure Rnd (w w5 : World) (l : List P2) (ca fa ga : Nat) (va : Value) (A : List P2) (cb fb gb : Nat) (wr : World) (vb vR : Value) (us R : List P2) : Prop where
  a : Ch wr ca fa ga va A
  b : Ch wr cb fb gb vb (cjoin (rbel 0) (rfst 0) [] us)
  r : wr.ownsRow 0 28 2 vR R.length (flatP R)
  rows : ∀ g, vb.ownBlock = some g → w5.heap.size ≤ g
  off : ∀ g, vR.ownBlock = some g → vb.ownBlock ≠ some g ∧ g ≠ cb
  below : Below w.heap.size w wr
  size : w5.heap.size ≤ wr.heap.size
  mem : ∀ x, x ∈ l ↔ x ∈ us ∨ x ∈ R

theorem Rnd.ins {w w5 : World} {l : List P2} {ca fa ga : Nat} {va : Value} {A : List P2} {cb fb gb : Nat} {wr w' : World} {vb v' vR : Value} {us R : List P2} {y : P2} (h : Rnd w w5 l ca fa ga va A cb fb gb wr vb vR us R)
    (hb : Ch w' cb fb gb v' (cins (rbel 0) (rfst 0) (cjoin (rbel 0) (rfst 0) [] us) y)) (ht : Turn cb vb v' wr w') (hab : ca ≠ cb) (ha5 : ca < w5.heap.size) (hva : ∀ g, va.ownBlock = some g → g < w5.heap.size ∧ g ≠ cb) (hw : w.heap.size ≤ cb) (hw5 : w.heap.size ≤ w5.heap.size) (hy : y ∈ R) :
    Rnd w w5 l ca fa ga va A cb fb gb w' v' vR (us ++ [y]) R := by
  have hn : ¬ (ca = cb ∨ vb.ownBlock = some ca) := by
    rintro (e | e)
    · exact hab e
    · have := h.rows ca e; omega
  have hn2 : ∀ k, va.ownBlock = some k → ¬ (k = cb ∨ vb.ownBlock = some k) := by
    rintro k hk (e | e)
    · exact (hva k hk).2 e
    · have := h.rows k e; have := (hva k hk).1; omega
  have hB := ht.below (B := w.heap.size) h.below.size hw (fun g hg => by have := h.rows g hg; omega)
  refine ⟨h.a.kp ht.1 hn hn2, by rw [cjoin_append]; exact hb, owns_kp ht.1 h.r ?_, ?_, ?_, h.below.trans hB.1, Nat.le_trans h.size ht.1.size, ?_⟩
  · rintro k hk (e | e)
    · exact (h.off k hk).2 e
    · exact (h.off k hk).1 e
  · intro g hg
    rcases ht.2 g hg with h1 | h1
    · exact h.rows g h1
    · exact Nat.le_trans h.size h1
  · intro g hg
    refine ⟨fun e => ?_, (h.off g hg).2⟩
    rcases ht.2 g e with h1 | h1
    · exact (h.off g hg).1 h1
    · have := (h.r.lt g hg).2; omega
  · intro x
    rw [h.mem x, List.mem_append, List.mem_singleton]
    constructor
    · rintro (h1 | h1)
      · exact Or.inl (Or.inl h1)
      · exact Or.inr h1
    · rintro ((h1 | h1) | h1)
      · exact Or.inl h1
      · subst h1; exact Or.inr hy
      · exact Or.inr h1
theorem Rnd.kept {w w5 : World} {l : List P2} {ca fa ga : Nat} {va : Value} {A : List P2} {cb fb gb : Nat} {wr w' : World} {vb vR : Value} {us R : List P2} (h : Rnd w w5 l ca fa ga va A cb fb gb wr vb vR us R) (hb : Below wr.heap.size wr w') :
    Rnd w w5 l ca fa ga va A cb fb gb w' vb vR us R :=
  ⟨h.a.below hb, h.b.below hb, owns_below h.r hb, h.rows, h.off, h.below.trans (hb.mono h.below.size), Nat.le_trans h.size hb.size, h.mem⟩
theorem Rnd.next {w w5 : World} {l : List P2} {ca fa ga : Nat} {va : Value} {A : List P2} {cb fb gb : Nat} {wr w' : World} {vb vR v' : Value} {us R : List P2} {k : Nat} {y : P2} (h : Rnd w w5 l ca fa ga va A cb fb gb wr vb vR (us ++ [y]) R) (hb : Below wr.heap.size wr w')
    (ho : w'.ownsRow wr.heap.size 28 2 v' (R.take k ++ R.drop (k + 1)).length (flatP (R.take k ++ R.drop (k + 1)))) (hy : R[k]? = some y) :
    Rnd w w5 l ca fa ga va A cb fb gb w' vb v' (us ++ [y]) (R.take k ++ R.drop (k + 1)) := by
  refine ⟨h.a.below hb, h.b.below hb, owns_base ho (Nat.zero_le _), h.rows, fun g hg => ?_, h.below.trans (hb.mono h.below.size), Nat.le_trans h.size hb.size, fun x => ?_⟩
  · have h1 := (ho.lt g hg).1
    refine ⟨fun e => ?_, fun e => ?_⟩
    · have := h.b.row g e; omega
    · have := h.b.lt; omega
  · rw [h.mem x, mem_split R hy x, List.mem_append, List.mem_singleton]
    constructor
    · rintro ((h1 | h1) | h1 | h1)
      · exact Or.inl (Or.inl h1)
      · exact Or.inl (Or.inr h1)
      · exact Or.inl (Or.inr h1)
      · exact Or.inr h1
    · rintro ((h1 | h1) | h1)
      · exact Or.inl (Or.inl h1)
      · exact Or.inl (Or.inr h1)
      · exact Or.inr (Or.inr h1)

theorem owns_form {w : World} {e : TypeId} {v : Value} {n s : Nat} {xs : List Value} (h : w.ownsRow 0 e s v n xs) (hn : 0 < n) : ∃ g cap, v = .slice (some ⟨g, 0, none⟩) n cap ∧ n ≤ cap ∧ cap ≤ maxLen := by
  obtain ⟨_, ⟨_, h0⟩ | ⟨g, cap, cur, hv, _, _, h1, h2, _⟩⟩ := h
  · omega
  · exact ⟨g, cap, hv, h1, h2⟩

set_option maxHeartbeats 2000000 in
set_option maxRecDepth 100000 in
theorem chainTurned_any (u1 u2 : Value) (l : List P2) (np : Nat) (w : World) (hu1 : Lst w u1 l) (hu2 : LstI w u2 np) (hbig1 : l.length * 16 ≤ 140737488351232) (hbig2 : np * 8 ≤ 140737488351232) :
    Calls Try.prog 4 #[u1, u2] w fun e w' => e = .returned (.bool true) ∧ Below w.heap.size w w' := by
  have HU1 : Hid (Lst w u1 l) := hu1
  obtain ⟨pu, cu, rfl⟩ := hu1.form
  obtain ⟨pi, ci, rfl, hpi⟩ := hu2
  have HPI : Hid (∀ i, i < np → ∃ b off x, pi = some ⟨b, off, none⟩ ∧ b < w.heap.size ∧ w.cell? ⟨b, off + i, none⟩ = some (.int .i64 x)) := hpi
  clear hu1 hpi
  have hm := fun W => made_at 0 (by decide) (by decide) W
  go_enter Try.func4, Try.ntmps4
  go_wp2_with fail
  refine (hm _).mono ?_
  rintro e w1 ⟨ca, fa, ga, rfl, hca, hfa, hc1, hg1⟩
  have hcal := hc1.lt
  go_wp2_with fail
  refine (hm _).mono ?_
  rintro e w1' ⟨cb, fb, gb, rfl, hcb, hfb, hc2, hg2⟩
  have hab : ca ≠ cb := by omega
  have hwcb : w.heap.size ≤ cb := Nat.le_trans hg1.size hcb
  have A1 : Hid (Ch w1' ca fa ga (.slice none 0 0) []) := hc1.below hg2.below
  have C1 : Hid (Ch w1' cb fb gb (.slice none 0 0) []) := hc2
  have B1 : Hid (Below w.heap.size w w1') := (hg1.trans hg2).below
  clear hm hc1 hc2 hg1 hg2 hcal hcb
  go_wp2_with fail
  refine (known_any _).mono ?_
  rintro e w2 ⟨rfl, hb2⟩
  have A2 : Hid (Ch w2 ca fa ga (.slice none 0 0) []) := A1.out.below hb2
  have C2 : Hid (Ch w2 cb fb gb (.slice none 0 0) []) := C1.out.below hb2
  have B2 : Hid (Below w.heap.size w w2) := B1.out.trans (hb2.mono B1.out.size)
  clear hb2 A1 C1 B1
  go_wp2_with (at_builtin; refine wpAppL rfl _ _ rfl w2.heap.size (.slice (some ⟨w2.heap.size, 0, none⟩) 0 0) 0 [] rfl (World.ownsRow_made w2 #[] 0 (Nat.le_refl _) (by unfold maxLen; omega) rfl) _ l rfl ((HU1.out.below B2.out).below ((Gr.refl w2).alloc _).below) (by omega) (by simp) ?_)
  intro v3 w3 ho3 hg3
  have b3 : Below w2.heap.size w2 w3 := ((Gr.refl w2).alloc _).below.trans ((Kp.grownBy (S := fun k => w2.heap.size ≤ k) hg3 (fun k hk => by simp [Value.ownBlock] at hk; omega)).below (by simp) (fun _ h => h))
  have A3 : Ch w3 ca fa ga (.slice none 0 0) [] := A2.out.below b3
  have C3 : Ch w3 cb fb gb (.slice none 0 0) [] := C2.out.below b3
  have B3 : Hid (Below w.heap.size w w3) := B2.out.trans (b3.mono B2.out.size)
  have L3 : Lst w3 v3 l := owns_lst (by simpa using ho3)
  have hcal := A2.out.lt
  have hcbl := C2.out.lt
  have hj := join_any (bel := rbel 0) (fst := rfst 0) w3 A3 L3 (fun k hk => ⟨fun e => by have := (ho3.lt k hk).1; omega, by simp [Value.ownBlock]⟩) (by simp; omega) hfa.b hfa.f
  have HC3 : Hid (Ch w3 cb fb gb (.slice none 0 0) []) := C3
  have hs3 := b3.size
  clear ho3 hg3 b3 A2 C2 B2 A3 C3 L3
  have hAl := cjoin_length (bel := rbel 0) (fst := rfst 0) [] l
  obtain ⟨A, hA⟩ : ∃ A, A = cjoin (rbel 0) (rfst 0) [] l := ⟨_, rfl⟩
  rw [← hA] at hj hAl
  have HA : Hid (A = cjoin (rbel 0) (rfst 0) [] l) := hA
  rw [List.length_nil, Nat.zero_add] at hAl
  clear hA
  go_wp2_with fail
  refine hj.mono ?_
  rintro e w4 ⟨rfl, va, a4, t4⟩
  have hB4 := t4.below (B := w.heap.size) B3.out.size hca (fun g h => by simp [Value.ownBlock] at h)
  have B4 : Hid (Below w.heap.size w w4) := B3.out.trans hB4.1
  have A4 : Hid (Ch w4 ca fa ga va A) := a4
  have C4 : Hid (Ch w4 cb fb gb (.slice none 0 0) []) := HC3.out.kp t4.1 (fun h => by rcases h with h | h; omega; simp [Value.ownBlock] at h) (fun k h => by simp [Value.ownBlock] at h)
  have hva4 : Hid (∀ g, va.ownBlock = some g → g < w4.heap.size ∧ g ≠ cb) := fun g hg => ⟨a4.row g hg, fun e => by
    rcases t4.2 g hg with h | h
    · simp [Value.ownBlock] at h
    · omega⟩
  clear hj a4 t4 hB4 HC3 B3
  go_wp2_with (at_builtin; refine wpAppL rfl _ _ rfl w4.heap.size (.slice none 0 0) 0 [] rfl (World.ownsRow_nil _ _ _ _) _ l rfl (HU1.out.below B4.out) (by omega) (Nat.le_refl _) ?_)
  intro v5 w5 ho5 hg5
  have b5 : Below w4.heap.size w4 w5 := (Kp.grownBy (S := fun _ => False) hg5 (fun k hk => by simp [Value.ownBlock] at hk)).below (Nat.le_refl _) (fun _ h => h.elim)
  have hw5 : w.heap.size ≤ w5.heap.size := Nat.le_trans B4.out.size b5.size
  have hca5 : ca < w5.heap.size := Nat.lt_of_lt_of_le A4.out.lt b5.size
  have hva : Hid (∀ g, va.ownBlock = some g → g < w5.heap.size ∧ g ≠ cb) := fun g hg => ⟨Nat.lt_of_lt_of_le (hva4.out g hg).1 b5.size, (hva4.out g hg).2⟩
  have R5 : Hid (Rnd w w5 l ca fa ga va A cb fb gb w5 (.slice none 0 0) v5 [] l) := ⟨A4.out.below b5, C4.out.below b5, by simpa using owns_base ho5 (Nat.zero_le _), fun g h => by simp [Value.ownBlock] at h, fun g hg => ⟨by simp [Value.ownBlock], fun e => by have := (ho5.lt g hg).1; have := C4.out.lt; omega⟩, B4.out.trans (b5.mono B4.out.size), Nat.le_refl _, fun x => by simp⟩
  clear ho5 hg5 b5 A4 C4 B4 hva4 hcal hcbl hs3
  go_wp2_with fail
  go_loopw [7, 8] (fun s7 s8 wr => ∃ (i : Nat) (vb : Value) (us R : List P2), s8 = .int .i64 i ∧ i + R.length = l.length ∧ us.length = i ∧ Hid (Rnd w w5 l ca fa ga va A cb fb gb wr vb s7 us R)) (fun s7 _ _ => sliceLen s7)
  case atStart => exact ⟨0, _, [], l, rfl, by simp, rfl, R5.out⟩
  case round =>
    clear R5
    obtain ⟨i, vb, us, R, rfl, hiR, hus, HR⟩ := hrel
    have LR : Hid (Lst wr u7 R) := owns_lst HR.out.r
    obtain ⟨pR, cR, rfl⟩ := LR.out.form
    by_cases hpos : 0 < R.length
    · have hposz : (0 : Int) < (R.length : Int) := by omega
      have hbr : Below w.heap.size w wr := HR.out.below
      go_upto_if 40 with fail
      go_cut [9] from 37 to 53 (fun s9 w' => ∃ a : Nat, a < R.length ∧ s9 = .int .i64 (a : Int) ∧ w' = wr)
      case first =>
        have hn0 : ¬ (R.length : Int) = 0 := by omega
        by_cases hip : i < np
        · have hipz : (i : Int) < (np : Int) := by omega
          obtain ⟨b, off, x, rfl, hbl, hcell⟩ := HPI.out i hip
          have hc := (World.cell?_of_block (a := ⟨b, off + i, none⟩) (hbr.block b hbl)).trans hcell
          have h1 := Int.tmod_lt_of_pos x hposz
          have h2 := Int.lt_tmod_of_pos x hposz
          by_cases hneg : x.tmod (R.length : Int) < 0
          · go_wp2_with fail
            go_meet
            refine ⟨(x.tmod (R.length : Int) + R.length).toNat, by omega, ?_, rfl⟩
            rw [Int.toNat_of_nonneg (by omega)]
          · go_wp2_with fail
            go_meet
            refine ⟨(x.tmod (R.length : Int)).toNat, by omega, ?_, rfl⟩
            rw [Int.toNat_of_nonneg (by omega)]
        · have hipz : ¬ (i : Int) < (np : Int) := by omega
          go_wp2_with fail
          go_meet
          exact ⟨0, hpos, rfl, rfl⟩
      case rest =>
        obtain ⟨a, haR, rfl, hwc⟩ := hcut
        rw [hwc]
        clear hwc
        obtain ⟨g, cap, e1, hcp1, hcp2⟩ := owns_form HR.out.r hpos
        simp only [Value.slice.injEq] at e1
        obtain ⟨rfl, -, rfl⟩ := e1
        unfold maxLen at hcp2
        obtain ⟨y, hy⟩ : ∃ y, R[a]? = some y := ⟨R[a], by simp⟩
        have HY : Hid (R[a]? = some y) := hy
        have HYR : Hid (y ∈ R) := List.mem_of_getElem? hy
        obtain ⟨b1, o1, c1, e1, z1, x1, x2⟩ := LR.out.at2 hy
        simp only [Value.slice.injEq, Option.some.injEq, Addr.mk.injEq, and_true] at e1
        obtain ⟨⟨rfl, rfl⟩, -, rfl⟩ := e1
        rw [Nat.zero_add] at x1 x2
        have haz : (a : Int) < (R.length : Int) := by omega
        have hRA : Hid (Rnd w w5 l ca fa ga va A cb fb gb (wr.alloc (.cells #[.int .i64 y.1, .int .i64 y.2] 28)) vb (.slice (some ⟨g, 0, none⟩) R.length cR) us R) := HR.out.kept ((Gr.refl _).alloc _).below
        have hjl := cjoin_length (bel := rbel 0) (fst := rfst 0) [] us
        rw [List.length_nil, Nat.zero_add] at hjl
        have hin := insert_any (bel := rbel 0) (fst := rfst 0) y _ hRA.out.b (by omega) hfb.b hfb.f
        have hcbw : cb < wr.heap.size := HR.out.b.lt
        have hvbw : Hid (∀ g, vb.ownBlock = some g → g < wr.heap.size) := HR.out.b.row
        have hil := cins_length (bel := rbel 0) (fst := rfst 0) (cjoin (rbel 0) (rfst 0) [] us) y
        clear hy
        go_wp2_with fail
        refine hin.mono ?_
        rintro e w6 ⟨v6, rfl, hch6, ht6⟩
        have BX6 : Hid (Bx w6 wr.heap.size y) := (Bx.new wr y).kp ht6.1 (fun h => by
          rcases h with h | h
          · omega
          · have := hvbw.out _ h; omega)
        have HT6 : Hid (Turn cb vb v6 (wr.alloc (.cells #[.int .i64 y.1, .int .i64 y.2] 28)) w6) := ht6
        have HC6 : Hid (Ch w6 cb fb gb v6 (cins (rbel 0) (rfst 0) (cjoin (rbel 0) (rfst 0) [] us) y)) := hch6
        clear hch6 ht6 hin x1 x2
        go_upto_if 63 with fail
        go_cut [66] from 61 to 66 (fun _ w' => ∃ v8, Hid (Rnd w w5 l ca fa ga va A cb fb gb w' v8 (.slice (some ⟨g, 0, none⟩) R.length cR) (us ++ [y]) R))
        case first =>
          by_cases h3 : ((i : Int) % 3 == 0) = true
          · have hin2 := insert_any (bel := rbel 0) (fst := rfst 0) y w6 HC6.out (by omega) hfb.b hfb.f
            rw [cins_twice] at hin2
            obtain ⟨q0, q1, q2⟩ := BX6.out
            go_wp2_with fail
            refine hin2.mono ?_
            rintro e w8 ⟨v8, rfl, hch8, ht8⟩
            go_wp2_with fail
            go_meet
            exact ⟨v8, hRA.out.ins hch8 (HT6.out.trans ht8) hab hca5 hva.out hwcb hw5 HYR.out⟩
          · have h3b : ((i : Int) % 3 == 0) = false := Bool.eq_false_iff.2 h3
            clear h3
            go_wp2_with fail
            go_meet
            exact ⟨v6, hRA.out.ins HC6.out HT6.out hab hca5 hva.out hwcb hw5 HYR.out⟩
        case rest =>
          obtain ⟨v8, R8⟩ := hcut
          generalize wc = w8 at *
          clear hRA hvbw hcbw HR LR hjl hil HC6 HT6 BX6
          have L8 : Hid (Lst w8 (.slice (some ⟨g, 0, none⟩) R.length cR) R) := owns_lst R8.out.r
          have LT8 : Hid (Lst w8 (.slice (some ⟨g, 0, none⟩) a cR) (R.take a)) := L8.out.cut (Nat.le_of_lt haR)
          have HTL : Hid ((R.take a).length = a) := by simp [Hid]; omega
          have y1 : (0 : Int) ≤ (a : Int) := by omega
          have y2 : (a : Int) ≤ (cR : Int) := by omega
          have y3 : ¬ cR = 0 := by omega
          have y4 : (a : Int) + 1 ≤ (R.length : Int) := by omega
          have y5 : (0 : Int) ≤ (a : Int) + 1 := by omega
          go_wp2_with (at_builtin; refine wpAppL rfl _ _ rfl w8.heap.size (.slice none 0 0) 0 [] rfl (World.ownsRow_nil _ _ _ _) (.slice (some ⟨g, 0, none⟩) a cR) (R.take a) rfl LT8.out (by rw [HTL.out]; omega) (Nat.le_refl _) ?_)
          intro v9 w9 ho9 hg9
          have b9 : Below w8.heap.size w8 w9 := (Kp.grownBy (S := fun _ => False) hg9 (fun k hk => by simp [Value.ownBlock] at hk)).below (Nat.le_refl _) (fun _ h => h.elim)
          have L9 : Hid (Lst w9 (.slice (some ⟨g, 0, none⟩) R.length cR) R) := L8.out.below b9
          have ho9' : Hid (w9.ownsRow w8.heap.size 28 2 v9 a (flatP (R.take a))) := by
            have h := ho9
            rw [Nat.min_eq_left (Nat.le_of_lt haR)] at h
            exact h
          have HDL : Hid ((R.drop (a + 1)).length = R.length - (a + 1)) := by simp [Hid]
          have HML : Hid ((R.take a ++ R.drop (a + 1)).length = a + (R.drop (a + 1)).length) := by show _ = _; rw [List.length_append, HTL.out]
          have fin : Hid (∀ v10 w10 n, w10.ownsRow w8.heap.size 28 2 v10 n (flatP (R.take a) ++ flatP (R.drop (a + 1))) → n = a + (R.length - (a + 1)) → w9.grownBy w10 v9.ownBlock → Rnd w w5 l ca fa ga va A cb fb gb w10 v8 v10 (us ++ [y]) (R.take a ++ R.drop (a + 1))) := fun v10 w10 n ho hn hg =>
            R8.out.next (k := a) (b9.trans ((Kp.grownBy (S := fun k => w8.heap.size ≤ k) hg (fun k hk => (ho9'.out.lt k hk).1)).below b9.size (fun _ h => h))) (by rw [HML.out, flatP_append, HDL.out, ← hn]; exact ho) HY.out
          clear ho9 hg9 LT8 L8
          by_cases hcc : cR = a + 1
          · have L9' : Hid (Lst w9 (.slice (some ⟨g, 0, none⟩) (R.length - (a + 1)) 0) (R.drop (a + 1))) := L9.out.none (k := a + 1) (by omega) 0
            subst hcc
            go_wp2_with (at_builtin; refine wpAppL rfl _ _ rfl w8.heap.size v9 a (flatP (R.take a)) rfl ho9'.out (.slice (some ⟨g, 0, none⟩) (R.length - (a + 1)) 0) (R.drop (a + 1)) (by first | (simp [Act.eval]; done) | (simp [Act.eval]; omega)) L9'.out (by rw [HDL.out]; omega) b9.size ?_)
            intro v10 w10 ho10 hg10
            have F10 := fin.out v10 w10 _ ho10 (by omega) hg10
            obtain ⟨p10, c10, rfl⟩ := (owns_lst F10.r).form
            go_wp2
            refine ⟨⟨i + 1, v8, us ++ [y], R.take a ++ R.drop (a + 1), by go_num, by rw [HML.out, HDL.out]; omega, by simp; omega, F10⟩, ?_⟩
            simp only [sliceLen]
            rw [HML.out, HDL.out]; omega
          · have L9' : Hid (Lst w9 (.slice (some ⟨g, (a + 1) * 2, none⟩) (R.length - (a + 1)) (cR - (a + 1))) (R.drop (a + 1))) := by
              have h := L9.out.tail (k := a + 1) (cR - (a + 1))
              rw [Nat.zero_add] at h
              exact h
            go_wp2_with (at_builtin; refine wpAppL rfl _ _ rfl w8.heap.size v9 a (flatP (R.take a)) rfl ho9'.out (.slice (some ⟨g, (a + 1) * 2, none⟩) (R.length - (a + 1)) (cR - (a + 1))) (R.drop (a + 1)) (by simp [Act.eval]) L9'.out (by rw [HDL.out]; omega) b9.size ?_)
            intro v10 w10 ho10 hg10
            have F10 := fin.out v10 w10 _ ho10 (by omega) hg10
            obtain ⟨p10, c10, rfl⟩ := (owns_lst F10.r).form
            go_wp2
            refine ⟨⟨i + 1, v8, us ++ [y], R.take a ++ R.drop (a + 1), by go_num, by rw [HML.out, HDL.out]; omega, by simp; omega, F10⟩, ?_⟩
            simp only [sliceLen]
            rw [HML.out, HDL.out]; omega
    · have hposz : ¬ (0 : Int) < (R.length : Int) := by omega
      have hR0 : R = [] := List.eq_nil_of_length_eq_zero (by omega)
      have hAB : cjoin (rbel 0) (rfst 0) [] us = A := by
        rw [HA.out]
        exact (join_same ords0 (fun x => by have := HR.out.mem x; rw [hR0] at this; simpa using this)).symm
      have CA : Hid (Ch wr ca fa ga va A) := HR.out.a
      have CB : Hid (Ch wr cb fb gb vb A) := by
        have := HR.out.b
        rw [hAB] at this
        exact this
      have BR : Hid (Below w.heap.size w wr) := HR.out.below
      have h1 := list_any wr CA.out (by omega)
      clear HR LR hR0 hAB hpos
      go_wp2_with fail
      refine h1.mono ?_
      rintro e w9 ⟨v9, rfl, ho9, hb9⟩
      have L9 : Hid (Lst w9 v9 A) := owns_lst ho9
      have CA9 : Hid (Ch w9 ca fa ga va A) := CA.out.below hb9
      have h2 := list_any w9 (CB.out.below hb9) (by omega)
      have CB9 : Hid (Ch w9 cb fb gb vb A) := CB.out.below hb9
      have B9 : Hid (Below w.heap.size w w9) := BR.out.trans (hb9.mono BR.out.size)
      clear h1 ho9 hb9 CA CB BR
      go_wp2_with fail
      refine h2.mono ?_
      rintro e w10 ⟨v10, rfl, ho10, hb10⟩
      have hsm := same_any v9 v10 A A w10 (L9.out.below hb10) (owns_lst ho10) (by unfold maxLen; omega)
      rw [decide_eq_true rfl] at hsm
      have CA10 : Hid (Ch w10 ca fa ga va A) := CA9.out.below hb10
      have CB10 : Hid (Ch w10 cb fb gb vb A) := CB9.out.below hb10
      have B10 : Hid (Below w.heap.size w w10) := B9.out.trans (hb10.mono B9.out.size)
      clear h2 ho10 hb10 CA9 CB9 B9 L9
      go_wp2_with fail
      refine hsm.mono ?_
      rintro e w11 ⟨rfl, hg11⟩
      have h3 := len_any w11 (CA10.out.below hg11.below)
      have h4 := len_any w11 (CB10.out.below hg11.below)
      clear hsm
      go_wp2_with fail
      refine h3.mono ?_
      rintro e w12 ⟨rfl, rfl⟩
      go_wp2_with fail
      refine h4.mono ?_
      rintro e w13 ⟨rfl, rfl⟩
      go_wp2
      go_ret
      exact ⟨by first | rfl | simp, B10.out.trans (hg11.below.mono B10.out.size)⟩
end Go.Proofs.Ytbomkeginbhhoaa
