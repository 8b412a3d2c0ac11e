import Derived.Test.YtaaobchodbnkpaaQuBase
import Derived.IntWalk
namespace Go.Proofs.Ytaaobchodbnkpaa.Qe
open Go.RowKit Go.Sort
attribute [local go_sem ↓] Go.wp_at_zero Go.wp_at_succ

theorem cut_nums {f m n c' N : Nat} {X l : List Ms} (hR : Rn X f m l) (hXl : X.length = n) (hnc : n ≤ c') (hf : f ≤ n) (hcm : c' ≤ 2000000000000000000) (hm : m ≤ N) :
    ∃ (ts : List Ms) (r e : Nat), wrap64 ((f : Int) + (m : Int)) = (f : Int) + (m : Int) ∧ Hid (¬ ((n : Int) < (f : Int) + (m : Int)) → (f : Int) + (m : Int) = (e : Int)) ∧ Hid (((n : Int) < (f : Int) + (m : Int)) → (n : Int) = (e : Int)) ∧ (f : Int) ≤ (e : Int) ∧ (e : Int) ≤ (c' : Int) ∧ (0 : Int) ≤ (f : Int) ∧
      wrap64 ((m : Int) - (ts.length : Int)) = (r : Int) ∧ (0 : Int) ≤ (r : Int) ∧ (r : Int) ≤ (c' : Int) ∧ (0 : Int) ≤ (ts.length : Int) ∧ (ts.length : Int) ≤ (N : Int) ∧ e - f = ts.length ∧ ts = l.take (e - f) ∧ Hid ((X.drop f).take (e - f) = ts) ∧ Hid (X.take r = l.drop (e - f)) ∧ Hid (r = m - ts.length ∧ l.length = m ∧ r ≤ n) ∧ (f ≤ e ∧ e ≤ n) := by
  have hle := hR.le
  rw [hXl] at hle
  obtain ⟨hp1, hp2, hp3⟩ := hR.parts
  rw [hXl] at hp1 hp2 hp3
  obtain ⟨e, he⟩ : ∃ e, e = min (f + m) n := ⟨_, rfl⟩
  rw [← he] at hp1 hp2 hp3
  have e1 : f ≤ e := by omega
  have e2 : e ≤ n := by omega
  have htl : (l.take (e - f)).length = e - f := by rw [List.length_take, hR.len]; omega
  have hb : ∀ x : Int, 0 ≤ x → x ≤ 4000000000000000000 → wrap64 x = x := fun x h1 h2 => Go.IntWalk.wrap64_in x ⟨Int.le_trans (by decide) h1, Int.le_trans h2 (by decide)⟩
  have h3 : (f : Int) + (m : Int) ≤ 4000000000000000000 := by omega
  have h4 : (m : Int) - ((l.take (e - f)).length : Int) = ((m - (e - f) : Nat) : Int) := by rw [htl]; omega
  have h5 : ((m - (e - f) : Nat) : Int) ≤ 4000000000000000000 := by omega
  refine ⟨l.take (e - f), m - (e - f), e, hb _ (by omega) h3, ?_, ?_, by omega, by omega, by omega, ?_, by omega, by omega, by omega, ?_, htl.symm, rfl, ?_, ?_, ?_, e1, e2⟩
  · intro h; clear hp1 hp2 hp3 h3 h4 h5; omega
  · intro h; clear hp1 hp2 hp3 h3 h4 h5; omega
  · rw [h4]; exact hb _ (by omega) h5
  · rw [htl]; omega
  · exact hp1
  · exact hp2
  · exact ⟨by rw [htl], hR.len, by omega⟩
theorem cut_fin {l Y ts : List Ms} {k m : Nat} (h : ts = l.take k) (hl : l.length = m) (hk : ts.length = k) : (ts ++ Y.drop ts.length).take ts.length ++ l.drop k ++ (ts ++ Y.drop ts.length).drop (ts.length + (l.drop k).length) = l ++ Y.drop m := by
  have hkm : k ≤ m := by rw [h, List.length_take] at hk; omega
  have hd : (l.drop k).length = m - k := by rw [List.length_drop, hl]
  have e1 : (ts ++ Y.drop ts.length).drop (ts.length + (l.drop k).length) = Y.drop m := by
    rw [hd, ← List.drop_drop, List.drop_left, List.drop_drop]
    congr 1
    omega
  rw [List.take_left, e1, h, List.take_append_drop]
/-- What cut leaves. -/
def Cut (w : World) (g N base : Nat) (L : List Ms) (e : Ending) (w' : World) : Prop := e = .returned (.tuple #[]) ∧ w'.ownsRow base 36 6 (.slice (some ⟨g, 0, none⟩) N N) N (fl EM L) ∧ Kp (fun k => k = g) w w'

set_option maxHeartbeats 4000000 in
theorem cutS_any {rb o f m n c' g N base : Nat} {g' : Nat} {X l Y : List Ms} (w : World) (hl : rb < w.heap.size) (c0 : w.cell? ⟨rb, o, none⟩ = some (.slice (some ⟨g', 0, none⟩) n c')) (c1 : w.cell? ⟨rb, o + 1, none⟩ = some (.int .i64 (f : Nat))) (c2 : w.cell? ⟨rb, o + 2, none⟩ = some (.int .i64 (m : Nat)))
    (hX : Ls EM w (.slice (some ⟨g', 0, none⟩) n c') X) (hXl : X.length = n) (hR : Rn X f m l) (hnc : n ≤ c') (hfn : f ≤ n) (hf : f < n ∨ (n = 0 ∧ f = 0)) (hcm : c' ≤ 2000000000000000000) (hY : w.ownsRow base 36 6 (.slice (some ⟨g, 0, none⟩) N N) N (fl EM Y)) (hYl : Y.length = N) (hm : m ≤ N) (hg1 : g' ≠ g) (hg2 : rb ≠ g) :
    Calls Try.prog 42 #[.pointer (some ⟨rb, o, none⟩), .slice (some ⟨g, 0, none⟩) N N] w (Cut w g N base (l ++ Y.drop m)) := by
  have hmx : Try.prog.follows .mixedOrders = true := by kernel_rfl
  obtain ⟨ts, r, e, hw1, HA, HB, e3, e4, e5, hr2, hr3, hr4, ht1, ht2, hef, hts, HT1, HT2, HRL, hes⟩ := cut_nums hR hXl hnc hfn hcm hm
  have HTL : Hid (ts.length = e - f) := hef.symm
  have hr5 : IntKind.i64.wrap ((m : Int) - (ts.length : Int)) = (r : Int) := (Go.IntWalk.i64_left _).trans hr2
  have HTS : Hid (ts = l.take (e - f)) := hts

  have HX := hid hX
  have HY := hid hY
  have HXl := hid hXl
  have HYl := hid hYl
  have HE := hid hes
  clear hR hX hY hXl hYl hts hes
  go_enter Try.func42, Try.ntmps42
  go_wp2_with fail
  go_cut [4] from 6 to 20 (fun s4 w' => s4 = .int .i64 (e : Nat) ∧ Hid (Gr w w'))
  case first =>
    go_quiet (fail)
    go_wp2_with fail
    · next h =>
      go_meet
      exact ⟨by rw [HB.out (by simpa [hw1] using h)], (Gr.refl _).drewN _⟩
    · next h =>
      go_meet
      exact ⟨by (try rw [hw1]); rw [HA.out (by simpa [hw1] using h)], (Gr.refl _).drewN _⟩
  case rest =>
    obtain ⟨rfl, HG⟩ := hcut
    have d0 := (HG.out.cell hl).trans c0
    have d1 := (HG.out.cell hl).trans c1
    have d2 := (HG.out.cell hl).trans c2
    have hl' := Nat.lt_of_lt_of_le hl HG.out.size
    have HX1 : Hid (Ls EM wc.drew (.slice (some ⟨g', 0, none⟩) n c') X) := HX.out.below (HG.out.drew).below
    have HY1 : Hid (wc.drew.ownsRow base 36 6 (.slice (some ⟨g, 0, none⟩) N N) N (fl EM Y)) := owns_below HY.out HG.out.drew.below
    clear HA HB c0 c1 c2

    have HOF : Hid ((if N = ts.length then 0 else ts.length * 6) = ts.length * EM.k ∨ l.drop (e - f) = []) := by
      by_cases hN : N = ts.length
      · right
        refine List.eq_nil_of_length_eq_zero ?_
        rw [List.length_drop, HRL.out.2.1, ← HTL.out]
        omega
      · left
        rw [if_neg hN]
        rfl
    have HS1 : Hid (Ls EM wc.drew (.slice (if c' = f then some ⟨g', 0, none⟩ else some ⟨g', f * 6, none⟩) ts.length (c' - f)) ts) := by
      have hk1 : ts.length ≤ (X.drop f).length := by rw [List.length_drop, HXl.out]; have h1 := HTL.out; have h2 := HE.out.2; omega
      have h1 := (HX1.out.tail (k := f) (c' - f)).cut (k := ts.length) hk1 (c' - f)
      by_cases hc : c' = f
      · rw [if_pos hc]
        have hf0 : f = 0 := by omega
        have h0 : 0 + f * EM.k = 0 := by rw [hf0]; simp
        rw [h0, HTL.out, HT1.out] at h1
        rw [HTL.out]
        exact h1
      · rw [if_neg hc]
        rw [show 0 + f * EM.k = f * 6 by simp [EM], HTL.out, HT1.out] at h1
        rw [HTL.out]
        exact h1
    go_wp2_with fail
    go_region_law (refine step_copyL EM Try.underlying22 sizeM rfl _ _ rfl base g N N 0 0 N Y ts (.slice (if c' = f then some ⟨g', 0, none⟩ else some ⟨g', f * 6, none⟩) ts.length (c' - f)) (by first | rfl | (go_simp; done)) (by first | rfl | (go_simp; done)) HY1.out HYl.out HS1.out (by omega) (Or.inl (Nat.zero_mul _).symm) ?_
                   intro w3 ho3 hk3)
    all_goals (
      generalize (if c' = f then some ⟨g', 0, none⟩ else some ⟨g', f * 6, none⟩ : Option Addr) = p31
      have hkd : Hid (Kp (fun j => j = g) wc w3) := (Kp.of_gr (Gr.refl _).drew).trans (T := fun j => j = g) hk3.out (fun _ _ h => h)
      have g0 := (hkd.out.cell hl' (o := o) hg2).trans d0
      have g2 := (hkd.out.cell hl' (o := o + 2) hg2).trans d2
      have l3 := Nat.lt_of_lt_of_le hl' hkd.out.size
      have HY3 : Hid (w3.drew.ownsRow base 36 6 (.slice (some ⟨g, 0, none⟩) N N) N (fl EM (ts ++ Y.drop ts.length))) := owns_below (owns_re ho3.out rfl (by simp)) (Gr.refl _).drew.below
      have HS3 : Hid (Ls EM w3.drew (.slice (some ⟨g', 0, none⟩) r c') (l.drop (e - f))) := by
        have h1 := HX.out.cut (k := r) (by rw [HXl.out]; exact HRL.out.2.2) c'
        rw [HT2.out] at h1
        have h2 := h1.below HG.out.below
        exact (hkd.out.ls h2 (fun k hk e => hg1 (by simp [Value.ownBlock] at hk; omega))).below (Gr.refl _).drew.below
      have HL3 : Hid ((ts ++ Y.drop ts.length).length = N) := by
        show _ = _
        rw [List.length_append, List.length_drop, HYl.out]
        omega
      have HF3 : Hid (ts.length + (l.drop (e - f)).length ≤ N) := by
        show _ ≤ _
        rw [List.length_drop, HRL.out.2.1, ← HTL.out]
        omega
      clear ho3 d0 d1 d2
      go_wp2_with fail
      all_goals (
        go_region_law (refine step_copyL EM Try.underlying22 sizeM rfl _ _ rfl base g N N ts.length (if N = ts.length then 0 else ts.length * 6) (N - ts.length) (ts ++ Y.drop ts.length) (l.drop (e - f)) _ (by first | rfl | (go_simp; done) | (split <;> go_simp)) (by first | rfl | (go_simp; done)) HY3.out HL3.out HS3.out HF3.out ?ho ?_
                       case ho => exact HOF.out
                       intro w4 ho4 hk4)
        all_goals (
          generalize (if N = ts.length then some ⟨g, 0, none⟩ else some ⟨g, ts.length * 6, none⟩ : Option Addr) = p35
          go_wp2_with fail
          go_end0
          refine ⟨rfl, owns_re ho4.out rfl ?_, ?_⟩
          · exact congrArg (fl EM) (cut_fin HTS.out HRL.out.2.1 HTL.out)
          · exact ((Kp.of_gr HG.out).trans (T := fun j => j = g) hkd.out (fun _ _ h => h)).trans (T := fun j => j = g) ((Kp.of_gr (Gr.refl _).drew).trans (T := fun j => j = g) hk4.out (fun _ _ h => h)) (fun _ _ h => h))))


set_option maxHeartbeats 4000000 in
theorem cutN_any {rb o g N base : Nat} {Y : List Ms} (w : World) (hl : rb < w.heap.size) (c0 : w.cell? ⟨rb, o, none⟩ = some (.slice none 0 0)) (c1 : w.cell? ⟨rb, o + 1, none⟩ = some (.int .i64 0)) (c2 : w.cell? ⟨rb, o + 2, none⟩ = some (.int .i64 0))
    (hY : w.ownsRow base 36 6 (.slice (some ⟨g, 0, none⟩) N N) N (fl EM Y)) (hYl : Y.length = N) (hg2 : rb ≠ g) :
    Calls Try.prog 42 #[.pointer (some ⟨rb, o, none⟩), .slice (some ⟨g, 0, none⟩) N N] w (Cut w g N base Y) := by
  have hmx : Try.prog.follows .mixedOrders = true := by kernel_rfl
  have HY := hid hY
  have HYl := hid hYl
  have hN : (0 : Int) ≤ (N : Int) := by omega
  have hw0 : IntKind.i64.wrap 0 = 0 := by decide
  clear hY hYl
  go_enter Try.func42, Try.ntmps42
  go_wp2_with fail
  go_cut [4] from 6 to 20 (fun s4 w' => s4 = .int .i64 0 ∧ Hid (Gr w w'))
  case first =>
    go_quiet (fail)
    go_wp2_with fail
    go_meet
    exact ⟨rfl, (Gr.refl _).drewN _⟩
  case rest =>
    obtain ⟨rfl, HG⟩ := hcut
    have d0 := (HG.out.cell hl).trans c0
    have d1 := (HG.out.cell hl).trans c1
    have d2 := (HG.out.cell hl).trans c2
    have hl' := Nat.lt_of_lt_of_le hl HG.out.size
    have HY1 : Hid (wc.drew.ownsRow base 36 6 (.slice (some ⟨g, 0, none⟩) N N) N (fl EM Y)) := owns_below HY.out HG.out.drew.below
    clear c0 c1 c2
    go_wp2_with fail
    go_region_law (refine step_copyL EM Try.underlying22 sizeM rfl _ _ rfl base g N N 0 0 N Y [] (.slice none 0 0) (by first | rfl | (go_simp; done)) (by first | rfl | (go_simp; done)) HY1.out HYl.out (Ls.nil _) (Nat.zero_le _) (Or.inr rfl) ?_
                   intro w3 ho3 hk3)
    all_goals (
      have hkd : Hid (Kp (fun j => j = g) wc w3) := (Kp.of_gr (Gr.refl _).drew).trans (T := fun j => j = g) hk3.out (fun _ _ h => h)
      have g0 := (hkd.out.cell hl' (o := o) hg2).trans d0
      have g2 := (hkd.out.cell hl' (o := o + 2) hg2).trans d2
      have l3 := Nat.lt_of_lt_of_le hl' hkd.out.size
      have HY3 : Hid (w3.drew.ownsRow base 36 6 (.slice (some ⟨g, 0, none⟩) N N) N (fl EM Y)) := owns_below (owns_re ho3.out rfl (by simp)) (Gr.refl _).drew.below
      clear ho3 d0 d1 d2
      go_wp2_with fail
      go_region_law (refine step_copyL EM Try.underlying22 sizeM rfl _ _ rfl base g N N 0 0 N Y [] (.slice none 0 0) (by first | rfl | (go_simp; done)) (by first | rfl | (go_simp; done)) HY3.out HYl.out (Ls.nil _) (Nat.zero_le _) (Or.inr rfl) ?_
                     intro w4 ho4 hk4)
      all_goals (
        go_wp2_with fail
        go_end0
        refine ⟨rfl, owns_re ho4.out rfl (by simp), ?_⟩
        exact ((Kp.of_gr HG.out).trans (T := fun j => j = g) hkd.out (fun _ _ h => h)).trans (T := fun j => j = g) ((Kp.of_gr (Gr.refl _).drew).trans (T := fun j => j = g) hk4.out (fun _ _ h => h)) (fun _ _ h => h)))
/-- cut, whatever the room. -/
theorem cut_any {rb o f m g N base : Nat} {v : Value} {X l Y : List Ms} (w : World) (hl : rb < w.heap.size) (c0 : w.cell? ⟨rb, o, none⟩ = some v) (c1 : w.cell? ⟨rb, o + 1, none⟩ = some (.int .i64 (f : Nat))) (c2 : w.cell? ⟨rb, o + 2, none⟩ = some (.int .i64 (m : Nat)))
    (hX : w.ownsRow 0 36 6 v X.length (fl EM X)) (hR : Rn X f m l) (hcm : ∀ p n c, v = .slice p n c → c ≤ 2000000000000000000) (hY : w.ownsRow base 36 6 (.slice (some ⟨g, 0, none⟩) N N) N (fl EM Y)) (hYl : Y.length = N) (hm : m ≤ N) (hg1 : v.ownBlock ≠ some g) (hg2 : rb ≠ g) :
    Calls Try.prog 42 #[.pointer (some ⟨rb, o, none⟩), .slice (some ⟨g, 0, none⟩) N N] w (Cut w g N base (l ++ Y.drop m)) := by
  rcases owns_form hX with ⟨rfl, h0⟩ | ⟨g', c', rfl, h1, _, _⟩
  · have hX0 : X = [] := List.eq_nil_of_length_eq_zero h0
    subst hX0
    have h2 := hR.le
    have h3 := hR.len
    have hm0 : m = 0 := by simpa using h2
    have hf0 : f = 0 := by have := hR.fle; simpa using this
    subst hm0 hf0
    have hl0 : l = [] := List.eq_nil_of_length_eq_zero h3
    subst hl0
    exact cutN_any w hl c0 c1 c2 hY hYl hg2
  · refine cutS_any w hl c0 c1 c2 (owns_ls (E := EM) hX) rfl hR h1 hR.fle ?_ (hcm _ _ _ rfl) hY hYl hm (fun e => hg1 (by rw [e]; rfl)) hg2
    rcases hR.fst with h | ⟨h, h2⟩
    · exact Or.inl h
    · exact Or.inr ⟨by rw [h]; rfl, h2⟩
end Go.Proofs.Ytaaobchodbnkpaa.Qe
