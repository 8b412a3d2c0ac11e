import Derived.Test.YtghpekkncfckaaaCaMeth2
import Derived.Test.YtghpekkncfckaaaCaRf
namespace Go.Proofs.Ytghpekkncfckaaa.Ca
open Go.RowKit Go.Sort
attribute [local go_sem ↓] Go.wp_at_zero Go.wp_at_succ

set_option maxHeartbeats 2000000 in
/-- Two lists that read alike. -/
theorem same_eq {a b : Value} {l : List Ct} (w : World) (ha : Ls EC w a l) (hb : Ls EC w b l) (hl : l.length ≤ 5864062014806) : Calls Try.prog 11 #[a, b] w fun e w' => e = .returned (.bool true) ∧ Gr w w' := by
  have hmx : Try.prog.follows .mixedOrders = true := by kernel_rfl
  have heq : ∀ (x : Ct) (W : World), Sem.run Try.prog (Op.equalIn 10000 36 (cv x) (cv x)) W = .ok true W := fun x W => by rw [run_eqC]; simp
  obtain ⟨p1, c1, rfl⟩ := ha.form
  obtain ⟨p2, c2, rfl⟩ := hb.form
  obtain ⟨n, hn⟩ : ∃ n, n = l.length := ⟨_, rfl⟩
  rw [← hn] at ha hb hl ⊢
  have HA := hid ha
  have HB := hid hb
  have HN := hid hn
  clear ha hb hn
  go_enter Try.func11, Try.ntmps11
  go_wp2_with fail
  go_loopw [5] (fun s5 wr => ∃ i : Nat, i ≤ n ∧ s5 = .int .i64 (i : Nat) ∧ Hid (Gr w wr)) (fun s5 _ => n - (RowKit.intOf s5).toNat)
  case atStart => exact ⟨0, Nat.zero_le _, rfl, Gr.refl _⟩
  case round =>
    obtain ⟨i, hi, rfl, HG⟩ := hrel
    by_cases hlt : i < n
    · have hz : (i : Int) < (n : Int) := by omega
      have hi0 : (0 : Int) ≤ (i : Int) := by omega
      obtain ⟨x, hx⟩ : ∃ x, l[i]? = some x := ⟨l[i]'(by have := HN.out; omega), by simp⟩
      obtain ⟨b1, o1, q1, e1, l1, y0, y1, y2, y3, y4⟩ := atC (HA.out.below HG.out.below) hx
      obtain ⟨b2, o2, q2, e2, l2, z0, z1, z2, z3, z4⟩ := atC (HB.out.below HG.out.below) hx
      simp only [Value.slice.injEq] at e1 e2
      obtain ⟨rfl, -, rfl⟩ := e1
      obtain ⟨rfl, -, rfl⟩ := e2
      have heq2 := heq x
      clear hx heq
      go_wp2_with fail
      go_quiet (fail)
      go_wp2_with fail
      go_roundw
      case rel => exact ⟨i + 1, hlt, by simp, HG.out.drewN _⟩
      case measure => simp [RowKit.intOf]; omega
    · have hz : ¬ ((i : Int) < (n : Int)) := by omega
      go_wp2
      go_ret
      exact ⟨rfl, HG.out⟩
set_option maxHeartbeats 1000000 in
theorem caught_any (a k v : Int) (w : World) : Calls Try.prog 29 #[.int .u64 a, .int .u64 k, .int .u64 v] w fun e w' => e = .returned (cv ⟨a, 0, 0, k, v⟩) ∧ Gr w w' := by
  go_enter Try.func29, Try.ntmps29
  go_wp2
  refine bodyPost_ret (v := .agg #[.int .u64 a, .int .u64 0, .int .u64 0, .int .u64 k, .int .u64 v]) (by simp [results, Try.results29, go_sem]) rfl ⟨rfl, ?_⟩
  exact (Gr.refl _).alloc _
/-- Told ahead, or the same. -/
def cle (x y : Ct) : Bool := !clt y x
theorem cle_time {x y : Ct} (h : x.t ≠ y.t) : tol x.t y.t = cle x y := by
  have : ¬ (x.a = y.a ∧ x.b = y.b ∧ x.c = y.c) := fun e => h (Prod.ext e.1 (Prod.ext e.2.1 e.2.2))
  unfold cle
  cases hq : clt y x with
  | true => rw [clt_iff] at hq; show _ = false; rw [tol_not]; dsimp only; omega
  | false => rw [clt_not] at hq; show _ = true; rw [tol_iff]; dsimp only; omega
theorem cle_key {x y : Ct} (h : x.t = y.t) : (decide (x.k < y.k) || (decide (x.k = y.k) && decide (x.v ≤ y.v))) = cle x y := by
  have h1 : x.a = y.a := congrArg Prod.fst h
  have h2 : x.b = y.b := congrArg (fun q => q.2.1) h
  have h3 : x.c = y.c := congrArg (fun q => q.2.2) h
  unfold cle
  rw [Bool.eq_iff_iff]
  simp only [Bool.or_eq_true, Bool.and_eq_true, decide_eq_true_eq, Bool.not_eq_true']
  rw [clt_not]
  omega
set_option maxHeartbeats 2000000 in
set_option maxRecDepth 100000 in
theorem ltold_any (x y : Ct) (w : World) : Calls Try.prog 13 #[cv x, cv y] w fun e w' => e = .returned (.bool (cle x y)) ∧ Gr w w' := by
  have heq := run_eqT x.a x.b x.c y.a y.b y.c
  rw [show teq x.a x.b x.c y.a y.b y.c = decide (x.t = y.t) from teq_dec x.t y.t] at heq
  by_cases ht : x.t = y.t
  · have hk := cle_key ht
    rw [decide_eq_true ht] at heq
    clear ht
    by_cases h1 : x.k < y.k
    · rw [show cle x y = true by rw [← hk]; simp [h1]]
      have d1 : decide (x.k < y.k) = true := by simpa using h1
      clear hk
      go_enter Try.func13, Try.ntmps13
      go_wp2
      go_ret
      exact ⟨rfl, ((Gr.refl _).alloc _).alloc _⟩
    · have d1 : decide (x.k < y.k) = false := by simpa using h1
      by_cases h2 : x.k = y.k
      · have d2 : (x.k == y.k) = true := by simpa using h2
        rw [show cle x y = decide (x.v ≤ y.v) by rw [← hk]; simp [h2]]
        clear hk
        go_enter Try.func13, Try.ntmps13
        go_wp2
        go_ret
        exact ⟨rfl, ((Gr.refl _).alloc _).alloc _⟩
      · have d2 : (x.k == y.k) = false := by simpa using h2
        rw [show cle x y = false by rw [← hk]; simp [h2, h1]]
        clear hk
        go_enter Try.func13, Try.ntmps13
        go_wp2
        go_ret
        exact ⟨rfl, ((Gr.refl _).alloc _).alloc _⟩
  · have hk := cle_time ht
    rw [decide_eq_false ht] at heq
    have H := fun W => r5told_any x.t y.t W
    rw [hk] at H
    generalize cle x y = r at H ⊢
    clear ht hk
    go_enter Try.func13, Try.ntmps13
    go_wp2_with fail
    refine (H _).mono ?_
    rintro e w1 ⟨rfl, hg⟩
    go_wp2
    go_ret
    exact ⟨rfl, (((Gr.refl _).alloc _).alloc _).trans hg⟩
end Go.Proofs.Ytghpekkncfckaaa.Ca
