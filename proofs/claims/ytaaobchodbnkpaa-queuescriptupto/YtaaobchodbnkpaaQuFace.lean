import Derived.Test.YtaaobchodbnkpaaQuTake
namespace Go.Proofs.Ytaaobchodbnkpaa.Qe
open Go.RowKit Go.Sort
attribute [local go_sem ↓] Go.wp_at_zero Go.wp_at_succ

/-- The block of a queue. -/
def Qk (w : World) (qb rb N C : Nat) : Prop := w.heap[qb]? = some (.cells #[.slice (some ⟨rb, 0, none⟩) N C] 77 (0, 0))
theorem Qk.lt {w : World} {qb rb N C : Nat} (h : Qk w qb rb N C) : qb < w.heap.size := (Array.getElem?_eq_some_iff.1 h).1
theorem Qk.c0 {w : World} {qb rb N C : Nat} (h : Qk w qb rb N C) : w.cell? ⟨qb, 0, none⟩ = some (.slice (some ⟨rb, 0, none⟩) N C) := by
  unfold Qk at h
  simp [World.cell?, h]
theorem Qk.kp {S : Nat → Prop} {w w' : World} {qb rb N C : Nat} (h : Qk w qb rb N C) (hk : Kp S w w') (hS : ¬ S qb) : Qk w' qb rb N C := (hk.block qb h.lt hS).trans h
/-- A queue, all of whose blocks are in S: what waits in it. -/
structure Pw (w : World) (S : Nat → Prop) (qb N K : Nat) (Q : Nat → List Ms) (rb C : Nat) (v : Nat → Value) (f m : Nat → Nat) (X : Nat → List Ms) : Prop where
  q : Qk w qb rb N C
  p : Pb w rb N C v f m X Q
  x : ∀ i, i < N → (X i).length ≤ 2 * K + 1
  k : ∀ i, i < N → (Q i).length ≤ K
  n : N ≤ 192
  sq : S qb
  sr : S rb
  s : ∀ i g, i < N → (v i).ownBlock = some g → S g
def Pq (w : World) (S : Nat → Prop) (qb N K : Nat) (Q : Nat → List Ms) : Prop := ∃ rb C v f m X, Pw w S qb N K Q rb C v f m X
/-- The blocks of S, and those that are new. -/
def nx (S : Nat → Prop) (w w' : World) : Nat → Prop := fun k => S k ∨ (w.heap.size ≤ k ∧ k < w'.heap.size)
section
variable {w w' : World} {S : Nat → Prop} {qb N K : Nat} {Q : Nat → List Ms} {rb C : Nat} {v : Nat → Value} {f m : Nat → Nat} {X : Nat → List Ms}
theorem Pw.ne (h : Pw w S qb N K Q rb C v f m X) : qb ≠ rb := by
  intro e
  have h1 := h.q
  obtain ⟨cs, h2, _⟩ := h.p.blk
  unfold Qk at h1
  rw [e, h2] at h1
  simp at h1
theorem Pw.off (h : Pw w S qb N K Q rb C v f m X) {i : Nat} (hi : i < N) : (v i).ownBlock ≠ some qb := by
  intro e
  have h1 := h.q
  unfold Qk at h1
  rcases (h.p.own i hi).2 with ⟨e2, _⟩ | ⟨g, cap, cur, e2, _, hh, _⟩
  · rw [e2] at e; simp [Value.ownBlock] at e
  · rw [e2] at e
    simp [Value.ownBlock] at e
    subst e
    rw [h1] at hh
    simp at hh
theorem Pw.kp {R : Nat → Prop} (h : Pw w S qb N K Q rb C v f m X) (hk : Kp R w w') (hR : ∀ k, k < w.heap.size → S k → ¬ R k) : Pw w' S qb N K Q rb C v f m X :=
  ⟨h.q.kp hk (hR _ h.q.lt h.sq), h.p.kp hk (hR _ h.p.blk.lt h.sr) (fun i k hi hv => hR k (h.p.row hi k hv) (h.s i k hi hv)), h.x, h.k, h.n, h.sq, h.sr, h.s⟩
theorem Pq.kp {R : Nat → Prop} (h : Pq w S qb N K Q) (hk : Kp R w w') (hR : ∀ k, k < w.heap.size → S k → ¬ R k) : Pq w' S qb N K Q := by
  obtain ⟨rb, C, v, f, m, X, h⟩ := h
  exact ⟨rb, C, v, f, m, X, h.kp hk hR⟩
theorem Pq.gr (h : Pq w S qb N K Q) (hg : Gr w w') : Pq w' S qb N K Q := h.kp (R := fun _ => False) (Kp.of_gr hg) (fun _ _ _ h => h)
theorem Pq.below (h : Pq w S qb N K Q) (hg : Below w.heap.size w w') : Pq w' S qb N K Q := h.kp (R := fun _ => False) (Kp.of_below hg) (fun _ _ _ h => h)
theorem Pq.mono {S' : Nat → Prop} {K' : Nat} (h : Pq w S qb N K Q) (hS : ∀ k, k < w.heap.size → S k → S' k) (hN : K ≤ K') : Pq w S' qb N K' Q := by
  obtain ⟨rb, C, v, f, m, X, h⟩ := h
  exact ⟨rb, C, v, f, m, X, h.q, h.p, fun i hi => by have := h.x i hi; omega, fun i hi => Nat.le_trans (h.k i hi) hN, h.n, hS _ h.q.lt h.sq, hS _ h.p.blk.lt h.sr, fun i g hi hg => hS g (h.p.row hi g hg) (h.s i g hi hg)⟩
theorem Pq.lt (h : Pq w S qb N K Q) : qb < w.heap.size := by
  obtain ⟨rb, C, v, f, m, X, h⟩ := h
  exact h.q.lt
theorem Pq.n (h : Pq w S qb N K Q) : N ≤ 192 := by
  obtain ⟨rb, C, v, f, m, X, h⟩ := h
  exact h.n
theorem Pq.k (h : Pq w S qb N K Q) : ∀ i, i < N → (Q i).length ≤ K := by
  obtain ⟨rb, C, v, f, m, X, h⟩ := h
  exact h.k
theorem Pq.ext {Q' : Nat → List Ms} (h : Pq w S qb N K Q) (hq : ∀ i, i < N → Q i = Q' i) : Pq w S qb N K Q' := by
  obtain ⟨rb, C, v, f, m, X, h⟩ := h
  exact ⟨rb, C, v, f, m, X, h.q, ⟨h.p.blk, h.p.own, fun i hi => hq i hi ▸ h.p.rn i hi, h.p.cap, h.p.dup⟩, h.x, fun i hi => hq i hi ▸ h.k i hi, h.n, h.sq, h.sr, h.s⟩
/-- One ring of it is turned. -/
theorem Pw.turn (h : Pw w S qb N K Q rb C v f m X) {i : Nat} (hi : i < N) {u : Value} {f' m' K' : Nat} {X' L : List Ms} (hP : Pb w' rb N C (upd v i u) (upd f i f') (upd m i m') (upd X i X') (upd Q i L)) (hX : X'.length ≤ 2 * K' + 1) (hL : L.length ≤ K') (hK : K ≤ K')
    (hT : Trn rb (v i) w w') (hu : ∀ g, u.ownBlock = some g → (v i).ownBlock = some g ∨ w.heap.size ≤ g) : Pq w' (nx S w w') qb N K' (upd Q i L) ∧ Kp S w w' := by
  refine ⟨⟨rb, C, _, _, _, _, h.q.kp hT (fun e => ?_), hP, fun j hj => ?_, fun j hj => ?_, h.n, Or.inl h.sq, Or.inl h.sr, fun j g hj hg => ?_⟩, hT.mono (fun k hk => ?_)⟩
  · rcases e with e | e
    · exact h.ne e
    · exact h.off hi e
  · by_cases e : j = i
    · subst e; rw [upd_self]; exact hX
    · rw [upd_ne _ _ e]; have := h.x j hj; omega
  · by_cases e : j = i
    · subst e; rw [upd_self]; exact hL
    · rw [upd_ne _ _ e]; exact Nat.le_trans (h.k j hj) hK
  · by_cases e : j = i
    · subst e
      have hr := hP.row hj g hg
      rw [upd_self] at hg
      rcases hu g hg with h5 | h5
      · exact Or.inl (h.s j g hj h5)
      · exact Or.inr ⟨h5, hr⟩
    · rw [upd_ne _ _ e] at hg
      exact Or.inl (h.s j g hj hg)
  · rcases hk with rfl | hk
    · exact h.sr
    · exact h.s i k hi hk
end
/-- A number is a place. -/
def Plc (N : Nat) (p : Int) : Prop := 0 ≤ p ∧ p < (N : Int)
instance (N : Nat) (p : Int) : Decidable (Plc N p) := by unfold Plc; infer_instance
theorem Plc.lt {N : Nat} {p : Int} (h : Plc N p) : p.toNat < N := by unfold Plc at h; omega
theorem Plc.cast {N : Nat} {p : Int} (h : Plc N p) : p = (p.toNat : Nat) := by unfold Plc at h; omega
/-- What waits at a place. -/
def lst (N : Nat) (Q : Nat → List Ms) (p : Int) : List Ms := if Plc N p then Q p.toNat else []
/-- What Put answers, and leaves. -/
def pe (N : Nat) (p : Int) : Nat := if Plc N p then 0 else 42
def ptn (N : Nat) (Q : Nat → List Ms) (x : Ms) : Nat → List Ms := if Plc N x.at_ then upd Q x.at_.toNat (Q x.at_.toNat ++ [x]) else Q
/-- What Take answers, and leaves. -/
def tk (N : Nat) (Q : Nat → List Ms) (p : Int) : Ms × Nat := if Plc N p then (match Q p.toNat with | x :: _ => (x, 0) | [] => (mz, 43)) else (mz, 42)
def tkn (N : Nat) (Q : Nat → List Ms) (p : Int) : Nat → List Ms := if Plc N p then upd Q p.toNat (Q p.toNat).tail else Q
def drn (N : Nat) (Q : Nat → List Ms) (p : Int) : Nat → List Ms := if Plc N p then upd Q p.toNat [] else Q

theorem places_any {qb rb N C : Nat} (w : World) (h : Qk w qb rb N C) : Calls Try.prog 28 #[.pointer (some ⟨qb, 0, none⟩)] w fun e w' => e = .returned (.int .i64 (N : Nat)) ∧ w' = w := by
  have c0 := h.c0
  have hl := h.lt
  clear h
  go_enter Try.func28, Try.ntmps28
  go_wp2
  go_ret
  exact ⟨rfl, rfl⟩
set_option maxHeartbeats 1000000 in
theorem isPlace_any {qb rb N C : Nat} (p : Int) (w : World) (h : Qk w qb rb N C) : Calls Try.prog 25 #[.pointer (some ⟨qb, 0, none⟩), .int .i64 p] w fun e w' => e = .returned (.bool (decide (Plc N p))) ∧ w' = w := by
  have hp := places_any w h
  by_cases h0 : 0 ≤ p
  · by_cases h1 : p < (N : Int)
    · rw [show decide (Plc N p) = true from decide_eq_true ⟨h0, h1⟩]
      go_enter Try.func25, Try.ntmps25
      go_wp2_with fail
      refine hp.mono ?_
      rintro e w1 ⟨rfl, rfl⟩
      go_wp2
      go_ret
      exact ⟨rfl, rfl⟩
    · rw [show decide (Plc N p) = false from decide_eq_false (fun h : Plc N p => h1 h.2)]
      have h2 : decide (p < (N : Int)) = false := decide_eq_false h1
      go_enter Try.func25, Try.ntmps25
      go_wp2_with fail
      refine hp.mono ?_
      rintro e w1 ⟨rfl, rfl⟩
      go_wp2
      go_ret
      exact ⟨rfl, rfl⟩
  · rw [show decide (Plc N p) = false from decide_eq_false (fun h : Plc N p => h0 h.1)]
    clear hp
    go_enter Try.func25, Try.ntmps25
    go_wp2
    go_ret
    exact ⟨rfl, rfl⟩
set_option maxHeartbeats 1000000 in
theorem len_any {S : Nat → Prop} {qb N K : Nat} {Q : Nat → List Ms} (p : Int) (w : World) (h : Pq w S qb N K Q) : Calls Try.prog 11 #[.pointer (some ⟨qb, 0, none⟩), .int .i64 p] w fun e w' => e = .returned (.int .i64 ((lst N Q p).length : Nat)) ∧ w' = w := by
  obtain ⟨rb, C, v, f, m, X, h⟩ := h
  have hp := isPlace_any p w h.q
  have c0 := h.q.c0
  have hl := h.q.lt
  unfold lst
  by_cases hP : Plc N p
  · rw [decide_eq_true hP] at hp
    rw [if_pos hP]
    have hi := hP.lt
    obtain ⟨i, rfl⟩ : ∃ i : Nat, p = i := ⟨_, hP.cast⟩
    rw [Int.toNat_natCast] at hi ⊢
    have c2 := h.p.blk.cm hi
    have hl2 := h.p.blk.lt
    have a1 : (0 : Int) ≤ (i : Int) := by omega
    have a2 : (i : Int) < (N : Int) := by omega
    rw [(h.p.rn i hi).len]
    generalize m i = M at c2 ⊢
    clear h hP hi
    go_enter Try.func11, Try.ntmps11
    go_wp2_with fail
    refine hp.mono ?_
    rintro e w1 ⟨rfl, rfl⟩
    go_wp2
    go_ret
    exact ⟨rfl, rfl⟩
  · rw [decide_eq_false hP] at hp
    rw [if_neg hP]
    clear h
    go_enter Try.func11, Try.ntmps11
    go_wp2_with fail
    refine hp.mono ?_
    rintro e w1 ⟨rfl, rfl⟩
    go_wp2
    go_ret
    exact ⟨rfl, rfl⟩
/-- A list that is answered: none, or a row of its own. -/
def Ans (w : World) (l : List Ms) (e : Ending) (w' : World) : Prop := ∃ u, e = .returned u ∧ (∃ p c, u = .slice p l.length c) ∧ w'.ownsRow w.heap.size 36 6 u l.length (fl EM l) ∧ Below w.heap.size w w'
set_option maxHeartbeats 1000000 in
theorem qlist_any {S : Nat → Prop} {qb N K : Nat} {Q : Nat → List Ms} (p : Int) (w : World) (h : Pq w S qb N K Q) (hbig : (2 * K + 1) * 48 ≤ 281474976710656) : Calls Try.prog 22 #[.pointer (some ⟨qb, 0, none⟩), .int .i64 p] w (Ans w (lst N Q p)) := by
  obtain ⟨rb, C, v, f, m, X, h⟩ := h
  have hp := isPlace_any p w h.q
  have c0 := h.q.c0
  have hl := h.q.lt
  unfold lst
  by_cases hP : Plc N p
  · rw [decide_eq_true hP] at hp
    rw [if_pos hP]
    have hi := hP.lt
    obtain ⟨i, rfl⟩ : ∃ i : Nat, p = i := ⟨_, hP.cast⟩
    rw [Int.toNat_natCast] at hi ⊢
    have hli := list_any w h.p hi (by have := h.x i hi; omega) (by have := h.k i hi; omega)
    have hl2 := h.p.blk.lt
    have a1 : (0 : Int) ≤ (i : Int) := by omega
    have a2 : (i : Int) < (N : Int) := by omega
    clear h hP hi hbig
    go_enter Try.func22, Try.ntmps22
    go_wp2_with fail
    refine hp.mono ?_
    rintro e w1 ⟨rfl, rfl⟩
    go_wp2_with fail
    refine hli.mono ?_
    rintro e w1 ⟨c, rfl, h1⟩
    go_wp2
    go_ret
    exact ⟨_, rfl, ⟨_, _, rfl⟩, h1.out.1, h1.out.2⟩
  · rw [decide_eq_false hP] at hp
    rw [if_neg hP]
    clear h hbig
    go_enter Try.func22, Try.ntmps22
    go_wp2_with fail
    refine hp.mono ?_
    rintro e w1 ⟨rfl, rfl⟩
    go_wp2
    go_ret
    exact ⟨_, rfl, ⟨_, _, rfl⟩, World.ownsRow_nil _ _ _ _, (Gr.refl _).below⟩
set_option maxHeartbeats 2000000 in
set_option maxRecDepth 100000 in
theorem put_any {S : Nat → Prop} {qb N K : Nat} {Q : Nat → List Ms} (x : Ms) (w : World) (h : Pq w S qb N K Q) (hbig : (2 * K + 1) * 48 ≤ 281474976710656) : Calls Try.prog 8 #[.pointer (some ⟨qb, 0, none⟩), mv x] w fun e w' => e = .returned (.int .i64 (pe N x.at_ : Nat)) ∧ Hid (Pq w' (nx S w w') qb N (K + 1) (ptn N Q x) ∧ Kp S w w') := by
  have hmx : Try.prog.follows .mixedOrders = true := by kernel_rfl
  obtain ⟨W1, hW1⟩ : ∃ W1, W1 = w.alloc (.cells #[.int .i64 x.at_, .int .u64 x.a, .int .u64 x.b, .int .u64 x.c, .int .u64 x.k, .int .u64 x.v] 36) := ⟨_, rfl⟩
  obtain ⟨b1, hb1⟩ : ∃ b1, b1 = w.heap.size := ⟨_, rfl⟩
  have G1 : Gr w W1 := by rw [hW1]; exact (Gr.refl _).alloc _
  have HBX : Hid (W1.heap[b1]? = some (.cells #[.int .i64 x.at_, .int .u64 x.a, .int .u64 x.b, .int .u64 x.c, .int .u64 x.k, .int .u64 x.v] 36 (0, 0))) := by rw [hW1, hb1]; exact heap_new' _ _
  have HPq := hid (h.gr G1)
  obtain ⟨rb, C, v, f, m, X, h00⟩ := h
  have h := h00.kp (R := fun _ => False) (Kp.of_gr G1) (fun _ _ _ h => h)
  have HRB : Hid (∀ i k, i < N → (v i).ownBlock = some k → k < b1) := fun i k hi hk => by rw [hb1]; exact h00.p.row hi k hk
  have HRR : Hid (rb < b1) := by rw [hb1]; exact h00.p.blk.lt
  clear h00
  have hp := isPlace_any x.at_ W1 h.q
  have c0 := h.q.c0
  have hl := h.q.lt
  have HG1 := hid G1
  obtain ⟨q0, q1, q2, q3, q4, q5⟩ : Mc W1 b1 0 x := by simp [Mc, World.cell?, HBX.out]
  have hbl : b1 < W1.heap.size := (Array.getElem?_eq_some_iff.1 HBX.out).1
  unfold pe ptn
  by_cases hP : Plc N x.at_
  · rw [decide_eq_true hP] at hp
    rw [if_pos hP, if_pos hP]
    have hi := hP.lt
    have hat := hP.cast
    obtain ⟨i, hii⟩ : ∃ i : Nat, i = x.at_.toNat := ⟨_, rfl⟩
    rw [← hii] at hi hat ⊢
    rw [hat] at q0
    have a1 : (0 : Int) ≤ (i : Int) := by omega
    have a2 : (i : Int) < (N : Int) := by omega
    have hl2 := h.p.blk.lt
    have HW := hid h
    have HI := hid hi
    have HAT := hid hat
    have hrp : ∀ W : World, Gr W1 W → Calls Try.prog 26 #[.pointer (some ⟨rb, i * 3, none⟩), mv x] W fun e w' => e = .returned (.tuple #[]) ∧ Hid (Put W rb N C v f m X Q i K x w') := fun W hg => rput_any x W (h.p.gr hg) hi (h.x i hi) (by rw [← (h.p.rn i hi).len]; exact h.k i hi) hbig
    have hmv : mv x = .agg #[.int .i64 (i : Nat), .int .u64 x.a, .int .u64 x.b, .int .u64 x.c, .int .u64 x.k, .int .u64 x.v] := by unfold mv; rw [hat]
    rw [hmv] at hrp
    have hpn : Calls Try.prog 25 #[.pointer (some ⟨qb, 0, none⟩), .int .i64 (i : Nat)] W1 fun e w' => e = .returned (.bool true) ∧ w' = W1 := by rw [← hat]; exact hp
    clear h hP hi hbig hii hat hp hmv
    go_enter Try.func8, Try.ntmps8
    go_upto_region 1 with fail
    rw [← hW1, ← hb1]
    clear hW1 hb1
    go_wp2_with fail
    refine hpn.mono ?_
    rintro e w1 ⟨rfl, rfl⟩
    have hS0 : (fun W : World => (W.cell? ⟨qb, 0, none⟩ = some (.slice (some ⟨rb, 0, none⟩) N C) ∧ qb < W.heap.size) ∧ (W.cell? ⟨b1, 0, none⟩ = some (.int .i64 (i : Nat)) ∧ W.cell? ⟨b1, 0 + 1, none⟩ = some (.int .u64 x.a) ∧ W.cell? ⟨b1, 0 + 2, none⟩ = some (.int .u64 x.b) ∧ W.cell? ⟨b1, 0 + 3, none⟩ = some (.int .u64 x.c) ∧ W.cell? ⟨b1, 0 + 4, none⟩ = some (.int .u64 x.k) ∧ W.cell? ⟨b1, 0 + 5, none⟩ = some (.int .u64 x.v)) ∧ b1 < W.heap.size ∧ rb < W.heap.size) w1.drew := ⟨⟨c0, hl⟩, ⟨q0, q1, q2, q3, q4, q5⟩, hbl, hl2⟩
    go_wp2_with fail
    refine wp_regionD (S := (fun W : World => (W.cell? ⟨qb, 0, none⟩ = some (.slice (some ⟨rb, 0, none⟩) N C) ∧ qb < W.heap.size) ∧ (W.cell? ⟨b1, 0, none⟩ = some (.int .i64 (i : Nat)) ∧ W.cell? ⟨b1, 0 + 1, none⟩ = some (.int .u64 x.a) ∧ W.cell? ⟨b1, 0 + 2, none⟩ = some (.int .u64 x.b) ∧ W.cell? ⟨b1, 0 + 3, none⟩ = some (.int .u64 x.c) ∧ W.cell? ⟨b1, 0 + 4, none⟩ = some (.int .u64 x.k) ∧ W.cell? ⟨b1, 0 + 5, none⟩ = some (.int .u64 x.v)) ∧ b1 < W.heap.size ∧ rb < W.heap.size)) (D := []) hmx ?_
    refine' wpAnyD_take (i := 0) (oi := { dst := some 12, op := Go.Op.move (Go.Operand.tmp 0), type := 24, pos := "queue.go:33", after := #[], guard := none }) (v := _) rfl (by kernel_rfl) (by kernel_rfl) (by kernel_rfl) (fun _ _ _ h => h) (by kernel_rfl) (Or.inl ⟨by rfl, ?hy1⟩) hS0 ?rest1
    case hy1 => (intro W hSw; go_simp; try (with_reducible rfl))
    try simp only [Act.put, List.setIfInBounds_toArray, List.set_cons_zero, List.set_cons_succ]
    refine' wpAnyD_take (i := 1) (oi := { dst := some 13, op := Go.Op.nilCheck (Go.Operand.tmp 12), type := 0, pos := "queue.go:33", after := #[{ on := 0, ground := Go.Ground.data }], guard := none }) (v := _) rfl (by kernel_rfl) (by kernel_rfl) (by kernel_rfl) (fun _ _ _ h => h) (by kernel_rfl) (Or.inl ⟨by rfl, ?hy2⟩) hS0 ?rest2
    case hy2 => (intro W hSw; go_simp; try (with_reducible rfl))
    try simp only [Act.put, List.setIfInBounds_toArray, List.set_cons_zero, List.set_cons_succ]
    refine' wpAnyD_take (i := 2) (oi := { dst := some 14, op := Go.Op.fieldAddr 77 (Go.Operand.tmp 13) 0, type := 0, pos := "queue.go:33", after := #[{ on := 1, ground := Go.Ground.data }], guard := none }) (v := _) rfl (by kernel_rfl) (by kernel_rfl) (by kernel_rfl) (fun _ _ _ h => h) (by kernel_rfl) (Or.inl ⟨by rfl, ?hy3⟩) hS0 ?rest3
    case hy3 => (intro W hSw; go_simp; try (with_reducible rfl))
    try simp only [Act.put, List.setIfInBounds_toArray, List.set_cons_zero, List.set_cons_succ]
    refine' wpAnyD_take (i := 3) (oi := { dst := some 15, op := Go.Op.load 75 (Go.Operand.tmp 14), type := 75, pos := "queue.go:33", after := #[{ on := 2, ground := Go.Ground.data }], guard := none }) (v := _) rfl (by kernel_rfl) (by kernel_rfl) (by kernel_rfl) (fun _ _ _ h => h) (by kernel_rfl) (Or.inl ⟨by rfl, ?hy4⟩) hS0 ?rest4
    case hy4 => (intro W hSw; obtain ⟨⟨s0, s1⟩, ⟨s4, s5, s6, s7, s8, s9⟩, s10, s11⟩ := hSw; go_simp; try (with_reducible rfl))
    try simp only [Act.put, List.setIfInBounds_toArray, List.set_cons_zero, List.set_cons_succ]
    refine' wpAnyD_take (i := 4) (oi := { dst := some 16, op := Go.Op.fieldAddr 36 (Go.Operand.tmp 3) 0, type := 0, pos := "queue.go:33", after := #[], guard := none }) (v := _) rfl (by kernel_rfl) (by kernel_rfl) (by kernel_rfl) (fun _ _ _ h => h) (by kernel_rfl) (Or.inl ⟨by rfl, ?hy5⟩) hS0 ?rest5
    case hy5 => (intro W hSw; go_simp; try (with_reducible rfl))
    try simp only [Act.put, List.setIfInBounds_toArray, List.set_cons_zero, List.set_cons_succ]
    refine' wpAnyD_take (i := 5) (oi := { dst := some 17, op := Go.Op.load 3 (Go.Operand.tmp 16), type := 3, pos := "queue.go:33", after := #[{ on := 4, ground := Go.Ground.data }], guard := none }) (v := _) rfl (by kernel_rfl) (by kernel_rfl) (by kernel_rfl) (fun _ _ _ h => h) (by kernel_rfl) (Or.inl ⟨by rfl, ?hy6⟩) hS0 ?rest6
    case hy6 => (intro W hSw; obtain ⟨⟨s0, s1⟩, ⟨s4, s5, s6, s7, s8, s9⟩, s10, s11⟩ := hSw; go_simp; try (with_reducible rfl))
    try simp only [Act.put, List.setIfInBounds_toArray, List.set_cons_zero, List.set_cons_succ]
    refine' wpAnyD_take (i := 6) (oi := { dst := some 18, op := Go.Op.indexAddr 75 (Go.Operand.tmp 15) (Go.Operand.tmp 17), type := 0, pos := "queue.go:33", after := #[{ on := 3, ground := Go.Ground.data }, { on := 5, ground := Go.Ground.data }], guard := none }) (v := _) rfl (by kernel_rfl) (by kernel_rfl) (by kernel_rfl) (fun _ _ _ h => h) (by kernel_rfl) (Or.inl ⟨by rfl, ?hy7⟩) hS0 ?rest7
    case hy7 => (intro W hSw; go_simp; try (with_reducible rfl))
    try simp only [Act.put, List.setIfInBounds_toArray, List.set_cons_zero, List.set_cons_succ]
    refine' wpAnyD_take (i := 7) (oi := { dst := some 19, op := Go.Op.load 36 (Go.Operand.tmp 3), type := 36, pos := "queue.go:33", after := #[], guard := none }) (v := _) rfl (by kernel_rfl) (by kernel_rfl) (by kernel_rfl) (fun _ _ _ h => h) (by kernel_rfl) (Or.inl ⟨by rfl, ?hy8⟩) hS0 ?rest8
    case hy8 => (intro W hSw; obtain ⟨⟨s0, s1⟩, ⟨s4, s5, s6, s7, s8, s9⟩, s10, s11⟩ := hSw; go_simp; try (with_reducible rfl))
    try simp only [Act.put, List.setIfInBounds_toArray, List.set_cons_zero, List.set_cons_succ]
    refine wpAnyD_one (i := 8) (o := { dst := some 20, op := Go.Op.call { callee := Go.Callee.value (Go.Operand.func 26), args := #[Go.Operand.tmp 18, Go.Operand.tmp 19], argTypes := #[80, 36] }, type := 0, pos := "queue.go:33", after := #[{ on := 6, ground := Go.Ground.data }, { on := 7, ground := Go.Ground.data }], guard := none }) (by kernel_rfl) rfl (fun K hK => ?_)
    rw [if_pos (by kernel_rfl)]
    go_simp
    refine (hrp _ (Gr.refl _).drew).mono ?_
    rintro e W3 ⟨rfl, hR3⟩
    have hTr : Kp (fun k => k = rb ∨ (v i).ownBlock = some k) w1.drew W3 := by obtain ⟨u, f', X', _, _, h3, _⟩ := hR3.out; exact h3
    have nq : ¬ (qb = rb ∨ (v i).ownBlock = some qb) := fun e => e.elim HW.out.ne (HW.out.off HI.out)
    have nb : ¬ (b1 = rb ∨ (v i).ownBlock = some b1) := fun e => e.elim (fun e => by have := HRR.out; omega) (fun e => by have := HRB.out i b1 HI.out e; omega)
    have hS3 : (fun W : World => (W.cell? ⟨qb, 0, none⟩ = some (.slice (some ⟨rb, 0, none⟩) N C) ∧ qb < W.heap.size) ∧ (W.cell? ⟨b1, 0, none⟩ = some (.int .i64 (i : Nat)) ∧ W.cell? ⟨b1, 0 + 1, none⟩ = some (.int .u64 x.a) ∧ W.cell? ⟨b1, 0 + 2, none⟩ = some (.int .u64 x.b) ∧ W.cell? ⟨b1, 0 + 3, none⟩ = some (.int .u64 x.c) ∧ W.cell? ⟨b1, 0 + 4, none⟩ = some (.int .u64 x.k) ∧ W.cell? ⟨b1, 0 + 5, none⟩ = some (.int .u64 x.v)) ∧ b1 < W.heap.size ∧ rb < W.heap.size) W3 := ⟨⟨(hTr.cell hl nq).trans c0, Nat.lt_of_lt_of_le hl hTr.size⟩, ⟨(hTr.cell hbl nb).trans q0, (hTr.cell hbl nb).trans q1, (hTr.cell hbl nb).trans q2, (hTr.cell hbl nb).trans q3, (hTr.cell hbl nb).trans q4, (hTr.cell hbl nb).trans q5⟩, Nat.lt_of_lt_of_le hbl hTr.size, Nat.lt_of_lt_of_le hl2 hTr.size⟩
    go_wp2_with fail
    refine hK.out _ _ (fun hD => hS3) ?_
    clear hK K
    try simp only [Act.put, List.setIfInBounds_toArray, List.set_cons_zero, List.set_cons_succ]
    refine wpAnyD_done (by kernel_rfl) ?_ _
    go_wp2
    go_ret
    refine ⟨rfl, ?_⟩
    obtain ⟨u, f', X', h1, h2, h3, h4⟩ := hR3.out
    have hT := (HW.out.kp (R := fun _ => False) (Kp.of_gr (Gr.refl _).drew) (fun _ _ _ h => h)).turn HI.out h1 (K' := K + 1) (by omega) (by rw [List.length_append]; exact Nat.succ_le_succ (HW.out.k i HI.out)) (Nat.le_succ _) h3 h4
    refine ⟨hT.1.mono (fun k _ hk => hk.imp id (fun h => ⟨Nat.le_trans (HG1.out.drew).size h.1, h.2⟩)) (Nat.le_refl _), (Kp.of_gr HG1.out.drew).trans hT.2 (fun _ _ h => h)⟩
  · rw [decide_eq_false hP] at hp
    rw [if_neg hP, if_neg hP]
    clear h hbig
    go_enter Try.func8, Try.ntmps8
    go_upto_region 1 with fail
    rw [← hW1, ← hb1]
    clear hW1 hb1
    go_wp2_with fail
    refine hp.mono ?_
    rintro e w1 ⟨rfl, rfl⟩
    go_wp2
    go_ret
    exact ⟨rfl, HPq.out.mono (fun k _ h => Or.inl h) (Nat.le_succ _), Kp.of_gr HG1.out⟩
end Go.Proofs.Ytaaobchodbnkpaa.Qe
