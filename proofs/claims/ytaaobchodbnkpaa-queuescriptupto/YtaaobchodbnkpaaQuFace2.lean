import Derived.Test.YtaaobchodbnkpaaQuFace
namespace Go.Proofs.Ytaaobchodbnkpaa.Qe
open Go.RowKit Go.Sort
attribute [local go_sem ↓] Go.wp_at_zero Go.wp_at_succ

theorem set6_blk {w : World} {b : Nat} {y : Ms} (x : Ms) (h : w.heap[b]? = some (.cells #[.int .i64 y.at_, .int .u64 y.a, .int .u64 y.b, .int .u64 y.c, .int .u64 y.k, .int .u64 y.v] 36 (0, 0))) : Mc ((((((w.setCell ⟨b, 0, none⟩ (.int .i64 x.at_)).setCell ⟨b, 1, none⟩ (.int .u64 x.a)).setCell ⟨b, 2, none⟩ (.int .u64 x.b)).setCell ⟨b, 3, none⟩ (.int .u64 x.c)).setCell ⟨b, 4, none⟩ (.int .u64 x.k)).setCell ⟨b, 5, none⟩ (.int .u64 x.v)) b 0 x ∧ Kp (fun k => k = b) w ((((((w.setCell ⟨b, 0, none⟩ (.int .i64 x.at_)).setCell ⟨b, 1, none⟩ (.int .u64 x.a)).setCell ⟨b, 2, none⟩ (.int .u64 x.b)).setCell ⟨b, 3, none⟩ (.int .u64 x.c)).setCell ⟨b, 4, none⟩ (.int .u64 x.k)).setCell ⟨b, 5, none⟩ (.int .u64 x.v)) := by
  obtain ⟨a0, t0, _⟩ := setCell_blk (k := 0) (v := .int .i64 x.at_) h
  obtain ⟨a1, t1, _⟩ := setCell_blk (k := 1) (v := .int .u64 x.a) a0
  obtain ⟨a2, t2, _⟩ := setCell_blk (k := 2) (v := .int .u64 x.b) a1
  obtain ⟨a3, t3, _⟩ := setCell_blk (k := 3) (v := .int .u64 x.c) a2
  obtain ⟨a4, t4, _⟩ := setCell_blk (k := 4) (v := .int .u64 x.k) a3
  obtain ⟨a5, t5, _⟩ := setCell_blk (k := 5) (v := .int .u64 x.v) a4
  exact ⟨by simp [Mc, World.cell?, a5], ((((t0.trans t1 (fun _ _ h => h)).trans t2 (fun _ _ h => h)).trans t3 (fun _ _ h => h)).trans t4 (fun _ _ h => h)).trans t5 (fun _ _ h => h)⟩
/-- What Take answers, as a value. -/
abbrev tkv (r : Ms × Nat) : Value := .tuple #[mv r.1, .int .i64 (r.2 : Nat)]
set_option maxHeartbeats 4000000 in
set_option maxRecDepth 100000 in
theorem take_any {S : Nat → Prop} {qb N K : Nat} {Q : Nat → List Ms} (p : Int) (w : World) (h : Pq w S qb N K Q) (hbig : (2 * K + 1) * 48 ≤ 281474976710656) : Calls Try.prog 9 #[.pointer (some ⟨qb, 0, none⟩), .int .i64 p] w fun e w' => e = .returned (tkv (tk N Q p)) ∧ Hid (Pq w' (nx S w w') qb N K (tkn N Q p) ∧ Kp S w w') := by
  obtain ⟨W1, hW1⟩ : ∃ W1, W1 = w.alloc (.cells #[.int .i64 0, .int .u64 0, .int .u64 0, .int .u64 0, .int .u64 0, .int .u64 0] 36) := ⟨_, rfl⟩
  obtain ⟨b1, hb1⟩ : ∃ b1, b1 = w.heap.size := ⟨_, rfl⟩
  have G1 : Gr w W1 := by rw [hW1]; exact (Gr.refl _).alloc _
  have HBX : Hid (W1.heap[b1]? = some (.cells #[.int .i64 0, .int .u64 0, .int .u64 0, .int .u64 0, .int .u64 0, .int .u64 0] 36 (0, 0))) := by rw [hW1, hb1]; exact heap_new' _ _
  have h := h.mono (S' := fun k => S k ∧ k < b1) (fun k hk hs => ⟨hs, by rw [hb1]; exact hk⟩) (Nat.le_refl _)
  have HPq := hid (h.gr G1)
  have hlen := len_any p W1 (h.gr G1)
  obtain ⟨rb, C, v, f, m, X, h00⟩ := h
  have h := h00.kp (R := fun _ => False) (Kp.of_gr G1) (fun _ _ _ h => h)
  have HRB : Hid (∀ i k, i < N → (v i).ownBlock = some k → k < b1) := fun i k hi hk => by rw [hb1]; exact h00.p.row hi k hk
  have HRR : Hid (rb < b1 ∧ qb < b1 ∧ w.heap.size ≤ b1) := ⟨by rw [hb1]; exact h00.p.blk.lt, by rw [hb1]; exact h00.q.lt, by omega⟩
  clear h00
  have hp := isPlace_any p W1 h.q
  have c0 := h.q.c0
  have hl := h.q.lt
  have HG1 := hid G1
  obtain ⟨q0, q1, q2, q3, q4, q5⟩ : Mc W1 b1 0 mz := by simp [Mc, World.cell?, HBX.out]
  have hbl : b1 < W1.heap.size := (Array.getElem?_eq_some_iff.1 HBX.out).1
  have fz : ∀ q, W1.frozen? ⟨b1, q, none⟩ = false := fun q => by simp [World.frozen?, HBX.out]
  have HZ0 := hid (set6_blk (y := mz) mz HBX.out)
  unfold tk tkn
  by_cases hP : Plc N p
  · rw [decide_eq_true hP] at hp
    rw [if_pos hP, if_pos hP]
    have hi := hP.lt
    have hlq : (lst N Q p).length = (Q p.toNat).length := by unfold lst; rw [if_pos hP]
    rw [hlq] at hlen
    obtain ⟨i, rfl⟩ : ∃ i : Nat, p = i := ⟨_, hP.cast⟩
    rw [Int.toNat_natCast] at hi hlen ⊢
    have a1 : (0 : Int) ≤ (i : Int) := by omega
    have a2 : (i : Int) < (N : Int) := by omega
    have hl2 := h.p.blk.lt
    have HW := hid h
    have HI := hid hi
    cases hq : Q i with
    | nil =>
      rw [hq] at hlen
      simp only [List.length_nil] at hlen
      have HQE : Hid (upd Q i ([] : List Ms).tail = Q) := by show _ = _; rw [show ([] : List Ms).tail = Q i from hq.symm, upd_id]
      clear h hP hi hbig hlq hq
      go_enter Try.func9, Try.ntmps9
      go_upto_region 1 with fail
      rw [← hW1, ← hb1]
      clear hW1 hb1
      go_wp2_with fail
      refine hp.mono ?_
      rintro e w1 ⟨rfl, rfl⟩
      go_wp2_with fail
      refine hlen.mono ?_
      rintro e w2 ⟨rfl, rfl⟩
      go_wp2_with fail
      obtain ⟨⟨r0, r1, r2, r3, r4, r5⟩, hk7⟩ := HZ0.out
      have HK7 := hid hk7
      generalize ((((((w2.setCell ⟨b1, 0, none⟩ (.int .i64 0)).setCell ⟨b1, 1, none⟩ (.int .u64 0)).setCell ⟨b1, 2, none⟩ (.int .u64 0)).setCell ⟨b1, 3, none⟩ (.int .u64 0)).setCell ⟨b1, 4, none⟩ (.int .u64 0)).setCell ⟨b1, 5, none⟩ (.int .u64 0)) = W7 at *
      refine bodyPost_ret (v := tkv (mz, 43)) (by simp [results, Try.results9, go_sem, r0, r1, r2, r3, r4, r5]) rfl ?_
      refine ⟨rfl, ?_⟩
      rw [HQE.out]
      refine ⟨(HPq.out.kp HK7.out (fun k _ hs e => by have := hs.2; omega)).mono (fun k _ hs => Or.inl hs.1) (Nat.le_refl _), (Kp.of_gr HG1.out).trans HK7.out (fun k hk e => by have := HRR.out.2.2; omega)⟩
    | cons x l =>
      rw [hq] at hlen
      simp only [List.length_cons] at hlen
      have hln : (((l.length + 1 : Nat) : Int) == 0) = false := by simp; omega
      have hrt := rtake_any W1 h.p hi hq (h.x i hi) (by rw [← (h.p.rn i hi).len]; exact h.k i hi) hbig
      have HQL : Hid (l.length ≤ K) := by have h1 := h.k i hi; rw [hq, List.length_cons] at h1; show _ ≤ _; omega
      clear h hP hi hbig hlq hq
      go_enter Try.func9, Try.ntmps9
      go_upto_region 1 with fail
      rw [← hW1, ← hb1]
      clear hW1 hb1
      go_wp2_with fail
      refine hp.mono ?_
      rintro e w1 ⟨rfl, rfl⟩
      go_wp2_with fail
      refine hlen.mono ?_
      rintro e w2 ⟨rfl, rfl⟩
      go_wp2_with fail
      refine hrt.mono ?_
      rintro e w3 ⟨rfl, hR3⟩
      have hT : Pq w3 (nx (fun k => S k ∧ k < b1) w2 w3) qb N K (upd Q i l) ∧ Kp (fun k => S k ∧ k < b1) w2 w3 := by
        obtain ⟨u, f', X', h1, h2, h3, h4⟩ := hR3.out
        exact HW.out.turn HI.out h1 h2 HQL.out (Nat.le_refl _) h3 h4
      have HT := hid hT
      have hbx : w3.heap[b1]? = some (.cells #[.int .i64 0, .int .u64 0, .int .u64 0, .int .u64 0, .int .u64 0, .int .u64 0] 36 (0, 0)) := (hT.2.block b1 hbl (fun e => by have := e.2; omega)).trans HBX.out
      obtain ⟨q0, q1, q2, q3, q4, q5⟩ : Mc w3 b1 0 mz := by simp [Mc, World.cell?, hbx]
      have fz3 : ∀ q, w3.frozen? ⟨b1, q, none⟩ = false := fun q => by simp [World.frozen?, hbx]
      have hl3 : b1 < w3.heap.size := (Array.getElem?_eq_some_iff.1 hbx).1
      have HZ3 := hid (set6_blk (y := mz) x hbx)
      clear hT hbx hR3
      go_wp2_with fail
      obtain ⟨⟨r0, r1, r2, r3, r4, r5⟩, hk7⟩ := HZ3.out
      have HK7 := hid hk7
      generalize ((((((w3.setCell ⟨b1, 0, none⟩ (.int .i64 x.at_)).setCell ⟨b1, 1, none⟩ (.int .u64 x.a)).setCell ⟨b1, 2, none⟩ (.int .u64 x.b)).setCell ⟨b1, 3, none⟩ (.int .u64 x.c)).setCell ⟨b1, 4, none⟩ (.int .u64 x.k)).setCell ⟨b1, 5, none⟩ (.int .u64 x.v)) = W7 at *
      refine bodyPost_ret (v := tkv (x, 0)) (by simp [results, Try.results9, go_sem, r0, r1, r2, r3, r4, r5]) rfl ?_
      refine ⟨rfl, ?_⟩
      have hsz := HG1.out.size
      have hs7 := HK7.out.size
      refine ⟨(HT.out.1.kp HK7.out (fun k _ hs e => ?_)).mono (fun k hk hs => ?_) (Nat.le_refl _), ((Kp.of_gr HG1.out).trans (HT.out.2.mono (fun _ h => h.1)) (fun _ _ h => h)).trans HK7.out (fun k hk e => by have := HRR.out.2.2; omega)⟩
      · rcases hs with hs | hs
        · have := hs.2; omega
        · omega
      · rcases hs with hs | hs
        · exact Or.inl hs.1
        · exact Or.inr ⟨by omega, hk⟩
  · rw [decide_eq_false hP] at hp
    rw [if_neg hP, if_neg hP]
    clear h hbig hlen
    go_enter Try.func9, Try.ntmps9
    go_upto_region 1 with fail
    rw [← hW1, ← hb1]
    clear hW1 hb1
    go_wp2_with fail
    refine hp.mono ?_
    rintro e w2 ⟨rfl, rfl⟩
    go_wp2_with fail
    obtain ⟨⟨r0, r1, r2, r3, r4, r5⟩, hk7⟩ := HZ0.out
    have HK7 := hid hk7
    generalize ((((((w2.setCell ⟨b1, 0, none⟩ (.int .i64 0)).setCell ⟨b1, 1, none⟩ (.int .u64 0)).setCell ⟨b1, 2, none⟩ (.int .u64 0)).setCell ⟨b1, 3, none⟩ (.int .u64 0)).setCell ⟨b1, 4, none⟩ (.int .u64 0)).setCell ⟨b1, 5, none⟩ (.int .u64 0)) = W7 at *
    refine bodyPost_ret (v := tkv (mz, 42)) (by simp [results, Try.results9, go_sem, r0, r1, r2, r3, r4, r5]) rfl ?_
    refine ⟨rfl, ?_⟩
    refine ⟨(HPq.out.kp HK7.out (fun k _ hs e => by have := hs.2; omega)).mono (fun k _ hs => Or.inl hs.1) (Nat.le_refl _), (Kp.of_gr HG1.out).trans HK7.out (fun k hk e => by have := HRR.out.2.2; omega)⟩
end Go.Proofs.Ytaaobchodbnkpaa.Qe
