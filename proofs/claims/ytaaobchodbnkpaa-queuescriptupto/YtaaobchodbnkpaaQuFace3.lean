import Derived.Test.YtaaobchodbnkpaaQuFace2
namespace Go.Proofs.Ytaaobchodbnkpaa.Qe
open Go.RowKit Go.Sort
attribute [local go_sem ↓] Go.wp_at_zero Go.wp_at_succ

/-- The rings' own blocks lie below. -/
theorem Pq.old {w : World} {S : Nat → Prop} {qb N K : Nat} {Q : Nat → List Ms} (h : Pq w S qb N K Q) : Pq w (fun k => S k ∧ k < w.heap.size) qb N K Q := h.mono (fun _ hk hs => ⟨hs, hk⟩) (Nat.le_refl _)
/-- What Drain answers. -/
def Drn (w : World) (S : Nat → Prop) (qb N K : Nat) (Q : Nat → List Ms) (p : Int) (e : Ending) (w' : World) : Prop :=
  ∃ u, e = .returned (.tuple #[u, .int .i64 (pe N p : Nat)]) ∧ (∃ q c, u = .slice q (lst N Q p).length c) ∧ Hid (w'.ownsRow w.heap.size 36 6 u (lst N Q p).length (fl EM (lst N Q p)) ∧ Pq w' (fun k => S k ∧ k < w.heap.size) qb N K (drn N Q p) ∧ Kp S w w')
theorem Pb.clear {w : World} {rb N C : Nat} {v : Nat → Value} {f m : Nat → Nat} {X Q : Nat → List Ms} (h : Pb w rb N C v f m X Q) {i : Nat} (hi : i < N) :
    Pb (((w.setCell ⟨rb, i * 3, none⟩ (.slice none 0 0)).setCell ⟨rb, i * 3 + 1, none⟩ (.int .i64 0)).setCell ⟨rb, i * 3 + 2, none⟩ (.int .i64 0)) rb N C (upd v i (.slice none 0 0)) (upd f i 0) (upd m i 0) (upd X i []) (upd Q i []) ∧ Kp (fun k => k = rb) w (((w.setCell ⟨rb, i * 3, none⟩ (.slice none 0 0)).setCell ⟨rb, i * 3 + 1, none⟩ (.int .i64 0)).setCell ⟨rb, i * 3 + 2, none⟩ (.int .i64 0)) := by
  obtain ⟨b1, k1⟩ := h.blk.setV hi (.slice none 0 0)
  obtain ⟨b2, k2⟩ := b1.setF hi 0
  obtain ⟨b3, k3⟩ := b2.setM hi 0
  have hk := (k1.trans k2 (fun _ _ h => h)).trans k3 (fun _ _ h => h)
  exact ⟨h.turn hi b3 (World.ownsRow_nil _ _ _ _) Rn.nil (fun p n c e => by cases e; rfl) (hk.mono (fun _ h => Or.inl h)) (fun g hg => by simp [Value.ownBlock] at hg), hk⟩
set_option maxHeartbeats 2000000 in
theorem drain_any {S : Nat → Prop} {qb N K : Nat} {Q : Nat → List Ms} (p : Int) (w : World) (h : Pq w S qb N K Q) (hbig : (2 * K + 1) * 48 ≤ 281474976710656) : Calls Try.prog 10 #[.pointer (some ⟨qb, 0, none⟩), .int .i64 p] w (Drn w S qb N K Q p) := by
  have hls := qlist_any p w h hbig
  have HPq := hid h.old
  obtain ⟨rb, C, v, f, m, X, h⟩ := h
  have hp := isPlace_any p w h.q
  have c0 := h.q.c0
  have hl := h.q.lt
  unfold Drn
  by_cases hP : Plc N p
  · rw [decide_eq_true hP] at hp
    unfold pe drn
    rw [if_pos hP, if_pos hP]
    have hi := hP.lt
    obtain ⟨i, rfl⟩ : ∃ i : Nat, p = i := ⟨_, hP.cast⟩
    rw [Int.toNat_natCast] at hi ⊢
    have a1 : (0 : Int) ≤ (i : Int) := by omega
    have a2 : (i : Int) < (N : Int) := by omega
    have HW := hid h
    have HI := hid hi
    obtain ⟨l, hl0⟩ : ∃ l, l = lst N Q (i : Int) := ⟨_, rfl⟩
    rw [← hl0] at hls ⊢
    clear h hP hi hbig hl0
    go_enter Try.func10, Try.ntmps10
    go_wp2_with fail
    refine hp.mono ?_
    rintro e w1 ⟨rfl, rfl⟩
    go_wp2_with fail
    refine hls.mono ?_
    rintro e w2 ⟨u, rfl, ⟨q, c, rfl⟩, ho, hB⟩
    have HO := hid ho
    have HB := hid hB
    have HW2 := hid (HW.out.kp (R := fun _ => False) (Kp.of_below hB) (fun _ _ _ h => h))
    have d0 := HW2.out.q.c0
    have dl := HW2.out.q.lt
    have e0 := HW2.out.p.blk.cv HI.out
    have e1 := HW2.out.p.blk.cf HI.out
    have e2 := HW2.out.p.blk.cm HI.out
    have fz := HW2.out.p.blk.fz
    have rl := HW2.out.p.blk.lt
    clear ho hB hls hp
    go_wp2_with fail
    refine bodyPost_ret (v := .tuple #[.slice q l.length c, .int .i64 0]) (by simp [results, Try.results10, go_sem]) rfl ?_
    refine ⟨_, rfl, ⟨_, _, rfl⟩, ?_⟩
    obtain ⟨h1, h2⟩ := HW2.out.p.clear HI.out
    have hrw : rb < w1.heap.size := HW.out.p.blk.lt
    refine ⟨owns_kp h2 HO.out (fun k hk e => ?_), ?_, ?_⟩
    · have := (HO.out.lt k hk).1; omega
    · refine ⟨rb, C, _, _, _, _, HW2.out.q.kp h2 HW2.out.ne, h1, fun j hj => ?_, fun j hj => ?_, HW.out.n, ⟨HW.out.sq, HW.out.q.lt⟩, ⟨HW.out.sr, hrw⟩, fun j g hj hg => ?_⟩
      · by_cases e : j = i
        · subst e; rw [upd_self]; simp
        · rw [upd_ne _ _ e]; exact HW.out.x j hj
      · by_cases e : j = i
        · subst e; rw [upd_self]; simp
        · rw [upd_ne _ _ e]; exact HW.out.k j hj
      · by_cases e : j = i
        · subst e; rw [upd_self] at hg; simp [Value.ownBlock] at hg
        · rw [upd_ne _ _ e] at hg; exact ⟨HW.out.s j g hj hg, HW.out.p.row hj g hg⟩
    · exact (Kp.of_below HB.out).trans (h2.mono (fun k e => by rw [e]; exact HW.out.sr)) (fun _ _ h => h)
  · rw [decide_eq_false hP] at hp
    have hl0 : lst N Q p = [] := by unfold lst; rw [if_neg hP]
    rw [hl0]
    unfold pe drn
    rw [if_neg hP, if_neg hP]
    clear h hbig hls hl0
    go_enter Try.func10, Try.ntmps10
    go_wp2_with fail
    refine hp.mono ?_
    rintro e w1 ⟨rfl, rfl⟩
    go_wp2_with fail
    refine bodyPost_ret (v := .tuple #[.slice none 0 0, .int .i64 42]) (by simp [results, Try.results10, go_sem]) rfl ?_
    exact ⟨_, rfl, ⟨_, _, rfl⟩, World.ownsRow_nil _ _ _ _, HPq.out, Kp.refl _ _⟩
/-- A sum. -/
def sumTo (g : Nat → Nat) : Nat → Nat
  | 0 => 0
  | n + 1 => sumTo g n + g n
theorem sumTo_le (g : Nat → Nat) (K : Nat) : ∀ n, (∀ i, i < n → g i ≤ K) → sumTo g n ≤ n * K := by
  intro n
  induction n with
  | zero => intro _; exact Nat.zero_le _
  | succ n ih =>
    intro h
    have h1 := ih (fun i hi => h i (by omega))
    have h2 := h n (by omega)
    rw [sumTo, Nat.succ_mul]
    omega
/-- How many wait in all. -/
def tot (N : Nat) (Q : Nat → List Ms) : Nat := sumTo (fun i => (Q i).length) N
theorem tot_bd {N K : Nat} {Q : Nat → List Ms} (hn : N ≤ 192) (hk : ∀ i, i < N → (Q i).length ≤ K) (hb : K ≤ 5864062014806) {j : Nat} (hj : j ≤ N) : sumTo (fun i => (Q i).length) j ≤ 1125899906842752 := by
  have h1 := sumTo_le (fun i => (Q i).length) K j (fun i hi => hk i (by omega))
  have h2 : j * K ≤ 192 * K := Nat.mul_le_mul_right _ (by omega)
  omega
set_option maxHeartbeats 2000000 in
theorem total_any {S : Nat → Prop} {qb N K : Nat} {Q : Nat → List Ms} (w : World) (h : Pq w S qb N K Q) (hb : K ≤ 5864062014806) : Calls Try.prog 13 #[.pointer (some ⟨qb, 0, none⟩)] w fun e w' => e = .returned (.int .i64 (tot N Q : Nat)) ∧ w' = w := by
  have hlen : Hid (∀ i : Nat, i < N → Calls Try.prog 11 #[.pointer (some ⟨qb, 0, none⟩), .int .i64 (i : Nat)] w fun e w' => e = .returned (.int .i64 ((Q i).length : Nat)) ∧ w' = w) := by
    intro i hi
    have h1 := len_any (i : Int) w h
    unfold lst at h1
    rw [if_pos (show Plc N (i : Int) from ⟨by omega, by omega⟩), Int.toNat_natCast] at h1
    exact h1
  have HB : Hid (∀ j, j ≤ N → sumTo (fun i => (Q i).length) j ≤ 1125899906842752) := fun j hj => tot_bd h.n h.k hb hj
  have hN := h.n
  have hpl : Calls Try.prog 28 #[.pointer (some ⟨qb, 0, none⟩)] w fun e w' => e = .returned (.int .i64 (N : Nat)) ∧ w' = w := by
    obtain ⟨rb, C, v, f, m, X, h⟩ := h
    exact places_any w h.q
  clear h hb
  go_enter Try.func13, Try.ntmps13
  go_wp2_with fail
  refine hpl.mono ?_
  rintro e w1 ⟨rfl, rfl⟩
  clear hpl
  go_wp2_with fail
  go_loopw [3, 7] (fun s3 s7 wr => ∃ j t : Nat, j ≤ N ∧ t ≤ 1125899906842752 ∧ s7 = .int .i64 (j : Nat) ∧ s3 = .int .i64 (t : Nat) ∧ Hid (t = sumTo (fun i => (Q i).length) j) ∧ wr = w1) (fun _ s7 _ => N - (RowKit.intOf s7).toNat)
  case atStart => exact ⟨0, 0, Nat.zero_le _, Nat.zero_le _, rfl, rfl, rfl, rfl⟩
  case round =>
    obtain ⟨j, t, hj, ht, rfl, rfl, HT, rfl⟩ := hrel
    by_cases hlt : j < N
    · have hz : (j : Int) < (N : Int) := by omega
      have hc := hlen.out j hlt
      have HB1 := HB.out (j + 1) hlt
      rw [sumTo, ← HT.out] at HB1
      obtain ⟨n, hn⟩ : ∃ n, n = (Q j).length := ⟨_, rfl⟩
      rw [← hn] at hc HB1
      have HN := hid hn
      clear hn
      go_wp2_with fail
      refine hc.mono ?_
      rintro e w2 ⟨rfl, rfl⟩
      go_wp2_with fail
      go_roundw
      case rel => exact ⟨j + 1, t + n, hlt, HB1, by simp, by simp, by rw [HT.out, HN.out]; rfl, by first | rfl | trivial⟩
      case measure => simp [RowKit.intOf]; omega
    · have hz : ¬ ((j : Int) < (N : Int)) := by omega
      have hjN : j = N := by omega
      subst hjN
      go_wp2
      go_ret
      exact ⟨by rw [show tot j Q = t from HT.out.symm]; rfl, rfl⟩
theorem infoR : (Try.prog.info? 80).map (fun i => (i.zero, i.size, i.bytes)) = some (some (.agg #[.slice none 0 0, .int .i64 0, .int .i64 0]), 3, 40) := by kernel_rfl
/-- What New answers. -/
def Nw (w : World) (n : Nat) (e : Ending) (w' : World) : Prop :=
  ∃ qb, e = .returned (.tuple #[.pointer (some ⟨qb, 0, none⟩), .int .i64 0]) ∧ Hid (w.heap.size ≤ qb ∧ Pq w' (fun k => w.heap.size ≤ k) qb n 0 (fun _ => []) ∧ Below w.heap.size w w')
theorem Bk.made {w : World} {g n base : Nat} (h : w.ownsRow base 80 3 (.slice (some ⟨g, 0, none⟩) n n) n (madeCells #[.slice none 0 0, .int .i64 0, .int .i64 0] (n * 3)).toList) : Bk w g n n (fun _ => .slice none 0 0) (fun _ => 0) (fun _ => 0) := by
  obtain ⟨hlen, ⟨h0, _⟩ | ⟨g', cap', cur, hv, hbs, hgg, hn, hm, hcs, htk⟩⟩ := id h
  · cases h0
  cases hv
  have hget : ∀ j, j < n * 3 → cur[j]? = some ((#[.slice none 0 0, .int .i64 0, .int .i64 0] : Array Value)[j % 3]!) := by
    intro j hj
    have h1 : (cur.toList.take (n * 3))[j]? = (madeCells #[.slice none 0 0, .int .i64 0, .int .i64 0] (n * 3)).toList[j]? := by rw [htk]
    rw [List.getElem?_take_of_lt hj, Array.getElem?_toList] at h1
    rw [h1]
    simp [madeCells, hj]
  refine ⟨cur, hgg, hcs, Nat.le_refl _, fun i hi => ⟨?_, ?_, ?_⟩⟩
  · rw [hget _ (by omega), show i * 3 % 3 = 0 by omega]; rfl
  · rw [hget _ (by omega), show (i * 3 + 1) % 3 = 1 by omega]; rfl
  · rw [hget _ (by omega), show (i * 3 + 2) % 3 = 2 by omega]; rfl
set_option maxHeartbeats 2000000 in
theorem new_any (n : Nat) (w : World) (hn : n ≤ 192) : Calls Try.prog 6 #[.int .i64 (n : Nat)] w (Nw w n) := by
  obtain ⟨i0, hi0, hz0, hz1, hz2⟩ := info_parts infoR
  have h1 : ¬ ((n : Int) < 0) := by omega
  have h2 : ¬ (192 < (n : Int)) := by omega
  go_enter Try.func6, Try.ntmps6
  go_wp2_with (at_make; refine wpList_make_full _ rfl _ _ 75 rfl w.heap.size 80 i0 (.agg #[.slice none 0 0, .int .i64 0, .int .i64 0]) 3 Try.underlying75 hi0 hz0 hz1 _ _ _ _ n rfl rfl rfl rfl (by rw [hz2]; omega) (by unfold maxLen; omega) (Nat.le_refl _) ?_; intro w1 hrow hg1)
  have hB1 := grown_below hg1
  have HB := hid (Bk.made hrow)
  have HL := hid hB1
  obtain ⟨rb, hrb⟩ : ∃ rb, rb = w.heap.size := ⟨_, rfl⟩
  rw [← hrb] at HB ⊢
  have HR := hid hrb
  clear hrow hg1 hB1 hrb hi0 hz0 hz1 hz2
  go_wp2_with fail
  refine bodyPost_ret (v := .tuple #[.pointer (some ⟨w1.heap.size, 0, none⟩), .int .i64 0]) (by simp [results, Try.results6, go_sem]) rfl ?_
  refine ⟨_, rfl, HL.out.size, ⟨rb, n, _, _, _, fun _ => [], heap_new' _ _, ⟨HB.out.kept (((Gr.refl _).alloc _).below.block rb HB.out.lt), fun i hi => World.ownsRow_nil _ _ _ _, fun i hi => Rn.nil, fun i hi p n c e => by cases e; rfl, fun i j g hi hj h1 => by simp [Value.ownBlock] at h1⟩, fun i hi => by simp, fun i hi => by simp, hn, HL.out.size, by rw [HR.out]; exact Nat.le_refl _, fun i g hi h => by simp [Value.ownBlock] at h⟩, HL.out.trans (((Gr.refl w1).alloc _).below.mono HL.out.size)⟩
theorem newNo_any (p : Int) (w : World) (hP : ¬ (0 ≤ p ∧ p ≤ 192)) : Calls Try.prog 6 #[.int .i64 p] w fun e w' => e = .returned (.tuple #[.pointer none, .int .i64 1]) ∧ w' = w := by
  by_cases h1 : p < 0
  · go_enter Try.func6, Try.ntmps6
    go_wp2
    exact bodyPost_ret (v := .tuple #[.pointer none, .int .i64 1]) (by simp [results, Try.results6, go_sem]) rfl ⟨rfl, rfl⟩
  · have h2 : 192 < p := by omega
    clear hP
    go_enter Try.func6, Try.ntmps6
    go_wp2
    exact bodyPost_ret (v := .tuple #[.pointer none, .int .i64 1]) (by simp [results, Try.results6, go_sem]) rfl ⟨rfl, rfl⟩
end Go.Proofs.Ytaaobchodbnkpaa.Qe
