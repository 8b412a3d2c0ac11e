import Derived.Test.YtpcamjmfddnglaaHOrd
import Derived.Test.YtpcamjmfddnglaaHTaken
namespace Go.Proofs.Ytpcamjmfddnglaa.Ht
open Go.RowKit Go.Sort Hp
attribute [local go_sem ↓] Go.wp_at_zero Go.wp_at_succ

theorem and_bounds (x : Int) (k : Nat) (hk : k < 9223372036854775808) : 0 ≤ bits .and .i64 x (k : Int) ∧ bits .and .i64 x (k : Int) ≤ (k : Int) := by
  have h : (BitVec.ofInt IntKind.i64.bits x &&& BitVec.ofInt IntKind.i64.bits (k : Int)).toNat ≤ k := by
    rw [BitVec.toNat_and]
    refine Nat.le_trans Nat.and_le_right ?_
    rw [BitVec.toNat_ofInt]
    show ((k : Int) % ((2 ^ 64 : Nat) : Int)).toNat ≤ k
    omega
  show 0 ≤ IntKind.i64.wrap ((BitVec.ofInt IntKind.i64.bits x &&& BitVec.ofInt IntKind.i64.bits (k : Int)).toNat : Int) ∧ IntKind.i64.wrap ((BitVec.ofInt IntKind.i64.bits x &&& BitVec.ofInt IntKind.i64.bits (k : Int)).toNat : Int) ≤ (k : Int)
  generalize (BitVec.ofInt IntKind.i64.bits x &&& BitVec.ofInt IntKind.i64.bits (k : Int)).toNat = n at h
  rw [IntKind.wrap_i64]
  omega
/-- As things are pushed. -/
structure G1 (w : World) (hb ff : Nat) (v : Value) (L : List It) (i : Nat) (wr : World) : Prop where
  q : Hq wr hb ff v (okey 0) L i
  len : L.length = i
  nm : ∀ x ∈ L, x.1.2 = (x.2 : Int) ∧ 0 ≤ x.1.1
  hge : w.heap.size ≤ hb
  row : ∀ k, v.ownBlock = some k → w.heap.size ≤ k
  bl : Below w.heap.size w wr
theorem G1.push {w wr w' : World} {hb ff i : Nat} {v v' : Value} {L L' : List It} {k : Int} (h : G1 w hb ff v L i wr) (hq : Hq w' hb ff v' (okey 0) L' (i + 1)) (hp : L'.Perm (L ++ [((k, (i : Int)), i)])) (ht : Turn hb v v' wr w') (hk : 0 ≤ k) : G1 w hb ff v' L' (i + 1) w' := by
  refine ⟨hq, ?_, fun x hx => ?_, h.hge, fun g hg => ?_, h.bl.trans (ht.1.below h.bl.size (fun g hg => ?_))⟩
  · rw [hp.length_eq, List.length_append, h.len]; rfl
  · rcases List.mem_append.1 (hp.mem_iff.1 hx) with h1 | h1
    · exact h.nm x h1
    · simp at h1; subst h1; exact ⟨rfl, hk⟩
  · rcases ht.2 g hg with h1 | h1
    · exact h.row g h1
    · exact Nat.le_trans h.bl.size h1
  · rcases hg with rfl | hg
    · exact h.hge
    · exact h.row g hg
/-- As they are popped: all that is left comes behind the last one. -/
structure G2 (w : World) (n hb ff Bl : Nat) (v : Value) (L : List It) (i : Nat) (la : Th) (wr : World) : Prop where
  q : Hq wr hb ff v (okey 0) L n
  len : L.length + i = n
  nm : ∀ x ∈ L, x.1.2 = (x.2 : Int)
  beh : ∀ x ∈ L, la.1 < x.1.1 ∨ (la.1 = x.1.1 ∧ la.2 < x.1.2)
  hge : w.heap.size ≤ hb
  row : ∀ k, v.ownBlock = some k → w.heap.size ≤ k
  bl : Below w.heap.size w wr
  box : wr.heap[Bl]? = some (.cells #[.int .i64 la.1, .int .i64 la.2] 26 (0, 0))
  ne : Bl ≠ hb ∧ v.ownBlock ≠ some Bl
  ge : w.heap.size ≤ Bl

theorem G2.pop {w wr w' : World} {n hb ff Bl i : Nat} {v v' : Value} {L L' : List It} {la : Th} {t : It} (h : G2 w n hb ff Bl v L i la wr) (hq : Hq w' hb ff v' (okey 0) L' n) (hp : (t :: L').Perm L) (hb' : ∀ x ∈ L', okey 0 t.1 < okey 0 x.1 ∨ (okey 0 t.1 = okey 0 x.1 ∧ t.2 < x.2)) (ht : Turn hb v v' wr w') :
    Kp (fun k => k = hb ∨ v.ownBlock = some k) wr w' ∧ w'.heap[Bl]? = some (.cells #[.int .i64 la.1, .int .i64 la.2] 26 (0, 0)) ∧ ∀ w9 : World, Kp (fun k => k = Bl) w' w9 → w9.heap[Bl]? = some (.cells #[.int .i64 t.1.1, .int .i64 t.1.2] 26 (0, 0)) → G2 w n hb ff Bl v' L' (i + 1) t.1 w9 := by
  have hBl := (Array.getElem?_eq_some_iff.1 h.box).1
  refine ⟨ht.1, (ht.1.block Bl hBl (fun e => e.elim h.ne.1 h.ne.2)).trans h.box, fun w9 k9 b9 => ?_⟩
  have hne' : v'.ownBlock ≠ some Bl := fun e => by
    rcases ht.2 Bl e with h1 | h1
    · exact h.ne.2 h1
    · omega
  refine ⟨hq.kp k9 (fun e => h.ne.1 e.symm) (fun k hk e => hne' (e ▸ hk)), ?_, fun x hx => h.nm x (hp.mem_iff.1 (List.mem_cons_of_mem _ hx)), fun x hx => ?_, h.hge, fun k hk => ?_, ?_, b9, ⟨h.ne.1, hne'⟩, h.ge⟩
  · have := hp.length_eq
    have := h.len
    simp at *
    omega
  · have h1 := hb' x hx
    have h2 := h.nm x (hp.mem_iff.1 (List.mem_cons_of_mem _ hx))
    have h3 := h.nm t (hp.mem_iff.1 List.mem_cons_self)
    simp only [okey, if_true] at h1
    omega
  · rcases ht.2 k hk with h1 | h1
    · exact h.row k h1
    · exact Nat.le_trans h.bl.size h1
  · have b1 : Below w.heap.size w w' := h.bl.trans (ht.1.below h.bl.size (fun g hg => by
      rcases hg with rfl | hg
      · exact h.hge
      · exact h.row g hg))
    exact b1.trans (k9.below b1.size (fun k hk => by subst hk; exact h.ge))
set_option maxHeartbeats 4000000 in
set_option maxRecDepth 100000 in
theorem great_any (n jump : Int) (w : World) : Calls Try.prog 3 #[.int .i64 n, .int .i64 jump] w fun e w' => e = .returned (.bool true) ∧ Below w.heap.size w w' := by
  have hmx : Try.prog.follows .mixedOrders = true := by kernel_rfl
  have htk := Hi.taken_any w
  have hnew := fun W => newq_any 8 (okey 0) W
  have hen := rising_ok.enter
  have HF : Hid (FnOk 8 (key (okey 0))) := rising_ok
  go_enter Try.func3, Try.ntmps3
  go_wp2_with fail
  refine htk.mono ?_
  rintro e w1 ⟨rfl, hb1⟩
  clear htk
  go_upto_if 19 with fail
  all_goals (
    go_cut [0] from 14 to 20 (fun s0 w' => ∃ N : Nat, N ≤ 5000 ∧ s0 = .int .i64 N ∧ w' = w1)
    case first =>
      by_cases hn1 : n < 0 <;> by_cases hn2 : 5000 < n
      all_goals first | (exfalso; omega) | (go_wp2_with fail; go_meet; first | exact ⟨5000, by omega, rfl, rfl⟩ | exact ⟨n.toNat, by omega, by rw [Int.toNat_of_nonneg (by omega)], rfl⟩)
    case rest =>
      obtain ⟨N, hN, rfl, hwc⟩ := hcut
      rw [hwc]
      clear hwc
      go_wp2_with fail
      refine (hnew _).mono ?_
      rintro e w2 ⟨hb, rfl, hge, hq2, hg2⟩
      have G02 : Hid (G1 w hb 8 (.slice none 0 0) [] 0 w2) := ⟨hq2, rfl, by simp, Nat.le_trans hb1.size hge, by simp [Value.ownBlock], hb1.trans (hg2.below.mono hb1.size)⟩
      clear hq2 hg2 hnew
      go_wp2_with fail
      go_loopw [6, 7] (fun s6 s7 wr => ∃ (i : Nat) (k : Int) (v : Value) (L : List It), i ≤ N ∧ s6 = .int .i64 k ∧ s7 = .int .i64 i ∧ 0 ≤ k ∧ k ≤ 4095 ∧ Hid (G1 w hb 8 v L i wr)) (fun _ s7 _ => N - (RowKit.intOf s7).toNat)
      case atStart => exact ⟨0, 1, _, [], Nat.zero_le _, rfl, rfl, by omega, by omega, G02.out⟩
      case round =>
        obtain ⟨i, k, v, L, hiN, rfl, rfl, hk0, hk1, GG⟩ := hrel
        by_cases hlt : i < N
        · have hltz : (i : Int) < (N : Int) := by omega
          have hk' : 0 ≤ bits .and .i64 (wrap64 (k * 31 + bits .and .i64 jump 1023)) 4095 ∧ bits .and .i64 (wrap64 (k * 31 + bits .and .i64 jump 1023)) 4095 ≤ 4095 := and_bounds _ 4095 (by decide)
          go_wp2_with fail
          generalize bits .and .i64 (wrap64 (k * 31 + bits .and .i64 jump 1023)) 4095 = K at hk' ⊢
          have hpu := pushq_any (np := i) (K, (i : Int)) wr GG.out.q (by rw [GG.out.len]; omega) (by omega) HF.out
          refine hpu.mono ?_
          rintro e w3 ⟨v3, L3, rfl, q3, p3, t3⟩
          have G3 := hid (GG.out.push q3 p3 t3 (by first | exact hk'.1 | omega))
          clear hpu q3 p3 t3
          go_wp2
          go_roundw
          case rel => exact ⟨i + 1, _, _, _, by omega, rfl, by go_num, by first | exact hk'.1 | omega, by first | exact hk'.2 | omega, G3.out⟩
          case measure => simp [RowKit.intOf]; omega
        · have hltz : ¬ (i : Int) < (N : Int) := by omega
          have hiN' : i = N := by omega
          subst hiN'
          obtain ⟨Bl, hBl⟩ : ∃ Bl, Bl = wr.heap.size := ⟨_, rfl⟩
          obtain ⟨W5, hW5⟩ : ∃ W5, W5 = wr.alloc (.cells #[.int .i64 (-1), .int .i64 0] 26) := ⟨_, rfl⟩
          have G5 : Gr wr W5 := by rw [hW5]; exact (Gr.refl _).alloc _
          have G20 : Hid (G2 w i hb 8 Bl v L 0 (-1, 0) W5) := by
            refine ⟨GG.out.q.below G5.below, by rw [GG.out.len, Nat.add_zero], fun x hx => (GG.out.nm x hx).1, fun x hx => Or.inl ?_, GG.out.hge, GG.out.row, GG.out.bl.trans (G5.below.mono GG.out.bl.size), by rw [hW5, hBl]; exact heap_new' _ _, ⟨fun e => ?_, fun e => ?_⟩, by rw [hBl]; exact GG.out.bl.size⟩
            · have := (GG.out.nm x hx).2
              show (-1 : Int) < _
              omega
            · have := GG.out.q.h.lt; omega
            · have := GG.out.q.h.row Bl e; omega
          clear GG G5 G02 hge
          go_wp2_with fail
          rw [← hW5, ← hBl]
          clear hW5 hBl
          go_loopw [9, 10, 11] (fun s9 _ _ wr => ∃ (j : Nat) (v : Value) (L : List It) (la : Th), j ≤ i ∧ s9 = .int .i64 j ∧ Hid (G2 w i hb 8 Bl v L j la wr)) (fun s9 _ _ _ => i - (RowKit.intOf s9).toNat)
          case atStart => exact ⟨0, _, _, _, Nat.zero_le _, rfl, G20.out⟩
          case round =>
            clear G20
            obtain ⟨j, v, L, la, hji, rfl, GG⟩ := hrel
            have HLN := hid GG.out.len
            by_cases hlt : j < i
            · have hltz : (j : Int) < (i : Int) := by omega
              obtain ⟨t, ht⟩ : ∃ t, L[0]? = some t := ⟨L[0]'(by have := HLN.out; omega), by rw [List.getElem?_eq_getElem]⟩
              have hpp := popq_any wr GG.out.q ht (by have := HLN.out; omega) HF.out
              have hbe := GG.out.beh t (List.mem_of_getElem? ht)
              clear ht
              go_wp2_with fail
              refine hpp.mono ?_
              rintro e w3 ⟨v3, L3, rfl, q3, p3, b3, t3⟩
              obtain ⟨k3, bx3, G3⟩ := GG.out.pop q3 p3 b3 t3
              have hBl3 : Bl < w3.heap.size := (Array.getElem?_eq_some_iff.1 bx3).1
              obtain ⟨c0, c1⟩ : w3.cell? ⟨Bl, 0, none⟩ = some (.int .i64 la.1) ∧ w3.cell? ⟨Bl, 1, none⟩ = some (.int .i64 la.2) := by simp [World.cell?, bx3]
              obtain ⟨f0, f1⟩ : w3.frozen? ⟨Bl, 0, none⟩ = false ∧ w3.frozen? ⟨Bl, 1, none⟩ = false := by simp [World.frozen?, bx3]
              have HG3 : Hid (∀ w9 : World, Kp (fun k => k = Bl) w3 w9 → w9.heap[Bl]? = some (.cells #[.int .i64 t.1.1, .int .i64 t.1.2] 26 (0, 0)) → G2 w i hb 8 Bl v3 L3 (j + 1) t.1 w9) := G3
              have HBX := hid bx3
              have n1 : ¬ t.1.1 < la.1 := by omega
              have n2 : ¬ (t.1.1 = la.1 ∧ t.1.2 ≤ la.2) := by omega
              clear hpp q3 p3 b3 t3 k3 G3 bx3
              by_cases e1 : t.1.1 = la.1
              all_goals (
                have n3 : ¬ t.1.2 ≤ la.2 ∨ ¬ t.1.1 = la.1 := by omega
                first | (have n4 : ¬ t.1.2 ≤ la.2 := by omega) | skip
                clear n2 n3 hbe
                go_wp2
                go_roundw
                case rel =>
                  try rw [← e1]
                  obtain ⟨s1, s2⟩ := two_set (c0 := .int .i64 t.1.1) (c1 := .int .i64 t.1.2) HBX.out
                  have hal := (Gr.refl ((w3.setCell ⟨Bl, 0, none⟩ (.int .i64 t.1.1)).setCell ⟨Bl, 1, none⟩ (.int .i64 t.1.2))).alloc (.cells #[.int .i64 t.1.1, .int .i64 t.1.2] 26)
                  exact ⟨j + 1, v3, L3, t.1, by omega, by go_num, HG3.out _ (s2.trans (Kp.of_gr (S := fun k => k = Bl) hal) (fun _ _ h => h)) ((hal.below.block Bl (Array.getElem?_eq_some_iff.1 s1).1).trans s1)⟩
                case measure => simp [RowKit.intOf]; omega)
            · have hltz : ¬ (j : Int) < (i : Int) := by omega
              have hL0 : L.length = 0 := by have := HLN.out; omega
              have hlen := len_any wr GG.out.q.h
              rw [hL0] at hlen
              go_wp2_with fail
              refine hlen.mono ?_
              rintro e w4 ⟨rfl, rfl⟩
              go_wp2
              go_ret
              exact ⟨rfl, GG.out.bl⟩)
end Go.Proofs.Ytpcamjmfddnglaa.Ht
