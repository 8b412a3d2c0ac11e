import Derived.Test.YtijbmchgajhkeaaSuFill
import Derived.Deep.DeepCutAuto
import Derived.Deep.CutBlock
namespace Go.Proofs.Ytijbmchgajhkeaa
open Go.RowKit Go.Sort Go.Maps Go.Shelf
attribute [local go_sem ↓] Go.wp_at_zero Go.wp_at_succ

set_option maxHeartbeats 4000000 in
set_option maxRecDepth 100000 in
theorem fill_long {p : Option Addr} {m c : Nat} {K : List Ct} (w : World) (hv : Ls EC w (.slice p m c) K) (hm : m = K.length) (hc : m ≤ c) (hL : 300 < m) (hmb : m ≤ 5864062014806) :
    Calls Try.prog 6 #[.slice p m c, .bool false] w fun e w' => ∃ sb, e = .returned (.pointer (some ⟨sb, 0, none⟩)) ∧ Hid (Mde w (3 * 300) sb (ord false (K.take 300)) w') := by
  obtain ⟨b0, o0, hp⟩ : ∃ b o, p = some ⟨b, o, none⟩ := by
    rcases hv with ⟨h1, h2⟩ | ⟨b, o, c', h1, _⟩
    · cases h2; omega
    · cases h1; exact ⟨b, o, rfl⟩
  subst hp
  obtain ⟨L, hLL⟩ : ∃ L, L = K.take 300 := ⟨_, rfl⟩
  have HV : Hid (Ls EC w (.slice (some ⟨b0, o0, none⟩) 300 c) L) := by rw [hLL]; exact hv.cut (by omega) c
  have HN : Hid (300 = L.length) := by show _ = _; rw [hLL, List.length_take, Nat.min_eq_left (by omega)]
  have hnw := snew_any w
  have h300 : (300 : Int) < (m : Int) := by omega
  have z2 : 300 ≤ c := by omega
  have z3 : (300 : Int) ≤ (c : Int) := by omega
  rw [← hLL]
  clear hv hm hLL
  go_enter Try.func6, Try.ntmps6
  go_wp2_with fail
  refine hnw.mono ?_
  rintro e w1 ⟨rfl, hS1, hg1⟩
  obtain ⟨sb, hsb⟩ : ∃ sb, sb = w.heap.size := ⟨_, rfl⟩
  rw [← hsb] at hS1
  rw [← hsb]
  have HM1 : Hid (Mde w 0 sb [] w1) := by
    refine ⟨?_, hg1.below⟩
    rw [hsb] at hS1
    rw [hsb]
    exact hS1
  clear hS1 hg1 hnw hsb
  go_wp2_with fail
  go_loopw [6, 7, 16] (fun _ _ s16 wr => ∃ k : Nat, k ≤ 300 ∧ s16 = .int .i64 (k : Nat) ∧ Hid (Mde w (3 * k) sb ((ord false L).take k) wr)) (fun _ _ s16 _ => 300 - (RowKit.intOf s16).toNat)
  case atStart => exact ⟨0, Nat.zero_le _, rfl, HM1.out⟩
  case round =>
    obtain ⟨k, hk, rfl, HI⟩ := hrel
    by_cases hlt : k < 300
    · have hz : (k : Int) < (300 : Int) := by omega
      have hk0 : (0 : Int) ≤ (k : Int) := by omega
      have hVr := HV.out.kept HI.out.2.size fun g hg => HI.out.2.block g (HV.out.blk g hg)
      obtain ⟨x, hx⟩ : ∃ x, L[k]? = some x := ⟨L[k]'(by have := HN.out; omega), by simp⟩
      obtain ⟨b1, o1, c1, e1, l1, x0, x1, x2, x3, x4⟩ := hVr.atC hx
      simp only [Value.slice.injEq, Option.some.injEq, Addr.mk.injEq, and_true] at e1
      obtain ⟨⟨rfl, rfl⟩, -, rfl⟩ := e1
      obtain ⟨W2, hW2⟩ : ∃ W2, W2 = wr.alloc (.cells #[.int .u64 x.1.1.1, .int .u64 x.1.1.2.1, .int .u64 x.1.1.2.2, .int .u64 x.2.1.1, .int .u64 x.2.2.1] 39) := ⟨_, rfl⟩
      obtain ⟨b3, hb3⟩ : ∃ b3, b3 = wr.heap.size := ⟨_, rfl⟩
      have G2 : Gr wr W2 := by rw [hW2]; exact (Gr.refl _).alloc _
      have hx3 : W2.heap[b3]? = some (.cells #[.int .u64 x.1.1.1, .int .u64 x.1.1.2.1, .int .u64 x.1.1.2.2, .int .u64 x.2.1.1, .int .u64 x.2.2.1] 39 (0, 0)) := by rw [hW2, hb3]; exact heap_new' _ _
      have hox : (ord false L)[k]? = some x := hx
      have HE : Hid ((ord false L).take k ++ [x] = (ord false L).take (k + 1)) := take_snoc hox
      have hadd := sadd_any x.1 x.2 W2 (HI.out.gr G2).1 (by omega)
      have HM2 := hid (HI.out.gr G2)
      obtain ⟨m0, m1, m2, m3, m4, m5⟩ := cg_cell hx3
      clear hx hox hVr hx3 G2
      go_upto_region 8 with fail
      rw [← hW2, ← hb3]
      clear hW2 hb3 x0 x1 x2 x3 x4 l1
      go_wp2_with fail
      refine hadd.mono ?_
      rintro e W3 ⟨rfl, hS3⟩
      have HM3 := hid (HM2.out.add hS3.out.1 hS3.out.2)
      clear hadd hS3
      go_wp2_with fail
      go_roundw
      case rel => exact ⟨k + 1, by omega, by simp, by have h := HM3.out; rw [show ((x.1, x.2) : Ct) = x from rfl, HE.out] at h; exact h⟩
      case measure => simp [RowKit.intOf]; omega
    · have hz : ¬ ((k : Int) < (300 : Int)) := by omega
      obtain rfl : k = 300 := by omega
      go_wp2
      go_ret
      exact ⟨sb, rfl, by have h := HI.out; rw [List.take_of_length_le (by rw [ord_len]; exact Nat.le_of_eq HN.out.symm)] at h; exact h⟩
theorem fillB_any {p : Option Addr} {n c : Nat} {L : List Ct} (w : World) (hv : Ls EC w (.slice p n c) L) (hn : n = L.length) (hc : n ≤ c) (hnb : n ≤ 5864062014806) :
    Calls Try.prog 6 #[.slice p n c, .bool false] w fun e w' => ∃ sb, e = .returned (.pointer (some ⟨sb, 0, none⟩)) ∧ Hid (Mde w 900 sb (L.take 300) w') := by
  by_cases h : 300 < n
  · exact (fill_long w hv hn hc h hnb).mono fun e w' ⟨sb, h1, h2⟩ => ⟨sb, h1, h2⟩
  · refine (fill_any false w hv (by omega)).mono fun e w' ⟨sb, h1, h2⟩ => ⟨sb, h1, ?_⟩
    rw [List.take_of_length_le (by omega)]
    exact ⟨h2.out.1.mono (by omega), h2.out.2⟩
end Go.Proofs.Ytijbmchgajhkeaa
