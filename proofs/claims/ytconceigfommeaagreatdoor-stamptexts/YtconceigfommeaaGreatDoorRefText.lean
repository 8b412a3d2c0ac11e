import Derived.Test.YtconceigfommeaaGreatDoorRef4
import Derived.Test.YtconceigfommeaaGreatDoorText
namespace Go.Proofs.YtconceigfommeaaGreatDoor
open Go.RowKit Go.Shelf Go.Lib
open Go.Sort hiding Below

theorem run_byte (k : Nat) (z : Int) (hz : z = ((48 + k : Nat) : Int)) (hk : k < 10) (W : World) :
    (convert 79 9 (.slice (some ⟨W.heap.size, 0, none⟩) 1 1)).run Tryz.prog (W.alloc (.cells #[.int .u8 z] 5)) = .ok (.string ⟨#[UInt8.ofNat (48 + k)]⟩) (W.alloc (.cells #[.int .u8 z] 5)) := by
  subst hz
  exact run_convert_bytes_back (P := Tryz.prog) (W.alloc (.cells #[.int .u8 ((48 + k : Nat) : Int)] 5)) 79 9 5 ⟨W.heap.size, 0, none⟩ 1 [UInt8.ofNat (48 + k)] Tryz.underlying79 Tryz.underlying5 Tryz.underlying9 (fun j hj => by
    have hj0 : j = 0 := by simp at hj; omega
    subst hj0
    have e : ((UInt8.ofNat (48 + k)).toNat : Int) = ((48 + k : Nat) : Int) := by rw [UInt8.toNat_ofNat']; omega
    show (W.alloc (.cells #[.int .u8 ((48 + k : Nat) : Int)] 5)).cell? _ = some (.int .u8 ((UInt8.ofNat (48 + k)).toNat : Int))
    rw [e]
    simp [Addr.add])
theorem text_next (u v x k y : Nat) (hk : 1 ≤ k) (h3 : k < 3) (hy : [u, v, x][k]? = some y) : (⟨(ttext u v x (k + 1 : Nat)).toArray⟩ : ByteArray) = (⟨(ttext u v x k).toArray⟩ : ByteArray) ++ ⟨#[46]⟩ ++ dg8 y := by
  have : k = 1 ∨ k = 2 := by omega
  rcases this with rfl | rfl
  · simp at hy; subst hy
    apply ByteArray.ext
    apply Array.toList_inj.1
    simp [ttext, dg8]
  · simp at hy; subst hy
    apply ByteArray.ext
    apply Array.toList_inj.1
    simp [ttext, dg8]
theorem digits_step {m : Nat} {d : ByteArray} {l : List UInt8} (h9 : 9 < m) (h : decDigits m ++ d.data.toList = l) : decDigits (m / 10) ++ ((⟨#[UInt8.ofNat (48 + m % 10)]⟩ : ByteArray) ++ d).data.toList = l := by
  rw [dec_big (by omega)] at h
  simpa using h
theorem digits_last {m : Nat} {d : ByteArray} {l : List UInt8} (h9 : ¬ 9 < m) (h : decDigits m ++ d.data.toList = l) : ((⟨#[UInt8.ofNat (48 + m)]⟩ : ByteArray) ++ d) = ⟨l.toArray⟩ := by
  rw [dec_small (by omega)] at h
  subst h
  apply ByteArray.ext
  apply Array.toList_inj.1
  simp

set_option maxHeartbeats 2000000 in
set_option maxRecDepth 100000 in
theorem digits_any (u : Nat) (w : World) (hu : u < 18446744073709551616) :
    Calls Tryz.prog 43 #[.int .u64 u] w fun e w' => e = .returned (.string (dg8 u)) ∧ Below w.heap.size w w' := by
  go_enter Tryz.func43, Tryz.ntmps43
  go_wp2_with fail
  go_loopw [0, 3] (fun s0 s2 wr => ∃ (m : Nat) (d : ByteArray), s0 = .int .u64 m ∧ s2 = .string d ∧ m < 18446744073709551616 ∧ d.size + (decDigits m).length ≤ 20 ∧ decDigits m ++ d.data.toList = decDigits u ∧ Below w.heap.size w wr) (fun s0 _ _ => (RowKit.intOf s0).toNat)
  case atStart => exact ⟨u, ByteArray.empty, rfl, rfl, hu, by simp [dec_len u hu], by simp, Below.refl _ _⟩
  case round =>
    obtain ⟨m, d, rfl, rfl, hm, hd, hdd, hbw⟩ := hrel
    by_cases h9 : 9 < m
    · have h9z : (9 : Int) < (m : Int) := by omega
      have hcv := run_byte (m % 10) (48 + (m : Int) % 10) (by omega) (by omega) wr
      obtain ⟨o, ho⟩ : ∃ o, o = (⟨#[UInt8.ofNat (48 + m % 10)]⟩ : ByteArray) := ⟨_, rfl⟩
      rw [← ho] at hcv
      have ho1 : o.size = 1 := by rw [ho]; rfl
      have HO : Hid (o = (⟨#[UInt8.ofNat (48 + m % 10)]⟩ : ByteArray)) := ho
      clear ho
      have hsz := hbw.size
      go_wp2
      refine ⟨⟨m / 10, _, by go_num, rfl, by omega, ?_, by rw [HO.out]; exact digits_step h9 hdd, hbw.alloc hsz _⟩, ?_⟩
      · rw [dec_big (by omega)] at hd
        simp at hd ⊢
        omega
      · simp [RowKit.intOf]
        omega
    · have h9z : ¬ (9 : Int) < (m : Int) := by omega
      have hcv := run_byte m (48 + (m : Int)) (by omega) (by omega) wr
      obtain ⟨o, ho⟩ : ∃ o, o = (⟨#[UInt8.ofNat (48 + m)]⟩ : ByteArray) := ⟨_, rfl⟩
      rw [← ho] at hcv
      have ho1 : o.size = 1 := by rw [ho]; rfl
      have hd' : d.size ≤ 20 := by omega
      have HO : Hid (o = (⟨#[UInt8.ofNat (48 + m)]⟩ : ByteArray)) := ho
      clear ho
      have hsz := hbw.size
      go_wp2
      go_ret
      exact ⟨congrArg Ending.returned (congrArg Value.string (by rw [HO.out]; exact digits_last h9 hdd)), hbw.alloc hsz _⟩

set_option maxHeartbeats 1000000 in
set_option maxRecDepth 100000 in
theorem refText_bad (u v x : Nat) (n : Int) (w : World) (hf : tfits u v x n = 10) :
    Calls Tryz.prog 13 #[.agg #[.int .u64 u, .int .u64 v, .int .u64 x], .int .i64 n] w fun e w' => e = .returned (.tuple #[.string ⟨#[]⟩, .int .i64 10]) ∧ Below w.heap.size w w' := by
  have hF := fun W => refFits_any u v x n W
  rw [hf] at hF
  clear hf
  go_enter Tryz.func13, Tryz.ntmps13
  go_wp2_with (go_at_call 21; refine (hF _).mono ?_; rintro e w1 ⟨rfl, hg⟩)
  go_ret2
  exact ⟨rfl, ((Below.refl _ w).alloc (Nat.le_refl _) _).trans (hg.below.mono (by simp))⟩

set_option maxHeartbeats 2000000 in
set_option maxRecDepth 100000 in
theorem refText_ok (u v x n : Nat) (w : World) (hu : u < 18446744073709551616) (hv : v < 18446744073709551616) (hx : x < 18446744073709551616) (h1 : 1 ≤ n) (h3 : n ≤ 3) (hf : tfits u v x n = 0) :
    Calls Tryz.prog 13 #[.agg #[.int .u64 u, .int .u64 v, .int .u64 x], .int .i64 n] w fun e w' => e = .returned (.tuple #[.string ⟨(ttext u v x n).toArray⟩, .int .i64 0]) ∧ Below w.heap.size w w' := by
  have hF := fun W => refFits_any u v x n W
  rw [hf] at hF
  clear hf
  have hnum := fun W => numbers_any u v x W
  have hd0 := fun W => digits_any u W hu
  go_enter Tryz.func13, Tryz.ntmps13
  go_wp2_with fail
  refine (hF _).mono ?_
  rintro e w1 ⟨rfl, hg⟩
  obtain ⟨hc, hf⟩ := hg.cells
  have hz : w.heap.size < w1.heap.size := by have := hg.size; simp at this; omega
  go_wp2_with fail
  refine (hnum _).mono ?_
  rintro e w2 ⟨rfl, rfl⟩
  have hB : Below w.heap.size w ((w1.alloc (.cells #[.int .u64 u, .int .u64 v, .int .u64 x] 24)).alloc (.cells #[.int .u64 u, .int .u64 v, .int .u64 x] 22)) := (((((Below.refl _ w).alloc (Nat.le_refl _) _).trans (hg.below.mono (by simp))).alloc (by omega) _).alloc (by simp; omega) _)
  clear hF hnum hc hf
  go_wp2_with fail
  refine (hd0 _).mono ?_
  rintro e w3 ⟨rfl, hb3⟩
  have hcells : ∀ k, k < 3 → ∃ y, [u, v, x][k]? = some y ∧ y < 18446744073709551616 ∧ w3.cell? ⟨w1.heap.size + 1, k, none⟩ = some (.int .u64 (y : Nat)) := by
    intro k hk
    rw [hb3.cell (p := ⟨w1.heap.size + 1, k, none⟩) (by simp)]
    have : k = 0 ∨ k = 1 ∨ k = 2 := by omega
    rcases this with rfl | rfl | rfl
    · exact ⟨u, rfl, hu, by simp⟩
    · exact ⟨v, rfl, hv, by simp⟩
    · exact ⟨x, rfl, hx, by simp⟩
  have hz3 : w1.heap.size + 1 < w3.heap.size := by have := hb3.size; simp at this; omega
  replace hB := hB.trans (hb3.mono (by simp; omega))
  have Hc : Hid (∀ k, k < 3 → ∃ y, [u, v, x][k]? = some y ∧ y < 18446744073709551616 ∧ w3.cell? ⟨w1.heap.size + 1, k, none⟩ = some (.int .u64 (y : Nat))) := hcells
  clear hcells hb3 hd0 hg
  go_wp2_with fail
  go_loopw [8, 9] (fun s8 s9 wr => ∃ k : Nat, 1 ≤ k ∧ k ≤ n ∧ s9 = .int .i64 k ∧ s8 = .string ⟨(ttext u v x k).toArray⟩ ∧ Below w3.heap.size w3 wr) (fun _ s9 _ => n - (RowKit.intOf s9).toNat)
  case atStart => exact ⟨1, Nat.le_refl _, h1, rfl, rfl, Below.refl _ _⟩
  case round =>
    obtain ⟨k, hk1, hkn, rfl, rfl, hbw⟩ := hrel
    have hsz := hbw.size
    by_cases hlt : k < n
    · have hltz : (k : Int) < (n : Int) := by omega
      obtain ⟨y, hy, hy64, hcy⟩ := Hc.out k (by omega)
      have c0 := (hbw.cell (p := ⟨w1.heap.size + 1, k, none⟩) (by show w1.heap.size + 1 < _; omega)).trans hcy
      have hd := fun W => digits_any y W hy64
      have ht := text_next u v x k y hk1 (by omega) hy
      have hl1 := text_len u v x k hu hv hx
      have hl2 := dec_len y hy64
      obtain ⟨d, hdd⟩ : ∃ d, d = dg8 y := ⟨_, rfl⟩
      have hds : d.size ≤ 20 := by rw [hdd]; exact hl2
      rw [← hdd] at hd
      have hk3 : k < 3 := by omega
      obtain ⟨T, hT⟩ : ∃ T, T = (⟨(ttext u v x k).toArray⟩ : ByteArray) := ⟨_, rfl⟩
      rw [← hT]
      have hTs : T.size ≤ 62 := by rw [hT]; exact hl1
      rw [← hT, ← hdd] at ht
      have HT : Hid ((⟨(ttext u v x (k + 1 : Nat)).toArray⟩ : ByteArray) = T ++ ⟨#[46]⟩ ++ d) := ht
      clear hl1 hl2 hcy hy hT hdd ht
      go_wp2_with fail
      refine (hd _).mono ?_
      rintro e w4 ⟨rfl, hb4⟩
      go_wp2
      refine ⟨⟨k + 1, by omega, by omega, by go_num, ?_, hbw.trans (hb4.mono hsz)⟩, by simp [RowKit.intOf]; omega⟩
      rw [HT.out]
    · have hltz : ¬ (k : Int) < (n : Int) := by omega
      have hkn : k = n := by omega
      subst hkn
      obtain ⟨T, hT⟩ : ∃ T, T = (⟨(ttext u v x k).toArray⟩ : ByteArray) := ⟨_, rfl⟩
      rw [← hT]
      have HT : Hid (T = (⟨(ttext u v x k).toArray⟩ : ByteArray)) := hT
      clear hT
      go_wp2
      go_ret2
      exact ⟨by rw [← HT.out]; rfl, hB.trans (hbw.mono (by omega))⟩
end Go.Proofs.YtconceigfommeaaGreatDoor
