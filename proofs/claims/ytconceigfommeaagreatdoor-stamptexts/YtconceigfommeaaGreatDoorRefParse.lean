import Derived.Test.YtconceigfommeaaGreatDoorRefText
import Derived.Test.YtconceigfommeaaGreatDoorParse
import Derived.Test.YtconceigfommeaaGreatDoorRef3
namespace Go.Proofs.YtconceigfommeaaGreatDoor
open Go.RowKit Go.Shelf Go.Lib
open Go.Sort hiding Below

/-- One byte of the scan: the field's number, and the three numbers that the digits tell. -/
def psc : Option (Nat × Nat × Nat × Nat) → UInt8 → Option (Nat × Nat × Nat × Nat)
  | none, _ => none
  | some (k, a, b, c), ch =>
    if ch = 46 ∧ k < 2 then some (k + 1, a, b, c)
    else if 48 ≤ ch.toNat ∧ ch.toNat ≤ 57 then
      (if k = 0 then some (0, 10 * a + (ch.toNat - 48), b, c) else if k = 1 then some (1, a, 10 * b + (ch.toNat - 48), c) else some (k, a, b, 10 * c + (ch.toNat - 48)))
    else none
theorem psc_none (l : List UInt8) : l.foldl psc none = none := by
  induction l with
  | nil => rfl
  | cons x l ih => exact ih
theorem digit_of (m : Nat) (h : m < 10) : (UInt8.ofNat (48 + m)).toNat = 48 + m := by rw [UInt8.toNat_ofNat']; omega
theorem digit_ne (m : Nat) (h : m < 10) : UInt8.ofNat (48 + m) ≠ 46 := fun e => by
  have := congrArg UInt8.toNat e
  rw [digit_of m h] at this
  have h46 : (46 : UInt8).toNat = 46 := rfl
  omega
theorem psc_dec0 (b c : Nat) : ∀ m, (decDigits m).foldl psc (some (0, 0, b, c)) = some (0, m, b, c) := by
  intro m
  induction m using Nat.strongRecOn with
  | _ m ih =>
    by_cases h : m < 10
    · rw [dec_small h]
      simp only [List.foldl_cons, List.foldl_nil, psc]
      rw [if_neg (fun e => digit_ne m h e.1), digit_of m h, if_pos (by omega), if_pos trivial]
      congr 3; omega
    · rw [dec_big h, List.foldl_append, ih _ (by omega)]
      simp only [List.foldl_cons, List.foldl_nil, psc]
      rw [if_neg (fun e => digit_ne _ (by omega) e.1), digit_of _ (by omega), if_pos (by omega), if_pos trivial]
      congr 3; omega
theorem psc_dec1 (a c : Nat) : ∀ m, (decDigits m).foldl psc (some (1, a, 0, c)) = some (1, a, m, c) := by
  intro m
  induction m using Nat.strongRecOn with
  | _ m ih =>
    by_cases h : m < 10
    · rw [dec_small h]
      simp only [List.foldl_cons, List.foldl_nil, psc]
      rw [if_neg (fun e => digit_ne m h e.1), digit_of m h, if_pos (by omega), if_neg (by omega), if_pos trivial]
      congr 4; omega
    · rw [dec_big h, List.foldl_append, ih _ (by omega)]
      simp only [List.foldl_cons, List.foldl_nil, psc]
      rw [if_neg (fun e => digit_ne _ (by omega) e.1), digit_of _ (by omega), if_pos (by omega), if_neg (by omega), if_pos trivial]
      congr 4; omega
theorem psc_dec2 (a b : Nat) : ∀ m, (decDigits m).foldl psc (some (2, a, b, 0)) = some (2, a, b, m) := by
  intro m
  induction m using Nat.strongRecOn with
  | _ m ih =>
    by_cases h : m < 10
    · rw [dec_small h]
      simp only [List.foldl_cons, List.foldl_nil, psc]
      rw [if_neg (fun e => digit_ne m h e.1), digit_of m h, if_pos (by omega), if_neg (by omega), if_neg (by omega)]
      congr 4; omega
    · rw [dec_big h, List.foldl_append, ih _ (by omega)]
      simp only [List.foldl_cons, List.foldl_nil, psc]
      rw [if_neg (fun e => digit_ne _ (by omega) e.1), digit_of _ (by omega), if_pos (by omega), if_neg (by omega), if_neg (by omega)]
      congr 4; omega
theorem psc_text (l : List UInt8) (n u v x : Nat) (h1 : 1 ≤ n) (h3 : n ≤ 3) (h : IsText l n u v x) : ∃ k, l.foldl psc (some (0, 0, 0, 0)) = some (k, u, v, x) := by
  have hn : n = 1 ∨ n = 2 ∨ n = 3 := by omega
  rw [h.ht]
  rcases hn with rfl | rfl | rfl
  · have hv := h.h2 (by decide); have hx := h.h3 (by decide)
    subst hv hx
    exact ⟨0, by simp [ttext, psc_dec0]⟩
  · have hx := h.h3 (by decide)
    subst hx
    refine ⟨1, ?_⟩
    simp only [ttext]
    simp [psc_dec0, psc, psc_dec1]
  · refine ⟨2, ?_⟩
    simp only [ttext]
    simp [psc_dec0, psc, psc_dec1, psc_dec2]

theorem infoU : (Tryz.prog.info? 22).map (fun i => (i.zero, i.size, i.bytes)) = some (some (.int .u64 0), 1, 8) := by kernel_rfl
theorem run_make3 (W : World) : (Instr.makeSlice 64 (.int .i64 3) (.int .i64 3)).run Tryz.prog W = .ok (.slice (some ⟨W.heap.size, 0, none⟩) 3 3) (W.alloc (.cells #[.int .u64 0, .int .u64 0, .int .u64 0] 22)) := by
  obtain ⟨i0, hi, hz0, hz1, hz2⟩ := info_parts infoU
  have h := run_make W 64 22 i0 _ Tryz.underlying64 hi hz0 .i64 .i64 3 3 (by omega) (by omega) (by rw [hz2]; decide) (by omega)
  have e : madeCells (Value.int .u64 0).cells 3 = #[.int .u64 0, .int .u64 0, .int .u64 0] := by kernel_rfl
  rw [h, hz1]
  show Result.ok _ (W.alloc (.cells (madeCells (Value.int .u64 0).cells 3) 22)) = _
  rw [e]
  rfl
theorem run_ch (s : ByteArray) (i : Nat) (hi : i < s.size) (W : World) : (Instr.index 9 (.string s) (.int .i64 (i : Int))).run Tryz.prog W = .ok (.int .u8 ((s[i]'hi).toNat : Int)) W := by
  rw [run_index_string _ _ _ _ _ Tryz.underlying9, dif_pos (by omega)]
  rfl
theorem below_drew1 {B : Nat} {a w : World} (h : Below B a w) : Below B a w.drew := ⟨h.os, h.tape, h.output, h.size, h.block⟩
theorem below_set3 {w w' : World} {u v x : Value} (h : Below w.heap.size w w') : Below w.heap.size w (((w'.setCell ⟨w.heap.size, 0, none⟩ u).setCell ⟨w.heap.size, 1, none⟩ v).setCell ⟨w.heap.size, 2, none⟩ x) :=
  Below.setCell (p := ⟨w.heap.size, 2, none⟩) (Below.setCell (p := ⟨w.heap.size, 1, none⟩) (Below.setCell (p := ⟨w.heap.size, 0, none⟩) h (Nat.le_refl _) _) (Nat.le_refl _) _) (Nat.le_refl _) _
theorem toList_inj {s t : ByteArray} (h : s.toList = t.toList) : s = t := by
  rw [ByteArray.toList_eq, ByteArray.toList_eq] at h
  exact ByteArray.ext (Array.toList_inj.1 h)
theorem fits_zero {A B C n : Nat} (h : tfits A B C n = 0) : ((n : Int) < 2 → B = 0) ∧ ((n : Int) < 3 → C = 0) := by
  simp only [tfits] at h
  split at h
  · cases h
  · split at h
    · rename_i h2
      exact ⟨fun k => by have := h2.1 k; omega, fun k => by have := h2.2 k; omega⟩
    · cases h
theorem fits_of {u v x n : Nat} (h1 : 1 ≤ n) (h3 : n ≤ 3) {l : List UInt8} (h : IsText l n u v x) : tfits u v x n = 0 := by
  simp only [tfits]
  rw [if_neg (by omega), if_pos ⟨fun k => by rw [h.h2 k]; rfl, fun k => by rw [h.h3 k]; rfl⟩]
theorem scan_wrap (a m : Nat) (h : 48 ≤ m) : IntKind.u64.wrap (IntKind.u64.wrap (10 * ((a : Int) % 18446744073709551616)) + ((m : Int) - 48)) = (((10 * a + (m - 48)) % 18446744073709551616 : Nat) : Int) := by
  simp only [IntKind.wrap_u64]
  omega
theorem psc_put0 {ch : UInt8} {a b c m : Nat} (hm : ch.toNat = m) (hD : 48 ≤ m ∧ m ≤ 57) : psc (some (0, a, b, c)) ch = some (0, 10 * a + (m - 48), b, c) := by
  have hne : ¬ (ch = 46 ∧ 0 < 2) := fun e => by have h := congrArg UInt8.toNat e.1; rw [hm] at h; have h46 : (46 : UInt8).toNat = 46 := rfl; omega
  simp only [psc]
  rw [if_neg hne, hm, if_pos hD]
  rfl
theorem psc_put1 {ch : UInt8} {a b c m : Nat} (hm : ch.toNat = m) (hD : 48 ≤ m ∧ m ≤ 57) : psc (some (1, a, b, c)) ch = some (1, a, 10 * b + (m - 48), c) := by
  have hne : ¬ (ch = 46 ∧ 1 < 2) := fun e => by have h := congrArg UInt8.toNat e.1; rw [hm] at h; have h46 : (46 : UInt8).toNat = 46 := rfl; omega
  simp only [psc]
  rw [if_neg hne, hm, if_pos hD]
  rfl
theorem psc_put2 {ch : UInt8} {a b c m : Nat} (hm : ch.toNat = m) (hD : 48 ≤ m ∧ m ≤ 57) : psc (some (2, a, b, c)) ch = some (2, a, b, 10 * c + (m - 48)) := by
  have hne : ¬ (ch = 46 ∧ 2 < 2) := fun e => by omega
  simp only [psc]
  rw [if_neg hne, hm, if_pos hD]
  rfl
theorem noText_scan {l : List UInt8} {n j : Nat} (h1 : 1 ≤ n) (h3 : n ≤ 3) (h : (l.take j).foldl psc (some (0, 0, 0, 0)) = none) (u v x : Nat) : ¬ IsText l n u v x := fun ht => by
  obtain ⟨k, e⟩ := psc_text l n u v x h1 h3 ht
  rw [← List.take_append_drop j l, List.foldl_append, h, psc_none] at e
  cases e

set_option maxHeartbeats 1000000 in
set_option maxRecDepth 100000 in
theorem refParse_bad (s : ByteArray) (n : Int) (w : World) (hn : n < 1 ∨ 3 < n) :
    Calls Tryz.prog 15 #[.string s, .int .i64 n] w fun e w' => e = .returned (.tuple #[.agg #[.int .u64 0, .int .u64 0, .int .u64 0], .int .i64 10]) ∧ Below w.heap.size w w' := by
  rcases hn with h | h
  · go_enter Tryz.func15, Tryz.ntmps15
    go_wp2_with fail
    refine bodyPost_ret (v := .tuple #[.agg #[.int .u64 0, .int .u64 0, .int .u64 0], .int .i64 10]) (by simp [results, Tryz.results15, go_sem]) rfl ⟨rfl, ?_⟩
    have hb : Below w.heap.size w (w.alloc (.cells #[.int .u64 0, .int .u64 0, .int .u64 0] 24)) := (Below.refl _ w).alloc (Nat.le_refl _) _
    exact hb
  · have h' : ¬ n < 1 := by omega
    go_enter Tryz.func15, Tryz.ntmps15
    go_wp2_with fail
    refine bodyPost_ret (v := .tuple #[.agg #[.int .u64 0, .int .u64 0, .int .u64 0], .int .i64 10]) (by simp [results, Tryz.results15, go_sem]) rfl ⟨rfl, ?_⟩
    have hb : Below w.heap.size w (w.alloc (.cells #[.int .u64 0, .int .u64 0, .int .u64 0] 24)) := (Below.refl _ w).alloc (Nat.le_refl _) _
    exact hb

set_option maxHeartbeats 2000000 in
set_option maxRecDepth 100000 in
theorem refParse_ok (s : ByteArray) (n : Nat) (w : World) (hs : s.size ≤ 281474976710656) (h1 : 1 ≤ n) (h3 : n ≤ 3) :
    Calls Tryz.prog 15 #[.string s, .int .i64 n] w fun e w' => ParseEnd s n e ∧ Below w.heap.size w w' := by
  have g1 : ¬ (n : Int) < 1 := by omega
  have g3 : ¬ 3 < (n : Int) := by omega
  have hmk := fun W => run_make3 W
  go_enter Tryz.func15, Tryz.ntmps15
  go_wp2_with fail
  clear hmk
  go_loopw [7, 8] (fun s7 s8 wr => ∃ (i k a b c : Nat), i ≤ s.size ∧ k ≤ 2 ∧ s7 = .int .i64 k ∧ s8 = .int .i64 i ∧ (s.data.toList.take i).foldl psc (some (0, 0, 0, 0)) = some (k, a, b, c) ∧
    wr.cell? ⟨w.heap.size + 1, 0, none⟩ = some (.int .u64 ((a % 18446744073709551616 : Nat) : Int)) ∧ wr.cell? ⟨w.heap.size + 1, 1, none⟩ = some (.int .u64 ((b % 18446744073709551616 : Nat) : Int)) ∧ wr.cell? ⟨w.heap.size + 1, 2, none⟩ = some (.int .u64 ((c % 18446744073709551616 : Nat) : Int)) ∧
    wr.cell? ⟨w.heap.size, 0, none⟩ = some (.int .u64 0) ∧ wr.cell? ⟨w.heap.size, 1, none⟩ = some (.int .u64 0) ∧ wr.cell? ⟨w.heap.size, 2, none⟩ = some (.int .u64 0) ∧ (∀ o, wr.frozen? ⟨w.heap.size + 1, o, none⟩ = false) ∧ (∀ o, wr.frozen? ⟨w.heap.size, o, none⟩ = false) ∧ w.heap.size + 1 < wr.heap.size ∧ Below w.heap.size w wr) (fun _ s8 _ => s.size - (RowKit.intOf s8).toNat)
  case atStart => exact ⟨0, 0, 0, 0, 0, Nat.zero_le _, by omega, rfl, rfl, rfl, by go_simp, by go_simp, by go_simp, by go_simp, by go_simp, by go_simp, fun o => by go_simp, fun o => by go_simp, by simp, (((Gr.refl _).alloc _).alloc _).below⟩
  case round =>
    obtain ⟨i, k, a, b, c, hi, hk, rfl, rfl, hsc, c0, c1, c2, d0, d1, d2, f0, f1, hz, hbw⟩ := hrel
    by_cases hlt : i < s.size
    · have hltz : (i : Int) < (s.size : Int) := by omega
      have hix := fun W => run_ch s i hlt W
      have hnx : (s.data.toList.take (i + 1)).foldl psc (some (0, 0, 0, 0)) = psc (some (k, a, b, c)) (s[i]'hlt) := by
        rw [List.take_add_one, List.foldl_append, hsc]
        have : s.data.toList[i]? = some (s[i]'hlt) := by
          rw [List.getElem?_eq_getElem (by simpa using hlt)]; rfl
        rw [this]; rfl
      have h8 := (s[i]'hlt).toNat_lt
      generalize s[i]'hlt = ch at hix hnx h8
      have HN : Hid ((s.data.toList.take (i + 1)).foldl psc (some (0, 0, 0, 0)) = psc (some (k, a, b, c)) ch) := hnx
      have HS : Hid ((s.data.toList.take i).foldl psc (some (0, 0, 0, 0)) = some (k, a, b, c)) := hsc
      clear hnx hsc
      by_cases hA : ch = 46 ∧ k < 2
      · obtain ⟨rfl, hk2⟩ := hA
        have e46 : ((46 : UInt8).toNat : Int) = 46 := rfl
        rw [e46] at hix
        have hkz : (k : Int) < 2 := by omega
        clear e46 h8
        go_wp2
        refine ⟨⟨i + 1, k + 1, a, b, c, by omega, by omega, by go_num, by go_num, ?_, c0, c1, c2, d0, d1, d2, f0, f1, hz, hbw⟩, by simp [RowKit.intOf]; omega⟩
        rw [HN.out]
        exact if_pos ⟨rfl, hk2⟩
      · by_cases hD : 48 ≤ ch.toNat ∧ ch.toNat ≤ 57
        · have q1 : (48 : Int) ≤ (ch.toNat : Int) := by omega
          have q2 : (ch.toNat : Int) ≤ 57 := by omega
          have q3 : ((ch.toNat : Int) == 46) = false := by rw [beq_eq_false_iff_ne]; omega
          have hk3 : k = 0 ∨ k = 1 ∨ k = 2 := by omega
          have HD := hD
          clear hD h8
          generalize hm : ch.toNat = m at *
          rcases hk3 with hk3 | hk3 | hk3
          · have e0 : (k : Int) = 0 := by omega
            rw [e0]
            have hwr := scan_wrap a m HD.1
            go_wp2
            go_big_region
            go_wp2
            refine ⟨⟨i + 1, 0, 10 * a + (m - 48), b, c, by omega, by omega, by go_num, by go_num, ?_, ?_, ?_, ?_, by go_simp, by go_simp, by go_simp, fun o => by go_simp, fun o => by go_simp, by simp; omega, below_drew1 (Below.setCell (p := ⟨w.heap.size + 1, 0, none⟩) hbw (by show w.heap.size ≤ w.heap.size + 1; omega) _)⟩, by simp [RowKit.intOf]; omega⟩
            · rw [HN.out, hk3]
              exact psc_put0 hm HD
            all_goals go_simp
          · have e0 : (k : Int) = 1 := by omega
            rw [e0]
            have hwr := scan_wrap b m HD.1
            go_wp2
            go_big_region
            go_wp2
            refine ⟨⟨i + 1, 1, a, 10 * b + (m - 48), c, by omega, by omega, by go_num, by go_num, ?_, ?_, ?_, ?_, by go_simp, by go_simp, by go_simp, fun o => by go_simp, fun o => by go_simp, by simp; omega, below_drew1 (Below.setCell (p := ⟨w.heap.size + 1, 1, none⟩) hbw (by show w.heap.size ≤ w.heap.size + 1; omega) _)⟩, by simp [RowKit.intOf]; omega⟩
            · rw [HN.out, hk3]
              exact psc_put1 hm HD
            all_goals go_simp
          · have e0 : (k : Int) = 2 := by omega
            rw [e0]
            have hwr := scan_wrap c m HD.1
            go_wp2
            go_big_region
            go_wp2
            refine ⟨⟨i + 1, 2, a, b, 10 * c + (m - 48), by omega, by omega, by go_num, by go_num, ?_, ?_, ?_, ?_, by go_simp, by go_simp, by go_simp, fun o => by go_simp, fun o => by go_simp, by simp; omega, below_drew1 (Below.setCell (p := ⟨w.heap.size + 1, 2, none⟩) hbw (by show w.heap.size ≤ w.heap.size + 1; omega) _)⟩, by simp [RowKit.intOf]; omega⟩
            · rw [HN.out, hk3]
              exact psc_put2 hm HD
            all_goals go_simp
        · have hno : ∀ u v x : Nat, ¬ IsText s.data.toList n u v x := by
            refine noText_scan h1 h3 (j := i + 1) ?_
            rw [HN.out]
            simp only [psc]
            rw [if_neg hA, if_neg hD]
          have Hno : Hid (∀ u v x : Nat, ¬ IsText s.data.toList n u v x) := hno
          clear hno HN HS
          have hways : (ch = 46 ∧ ¬ k < 2) ∨ (ch ≠ 46 ∧ ch.toNat < 48) ∨ (ch ≠ 46 ∧ 57 < ch.toNat) := by
            by_cases e : ch = 46
            · exact Or.inl ⟨e, fun h => hA ⟨e, h⟩⟩
            · have : ch.toNat < 48 ∨ 57 < ch.toNat := by omega
              rcases this with h | h
              · exact Or.inr (Or.inl ⟨e, h⟩)
              · exact Or.inr (Or.inr ⟨e, h⟩)
          clear hA hD
          rcases hways with ⟨rfl, hk2⟩ | ⟨hne, hlo⟩ | ⟨hne, hhi⟩
          · have e46 : ((46 : UInt8).toNat : Int) = 46 := rfl
            rw [e46] at hix
            have hkz : ¬ (k : Int) < 2 := by omega
            clear e46 h8
            go_wp2
            refine bodyPost_ret (v := .tuple #[.agg #[.int .u64 0, .int .u64 0, .int .u64 0], .int .i64 11]) (by simp [results, Tryz.results15, go_sem, d0, d1, d2]) rfl ⟨Or.inr ⟨by omega, Or.inr ⟨Hno.out, rfl⟩⟩, below_set3 hbw⟩
          · have q3 : ((ch.toNat : Int) == 46) = false := by rw [beq_eq_false_iff_ne]; intro e; exact hne (UInt8.toNat_inj.1 (by have : (46 : UInt8).toNat = 46 := rfl; omega))
            have q1 : ¬ (48 : Int) ≤ (ch.toNat : Int) := by omega
            clear hne
            go_wp2
            refine bodyPost_ret (v := .tuple #[.agg #[.int .u64 0, .int .u64 0, .int .u64 0], .int .i64 11]) (by simp [results, Tryz.results15, go_sem, d0, d1, d2]) rfl ⟨Or.inr ⟨by omega, Or.inr ⟨Hno.out, rfl⟩⟩, below_set3 hbw⟩
          · have q3 : ((ch.toNat : Int) == 46) = false := by rw [beq_eq_false_iff_ne]; omega
            have q1 : (48 : Int) ≤ (ch.toNat : Int) := by omega
            have q2 : ¬ (ch.toNat : Int) ≤ 57 := by omega
            clear hne
            go_wp2
            refine bodyPost_ret (v := .tuple #[.agg #[.int .u64 0, .int .u64 0, .int .u64 0], .int .i64 11]) (by simp [results, Tryz.results15, go_sem, d0, d1, d2]) rfl ⟨Or.inr ⟨by omega, Or.inr ⟨Hno.out, rfl⟩⟩, below_set3 hbw⟩
    · have hltz : ¬ (i : Int) < (s.size : Int) := by omega
      have hie : i = s.size := by omega
      subst hie
      rw [show s.data.toList.take s.size = s.data.toList from List.take_of_length_le (by simp)] at hsc
      have Hsc : Hid (s.data.toList.foldl psc (some (0, 0, 0, 0)) = some (k, a, b, c)) := hsc
      clear hsc
      have hT := fun W h h0 h1 h2 => reftime_any ((a % 18446744073709551616 : Nat) : Int) ((b % 18446744073709551616 : Nat) : Int) ((c % 18446744073709551616 : Nat) : Int) (w.heap.size + 1) 3 W h h0 h1 h2
      have ha : a % 18446744073709551616 < 18446744073709551616 := Nat.mod_lt _ (by omega)
      have hb : b % 18446744073709551616 < 18446744073709551616 := Nat.mod_lt _ (by omega)
      have hc : c % 18446744073709551616 < 18446744073709551616 := Nat.mod_lt _ (by omega)
      obtain ⟨A, hA⟩ : ∃ A, A = a % 18446744073709551616 := ⟨_, rfl⟩
      obtain ⟨B, hB⟩ : ∃ B, B = b % 18446744073709551616 := ⟨_, rfl⟩
      obtain ⟨C, hC⟩ : ∃ C, C = c % 18446744073709551616 := ⟨_, rfl⟩
      rw [← hA] at hT ha c0
      rw [← hB] at hT hb c1
      rw [← hC] at hT hc c2
      have HA : Hid (A = a % 18446744073709551616 ∧ B = b % 18446744073709551616 ∧ C = c % 18446744073709551616) := ⟨hA, hB, hC⟩
      clear hA hB hC
      go_wp2_with fail
      refine (hT _ hz c0 c1 c2).mono ?_
      rintro e w3 ⟨rfl, hg3⟩
      have hb3 := hg3.below
      have hz3 := hg3.size
      obtain ⟨hcc, hff⟩ := hg3.cells
      have d0' := (hcc w.heap.size 0 (by omega)).trans d0
      have d1' := (hcc w.heap.size 1 (by omega)).trans d1
      have d2' := (hcc w.heap.size 2 (by omega)).trans d2
      have f1' : ∀ o, w3.frozen? ⟨w.heap.size, o, none⟩ = false := fun o => (hff w.heap.size o (by omega)).trans (f1 o)
      replace hbw := hbw.trans (hb3.mono (by omega))
      clear hcc hff hT c0 c1 c2 d0 d1 d2 f0 f1 hg3 hb3
      by_cases hf : tfits A B C n = 0
      · have hX := fun W => refText_ok A B C n W ha hb hc h1 h3 hf
        obtain ⟨T, hTT⟩ : ∃ T, T = (⟨(ttext A B C n).toArray⟩ : ByteArray) := ⟨_, rfl⟩
        rw [← hTT] at hX
        have HT : Hid (T = (⟨(ttext A B C n).toArray⟩ : ByteArray)) := hTT
        clear hTT
        go_wp2_with fail
        refine (hX _).mono ?_
        rintro e w4 ⟨rfl, hb4⟩
        have hne3 : w.heap.size ≠ w3.heap.size := by omega
        have hne4 : w3.heap.size ≠ w.heap.size := by omega
        have r0 : w4.cell? ⟨w.heap.size, 0, none⟩ = some (.int .u64 (0)) := (hb4.cell (p := ⟨w.heap.size, 0, none⟩) (by show w.heap.size < _; simp; omega)).trans ((((Gr.refl w3).alloc _).cell (b := w.heap.size) (o := 0) (by omega)).trans d0')
        have r1 : w4.cell? ⟨w.heap.size, 1, none⟩ = some (.int .u64 (0)) := (hb4.cell (p := ⟨w.heap.size, 1, none⟩) (by show w.heap.size < _; simp; omega)).trans ((((Gr.refl w3).alloc _).cell (b := w.heap.size) (o := 1) (by omega)).trans d1')
        have r2 : w4.cell? ⟨w.heap.size, 2, none⟩ = some (.int .u64 (0)) := (hb4.cell (p := ⟨w.heap.size, 2, none⟩) (by show w.heap.size < _; simp; omega)).trans ((((Gr.refl w3).alloc _).cell (b := w.heap.size) (o := 2) (by omega)).trans d2')
        have q0 : w4.cell? ⟨w3.heap.size, 0, none⟩ = some (.int .u64 (A)) := (hb4.cell (p := ⟨w3.heap.size, 0, none⟩) (by show w3.heap.size < _; simp)).trans (by go_simp)
        have q1 : w4.cell? ⟨w3.heap.size, 1, none⟩ = some (.int .u64 (B)) := (hb4.cell (p := ⟨w3.heap.size, 1, none⟩) (by show w3.heap.size < _; simp)).trans (by go_simp)
        have q2 : w4.cell? ⟨w3.heap.size, 2, none⟩ = some (.int .u64 (C)) := (hb4.cell (p := ⟨w3.heap.size, 2, none⟩) (by show w3.heap.size < _; simp)).trans (by go_simp)
        have fr : ∀ o, w4.frozen? ⟨w.heap.size, o, none⟩ = false := fun o => (hb4.frozen (p := ⟨w.heap.size, o, none⟩) (by show w.heap.size < _; simp; omega)).trans ((((Gr.refl w3).alloc _).frozen (b := w.heap.size) (o := o) (by omega)).trans (f1' o))
        have hb5 : Below w.heap.size w w4 := (hbw.alloc (by omega) _).trans (hb4.mono (by simp; omega))
        clear hb4 hX
        by_cases hTs : T = s
        · subst hTs
          go_wp2
          refine bodyPost_ret (v := .tuple #[.agg #[.int .u64 A, .int .u64 B, .int .u64 C], .int .i64 0]) (by simp [results, Tryz.results15, go_sem, r0, r1, r2]) rfl ⟨Or.inr ⟨by omega, Or.inl ⟨A, B, C, ⟨ha, hb, hc, ?_, ?_, ?_⟩, rfl⟩⟩, below_set3 hb5⟩
          · exact fun h => (fits_zero hf).1 h
          · exact fun h => (fits_zero hf).2 h
          · rw [HT.out]
        · have hno : ∀ u v x : Nat, ¬ IsText s.data.toList n u v x := fun u v x ht => by
            obtain ⟨k', e⟩ := psc_text _ n u v x h1 h3 ht
            rw [Hsc.out] at e
            obtain ⟨hA, hB, hC⟩ := HA.out
            have := ht.hu; have := ht.hv; have := ht.hx
            simp at e
            obtain ⟨-, rfl, rfl, rfl⟩ := e
            rw [Nat.mod_eq_of_lt (by assumption)] at hA hB hC
            apply hTs
            rw [HT.out, hA, hB, hC, ← ht.ht]
          have Hno : Hid (∀ u v x : Nat, ¬ IsText s.data.toList n u v x) := hno
          clear hno
          have k1 : (T.toList == s.toList) = false := beq_eq_false_iff_ne.2 fun e => hTs (toList_inj e)
          have k2 : (T.toList != s.toList) = true := bne_iff_ne.2 fun e => hTs (toList_inj e)
          go_wp2
          refine bodyPost_ret (v := .tuple #[.agg #[.int .u64 0, .int .u64 0, .int .u64 0], .int .i64 11]) (by simp [results, Tryz.results15, go_sem, r0, r1, r2]) rfl ⟨Or.inr ⟨by omega, Or.inr ⟨Hno.out, rfl⟩⟩, below_set3 hb5⟩
      · have hf10 : tfits A B C n = 10 := by
          simp only [tfits] at hf ⊢
          split at hf <;> split <;> simp_all
        have hX := fun W => refText_bad A B C n W hf10
        have hno : ∀ u v x : Nat, ¬ IsText s.data.toList n u v x := fun u v x ht => by
          obtain ⟨k', e⟩ := psc_text _ n u v x h1 h3 ht
          rw [Hsc.out] at e
          obtain ⟨hA, hB, hC⟩ := HA.out
          have := ht.hu; have := ht.hv; have := ht.hx
          simp at e
          obtain ⟨-, rfl, rfl, rfl⟩ := e
          rw [Nat.mod_eq_of_lt (by assumption)] at hA hB hC
          apply hf
          rw [hA, hB, hC]
          exact fits_of h1 h3 ht
        have Hno : Hid (∀ u v x : Nat, ¬ IsText s.data.toList n u v x) := hno
        clear hno hf hf10
        go_wp2_with fail
        refine (hX _).mono ?_
        rintro e w4 ⟨rfl, hb4⟩
        have hne3 : w.heap.size ≠ w3.heap.size := by omega
        have hne4 : w3.heap.size ≠ w.heap.size := by omega
        have r0 : w4.cell? ⟨w.heap.size, 0, none⟩ = some (.int .u64 (0)) := (hb4.cell (p := ⟨w.heap.size, 0, none⟩) (by show w.heap.size < _; simp; omega)).trans ((((Gr.refl w3).alloc _).cell (b := w.heap.size) (o := 0) (by omega)).trans d0')
        have r1 : w4.cell? ⟨w.heap.size, 1, none⟩ = some (.int .u64 (0)) := (hb4.cell (p := ⟨w.heap.size, 1, none⟩) (by show w.heap.size < _; simp; omega)).trans ((((Gr.refl w3).alloc _).cell (b := w.heap.size) (o := 1) (by omega)).trans d1')
        have r2 : w4.cell? ⟨w.heap.size, 2, none⟩ = some (.int .u64 (0)) := (hb4.cell (p := ⟨w.heap.size, 2, none⟩) (by show w.heap.size < _; simp; omega)).trans ((((Gr.refl w3).alloc _).cell (b := w.heap.size) (o := 2) (by omega)).trans d2')
        have q0 : w4.cell? ⟨w3.heap.size, 0, none⟩ = some (.int .u64 (A)) := (hb4.cell (p := ⟨w3.heap.size, 0, none⟩) (by show w3.heap.size < _; simp)).trans (by go_simp)
        have q1 : w4.cell? ⟨w3.heap.size, 1, none⟩ = some (.int .u64 (B)) := (hb4.cell (p := ⟨w3.heap.size, 1, none⟩) (by show w3.heap.size < _; simp)).trans (by go_simp)
        have q2 : w4.cell? ⟨w3.heap.size, 2, none⟩ = some (.int .u64 (C)) := (hb4.cell (p := ⟨w3.heap.size, 2, none⟩) (by show w3.heap.size < _; simp)).trans (by go_simp)
        have fr : ∀ o, w4.frozen? ⟨w.heap.size, o, none⟩ = false := fun o => (hb4.frozen (p := ⟨w.heap.size, o, none⟩) (by show w.heap.size < _; simp; omega)).trans ((((Gr.refl w3).alloc _).frozen (b := w.heap.size) (o := o) (by omega)).trans (f1' o))
        have hb5 : Below w.heap.size w w4 := (hbw.alloc (by omega) _).trans (hb4.mono (by simp; omega))
        clear hb4 hX
        go_wp2
        refine bodyPost_ret (v := .tuple #[.agg #[.int .u64 0, .int .u64 0, .int .u64 0], .int .i64 11]) (by simp [results, Tryz.results15, go_sem, r0, r1, r2]) rfl ⟨Or.inr ⟨by omega, Or.inr ⟨Hno.out, rfl⟩⟩, below_set3 hb5⟩

theorem refParse_any (s : ByteArray) (n : Int) (w : World) (hs : s.size ≤ 281474976710656) :
    Calls Tryz.prog 15 #[.string s, .int .i64 n] w fun e w' => ParseEnd s n e ∧ Below w.heap.size w w' := by
  by_cases hb : n < 1 ∨ 3 < n
  · exact (refParse_bad s n w hb).mono fun e w' ⟨h1, h2⟩ => ⟨Or.inl ⟨hb, h1⟩, h2⟩
  · obtain ⟨m, rfl⟩ : ∃ m : Nat, n = m := ⟨n.toNat, by omega⟩
    exact refParse_ok s m w hs (by omega) (by omega)
/-- The end of a reading is one. -/
theorem ParseEnd.one {s : ByteArray} {n : Int} {e f : Ending} (h : ParseEnd s n e) (k : ParseEnd s n f) : e = f := by
  rcases h with ⟨hb, rfl⟩ | ⟨hb, h⟩ <;> rcases k with ⟨kb, rfl⟩ | ⟨kb, k⟩
  · rfl
  · omega
  · omega
  · obtain ⟨m, rfl⟩ : ∃ m : Nat, n = m := ⟨n.toNat, by omega⟩
    rcases h with ⟨u, v, x, h, rfl⟩ | ⟨h, rfl⟩ <;> rcases k with ⟨u', v', x', k, rfl⟩ | ⟨k, rfl⟩
    · obtain ⟨rfl, rfl, rfl⟩ := text_unique (by omega) (by omega) h k
      rfl
    · exact absurd h (k _ _ _)
    · exact absurd k (h _ _ _)
    · rfl
/-- What a reading ends in: a time and a code. -/
theorem ParseEnd.shape {s : ByteArray} {n : Int} {e : Ending} (h : ParseEnd s n e) : ∃ u v x : Nat, ∃ k : Int, e = .returned (.tuple #[.agg #[.int .u64 u, .int .u64 v, .int .u64 x], .int .i64 k]) := by
  rcases h with ⟨_, rfl⟩ | ⟨_, ⟨u, v, x, _, rfl⟩ | ⟨_, rfl⟩⟩
  · exact ⟨0, 0, 0, 10, rfl⟩
  · exact ⟨u, v, x, 0, rfl⟩
  · exact ⟨0, 0, 0, 11, rfl⟩
end Go.Proofs.YtconceigfommeaaGreatDoor
