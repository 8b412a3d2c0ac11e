import Derived.Test.YtmhbpelbkeclpaaGreatDoorFits
import Derived.Test.YtmhbpelbkeclpaaGreatDoorSt
import Derived.Lib.Walk
import Derived.Lib.Strings
import Derived.Laws.Strings3
import Derived.Deep.OwnRows
import Derived.Lib.Split
import Derived.Lib.IndexLaws
namespace Go.Proofs.YtmhbpelbkeclpaaGreatDoor
open Go.RowKit Go.Shelf Go.Lib
open Go.Sort hiding Below

/-- Where the first point stands, or -1. -/
def pt (s : ByteArray) : Int := Lib.indexByte s.data.toList 46
/-- Cut at points, at most k times. -/
def spl : Nat → ByteArray → List ByteArray
  | 0, s => [s]
  | k + 1, s => if pt s < 0 then [s] else s.extract 0 (pt s).toNat :: spl k (s.extract ((pt s).toNat + 1) s.size)
theorem spl_zero (s : ByteArray) : spl 0 s = [s] := rfl
theorem spl_miss (k : Nat) (s : ByteArray) (h : pt s < 0) : spl k s = [s] := by
  cases k with
  | zero => rfl
  | succ k => rw [spl, if_pos h]
theorem spl_hit (k : Nat) (s : ByteArray) (i : Nat) (h : pt s = i) : spl (k + 1) s = s.extract 0 i :: spl k (s.extract (i + 1) s.size) := by
  rw [spl, if_neg (by omega), h]; rfl
theorem pt_cases (s : ByteArray) : pt s = -1 ∨ ∃ i : Nat, pt s = i ∧ i < s.size := by
  have h1 := Lib.indexByte_ge s.data.toList 46
  by_cases h : pt s = -1
  · exact Or.inl h
  · refine Or.inr ⟨(pt s).toNat, by unfold pt at *; omega, ?_⟩
    have h2 : Lib.indexByte s.data.toList 46 = ((pt s).toNat : Nat) := by unfold pt at *; omega
    have h3 := (Lib.indexByte_some h2).1
    have h4 := (List.getElem?_eq_some_iff.1 h3).1
    simpa using h4

set_option maxHeartbeats 2000000 in
set_option maxRecDepth 100000 in
theorem genSplit_any (s : ByteArray) (n N : Nat) (w : World) (hs : s.size ≤ 281474976710656) (hn : 1 ≤ n) (hn9 : n ≤ 9) (hN : N = min n (s.size + 1)) :
    Calls Tryz.prog 66 #[.string s, .string ⟨#[46]⟩, .int .i64 0, .int .i64 n] w fun e w' =>
      e = .returned (.slice (some ⟨w.heap.size, 0, none⟩) (spl (N - 1) s).length N) ∧ w' = w.alloc (.cells (Lib.cellsOf (spl (N - 1) s) N) 9) := by
  have hI := fun x W => Any.strings_Index_one Tryz.lays143 x 46 W
  change ∀ x W, Calls Tryz.prog 89 _ _ _ at hI
  have hi9 : (Tryz.prog.info? 9).map (fun i => (i.zero, i.size, i.bytes)) = some (some (.string ByteArray.empty), 1, 16) := by kernel_rfl
  have hne : ((n : Int) == 0) = false := beq_eq_false_iff_ne.2 (by omega)
  have hmin : min (n : Int) ((s.size : Int) + 1) = (N : Int) := by omega
  have hN1 : 1 ≤ N := by omega
  have hN9 : N ≤ 9 := by omega
  have hNs : N ≤ s.size + 1 := by omega
  have hmk := run_make_row' (P := Tryz.prog) 66 9 (.string ByteArray.empty) 16 Tryz.underlying66 hi9 rfl .i64 .i64 N (by omega) (by omega)
  clear hN hi9
  go_enter Tryz.func66, Tryz.ntmps66
  go_wp2
  clear hmk
  go_loopw [0, 10] (fun s0 s10 wr => ∃ (done : List ByteArray) (rest : ByteArray), s0 = .string rest ∧ s10 = .int .i64 done.length ∧ done.length ≤ N - 1 ∧ rest.size ≤ s.size ∧
      wr = w.alloc (.cells (Lib.cellsOf done N) 9) ∧ done ++ spl (N - 1 - done.length) rest = spl (N - 1) s) (fun _ s10 _ => N - (RowKit.intOf s10).toNat)
  case atStart => exact ⟨[], s, rfl, rfl, Nat.zero_le _, Nat.le_refl _, by rw [Lib.cellsOf_nil], rfl⟩
  case round =>
    obtain ⟨done, rest, rfl, rfl, hd, hrs, rfl, hsp⟩ := hrel
    have hnext : (Lib.cellsOf done N)[done.length]? = some (.string ByteArray.empty) := Lib.cellsOf_next (by omega)
    have HS : Hid (done ++ spl (N - 1 - done.length) rest = spl (N - 1) s) := hsp
    clear hsp
    have fin : spl (N - 1 - done.length) rest = [rest] → (spl (N - 1) s).length = done.length + 1 ∧ (Lib.cellsOf done N).setIfInBounds done.length (.string rest) = Lib.cellsOf (spl (N - 1) s) N := fun h => by
      have e := HS.out
      rw [h] at e
      rw [← e]
      exact ⟨by simp, Lib.cellsOf_set (by omega) rest⟩
    have HFin : Hid (spl (N - 1 - done.length) rest = [rest] → (spl (N - 1) s).length = done.length + 1 ∧ (Lib.cellsOf done N).setIfInBounds done.length (.string rest) = Lib.cellsOf (spl (N - 1) s) N) := fin
    clear fin
    by_cases hlt : done.length < N - 1
    · have hltz : ((done.length : Nat) : Int) < (N : Int) - 1 := by omega
      rcases pt_cases rest with hix | ⟨i, hix, hroom⟩
      · have hIr := hI rest
        rw [show Lib.indexByte rest.data.toList 46 = -1 from hix] at hIr
        have HP : Hid (pt rest = -1) := hix
        clear hix hI
        go_wp2_with (go_at_call 89; refine (hIr _).mono ?_; rintro e w1 ⟨rfl, rfl⟩)
        go_ret
        obtain ⟨f1, f2⟩ := HFin.out (spl_miss _ rest (by rw [HP.out]; decide))
        rw [f1, ← f2]
        exact ⟨rfl, rfl⟩
      · have hIr := hI rest
        rw [show Lib.indexByte rest.data.toList 46 = (i : Int) from hix] at hIr
        have HP : Hid (pt rest = (i : Int)) := hix
        clear hix hI
        have c0 : ¬ ((i : Int) < 0) := by omega
        have c1 : (0 : Int) ≤ (i : Int) := by omega
        have c2 : (i : Int) ≤ (rest.size : Int) := by omega
        have c4 : (i : Int) + 1 ≤ (rest.size : Int) := by omega
        go_wp2_with (go_at_call 89; refine (hIr _).mono ?_; rintro e w1 ⟨rfl, rfl⟩)
        refine ⟨⟨done ++ [rest.extract 0 i], rest.extract (i + 1) rest.size, rfl, by simp, by simp; omega, by rw [ByteArray.size_extract]; omega, by rw [← Lib.cellsOf_set (by omega)], ?_⟩, by simp [RowKit.intOf]; omega⟩
        rw [← HS.out, show N - 1 - done.length = (N - 1 - (done ++ [rest.extract 0 i]).length) + 1 by simp; omega, spl_hit _ rest i HP.out]
        simp
    · have hltz : ¬ (((done.length : Nat) : Int) < (N : Int) - 1) := by omega
      go_wp2
      go_ret
      obtain ⟨f1, f2⟩ := HFin.out (by rw [show N - 1 - done.length = 0 by omega]; rfl)
      rw [f1, ← f2]
      exact ⟨rfl, rfl⟩

set_option maxHeartbeats 1000000 in
theorem SplitN_any (s : ByteArray) (n N : Nat) (w : World) (hs : s.size ≤ 281474976710656) (hn : 1 ≤ n) (hn9 : n ≤ 9) (hN : N = min n (s.size + 1)) :
    Calls Tryz.prog 47 #[.string s, .string ⟨#[46]⟩, .int .i64 n] w fun e w' =>
      e = .returned (.slice (some ⟨w.heap.size, 0, none⟩) (spl (N - 1) s).length N) ∧ w' = w.alloc (.cells (Lib.cellsOf (spl (N - 1) s) N) 9) := by
  have H := genSplit_any s n N w hs hn hn9 hN
  clear hN hn hn9
  generalize spl (N - 1) s = ps at *
  go_enter Tryz.func47, Tryz.ntmps47
  go_wp2_with (go_at_call 66; refine H.mono ?_; rintro e w1 ⟨rfl, rfl⟩)
  go_ret
  exact ⟨rfl, rfl⟩
end Go.Proofs.YtmhbpelbkeclpaaGreatDoor
