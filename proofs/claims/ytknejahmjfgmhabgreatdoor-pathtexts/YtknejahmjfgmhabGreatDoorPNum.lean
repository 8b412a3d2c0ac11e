import Derived.Test.YtknejahmjfgmhabGreatDoorPScan
import Derived.Test.YtknejahmjfgmhabGreatDoorPRText
namespace Go.Proofs.YtknejahmjfgmhabGreatDoor
open Go.RowKit Go.Shelf Go.Lib
open Go.Sort hiding Below

theorem run_ch (s : ByteArray) (i : Nat) (hi : i < s.size) (W : World) : (Instr.index 9 (.string s) (.int .i64 (i : Int))).run Tryz.prog W = .ok (.int .u8 ((s[i]'hi).toNat : Int)) W := by
  rw [run_index_string _ _ _ _ _ Tryz.underlying9, dif_pos (by omega)]
  rfl
theorem scan_wrap (a m : Nat) (h : 48 ≤ m) : IntKind.u64.wrap (IntKind.u64.wrap (IntKind.u64.wrap (10 * ((a : Int) % 18446744073709551616)) + (m : Int)) - 48) = (((10 * a + (m - 48)) % 18446744073709551616 : Nat) : Int) := by
  simp only [IntKind.wrap_u64]
  omega

set_option maxHeartbeats 2000000 in
set_option maxRecDepth 100000 in
theorem number_any' (s : ByteArray) (w : World) (hd : Digs s.data.toList) (hs : s.size ≤ 281474976710656) :
    Calls Tryz.prog 28 #[.string s] w fun e w' => e = .returned (.int .u64 ((dnum s.data.toList % 18446744073709551616 : Nat) : Int)) ∧ w' = w := by
  go_enter Tryz.func28, Tryz.ntmps28
  go_wp2_with fail
  go_loopw [3, 4] (fun s3 s4 wr => ∃ i : Nat, i ≤ s.size ∧ s4 = .int .i64 i ∧ s3 = .int .u64 ((dnum (s.data.toList.take i) % 18446744073709551616 : Nat) : Int) ∧ wr = w) (fun _ s4 _ => s.size - (RowKit.intOf s4).toNat)
  case atStart => exact ⟨0, Nat.zero_le _, rfl, rfl, rfl⟩
  case round =>
    obtain ⟨i, hi, rfl, rfl, rfl⟩ := hrel
    by_cases hlt : i < s.size
    · have hltz : (i : Int) < (s.size : Int) := by omega
      have hix := fun W => run_ch s i hlt W
      have hat : s.data.toList[i]? = some (s[i]'hlt) := by
        rw [List.getElem?_eq_getElem (by simpa using hlt)]; rfl
      have hdg := hd _ (List.mem_of_getElem? hat)
      have hnx : dnum (s.data.toList.take (i + 1)) = 10 * dnum (s.data.toList.take i) + ((s[i]'hlt).toNat - 48) := by
        rw [List.take_add_one, hat]
        exact dnum_snoc _ _
      generalize (s[i]'hlt).toNat = m at hix hdg hnx
      have hwr := scan_wrap (dnum (s.data.toList.take i)) m hdg.1
      rw [← hnx] at hwr
      generalize dnum (s.data.toList.take i) = dd at *
      obtain ⟨de, hde⟩ : ∃ de, de = dnum (s.data.toList.take (i + 1)) := ⟨_, rfl⟩
      rw [← hde] at hwr
      have HDE : Hid (de = dnum (s.data.toList.take (i + 1))) := hde
      clear hat hnx hde
      go_wp2
      refine ⟨⟨i + 1, by omega, by go_num, ?_, by first | rfl | trivial⟩, by simp [RowKit.intOf]; omega⟩
      rw [← HDE.out]
      exact congrArg (Value.int .u64) (by omega)
    · have hltz : ¬ (i : Int) < (s.size : Int) := by omega
      rw [show s.data.toList.take i = s.data.toList from List.take_of_length_le (by simp; omega)]
      go_wp2
      go_ret
      exact ⟨rfl, by first | rfl | trivial⟩
end Go.Proofs.YtknejahmjfgmhabGreatDoor
