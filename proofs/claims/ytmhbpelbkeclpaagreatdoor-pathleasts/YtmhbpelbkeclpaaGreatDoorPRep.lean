import Derived.Test.YtmhbpelbkeclpaaGreatDoorPTexts
import Derived.Test.YtmhbpelbkeclpaaGreatDoorPSt
import Derived.Deep.LoopGhost
namespace Go.Proofs.YtmhbpelbkeclpaaGreatDoor
open Go.RowKit Go.Shelf Go.Lib
open Go.Sort hiding Below

theorem seg_step (l : List UInt8) (o : UInt8) (start j : Nat) (h : Lib.indexByte (l.drop start) o = (j : Int)) :
    start + j < l.length ∧ l.take (start + j + 1) = l.take start ++ (l.drop start).take j ++ [o] ∧ o ∉ (l.drop start).take j ∧ (l.drop start).count o = (l.drop (start + j + 1)).count o + 1 := by
  obtain ⟨h1, h2⟩ := Lib.indexByte_some h
  have hlt := (List.getElem?_eq_some_iff.1 h1).1
  rw [List.length_drop] at hlt
  have hd : (l.drop start).drop j = o :: l.drop (start + j + 1) := by
    rw [List.drop_eq_getElem_cons (by rw [List.length_drop]; exact hlt)]
    congr 1
    · exact (List.getElem?_eq_some_iff.1 h1).2
    · rw [List.drop_drop]; rfl
  have hno : o ∉ (l.drop start).take j := fun hm => by
    obtain ⟨k, hk⟩ := List.getElem?_of_mem hm
    have hkj : k < j := by have := (List.getElem?_eq_some_iff.1 hk).1; rw [List.length_take] at this; omega
    rw [List.getElem?_take_of_lt hkj] at hk
    exact h2 k hkj hk
  refine ⟨by omega, ?_, hno, ?_⟩
  · rw [show start + j + 1 = start + (j + 1) by omega, List.take_add, List.append_assoc]
    congr 1
    rw [List.take_add_one, h1]; rfl
  · have : l.drop start = (l.drop start).take j ++ o :: l.drop (start + j + 1) := by rw [← hd, List.take_append_drop]
    rw [this, List.count_append, List.count_eq_zero.2 hno, List.count_cons_self]
    omega
theorem idx_of_count {l : List UInt8} {o : UInt8} (h : 0 < l.count o) : ∃ j : Nat, Lib.indexByte l o = (j : Int) := by
  have h1 := Lib.indexByte_ge l o
  by_cases h2 : Lib.indexByte l o = -1
  · exfalso
    obtain ⟨k, hk⟩ := List.getElem?_of_mem (List.count_pos_iff.1 h)
    exact Lib.indexByte_none h2 k hk
  · exact ⟨(Lib.indexByte l o).toNat, by omega⟩

set_option maxHeartbeats 4000000 in
set_option maxRecDepth 1000000 in
theorem Replace_one (s : ByteArray) (o n : UInt8) (w : World) (hs : s.size ≤ 140737488355328) (hon : o ≠ n) :
    Calls Tryz.prog 79 #[.string s, .string ⟨#[o]⟩, .string ⟨#[n]⟩, .int .i64 (-1)] w fun e w' => e = .returned (.string ⟨(swp o n s.data.toList).toArray⟩) ∧ Below w.heap.size w w' := by
  have L := Tryz.lays154
  have X := Tryz.Builder_Extra_154
  have hC := Any.strings_Count_one { L with } s o w
  change Calls Tryz.prog 88 _ _ _ at hC
  have hI := fun x W => Any.strings_Index_one { L with } x o W
  change ∀ x W, Calls Tryz.prog 89 _ _ _ at hI
  have hG := fun B b m W h1 h2 h3 h4 => Any.Builder_Grow_fresh { L with } X B b m W h1 h2 h3 h4
  have hWr := fun B b bs x W h1 h2 h3 => Any.Builder_WriteString { L with } X B b bs x W h1 h2 h3
  have hSt := fun B b l W h1 h2 => Any.Builder_String_any { L with } X B b l W h1 h2
  have hbeq : ((⟨#[o]⟩ : ByteArray).toList == (⟨#[n]⟩ : ByteArray).toList) = false := (Lib.bytes_beq_false_iff _ _).2 (fun e => hon (by injection e with e; simpa using e))
  have hon' : (o == n) = false := beq_eq_false_iff_ne.2 hon
  have h1z : decide (0 < (⟨#[o]⟩ : ByteArray).size) = true := rfl
  rcases Nat.eq_zero_or_pos (Lib.countByte s.data.toList o) with hk | hk
  · rw [hk] at hC
    have HS : Hid (swp o n s.data.toList = s.data.toList) := swp_none (List.count_eq_zero.1 hk)
    clear hk
    go_enter Tryz.func79, Tryz.ntmps79
    go_wp2_with (go_at_call 88; refine hC.mono ?_; rintro e w' ⟨rfl, hw⟩; rw [hw])
    go_ret
    rw [HS.out]
    exact ⟨rfl, Below.refl _ _⟩
  · obtain ⟨K, hK⟩ : ∃ K, Lib.countByte s.data.toList o = K := ⟨_, rfl⟩
    rw [hK] at hC hk
    have HK : Hid (s.data.toList.count o = K) := hK
    have hKs : K ≤ s.size := by
      have := List.count_le_length (a := o) (l := s.data.toList)
      have e : s.data.toList.length = s.size := by simp
      rw [HK.out, e] at this
      exact this
    clear hK
    have hcz : ((K : Int) == 0) = false := beq_eq_false_iff_ne.2 (by omega)
    go_enter Tryz.func79, Tryz.ntmps79
    go_wp2_with (go_at_call 88; refine hC.mono ?_; rintro e w' ⟨rfl, hw⟩; rw [hw])
    refine (hG w.heap.size w.heap.size s.size _ (Nat.le_refl _) (heap_alloc_new w _) (by simp) (by omega)).mono ?_
    rintro e w1 ⟨rfl, hb0, hb1⟩
    have H1 : Hid (Lib.IsBuilder (Tryz.lays154_ren.t 72) (Tryz.lays154_ren.t 5) w.heap.size w.heap.size (Lib.byteCells []) w1) := Or.inr hb0
    have Hb1 : Hid (Below w.heap.size w w1) := ((Below.refl w.heap.size w).alloc (Nat.le_refl _) _).trans hb1
    clear hb0 hb1 hC hG
    go_wp2_with fail
    go_loopg [11, 53] K (fun g s11 s53 wx => ∃ (i start : Nat), s53 = .int .i64 i ∧ s11 = .int .i64 start ∧ i + g = K ∧ start ≤ s.size ∧
      Hid (Lib.IsBuilder (Tryz.lays154_ren.t 72) (Tryz.lays154_ren.t 5) w.heap.size w.heap.size (Lib.byteCells (swp o n (s.data.toList.take start))) wx) ∧ Hid (Below w.heap.size w wx) ∧ (s.data.toList.drop start).count o = g)
    case atStart => exact ⟨0, 0, rfl, rfl, by omega, Nat.zero_le _, H1, Hb1, HK.out⟩
    case round =>
      obtain ⟨i, start, rfl, rfl, hig, hst, HB, HW, hcount⟩ := hrel
      have hBw : w.heap.size ≤ wr.heap.size := HW.out.size
      have c1 : (0 : Int) ≤ (start : Int) := by omega
      have c2 : (start : Int) ≤ (s.size : Int) := by omega
      have hlenL : s.data.toList.length = s.size := by simp
      cases gk with
      | zero =>
        have hiK : ¬ ((i : Int) < (K : Int)) := by omega
        have hfin : swp o n (s.data.toList.take start) ++ s.data.toList.drop start = swp o n s.data.toList := by
          rw [← swp_none (n := n) (List.count_eq_zero.1 hcount), ← swp_append, List.take_append_drop]
        have HF : Hid (swp o n (s.data.toList.take start) ++ s.data.toList.drop start = swp o n s.data.toList) := hfin
        clear hfin hcount
        go_wp2_with fail
        refine (hWr w.heap.size w.heap.size _ _ wr HB.out (by rw [Lib.byteCells_length, swp_len, ByteArray.size_extract, List.length_take]; omega) hBw).mono ?_
        rintro e w3 ⟨rfl, h3, hb3⟩
        rw [Lib.strCells_eq, Lib.extract_to_end, ← Lib.byteCells_append, HF.out] at h3
        have hB3 := HW.out.trans hb3
        clear hb3
        go_wp2_with fail
        refine (hSt w.heap.size w.heap.size _ w3 (Or.inr h3) hB3.size).mono ?_
        rintro e w5 ⟨rfl, hb5⟩
        go_wp2
        go_ret
        exact ⟨rfl, hB3.trans hb5⟩
      | succ g =>
        have hiK : (i : Int) < (K : Int) := by omega
        obtain ⟨j, hj⟩ := idx_of_count (l := s.data.toList.drop start) (o := o) (by omega)
        obtain ⟨q1, q2, q3, q4⟩ := seg_step s.data.toList o start j hj
        rw [hlenL] at q1
        have hcnt : (s.data.toList.drop (start + j + 1)).count o = g := by omega
        have c3 : (start : Int) ≤ (start : Int) + (j : Int) := by omega
        have c4 : (start : Int) + (j : Int) ≤ (s.size : Int) := by omega
        have hnext : Lib.byteCells (swp o n (s.data.toList.take start)) ++ Lib.strCells (s.extract start (start + j)) ++ Lib.strCells ⟨#[n]⟩ = Lib.byteCells (swp o n (s.data.toList.take (start + j + 1))) := by
          rw [Lib.strCells_eq, Lib.strCells_eq, Lib.extract_data, Nat.add_sub_cancel_left, ← Lib.byteCells_append, ← Lib.byteCells_append, q2, swp_append, swp_append, swp_none q3]
          simp [swp]
        have Hn : Hid (Lib.byteCells (swp o n (s.data.toList.take start)) ++ Lib.strCells (s.extract start (start + j)) ++ Lib.strCells ⟨#[n]⟩ = Lib.byteCells (swp o n (s.data.toList.take (start + j + 1)))) := hnext
        have hIs := fun W => hI (s.extract start s.size) W
        have hxe : (s.extract start s.size).data.toList = s.data.toList.drop start := Lib.extract_to_end s start
        rw [hxe, hj] at hIs
        clear hnext q2 q3 q4 hcount hI hxe hj
        go_wp2_with (go_at_call 89; refine (hIs _).mono ?_; rintro e w' ⟨rfl, hw⟩; rw [hw])
        refine (hWr w.heap.size w.heap.size _ (s.extract start (start + j)) wr HB.out (by rw [Lib.byteCells_length, swp_len, ByteArray.size_extract, List.length_take]; omega) hBw).mono ?_
        rintro e w3 ⟨rfl, h3, hb3⟩
        have hBw3 : w.heap.size ≤ w3.heap.size := Nat.le_trans hBw hb3.size
        have H3 : Hid (Lib.BuilderAt (Tryz.lays154_ren.t 72) (Tryz.lays154_ren.t 5) w.heap.size w.heap.size (.pointer (some ⟨w.heap.size, 0, none⟩)) (Lib.byteCells (swp o n (s.data.toList.take start)) ++ Lib.strCells (s.extract start (start + j))) w3) := h3
        have Hb3 : Hid (Below w.heap.size wr w3) := hb3
        clear h3 hb3
        go_wp2_with fail
        refine (hWr w.heap.size w.heap.size _ ⟨#[n]⟩ w3 (Or.inr H3.out) (by rw [List.length_append, Lib.byteCells_length, swp_len, Lib.strCells_length, ByteArray.size_extract, List.length_take, show (⟨#[n]⟩ : ByteArray).size = 1 from rfl]; omega) hBw3).mono ?_
        rintro e w4 ⟨rfl, h4, hb4⟩
        rw [Hn.out] at h4
        have H4 : Hid (Lib.IsBuilder (Tryz.lays154_ren.t 72) (Tryz.lays154_ren.t 5) w.heap.size w.heap.size (Lib.byteCells (swp o n (s.data.toList.take (start + j + 1)))) w4) := Or.inr h4
        have Hb4 : Hid (Below w.heap.size w w4) := (HW.out.trans Hb3.out).trans hb4
        clear h4 hb4
        go_wp2
        go_roundg g
        case measure => omega
        case rel => exact ⟨i + 1, start + j + 1, by first | rfl | (simp; unfold wrap64; omega), by first | rfl | simp | (simp; unfold wrap64; omega), by omega, by omega, H4, Hb4, hcnt⟩

set_option maxHeartbeats 1000000 in
theorem ReplaceAll_one (s : ByteArray) (o n : UInt8) (w : World) (hs : s.size ≤ 140737488355328) (hon : o ≠ n) :
    Calls Tryz.prog 59 #[.string s, .string ⟨#[o]⟩, .string ⟨#[n]⟩] w fun e w' => e = .returned (.string ⟨(swp o n s.data.toList).toArray⟩) ∧ Below w.heap.size w w' := by
  have H := Replace_one s o n w hs hon
  go_enter Tryz.func59, Tryz.ntmps59
  go_wp2_with (go_at_call 79; refine H.mono ?_; rintro e w1 ⟨rfl, hb1⟩)
  go_ret
  exact ⟨rfl, hb1⟩

theorem TrimPrefix_any (s p : ByteArray) (w : World) :
    Calls Tryz.prog 60 #[.string s, .string p] w fun e w' => e = .returned (.string ⟨(Lib.trimPrefix s.data.toList p.data.toList).toArray⟩) ∧ w' = w :=
  Any.strings_TrimPrefix Tryz.lays101 s p w
end Go.Proofs.YtmhbpelbkeclpaaGreatDoor
