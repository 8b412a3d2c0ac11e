import Derived.Test.YtmhbpelbkeclpaaGreatDoorFormat
import Derived.Test.YtmhbpelbkeclpaaGreatDoorNum
import Derived.Lib.AtoiErrMem
import Derived.WideLaws
namespace Go.Proofs.YtmhbpelbkeclpaaGreatDoor
open Go.RowKit Go.Shelf Go.Lib
open Go.Sort hiding Below

theorem bytes_neq (s : ByteArray) (l : List UInt8) : (s.toList != l) = !(s.data.toList == l) := by
  rw [ByteArray.toList_eq]; rfl

set_option maxHeartbeats 1000000 in
set_option maxRecDepth 100000 in
theorem number_any (s : ByteArray) (w : World) (he : Env w) (hs : s.size ≤ 281474976710656) :
    Calls Tryz.prog 48 #[.string s] w fun e w' =>
      ((∃ u, IsNum s.data.toList u ∧ e = .returned (.tuple #[.int .u64 (u : Nat), .bool true])) ∨ ((∀ u, ¬ IsNum s.data.toList u) ∧ e = .returned (.tuple #[.int .u64 0, .bool false]))) ∧ Below w.heap.size w w' := by
  cases hp : Lib.parseUintB 64 s.data.toList with
  | ok u =>
    have hu := parseB_lt hp
    have HP : Hid (Lib.parseUintB 64 s.data.toList = .ok u) := hp
    have H := fun W => Any.strconv_ParseUint_10_at64_ok Tryz.laysPu14 s (by omega) u hp W
    change ∀ W, Calls Tryz.prog 67 _ _ _ at H
    clear hp
    by_cases hd : Lib.decDigits u = s.data.toList
    · have hn : IsNum s.data.toList u := ⟨hu, hd⟩
      have hF := fun W hW => FormatUint_any u hu W hW
      have hs' : (⟨(Lib.decDigits u).toArray⟩ : ByteArray) = s := by rw [hd]
      rw [hs'] at hF
      clear hs' hd
      go_enter Tryz.func48, Tryz.ntmps48
      go_wp2_with fail
      refine (H _).mono ?_
      rintro e w1 ⟨rfl, hw⟩
      have hb1 : Below w.heap.size w w1 := by
        rcases hw with rfl | rfl
        · exact Below.refl _ _
        · exact Lib.bytesWorld_below _ _ _
      have he1 := he.below hb1
      clear hw
      go_wp2_with fail
      refine (hF _ he1).mono ?_
      rintro e w2 ⟨rfl, hg⟩
      go_wp2
      go_ret2
      exact ⟨Or.inl ⟨u, hn, rfl⟩, hb1.trans (hg.below.mono hb1.size)⟩
    · have hn : ∀ v, ¬ IsNum s.data.toList v := fun v hv => by
        have h1 := parseB_dec hv
        have h2 := HP.out.symm.trans h1
        have h3 := NumEnd.ok.inj h2
        exact hd (by rw [h3]; exact hv.2)
      have hF := fun W hW => FormatUint_any u hu W hW
      have hne : (⟨(Lib.decDigits u).toArray⟩ : ByteArray).toList ≠ s.toList := by
        rw [ByteArray.toList_eq, ByteArray.toList_eq]; exact hd
      generalize (⟨(Lib.decDigits u).toArray⟩ : ByteArray) = r at *
      have n1 : (r.toList == s.toList) = false := beq_eq_false_iff_ne.2 hne
      have n2 : (r.toList != s.toList) = true := by rw [bne_iff_ne]; exact hne
      clear hne hd
      go_enter Tryz.func48, Tryz.ntmps48
      go_wp2_with fail
      refine (H _).mono ?_
      rintro e w1 ⟨rfl, hw⟩
      have hb1 : Below w.heap.size w w1 := by
        rcases hw with rfl | rfl
        · exact Below.refl _ _
        · exact Lib.bytesWorld_below _ _ _
      have he1 := he.below hb1
      clear hw
      go_wp2_with fail
      refine (hF _ he1).mono ?_
      rintro e w2 ⟨rfl, hg⟩
      go_wp2
      go_ret2
      exact ⟨Or.inr ⟨hn, rfl⟩, hb1.trans (hg.below.mono hb1.size)⟩
  | «syntax» =>
    have hn : ∀ v, ¬ IsNum s.data.toList v := fun v hv => by rw [parseB_dec hv] at hp; exact absurd hp (by simp)
    obtain ⟨tp, p, hv⟩ := he.syn
    have H := Any.strconv_ParseUint_10_at64_syntax_var Tryz.laysPu14 s hs hp tp p w hv
    change Calls Tryz.prog 67 _ _ _ at H
    clear hv hp
    go_enter Tryz.func48, Tryz.ntmps48
    go_wp2_with fail
    refine H.mono ?_
    rintro e w1 ⟨N, rfl, _, _, hb1⟩
    go_wp2
    go_ret2
    exact ⟨Or.inr ⟨hn, rfl⟩, hb1⟩
  | range =>
    have hn : ∀ v, ¬ IsNum s.data.toList v := fun v hv => by rw [parseB_dec hv] at hp; exact absurd hp (by simp)
    obtain ⟨tp, p, hv⟩ := he.rng
    have H := Any.strconv_ParseUint_10_at64_range_var Tryz.laysPu14 s hs hp tp p w hv
    change Calls Tryz.prog 67 _ _ _ at H
    clear hv hp
    go_enter Tryz.func48, Tryz.ntmps48
    go_wp2_with fail
    refine H.mono ?_
    rintro e w1 ⟨N, rfl, _, _, hb1⟩
    go_wp2
    go_ret2
    exact ⟨Or.inr ⟨hn, rfl⟩, hb1⟩
end Go.Proofs.YtmhbpelbkeclpaaGreatDoor
