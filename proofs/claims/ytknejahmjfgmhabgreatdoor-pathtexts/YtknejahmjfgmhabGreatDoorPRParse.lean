import Derived.Test.YtknejahmjfgmhabGreatDoorPNum
import Derived.Deep.RegionHeld3
import Derived.Deep.DeepCutAuto
namespace Go.Proofs.YtknejahmjfgmhabGreatDoor
open Go.RowKit Go.Shelf Go.Lib
open Go.Sort hiding Below

theorem below_drew1 {B : Nat} {a w : World} (h : Below B a w) : Below B a w.drew := ⟨h.os, h.tape, h.output, h.size, h.block⟩
theorem below_set3 {w w' : World} {u v x : Value} (h : Below w.heap.size w w') : Below w.heap.size w (((w'.setCell ⟨w.heap.size, 0, none⟩ u).setCell ⟨w.heap.size, 1, none⟩ v).setCell ⟨w.heap.size, 2, none⟩ x) :=
  Below.setCell (p := ⟨w.heap.size, 2, none⟩) (Below.setCell (p := ⟨w.heap.size, 1, none⟩) (Below.setCell (p := ⟨w.heap.size, 0, none⟩) h (Nat.le_refl _) _) (Nat.le_refl _) _) (Nat.le_refl _) _
theorem app_one (A : List UInt8) (c : UInt8) : (⟨A.toArray⟩ : ByteArray) ++ ⟨#[c]⟩ = ⟨(A ++ [c]).toArray⟩ := by
  apply ByteArray.ext
  apply Array.toList_inj.1
  simp
theorem ext_one (s : ByteArray) (i : Nat) (hi : i < s.size) : s.extract i (i + 1) = ⟨#[s[i]'hi]⟩ := by
  apply ByteArray.ext
  apply Array.toList_inj.1
  rw [ext_list, Nat.add_sub_cancel_left]
  have h1 : s.data.toList.length = s.size := by simp
  rw [List.drop_eq_getElem_cons (by omega), List.take_succ_cons, List.take_zero]
  rfl
theorem sc2_put0 {ch : UInt8} {A B C : List UInt8} (h : 48 ≤ ch.toNat ∧ ch.toNat ≤ 57) : sc2 (some (0, A, B, C)) ch = some (0, A ++ [ch], B, C) := by simp [sc2, h]
theorem sc2_put1 {ch : UInt8} {A B C : List UInt8} (h : 48 ≤ ch.toNat ∧ ch.toNat ≤ 57) : sc2 (some (1, A, B, C)) ch = some (1, A, B ++ [ch], C) := by simp [sc2, h]
theorem sc2_put2 {ch : UInt8} {A B C : List UInt8} (h : 48 ≤ ch.toNat ∧ ch.toNat ≤ 57) : sc2 (some (2, A, B, C)) ch = some (2, A, B, C ++ [ch]) := by simp [sc2, h]

theorem below_gr {w W v : World} (h : Gr w W) (hb : Below W.heap.size W v) : Below w.heap.size w v := h.below.trans (hb.mono h.size)
theorem fits_zero' {A B C n : Nat} (h : tfits A B C n = 0) : ((n : Int) < 2 → B = 0) ∧ ((n : Int) < 3 → C = 0) := by
  simp only [tfits] at h
  split at h
  · cases h
  · split at h
    · rename_i h2
      exact ⟨fun k => by have := h2.1 k; omega, fun k => by have := h2.2 k; omega⟩
    · cases h
theorem fits_of2 {n : Nat} {u v x : Nat} (h1 : 1 ≤ n) (h3 : n ≤ 3) (h2 : (n : Int) < 2 → v = 0) (h4 : (n : Int) < 3 → x = 0) : tfits u v x n = 0 := by
  unfold tfits
  rw [if_neg (by omega), if_pos ⟨fun h => by rw [h2 h]; rfl, fun h => by rw [h4 h]; rfl⟩]
theorem fits_two2 (u v x : Nat) (n : Int) : tfits u v x n = 0 ∨ tfits u v x n = 10 := by
  unfold tfits
  split
  · exact Or.inr rfl
  · split
    · exact Or.inl rfl
    · exact Or.inr rfl
theorem fin_alloc {w wr w6 : World} {b : Value} (hbw : Below w.heap.size w wr) (B6 : Below wr.heap.size wr w6) (LZ : At3 wr w.heap.size b b b) (f1 : ∀ o, wr.frozen? ⟨w.heap.size, o, none⟩ = false) (x y z : Value) (t : TypeId) :
    At3 (w6.alloc (.cells #[x, y, z] t)) w6.heap.size x y z ∧ At3 (w6.alloc (.cells #[x, y, z] t)) w.heap.size b b b ∧ (∀ o, (w6.alloc (.cells #[x, y, z] t)).frozen? ⟨w.heap.size, o, none⟩ = false) ∧ Below w.heap.size w (w6.alloc (.cells #[x, y, z] t)) := by
  have L6 := At3.below B6 LZ
  have h6 := hbw.trans (B6.mono hbw.size)
  exact ⟨At3.new _ _ _ _ _, L6.alloc _, fun o => (((Gr.refl w6).alloc _).frozen L6.lt).trans ((B6.frozen (p := ⟨w.heap.size, o, none⟩) LZ.lt).trans (f1 o)), h6.alloc h6.size _⟩
theorem At3.set3 {W : World} {b : Nat} {p q r : Value} (h : At3 W b p q r) (x y z : Value) : At3 (((W.setCell ⟨b, 0, none⟩ x).setCell ⟨b, 1, none⟩ y).setCell ⟨b, 2, none⟩ z) b x y z := by
  have n01 : (⟨b, 1, none⟩ : Addr) ≠ ⟨b, 0, none⟩ := fun e => by simp at e
  have n02 : (⟨b, 2, none⟩ : Addr) ≠ ⟨b, 0, none⟩ := fun e => by simp at e
  have n12 : (⟨b, 2, none⟩ : Addr) ≠ ⟨b, 1, none⟩ := fun e => by simp at e
  refine ⟨by simpa [World.setCell] using h.lt, ?_, ?_, ?_⟩
  · rw [World.cell?_setCell_other _ _ _ _ n02, World.cell?_setCell_other _ _ _ _ n01]
    exact World.cell?_setCell_same _ _ _ h.c0
  · rw [World.cell?_setCell_other _ _ _ _ n12]
    exact World.cell?_setCell_same _ _ _ ((World.cell?_setCell_other _ _ _ _ n01.symm).trans h.c1)
  · exact World.cell?_setCell_same _ _ _ ((World.cell?_setCell_other _ _ _ _ n12.symm).trans ((World.cell?_setCell_other _ _ _ _ n02.symm).trans h.c2))
theorem At3.far3 {W : World} {b g : Nat} {p q r : Value} (h : At3 W b p q r) (hne : g ≠ b) (x y z : Value) : At3 (((W.setCell ⟨g, 0, none⟩ x).setCell ⟨g, 1, none⟩ y).setCell ⟨g, 2, none⟩ z) b p q r := by
  have n : ∀ i j, (⟨g, i, none⟩ : Addr) ≠ ⟨b, j, none⟩ := fun i j e => hne (congrArg Addr.block e)
  refine ⟨by simpa [World.setCell] using h.lt, ?_, ?_, ?_⟩
  all_goals rw [World.cell?_setCell_other _ _ _ _ (n _ _), World.cell?_setCell_other _ _ _ _ (n _ _), World.cell?_setCell_other _ _ _ _ (n _ _)]
  · exact h.c0
  · exact h.c1
  · exact h.c2
theorem fin_store {w wr w6 : World} {b p q r : Value} {g : Nat} (hbw : Below w.heap.size w wr) (B6 : Below wr.heap.size wr w6) (LZ : At3 wr w.heap.size b b b) (f1 : ∀ o, wr.frozen? ⟨w.heap.size, o, none⟩ = false) (Lg : At3 w6 g p q r) (hg : wr.heap.size ≤ g) (x y z : Value) :
    At3 (((w6.setCell ⟨g, 0, none⟩ x).setCell ⟨g, 1, none⟩ y).setCell ⟨g, 2, none⟩ z) g x y z ∧ At3 (((w6.setCell ⟨g, 0, none⟩ x).setCell ⟨g, 1, none⟩ y).setCell ⟨g, 2, none⟩ z) w.heap.size b b b ∧ (∀ o, (((w6.setCell ⟨g, 0, none⟩ x).setCell ⟨g, 1, none⟩ y).setCell ⟨g, 2, none⟩ z).frozen? ⟨w.heap.size, o, none⟩ = false) ∧ Below w.heap.size w (((w6.setCell ⟨g, 0, none⟩ x).setCell ⟨g, 1, none⟩ y).setCell ⟨g, 2, none⟩ z) := by
  have L6 := At3.below B6 LZ
  have h6 := hbw.trans (B6.mono hbw.size)
  have hl := LZ.lt
  have hk : w.heap.size ≤ g := by have := hbw.size; omega
  refine ⟨Lg.set3 x y z, L6.far3 (by omega) x y z, fun o => ?_, ((h6.setCell (p := ⟨g, 0, none⟩) hk _).setCell (p := ⟨g, 1, none⟩) hk _).setCell (p := ⟨g, 2, none⟩) hk _⟩
  rw [World.frozen?_setCell, World.frozen?_setCell, World.frozen?_setCell]
  exact (B6.frozen (p := ⟨w.heap.size, o, none⟩) LZ.lt).trans (f1 o)
/-- What number tells. -/
def nmv (q : ByteArray) : Nat := dnum q.data.toList % 18446744073709551616
theorem str_keep {B : Nat} {a b c : Value} {W w1 : World} (h : B + 1 < W.heap.size ∧ W.cell? ⟨B + 1, 0, none⟩ = some a ∧ W.cell? ⟨B + 1, 1, none⟩ = some b ∧ W.cell? ⟨B + 1, 2, none⟩ = some c) (hb : Below W.heap.size W w1) :
    B + 1 < w1.heap.size ∧ w1.cell? ⟨B + 1, 0, none⟩ = some a ∧ w1.cell? ⟨B + 1, 1, none⟩ = some b ∧ w1.cell? ⟨B + 1, 2, none⟩ = some c :=
  ⟨Nat.lt_of_lt_of_le h.1 hb.size, (hb.cell (p := ⟨B + 1, 0, none⟩) h.1).trans h.2.1, (hb.cell (p := ⟨B + 1, 1, none⟩) h.1).trans h.2.2.1, (hb.cell (p := ⟨B + 1, 2, none⟩) h.1).trans h.2.2.2⟩

set_option maxHeartbeats 1000000 in
set_option maxRecDepth 100000 in
theorem prefParse_bad (s : ByteArray) (n : Int) (w : World) (hn : n < 1 ∨ 3 < n) :
    Calls Tryz.prog 8 #[.string s, .int .i64 n] w fun e w' => e = .returned (.tuple #[.agg #[.int .u64 0, .int .u64 0, .int .u64 0], .int .i64 10]) ∧ Below w.heap.size w w' := by
  rcases hn with h | h
  · go_enter Tryz.func8, Tryz.ntmps8
    go_wp2_with fail
    refine bodyPost_ret (v := .tuple #[.agg #[.int .u64 0, .int .u64 0, .int .u64 0], .int .i64 10]) (by simp [results, Tryz.results8, go_sem]) rfl ⟨rfl, ?_⟩
    exact ((Below.refl _ w).alloc (Nat.le_refl _) _ : Below w.heap.size w (w.alloc (.cells #[.int .u64 0, .int .u64 0, .int .u64 0] 24)))
  · have h' : ¬ n < 1 := by omega
    go_enter Tryz.func8, Tryz.ntmps8
    go_wp2_with fail
    refine bodyPost_ret (v := .tuple #[.agg #[.int .u64 0, .int .u64 0, .int .u64 0], .int .i64 10]) (by simp [results, Tryz.results8, go_sem]) rfl ⟨rfl, ?_⟩
    exact ((Below.refl _ w).alloc (Nat.le_refl _) _ : Below w.heap.size w (w.alloc (.cells #[.int .u64 0, .int .u64 0, .int .u64 0] 24)))

set_option maxHeartbeats 4000000 in
set_option maxRecDepth 100000 in
theorem prefParse_ok (s : ByteArray) (n : Nat) (w : World) (hs : s.size ≤ 140737488355328) (h1 : 1 ≤ n) (h3 : n ≤ 3) :
    Calls Tryz.prog 8 #[.string s, .int .i64 n] w fun e w' => PParseEnd s.data.toList n e ∧ Below w.heap.size w w' := by
  have g1 : ¬ (n : Int) < 1 := by omega
  have g3 : ¬ 3 < (n : Int) := by omega
  go_enter Tryz.func8, Tryz.ntmps8
  go_wp2_with fail
  go_loopw [7, 8] (fun s7 s8 wr => ∃ (i k : Nat) (A B C : List UInt8), i ≤ s.size ∧ k ≤ 2 ∧ s7 = .int .i64 k ∧ s8 = .int .i64 i ∧ (s.data.toList.take i).foldl sc2 (some (0, [], [], [])) = some (k, A, B, C) ∧
    wr.cell? ⟨w.heap.size + 1, 0, none⟩ = some (.string ⟨A.toArray⟩) ∧ wr.cell? ⟨w.heap.size + 1, 1, none⟩ = some (.string ⟨B.toArray⟩) ∧ wr.cell? ⟨w.heap.size + 1, 2, none⟩ = some (.string ⟨C.toArray⟩) ∧
    wr.cell? ⟨w.heap.size, 0, none⟩ = some (.int .u64 0) ∧ wr.cell? ⟨w.heap.size, 1, none⟩ = some (.int .u64 0) ∧ wr.cell? ⟨w.heap.size, 2, none⟩ = some (.int .u64 0) ∧ (∀ o, wr.frozen? ⟨w.heap.size + 1, o, none⟩ = false) ∧ (∀ o, wr.frozen? ⟨w.heap.size, o, none⟩ = false) ∧ w.heap.size + 1 < wr.heap.size ∧ Below w.heap.size w wr) (fun _ s8 _ => s.size - (RowKit.intOf s8).toNat)
  case atStart => exact ⟨0, 0, [], [], [], Nat.zero_le _, by omega, rfl, rfl, rfl, by go_simp, by go_simp, by go_simp, by go_simp, by go_simp, by go_simp, fun o => by go_simp, fun o => by go_simp, by simp, (((Gr.refl _).alloc _).alloc _).below⟩
  case round =>
    obtain ⟨i, k, A, B, C, hi, hk, rfl, rfl, hsc, c0, c1, c2, d0, d1, d2, f0, f1, hz, hbw⟩ := hrel
    obtain ⟨dA, dB, dC, hlen, _⟩ := sc2_digs hsc
    have hll : s.data.toList.length = s.size := by simp
    rw [List.length_take] at hlen
    by_cases hlt : i < s.size
    · have hltz : (i : Int) < (s.size : Int) := by omega
      have hix := fun W => run_ch s i hlt W
      have hat : s.data.toList[i]? = some (s[i]'hlt) := by
        rw [List.getElem?_eq_getElem (by simpa using hlt)]; rfl
      have hnx : (s.data.toList.take (i + 1)).foldl sc2 (some (0, [], [], [])) = sc2 (some (k, A, B, C)) (s[i]'hlt) := by
        rw [List.take_add_one, List.foldl_append, hsc, hat]; rfl
      have hxs0 := ext_one s i hlt
      have h8 := (s[i]'hlt).toNat_lt
      generalize s[i]'hlt = ch at hix hnx h8 hxs0
      obtain ⟨xs, hxs⟩ : ∃ xs : ByteArray, xs = ⟨#[ch]⟩ := ⟨_, rfl⟩
      rw [← hxs] at hxs0
      have hx1 : xs.size = 1 := by rw [hxs]; rfl
      have HN : Hid ((s.data.toList.take (i + 1)).foldl sc2 (some (0, [], [], [])) = sc2 (some (k, A, B, C)) ch) := hnx
      clear hnx hsc hat dA dB dC hll
      by_cases hD : 48 ≤ ch.toNat ∧ ch.toNat ≤ 57
      · have q1 : (48 : Int) ≤ (ch.toNat : Int) := by omega
        have q2 : (ch.toNat : Int) ≤ 57 := by omega
        have hk3 : k = 0 ∨ k = 1 ∨ k = 2 := by omega
        have b1 : (i : Int) ≤ (i : Int) + 1 := by omega
        have b2 : (i : Int) + 1 ≤ (s.size : Int) := by omega
        have b3 : (0 : Int) ≤ (i : Int) := by omega
        have HD := hD
        clear hD h8
        rcases hk3 with hk3 | hk3 | hk3
        · have e0 : (k : Int) = 0 := by omega
          rw [e0]
          have hcat : ¬ 9223372036854775807 < A.length + 1 := by omega
          have HX : Hid ((⟨A.toArray⟩ : ByteArray) ++ xs = ⟨(A ++ [ch]).toArray⟩) := by unfold Hid; rw [hxs]; exact app_one _ _
          clear hxs
          go_wp2_with fail
          go_big_region
          go_wp2
          rw [HX.out]
          refine ⟨⟨i + 1, 0, (A ++ [ch]), (B), (C), by omega, by omega, by go_num, by go_num, ?_, ?_, ?_, ?_, by go_simp, by go_simp, by go_simp, fun o => by go_simp, fun o => by go_simp, by simp; omega, below_drew1 (Below.setCell (p := ⟨w.heap.size + 1, 0, none⟩) hbw (by show w.heap.size ≤ w.heap.size + 1; omega) _)⟩, by simp [RowKit.intOf]; omega⟩
          · rw [HN.out, hk3]; exact sc2_put0 HD
          all_goals go_simp
        · have e0 : (k : Int) = 1 := by omega
          rw [e0]
          have hcat : ¬ 9223372036854775807 < B.length + 1 := by omega
          have HX : Hid ((⟨B.toArray⟩ : ByteArray) ++ xs = ⟨(B ++ [ch]).toArray⟩) := by unfold Hid; rw [hxs]; exact app_one _ _
          clear hxs
          go_wp2_with fail
          go_big_region
          go_wp2
          rw [HX.out]
          refine ⟨⟨i + 1, 1, (A), (B ++ [ch]), (C), by omega, by omega, by go_num, by go_num, ?_, ?_, ?_, ?_, by go_simp, by go_simp, by go_simp, fun o => by go_simp, fun o => by go_simp, by simp; omega, below_drew1 (Below.setCell (p := ⟨w.heap.size + 1, 1, none⟩) hbw (by show w.heap.size ≤ w.heap.size + 1; omega) _)⟩, by simp [RowKit.intOf]; omega⟩
          · rw [HN.out, hk3]; exact sc2_put1 HD
          all_goals go_simp
        · have e0 : (k : Int) = 2 := by omega
          rw [e0]
          have hcat : ¬ 9223372036854775807 < C.length + 1 := by omega
          have HX : Hid ((⟨C.toArray⟩ : ByteArray) ++ xs = ⟨(C ++ [ch]).toArray⟩) := by unfold Hid; rw [hxs]; exact app_one _ _
          clear hxs
          go_wp2_with fail
          go_big_region
          go_wp2
          rw [HX.out]
          refine ⟨⟨i + 1, 2, (A), (B), (C ++ [ch]), by omega, by omega, by go_num, by go_num, ?_, ?_, ?_, ?_, by go_simp, by go_simp, by go_simp, fun o => by go_simp, fun o => by go_simp, by simp; omega, below_drew1 (Below.setCell (p := ⟨w.heap.size + 1, 2, none⟩) hbw (by show w.heap.size ≤ w.heap.size + 1; omega) _)⟩, by simp [RowKit.intOf]; omega⟩
          · rw [HN.out, hk3]; exact sc2_put2 HD
          all_goals go_simp
      · by_cases hA : ch = 44 ∧ k < 2
        · obtain ⟨rfl, hk2⟩ := hA
          have e44 : ((44 : UInt8).toNat : Int) = 44 := rfl
          rw [e44] at hix
          have hkz : (k : Int) < 2 := by omega
          clear e44 h8 hD hxs hxs0 hx1
          go_wp2
          refine ⟨⟨i + 1, k + 1, A, B, C, by omega, by omega, by go_num, by go_num, ?_, c0, c1, c2, d0, d1, d2, f0, f1, hz, hbw⟩, by simp [RowKit.intOf]; omega⟩
          rw [HN.out]
          exact sc2_com k hk2 A B C
        · by_cases h43 : ch = 43
          · subst h43
            have e43 : ((43 : UInt8).toNat : Int) = 43 := rfl
            rw [e43] at hix
            clear e43 h8 hD hxs hxs0 hx1 hA
            go_wp2
            refine ⟨⟨i + 1, k, A, B, C, by omega, by omega, by go_num, by go_num, ?_, c0, c1, c2, d0, d1, d2, f0, f1, hz, hbw⟩, by simp [RowKit.intOf]; omega⟩
            rw [HN.out]
            exact sc2_plus k A B C
          · have hno : ∀ u v x : Nat, ¬ IsPText s.data.toList n u v x := by
              refine noPText_scan h1 h3 (j := i + 1) ?_
              rw [HN.out]
              simp only [sc2]
              rw [if_neg hD, if_neg hA, if_neg h43]
            have Hno : Hid (∀ u v x : Nat, ¬ IsPText s.data.toList n u v x) := hno
            have q43 : ((ch.toNat : Int) == 43) = false := by rw [beq_eq_false_iff_ne]; intro e; exact h43 (UInt8.toNat_inj.1 (by have : (43 : UInt8).toNat = 43 := rfl; omega))
            have q43' : ((ch.toNat : Int) != 43) = true := by rw [bne_iff_ne]; intro e; exact h43 (UInt8.toNat_inj.1 (by have : (43 : UInt8).toNat = 43 := rfl; omega))
            clear hno HN hxs hxs0 hx1
            have hways : (ch = 44 ∧ ¬ k < 2) ∨ (ch ≠ 44 ∧ ch.toNat < 48) ∨ (ch ≠ 44 ∧ 57 < ch.toNat) := by
              by_cases e : ch = 44
              · exact Or.inl ⟨e, fun h => hA ⟨e, h⟩⟩
              · have : ch.toNat < 48 ∨ 57 < ch.toNat := by omega
                rcases this with h | h
                · exact Or.inr (Or.inl ⟨e, h⟩)
                · exact Or.inr (Or.inr ⟨e, h⟩)
            clear hA hD h43
            rcases hways with ⟨rfl, hk2⟩ | ⟨hne, hlo⟩ | ⟨hne, hhi⟩
            · have e44 : ((44 : UInt8).toNat : Int) = 44 := rfl
              rw [e44] at hix
              have hkz : ¬ (k : Int) < 2 := by omega
              clear e44 h8 q43 q43'
              go_wp2
              refine bodyPost_ret (v := .tuple #[.agg #[.int .u64 0, .int .u64 0, .int .u64 0], .int .i64 11]) (by simp [results, Tryz.results8, go_sem, d0, d1, d2]) rfl ⟨Or.inr ⟨by omega, Or.inr ⟨Hno.out, rfl⟩⟩, below_set3 hbw⟩
            · have q3 : ((ch.toNat : Int) == 44) = false := by rw [beq_eq_false_iff_ne]; intro e; exact hne (UInt8.toNat_inj.1 (by have : (44 : UInt8).toNat = 44 := rfl; omega))
              have q1 : ¬ (48 : Int) ≤ (ch.toNat : Int) := by omega
              clear hne
              go_wp2
              refine bodyPost_ret (v := .tuple #[.agg #[.int .u64 0, .int .u64 0, .int .u64 0], .int .i64 11]) (by simp [results, Tryz.results8, go_sem, d0, d1, d2]) rfl ⟨Or.inr ⟨by omega, Or.inr ⟨Hno.out, rfl⟩⟩, below_set3 hbw⟩
            · have q3 : ((ch.toNat : Int) == 44) = false := by rw [beq_eq_false_iff_ne]; omega
              have q1 : (48 : Int) ≤ (ch.toNat : Int) := by omega
              have q2 : ¬ (ch.toNat : Int) ≤ 57 := by omega
              clear hne
              go_wp2
              refine bodyPost_ret (v := .tuple #[.agg #[.int .u64 0, .int .u64 0, .int .u64 0], .int .i64 11]) (by simp [results, Tryz.results8, go_sem, d0, d1, d2]) rfl ⟨Or.inr ⟨by omega, Or.inr ⟨Hno.out, rfl⟩⟩, below_set3 hbw⟩
    · have hltz : ¬ (i : Int) < (s.size : Int) := by omega
      have hie : i = s.size := by omega
      subst hie
      rw [show s.data.toList.take s.size = s.data.toList from List.take_of_length_le (by simp)] at hsc
      have Hsc : Hid (s.data.toList.foldl sc2 (some (0, [], [], [])) = some (k, A, B, C)) := hsc
      clear hsc
      have hNum : ∀ (q : ByteArray) W, (q = ⟨A.toArray⟩ ∨ q = ⟨B.toArray⟩ ∨ q = ⟨C.toArray⟩) → Calls Tryz.prog 28 #[.string q] W fun e w' => e = .returned (.int .u64 ((nmv q : Nat) : Int)) ∧ w' = W := fun q W hq => by
        rcases hq with rfl | rfl | rfl
        · exact number_any' _ W dA (by show A.toArray.size ≤ _; rw [List.size_toArray]; omega)
        · exact number_any' _ W dB (by show B.toArray.size ≤ _; rw [List.size_toArray]; omega)
        · exact number_any' _ W dC (by show C.toArray.size ≤ _; rw [List.size_toArray]; omega)
      have hNA : nmv ⟨A.toArray⟩ = dnum A % 18446744073709551616 := rfl
      have hNB : nmv ⟨B.toArray⟩ = dnum B % 18446744073709551616 := rfl
      have hNC : nmv ⟨C.toArray⟩ = dnum C % 18446744073709551616 := rfl
      have HN : Hid (∀ u v x : Nat, IsPText s.data.toList n u v x → nmv ⟨A.toArray⟩ = u ∧ nmv ⟨B.toArray⟩ = v ∧ nmv ⟨C.toArray⟩ = x) := fun u v x ht => by
        obtain ⟨k', A', B', C', e, e1, e2, e3⟩ := sc2_text h1 h3 ht
        rw [Hsc.out] at e
        cases e
        have := ht.hu; have := ht.hv; have := ht.hx
        rw [hNA, hNB, hNC, e1, e2, e3]
        exact ⟨Nat.mod_eq_of_lt (by omega), Nat.mod_eq_of_lt (by omega), Nat.mod_eq_of_lt (by omega)⟩
      have la : nmv ⟨A.toArray⟩ < 18446744073709551616 := Nat.mod_lt _ (by omega)
      have lb : nmv ⟨B.toArray⟩ < 18446744073709551616 := Nat.mod_lt _ (by omega)
      have lc : nmv ⟨C.toArray⟩ < 18446744073709551616 := Nat.mod_lt _ (by omega)
      clear hNA hNB hNC dA dB dC Hsc hlen
      generalize (⟨A.toArray⟩ : ByteArray) = pa at *
      generalize (⟨B.toArray⟩ : ByteArray) = pb at *
      generalize (⟨C.toArray⟩ : ByteArray) = pc at *
      have LZ : At3 wr w.heap.size (.int .u64 0) (.int .u64 0) (.int .u64 0) := ⟨by omega, d0, d1, d2⟩
      have S0 : w.heap.size + 1 < wr.heap.size ∧ wr.cell? ⟨w.heap.size + 1, 0, none⟩ = some (.string pa) ∧ wr.cell? ⟨w.heap.size + 1, 1, none⟩ = some (.string pb) ∧ wr.cell? ⟨w.heap.size + 1, 2, none⟩ = some (.string pc) := ⟨hz, c0, c1, c2⟩
      have drw : ∀ W : World, Below W.heap.size W W.drew := fun W => ((Gr.refl W).drew).below
      go_upto_region 14 with fail
      go_cut [9] (fun s9 w' => ∃ bx : Nat, s9 = .pointer (some ⟨bx, 0, none⟩) ∧ At3 w' bx (.int .u64 (nmv pa : Nat)) (.int .u64 (nmv pb : Nat)) (.int .u64 (nmv pc : Nat)) ∧ At3 w' w.heap.size (.int .u64 0) (.int .u64 0) (.int .u64 0) ∧ (∀ o, w'.frozen? ⟨w.heap.size, o, none⟩ = false) ∧ Below w.heap.size w w')
      case first => as_aux_lemma =>
        clear c0 c1 c2 d0 d1 d2
        go_region_held3 (fun w' => w.heap.size + 1 < w'.heap.size ∧ w'.cell? ⟨w.heap.size + 1, 0, none⟩ = some (.string pa) ∧ w'.cell? ⟨w.heap.size + 1, 1, none⟩ = some (.string pb) ∧ w'.cell? ⟨w.heap.size + 1, 2, none⟩ = some (.string pc))
          (first | exact S0 | exact str_keep S0 (drw _) | exact str_keep S0 (by repeat (first | exact Below.refl _ _ | exact below_gr (by repeat (first | exact Gr.refl _ | apply Gr.drew | apply Gr.alloc)) hb6 | refine below_drew1 ?_ | refine Below.alloc ?_ (by first | (simp; done) | (simp; omega) | omega) _ | refine Below.setCell ?_ (by first | (simp; done) | (simp; omega) | omega) _)))
          (first | (go_at_call 28; refine (hNum _ _ (by first | exact Or.inl rfl | exact Or.inr (Or.inl rfl) | exact Or.inr (Or.inr rfl))).mono ?_; rintro e w5 ⟨rfl, rfl⟩) | (go_at_call 27; refine (ppath_any _ _ _ _ _ _ (by first | exact At3.new _ _ _ _ _ | exact At3.new1 _ _ _ _ _ _ | exact At3.alloc (At3.new _ _ _ _ _) _ | exact At3.below ((Gr.refl _).drew).below (At3.new _ _ _ _ _) | exact At3.below ((Gr.refl _).drew).below (At3.new1 _ _ _ _ _ _) | exact At3.below ((Gr.refl _).drew).below (At3.alloc (At3.new _ _ _ _ _) _))).mono ?_; rintro e w6 ⟨rfl, hb6⟩; obtain ⟨hc6, hf6⟩ := below_cells hb6; have z6 : wr.heap.size < w6.heap.size := by { have := hb6.size; simp at this; omega }))
        all_goals go_wp2_with fail
        all_goals go_meet
        all_goals have B6 : Below wr.heap.size wr w6 := below_gr (by repeat (first | exact Gr.refl _ | apply Gr.drew | apply Gr.alloc)) hb6
        all_goals first | exact ⟨_, rfl, fin_alloc hbw B6 LZ f1 _ _ _ _⟩ | exact ⟨_, rfl, fin_store hbw B6 LZ f1 (At3.below hb6 (by first | exact At3.new _ _ _ _ _ | exact At3.new1 _ _ _ _ _ _ | exact At3.alloc (At3.new _ _ _ _ _) _ | exact At3.below ((Gr.refl _).drew).below (At3.new _ _ _ _ _) | exact At3.below ((Gr.refl _).drew).below (At3.new1 _ _ _ _ _ _) | exact At3.below ((Gr.refl _).drew).below (At3.alloc (At3.new _ _ _ _ _) _))) (by omega) _ _ _⟩
      clear c0 c1 c2 d0 d1 d2 f0 f1 hz hbw LZ S0 drw hNum
      obtain ⟨bx, rfl, LX, LZ, f1, hbw⟩ := hcut
      generalize nmv pa = na at *
      generalize nmv pb = nb at *
      generalize nmv pc = nc at *
      by_cases hf : tfits na nb nc n = 0
      · have hT := fun W => prefText_ok na nb nc n W la lb lc h1 h3 hf
        have hF := fits_zero' hf
        have HF : Hid (((n : Int) < 2 → nb = 0) ∧ ((n : Int) < 3 → nc = 0)) := hF
        have HL : Hid (na < 18446744073709551616 ∧ nb < 18446744073709551616 ∧ nc < 18446744073709551616) := ⟨la, lb, lc⟩
        clear hf hF la lb lc
        by_cases hq : ptext na nb nc n = s.data.toList
        · have HQ : Hid (ptext na nb nc n = s.data.toList) := hq
          rw [hq, show (⟨s.data.toList.toArray⟩ : ByteArray) = s by simp] at hT
          clear hq
          obtain ⟨lx, x0, x1, x2⟩ := id LX
          go_wp2_with fail
          refine (hT _).mono ?_
          rintro e w7 ⟨rfl, hb7⟩
          obtain ⟨ly, y0, y1, y2⟩ := At3.below hb7 LX
          obtain ⟨lz, d0, d1, d2⟩ := At3.below hb7 LZ
          have f2 : ∀ o, w7.frozen? ⟨w.heap.size, o, none⟩ = false := fun o => (hb7.frozen (p := ⟨w.heap.size, o, none⟩) LZ.lt).trans (f1 o)
          replace hbw := hbw.trans (hb7.mono hbw.size)
          clear hb7 hT x0 x1 x2 lx f1 LX LZ
          go_wp2
          exact bodyPost_ret (v := .tuple #[.agg #[.int .u64 na, .int .u64 nb, .int .u64 nc], .int .i64 0]) (by simp [results, Tryz.results8, go_sem, d0, d1, d2]) rfl ⟨Or.inr ⟨by omega, Or.inl ⟨na, nb, nc, ⟨HL.out.1, HL.out.2.1, HL.out.2.2, HF.out.1, HF.out.2, HQ.out.symm⟩, rfl⟩⟩, below_set3 hbw⟩
        · have Hno : Hid (∀ u v x : Nat, ¬ IsPText s.data.toList n u v x) := fun u v x ht => by
            obtain ⟨rfl, rfl, rfl⟩ := HN.out u v x ht
            exact hq ht.ht.symm
          obtain ⟨q, hqe⟩ : ∃ q : ByteArray, q = ⟨(ptext na nb nc n).toArray⟩ := ⟨_, rfl⟩
          have hbeq : (q.toList == s.toList) = false := (Lib.bytes_beq_false_iff _ _).2 (fun e => hq (by rw [← e, hqe]))
          rw [← hqe] at hT
          clear hq hqe
          obtain ⟨lx, x0, x1, x2⟩ := id LX
          go_wp2_with fail
          refine (hT _).mono ?_
          rintro e w7 ⟨rfl, hb7⟩
          obtain ⟨lz, d0, d1, d2⟩ := At3.below hb7 LZ
          have f2 : ∀ o, w7.frozen? ⟨w.heap.size, o, none⟩ = false := fun o => (hb7.frozen (p := ⟨w.heap.size, o, none⟩) LZ.lt).trans (f1 o)
          replace hbw := hbw.trans (hb7.mono hbw.size)
          clear hb7 hT x0 x1 x2 lx f1 LX LZ
          go_wp2
          refine bodyPost_ret (v := .tuple #[.agg #[.int .u64 0, .int .u64 0, .int .u64 0], .int .i64 11]) (by simp [results, Tryz.results8, go_sem, d0, d1, d2]) rfl ⟨Or.inr ⟨by omega, Or.inr ⟨Hno.out, rfl⟩⟩, below_set3 hbw⟩
      · have hf10 : tfits na nb nc n = 10 := by
          rcases fits_two2 na nb nc n with h | h
          · exact absurd h hf
          · exact h
        have Hno : Hid (∀ u v x : Nat, ¬ IsPText s.data.toList n u v x) := fun u v x ht => by
          obtain ⟨rfl, rfl, rfl⟩ := HN.out u v x ht
          exact hf (fits_of2 h1 h3 ht.h2 ht.h3)
        have hT := fun W => prefText_bad na nb nc n W hf10
        clear hf hf10
        obtain ⟨lx, x0, x1, x2⟩ := id LX
        go_wp2_with fail
        refine (hT _).mono ?_
        rintro e w7 ⟨rfl, hb7⟩
        obtain ⟨lz, d0, d1, d2⟩ := At3.below hb7 LZ
        have f2 : ∀ o, w7.frozen? ⟨w.heap.size, o, none⟩ = false := fun o => (hb7.frozen (p := ⟨w.heap.size, o, none⟩) LZ.lt).trans (f1 o)
        replace hbw := hbw.trans (hb7.mono hbw.size)
        clear hb7 hT x0 x1 x2 lx f1 LX LZ
        go_wp2
        refine bodyPost_ret (v := .tuple #[.agg #[.int .u64 0, .int .u64 0, .int .u64 0], .int .i64 11]) (by simp [results, Tryz.results8, go_sem, d0, d1, d2]) rfl ⟨Or.inr ⟨by omega, Or.inr ⟨Hno.out, rfl⟩⟩, below_set3 hbw⟩

theorem prefParse_any (s : ByteArray) (n : Int) (w : World) (hs : s.size ≤ 140737488355328) :
    Calls Tryz.prog 8 #[.string s, .int .i64 n] w fun e w' => PParseEnd s.data.toList n e ∧ Below w.heap.size w w' := by
  by_cases hb : n < 1 ∨ 3 < n
  · exact (prefParse_bad s n w hb).mono fun e w' ⟨h1, h2⟩ => ⟨Or.inl ⟨hb, h1⟩, h2⟩
  · obtain ⟨m, rfl⟩ : ∃ m : Nat, n = m := ⟨n.toNat, by omega⟩
    exact prefParse_ok s m w hs (by omega) (by omega)

end Go.Proofs.YtknejahmjfgmhabGreatDoor
