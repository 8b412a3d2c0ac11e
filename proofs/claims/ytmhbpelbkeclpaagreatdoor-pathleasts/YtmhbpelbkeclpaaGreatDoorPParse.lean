import Derived.Test.YtmhbpelbkeclpaaGreatDoorPText
import Derived.Test.YtmhbpelbkeclpaaGreatDoorParseAll
namespace Go.Proofs.YtmhbpelbkeclpaaGreatDoor
open Go.RowKit Go.Shelf Go.Lib
open Go.Sort hiding Below

theorem trim_le (l p : List UInt8) : (Lib.trimPrefix l p).length ≤ l.length := by
  unfold Lib.trimPrefix; split <;> simp
theorem inner_le (l : List UInt8) : (inner l).length ≤ l.length := by rw [inner, swp_len]; exact trim_le _ _
theorem fits_of {n : Nat} {u v x : Nat} (h1 : 1 ≤ n) (h3 : n ≤ 3) (h2 : (n : Int) < 2 → v = 0) (h4 : (n : Int) < 3 → x = 0) : tfits u v x n = 0 := by
  unfold tfits
  rw [if_neg (by omega), if_pos ⟨fun h => by rw [h2 h]; rfl, fun h => by rw [h4 h]; rfl⟩]

theorem pend_bad {s : ByteArray} {n : Int} (h : n < 1 ∨ 3 < n) : PParseEnd s.data.toList n (.returned (.tuple #[.agg #[.int .u64 0, .int .u64 0, .int .u64 0], .int .i64 10])) := Or.inl ⟨h, rfl⟩
theorem pend_err {s : ByteArray} {n : Int} (h : 1 ≤ n ∧ n ≤ 3) (hno : ∀ u v x : Nat, ¬ IsText (inner s.data.toList) n u v x) : PParseEnd s.data.toList n (.returned (.tuple #[.agg #[.int .u64 0, .int .u64 0, .int .u64 0], .int .i64 11])) :=
  Or.inr ⟨h, Or.inr ⟨fun u v x ht => hno u v x (isText_inner ht), rfl⟩⟩
theorem pend_other {s : ByteArray} {n : Int} {u v x : Nat} (h : 1 ≤ n ∧ n ≤ 3) (ht : IsText (inner s.data.toList) n u v x) (hne : ptext u v x n ≠ s.data.toList) : PParseEnd s.data.toList n (.returned (.tuple #[.agg #[.int .u64 0, .int .u64 0, .int .u64 0], .int .i64 11])) := by
  obtain ⟨m, rfl⟩ : ∃ m : Nat, n = m := ⟨n.toNat, by omega⟩
  refine Or.inr ⟨h, Or.inr ⟨fun u' v' x' ht' => hne ?_, rfl⟩⟩
  obtain ⟨rfl, rfl, rfl⟩ := text_unique (l := ⟨(inner s.data.toList).toArray⟩) (n := m) (by omega) (by omega) ht (isText_inner ht')
  exact ht'.ht.symm
theorem pend_ok {s : ByteArray} {n : Int} {u v x : Nat} (h : 1 ≤ n ∧ n ≤ 3) (ht : IsText (inner s.data.toList) n u v x) (he : ptext u v x n = s.data.toList) : PParseEnd s.data.toList n (.returned (.tuple #[.agg #[.int .u64 u, .int .u64 v, .int .u64 x], .int .i64 0])) :=
  Or.inr ⟨h, Or.inl ⟨u, v, x, ⟨ht.hu, ht.hv, ht.hx, ht.h2, ht.h3, he.symm⟩, rfl⟩⟩

set_option maxHeartbeats 4000000 in
set_option maxRecDepth 100000 in
theorem PParse_any (s : ByteArray) (n : Int) (w : World) (he : Env w) (hs : s.size ≤ 140737488355328) :
    Calls Tryz.prog 37 #[.string s, .int .i64 n] w fun e w' => PParseEnd s.data.toList n e ∧ Below w.heap.size w w' := by
  have hTr := fun W => TrimPrefix_any s ⟨#[43]⟩ W
  have hle : (⟨(Lib.trimPrefix s.data.toList [43]).toArray⟩ : ByteArray).size ≤ 140737488355328 := by
    have := trim_le s.data.toList [43]
    have e : s.data.toList.length = s.size := by simp
    show (Lib.trimPrefix s.data.toList [43]).toArray.size ≤ _
    rw [List.size_toArray]; omega
  have hin : (⟨(inner s.data.toList).toArray⟩ : ByteArray).size ≤ 281474976710656 := by
    have := inner_le s.data.toList
    have e : s.data.toList.length = s.size := by simp
    show (inner s.data.toList).toArray.size ≤ _
    rw [List.size_toArray]; omega
  have hR := fun W => ReplaceAll_one ⟨(Lib.trimPrefix s.data.toList [43]).toArray⟩ 44 46 W hle (by decide)
  have hR : ∀ W, Calls Tryz.prog 59 #[.string ⟨(Lib.trimPrefix s.data.toList [43]).toArray⟩, .string ⟨#[44]⟩, .string ⟨#[46]⟩] W fun e w' => e = .returned (.string ⟨(inner s.data.toList).toArray⟩) ∧ Below W.heap.size W w' := hR
  have hP := fun W hW => Parse_any ⟨(inner s.data.toList).toArray⟩ n W hW hin
  have HI : Hid (s.size ≤ 140737488355328) := hs
  clear hle hin hs
  go_enter Tryz.func37, Tryz.ntmps37
  go_wp2_with fail
  refine (hTr _).mono ?_
  rintro e w1 ⟨rfl, hw1⟩
  rw [hw1]
  clear hw1 w1
  go_wp2_with fail
  refine (hR _).mono ?_
  rintro e w2 ⟨rfl, hb2⟩
  have B2 : Below w.heap.size w w2 := ((Gr.refl w).alloc _).below.trans (hb2.mono (by simp))
  have z2 : w.heap.size < w2.heap.size := by have := hb2.size; simp at this; omega
  obtain ⟨hc2, hf2⟩ := below_cells hb2
  have r0 : w2.cell? ⟨w.heap.size, 0, none⟩ = some (.int .u64 0) := by rw [hc2 _ _ (by simp)]; go_simp
  have r1 : w2.cell? ⟨w.heap.size, 1, none⟩ = some (.int .u64 0) := by rw [hc2 _ _ (by simp)]; go_simp
  have r2 : w2.cell? ⟨w.heap.size, 2, none⟩ = some (.int .u64 0) := by rw [hc2 _ _ (by simp)]; go_simp
  have f0 : w2.frozen? ⟨w.heap.size, 0, none⟩ = false := by rw [hf2 _ _ (by simp)]; go_simp
  have f1 : w2.frozen? ⟨w.heap.size, 1, none⟩ = false := by rw [hf2 _ _ (by simp)]; go_simp
  have f2 : w2.frozen? ⟨w.heap.size, 2, none⟩ = false := by rw [hf2 _ _ (by simp)]; go_simp
  clear hTr hR hb2 hc2 hf2
  go_wp2_with fail
  refine (hP _ (he.below B2)).mono ?_
  rintro e w3 ⟨hpe, hb3⟩
  have B3 : Below w.heap.size w w3 := B2.trans (hb3.mono B2.size)
  have z3 : w.heap.size < w3.heap.size := by have := hb3.size; omega
  replace r0 := (hb3.cell (p := ⟨w.heap.size, 0, none⟩) z2).trans r0
  replace r1 := (hb3.cell (p := ⟨w.heap.size, 1, none⟩) z2).trans r1
  replace r2 := (hb3.cell (p := ⟨w.heap.size, 2, none⟩) z2).trans r2
  replace f0 := (hb3.frozen (p := ⟨w.heap.size, 0, none⟩) z2).trans f0
  replace f1 := (hb3.frozen (p := ⟨w.heap.size, 1, none⟩) z2).trans f1
  replace f2 := (hb3.frozen (p := ⟨w.heap.size, 2, none⟩) z2).trans f2
  clear hP hb3 z2 B2
  have hend : ∀ (W : World) (a b c : Value), Below w.heap.size w W → Below w.heap.size w (((W.setCell ⟨w.heap.size, 0, none⟩ a).setCell ⟨w.heap.size, 1, none⟩ b).setCell ⟨w.heap.size, 2, none⟩ c) := fun W a b c h =>
    ((h.setCell (p := ⟨w.heap.size, 0, none⟩) (Nat.le_refl _) a).setCell (p := ⟨w.heap.size, 1, none⟩) (Nat.le_refl _) b).setCell (p := ⟨w.heap.size, 2, none⟩) (Nat.le_refl _) c
  have HEnd : Hid (∀ (W : World) (a b c : Value), Below w.heap.size w W → Below w.heap.size w (((W.setCell ⟨w.heap.size, 0, none⟩ a).setCell ⟨w.heap.size, 1, none⟩ b).setCell ⟨w.heap.size, 2, none⟩ c)) := hend
  clear hend
  rcases hpe with ⟨hn, rfl⟩ | ⟨hn, ⟨u, v, x, ht, rfl⟩ | ⟨hno, rfl⟩⟩
  · have HN : Hid (n < 1 ∨ 3 < n) := hn
    clear hn
    go_wp2
    exact bodyPost_ret (v := .tuple #[.agg #[.int .u64 0, .int .u64 0, .int .u64 0], .int .i64 10]) (by simp [results, Tryz.results37, go_sem, *]) rfl ⟨pend_bad HN.out, (HEnd.out _ _ _ _ B3).alloc (HEnd.out _ _ _ _ B3).size _⟩
  · obtain ⟨m, rfl⟩ : ∃ m : Nat, n = m := ⟨n.toNat, by omega⟩
    have hT := fun W hW => PText_ok u v x m W hW ht.hu ht.hv ht.hx (by omega) (by omega) (fits_of (by omega) (by omega) ht.h2 ht.h3)
    have HT : Hid (IsText (inner s.data.toList) (m : Int) u v x) := ht
    have HN : Hid (1 ≤ (m : Int) ∧ (m : Int) ≤ 3) := hn
    clear ht hn
    have B3' := (B3.alloc B3.size (.cells #[.int .u64 u, .int .u64 v, .int .u64 x] 25)).alloc (by have := B3.size; simp; omega) (.cells #[.int .u64 u, .int .u64 v, .int .u64 x] 34)
    have hcl : ∀ W' : World, Below (w3.heap.size + 2) ((w3.alloc (.cells #[.int .u64 u, .int .u64 v, .int .u64 x] 25)).alloc (.cells #[.int .u64 u, .int .u64 v, .int .u64 x] 34)) W' →
        W'.cell? ⟨w.heap.size, 0, none⟩ = some (.int .u64 0) ∧ W'.cell? ⟨w.heap.size, 1, none⟩ = some (.int .u64 0) ∧ W'.cell? ⟨w.heap.size, 2, none⟩ = some (.int .u64 0) ∧ W'.frozen? ⟨w.heap.size, 0, none⟩ = false ∧ W'.frozen? ⟨w.heap.size, 1, none⟩ = false ∧ W'.frozen? ⟨w.heap.size, 2, none⟩ = false ∧
        W'.cell? ⟨w3.heap.size + 1, 0, none⟩ = some (.int .u64 u) ∧ W'.cell? ⟨w3.heap.size + 1, 1, none⟩ = some (.int .u64 v) ∧ W'.cell? ⟨w3.heap.size + 1, 2, none⟩ = some (.int .u64 x) := fun W' hb => by
      have hc : ∀ b o, b < w3.heap.size + 2 → W'.cell? ⟨b, o, none⟩ = _ := fun b o h => hb.cell (p := ⟨b, o, none⟩) h
      have hf : ∀ b o, b < w3.heap.size + 2 → W'.frozen? ⟨b, o, none⟩ = _ := fun b o h => hb.frozen (p := ⟨b, o, none⟩) h
      rw [hc _ 0 (by omega), hc _ 1 (by omega), hc _ 2 (by omega), hf _ 0 (by omega), hf _ 1 (by omega), hf _ 2 (by omega), hc _ 0 (by omega), hc _ 1 (by omega), hc _ 2 (by omega)]
      go_simp
    have HCl : Hid (∀ W' : World, Below (w3.heap.size + 2) ((w3.alloc (.cells #[.int .u64 u, .int .u64 v, .int .u64 x] 25)).alloc (.cells #[.int .u64 u, .int .u64 v, .int .u64 x] 34)) W' →
        W'.cell? ⟨w.heap.size, 0, none⟩ = some (.int .u64 0) ∧ W'.cell? ⟨w.heap.size, 1, none⟩ = some (.int .u64 0) ∧ W'.cell? ⟨w.heap.size, 2, none⟩ = some (.int .u64 0) ∧ W'.frozen? ⟨w.heap.size, 0, none⟩ = false ∧ W'.frozen? ⟨w.heap.size, 1, none⟩ = false ∧ W'.frozen? ⟨w.heap.size, 2, none⟩ = false ∧
        W'.cell? ⟨w3.heap.size + 1, 0, none⟩ = some (.int .u64 u) ∧ W'.cell? ⟨w3.heap.size + 1, 1, none⟩ = some (.int .u64 v) ∧ W'.cell? ⟨w3.heap.size + 1, 2, none⟩ = some (.int .u64 x)) := hcl
    clear hcl r0 r1 r2 f0 f1 f2
    have hT4 := hT _ (he.below B3')
    clear hT
    by_cases hq : ptext u v x m = s.data.toList
    · have HQ : Hid (ptext u v x m = s.data.toList) := hq
      rw [hq, show (⟨s.data.toList.toArray⟩ : ByteArray) = s by simp] at hT4
      clear hq
      go_wp2_with fail
      refine hT4.mono ?_
      rintro e w4 ⟨rfl, hb4⟩
      replace hb4 := hb4.mono (show w3.heap.size + 2 ≤ _ by simp)
      obtain ⟨r0, r1, r2, f0, f1, f2, p0, p1, p2⟩ := HCl.out w4 hb4
      have z4 : w3.heap.size + 2 ≤ w4.heap.size := by have := hb4.size; simpa using this
      have B4 : Below w.heap.size w w4 := B3'.trans (hb4.mono (by omega))
      clear hT4 hb4
      go_wp2
      exact bodyPost_ret (v := .tuple #[.agg #[.int .u64 u, .int .u64 v, .int .u64 x], .int .i64 0]) (by simp [results, Tryz.results37, go_sem, *]) rfl ⟨pend_ok HN.out HT.out HQ.out, HEnd.out _ _ _ _ B4⟩
    · have HQ : Hid (ptext u v x m ≠ s.data.toList) := hq
      obtain ⟨q, hqe⟩ : ∃ q : ByteArray, q = ⟨(ptext u v x m).toArray⟩ := ⟨_, rfl⟩
      have hbeq : (q.toList == s.toList) = false := (Lib.bytes_beq_false_iff _ _).2 (fun e => hq (by rw [← e, hqe]))
      rw [← hqe] at hT4
      clear hq hqe
      go_wp2_with fail
      refine hT4.mono ?_
      rintro e w4 ⟨rfl, hb4⟩
      replace hb4 := hb4.mono (show w3.heap.size + 2 ≤ _ by simp)
      obtain ⟨r0, r1, r2, f0, f1, f2, p0, p1, p2⟩ := HCl.out w4 hb4
      have z4 : w3.heap.size + 2 ≤ w4.heap.size := by have := hb4.size; simpa using this
      have B4 : Below w.heap.size w w4 := B3'.trans (hb4.mono (by omega))
      clear hT4 hb4
      go_wp2
      exact bodyPost_ret (v := .tuple #[.agg #[.int .u64 0, .int .u64 0, .int .u64 0], .int .i64 11]) (by simp [results, Tryz.results37, go_sem, *]) rfl ⟨pend_other HN.out HT.out HQ.out, HEnd.out _ _ _ _ B4⟩
  · have HN : Hid (∀ u v x : Nat, ¬ IsText (inner s.data.toList) n u v x) := hno
    clear hno
    go_wp2
    exact bodyPost_ret (v := .tuple #[.agg #[.int .u64 0, .int .u64 0, .int .u64 0], .int .i64 11]) (by simp [results, Tryz.results37, go_sem, *]) rfl ⟨pend_err hn HN.out, (HEnd.out _ _ _ _ B3).alloc (HEnd.out _ _ _ _ B3).size _⟩
end Go.Proofs.YtmhbpelbkeclpaaGreatDoor
