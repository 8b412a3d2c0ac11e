import Derived.Test.YtpnjpdnjapfjlaaCoMap2
namespace Go.Proofs.Ytpnjpdnjapfjlaa.Cd
open Go.RowKit Go.Sort
attribute [local go_sem ↓] Go.wp_at_zero Go.wp_at_succ

set_option maxHeartbeats 4000000 in
set_option maxRecDepth 100000 in
theorem rcheck2_any {v : Value} {l : List Op2} (w : World) (hv : Ls EO w v l) : Calls Try.prog 13 #[.int .i64 2, v] w fun e w' => e = .returned (.int .i64 (chk 2 l)) ∧ Below w.heap.size w w' := by
  obtain ⟨p, c, rfl⟩ := hv.form
  by_cases hl : 16 < l.length
  · rw [show chk 2 l = 2 by unfold chk; rw [if_neg (by decide), if_pos hl]]
    have hz : (16 : Int) < (l.length : Int) := by omega
    clear hv hl
    go_enter Try.func13, Try.ntmps13
    go_wp2_with fail
    go_ret
    exact ⟨rfl, (Gr.refl w).below⟩
  have hz : ¬ (16 : Int) < (l.length : Int) := by omega
  obtain ⟨q, hq⟩ : ∃ q, q = chk 2 l := ⟨_, rfl⟩
  rw [← hq]
  have HQ : Hid (q = if l.any (fun o => !mayM o) then 24 else 0) := by
    show _ = _
    rw [hq]; unfold chk; rw [if_neg (by decide), if_neg hl]; rfl
  obtain ⟨n, hn⟩ : ∃ n, n = l.length := ⟨_, rfl⟩
  rw [← hn] at hv hz ⊢
  have hnn : n ≤ 16 := by omega
  have HV := hid hv
  have HN := hid hn
  clear hv hn hq hl
  go_enter Try.func13, Try.ntmps13
  go_wp2_with fail
  go_loopw [6, 7, 8, 20] (fun s6 s7 s8 s20 wr => ∃ i : Nat, i ≤ n ∧ s20 = .int .i64 (i : Nat) ∧ Hid (Below w.heap.size w wr ∧ ∀ j o, j < i → l[j]? = some o → mayM o = true)) (fun _ _ _ s20 _ => n - (RowKit.intOf s20).toNat)
  case atStart => exact ⟨0, Nat.zero_le _, rfl, (Gr.refl w).below, fun j _ hj => absurd hj (Nat.not_lt_zero _)⟩
  case round =>
    obtain ⟨i, hi, rfl, HI⟩ := hrel
    by_cases hlt : i < n
    · have hltz : (i : Int) < (n : Int) := by omega
      obtain ⟨o, ho⟩ : ∃ o, l[i]? = some o := ⟨l[i]'(by have := HN.out; omega), by simp⟩
      obtain ⟨ob, oo, oc, e1, z1, x1, x2⟩ := ls_at (HV.out.below HI.out.1) ho
      simp only [Value.slice.injEq] at e1
      obtain ⟨rfl, -, rfl⟩ := e1
      have HO := hid ho
      clear ho
      have HB : Hid (Below w.heap.size w (wr.alloc (.cells #[.int .i64 o.kind, .int .u64 o.arg] 46))) := HI.out.1.trans (((Gr.refl wr).alloc _).below.mono HI.out.1.size)
      have HT : Hid (mayM o = true → ∀ j u, j < i + 1 → l[j]? = some u → mayM u = true) := fun hm j u hj hu => by
        by_cases e : j = i
        · subst e
          rw [HO.out] at hu
          cases hu; exact hm
        · exact HI.out.2 j u (by omega) hu
      have HF : Hid (mayM o = false → q = 24) := fun hm => by
        rw [HQ.out, if_pos]
        exact List.any_eq_true.2 ⟨o, List.mem_of_getElem? HO.out, by rw [hm]; rfl⟩
      obtain ⟨y, a⟩ := o
      simp only at x1 x2 HB
      by_cases hk3 : y = 3
      · subst hk3
        by_cases ha : a = 0
        · have ea : (a == 0) = true := by simpa using ha
          have eb : (a != 0) = false := by simpa using ha
          have hm : mayM ⟨3, a⟩ = false := by unfold mayM; simp [ha]
          clear ha
          have hq := HF.out hm
          subst hq
          go_wp2_with fail
          go_ret
          exact ⟨rfl, HB.out⟩
        · have ea : (a == 0) = false := by simpa using ha
          have eb : (a != 0) = true := by simpa using ha
          have hm : mayM ⟨3, a⟩ = true := by unfold mayM; simp [ha]
          clear ha
          go_wp2_with fail
          refine ⟨⟨i + 1, by omega, by go_num, HB.out, HT.out hm⟩, by simp [RowKit.intOf]; omega⟩
      by_cases hk7 : y = 7
      · subst hk7
        by_cases ha : a = 0
        · have ea : (a == 0) = true := by simpa using ha
          have eb : (a != 0) = false := by simpa using ha
          have hm : mayM ⟨7, a⟩ = true := by unfold mayM; simp [ha]
          clear ha
          go_wp2_with fail
          refine ⟨⟨i + 1, by omega, by go_num, HB.out, HT.out hm⟩, by simp [RowKit.intOf]; omega⟩
        · have ea : (a == 0) = false := by simpa using ha
          have eb : (a != 0) = true := by simpa using ha
          have hm : mayM ⟨7, a⟩ = false := by unfold mayM; simp [ha]
          clear ha
          have hq := HF.out hm
          subst hq
          go_wp2_with fail
          go_ret
          exact ⟨rfl, HB.out⟩
      by_cases hk8 : y = 8
      · subst hk8
        by_cases ha : a = 0
        · have ea : (a == 0) = true := by simpa using ha
          have eb : (a != 0) = false := by simpa using ha
          have hm : mayM ⟨8, a⟩ = true := by unfold mayM; simp [ha]
          clear ha
          go_wp2_with fail
          refine ⟨⟨i + 1, by omega, by go_num, HB.out, HT.out hm⟩, by simp [RowKit.intOf]; omega⟩
        · have ea : (a == 0) = false := by simpa using ha
          have eb : (a != 0) = true := by simpa using ha
          have hm : mayM ⟨8, a⟩ = false := by unfold mayM; simp [ha]
          clear ha
          have hq := HF.out hm
          subst hq
          go_wp2_with fail
          go_ret
          exact ⟨rfl, HB.out⟩
      have hk28 : True := trivial
      by_cases hlo : y < 1
      · have hm : mayM ⟨y, a⟩ = false := by unfold mayM; rw [if_neg (by show ¬ y = 3; omega), if_neg (by show ¬ (y = 7 ∨ y = 8); omega)]; first | exact decide_eq_false (by show ¬ (1 ≤ y ∧ y ≤ 10); omega) | exact decide_eq_true (by show 1 ≤ y ∧ y ≤ 10; omega)
        have e1 : y < 1 := hlo
        have hq := HF.out hm
        subst hq
        go_wp2_with fail
        go_ret
        exact ⟨rfl, HB.out⟩
      by_cases hhi : 10 < y
      · have hm : mayM ⟨y, a⟩ = false := by unfold mayM; rw [if_neg (by show ¬ y = 3; omega), if_neg (by show ¬ (y = 7 ∨ y = 8); omega)]; first | exact decide_eq_false (by show ¬ (1 ≤ y ∧ y ≤ 10); omega) | exact decide_eq_true (by show 1 ≤ y ∧ y ≤ 10; omega)
        have hq := HF.out hm
        subst hq
        go_wp2_with fail
        go_ret
        exact ⟨rfl, HB.out⟩
      have e3 : (y == 3) = false := by simp; omega
      have e7 : (y == 7) = false := by simp; omega
      have e8 : (y == 8) = false := by simp; omega
      have e28 : (y == 28) = false := by simp; omega
      have hm : mayM ⟨y, a⟩ = true := by unfold mayM; rw [if_neg (by show ¬ y = 3; omega), if_neg (by show ¬ (y = 7 ∨ y = 8); omega)]; first | exact decide_eq_false (by show ¬ (1 ≤ y ∧ y ≤ 10); omega) | exact decide_eq_true (by show 1 ≤ y ∧ y ≤ 10; omega)
      go_wp2_with fail
      refine ⟨⟨i + 1, by omega, by go_num, HB.out, HT.out hm⟩, by simp [RowKit.intOf]; omega⟩
    · have hltz : ¬ (i : Int) < (n : Int) := by omega
      have hq : q = 0 := by
        rw [HQ.out, if_neg]
        intro h
        obtain ⟨o, ho, h1⟩ := List.any_eq_true.1 h
        obtain ⟨j, hj⟩ := List.mem_iff_getElem?.1 ho
        have hjl := (List.getElem?_eq_some_iff.1 hj).1
        have h2 := HI.out.2 j o (by have := HN.out; omega) hj
        simp [h2] at h1
      subst hq
      go_wp2_with fail
      go_ret
      exact ⟨rfl, HI.out.1⟩
set_option maxHeartbeats 4000000 in
set_option maxRecDepth 100000 in
theorem rcheck3_any {v : Value} {l : List Op2} (w : World) (hv : Ls EO w v l) : Calls Try.prog 13 #[.int .i64 3, v] w fun e w' => e = .returned (.int .i64 (chk 3 l)) ∧ Below w.heap.size w w' := by
  obtain ⟨p, c, rfl⟩ := hv.form
  by_cases hl : 16 < l.length
  · rw [show chk 3 l = 2 by unfold chk; rw [if_neg (by decide), if_pos hl]]
    have hz : (16 : Int) < (l.length : Int) := by omega
    clear hv hl
    go_enter Try.func13, Try.ntmps13
    go_wp2_with fail
    go_ret
    exact ⟨rfl, (Gr.refl w).below⟩
  have hz : ¬ (16 : Int) < (l.length : Int) := by omega
  obtain ⟨q, hq⟩ : ∃ q, q = chk 3 l := ⟨_, rfl⟩
  rw [← hq]
  have HQ : Hid (q = if l.any (fun o => !mayF o) then 24 else 0) := by
    show _ = _
    rw [hq]; unfold chk; rw [if_neg (by decide), if_neg hl]; rfl
  obtain ⟨n, hn⟩ : ∃ n, n = l.length := ⟨_, rfl⟩
  rw [← hn] at hv hz ⊢
  have hnn : n ≤ 16 := by omega
  have HV := hid hv
  have HN := hid hn
  clear hv hn hq hl
  go_enter Try.func13, Try.ntmps13
  go_wp2_with fail
  go_loopw [6, 7, 8, 20] (fun s6 s7 s8 s20 wr => ∃ i : Nat, i ≤ n ∧ s20 = .int .i64 (i : Nat) ∧ Hid (Below w.heap.size w wr ∧ ∀ j o, j < i → l[j]? = some o → mayF o = true)) (fun _ _ _ s20 _ => n - (RowKit.intOf s20).toNat)
  case atStart => exact ⟨0, Nat.zero_le _, rfl, (Gr.refl w).below, fun j _ hj => absurd hj (Nat.not_lt_zero _)⟩
  case round =>
    obtain ⟨i, hi, rfl, HI⟩ := hrel
    by_cases hlt : i < n
    · have hltz : (i : Int) < (n : Int) := by omega
      obtain ⟨o, ho⟩ : ∃ o, l[i]? = some o := ⟨l[i]'(by have := HN.out; omega), by simp⟩
      obtain ⟨ob, oo, oc, e1, z1, x1, x2⟩ := ls_at (HV.out.below HI.out.1) ho
      simp only [Value.slice.injEq] at e1
      obtain ⟨rfl, -, rfl⟩ := e1
      have HO := hid ho
      clear ho
      have HB : Hid (Below w.heap.size w (wr.alloc (.cells #[.int .i64 o.kind, .int .u64 o.arg] 46))) := HI.out.1.trans (((Gr.refl wr).alloc _).below.mono HI.out.1.size)
      have HT : Hid (mayF o = true → ∀ j u, j < i + 1 → l[j]? = some u → mayF u = true) := fun hm j u hj hu => by
        by_cases e : j = i
        · subst e
          rw [HO.out] at hu
          cases hu; exact hm
        · exact HI.out.2 j u (by omega) hu
      have HF : Hid (mayF o = false → q = 24) := fun hm => by
        rw [HQ.out, if_pos]
        exact List.any_eq_true.2 ⟨o, List.mem_of_getElem? HO.out, by rw [hm]; rfl⟩
      obtain ⟨y, a⟩ := o
      simp only at x1 x2 HB
      by_cases hk28 : y = 28
      · subst hk28
        by_cases ha : a = 0
        · have ea : (a == 0) = true := by simpa using ha
          have eb : (a != 0) = false := by simpa using ha
          have hm : mayF ⟨28, a⟩ = true := by unfold mayF; simp [ha]
          clear ha
          go_wp2_with fail
          refine ⟨⟨i + 1, by omega, by go_num, HB.out, HT.out hm⟩, by simp [RowKit.intOf]; omega⟩
        · have ea : (a == 0) = false := by simpa using ha
          have eb : (a != 0) = true := by simpa using ha
          have hm : mayF ⟨28, a⟩ = false := by unfold mayF; simp [ha]
          clear ha
          have hq := HF.out hm
          subst hq
          go_wp2_with fail
          go_ret
          exact ⟨rfl, HB.out⟩
      have hk3 : True := trivial
      have hk7 : True := trivial
      have hk8 : True := trivial
      by_cases hlo : y < 21
      · have hm : mayF ⟨y, a⟩ = false := by unfold mayF; rw [if_neg (by show ¬ y = 28; omega)]; first | exact decide_eq_false (by show ¬ (21 ≤ y ∧ y < 28); omega) | exact decide_eq_true (by show 21 ≤ y ∧ y < 28; omega)
        have e1 : y < 21 := hlo
        have hq := HF.out hm
        subst hq
        go_wp2_with fail
        go_ret
        exact ⟨rfl, HB.out⟩
      by_cases hhi : 28 < y
      · have hm : mayF ⟨y, a⟩ = false := by unfold mayF; rw [if_neg (by show ¬ y = 28; omega)]; first | exact decide_eq_false (by show ¬ (21 ≤ y ∧ y < 28); omega) | exact decide_eq_true (by show 21 ≤ y ∧ y < 28; omega)
        have hq := HF.out hm
        subst hq
        go_wp2_with fail
        go_ret
        exact ⟨rfl, HB.out⟩
      have e3 : (y == 3) = false := by simp; omega
      have e7 : (y == 7) = false := by simp; omega
      have e8 : (y == 8) = false := by simp; omega
      have e28 : (y == 28) = false := by simp; omega
      have hm : mayF ⟨y, a⟩ = true := by unfold mayF; rw [if_neg (by show ¬ y = 28; omega)]; first | exact decide_eq_false (by show ¬ (21 ≤ y ∧ y < 28); omega) | exact decide_eq_true (by show 21 ≤ y ∧ y < 28; omega)
      go_wp2_with fail
      refine ⟨⟨i + 1, by omega, by go_num, HB.out, HT.out hm⟩, by simp [RowKit.intOf]; omega⟩
    · have hltz : ¬ (i : Int) < (n : Int) := by omega
      have hq : q = 0 := by
        rw [HQ.out, if_neg]
        intro h
        obtain ⟨o, ho, h1⟩ := List.any_eq_true.1 h
        obtain ⟨j, hj⟩ := List.mem_iff_getElem?.1 ho
        have hjl := (List.getElem?_eq_some_iff.1 hj).1
        have h2 := HI.out.2 j o (by have := HN.out; omega) hj
        simp [h2] at h1
      subst hq
      go_wp2_with fail
      go_ret
      exact ⟨rfl, HI.out.1⟩
theorem rcheckN_any {k : Int} (hk : k ≠ 2 ∧ k ≠ 3) {v : Value} {l : List Op2} (w : World) (hv : Ls EO w v l) : Calls Try.prog 13 #[.int .i64 k, v] w fun e w' => e = .returned (.int .i64 (chk k l)) ∧ Below w.heap.size w w' := by
  obtain ⟨p, c, rfl⟩ := hv.form
  rw [show chk k l = 20 by unfold chk; rw [if_pos hk]]
  have e2 : (k == 2) = false := by simpa using hk.1
  have e3 : (k == 3) = false := by simpa using hk.2
  have n2 : (k != 2) = true := by simpa using hk.1
  have n3 : (k != 3) = true := by simpa using hk.2
  clear hv hk
  go_enter Try.func13, Try.ntmps13
  go_wp2_with fail
  go_ret
  exact ⟨rfl, (Gr.refl w).below⟩
theorem rcheck_any (k : Int) {v : Value} {l : List Op2} (w : World) (hv : Ls EO w v l) : Calls Try.prog 13 #[.int .i64 k, v] w fun e w' => e = .returned (.int .i64 (chk k l)) ∧ Below w.heap.size w w' := by
  by_cases hk : k ≠ 2 ∧ k ≠ 3
  · exact rcheckN_any hk w hv
  by_cases h2 : k = 2
  · subst h2; exact rcheck2_any w hv
  have h3 : k = 3 := by omega
  subst h3
  exact rcheck3_any w hv
end Go.Proofs.Ytpnjpdnjapfjlaa.Cd
