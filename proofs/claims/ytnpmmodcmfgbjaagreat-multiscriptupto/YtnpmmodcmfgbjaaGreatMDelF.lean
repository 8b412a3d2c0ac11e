import Derived.Test.YtnpmmodcmfgbjaaGreatMGone
import Derived.Test.YtnpmmodcmfgbjaaGreatLClear
namespace Go.Proofs.YtnpmmodcmfgbjaaGreat
open Go.RowKit Go.Sort Go.Maps
open Tt (Tl byd byd_f byd_t)
attribute [local go_sem ↓] Go.wp_at_zero Go.wp_at_succ

theorem zeroT (w : World) : (zeroValue 37).run Tryz.prog w = .ok (.agg #[.int .u64 0, .int .u64 0, .int .u64 0]) w := by kernel_rfl
theorem filter_take_succ {α : Type} {p : α → Bool} {l : List α} {j : Nat} {y : α} (h : l[j]? = some y) : (l.take (j + 1)).filter p = (l.take j).filter p ++ (if p y then [y] else []) := by
  rw [List.take_add_one, h, List.filter_append]
  cases hp : p y <;> simp [hp]
theorem filter_findIdx {α : Type} {p : α → Bool} {l : List α} {i : Nat} {y : α} (hi : l.findIdx p = i) (hy : l[i]? = some y) : (l.take (i + 1)).filter (fun x => !p x) = l.take i := by
  have hlt : i < l.length := (List.getElem?_eq_some_iff.1 hy).1
  have hp : p y = true := by
    obtain ⟨h1, h2⟩ := List.getElem?_eq_some_iff.1 hy
    subst hi
    rw [← h2]
    exact List.findIdx_getElem (w := hlt)
  rw [filter_take_succ hy, hp]
  simp only [Bool.not_true, Bool.false_eq_true, if_false, List.append_nil]
  rw [List.filter_eq_self]
  intro a ha
  subst hi
  rw [findIdx_take_false (p := p) ha]; rfl

set_option maxHeartbeats 4000000 in
set_option maxRecDepth 100000 in
theorem deleteFunc_any {base : Nat} (g cap : Nat) (l : List Tm) (gf : Nat) (lb : Array Value) (p : Tm → Bool) (w : World) (ho : w.ownsRow base 37 3 (.slice (some ⟨g, 0, none⟩) l.length cap) l.length (flT l)) (hl : l.length * 24 ≤ 140737488355328) (eg : ∀ args w, (callFunc gf args).run Tryz.prog w = .ok (.enter gf args) w)
    (hp : ∀ (W : World) (x : Tm), Kp (fun k => k = g) w W → Calls Tryz.prog gf (#[tv x] ++ lb) W fun e w' => e = .returned (.bool (p x)) ∧ Gr W w') :
    Calls Tryz.prog 65 #[.slice (some ⟨g, 0, none⟩) l.length cap, .func (.func gf) #[] lb] w fun e w' => ∃ c', e = .returned (.slice (some ⟨g, 0, none⟩) (l.filter fun x => !p x).length c') ∧
      w'.ownsRow 0 37 3 (.slice (some ⟨g, 0, none⟩) (l.filter fun x => !p x).length c') (l.filter fun x => !p x).length (flT (l.filter fun x => !p x)) ∧ Kp (fun k => k = g) w w' := by
  have hix := Cn.indexFunc_any (.slice (some ⟨g, 0, none⟩) l.length cap) l gf lb p w (owns_lst ho) (by unfold maxLen; omega) eg (fun W x hg => hp W x (Kp.of_gr hg))
  have HP : Hid (∀ (W : World) (x : Tm), Kp (fun k => k = g) w W → Calls Tryz.prog gf (#[tv x] ++ lb) W fun e w' => e = .returned (.bool (p x)) ∧ Gr W w') := hp
  have HO : Hid (w.ownsRow 0 37 3 (.slice (some ⟨g, 0, none⟩) l.length cap) l.length (flT l)) := owns_base ho (Nat.zero_le _)
  obtain ⟨hc1, hc2⟩ := owns_cap ho
  unfold maxLen at hc2
  clear hp ho
  by_cases hi : l.findIdx p < l.length
  · have hv : Cn.idxv p l = ((l.findIdx p : Nat) : Int) := by unfold Cn.idxv; rw [if_pos hi]
    rw [hv] at hix
    obtain ⟨y0, hy0⟩ : ∃ y, l[l.findIdx p]? = some y := ⟨l[l.findIdx p], by simp⟩
    have HF := filter_findIdx (p := p) rfl hy0
    clear hv hy0
    generalize l.findIdx p = i at *
    have HF0 : Hid ((l.take (i + 1)).filter (fun x => !p x) = l.take i) := HF
    clear HF
    have hne : ¬ (i : Int) = -1 := by omega
    go_enter Tryz.func65, Tryz.ntmps65
    go_wp2_with fail
    refine hix.mono ?_
    rintro e w1 ⟨rfl, hg1⟩
    have HG1 : Hid (Gr w w1) := hg1
    have HO1 : Hid (w1.ownsRow 0 37 3 (.slice (some ⟨g, 0, none⟩) l.length cap) l.length (flT l)) := owns_below HO.out hg1.below
    clear hix hg1
    go_wp2_with fail
    go_loopw [5, 6, 7] (fun s5 s6 _ wr => ∃ (j q : Nat) (M : List Tm), j ≤ l.length ∧ s6 = .int .i64 j ∧ s5 = .int .i64 q ∧ q < j ∧ Hid (wr.ownsRow 0 37 3 (.slice (some ⟨g, 0, none⟩) l.length cap) l.length (flT M) ∧ M.length = l.length ∧ M.take q = (l.take j).filter (fun x => !p x) ∧ M.drop j = l.drop j ∧ Kp (fun k => k = g) w1 wr)) (fun _ s6 _ _ => l.length - (RowKit.intOf s6).toNat)
    case atStart => exact ⟨i + 1, i, l, by omega, by go_num, rfl, by omega, HO1.out, rfl, HF0.out.symm, rfl, Kp.refl _ _⟩
    case round =>
      obtain ⟨j, q, M, hj, rfl, rfl, hqj, HI⟩ := hrel
      obtain ⟨hoM, hML, hMt, hMd, hkp⟩ := HI.out
      by_cases hlt : j < l.length
      · have hltz : (j : Int) < (l.length : Int) := by omega
        obtain ⟨y, hy⟩ : ∃ y, l[j]? = some y := ⟨l[j], by simp⟩
        have hMy : M[j]? = some y := by
          have : (M.drop j)[0]? = (l.drop j)[0]? := by rw [hMd]
          simpa [hy] using this
        obtain ⟨b1, o1, c1, e1, z1, x1, x2, x3⟩ := (owns_lst (ts := M) (by rw [hML]; exact hoM)).at3 hMy
        simp only [Value.slice.injEq, Option.some.injEq, Addr.mk.injEq, and_true] at e1
        obtain ⟨⟨rfl, rfl⟩, -, rfl⟩ := e1
        rw [Nat.zero_add] at x1 x2 x3
        obtain ⟨W2, hW2⟩ : ∃ W2, W2 = wr.alloc (.cells #[.int .u64 y.1.1, .int .u64 y.1.2.1, .int .u64 y.1.2.2] 37) := ⟨_, rfl⟩
        have G2 : Gr wr W2 := by rw [hW2]; exact (Gr.refl _).alloc _
        have hcall := HP.out W2 y ((Kp.of_gr HG1.out).trans (hkp.trans (Kp.of_gr (S := fun k => k = g) G2) (fun _ _ h => h)) (fun _ _ h => h))
        have HFS : Hid ((l.take (j + 1)).filter (fun x => !p x) = (l.take j).filter (fun x => !p x) ++ (if (!p y) then [y] else [])) := filter_take_succ hy
        have HMD : Hid (∀ M' : List Tm, M'.drop j = l.drop j → M'.drop (j + 1) = l.drop (j + 1)) := fun M' h => by rw [← List.drop_drop, h, List.drop_drop]
        have HMT : Hid (M.take q = (l.take j).filter (fun x => !p x)) := hMt
        have HMDD : Hid (M.drop j = l.drop j) := hMd
        have HM : Hid (wr.ownsRow 0 37 3 (.slice (some ⟨g, 0, none⟩) l.length cap) l.length (flT M)) := hoM
        have HKP : Hid (Kp (fun k => k = g) w1 wr) := hkp
        have hgl : g < wr.heap.size := z1
        clear hy hMy hMt hMd hoM hkp HI
        cases hq : p y with
        | true =>
          rw [hq] at hcall
          have HE : Hid ((l.take (j + 1)).filter (fun x => !p x) = (l.take j).filter (fun x => !p x)) := by rw [HFS.out, hq]; simp [Hid]
          subst hW2
          go_wp2_with (go_at_fn gf; refine hcall.mono ?_; rintro e w3 ⟨rfl, hg3⟩)
          go_roundw
          case rel =>
            refine ⟨_, _, _, _, _, _, _, _, _, _, _, _, _, _, _, _, _, _, _, _, _, _, _, ?rl, rfl⟩
            exact ⟨j + 1, q, M, by omega, by go_num, rfl, by omega, owns_below HM.out (G2.trans hg3).below, hML, by rw [HE.out]; exact HMT.out, HMD.out M HMDD.out, HKP.out.trans (Kp.of_gr (S := fun k => k = g) (G2.trans hg3)) (fun _ _ h => h)⟩
          case measure => simp [RowKit.intOf]; omega
        | false =>
          rw [hq] at hcall
          have HE : Hid ((l.take (j + 1)).filter (fun x => !p x) = (l.take j).filter (fun x => !p x) ++ [y]) := by rw [HFS.out, hq]; simp [Hid]
          have hq0 : W2.cell? ⟨wr.heap.size, 0, none⟩ = some (.int .u64 y.1.1) := by rw [hW2]; simp
          have hq1 : W2.cell? ⟨wr.heap.size, 1, none⟩ = some (.int .u64 y.1.2.1) := by rw [hW2]; simp
          have hq2 : W2.cell? ⟨wr.heap.size, 2, none⟩ = some (.int .u64 y.1.2.2) := by rw [hW2]; simp
          have hnl : wr.heap.size < W2.heap.size := by rw [hW2]; simp
          obtain ⟨u, hu⟩ : ∃ u, M[q]? = some u := ⟨M[q]'(by omega), by simp⟩
          have HU : Hid (M[q]? = some u) := hu
          have hgn : g ≠ wr.heap.size := by omega
          clear hu
          subst hW2
          go_wp2_with fail
          go_at_fn gf
          refine hcall.mono ?_
          rintro e w3 ⟨rfl, hg3⟩
          have HO3 : Hid (w3.ownsRow 0 37 3 (.slice (some ⟨g, 0, none⟩) l.length cap) l.length (flT M)) := owns_below HM.out (G2.trans hg3).below
          obtain ⟨b2, o2, c2, e2, z2, u1, u2, u3⟩ := (owns_lst (ts := M) (by rw [hML]; exact HO3.out)).at3 HU.out
          simp only [Value.slice.injEq, Option.some.injEq, Addr.mk.injEq, and_true] at e2
          obtain ⟨⟨rfl, rfl⟩, -, rfl⟩ := e2
          rw [Nat.zero_add] at u1 u2 u3
          obtain ⟨f1, f2, f3⟩ : w3.frozen? ⟨g, q * 3, none⟩ = false ∧ w3.frozen? ⟨g, q * 3 + 1, none⟩ = false ∧ w3.frozen? ⟨g, q * 3 + 2, none⟩ = false := by
            obtain ⟨_, ⟨h0, _⟩ | ⟨g', cap', cur, hv, _, hgg, _⟩⟩ := id HO3.out
            · cases h0
            · cases hv; simp [World.frozen?, hgg]
          have r0 := (hg3.cell hnl).trans hq0
          have r1 := (hg3.cell hnl).trans hq1
          have r2 := (hg3.cell hnl).trans hq2
          have hn3 := Nat.lt_of_lt_of_le hnl hg3.size
          have hqz : (q : Int) < (l.length : Int) := by omega
          clear hq0 hq1 hq2 x1 x2 x3 hcall
          go_wp2
          obtain ⟨ho4, hk4⟩ := Cn.owns_set3 (k := q) y HO3.out
          go_roundw
          case rel =>
            refine ⟨_, _, _, _, _, _, _, _, _, _, _, _, _, _, _, _, _, _, _, _, _, _, _, ?rl2, rfl⟩
            refine ⟨j + 1, q + 1, M.set q y, by omega, by go_num, by go_num, by omega, ho4, by simp [hML], ?_, HMD.out _ ?_, (HKP.out.trans (Kp.of_gr (S := fun k => k = g) (G2.trans hg3)) (fun _ _ h => h)).trans hk4 (fun _ _ h => h)⟩
            · rw [HE.out, ← HMT.out, List.take_add_one, List.getElem?_set_self (by omega), List.take_set_of_le (Nat.le_refl _)]
              rfl
            · rw [List.drop_set_of_lt hqj]
              exact HMDD.out
          case measure => simp [RowKit.intOf]; omega
      · have hltz : ¬ (j : Int) < (l.length : Int) := by omega
        have hjl : j = l.length := by omega
        subst hjl
        rw [List.take_length] at hMt
        have HM9 : Hid (M.take q = l.filter (fun x => !p x)) := hMt
        have hql : (l.filter (fun x => !p x)).length = q := by rw [← hMt, List.length_take]; omega
        have HQL : Hid ((l.filter (fun x => !p x)).length = q) := hql
        obtain ⟨w9, hrun, ho9, hk9⟩ := owns_clear (P := Tryz.prog) (E := ET) (sT := 42) (z := .agg #[.int .u64 0, .int .u64 0, .int .u64 0]) 0 (cap - q) Tryz.underlying42 zeroT rfl (fun j hj => by have hj' : j < 3 := hj; (match j, hj' with | 0, _ => rfl | 1, _ => rfl | 2, _ => rfl)) (by decide) hoM hML hqj
        have hrun : Sem.run Tryz.prog (Builtin.clear_ #[42] 0 #[.slice (some ⟨g, q * 3, none⟩) (l.length - q) (cap - q)]) wr = .ok (.tuple #[]) w9 := hrun
        have H9 : Hid (w9.ownsRow 0 37 3 (.slice (some ⟨g, 0, none⟩) q cap) q (flT (M.take q)) ∧ Kp (fun k => k = g) w w9) := ⟨ho9, (Kp.of_gr HG1.out).trans (hkp.trans hk9 (fun _ _ h => h)) (fun _ _ h => h)⟩
        have z1 : (0 : Int) ≤ (q : Int) := by omega
        have z2 : (q : Int) ≤ (l.length : Int) := by omega
        have z3 : ¬ cap = q := by omega
        have z4 : (q : Int) ≤ (cap : Int) := by omega
        have z5 : ¬ cap = 0 := by omega
        clear hMt hql hoM hk9 ho9 hMd HI hkp
        go_wp2
        go_ret
        refine ⟨cap, by rw [HQL.out]; rfl, ?_, H9.out.2⟩
        rw [HQL.out, ← HM9.out]
        exact H9.out.1
  · have hv : Cn.idxv p l = -1 := by unfold Cn.idxv; rw [if_neg hi]
    rw [hv] at hix
    have HF : Hid (l.filter (fun x => !p x) = l) := by
      rw [List.findIdx_lt_length] at hi
      show _ = _
      rw [List.filter_eq_self]
      intro a ha
      cases hq : p a with
      | false => rfl
      | true => exact absurd ⟨a, ha, hq⟩ hi
    rw [HF.out]
    clear hv hi
    go_enter Tryz.func65, Tryz.ntmps65
    go_wp2_with fail
    refine hix.mono ?_
    rintro e w1 ⟨rfl, hg1⟩
    go_wp2
    go_ret
    exact ⟨_, rfl, owns_below HO.out hg1.below, Kp.of_gr hg1⟩
end Go.Proofs.YtnpmmodcmfgbjaaGreat
