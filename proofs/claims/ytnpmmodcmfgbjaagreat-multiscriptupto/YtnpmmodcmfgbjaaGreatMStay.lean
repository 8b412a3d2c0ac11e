import Derived.Test.YtnpmmodcmfgbjaaGreatMMeth
import Derived.Deep.DeepCutAuto
namespace Go.Proofs.YtnpmmodcmfgbjaaGreat.Cn
open Go.RowKit Go.Sort
attribute [local go_sem ↓] Go.wp_at_zero Go.wp_at_succ

theorem ccut_none {bel : Tm → Tm → Bool} {l : List Tm} {x : Tm} (h : ¬ l.findIdx (fun y => bel x y) < l.length) : ccut bel l x = l := by
  rw [List.findIdx_lt_length] at h
  unfold ccut
  rw [List.filter_eq_self]
  intro a ha
  cases hq : bel x a with
  | false => rfl
  | true => exact absurd ⟨a, ha, hq⟩ h
theorem ccut_at {bel : Tm → Tm → Bool} {l : List Tm} {x : Tm} {i : Nat} (hi : l.findIdx (fun y => bel x y) = i) (h : i < l.length) : ccut bel l x = l.take i ++ ccut bel (l.drop (i + 1)) x := by
  have h1 : l = l.take i ++ l[i] :: l.drop (i + 1) := by rw [← List.drop_eq_getElem_cons h, List.take_append_drop]
  have hp : bel x l[i] = true := by
    subst hi
    exact List.findIdx_getElem (w := h)
  have h2 : (l.take i).filter (fun y => !bel x y) = l.take i := by
    rw [List.filter_eq_self]
    intro a ha
    subst hi
    rw [findIdx_take_false (p := fun y => bel x y) ha]; rfl
  conv => lhs; rw [h1]
  unfold ccut
  rw [List.filter_append, h2, List.filter_cons, hp]
  simp
theorem ccut_take_succ {bel : Tm → Tm → Bool} {m : List Tm} {x y : Tm} {k : Nat} (h : m[k]? = some y) : ccut bel (m.take (k + 1)) x = ccut bel (m.take k) x ++ (if bel x y then [] else [y]) := by
  unfold ccut
  rw [List.take_add_one, h, List.filter_append]
  cases hq : bel x y <;> simp [hq]
theorem ccut_le {bel : Tm → Tm → Bool} {m : List Tm} {x : Tm} (k : Nat) : (ccut bel (m.take k) x).length ≤ k := Nat.le_trans (ccut_length _ _) (List.length_take_le _ _)
/-- 'append(own, y)' where own is of times. -/
theorem wpApp1 {w : World} {ops : Array Oper} {rest : List Oper} {o : Oper} {a : Act} {Q : Exit → Act → World → Prop} (hgd : o.guard = none) (s x : Operand)
    (ho : o.op = .call { callee := .builtin .append, args := #[s, x], argTypes := #[42, 42] })
    (base : Nat) (v : Value) (n : Nat) (xs : List Value) (hs : a.eval s = v) (hown : w.ownsRow base 37 3 v n xs)
    (t : Tm) (hx : a.eval x = .slice (some ⟨w.heap.size, 0, none⟩) 1 1) (hbig : (n + 1) * 24 ≤ 140737488355328) (hbase : base ≤ w.heap.size)
    (h : ∀ g cap w', w'.ownsRow base 37 3 (.slice (some ⟨g, 0, none⟩) (n + 1) cap) (n + 1) (xs ++ ET.enc t) → w.grownBy w' v.ownBlock → (v.ownBlock = some g ∨ w.heap.size ≤ g) → wpList Tryz.prog ops Q rest (a.put o.dst (.slice (some ⟨g, 0, none⟩) (n + 1) cap)) w') :
    wpList Tryz.prog ops Q (o :: rest) a (w.alloc (.cells #[.int .u64 t.1.1, .int .u64 t.1.2.1, .int .u64 t.1.2.2] 37)) :=
  YtnpmmodcmfgbjaaGreat.wpApp1 ET Tryz.underlying42 infoTm rfl (by decide) hgd s x ho base v n xs hs hown t hx hbig (by unfold maxLen; omega) hbase _ rfl _ h
/-- 'append(own, l...)'. -/
theorem wpAppL {w : World} {ops : Array Oper} {rest : List Oper} {o : Oper} {a : Act} {Q : Exit → Act → World → Prop} (hgd : o.guard = none) (s x : Operand)
    (ho : o.op = .call { callee := .builtin .append, args := #[s, x], argTypes := #[42, 42] })
    (base : Nat) (v : Value) (n : Nat) (xs : List Value) (hs : a.eval s = v) (hown : w.ownsRow base 37 3 v n xs)
    (v1 : Value) (ts : List Tm) (hx : a.eval x = v1) (hv : Lst w v1 ts) (hbig : (n + ts.length) * 24 ≤ 140737488355328) (hbase : base ≤ w.heap.size)
    (h : ∀ v' w', w'.ownsRow base 37 3 v' (n + ts.length) (xs ++ flT ts) → w.grownBy w' v.ownBlock → wpList Tryz.prog ops Q rest (a.put o.dst v') w') : wpList Tryz.prog ops Q (o :: rest) a w :=
  YtnpmmodcmfgbjaaGreat.wpAppL ET Tryz.underlying42 infoTm rfl (by decide) hgd s x ho base v n xs hs hown v1 ts hx hv hbig (by unfold maxLen; omega) hbase h

set_option maxHeartbeats 2000000 in
set_option maxRecDepth 100000 in
theorem staying_any {cb fb ff : Nat} {v : Value} {l : List Tm} {bel : Tm → Tm → Bool} (x : Tm) (w : World) (hc : Ch w cb fb ff v l) (hl : l.length * 24 ≤ 140737488355328) (hF : FnOk fb bel) :
    Calls Tryz.prog 76 #[.pointer (some ⟨cb, 0, none⟩), tv x] w fun e w' => ∃ v', e = .returned v' ∧ w'.ownsRow 0 37 3 v' (ccut bel l x).length (flT (ccut bel l x)) ∧ Below w.heap.size w w' ∧ (v' = v ∨ ∀ g, v'.ownBlock = some g → w.heap.size ≤ g) := by
  obtain ⟨W2, hW2⟩ : ∃ W2, W2 = (w.alloc (.cells #[.pointer (some ⟨cb, 0, none⟩)] 62)).alloc (.cells #[.int .u64 x.1.1, .int .u64 x.1.2.1, .int .u64 x.1.2.2] 37) := ⟨_, rfl⟩
  have G2 : Gr w W2 := by rw [hW2]; exact ((Gr.refl _).alloc _).alloc _
  have hz : w.heap.size + 1 < W2.heap.size := by rw [hW2]; simp
  have b1 : W2.cell? ⟨w.heap.size, 0, none⟩ = some (.pointer (some ⟨cb, 0, none⟩)) := by rw [hW2]; simp
  have b2 : W2.cell? ⟨w.heap.size + 1, 0, none⟩ = some (.int .u64 x.1.1) := by rw [hW2]; simp
  have b3 : W2.cell? ⟨w.heap.size + 1, 1, none⟩ = some (.int .u64 x.1.2.1) := by rw [hW2]; simp
  have b4 : W2.cell? ⟨w.heap.size + 1, 2, none⟩ = some (.int .u64 x.1.2.2) := by rw [hW2]; simp
  have hc2 := hc.below G2.below
  have HPB : Hid (∀ (W : World) (y : Tm), Below W2.heap.size W2 W → Calls Tryz.prog 84 #[tv y, .pointer (some ⟨w.heap.size, 0, none⟩), .pointer (some ⟨w.heap.size + 1, 0, none⟩)] W fun e w' => e = .returned (.bool (bel x y)) ∧ Gr W w') := fun W y hg =>
    staying1_any fb bel hF y x w.heap.size (w.heap.size + 1) cb W (Nat.lt_of_lt_of_le (by omega) hg.size) (Nat.lt_of_lt_of_le hz hg.size) (Nat.lt_of_lt_of_le hc2.lt hg.size)
      ((hg.cell (p := ⟨_, _, none⟩) (Nat.lt_of_succ_lt hz)).trans b1) ((hg.cell (p := ⟨_, _, none⟩) hz).trans b2) ((hg.cell (p := ⟨_, _, none⟩) hz).trans b3) ((hg.cell (p := ⟨_, _, none⟩) hz).trans b4) ((hg.cell (p := ⟨_, _, none⟩) hc2.lt).trans hc2.c0)
  have hP : PredG 84 #[.pointer (some ⟨w.heap.size, 0, none⟩), .pointer (some ⟨w.heap.size + 1, 0, none⟩)] (fun y => bel x y) W2 := fun W y hg => HPB.out W y hg.below
  have h := indexFunc_any v l _ _ _ W2 hc2.lst (len_ok hl) (enters_of Tryz.func84 (by kernel_rfl) rfl) hP
  clear hP
  have eg : ∀ args w, (callFunc 84 args).run Tryz.prog w = .ok (.enter 84 args) w := enters_of Tryz.func84 (by kernel_rfl) rfl
  have HB1 : Hid (W2.cell? ⟨w.heap.size, 0, none⟩ = some (.pointer (some ⟨cb, 0, none⟩))) := b1
  have HB2 : Hid (W2.cell? ⟨w.heap.size + 1, 0, none⟩ = some (.int .u64 x.1.1)) := b2
  have HB3 : Hid (W2.cell? ⟨w.heap.size + 1, 1, none⟩ = some (.int .u64 x.1.2.1)) := b3
  have HB4 : Hid (W2.cell? ⟨w.heap.size + 1, 2, none⟩ = some (.int .u64 x.1.2.2)) := b4
  have HZ : Hid (w.heap.size + 1 < W2.heap.size) := hz
  have HC2 : Hid (Ch W2 cb fb ff v l) := hc2
  have HCC : Hid (Ch w cb fb ff v l) := hc
  have k2 := hc.c2
  have kl := hc.lt
  clear b1 b2 b3 b4 hz hc2
  by_cases hi : l.findIdx (fun y => bel x y) < l.length
  · have hv : idxv (fun y => bel x y) l = ((l.findIdx fun y => bel x y : Nat) : Int) := by unfold idxv; rw [if_pos hi]
    have HC := ccut_at (bel := bel) (l := l) (x := x) rfl hi
    rw [hv] at h
    clear hv
    generalize hq : List.findIdx (fun y => bel x y) l = i at *
    clear hq
    obtain ⟨_, ⟨_, h0⟩ | ⟨g, cap, cur, hvf, _, hgg, hn, hm, hcs, htk⟩⟩ := hc.own
    · omega
    subst hvf
    have hz1 : ¬ (i : Int) < 0 := by omega
    have hz2 : (0 : Int) ≤ (i : Int) := by omega
    have hz3 : (i : Int) ≤ (cap : Int) := by omega
    have hz4 : ¬ cap = 0 := by omega
    obtain ⟨m, hmD⟩ : ∃ m, m = l.length - (i + 1) := ⟨_, rfl⟩
    obtain ⟨D, hD⟩ : ∃ D, D = l.drop (i + 1) := ⟨_, rfl⟩
    have hDl : D.length = m := by rw [hD, hmD]; simp
    have HD : Hid (D = l.drop (i + 1)) := hD
    rw [← hD] at HC
    have HCT : Hid (ccut bel l x = l.take i ++ ccut bel D x) := HC
    have hlt : (l.take i).length = i := by simp; omega
    have hml : i + m + 1 = l.length := by omega
    unfold maxLen at hm
    clear HC hD hmD hc hgg hcs htk
    subst hW2
    go_enter Tryz.func76, Tryz.ntmps76
    go_wp2_with fail
    refine h.mono ?_
    rintro e w1 ⟨rfl, hg⟩
    have k3 := (hg.cell (b := w.heap.size) (o := 0) (Nat.lt_of_succ_lt HZ.out)).trans HB1.out
    have k4 := (hg.cell (b := cb) (o := 2) HC2.out.lt).trans HC2.out.c2
    have k6 : w.heap.size < w1.heap.size := Nat.lt_of_lt_of_le (Nat.lt_of_succ_lt HZ.out) hg.size
    have k7 : cb < w1.heap.size := Nat.lt_of_lt_of_le HC2.out.lt hg.size
    have HL1 : Hid (Lst w1 (.slice (some ⟨g, 0, none⟩) l.length cap) l) := HC2.out.lst.below hg.below
    have HLT : Hid (Lst w1 (.slice (some ⟨g, 0, none⟩) i cap) (l.take i)) := by
      have := HL1.out.cut (k := i) (by omega) cap
      exact this
    clear h
    go_upto_region 6 with (at_builtin; refine wpAppL rfl _ _ rfl w1.heap.size (.slice none 0 0) 0 [] rfl (World.ownsRow_nil _ _ _ _) (.slice (some ⟨g, 0, none⟩) i cap) (l.take i) rfl HLT.out (by omega) (Nat.le_refl _) ?_; intro v5 w5 ho5 hg5)
    have hb5 : Below w1.heap.size w1 w5 := (Kp.grownBy (S := fun _ => False) hg5 (fun k hk => by cases hk)).below (Nat.le_refl _) (fun _ h => h.elim)
    have k3' := (hb5.cell (p := ⟨w.heap.size, 0, none⟩) k6).trans k3
    have k4' := (hb5.cell (p := ⟨cb, 2, none⟩) k7).trans k4
    have k6' : w.heap.size < w5.heap.size := Nat.lt_of_lt_of_le k6 hb5.size
    have k7' : cb < w5.heap.size := Nat.lt_of_lt_of_le k7 hb5.size
    have HL5 : Hid (Lst w5 (.slice (some ⟨g, 0, none⟩) l.length cap) l) := HL1.out.below hb5
    have hz5 : ((i : Int) + 1) ≤ (l.length : Int) := by omega
    have hz6 : (0 : Int) ≤ (i : Int) + 1 := by omega
    clear k3 k4 k6 k7
    go_cut [36, 37, 38] (fun s36 s37 s38 w' => ∃ q c, s36 = .slice q m c ∧ Hid (Lst w1 (.slice q m c) D) ∧ s37 = .int .i64 (m : Int) ∧ s38 = .int .i64 0 ∧ w' = w5)
    case first =>
      have hmm : l.length - (i + 1) = m := by omega
      by_cases hcc : cap = i + 1
      · go_wp2_with fail
        go_meet
        have h1 := HL1.out.void (k := i + 1) (by omega) 0
        rw [← HD.out, hmm] at h1
        exact ⟨_, _, rfl, h1, rfl, rfl, rfl⟩
      · go_wp2_with fail
        go_meet
        have h1 := HL1.out.tail (k := i + 1) (cap - (i + 1))
        rw [← HD.out, hmm, Nat.zero_add] at h1
        exact ⟨_, _, rfl, h1, rfl, rfl, rfl⟩
    case rest =>
      obtain ⟨q, c, rfl, HLD1, rfl, rfl, hwc⟩ := hcut
      rw [hwc]
      clear hwc k3' k4' k6' k7' HL5 HLT HL1 hz5 hz6
      rw [hlt, List.nil_append] at ho5
      rw [Nat.zero_add] at ho5
      have HW : Hid (Below ((w.alloc (.cells #[.pointer (some ⟨cb, 0, none⟩)] 62)).alloc (.cells #[.int .u64 x.1.1, .int .u64 x.1.2.1, .int .u64 x.1.2.2] 37)).heap.size ((w.alloc (.cells #[.pointer (some ⟨cb, 0, none⟩)] 62)).alloc (.cells #[.int .u64 x.1.1, .int .u64 x.1.2.1, .int .u64 x.1.2.2] 37)) w1) := hg.below
      have HGW : Hid (Gr w w1) := G2.trans hg
      have hzz := HGW.out.size
      have hsz2 := hg.size
      clear hg G2 hg5
      go_wp2_with fail
      go_loopw [7, 9, 38] (fun s7 _ s38 wr => ∃ k : Nat, k ≤ m ∧ s38 = .int .i64 k ∧ wr.ownsRow w1.heap.size 37 3 s7 (i + (ccut bel (D.take k) x).length) (flT (l.take i ++ ccut bel (D.take k) x)) ∧ Below w1.heap.size w1 wr) (fun _ _ s38 _ => m - (RowKit.intOf s38).toNat)
      case atStart => exact ⟨0, Nat.zero_le _, rfl, by simpa [ccut] using ho5, hb5⟩
      case round =>
        obtain ⟨k, hk, rfl, hown, hbw⟩ := hrel
        clear ho5
        have HIN : Hid (Below ((w.alloc (.cells #[.pointer (some ⟨cb, 0, none⟩)] 62)).alloc (.cells #[.int .u64 x.1.1, .int .u64 x.1.2.1, .int .u64 x.1.2.2] 37)).heap.size ((w.alloc (.cells #[.pointer (some ⟨cb, 0, none⟩)] 62)).alloc (.cells #[.int .u64 x.1.1, .int .u64 x.1.2.1, .int .u64 x.1.2.2] 37)) wr) := HW.out.trans (hbw.mono hsz2)
        have hsz := hbw.size
        by_cases hlt2 : k < m
        · have hltz : (k : Int) < (m : Int) := by omega
          obtain ⟨y, hy⟩ : ∃ y, D[k]? = some y := ⟨D[k]'(by omega), by simp⟩
          have HLw : Lst wr (.slice q m c) D := HLD1.out.below hbw
          obtain ⟨b1, o1, c1, e1, z1, x1, x2, x3⟩ := HLw.at3 hy
          simp only [Value.slice.injEq] at e1
          obtain ⟨rfl, -, rfl⟩ := e1
          clear HLw
          have HY : Hid (ccut bel (D.take (k + 1)) x = ccut bel (D.take k) x ++ (if bel x y then [] else [y])) := ccut_take_succ hy
          have hcl := ccut_le (bel := bel) (m := D) (x := x) k
          clear hy
          generalize ccut bel (D.take k) x = f at *
          have hcall := HPB.out (wr.alloc (.cells #[.int .u64 y.1.1, .int .u64 y.1.2.1, .int .u64 y.1.2.2] 37)) y (HIN.out.trans ((Below.refl _ _).alloc HIN.out.size _))
          cases hq : bel x y with
          | true =>
            rw [hq] at hcall
            have HE : Hid (ccut bel (D.take (k + 1)) x = f) := by rw [HY.out, hq]; simp [Hid]
            go_wp2_with (go_at_call 84; refine hcall.mono ?_; rintro e w3 ⟨rfl, hg3⟩)
            refine ⟨⟨k + 1, by omega, by go_num, by rw [HE.out]; exact owns_below (hown.alloc _) hg3.below, (hbw.alloc hsz _).trans (hg3.below.mono (by simp; omega))⟩, by simp [RowKit.intOf]; omega⟩
          | false =>
            rw [hq] at hcall
            have HE : Hid (ccut bel (D.take (k + 1)) x = f ++ [y]) := by rw [HY.out, hq]; simp [Hid]
            go_wp2_with fail
            go_at_call 84
            refine hcall.mono ?_
            rintro e w3 ⟨rfl, hg3⟩
            have q1 : w3.cell? ⟨wr.heap.size, 0, none⟩ = some (.int .u64 y.1.1) := (hg3.cell (by simp)).trans (by simp)
            have q2 : w3.cell? ⟨wr.heap.size, 1, none⟩ = some (.int .u64 y.1.2.1) := (hg3.cell (by simp)).trans (by simp)
            have q2b : w3.cell? ⟨wr.heap.size, 2, none⟩ = some (.int .u64 y.1.2.2) := (hg3.cell (by simp)).trans (by simp)
            have q3 : wr.heap.size < w3.heap.size := Nat.lt_of_lt_of_le (by simp) hg3.size
            have hown3 := owns_below (hown.alloc _) hg3.below
            clear x1 x2 x3 hcall
            go_wp2_with (at_builtin; refine wpApp1 rfl _ _ rfl w1.heap.size _ (i + f.length) _ rfl hown3 y rfl (by omega) (by omega) ?_)
            intro g9 c9 w9 ho9 hg9 hl9
            go_wp2
            refine ⟨⟨k + 1, by omega, by go_num, ?_, ?_⟩, by simp [RowKit.intOf]; omega⟩
            · rw [HE.out]
              simpa [flT_append, flT_one, Nat.add_assoc] using ho9
            · exact ((hbw.alloc hsz _).trans (hg3.below.mono (by simp; omega))).trans ((Kp.grownBy (S := fun k => w1.heap.size ≤ k) hg9 (fun k hk => (hown3.lt k hk).1)).below (by omega) (fun _ h => h))
        · have hltz : ¬ (k : Int) < (m : Int) := by omega
          have hkm : k = m := by omega
          subst hkm
          rw [List.take_of_length_le (by omega)] at hown
          go_wp2
          go_ret
          refine ⟨_, rfl, ?_, HGW.out.below.trans (hbw.mono hzz), Or.inr fun g' hg' => Nat.le_trans hzz (hown.lt g' hg').1⟩
          rw [HCT.out, List.length_append, hlt]
          exact owns_base hown (Nat.zero_le _)
  · have hv : idxv (fun y => bel x y) l = -1 := by unfold idxv; rw [if_neg hi]
    rw [ccut_none hi]
    rw [hv] at h
    clear hv hi eg HPB
    clear hc
    subst hW2
    go_enter Tryz.func76, Tryz.ntmps76
    go_wp2_with fail
    refine h.mono ?_
    rintro e w1 ⟨rfl, hg⟩
    have k3 := (hg.cell (b := w.heap.size) (o := 0) (Nat.lt_of_succ_lt HZ.out)).trans HB1.out
    have k4 := (hg.cell (b := cb) (o := 2) HC2.out.lt).trans HC2.out.c2
    have k6 : w.heap.size < w1.heap.size := Nat.lt_of_lt_of_le (Nat.lt_of_succ_lt HZ.out) hg.size
    have k7 : cb < w1.heap.size := Nat.lt_of_lt_of_le HC2.out.lt hg.size
    clear h
    go_wp2
    go_ret
    exact ⟨_, rfl, owns_below HCC.out.own (G2.trans hg).below, (G2.trans hg).below, Or.inl rfl⟩
end Go.Proofs.YtnpmmodcmfgbjaaGreat.Cn
