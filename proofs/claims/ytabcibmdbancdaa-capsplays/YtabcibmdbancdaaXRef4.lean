import Derived.Test.YtabcibmdbancdaaXRef3
namespace Go.Proofs.Ytabcibmdbancdaa
open Go.RowKit Go.Sort Go.Maps
attribute [local go_sem ↓] Go.wp_at_zero Go.wp_at_succ

set_option maxHeartbeats 1000000 in
theorem rdrop_none {rb : Nat} {v : Value} {most last : Int} {L : List Hd} (id : Int) (w : World) (h : Rc w rb v most last L) (hr : L.Pairwise fun x y => x.1 < y.1) (hl : L.length ≤ 3000000000000) (hk : look L id = none) :
    Calls Try.prog 26 #[.pointer (some ⟨rb, 0, none⟩), .int .i64 id] w fun e w' => e = .returned (.int .i64 47) ∧ Gr w w' := by
  have ha := rat_any id _ h hr hl
  clear h
  go_enter Try.func26, Try.ntmps26
  go_wp2_with fail
  refine ha.mono ?_
  rintro e w1 ⟨n, rfl, hn, hw1⟩
  rcases hn with ⟨_, rfl⟩ | ⟨_, _, _, _, h2⟩
  · rw [hw1]
    go_wp2
    go_ret
    exact ⟨rfl, Gr.refl _⟩
  · rw [hk] at h2; cases h2
theorem drop_take {L : List Hd} {id : Int} {k : Nat} {h : Hd} (hk : L[k]? = some h) : dropL (L.take (k + 1)) id = dropL (L.take k) id ++ (if h.1 = id then [] else [h]) := by
  rw [List.take_add_one, hk]
  unfold dropL
  rw [List.filter_append]
  congr 1
  by_cases e : h.1 = id <;> simp [e]
theorem drop_le (L : List Hd) (id : Int) : (dropL L id).length ≤ L.length := List.length_filter_le ..
theorem at_ne {L : List Hd} (hr : L.Pairwise fun x y => x.1 < y.1) {i k : Nat} {a b : Hd} (hi : L[i]? = some a) (hk : L[k]? = some b) (hne : k ≠ i) : b.1 ≠ a.1 := fun e => by
  obtain ⟨hil, hie⟩ := List.getElem?_eq_some_iff.1 hi
  obtain ⟨hkl, hke⟩ := List.getElem?_eq_some_iff.1 hk
  have hp := List.pairwise_iff_getElem.1 hr
  rcases Nat.lt_or_gt_of_ne hne with hlt | hlt
  · have := hp k i hkl hil hlt; rw [hie, hke] at this; omega
  · have := hp i k hil hkl hlt; rw [hie, hke] at this; omega
set_option maxRecDepth 100000 in
set_option maxHeartbeats 2000000 in
theorem rdrop_ok {rb : Nat} {v : Value} {most last : Int} {L : List Hd} (id : Int) (s : Sp) (w : World) (h : Rc w rb v most last L) (hr : L.Pairwise fun x y => x.1 < y.1) (hl : L.length ≤ 3000000000000) (hk : look L id = some s) :
    Calls Try.prog 26 #[.pointer (some ⟨rb, 0, none⟩), .int .i64 id] w fun e w' => e = .returned (.int .i64 0) ∧ ∃ v', Rc w' rb v' most last (dropL L id) ∧ Kp (fun k => k = rb) w w' ∧ (∀ g, v'.ownBlock = some g → w.heap.size ≤ g) := by
  have ha := rat_any id _ h hr hl
  have HC := hid h
  have HR := hid hr
  have c2 := h.c2
  have hlt := h.lt
  obtain ⟨pv, cv, rfl⟩ := h.ls.form
  clear h hr
  go_enter Try.func26, Try.ntmps26
  go_wp2_with fail
  refine ha.mono ?_
  rintro e w1 ⟨n, rfl, hn, hw1⟩
  rcases hn with ⟨h2, _⟩ | ⟨i, s', rfl, h1, h2⟩
  · rw [hk] at h2; cases h2
  · subst hw1
    have hil := (List.getElem?_eq_some_iff.1 h1).1
    have hk1 : ¬ (i : Int) < 0 := by omega
    have HI := hid h1
    clear h1 h2 ha hk
    go_wp2_with fail
    go_loopw [6, 7] (fun s6 s7 wr => ∃ (k : Nat) (vl : Value), k ≤ L.length ∧ s7 = .int .i64 (k : Nat) ∧ s6 = vl ∧ wr.ownsRow w1.heap.size 38 5 vl (dropL (L.take k) id).length (fl EH (dropL (L.take k) id)) ∧ Below w1.heap.size w1 wr) (fun _ s7 _ => L.length - (RowKit.intOf s7).toNat)
    case atStart => exact ⟨0, _, Nat.zero_le _, rfl, rfl, World.ownsRow_nil _ _ _ _, Below.refl _ _⟩
    case round =>
      obtain ⟨k, vl, hkl, rfl, hvl, hrow, hB⟩ := hrel
      obtain ⟨pl, cl, hvf⟩ := (owns_ls (E := EH) hrow).form
      subst hvl
      subst hvf
      have c2r := (hB.cell (p := ⟨rb, 2, none⟩) hlt).trans c2
      have hltr := Nat.lt_of_lt_of_le hlt hB.size
      by_cases hkl2 : k < L.length
      · have hltz : (k : Int) < (L.length : Int) := by omega
        have hk0 : (0 : Int) ≤ (k : Int) := by omega
        obtain ⟨hd, hh⟩ : ∃ h, L[k]? = some h := ⟨L[k], by simp⟩
        by_cases hki : k = i
        · have hkz : (k : Int) = (i : Int) := by omega
          have he : hd = (id, s') := by
            have := HI.out
            rw [← hki, hh] at this
            exact Option.some.inj this
          have HE := hid (drop_take (id := id) hh)
          rw [he, if_pos rfl, List.append_nil] at HE
          have HRW := hid hrow
          have HBW := hid hB
          clear hrow hB hh
          go_wp2_with fail
          go_roundw
          case rel => exact ⟨k + 1, _, by omega, by go_num, rfl, by rw [HE.out]; exact HRW.out, HBW.out⟩
          case measure => simp [RowKit.intOf]; omega
        · have hkz : ¬ (k : Int) = (i : Int) := by omega
          have hne : hd.1 ≠ id := at_ne HR.out HI.out hh hki
          have HE := hid (drop_take (id := id) hh)
          rw [if_neg hne] at HE
          obtain ⟨b1, o1, c1, e1, z1, x0, x1, x2, x3, x4⟩ := (HC.out.ls.below hB).atH hh
          simp only [Value.slice.injEq] at e1
          obtain ⟨rfl, -, rfl⟩ := e1
          have HRW := hid hrow
          have HBW := hid hB
          have hBs := hB.size
          have hdl := drop_le (L.take k) id
          have htl : (L.take k).length = k := by simp; omega
          obtain ⟨a0, a1, a2, a3, a4⟩ := hd
          clear hrow hB hh hne
          go_wp2_with (at_builtin; refine wpApp1 EH Try.underlying26 infoH rfl (by decide) rfl _ _ rfl w1.heap.size (.slice pl (dropL (L.take k) id).length cl) (dropL (L.take k) id).length _ rfl HRW.out (a0, a1, a2, a3, a4) (by first | rfl | simp) (by omega) (by unfold maxLen; omega) hBs _ rfl _ ?_; intro g' cap' w' hown' hg' hgb; go_frame)
          go_roundw
          case rel =>
            refine ⟨k + 1, _, by omega, by go_num, rfl, ?_, HBW.out.grown hg' hBs (fun j hj => (HRW.out.lt j hj).1)⟩
            rw [HE.out, fl_append, List.length_append]
            exact hown'
          case measure => simp [RowKit.intOf]; omega
      · have hltz : ¬ (k : Int) < (L.length : Int) := by omega
        have e : k = L.length := by omega
        subst e
        rw [List.take_length] at hrow ⊢
        have f2 : wr.frozen? ⟨rb, 2, none⟩ = false := by have := (hB.frozen (p := ⟨rb, 2, none⟩) hlt); rw [this]; exact HC.out.fz 2
        have HRW := hid hrow
        have HBW := hid hB
        have HBK : Hid (wr.heap[rb]? = some (.cells #[.int .i64 most, .int .i64 last, .slice pv L.length cv] 66 (0, 0))) := (hB.block rb hlt).trans HC.out.blk
        clear hrow hB
        go_wp2_with fail
        go_ret
        obtain ⟨b9, k9, z9⟩ := setCell_blk (k := 2) (v := .slice pl (dropL L id).length cl) HBK.out
        refine ⟨rfl, .slice pl (dropL L id).length cl, ⟨b9, owns_base (owns_kp k9 HRW.out (fun q hq e => ?_)) (Nat.zero_le _)⟩, (Kp.of_below (S := fun k => k = rb) HBW.out).trans k9 (fun _ _ h => h), fun g hg => (HRW.out.lt g hg).1⟩
        have := (HRW.out.lt q hq).1
        omega

set_option maxHeartbeats 1000000 in
theorem rall_any {rb : Nat} {v : Value} {most last : Int} {L : List Hd} (w : World) (h : Rc w rb v most last L) (hl : L.length ≤ 3000000000000) :
    Calls Try.prog 22 #[.pointer (some ⟨rb, 0, none⟩)] w fun e w' => ∃ p c, e = .returned (.slice p L.length c) ∧ w'.ownsRow w.heap.size 38 5 (.slice p L.length c) L.length (fl EH L) ∧ Below w.heap.size w w' := by
  have c2 := h.c2
  have hlt := h.lt
  have R7 : (w.alloc (.cells #[] 38)).ownsRow w.heap.size 38 5 (.slice (some ⟨w.heap.size, 0, none⟩) 0 0) 0 [] := ⟨rfl, Or.inr ⟨w.heap.size, 0, #[], rfl, Nat.le_refl _, heap_new' w _, Nat.le_refl _, Nat.zero_le _, rfl, rfl⟩⟩
  have HL := hid (h.ls.below ((Gr.refl w).alloc (.cells #[] 38)).below)
  have hb : Below w.heap.size w (w.alloc (.cells #[] 38)) := ((Gr.refl w).alloc _).below
  have hbs := hb.size
  clear h
  go_enter Try.func22, Try.ntmps22
  go_wp2_with (at_builtin; refine wpAppL EH Try.underlying26 infoH rfl (by decide) rfl _ _ rfl w.heap.size (.slice (some ⟨w.heap.size, 0, none⟩) 0 0) 0 [] (by first | rfl | simp) R7 v L rfl HL.out (by omega) (by unfold maxLen; omega) hbs ?_; intro v5 w5 ho5 hg5)
  go_ret
  rw [Nat.zero_add, List.nil_append] at ho5
  obtain ⟨p5, c5, rfl⟩ := (owns_ls (E := EH) ho5).form
  exact ⟨p5, c5, rfl, ho5, hb.grown hg5 hbs (fun j hj => by simp [Value.ownBlock] at hj; omega)⟩

set_option maxHeartbeats 1000000 in
theorem rcopy_any {rb : Nat} {v : Value} {most last : Int} {L : List Hd} (w : World) (h : Rc w rb v most last L) (hl : L.length ≤ 3000000000000) :
    Calls Try.prog 15 #[.pointer (some ⟨rb, 0, none⟩)] w fun e w' => ∃ rb' v', e = .returned (.pointer (some ⟨rb', 0, none⟩)) ∧ Rc w' rb' v' most last L ∧ Below w.heap.size w w' ∧ w.heap.size ≤ rb' ∧ (∀ g, v'.ownBlock = some g → w.heap.size ≤ g) := by
  have hmx : Try.prog.follows .mixedOrders = true := by kernel_rfl
  have S0 : w.cell? ⟨rb, 0, none⟩ = some (.int .i64 most) ∧ w.cell? ⟨rb, 1, none⟩ = some (.int .i64 last) ∧ rb < w.heap.size := ⟨h.c0, h.c1, h.lt⟩
  have keepB : ∀ W W' : World, (W.cell? ⟨rb, 0, none⟩ = some (.int .i64 most) ∧ W.cell? ⟨rb, 1, none⟩ = some (.int .i64 last) ∧ rb < W.heap.size) → Below W.heap.size W W' → (W'.cell? ⟨rb, 0, none⟩ = some (.int .i64 most) ∧ W'.cell? ⟨rb, 1, none⟩ = some (.int .i64 last) ∧ rb < W'.heap.size) := fun W W' h hb =>
    ⟨(hb.cell (p := ⟨rb, 0, none⟩) h.2.2).trans h.1, (hb.cell (p := ⟨rb, 1, none⟩) h.2.2).trans h.2.1, Nat.lt_of_lt_of_le h.2.2 hb.size⟩
  have hcl := rall_any w.drew (h.gr (Gr.refl w).drew) hl
  clear h
  go_enter Try.func15, Try.ntmps15
  go_wp2_with fail
  go_region_held3 (fun w' => w'.cell? ⟨rb, 0, none⟩ = some (.int .i64 most) ∧ w'.cell? ⟨rb, 1, none⟩ = some (.int .i64 last) ∧ rb < w'.heap.size)
    (first | exact S0 | exact keepB _ _ (by assumption) (Gr.refl _).drew.below | exact keepB _ _ (by assumption) (by assumption) | exact keepB _ _ (by assumption) ((Gr.refl _).alloc _).below)
    (first | (go_at_call 22; refine hcl.mono ?_; rintro e w5 ⟨p5, c5, rfl, r5, b5⟩))
  go_wp2
  go_ret
  have hz5 : w.heap.size ≤ w5.heap.size := b5.size
  refine ⟨w5.heap.size, .slice p5 L.length c5, rfl, ⟨heap_new' w5 _, owns_base (owns_below r5 ((Gr.refl w5).alloc _).below) (Nat.zero_le _)⟩, ?_, hz5, fun g hg => (r5.lt g hg).1⟩
  exact (Below.trans (show Below w.heap.size w w5 from ⟨b5.os, b5.tape, b5.output, b5.size, b5.block⟩) (((Gr.refl w5).alloc _).below.mono hz5))
end Go.Proofs.Ytabcibmdbancdaa
