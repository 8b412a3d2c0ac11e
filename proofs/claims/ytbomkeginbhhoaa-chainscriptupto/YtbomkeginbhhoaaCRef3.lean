import Derived.Test.YtbomkeginbhhoaaCRef2
namespace Go.Proofs.Ytbomkeginbhhoaa
open Go.RowKit Go.Sort
attribute [local go_sem ↓] Go.wp_at_zero Go.wp_at_succ

theorem owns_re {w : World} {b : Nat} {e : TypeId} {v : Value} {n m : Nat} {xs ys : List Value} (h : w.ownsRow b e 2 v n xs) (hxy : xs = ys) (hm : ys.length = m * 2) : w.ownsRow b e 2 v m ys := by
  subst hxy
  have h1 := h.1
  have h2 : n = m := by omega
  subst h2
  exact h
theorem find_back {p : P2 → Bool} {M : List P2} {k : Nat} {y : P2} (h : M[k]? = some y) : k + (M.drop k).findIdx p = if p y then k else (k + 1) + (M.drop (k + 1)).findIdx p := by
  obtain ⟨hk, rfl⟩ := List.getElem?_eq_some_iff.1 h
  rw [List.drop_eq_getElem_cons hk, List.findIdx_cons]
  cases hp : p M[k] <;> simp <;> omega

set_option maxHeartbeats 4000000 in
set_option maxRecDepth 100000 in
theorem rinsert_any {rb : Nat} {kind : Int} {v : Value} {l : List P2} (x : P2) (w : World) (hc : RCh w rb kind v l) (hl : (l.length + 1) * 16 ≤ 140737488355328) :
    Calls Try.prog 29 #[.pointer (some ⟨rb, 0, none⟩), pv x] w fun e w' => e = .returned (.bool (!ccov (rbel kind) l x)) ∧ ∃ v', RCh w' rb kind v' (cins (rbel kind) (rfst kind) l x) ∧ Kp (fun k => k = rb) w w' ∧ ∀ g, v'.ownBlock = some g → v.ownBlock = some g ∨ w.heap.size ≤ g := by
  have hmx : Try.prog.follows .mixedOrders = true := by kernel_rfl
  have HV : Hid (Lst w v l) := hc.lst
  obtain ⟨pl, cl, rfl⟩ := hc.lst.form
  obtain ⟨W1, hW1⟩ : ∃ W1, W1 = w.alloc (.cells #[.int .i64 x.1, .int .i64 x.2] 28) := ⟨_, rfl⟩
  have BX0 : Hid (Bx W1 w.heap.size x) := by rw [hW1]; exact Bx.new w x
  have G0 : Gr w W1 := by rw [hW1]; exact (Gr.refl _).alloc _
  have HC0 : Hid (RCh w rb kind (.slice pl l.length cl) l) := hc
  have hrb := hc.lt
  obtain ⟨r, hr⟩ : ∃ r, r = ccov (rbel kind) l x := ⟨_, rfl⟩
  rw [← hr]
  have HR : Hid (r = ccov (rbel kind) l x) := hr
  clear hc hr
  go_enter Try.func29, Try.ntmps29
  go_wp2_with fail
  rw [← hW1]
  obtain ⟨bx, hbx⟩ : ∃ bx, bx = w.heap.size := ⟨_, rfl⟩
  rw [← hbx]
  have HX1 : Hid (Bx W1 bx x) := by rw [hbx]; exact BX0.out
  have HBX : Hid (bx = w.heap.size) := hbx
  clear hbx BX0 hW1
  go_loopw [5] (fun s5 wr => ∃ k : Nat, k ≤ l.length ∧ s5 = .int .i64 k ∧ Hid (Gr W1 wr ∧ ccov (rbel kind) (l.take k) x = false)) (fun s5 _ => l.length - (RowKit.intOf s5).toNat)
  case atStart => exact ⟨0, Nat.zero_le _, rfl, Gr.refl _, rfl⟩
  case round =>
    obtain ⟨k, hk, rfl, HI⟩ := hrel
    have G1 : Gr w wr := G0.trans HI.out.1
    have C1 := HC0.out.below G1.below
    have k0 := C1.c0
    have k1 := C1.c1
    have kl := C1.lt
    by_cases hlt : k < l.length
    · have hltz : (k : Int) < (l.length : Int) := by omega
      obtain ⟨y, hy⟩ : ∃ y, l[k]? = some y := ⟨l[k], by simp⟩
      obtain ⟨b1, o1, c1, e1, z1, y1, y2⟩ := C1.lst.at2 hy
      simp only [Value.slice.injEq] at e1
      obtain ⟨rfl, -, rfl⟩ := e1
      obtain ⟨g1, g2⟩ := (HX1.out.below HI.out.1.below HX1.out.1).grown
      have g3 := cell_grown (a := ⟨b1, o1 + k * 2, none⟩) z1 y1
      have g4 := cell_grown (a := ⟨b1, o1 + k * 2 + 1, none⟩) z1 y2
      have g5 := cell_grown (a := ⟨rb, 0, none⟩) kl k0
      have g6 := cell_grown (a := ⟨rb, 1, none⟩) kl k1
      have HY : Hid (ccov (rbel kind) (l.take (k + 1)) x = (ccov (rbel kind) (l.take k) x || rbel kind y x)) := ccov_take_succ hy
      have HMY : Hid (y ∈ l) := List.mem_of_getElem? hy
      have hb := fun W => Below_any kind y x W
      clear hy y1 y2 C1
      cases hq : rbel kind y x with
      | true =>
        rw [hq] at hb
        have HQ : Hid (ccov (rbel kind) l x = true) := ccov_true.2 ⟨y, HMY.out, hq⟩
        clear hq
        go_wp2_with fail
        clear k0 k1
        go_quiet_grown (first | (go_at_call 20; refine Calls.grown_of (v := .bool true) (hb _)))
        go_wp2
        go_ret
        refine ⟨by rw [HR.out, HQ.out]; rfl, _, ?_, Kp.of_below ((G1.drewN _).grown _).below, fun g hg => Or.inl hg⟩
        have he : cins (rbel kind) (rfst kind) l x = l := by unfold cins; rw [HQ.out]; simp
        rw [he]
        exact HC0.out.below ((G1.drewN _).grown _).below
      | false =>
        rw [hq] at hb
        have HQ : Hid (rbel kind y x = false) := hq
        clear hq
        go_wp2_with fail
        clear k0 k1
        go_quiet_grown (first | (go_at_call 20; refine Calls.grown_of (v := .bool false) (hb _)))
        go_wp2
        exact ⟨⟨k + 1, by omega, by go_num, (HI.out.1.drewN _).grown _, by rw [HY.out, HI.out.2, HQ.out]; rfl⟩, by simp [RowKit.intOf]; omega⟩
    · have hltz : ¬ (k : Int) < (l.length : Int) := by omega
      have h1 := HI.out.2
      rw [List.take_of_length_le (by omega)] at h1
      have H1 : Hid (ccov (rbel kind) l x = false) := h1
      have HCI : Hid (cins (rbel kind) (rfst kind) l x = cput (rfst kind) (ccut (rbel kind) l x) x) := by unfold cins; rw [h1]; simp [Hid]
      have HRF : Hid (r = false) := by show _ = _; rw [HR.out, h1]
      obtain ⟨q0, q1, q2⟩ := HX1.out.below HI.out.1.below HX1.out.1
      have hcut := rcut_any x wr C1 (by omega)
      have hml := ccut_length (bel := rbel kind) l x
      obtain ⟨M, hM⟩ : ∃ M, M = ccut (rbel kind) l x := ⟨_, rfl⟩
      rw [← hM] at hcut hml HCI
      have HBR : Hid (Bx wr bx x) := ⟨q0, q1, q2⟩
      have hG := G1
      clear h1 hM C1 HI
      go_wp2_with fail
      refine hcut.mono ?_
      rintro e w4 ⟨rfl, v4, c4, kp4, hg4⟩
      have BX4 : Hid (Bx w4 bx x) := HBR.out.kp kp4 (fun h => by have := HBX.out; omega)
      have C4 : Hid (RCh w4 rb kind v4 M) := c4
      have K4 : Hid (Kp (fun k => k = rb) w w4) := (Kp.of_below hG.below).trans kp4 (fun _ _ h => h)
      obtain ⟨p4, d4, rfl⟩ := c4.lst.form
      have k0 := c4.c0
      have k1 := c4.c1
      have kl := c4.lt
      clear hcut q0 q1 q2 HBR c4 kp4 hg4 hltz
      have hwl : IntKind.i64.wrap ((M.length : Int) - 1) = (M.length : Int) - 1 := by rw [IntKind.wrap_i64]; omega
      go_wp2_with fail
      go_loopw [6, 7] (fun s6 s7 wr => ∃ k : Nat, k ≤ M.length ∧ s7 = .int .i64 ((k : Int) - 1) ∧ s6 = .int .i64 ((k + (M.drop k).findIdx (fun y => rfst kind x y) : Nat) : Int) ∧ Below w4.heap.size w4 wr) (fun _ s7 _ => (RowKit.intOf s7 + 1).toNat)
      case atStart => exact ⟨M.length, Nat.le_refl _, by first | rfl | simp, by simp, Below.refl _ _⟩
      case round =>
        clear k0 k1 kl
        obtain ⟨k, hk, rfl, rfl, hbw⟩ := hrel
        have hsz := hbw.size
        have CR : Hid (RCh wr rb kind (.slice p4 M.length d4) M) := C4.out.below hbw
        have BXR : Hid (Bx wr bx x) := BX4.out.below hbw BX4.out.1
        have k0 := CR.out.c0
        have k1 := CR.out.c1
        have kl := CR.out.lt
        by_cases hpos : 0 < k
        · have hpz : (0 : Int) ≤ (k : Int) - 1 := by omega
          obtain ⟨i, hi⟩ : ∃ i, k = i + 1 := ⟨k - 1, by omega⟩
          obtain ⟨y, hy⟩ : ∃ y, M[i]? = some y := ⟨M[i]'(by omega), by simp⟩
          have hsub : (k : Int) - 1 = (i : Int) := by omega
          have hiz : (i : Int) < (M.length : Int) := by omega
          have hi0 : (0 : Int) ≤ (i : Int) := by omega
          have hwi : IntKind.i64.wrap ((i : Int) - 1) = (i : Int) - 1 := by rw [IntKind.wrap_i64]; omega
          obtain ⟨b1, o1, c1, e1, z1, y1, y2⟩ := CR.out.lst.at2 hy
          simp only [Value.slice.injEq] at e1
          obtain ⟨rfl, -, rfl⟩ := e1
          obtain ⟨g1, g2⟩ := BXR.out.grown
          have g3 := cell_grown (a := ⟨b1, o1 + i * 2, none⟩) z1 y1
          have g4 := cell_grown (a := ⟨b1, o1 + i * 2 + 1, none⟩) z1 y2
          have g5 := cell_grown (a := ⟨rb, 0, none⟩) kl k0
          have g6 := cell_grown (a := ⟨rb, 1, none⟩) kl k1
          have HFB : Hid (i + (M.drop i).findIdx (fun y => rfst kind x y) = if rfst kind x y then i else (i + 1) + (M.drop (i + 1)).findIdx (fun y => rfst kind x y)) := find_back (p := fun y => rfst kind x y) hy
          have hb := fun W => First_any kind x y W
          clear hy y1 y2
          subst hi
          rw [hsub]
          generalize (i + 1) + (M.drop (i + 1)).findIdx (fun y => rfst kind x y) = at_ at *
          clear hsub hpz
          cases hq : rfst kind x y with
          | true =>
            rw [hq] at hb HFB
            clear hq
            go_wp2_with fail
            clear k0 k1
            go_quiet_grown (first | (go_at_call 53; refine Calls.grown_of (v := .bool true) (hb _)))
            have G9 : Gr wr (grow (wr.drewN nq) osq) := ((Gr.refl _).drewN _).grown _
            go_wp2
            refine ⟨⟨i, by omega, by first | rfl | simp, by rw [HFB.out]; simp, hbw.trans (G9.below.mono hsz)⟩, by simp [RowKit.intOf]⟩
          | false =>
            rw [hq] at hb HFB
            clear hq
            go_wp2_with fail
            clear k0 k1
            go_quiet_grown (first | (go_at_call 53; refine Calls.grown_of (v := .bool false) (hb _)))
            have G9 : Gr wr (grow (wr.drewN nq) osq) := ((Gr.refl _).drewN _).grown _
            go_wp2
            refine ⟨⟨i, by omega, by first | rfl | simp, by rw [HFB.out]; simp, hbw.trans (G9.below.mono hsz)⟩, by simp [RowKit.intOf]⟩
        · have hk0 : k = 0 := by omega
          subst hk0
          have KR : Hid (Kp (fun k => k = rb) w wr) := K4.out.trans (Kp.of_below hbw (S := fun _ => False)) (fun _ _ h => (h : False).elim)
          have hqM : M.findIdx (fun y => rfst kind x y) ≤ M.length := List.findIdx_le_length
          have HPL : Hid (M.take (M.findIdx fun y => rfst kind x y) ++ x :: M.drop (M.findIdx fun y => rfst kind x y) = cput (rfst kind) M x) := rfl
          have hs6 : 0 + (M.drop 0).findIdx (fun y => rfst kind x y) = M.findIdx (fun y => rfst kind x y) := by simp
          rw [hs6]
          clear hs6
          generalize M.findIdx (fun y => rfst kind x y) = q at *
          have HTL : Hid ((M.take q).length = q) := by simp [Hid]; omega
          have HDL : Hid ((M.drop q).length = M.length - q) := by simp [Hid]
          have y1 : (0 : Int) ≤ (q : Int) := by omega
          have hm1 : ¬ (0 : Int) ≤ ((0 : Nat) : Int) - 1 := by omega
          obtain ⟨_, ⟨hv4, h0⟩ | ⟨g, cap, cur, hv4, _, _, hcp1, hcp2, _⟩⟩ := CR.out.own
          · have hM0 : M = [] := List.eq_nil_of_length_eq_zero h0
            subst hM0
            have hq0 : q = 0 := by simpa using hqM
            subst hq0
            simp only [List.length_nil, Value.slice.injEq] at hv4
            obtain ⟨rfl, -, rfl⟩ := hv4
            have LA : Hid (Lst wr (.slice none 0 0) []) := Lst.nil _
            have LB : Hid (Lst wr (.slice none 0 0) []) := Lst.nil _
            rw [show cput (rfst kind) [] x = [x] from rfl] at HCI
            clear HPL HTL HDL h0 hqM
            go_wp2_with (at_builtin; refine wpAppL rfl _ _ rfl wr.heap.size (.slice none 0 0) 0 [] rfl (World.ownsRow_nil _ _ _ _) (.slice none 0 0) [] rfl LA.out (by simp) (Nat.le_refl _) ?_)
            intro v5 w5 ho5 hg5
            have b5 : Below wr.heap.size wr w5 := (Kp.grownBy (S := fun _ => False) hg5 (fun k hk => by simp [Value.ownBlock] at hk)).below (Nat.le_refl _) (fun _ h => h.elim)
            have HO5 : Hid (w5.ownsRow wr.heap.size 28 2 v5 0 (flatP [])) := owns_re ho5 (by simp) (by rw [flatP_length, List.length_nil])
            obtain ⟨q0, q1, q2⟩ := BXR.out.below b5 BXR.out.1
            have z5 := b5.size
            clear ho5 hg5
            go_wp2_with (at_builtin; refine wpApp1 rfl _ _ rfl wr.heap.size v5 0 _ rfl HO5.out x (by first | rfl | simp) (by omega) z5 ?_)
            intro g6 c6 w6 ho6 hg6 hl6
            have b6 : Below wr.heap.size wr w6 := b5.trans ((Kp.grownBy (S := fun k => wr.heap.size ≤ k) hg6 (fun k hk => (HO5.out.lt k hk).1)).below z5 (fun _ h => h))
            have HO6 : Hid (w6.ownsRow wr.heap.size 28 2 (.slice (some ⟨g6, 0, none⟩) (0 + 1) c6) (0 + 1) (flatP [] ++ encP x)) := ho6
            have C6 := CR.out.below b6
            have k61 := C6.c1
            have k6l := C6.lt
            have LB6 : Hid (Lst w6 (.slice none 0 0) []) := LB.out.below b6
            have z6 := b6.size
            clear ho6 hg6 hl6 q0 q1 q2 C6 k1 kl
            go_wp2_with (at_builtin; refine wpAppL rfl _ _ rfl wr.heap.size (.slice (some ⟨g6, 0, none⟩) (0 + 1) c6) (0 + 1) _ rfl HO6.out (.slice none 0 0) [] (by first | (simp [Act.eval]; done) | (simp [Act.eval]; omega)) LB6.out (by simp) z6 ?_)
            intro v7 w7 ho7 hg7
            have b7 : Below wr.heap.size wr w7 := b6.trans ((Kp.grownBy (S := fun k => wr.heap.size ≤ k) hg7 (fun k hk => (HO6.out.lt k hk).1)).below z6 (fun _ h => h))
            have C7 := CR.out.below b7
            have k72 := C7.fz
            have k71 := C7.c1
            have k7l := C7.lt
            have HO7 : Hid (w7.ownsRow wr.heap.size 28 2 v7 [x].length (flatP [x])) := owns_re ho7 (by simp [flatP]) (flatP_length _)
            have HC7 : Hid (RCh w7 rb kind (.slice none 0 0) []) := C7
            obtain ⟨p7, c7, rfl⟩ := (owns_lst HO7.out).form
            clear ho7 hg7 C7 k61 k6l
            go_wp2
            go_ret
            have hnoff : (Value.slice p7 [x].length c7).ownBlock ≠ some rb := fun h => by have := (HO7.out.lt rb h).1; have := CR.out.lt; omega
            obtain ⟨hch, hks⟩ := HC7.out.set (v2 := .slice p7 [x].length c7) (l2 := [x]) (owns_base HO7.out (Nat.zero_le _)) hnoff
            exact ⟨by rw [HRF.out]; rfl, _, by rw [HCI.out]; exact hch, (KR.out.trans (Kp.of_below b7) (fun _ _ h => (h : False).elim)).trans hks (fun _ _ h => h), fun g hg => Or.inr (Nat.le_trans KR.out.size (HO7.out.lt g hg).1)⟩
          · simp only [Value.slice.injEq] at hv4
            obtain ⟨rfl, -, rfl⟩ := hv4
            unfold maxLen at hcp2
            have y2 : (q : Int) ≤ (d4 : Int) := by omega
            have y4 : (q : Int) ≤ (M.length : Int) := by omega
            have LA : Hid (Lst wr (.slice (some ⟨g, 0, none⟩) q d4) (M.take q)) := CR.out.lst.cut hqM
            by_cases hd0 : d4 = 0
            · have hM0 : M = [] := List.eq_nil_of_length_eq_zero (by omega)
              subst hM0
              have hq0 : q = 0 := by simpa using hqM
              subst hq0
              subst hd0
              have LA : Hid (Lst wr (.slice (some ⟨g, 0, none⟩) 0 0) []) := CR.out.lst
              have LB : Hid (Lst wr (.slice (some ⟨g, 0, none⟩) 0 0) []) := CR.out.lst
              rw [show cput (rfst kind) [] x = [x] from rfl] at HCI
              clear HPL HTL HDL hqM
              go_wp2_with (at_builtin; refine wpAppL rfl _ _ rfl wr.heap.size (.slice none 0 0) 0 [] rfl (World.ownsRow_nil _ _ _ _) (.slice (some ⟨g, 0, none⟩) 0 0) [] rfl LA.out (by simp) (Nat.le_refl _) ?_)
              intro v5 w5 ho5 hg5
              have b5 : Below wr.heap.size wr w5 := (Kp.grownBy (S := fun _ => False) hg5 (fun k hk => by simp [Value.ownBlock] at hk)).below (Nat.le_refl _) (fun _ h => h.elim)
              have HO5 : Hid (w5.ownsRow wr.heap.size 28 2 v5 0 (flatP [])) := owns_re ho5 (by simp) (by rw [flatP_length, List.length_nil])
              obtain ⟨q0, q1, q2⟩ := BXR.out.below b5 BXR.out.1
              have z5 := b5.size
              clear ho5 hg5
              go_wp2_with (at_builtin; refine wpApp1 rfl _ _ rfl wr.heap.size v5 0 _ rfl HO5.out x (by first | rfl | simp) (by omega) z5 ?_)
              intro g6 c6 w6 ho6 hg6 hl6
              have b6 : Below wr.heap.size wr w6 := b5.trans ((Kp.grownBy (S := fun k => wr.heap.size ≤ k) hg6 (fun k hk => (HO5.out.lt k hk).1)).below z5 (fun _ h => h))
              have HO6 : Hid (w6.ownsRow wr.heap.size 28 2 (.slice (some ⟨g6, 0, none⟩) (0 + 1) c6) (0 + 1) (flatP [] ++ encP x)) := ho6
              have C6 := CR.out.below b6
              have k61 := C6.c1
              have k6l := C6.lt
              have LB6 : Hid (Lst w6 (.slice (some ⟨g, 0, none⟩) 0 0) []) := LB.out.below b6
              have z6 := b6.size
              clear ho6 hg6 hl6 q0 q1 q2 C6 k1 kl
              go_wp2_with (at_builtin; refine wpAppL rfl _ _ rfl wr.heap.size (.slice (some ⟨g6, 0, none⟩) (0 + 1) c6) (0 + 1) _ rfl HO6.out (.slice (some ⟨g, 0, none⟩) 0 0) [] (by first | (simp [Act.eval]; done) | (simp [Act.eval]; omega)) LB6.out (by simp) z6 ?_)
              intro v7 w7 ho7 hg7
              have b7 : Below wr.heap.size wr w7 := b6.trans ((Kp.grownBy (S := fun k => wr.heap.size ≤ k) hg7 (fun k hk => (HO6.out.lt k hk).1)).below z6 (fun _ h => h))
              have C7 := CR.out.below b7
              have k72 := C7.fz
              have k71 := C7.c1
              have k7l := C7.lt
              have HO7 : Hid (w7.ownsRow wr.heap.size 28 2 v7 [x].length (flatP [x])) := owns_re ho7 (by simp [flatP]) (flatP_length _)
              have HC7 : Hid (RCh w7 rb kind (.slice (some ⟨g, 0, none⟩) 0 0) []) := C7
              obtain ⟨p7, c7, rfl⟩ := (owns_lst HO7.out).form
              clear ho7 hg7 C7 k61 k6l
              go_wp2
              go_ret
              have hnoff : (Value.slice p7 [x].length c7).ownBlock ≠ some rb := fun h => by have := (HO7.out.lt rb h).1; have := CR.out.lt; omega
              obtain ⟨hch, hks⟩ := HC7.out.set (v2 := .slice p7 [x].length c7) (l2 := [x]) (owns_base HO7.out (Nat.zero_le _)) hnoff
              exact ⟨by rw [HRF.out]; rfl, _, by rw [HCI.out]; exact hch, (KR.out.trans (Kp.of_below b7) (fun _ _ h => (h : False).elim)).trans hks (fun _ _ h => h), fun g hg => Or.inr (Nat.le_trans KR.out.size (HO7.out.lt g hg).1)⟩
            · by_cases hcc : d4 = q
              · have LB : Hid (Lst wr (.slice (some ⟨g, 0, none⟩) (M.length - q) 0) (M.drop q)) := CR.out.lst.none (by omega) 0
                subst hcc
                go_wp2_with (at_builtin; refine wpAppL rfl _ _ rfl wr.heap.size (.slice none 0 0) 0 [] rfl (World.ownsRow_nil _ _ _ _) (.slice (some ⟨g, 0, none⟩) d4 d4) (M.take d4) rfl LA.out (by have := HTL.out; omega) (Nat.le_refl _) ?_)
                intro v5 w5 ho5 hg5
                have b5 : Below wr.heap.size wr w5 := (Kp.grownBy (S := fun _ => False) hg5 (fun k hk => by simp [Value.ownBlock] at hk)).below (Nat.le_refl _) (fun _ h => h.elim)
                have HO5 : Hid (w5.ownsRow wr.heap.size 28 2 v5 d4 (flatP (M.take d4))) := owns_re ho5 (by simp) (by rw [flatP_length, HTL.out])
                obtain ⟨q0, q1, q2⟩ := BXR.out.below b5 BXR.out.1
                have z5 := b5.size
                clear ho5 hg5
                go_wp2_with (at_builtin; refine wpApp1 rfl _ _ rfl wr.heap.size v5 d4 _ rfl HO5.out x (by first | rfl | simp) (by omega) z5 ?_)
                intro g6 c6 w6 ho6 hg6 hl6
                have b6 : Below wr.heap.size wr w6 := b5.trans ((Kp.grownBy (S := fun k => wr.heap.size ≤ k) hg6 (fun k hk => (HO5.out.lt k hk).1)).below z5 (fun _ h => h))
                have HO6 : Hid (w6.ownsRow wr.heap.size 28 2 (.slice (some ⟨g6, 0, none⟩) (d4 + 1) c6) (d4 + 1) (flatP (M.take d4) ++ encP x)) := ho6
                have C6 := CR.out.below b6
                have k61 := C6.c1
                have k6l := C6.lt
                have LB6 : Hid (Lst w6 (.slice (some ⟨g, 0, none⟩) (M.length - d4) 0) (M.drop d4)) := LB.out.below b6
                have z6 := b6.size
                clear ho6 hg6 hl6 q0 q1 q2 C6 k1 kl
                go_wp2_with (at_builtin; refine wpAppL rfl _ _ rfl wr.heap.size (.slice (some ⟨g6, 0, none⟩) (d4 + 1) c6) (d4 + 1) _ rfl HO6.out (.slice (some ⟨g, 0, none⟩) (M.length - d4) 0) (M.drop d4) (by first | (simp [Act.eval]; done) | (simp [Act.eval]; omega)) LB6.out (by have := HDL.out; omega) z6 ?_)
                intro v7 w7 ho7 hg7
                have b7 : Below wr.heap.size wr w7 := b6.trans ((Kp.grownBy (S := fun k => wr.heap.size ≤ k) hg7 (fun k hk => (HO6.out.lt k hk).1)).below z6 (fun _ h => h))
                have C7 := CR.out.below b7
                have k72 := C7.fz
                have k71 := C7.c1
                have k7l := C7.lt
                have HO7 : Hid (w7.ownsRow wr.heap.size 28 2 v7 (cput (rfst kind) M x).length (flatP (cput (rfst kind) M x))) := owns_re ho7 (by rw [← HPL.out, flatP_append, flatP_cons]) (flatP_length _)
                have HC7 : Hid (RCh w7 rb kind (.slice (some ⟨g, 0, none⟩) M.length d4) M) := C7
                obtain ⟨p7, c7, rfl⟩ := (owns_lst HO7.out).form
                clear ho7 hg7 C7 k61 k6l
                go_wp2
                go_ret
                have hnoff : (Value.slice p7 (cput (rfst kind) M x).length c7).ownBlock ≠ some rb := fun h => by have := (HO7.out.lt rb h).1; have := CR.out.lt; omega
                obtain ⟨hch, hks⟩ := HC7.out.set (v2 := .slice p7 (cput (rfst kind) M x).length c7) (l2 := cput (rfst kind) M x) (owns_base HO7.out (Nat.zero_le _)) hnoff
                exact ⟨by rw [HRF.out]; rfl, _, by rw [HCI.out]; exact hch, (KR.out.trans (Kp.of_below b7) (fun _ _ h => (h : False).elim)).trans hks (fun _ _ h => h), fun g hg => Or.inr (Nat.le_trans KR.out.size (HO7.out.lt g hg).1)⟩
              · have LB : Hid (Lst wr (.slice (some ⟨g, q * 2, none⟩) (M.length - q) (d4 - q)) (M.drop q)) := by
                  have h := CR.out.lst.tail (k := q) (d4 - q)
                  rw [Nat.zero_add] at h
                  exact h
                go_wp2_with (at_builtin; refine wpAppL rfl _ _ rfl wr.heap.size (.slice none 0 0) 0 [] rfl (World.ownsRow_nil _ _ _ _) (.slice (some ⟨g, 0, none⟩) q d4) (M.take q) rfl LA.out (by have := HTL.out; omega) (Nat.le_refl _) ?_)
                intro v5 w5 ho5 hg5
                have b5 : Below wr.heap.size wr w5 := (Kp.grownBy (S := fun _ => False) hg5 (fun k hk => by simp [Value.ownBlock] at hk)).below (Nat.le_refl _) (fun _ h => h.elim)
                have HO5 : Hid (w5.ownsRow wr.heap.size 28 2 v5 q (flatP (M.take q))) := owns_re ho5 (by simp) (by rw [flatP_length, HTL.out])
                obtain ⟨q0, q1, q2⟩ := BXR.out.below b5 BXR.out.1
                have z5 := b5.size
                clear ho5 hg5
                go_wp2_with (at_builtin; refine wpApp1 rfl _ _ rfl wr.heap.size v5 q _ rfl HO5.out x (by first | rfl | simp) (by omega) z5 ?_)
                intro g6 c6 w6 ho6 hg6 hl6
                have b6 : Below wr.heap.size wr w6 := b5.trans ((Kp.grownBy (S := fun k => wr.heap.size ≤ k) hg6 (fun k hk => (HO5.out.lt k hk).1)).below z5 (fun _ h => h))
                have HO6 : Hid (w6.ownsRow wr.heap.size 28 2 (.slice (some ⟨g6, 0, none⟩) (q + 1) c6) (q + 1) (flatP (M.take q) ++ encP x)) := ho6
                have C6 := CR.out.below b6
                have k61 := C6.c1
                have k6l := C6.lt
                have LB6 : Hid (Lst w6 (.slice (some ⟨g, q * 2, none⟩) (M.length - q) (d4 - q)) (M.drop q)) := LB.out.below b6
                have z6 := b6.size
                clear ho6 hg6 hl6 q0 q1 q2 C6 k1 kl
                go_wp2_with (at_builtin; refine wpAppL rfl _ _ rfl wr.heap.size (.slice (some ⟨g6, 0, none⟩) (q + 1) c6) (q + 1) _ rfl HO6.out (.slice (some ⟨g, q * 2, none⟩) (M.length - q) (d4 - q)) (M.drop q) (by first | (simp [Act.eval]; done) | (simp [Act.eval]; omega)) LB6.out (by have := HDL.out; omega) z6 ?_)
                intro v7 w7 ho7 hg7
                have b7 : Below wr.heap.size wr w7 := b6.trans ((Kp.grownBy (S := fun k => wr.heap.size ≤ k) hg7 (fun k hk => (HO6.out.lt k hk).1)).below z6 (fun _ h => h))
                have C7 := CR.out.below b7
                have k72 := C7.fz
                have k71 := C7.c1
                have k7l := C7.lt
                have HO7 : Hid (w7.ownsRow wr.heap.size 28 2 v7 (cput (rfst kind) M x).length (flatP (cput (rfst kind) M x))) := owns_re ho7 (by rw [← HPL.out, flatP_append, flatP_cons]) (flatP_length _)
                have HC7 : Hid (RCh w7 rb kind (.slice (some ⟨g, 0, none⟩) M.length d4) M) := C7
                obtain ⟨p7, c7, rfl⟩ := (owns_lst HO7.out).form
                clear ho7 hg7 C7 k61 k6l
                go_wp2
                go_ret
                have hnoff : (Value.slice p7 (cput (rfst kind) M x).length c7).ownBlock ≠ some rb := fun h => by have := (HO7.out.lt rb h).1; have := CR.out.lt; omega
                obtain ⟨hch, hks⟩ := HC7.out.set (v2 := .slice p7 (cput (rfst kind) M x).length c7) (l2 := cput (rfst kind) M x) (owns_base HO7.out (Nat.zero_le _)) hnoff
                exact ⟨by rw [HRF.out]; rfl, _, by rw [HCI.out]; exact hch, (KR.out.trans (Kp.of_below b7) (fun _ _ h => (h : False).elim)).trans hks (fun _ _ h => h), fun g hg => Or.inr (Nat.le_trans KR.out.size (HO7.out.lt g hg).1)⟩
end Go.Proofs.Ytbomkeginbhhoaa
