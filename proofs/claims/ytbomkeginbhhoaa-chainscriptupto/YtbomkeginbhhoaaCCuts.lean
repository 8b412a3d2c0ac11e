import Derived.Test.YtbomkeginbhhoaaCKn2
namespace Go.Proofs.Ytbomkeginbhhoaa
open Go.RowKit Go.Sort
attribute [local go_sem ↓] Go.wp_at_zero Go.wp_at_succ

/-- A pair in a box. -/
def Bx (w : World) (b : Nat) (x : P2) : Prop := b < w.heap.size ∧ w.cell? ⟨b, 0, none⟩ = some (.int .i64 x.1) ∧ w.cell? ⟨b, 1, none⟩ = some (.int .i64 x.2)
theorem Bx.kp {S : Nat → Prop} {w w' : World} {b : Nat} {x : P2} (h : Bx w b x) (hk : Kp S w w') (hS : ¬ S b) : Bx w' b x :=
  ⟨Nat.lt_of_lt_of_le h.1 hk.size, (World.cell?_of_block (a := ⟨b, 0, none⟩) (hk.block b h.1 hS)).trans h.2.1, (World.cell?_of_block (a := ⟨b, 1, none⟩) (hk.block b h.1 hS)).trans h.2.2⟩
theorem Bx.below {w w' : World} {b n : Nat} {x : P2} (h : Bx w b x) (hk : Below n w w') (hS : b < n) : Bx w' b x :=
  ⟨Nat.lt_of_lt_of_le h.1 hk.size, (World.cell?_of_block (a := ⟨b, 0, none⟩) (hk.block b hS)).trans h.2.1, (World.cell?_of_block (a := ⟨b, 1, none⟩) (hk.block b hS)).trans h.2.2⟩
theorem Bx.new (w : World) (x : P2) : Bx (w.alloc (.cells #[.int .i64 x.1, .int .i64 x.2] 28)) w.heap.size x := ⟨by simp, by simp, by simp⟩
theorem Bx.grown {W : World} {b : Nat} {x : P2} (h : Bx W b x) : (∀ (n : Nat) (os : Array Obj), (grow (W.drewN n) os).cell? ⟨b, 0, none⟩ = some (.int .i64 x.1)) ∧ (∀ (n : Nat) (os : Array Obj), (grow (W.drewN n) os).cell? ⟨b, 1, none⟩ = some (.int .i64 x.2)) :=
  ⟨cell_grown (a := ⟨b, 0, none⟩) h.1 h.2.1, cell_grown (a := ⟨b, 1, none⟩) h.1 h.2.2⟩

set_option maxHeartbeats 400000 in
theorem kinds_any (n : Int) (w : World) : Calls Try.prog 18 #[.int .i64 n] w fun e w' => ∃ r, e = .returned (.int .i64 r) ∧ 0 ≤ r ∧ r ≤ 5 ∧ w' = w := by
  have h1 := Int.tmod_lt_of_pos n (show (0 : Int) < 6 by decide)
  have h2 := Int.lt_tmod_of_pos n (show (0 : Int) < 6 by decide)
  by_cases hn : n.tmod 6 < 0
  · go_enter Try.func18, Try.ntmps18
    go_wp2
    go_ret
    refine ⟨n.tmod 6 + 6, by first | rfl | (go_num; done) | simp, by omega, by omega, rfl⟩
  · go_enter Try.func18, Try.ntmps18
    go_wp2
    go_ret
    refine ⟨n.tmod 6, by first | rfl | (go_num; done) | simp, by omega, by omega, rfl⟩

set_option maxHeartbeats 2000000 in
set_option maxRecDepth 100000 in
theorem chainCuts_any (kind : Int) (u : Value) (l : List P2) (x : P2) (w : World) (hu : Lst w u l) (hbig : l.length * 16 ≤ 140737488351232) :
    Calls Try.prog 5 #[.int .i64 kind, u, pv x] w fun e w' => e = .returned (.bool true) ∧ Below w.heap.size w w' := by
  have hmx : Try.prog.follows .mixedOrders = true := by kernel_rfl
  have HU : Hid (Lst w u l) := hu
  obtain ⟨pu, cu, rfl⟩ := hu.form
  clear hu
  go_enter Try.func5, Try.ntmps5
  go_wp2_with fail
  refine (kinds_any kind _).mono ?_
  rintro e w1 ⟨r, rfl, hr0, hr5, rfl⟩
  have hm := made_at r hr0 hr5 (w.alloc (.cells #[.int .i64 x.1, .int .i64 x.2] 28))
  go_wp2_with fail
  refine hm.mono ?_
  rintro e w1 ⟨cb, fb, ff, rfl, hcb, hf, hc, hg⟩
  have hcb' : w.heap.size < cb := Nat.lt_of_lt_of_le (by simp) hcb
  have BX1 : Hid (Bx w1 w.heap.size x) := (Bx.new w x).below hg.below (by simp)
  have B1 : Hid (Below w.heap.size w w1) := ((Gr.refl w).alloc _).below.trans (hg.below.mono (by simp))
  have C1 : Hid (Ch w1 cb fb ff (.slice none 0 0) []) := hc
  clear hm hc hg hcb
  go_wp2_with fail
  refine (known_any _).mono ?_
  rintro e w2 ⟨rfl, hb2⟩
  have z1 := B1.out.size
  have BX2 : Hid (Bx w2 w.heap.size x) := BX1.out.below hb2 BX1.out.1
  have B2 : Hid (Below w.heap.size w w2) := B1.out.trans (hb2.mono z1)
  have C2 : Hid (Ch w2 cb fb ff (.slice none 0 0) []) := C1.out.below hb2
  clear hb2 BX1 B1 C1 z1
  go_wp2_with (at_builtin; refine wpAppL rfl _ _ rfl w2.heap.size (.slice (some ⟨w2.heap.size, 0, none⟩) 0 0) 0 [] rfl (World.ownsRow_made w2 #[] 0 (Nat.le_refl _) (by unfold maxLen; omega) rfl) _ l rfl ((HU.out.below B2.out).below ((Gr.refl w2).alloc _).below) (by omega) (by simp) ?_)
  intro v5 w5 ho5 hg5
  have b5 : Below w2.heap.size w2 w5 := ((Gr.refl w2).alloc _).below.trans ((Kp.grownBy (S := fun k => w2.heap.size ≤ k) hg5 (fun k hk => by simp [Value.ownBlock] at hk; omega)).below (by simp) (fun _ h => h))
  have z2 := B2.out.size
  have BX5 : Hid (Bx w5 w.heap.size x) := BX2.out.below b5 BX2.out.1
  have B5 : Hid (Below w.heap.size w w5) := B2.out.trans (b5.mono z2)
  have C5 : Hid (Ch w5 cb fb ff (.slice none 0 0) []) := C2.out.below b5
  have L5 : Hid (Lst w5 v5 l) := owns_lst (by simpa using ho5)
  have hcl := C2.out.lt
  have hj := join_any (bel := rbel r) (fst := rfst r) w5 C5.out L5.out (fun k hk => ⟨fun e => by have := (ho5.lt k hk).1; omega, by simp [Value.ownBlock]⟩) (by simp; omega) hf.b hf.f
  have hJl := cjoin_length (bel := rbel r) (fst := rfst r) [] l
  generalize cjoin (rbel r) (rfst r) [] l = J at hj hJl
  simp only [List.length_nil, Nat.zero_add] at hJl
  clear ho5 hg5 b5 BX2 B2 C2 z2
  go_wp2_with fail
  refine hj.mono ?_
  rintro e w6 ⟨rfl, v6, c6, t6⟩
  have z5 := B5.out.size
  have BX6 : Hid (Bx w6 w.heap.size x) := BX5.out.kp t6.1 (fun h => by rcases h with h | h; omega; simp [Value.ownBlock] at h)
  have B6 : Hid (Below w.heap.size w w6) := B5.out.trans (t6.below z5 (Nat.le_of_lt hcb') (fun g h => by simp [Value.ownBlock] at h)).1
  have hli := list_any w6 c6 (by omega)
  clear hj BX5 B5 C5 L5 z5 t6
  go_wp2_with fail
  refine hli.mono ?_
  rintro e w7 ⟨v7, rfl, ho7, hb7⟩
  have z6 := B6.out.size
  have BX7 : Hid (Bx w7 w.heap.size x) := BX6.out.below hb7 BX6.out.1
  have B7 : Hid (Below w.heap.size w w7) := B6.out.trans (hb7.mono z6)
  have hcu := cut_any (bel := rbel r) x w7 (c6.below hb7) (by omega) hf.b
  have HO7 : Hid (w7.ownsRow w6.heap.size 28 2 v7 J.length (flatP J)) := ho7
  have hcl6 := c6.lt
  obtain ⟨q0, q1, q2⟩ := BX7.out
  clear hli BX6 B6 ho7
  go_wp2_with fail
  refine hcu.mono ?_
  rintro e w8 ⟨v8, rfl, c8, k8, g8⟩
  have BX8 : Hid (Bx w8 w.heap.size x) := BX7.out.kp k8 (fun h => by omega)
  have B8 : Hid (Below w.heap.size w w8) := B7.out.trans (k8.below B7.out.size (fun k hk => by omega))
  have O8 : Hid (w8.ownsRow w6.heap.size 28 2 v7 J.length (flatP J)) := owns_kp k8 HO7.out (fun k hk e => by have := (HO7.out.lt k hk).1; omega)
  have L8 : Hid (Lst w8 v7 J) := owns_lst O8.out
  obtain ⟨p7, c7, rfl⟩ := L8.out.form
  have C8 : Hid (Ch w8 cb fb ff v8 (ccut (rbel r) J x)) := c8
  have hml := ccut_length (bel := rbel r) J x
  obtain ⟨M, hM⟩ : ∃ M, M = ccut (rbel r) J x := ⟨_, rfl⟩
  rw [← hM] at hml ⊢
  have HM : Hid (M = ccut (rbel r) J x) := hM
  clear hcu BX7 B7 q0 q1 q2 hb7 k8 HO7 O8 c8 g8 c6 hM z6
  go_wp2_with fail
  go_loopw [10, 11] (fun s10 s11 wr => ∃ k : Nat, k ≤ J.length ∧ s11 = .int .i64 k ∧ wr.ownsRow w8.heap.size 28 2 s10 (ccut (rbel r) (J.take k) x).length (flatP (ccut (rbel r) (J.take k) x)) ∧ Below w8.heap.size w8 wr) (fun _ s11 _ => J.length - (RowKit.intOf s11).toNat)
  case atStart => exact ⟨0, Nat.zero_le _, rfl, by simp [ccut, flatP]; exact World.ownsRow_nil _ _ _ _, Below.refl _ _⟩
  case round =>
    obtain ⟨k, hk, rfl, hown, hbw⟩ := hrel
    have hsz := hbw.size
    by_cases hlt : k < J.length
    · have hltz : (k : Int) < (J.length : Int) := by omega
      obtain ⟨y, hy⟩ : ∃ y, J[k]? = some y := ⟨J[k], by simp⟩
      obtain ⟨b1, o1, c1, e1, y0, y1, y2⟩ := (L8.out.below hbw).at2 hy
      simp only [Value.slice.injEq] at e1
      obtain ⟨rfl, -, rfl⟩ := e1
      obtain ⟨a0, a1, a2⟩ := BX8.out.below hbw BX8.out.1
      obtain ⟨g1, g2⟩ := Bx.grown ⟨a0, a1, a2⟩
      have g3 := cell_grown (a := ⟨b1, o1 + k * 2, none⟩) y0 y1
      have g4 := cell_grown (a := ⟨b1, o1 + k * 2 + 1, none⟩) y0 y2
      have HY : Hid (ccut (rbel r) (J.take (k + 1)) x = ccut (rbel r) (J.take k) x ++ (if rbel r x y then [] else [y])) := ccut_take_succ hy
      have hcl := ccut_le (bel := rbel r) (m := J) (x := x) k
      have hBel := fun W => Below_any r x y W
      clear hy
      generalize ccut (rbel r) (J.take k) x = f at *
      cases hq : rbel r x y with
      | true =>
        rw [hq] at hBel
        have HE : Hid (ccut (rbel r) (J.take (k + 1)) x = f) := by rw [HY.out, hq]; simp [Hid]
        clear hq y1 y2 a1 a2
        go_wp2_with fail
        go_quiet_grown (first | (go_at_call 20; refine Calls.grown_of (v := .bool true) (hBel _)))
        have G9 : Gr wr (grow (wr.drewN nq) osq) := ((Gr.refl _).drewN _).grown _
        go_wp2
        refine ⟨⟨k + 1, by omega, by go_num, by rw [HE.out]; exact owns_below hown G9.below, hbw.trans (G9.below.mono hsz)⟩, by simp [RowKit.intOf]; omega⟩
      | false =>
        rw [hq] at hBel
        have HE : Hid (ccut (rbel r) (J.take (k + 1)) x = f ++ [y]) := by rw [HY.out, hq]; simp [Hid]
        clear hq y1 y2 a1 a2
        go_wp2_with fail
        go_quiet_grown (first | (go_at_call 20; refine Calls.grown_of (v := .bool false) (hBel _)))
        have G9 : Gr wr (grow (wr.drewN nq) osq) := ((Gr.refl _).drewN _).grown _
        have hy3 := g3 nq osq
        have hy4 := g4 nq osq
        generalize grow (wr.drewN nq) osq = w9 at *
        have hown9 := owns_below hown G9.below
        have hs9 := G9.size
        clear g1 g2 g3 g4
        go_wp2_with (at_builtin; refine wpApp1 rfl _ _ rfl w8.heap.size _ f.length _ rfl hown9 y rfl (by omega) (by omega) ?_)
        intro g10 c10 w10 ho10 hg10 hl10
        go_wp2
        refine ⟨⟨k + 1, by omega, by go_num, ?_, ?_⟩, by simp [RowKit.intOf]; omega⟩
        · rw [HE.out]
          simpa [flatP_append, flatP_one] using ho10
        · exact (hbw.trans (G9.below.mono hsz)).trans ((Kp.grownBy (S := fun k => w8.heap.size ≤ k) hg10 (fun k hk => (hown9.lt k hk).1)).below (by omega) (fun _ h => h))
    · have hltz : ¬ (k : Int) < (J.length : Int) := by omega
      rw [List.take_of_length_le (by omega), ← HM.out] at hown
      have LW : Hid (Lst wr u10 M) := owns_lst hown
      obtain ⟨pw, cw, rfl⟩ := LW.out.form
      have CR : Hid (Ch wr cb fb ff v8 M) := by
        have := C8.out.below hbw
        rw [← HM.out] at this
        exact this
      have BXR : Hid (Bx wr w.heap.size x) := BX8.out.below hbw BX8.out.1
      have BR : Hid (Below w.heap.size w wr) := B8.out.trans (hbw.mono B8.out.size)
      have zz : IntKind.i64.wrap ((J.length : Int) - (M.length : Int)) = ((J.length - M.length : Nat) : Int) := by rw [IntKind.wrap_i64]; omega
      have hli := list_any wr CR.out (by omega)
      clear hown hbw BX8 B8 C8
      go_wp2_with fail
      refine hli.mono ?_
      rintro e w9 ⟨v9, rfl, ho9, hb9⟩
      have L9 : Hid (Lst w9 v9 M) := owns_lst ho9
      have BX9 : Hid (Bx w9 w.heap.size x) := BXR.out.below hb9 BXR.out.1
      have B9 : Hid (Below w.heap.size w w9) := BR.out.trans (hb9.mono BR.out.size)
      have C9 : Hid (Ch w9 cb fb ff v8 M) := CR.out.below hb9
      have hsm := same_any v9 _ M M w9 L9.out (LW.out.below hb9) (by unfold maxLen; omega)
      rw [decide_eq_true rfl] at hsm
      clear hli ho9 hb9 CR BXR BR LW zz
      go_wp2_with fail
      refine hsm.mono ?_
      rintro e w10 ⟨rfl, hg10⟩
      have BX10 : Hid (Bx w10 w.heap.size x) := BX9.out.below hg10.below BX9.out.1
      have B10 : Hid (Below w.heap.size w w10) := B9.out.trans (hg10.below.mono B9.out.size)
      have C10 : Hid (Ch w10 cb fb ff v8 M) := C9.out.below hg10.below
      obtain ⟨q0, q1, q2⟩ := BX10.out
      have hcu := cut_any (bel := rbel r) x w10 C10.out (by omega) hf.b
      have hMM : ccut (rbel r) M x = M := by rw [HM.out, ccut_twice]
      rw [hMM, Nat.sub_self] at hcu
      clear hsm BX9 B9 C9 L9 hMM
      go_wp2_with fail
      refine hcu.mono ?_
      rintro e w11 ⟨v11, rfl, c11, k11, g11⟩
      have BX11 : Hid (Bx w11 w.heap.size x) := BX10.out.kp k11 (fun h => by omega)
      have B11 : Hid (Below w.heap.size w w11) := B10.out.trans (k11.below B10.out.size (fun k hk => by omega))
      have hcr := clear_any w11 c11
      clear hcu BX10 B10 C10 q0 q1 q2 hg10
      go_wp2_with fail
      refine hcr.mono ?_
      rintro e w12 ⟨rfl, c12, k12⟩
      have BX12 : Hid (Bx w12 w.heap.size x) := BX11.out.kp k12 (fun h => by omega)
      have B12 : Hid (Below w.heap.size w w12) := B11.out.trans (k12.below B11.out.size (fun k hk => by omega))
      have C12 : Hid (Ch w12 cb fb ff (.slice none 0 0) []) := c12
      have hle := len_any w12 c12
      clear hcr BX11 B11 c11 k11 g11 k12 c12
      go_wp2_with fail
      refine hle.mono ?_
      rintro e w13 ⟨rfl, rfl⟩
      have hl2 := list_any w13 C12.out (by decide)
      clear hle
      go_wp2_with fail
      refine hl2.mono ?_
      rintro e w14 ⟨v14, rfl, ho14, hb14⟩
      have L14 : Lst w14 v14 [] := owns_lst ho14
      obtain ⟨p14, c14, rfl⟩ := L14.form
      have BX14 : Hid (Bx w14 w.heap.size x) := BX12.out.below hb14 BX12.out.1
      have B14 : Hid (Below w.heap.size w w14) := B12.out.trans (hb14.mono B12.out.size)
      obtain ⟨q0, q1, q2⟩ := BX14.out
      have hcv := covers_any (bel := rbel r) x w14 (C12.out.below hb14) (by decide) hf.b
      rw [show ccov (rbel r) [] x = false from rfl] at hcv
      clear hl2 ho14 hb14 L14
      go_wp2_with fail
      refine hcv.mono ?_
      rintro e w15 ⟨rfl, hg15⟩
      go_wp2
      go_ret
      exact ⟨rfl, B14.out.trans (hg15.below.mono B14.out.size)⟩
end Go.Proofs.Ytbomkeginbhhoaa
