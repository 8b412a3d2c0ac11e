import Derived.Test.YtplbcamliiajdaaYBld
namespace Go.Proofs.Ytplbcamliiajdaa
open Go.RowKit Go.Sort Go.Maps
attribute [local go_sem ↓] Go.wp_at_zero Go.wp_at_succ

theorem third_any (n : Int) (w : World) : Calls Try.prog 18 #[.int .i64 n] w fun e w' => ∃ q : Nat, q < 3 ∧ e = .returned (.int .i64 q) ∧ w' = w := by
  have h1 := Int.tmod_lt_of_pos n (b := 3) (by decide)
  have h2 := Int.lt_tmod_of_pos n (b := 3) (by decide)
  go_enter Try.func18, Try.ntmps18
  go_wp2
  go_ret
  refine ⟨((n.tmod 3 + 3) % 3).toNat, by omega, ?_, rfl⟩
  rw [Int.toNat_of_nonneg (by omega)]
  rfl
theorem infoTP : (Try.prog.info? 23).map (fun i => (i.zero, i.size, i.bytes)) = some (some (.pointer none), 1, 8) := by kernel_rfl
theorem infoRP : (Try.prog.info? 44).map (fun i => (i.zero, i.size, i.bytes)) = some (some (.pointer none), 1, 8) := by kernel_rfl

theorem wpAnyH_strong {P : Program} {ops : Array Oper} {Q : Exit → Act → World → Prop} {md : Region.Mode} {S S' : World → Prop} (hS : ∀ w, S' w → S w) :
    ∀ (fuel : Nat) (listed : Array Bool) (a : Act) (w : World), wpAnyH P md ops Q S' fuel listed a w → wpAnyH P md ops Q S fuel listed a w
  | 0, _, _, _, h => h
  | fuel + 1, _, _, _, h => ⟨h.1, fun i hi => wpOp_mono (fun a' w' h' => ⟨hS _ h'.1, wpAnyH_strong hS fuel _ a' w' h'.2⟩) (h.2 i hi)⟩
/-- A pointer at a block's first cell. -/
abbrev ptr (a : Nat) : Value := .pointer (some ⟨a, 0, none⟩)
abbrev bs0 : BS := ⟨⟨#[]⟩, by decide⟩
/-- The pair q of the six answers alike. -/
theorem alike_six {bA bR base : Nat} {X : Nat → Tb} {R : Nat → Rf} {kT kR : Nat → Int} {F : Nat → BS → Int} {N : Nat → List Rk} {C : Nat → List Int} {U : List Rk} (key : BS) (q : Nat) (hq : q < 3) (w : World)
    (hs : Six w bA bR X R kT kR (fun _ => U.length) F N C base) (hf : Fit3 U kT kR F N C) (hU : U.length ≤ 1000) :
    Calls Try.prog 20 #[tp (X q), rp (R q), .string key.1] w fun e w' => e = .returned (.bool true) ∧ Below w.heap.size w w' := by
  have h1 := hs.rt q hq
  rw [← hf.kd q hq] at h1
  exact alike_any key w (hs.tl q hq) (hs.od q hq).1 h1 (hs.od q hq).2 (hf.rl q hq) (by omega)
theorem alike_at {bA bR base : Nat} {X : Nat → Tb} {R : Nat → Rf} {kT kR : Nat → Int} {F : Nat → BS → Int} {N : Nat → List Rk} {C : Nat → List Int} {U : List Rk} (key : BS) (q : Nat) (hq : q < 3) (w : World) {p r : Nat} (hp : (X q).t = p) (hr : (R q).b = r)
    (hs : Six w bA bR X R kT kR (fun _ => U.length) F N C base) (hf : Fit3 U kT kR F N C) (hU : U.length ≤ 1000) :
    Calls Try.prog 20 #[ptr p, ptr r, .string key.1] w fun e w' => e = .returned (.bool true) ∧ Below w.heap.size w w' := by
  subst hp
  subst hr
  exact alike_six key q hq w hs hf hU
/-- A step of the six. -/
theorem step_six {bA bR base cA cR : Nat} {X : Nat → Tb} {R : Nat → Rf} {kT kR : Nat → Int} {F : Nat → BS → Int} {N : Nat → List Rk} {C : Nat → List Int} {U : List Rk} (o : Opx) (i j : Nat) (hi : i < 3) (hj : j < 3) (w : World)
    (hs : Six w bA bR X R kT kR (fun _ => U.length) F N C base) (hf : Fit3 U kT kR F N C) (hU : U.length ≤ 1000) (hbs : base ≤ w.heap.size) :
    Calls Try.prog 19 #[.slice (some ⟨bA, 0, none⟩) 3 cA, .slice (some ⟨bR, 0, none⟩) 3 cR, ov o, .int .i64 i, .int .i64 j] w fun e w' => e = .returned (.bool true) ∧ ∃ (X' : Nat → Tb) (R' : Nat → Rf) (kT' kR' : Nat → Int) (F' : Nat → BS → Int) (N' : Nat → List Rk) (C' : Nat → List Int),
      w'.cell? ⟨bA, i, none⟩ = some (ptr (pT X w o.k i i)) ∧ w'.cell? ⟨bA, j, none⟩ = some (ptr (pT X w o.k i j)) ∧ w'.cell? ⟨bR, i, none⟩ = some (ptr (pR R w o.k i i)) ∧ w'.cell? ⟨bR, j, none⟩ = some (ptr (pR R w o.k i j)) ∧ bA < w'.heap.size ∧ bR < w'.heap.size ∧ Hid (Kp (fun k => ∃ a, Own X R bA bR a k) w w' ∧ Six w' bA bR X' R' kT' kR' (fun _ => (U ++ [(o.key, 0)]).length) F' N' C' base ∧ Fit3 (U ++ [(o.key, 0)]) kT' kR' F' N' C' ∧ (∀ q, (X' q).t = pT X w o.k i q) ∧ ∀ q, (R' q).b = pR R w o.k i q) := by
  refine (step_any o i j hi hj w hs hf hU hbs).mono fun e w' hp => ?_
  obtain ⟨he, X', R', kT', kR', nn', F', N', C', h1, h2, h3, h4, h5⟩ := hp
  have a1 := (h1.cellA hi).1
  have a2 := (h1.cellA hj).1
  have b1 := (h1.cellR hi).1
  have b2 := (h1.cellR hj).1
  unfold tp at a1 a2
  unfold rp at b1 b2
  rw [h4] at a1 a2
  rw [h5] at b1 b2
  exact ⟨he, X', R', kT', kR', F', N', C', a1, a2, b1, b2, (h1.cellA hi).2.2, (h1.cellR hi).2.2, h3, h1.norm h2, h2, h4, h5⟩

set_option maxHeartbeats 8000000 in
set_option maxRecDepth 100000 in
theorem tallyPlays_any (v0 : Value) (ops : List Opx) (w : World) (hl : Lo w v0 ops) (hlen : ops.length ≤ 9223372036854775807) :
    Calls Try.prog 5 #[v0] w fun e w' => e = .returned (.bool true) ∧ Below w.heap.size w w' := by
  have hmx : Try.prog.follows .mixedOrders = true := by kernel_rfl
  obtain ⟨p0, c0, rfl, hc0⟩ := hl.form
  have HL : Hid (Lo w (.slice p0 ops.length c0) ops) := hl
  obtain ⟨iT, hiT, ht0, ht1, ht2⟩ := info_parts infoTP
  obtain ⟨iR, hiR, hr0, hr1, hr2⟩ := info_parts infoRP
  clear hl
  go_enter Try.func5, Try.ntmps5
  go_wp2_with fail
  go_loopw [3, 4, 5] (fun s3 s4 s5 wr => ∃ (k : Nat) (X : Nat → Tb) (R : Nat → Rf), k ≤ 3 ∧ s5 = .int .i64 k ∧ Hid (Bld w wr k k X R s3 s4)) (fun _ _ s5 _ => 3 - (RowKit.intOf s5).toNat)
  case atStart =>
    refine ⟨0, fun _ => ⟨0, 0, 0⟩, fun _ => ⟨0, .slice none 0 0, .slice none 0 0⟩, by omega, rfl, ⟨World.ownsRow_nil _ _ _ _, World.ownsRow_nil _ _ _ _, fun i hi => by omega, fun i hi => by omega, fun a k ho => ?_, fun a b k h1 h2 => ?_, Below.refl _ _⟩⟩
    · rcases ho with ⟨h, _⟩ | ⟨h, h', h'', _⟩ | ⟨_, h⟩ | ⟨_, h⟩
      · omega
      · omega
      · simp [Value.ownBlock] at h
      · simp [Value.ownBlock] at h
    · rcases h1 with ⟨h, _⟩ | ⟨h, h', h'', _⟩ | ⟨_, h⟩ | ⟨_, h⟩
      · omega
      · omega
      · simp [Value.ownBlock] at h
      · simp [Value.ownBlock] at h
  case round =>
    obtain ⟨k, X, R, hk, rfl, HB⟩ := hrel
    by_cases hlt : k < 3
    · have hltz : (k : Int) < 3 := by omega
      have hm := made_tb (k : Int) (by omega) wr
      go_wp2_with fail
      refine hm.mono ?_
      rintro e w1 ⟨x, rfl, hx1, hx2, hO, hT, g1⟩
      have hta := HB.out.ta
      have HO1 : Hid (w1.ownsRow w.heap.size 23 1 u3 k ((List.range k).map fun i => tp (X i))) := owns_kp (Kp.of_gr (S := fun _ => False) g1) HB.out.ta (fun _ _ h => h)
      have hz := HB.out.bl.size
      have hz1 := g1.size
      clear hm hta
      go_wp2_with (at_builtin; refine wpList_append_lies _ rfl _ _ 42 rfl w.heap.size 23 iT (.pointer none) 1 8 Try.underlying42 hiT ht0 ht1 ht2 rfl (by decide) u3 k _ rfl (HO1.out.alloc _) ⟨w1.heap.size, 0, none⟩ 1 1 [tp x] rfl rfl (World.news_of_block (heap_alloc_new _ _)) (by simp [Value.oneCell']) (by decide) (by unfold maxLen; omega) (by omega) (by simp; omega) _ rfl ?_)
      intro g cap w2 ho2 hg2 hat2 hlt2
      have HB2 : Hid (Bld w w2 (k + 1) k (st X k x) R (.slice (some ⟨g, 0, none⟩) (k + 1) cap) u4) :=
        HB.out.stepT hlt hx1 hx2 (hT.gr ((Gr.refl _).alloc _)) hO (g1.alloc _) ho2 (Kp.grownBy (S := fun q => u3.ownBlock = some q) hg2 (fun _ h => h)) (fun q hq => by
          have : q = g := by simpa [Value.ownBlock] using hq.symm
          rw [this]
          exact hat2.imp id (fun e => by rw [e]; simp))
      have hra := HB2.out.ra
      have hz2 := HB2.out.bl.size
      clear ho2 hg2 hat2 hlt2 HO1 HB hT hO g1 hx1 hx2
      obtain ⟨W3, hW3⟩ : ∃ W3, W3 = w2.alloc (.cells #[.int .i64 (k : Int), .slice none 0 0, .slice none 0 0] 48) := ⟨_, rfl⟩
      have HT3 : Hid (RT W3 ⟨w2.heap.size, .slice none 0 0, .slice none 0 0⟩ k [] []) := by
        rw [hW3]
        exact ⟨heap_alloc_new _ _, World.ownsRow_nil _ _ _ _, World.ownsRow_nil _ _ _ _, rfl, by simp [Value.ownBlock], by simp [Value.ownBlock], fun g hg => by simp [Value.ownBlock] at hg, by simp, by simp, by simp⟩
      have HG3 : Hid (Gr w2 W3) := by rw [hW3]; exact (Gr.refl _).alloc _
      have HO3 : Hid (W3.ownsRow w.heap.size 44 1 u4 k ((List.range k).map fun i => rp (R i))) := owns_kp (Kp.of_gr (S := fun _ => False) HG3.out) HB2.out.ra (fun _ _ h => h)
      have hz3 : W3.heap.size = w2.heap.size + 1 := by rw [hW3]; simp
      have HZ3 : Hid (W3.heap.size = w2.heap.size + 1) := hz3
      clear hra hz3
      subst hW3
      go_wp2_with (at_builtin; refine wpList_append_lies _ rfl _ _ 43 rfl w.heap.size 44 iR (.pointer none) 1 8 Try.underlying43 hiR hr0 hr1 hr2 rfl (by decide) u4 k _ rfl (HO3.out.alloc _) ⟨w2.heap.size + 1, 0, none⟩ 1 1 [rp ⟨w2.heap.size, .slice none 0 0, .slice none 0 0⟩] rfl rfl (by rw [← HZ3.out]; exact World.news_of_block (heap_alloc_new _ _)) (by simp [Value.oneCell']) (by decide) (by unfold maxLen; omega) (by omega) (by simp; omega) _ rfl ?_)
      intro g4 cap4 w4 ho4 hg4 hat4 hlt4
      have HB4 : Hid (Bld w w4 (k + 1) (k + 1) (st X k x) (st R k ⟨w2.heap.size, .slice none 0 0, .slice none 0 0⟩) (.slice (some ⟨g, 0, none⟩) (k + 1) cap) (.slice (some ⟨g4, 0, none⟩) (k + 1) cap4)) :=
        HB2.out.stepR hlt ⟨w2.heap.size, .slice none 0 0, .slice none 0 0⟩ (Nat.le_refl _) rfl rfl (HT3.out.gr ((Gr.refl _).alloc _)) (HG3.out.alloc _) ho4 (Kp.grownBy (S := fun q => u4.ownBlock = some q) hg4 (fun _ h => h)) (fun q hq => by
          have : q = g4 := by simpa [Value.ownBlock] using hq.symm
          rw [this]
          exact hat4.imp id (fun e => by rw [e]; simp))
      clear ho4 hg4 hat4 hlt4 HO3 HB2 HT3 HG3
      go_wp2
      exact ⟨⟨k + 1, _, _, by omega, by go_num, HB4.out⟩, by simp [RowKit.intOf]; omega⟩
    · have hltz : ¬ (k : Int) < 3 := by omega
      obtain rfl : k = 3 := by omega
      obtain ⟨gA, cA, gR, cR, rfl, rfl, hsix, hfit⟩ := HB.out.six
      have HS0 : Hid (Six wr gA gR X R (fun i => i) (fun i => i) (fun _ => 0) (fun _ _ => 0) (fun _ => []) (fun _ => []) w.heap.size) := hsix
      have HF0 : Hid (Fit3 [] (fun i => i) (fun i => i) (fun _ _ => 0) (fun _ => []) (fun _ => [])) := hfit
      have HB0 : Hid (Below w.heap.size w wr) := HB.out.bl
      have hkn := known_any wr
      clear HB hsix hfit hiT ht0 ht1 ht2 hiR hr0 hr1 hr2 hk hlt
      generalize wr = w1 at *
      go_wp2_with fail
      refine hkn.mono ?_
      rintro e w2 ⟨rfl, b2⟩
      have HS2 : Hid (Six w2 gA gR X R (fun i => i) (fun i => i) (fun _ => 0) (fun _ _ => 0) (fun _ => []) (fun _ => []) w.heap.size) := HS0.out.bel b2
      have HB2 : Hid (Below w.heap.size w w2) := HB0.out.trans (b2.mono HB0.out.size)
      clear HS0 HB0 b2 hkn
      go_wp2_with fail
      go_loopw [6, 7, 8, 9, 29] (fun _ _ _ _ s29 wr => ∃ (k : Nat) (U : List Rk) (X : Nat → Tb) (R : Nat → Rf) (kT kR : Nat → Int) (F : Nat → BS → Int) (N : Nat → List Rk) (C : Nat → List Int), k ≤ ops.length ∧ k ≤ 300 ∧ s29 = .int .i64 k ∧ Hid (U.length = k ∧ Six wr gA gR X R kT kR (fun _ => U.length) F N C w.heap.size ∧ Fit3 U kT kR F N C ∧ Below w.heap.size w wr)) (fun _ _ _ _ s29 _ => ops.length - (RowKit.intOf s29).toNat)
      case atStart => exact ⟨0, [], _, _, _, _, _, _, _, by omega, by omega, rfl, rfl, HS2.out, HF0.out, HB2.out⟩
      case round =>
        clear HS2 HF0 HB2
        obtain ⟨k, U, X, R, kT, kR, F, N, C, hk, hk3, rfl, HI⟩ := hrel
        by_cases hlt : k < ops.length
        · have hltz : (k : Int) < (ops.length : Int) := by omega
          obtain ⟨o, ho⟩ : ∃ o, ops[k]? = some o := ⟨ops[k], by simp⟩
          obtain ⟨bb, off, cc, e1, zb, y0, y1, y2, y3, y4⟩ := (HL.out.below (Nat.le_refl _) HI.out.2.2.2).at5 ho
          simp only [Value.slice.injEq] at e1
          obtain ⟨rfl, -, rfl⟩ := e1
          clear ho
          by_cases h300 : k = 300
          · subst h300
            have h300z : (((300 : Nat) : Int) == 300) = true := by decide
            obtain ⟨W1, hW1⟩ : ∃ W1, W1 = wr.alloc (.cells #[.int .i64 o.k, .int .i64 o.i, .int .i64 o.j, .string o.key.1, .int .i64 o.n] 27) := ⟨_, rfl⟩
            have HG1 : Hid (Gr wr W1) := by rw [hW1]; exact (Gr.refl _).alloc _
            have HSW : Hid (Six W1 gA gR X R kT kR (fun _ => U.length) F N C w.heap.size) := HI.out.2.1.gr HG1.out
            have HSE : Hid (Six W1.drew gA gR X R kT kR (fun _ => U.length) F N C w.heap.size) := HSW.out.gr (Gr.refl _).drew
            have HFE : Hid (Fit3 U kT kR F N C) := HI.out.2.2.1
            have hUl : U.length ≤ 1000 := by have := HI.out.1; omega
            have S0 : W1.drew.cell? ⟨gA, 0, none⟩ = some (tp (X 0)) ∧ W1.drew.cell? ⟨gA, 1, none⟩ = some (tp (X 1)) ∧ W1.drew.cell? ⟨gA, 2, none⟩ = some (tp (X 2)) ∧ W1.drew.cell? ⟨gR, 0, none⟩ = some (rp (R 0)) ∧ W1.drew.cell? ⟨gR, 1, none⟩ = some (rp (R 1)) ∧ W1.drew.cell? ⟨gR, 2, none⟩ = some (rp (R 2)) ∧ gA < W1.drew.heap.size ∧ gR < W1.drew.heap.size := ⟨(HSE.out.cellA (by decide)).1, (HSE.out.cellA (by decide)).1, (HSE.out.cellA (by decide)).1, (HSE.out.cellR (by decide)).1, (HSE.out.cellR (by decide)).1, (HSE.out.cellR (by decide)).1, (HSE.out.cellA (i := 0) (by decide)).2.2, (HSE.out.cellR (i := 0) (by decide)).2.2⟩
            have keepB : ∀ V V' : World, (V.cell? ⟨gA, 0, none⟩ = some (tp (X 0)) ∧ V.cell? ⟨gA, 1, none⟩ = some (tp (X 1)) ∧ V.cell? ⟨gA, 2, none⟩ = some (tp (X 2)) ∧ V.cell? ⟨gR, 0, none⟩ = some (rp (R 0)) ∧ V.cell? ⟨gR, 1, none⟩ = some (rp (R 1)) ∧ V.cell? ⟨gR, 2, none⟩ = some (rp (R 2)) ∧ gA < V.heap.size ∧ gR < V.heap.size) → Below V.heap.size V V' → (V'.cell? ⟨gA, 0, none⟩ = some (tp (X 0)) ∧ V'.cell? ⟨gA, 1, none⟩ = some (tp (X 1)) ∧ V'.cell? ⟨gA, 2, none⟩ = some (tp (X 2)) ∧ V'.cell? ⟨gR, 0, none⟩ = some (rp (R 0)) ∧ V'.cell? ⟨gR, 1, none⟩ = some (rp (R 1)) ∧ V'.cell? ⟨gR, 2, none⟩ = some (rp (R 2)) ∧ gA < V'.heap.size ∧ gR < V'.heap.size) := fun V V' h hb =>
              ⟨(hb.cell (p := ⟨gA, 0, none⟩) h.2.2.2.2.2.2.1).trans h.1, (hb.cell (p := ⟨gA, 1, none⟩) h.2.2.2.2.2.2.1).trans h.2.1, (hb.cell (p := ⟨gA, 2, none⟩) h.2.2.2.2.2.2.1).trans h.2.2.1, (hb.cell (p := ⟨gR, 0, none⟩) h.2.2.2.2.2.2.2).trans h.2.2.2.1, (hb.cell (p := ⟨gR, 1, none⟩) h.2.2.2.2.2.2.2).trans h.2.2.2.2.1, (hb.cell (p := ⟨gR, 2, none⟩) h.2.2.2.2.2.2.2).trans h.2.2.2.2.2.1, Nat.lt_of_lt_of_le h.2.2.2.2.2.2.1 hb.size, Nat.lt_of_lt_of_le h.2.2.2.2.2.2.2 hb.size⟩
            go_wp2_with fail
            rw [← hW1]
            clear hW1
            go_region_held3 (fun w' => w'.cell? ⟨gA, 0, none⟩ = some (tp (X 0)) ∧ w'.cell? ⟨gA, 1, none⟩ = some (tp (X 1)) ∧ w'.cell? ⟨gA, 2, none⟩ = some (tp (X 2)) ∧ w'.cell? ⟨gR, 0, none⟩ = some (rp (R 0)) ∧ w'.cell? ⟨gR, 1, none⟩ = some (rp (R 1)) ∧ w'.cell? ⟨gR, 2, none⟩ = some (rp (R 2)) ∧ gA < w'.heap.size ∧ gR < w'.heap.size)
              (first | exact S0 | exact keepB _ _ (by assumption) (by assumption))
              (first | (go_at_call 20; refine (alike_six bs0 2 (by decide) _ ((HSE.out.bel b5).bel b6) HFE.out hUl).mono ?_; rintro e w7 ⟨rfl, b7⟩) | (go_at_call 20; refine (alike_six bs0 1 (by decide) _ (HSE.out.bel b5) HFE.out hUl).mono ?_; rintro e w6 ⟨rfl, b6⟩) | (go_at_call 20; refine (alike_six bs0 0 (by decide) _ HSE.out HFE.out hUl).mono ?_; rintro e w5 ⟨rfl, b5⟩))
            have HN : Hid (Below w.heap.size w w7) := by
              have q1 : Below w.heap.size w W1.drew := (HI.out.2.2.2.trans (HG1.out.below.mono HI.out.2.2.2.size)).trans ((Gr.refl W1).drew.below.mono (Nat.le_trans HI.out.2.2.2.size HG1.out.size))
              have q2 := q1.trans (b5.mono q1.size)
              have q3 := q2.trans (b6.mono q2.size)
              exact q3.trans (b7.mono q3.size)
            clear HG1 HSW S0 keepB b5 b6 b7 HSE HFE HI
            go_wp2
            go_ret
            exact ⟨rfl, HN.out⟩
          · have h300z : ((k : Int) == 300) = false := by simp; omega
            go_wp2_with fail
            refine (third_any o.i _).mono ?_
            rintro e w3 ⟨i, hi, rfl, rfl⟩
            go_wp2_with fail
            refine (third_any o.j _).mono ?_
            rintro e w4 ⟨j, hj, rfl, rfl⟩
            go_wp2_with fail
            obtain ⟨W1, hW1⟩ : ∃ W1, W1 = wr.alloc (.cells #[.int .i64 o.k, .int .i64 o.i, .int .i64 o.j, .string o.key.1, .int .i64 o.n] 27) := ⟨_, rfl⟩
            have HG1 : Hid (Gr wr W1) := by rw [hW1]; exact (Gr.refl _).alloc _
            have hz1 : W1.heap.size = wr.heap.size + 1 := by rw [hW1]; simp
            have hblk : W1.heap[wr.heap.size]? = some (.cells #[.int .i64 o.k, .int .i64 o.i, .int .i64 o.j, .string o.key.1, .int .i64 o.n] 27 (0, 0)) := by rw [hW1]; exact heap_alloc_new _ _
            have HS1 : Hid (Six W1.drew gA gR X R kT kR (fun _ => U.length) F N C w.heap.size) := (HI.out.2.1.gr HG1.out).gr (Gr.refl _).drew
            have hbs1 : w.heap.size ≤ W1.heap.size := by have := HI.out.2.2.2.size; omega
            have hUl : U.length ≤ 1000 := by have := HI.out.1; omega
            have hstep := step_six (cA := cA) (cR := cR) o i j hi hj W1.drew HS1.out HI.out.2.2.1 hUl hbs1
            have hnot : Hid (¬ ∃ a, Own X R gA gR a wr.heap.size) := fun ⟨a, ha⟩ => by have := HI.out.2.1.own_lt ha; omega
            have S0 : W1.drew.cell? ⟨wr.heap.size, 0, none⟩ = some (.int .i64 o.k) ∧ W1.drew.cell? ⟨wr.heap.size, 1, none⟩ = some (.int .i64 o.i) ∧ W1.drew.cell? ⟨wr.heap.size, 2, none⟩ = some (.int .i64 o.j) ∧ W1.drew.cell? ⟨wr.heap.size, 3, none⟩ = some (.string o.key.1) ∧ W1.drew.cell? ⟨wr.heap.size, 4, none⟩ = some (.int .i64 o.n) := by
              refine ⟨?_, ?_, ?_, ?_, ?_⟩ <;> (show W1.cell? _ = _; simp [World.cell?, hblk])
            have hiz : (i : Int) < 3 := by omega
            have hjz : (j : Int) < 3 := by omega
            have hU1 : (U ++ [(o.key, 0)]).length ≤ 1000 := by rw [List.length_append]; have := HI.out.1; simp; omega
            obtain ⟨U1, hUe⟩ : ∃ U1, U1 = U ++ [((o.key, 0) : Rk)] := ⟨_, rfl⟩
            rw [← hUe] at hstep hU1
            have hUl1 : U1.length = k + 1 := by rw [hUe, List.length_append]; have := HI.out.1; simp; omega
            have HU1 : Hid (U1.length = k + 1) := hUl1
            have hopl : wr.heap.size < W1.drew.heap.size := by show wr.heap.size < W1.heap.size; omega
            clear y0 y1 y2 y3 y4 hblk hUe hUl1 hz1
            rw [← hW1]
            clear hW1
            have HOP : Hid (∀ w5 : World, Kp (fun k => ∃ a, Own X R gA gR a k) W1.drew w5 → (w5.cell? ⟨wr.heap.size, 0, none⟩ = some (.int .i64 o.k) ∧ w5.cell? ⟨wr.heap.size, 1, none⟩ = some (.int .i64 o.i) ∧ w5.cell? ⟨wr.heap.size, 2, none⟩ = some (.int .i64 o.j) ∧ w5.cell? ⟨wr.heap.size, 3, none⟩ = some (.string o.key.1) ∧ w5.cell? ⟨wr.heap.size, 4, none⟩ = some (.int .i64 o.n))) := fun w5 h => by
              have e : ∀ q, w5.cell? ⟨wr.heap.size, q, none⟩ = W1.drew.cell? ⟨wr.heap.size, q, none⟩ := fun q => World.cell?_of_block (a := ⟨wr.heap.size, q, none⟩) (h.block _ hopl hnot.out)
              exact ⟨(e 0).trans S0.1, (e 1).trans S0.2.1, (e 2).trans S0.2.2.1, (e 3).trans S0.2.2.2.1, (e 4).trans S0.2.2.2.2⟩
            have HLT : Hid (wr.heap.size < W1.drew.heap.size) := hopl
            refine wp_region_held_drew (S := (fun w' => w'.cell? ⟨wr.heap.size, 0, none⟩ = some (.int .i64 o.k) ∧ w'.cell? ⟨wr.heap.size, 1, none⟩ = some (.int .i64 o.i) ∧ w'.cell? ⟨wr.heap.size, 2, none⟩ = some (.int .i64 o.j) ∧ w'.cell? ⟨wr.heap.size, 3, none⟩ = some (.string o.key.1) ∧ w'.cell? ⟨wr.heap.size, 4, none⟩ = some (.int .i64 o.n))) (by kernel_rfl) S0 (fun hHeld => ?_)
            refine' wpAnyH_take (i := 0) (oi := { dst := some 42, op := Op.move (Operand.tmp 3), type := 42, pos := "law.go:105", after := #[], guard := none }) (v := _) rfl (by kernel_rfl) (by kernel_rfl) (by kernel_rfl) (fun _ _ _ h => h) (Or.inl ⟨by rfl, ?hy0⟩) (by assumption) ?rest0
            case hy0 => (intro w hSw; (try dsimp only at hSw); go_simp; try (with_reducible rfl))
            try simp only [Act.put, List.setIfInBounds_toArray, List.set_cons_zero, List.set_cons_succ]
            refine' wpAnyH_take (i := 1) (oi := { dst := some 43, op := Op.move (Operand.tmp 4), type := 43, pos := "law.go:105", after := #[], guard := none }) (v := _) rfl (by kernel_rfl) (by kernel_rfl) (by kernel_rfl) (fun _ _ _ h => h) (Or.inl ⟨by rfl, ?hy1⟩) (by assumption) ?rest1
            case hy1 => (intro w hSw; (try dsimp only at hSw); go_simp; try (with_reducible rfl))
            try simp only [Act.put, List.setIfInBounds_toArray, List.set_cons_zero, List.set_cons_succ]
            refine' wpAnyH_take (i := 2) (oi := { dst := some 44, op := Op.load 27 (Operand.tmp 7), type := 27, pos := "law.go:105", after := #[], guard := none }) (v := _) rfl (by kernel_rfl) (by kernel_rfl) (by kernel_rfl) (fun _ _ _ h => h) (Or.inl ⟨by rfl, ?hy2⟩) (by assumption) ?rest2
            case hy2 => (intro w hSw; (try dsimp only at hSw); go_simp; try (with_reducible rfl))
            try simp only [Act.put, List.setIfInBounds_toArray, List.set_cons_zero, List.set_cons_succ]
            refine' wpAnyH_take (i := 3) (oi := { dst := some 45, op := Op.move (Operand.tmp 8), type := 3, pos := "law.go:105", after := #[], guard := none }) (v := _) rfl (by kernel_rfl) (by kernel_rfl) (by kernel_rfl) (fun _ _ _ h => h) (Or.inl ⟨by rfl, ?hy3⟩) (by assumption) ?rest3
            case hy3 => (intro w hSw; (try dsimp only at hSw); go_simp; try (with_reducible rfl))
            try simp only [Act.put, List.setIfInBounds_toArray, List.set_cons_zero, List.set_cons_succ]
            refine' wpAnyH_take (i := 4) (oi := { dst := some 46, op := Op.move (Operand.tmp 9), type := 3, pos := "law.go:105", after := #[], guard := none }) (v := _) rfl (by kernel_rfl) (by kernel_rfl) (by kernel_rfl) (fun _ _ _ h => h) (Or.inl ⟨by rfl, ?hy4⟩) (by assumption) ?rest4
            case hy4 => (intro w hSw; (try dsimp only at hSw); go_simp; try (with_reducible rfl))
            try simp only [Act.put, List.setIfInBounds_toArray, List.set_cons_zero, List.set_cons_succ]
            refine wpAnyH_ready (rs := [5]) (by kernel_rfl) (by simp) ?_
            refine AllReadyH.cons (o := { dst := some 47, op := Op.call { callee := Callee.value (Operand.func 19), args := #[Operand.tmp 42, Operand.tmp 43, Operand.tmp 44, Operand.tmp 45, Operand.tmp 46], argTypes := #[42, 43, 27, 3, 3] }, type := 4, pos := "law.go:105", after := #[{ on := 0, ground := Ground.data }, { on := 1, ground := Ground.data }, { on := 2, ground := Ground.data }, { on := 3, ground := Ground.data }, { on := 4, ground := Ground.data }], guard := none }) rfl (fun K hK => ?_) AllReadyH.nil
            go_simp
            refine hstep.mono ?_
            rintro e w5 ⟨rfl, X5, R5, kT5, kR5, F5, N5, C5, a5, a5j, r5, r5j, zA, zR, H5⟩
            have hOP5 := HOP.out w5 H5.out.1
            have HSZ : Hid (wr.heap.size < w5.heap.size) := Nat.lt_of_lt_of_le HLT.out H5.out.1.size
            have HKEEP : Hid (∀ W' : World, Below w5.heap.size w5 W' → ((W'.cell? ⟨wr.heap.size, 0, none⟩ = some (.int .i64 o.k) ∧ W'.cell? ⟨wr.heap.size, 1, none⟩ = some (.int .i64 o.i) ∧ W'.cell? ⟨wr.heap.size, 2, none⟩ = some (.int .i64 o.j) ∧ W'.cell? ⟨wr.heap.size, 3, none⟩ = some (.string o.key.1) ∧ W'.cell? ⟨wr.heap.size, 4, none⟩ = some (.int .i64 o.n)) ∧ W'.cell? ⟨gA, i, none⟩ = some (ptr (pT X W1.drew o.k i i)) ∧ W'.cell? ⟨gA, j, none⟩ = some (ptr (pT X W1.drew o.k i j)) ∧ W'.cell? ⟨gR, i, none⟩ = some (ptr (pR R W1.drew o.k i i)) ∧ W'.cell? ⟨gR, j, none⟩ = some (ptr (pR R W1.drew o.k i j)))) := fun W' hb => by
              have e : ∀ q, W'.cell? ⟨wr.heap.size, q, none⟩ = w5.cell? ⟨wr.heap.size, q, none⟩ := fun q => hb.cell (p := ⟨wr.heap.size, q, none⟩) HSZ.out
              exact ⟨⟨(e 0).trans hOP5.1, (e 1).trans hOP5.2.1, (e 2).trans hOP5.2.2.1, (e 3).trans hOP5.2.2.2.1, (e 4).trans hOP5.2.2.2.2⟩, (hb.cell (p := ⟨gA, i, none⟩) zA).trans a5, (hb.cell (p := ⟨gA, j, none⟩) zA).trans a5j, (hb.cell (p := ⟨gR, i, none⟩) zR).trans r5, (hb.cell (p := ⟨gR, j, none⟩) zR).trans r5j⟩
            clear hOP5 a5 a5j r5 r5j zA zR
            go_wp2_with fail
            refine hK.out _ _ (HKEEP.out w5 (Below.refl _ _)).1 (fun _ => ?_)
            clear hK K hHeld hstep
            refine wpAnyH_strong (S' := (fun w' => (w'.cell? ⟨wr.heap.size, 0, none⟩ = some (.int .i64 o.k) ∧ w'.cell? ⟨wr.heap.size, 1, none⟩ = some (.int .i64 o.i) ∧ w'.cell? ⟨wr.heap.size, 2, none⟩ = some (.int .i64 o.j) ∧ w'.cell? ⟨wr.heap.size, 3, none⟩ = some (.string o.key.1) ∧ w'.cell? ⟨wr.heap.size, 4, none⟩ = some (.int .i64 o.n)) ∧ w'.cell? ⟨gA, i, none⟩ = some (ptr (pT X W1.drew o.k i i)) ∧ w'.cell? ⟨gA, j, none⟩ = some (ptr (pT X W1.drew o.k i j)) ∧ w'.cell? ⟨gR, i, none⟩ = some (ptr (pR R W1.drew o.k i i)) ∧ w'.cell? ⟨gR, j, none⟩ = some (ptr (pR R W1.drew o.k i j)))) (fun _ h => h.1) _ _ _ _ ?_
            have hHeld := HKEEP.out w5 (Below.refl _ _)
            try simp only [Act.put, List.setIfInBounds_toArray, List.set_cons_zero, List.set_cons_succ]
            refine' wpAnyH_take (i := 6) (oi := { dst := some 48, op := Op.unOp UnOp.not 4 (Operand.tmp 47), type := 4, pos := "law.go:105", after := #[{ on := 5, ground := Ground.data }], guard := none }) (v := _) rfl (by kernel_rfl) (by kernel_rfl) (by kernel_rfl) (fun _ _ _ h => h) (Or.inl ⟨by rfl, ?hy6⟩) (by assumption) ?rest6
            case hy6 => (intro w hSw; (try dsimp only at hSw); go_simp; try (with_reducible rfl))
            try simp only [Act.put, List.setIfInBounds_toArray, List.set_cons_zero, List.set_cons_succ]
            refine' wpAnyH_take (i := 7) (oi := { dst := some 49, op := Op.move (Operand.tmp 48), type := 4, pos := "law.go:105", after := #[{ on := 6, ground := Ground.data }, { on := 5, ground := Ground.chain }], guard := none }) (v := _) rfl (by kernel_rfl) (by kernel_rfl) (by kernel_rfl) (fun _ _ _ h => h) (Or.inl ⟨by rfl, ?hy7⟩) (by assumption) ?rest7
            case hy7 => (intro w hSw; (try dsimp only at hSw); go_simp; try (with_reducible rfl))
            try simp only [Act.put, List.setIfInBounds_toArray, List.set_cons_zero, List.set_cons_succ]
            refine' wpAnyH_take (i := 8) (oi := { dst := some 50, op := Op.move (Operand.tmp 3), type := 42, pos := "law.go:105", after := #[{ on := 7, ground := Ground.guard }], guard := some (7, false) }) (v := _) rfl (by kernel_rfl) (by kernel_rfl) (by kernel_rfl) (fun _ _ _ h => h) (Or.inl ⟨by rfl, ?hy8⟩) (by assumption) ?rest8
            case hy8 => (intro w hSw; (try dsimp only at hSw); go_simp; try (with_reducible rfl))
            try simp only [Act.put, List.setIfInBounds_toArray, List.set_cons_zero, List.set_cons_succ]
            refine' wpAnyH_take (i := 9) (oi := { dst := some 51, op := Op.move (Operand.tmp 8), type := 3, pos := "law.go:105", after := #[{ on := 7, ground := Ground.guard }], guard := some (7, false) }) (v := _) rfl (by kernel_rfl) (by kernel_rfl) (by kernel_rfl) (fun _ _ _ h => h) (Or.inl ⟨by rfl, ?hy9⟩) (by assumption) ?rest9
            case hy9 => (intro w hSw; (try dsimp only at hSw); go_simp; try (with_reducible rfl))
            try simp only [Act.put, List.setIfInBounds_toArray, List.set_cons_zero, List.set_cons_succ]
            refine' wpAnyH_take (i := 10) (oi := { dst := some 52, op := Op.indexAddr 42 (Operand.tmp 50) (Operand.tmp 51), type := 0, pos := "law.go:105", after := #[{ on := 8, ground := Ground.data }, { on := 9, ground := Ground.data }, { on := 7, ground := Ground.guard }], guard := some (7, false) }) (v := _) rfl (by kernel_rfl) (by kernel_rfl) (by kernel_rfl) (fun _ _ _ h => h) (Or.inl ⟨by rfl, ?hy10⟩) (by assumption) ?rest10
            case hy10 => (intro w hSw; (try dsimp only at hSw); go_simp; try (with_reducible rfl))
            try simp only [Act.put, List.setIfInBounds_toArray, List.set_cons_zero, List.set_cons_succ]
            refine' wpAnyH_take (i := 11) (oi := { dst := some 53, op := Op.load 23 (Operand.tmp 52), type := 23, pos := "law.go:105", after := #[{ on := 10, ground := Ground.data }, { on := 7, ground := Ground.guard }], guard := some (7, false) }) (v := _) rfl (by kernel_rfl) (by kernel_rfl) (by kernel_rfl) (fun _ _ _ h => h) (Or.inl ⟨by rfl, ?hy11⟩) (by assumption) ?rest11
            case hy11 => (intro w hSw; (try dsimp only at hSw); go_simp; try (with_reducible rfl))
            try simp only [Act.put, List.setIfInBounds_toArray, List.set_cons_zero, List.set_cons_succ]
            refine' wpAnyH_take (i := 12) (oi := { dst := some 54, op := Op.move (Operand.tmp 4), type := 43, pos := "law.go:105", after := #[{ on := 7, ground := Ground.guard }], guard := some (7, false) }) (v := _) rfl (by kernel_rfl) (by kernel_rfl) (by kernel_rfl) (fun _ _ _ h => h) (Or.inl ⟨by rfl, ?hy12⟩) (by assumption) ?rest12
            case hy12 => (intro w hSw; (try dsimp only at hSw); go_simp; try (with_reducible rfl))
            try simp only [Act.put, List.setIfInBounds_toArray, List.set_cons_zero, List.set_cons_succ]
            refine' wpAnyH_take (i := 13) (oi := { dst := some 55, op := Op.move (Operand.tmp 8), type := 3, pos := "law.go:105", after := #[{ on := 7, ground := Ground.guard }], guard := some (7, false) }) (v := _) rfl (by kernel_rfl) (by kernel_rfl) (by kernel_rfl) (fun _ _ _ h => h) (Or.inl ⟨by rfl, ?hy13⟩) (by assumption) ?rest13
            case hy13 => (intro w hSw; (try dsimp only at hSw); go_simp; try (with_reducible rfl))
            try simp only [Act.put, List.setIfInBounds_toArray, List.set_cons_zero, List.set_cons_succ]
            refine' wpAnyH_take (i := 14) (oi := { dst := some 56, op := Op.indexAddr 43 (Operand.tmp 54) (Operand.tmp 55), type := 0, pos := "law.go:105", after := #[{ on := 12, ground := Ground.data }, { on := 13, ground := Ground.data }, { on := 7, ground := Ground.guard }], guard := some (7, false) }) (v := _) rfl (by kernel_rfl) (by kernel_rfl) (by kernel_rfl) (fun _ _ _ h => h) (Or.inl ⟨by rfl, ?hy14⟩) (by assumption) ?rest14
            case hy14 => (intro w hSw; (try dsimp only at hSw); go_simp; try (with_reducible rfl))
            try simp only [Act.put, List.setIfInBounds_toArray, List.set_cons_zero, List.set_cons_succ]
            refine' wpAnyH_take (i := 15) (oi := { dst := some 57, op := Op.load 44 (Operand.tmp 56), type := 44, pos := "law.go:105", after := #[{ on := 14, ground := Ground.data }, { on := 7, ground := Ground.guard }], guard := some (7, false) }) (v := _) rfl (by kernel_rfl) (by kernel_rfl) (by kernel_rfl) (fun _ _ _ h => h) (Or.inl ⟨by rfl, ?hy15⟩) (by assumption) ?rest15
            case hy15 => (intro w hSw; (try dsimp only at hSw); go_simp; try (with_reducible rfl))
            try simp only [Act.put, List.setIfInBounds_toArray, List.set_cons_zero, List.set_cons_succ]
            refine' wpAnyH_take (i := 16) (oi := { dst := some 58, op := Op.fieldAddr 27 (Operand.tmp 7) 3, type := 0, pos := "law.go:105", after := #[{ on := 7, ground := Ground.guard }], guard := some (7, false) }) (v := _) rfl (by kernel_rfl) (by kernel_rfl) (by kernel_rfl) (fun _ _ _ h => h) (Or.inl ⟨by rfl, ?hy16⟩) (by assumption) ?rest16
            case hy16 => (intro w hSw; (try dsimp only at hSw); go_simp; try (with_reducible rfl))
            try simp only [Act.put, List.setIfInBounds_toArray, List.set_cons_zero, List.set_cons_succ]
            refine' wpAnyH_take (i := 17) (oi := { dst := some 59, op := Op.load 9 (Operand.tmp 58), type := 9, pos := "law.go:105", after := #[{ on := 16, ground := Ground.data }, { on := 7, ground := Ground.guard }], guard := some (7, false) }) (v := _) rfl (by kernel_rfl) (by kernel_rfl) (by kernel_rfl) (fun _ _ _ h => h) (Or.inl ⟨by rfl, ?hy17⟩) (by assumption) ?rest17
            case hy17 => (intro w hSw; (try dsimp only at hSw); go_simp; try (with_reducible rfl))
            try simp only [Act.put, List.setIfInBounds_toArray, List.set_cons_zero, List.set_cons_succ]
            refine wpAnyH_ready (rs := [18]) (by kernel_rfl) (by simp) ?_
            refine AllReadyH.cons (o := { dst := some 60, op := Op.call { callee := Callee.value (Operand.func 20), args := #[Operand.tmp 53, Operand.tmp 57, Operand.tmp 59], argTypes := #[23, 44, 9] }, type := 4, pos := "law.go:105", after := #[{ on := 11, ground := Ground.data }, { on := 15, ground := Ground.data }, { on := 17, ground := Ground.data }, { on := 7, ground := Ground.chain }, { on := 7, ground := Ground.guard }], guard := some (7, false) }) rfl (fun K hK => ?_) AllReadyH.nil
            go_simp
            refine (alike_at o.key i hi _ (H5.out.2.2.2.1 i) (H5.out.2.2.2.2 i) H5.out.2.1 H5.out.2.2.1 hU1).mono ?_
            rintro e w6 ⟨rfl, b6⟩
            go_wp2_with fail
            refine hK.out _ _ (HKEEP.out w6 b6) (fun _ => ?_)
            clear hK K hHeld
            have hHeld := HKEEP.out w6 b6
            try simp only [Act.put, List.setIfInBounds_toArray, List.set_cons_zero, List.set_cons_succ]
            refine' wpAnyH_take (i := 19) (oi := { dst := some 61, op := Op.unOp UnOp.not 4 (Operand.tmp 60), type := 4, pos := "law.go:105", after := #[{ on := 18, ground := Ground.data }, { on := 7, ground := Ground.guard }], guard := some (7, false) }) (v := _) rfl (by kernel_rfl) (by kernel_rfl) (by kernel_rfl) (fun _ _ _ h => h) (Or.inl ⟨by rfl, ?hy19⟩) (by assumption) ?rest19
            case hy19 => (intro w hSw; (try dsimp only at hSw); go_simp; try (with_reducible rfl))
            try simp only [Act.put, List.setIfInBounds_toArray, List.set_cons_zero, List.set_cons_succ]
            refine' wpAnyH_take (i := 20) (oi := { dst := some 62, op := Op.pick (Operand.tmp 49) (Operand.const (Value.bool true)) (Operand.tmp 61), type := 4, pos := "law.go:105", after := #[{ on := 7, ground := Ground.data }, { on := 19, ground := Ground.data }], guard := none }) (v := _) rfl (by kernel_rfl) (by kernel_rfl) (by kernel_rfl) (fun _ _ _ h => h) (Or.inl ⟨by rfl, ?hy20⟩) (by assumption) ?rest20
            case hy20 => (intro w hSw; (try dsimp only at hSw); go_simp; try (with_reducible rfl))
            try simp only [Act.put, List.setIfInBounds_toArray, List.set_cons_zero, List.set_cons_succ]
            refine' wpAnyH_take (i := 21) (oi := { dst := some 63, op := Op.move (Operand.tmp 62), type := 4, pos := "law.go:105", after := #[{ on := 20, ground := Ground.data }, { on := 18, ground := Ground.chain }], guard := none }) (v := _) rfl (by kernel_rfl) (by kernel_rfl) (by kernel_rfl) (fun _ _ _ h => h) (Or.inl ⟨by rfl, ?hy21⟩) (by assumption) ?rest21
            case hy21 => (intro w hSw; (try dsimp only at hSw); go_simp; try (with_reducible rfl))
            try simp only [Act.put, List.setIfInBounds_toArray, List.set_cons_zero, List.set_cons_succ]
            refine' wpAnyH_take (i := 22) (oi := { dst := some 64, op := Op.move (Operand.tmp 3), type := 42, pos := "law.go:105", after := #[{ on := 21, ground := Ground.guard }], guard := some (21, false) }) (v := _) rfl (by kernel_rfl) (by kernel_rfl) (by kernel_rfl) (fun _ _ _ h => h) (Or.inl ⟨by rfl, ?hy22⟩) (by assumption) ?rest22
            case hy22 => (intro w hSw; (try dsimp only at hSw); go_simp; try (with_reducible rfl))
            try simp only [Act.put, List.setIfInBounds_toArray, List.set_cons_zero, List.set_cons_succ]
            refine' wpAnyH_take (i := 23) (oi := { dst := some 65, op := Op.move (Operand.tmp 9), type := 3, pos := "law.go:105", after := #[{ on := 21, ground := Ground.guard }], guard := some (21, false) }) (v := _) rfl (by kernel_rfl) (by kernel_rfl) (by kernel_rfl) (fun _ _ _ h => h) (Or.inl ⟨by rfl, ?hy23⟩) (by assumption) ?rest23
            case hy23 => (intro w hSw; (try dsimp only at hSw); go_simp; try (with_reducible rfl))
            try simp only [Act.put, List.setIfInBounds_toArray, List.set_cons_zero, List.set_cons_succ]
            refine' wpAnyH_take (i := 24) (oi := { dst := some 66, op := Op.indexAddr 42 (Operand.tmp 64) (Operand.tmp 65), type := 0, pos := "law.go:105", after := #[{ on := 22, ground := Ground.data }, { on := 23, ground := Ground.data }, { on := 21, ground := Ground.guard }], guard := some (21, false) }) (v := _) rfl (by kernel_rfl) (by kernel_rfl) (by kernel_rfl) (fun _ _ _ h => h) (Or.inl ⟨by rfl, ?hy24⟩) (by assumption) ?rest24
            case hy24 => (intro w hSw; (try dsimp only at hSw); go_simp; try (with_reducible rfl))
            try simp only [Act.put, List.setIfInBounds_toArray, List.set_cons_zero, List.set_cons_succ]
            refine' wpAnyH_take (i := 25) (oi := { dst := some 67, op := Op.load 23 (Operand.tmp 66), type := 23, pos := "law.go:105", after := #[{ on := 24, ground := Ground.data }, { on := 21, ground := Ground.guard }], guard := some (21, false) }) (v := _) rfl (by kernel_rfl) (by kernel_rfl) (by kernel_rfl) (fun _ _ _ h => h) (Or.inl ⟨by rfl, ?hy25⟩) (by assumption) ?rest25
            case hy25 => (intro w hSw; (try dsimp only at hSw); go_simp; try (with_reducible rfl))
            try simp only [Act.put, List.setIfInBounds_toArray, List.set_cons_zero, List.set_cons_succ]
            refine' wpAnyH_take (i := 26) (oi := { dst := some 68, op := Op.move (Operand.tmp 4), type := 43, pos := "law.go:105", after := #[{ on := 21, ground := Ground.guard }], guard := some (21, false) }) (v := _) rfl (by kernel_rfl) (by kernel_rfl) (by kernel_rfl) (fun _ _ _ h => h) (Or.inl ⟨by rfl, ?hy26⟩) (by assumption) ?rest26
            case hy26 => (intro w hSw; (try dsimp only at hSw); go_simp; try (with_reducible rfl))
            try simp only [Act.put, List.setIfInBounds_toArray, List.set_cons_zero, List.set_cons_succ]
            refine' wpAnyH_take (i := 27) (oi := { dst := some 69, op := Op.move (Operand.tmp 9), type := 3, pos := "law.go:105", after := #[{ on := 21, ground := Ground.guard }], guard := some (21, false) }) (v := _) rfl (by kernel_rfl) (by kernel_rfl) (by kernel_rfl) (fun _ _ _ h => h) (Or.inl ⟨by rfl, ?hy27⟩) (by assumption) ?rest27
            case hy27 => (intro w hSw; (try dsimp only at hSw); go_simp; try (with_reducible rfl))
            try simp only [Act.put, List.setIfInBounds_toArray, List.set_cons_zero, List.set_cons_succ]
            refine' wpAnyH_take (i := 28) (oi := { dst := some 70, op := Op.indexAddr 43 (Operand.tmp 68) (Operand.tmp 69), type := 0, pos := "law.go:105", after := #[{ on := 26, ground := Ground.data }, { on := 27, ground := Ground.data }, { on := 21, ground := Ground.guard }], guard := some (21, false) }) (v := _) rfl (by kernel_rfl) (by kernel_rfl) (by kernel_rfl) (fun _ _ _ h => h) (Or.inl ⟨by rfl, ?hy28⟩) (by assumption) ?rest28
            case hy28 => (intro w hSw; (try dsimp only at hSw); go_simp; try (with_reducible rfl))
            try simp only [Act.put, List.setIfInBounds_toArray, List.set_cons_zero, List.set_cons_succ]
            refine' wpAnyH_take (i := 29) (oi := { dst := some 71, op := Op.load 44 (Operand.tmp 70), type := 44, pos := "law.go:105", after := #[{ on := 28, ground := Ground.data }, { on := 21, ground := Ground.guard }], guard := some (21, false) }) (v := _) rfl (by kernel_rfl) (by kernel_rfl) (by kernel_rfl) (fun _ _ _ h => h) (Or.inl ⟨by rfl, ?hy29⟩) (by assumption) ?rest29
            case hy29 => (intro w hSw; (try dsimp only at hSw); go_simp; try (with_reducible rfl))
            try simp only [Act.put, List.setIfInBounds_toArray, List.set_cons_zero, List.set_cons_succ]
            refine' wpAnyH_take (i := 30) (oi := { dst := some 72, op := Op.fieldAddr 27 (Operand.tmp 7) 3, type := 0, pos := "law.go:105", after := #[{ on := 21, ground := Ground.guard }], guard := some (21, false) }) (v := _) rfl (by kernel_rfl) (by kernel_rfl) (by kernel_rfl) (fun _ _ _ h => h) (Or.inl ⟨by rfl, ?hy30⟩) (by assumption) ?rest30
            case hy30 => (intro w hSw; (try dsimp only at hSw); go_simp; try (with_reducible rfl))
            try simp only [Act.put, List.setIfInBounds_toArray, List.set_cons_zero, List.set_cons_succ]
            refine' wpAnyH_take (i := 31) (oi := { dst := some 73, op := Op.load 9 (Operand.tmp 72), type := 9, pos := "law.go:105", after := #[{ on := 30, ground := Ground.data }, { on := 21, ground := Ground.guard }], guard := some (21, false) }) (v := _) rfl (by kernel_rfl) (by kernel_rfl) (by kernel_rfl) (fun _ _ _ h => h) (Or.inl ⟨by rfl, ?hy31⟩) (by assumption) ?rest31
            case hy31 => (intro w hSw; (try dsimp only at hSw); go_simp; try (with_reducible rfl))
            try simp only [Act.put, List.setIfInBounds_toArray, List.set_cons_zero, List.set_cons_succ]
            refine wpAnyH_ready (rs := [32]) (by kernel_rfl) (by simp) ?_
            refine AllReadyH.cons (o := { dst := some 74, op := Op.call { callee := Callee.value (Operand.func 20), args := #[Operand.tmp 67, Operand.tmp 71, Operand.tmp 73], argTypes := #[23, 44, 9] }, type := 4, pos := "law.go:105", after := #[{ on := 25, ground := Ground.data }, { on := 29, ground := Ground.data }, { on := 31, ground := Ground.data }, { on := 21, ground := Ground.chain }, { on := 21, ground := Ground.guard }], guard := some (21, false) }) rfl (fun K hK => ?_) AllReadyH.nil
            go_simp
            refine (alike_at o.key j hj _ (H5.out.2.2.2.1 j) (H5.out.2.2.2.2 j) (H5.out.2.1.bel b6) H5.out.2.2.1 hU1).mono ?_
            rintro e w7 ⟨rfl, b7⟩
            have B57 : Below w5.heap.size w5 w7 := b6.trans (b7.mono b6.size)
            go_wp2_with fail
            refine hK.out _ _ (HKEEP.out w7 B57) (fun _ => ?_)
            clear hK K hHeld
            have hHeld := HKEEP.out w7 B57
            try simp only [Act.put, List.setIfInBounds_toArray, List.set_cons_zero, List.set_cons_succ]
            refine' wpAnyH_take (i := 33) (oi := { dst := some 75, op := Op.unOp UnOp.not 4 (Operand.tmp 74), type := 4, pos := "law.go:105", after := #[{ on := 32, ground := Ground.data }, { on := 21, ground := Ground.guard }], guard := some (21, false) }) (v := _) rfl (by kernel_rfl) (by kernel_rfl) (by kernel_rfl) (fun _ _ _ h => h) (Or.inl ⟨by rfl, ?hy33⟩) (by assumption) ?rest33
            case hy33 => (intro w hSw; (try dsimp only at hSw); go_simp; try (with_reducible rfl))
            try simp only [Act.put, List.setIfInBounds_toArray, List.set_cons_zero, List.set_cons_succ]
            refine' wpAnyH_take (i := 34) (oi := { dst := some 76, op := Op.pick (Operand.tmp 63) (Operand.const (Value.bool true)) (Operand.tmp 75), type := 4, pos := "law.go:105", after := #[{ on := 21, ground := Ground.data }, { on := 33, ground := Ground.data }], guard := none }) (v := _) rfl (by kernel_rfl) (by kernel_rfl) (by kernel_rfl) (fun _ _ _ h => h) (Or.inl ⟨by rfl, ?hy34⟩) (by assumption) ?rest34
            case hy34 => (intro w hSw; (try dsimp only at hSw); go_simp; try (with_reducible rfl))
            try simp only [Act.put, List.setIfInBounds_toArray, List.set_cons_zero, List.set_cons_succ]
            refine wpAnyH_done (by kernel_rfl) ?_ _
            have HN : Hid (U1.length = k + 1 ∧ Six w7 gA gR X5 R5 kT5 kR5 (fun _ => U1.length) F5 N5 C5 w.heap.size ∧ Fit3 U1 kT5 kR5 F5 N5 C5 ∧ Below w.heap.size w w7) := by
              refine ⟨HU1.out, H5.out.2.1.bel B57, H5.out.2.2.1, ?_⟩
              have q1 : Below w.heap.size w W1.drew := (HI.out.2.2.2.trans (HG1.out.below.mono HI.out.2.2.2.size)).trans ((Gr.refl W1).drew.below.mono hbs1)
              have q2 := q1.trans (H5.out.1.below hbs1 (fun k hk => by obtain ⟨a, ha⟩ := hk; exact HI.out.2.1.lo a k ha))
              exact q2.trans (B57.mono q2.size)
            clear hHeld HKEEP b6 b7 B57 H5 HSZ HOP HLT HU1 hU1 hnot HS1 HG1 HI
            go_wp2
            exact ⟨⟨k + 1, U1, X5, R5, kT5, kR5, F5, N5, C5, by omega, by omega, by go_num, HN.out⟩, by simp [RowKit.intOf]; omega⟩
        · have hltz : ¬ (k : Int) < (ops.length : Int) := by omega
          have HSW : Hid (Six wr gA gR X R kT kR (fun _ => U.length) F N C w.heap.size) := HI.out.2.1
          have HSE : Hid (Six wr.drew gA gR X R kT kR (fun _ => U.length) F N C w.heap.size) := HSW.out.gr (Gr.refl _).drew
          have HFE : Hid (Fit3 U kT kR F N C) := HI.out.2.2.1
          have hUl : U.length ≤ 1000 := by have := HI.out.1; omega
          have S0 : wr.drew.cell? ⟨gA, 0, none⟩ = some (tp (X 0)) ∧ wr.drew.cell? ⟨gA, 1, none⟩ = some (tp (X 1)) ∧ wr.drew.cell? ⟨gA, 2, none⟩ = some (tp (X 2)) ∧ wr.drew.cell? ⟨gR, 0, none⟩ = some (rp (R 0)) ∧ wr.drew.cell? ⟨gR, 1, none⟩ = some (rp (R 1)) ∧ wr.drew.cell? ⟨gR, 2, none⟩ = some (rp (R 2)) ∧ gA < wr.drew.heap.size ∧ gR < wr.drew.heap.size := ⟨(HSE.out.cellA (by decide)).1, (HSE.out.cellA (by decide)).1, (HSE.out.cellA (by decide)).1, (HSE.out.cellR (by decide)).1, (HSE.out.cellR (by decide)).1, (HSE.out.cellR (by decide)).1, (HSE.out.cellA (i := 0) (by decide)).2.2, (HSE.out.cellR (i := 0) (by decide)).2.2⟩
          have keepB : ∀ V V' : World, (V.cell? ⟨gA, 0, none⟩ = some (tp (X 0)) ∧ V.cell? ⟨gA, 1, none⟩ = some (tp (X 1)) ∧ V.cell? ⟨gA, 2, none⟩ = some (tp (X 2)) ∧ V.cell? ⟨gR, 0, none⟩ = some (rp (R 0)) ∧ V.cell? ⟨gR, 1, none⟩ = some (rp (R 1)) ∧ V.cell? ⟨gR, 2, none⟩ = some (rp (R 2)) ∧ gA < V.heap.size ∧ gR < V.heap.size) → Below V.heap.size V V' → (V'.cell? ⟨gA, 0, none⟩ = some (tp (X 0)) ∧ V'.cell? ⟨gA, 1, none⟩ = some (tp (X 1)) ∧ V'.cell? ⟨gA, 2, none⟩ = some (tp (X 2)) ∧ V'.cell? ⟨gR, 0, none⟩ = some (rp (R 0)) ∧ V'.cell? ⟨gR, 1, none⟩ = some (rp (R 1)) ∧ V'.cell? ⟨gR, 2, none⟩ = some (rp (R 2)) ∧ gA < V'.heap.size ∧ gR < V'.heap.size) := fun V V' h hb =>
            ⟨(hb.cell (p := ⟨gA, 0, none⟩) h.2.2.2.2.2.2.1).trans h.1, (hb.cell (p := ⟨gA, 1, none⟩) h.2.2.2.2.2.2.1).trans h.2.1, (hb.cell (p := ⟨gA, 2, none⟩) h.2.2.2.2.2.2.1).trans h.2.2.1, (hb.cell (p := ⟨gR, 0, none⟩) h.2.2.2.2.2.2.2).trans h.2.2.2.1, (hb.cell (p := ⟨gR, 1, none⟩) h.2.2.2.2.2.2.2).trans h.2.2.2.2.1, (hb.cell (p := ⟨gR, 2, none⟩) h.2.2.2.2.2.2.2).trans h.2.2.2.2.2.1, Nat.lt_of_lt_of_le h.2.2.2.2.2.2.1 hb.size, Nat.lt_of_lt_of_le h.2.2.2.2.2.2.2 hb.size⟩
          go_wp2_with fail
          go_region_held3 (fun w' => w'.cell? ⟨gA, 0, none⟩ = some (tp (X 0)) ∧ w'.cell? ⟨gA, 1, none⟩ = some (tp (X 1)) ∧ w'.cell? ⟨gA, 2, none⟩ = some (tp (X 2)) ∧ w'.cell? ⟨gR, 0, none⟩ = some (rp (R 0)) ∧ w'.cell? ⟨gR, 1, none⟩ = some (rp (R 1)) ∧ w'.cell? ⟨gR, 2, none⟩ = some (rp (R 2)) ∧ gA < w'.heap.size ∧ gR < w'.heap.size)
            (first | exact S0 | exact keepB _ _ (by assumption) (by assumption))
            (first | (go_at_call 20; refine (alike_six bs0 2 (by decide) _ ((HSE.out.bel b5).bel b6) HFE.out hUl).mono ?_; rintro e w7 ⟨rfl, b7⟩) | (go_at_call 20; refine (alike_six bs0 1 (by decide) _ (HSE.out.bel b5) HFE.out hUl).mono ?_; rintro e w6 ⟨rfl, b6⟩) | (go_at_call 20; refine (alike_six bs0 0 (by decide) _ HSE.out HFE.out hUl).mono ?_; rintro e w5 ⟨rfl, b5⟩))
          have HN : Hid (Below w.heap.size w w7) := by
            have q1 : Below w.heap.size w wr.drew := HI.out.2.2.2.trans ((Gr.refl wr).drew.below.mono HI.out.2.2.2.size)
            have q2 := q1.trans (b5.mono q1.size)
            have q3 := q2.trans (b6.mono q2.size)
            exact q3.trans (b7.mono q3.size)
          clear HSW S0 keepB b5 b6 b7 HSE HFE HI
          go_wp2
          go_ret
          exact ⟨rfl, HN.out⟩
end Go.Proofs.Ytplbcamliiajdaa
