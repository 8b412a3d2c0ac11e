import Derived.Test.YtplbcamliiajdaaYSix
namespace Go.Proofs.Ytplbcamliiajdaa
open Go.RowKit Go.Sort Go.Maps
attribute [local go_sem ↓] Go.wp_at_zero Go.wp_at_succ

theorem rel_add {f : BS → Int} {N : List Rk} {C : List Int} (h : Rel f N C) (hl : C.length = N.length) (hn : N.Nodup) (x : BS) (v : Int) : Rel (upd f x (f x + v)) (rN N (x, 0)) (rC N C (x, 0) v) := by
  refine ⟨fun y => ?_, fun y hy => ?_⟩
  · rw [rget_add hl hn]
    unfold upd
    by_cases e : y = x
    · subst e; rw [if_pos rfl, if_pos rfl, h.eq y]
    · rw [if_neg e, if_neg (fun e' => e (congrArg Prod.fst e')), h.eq y]
  · rcases rN_sub hy with h' | h'
    · exact h.zero y h'
    · rw [h']
theorem clear_tb {x : Tb} {n : Nat} {f : BS → Int} (w : World) (h : Tl w x.t x.b x.g n f) :
    Calls Try.prog 17 #[tp x] w fun e w' => e = .returned (.tuple #[]) ∧ ∃ b', w.heap.size ≤ b' ∧ Tl w' x.t b' x.g 0 (fun _ => 0) ∧ Kp (fun k => k = x.t) w w' :=
  (clear_any w h).mono fun _ _ ⟨h1, h2, h3⟩ => ⟨h1, _, Nat.le_refl _, h2, h3⟩
set_option maxHeartbeats 1000000 in
theorem copy_at {x : Tb} {n : Nat} {f : BS → Int} (w : World) (h : Tl w x.t x.b x.g n f) :
    Calls Try.prog 15 #[tp x] w fun e w' => ∃ y : Tb, e = .returned (tp y) ∧ w.heap.size ≤ y.t ∧ w.heap.size ≤ y.b ∧ y.g = x.g ∧ Tl w' y.t y.b y.g n f ∧ Gr w w' ∧ y.t = w.heap.size + 1 ∧ w'.heap.size = w.heap.size + 2 := by
  obtain ⟨tb, b, g⟩ := x
  simp only at h
  have hmx : Try.prog.follows .mixedOrders = true := by kernel_rfl
  have HC : Hid (Tl w tb b g n f) := h
  obtain ⟨D, hown, h1, h2⟩ := h.ta
  obtain ⟨es, clock, hb, F, hs, hD⟩ := hown
  have hbl := (Array.getElem?_eq_some_iff.1 hb).1
  have S0 : w.cell? ⟨tb, 0, none⟩ = some (fv g) ∧ w.cell? ⟨tb, 1, none⟩ = some (.map (some b)) ∧ tb < w.heap.size := ⟨h.c0, h.c1, h.lt⟩
  have keepB : ∀ W W' : World, (W.cell? ⟨tb, 0, none⟩ = some (fv g) ∧ W.cell? ⟨tb, 1, none⟩ = some (.map (some b)) ∧ tb < W.heap.size) → Below W.heap.size W W' → (W'.cell? ⟨tb, 0, none⟩ = some (fv g) ∧ W'.cell? ⟨tb, 1, none⟩ = some (.map (some b)) ∧ tb < W'.heap.size) := fun W W' h hb =>
    ⟨(hb.cell (p := ⟨tb, 0, none⟩) h.2.2).trans h.1, (hb.cell (p := ⟨tb, 1, none⟩) h.2.2).trans h.2.1, Nat.lt_of_lt_of_le h.2.2 hb.size⟩
  have hcl := AnyW.maps_Clone Try.lClone b es clock w.drew hb
  have hdr : ∀ o : Obj, Below w.drew.heap.size w.drew (w.drew.alloc o) := fun o => ((Gr.refl w.drew).alloc o).below
  clear h
  go_enter Try.func15, Try.ntmps15
  go_wp2_with fail
  go_region_held3 (fun w' => w'.cell? ⟨tb, 0, none⟩ = some (fv g) ∧ w'.cell? ⟨tb, 1, none⟩ = some (.map (some b)) ∧ tb < w'.heap.size)
    (first | exact S0 | exact keepB _ _ (by assumption) (Gr.refl _).drew.below | exact keepB _ _ (by assumption) (by assumption) | exact keepB _ _ (by assumption) ((Gr.refl _).alloc _).below)
    (first | (go_at_call 29; refine hcl.mono ?_; rintro e w5 ⟨rfl, rfl⟩))
  go_wp2
  go_ret
  exact ⟨⟨w.heap.size + 1, w.heap.size, g⟩, rfl, Nat.le_succ _, Nat.le_refl _, rfl, ⟨heap_alloc2_new _ _ _, ⟨D, ⟨es, clock, heap_alloc2_old _ _ _, F, hs, hD⟩, h1, h2⟩, HC.out.bd⟩, (((Gr.refl _).alloc _).alloc _).drew, rfl, by simp⟩
/-- Where the tallies lie behind a step. -/
def pT (X0 : Nat → Tb) (w : World) (k : Int) (i q : Nat) : Nat := if k = 2 ∧ q = i then w.heap.size + 2 else (X0 q).t
def pR (R0 : Nat → Rf) (w : World) (k : Int) (i q : Nat) : Nat := if k = 2 ∧ q = i then w.heap.size + 3 else (R0 q).b
theorem pT_same {X0 : Nat → Tb} {w : World} {k : Int} {i q : Nat} (h : ¬ k = 2) : pT X0 w k i q = (X0 q).t := by unfold pT; rw [if_neg (fun h' => h h'.1)]
theorem pR_same {R0 : Nat → Rf} {w : World} {k : Int} {i q : Nat} (h : ¬ k = 2) : pR R0 w k i q = (R0 q).b := by unfold pR; rw [if_neg (fun h' => h h'.1)]
theorem st_t {X : Nat → Tb} {i q : Nat} {x : Tb} (h : x.t = (X i).t) : (st X i x q).t = (X q).t := by
  by_cases e : q = i
  · subst e; rw [st_same, h]
  · rw [st_other _ _ e]
theorem st_b {R : Nat → Rf} {i q : Nat} {r : Rf} (h : r.b = (R i).b) : (st R i r q).b = (R q).b := by
  by_cases e : q = i
  · subst e; rw [st_same, h]
  · rw [st_other _ _ e]
/-- What a step leaves. -/
def StepPost (ok : Int) (ix : Nat) (X0 : Nat → Tb) (R0 : Nat → Rf) (U : List Rk) (bA bR base : Nat) (w w' : World) : Prop :=
  ∃ X R kT kR nn F N C, Six w' bA bR X R kT kR nn F N C base ∧ Fit3 U kT kR F N C ∧ Kp (fun k => ∃ a, Own X0 R0 bA bR a k) w w' ∧ (∀ q, (X q).t = pT X0 w ok ix q) ∧ ∀ q, (R q).b = pR R0 w ok ix q

set_option maxHeartbeats 8000000 in
set_option maxRecDepth 100000 in
theorem step_any {bA bR base cA cR : Nat} {X : Nat → Tb} {R : Nat → Rf} {kT kR : Nat → Int} {F : Nat → BS → Int} {N : Nat → List Rk} {C : Nat → List Int} {U : List Rk} (o : Opx) (i j : Nat) (hi : i < 3) (hj : j < 3) (w : World)
    (hs : Six w bA bR X R kT kR (fun _ => U.length) F N C base) (hf : Fit3 U kT kR F N C) (hU : U.length ≤ 1000) (hbs : base ≤ w.heap.size) :
    Calls Try.prog 19 #[.slice (some ⟨bA, 0, none⟩) 3 cA, .slice (some ⟨bR, 0, none⟩) 3 cR, ov o, .int .i64 i, .int .i64 j] w fun e w' => e = .returned (.bool true) ∧ Hid (StepPost o.k i X R (U ++ [(o.key, 0)]) bA bR base w w') := by
  have hmx : Try.prog.follows .mixedOrders = true := by kernel_rfl
  obtain ⟨W0, hW0⟩ : ∃ W0, W0 = w.alloc (.cells #[.int .i64 o.k, .int .i64 o.i, .int .i64 o.j, .string o.key.1, .int .i64 o.n] 27) := ⟨_, rfl⟩
  have HG0 : Hid (Gr w W0) := by rw [hW0]; exact (Gr.refl _).alloc _
  have HS0 : Hid (Six W0 bA bR X R kT kR (fun _ => U.length) F N C base) := hs.gr HG0.out
  have HF : Hid (Fit3 U kT kR F N C) := hf
  have HBK : Hid (W0.heap[w.heap.size]? = some (.cells #[.int .i64 o.k, .int .i64 o.i, .int .i64 o.j, .string o.key.1, .int .i64 o.n] 27 (0, 0))) := by rw [hW0]; exact heap_alloc_new _ _
  have hz0 : W0.heap.size = w.heap.size + 1 := by rw [hW0]; simp
  have HZ0 : Hid (W0.heap.size = w.heap.size + 1) := hz0
  have HFU : Hid (∀ {kT' kR' : Nat → Int} {F' : Nat → BS → Int} {N' : Nat → List Rk} {C' : Nat → List Int}, Fit3 U kT' kR' F' N' C' → Fit3 (U ++ [(o.key, 0)]) kT' kR' F' N' C') := fun h => ⟨h.kd, h.rl, fun i hi y hy => List.mem_append_left _ (h.un i hi y hy)⟩
  have HOL : Hid (∀ a k, Own X R bA bR a k → k < w.heap.size) := fun a k ho => hs.own_lt ho
  have HB0 : Hid (Kp (fun k => ∃ a, Own X R bA bR a k) w W0) := Kp.of_gr HG0.out
  have HBS : Hid (base ≤ W0.heap.size) := by show base ≤ W0.heap.size; omega
  have k3 : W0.cell? ⟨w.heap.size, 3, none⟩ = some (.string o.key.1) := by simp [World.cell?, HBK.out]
  have k4 : W0.cell? ⟨w.heap.size, 4, none⟩ = some (.int .i64 o.n) := by simp [World.cell?, HBK.out]
  obtain ⟨a1, a2, a3⟩ := hs.cellA hi
  obtain ⟨a1j, _, _⟩ := hs.cellA hj
  obtain ⟨b1, b2, b3⟩ := hs.cellR hi
  obtain ⟨b1j, _, _⟩ := hs.cellR hj
  have hiz : (i : Int) < 3 := by omega
  have hjz : (j : Int) < 3 := by omega
  have hhb : w.heap.size < W0.heap.size := by omega
  clear hs hf hz0
  obtain ⟨ok, oi, oj, okey, on⟩ := o
  simp only at *
  by_cases q0 : ok = 0
  · subst q0
    have hadd := fun W (hW : Tl W (X i).t (X i).b (X i).g U.length (F i)) => add_any okey on W hW (by unfold maxLen; omega)
    have hadd0 := hadd W0.drew ((HS0.out.gr (Gr.refl _).drew).tl i hi)
    have hradd := fun W (hW : RT W (R i) (kR i) (N i) (C i)) => radd_any (okey, 0) on W hW (by
      have := length_le_of_sub (l := N i) (m := U) (HS0.out.rt i hi).nd (HF.out.un i hi)
      omega)
    have HNB : Hid ((X i).b ≠ bA ∧ (X i).b ≠ bR ∧ ¬ (R i).own bA ∧ ¬ (R i).own bR ∧ (X i).b < w.heap.size ∧ ∀ k, (R i).own k → k < w.heap.size) := by
      refine ⟨fun e => ?_, fun e => ?_, fun e => ?_, fun e => ?_, HOL.out i _ (Or.inl ⟨hi, Or.inr rfl⟩), fun k hk => HOL.out (i + 3) k (Or.inr (Or.inl ⟨by omega, by omega, by simpa using hk⟩))⟩
      · have := HS0.out.sep i 6 bA (Or.inl ⟨hi, Or.inr e.symm⟩) (Or.inr (Or.inr (Or.inl ⟨rfl, rfl⟩))); omega
      · have := HS0.out.sep i 7 bR (Or.inl ⟨hi, Or.inr e.symm⟩) (Or.inr (Or.inr (Or.inr ⟨rfl, rfl⟩))); omega
      · have := HS0.out.sep (i + 3) 6 bA (Or.inr (Or.inl ⟨by omega, by omega, by simpa using e⟩)) (Or.inr (Or.inr (Or.inl ⟨rfl, rfl⟩))); omega
      · have := HS0.out.sep (i + 3) 7 bR (Or.inr (Or.inl ⟨by omega, by omega, by simpa using e⟩)) (Or.inr (Or.inr (Or.inr ⟨rfl, rfl⟩))); omega
    have S0 : W0.cell? ⟨bA, i, none⟩ = some (tp (X i)) ∧ W0.cell? ⟨bR, i, none⟩ = some (rp (R i)) ∧ W0.cell? ⟨w.heap.size, 3, none⟩ = some (.string okey.1) ∧ W0.cell? ⟨w.heap.size, 4, none⟩ = some (.int .i64 on) ∧ bA < W0.heap.size ∧ bR < W0.heap.size ∧ w.heap.size < W0.heap.size := ⟨(HS0.out.cellA hi).1, (HS0.out.cellR hi).1, k3, k4, by omega, by omega, hhb⟩
    have keep : ∀ (S : Nat → Prop) (W W' : World), ¬ S bA → ¬ S bR → ¬ S w.heap.size → (W.cell? ⟨bA, i, none⟩ = some (tp (X i)) ∧ W.cell? ⟨bR, i, none⟩ = some (rp (R i)) ∧ W.cell? ⟨w.heap.size, 3, none⟩ = some (.string okey.1) ∧ W.cell? ⟨w.heap.size, 4, none⟩ = some (.int .i64 on) ∧ bA < W.heap.size ∧ bR < W.heap.size ∧ w.heap.size < W.heap.size) → Kp S W W' → (W'.cell? ⟨bA, i, none⟩ = some (tp (X i)) ∧ W'.cell? ⟨bR, i, none⟩ = some (rp (R i)) ∧ W'.cell? ⟨w.heap.size, 3, none⟩ = some (.string okey.1) ∧ W'.cell? ⟨w.heap.size, 4, none⟩ = some (.int .i64 on) ∧ bA < W'.heap.size ∧ bR < W'.heap.size ∧ w.heap.size < W'.heap.size) := fun S W W' n1 n2 n3 h hk =>
      ⟨(World.cell?_of_block (a := ⟨bA, i, none⟩) (hk.block bA h.2.2.2.2.1 n1)).trans h.1, (World.cell?_of_block (a := ⟨bR, i, none⟩) (hk.block bR h.2.2.2.2.2.1 n2)).trans h.2.1, (World.cell?_of_block (a := ⟨w.heap.size, 3, none⟩) (hk.block _ h.2.2.2.2.2.2 n3)).trans h.2.2.1, (World.cell?_of_block (a := ⟨w.heap.size, 4, none⟩) (hk.block _ h.2.2.2.2.2.2 n3)).trans h.2.2.2.1, Nat.lt_of_lt_of_le h.2.2.2.2.1 hk.size, Nat.lt_of_lt_of_le h.2.2.2.2.2.1 hk.size, Nat.lt_of_lt_of_le h.2.2.2.2.2.2 hk.size⟩
    have keepT : ∀ W W' : World, _ → Kp (fun k => k = (X i).b) W W' → _ := fun W W' h hk => keep (fun k => k = (X i).b) W W' (fun e => HNB.out.1 e.symm) (fun e => HNB.out.2.1 e.symm) (fun e => by have := HNB.out.2.2.2.2.1; omega) h hk
    have keepR : ∀ W W' : World, _ → Kp (R i).own W W' → _ := fun W W' h hk => keep (R i).own W W' HNB.out.2.2.1 HNB.out.2.2.2.1 (fun e => by have := HNB.out.2.2.2.2.2 _ e; omega) h hk
    have keepG : ∀ W W' : World, _ → Gr W W' → _ := fun W W' h hk => keep (fun _ => False) W W' (fun h => h) (fun h => h) (fun h => h) h (Kp.of_gr hk)
    have hrl := HF.out.rl i hi
    have hlen := (HS0.out.rt i hi).len
    have hnd := (HS0.out.rt i hi).nd
    have hradd2 : ∀ W, RT W (R i) (kR i) (N i) (C i) → Calls Try.prog 30 #[rp (R i), kv okey 0, .int .i64 on] W fun e w' => e = .returned (.int .i64 (addc (F i) okey on)) ∧ ∃ (r' : Rf) (N' : List Rk) (C' : List Int), Kp (R i).own W w' ∧ Hid (r'.b = (R i).b ∧ RT w' r' (kR i) N' C' ∧ Rel (addf (F i) okey on) N' C' ∧ (∀ y ∈ N', y ∈ N i ∨ y = (okey, 0)) ∧ ∀ k, r'.own k → (R i).own k ∨ W.heap.size ≤ k) := fun W hW => by
      refine (hradd W hW).mono fun e w' hp => ?_
      rcases hp with ⟨h1, h2, h3⟩ | ⟨⟨h1, h1'⟩, h2, r', h3, h4, h5, h6⟩
      · rw [← hrl.eq okey] at h1
        have e1 : addc (F i) okey on = 12 := by unfold addc; rw [if_pos h1]
        have e2 : addf (F i) okey on = F i := by unfold addf; rw [if_pos h1]
        rw [e1, e2]
        exact ⟨h2, R i, N i, C i, Kp.of_gr h3, rfl, hW.gr h3, hrl, fun y hy => Or.inl hy, fun k hk => Or.inl hk⟩
      · rw [← hrl.eq okey] at h1'
        obtain ⟨e1, e2⟩ := add_ok (f := F i) (x := okey) (v := on) h1 h1'
        rw [e1, e2]
        exact ⟨h2, r', _, _, h5, h3, h4, rel_add hrl hlen hnd okey on, fun y hy => rN_sub hy, h6⟩
    have hRT6 : ∀ w5 w6 : World, Kp (fun k => k = (X i).b) W0.drew w5 → Gr w5 w6 → RT w6 (R i) (kR i) (N i) (C i) := fun w5 w6 h1 h2 =>
      (((HS0.out.gr (Gr.refl _).drew).rt i hi).kp h1 (fun k hk e => by have := HS0.out.sep i (i + 3) k (Or.inl ⟨hi, Or.inr e⟩) (Or.inr (Or.inl ⟨by omega, by omega, by simpa using hk⟩)); omega)).gr h2
    obtain ⟨ac, hac⟩ : ∃ ac, ac = addc (F i) okey on := ⟨_, rfl⟩
    obtain ⟨af, haf⟩ : ∃ af, af = addf (F i) okey on := ⟨_, rfl⟩
    rw [← hac, ← haf] at hadd0
    rw [← hac, ← haf] at hradd2
    have hself : (ac == ac) = true := by simp
    clear keep hadd hradd hac haf hrl hlen hnd k3 k4 a1j b1j a1 a2 b1 b2
    go_enter Try.func19, Try.ntmps19
    go_wp2_with fail
    rw [← hW0]
    clear hW0
    go_region_held3 (fun w' => w'.cell? ⟨bA, i, none⟩ = some (tp (X i)) ∧ w'.cell? ⟨bR, i, none⟩ = some (rp (R i)) ∧ w'.cell? ⟨w.heap.size, 3, none⟩ = some (.string okey.1) ∧ w'.cell? ⟨w.heap.size, 4, none⟩ = some (.int .i64 on) ∧ bA < w'.heap.size ∧ bR < w'.heap.size ∧ w.heap.size < w'.heap.size)
      (first | exact S0 | exact keepG _ _ (by assumption) (Gr.refl _).drew | exact keepG _ _ (by assumption) (by assumption) | exact keepT _ _ (by assumption) (by assumption) | exact keepR _ _ (by assumption) (by assumption))
      (first | (go_at_call 8; refine hadd0.mono ?_; rintro e w5 ⟨rfl, ht5, kp5⟩) | (go_at_call 31; refine (text_any okey _).mono ?_; rintro e w6 ⟨rfl, g6⟩) | (go_at_call 30; refine (hradd2 _ (hRT6 _ _ kp5 g6)).mono ?_; rintro e w7 ⟨rfl, r', N', C', kp7, H7⟩))
    have HS5 := (HS0.out.gr (Gr.refl _).drew).turnT hi (x' := X i) rfl rfl (Or.inl rfl) ht5 (kp5.mono fun k hk => Or.inr hk) HBS.out
    have HS7 := (HS5.gr g6).turnR hi H7.out.1 H7.out.2.1 kp7 H7.out.2.2.2.2 (Nat.le_trans (Nat.le_trans HBS.out kp5.size) g6.size)
    have HP : Hid (StepPost 0 i X R (U ++ [(okey, 0)]) bA bR base w w7) := by
      refine ⟨_, _, _, _, _, _, _, _, HS7, ⟨HF.out.kd, fun q hq => ?_, fun q hq z hz => ?_⟩, ?_⟩
      · by_cases e : q = i
        · subst e; rw [st_same, st_same, st_same]; exact H7.out.2.2.1
        · rw [st_other _ _ e, st_other _ _ e, st_other _ _ e]; exact HF.out.rl q hq
      · by_cases e : q = i
        · subst e; rw [st_same] at hz
          rcases H7.out.2.2.2.1 z hz with h | h
          · exact List.mem_append_left _ (HF.out.un q hq z h)
          · rw [h]; simp
        · rw [st_other _ _ e] at hz; exact List.mem_append_left _ (HF.out.un q hq z hz)
      · have q1 : Kp (fun k => ∃ a, Own X R bA bR a k) w W0.drew := HB0.out.trans (Kp.of_gr (S := fun k => ∃ a, Own X R bA bR a k) (Gr.refl W0).drew) (fun _ _ h => h)
        have q2 := q1.trans kp5 (fun k _ hk => ⟨i, Or.inl ⟨hi, Or.inr hk⟩⟩)
        have q3 := q2.trans (Kp.of_gr (S := fun k => ∃ a, Own X R bA bR a k) g6) (fun _ _ h => h)
        exact ⟨q3.trans kp7 (fun k _ hk => ⟨i + 3, Or.inr (Or.inl ⟨by omega, by omega, by simpa using hk⟩)⟩), fun q => by rw [pT_same (by decide), st_t rfl], fun q => by rw [pR_same (by decide), st_b H7.out.1]⟩
    clear HS5 HS7 H7 kp7 g6 kp5 ht5 S0 keepT keepR keepG hadd0 hradd2 hRT6
    go_wp2
    go_ret
    exact ⟨rfl, HP⟩
  · by_cases q1 : ok = 1
    · subst q1
      have hrli := HF.out.rl i hi
      have hrlj := HF.out.rl j hj
      have hlni := length_le_of_sub (l := N i) (m := U) (HS0.out.rt i hi).nd (HF.out.un i hi)
      have hlnj := length_le_of_sub (l := N j) (m := U) (HS0.out.rt j hj).nd (HF.out.un j hj)
      have hleni := (HS0.out.rt i hi).len
      have hlenj := (HS0.out.rt j hj).len
      obtain ⟨jc, jf, hjoin, hrjoin⟩ : ∃ (jc : Int) (jf : BS → Int), (Calls Try.prog 9 #[tp (X i), tp (X j)] W0.drew fun e w' => e = .returned (.int .i64 jc) ∧ ∃ n', Tl w' (X i).t (X i).b (X i).g n' jf ∧ Kp (fun k => k = (X i).b) W0.drew w') ∧
          (∀ W, RT W (R i) (kR i) (N i) (C i) → RT W (R j) (kR j) (N j) (C j) → Calls Try.prog 32 #[rp (R i), rp (R j)] W fun e w' => e = .returned (.int .i64 jc) ∧ ∃ (r' : Rf) (N' : List Rk) (C' : List Int), Kp (R i).own W w' ∧ Hid (r'.b = (R i).b ∧ RT w' r' (kR i) N' C' ∧ Rel jf N' C' ∧ (∀ y ∈ N', y ∈ U) ∧ ∀ k, r'.own k → (R i).own k ∨ W.heap.size ≤ k)) := by
        have h1 := join_any W0.drew ((HS0.out.gr (Gr.refl _).drew).tl i hi) ((HS0.out.gr (Gr.refl _).drew).tl j hj) (by omega)
        have h2 := fun W (hW : RT W (R i) (kR i) (N i) (C i)) (hW' : RT W (R j) (kR j) (N j) (C j)) => rjoin_any W hW hW' (by rw [← HF.out.kd j hj]; exact (HS0.out.od j hj).2) (by omega)
        by_cases hbad : ∃ x, byd (F i x + F j x) = true
        · refine ⟨12, F i, h1.mono fun e w' hp => ?_, fun W hW hW' => (h2 W hW hW').mono fun e w' hp => ?_⟩
          · rcases hp with ⟨_, he, hb⟩ | ⟨hall, _⟩
            · exact ⟨he, _, ((HS0.out.gr (Gr.refl _).drew).tl i hi).below hb, Kp.of_below hb⟩
            · obtain ⟨x, hx⟩ := hbad
              rw [hall x] at hx; cases hx
          · rcases hp with ⟨_, he, hb⟩ | ⟨hall, _⟩
            · exact ⟨he, R i, N i, C i, Kp.of_below hb, rfl, hW.bel hb, hrli, HF.out.un i hi, fun k hk => Or.inl hk⟩
            · obtain ⟨x, hx⟩ := hbad
              have := hall (x, 0)
              rw [← hrli.eq, ← hrlj.eq, hx] at this
              cases this
        · have hno : ∀ x, byd (F i x + F j x) = false := fun x => by
            cases hq : byd (F i x + F j x) with
            | false => rfl
            | true => exact absurd ⟨x, hq⟩ hbad
          refine ⟨0, fun x => F i x + F j x, h1.mono fun e w' hp => ?_, fun W hW hW' => (h2 W hW hW').mono fun e w' hp => ?_⟩
          · rcases hp with ⟨hb, _⟩ | ⟨_, he, ht, hk⟩
            · exact absurd hb hbad
            · exact ⟨he, _, ht, hk⟩
          · rcases hp with ⟨⟨y, hy⟩, _⟩ | ⟨_, he, r', N', C', p1, p2, p3, p4, p5, p6⟩
            · exfalso
              by_cases hy2 : y.2 = 0
              · have e : y = (y.1, 0) := by rw [← hy2]
                rw [e, ← hrli.eq, ← hrlj.eq, hno] at hy
                cases hy
              · rw [rget_not hleni (fun h => hy2 (hrli.zero y h)), rget_not hlenj (fun h => hy2 (hrlj.zero y h))] at hy
                simp [byd] at hy
            · refine ⟨he, r', N', C', p5, p1, p2, ⟨fun x => ?_, fun y hy => ?_⟩, fun y hy => ?_, p6⟩
              · rw [p3 (x, 0), ← hrli.eq, ← hrlj.eq]
              · rcases p4 y hy with h | h
                · exact hrli.zero y h
                · exact hrlj.zero y h
              · rcases p4 y hy with h | h
                · exact HF.out.un i hi y h
                · exact HF.out.un j hj y h
      have HNB : Hid ((X i).b ≠ bA ∧ (X i).b ≠ bR ∧ ¬ (R i).own bA ∧ ¬ (R i).own bR) := by
        refine ⟨fun e => ?_, fun e => ?_, fun e => ?_, fun e => ?_⟩
        · have := HS0.out.sep i 6 bA (Or.inl ⟨hi, Or.inr e.symm⟩) (Or.inr (Or.inr (Or.inl ⟨rfl, rfl⟩))); omega
        · have := HS0.out.sep i 7 bR (Or.inl ⟨hi, Or.inr e.symm⟩) (Or.inr (Or.inr (Or.inr ⟨rfl, rfl⟩))); omega
        · have := HS0.out.sep (i + 3) 6 bA (Or.inr (Or.inl ⟨by omega, by omega, by simpa using e⟩)) (Or.inr (Or.inr (Or.inl ⟨rfl, rfl⟩))); omega
        · have := HS0.out.sep (i + 3) 7 bR (Or.inr (Or.inl ⟨by omega, by omega, by simpa using e⟩)) (Or.inr (Or.inr (Or.inr ⟨rfl, rfl⟩))); omega
      have S0 : W0.cell? ⟨bA, i, none⟩ = some (tp (X i)) ∧ W0.cell? ⟨bA, j, none⟩ = some (tp (X j)) ∧ W0.cell? ⟨bR, i, none⟩ = some (rp (R i)) ∧ W0.cell? ⟨bR, j, none⟩ = some (rp (R j)) ∧ bA < W0.heap.size ∧ bR < W0.heap.size := ⟨(HS0.out.cellA hi).1, (HS0.out.cellA hj).1, (HS0.out.cellR hi).1, (HS0.out.cellR hj).1, by omega, by omega⟩
      have keep : ∀ (S : Nat → Prop) (W W' : World), ¬ S bA → ¬ S bR → (W.cell? ⟨bA, i, none⟩ = some (tp (X i)) ∧ W.cell? ⟨bA, j, none⟩ = some (tp (X j)) ∧ W.cell? ⟨bR, i, none⟩ = some (rp (R i)) ∧ W.cell? ⟨bR, j, none⟩ = some (rp (R j)) ∧ bA < W.heap.size ∧ bR < W.heap.size) → Kp S W W' → (W'.cell? ⟨bA, i, none⟩ = some (tp (X i)) ∧ W'.cell? ⟨bA, j, none⟩ = some (tp (X j)) ∧ W'.cell? ⟨bR, i, none⟩ = some (rp (R i)) ∧ W'.cell? ⟨bR, j, none⟩ = some (rp (R j)) ∧ bA < W'.heap.size ∧ bR < W'.heap.size) := fun S W W' n1 n2 h hk =>
        ⟨(World.cell?_of_block (a := ⟨bA, i, none⟩) (hk.block bA h.2.2.2.2.1 n1)).trans h.1, (World.cell?_of_block (a := ⟨bA, j, none⟩) (hk.block bA h.2.2.2.2.1 n1)).trans h.2.1, (World.cell?_of_block (a := ⟨bR, i, none⟩) (hk.block bR h.2.2.2.2.2 n2)).trans h.2.2.1, (World.cell?_of_block (a := ⟨bR, j, none⟩) (hk.block bR h.2.2.2.2.2 n2)).trans h.2.2.2.1, Nat.lt_of_lt_of_le h.2.2.2.2.1 hk.size, Nat.lt_of_lt_of_le h.2.2.2.2.2 hk.size⟩
      have keepT : ∀ W W' : World, _ → Kp (fun k => k = (X i).b) W W' → _ := fun W W' h hk => keep (fun k => k = (X i).b) W W' (fun e => HNB.out.1 e.symm) (fun e => HNB.out.2.1 e.symm) h hk
      have keepR : ∀ W W' : World, _ → Kp (R i).own W W' → _ := fun W W' h hk => keep (R i).own W W' HNB.out.2.2.1 HNB.out.2.2.2 h hk
      have keepG : ∀ W W' : World, _ → Gr W W' → _ := fun W W' h hk => keep (fun _ => False) W W' (fun h => h) (fun h => h) h (Kp.of_gr hk)
      have hRT : ∀ (q : Nat), q < 3 → ∀ w5 : World, Kp (fun k => k = (X i).b) W0.drew w5 → RT w5 (R q) (kR q) (N q) (C q) := fun q hq w5 h1 =>
        ((HS0.out.gr (Gr.refl _).drew).rt q hq).kp h1 (fun k hk e => by have := HS0.out.sep i (q + 3) k (Or.inl ⟨hi, Or.inr e⟩) (Or.inr (Or.inl ⟨by omega, by omega, by simpa using hk⟩)); omega)
      have hself : (jc == jc) = true := by simp
      clear keep hrli hrlj hleni hlenj k3 k4 a1j b1j a1 a2 b1 b2
      go_enter Try.func19, Try.ntmps19
      go_wp2_with fail
      rw [← hW0]
      clear hW0
      go_region_held3 (fun w' => w'.cell? ⟨bA, i, none⟩ = some (tp (X i)) ∧ w'.cell? ⟨bA, j, none⟩ = some (tp (X j)) ∧ w'.cell? ⟨bR, i, none⟩ = some (rp (R i)) ∧ w'.cell? ⟨bR, j, none⟩ = some (rp (R j)) ∧ bA < w'.heap.size ∧ bR < w'.heap.size)
        (first | exact S0 | exact keepG _ _ (by assumption) (Gr.refl _).drew | exact keepT _ _ (by assumption) (by assumption) | exact keepR _ _ (by assumption) (by assumption))
        (first | (go_at_call 9; refine hjoin.mono ?_; rintro e w5 ⟨rfl, n5, ht5, kp5⟩) | (go_at_call 32; refine (hrjoin _ (hRT i hi _ kp5) (hRT j hj _ kp5)).mono ?_; rintro e w7 ⟨rfl, r', N', C', kp7, H7⟩))
      have HS5 := (HS0.out.gr (Gr.refl _).drew).turnT hi (x' := X i) rfl rfl (Or.inl rfl) ht5 (kp5.mono fun k hk => Or.inr hk) HBS.out
      have HS7 := HS5.turnR hi H7.out.1 H7.out.2.1 kp7 H7.out.2.2.2.2 (Nat.le_trans HBS.out kp5.size)
      have HP : Hid (StepPost 1 i X R (U ++ [(okey, 0)]) bA bR base w w7) := by
        refine ⟨_, _, _, _, _, _, _, _, HS7, HFU.out ⟨HF.out.kd, fun q hq => ?_, fun q hq z hz => ?_⟩, ?_⟩
        · by_cases e : q = i
          · subst e; rw [st_same, st_same, st_same]; exact H7.out.2.2.1
          · rw [st_other _ _ e, st_other _ _ e, st_other _ _ e]; exact HF.out.rl q hq
        · by_cases e : q = i
          · subst e; rw [st_same] at hz; exact H7.out.2.2.2.1 z hz
          · rw [st_other _ _ e] at hz; exact HF.out.un q hq z hz
        · have q1 : Kp (fun k => ∃ a, Own X R bA bR a k) w W0.drew := HB0.out.trans (Kp.of_gr (S := fun k => ∃ a, Own X R bA bR a k) (Gr.refl W0).drew) (fun _ _ h => h)
          have q2 := q1.trans kp5 (fun k _ hk => ⟨i, Or.inl ⟨hi, Or.inr hk⟩⟩)
          exact ⟨q2.trans kp7 (fun k _ hk => ⟨i + 3, Or.inr (Or.inl ⟨by omega, by omega, by simpa using hk⟩)⟩), fun q => by rw [pT_same (by decide), st_t rfl], fun q => by rw [pR_same (by decide), st_b H7.out.1]⟩
      clear HS5 HS7 H7 kp7 kp5 ht5 S0 keepT keepR keepG hjoin hrjoin hRT
      go_wp2
      go_ret
      exact ⟨rfl, HP⟩
    · by_cases q2 : ok = 2
      · subst q2
        have hco := copy_at W0 (HS0.out.tl j hj)
        clear k3 k4 b1
        subst hW0
        go_enter Try.func19, Try.ntmps19
        go_wp2_with fail
        refine hco.mono ?_
        rintro e w1 ⟨y, rfl, ay, by_, gy, ty, g1, hyt, hys⟩
        have HYT : Hid (y.t = w.heap.size + 2 ∧ (w1.setCell ⟨bA, i, none⟩ (tp y)).heap.size = w.heap.size + 3) := ⟨by rw [hyt]; have := HZ0.out; omega, by rw [World.size_setCell]; have := HZ0.out; omega⟩
        clear hyt hys
        obtain ⟨p1, p2, p3⟩ := (HS0.out.gr g1).cellA hi
        have HSP := HS0.out.putT hi w1 g1 ty ay by_ (k' := kT j) (by rw [gy]; exact HS0.out.od j hj) HBS.out
        have HB1 : Hid (Kp (fun k => ∃ a, Own X R bA bR a k) w (w1.setCell ⟨bA, i, none⟩ (tp y))) := by
          have hk : Kp (fun k => k = bA) w1 (w1.setCell ⟨bA, i, none⟩ (tp y)) := by
            obtain ⟨ca, hca, _⟩ := (HS0.out.gr g1).ca
            rw [setCell_eq_setRow w1 bA i _ _ _ (tp y) hca]
            exact ⟨rfl, rfl, rfl, by simp [World.setRow], fun k _ hne => setRow_other w1 bA k _ (by omega)⟩
          have hb1 := HB0.out.trans (Kp.of_gr (S := fun k => ∃ a, Own X R bA bR a k) g1) (fun _ _ h => h)
          exact hb1.trans hk (fun k _ hk => ⟨6, Or.inr (Or.inr (Or.inl ⟨rfl, hk⟩))⟩)
        have HSS : Hid (Six (w1.setCell ⟨bA, i, none⟩ (tp y)) bA bR (st X i y) R (st kT i (kT j)) kR (st (fun _ => U.length) i U.length) (st F i (F j)) N C base) := HSP
        have hrc := rcopy_at (w1.setCell ⟨bA, i, none⟩ (tp y)) (HSS.out.rt j hj)
        obtain ⟨q1', q2', q3'⟩ := HSS.out.cellR hj
        clear HSP hco g1 ty ay by_ gy a1 a2 a1j b1j b2
        go_wp2_with fail
        refine hrc.mono ?_
        rintro e w2 ⟨rn, rfl, hrb, H2⟩
        have HRB : Hid (rn.b = w.heap.size + 3) := hrb.trans HYT.out.2
        clear hrb
        obtain ⟨s1', s2', s3'⟩ := (HSS.out.bel H2.out.2.1).cellR hi
        have HS3 := HSS.out.putR hi w2 H2.out.2.1 H2.out.1 H2.out.2.2 (Nat.le_trans hbs HB1.out.size)
        have HP : Hid (StepPost 2 i X R (U ++ [(okey, 0)]) bA bR base w (w2.setCell ⟨bR, i, none⟩ (rp rn))) := by
          refine ⟨_, _, _, _, _, _, _, _, HS3, HFU.out ⟨fun q hq => ?_, fun q hq => ?_, fun q hq z hz => ?_⟩, ?_⟩
          · by_cases e : q = i
            · subst e; rw [st_same, st_same]; exact HF.out.kd j hj
            · rw [st_other _ _ e, st_other _ _ e]; exact HF.out.kd q hq
          · by_cases e : q = i
            · subst e; rw [st_same, st_same, st_same]; exact HF.out.rl j hj
            · rw [st_other _ _ e, st_other _ _ e, st_other _ _ e]; exact HF.out.rl q hq
          · by_cases e : q = i
            · subst e; rw [st_same] at hz; exact HF.out.un j hj z hz
            · rw [st_other _ _ e] at hz; exact HF.out.un q hq z hz
          · have hk : Kp (fun k => k = bR) w2 (w2.setCell ⟨bR, i, none⟩ (rp rn)) := by
              obtain ⟨cr, hcr, _⟩ := (HSS.out.bel H2.out.2.1).cr
              rw [setCell_eq_setRow w2 bR i _ _ _ (rp rn) hcr]
              exact ⟨rfl, rfl, rfl, by simp [World.setRow], fun k _ hne => setRow_other w2 bR k _ (by omega)⟩
            have hb1 := HB1.out.trans (Kp.of_below (S := fun k => ∃ a, Own X R bA bR a k) H2.out.2.1) (fun _ _ h => h)
            refine ⟨hb1.trans hk (fun k _ hk => ⟨7, Or.inr (Or.inr (Or.inr ⟨rfl, hk⟩))⟩), fun q => ?_, fun q => ?_⟩
            · by_cases e : q = i
              · subst e; rw [st_same]; unfold pT; rw [if_pos ⟨rfl, rfl⟩]; exact HYT.out.1
              · rw [st_other _ _ e]; unfold pT; rw [if_neg (fun h => e h.2)]
            · by_cases e : q = i
              · subst e; rw [st_same]; unfold pR; rw [if_pos ⟨rfl, rfl⟩]; exact HRB.out
              · rw [st_other _ _ e]; unfold pR; rw [if_neg (fun h => e h.2)]
        clear HS3 hrc H2 HSS HB1 p1 p2 p3 q1' q2' q3'
        go_wp2
        go_ret
        exact ⟨rfl, HP⟩
      · by_cases q3 : ok = 3
        · subst q3
          have hcl := clear_tb W0 (HS0.out.tl i hi)
          have HX : Hid ((X i).t ≠ bR ∧ bR < w.heap.size) := ⟨fun e => by have := HS0.out.sep i 7 bR (Or.inl ⟨hi, Or.inl e.symm⟩) (Or.inr (Or.inr (Or.inr ⟨rfl, rfl⟩))); omega, b3⟩
          clear k3 k4 a1j b1j
          subst hW0
          go_enter Try.func19, Try.ntmps19
          go_wp2_with fail
          refine hcl.mono ?_
          rintro e w1 ⟨rfl, bn, hbn, ht1, kp1⟩
          have HS1 := HS0.out.turnT hi (x' := ⟨(X i).t, bn, (X i).g⟩) rfl rfl (Or.inr hbn) ht1 (kp1.mono fun k hk => Or.inl hk) HBS.out
          have HB1 : Hid (Kp (fun k => ∃ a, Own X R bA bR a k) w w1) := HB0.out.trans kp1 (fun k _ hk => ⟨i, Or.inl ⟨hi, Or.inl hk⟩⟩)
          have hrc := rclear_any w1 (HS1.rt i hi)
          obtain ⟨b1', _, b3'⟩ := HS1.cellR hi
          have HS1' := HS1
          clear HS1 ht1 kp1 hcl a1 a2 b1 b2
          go_wp2_with fail
          refine hrc.mono ?_
          rintro e w2 ⟨rfl, ht2, kp2⟩
          have HS2 := HS1'.turnR hi (r' := ⟨(R i).b, .slice none 0 0, .slice none 0 0⟩) rfl ht2 (kp2.mono fun k hk => Or.inl hk) (fun k hk => by
            rcases hk with h | h | h
            · exact Or.inl (Or.inl h)
            · simp [Value.ownBlock] at h
            · simp [Value.ownBlock] at h) (Nat.le_trans hbs HB1.out.size)
          have HB2 : Kp (fun k => ∃ a, Own X R bA bR a k) w w2 := HB1.out.trans kp2 (fun k _ hk => ⟨i + 3, Or.inr (Or.inl ⟨by omega, by omega, by simpa [Rf.own] using Or.inl hk⟩)⟩)
          have HP : Hid (StepPost 3 i X R (U ++ [(okey, 0)]) bA bR base w w2) := by
            refine ⟨_, _, _, _, _, _, _, _, HS2, HFU.out ⟨HF.out.kd, fun q hq => ?_, fun q hq y hy => ?_⟩, HB2, fun q => by rw [pT_same (by decide)]; exact st_t rfl, fun q => by rw [pR_same (by decide)]; exact st_b rfl⟩
            · by_cases e : q = i
              · subst e; rw [st_same, st_same, st_same]
                exact ⟨fun x => by simp [rget], fun y hy => by cases hy⟩
              · rw [st_other _ _ e, st_other _ _ e, st_other _ _ e]; exact HF.out.rl q hq
            · by_cases e : q = i
              · subst e; rw [st_same] at hy; cases hy
              · rw [st_other _ _ e] at hy; exact HF.out.un q hq y hy
          clear HS2 HB2 ht2 kp2 hrc HS1' b1' b3'
          go_wp2
          go_ret
          exact ⟨rfl, HP⟩
        · by_cases q4 : ok = 4
          · subst q4
            have hjn := fun W => join_none (X i).t W
            have HP : Hid (StepPost 4 i X R (U ++ [(okey, 0)]) bA bR base w W0) := ⟨_, _, _, _, _, _, _, _, HS0.out, HFU.out HF.out, HB0.out, fun q => (pT_same (by decide)).symm, fun q => (pR_same (by decide)).symm⟩
            clear k3 k4 a1j b1j
            subst hW0
            go_enter Try.func19, Try.ntmps19
            go_wp2_with fail
            refine (hjn _).mono ?_
            rintro e w1 ⟨rfl, rfl⟩
            go_wp2
            go_ret
            exact ⟨rfl, HP⟩
          · have HP : Hid (StepPost ok i X R (U ++ [(okey, 0)]) bA bR base w W0) := ⟨_, _, _, _, _, _, _, _, HS0.out, HFU.out HF.out, HB0.out, fun q => (pT_same q2).symm, fun q => (pR_same q2).symm⟩
            clear k3 k4 a1j b1j
            subst hW0
            go_enter Try.func19, Try.ntmps19
            go_wp2
            go_ret
            exact ⟨rfl, HP⟩
end Go.Proofs.Ytplbcamliiajdaa
