import Derived.Test.YtghpekkncfckaaaCaKn
import Derived.Test.YtghpekkncfckaaaLKeep2
import Derived.Test.YtghpekkncfckaaaLHold2
import Derived.Test.YtghpekkncfckaaaLStep
import Derived.BigQuiet
import Derived.Deep.RegionHeld3
import Derived.Shelf.SlSortCmp.QuietGrown
namespace Go.Proofs.Ytghpekkncfckaaa.Ca
open Go.RowKit Go.Sort
attribute [local go_sem ↓] Go.wp_at_zero Go.wp_at_succ

theorem infoSl : (Try.prog.info? 22).map (fun i => (i.zero, i.size, i.bytes)) = some (some (.slice none 0 0), 1, 24) := by kernel_rfl
/-- Slices as elements. -/
def EV : El {v : Value // v.oneCell' = true} where
  k := 1
  enc x := [x.1]
  len _ := rfl
  one x u hu := by
    simp at hu
    subst hu
    exact x.2
theorem range_two (V : Nat → Value) (k : Nat) : (List.range (2 * (k + 1))).map V = (List.range (2 * k)).map V ++ [V (2 * k), V (2 * k + 1)] := by
  rw [show 2 * (k + 1) = 2 * k + 1 + 1 by omega, List.range_succ, List.range_succ]
  simp
/-- The mark of list i. -/
def mkC (i : Nat) : Ct := ⟨(i : Int), 0, 0, 7, 7⟩
theorem flC_set (L : List Ct) (k : Nat) (x : Ct) : ((((((fl EC L).set (k * 5) (.int .u64 x.a)).set (k * 5 + 1) (.int .u64 x.b)).set (k * 5 + 2) (.int .u64 x.c)).set (k * 5 + 3) (.int .u64 x.k)).set (k * 5 + 4) (.int .u64 x.v)) = fl EC (L.set k x) := by
  induction L generalizing k with
  | nil => simp [fl]
  | cons y L ih =>
    rw [fl_cons]
    cases k with
    | zero => simp [EC, fl]
    | succ k =>
      rw [List.set_cons_succ, fl_cons, ← ih k, show (k + 1) * 5 = k * 5 + 5 by omega]
      simp [EC]
theorem owns_set5 {w : World} {g N cap k : Nat} {L : List Ct} (x : Ct) (h : w.ownsRow 0 36 5 (.slice (some ⟨g, 0, none⟩) N cap) N (fl EC L)) :
    (((((w.setCell ⟨g, k * 5, none⟩ (.int .u64 x.a)).setCell ⟨g, k * 5 + 1, none⟩ (.int .u64 x.b)).setCell ⟨g, k * 5 + 2, none⟩ (.int .u64 x.c)).setCell ⟨g, k * 5 + 3, none⟩ (.int .u64 x.k)).setCell ⟨g, k * 5 + 4, none⟩ (.int .u64 x.v)).ownsRow 0 36 5 (.slice (some ⟨g, 0, none⟩) N cap) N (fl EC (L.set k x)) ∧ Kp (fun j => j = g) w (((((w.setCell ⟨g, k * 5, none⟩ (.int .u64 x.a)).setCell ⟨g, k * 5 + 1, none⟩ (.int .u64 x.b)).setCell ⟨g, k * 5 + 2, none⟩ (.int .u64 x.c)).setCell ⟨g, k * 5 + 3, none⟩ (.int .u64 x.k)).setCell ⟨g, k * 5 + 4, none⟩ (.int .u64 x.v)) := by
  obtain ⟨h1, k1⟩ := owns_cell0 (q := k * 5) (.int .u64 x.a) h
  obtain ⟨h2, k2⟩ := owns_cell0 (q := k * 5 + 1) (.int .u64 x.b) h1
  obtain ⟨h3, k3⟩ := owns_cell0 (q := k * 5 + 2) (.int .u64 x.c) h2
  obtain ⟨h4, k4⟩ := owns_cell0 (q := k * 5 + 3) (.int .u64 x.k) h3
  obtain ⟨h5, k5⟩ := owns_cell0 (q := k * 5 + 4) (.int .u64 x.v) h4
  rw [flC_set] at h5
  exact ⟨h5, ((((k1.trans k2 (fun _ _ h => h)).trans k3 (fun _ _ h => h)).trans k4 (fun _ _ h => h)).trans k5 (fun _ _ h => h))⟩
theorem fam_mark {W : World} {n k g len cap i : Nat} {V : Nat → Value} {C : Nat → List Ct} (h : Fam EC 36 W n V (stage mkC C k i)) (hk : k < n) (hV : V k = .slice (some ⟨g, 0, none⟩) len cap) (hl : (C k).length = len) (hi : i < (C k).length) :
    Fam EC 36 (((((W.setCell ⟨g, i * 5, none⟩ (.int .u64 (k : Int))).setCell ⟨g, i * 5 + 1, none⟩ (.int .u64 0)).setCell ⟨g, i * 5 + 2, none⟩ (.int .u64 0)).setCell ⟨g, i * 5 + 3, none⟩ (.int .u64 7)).setCell ⟨g, i * 5 + 4, none⟩ (.int .u64 7)) n V (stage mkC C k (i + 1)) ∧ Kp (fun q => (V k).ownBlock = some q) W (((((W.setCell ⟨g, i * 5, none⟩ (.int .u64 (k : Int))).setCell ⟨g, i * 5 + 1, none⟩ (.int .u64 0)).setCell ⟨g, i * 5 + 2, none⟩ (.int .u64 0)).setCell ⟨g, i * 5 + 3, none⟩ (.int .u64 7)).setCell ⟨g, i * 5 + 4, none⟩ (.int .u64 7)) := by
  have ho := h.own k hk
  have hsl := stage_len mkC C k i k (Nat.le_of_lt hi)
  rw [hV, hsl, hl] at ho
  obtain ⟨h1, h2⟩ := owns_set5 (k := i) (mkC k) ho
  exact h.set hk hV (mkC k) (stage_step mkC C k i hi) (by rw [hsl, hl]; exact h1) h2
/-- 'append(own, x, x)', with the old list, as a step of a region that draws. -/
theorem step_appKeep2 {P : Program} {α : Type} (E : El α) {e sT : TypeId} {z : Value} {bt : Nat} (hu : P.underlying sT = some (.slice e)) (hI : (P.info? e).map (fun i => (i.zero, i.size, i.bytes)) = some (some z, E.k, bt)) (hz : z.cells.size = E.k) (hk0 : 0 < E.k)
    {w : World} {ops : Array Oper} {o : Oper} {a : Act} {K : Act → World → Prop} {Q : Exit → Act → World → Prop} {X : Prop} (hgd : o.guard = none) (s y : Operand)
    (ho : o.op = .call { callee := .builtin .append, args := #[s, y], argTypes := #[sT, sT] })
    (v : Value) (n : Nat) (l : List α) (hs : a.eval s = v) (hown : w.ownsRow 0 e E.k v n (fl E l)) (hn : l.length = n)
    (x : α) (hx : a.eval y = .slice (some ⟨w.heap.size, 0, none⟩) 2 2) (hbig : (n + 2) * bt ≤ 140737488355328) (hmx : n + 2 ≤ maxLen)
    (cs : Array Value) (hcs : cs.toList = E.enc x ++ E.enc x) (te : TypeId)
    (h : ∀ g cap w', Hid (w'.ownsRow 0 e E.k (.slice (some ⟨g, 0, none⟩) (n + 2) cap) (n + 2) (fl E (l ++ [x, x]))) → Hid (Kp (fun q => v.ownBlock = some q) w w') → Hid (v.ownBlock = some g ∨ w.heap.size ≤ g) → Hid (Ls E w' v l) → K (a.put o.dst (.slice (some ⟨g, 0, none⟩) (n + 2) cap)) w') :
    if Region.wanted o (yielded ops a.tmps) = true then Oper.wp P o a (w.alloc (.cells cs te)) K Q else X := by
  have hw : Region.wanted o (yielded ops a.tmps) = true := by simp [Region.wanted, hgd]
  rw [if_pos hw]
  obtain ⟨i0, hi, hz0, hz1, hz2⟩ := info_parts hI
  have hnew : fl E [x, x] = E.enc x ++ E.enc x := by rw [fl_cons, fl_one]
  have hown' := hown.alloc (.cells cs te)
  obtain ⟨g, cap, w', hr, h2, h3, h4, h5⟩ := app_keep (P := P) (w.alloc (.cells cs te)) sT o.type e i0 _ E.k bt hu hi hz0 hz1 hz2 hz hk0 v n (fl E l) hown' ⟨w.heap.size, 0, none⟩ 2 2 (fl E [x, x]) (fl_length E [x, x]) (by have := World.news_of_block (heap_new' w (.cells cs te)); rw [hcs, ← hnew] at this; exact this) (fl_oneCell E [x, x]) (by decide) hmx hbig
  unfold Oper.wp execOp
  simp only [ho, resolve, invoke, builtin, Sem.run_bind, Sem.run_pure, Result.andThen_ok, List.map_toArray, List.map_cons, List.map_nil, hs, hx, hr]
  have hk : Kp (fun q => v.ownBlock = some q) w w' := (Kp.of_below ((Gr.refl w).alloc _).below).trans (Kp.grownBy (S := fun q => v.ownBlock = some q) h3 (fun _ h => h)) (fun _ _ h => h)
  refine h g cap w' (by rw [fl_append]; exact h2) hk (h4.imp id (fun e => by rw [e]; simp)) ?_
  rcases owns_ls (E := E) (ts := l) (by rw [hn]; exact hown) with h0 | ⟨b, off, c, hv, hb, ht⟩
  · exact Or.inl h0
  · refine Or.inr ⟨b, off, c, hv, Nat.lt_of_lt_of_le hb hk.size, fun j u hj => ?_⟩
    obtain ⟨_, ⟨h0, _⟩ | ⟨g', cap', cur, hv', _⟩⟩ := id hown
    · rw [hv] at h0; cases h0
    · rw [hv] at hv'
      simp only [Value.slice.injEq, Option.some.injEq, Addr.mk.injEq, and_true] at hv'
      obtain ⟨⟨rfl, rfl⟩, _⟩ := hv'
      rw [Nat.zero_add]
      exact h5 b (by rw [hv]; rfl) j u hj
/-- The book's pages. -/
structure Book (w : World) (m bb ob : Nat) (pb : Option Addr) (V Wv : Nat → Value) (D : Nat → List Ct) : Prop where
  addr : 0 < m → pb = some ⟨bb, ob, none⟩ ∧ bb < w.heap.size
  a : ∀ i, i < m → w.cell? ⟨bb, ob + i * 3, none⟩ = some (V (2 * i))
  b : ∀ i, i < m → w.cell? ⟨bb, ob + i * 3 + 1, none⟩ = some (V (2 * i + 1))
  c : ∀ i, i < m → w.cell? ⟨bb, ob + i * 3 + 2, none⟩ = some (Wv i)
  want : ∀ i, i < m → Ls EC w (Wv i) (D i)
  fam : Fam EC 36 w (2 * m) V (fun i => D (i / 2))
  small : ∀ i, i < m → (D i).length ≤ 1048576
  few : m ≤ 1048576
set_option maxHeartbeats 16000000 in
set_option maxRecDepth 100000 in
theorem stay_any (B m bb ob cb : Nat) (pb : Option Addr) (V Wv : Nat → Value) (D : Nat → List Ct) (w : World) (hb : Book w m bb ob pb V Wv D) (hB : ∀ i, i < 2 * m → ∀ g, (V i).ownBlock = some g → B ≤ g) (hBw : B ≤ w.heap.size) :
    Calls Try.prog 28 #[.slice pb m cb] w fun e w' => e = .returned (.bool true) ∧ Below B w w' := by
  have hmx : Try.prog.follows .mixedOrders = true := by kernel_rfl
  have HB : Hid (Book w m bb ob pb V Wv D) := hb
  have hfew := hb.few
  obtain ⟨iS, hiS, hs0, hs1, hs2⟩ := info_parts infoSl
  have HiS : Hid (Try.prog.info? 22 = some iS) := hiS
  have Hs0 : Hid (iS.zero = some (.slice none 0 0)) := hs0
  have Hs1 : Hid (iS.size = 1) := hs1
  have Hs2 : Hid (iS.bytes = 24) := hs2
  clear hb hiS hs0 hs1 hs2
  go_enter Try.func28, Try.ntmps28
  go_wp2_with fail
  go_loopw [3, 4] (fun s3 s4 wr => ∃ k : Nat, k ≤ m ∧ s4 = .int .i64 k ∧ wr.ownsRow w.heap.size 22 1 s3 (2 * k) ((List.range (2 * k)).map V) ∧ Below w.heap.size w wr) (fun _ s4 _ => m - (RowKit.intOf s4).toNat)
  case atStart => exact ⟨0, Nat.zero_le _, rfl, World.ownsRow_nil _ _ _ _, Below.refl _ _⟩
  case round =>
    obtain ⟨k, hk, rfl, hown, hbw⟩ := hrel
    have hsz := hbw.size
    by_cases hlt : k < m
    · have hltz : (k : Int) < (m : Int) := by omega
      obtain ⟨hpb, hbl⟩ := HB.out.addr (by omega)
      subst hpb
      have LA := (owns_ls (E := EC) (HB.out.fam.own (2 * k) (by omega))).below hbw
      have LBb := (owns_ls (E := EC) (HB.out.fam.own (2 * k + 1) (by omega))).below hbw
      rw [show 2 * k / 2 = k by omega] at LA
      rw [show (2 * k + 1) / 2 = k by omega] at LBb
      have LW := (HB.out.want k hlt).below hbw
      have c0 := (hbw.cell (p := ⟨bb, ob + k * 3, none⟩) hbl).trans (HB.out.a k hlt)
      have c1 := (hbw.cell (p := ⟨bb, ob + k * 3 + 1, none⟩) hbl).trans (HB.out.b k hlt)
      have c2 := (hbw.cell (p := ⟨bb, ob + k * 3 + 2, none⟩) hbl).trans (HB.out.c k hlt)
      obtain ⟨pa, ca, ea⟩ := LA.form
      obtain ⟨pe, ce, ee⟩ := LBb.form
      obtain ⟨pw, cw, ew⟩ := LW.form
      have hsm := HB.out.small k hlt
      have HRT : Hid ((List.range (2 * (k + 1))).map V = (List.range (2 * k)).map V ++ [.slice pa (D k).length ca, .slice pe (D k).length ce]) := by
        show _ = _
        rw [range_two, ea, ee]
      rw [ea] at LA c0
      rw [ee] at LBb c1
      rw [ew] at LW c2
      have hS : ∀ W v', (v' = .slice pa (D k).length ca ∨ v' = .slice pe (D k).length ce) → Gr wr W → Calls Try.prog 11 #[v', .slice pw (D k).length cw] W fun e w' => e = .returned (.bool true) ∧ Gr W w' := fun W v' h hg => by
        have := fun (hv : Ls EC W v' (D k)) => same_eq W hv (LW.below hg.below) (by omega)
        rcases h with rfl | rfl
        · exact this (LA.below hg.below)
        · exact this (LBb.below hg.below)
      have zb : bb < wr.heap.size := Nat.lt_of_lt_of_le hbl hsz
      have g0 := cell_grown (a := ⟨bb, ob + k * 3, none⟩) zb c0
      have g1 := cell_grown (a := ⟨bb, ob + k * 3 + 1, none⟩) zb c1
      have g2 := cell_grown (a := ⟨bb, ob + k * 3 + 2, none⟩) zb c2
      clear LA LBb LW ea ee ew
      generalize (D k).length = n at *
      go_wp2_with fail
      clear c0 c1 c2
      go_quiet_grown (first | (go_at_call 11; refine Calls.grown_of (v := .bool true) (hS _ _ (by first | exact Or.inl rfl | exact Or.inr rfl) ⟨_, _, rfl⟩)))
      have G9 : Gr wr (grow (wr.drewN nq) osq) := ((Gr.refl _).drewN _).grown _
      have d0 := g0 nq osq
      have d1 := g1 nq osq
      generalize grow (wr.drewN nq) osq = w9 at *
      have hown9 := owns_below hown G9.below
      have z9 := G9.size
      have zb9 : bb < w9.heap.size := Nat.lt_of_lt_of_le zb z9
      have S0 : w9.cell? ⟨bb, ob + k * 3, none⟩ = some (.slice pa n ca) ∧ w9.cell? ⟨bb, ob + k * 3 + 1, none⟩ = some (.slice pe n ce) ∧ bb < w9.heap.size := ⟨d0, d1, zb9⟩
      have keepB : ∀ W W' : World, (W.cell? ⟨bb, ob + k * 3, none⟩ = some (.slice pa n ca) ∧ W.cell? ⟨bb, ob + k * 3 + 1, none⟩ = some (.slice pe n ce) ∧ bb < W.heap.size) → Below w.heap.size W W' → (W'.cell? ⟨bb, ob + k * 3, none⟩ = some (.slice pa n ca) ∧ W'.cell? ⟨bb, ob + k * 3 + 1, none⟩ = some (.slice pe n ce) ∧ bb < W'.heap.size) := fun W W' h hb =>
        ⟨(hb.cell (p := ⟨bb, ob + k * 3, none⟩) hbl).trans h.1, (hb.cell (p := ⟨bb, ob + k * 3 + 1, none⟩) hbl).trans h.2.1, Nat.lt_of_lt_of_le h.2.2 hb.size⟩
      have hne : some bb ≠ u3.ownBlock := fun e => by have := (hown9.lt bb e.symm).1; omega
      have keepA : ∀ W W' : World, (W.cell? ⟨bb, ob + k * 3, none⟩ = some (.slice pa n ca) ∧ W.cell? ⟨bb, ob + k * 3 + 1, none⟩ = some (.slice pe n ce) ∧ bb < W.heap.size) → W.grownBy W' u3.ownBlock → (W'.cell? ⟨bb, ob + k * 3, none⟩ = some (.slice pa n ca) ∧ W'.cell? ⟨bb, ob + k * 3 + 1, none⟩ = some (.slice pe n ce) ∧ bb < W'.heap.size) := fun W W' h hg =>
        ⟨hg.cell (a := ⟨bb, _, none⟩) h.1 hne, hg.cell (a := ⟨bb, _, none⟩) h.2.1 hne, Nat.lt_of_lt_of_le h.2.2 hg.size⟩
      have hk24 : (2 * k + 2) * 24 ≤ 140737488355328 := by omega
      have hk63 : 2 * k + 2 ≤ maxLen := by unfold maxLen; omega
      have hone : ∀ u ∈ [Value.slice pa n ca, Value.slice pe n ce], u.oneCell' = true := fun u hu => by
        simp at hu
        rcases hu with rfl | rfl <;> rfl
      have hz9 : w.heap.size ≤ w9.heap.size := Nat.le_trans hsz z9
      clear g0 g1 g2 d0 d1 hown hS
      go_wp2_with fail
      go_region_held3 (fun w' => w'.cell? ⟨bb, ob + k * 3, none⟩ = some (.slice pa n ca) ∧ w'.cell? ⟨bb, ob + k * 3 + 1, none⟩ = some (.slice pe n ce) ∧ bb < w'.heap.size)
        (first | exact S0 | exact keepB w9 _ S0 (((Gr.refl w9).alloc _).drew.below.mono hz9) | exact keepB _ _ (by assumption) ((Gr.refl _).drew.below.mono hz9) | exact keepB _ _ (by assumption) (((Gr.refl _).alloc _).below.mono hz9) | exact keepA _ _ (by assumption) (by assumption))
        (first | (refine step_append_lies _ rfl _ _ 74 rfl w.heap.size 22 iS (.slice none 0 0) 1 24 Try.underlying74 HiS.out Hs0.out Hs1.out Hs2.out rfl (by decide) u3 (2 * k) _ rfl (World.ownsRow.alloc (w := w9.drew) hown9 _) ⟨w9.heap.size, 0, none⟩ 2 2 [.slice pa n ca, .slice pe n ce] rfl rfl (World.news_of_block (heap_new' _ _)) hone (by decide) hk63 hk24 (by simp; omega) _ rfl ?_; intro g cap w10 hown10 hgrow hat hlt10))
      go_wp2
      refine ⟨⟨k + 1, by omega, by go_num, by rw [HRT.out]; exact hown10, ?_⟩, by simp [RowKit.intOf]; omega⟩
      exact (((hbw.trans (G9.below.mono hsz)).trans ((Gr.refl w9).drew.below.mono hz9)).trans (((Gr.refl _).alloc _).below.mono hz9)).trans ((Kp.grownBy (S := fun k => w.heap.size ≤ k) hgrow (fun k hk => (hown9.lt k hk).1)).below (by simp; omega) (fun _ h => h))
    · have hltz : ¬ (k : Int) < (m : Int) := by omega
      have hkm : k = m := by omega
      subst hkm
      obtain ⟨N, hN⟩ : ∃ N, N = 2 * k := ⟨_, rfl⟩
      obtain ⟨C, hC⟩ : ∃ C : Nat → List Ct, C = fun i => D (i / 2) := ⟨_, rfl⟩
      have FM : Hid (Fam EC 36 wr N V C) := by
        have := HB.out.fam.below hbw
        rw [← hN, ← hC] at this
        exact this
      have hVw : Hid (∀ i, i < N → ∀ g, (V i).ownBlock = some g → B ≤ g ∧ g < w.heap.size) := fun i hi g hg => ⟨hB i (by omega) g hg, (HB.out.fam.own i (by omega)).lt g hg |>.2⟩
      have hCs : Hid (∀ i, i < N → (C i).length ≤ 1048576) := fun i hi => by rw [hC]; exact HB.out.small (i / 2) (by omega)
      rw [← hN] at hown
      have hNs : N ≤ 2097152 := by omega
      obtain ⟨p3, c3, ga, rfl, hal⟩ : ∃ p3 c3 ga, u3 = .slice p3 N c3 ∧ ∀ i, i < N → p3 = some ⟨ga, 0, none⟩ ∧ w.heap.size ≤ ga ∧ ga < wr.heap.size ∧ wr.cell? ⟨ga, i, none⟩ = some (V i) := by
        obtain ⟨_, ⟨h0, h1⟩ | ⟨ga, cap, cur, h0, hbg, hgg, _⟩⟩ := id hown
        · exact ⟨none, 0, 0, by rw [h0, h1], fun i hi => by omega⟩
        · refine ⟨_, _, ga, h0, fun i hi => ⟨rfl, hbg, (Array.getElem?_eq_some_iff.1 hgg).1, ?_⟩⟩
          have := hown.cells (g := ga) (by rw [h0]; rfl) i (V i) (by simp [hi])
          rw [addA, Nat.zero_add] at this
          exact this
      have HAL : Hid (∀ i, i < N → p3 = some ⟨ga, 0, none⟩ ∧ w.heap.size ≤ ga ∧ ga < wr.heap.size ∧ wr.cell? ⟨ga, i, none⟩ = some (V i)) := hal
      have B1 : Hid (Below w.heap.size w wr) := hbw
      clear hown hbw hN hC hal HB hB hlt hk
      generalize wr = w1 at *
      go_wp2_with fail
      clear hltz
      go_loopw [5] (fun s5 wr => ∃ j : Nat, j ≤ N ∧ s5 = .int .i64 j ∧ Hid (Fam EC 36 wr N V (stage mkC C j 0) ∧ Kp (fun q => ∃ i, i < N ∧ (V i).ownBlock = some q) w1 wr)) (fun s5 _ => N - (RowKit.intOf s5).toNat)
      case atStart => exact ⟨0, Nat.zero_le _, rfl, by rw [stage_zero]; exact FM.out, Kp.refl _ _⟩
      case round =>
        obtain ⟨j, hj, rfl, HI⟩ := hrel
        by_cases hjN : j < N
        · have hjz : (j : Int) < (N : Int) := by omega
          obtain ⟨hp3, hga1, hga2, hcell⟩ := HAL.out j hjN
          subst hp3
          have HCA : Hid (∀ W, Kp (fun q => ∃ i, i < N ∧ (V i).ownBlock = some q) w1 W → W.cell? ⟨ga, j, none⟩ = some (V j)) := fun W hW => (World.cell?_of_block (a := ⟨ga, j, none⟩) (hW.block ga hga2 (fun ⟨i, hi, e⟩ => by have := (hVw.out i hi ga e).2; omega))).trans hcell
          have hCj := hCs.out j hjN
          obtain ⟨pj, cj, ej⟩ := (owns_ls (E := EC) (FM.out.own j hjN)).form
          clear hcell
          go_wp2_with fail
          go_loopw [6] (fun s6 wr => ∃ i : Nat, i ≤ (C j).length ∧ s6 = .int .i64 i ∧ Hid (Fam EC 36 wr N V (stage mkC C j i) ∧ Kp (fun q => ∃ i, i < N ∧ (V i).ownBlock = some q) w1 wr)) (fun s6 _ => (C j).length - (RowKit.intOf s6).toNat)
          case atStart => exact ⟨0, Nat.zero_le _, rfl, HI.out⟩
          case round =>
            clear HI
            obtain ⟨i, hi, rfl, HI⟩ := hrel
            have ca := HCA.out wr HI.out.2
            rw [ej] at ca
            have hga3 : ga < wr.heap.size := Nat.lt_of_lt_of_le hga2 HI.out.2.size
            by_cases hil : i < (C j).length
            · have hilz : (i : Int) < ((C j).length : Int) := by omega
              have hlen := stage_len mkC C j i j hi
              have how := HI.out.1.own j hjN
              have hcl : 0 < (C j).length := by omega
              obtain ⟨b1, cap1, hpj, -, -⟩ := owns_form0 how (by omega)
              rw [ej, hlen] at hpj
              simp only [Value.slice.injEq] at hpj
              obtain ⟨rfl, -, rfl⟩ := hpj
              have FZ : Hid (∀ W, Gr wr W → ∀ q, W.frozen? ⟨b1, q, none⟩ = false) := fun W hW q => by
                have h := owns_below how hW.below
                rw [ej] at h
                exact owns_frozen0 h q
              have BL : Hid (b1 < wr.heap.size) := by
                have h := how
                rw [ej] at h
                exact (h.lt b1 rfl).2
              obtain ⟨y, hy⟩ : ∃ y, (stage mkC C j i j)[i]? = some y := ⟨(stage mkC C j i j)[i]'(by omega), by simp⟩
              have HYC : Hid (∀ W, Gr wr W → Cc W b1 (i * 5) y) := fun W hW => by
                obtain ⟨b, o, q', e', -, h'⟩ := atC ((owns_ls (E := EC) how).below hW.below) hy
                rw [ej, hlen] at e'
                simp only [Value.slice.injEq, Option.some.injEq, Addr.mk.injEq, and_true] at e'
                obtain ⟨⟨rfl, rfl⟩, -⟩ := e'
                rw [Nat.zero_add] at h'
                exact h'
              clear hy
              have HC14 : Hid (∀ W, Gr wr W → W.cell? ⟨ga, j, none⟩ = some (.slice (some ⟨b1, 0, none⟩) (C j).length cj) ∧ ga < W.heap.size ∧ b1 < W.heap.size) := fun W hW => ⟨(hW.cell hga3).trans ca, Nat.lt_of_lt_of_le hga3 hW.size, Nat.lt_of_lt_of_le BL.out hW.size⟩
              have HMK : Hid (∀ W, Gr wr W → Fam EC 36 (((((W.setCell ⟨b1, i * 5, none⟩ (.int .u64 (j : Int))).setCell ⟨b1, i * 5 + 1, none⟩ (.int .u64 0)).setCell ⟨b1, i * 5 + 2, none⟩ (.int .u64 0)).setCell ⟨b1, i * 5 + 3, none⟩ (.int .u64 7)).setCell ⟨b1, i * 5 + 4, none⟩ (.int .u64 7)) N V (stage mkC C j (i + 1)) ∧ Kp (fun q => ∃ i, i < N ∧ (V i).ownBlock = some q) w1 (((((W.setCell ⟨b1, i * 5, none⟩ (.int .u64 (j : Int))).setCell ⟨b1, i * 5 + 1, none⟩ (.int .u64 0)).setCell ⟨b1, i * 5 + 2, none⟩ (.int .u64 0)).setCell ⟨b1, i * 5 + 3, none⟩ (.int .u64 7)).setCell ⟨b1, i * 5 + 4, none⟩ (.int .u64 7))) := fun W hW => by
                obtain ⟨h1, h2⟩ := fam_mark (i := i) (HI.out.1.below hW.below) hjN ej rfl hil
                exact ⟨h1, (HI.out.2.trans (Kp.of_gr hW) (fun _ _ h => h)).trans h2 (fun q _ h => ⟨j, hjN, h⟩)⟩
              have hi0 : (0 : Int) ≤ (i : Int) := by omega
              have hj0 : (0 : Int) ≤ (j : Int) := by omega
              have hcg := fun W => caught_any (j : Int) 7 7 W
              have hS0 : Gr wr wr.drew := (Gr.refl wr).drew
              go_upto_region 14 with fail
              clear how hlen ca hga3
              refine wp_regionD (S := fun W' => Gr wr W') (D := [9]) hmx ?_
              refine' wpAnyD_take (i := 0) (oi := { dst := some 71, op := Go.Op.move (Go.Operand.tmp 3), type := 74, pos := "law.go:68", after := #[], guard := none }) (v := _) rfl (by kernel_rfl) (by kernel_rfl) (by kernel_rfl) (fun _ _ _ h => h) (by kernel_rfl) (Or.inl ⟨by rfl, ?hy1⟩) hS0 ?rest1
              case hy1 => (intro W hSw; go_simp; try (with_reducible rfl))
              try simp only [Act.put, List.setIfInBounds_toArray, List.set_cons_zero, List.set_cons_succ]
              refine' wpAnyD_take (i := 1) (oi := { dst := some 72, op := Go.Op.move (Go.Operand.tmp 5), type := 3, pos := "law.go:68", after := #[], guard := none }) (v := _) rfl (by kernel_rfl) (by kernel_rfl) (by kernel_rfl) (fun _ _ _ h => h) (by kernel_rfl) (Or.inl ⟨by rfl, ?hy2⟩) hS0 ?rest2
              case hy2 => (intro W hSw; go_simp; try (with_reducible rfl))
              try simp only [Act.put, List.setIfInBounds_toArray, List.set_cons_zero, List.set_cons_succ]
              refine' wpAnyD_take (i := 2) (oi := { dst := some 73, op := Go.Op.indexAddr 74 (Go.Operand.tmp 71) (Go.Operand.tmp 72), type := 0, pos := "law.go:68", after := #[{ on := 0, ground := Go.Ground.data }, { on := 1, ground := Go.Ground.data }], guard := none }) (v := _) rfl (by kernel_rfl) (by kernel_rfl) (by kernel_rfl) (fun _ _ _ h => h) (by kernel_rfl) (Or.inl ⟨by rfl, ?hy3⟩) hS0 ?rest3
              case hy3 => (intro W hSw; obtain ⟨s1, s2, s3⟩ := HC14.out W hSw; go_simp; try (with_reducible rfl))
              try simp only [Act.put, List.setIfInBounds_toArray, List.set_cons_zero, List.set_cons_succ]
              refine' wpAnyD_take (i := 3) (oi := { dst := some 74, op := Go.Op.load 22 (Go.Operand.tmp 73), type := 22, pos := "law.go:68", after := #[{ on := 2, ground := Go.Ground.data }], guard := none }) (v := _) rfl (by kernel_rfl) (by kernel_rfl) (by kernel_rfl) (fun _ _ _ h => h) (by kernel_rfl) (Or.inl ⟨by rfl, ?hy4⟩) hS0 ?rest4
              case hy4 => (intro W hSw; obtain ⟨s1, s2, s3⟩ := HC14.out W hSw; go_simp; try (with_reducible rfl))
              try simp only [Act.put, List.setIfInBounds_toArray, List.set_cons_zero, List.set_cons_succ]
              refine' wpAnyD_take (i := 4) (oi := { dst := some 75, op := Go.Op.move (Go.Operand.tmp 6), type := 3, pos := "law.go:68", after := #[], guard := none }) (v := _) rfl (by kernel_rfl) (by kernel_rfl) (by kernel_rfl) (fun _ _ _ h => h) (by kernel_rfl) (Or.inl ⟨by rfl, ?hy5⟩) hS0 ?rest5
              case hy5 => (intro W hSw; go_simp; try (with_reducible rfl))
              try simp only [Act.put, List.setIfInBounds_toArray, List.set_cons_zero, List.set_cons_succ]
              refine' wpAnyD_take (i := 5) (oi := { dst := some 76, op := Go.Op.move (Go.Operand.tmp 5), type := 3, pos := "law.go:68", after := #[], guard := none }) (v := _) rfl (by kernel_rfl) (by kernel_rfl) (by kernel_rfl) (fun _ _ _ h => h) (by kernel_rfl) (Or.inl ⟨by rfl, ?hy6⟩) hS0 ?rest6
              case hy6 => (intro W hSw; go_simp; try (with_reducible rfl))
              try simp only [Act.put, List.setIfInBounds_toArray, List.set_cons_zero, List.set_cons_succ]
              refine' wpAnyD_take (i := 6) (oi := { dst := some 77, op := Go.Op.convert 3 23 (Go.Operand.tmp 76), type := 23, pos := "law.go:68", after := #[{ on := 5, ground := Go.Ground.data }], guard := none }) (v := .int .u64 (j : Int)) rfl (by kernel_rfl) (by kernel_rfl) (by kernel_rfl) (fun _ _ _ h => h) (by kernel_rfl) (Or.inl ⟨by rfl, ?hy7⟩) hS0 ?rest7
              case hy7 => (intro W hSw; go_simp; first | done | (rw [IntKind.wrap_u64]; omega))
              try simp only [Act.put, List.setIfInBounds_toArray, List.set_cons_zero, List.set_cons_succ]
              refine wpAnyD_one (i := 7) (o := { dst := some 78, op := Go.Op.call { callee := Go.Callee.value (Go.Operand.func 29), args := #[Go.Operand.tmp 77, Go.Operand.const (Go.Value.int Go.IntKind.u64 7), Go.Operand.const (Go.Value.int Go.IntKind.u64 7)], argTypes := #[23, 23, 23] }, type := 36, pos := "law.go:68", after := #[{ on := 6, ground := Go.Ground.data }], guard := none }) (by kernel_rfl) rfl (fun K hK => ?_)
              rw [if_pos (by kernel_rfl)]
              go_simp
              refine (hcg _).mono ?_
              rintro e w5 ⟨rfl, g5⟩
              have hS5 : Gr wr w5 := hS0.trans g5
              have HM5 := hid (HMK.out w5 hS5)
              have z1 := FZ.out w5 hS5 (i * 5)
              have z2 := FZ.out w5 hS5 (i * 5 + 1)
              have z3 := FZ.out w5 hS5 (i * 5 + 2)
              have z4 := FZ.out w5 hS5 (i * 5 + 3)
              have z5 := FZ.out w5 hS5 (i * 5 + 4)
              obtain ⟨-, -, q3⟩ := HC14.out w5 hS5
              obtain ⟨y0, y1, y2, y3, y4⟩ := HYC.out w5 hS5
              clear g5
              dsimp only
              refine hK.out _ _ (fun hD => hS5) ?_
              clear hK K
              try simp only [Act.put, List.setIfInBounds_toArray, List.set_cons_zero, List.set_cons_succ]
              refine wpAnyD_one (i := 8) (o := { dst := some 79, op := Go.Op.indexAddr 22 (Go.Operand.tmp 74) (Go.Operand.tmp 75), type := 0, pos := "law.go:68", after := #[{ on := 3, ground := Go.Ground.data }, { on := 4, ground := Go.Ground.data }, { on := 0, ground := Go.Ground.phase }, { on := 1, ground := Go.Ground.phase }, { on := 2, ground := Go.Ground.phase }, { on := 3, ground := Go.Ground.phase }, { on := 4, ground := Go.Ground.phase }, { on := 5, ground := Go.Ground.phase }, { on := 6, ground := Go.Ground.phase }, { on := 7, ground := Go.Ground.phase }], guard := none }) (by kernel_rfl) rfl (fun K hK => ?_)
              rw [if_pos (by kernel_rfl)]
              go_simp
              refine hK.out _ _ (fun hD => hS5) ?_
              clear hK K
              try simp only [Act.put, List.setIfInBounds_toArray, List.set_cons_zero, List.set_cons_succ]
              refine wpAnyD_one (i := 9) (o := { dst := none, op := Go.Op.store 36 (Go.Operand.tmp 79) (Go.Operand.tmp 78), type := 0, pos := "law.go:68", after := #[{ on := 8, ground := Go.Ground.data }, { on := 7, ground := Go.Ground.data }, { on := 7, ground := Go.Ground.chain }, { on := 0, ground := Go.Ground.phase }, { on := 1, ground := Go.Ground.phase }, { on := 2, ground := Go.Ground.phase }, { on := 3, ground := Go.Ground.phase }, { on := 4, ground := Go.Ground.phase }, { on := 5, ground := Go.Ground.phase }, { on := 6, ground := Go.Ground.phase }, { on := 7, ground := Go.Ground.phase }], guard := none }) (by kernel_rfl) rfl (fun K hK => ?_)
              rw [if_pos (by kernel_rfl)]
              go_simp
              refine hK.out _ _ (fun hD => absurd (by decide) hD) ?_
              clear hK K
              try simp only [Act.put, List.setIfInBounds_toArray, List.set_cons_zero, List.set_cons_succ]
              refine wpAnyD_done (by kernel_rfl) ?_ _
              clear HC14 FZ BL HMK hcg hS0 hS5 z1 z2 z3 z4 z5 q3 y0 y1 y2 y3 y4 HYC
              go_wp2_with fail
              go_roundw
              case rel => exact ⟨i + 1, by omega, by go_num, HM5.out⟩
              case measure => simp [RowKit.intOf]; omega
            · have hilz : ¬ (i : Int) < ((C j).length : Int) := by omega
              have hie : i = (C j).length := by omega
              subst hie
              have HI2 := HI.out
              rw [stage_next] at HI2
              have HI3 : Hid (Fam EC 36 wr N V (stage mkC C (j + 1) 0) ∧ Kp (fun q => ∃ i, i < N ∧ (V i).ownBlock = some q) w1 wr) := HI2
              clear HI2
              go_wp2
              exact ⟨⟨j + 1, by omega, by go_num, HI3.out⟩, by simp [RowKit.intOf]; omega⟩
        · have hjz : ¬ (j : Int) < (N : Int) := by omega
          have hjN' : j = N := by omega
          subst hjN'
          have hst : ∀ i, i < j → stage mkC C j 0 i = List.replicate (C i).length (mkC i) := fun i hi => if_pos hi
          have G2 : Hid (Grw EC 36 22 mkC 2 wr j V (fun i => (C i).length) wr 0 V (.slice none 0 0)) := ⟨fun i hi => by omega, fun i hi => by omega, fun i _ hi => by
            have := HI.out.1.own i hi
            rw [hst i hi, List.length_replicate] at this
            exact this, fun i hi => by omega, World.ownsRow_nil _ _ _ _, fun g hg => by simp [Value.ownBlock] at hg, Kp.refl _ _⟩
          have K2 : Hid (Kp (fun q => ∃ i, i < j ∧ (V i).ownBlock = some q) w1 wr) := HI.out.2
          have FAR : Hid (∀ i i', i < j → i' < j → i ≠ i' → ∀ g, (V i).ownBlock = some g → (V i').ownBlock ≠ some g) := HI.out.1.far
          clear HI hst FM
          generalize wr = w2 at *
          have hs12 := K2.out.size
          have hs01 := B1.out.size
          have LOW : Hid (∀ i, i < j → ∀ g, (V i).ownBlock = some g → g < w2.heap.size) := fun i hi g hg => by have := (hVw.out i hi g hg).2; omega
          go_wp2_with fail
          clear hjz
          go_loopw [7, 8] (fun s7 s8 wr => ∃ (k : Nat) (X : Nat → Value), k ≤ j ∧ s8 = .int .i64 k ∧ Hid (Grw EC 36 22 mkC 2 w2 j V (fun i => (C i).length) wr k X s7)) (fun _ s8 _ => j - (RowKit.intOf s8).toNat)
          case atStart => exact ⟨0, V, Nat.zero_le _, rfl, G2.out⟩
          case round =>
            clear G2
            obtain ⟨k, X, hk, rfl, HG⟩ := hrel
            by_cases hkj : k < j
            · have hkz : (k : Int) < (j : Int) := by omega
              obtain ⟨hp3, hga1, hga2, hcell⟩ := HAL.out k hkj
              subst hp3
              have hgaV : ∀ i, i < j → (V i).ownBlock ≠ some ga := fun i hi e => by have := (hVw.out i hi ga e).2; omega
              have ca : wr.cell? ⟨ga, k, none⟩ = some (V k) := ((World.cell?_of_block (a := ⟨ga, k, none⟩) (HG.out.kp.block ga (Nat.lt_of_lt_of_le hga2 hs12) (fun ⟨i, hi, e⟩ => hgaV i hi e))).trans (World.cell?_of_block (a := ⟨ga, k, none⟩) (K2.out.block ga hga2 (fun ⟨i, hi, e⟩ => hgaV i hi e)))).trans hcell
              have hga3 : ga < wr.heap.size := Nat.lt_of_lt_of_le (Nat.lt_of_lt_of_le hga2 hs12) HG.out.kp.size
              have hCk := hCs.out k hkj
              have hOk := HG.out.rest k (Nat.le_refl _) hkj
              obtain ⟨pk, ck, ek⟩ := (owns_ls (E := EC) (ts := List.replicate (C k).length (mkC k)) (by rw [List.length_replicate]; exact hOk)).form
              rw [List.length_replicate] at ek
              have HOK : Hid (wr.ownsRow 0 36 5 (.slice pk (C k).length ck) (C k).length (fl EC (List.replicate (C k).length (mkC k)))) := by rw [← ek]; exact hOk
              have HEK : Hid (V k = .slice pk (C k).length ck) := ek
              rw [ek] at ca
              have hsw := HG.out.kp.size
              clear hcell hOk ek hgaV
              have hcg := fun W => caught_any (k : Int) 7 7 W
              have hk0 : (0 : Int) ≤ (k : Int) := by omega
              obtain ⟨U, hU⟩ : ∃ U, U = wr.drew := ⟨_, rfl⟩
              have GU : Gr wr U := by rw [hU]; exact (Gr.refl wr).drew
              have ca2 : U.cell? ⟨ga, k, none⟩ = some (.slice pk (C k).length ck) ∧ ga < U.heap.size := ⟨(GU.cell hga3).trans ca, Nat.lt_of_lt_of_le hga3 GU.size⟩
              have HG2 : Hid (Grw EC 36 22 mkC 2 w2 j V (fun i => (C i).length) wr k X u7) := HG.out
              have HNE : Hid (pk ≠ some ⟨ga, 0, none⟩ ∧ ∀ q, (Value.slice pk (C k).length ck).ownBlock = some q → q ≠ ga ∧ q < w2.heap.size) := by
                have h : ∀ q, (Value.slice pk (C k).length ck).ownBlock = some q → q ≠ ga ∧ q < w2.heap.size := fun q hq => by
                  have h1 := hVw.out k hkj q (by rw [HEK.out]; exact hq)
                  have h2 := LOW.out k hkj q (by rw [HEK.out]; exact hq)
                  exact ⟨by omega, h2⟩
                exact ⟨fun e => (h ga (by rw [e]; rfl)).1 rfl, h⟩
              have HNU : Hid (∀ q, u7.ownBlock = some q → w2.heap.size ≤ q ∧ q < wr.heap.size) := fun q hq => HG.out.more.lt q hq
              have HGA : Hid (ga < w2.heap.size) := Nat.lt_of_lt_of_le hga2 hs12
              have KEEP : Hid (∀ W W', Kp (fun q => q ≠ ga) W W' → W.cell? ⟨ga, k, none⟩ = some (.slice pk (C k).length ck) ∧ ga < W.heap.size → W'.cell? ⟨ga, k, none⟩ = some (.slice pk (C k).length ck) ∧ ga < W'.heap.size) := fun W W' hk h => ⟨(hk.cell h.2 (fun e => e rfl)).trans h.1, Nat.lt_of_lt_of_le h.2 hk.size⟩
              clear ca hga3 hsw HG
              go_upto_region 19 with fail
              refine wp_regionD (S := fun W' => W'.cell? ⟨ga, k, none⟩ = some (.slice pk (C k).length ck) ∧ ga < W'.heap.size) (D := []) hmx ?_
              rw [← hU]
              clear hU
              refine' wpAnyD_take (i := 0) (oi := { dst := some 86, op := Go.Op.move (Go.Operand.tmp 7), type := 74, pos := "law.go:73", after := #[], guard := none }) (v := _) rfl (by kernel_rfl) (by kernel_rfl) (by kernel_rfl) (fun _ _ _ h => h) (by kernel_rfl) (Or.inl ⟨by rfl, ?hy11⟩) ca2 ?rest11
              case hy11 => (intro W hSw; go_simp; try (with_reducible rfl))
              try simp only [Act.put, List.setIfInBounds_toArray, List.set_cons_zero, List.set_cons_succ]
              refine' wpAnyD_take (i := 1) (oi := { dst := some 87, op := Go.Op.move (Go.Operand.tmp 3), type := 74, pos := "law.go:73", after := #[], guard := none }) (v := _) rfl (by kernel_rfl) (by kernel_rfl) (by kernel_rfl) (fun _ _ _ h => h) (by kernel_rfl) (Or.inl ⟨by rfl, ?hy12⟩) ca2 ?rest12
              case hy12 => (intro W hSw; go_simp; try (with_reducible rfl))
              try simp only [Act.put, List.setIfInBounds_toArray, List.set_cons_zero, List.set_cons_succ]
              refine' wpAnyD_take (i := 2) (oi := { dst := some 88, op := Go.Op.move (Go.Operand.tmp 8), type := 3, pos := "law.go:73", after := #[], guard := none }) (v := _) rfl (by kernel_rfl) (by kernel_rfl) (by kernel_rfl) (fun _ _ _ h => h) (by kernel_rfl) (Or.inl ⟨by rfl, ?hy13⟩) ca2 ?rest13
              case hy13 => (intro W hSw; go_simp; try (with_reducible rfl))
              try simp only [Act.put, List.setIfInBounds_toArray, List.set_cons_zero, List.set_cons_succ]
              refine' wpAnyD_take (i := 3) (oi := { dst := some 89, op := Go.Op.indexAddr 74 (Go.Operand.tmp 87) (Go.Operand.tmp 88), type := 0, pos := "law.go:73", after := #[{ on := 1, ground := Go.Ground.data }, { on := 2, ground := Go.Ground.data }], guard := none }) (v := _) rfl (by kernel_rfl) (by kernel_rfl) (by kernel_rfl) (fun _ _ _ h => h) (by kernel_rfl) (Or.inl ⟨by rfl, ?hy14⟩) ca2 ?rest14
              case hy14 => (intro W hSw; obtain ⟨s1, s2⟩ := hSw; go_simp; try (with_reducible rfl))
              try simp only [Act.put, List.setIfInBounds_toArray, List.set_cons_zero, List.set_cons_succ]
              refine' wpAnyD_take (i := 4) (oi := { dst := some 90, op := Go.Op.load 22 (Go.Operand.tmp 89), type := 22, pos := "law.go:73", after := #[{ on := 3, ground := Go.Ground.data }], guard := none }) (v := _) rfl (by kernel_rfl) (by kernel_rfl) (by kernel_rfl) (fun _ _ _ h => h) (by kernel_rfl) (Or.inl ⟨by rfl, ?hy15⟩) ca2 ?rest15
              case hy15 => (intro W hSw; obtain ⟨s1, s2⟩ := hSw; go_simp; try (with_reducible rfl))
              try simp only [Act.put, List.setIfInBounds_toArray, List.set_cons_zero, List.set_cons_succ]
              refine' wpAnyD_take (i := 5) (oi := { dst := some 91, op := Go.Op.move (Go.Operand.tmp 8), type := 3, pos := "law.go:73", after := #[], guard := none }) (v := _) rfl (by kernel_rfl) (by kernel_rfl) (by kernel_rfl) (fun _ _ _ h => h) (by kernel_rfl) (Or.inl ⟨by rfl, ?hy16⟩) ca2 ?rest16
              case hy16 => (intro W hSw; go_simp; try (with_reducible rfl))
              try simp only [Act.put, List.setIfInBounds_toArray, List.set_cons_zero, List.set_cons_succ]
              refine' wpAnyD_take (i := 6) (oi := { dst := some 92, op := Go.Op.convert 3 23 (Go.Operand.tmp 91), type := 23, pos := "law.go:73", after := #[{ on := 5, ground := Go.Ground.data }], guard := none }) (v := .int .u64 (k : Int)) rfl (by kernel_rfl) (by kernel_rfl) (by kernel_rfl) (fun _ _ _ h => h) (by kernel_rfl) (Or.inl ⟨by rfl, ?hy17⟩) ca2 ?rest17
              case hy17 => (intro W hSw; go_simp; first | done | (rw [IntKind.wrap_u64]; omega))
              try simp only [Act.put, List.setIfInBounds_toArray, List.set_cons_zero, List.set_cons_succ]
              refine' wpAnyD_take (i := 8) (oi := { dst := some 94, op := Go.Op.move (Go.Operand.tmp 8), type := 3, pos := "law.go:73", after := #[], guard := none }) (v := _) rfl (by kernel_rfl) (by kernel_rfl) (by kernel_rfl) (fun _ _ _ h => h) (by kernel_rfl) (Or.inl ⟨by rfl, ?hy18⟩) ca2 ?rest18
              case hy18 => (intro W hSw; go_simp; try (with_reducible rfl))
              try simp only [Act.put, List.setIfInBounds_toArray, List.set_cons_zero, List.set_cons_succ]
              refine' wpAnyD_take (i := 9) (oi := { dst := some 95, op := Go.Op.convert 3 23 (Go.Operand.tmp 94), type := 23, pos := "law.go:73", after := #[{ on := 8, ground := Go.Ground.data }], guard := none }) (v := .int .u64 (k : Int)) rfl (by kernel_rfl) (by kernel_rfl) (by kernel_rfl) (fun _ _ _ h => h) (by kernel_rfl) (Or.inl ⟨by rfl, ?hy19⟩) ca2 ?rest19
              case hy19 => (intro W hSw; go_simp; first | done | (rw [IntKind.wrap_u64]; omega))
              try simp only [Act.put, List.setIfInBounds_toArray, List.set_cons_zero, List.set_cons_succ]
              refine wpAnyD_one (i := 7) (o := { dst := some 93, op := Go.Op.call { callee := Go.Callee.value (Go.Operand.func 29), args := #[Go.Operand.tmp 92, Go.Operand.const (Go.Value.int Go.IntKind.u64 7), Go.Operand.const (Go.Value.int Go.IntKind.u64 7)], argTypes := #[23, 23, 23] }, type := 36, pos := "law.go:73", after := #[{ on := 6, ground := Go.Ground.data }], guard := none }) (by kernel_rfl) rfl (fun K hK => ?_)
              rw [if_pos (by kernel_rfl)]
              go_simp
              refine (hcg _).mono ?_
              rintro e w5 ⟨rfl, g5⟩
              have hS5 := KEEP.out _ _ (Kp.of_gr (S := fun q => q ≠ ga) g5) ca2
              have G5 : Gr wr w5 := GU.trans g5
              clear g5
              dsimp only
              refine hK.out _ _ (fun hD => hS5) ?_
              clear hK K
              try simp only [Act.put, List.setIfInBounds_toArray, List.set_cons_zero, List.set_cons_succ]
              refine wpAnyD_one (i := 10) (o := { dst := some 96, op := Go.Op.call { callee := Go.Callee.value (Go.Operand.func 29), args := #[Go.Operand.tmp 95, Go.Operand.const (Go.Value.int Go.IntKind.u64 7), Go.Operand.const (Go.Value.int Go.IntKind.u64 7)], argTypes := #[23, 23, 23] }, type := 36, pos := "law.go:73", after := #[{ on := 9, ground := Go.Ground.data }, { on := 7, ground := Go.Ground.chain }], guard := none }) (by kernel_rfl) rfl (fun K hK => ?_)
              rw [if_pos (by kernel_rfl)]
              go_simp
              refine (hcg _).mono ?_
              rintro e w6 ⟨rfl, g6⟩
              have hS6 := KEEP.out _ _ (Kp.of_gr (S := fun q => q ≠ ga) g6) hS5
              have G6 : Gr wr w6 := G5.trans g6
              clear g6 G5 hS5
              dsimp only
              refine hK.out _ _ (fun hD => hS6) ?_
              clear hK K
              try simp only [Act.put, List.setIfInBounds_toArray, List.set_cons_zero, List.set_cons_succ]
              refine wpAnyD_one (i := 11) (o := { dst := some 97, op := Go.Op.buildSlice 22 2 #[(0, Go.Operand.tmp 93), (1, Go.Operand.tmp 96)], type := 22, pos := "law.go:73", after := #[{ on := 7, ground := Go.Ground.data }, { on := 10, ground := Go.Ground.data }], guard := none }) (by kernel_rfl) rfl (fun K hK => ?_)
              rw [if_pos (by kernel_rfl)]
              go_simp
              have hS7 := KEEP.out _ _ (Kp.of_gr (S := fun q => q ≠ ga) ((Gr.refl w6).alloc (.cells #[.int .u64 (k : Int), .int .u64 0, .int .u64 0, .int .u64 7, .int .u64 7, .int .u64 (k : Int), .int .u64 0, .int .u64 0, .int .u64 7, .int .u64 7] 36))) hS6
              refine hK.out _ _ (fun hD => hS7) ?_
              clear hK K
              try simp only [Act.put, List.setIfInBounds_toArray, List.set_cons_zero, List.set_cons_succ]
              refine wpAnyD_one (i := 12) (o := { dst := some 98, op := Go.Op.call { callee := Go.Callee.builtin Go.Builtin.append, args := #[Go.Operand.tmp 90, Go.Operand.tmp 97], argTypes := #[22, 22] }, type := 22, pos := "law.go:73", after := #[{ on := 4, ground := Go.Ground.data }, { on := 11, ground := Go.Ground.data }, { on := 10, ground := Go.Ground.chain }], guard := none }) (by kernel_rfl) rfl (fun K hK => ?_)
              refine step_appKeep2 EC Try.underlying22 infoC rfl (by decide) rfl _ _ rfl (.slice pk (C k).length ck) (C k).length (List.replicate (C k).length (mkC k)) rfl (owns_below HOK.out G6.below) (List.length_replicate ..) (mkC k) (by first | rfl | (go_simp; done)) (by omega) (by unfold maxLen; omega) _ rfl _ ?_
              intro g cap W1 ho1 hk1 hl1 hold
              have hS8 := KEEP.out _ _ ((Kp.of_gr (S := fun q => q ≠ ga) ((Gr.refl w6).alloc (.cells #[] 36))).trans (Kp.refl _ _) (fun _ _ h => h)) hS6
              have hS9 : W1.cell? ⟨ga, k, none⟩ = some (.slice pk (C k).length ck) ∧ ga < W1.heap.size := KEEP.out w6 W1 (hk1.out.mono fun q hq => (HNE.out.2 q hq).1) hS6
              have HM1 : Hid (W1.ownsRow w2.heap.size 22 1 u7 k ((List.range k).map X)) := owns_kp hk1.out (owns_below HG2.out.more G6.below) (fun q hq e => by
                have h1 := (HNU.out q hq).1
                have h2 := (HNE.out.2 q e).2
                omega)
              have HX1 : Hid (Ls EC W1 (.slice (some ⟨g, 0, none⟩) ((C k).length + 2) cap) (List.replicate ((C k).length + 2) (mkC k))) := by
                have := owns_ls (E := EC) (ts := List.replicate (C k).length (mkC k) ++ [mkC k, mkC k]) (by simpa using ho1.out)
                rw [show List.replicate (C k).length (mkC k) ++ [mkC k, mkC k] = List.replicate ((C k).length + 2) (mkC k) by rw [← List.replicate_append_replicate]; rfl] at this
                exact hid (by simpa using this)
              have HK1 : Hid (Kp (fun q => (V k).ownBlock = some q) wr W1) := by rw [HEK.out]; exact (Kp.of_gr G6).trans hk1.out (fun _ _ h => h)
              have HL1 : Hid (∀ q, (Value.slice (some ⟨g, 0, none⟩) ((C k).length + 2) cap).ownBlock = some q → (V k).ownBlock = some q ∨ wr.heap.size ≤ q) := fun q hq => by
                have : q = g := by simpa [Value.ownBlock] using hq.symm
                rw [this, HEK.out]
                exact hl1.out.imp id (fun e => Nat.le_trans G6.size e)
              have HOLD : Hid (Ls EC W1 (V k) (List.replicate (C k).length (mkC k))) := by rw [HEK.out]; exact hold.out
              have hsz1 : Hid (w2.heap.size ≤ W1.heap.size) := Nat.le_trans HG2.out.kp.size (Nat.le_trans G6.size hk1.out.size)
              clear ho1 hk1 hl1 hold hS6 hS7 hS8
              refine hK.out _ _ (fun hD => hS9) ?_
              clear hK K
              try simp only [Act.put, List.setIfInBounds_toArray, List.set_cons_zero, List.set_cons_succ]
              refine wpAnyD_one (i := 13) (o := { dst := some 99, op := Go.Op.buildSlice 74 1 #[(0, Go.Operand.tmp 98)], type := 74, pos := "law.go:73", after := #[{ on := 12, ground := Go.Ground.data }], guard := none }) (by kernel_rfl) rfl (fun K hK => ?_)
              rw [if_pos (by kernel_rfl)]
              go_simp
              have hS10 := KEEP.out _ _ (Kp.of_gr (S := fun q => q ≠ ga) ((Gr.refl W1).alloc (.cells #[.slice (some ⟨g, 0, none⟩) ((C k).length + 2) cap] 22))) hS9
              refine hK.out _ _ (fun hD => hS10) ?_
              clear hK K
              try simp only [Act.put, List.setIfInBounds_toArray, List.set_cons_zero, List.set_cons_succ]
              refine wpAnyD_one (i := 14) (o := { dst := some 100, op := Go.Op.call { callee := Go.Callee.builtin Go.Builtin.append, args := #[Go.Operand.tmp 86, Go.Operand.tmp 99], argTypes := #[74, 74] }, type := 74, pos := "law.go:73", after := #[{ on := 0, ground := Go.Ground.data }, { on := 13, ground := Go.Ground.data }, { on := 12, ground := Go.Ground.chain }], guard := none }) (by kernel_rfl) rfl (fun K hK => ?_)
              refine step_app1 EV Try.underlying74 infoSl rfl (by decide) rfl _ _ rfl w2.heap.size u7 k _ rfl HM1.out ⟨.slice (some ⟨g, 0, none⟩) ((C k).length + 2) cap, rfl⟩ (by first | rfl | (go_simp; done)) (by omega) (by unfold maxLen; omega) hsz1.out _ rfl _ ?_
              intro g7 c7 W3 ho3 hg3 hl3
              have hk3 : Kp (fun q => u7.ownBlock = some q) W1 W3 := Kp.grownBy hg3.out (fun _ h => h)
              have hS11 : W3.cell? ⟨ga, k, none⟩ = some (.slice pk (C k).length ck) ∧ ga < W3.heap.size := KEEP.out W1 W3 (hk3.mono fun q hq e => by
                have h1 := (HNU.out q hq).1
                have h2 := HGA.out
                omega) hS9
              have HSS : Hid (Grw EC 36 22 mkC 2 w2 j V (fun i => (C i).length) W3 (k + 1) (fun i => if i = k then .slice (some ⟨g, 0, none⟩) ((C k).length + 2) cap else X i) (.slice (some ⟨g7, 0, none⟩) (k + 1) c7)) :=
                HG2.out.step hkj FAR.out LOW.out HX1.out HL1.out HOLD.out HK1.out ho3.out hk3 (fun q hq => by
                  have : q = g7 := by simpa [Value.ownBlock] using hq.symm
                  rw [this]
                  exact hl3.out)
              clear ho3 hg3 hl3 hk3 hS9 hS10
              refine hK.out _ _ (fun hD => hS11) ?_
              clear hK K
              try simp only [Act.put, List.setIfInBounds_toArray, List.set_cons_zero, List.set_cons_succ]
              refine wpAnyD_one (i := 15) (o := { dst := some 7, op := Go.Op.assign (Go.Operand.tmp 100), type := 74, pos := "law.go:73", after := #[{ on := 14, ground := Go.Ground.data }, { on := 14, ground := Go.Ground.chain }, { on := 0, ground := Go.Ground.phase }, { on := 1, ground := Go.Ground.phase }, { on := 2, ground := Go.Ground.phase }, { on := 3, ground := Go.Ground.phase }, { on := 4, ground := Go.Ground.phase }, { on := 5, ground := Go.Ground.phase }, { on := 6, ground := Go.Ground.phase }, { on := 7, ground := Go.Ground.phase }, { on := 8, ground := Go.Ground.phase }, { on := 9, ground := Go.Ground.phase }, { on := 10, ground := Go.Ground.phase }, { on := 11, ground := Go.Ground.phase }, { on := 12, ground := Go.Ground.phase }, { on := 13, ground := Go.Ground.phase }, { on := 14, ground := Go.Ground.phase }], guard := none }) (by kernel_rfl) rfl (fun K hK => ?_)
              rw [if_pos (by kernel_rfl)]
              go_simp
              refine hK.out _ _ (fun hD => hS11) ?_
              clear hK K
              try simp only [Act.put, List.setIfInBounds_toArray, List.set_cons_zero, List.set_cons_succ]
              refine wpAnyD_done (by kernel_rfl) ?_ _
              clear hcg GU ca2 HG2 HNE HNU HGA KEEP hS11
              go_wp2_with fail
              go_roundw
              case rel => exact ⟨k + 1, _, by omega, by go_num, HSS.out⟩
              case measure => simp [RowKit.intOf]; omega
            · have hkz : ¬ (k : Int) < (j : Int) := by omega
              have hkj' : k = j := by omega
              subst hkj'
              have GW : Hid (Grw EC 36 22 mkC 2 w2 k V (fun i => (C i).length) wr k X u7) := HG.out
              have hmore := HG.out.more
              obtain ⟨p7, c7, g7, rfl, h7⟩ : ∃ p7 c7 g7, u7 = .slice p7 k c7 ∧ ∀ i, i < k → p7 = some ⟨g7, 0, none⟩ ∧ g7 < wr.heap.size ∧ wr.cell? ⟨g7, i, none⟩ = some (X i) := by
                obtain ⟨_, ⟨h0, h1⟩ | ⟨ga, cap, cur, h0, hbg, hgg, _⟩⟩ := id hmore
                · exact ⟨none, 0, 0, by rw [h0, h1], fun i hi => by omega⟩
                · refine ⟨_, _, ga, h0, fun i hi => ⟨rfl, (Array.getElem?_eq_some_iff.1 hgg).1, ?_⟩⟩
                  have := hmore.cells (g := ga) (by rw [h0]; rfl) i (X i) (by simp [hi])
                  rw [addA, Nat.zero_add] at this
                  exact this
              have H7 : Hid (∀ i, i < k → p7 = some ⟨g7, 0, none⟩ ∧ g7 < wr.heap.size ∧ wr.cell? ⟨g7, i, none⟩ = some (X i)) := h7
              have HCA : Hid (∀ i, i < k → p3 = some ⟨ga, 0, none⟩ ∧ ga < wr.heap.size ∧ wr.cell? ⟨ga, i, none⟩ = some (V i)) := fun i hi => by
                obtain ⟨hp3, hga1, hga2, hcell⟩ := HAL.out i hi
                have hgaV : ∀ i, i < k → (V i).ownBlock ≠ some ga := fun i hi e => by have := (hVw.out i hi ga e).2; omega
                exact ⟨hp3, Nat.lt_of_lt_of_le (Nat.lt_of_lt_of_le hga2 hs12) HG.out.kp.size, ((World.cell?_of_block (a := ⟨ga, i, none⟩) (HG.out.kp.block ga (Nat.lt_of_lt_of_le hga2 hs12) (fun ⟨i, hi, e⟩ => hgaV i hi e))).trans (World.cell?_of_block (a := ⟨ga, i, none⟩) (K2.out.block ga hga2 (fun ⟨i, hi, e⟩ => hgaV i hi e)))).trans hcell⟩
              have BF : Hid (Below B w wr) := by
                have hSB : ∀ q, (∃ i, i < k ∧ (V i).ownBlock = some q) → B ≤ q := fun q ⟨i, hi, e⟩ => (hVw.out i hi q e).1
                exact ((B1.out.mono hBw).trans (K2.out.below (Nat.le_trans hBw hs01) hSB)).trans (HG.out.kp.below (Nat.le_trans (Nat.le_trans hBw hs01) hs12) hSB)
              clear hmore h7 HG HAL K2 hVw LOW FAR B1 HiS Hs0 Hs1 Hs2 hs12 hs01
              generalize wr = w3 at *
              go_wp2_with fail
              clear hkz
              go_loopw [9] (fun s9 wr => ∃ i : Nat, i ≤ k ∧ s9 = .int .i64 i ∧ Hid (Gr w3 wr)) (fun s9 _ => k - (RowKit.intOf s9).toNat)
              case atStart => exact ⟨0, Nat.zero_le _, rfl, Gr.refl _⟩
              case round =>
                obtain ⟨i, hi, rfl, HW⟩ := hrel
                by_cases hik : i < k
                · have hikz : (i : Int) < (k : Int) := by omega
                  obtain ⟨hp7, hg7, c7x⟩ := H7.out i hik
                  obtain ⟨hp3, hga, c3x⟩ := HCA.out i hik
                  subst hp7
                  subst hp3
                  have hCi := hCs.out i hik
                  have HC26 : Hid (∀ W, Gr w3 W → W.cell? ⟨g7, i, none⟩ = some (X i) ∧ g7 < W.heap.size ∧ W.cell? ⟨ga, i, none⟩ = some (V i) ∧ ga < W.heap.size) := fun W h => ⟨(h.cell hg7).trans c7x, Nat.lt_of_lt_of_le hg7 h.size, (h.cell hga).trans c3x, Nat.lt_of_lt_of_le hga h.size⟩
                  have LX : Hid (Ls EC w3 (X i) (List.replicate ((C i).length + 2) (mkC i))) := GW.out.big i hik
                  have LV : Hid (Ls EC w3 (V i) (List.replicate (C i).length (mkC i))) := GW.out.old i hik
                  obtain ⟨px, cx, ex⟩ := LX.out.form
                  obtain ⟨pv, cv, ev⟩ := LV.out.form
                  rw [List.length_replicate] at ex ev
                  rw [ex] at LX HC26
                  rw [ev] at LV HC26
                  clear ex ev c7x c3x
                  generalize (C i).length = n at *
                  have hcg := fun W => caught_any (i : Int) 7 7 W
                  have heq := fun (W : World) => run_eqC (mkC i) (mkC i) W
                  have hii : (0 : Int) ≤ (i : Int) := by omega
                  obtain ⟨s1, s2, s3, s4⟩ := HC26.out wr HW.out
                  go_wp2_with fail
                  clear s1 s2 s3 s4
                  go_loopw [10] (fun s10 wr => ∃ q : Nat, q ≤ n + 2 ∧ s10 = .int .i64 q ∧ Hid (Gr w3 wr)) (fun s10 _ => n + 2 - (RowKit.intOf s10).toNat)
                  case atStart => exact ⟨0, Nat.zero_le _, rfl, HW.out⟩
                  case round =>
                    clear HW
                    obtain ⟨q, hq, rfl, HW⟩ := hrel
                    obtain ⟨s1, s2, s3, s4⟩ := HC26.out wr HW.out
                    by_cases hqn : q < n + 2
                    · have hqz2 : (q : Int) < ((n + 2 : Nat) : Int) := by omega
                      have hqz : (q : Int) < (n : Int) + 2 := by omega
                      have hq0 : (0 : Int) ≤ (q : Int) := by omega
                      obtain ⟨bx, ox, hpx⟩ : ∃ b o, px = some ⟨b, o, none⟩ := by
                        obtain ⟨b, o, q', e', -, -⟩ := atC LX.out (j := q) (x := mkC i) (by simp [hqn])
                        simp only [Value.slice.injEq] at e'
                        exact ⟨b, o, e'.1⟩
                      subst hpx
                      have HX26 : Hid (∀ W, Gr w3 W → bx < W.heap.size ∧ Cc W bx (ox + q * 5) (mkC i)) := fun W h => by
                        obtain ⟨b, o, q', e', l', h'⟩ := atC (LX.out.below h.below) (j := q) (x := mkC i) (by simp [hqn])
                        simp only [Value.slice.injEq, Option.some.injEq, Addr.mk.injEq, and_true] at e'
                        obtain ⟨⟨rfl, rfl⟩, -⟩ := e'
                        exact ⟨l', h'⟩
                      have hS0 : Gr w3 wr.drew := HW.out.drew
                      by_cases hqn2 : q < n
                      · have hqn2z : (q : Int) < (n : Int) := by omega
                        have hqd : decide ((q : Int) < (n : Int)) = true := by simp; omega
                        obtain ⟨by', oy, hpv⟩ : ∃ b o, pv = some ⟨b, o, none⟩ := by
                          obtain ⟨b, o, q', e', -, -⟩ := atC LV.out (j := q) (x := mkC i) (by simp [hqn2])
                          simp only [Value.slice.injEq] at e'
                          exact ⟨b, o, e'.1⟩
                        subst hpv
                        have HV26 : Hid (∀ W, Gr w3 W → by' < W.heap.size ∧ Cc W by' (oy + q * 5) (mkC i)) := fun W h => by
                          obtain ⟨b, o, q', e', l', h'⟩ := atC (LV.out.below h.below) (j := q) (x := mkC i) (by simp [hqn2])
                          simp only [Value.slice.injEq, Option.some.injEq, Addr.mk.injEq, and_true] at e'
                          obtain ⟨⟨rfl, rfl⟩, -⟩ := e'
                          exact ⟨l', h'⟩
                        go_upto_region 26 with fail
                        clear s1 s2 s3 s4
                        refine wp_regionD (S := fun W' => Gr w3 W') (D := []) hmx ?_
                        refine' wpAnyD_take (i := 0) (oi := { dst := some 116, op := Go.Op.move (Go.Operand.tmp 7), type := 74, pos := "law.go:77", after := #[], guard := none }) (v := _) rfl (by kernel_rfl) (by kernel_rfl) (by kernel_rfl) (fun _ _ _ h => h) (by kernel_rfl) (Or.inl ⟨by rfl, ?hy27⟩) hS0 ?rest27
                        case hy27 => (intro W hSw; go_simp; try (with_reducible rfl))
                        try simp only [Act.put, List.setIfInBounds_toArray, List.set_cons_zero, List.set_cons_succ]
                        refine' wpAnyD_take (i := 1) (oi := { dst := some 117, op := Go.Op.move (Go.Operand.tmp 9), type := 3, pos := "law.go:77", after := #[], guard := none }) (v := _) rfl (by kernel_rfl) (by kernel_rfl) (by kernel_rfl) (fun _ _ _ h => h) (by kernel_rfl) (Or.inl ⟨by rfl, ?hy28⟩) hS0 ?rest28
                        case hy28 => (intro W hSw; go_simp; try (with_reducible rfl))
                        try simp only [Act.put, List.setIfInBounds_toArray, List.set_cons_zero, List.set_cons_succ]
                        refine' wpAnyD_take (i := 2) (oi := { dst := some 118, op := Go.Op.indexAddr 74 (Go.Operand.tmp 116) (Go.Operand.tmp 117), type := 0, pos := "law.go:77", after := #[{ on := 0, ground := Go.Ground.data }, { on := 1, ground := Go.Ground.data }], guard := none }) (v := _) rfl (by kernel_rfl) (by kernel_rfl) (by kernel_rfl) (fun _ _ _ h => h) (by kernel_rfl) (Or.inl ⟨by rfl, ?hy29⟩) hS0 ?rest29
                        case hy29 => (intro W hSw; obtain ⟨s1, s2, s3, s4⟩ := HC26.out W hSw; go_simp; try (with_reducible rfl))
                        try simp only [Act.put, List.setIfInBounds_toArray, List.set_cons_zero, List.set_cons_succ]
                        refine' wpAnyD_take (i := 3) (oi := { dst := some 119, op := Go.Op.load 22 (Go.Operand.tmp 118), type := 22, pos := "law.go:77", after := #[{ on := 2, ground := Go.Ground.data }], guard := none }) (v := _) rfl (by kernel_rfl) (by kernel_rfl) (by kernel_rfl) (fun _ _ _ h => h) (by kernel_rfl) (Or.inl ⟨by rfl, ?hy30⟩) hS0 ?rest30
                        case hy30 => (intro W hSw; obtain ⟨s1, s2, s3, s4⟩ := HC26.out W hSw; go_simp; try (with_reducible rfl))
                        try simp only [Act.put, List.setIfInBounds_toArray, List.set_cons_zero, List.set_cons_succ]
                        refine' wpAnyD_take (i := 4) (oi := { dst := some 120, op := Go.Op.move (Go.Operand.tmp 10), type := 3, pos := "law.go:77", after := #[], guard := none }) (v := _) rfl (by kernel_rfl) (by kernel_rfl) (by kernel_rfl) (fun _ _ _ h => h) (by kernel_rfl) (Or.inl ⟨by rfl, ?hy31⟩) hS0 ?rest31
                        case hy31 => (intro W hSw; go_simp; try (with_reducible rfl))
                        try simp only [Act.put, List.setIfInBounds_toArray, List.set_cons_zero, List.set_cons_succ]
                        refine' wpAnyD_take (i := 5) (oi := { dst := some 121, op := Go.Op.indexAddr 22 (Go.Operand.tmp 119) (Go.Operand.tmp 120), type := 0, pos := "law.go:77", after := #[{ on := 3, ground := Go.Ground.data }, { on := 4, ground := Go.Ground.data }], guard := none }) (v := _) rfl (by kernel_rfl) (by kernel_rfl) (by kernel_rfl) (fun _ _ _ h => h) (by kernel_rfl) (Or.inl ⟨by rfl, ?hy32⟩) hS0 ?rest32
                        case hy32 => (intro W hSw; obtain ⟨s1, s2, s3, s4⟩ := HC26.out W hSw; obtain ⟨s5, ⟨s6, s7, s8, s9, s10⟩⟩ := HX26.out W hSw; unfold mkC at s6 s7 s8 s9 s10; dsimp only at s6 s7 s8 s9 s10; go_simp; try (with_reducible rfl))
                        try simp only [Act.put, List.setIfInBounds_toArray, List.set_cons_zero, List.set_cons_succ]
                        refine' wpAnyD_take (i := 6) (oi := { dst := some 122, op := Go.Op.load 36 (Go.Operand.tmp 121), type := 36, pos := "law.go:77", after := #[{ on := 5, ground := Go.Ground.data }], guard := none }) (v := _) rfl (by kernel_rfl) (by kernel_rfl) (by kernel_rfl) (fun _ _ _ h => h) (by kernel_rfl) (Or.inl ⟨by rfl, ?hy33⟩) hS0 ?rest33
                        case hy33 => (intro W hSw; obtain ⟨s1, s2, s3, s4⟩ := HC26.out W hSw; obtain ⟨s5, ⟨s6, s7, s8, s9, s10⟩⟩ := HX26.out W hSw; unfold mkC at s6 s7 s8 s9 s10; dsimp only at s6 s7 s8 s9 s10; go_simp; try (with_reducible rfl))
                        try simp only [Act.put, List.setIfInBounds_toArray, List.set_cons_zero, List.set_cons_succ]
                        refine' wpAnyD_take (i := 7) (oi := { dst := some 123, op := Go.Op.move (Go.Operand.tmp 9), type := 3, pos := "law.go:77", after := #[], guard := none }) (v := _) rfl (by kernel_rfl) (by kernel_rfl) (by kernel_rfl) (fun _ _ _ h => h) (by kernel_rfl) (Or.inl ⟨by rfl, ?hy34⟩) hS0 ?rest34
                        case hy34 => (intro W hSw; go_simp; try (with_reducible rfl))
                        try simp only [Act.put, List.setIfInBounds_toArray, List.set_cons_zero, List.set_cons_succ]
                        refine' wpAnyD_take (i := 8) (oi := { dst := some 124, op := Go.Op.convert 3 23 (Go.Operand.tmp 123), type := 23, pos := "law.go:77", after := #[{ on := 7, ground := Go.Ground.data }], guard := none }) (v := .int .u64 (i : Int)) rfl (by kernel_rfl) (by kernel_rfl) (by kernel_rfl) (fun _ _ _ h => h) (by kernel_rfl) (Or.inl ⟨by rfl, ?hy35⟩) hS0 ?rest35
                        case hy35 => (intro W hSw; go_simp; first | done | (rw [IntKind.wrap_u64]; omega))
                        try simp only [Act.put, List.setIfInBounds_toArray, List.set_cons_zero, List.set_cons_succ]
                        refine wpAnyD_one (i := 9) (o := { dst := some 125, op := Go.Op.call { callee := Go.Callee.value (Go.Operand.func 29), args := #[Go.Operand.tmp 124, Go.Operand.const (Go.Value.int Go.IntKind.u64 7), Go.Operand.const (Go.Value.int Go.IntKind.u64 7)], argTypes := #[23, 23, 23] }, type := 36, pos := "law.go:77", after := #[{ on := 8, ground := Go.Ground.data }], guard := none }) (by kernel_rfl) rfl (fun K hK => ?_)
                        rw [if_pos (by kernel_rfl)]
                        go_simp
                        refine (hcg _).mono ?_
                        rintro e w5 ⟨rfl, g5⟩
                        have hS5 : Gr w3 w5 := hS0.trans g5
                        clear g5
                        dsimp only
                        refine hK.out _ _ (fun hD => hS5) ?_
                        clear hK K
                        try simp only [Act.put, List.setIfInBounds_toArray, List.set_cons_zero, List.set_cons_succ]
                        refine' wpAnyD_take (i := 10) (oi := { dst := some 126, op := Go.Op.binOp Go.BinOp.neq 36 (Go.Operand.tmp 122) (Go.Operand.tmp 125) 36, type := 4, pos := "law.go:77", after := #[{ on := 6, ground := Go.Ground.data }, { on := 9, ground := Go.Ground.data }], guard := none }) (v := .bool false) rfl (by kernel_rfl) (by kernel_rfl) (by kernel_rfl) (fun _ _ _ h => h) (by kernel_rfl) (Or.inl ⟨by rfl, ?hy37⟩) hS5 ?rest37
                        case hy37 => (intro W hSw; go_simp)
                        try simp only [Act.put, List.setIfInBounds_toArray, List.set_cons_zero, List.set_cons_succ]
                        refine' wpAnyD_take (i := 11) (oi := { dst := some 127, op := Go.Op.move (Go.Operand.tmp 126), type := 4, pos := "law.go:77", after := #[{ on := 10, ground := Go.Ground.data }, { on := 9, ground := Go.Ground.chain }], guard := none }) (v := .bool false) rfl (by kernel_rfl) (by kernel_rfl) (by kernel_rfl) (fun _ _ _ h => h) (by kernel_rfl) (Or.inl ⟨by rfl, ?hy38⟩) hS5 ?rest38
                        case hy38 => (intro W hSw; go_simp; try (with_reducible rfl))
                        try simp only [Act.put, List.setIfInBounds_toArray, List.set_cons_zero, List.set_cons_succ]
                        refine' wpAnyD_take (i := 12) (oi := { dst := some 128, op := Go.Op.move (Go.Operand.tmp 10), type := 3, pos := "law.go:77", after := #[{ on := 11, ground := Go.Ground.guard }], guard := some (11, false) }) (v := _) rfl (by kernel_rfl) (by kernel_rfl) (by kernel_rfl) (fun _ _ _ h => h) (by kernel_rfl) (Or.inl ⟨by rfl, ?hy39⟩) hS5 ?rest39
                        case hy39 => (intro W hSw; go_simp; try (with_reducible rfl))
                        try simp only [Act.put, List.setIfInBounds_toArray, List.set_cons_zero, List.set_cons_succ]
                        refine' wpAnyD_take (i := 13) (oi := { dst := some 129, op := Go.Op.move (Go.Operand.tmp 3), type := 74, pos := "law.go:77", after := #[{ on := 11, ground := Go.Ground.guard }], guard := some (11, false) }) (v := _) rfl (by kernel_rfl) (by kernel_rfl) (by kernel_rfl) (fun _ _ _ h => h) (by kernel_rfl) (Or.inl ⟨by rfl, ?hy40⟩) hS5 ?rest40
                        case hy40 => (intro W hSw; go_simp; try (with_reducible rfl))
                        try simp only [Act.put, List.setIfInBounds_toArray, List.set_cons_zero, List.set_cons_succ]
                        refine' wpAnyD_take (i := 14) (oi := { dst := some 130, op := Go.Op.move (Go.Operand.tmp 9), type := 3, pos := "law.go:77", after := #[{ on := 11, ground := Go.Ground.guard }], guard := some (11, false) }) (v := _) rfl (by kernel_rfl) (by kernel_rfl) (by kernel_rfl) (fun _ _ _ h => h) (by kernel_rfl) (Or.inl ⟨by rfl, ?hy41⟩) hS5 ?rest41
                        case hy41 => (intro W hSw; go_simp; try (with_reducible rfl))
                        try simp only [Act.put, List.setIfInBounds_toArray, List.set_cons_zero, List.set_cons_succ]
                        refine' wpAnyD_take (i := 15) (oi := { dst := some 131, op := Go.Op.indexAddr 74 (Go.Operand.tmp 129) (Go.Operand.tmp 130), type := 0, pos := "law.go:77", after := #[{ on := 13, ground := Go.Ground.data }, { on := 14, ground := Go.Ground.data }, { on := 11, ground := Go.Ground.guard }], guard := some (11, false) }) (v := _) rfl (by kernel_rfl) (by kernel_rfl) (by kernel_rfl) (fun _ _ _ h => h) (by kernel_rfl) (Or.inl ⟨by rfl, ?hy42⟩) hS5 ?rest42
                        case hy42 => (intro W hSw; obtain ⟨s1, s2, s3, s4⟩ := HC26.out W hSw; go_simp; try (with_reducible rfl))
                        try simp only [Act.put, List.setIfInBounds_toArray, List.set_cons_zero, List.set_cons_succ]
                        refine' wpAnyD_take (i := 16) (oi := { dst := some 132, op := Go.Op.load 22 (Go.Operand.tmp 131), type := 22, pos := "law.go:77", after := #[{ on := 15, ground := Go.Ground.data }, { on := 11, ground := Go.Ground.guard }], guard := some (11, false) }) (v := _) rfl (by kernel_rfl) (by kernel_rfl) (by kernel_rfl) (fun _ _ _ h => h) (by kernel_rfl) (Or.inl ⟨by rfl, ?hy43⟩) hS5 ?rest43
                        case hy43 => (intro W hSw; obtain ⟨s1, s2, s3, s4⟩ := HC26.out W hSw; go_simp; try (with_reducible rfl))
                        try simp only [Act.put, List.setIfInBounds_toArray, List.set_cons_zero, List.set_cons_succ]
                        refine' wpAnyD_take (i := 17) (oi := { dst := some 133, op := Go.Op.call { callee := Go.Callee.builtin Go.Builtin.len, args := #[Go.Operand.tmp 132], argTypes := #[22] }, type := 3, pos := "law.go:77", after := #[{ on := 16, ground := Go.Ground.data }, { on := 11, ground := Go.Ground.guard }], guard := some (11, false) }) (v := _) rfl (by kernel_rfl) (by kernel_rfl) (by kernel_rfl) (fun _ _ _ h => h) (by kernel_rfl) (Or.inl ⟨by rfl, ?hy44⟩) hS5 ?rest44
                        case hy44 => (intro W hSw; go_simp; try (with_reducible rfl))
                        try simp only [Act.put, List.setIfInBounds_toArray, List.set_cons_zero, List.set_cons_succ]
                        refine' wpAnyD_take (i := 18) (oi := { dst := some 134, op := Go.Op.binOp Go.BinOp.lss 3 (Go.Operand.tmp 128) (Go.Operand.tmp 133) 3, type := 4, pos := "law.go:77", after := #[{ on := 12, ground := Go.Ground.data }, { on := 17, ground := Go.Ground.data }, { on := 11, ground := Go.Ground.guard }], guard := some (11, false) }) (v := .bool true) rfl (by kernel_rfl) (by kernel_rfl) (by kernel_rfl) (fun _ _ _ h => h) (by kernel_rfl) (Or.inl ⟨by rfl, ?hy45⟩) hS5 ?rest45
                        case hy45 => (intro W hSw; go_simp; first | done | omega)
                        try simp only [Act.put, List.setIfInBounds_toArray, List.set_cons_zero, List.set_cons_succ]
                        refine' wpAnyD_take (i := 19) (oi := { dst := some 135, op := Go.Op.move (Go.Operand.tmp 134), type := 4, pos := "law.go:77", after := #[{ on := 18, ground := Go.Ground.data }, { on := 11, ground := Go.Ground.chain }, { on := 11, ground := Go.Ground.guard }], guard := some (11, false) }) (v := .bool true) rfl (by kernel_rfl) (by kernel_rfl) (by kernel_rfl) (fun _ _ _ h => h) (by kernel_rfl) (Or.inl ⟨by rfl, ?hy46⟩) hS5 ?rest46
                        case hy46 => (intro W hSw; go_simp; try (with_reducible rfl))
                        try simp only [Act.put, List.setIfInBounds_toArray, List.set_cons_zero, List.set_cons_succ]
                        refine' wpAnyD_take (i := 20) (oi := { dst := some 136, op := Go.Op.move (Go.Operand.tmp 3), type := 74, pos := "law.go:77", after := #[{ on := 19, ground := Go.Ground.guard }], guard := some (19, true) }) (v := _) rfl (by kernel_rfl) (by kernel_rfl) (by kernel_rfl) (fun _ _ _ h => h) (by kernel_rfl) (Or.inl ⟨by rfl, ?hy47⟩) hS5 ?rest47
                        case hy47 => (intro W hSw; go_simp; try (with_reducible rfl))
                        try simp only [Act.put, List.setIfInBounds_toArray, List.set_cons_zero, List.set_cons_succ]
                        refine' wpAnyD_take (i := 21) (oi := { dst := some 137, op := Go.Op.move (Go.Operand.tmp 9), type := 3, pos := "law.go:77", after := #[{ on := 19, ground := Go.Ground.guard }], guard := some (19, true) }) (v := _) rfl (by kernel_rfl) (by kernel_rfl) (by kernel_rfl) (fun _ _ _ h => h) (by kernel_rfl) (Or.inl ⟨by rfl, ?hy48⟩) hS5 ?rest48
                        case hy48 => (intro W hSw; go_simp; try (with_reducible rfl))
                        try simp only [Act.put, List.setIfInBounds_toArray, List.set_cons_zero, List.set_cons_succ]
                        refine' wpAnyD_take (i := 22) (oi := { dst := some 138, op := Go.Op.indexAddr 74 (Go.Operand.tmp 136) (Go.Operand.tmp 137), type := 0, pos := "law.go:77", after := #[{ on := 20, ground := Go.Ground.data }, { on := 21, ground := Go.Ground.data }, { on := 19, ground := Go.Ground.guard }], guard := some (19, true) }) (v := _) rfl (by kernel_rfl) (by kernel_rfl) (by kernel_rfl) (fun _ _ _ h => h) (by kernel_rfl) (Or.inl ⟨by rfl, ?hy49⟩) hS5 ?rest49
                        case hy49 => (intro W hSw; obtain ⟨s1, s2, s3, s4⟩ := HC26.out W hSw; go_simp; try (with_reducible rfl))
                        try simp only [Act.put, List.setIfInBounds_toArray, List.set_cons_zero, List.set_cons_succ]
                        refine' wpAnyD_take (i := 23) (oi := { dst := some 139, op := Go.Op.load 22 (Go.Operand.tmp 138), type := 22, pos := "law.go:77", after := #[{ on := 22, ground := Go.Ground.data }, { on := 19, ground := Go.Ground.guard }], guard := some (19, true) }) (v := _) rfl (by kernel_rfl) (by kernel_rfl) (by kernel_rfl) (fun _ _ _ h => h) (by kernel_rfl) (Or.inl ⟨by rfl, ?hy50⟩) hS5 ?rest50
                        case hy50 => (intro W hSw; obtain ⟨s1, s2, s3, s4⟩ := HC26.out W hSw; go_simp; try (with_reducible rfl))
                        try simp only [Act.put, List.setIfInBounds_toArray, List.set_cons_zero, List.set_cons_succ]
                        refine' wpAnyD_take (i := 24) (oi := { dst := some 140, op := Go.Op.move (Go.Operand.tmp 10), type := 3, pos := "law.go:77", after := #[{ on := 19, ground := Go.Ground.guard }], guard := some (19, true) }) (v := _) rfl (by kernel_rfl) (by kernel_rfl) (by kernel_rfl) (fun _ _ _ h => h) (by kernel_rfl) (Or.inl ⟨by rfl, ?hy51⟩) hS5 ?rest51
                        case hy51 => (intro W hSw; go_simp; try (with_reducible rfl))
                        try simp only [Act.put, List.setIfInBounds_toArray, List.set_cons_zero, List.set_cons_succ]
                        refine' wpAnyD_take (i := 25) (oi := { dst := some 141, op := Go.Op.indexAddr 22 (Go.Operand.tmp 139) (Go.Operand.tmp 140), type := 0, pos := "law.go:77", after := #[{ on := 23, ground := Go.Ground.data }, { on := 24, ground := Go.Ground.data }, { on := 19, ground := Go.Ground.guard }], guard := some (19, true) }) (v := _) rfl (by kernel_rfl) (by kernel_rfl) (by kernel_rfl) (fun _ _ _ h => h) (by kernel_rfl) (Or.inl ⟨by rfl, ?hy52⟩) hS5 ?rest52
                        case hy52 => (intro W hSw; obtain ⟨s1, s2, s3, s4⟩ := HC26.out W hSw; obtain ⟨s5, ⟨s6, s7, s8, s9, s10⟩⟩ := HV26.out W hSw; unfold mkC at s6 s7 s8 s9 s10; dsimp only at s6 s7 s8 s9 s10; go_simp; try (with_reducible rfl))
                        try simp only [Act.put, List.setIfInBounds_toArray, List.set_cons_zero, List.set_cons_succ]
                        refine' wpAnyD_take (i := 26) (oi := { dst := some 142, op := Go.Op.load 36 (Go.Operand.tmp 141), type := 36, pos := "law.go:77", after := #[{ on := 25, ground := Go.Ground.data }, { on := 19, ground := Go.Ground.guard }], guard := some (19, true) }) (v := _) rfl (by kernel_rfl) (by kernel_rfl) (by kernel_rfl) (fun _ _ _ h => h) (by kernel_rfl) (Or.inl ⟨by rfl, ?hy53⟩) hS5 ?rest53
                        case hy53 => (intro W hSw; obtain ⟨s1, s2, s3, s4⟩ := HC26.out W hSw; obtain ⟨s5, ⟨s6, s7, s8, s9, s10⟩⟩ := HV26.out W hSw; unfold mkC at s6 s7 s8 s9 s10; dsimp only at s6 s7 s8 s9 s10; go_simp; try (with_reducible rfl))
                        try simp only [Act.put, List.setIfInBounds_toArray, List.set_cons_zero, List.set_cons_succ]
                        refine' wpAnyD_take (i := 27) (oi := { dst := some 143, op := Go.Op.move (Go.Operand.tmp 7), type := 74, pos := "law.go:77", after := #[{ on := 19, ground := Go.Ground.guard }], guard := some (19, true) }) (v := _) rfl (by kernel_rfl) (by kernel_rfl) (by kernel_rfl) (fun _ _ _ h => h) (by kernel_rfl) (Or.inl ⟨by rfl, ?hy54⟩) hS5 ?rest54
                        case hy54 => (intro W hSw; go_simp; try (with_reducible rfl))
                        try simp only [Act.put, List.setIfInBounds_toArray, List.set_cons_zero, List.set_cons_succ]
                        refine' wpAnyD_take (i := 28) (oi := { dst := some 144, op := Go.Op.move (Go.Operand.tmp 9), type := 3, pos := "law.go:77", after := #[{ on := 19, ground := Go.Ground.guard }], guard := some (19, true) }) (v := _) rfl (by kernel_rfl) (by kernel_rfl) (by kernel_rfl) (fun _ _ _ h => h) (by kernel_rfl) (Or.inl ⟨by rfl, ?hy55⟩) hS5 ?rest55
                        case hy55 => (intro W hSw; go_simp; try (with_reducible rfl))
                        try simp only [Act.put, List.setIfInBounds_toArray, List.set_cons_zero, List.set_cons_succ]
                        refine' wpAnyD_take (i := 29) (oi := { dst := some 145, op := Go.Op.indexAddr 74 (Go.Operand.tmp 143) (Go.Operand.tmp 144), type := 0, pos := "law.go:77", after := #[{ on := 27, ground := Go.Ground.data }, { on := 28, ground := Go.Ground.data }, { on := 19, ground := Go.Ground.guard }], guard := some (19, true) }) (v := _) rfl (by kernel_rfl) (by kernel_rfl) (by kernel_rfl) (fun _ _ _ h => h) (by kernel_rfl) (Or.inl ⟨by rfl, ?hy56⟩) hS5 ?rest56
                        case hy56 => (intro W hSw; obtain ⟨s1, s2, s3, s4⟩ := HC26.out W hSw; go_simp; try (with_reducible rfl))
                        try simp only [Act.put, List.setIfInBounds_toArray, List.set_cons_zero, List.set_cons_succ]
                        refine' wpAnyD_take (i := 30) (oi := { dst := some 146, op := Go.Op.load 22 (Go.Operand.tmp 145), type := 22, pos := "law.go:77", after := #[{ on := 29, ground := Go.Ground.data }, { on := 19, ground := Go.Ground.guard }], guard := some (19, true) }) (v := _) rfl (by kernel_rfl) (by kernel_rfl) (by kernel_rfl) (fun _ _ _ h => h) (by kernel_rfl) (Or.inl ⟨by rfl, ?hy57⟩) hS5 ?rest57
                        case hy57 => (intro W hSw; obtain ⟨s1, s2, s3, s4⟩ := HC26.out W hSw; go_simp; try (with_reducible rfl))
                        try simp only [Act.put, List.setIfInBounds_toArray, List.set_cons_zero, List.set_cons_succ]
                        refine' wpAnyD_take (i := 31) (oi := { dst := some 147, op := Go.Op.move (Go.Operand.tmp 10), type := 3, pos := "law.go:77", after := #[{ on := 19, ground := Go.Ground.guard }], guard := some (19, true) }) (v := _) rfl (by kernel_rfl) (by kernel_rfl) (by kernel_rfl) (fun _ _ _ h => h) (by kernel_rfl) (Or.inl ⟨by rfl, ?hy58⟩) hS5 ?rest58
                        case hy58 => (intro W hSw; go_simp; try (with_reducible rfl))
                        try simp only [Act.put, List.setIfInBounds_toArray, List.set_cons_zero, List.set_cons_succ]
                        refine' wpAnyD_take (i := 32) (oi := { dst := some 148, op := Go.Op.indexAddr 22 (Go.Operand.tmp 146) (Go.Operand.tmp 147), type := 0, pos := "law.go:77", after := #[{ on := 30, ground := Go.Ground.data }, { on := 31, ground := Go.Ground.data }, { on := 19, ground := Go.Ground.guard }], guard := some (19, true) }) (v := _) rfl (by kernel_rfl) (by kernel_rfl) (by kernel_rfl) (fun _ _ _ h => h) (by kernel_rfl) (Or.inl ⟨by rfl, ?hy59⟩) hS5 ?rest59
                        case hy59 => (intro W hSw; obtain ⟨s1, s2, s3, s4⟩ := HC26.out W hSw; obtain ⟨s5, ⟨s6, s7, s8, s9, s10⟩⟩ := HX26.out W hSw; unfold mkC at s6 s7 s8 s9 s10; dsimp only at s6 s7 s8 s9 s10; go_simp; try (with_reducible rfl))
                        try simp only [Act.put, List.setIfInBounds_toArray, List.set_cons_zero, List.set_cons_succ]
                        refine' wpAnyD_take (i := 33) (oi := { dst := some 149, op := Go.Op.load 36 (Go.Operand.tmp 148), type := 36, pos := "law.go:77", after := #[{ on := 32, ground := Go.Ground.data }, { on := 19, ground := Go.Ground.guard }], guard := some (19, true) }) (v := _) rfl (by kernel_rfl) (by kernel_rfl) (by kernel_rfl) (fun _ _ _ h => h) (by kernel_rfl) (Or.inl ⟨by rfl, ?hy60⟩) hS5 ?rest60
                        case hy60 => (intro W hSw; obtain ⟨s1, s2, s3, s4⟩ := HC26.out W hSw; obtain ⟨s5, ⟨s6, s7, s8, s9, s10⟩⟩ := HX26.out W hSw; unfold mkC at s6 s7 s8 s9 s10; dsimp only at s6 s7 s8 s9 s10; go_simp; try (with_reducible rfl))
                        try simp only [Act.put, List.setIfInBounds_toArray, List.set_cons_zero, List.set_cons_succ]
                        refine' wpAnyD_take (i := 34) (oi := { dst := some 150, op := Go.Op.binOp Go.BinOp.neq 36 (Go.Operand.tmp 142) (Go.Operand.tmp 149) 36, type := 4, pos := "law.go:77", after := #[{ on := 26, ground := Go.Ground.data }, { on := 33, ground := Go.Ground.data }, { on := 19, ground := Go.Ground.guard }], guard := some (19, true) }) (v := .bool false) rfl (by kernel_rfl) (by kernel_rfl) (by kernel_rfl) (fun _ _ _ h => h) (by kernel_rfl) (Or.inl ⟨by rfl, ?hy61⟩) hS5 ?rest61
                        case hy61 => (intro W hSw; go_simp)
                        try simp only [Act.put, List.setIfInBounds_toArray, List.set_cons_zero, List.set_cons_succ]
                        refine' wpAnyD_take (i := 35) (oi := { dst := some 151, op := Go.Op.pick (Go.Operand.tmp 135) (Go.Operand.tmp 150) (Go.Operand.const (Go.Value.bool false)), type := 4, pos := "law.go:77", after := #[{ on := 19, ground := Go.Ground.data }, { on := 34, ground := Go.Ground.data }, { on := 11, ground := Go.Ground.guard }], guard := some (11, false) }) (v := .bool false) rfl (by kernel_rfl) (by kernel_rfl) (by kernel_rfl) (fun _ _ _ h => h) (by kernel_rfl) (Or.inl ⟨by rfl, ?hy62⟩) hS5 ?rest62
                        case hy62 => (intro W hSw; go_simp; try (with_reducible rfl))
                        try simp only [Act.put, List.setIfInBounds_toArray, List.set_cons_zero, List.set_cons_succ]
                        refine' wpAnyD_take (i := 36) (oi := { dst := some 152, op := Go.Op.pick (Go.Operand.tmp 127) (Go.Operand.const (Go.Value.bool true)) (Go.Operand.tmp 151), type := 4, pos := "law.go:77", after := #[{ on := 11, ground := Go.Ground.data }, { on := 35, ground := Go.Ground.data }], guard := none }) (v := .bool false) rfl (by kernel_rfl) (by kernel_rfl) (by kernel_rfl) (fun _ _ _ h => h) (by kernel_rfl) (Or.inl ⟨by rfl, ?hy63⟩) hS5 ?rest63
                        case hy63 => (intro W hSw; go_simp; try (with_reducible rfl))
                        try simp only [Act.put, List.setIfInBounds_toArray, List.set_cons_zero, List.set_cons_succ]
                        refine wpAnyD_done (by kernel_rfl) ?_ _
                        have HW2 := hid hS5
                        clear hS0 hS5 HV26
                        go_wp2_with fail
                        go_roundw
                        case rel => exact ⟨q + 1, by omega, by go_num, HW2.out⟩
                        case measure => simp [RowKit.intOf]; omega
                      · have hqn2z : ¬ (q : Int) < (n : Int) := by omega
                        go_upto_region 26 with fail
                        clear s1 s2 s3 s4
                        refine wp_regionD (S := fun W' => Gr w3 W') (D := []) hmx ?_
                        refine' wpAnyD_take (i := 0) (oi := { dst := some 116, op := Go.Op.move (Go.Operand.tmp 7), type := 74, pos := "law.go:77", after := #[], guard := none }) (v := _) rfl (by kernel_rfl) (by kernel_rfl) (by kernel_rfl) (fun _ _ _ h => h) (by kernel_rfl) (Or.inl ⟨by rfl, ?hy64⟩) hS0 ?rest64
                        case hy64 => (intro W hSw; go_simp; try (with_reducible rfl))
                        try simp only [Act.put, List.setIfInBounds_toArray, List.set_cons_zero, List.set_cons_succ]
                        refine' wpAnyD_take (i := 1) (oi := { dst := some 117, op := Go.Op.move (Go.Operand.tmp 9), type := 3, pos := "law.go:77", after := #[], guard := none }) (v := _) rfl (by kernel_rfl) (by kernel_rfl) (by kernel_rfl) (fun _ _ _ h => h) (by kernel_rfl) (Or.inl ⟨by rfl, ?hy65⟩) hS0 ?rest65
                        case hy65 => (intro W hSw; go_simp; try (with_reducible rfl))
                        try simp only [Act.put, List.setIfInBounds_toArray, List.set_cons_zero, List.set_cons_succ]
                        refine' wpAnyD_take (i := 2) (oi := { dst := some 118, op := Go.Op.indexAddr 74 (Go.Operand.tmp 116) (Go.Operand.tmp 117), type := 0, pos := "law.go:77", after := #[{ on := 0, ground := Go.Ground.data }, { on := 1, ground := Go.Ground.data }], guard := none }) (v := _) rfl (by kernel_rfl) (by kernel_rfl) (by kernel_rfl) (fun _ _ _ h => h) (by kernel_rfl) (Or.inl ⟨by rfl, ?hy66⟩) hS0 ?rest66
                        case hy66 => (intro W hSw; obtain ⟨s1, s2, s3, s4⟩ := HC26.out W hSw; go_simp; try (with_reducible rfl))
                        try simp only [Act.put, List.setIfInBounds_toArray, List.set_cons_zero, List.set_cons_succ]
                        refine' wpAnyD_take (i := 3) (oi := { dst := some 119, op := Go.Op.load 22 (Go.Operand.tmp 118), type := 22, pos := "law.go:77", after := #[{ on := 2, ground := Go.Ground.data }], guard := none }) (v := _) rfl (by kernel_rfl) (by kernel_rfl) (by kernel_rfl) (fun _ _ _ h => h) (by kernel_rfl) (Or.inl ⟨by rfl, ?hy67⟩) hS0 ?rest67
                        case hy67 => (intro W hSw; obtain ⟨s1, s2, s3, s4⟩ := HC26.out W hSw; go_simp; try (with_reducible rfl))
                        try simp only [Act.put, List.setIfInBounds_toArray, List.set_cons_zero, List.set_cons_succ]
                        refine' wpAnyD_take (i := 4) (oi := { dst := some 120, op := Go.Op.move (Go.Operand.tmp 10), type := 3, pos := "law.go:77", after := #[], guard := none }) (v := _) rfl (by kernel_rfl) (by kernel_rfl) (by kernel_rfl) (fun _ _ _ h => h) (by kernel_rfl) (Or.inl ⟨by rfl, ?hy68⟩) hS0 ?rest68
                        case hy68 => (intro W hSw; go_simp; try (with_reducible rfl))
                        try simp only [Act.put, List.setIfInBounds_toArray, List.set_cons_zero, List.set_cons_succ]
                        refine' wpAnyD_take (i := 5) (oi := { dst := some 121, op := Go.Op.indexAddr 22 (Go.Operand.tmp 119) (Go.Operand.tmp 120), type := 0, pos := "law.go:77", after := #[{ on := 3, ground := Go.Ground.data }, { on := 4, ground := Go.Ground.data }], guard := none }) (v := _) rfl (by kernel_rfl) (by kernel_rfl) (by kernel_rfl) (fun _ _ _ h => h) (by kernel_rfl) (Or.inl ⟨by rfl, ?hy69⟩) hS0 ?rest69
                        case hy69 => (intro W hSw; obtain ⟨s1, s2, s3, s4⟩ := HC26.out W hSw; obtain ⟨s5, ⟨s6, s7, s8, s9, s10⟩⟩ := HX26.out W hSw; unfold mkC at s6 s7 s8 s9 s10; dsimp only at s6 s7 s8 s9 s10; go_simp; try (with_reducible rfl))
                        try simp only [Act.put, List.setIfInBounds_toArray, List.set_cons_zero, List.set_cons_succ]
                        refine' wpAnyD_take (i := 6) (oi := { dst := some 122, op := Go.Op.load 36 (Go.Operand.tmp 121), type := 36, pos := "law.go:77", after := #[{ on := 5, ground := Go.Ground.data }], guard := none }) (v := _) rfl (by kernel_rfl) (by kernel_rfl) (by kernel_rfl) (fun _ _ _ h => h) (by kernel_rfl) (Or.inl ⟨by rfl, ?hy70⟩) hS0 ?rest70
                        case hy70 => (intro W hSw; obtain ⟨s1, s2, s3, s4⟩ := HC26.out W hSw; obtain ⟨s5, ⟨s6, s7, s8, s9, s10⟩⟩ := HX26.out W hSw; unfold mkC at s6 s7 s8 s9 s10; dsimp only at s6 s7 s8 s9 s10; go_simp; try (with_reducible rfl))
                        try simp only [Act.put, List.setIfInBounds_toArray, List.set_cons_zero, List.set_cons_succ]
                        refine' wpAnyD_take (i := 7) (oi := { dst := some 123, op := Go.Op.move (Go.Operand.tmp 9), type := 3, pos := "law.go:77", after := #[], guard := none }) (v := _) rfl (by kernel_rfl) (by kernel_rfl) (by kernel_rfl) (fun _ _ _ h => h) (by kernel_rfl) (Or.inl ⟨by rfl, ?hy71⟩) hS0 ?rest71
                        case hy71 => (intro W hSw; go_simp; try (with_reducible rfl))
                        try simp only [Act.put, List.setIfInBounds_toArray, List.set_cons_zero, List.set_cons_succ]
                        refine' wpAnyD_take (i := 8) (oi := { dst := some 124, op := Go.Op.convert 3 23 (Go.Operand.tmp 123), type := 23, pos := "law.go:77", after := #[{ on := 7, ground := Go.Ground.data }], guard := none }) (v := .int .u64 (i : Int)) rfl (by kernel_rfl) (by kernel_rfl) (by kernel_rfl) (fun _ _ _ h => h) (by kernel_rfl) (Or.inl ⟨by rfl, ?hy72⟩) hS0 ?rest72
                        case hy72 => (intro W hSw; go_simp; first | done | (rw [IntKind.wrap_u64]; omega))
                        try simp only [Act.put, List.setIfInBounds_toArray, List.set_cons_zero, List.set_cons_succ]
                        refine wpAnyD_one (i := 9) (o := { dst := some 125, op := Go.Op.call { callee := Go.Callee.value (Go.Operand.func 29), args := #[Go.Operand.tmp 124, Go.Operand.const (Go.Value.int Go.IntKind.u64 7), Go.Operand.const (Go.Value.int Go.IntKind.u64 7)], argTypes := #[23, 23, 23] }, type := 36, pos := "law.go:77", after := #[{ on := 8, ground := Go.Ground.data }], guard := none }) (by kernel_rfl) rfl (fun K hK => ?_)
                        rw [if_pos (by kernel_rfl)]
                        go_simp
                        refine (hcg _).mono ?_
                        rintro e w5 ⟨rfl, g5⟩
                        have hS5 : Gr w3 w5 := hS0.trans g5
                        clear g5
                        dsimp only
                        refine hK.out _ _ (fun hD => hS5) ?_
                        clear hK K
                        try simp only [Act.put, List.setIfInBounds_toArray, List.set_cons_zero, List.set_cons_succ]
                        refine' wpAnyD_take (i := 10) (oi := { dst := some 126, op := Go.Op.binOp Go.BinOp.neq 36 (Go.Operand.tmp 122) (Go.Operand.tmp 125) 36, type := 4, pos := "law.go:77", after := #[{ on := 6, ground := Go.Ground.data }, { on := 9, ground := Go.Ground.data }], guard := none }) (v := .bool false) rfl (by kernel_rfl) (by kernel_rfl) (by kernel_rfl) (fun _ _ _ h => h) (by kernel_rfl) (Or.inl ⟨by rfl, ?hy74⟩) hS5 ?rest74
                        case hy74 => (intro W hSw; go_simp)
                        try simp only [Act.put, List.setIfInBounds_toArray, List.set_cons_zero, List.set_cons_succ]
                        refine' wpAnyD_take (i := 11) (oi := { dst := some 127, op := Go.Op.move (Go.Operand.tmp 126), type := 4, pos := "law.go:77", after := #[{ on := 10, ground := Go.Ground.data }, { on := 9, ground := Go.Ground.chain }], guard := none }) (v := .bool false) rfl (by kernel_rfl) (by kernel_rfl) (by kernel_rfl) (fun _ _ _ h => h) (by kernel_rfl) (Or.inl ⟨by rfl, ?hy75⟩) hS5 ?rest75
                        case hy75 => (intro W hSw; go_simp; try (with_reducible rfl))
                        try simp only [Act.put, List.setIfInBounds_toArray, List.set_cons_zero, List.set_cons_succ]
                        refine' wpAnyD_take (i := 12) (oi := { dst := some 128, op := Go.Op.move (Go.Operand.tmp 10), type := 3, pos := "law.go:77", after := #[{ on := 11, ground := Go.Ground.guard }], guard := some (11, false) }) (v := _) rfl (by kernel_rfl) (by kernel_rfl) (by kernel_rfl) (fun _ _ _ h => h) (by kernel_rfl) (Or.inl ⟨by rfl, ?hy76⟩) hS5 ?rest76
                        case hy76 => (intro W hSw; go_simp; try (with_reducible rfl))
                        try simp only [Act.put, List.setIfInBounds_toArray, List.set_cons_zero, List.set_cons_succ]
                        refine' wpAnyD_take (i := 13) (oi := { dst := some 129, op := Go.Op.move (Go.Operand.tmp 3), type := 74, pos := "law.go:77", after := #[{ on := 11, ground := Go.Ground.guard }], guard := some (11, false) }) (v := _) rfl (by kernel_rfl) (by kernel_rfl) (by kernel_rfl) (fun _ _ _ h => h) (by kernel_rfl) (Or.inl ⟨by rfl, ?hy77⟩) hS5 ?rest77
                        case hy77 => (intro W hSw; go_simp; try (with_reducible rfl))
                        try simp only [Act.put, List.setIfInBounds_toArray, List.set_cons_zero, List.set_cons_succ]
                        refine' wpAnyD_take (i := 14) (oi := { dst := some 130, op := Go.Op.move (Go.Operand.tmp 9), type := 3, pos := "law.go:77", after := #[{ on := 11, ground := Go.Ground.guard }], guard := some (11, false) }) (v := _) rfl (by kernel_rfl) (by kernel_rfl) (by kernel_rfl) (fun _ _ _ h => h) (by kernel_rfl) (Or.inl ⟨by rfl, ?hy78⟩) hS5 ?rest78
                        case hy78 => (intro W hSw; go_simp; try (with_reducible rfl))
                        try simp only [Act.put, List.setIfInBounds_toArray, List.set_cons_zero, List.set_cons_succ]
                        refine' wpAnyD_take (i := 15) (oi := { dst := some 131, op := Go.Op.indexAddr 74 (Go.Operand.tmp 129) (Go.Operand.tmp 130), type := 0, pos := "law.go:77", after := #[{ on := 13, ground := Go.Ground.data }, { on := 14, ground := Go.Ground.data }, { on := 11, ground := Go.Ground.guard }], guard := some (11, false) }) (v := _) rfl (by kernel_rfl) (by kernel_rfl) (by kernel_rfl) (fun _ _ _ h => h) (by kernel_rfl) (Or.inl ⟨by rfl, ?hy79⟩) hS5 ?rest79
                        case hy79 => (intro W hSw; obtain ⟨s1, s2, s3, s4⟩ := HC26.out W hSw; go_simp; try (with_reducible rfl))
                        try simp only [Act.put, List.setIfInBounds_toArray, List.set_cons_zero, List.set_cons_succ]
                        refine' wpAnyD_take (i := 16) (oi := { dst := some 132, op := Go.Op.load 22 (Go.Operand.tmp 131), type := 22, pos := "law.go:77", after := #[{ on := 15, ground := Go.Ground.data }, { on := 11, ground := Go.Ground.guard }], guard := some (11, false) }) (v := _) rfl (by kernel_rfl) (by kernel_rfl) (by kernel_rfl) (fun _ _ _ h => h) (by kernel_rfl) (Or.inl ⟨by rfl, ?hy80⟩) hS5 ?rest80
                        case hy80 => (intro W hSw; obtain ⟨s1, s2, s3, s4⟩ := HC26.out W hSw; go_simp; try (with_reducible rfl))
                        try simp only [Act.put, List.setIfInBounds_toArray, List.set_cons_zero, List.set_cons_succ]
                        refine' wpAnyD_take (i := 17) (oi := { dst := some 133, op := Go.Op.call { callee := Go.Callee.builtin Go.Builtin.len, args := #[Go.Operand.tmp 132], argTypes := #[22] }, type := 3, pos := "law.go:77", after := #[{ on := 16, ground := Go.Ground.data }, { on := 11, ground := Go.Ground.guard }], guard := some (11, false) }) (v := _) rfl (by kernel_rfl) (by kernel_rfl) (by kernel_rfl) (fun _ _ _ h => h) (by kernel_rfl) (Or.inl ⟨by rfl, ?hy81⟩) hS5 ?rest81
                        case hy81 => (intro W hSw; go_simp; try (with_reducible rfl))
                        try simp only [Act.put, List.setIfInBounds_toArray, List.set_cons_zero, List.set_cons_succ]
                        refine' wpAnyD_take (i := 18) (oi := { dst := some 134, op := Go.Op.binOp Go.BinOp.lss 3 (Go.Operand.tmp 128) (Go.Operand.tmp 133) 3, type := 4, pos := "law.go:77", after := #[{ on := 12, ground := Go.Ground.data }, { on := 17, ground := Go.Ground.data }, { on := 11, ground := Go.Ground.guard }], guard := some (11, false) }) (v := .bool false) rfl (by kernel_rfl) (by kernel_rfl) (by kernel_rfl) (fun _ _ _ h => h) (by kernel_rfl) (Or.inl ⟨by rfl, ?hy82⟩) hS5 ?rest82
                        case hy82 => (intro W hSw; go_simp; first | done | omega)
                        try simp only [Act.put, List.setIfInBounds_toArray, List.set_cons_zero, List.set_cons_succ]
                        refine' wpAnyD_take (i := 19) (oi := { dst := some 135, op := Go.Op.move (Go.Operand.tmp 134), type := 4, pos := "law.go:77", after := #[{ on := 18, ground := Go.Ground.data }, { on := 11, ground := Go.Ground.chain }, { on := 11, ground := Go.Ground.guard }], guard := some (11, false) }) (v := .bool false) rfl (by kernel_rfl) (by kernel_rfl) (by kernel_rfl) (fun _ _ _ h => h) (by kernel_rfl) (Or.inl ⟨by rfl, ?hy83⟩) hS5 ?rest83
                        case hy83 => (intro W hSw; go_simp; try (with_reducible rfl))
                        try simp only [Act.put, List.setIfInBounds_toArray, List.set_cons_zero, List.set_cons_succ]
                        refine' wpAnyD_take (i := 20) (oi := { dst := some 136, op := Go.Op.move (Go.Operand.tmp 3), type := 74, pos := "law.go:77", after := #[{ on := 19, ground := Go.Ground.guard }], guard := some (19, true) }) (v := undef) rfl (by kernel_rfl) (by kernel_rfl) (by kernel_rfl) (fun _ _ _ h => h) (by kernel_rfl) (Or.inr ⟨by rfl, rfl⟩) hS5 ?rest84
                        try simp only [Act.put, List.setIfInBounds_toArray, List.set_cons_zero, List.set_cons_succ]
                        refine' wpAnyD_take (i := 21) (oi := { dst := some 137, op := Go.Op.move (Go.Operand.tmp 9), type := 3, pos := "law.go:77", after := #[{ on := 19, ground := Go.Ground.guard }], guard := some (19, true) }) (v := undef) rfl (by kernel_rfl) (by kernel_rfl) (by kernel_rfl) (fun _ _ _ h => h) (by kernel_rfl) (Or.inr ⟨by rfl, rfl⟩) hS5 ?rest85
                        try simp only [Act.put, List.setIfInBounds_toArray, List.set_cons_zero, List.set_cons_succ]
                        refine' wpAnyD_take (i := 22) (oi := { dst := some 138, op := Go.Op.indexAddr 74 (Go.Operand.tmp 136) (Go.Operand.tmp 137), type := 0, pos := "law.go:77", after := #[{ on := 20, ground := Go.Ground.data }, { on := 21, ground := Go.Ground.data }, { on := 19, ground := Go.Ground.guard }], guard := some (19, true) }) (v := undef) rfl (by kernel_rfl) (by kernel_rfl) (by kernel_rfl) (fun _ _ _ h => h) (by kernel_rfl) (Or.inr ⟨by rfl, rfl⟩) hS5 ?rest86
                        try simp only [Act.put, List.setIfInBounds_toArray, List.set_cons_zero, List.set_cons_succ]
                        refine' wpAnyD_take (i := 23) (oi := { dst := some 139, op := Go.Op.load 22 (Go.Operand.tmp 138), type := 22, pos := "law.go:77", after := #[{ on := 22, ground := Go.Ground.data }, { on := 19, ground := Go.Ground.guard }], guard := some (19, true) }) (v := undef) rfl (by kernel_rfl) (by kernel_rfl) (by kernel_rfl) (fun _ _ _ h => h) (by kernel_rfl) (Or.inr ⟨by rfl, rfl⟩) hS5 ?rest87
                        try simp only [Act.put, List.setIfInBounds_toArray, List.set_cons_zero, List.set_cons_succ]
                        refine' wpAnyD_take (i := 24) (oi := { dst := some 140, op := Go.Op.move (Go.Operand.tmp 10), type := 3, pos := "law.go:77", after := #[{ on := 19, ground := Go.Ground.guard }], guard := some (19, true) }) (v := undef) rfl (by kernel_rfl) (by kernel_rfl) (by kernel_rfl) (fun _ _ _ h => h) (by kernel_rfl) (Or.inr ⟨by rfl, rfl⟩) hS5 ?rest88
                        try simp only [Act.put, List.setIfInBounds_toArray, List.set_cons_zero, List.set_cons_succ]
                        refine' wpAnyD_take (i := 25) (oi := { dst := some 141, op := Go.Op.indexAddr 22 (Go.Operand.tmp 139) (Go.Operand.tmp 140), type := 0, pos := "law.go:77", after := #[{ on := 23, ground := Go.Ground.data }, { on := 24, ground := Go.Ground.data }, { on := 19, ground := Go.Ground.guard }], guard := some (19, true) }) (v := undef) rfl (by kernel_rfl) (by kernel_rfl) (by kernel_rfl) (fun _ _ _ h => h) (by kernel_rfl) (Or.inr ⟨by rfl, rfl⟩) hS5 ?rest89
                        try simp only [Act.put, List.setIfInBounds_toArray, List.set_cons_zero, List.set_cons_succ]
                        refine' wpAnyD_take (i := 26) (oi := { dst := some 142, op := Go.Op.load 36 (Go.Operand.tmp 141), type := 36, pos := "law.go:77", after := #[{ on := 25, ground := Go.Ground.data }, { on := 19, ground := Go.Ground.guard }], guard := some (19, true) }) (v := undef) rfl (by kernel_rfl) (by kernel_rfl) (by kernel_rfl) (fun _ _ _ h => h) (by kernel_rfl) (Or.inr ⟨by rfl, rfl⟩) hS5 ?rest90
                        try simp only [Act.put, List.setIfInBounds_toArray, List.set_cons_zero, List.set_cons_succ]
                        refine' wpAnyD_take (i := 27) (oi := { dst := some 143, op := Go.Op.move (Go.Operand.tmp 7), type := 74, pos := "law.go:77", after := #[{ on := 19, ground := Go.Ground.guard }], guard := some (19, true) }) (v := undef) rfl (by kernel_rfl) (by kernel_rfl) (by kernel_rfl) (fun _ _ _ h => h) (by kernel_rfl) (Or.inr ⟨by rfl, rfl⟩) hS5 ?rest91
                        try simp only [Act.put, List.setIfInBounds_toArray, List.set_cons_zero, List.set_cons_succ]
                        refine' wpAnyD_take (i := 28) (oi := { dst := some 144, op := Go.Op.move (Go.Operand.tmp 9), type := 3, pos := "law.go:77", after := #[{ on := 19, ground := Go.Ground.guard }], guard := some (19, true) }) (v := undef) rfl (by kernel_rfl) (by kernel_rfl) (by kernel_rfl) (fun _ _ _ h => h) (by kernel_rfl) (Or.inr ⟨by rfl, rfl⟩) hS5 ?rest92
                        try simp only [Act.put, List.setIfInBounds_toArray, List.set_cons_zero, List.set_cons_succ]
                        refine' wpAnyD_take (i := 29) (oi := { dst := some 145, op := Go.Op.indexAddr 74 (Go.Operand.tmp 143) (Go.Operand.tmp 144), type := 0, pos := "law.go:77", after := #[{ on := 27, ground := Go.Ground.data }, { on := 28, ground := Go.Ground.data }, { on := 19, ground := Go.Ground.guard }], guard := some (19, true) }) (v := undef) rfl (by kernel_rfl) (by kernel_rfl) (by kernel_rfl) (fun _ _ _ h => h) (by kernel_rfl) (Or.inr ⟨by rfl, rfl⟩) hS5 ?rest93
                        try simp only [Act.put, List.setIfInBounds_toArray, List.set_cons_zero, List.set_cons_succ]
                        refine' wpAnyD_take (i := 30) (oi := { dst := some 146, op := Go.Op.load 22 (Go.Operand.tmp 145), type := 22, pos := "law.go:77", after := #[{ on := 29, ground := Go.Ground.data }, { on := 19, ground := Go.Ground.guard }], guard := some (19, true) }) (v := undef) rfl (by kernel_rfl) (by kernel_rfl) (by kernel_rfl) (fun _ _ _ h => h) (by kernel_rfl) (Or.inr ⟨by rfl, rfl⟩) hS5 ?rest94
                        try simp only [Act.put, List.setIfInBounds_toArray, List.set_cons_zero, List.set_cons_succ]
                        refine' wpAnyD_take (i := 31) (oi := { dst := some 147, op := Go.Op.move (Go.Operand.tmp 10), type := 3, pos := "law.go:77", after := #[{ on := 19, ground := Go.Ground.guard }], guard := some (19, true) }) (v := undef) rfl (by kernel_rfl) (by kernel_rfl) (by kernel_rfl) (fun _ _ _ h => h) (by kernel_rfl) (Or.inr ⟨by rfl, rfl⟩) hS5 ?rest95
                        try simp only [Act.put, List.setIfInBounds_toArray, List.set_cons_zero, List.set_cons_succ]
                        refine' wpAnyD_take (i := 32) (oi := { dst := some 148, op := Go.Op.indexAddr 22 (Go.Operand.tmp 146) (Go.Operand.tmp 147), type := 0, pos := "law.go:77", after := #[{ on := 30, ground := Go.Ground.data }, { on := 31, ground := Go.Ground.data }, { on := 19, ground := Go.Ground.guard }], guard := some (19, true) }) (v := undef) rfl (by kernel_rfl) (by kernel_rfl) (by kernel_rfl) (fun _ _ _ h => h) (by kernel_rfl) (Or.inr ⟨by rfl, rfl⟩) hS5 ?rest96
                        try simp only [Act.put, List.setIfInBounds_toArray, List.set_cons_zero, List.set_cons_succ]
                        refine' wpAnyD_take (i := 33) (oi := { dst := some 149, op := Go.Op.load 36 (Go.Operand.tmp 148), type := 36, pos := "law.go:77", after := #[{ on := 32, ground := Go.Ground.data }, { on := 19, ground := Go.Ground.guard }], guard := some (19, true) }) (v := undef) rfl (by kernel_rfl) (by kernel_rfl) (by kernel_rfl) (fun _ _ _ h => h) (by kernel_rfl) (Or.inr ⟨by rfl, rfl⟩) hS5 ?rest97
                        try simp only [Act.put, List.setIfInBounds_toArray, List.set_cons_zero, List.set_cons_succ]
                        refine' wpAnyD_take (i := 34) (oi := { dst := some 150, op := Go.Op.binOp Go.BinOp.neq 36 (Go.Operand.tmp 142) (Go.Operand.tmp 149) 36, type := 4, pos := "law.go:77", after := #[{ on := 26, ground := Go.Ground.data }, { on := 33, ground := Go.Ground.data }, { on := 19, ground := Go.Ground.guard }], guard := some (19, true) }) (v := undef) rfl (by kernel_rfl) (by kernel_rfl) (by kernel_rfl) (fun _ _ _ h => h) (by kernel_rfl) (Or.inr ⟨by rfl, rfl⟩) hS5 ?rest98
                        try simp only [Act.put, List.setIfInBounds_toArray, List.set_cons_zero, List.set_cons_succ]
                        refine' wpAnyD_take (i := 35) (oi := { dst := some 151, op := Go.Op.pick (Go.Operand.tmp 135) (Go.Operand.tmp 150) (Go.Operand.const (Go.Value.bool false)), type := 4, pos := "law.go:77", after := #[{ on := 19, ground := Go.Ground.data }, { on := 34, ground := Go.Ground.data }, { on := 11, ground := Go.Ground.guard }], guard := some (11, false) }) (v := .bool false) rfl (by kernel_rfl) (by kernel_rfl) (by kernel_rfl) (fun _ _ _ h => h) (by kernel_rfl) (Or.inl ⟨by rfl, ?hy99⟩) hS5 ?rest99
                        case hy99 => (intro W hSw; go_simp; try (with_reducible rfl))
                        try simp only [Act.put, List.setIfInBounds_toArray, List.set_cons_zero, List.set_cons_succ]
                        refine' wpAnyD_take (i := 36) (oi := { dst := some 152, op := Go.Op.pick (Go.Operand.tmp 127) (Go.Operand.const (Go.Value.bool true)) (Go.Operand.tmp 151), type := 4, pos := "law.go:77", after := #[{ on := 11, ground := Go.Ground.data }, { on := 35, ground := Go.Ground.data }], guard := none }) (v := .bool false) rfl (by kernel_rfl) (by kernel_rfl) (by kernel_rfl) (fun _ _ _ h => h) (by kernel_rfl) (Or.inl ⟨by rfl, ?hy100⟩) hS5 ?rest100
                        case hy100 => (intro W hSw; go_simp; try (with_reducible rfl))
                        try simp only [Act.put, List.setIfInBounds_toArray, List.set_cons_zero, List.set_cons_succ]
                        refine wpAnyD_done (by kernel_rfl) ?_ _
                        have HW2 := hid hS5
                        clear hS0 hS5
                        go_wp2_with fail
                        go_roundw
                        case rel => exact ⟨q + 1, by omega, by go_num, HW2.out⟩
                        case measure => simp [RowKit.intOf]; omega
                    · have hqz : ¬ (q : Int) < (n : Int) + 2 := by omega
                      have hqz2 : ¬ (q : Int) < ((n + 2 : Nat) : Int) := by omega
                      go_wp2_with fail
                      go_roundw
                      case rel => exact ⟨i + 1, by omega, by go_num, HW.out⟩
                      case measure => simp [RowKit.intOf]; omega
                · have hikz : ¬ (i : Int) < (k : Int) := by omega
                  go_wp2
                  go_ret
                  exact ⟨rfl, BF.out.trans (HW.out.below.mono (Nat.le_trans hBw BF.out.size))⟩
end Go.Proofs.Ytghpekkncfckaaa.Ca
