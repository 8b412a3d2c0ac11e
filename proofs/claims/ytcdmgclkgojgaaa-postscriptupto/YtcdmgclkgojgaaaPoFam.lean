import Derived.Test.YtcdmgclkgojgaaaPoPairs
import Derived.Test.YtcdmgclkgojgaaaLKeep2
import Derived.Deep.RegionHeld3
import Derived.Shelf.SlSortCmp.QuietGrown
namespace Go.Proofs.Ytcdmgclkgojgaaa.Pg
open Go.RowKit Go.Sort
attribute [local go_sem ↓] Go.wp_at_zero Go.wp_at_succ

/-- Lists of the call's own, no two in one block. -/
structure Fam (W : World) (n : Nat) (V : Nat → Value) (C : Nat → List (Int × Int)) : Prop where
  own : ∀ i, i < n → W.ownsRow 0 81 2 (V i) (C i).length (fl EP (C i))
  far : ∀ i j, i < n → j < n → i ≠ j → ∀ g, (V i).ownBlock = some g → (V j).ownBlock ≠ some g
theorem Fam.kp {S : Nat → Prop} {W W' : World} {n : Nat} {V : Nat → Value} {C : Nat → List (Int × Int)} (h : Fam W n V C) (hk : Kp S W W') (hS : ∀ i, i < n → ∀ g, (V i).ownBlock = some g → ¬ S g) : Fam W' n V C :=
  ⟨fun i hi => owns_kp hk (h.own i hi) (hS i hi), h.far⟩
theorem Fam.below {W W' : World} {n : Nat} {V : Nat → Value} {C : Nat → List (Int × Int)} (h : Fam W n V C) (hb : Below W.heap.size W W') : Fam W' n V C := h.kp (S := fun _ => False) (Kp.of_below hb) (fun _ _ _ _ h => h)
theorem infoSl : (Try.prog.info? 36).map (fun i => (i.zero, i.size, i.bytes)) = some (some (.slice none 0 0), 1, 24) := by kernel_rfl
theorem range_two (V : Nat → Value) (k : Nat) : (List.range (2 * (k + 1))).map V = (List.range (2 * k)).map V ++ [V (2 * k), V (2 * k + 1)] := by
  rw [show 2 * (k + 1) = 2 * k + 1 + 1 by omega, List.range_succ, List.range_succ]
  simp

/-- The mark of list i. -/
def mkP (i : Nat) : Int × Int := (-9, (i : Int))
/-- Behind k lists and i of the next one. -/
def stage (C : Nat → List (Int × Int)) (k i j : Nat) : List (Int × Int) := if j < k then List.replicate (C j).length (mkP j) else if j = k then List.replicate i (mkP k) ++ (C k).drop i else C j

theorem stage_len (C : Nat → List (Int × Int)) (k i j : Nat) (hi : i ≤ (C k).length) : (stage C k i j).length = (C j).length := by
  unfold stage
  split
  · simp
  · split
    · rename_i h; subst h; simp; omega
    · rfl
theorem stage_zero (C : Nat → List (Int × Int)) : stage C 0 0 = C := by
  funext j
  unfold stage
  rw [if_neg (Nat.not_lt_zero _)]
  split
  · rename_i h; subst h; simp
  · rfl
theorem stage_next (C : Nat → List (Int × Int)) (k : Nat) : stage C k (C k).length = stage C (k + 1) 0 := by
  funext j
  unfold stage
  by_cases h1 : j < k
  · rw [if_pos h1, if_pos (by omega)]
  · rw [if_neg h1]
    by_cases h2 : j = k
    · subst h2; rw [if_pos rfl, if_pos (by omega)]; simp
    · rw [if_neg h2, if_neg (by omega)]
      split
      · rename_i h; subst h; simp
      · rfl
theorem stage_step (C : Nat → List (Int × Int)) (k i : Nat) (hi : i < (C k).length) (j : Nat) : stage C k (i + 1) j = if j = k then (stage C k i k).set i (mkP k) else stage C k i j := by
  unfold stage
  by_cases h1 : j < k
  · rw [if_pos h1, if_neg (by omega), if_pos h1]
  · rw [if_neg h1]
    by_cases h2 : j = k
    · rw [if_pos h2, if_pos h2, if_neg (Nat.lt_irrefl _), if_pos rfl]
      have hd : (C k).drop i = (C k)[i] :: (C k).drop (i + 1) := List.drop_eq_getElem_cons hi
      rw [hd, List.set_append_right _ _ (by simp), List.length_replicate, Nat.sub_self, List.set_cons_zero, List.replicate_succ', List.append_assoc]
      rfl
    · rw [if_neg h2, if_neg h2, if_neg h1, if_neg h2]
theorem pairs_gr (va vb : Value) (l : List (Int × Int)) (w : World) (ha : Ls EP w va l) (hb : Ls EP w vb l) (hl : l.length ≤ 1000000000) :
    Calls Try.prog 16 #[va, vb] w fun e w' => e = .returned (.bool true) ∧ Gr w w' := by
  refine (pairs_any va vb l w ha hb hl).mono ?_
  rintro e w' ⟨he, m, rfl⟩
  exact ⟨he, (Gr.refl _).drewN m⟩
theorem flP_set (L : List (Int × Int)) (i : Nat) (x : Int × Int) : (((fl EP L).set (i * 2) (.int .i64 x.1)).set (i * 2 + 1) (.int .i64 x.2)) = fl EP (L.set i x) := by
  induction L generalizing i with
  | nil => simp [fl]
  | cons y L ih =>
    rw [fl_cons]
    cases i with
    | zero => simp [EP, fl]
    | succ i =>
      rw [List.set_cons_succ, fl_cons, ← ih i, show (i + 1) * 2 = i * 2 + 2 by omega]
      simp [EP]
theorem owns_set2 {w : World} {g N cap k : Nat} {L : List (Int × Int)} (x : Int × Int) (h : w.ownsRow 0 81 2 (.slice (some ⟨g, 0, none⟩) N cap) N (fl EP L)) :
    ((w.setCell ⟨g, k * 2, none⟩ (.int .i64 x.1)).setCell ⟨g, k * 2 + 1, none⟩ (.int .i64 x.2)).ownsRow 0 81 2 (.slice (some ⟨g, 0, none⟩) N cap) N (fl EP (L.set k x)) ∧ Kp (fun j => j = g) w ((w.setCell ⟨g, k * 2, none⟩ (.int .i64 x.1)).setCell ⟨g, k * 2 + 1, none⟩ (.int .i64 x.2)) := by
  obtain ⟨h1, k1⟩ := owns_cell0 (q := k * 2) (.int .i64 x.1) h
  obtain ⟨h2, k2⟩ := owns_cell0 (q := k * 2 + 1) (.int .i64 x.2) h1
  rw [flP_set] at h2
  exact ⟨h2, k1.trans k2 (fun _ _ h => h)⟩
theorem fam_set {W : World} {n k g len cap i : Nat} {V : Nat → Value} {D D' : Nat → List (Int × Int)} (h : Fam W n V D) (hk : k < n) (hV : V k = .slice (some ⟨g, 0, none⟩) len cap) (hl : (D k).length = len) (x : Int × Int) (hD : ∀ j, D' j = if j = k then (D k).set i x else D j) :
    Fam ((W.setCell ⟨g, i * 2, none⟩ (.int .i64 x.1)).setCell ⟨g, i * 2 + 1, none⟩ (.int .i64 x.2)) n V D' ∧ Kp (fun q => (V k).ownBlock = some q) W ((W.setCell ⟨g, i * 2, none⟩ (.int .i64 x.1)).setCell ⟨g, i * 2 + 1, none⟩ (.int .i64 x.2)) := by
  have ho := h.own k hk
  rw [hV, hl] at ho
  obtain ⟨h1, h2⟩ := owns_set2 (k := i) x ho
  have hkk : Kp (fun q => (V k).ownBlock = some q) W ((W.setCell ⟨g, i * 2, none⟩ (.int .i64 x.1)).setCell ⟨g, i * 2 + 1, none⟩ (.int .i64 x.2)) :=
    ⟨h2.os, h2.tape, h2.output, h2.size, fun q hq hn => h2.block q hq (fun e => hn (by rw [hV, e]; rfl))⟩
  refine ⟨⟨fun j hj => ?_, h.far⟩, hkk⟩
  rw [hD j]
  by_cases hjk : j = k
  · subst hjk
    rw [if_pos rfl, hV, List.length_set, hl]
    exact h1
  · rw [if_neg hjk]
    exact owns_kp hkk (h.own j hj) (fun q hq e => h.far j k hj hk hjk q hq e)

/-- The book's pages. -/
structure Book (w : World) (m bb ob : Nat) (pb : Option Addr) (V Wv : Nat → Value) (D : Nat → List (Int × Int)) : Prop where
  addr : 0 < m → pb = some ⟨bb, ob, none⟩ ∧ bb < w.heap.size
  a : ∀ i, i < m → w.cell? ⟨bb, ob + i * 3, none⟩ = some (V (2 * i))
  b : ∀ i, i < m → w.cell? ⟨bb, ob + i * 3 + 1, none⟩ = some (V (2 * i + 1))
  c : ∀ i, i < m → w.cell? ⟨bb, ob + i * 3 + 2, none⟩ = some (Wv i)
  want : ∀ i, i < m → Ls EP w (Wv i) (D i)
  fam : Fam w (2 * m) V (fun i => D (i / 2))
  small : ∀ i, i < m → (D i).length ≤ 1048576
  few : m ≤ 1048576

/-- Behind k lists that were grown. -/
structure Grw (w2 : World) (N : Nat) (V : Nat → Value) (n : Nat → Nat) (W : World) (k : Nat) (X : Nat → Value) (s : Value) : Prop where
  big : ∀ i, i < k → Ls EP W (X i) (List.replicate (n i + 2) (mkP i))
  old : ∀ i, i < k → Ls EP W (V i) (List.replicate (n i) (mkP i))
  rest : ∀ i, k ≤ i → i < N → W.ownsRow 0 81 2 (V i) (n i) (fl EP (List.replicate (n i) (mkP i)))
  lie : ∀ i, i < k → ∀ g, (X i).ownBlock = some g → (V i).ownBlock = some g ∨ w2.heap.size ≤ g
  more : W.ownsRow w2.heap.size 36 1 s k ((List.range k).map X)
  mfar : ∀ g, s.ownBlock = some g → ∀ i, i < k → (X i).ownBlock ≠ some g
  kp : Kp (fun q => ∃ i, i < N ∧ (V i).ownBlock = some q) w2 W

theorem Grw.step {w2 : World} {N : Nat} {V : Nat → Value} {n : Nat → Nat} {W W1 W3 : World} {k : Nat} {X : Nat → Value} {s s' x : Value} (h : Grw w2 N V n W k X s) (hk : k < N)
    (hfar : ∀ i j, i < N → j < N → i ≠ j → ∀ g, (V i).ownBlock = some g → (V j).ownBlock ≠ some g) (hlow : ∀ i, i < N → ∀ g, (V i).ownBlock = some g → g < w2.heap.size)
    (hx : Ls EP W1 x (List.replicate (n k + 2) (mkP k))) (hxl : ∀ g, x.ownBlock = some g → (V k).ownBlock = some g ∨ W.heap.size ≤ g) (hV : Ls EP W1 (V k) (List.replicate (n k) (mkP k))) (h1 : Kp (fun q => (V k).ownBlock = some q) W W1)
    (hm : W3.ownsRow w2.heap.size 36 1 s' (k + 1) ((List.range k).map X ++ [x])) (h3 : Kp (fun q => s.ownBlock = some q) W1 W3) (hs : ∀ g, s'.ownBlock = some g → s.ownBlock = some g ∨ W1.heap.size ≤ g) :
    Grw w2 N V n W3 (k + 1) (fun i => if i = k then x else X i) s' := by
  have hsl : ∀ g, s.ownBlock = some g → w2.heap.size ≤ g ∧ g < W.heap.size := fun g hg => h.more.lt g hg
  have hVs : ∀ i, i < N → ∀ q, (V i).ownBlock = some q → ¬ s.ownBlock = some q := fun i hi q hq e => by have := (hsl q e).1; have := hlow i hi q hq; omega
  have hXk : ∀ i, i < k → ∀ q, (X i).ownBlock = some q → ¬ (V k).ownBlock = some q := fun i hi q hq e => by
    rcases h.lie i hi q hq with h' | h'
    · exact hfar i k (by omega) hk (by omega) q h' e
    · have := hlow k hk q e; omega
  have hxs : ∀ q, x.ownBlock = some q → ¬ s.ownBlock = some q := fun q hq e => by
    rcases hxl q hq with h' | h'
    · exact hVs k hk q h' e
    · have := (hsl q e).2; omega
  refine ⟨fun i hi => ?_, fun i hi => ?_, fun i hi hiN => ?_, fun i hi g hg => ?_, ?_, fun g hg i hi => ?_, ?_⟩
  · by_cases e : i = k
    · subst e
      rw [if_pos rfl]
      exact h3.ls hx hxs
    · rw [if_neg e]
      exact h3.ls (h1.ls (h.big i (by omega)) (hXk i (by omega))) (fun q hq e' => h.mfar q e' i (by omega) hq)
  · by_cases e : i = k
    · subst e
      exact h3.ls hV (hVs i hk)
    · exact h3.ls (h1.ls (h.old i (by omega)) (fun q hq e' => hfar i k (by omega) hk e q hq e')) (hVs i (by omega))
  · exact owns_kp h3 (owns_kp h1 (h.rest i (by omega) hiN) (fun q hq e' => hfar i k hiN hk (by omega) q hq e')) (hVs i hiN)
  · by_cases e : i = k
    · subst e
      rw [if_pos rfl] at hg
      rcases hxl g hg with h' | h'
      · exact Or.inl h'
      · exact Or.inr (Nat.le_trans h.kp.size h')
    · rw [if_neg e] at hg
      exact h.lie i (by omega) g hg
  · have e : (List.range (k + 1)).map (fun i => if i = k then x else X i) = (List.range k).map X ++ [x] := by
      rw [List.range_succ, List.map_append]
      congr 1
      · refine List.map_congr_left fun i hi => ?_
        rw [if_neg (by have := List.mem_range.1 hi; omega)]
      · simp
    rw [e]
    exact hm
  · intro e
    by_cases ei : i = k
    · subst ei
      rw [if_pos rfl] at e
      rcases hs g hg with h' | h'
      · exact hxs g e h'
      · have := hx.blk g e; omega
    · rw [if_neg ei] at e
      rcases hs g hg with h' | h'
      · exact h.mfar g h' i (by omega) e
      · have := (h.big i (by omega)).blk g e; have := h1.size; omega
  · refine (h.kp.trans h1 (fun q _ e => ⟨k, hk, e⟩)).trans h3 (fun q hq e => ?_)
    have := (hsl q e).1; omega

set_option maxHeartbeats 2000000 in
set_option maxRecDepth 100000 in
theorem stay_any (B m bb ob cb : Nat) (pb : Option Addr) (V Wv : Nat → Value) (D : Nat → List (Int × Int)) (w : World) (hb : Book w m bb ob pb V Wv D) (hB : ∀ i, i < 2 * m → ∀ g, (V i).ownBlock = some g → B ≤ g) (hBw : B ≤ w.heap.size) :
    Calls Try.prog 30 #[.slice pb m cb] w fun e w' => e = .returned (.bool true) ∧ Below B w w' := by
  have hmx : Try.prog.follows .mixedOrders = true := by kernel_rfl
  have HB : Hid (Book w m bb ob pb V Wv D) := hb
  have hfew := hb.few
  obtain ⟨iS, hiS, hs0, hs1, hs2⟩ := info_parts infoSl
  have HiS : Hid (Try.prog.info? 36 = some iS) := hiS
  have Hs0 : Hid (iS.zero = some (.slice none 0 0)) := hs0
  have Hs1 : Hid (iS.size = 1) := hs1
  have Hs2 : Hid (iS.bytes = 24) := hs2
  clear hb hiS hs0 hs1 hs2
  go_enter Try.func30, Try.ntmps30
  go_wp2_with fail
  go_loopw [3, 4] (fun s3 s4 wr => ∃ k : Nat, k ≤ m ∧ s4 = .int .i64 k ∧ wr.ownsRow w.heap.size 36 1 s3 (2 * k) ((List.range (2 * k)).map V) ∧ Below w.heap.size w wr) (fun _ s4 _ => m - (RowKit.intOf s4).toNat)
  case atStart => exact ⟨0, Nat.zero_le _, rfl, World.ownsRow_nil _ _ _ _, Below.refl _ _⟩
  case round =>
    obtain ⟨k, hk, rfl, hown, hbw⟩ := hrel
    have hsz := hbw.size
    by_cases hlt : k < m
    · have hltz : (k : Int) < (m : Int) := by omega
      obtain ⟨hpb, hbl⟩ := HB.out.addr (by omega)
      subst hpb
      have LA := (owns_ls (E := EP) (HB.out.fam.own (2 * k) (by omega))).below hbw
      have LBb := (owns_ls (E := EP) (HB.out.fam.own (2 * k + 1) (by omega))).below hbw
      rw [show 2 * k / 2 = k by omega] at LA
      rw [show (2 * k + 1) / 2 = k by omega] at LBb
      have LW := (HB.out.want k hlt).below hbw
      have c0 := (hbw.cell (p := ⟨bb, ob + k * 3, none⟩) hbl).trans (HB.out.a k hlt)
      have c1 := (hbw.cell (p := ⟨bb, ob + k * 3 + 1, none⟩) hbl).trans (HB.out.b k hlt)
      have c2 := (hbw.cell (p := ⟨bb, ob + k * 3 + 2, none⟩) hbl).trans (HB.out.c k hlt)
      obtain ⟨pa, ca, ea⟩ := LA.form
      obtain ⟨pe, ce, ee⟩ := LBb.form
      obtain ⟨pw, cw, ew⟩ := LW.form
      have hsm := HB.out.small k hlt
      have HRT : Hid ((List.range (2 * (k + 1))).map V = (List.range (2 * k)).map V ++ [.slice pa (D k).length ca, .slice pe (D k).length ce]) := by
        show _ = _
        rw [range_two, ea, ee]
      rw [ea] at LA c0
      rw [ee] at LBb c1
      rw [ew] at LW c2
      have hS : ∀ W v', (v' = .slice pa (D k).length ca ∨ v' = .slice pe (D k).length ce) → Gr wr W → Calls Try.prog 16 #[v', .slice pw (D k).length cw] W fun e w' => e = .returned (.bool true) ∧ Gr W w' := fun W v' h hg => by
        have := fun (hv : Ls EP W v' (D k)) => pairs_gr v' (.slice pw (D k).length cw) (D k) W hv (LW.below hg.below) (by omega)
        rcases h with rfl | rfl
        · exact this (LA.below hg.below)
        · exact this (LBb.below hg.below)
      have zb : bb < wr.heap.size := Nat.lt_of_lt_of_le hbl hsz
      have g0 := cell_grown (a := ⟨bb, ob + k * 3, none⟩) zb c0
      have g1 := cell_grown (a := ⟨bb, ob + k * 3 + 1, none⟩) zb c1
      have g2 := cell_grown (a := ⟨bb, ob + k * 3 + 2, none⟩) zb c2
      clear LA LBb LW ea ee ew
      generalize (D k).length = n at *
      go_wp2_with fail
      clear c0 c1 c2
      go_quiet_grown (first | (go_at_call 16; refine Calls.grown_of (v := .bool true) (hS _ _ (by first | exact Or.inl rfl | exact Or.inr rfl) ⟨_, _, rfl⟩)))
      have G9 : Gr wr (grow (wr.drewN nq) osq) := ((Gr.refl _).drewN _).grown _
      have d0 := g0 nq osq
      have d1 := g1 nq osq
      generalize grow (wr.drewN nq) osq = w9 at *
      have hown9 := owns_below hown G9.below
      have z9 := G9.size
      have zb9 : bb < w9.heap.size := Nat.lt_of_lt_of_le zb z9
      have S0 : w9.cell? ⟨bb, ob + k * 3, none⟩ = some (.slice pa n ca) ∧ w9.cell? ⟨bb, ob + k * 3 + 1, none⟩ = some (.slice pe n ce) ∧ bb < w9.heap.size := ⟨d0, d1, zb9⟩
      have keepB : ∀ W W' : World, (W.cell? ⟨bb, ob + k * 3, none⟩ = some (.slice pa n ca) ∧ W.cell? ⟨bb, ob + k * 3 + 1, none⟩ = some (.slice pe n ce) ∧ bb < W.heap.size) → Below w.heap.size W W' → (W'.cell? ⟨bb, ob + k * 3, none⟩ = some (.slice pa n ca) ∧ W'.cell? ⟨bb, ob + k * 3 + 1, none⟩ = some (.slice pe n ce) ∧ bb < W'.heap.size) := fun W W' h hb =>
        ⟨(hb.cell (p := ⟨bb, ob + k * 3, none⟩) hbl).trans h.1, (hb.cell (p := ⟨bb, ob + k * 3 + 1, none⟩) hbl).trans h.2.1, Nat.lt_of_lt_of_le h.2.2 hb.size⟩
      have hne : some bb ≠ u3.ownBlock := fun e => by have := (hown9.lt bb e.symm).1; omega
      have keepA : ∀ W W' : World, (W.cell? ⟨bb, ob + k * 3, none⟩ = some (.slice pa n ca) ∧ W.cell? ⟨bb, ob + k * 3 + 1, none⟩ = some (.slice pe n ce) ∧ bb < W.heap.size) → W.grownBy W' u3.ownBlock → (W'.cell? ⟨bb, ob + k * 3, none⟩ = some (.slice pa n ca) ∧ W'.cell? ⟨bb, ob + k * 3 + 1, none⟩ = some (.slice pe n ce) ∧ bb < W'.heap.size) := fun W W' h hg =>
        ⟨hg.cell (a := ⟨bb, _, none⟩) h.1 hne, hg.cell (a := ⟨bb, _, none⟩) h.2.1 hne, Nat.lt_of_lt_of_le h.2.2 hg.size⟩
      have hk24 : (2 * k + 2) * 24 ≤ 140737488355328 := by omega
      have hk63 : 2 * k + 2 ≤ maxLen := by unfold maxLen; omega
      have hone : ∀ u ∈ [Value.slice pa n ca, Value.slice pe n ce], u.oneCell' = true := fun u hu => by
        simp at hu
        rcases hu with rfl | rfl <;> rfl
      have hz9 : w.heap.size ≤ w9.heap.size := Nat.le_trans hsz z9
      clear g0 g1 g2 d0 d1 hown hS
      go_wp2_with fail
      go_region_held3 (fun w' => w'.cell? ⟨bb, ob + k * 3, none⟩ = some (.slice pa n ca) ∧ w'.cell? ⟨bb, ob + k * 3 + 1, none⟩ = some (.slice pe n ce) ∧ bb < w'.heap.size)
        (first | exact S0 | exact keepB w9 _ S0 (((Gr.refl w9).alloc _).drew.below.mono hz9) | exact keepB _ _ (by assumption) ((Gr.refl _).drew.below.mono hz9) | exact keepB _ _ (by assumption) (((Gr.refl _).alloc _).below.mono hz9) | exact keepA _ _ (by assumption) (by assumption))
        (first | (refine step_append_lies _ rfl _ _ 113 rfl w.heap.size 36 iS (.slice none 0 0) 1 24 Try.underlying113 HiS.out Hs0.out Hs1.out Hs2.out rfl (by decide) u3 (2 * k) _ rfl (World.ownsRow.alloc (w := w9.drew) hown9 _) ⟨w9.heap.size, 0, none⟩ 2 2 [.slice pa n ca, .slice pe n ce] rfl rfl (World.news_of_block (heap_new' _ _)) hone (by decide) hk63 hk24 (by simp; omega) _ rfl ?_; intro g cap w10 hown10 hgrow hat hlt10))
      go_wp2
      refine ⟨⟨k + 1, by omega, by go_num, by rw [HRT.out]; exact hown10, ?_⟩, by simp [RowKit.intOf]; omega⟩
      exact (((hbw.trans (G9.below.mono hsz)).trans ((Gr.refl w9).drew.below.mono hz9)).trans (((Gr.refl _).alloc _).below.mono hz9)).trans ((Kp.grownBy (S := fun k => w.heap.size ≤ k) hgrow (fun k hk => (hown9.lt k hk).1)).below (by simp; omega) (fun _ h => h))
    · have hltz : ¬ (k : Int) < (m : Int) := by omega
      have hkm : k = m := by omega
      subst hkm
      obtain ⟨N, hN⟩ : ∃ N, N = 2 * k := ⟨_, rfl⟩
      obtain ⟨C, hC⟩ : ∃ C : Nat → List (Int × Int), C = fun i => D (i / 2) := ⟨_, rfl⟩
      have FM : Hid (Fam wr N V C) := by
        have := HB.out.fam.below hbw
        rw [← hN, ← hC] at this
        exact this
      have hVw : Hid (∀ i, i < N → ∀ g, (V i).ownBlock = some g → B ≤ g ∧ g < w.heap.size) := fun i hi g hg => ⟨hB i (by omega) g hg, (HB.out.fam.own i (by omega)).lt g hg |>.2⟩
      have hCs : Hid (∀ i, i < N → (C i).length ≤ 1048576) := fun i hi => by rw [hC]; exact HB.out.small (i / 2) (by omega)
      rw [← hN] at hown
      have hNs : N ≤ 2097152 := by omega
      obtain ⟨p3, c3, ga, rfl, hal⟩ : ∃ p3 c3 ga, u3 = .slice p3 N c3 ∧ ∀ i, i < N → p3 = some ⟨ga, 0, none⟩ ∧ w.heap.size ≤ ga ∧ ga < wr.heap.size ∧ wr.cell? ⟨ga, i, none⟩ = some (V i) := by
        obtain ⟨_, ⟨h0, h1⟩ | ⟨ga, cap, cur, h0, hbg, hgg, _⟩⟩ := id hown
        · exact ⟨none, 0, 0, by rw [h0, h1], fun i hi => by omega⟩
        · refine ⟨_, _, ga, h0, fun i hi => ⟨rfl, hbg, (Array.getElem?_eq_some_iff.1 hgg).1, ?_⟩⟩
          have := hown.cells (g := ga) (by rw [h0]; rfl) i (V i) (by simp [hi])
          rw [addA, Nat.zero_add] at this
          exact this
      have HAL : Hid (∀ i, i < N → p3 = some ⟨ga, 0, none⟩ ∧ w.heap.size ≤ ga ∧ ga < wr.heap.size ∧ wr.cell? ⟨ga, i, none⟩ = some (V i)) := hal
      have B1 : Hid (Below w.heap.size w wr) := hbw
      clear hown hbw hN hC hal HB hB hlt hk
      generalize wr = w1 at *
      go_wp2_with fail
      clear hltz
      go_loopw [5] (fun s5 wr => ∃ j : Nat, j ≤ N ∧ s5 = .int .i64 j ∧ Hid (Fam wr N V (stage C j 0) ∧ Kp (fun q => ∃ i, i < N ∧ (V i).ownBlock = some q) w1 wr)) (fun s5 _ => N - (RowKit.intOf s5).toNat)
      case atStart => exact ⟨0, Nat.zero_le _, rfl, by rw [stage_zero]; exact FM.out, Kp.refl _ _⟩
      case round =>
        obtain ⟨j, hj, rfl, HI⟩ := hrel
        by_cases hjN : j < N
        · have hjz : (j : Int) < (N : Int) := by omega
          obtain ⟨hp3, hga1, hga2, hcell⟩ := HAL.out j hjN
          subst hp3
          have HCA : Hid (∀ W, Kp (fun q => ∃ i, i < N ∧ (V i).ownBlock = some q) w1 W → W.cell? ⟨ga, j, none⟩ = some (V j)) := fun W hW => (World.cell?_of_block (a := ⟨ga, j, none⟩) (hW.block ga hga2 (fun ⟨i, hi, e⟩ => by have := (hVw.out i hi ga e).2; omega))).trans hcell
          have hCj := hCs.out j hjN
          obtain ⟨pj, cj, ej⟩ := (owns_ls (E := EP) (FM.out.own j hjN)).form
          clear hcell
          go_wp2_with fail
          go_loopw [6] (fun s6 wr => ∃ i : Nat, i ≤ (C j).length ∧ s6 = .int .i64 i ∧ Hid (Fam wr N V (stage C j i) ∧ Kp (fun q => ∃ i, i < N ∧ (V i).ownBlock = some q) w1 wr)) (fun s6 _ => (C j).length - (RowKit.intOf s6).toNat)
          case atStart => exact ⟨0, Nat.zero_le _, rfl, HI.out⟩
          case round =>
            clear HI
            obtain ⟨i, hi, rfl, HI⟩ := hrel
            have ca := HCA.out wr HI.out.2
            rw [ej] at ca
            have hga3 : ga < wr.heap.size := Nat.lt_of_lt_of_le hga2 HI.out.2.size
            by_cases hil : i < (C j).length
            · have hilz : (i : Int) < ((C j).length : Int) := by omega
              have hlen := stage_len C j i j hi
              obtain ⟨y, hy⟩ : ∃ y, (stage C j i j)[i]? = some y := ⟨(stage C j i j)[i]'(by omega), by simp⟩
              have how := HI.out.1.own j hjN
              obtain ⟨b1, o1, c1, e1, z1, x1, x2⟩ := p_at (owns_ls (E := EP) how) hy
              rw [ej, hlen] at e1
              simp only [Value.slice.injEq] at e1
              obtain ⟨rfl, -, rfl⟩ := e1
              obtain ⟨ho1, f1, f2⟩ : o1 = 0 ∧ wr.frozen? ⟨b1, o1 + i * 2, none⟩ = false ∧ wr.frozen? ⟨b1, o1 + i * 2 + 1, none⟩ = false := by
                obtain ⟨_, ⟨h0, _⟩ | ⟨g', cap', cur, hv, _, hgg, _⟩⟩ := id how
                · rw [ej] at h0; cases h0
                · rw [ej] at hv
                  simp only [Value.slice.injEq, Option.some.injEq, Addr.mk.injEq, and_true] at hv
                  obtain ⟨⟨rfl, rfl⟩, _⟩ := hv
                  exact ⟨rfl, by simp [World.frozen?, hgg]⟩
              subst ho1
              rw [Nat.zero_add] at x1 x2 f1 f2
              have HS := fam_set (i := i) HI.out.1 hjN ej hlen (mkP j) (stage_step C j i hil)
              have HSS : Hid (Fam ((wr.setCell ⟨b1, i * 2, none⟩ (.int .i64 (mkP j).1)).setCell ⟨b1, i * 2 + 1, none⟩ (.int .i64 (mkP j).2)) N V (stage C j (i + 1)) ∧ Kp (fun q => (V j).ownBlock = some q) wr ((wr.setCell ⟨b1, i * 2, none⟩ (.int .i64 (mkP j).1)).setCell ⟨b1, i * 2 + 1, none⟩ (.int .i64 (mkP j).2))) := HS
              clear HS how hy
              go_wp2
              exact ⟨⟨i + 1, by omega, by go_num, HSS.out.1, HI.out.2.trans HSS.out.2 (fun q _ h => ⟨j, hjN, h⟩)⟩, by simp [RowKit.intOf]; omega⟩
            · have hilz : ¬ (i : Int) < ((C j).length : Int) := by omega
              have hie : i = (C j).length := by omega
              subst hie
              have HI2 := HI.out
              rw [stage_next] at HI2
              have HI3 : Hid (Fam wr N V (stage C (j + 1) 0) ∧ Kp (fun q => ∃ i, i < N ∧ (V i).ownBlock = some q) w1 wr) := HI2
              clear HI2
              go_wp2
              exact ⟨⟨j + 1, by omega, by go_num, HI3.out⟩, by simp [RowKit.intOf]; omega⟩
        · have hjz : ¬ (j : Int) < (N : Int) := by omega
          have hjN' : j = N := by omega
          subst hjN'
          have hst : ∀ i, i < j → stage C j 0 i = List.replicate (C i).length (mkP i) := fun i hi => if_pos hi
          have G2 : Hid (Grw wr j V (fun i => (C i).length) wr 0 V (.slice none 0 0)) := ⟨fun i hi => by omega, fun i hi => by omega, fun i _ hi => by
            have := HI.out.1.own i hi
            rw [hst i hi, List.length_replicate] at this
            exact this, fun i hi => by omega, World.ownsRow_nil _ _ _ _, fun g hg => by simp [Value.ownBlock] at hg, Kp.refl _ _⟩
          have K2 : Hid (Kp (fun q => ∃ i, i < j ∧ (V i).ownBlock = some q) w1 wr) := HI.out.2
          have FAR : Hid (∀ i i', i < j → i' < j → i ≠ i' → ∀ g, (V i).ownBlock = some g → (V i').ownBlock ≠ some g) := HI.out.1.far
          clear HI hst FM
          generalize wr = w2 at *
          have hs12 := K2.out.size
          have hs01 := B1.out.size
          have LOW : Hid (∀ i, i < j → ∀ g, (V i).ownBlock = some g → g < w2.heap.size) := fun i hi g hg => by have := (hVw.out i hi g hg).2; omega
          go_wp2_with fail
          clear hjz
          go_loopw [7, 8] (fun s7 s8 wr => ∃ (k : Nat) (X : Nat → Value), k ≤ j ∧ s8 = .int .i64 k ∧ Hid (Grw w2 j V (fun i => (C i).length) wr k X s7)) (fun _ s8 _ => j - (RowKit.intOf s8).toNat)
          case atStart => exact ⟨0, V, Nat.zero_le _, rfl, G2.out⟩
          case round =>
            clear G2
            obtain ⟨k, X, hk, rfl, HG⟩ := hrel
            by_cases hkj : k < j
            · have hkz : (k : Int) < (j : Int) := by omega
              obtain ⟨hp3, hga1, hga2, hcell⟩ := HAL.out k hkj
              subst hp3
              have hgaV : ∀ i, i < j → (V i).ownBlock ≠ some ga := fun i hi e => by have := (hVw.out i hi ga e).2; omega
              have ca : wr.cell? ⟨ga, k, none⟩ = some (V k) := ((World.cell?_of_block (a := ⟨ga, k, none⟩) (HG.out.kp.block ga (Nat.lt_of_lt_of_le hga2 hs12) (fun ⟨i, hi, e⟩ => hgaV i hi e))).trans (World.cell?_of_block (a := ⟨ga, k, none⟩) (K2.out.block ga hga2 (fun ⟨i, hi, e⟩ => hgaV i hi e)))).trans hcell
              have hga3 : ga < wr.heap.size := Nat.lt_of_lt_of_le (Nat.lt_of_lt_of_le hga2 hs12) HG.out.kp.size
              have hCk := hCs.out k hkj
              have hOk := HG.out.rest k (Nat.le_refl _) hkj
              obtain ⟨pk, ck, ek⟩ := (owns_ls (E := EP) (ts := List.replicate (C k).length (mkP k)) (by rw [List.length_replicate]; exact hOk)).form
              rw [List.length_replicate] at ek
              have HOK : Hid (wr.ownsRow 0 81 2 (.slice pk (C k).length ck) (C k).length (fl EP (List.replicate (C k).length (mkP k)))) := by rw [← ek]; exact hOk
              have HEK : Hid (V k = .slice pk (C k).length ck) := ek
              rw [ek] at ca
              have hsw := HG.out.kp.size
              clear hcell hOk ek hgaV
              go_wp2_with (at_builtin; refine wpAppKeep2 EP Try.underlying36 infoP rfl (by decide) rfl _ _ rfl (.slice pk (C k).length ck) (C k).length _ rfl HOK.out (List.length_replicate ..) (mkP k) rfl (by omega) (by unfold maxLen; omega) _ rfl _ ?_)
              intro g cap W1 ho1 hk1 hl1 hold
              have HM1 : Hid (W1.ownsRow w2.heap.size 36 1 u7 k ((List.range k).map X)) := owns_kp hk1 HG.out.more (fun q hq e => by
                have h1 := (HG.out.more.lt q hq).1
                have h2 := LOW.out k hkj q (by rw [HEK.out]; exact e)
                omega)
              have hz1 := hk1.size
              have HX1 : Hid (Ls EP W1 (.slice (some ⟨g, 0, none⟩) ((C k).length + 2) cap) (List.replicate ((C k).length + 2) (mkP k))) := by
                have := owns_ls (E := EP) (ts := List.replicate (C k).length (mkP k) ++ [mkP k, mkP k]) (by simpa using ho1)
                rw [show List.replicate (C k).length (mkP k) ++ [mkP k, mkP k] = List.replicate ((C k).length + 2) (mkP k) by rw [← List.replicate_append_replicate]; rfl] at this
                exact this
              have HK1 : Hid (Kp (fun q => (V k).ownBlock = some q) wr W1) := by rw [HEK.out]; exact hk1
              have HL1 : Hid (∀ q, (Value.slice (some ⟨g, 0, none⟩) ((C k).length + 2) cap).ownBlock = some q → (V k).ownBlock = some q ∨ wr.heap.size ≤ q) := fun q hq => by
                have : q = g := by simpa [Value.ownBlock] using hq.symm
                rw [this, HEK.out]; exact hl1
              have HOLD : Hid (Ls EP W1 (V k) (List.replicate (C k).length (mkP k))) := by rw [HEK.out]; exact hold
              clear ho1 hk1 hl1 hold
              go_wp2_with (at_builtin; refine wpList_append_lies _ rfl _ _ 113 rfl w2.heap.size 36 iS (.slice none 0 0) 1 24 Try.underlying113 HiS.out Hs0.out Hs1.out Hs2.out rfl (by decide) u7 k _ rfl (World.ownsRow.alloc HM1.out _) ⟨W1.heap.size, 0, none⟩ 1 1 [.slice (some ⟨g, 0, none⟩) ((C k).length + 2) cap] rfl rfl (World.news_of_block (heap_new' _ _)) (fun u hu => by simp at hu; subst hu; rfl) (by decide) (by unfold maxLen; omega) (by omega) (by simp; omega) _ rfl ?_)
              intro g7 c7 W3 ho3 hg3 hl3 _
              have HS := HG.out.step hkj FAR.out LOW.out HX1.out HL1.out HOLD.out HK1.out ho3 ((Kp.of_below ((Gr.refl W1).alloc _).below).trans (Kp.grownBy (S := fun q => u7.ownBlock = some q) hg3 (fun _ h => h)) (fun _ _ h => h)) (fun q hq => by
                have : q = g7 := by simpa [Value.ownBlock] using hq.symm
                rw [this]
                exact hl3.imp id (fun e => by rw [e]; simp))
              have HSS : Hid (Grw w2 j V (fun i => (C i).length) W3 (k + 1) (fun i => if i = k then .slice (some ⟨g, 0, none⟩) ((C k).length + 2) cap else X i) (.slice (some ⟨g7, 0, none⟩) (k + 1) c7)) := HS
              clear HS ho3 hg3 hl3
              go_wp2
              exact ⟨⟨k + 1, _, by omega, by go_num, HSS.out⟩, by simp [RowKit.intOf]; omega⟩
            · have hkz : ¬ (k : Int) < (j : Int) := by omega
              have hkj' : k = j := by omega
              subst hkj'
              have GW : Hid (Grw w2 k V (fun i => (C i).length) wr k X u7) := HG.out
              have hmore := HG.out.more
              obtain ⟨p7, c7, g7, rfl, h7⟩ : ∃ p7 c7 g7, u7 = .slice p7 k c7 ∧ ∀ i, i < k → p7 = some ⟨g7, 0, none⟩ ∧ g7 < wr.heap.size ∧ wr.cell? ⟨g7, i, none⟩ = some (X i) := by
                obtain ⟨_, ⟨h0, h1⟩ | ⟨ga, cap, cur, h0, hbg, hgg, _⟩⟩ := id hmore
                · exact ⟨none, 0, 0, by rw [h0, h1], fun i hi => by omega⟩
                · refine ⟨_, _, ga, h0, fun i hi => ⟨rfl, (Array.getElem?_eq_some_iff.1 hgg).1, ?_⟩⟩
                  have := hmore.cells (g := ga) (by rw [h0]; rfl) i (X i) (by simp [hi])
                  rw [addA, Nat.zero_add] at this
                  exact this
              have H7 : Hid (∀ i, i < k → p7 = some ⟨g7, 0, none⟩ ∧ g7 < wr.heap.size ∧ wr.cell? ⟨g7, i, none⟩ = some (X i)) := h7
              have HCA : Hid (∀ i, i < k → p3 = some ⟨ga, 0, none⟩ ∧ ga < wr.heap.size ∧ wr.cell? ⟨ga, i, none⟩ = some (V i)) := fun i hi => by
                obtain ⟨hp3, hga1, hga2, hcell⟩ := HAL.out i hi
                have hgaV : ∀ i, i < k → (V i).ownBlock ≠ some ga := fun i hi e => by have := (hVw.out i hi ga e).2; omega
                exact ⟨hp3, Nat.lt_of_lt_of_le (Nat.lt_of_lt_of_le hga2 hs12) HG.out.kp.size, ((World.cell?_of_block (a := ⟨ga, i, none⟩) (HG.out.kp.block ga (Nat.lt_of_lt_of_le hga2 hs12) (fun ⟨i, hi, e⟩ => hgaV i hi e))).trans (World.cell?_of_block (a := ⟨ga, i, none⟩) (K2.out.block ga hga2 (fun ⟨i, hi, e⟩ => hgaV i hi e)))).trans hcell⟩
              have BF : Hid (Below B w wr) := by
                have hSB : ∀ q, (∃ i, i < k ∧ (V i).ownBlock = some q) → B ≤ q := fun q ⟨i, hi, e⟩ => (hVw.out i hi q e).1
                exact ((B1.out.mono hBw).trans (K2.out.below (Nat.le_trans hBw hs01) hSB)).trans (HG.out.kp.below (Nat.le_trans (Nat.le_trans hBw hs01) hs12) hSB)
              clear hmore h7 HG HAL K2 hVw LOW FAR B1 HiS Hs0 Hs1 Hs2 hs12 hs01
              generalize wr = w3 at *
              go_wp2_with fail
              clear hkz
              go_loopw [9] (fun s9 wr => ∃ i : Nat, i ≤ k ∧ s9 = .int .i64 i ∧ wr = w3) (fun s9 _ => k - (RowKit.intOf s9).toNat)
              case atStart => exact ⟨0, Nat.zero_le _, rfl, rfl⟩
              case round =>
                obtain ⟨i, hi, rfl, hwr⟩ := hrel
                rw [hwr]
                clear hwr
                by_cases hik : i < k
                · have hikz : (i : Int) < (k : Int) := by omega
                  obtain ⟨hp7, hg7, c7x⟩ := H7.out i hik
                  obtain ⟨hp3, hga, c3x⟩ := HCA.out i hik
                  subst hp7
                  subst hp3
                  have hCi := hCs.out i hik
                  have LX := GW.out.big i hik
                  have LV := GW.out.old i hik
                  obtain ⟨px, cx, ex⟩ := LX.form
                  obtain ⟨pv, cv, ev⟩ := LV.form
                  rw [List.length_replicate] at ex ev
                  rw [ex] at LX c7x
                  rw [ev] at LV c3x
                  have HLX : Hid (Ls EP w3 (.slice px ((C i).length + 2) cx) (List.replicate ((C i).length + 2) (mkP i))) := LX
                  have HLV : Hid (Ls EP w3 (.slice pv (C i).length cv) (List.replicate (C i).length (mkP i))) := LV
                  generalize (C i).length = n at *
                  have heq := run_eqP2 (-9) (i : Int)
                  clear ex ev LX LV
                  go_wp2_with fail
                  go_loopw [10] (fun s10 wr => ∃ q : Nat, q ≤ n + 2 ∧ s10 = .int .i64 q ∧ wr = w3) (fun s10 _ => n + 2 - (RowKit.intOf s10).toNat)
                  case atStart => exact ⟨0, Nat.zero_le _, rfl, rfl⟩
                  case round =>
                    obtain ⟨q, hq, rfl, hwr⟩ := hrel
                    rw [hwr]
                    clear hwr
                    by_cases hqn : q < n + 2
                    · have hqz : (q : Int) < (n : Int) + 2 := by omega
                      have hqz2 : (q : Int) < ((n + 2 : Nat) : Int) := by omega
                      obtain ⟨b1, o1, c1, e1, z1, x1, x2⟩ := p_at HLX.out (j := q) (x := mkP i) (by simp [hqn])
                      rw [List.length_replicate] at e1
                      simp only [Value.slice.injEq] at e1
                      obtain ⟨rfl, -, rfl⟩ := e1
                      have X1 : w3.cell? ⟨b1, o1 + q * 2, none⟩ = some (.int .i64 (-9)) := x1
                      have X2 : w3.cell? ⟨b1, o1 + q * 2 + 1, none⟩ = some (.int .i64 (i : Int)) := x2
                      clear x1 x2
                      by_cases hqn2 : q < n
                      · have hqn2z : (q : Int) < (n : Int) := by omega
                        obtain ⟨b2, o2, c2, e2, z2, y1, y2⟩ := p_at HLV.out (j := q) (x := mkP i) (by simp [hqn2])
                        rw [List.length_replicate] at e2
                        simp only [Value.slice.injEq] at e2
                        obtain ⟨rfl, -, rfl⟩ := e2
                        have Y1 : w3.cell? ⟨b2, o2 + q * 2, none⟩ = some (.int .i64 (-9)) := y1
                        have Y2 : w3.cell? ⟨b2, o2 + q * 2 + 1, none⟩ = some (.int .i64 (i : Int)) := y2
                        clear y1 y2
                        go_wp2
                        exact ⟨⟨q + 1, by omega, by go_num, trivial⟩, by simp [RowKit.intOf]; omega⟩
                      · have hqn2z : ¬ (q : Int) < (n : Int) := by omega
                        go_wp2
                        exact ⟨⟨q + 1, by omega, by go_num, trivial⟩, by simp [RowKit.intOf]; omega⟩
                    · have hqz : ¬ (q : Int) < (n : Int) + 2 := by omega
                      have hqz2 : ¬ (q : Int) < ((n + 2 : Nat) : Int) := by omega
                      go_wp2
                      exact ⟨⟨i + 1, by omega, by go_num, trivial⟩, by simp [RowKit.intOf]; omega⟩
                · have hikz : ¬ (i : Int) < (k : Int) := by omega
                  go_wp2
                  go_ret
                  exact ⟨rfl, BF.out⟩
end Go.Proofs.Ytcdmgclkgojgaaa.Pg
