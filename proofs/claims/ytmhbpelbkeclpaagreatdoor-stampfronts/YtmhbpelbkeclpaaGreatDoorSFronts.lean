import Derived.Test.YtmhbpelbkeclpaaGreatDoorSApart0
import Derived.Deep.LoopGhost
import Derived.Deep.DeepCutAuto
namespace Go.Proofs.YtmhbpelbkeclpaaGreatDoor
open Go.RowKit Go.Shelf Go.Lib
open Go.Sort hiding Below

theorem lst_block {w : World} {b : Nat} {cs : Array Value} {T : TypeId} {l : List T3} {c n : Nat} (h : w.heap[b]? = some (.cells cs T (0, 0))) (hc : cs.toList = flat l) (hn : l.length = n) : Lst w (.slice (some ⟨b, 0, none⟩) n c) l := by
  subst hn
  refine Or.inr ⟨b, 0, c, rfl, (Array.getElem?_eq_some_iff.1 h).1, fun j u hj => ?_⟩
  rw [Nat.zero_add]
  rw [← hc, Array.getElem?_toList] at hj
  simp only [World.cell?, h]
  exact hj
/-- As the list is written over. -/
def tn (t : T3) : T3 := (t.2.2, IntKind.u64.wrap (t.1 + 1), t.2.1)
def tnl (ts : List T3) (i : Nat) : List T3 := (ts.take i).map tn ++ ts.drop i
theorem tnl_len (ts : List T3) (i : Nat) : (tnl ts i).length = ts.length := by simp [tnl]; omega
theorem tnl_at {ts : List T3} {i : Nat} {t : T3} (h : ts[i]? = some t) : (tnl ts i)[i]? = some t := by
  have hl := (List.getElem?_eq_some_iff.1 h).1
  unfold tnl
  rw [List.getElem?_append_right (by simp; omega), List.getElem?_drop]
  simp [Nat.min_eq_left (Nat.le_of_lt hl), h]
theorem tnl_step {ts : List T3} {i : Nat} {t : T3} (h : ts[i]? = some t) : (tnl ts i).set i (tn t) = tnl ts (i + 1) := by
  obtain ⟨hl, rfl⟩ := List.getElem?_eq_some_iff.1 h
  unfold tnl
  have hm : ((ts.take i).map tn).length = i := by simp; omega
  rw [List.set_append_right _ _ (by omega), hm, Nat.sub_self, List.drop_eq_getElem_cons hl, List.set_cons_zero, List.take_add_one, List.getElem?_eq_getElem hl, Option.toList_some, List.map_append, List.append_assoc]
  rfl
theorem tnl_zero (ts : List T3) : tnl ts 0 = ts := by simp [tnl]
/-- One time is stored. -/
theorem owns_time {w : World} {B g N n cap i : Nat} {L : List T3} (x : T3) (h : w.ownsRow B 25 3 (.slice (some ⟨g, 0, none⟩) N cap) n (flat L)) :
    (((w.setCell ⟨g, i * 3, none⟩ (.int .u64 x.1)).setCell ⟨g, i * 3 + 1, none⟩ (.int .u64 x.2.1)).setCell ⟨g, i * 3 + 2, none⟩ (.int .u64 x.2.2)).ownsRow B 25 3 (.slice (some ⟨g, 0, none⟩) N cap) n (flat (L.set i x)) := by
  rw [← flat_set]
  have one : ∀ (w : World) (xs : List Value) (q : Nat) (u : Value), w.ownsRow B 25 3 (.slice (some ⟨g, 0, none⟩) N cap) n xs → (w.setCell ⟨g, q, none⟩ u).ownsRow B 25 3 (.slice (some ⟨g, 0, none⟩) N cap) n (xs.set q u) := by
    intro w xs q u h
    obtain ⟨h1, ⟨h0, _⟩ | ⟨g', cap', cur, hv, hg, hh, h2, h3, h4, h5⟩⟩ := h
    · cases h0
    · cases hv
      have e1 := setCell_eq_setRow w g q _ _ _ u hh
      refine ⟨by simpa using h1, Or.inr ⟨g, cap, _, rfl, hg, by rw [e1]; exact setRow_heap _ g _ _ _ _ hh, h2, h3, ?_, ?_⟩⟩
      · simp [h4]
      · rw [Array.toList_setIfInBounds, List.take_set, h5]
  exact one _ _ _ _ (one _ _ _ _ (one _ _ _ _ h))

theorem tfront_length (ts : List T3) : (tfront ts).length ≤ ts.length := by
  have h := tfold_length (tsort ts)
  rwa [tsort_length] at h
/-- The three answers as a family. -/
theorem fam_three {W : World} {B : Nat} {x y z : Value} {lx ly : List T3} (hx : W.ownsRow B 25 3 x lx.length (flat lx)) (hy : W.ownsRow B 25 3 y ly.length (flat ly)) (hz : W.ownsRow B 25 3 z lx.length (flat lx))
    {b1 b2 : Nat} (h1 : ∀ g, x.ownBlock = some g → g < b1) (h2 : ∀ g, y.ownBlock = some g → b1 ≤ g ∧ g < b2) (h3 : ∀ g, z.ownBlock = some g → b2 ≤ g) (hb : b1 ≤ b2) :
    Fam W B (fun k => if k = 0 then x else if k = 1 then y else z) (fun k => if k = 1 then ly else lx) := by
  refine ⟨fun k hk => ?_, fun j k hj hk hne g hg hg' => ?_⟩
  · match k, hk with
    | 0, _ => exact hx
    | 1, _ => exact hy
    | 2, _ => exact hz
  · match j, k, hj, hk with
    | 0, 0, _, _ => exact hne rfl
    | 1, 1, _, _ => exact hne rfl
    | 2, 2, _, _ => exact hne rfl
    | 0, 1, _, _ => have := h1 g hg; have := h2 g hg'; omega
    | 1, 0, _, _ => have := h2 g hg; have := h1 g hg'; omega
    | 0, 2, _, _ => have := h1 g hg; have := h3 g hg'; omega
    | 2, 0, _, _ => have := h3 g hg; have := h1 g hg'; omega
    | 1, 2, _, _ => have := h2 g hg; have := h3 g hg'; omega
    | 2, 1, _, _ => have := h3 g hg; have := h2 g hg'; omega
theorem times_same (va vb : Value) (ta : List T3) (w : World) (ha : Lst w va ta) (hb : Lst w vb ta) (hl : ta.length ≤ maxLen) :
    Calls Tryz.prog 10 #[va, vb] w fun e w' => e = .returned (.bool true) ∧ Gr w w' := by
  have h := times_any va vb ta ta w ha hb hl
  rwa [decide_eq_true rfl] at h
theorem tnl_all (ts : List T3) : tnl ts ts.length = ts.map tn := by simp [tnl]
theorem fin_keep {W W1 : World} {b : Nat} {x y z : Value} (h : (W.cell? ⟨b, 0, none⟩ = some x ∧ W.cell? ⟨b, 1, none⟩ = some y ∧ W.cell? ⟨b, 2, none⟩ = some z) ∧ b < W.heap.size) (hb : Below W.heap.size W W1) : (W1.cell? ⟨b, 0, none⟩ = some x ∧ W1.cell? ⟨b, 1, none⟩ = some y ∧ W1.cell? ⟨b, 2, none⟩ = some z) ∧ b < W1.heap.size := by
  obtain ⟨⟨h1, h2, h3⟩, h4⟩ := h
  exact ⟨⟨(hb.cell (p := ⟨b, 0, none⟩) h4).trans h1, (hb.cell (p := ⟨b, 1, none⟩) h4).trans h2, (hb.cell (p := ⟨b, 2, none⟩) h4).trans h3⟩, Nat.lt_of_lt_of_le h4 hb.size⟩
/-- As the loop writes the list over. -/
structure Wri (W0 : World) (B B3 g cap : Nat) (a b c : Int) (ts : List T3) (i : Nat) (W : World) : Prop where
  row : W.ownsRow B 25 3 (.slice (some ⟨g, 0, none⟩) (ts.length + 1) cap) (ts.length + 1) (flat (tnl ts i ++ [m77]))
  blk : W.heap[B3]? = some (.cells #[.int .u64 a, .int .u64 b, .int .u64 c] 25 (0, 0))
  bel : Below W0.heap.size W0 W
theorem tnl_set {ts : List T3} {i : Nat} {t : T3} (h : ts[i]? = some t) : (tnl ts i ++ [m77]).set i (tn t) = tnl ts (i + 1) ++ [m77] := by
  have hl := (List.getElem?_eq_some_iff.1 h).1
  rw [List.set_append_left _ _ (by rw [tnl_len]; exact hl), tnl_step h]
theorem wri_step {W0 W : World} {B B3 g cap : Nat} {a b c : Int} {ts : List T3} {i : Nat} {t : T3} (h : Wri W0 B B3 g cap a b c ts i W) (ht : ts[i]? = some t) (hB : B3 < B) (hg : B ≤ g) (h0 : W0.heap.size ≤ g) :
    Wri W0 B B3 g cap a b c ts (i + 1) (((W.setCell ⟨g, i * 3, none⟩ (.int .u64 t.2.2)).setCell ⟨g, i * 3 + 1, none⟩ (.int .u64 (IntKind.u64.wrap (t.1 + 1)))).setCell ⟨g, i * 3 + 2, none⟩ (.int .u64 t.2.1)) := by
  have hr := owns_time (i := i) (tn t) h.row
  rw [tnl_set ht] at hr
  have hne : g ≠ B3 := by omega
  refine ⟨hr, ?_, ((h.bel.setCell (p := ⟨g, i * 3, none⟩) h0 _).setCell (p := ⟨g, i * 3 + 1, none⟩) h0 _).setCell (p := ⟨g, i * 3 + 2, none⟩) h0 _⟩
  have hb := (((Below.refl B W).setCell (p := ⟨g, i * 3, none⟩) hg (.int .u64 t.2.2)).setCell (p := ⟨g, i * 3 + 1, none⟩) hg (.int .u64 (IntKind.u64.wrap (t.1 + 1)))).setCell (p := ⟨g, i * 3 + 2, none⟩) hg (.int .u64 t.2.1)
  exact (hb.block B3 hB).trans h.blk
theorem wri_drew {W0 W : World} {B B3 g cap : Nat} {a b c : Int} {ts : List T3} {i : Nat} (h : Wri W0 B B3 g cap a b c ts i W) : Wri W0 B B3 g cap a b c ts i W.drew := ⟨owns_below h.row (Gr.refl W).drew.below, h.blk, ⟨h.bel.os, h.bel.tape, h.bel.output, h.bel.size, h.bel.block⟩⟩
set_option maxHeartbeats 4000000 in
set_option maxRecDepth 100000 in
theorem fronts_at (hAp : ∀ (bl B : Nat) (V : Nat → Value) (C : Nat → List T3) (w : World), (∀ k, k < 3 → w.cell? ⟨bl, k, none⟩ = some (V k)) → bl < w.heap.size → (∀ k, k < 3 → (V k).ownBlock ≠ some bl) → Fam w B V C → (∀ k, k < 3 → ((C k).length + 8) * 24 ≤ 140737488355328) → B ≤ w.heap.size → Calls Tryz.prog 13 #[.slice (some ⟨bl, 0, none⟩) 3 3] w fun e w' => e = .returned (.bool true) ∧ Below B w w')
    (v : Value) (ts : List T3) (a b c : Int) (w : World) (he : Env w) (hv : Lst w v ts) (hbig : ts.length * 24 ≤ 140737488351232) :
    Calls Tryz.prog 3 #[v, .agg #[.int .u64 a, .int .u64 b, .int .u64 c]] w fun e w' => e = .returned (.bool true) ∧ Below w.heap.size w w' := by
  have hmx : Tryz.prog.follows .mixedOrders = true := by kernel_rfl
  obtain ⟨B3, hB3⟩ : ∃ B, B = w.heap.size := ⟨_, rfl⟩
  obtain ⟨W1, hW1⟩ : ∃ W, W = w.alloc (.cells #[.int .u64 a, .int .u64 b, .int .u64 c] 25) := ⟨_, rfl⟩
  have g1 : Gr w W1 := by rw [hW1]; exact (Gr.refl _).alloc _
  have hb3 : W1.heap[B3]? = some (.cells #[.int .u64 a, .int .u64 b, .int .u64 c] 25 (0, 0)) := by rw [hW1, hB3]; exact heap_new _ _
  have htk := taken_any W1 (he.gr g1)
  have HB3 : Hid (w.heap.size ≤ B3) := by rw [hB3]; exact Nat.le_refl _
  have hfl : (tfront ts).length ≤ ts.length := tfront_length ts
  go_enter Tryz.func3, Tryz.ntmps3
  go_wp2_with fail
  rw [← hW1, ← hB3]
  clear hW1 hB3
  refine htk.mono ?_
  rintro e w2 ⟨rfl, hb2⟩
  have Bx2 := hideQ ((hb2.block B3 (Array.getElem?_eq_some_iff.1 hb3).1).trans hb3)
  have L2 := hideQ (hv.below (g1.below.trans (hb2.mono g1.size)))
  have W2 : Hid (Below w.heap.size w w2) := g1.below.trans (hb2.mono g1.size)
  have hle := lent_any v ts w2 L2.out (by omega)
  clear htk hb2 hb3 g1 he hv
  go_wp2_with fail
  refine hle.mono ?_
  rintro e w3 ⟨g, cap, rfl, ho3, hb3⟩
  obtain ⟨l3, g3, c3, _, _, _⟩ := lst_take ho3 rfl
  have O3 := hideQ ho3
  have Bx3 := hideQ ((hb3.block B3 (Array.getElem?_eq_some_iff.1 Bx2.out).1).trans Bx2.out)
  have L3 := hideQ (L2.out.below hb3)
  have W3 : Hid (Below w.heap.size w w3) := W2.out.trans (hb3.mono W2.out.size)
  have HG : Hid (w2.heap.size ≤ g ∧ g < w3.heap.size ∧ B3 < w2.heap.size) := ⟨(ho3.lt g rfl).1, (ho3.lt g rfl).2, (Array.getElem?_eq_some_iff.1 Bx2.out).1⟩
  have OL3 := hideQ l3
  have hrf := refFront_any v ts w3 L3.out (by omega)
  clear hle ho3 hb3 l3 g3 c3
  go_wp2_with fail
  refine hrf.mono ?_
  rintro e w4 ⟨v4, rfl, o4, hb4⟩
  have F4 := hideQ (owns_lst o4)
  have Bl4 := hideQ hb4
  have hfx := Front_any (.slice (some ⟨g, 0, none⟩) ts.length cap) ts w4 (OL3.out.below hb4) (by omega)
  clear hrf o4 hb4
  go_wp2_with fail
  refine hfx.mono ?_
  rintro e w5 ⟨v5, rfl, o5, hb5⟩
  have X5 := hideQ o5
  have Bl5 := hideQ hb5
  have B35 : Hid (Below w3.heap.size w3 w5) := Bl4.out.trans (hb5.mono Bl4.out.size)
  have Bx5 := hideQ ((B35.out.block B3 (Array.getElem?_eq_some_iff.1 Bx3.out).1).trans Bx3.out)
  obtain ⟨t0, t1, t2⟩ : w5.cell? ⟨B3, 0, none⟩ = some (.int .u64 a) ∧ w5.cell? ⟨B3, 1, none⟩ = some (.int .u64 b) ∧ w5.cell? ⟨B3, 2, none⟩ = some (.int .u64 c) := by simp [World.cell?, Bx5.out]
  have tl : B3 < w5.heap.size := (Array.getElem?_eq_some_iff.1 Bx5.out).1
  obtain ⟨W6, hW6⟩ : ∃ W, W = w5.alloc (.cells #[.int .u64 a, .int .u64 b, .int .u64 c, .int .u64 3, .int .u64 0, .int .u64 0, .int .u64 0, .int .u64 3, .int .u64 0] 25) := ⟨_, rfl⟩
  have g6 : Gr w5 W6 := by rw [hW6]; exact (Gr.refl _).alloc _
  have l6 : Lst W6 (.slice (some ⟨w5.heap.size, 0, none⟩) 3 3) [(a, b, c), (3, 0, 0), (0, 3, 0)] := lst_block (by rw [hW6]; exact heap_new _ _) rfl rfl
  have hfy := Front_any (.slice (some ⟨w5.heap.size, 0, none⟩) 3 3) [(a, b, c), (3, 0, 0), (0, 3, 0)] W6 l6 (by simp)
  clear hfx o5 hb5
  go_wp2_with fail
  rw [← hW6]
  clear hW6
  refine hfy.mono ?_
  rintro e w6 ⟨v6, rfl, o6, hb6⟩
  have Y6 := hideQ o6
  have Bl6 : Hid (Below w5.heap.size w5 w6) := g6.below.trans (hb6.mono g6.size)
  have HZ6 : Hid (w5.heap.size ≤ W6.heap.size) := g6.size
  have B36 : Hid (Below w3.heap.size w3 w6) := B35.out.trans (Bl6.out.mono B35.out.size)
  have hfz := Front_any (.slice (some ⟨g, 0, none⟩) ts.length cap) ts w6 (OL3.out.below B36.out) (by omega)
  clear hfy o6 hb6 g6 l6 t0 t1 t2 tl
  go_wp2_with fail
  refine hfz.mono ?_
  rintro e w7 ⟨v7, rfl, o7, hb7⟩
  have Z7 := hideQ o7
  have Bl7 := hideQ hb7
  have B37 : Hid (Below w3.heap.size w3 w7) := B36.out.trans (hb7.mono B36.out.size)
  have Bx7 := hideQ ((B37.out.block B3 (Array.getElem?_eq_some_iff.1 Bx3.out).1).trans Bx3.out)
  obtain ⟨t0, t1, t2⟩ : w7.cell? ⟨B3, 0, none⟩ = some (.int .u64 a) ∧ w7.cell? ⟨B3, 1, none⟩ = some (.int .u64 b) ∧ w7.cell? ⟨B3, 2, none⟩ = some (.int .u64 c) := by simp [World.cell?, Bx7.out]
  have tl : B3 < w7.heap.size := (Array.getElem?_eq_some_iff.1 Bx7.out).1
  have hop := Open_any (.slice (some ⟨g, 0, none⟩) ts.length cap) ts a b c w7 (OL3.out.below B37.out) (by unfold maxLen; omega)
  rw [topen_any] at hop
  obtain ⟨r, hr⟩ : ∃ r, r = ts.any fun s => le3 s (a, b, c) := ⟨_, rfl⟩
  rw [← hr] at hop
  have HR := hideQ hr
  clear hfz o7 hb7 hr
  go_wp2_with fail
  refine hop.mono ?_
  rintro e w8 ⟨rfl, hb8⟩
  have Bl8 : Hid (Below w7.heap.size w7 w8) := hb8
  have F8 := hideQ (F4.out.below (((Bl5.out.trans (Bl6.out.mono Bl5.out.size)).trans (Bl7.out.mono (Nat.le_trans Bl5.out.size Bl6.out.size))).trans (hb8.mono (Nat.le_trans Bl5.out.size (Nat.le_trans Bl6.out.size Bl7.out.size)))))
  have X8 := hideQ (owns_below X5.out ((Bl6.out.trans (Bl7.out.mono Bl6.out.size)).trans (hb8.mono (Nat.le_trans Bl6.out.size Bl7.out.size))))
  have Y8 := hideQ (owns_below Y6.out (Bl7.out.trans (hb8.mono Bl7.out.size)))
  have Z8 := hideQ (owns_below Z7.out hb8)
  have B38 : Hid (Below w3.heap.size w3 w8) := B37.out.trans (hb8.mono B37.out.size)
  have hml : (tfront ts).length ≤ maxLen := by unfold maxLen; omega
  have ht1 := times_any v5 v4 (tfront ts) (tfront ts) w8 (owns_lst X8.out) F8.out hml
  rw [decide_eq_true rfl] at ht1
  clear hop hb8 t0 t1 t2 tl
  go_wp2_with fail
  refine ht1.mono ?_
  rintro e w9 ⟨rfl, hg9⟩
  have ht2 := times_any v7 v4 (tfront ts) (tfront ts) w9 ((owns_lst Z8.out).below hg9.below) (F8.out.below hg9.below) hml
  rw [decide_eq_true rfl] at ht2
  clear ht1
  go_wp2_with fail
  refine ht2.mono ?_
  rintro e w10 ⟨rfl, hg10⟩
  have G10 := hideQ (hg9.trans hg10)
  have Bx10 := hideQ (((B38.out.trans (G10.out.below.mono B38.out.size)).block B3 (Array.getElem?_eq_some_iff.1 Bx3.out).1).trans Bx3.out)
  obtain ⟨t0, t1, t2⟩ : w10.cell? ⟨B3, 0, none⟩ = some (.int .u64 a) ∧ w10.cell? ⟨B3, 1, none⟩ = some (.int .u64 b) ∧ w10.cell? ⟨B3, 2, none⟩ = some (.int .u64 c) := by simp [World.cell?, Bx10.out]
  have tl : B3 < w10.heap.size := (Array.getElem?_eq_some_iff.1 Bx10.out).1
  obtain ⟨W11, hW11⟩ : ∃ W, W = w10.alloc (.cells #[.int .u64 a, .int .u64 b, .int .u64 c, .int .u64 3, .int .u64 0, .int .u64 0, .int .u64 0, .int .u64 3, .int .u64 0] 25) := ⟨_, rfl⟩
  have g11 : Gr w10 W11 := by rw [hW11]; exact (Gr.refl _).alloc _
  have l11 : Lst W11 (.slice (some ⟨w10.heap.size, 0, none⟩) 3 3) [(a, b, c), (3, 0, 0), (0, 3, 0)] := lst_block (by rw [hW11]; exact heap_new _ _) rfl rfl
  have hrq := refFront_any (.slice (some ⟨w10.heap.size, 0, none⟩) 3 3) [(a, b, c), (3, 0, 0), (0, 3, 0)] W11 l11 (by simp)
  clear ht2 hg9 hg10
  go_wp2_with fail
  rw [← hW11]
  clear hW11
  refine hrq.mono ?_
  rintro e w12 ⟨v12, rfl, o12, hb12⟩
  have B812 : Hid (Below w8.heap.size w8 w12) := (G10.out.below.trans (g11.below.mono G10.out.size)).trans (hb12.mono (Nat.le_trans G10.out.size g11.size))
  have hyl : (tfront [(a, b, c), (3, 0, 0), (0, 3, 0)]).length ≤ 3 := tfront_length _
  have ht3 := times_any v6 v12 _ _ w12 ((owns_lst Y8.out).below B812.out) (owns_lst o12) (by unfold maxLen; omega)
  rw [decide_eq_true rfl] at ht3
  clear hrq o12 hb12 g11 l11 t0 t1 t2 tl
  go_wp2_with fail
  refine ht3.mono ?_
  rintro e w13 ⟨rfl, hg13⟩
  have B813 : Hid (Below w8.heap.size w8 w13) := B812.out.trans (hg13.below.mono B812.out.size)
  have B313 : Hid (Below w3.heap.size w3 w13) := B38.out.trans (B813.out.mono B38.out.size)
  have Bx13 := hideQ ((B313.out.block B3 (Array.getElem?_eq_some_iff.1 Bx3.out).1).trans Bx3.out)
  obtain ⟨t0, t1, t2⟩ : w13.cell? ⟨B3, 0, none⟩ = some (.int .u64 a) ∧ w13.cell? ⟨B3, 1, none⟩ = some (.int .u64 b) ∧ w13.cell? ⟨B3, 2, none⟩ = some (.int .u64 c) := by simp [World.cell?, Bx13.out]
  have tl : B3 < w13.heap.size := (Array.getElem?_eq_some_iff.1 Bx13.out).1
  have hro := refOpen_any v ts a b c w13 (L3.out.below B313.out) (by unfold maxLen; omega)
  rw [← HR.out] at hro
  have hrr : (r != r) = false := by simp
  clear ht3 hg13
  go_wp2_with fail
  refine hro.mono ?_
  rintro e w14 ⟨rfl, hg14⟩
  have B814 : Hid (Below w8.heap.size w8 w14) := B813.out.trans (hg14.below.mono B813.out.size)
  have B314 : Hid (Below w3.heap.size w3 w14) := B38.out.trans (B814.out.mono B38.out.size)
  have hke := kept_any v ts w2.heap.size g cap w14 (L3.out.below B314.out) (owns_below O3.out B314.out) (by omega)
  clear hro hg14 t0 t1 t2 tl
  go_wp2_with fail
  refine hke.mono ?_
  rintro e w15 ⟨rfl, hg15⟩
  have B815 : Hid (Below w8.heap.size w8 w15) := B814.out.trans (hg15.below.mono B814.out.size)
  have B315 : Hid (Below w3.heap.size w3 w15) := B38.out.trans (B815.out.mono B38.out.size)
  obtain ⟨p5, c5, rfl⟩ := (owns_lst X8.out).form
  obtain ⟨p6, c6, rfl⟩ := (owns_lst Y8.out).form
  obtain ⟨p7, c7, rfl⟩ := (owns_lst Z8.out).form
  obtain ⟨bl, hbl⟩ : ∃ b, b = w15.heap.size := ⟨_, rfl⟩
  obtain ⟨W16, hW16⟩ : ∃ W, W = w15.alloc (.cells #[(.slice p5 (tfront ts).length c5), (.slice p6 (tfront [(a, b, c), (3, 0, 0), (0, 3, 0)]).length c6), (.slice p7 (tfront ts).length c7)] 22) := ⟨_, rfl⟩
  have g16 : Gr w15 W16 := by rw [hW16]; exact (Gr.refl _).alloc _
  have hblk : W16.heap[bl]? = some (.cells #[(.slice p5 (tfront ts).length c5), (.slice p6 (tfront [(a, b, c), (3, 0, 0), (0, 3, 0)]).length c6), (.slice p7 (tfront ts).length c7)] 22 (0, 0)) := by rw [hW16, hbl]; exact heap_new _ _
  have B816 : Hid (Below w8.heap.size w8 W16) := B815.out.trans (g16.below.mono B815.out.size)
  have B316 : Hid (Below w3.heap.size w3 W16) := B38.out.trans (B816.out.mono B38.out.size)
  have z45 := Bl5.out.size
  have z56 := Bl6.out.size
  have z67 := Bl7.out.size
  have z78 := Bl8.out.size
  have z815 := B815.out.size
  have z34 := Bl4.out.size
  have zz6 := HZ6.out
  have rx : ∀ q, (Value.ownBlock (.slice p5 (tfront ts).length c5)) = some q → q < w5.heap.size := fun q hq => (X5.out.lt q hq).2
  have ry : ∀ q, (Value.ownBlock (.slice p6 (tfront [(a, b, c), (3, 0, 0), (0, 3, 0)]).length c6)) = some q → w5.heap.size ≤ q ∧ q < w6.heap.size := fun q hq => ⟨Nat.le_trans zz6 (Y6.out.lt q hq).1, (Y6.out.lt q hq).2⟩
  have rz : ∀ q, (Value.ownBlock (.slice p7 (tfront ts).length c7)) = some q → w6.heap.size ≤ q ∧ q < w7.heap.size := fun q hq => Z7.out.lt q hq
  have FM := fam_three (W := W16) (B := w4.heap.size) (owns_below X8.out B816.out) (owns_base (owns_below Y8.out B816.out) (by omega)) (owns_base (owns_below Z8.out B816.out) (by omega)) rx ry (fun q hq => (rz q hq).1) z56
  have hap := hAp bl w4.heap.size (fun k => if k = 0 then (.slice p5 (tfront ts).length c5) else if k = 1 then (.slice p6 (tfront [(a, b, c), (3, 0, 0), (0, 3, 0)]).length c6) else (.slice p7 (tfront ts).length c7)) (fun k => if k = 1 then tfront [(a, b, c), (3, 0, 0), (0, 3, 0)] else tfront ts) W16 (fun k hk => by
    match k, hk with
    | 0, _ => simp [World.cell?, hblk]
    | 1, _ => simp [World.cell?, hblk]
    | 2, _ => simp [World.cell?, hblk]) (Array.getElem?_eq_some_iff.1 hblk).1 (fun k hk e => by
    match k, hk with
    | 0, _ => have := rx bl e; omega
    | 1, _ => have := ry bl e; omega
    | 2, _ => have := rz bl e; omega) FM (fun k hk => by
    match k, hk with
    | 0, _ => show ((tfront ts).length + 8) * 24 ≤ _; omega
    | 1, _ => show ((tfront [(a, b, c), (3, 0, 0), (0, 3, 0)]).length + 8) * 24 ≤ _; omega
    | 2, _ => show ((tfront ts).length + 8) * 24 ≤ _; omega) (by have := g16.size; omega)
  have Z4 := hideQ (And.intro z45 (And.intro z56 (And.intro z67 (And.intro z78 z815))))
  have H34 : Hid (w3.heap.size ≤ w4.heap.size) := z34
  clear hke hg15 FM rx ry rz hblk z45 z56 z67 z78 z815 z34 zz6 g16
  go_wp2_with fail
  rw [← hbl, ← hW16]
  clear hW16 hbl
  refine hap.mono ?_
  rintro e w17 ⟨rfl, hb17⟩
  have B317 : Hid (Below w3.heap.size w3 w17) := B316.out.trans (hb17.mono H34.out)
  have hke2 := kept_any v ts w2.heap.size g cap w17 (L3.out.below B317.out) (owns_below O3.out B317.out) (by omega)
  clear hap hb17
  go_wp2_with fail
  refine hke2.mono ?_
  rintro e w18 ⟨rfl, hg18⟩
  have B318 : Hid (Below w3.heap.size w3 w18) := B317.out.trans (hg18.below.mono B317.out.size)
  have WR : Wri w w2.heap.size B3 g cap a b c ts 0 w18 := ⟨by rw [tnl_zero]; exact owns_below O3.out B318.out, (B318.out.block B3 (Array.getElem?_eq_some_iff.1 Bx3.out).1).trans Bx3.out, W3.out.trans (B318.out.mono W3.out.size)⟩
  have h0g : w.heap.size ≤ g := Nat.le_trans W2.out.size HG.out.1
  have hBB := HG.out.2.2
  have hgB := HG.out.1
  clear hke2 hg18 L2 W2 O3 Bx2 L3 W3 HG OL3 F4 Bl4 X5 Bl5 B35 Bx5 Y6 Bl6 HZ6 B36 Z7 Bl7 B37 Bx7 HR Bl8 F8 X8 Y8 Z8 B38 G10 Bx10 B812 B813 B313 Bx13 B814 B314 B815 B315 B816 B316 Z4 H34 B317 B318 HB3 Bx3
  go_wp2_with fail
  go_loopw [11] (fun s11 wr => ∃ i : Nat, i ≤ ts.length ∧ s11 = .int .i64 i ∧ Wri w w2.heap.size B3 g cap a b c ts i wr) (fun s11 _ => ts.length - (RowKit.intOf s11).toNat)
  case atStart => exact ⟨0, Nat.zero_le _, rfl, WR⟩
  case round =>
    clear WR
    obtain ⟨i, hi, rfl, hw⟩ := hrel
    by_cases hlt : i < ts.length
    · have hltz : (i : Int) < (ts.length : Int) := by omega
      obtain ⟨t, ht⟩ : ∃ t, ts[i]? = some t := ⟨ts[i], by simp⟩
      have hat : (tnl ts i ++ [m77])[i]? = some t := by rw [List.getElem?_append_left (by rw [tnl_len]; exact hlt)]; exact tnl_at ht
      have q1 : wr.cell? ⟨g, i * 3, none⟩ = some (.int .u64 t.1) := by rw [hw.row.cellAt _ (by omega)]; exact flat_get _ i 0 t hat (by omega)
      have q2 : wr.cell? ⟨g, i * 3 + 1, none⟩ = some (.int .u64 t.2.1) := by rw [hw.row.cellAt _ (by omega)]; exact flat_get _ i 1 t hat (by omega)
      have q3 : wr.cell? ⟨g, i * 3 + 2, none⟩ = some (.int .u64 t.2.2) := by rw [hw.row.cellAt _ (by omega)]; exact flat_get _ i 2 t hat (by omega)
      have f1 := hw.row.frozenAt (i * 3)
      have f2 := hw.row.frozenAt (i * 3 + 1)
      have f3 := hw.row.frozenAt (i * 3 + 2)
      have HW := hideQ hw
      have HT := hideQ ht
      clear hw hat ht
      go_wp2_with fail
      go_region
      go_wp2
      exact ⟨⟨i + 1, hlt, by go_num, wri_drew (wri_step HW.out HT.out hBB hgB h0g)⟩, meas_one _ i hlt⟩
    · have hltz : ¬ (i : Int) < (ts.length : Int) := by omega
      have hie : i = ts.length := by omega
      subst hie
      obtain ⟨us, hus⟩ : ∃ us, us = ts.map tn := ⟨_, rfl⟩
      have hul : us.length = ts.length := by rw [hus, List.length_map]
      have hrow := hw.row
      rw [tnl_all, ← hus] at hrow
      have hL := (lst_take hrow hul).1
      have HBl := hideQ hw.bel
      have HBk := hideQ hw.blk
      have hsm : us.length * 24 ≤ 140737488355328 := by omega
      have hfu : (tfront us).length ≤ us.length := tfront_length us
      have hmf : (tfront us).length ≤ maxLen := by unfold maxLen; omega
      have hmu : us.length ≤ maxLen := by unfold maxLen; omega
      have HUL := hideQ hul
      clear hw hrow hus hul hfl hbig hfu hml hyl
      go_wp2_with (at_builtin; refine wpList_append_lst rfl _ _ rfl wr.heap.size (.slice (some ⟨wr.heap.size, 0, none⟩) 0 0) 0 [] rfl ⟨rfl, Or.inr ⟨wr.heap.size, 0, #[], rfl, Nat.le_refl _, heap_new _ _, Nat.le_refl _, by simp, rfl, rfl⟩⟩ _ us rfl (hL.below ((Gr.refl _).alloc _).below) (by omega) (by simp) ?_)
      intro vo w19 ho hb19
      have ho : w19.ownsRow wr.heap.size 25 3 vo us.length (flat us) := by simpa using ho
      have b19 : Below wr.heap.size wr w19 := ((Gr.refl wr).alloc _).below.trans hb19
      have gd := (Gr.refl w19).drew
      have Lo : Lst w19.drew (.slice (some ⟨g, 0, none⟩) ts.length cap) us := (hL.below b19).below gd.below
      have Lt : Lst w19.drew vo us := (owns_lst ho).below gd.below
      have Bk : w19.drew.heap[B3]? = some (.cells #[.int .u64 a, .int .u64 b, .int .u64 c] 25 (0, 0)) := (b19.block B3 (Array.getElem?_eq_some_iff.1 HBk.out).1).trans HBk.out
      have S0 : ((w19.drew.cell? ⟨B3, 0, none⟩ = some (.int .u64 a) ∧ w19.drew.cell? ⟨B3, 1, none⟩ = some (.int .u64 b) ∧ w19.drew.cell? ⟨B3, 2, none⟩ = some (.int .u64 c)) ∧ B3 < w19.drew.heap.size) ∧ Below w19.drew.heap.size w19.drew w19.drew := ⟨⟨by simp [World.cell?, Bk], (Array.getElem?_eq_some_iff.1 Bk).1⟩, Below.refl _ _⟩
      have BW : Hid (Below w.heap.size w w19.drew) := (HBl.out.trans (b19.mono HBl.out.size)).trans (gd.below.mono (HBl.out.trans (b19.mono HBl.out.size)).size)
      have hF : ∀ W : World, Below w19.drew.heap.size w19.drew W → Calls Tryz.prog 8 #[.slice (some ⟨g, 0, none⟩) ts.length cap] W fun e w' => ∃ v', e = .returned v' ∧ w'.ownsRow W.heap.size 25 3 v' (tfront us).length (flat (tfront us)) ∧ Below W.heap.size W w' := fun W hb => Front_any _ us W (Lo.below hb) hsm
      have hR : ∀ W : World, Below w19.drew.heap.size w19.drew W → Calls Tryz.prog 7 #[vo] W fun e w' => ∃ v', e = .returned v' ∧ w'.ownsRow W.heap.size 25 3 v' (tfront us).length (flat (tfront us)) ∧ Below W.heap.size W w' := fun W hb => refFront_any _ us W (Lt.below hb) hsm
      obtain ⟨r2, hr2⟩ : ∃ r, r = us.any fun s => le3 s (a, b, c) := ⟨_, rfl⟩
      have hO : ∀ W : World, Below w19.drew.heap.size w19.drew W → Calls Tryz.prog 9 #[.slice (some ⟨g, 0, none⟩) ts.length cap, .agg #[.int .u64 a, .int .u64 b, .int .u64 c]] W fun e w' => e = .returned (.bool r2) ∧ Below W.heap.size W w' := fun W hb => by
        have h := Open_any _ us a b c W (Lo.below hb) hmu
        rwa [topen_any, ← hr2] at h
      have hQ : ∀ W : World, Below w19.drew.heap.size w19.drew W → Calls Tryz.prog 11 #[vo, .agg #[.int .u64 a, .int .u64 b, .int .u64 c]] W fun e w' => e = .returned (.bool r2) ∧ Gr W w' := fun W hb => by
        have h := refOpen_any _ us a b c W (Lt.below hb) hmu
        rwa [← hr2] at h
      have hrr2 : (r2 == r2) = true := by simp
      have keepB : ∀ W W' : World, (((W.cell? ⟨B3, 0, none⟩ = some (.int .u64 a) ∧ W.cell? ⟨B3, 1, none⟩ = some (.int .u64 b) ∧ W.cell? ⟨B3, 2, none⟩ = some (.int .u64 c)) ∧ B3 < W.heap.size) ∧ Below w19.drew.heap.size w19.drew W) → Below W.heap.size W W' → (((W'.cell? ⟨B3, 0, none⟩ = some (.int .u64 a) ∧ W'.cell? ⟨B3, 1, none⟩ = some (.int .u64 b) ∧ W'.cell? ⟨B3, 2, none⟩ = some (.int .u64 c)) ∧ B3 < W'.heap.size) ∧ Below w19.drew.heap.size w19.drew W') := fun W W' h hb => ⟨fin_keep h.1 hb, h.2.trans (hb.mono h.2.size)⟩
      have fin : ∀ W : World, (((W.cell? ⟨B3, 0, none⟩ = some (.int .u64 a) ∧ W.cell? ⟨B3, 1, none⟩ = some (.int .u64 b) ∧ W.cell? ⟨B3, 2, none⟩ = some (.int .u64 c)) ∧ B3 < W.heap.size) ∧ Below w19.drew.heap.size w19.drew W) → Below w.heap.size w W := fun W h => BW.out.trans (h.2.mono BW.out.size)
      have hT : ∀ (va vb : Value) (W : World), Lst W va (tfront us) → Lst W vb (tfront us) → Calls Tryz.prog 10 #[va, vb] W fun e w' => e = .returned (.bool true) ∧ Gr W w' := fun va vb W ha hb => times_same va vb _ W ha hb hmf
      clear hL hb19 b19 ho Bk HBk HBl HUL Lo Lt hr2 hsm hmf hmu hAp hgB h0g hBB
      go_wp2_with fail
      go_region_held3 (fun w' => (((w'.cell? ⟨B3, 0, none⟩ = some (.int .u64 a) ∧ w'.cell? ⟨B3, 1, none⟩ = some (.int .u64 b) ∧ w'.cell? ⟨B3, 2, none⟩ = some (.int .u64 c)) ∧ B3 < w'.heap.size) ∧ Below w19.drew.heap.size w19.drew w'))
        (first | exact S0 | exact keepB _ _ (by assumption) (by assumption) | exact keepB _ _ (by assumption) (Gr.below (by assumption)) | assumption)
        (first
          | (go_at_call 8; refine (hF _ (And.right (by assumption))).mono ?_; rintro e w20 ⟨v20, rfl, o20, hb20⟩)
          | (go_at_call 7; refine (hR _ (And.right (by assumption))).mono ?_; rintro e w21 ⟨v21, rfl, o21, hb21⟩)
          | (go_at_call 10; refine (hT _ _ _ ((owns_lst o20).below hb21) (owns_lst o21)).mono ?_; rintro e w22 ⟨rfl, hg22⟩)
          | (go_at_call 10; refine (hT _ _ _ (owns_lst o20) ((owns_lst o21).below hb20)).mono ?_; rintro e w22 ⟨rfl, hg22⟩)
          | (go_at_call 9; refine (hO _ (And.right (by assumption))).mono ?_; rintro e w23 ⟨rfl, hb23⟩)
          | (go_at_call 11; refine (hQ _ (And.right (by assumption))).mono ?_; rintro e w24 ⟨rfl, hg24⟩))
      have BF := fin _ (by assumption)
      clear hF hR hO hQ keepB fin hT S0
      go_wp2
      go_ret
      exact ⟨rfl, BF⟩
end Go.Proofs.YtmhbpelbkeclpaaGreatDoor
