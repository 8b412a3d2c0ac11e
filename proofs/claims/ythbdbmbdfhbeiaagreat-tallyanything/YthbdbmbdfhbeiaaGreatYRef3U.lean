import Derived.Test.YthbdbmbdfhbeiaaGreatYRef2U
namespace Go.Proofs.YthbdbmbdfhbeiaaGreat
open Go.RowKit Go.Sort Go.Maps
attribute [local go_sem ↓] Go.wp_at_zero Go.wp_at_succ

theorem flatU_one (l : List Rk) : ∀ u ∈ flatU l, u.oneCell' = true := by
  induction l with
  | nil => intro u hu; cases hu
  | cons a l ih =>
    intro u hu
    rcases List.mem_cons.1 hu with rfl | hu
    · rfl
    · rcases List.mem_cons.1 hu with rfl | hu
      · rfl
      · exact ih u hu
theorem flatU_at {l : List Rk} {w : World} {b off : Nat} (h : ∀ (j : Nat) (x : Rk), l[j]? = some x → w.cell? ⟨b, off + j * 2, none⟩ = some (.string x.1.1) ∧ w.cell? ⟨b, off + j * 2 + 1, none⟩ = some (.int .i64 x.2)) (j : Nat) (u : Value) (hj : (flatU l)[j]? = some u) : w.cell? ⟨b, off + j, none⟩ = some u := by
  have hjl : j < l.length * 2 := by
    have := (List.getElem?_eq_some_iff.1 hj).1
    rwa [flatU_length] at this
  obtain ⟨x, hx⟩ : ∃ x, l[j / 2]? = some x := ⟨l[j / 2]'(by omega), by simp⟩
  obtain ⟨h1, h2⟩ := flatU_get l (j / 2) x hx
  obtain ⟨g1, g2⟩ := h (j / 2) x hx
  have h3 : j % 2 = 0 ∨ j % 2 = 1 := by omega
  rcases h3 with e | e
  · have e1 : j / 2 * 2 = j := by omega
    rw [e1] at h1 g1
    rw [h1] at hj
    cases hj
    exact g1
  · have e1 : j / 2 * 2 + 1 = j := by omega
    rw [e1] at h2
    rw [Nat.add_assoc, e1] at g2
    rw [h2] at hj
    cases hj
    exact g2
theorem owns_re {w : World} {b : Nat} {e : TypeId} {v : Value} {n m : Nat} {xs ys : List Value} (h : w.ownsRow b e 2 v n xs) (hxy : xs = ys) (hm : ys.length = m * 2) : w.ownsRow b e 2 v m ys := by
  subst hxy
  have h1 := h.1
  have h2 : n = m := by omega
  subst h2
  exact h
/-- 'append(own, y)' where own is of keys. -/
theorem wpApp1k {w : World} {ops : Array Oper} {rest : List Oper} {o : Oper} {a : Act} {Q : Exit → Act → World → Prop} (hgd : o.guard = none) (s x : Operand)
    (ho : o.op = .call { callee := .builtin .append, args := #[s, x], argTypes := #[30, 30] })
    (base : Nat) (v : Value) (n : Nat) (l : List Rk) (_hn : l.length = n) (hs : a.eval s = v) (hown : w.ownsRow base 49 2 v n (flatU l))
    (t : Rk) (hx : a.eval x = .slice (some ⟨w.heap.size, 0, none⟩) 1 1) (hbig : n ≤ 1000000) (hbase : base ≤ w.heap.size)
    (h : ∀ v' w', Hid (w'.ownsRow base 49 2 v' (n + 1) (flatU (l ++ [t])) ∧ Kp (fun k => v.ownBlock = some k) w w') → wpList Tryz.prog ops Q rest (a.put o.dst v') w') :
    wpList Tryz.prog ops Q (o :: rest) a (w.alloc (.cells #[.string t.1.1, .int .i64 t.2] 49)) := by
  obtain ⟨i0, hi, hz0, hz1, hz2⟩ := info_parts infoK
  refine wpList_append_own _ hgd s x _ ho base 49 i0 _ 2 24 Tryz.underlying30 hi hz0 hz1 hz2 rfl (by decide) v n (flatU l) hs (hown.alloc _) ⟨w.heap.size, 0, none⟩ 1 1 [.string t.1.1, .int .i64 t.2] hx rfl (World.news_of_block (heap_alloc_new _ _)) (by simp [Value.oneCell']) (by unfold maxLen; omega) (by omega) (by simp; omega) ?_
  intro v' w' h1 h2 _
  refine h v' w' ⟨?_, (Kp.of_gr ((Gr.refl w).alloc _)).trans (Kp.grownBy (S := fun k => v.ownBlock = some k) h2 (fun _ h => h)) (fun _ _ h => h)⟩
  rw [flatU_append]
  exact h1
/-- 'append(own, l...)'. -/
theorem wpAppLk {w : World} {ops : Array Oper} {rest : List Oper} {o : Oper} {a : Act} {Q : Exit → Act → World → Prop} (hgd : o.guard = none) (s x : Operand)
    (ho : o.op = .call { callee := .builtin .append, args := #[s, x], argTypes := #[30, 30] })
    (base : Nat) (v : Value) (n : Nat) (l : List Rk) (_hn : l.length = n) (hs : a.eval s = v) (hown : w.ownsRow base 49 2 v n (flatU l))
    (v1 : Value) (ts : List Rk) (hx : a.eval x = v1) (hv : Lk w v1 ts) (hbig : n + ts.length ≤ 1000000) (hbase : base ≤ w.heap.size)
    (h : ∀ v' w', Hid (w'.ownsRow base 49 2 v' (n + ts.length) (flatU (l ++ ts)) ∧ Kp (fun k => v.ownBlock = some k) w w') → wpList Tryz.prog ops Q rest (a.put o.dst v') w') : wpList Tryz.prog ops Q (o :: rest) a w := by
  obtain ⟨i0, hi, hz0, hz1, hz2⟩ := info_parts infoK
  rcases hv with ⟨rfl, rfl⟩ | ⟨b, off, c, rfl, _, hb, ht⟩
  · refine wpList_append_own_none hgd s x _ ho base 49 i0 2 Tryz.underlying30 hi v n (flatU l) hs hown hx ?_
    exact h v w ⟨by rw [List.append_nil]; exact hown, Kp.refl _ _⟩
  · refine wpList_append_own _ hgd s x _ ho base 49 i0 _ 2 24 Tryz.underlying30 hi hz0 hz1 hz2 rfl (by decide) v n (flatU l) hs hown ⟨b, off, none⟩ ts.length c (flatU ts) hx (flatU_length ts) (fun j u hj => by rw [addP]; exact flatU_at ht j u hj) (flatU_one ts) (by unfold maxLen; omega) (by omega) hbase ?_
    intro v' w' h1 h2 _
    exact h v' w' ⟨by rw [flatU_append]; exact h1, Kp.grownBy h2 (fun _ h => h)⟩
theorem Lk.cut {w : World} {b off n c k : Nat} {l : List Rk} (h : Lk w (.slice (some ⟨b, off, none⟩) n c) l) (hk : k ≤ l.length) : Lk w (.slice (some ⟨b, off, none⟩) k c) (l.take k) := by
  rcases h with ⟨_, h⟩ | ⟨b', off', c', hv, hc, hb, ht⟩
  · cases h
  · cases hv
    refine Or.inr ⟨b, off, c, by rw [List.length_take, Nat.min_eq_left hk], by rw [List.length_take]; omega, hb, fun j u hj => ht j u ?_⟩
    rw [List.getElem?_take] at hj
    split at hj
    · exact hj
    · cases hj
theorem Lk.tail {w : World} {b off n c k : Nat} {l : List Rk} (h : Lk w (.slice (some ⟨b, off, none⟩) n c) l) (c2 : Nat) (hc2 : l.length - k ≤ c2) : Lk w (.slice (some ⟨b, off + k * 2, none⟩) (l.length - k) c2) (l.drop k) := by
  rcases h with ⟨_, h⟩ | ⟨b', off', c', hv, hc, hb, ht⟩
  · cases h
  · cases hv
    refine Or.inr ⟨b, off + k * 2, c2, by rw [List.length_drop], by rw [List.length_drop]; exact hc2, hb, fun j u hj => ?_⟩
    rw [List.getElem?_drop] at hj
    have := ht (k + j) u hj
    rw [show off + k * 2 + j * 2 = off + (k + j) * 2 by omega]
    exact this
theorem Lk.none {w : World} {b off n c k : Nat} {l : List Rk} (h : Lk w (.slice (some ⟨b, off, none⟩) n c) l) (hk : l.length ≤ k) : Lk w (.slice (some ⟨b, off, none⟩) (l.length - k) 0) (l.drop k) := by
  rcases h with ⟨_, h⟩ | ⟨b', off', c', hv, hc, hb, ht⟩
  · cases h
  · cases hv
    refine Or.inr ⟨b, off, 0, by rw [List.length_drop], by rw [List.length_drop]; omega, hb, fun j u hj => ?_⟩
    rw [List.drop_of_length_le hk] at hj
    simp at hj

/-- One key ahead of another. -/
def ltk (kind : Int) (y x : Rk) : Bool := decide (cfk kind y.1 y.2 x.1 x.2 < 0)
def rix (kind : Int) (l : List Rk) (x : Rk) : Nat := l.findIdx fun y => !ltk kind y x
def rins (kind : Int) (l : List Rk) (x : Rk) : List Rk := l.take (rix kind l x) ++ x :: l.drop (rix kind l x)
/-- The keys that are in, told by looking for the place of each. -/
def rks (kind : Int) : List Rk → List Int → List Rk → List Rk
  | x :: N, c :: C, l => rks kind N C (if c = 0 then l else rins kind l x)
  | _, _, l => l
def rkeys (kind : Int) (N : List Rk) (C : List Int) (i : Nat) : List Rk := rks kind (N.take i) (C.take i) []
theorem rks_snoc (kind : Int) : ∀ (N : List Rk) (C : List Int) (l : List Rk) (x : Rk) (c : Int), N.length = C.length → rks kind (N ++ [x]) (C ++ [c]) l = if c = 0 then rks kind N C l else rins kind (rks kind N C l) x
  | [], [], l, x, c, _ => by simp [rks]
  | y :: N, d :: C, l, x, c, h => by
    simp only [List.cons_append, rks]
    exact rks_snoc kind N C _ x c (by simpa using h)
theorem rkeys_succ (kind : Int) {N : List Rk} {C : List Int} {i : Nat} {x : Rk} {c : Int} (hl : C.length = N.length) (hx : N[i]? = some x) (hc : C[i]? = some c) : rkeys kind N C (i + 1) = if c = 0 then rkeys kind N C i else rins kind (rkeys kind N C i) x := by
  unfold rkeys
  rw [List.take_add_one, List.take_add_one, hx, hc]
  exact rks_snoc kind _ _ _ x c (by simp [hl])
theorem rins_len (kind : Int) (l : List Rk) (x : Rk) : (rins kind l x).length = l.length + 1 := by
  unfold rins
  simp
  have : rix kind l x ≤ l.length := List.findIdx_le_length
  omega
theorem rkeys_len (kind : Int) {N : List Rk} {C : List Int} (hl : C.length = N.length) : ∀ i, i ≤ N.length → (rkeys kind N C i).length ≤ i
  | 0, _ => by simp [rkeys, rks]
  | i + 1, h => by
    have := rkeys_len kind hl i (by omega)
    rw [rkeys_succ kind (x := N[i]'(by omega)) (c := C[i]'(by omega)) hl (by simp) (by simp)]
    split
    · omega
    · rw [rins_len]; omega

set_option maxHeartbeats 8000000 in
set_option maxRecDepth 100000 in
theorem rkeys_any {r : Rf} {kind : Int} {N : List Rk} {C : List Int} (w : World) (h : RT w r kind N C) :
    Calls Tryz.prog 33 #[rp r] w fun e w' => ∃ v, e = .returned v ∧ Hid (Lk w' v (rkeys kind N C N.length) ∧ Below w.heap.size w w' ∧ ∀ g, v.ownBlock = some g → w.heap.size ≤ g) := by
  have hmx : Tryz.prog.follows .mixedOrders = true := by kernel_rfl
  have HR : Hid (RT w r kind N C) := h
  have hfew := h.few
  have hlen := h.len
  obtain ⟨pn, cn, en, _⟩ := h.ln.form
  obtain ⟨pc, cc, ec⟩ := h.lc.form
  have HLN : Hid (Lk w (.slice pn N.length cn) N) := by rw [← en]; exact h.ln
  have HLC : Hid (Ln w (.slice pc C.length cc) C) := by rw [← ec]; exact h.lc
  have k0 := h.c0
  have k1 := h.c1
  have k2 := h.c2
  have hlt := h.lt
  rw [en] at k1
  rw [ec] at k2
  clear h
  go_enter Tryz.func33, Tryz.ntmps33
  go_wp2_with fail
  go_loopw [3, 4, 5, 6] (fun s3 s4 _ _ wr => ∃ i : Nat, i ≤ N.length ∧ s4 = .int .i64 i ∧ Hid (wr.ownsRow w.heap.size 49 2 s3 (rkeys kind N C i).length (flatU (rkeys kind N C i)) ∧ Below w.heap.size w wr)) (fun _ s4 _ _ _ => N.length - (RowKit.intOf s4).toNat)
  case atStart => exact ⟨0, Nat.zero_le _, rfl, World.ownsRow_nil _ _ _ _, Below.refl _ _⟩
  case round =>
    obtain ⟨i, hi, rfl, HO⟩ := hrel
    have b0 := (HO.out.2.cell (p := ⟨r.b, 0, none⟩) hlt).trans k0
    have b1 := (HO.out.2.cell (p := ⟨r.b, 1, none⟩) hlt).trans k1
    have b2 := (HO.out.2.cell (p := ⟨r.b, 2, none⟩) hlt).trans k2
    have hltr : r.b < wr.heap.size := Nat.lt_of_lt_of_le hlt HO.out.2.size
    by_cases hlti : i < N.length
    · have hltz : (i : Int) < (N.length : Int) := by omega
      have hltc : (i : Int) < (C.length : Int) := by omega
      obtain ⟨x, hx⟩ : ∃ x, N[i]? = some x := ⟨N[i], by simp⟩
      obtain ⟨c, hc⟩ : ∃ c, C[i]? = some c := ⟨C[i]'(by omega), by simp⟩
      obtain ⟨bn, on, cn', e1, zn, x1, x2⟩ := HLN.out.at2 hx
      simp only [Value.slice.injEq] at e1
      obtain ⟨rfl, -, rfl⟩ := e1
      obtain ⟨bc, oc, cc', e2, zc, y1⟩ := HLC.out.at1 hc
      simp only [Value.slice.injEq] at e2
      obtain ⟨rfl, -, rfl⟩ := e2
      have y1r := (HO.out.2.cell (p := ⟨bc, oc + i, none⟩) zc).trans y1
      have x1r := (HO.out.2.cell (p := ⟨bn, on + i * 2, none⟩) zn).trans x1
      have x2r := (HO.out.2.cell (p := ⟨bn, on + i * 2 + 1, none⟩) zn).trans x2
      have HS : Hid (rkeys kind N C (i + 1) = if c = 0 then rkeys kind N C i else rins kind (rkeys kind N C i) x) := rkeys_succ kind hlen hx hc
      have hkl := rkeys_len kind hlen i hi
      clear hx hc y1 x1 x2
      by_cases hc0 : c = 0
      · subst hc0
        go_wp2
        exact ⟨⟨i + 1, by omega, by go_num, by rw [HS.out]; exact HO.out⟩, by simp [RowKit.intOf]; omega⟩
      · have hcb : (c == 0) = false := by simp [hc0]
        rw [if_neg hc0] at HS
        generalize rkeys kind N C i = L at *
        obtain ⟨pL, cL, eL, _⟩ := (owns_lk HO.out.1).form
        subst eL
        have HB : Hid (Below w.heap.size w wr) := HO.out.2
        have hix : rix kind L x ≤ L.length := List.findIdx_le_length
        have HLL : Hid (Lk wr (.slice pL L.length cL) L) := owns_lk HO.out.1
        have HBL : Hid (∀ g, (Value.slice pL L.length cL).ownBlock = some g → w.heap.size ≤ g) := fun g hg => (HO.out.1.lt g hg).1
        clear HO
        obtain ⟨wS, hwS⟩ : ∃ y, y = wr := ⟨wr, rfl⟩
        subst hwS
        go_wp2_with fail
        go_loopw [5] (fun s5 wr => ∃ j : Nat, j ≤ rix kind L x ∧ s5 = .int .i64 j ∧ Gr wS wr) (fun s5 _ => L.length - (RowKit.intOf s5).toNat)
        case atStart => exact ⟨0, Nat.zero_le _, rfl, Gr.refl _⟩
        case round =>
          obtain ⟨j, hj, rfl, hgr⟩ := hrel
          have hzn : bn < wS.heap.size := Nat.lt_of_lt_of_le zn HB.out.size
          by_cases hjl : j < L.length
          · have hjlz : (j : Int) < (L.length : Int) := by omega
            obtain ⟨y, hy⟩ : ∃ y, L[j]? = some y := ⟨L[j], by simp⟩
            obtain ⟨bL, oL, cL', e3, zL, q1, q2⟩ := (HLL.out.below hgr.below).at2 hy
            simp only [Value.slice.injEq] at e3
            obtain ⟨rfl, -, rfl⟩ := e3
            have hOr := fun W => Order_any kind y.1 x.1 y.2 x.2 W
            have hzr : r.b < wr.heap.size := Nat.lt_of_lt_of_le hltr hgr.size
            have hznr : bn < wr.heap.size := Nat.lt_of_lt_of_le hzn hgr.size
            have gg0 := cell_grown (a := ⟨r.b, 0, none⟩) hzr ((hgr.cell (o := 0) hltr).trans b0)
            have gg1 := cell_grown (a := ⟨r.b, 1, none⟩) hzr ((hgr.cell (o := 1) hltr).trans b1)
            have gx1 := cell_grown (a := ⟨bn, on + i * 2, none⟩) hznr ((hgr.cell (o := on + i * 2) hzn).trans x1r)
            have gx2 := cell_grown (a := ⟨bn, on + i * 2 + 1, none⟩) hznr ((hgr.cell (o := on + i * 2 + 1) hzn).trans x2r)
            have gq1 := cell_grown (a := ⟨bL, oL + j * 2, none⟩) zL q1
            have gq2 := cell_grown (a := ⟨bL, oL + j * 2 + 1, none⟩) zL q2
            have HY : Hid (L[j]? = some y) := hy
            obtain ⟨o, ho⟩ : ∃ o, o = cfk kind y.1 y.2 x.1 x.2 := ⟨_, rfl⟩
            have HLT : Hid (ltk kind y x = decide (o < 0)) := by rw [ho]; rfl
            rw [← ho] at hOr
            clear hy ho q1 q2
            by_cases hneg : o < 0
            · rw [decide_eq_true hneg] at HLT
              have HJ : Hid (j < rix kind L x) := by
                refine Nat.lt_of_le_of_ne hj fun e => ?_
                have h1 := HY.out
                obtain ⟨hlt', he⟩ := List.getElem?_eq_some_iff.1 h1
                have h2 := List.findIdx_getElem (xs := L) (p := fun y => !ltk kind y x) (w := by rw [show L.findIdx (fun y => !ltk kind y x) = j from e.symm]; exact hlt')
                have h3 : L[L.findIdx fun y => !ltk kind y x]'(by rw [show L.findIdx (fun y => !ltk kind y x) = j from e.symm]; exact hlt') = y := by
                  have e' : L.findIdx (fun y => !ltk kind y x) = j := e.symm
                  simp only [e']
                  exact he
                rw [h3, HLT.out] at h2
                cases h2
              go_wp2_with fail
              go_quiet_grown (first | (go_at_call 19; refine Calls.grown_of (v := .int .i64 o) (hOr _)))
              have G9 : Gr wr (grow (wr.drewN nq) osq) := ((Gr.refl _).drewN _).grown _
              go_wp2
              exact ⟨⟨j + 1, HJ.out, by go_num, hgr.trans G9⟩, by simp [RowKit.intOf]; omega⟩
            · rw [decide_eq_false hneg] at HLT
              have HJ : Hid (rix kind L x ≤ j) := by
                obtain ⟨hlt', he⟩ := List.getElem?_eq_some_iff.1 HY.out
                refine Nat.le_of_not_lt fun hlt2 => ?_
                have h2 := List.not_of_lt_findIdx (xs := L) (p := fun y => !ltk kind y x) hlt2
                simp only [he, HLT.out] at h2
                cases h2
              have hge := HJ.out
              go_wp2_with fail
              go_quiet_grown (first | (go_at_call 19; refine Calls.grown_of (v := .int .i64 o) (hOr _)))
              have G9 : Gr wS (grow (wr.drewN nq) osq) := hgr.trans (((Gr.refl _).drewN _).grown _)
              clear gg0 gg1 gx1 gx2 gq1 gq2 hOr HLT HY HJ hzr hznr zL hgr
              generalize grow (wr.drewN nq) osq = w9 at *
              have hjx : j = rix kind L x := by omega
              have HG9 : Hid (Gr wS w9) := G9
              have HLr : Hid (Lk w9 (.slice (some ⟨bL, oL, none⟩) L.length cL) L) := HLL.out.below G9.below
              have d1 := (G9.cell (o := 1) hltr).trans b1
              have hlt9 : r.b < w9.heap.size := Nat.lt_of_lt_of_le hltr G9.size
              have n1 := (G9.cell (o := on + i * 2) hzn).trans x1r
              have n2 := (G9.cell (o := on + i * 2 + 1) hzn).trans x2r
              have hzn9 : bn < w9.heap.size := Nat.lt_of_lt_of_le hzn G9.size
              have HBW : Hid (Below w.heap.size w w9) := HB.out.trans (G9.below.mono HB.out.size)
              have hjl2 : j ≤ L.length := by omega
              have hjz : (0 : Int) ≤ (j : Int) := by omega
              have hRI : rins kind L x = L.take j ++ x :: L.drop j := by unfold rins; rw [← hjx]
              have HRI : Hid (rins kind L x = L.take j ++ x :: L.drop j) := hRI
              have HJX : Hid (j = rix kind L x) := hjx
              have HTL : Hid ((L.take j).length = j) := by show (L.take j).length = j; rw [List.length_take]; omega
              have HDL : Hid ((L.drop j).length = L.length - j) := by show (L.drop j).length = L.length - j; simp
              clear G9 hRI hjx hix hj
              have hjc : (j : Int) ≤ (cL : Int) := by omega
              have hjL : (j : Int) ≤ (L.length : Int) := by omega
              have LA : Hid (Lk w9 (.slice (some ⟨bL, oL, none⟩) j cL) (L.take j)) := HLr.out.cut hjl2
              go_wp2_with (at_builtin; refine wpAppLk rfl _ _ rfl w9.heap.size (.slice none 0 0) 0 [] rfl rfl (World.ownsRow_nil _ _ _ _) (.slice (some ⟨bL, oL, none⟩) j cL) (L.take j) rfl LA.out (by rw [HTL.out]; omega) (Nat.le_refl _) ?_)
              intro v5 w10 H10
              have b10 : Below w9.heap.size w9 w10 := H10.out.2.below (Nat.le_refl _) (fun k hk => by simp [Value.ownBlock] at hk)
              have f1 := (b10.cell (p := ⟨r.b, 1, none⟩) hlt9).trans d1
              have f2 := (b10.cell (p := ⟨bn, on + i * 2, none⟩) hzn9).trans n1
              have f3 := (b10.cell (p := ⟨bn, on + i * 2 + 1, none⟩) hzn9).trans n2
              have z1 := Nat.lt_of_lt_of_le hlt9 b10.size
              have z2 := Nat.lt_of_lt_of_le hzn9 b10.size
              have HB10 : Hid (Below w9.heap.size w9 w10) := b10
              have HO10 : Hid (w10.ownsRow w9.heap.size 49 2 v5 j (flatU (L.take j))) := owns_re H10.out.1 rfl (by first | rw [flatU_length, HTL.out] | rw [List.nil_append, flatU_length, HTL.out])
              clear d1 n1 n2 b10 H10
              go_wp2_with (at_builtin; refine wpApp1k rfl _ _ rfl w9.heap.size v5 j (L.take j) HTL.out rfl HO10.out x (by first | rfl | simp) (by omega) HB10.out.size ?_)
              intro v6 w11 H11
              have HB11 : Hid (Below w9.heap.size w9 w11) := HB10.out.trans (H11.out.2.below HB10.out.size (fun k hk => (HO10.out.lt k hk).1))
              clear f1 f2 f3 z1 z2
              by_cases hd0 : cL = 0
              · have hL0 : L = [] := List.eq_nil_of_length_eq_zero (by omega)
                subst hL0
                subst hd0
                obtain rfl : j = 0 := by simpa using hjl2
                have LB : Hid (Lk w11 (.slice (some ⟨bL, oL, none⟩) 0 0) []) := HLr.out.below HB11.out
                go_wp2_with (at_builtin; refine wpAppLk rfl _ _ rfl w9.heap.size v6 (0 + 1) [x] rfl rfl H11.out.1 (.slice (some ⟨bL, oL, none⟩) 0 0) [] (by first | rfl | simp [Act.eval]) LB.out (by simp) HB11.out.size ?_)
                intro v7 w12 H12
                have HB12 : Hid (Below w9.heap.size w9 w12) := HB11.out.trans (H12.out.2.below HB11.out.size (fun k hk => (H11.out.1.lt k hk).1))
                have HF : Hid (w12.ownsRow w.heap.size 49 2 v7 (rkeys kind N C (i + 1)).length (flatU (rkeys kind N C (i + 1))) ∧ Below w.heap.size w w12) := ⟨by
                  rw [HS.out, HRI.out]
                  exact owns_re (owns_base H12.out.1 HBW.out.size) rfl (flatU_length _), HBW.out.trans (HB12.out.mono HBW.out.size)⟩
                clear H11 H12
                go_wp2
                exact ⟨⟨i + 1, by omega, by go_num, HF⟩, by simp [RowKit.intOf]; omega⟩
              · by_cases hcj : cL = j
                · have LB : Hid (Lk w11 (.slice (some ⟨bL, oL, none⟩) (L.length - j) 0) (L.drop j)) := (HLr.out.none (by omega)).below HB11.out
                  subst hcj
                  go_wp2_with (at_builtin; refine wpAppLk rfl _ _ rfl w9.heap.size v6 (cL + 1) (L.take cL ++ [x]) (by rw [List.length_append, HTL.out]; rfl) rfl H11.out.1 (.slice (some ⟨bL, oL, none⟩) (L.length - cL) 0) (L.drop cL) (by first | rfl | (simp [Act.eval]; done) | (simp [Act.eval]; omega)) LB.out (by rw [HDL.out]; omega) HB11.out.size ?_)
                  intro v7 w12 H12
                  have HB12 : Hid (Below w9.heap.size w9 w12) := HB11.out.trans (H12.out.2.below HB11.out.size (fun k hk => (H11.out.1.lt k hk).1))
                  have HF : Hid (w12.ownsRow w.heap.size 49 2 v7 (rkeys kind N C (i + 1)).length (flatU (rkeys kind N C (i + 1))) ∧ Below w.heap.size w w12) := ⟨by
                    rw [HS.out, HRI.out]
                    exact owns_re (owns_base H12.out.1 HBW.out.size) (by first | rfl | (rw [List.append_assoc]; rfl)) (flatU_length _), HBW.out.trans (HB12.out.mono HBW.out.size)⟩
                  clear H11 H12
                  go_wp2
                  exact ⟨⟨i + 1, by omega, by go_num, HF⟩, by simp [RowKit.intOf]; omega⟩
                · have LB : Hid (Lk w11 (.slice (some ⟨bL, oL + j * 2, none⟩) (L.length - j) (cL - j)) (L.drop j)) := (HLr.out.tail (k := j) (cL - j) (by omega)).below HB11.out
                  go_wp2_with (at_builtin; refine wpAppLk rfl _ _ rfl w9.heap.size v6 (j + 1) (L.take j ++ [x]) (by rw [List.length_append, HTL.out]; rfl) rfl H11.out.1 (.slice (some ⟨bL, oL + j * 2, none⟩) (L.length - j) (cL - j)) (L.drop j) (by first | rfl | (simp [Act.eval]; done) | (simp [Act.eval]; omega)) LB.out (by rw [HDL.out]; omega) HB11.out.size ?_)
                  intro v7 w12 H12
                  have HB12 : Hid (Below w9.heap.size w9 w12) := HB11.out.trans (H12.out.2.below HB11.out.size (fun k hk => (H11.out.1.lt k hk).1))
                  have HF : Hid (w12.ownsRow w.heap.size 49 2 v7 (rkeys kind N C (i + 1)).length (flatU (rkeys kind N C (i + 1))) ∧ Below w.heap.size w w12) := ⟨by
                    rw [HS.out, HRI.out]
                    exact owns_re (owns_base H12.out.1 HBW.out.size) (by first | rfl | (rw [List.append_assoc]; rfl)) (flatU_length _), HBW.out.trans (HB12.out.mono HBW.out.size)⟩
                  clear H11 H12
                  go_wp2
                  exact ⟨⟨i + 1, by omega, by go_num, HF⟩, by simp [RowKit.intOf]; omega⟩
          · have hjlz : ¬ (j : Int) < (L.length : Int) := by omega
            have hge : rix kind L x ≤ j := by omega
            have hzr : r.b < wr.heap.size := Nat.lt_of_lt_of_le hltr hgr.size
            go_wp2_with fail
            go_quiet (fail)
            have G9 : Gr wS (wr.drewN nq) := hgr.drewN _
            clear hzr hgr
            generalize wr.drewN nq = w9 at *
            have hjx : j = rix kind L x := by omega
            have HG9 : Hid (Gr wS w9) := G9
            have HLr : Hid (Lk w9 (.slice pL L.length cL) L) := HLL.out.below G9.below
            have d1 := (G9.cell (o := 1) hltr).trans b1
            have hlt9 : r.b < w9.heap.size := Nat.lt_of_lt_of_le hltr G9.size
            have n1 := (G9.cell (o := on + i * 2) hzn).trans x1r
            have n2 := (G9.cell (o := on + i * 2 + 1) hzn).trans x2r
            have hzn9 : bn < w9.heap.size := Nat.lt_of_lt_of_le hzn G9.size
            have HBW : Hid (Below w.heap.size w w9) := HB.out.trans (G9.below.mono HB.out.size)
            have hpl : (pL = none ∧ L = [] ∧ cL = 0) ∨ ∃ gL oL, pL = some ⟨gL, oL, none⟩ := by
              rcases HLL.out with ⟨hL, hv⟩ | ⟨gL, oL, c', hv, _⟩
              · subst hL; simp at hv; exact Or.inl ⟨hv.1, rfl, hv.2⟩
              · simp only [Value.slice.injEq] at hv; exact Or.inr ⟨gL, oL, hv.1⟩
            have hjl2 : j ≤ L.length := by omega
            have hjz : (0 : Int) ≤ (j : Int) := by omega
            have hRI : rins kind L x = L.take j ++ x :: L.drop j := by unfold rins; rw [← hjx]
            have HRI : Hid (rins kind L x = L.take j ++ x :: L.drop j) := hRI
            have HJX : Hid (j = rix kind L x) := hjx
            have HTL : Hid ((L.take j).length = j) := by show (L.take j).length = j; rw [List.length_take]; omega
            have HDL : Hid ((L.drop j).length = L.length - j) := by show (L.drop j).length = L.length - j; simp
            clear G9 hRI hjx hix hj
            obtain ⟨hp0, hL0, hc0'⟩ | ⟨gL, oL, hp1⟩ := hpl
            · subst hp0
              subst hL0
              subst hc0'
              obtain rfl : j = 0 := by simpa using hjl2
              have LA : Hid (Lk w9 (.slice none 0 0) []) := Or.inl ⟨rfl, rfl⟩
              clear HTL HDL hjl2
              go_wp2_with (at_builtin; refine wpAppLk rfl _ _ rfl w9.heap.size (.slice none 0 0) 0 [] rfl rfl (World.ownsRow_nil _ _ _ _) (.slice none 0 0) [] rfl LA.out (by simp) (Nat.le_refl _) ?_)
              intro v5 w10 H10
              have b10 : Below w9.heap.size w9 w10 := H10.out.2.below (Nat.le_refl _) (fun k hk => by simp [Value.ownBlock] at hk)
              have f1 := (b10.cell (p := ⟨r.b, 1, none⟩) hlt9).trans d1
              have f2 := (b10.cell (p := ⟨bn, on + i * 2, none⟩) hzn9).trans n1
              have f3 := (b10.cell (p := ⟨bn, on + i * 2 + 1, none⟩) hzn9).trans n2
              have z1 := Nat.lt_of_lt_of_le hlt9 b10.size
              have z2 := Nat.lt_of_lt_of_le hzn9 b10.size
              have HB10 : Hid (Below w9.heap.size w9 w10) := b10
              clear d1 n1 n2 b10
              go_wp2_with (at_builtin; refine wpApp1k rfl _ _ rfl w9.heap.size v5 0 [] rfl rfl H10.out.1 x (by first | rfl | simp) (by omega) HB10.out.size ?_)
              intro v6 w11 H11
              have HB11 : Hid (Below w9.heap.size w9 w11) := HB10.out.trans (H11.out.2.below HB10.out.size (fun k hk => (H10.out.1.lt k hk).1))
              clear f1 f2 f3 z1 z2
              go_wp2_with (at_builtin; refine wpAppLk rfl _ _ rfl w9.heap.size v6 (0 + 1) [x] rfl rfl H11.out.1 (.slice none 0 0) [] (by first | rfl | simp [Act.eval]) (Or.inl ⟨rfl, rfl⟩) (by simp) HB11.out.size ?_)
              intro v7 w12 H12
              have HB12 : Hid (Below w9.heap.size w9 w12) := HB11.out.trans (H12.out.2.below HB11.out.size (fun k hk => (H11.out.1.lt k hk).1))
              have HF : Hid (w12.ownsRow w.heap.size 49 2 v7 (rkeys kind N C (i + 1)).length (flatU (rkeys kind N C (i + 1))) ∧ Below w.heap.size w w12) := ⟨by
                rw [HS.out, HRI.out]
                exact owns_re (owns_base H12.out.1 HBW.out.size) rfl (flatU_length _), HBW.out.trans (HB12.out.mono HBW.out.size)⟩
              clear H10 H11 H12
              go_wp2
              exact ⟨⟨i + 1, by omega, by go_num, HF⟩, by simp [RowKit.intOf]; omega⟩
            · subst hp1
              have hjc : (j : Int) ≤ (cL : Int) := by omega
              have hjL : (j : Int) ≤ (L.length : Int) := by omega
              have LA : Hid (Lk w9 (.slice (some ⟨gL, oL, none⟩) j cL) (L.take j)) := HLr.out.cut hjl2
              go_wp2_with (at_builtin; refine wpAppLk rfl _ _ rfl w9.heap.size (.slice none 0 0) 0 [] rfl rfl (World.ownsRow_nil _ _ _ _) (.slice (some ⟨gL, oL, none⟩) j cL) (L.take j) rfl LA.out (by rw [HTL.out]; omega) (Nat.le_refl _) ?_)
              intro v5 w10 H10
              have b10 : Below w9.heap.size w9 w10 := H10.out.2.below (Nat.le_refl _) (fun k hk => by simp [Value.ownBlock] at hk)
              have f1 := (b10.cell (p := ⟨r.b, 1, none⟩) hlt9).trans d1
              have f2 := (b10.cell (p := ⟨bn, on + i * 2, none⟩) hzn9).trans n1
              have f3 := (b10.cell (p := ⟨bn, on + i * 2 + 1, none⟩) hzn9).trans n2
              have z1 := Nat.lt_of_lt_of_le hlt9 b10.size
              have z2 := Nat.lt_of_lt_of_le hzn9 b10.size
              have HB10 : Hid (Below w9.heap.size w9 w10) := b10
              have HO10 : Hid (w10.ownsRow w9.heap.size 49 2 v5 j (flatU (L.take j))) := owns_re H10.out.1 rfl (by first | rw [flatU_length, HTL.out] | rw [List.nil_append, flatU_length, HTL.out])
              clear d1 n1 n2 b10 H10
              go_wp2_with (at_builtin; refine wpApp1k rfl _ _ rfl w9.heap.size v5 j (L.take j) HTL.out rfl HO10.out x (by first | rfl | simp) (by omega) HB10.out.size ?_)
              intro v6 w11 H11
              have HB11 : Hid (Below w9.heap.size w9 w11) := HB10.out.trans (H11.out.2.below HB10.out.size (fun k hk => (HO10.out.lt k hk).1))
              clear f1 f2 f3 z1 z2
              by_cases hd0 : cL = 0
              · have hL0 : L = [] := List.eq_nil_of_length_eq_zero (by omega)
                subst hL0
                subst hd0
                obtain rfl : j = 0 := by simpa using hjl2
                have LB : Hid (Lk w11 (.slice (some ⟨gL, oL, none⟩) 0 0) []) := HLr.out.below HB11.out
                go_wp2_with (at_builtin; refine wpAppLk rfl _ _ rfl w9.heap.size v6 (0 + 1) [x] rfl rfl H11.out.1 (.slice (some ⟨gL, oL, none⟩) 0 0) [] (by first | rfl | simp [Act.eval]) LB.out (by simp) HB11.out.size ?_)
                intro v7 w12 H12
                have HB12 : Hid (Below w9.heap.size w9 w12) := HB11.out.trans (H12.out.2.below HB11.out.size (fun k hk => (H11.out.1.lt k hk).1))
                have HF : Hid (w12.ownsRow w.heap.size 49 2 v7 (rkeys kind N C (i + 1)).length (flatU (rkeys kind N C (i + 1))) ∧ Below w.heap.size w w12) := ⟨by
                  rw [HS.out, HRI.out]
                  exact owns_re (owns_base H12.out.1 HBW.out.size) rfl (flatU_length _), HBW.out.trans (HB12.out.mono HBW.out.size)⟩
                clear H11 H12
                go_wp2
                exact ⟨⟨i + 1, by omega, by go_num, HF⟩, by simp [RowKit.intOf]; omega⟩
              · by_cases hcj : cL = j
                · have LB : Hid (Lk w11 (.slice (some ⟨gL, oL, none⟩) (L.length - j) 0) (L.drop j)) := (HLr.out.none (by omega)).below HB11.out
                  subst hcj
                  go_wp2_with (at_builtin; refine wpAppLk rfl _ _ rfl w9.heap.size v6 (cL + 1) (L.take cL ++ [x]) (by rw [List.length_append, HTL.out]; rfl) rfl H11.out.1 (.slice (some ⟨gL, oL, none⟩) (L.length - cL) 0) (L.drop cL) (by first | rfl | (simp [Act.eval]; done) | (simp [Act.eval]; omega)) LB.out (by rw [HDL.out]; omega) HB11.out.size ?_)
                  intro v7 w12 H12
                  have HB12 : Hid (Below w9.heap.size w9 w12) := HB11.out.trans (H12.out.2.below HB11.out.size (fun k hk => (H11.out.1.lt k hk).1))
                  have HF : Hid (w12.ownsRow w.heap.size 49 2 v7 (rkeys kind N C (i + 1)).length (flatU (rkeys kind N C (i + 1))) ∧ Below w.heap.size w w12) := ⟨by
                    rw [HS.out, HRI.out]
                    exact owns_re (owns_base H12.out.1 HBW.out.size) (by first | rfl | (rw [List.append_assoc]; rfl)) (flatU_length _), HBW.out.trans (HB12.out.mono HBW.out.size)⟩
                  clear H11 H12
                  go_wp2
                  exact ⟨⟨i + 1, by omega, by go_num, HF⟩, by simp [RowKit.intOf]; omega⟩
                · have LB : Hid (Lk w11 (.slice (some ⟨gL, oL + j * 2, none⟩) (L.length - j) (cL - j)) (L.drop j)) := (HLr.out.tail (k := j) (cL - j) (by omega)).below HB11.out
                  go_wp2_with (at_builtin; refine wpAppLk rfl _ _ rfl w9.heap.size v6 (j + 1) (L.take j ++ [x]) (by rw [List.length_append, HTL.out]; rfl) rfl H11.out.1 (.slice (some ⟨gL, oL + j * 2, none⟩) (L.length - j) (cL - j)) (L.drop j) (by first | rfl | (simp [Act.eval]; done) | (simp [Act.eval]; omega)) LB.out (by rw [HDL.out]; omega) HB11.out.size ?_)
                  intro v7 w12 H12
                  have HB12 : Hid (Below w9.heap.size w9 w12) := HB11.out.trans (H12.out.2.below HB11.out.size (fun k hk => (H11.out.1.lt k hk).1))
                  have HF : Hid (w12.ownsRow w.heap.size 49 2 v7 (rkeys kind N C (i + 1)).length (flatU (rkeys kind N C (i + 1))) ∧ Below w.heap.size w w12) := ⟨by
                    rw [HS.out, HRI.out]
                    exact owns_re (owns_base H12.out.1 HBW.out.size) (by first | rfl | (rw [List.append_assoc]; rfl)) (flatU_length _), HBW.out.trans (HB12.out.mono HBW.out.size)⟩
                  clear H11 H12
                  go_wp2
                  exact ⟨⟨i + 1, by omega, by go_num, HF⟩, by simp [RowKit.intOf]; omega⟩
    · have hltz : ¬ (i : Int) < (N.length : Int) := by omega
      obtain rfl : i = N.length := by omega
      go_wp2
      go_ret
      exact ⟨u3, rfl, owns_lk HO.out.1, HO.out.2, fun g hg => (HO.out.1.lt g hg).1⟩
end Go.Proofs.YthbdbmbdfhbeiaaGreat
