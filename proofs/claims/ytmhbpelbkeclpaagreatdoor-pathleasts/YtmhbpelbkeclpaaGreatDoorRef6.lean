import Derived.Test.YtmhbpelbkeclpaaGreatDoorRef5
import Derived.Deep.RegionHeld3
import Derived.Test.YtmhbpelbkeclpaaGreatDoorApp
namespace Go.Proofs.YtmhbpelbkeclpaaGreatDoor
open Go.RowKit Go.Shelf Go.Lib
open Go.Sort hiding Below

/-- Where a time belongs in a rising list. -/
def Spot (out : List T3) (x : T3) (k : Nat) : Prop := k ≤ out.length ∧ (∀ j s, j < k → out[j]? = some s → lt3 s x) ∧ (∀ s, out[k]? = some s → ¬ lt3 s x)
theorem ins_pw {out : List T3} {x : T3} {k : Nat} (h : out.Pairwise lt3) (hx : x ∉ out) (hs : Spot out x k) : (out.take k ++ x :: out.drop k).Pairwise lt3 := by
  obtain ⟨hk, h1, h2⟩ := hs
  have hd : ∀ y ∈ out.drop k, lt3 x y := by
    intro y hy
    obtain ⟨i, hi⟩ := List.getElem?_of_mem hy
    rw [List.getElem?_drop] at hi
    obtain ⟨hil, hie⟩ := List.getElem?_eq_some_iff.1 hi
    have hkl : k < out.length := by omega
    have hz := h2 out[k] (by simp)
    have hzx : lt3 x out[k] := by
      apply Classical.byContradiction
      intro hc
      have := lt3_total _ _ hz hc
      exact hx (by rw [← this]; exact List.getElem_mem _)
    by_cases h0 : i = 0
    · subst h0
      rw [← hie]; exact hzx
    · rw [← hie]
      exact lt3_trans hzx (List.pairwise_iff_getElem.1 h k (k + i) hkl hil (by omega))
  have ht : ∀ a ∈ out.take k, lt3 a x := by
    intro a ha
    obtain ⟨i, hi⟩ := List.getElem?_of_mem ha
    rw [List.getElem?_take] at hi
    split at hi
    · exact h1 i a (by assumption) hi
    · cases hi
  rw [List.pairwise_append]
  refine ⟨h.sublist (List.take_sublist _ _), ?_, ?_⟩
  · exact List.pairwise_cons.2 ⟨hd, h.sublist (List.drop_sublist _ _)⟩
  · intro a ha b hb
    rcases List.mem_cons.1 hb with rfl | hb
    · exact ht a ha
    · exact lt3_trans (ht a ha) (hd b hb)
theorem mem_ins (out : List T3) (x y : T3) (k : Nat) : y ∈ out.take k ++ x :: out.drop k ↔ y = x ∨ y ∈ out := by
  rw [List.mem_append, List.mem_cons]
  constructor
  · rintro (h | h | h)
    · exact Or.inr (List.mem_of_mem_take h)
    · exact Or.inl h
    · exact Or.inr (List.mem_of_mem_drop h)
  · rintro (h | h)
    · exact Or.inr (Or.inl h)
    · rw [← List.take_append_drop k out, List.mem_append] at h
      rcases h with h | h
      · exact Or.inl h
      · exact Or.inr (Or.inr h)
/-- None of the list but itself is at or ahead of it. -/
def lst (ts : List T3) (x : T3) : Bool := !(ts.any fun s => !decide (s = x) && le3 s x)
theorem lst_iff (ts : List T3) (x : T3) : lst ts x = true ↔ ∀ y ∈ ts, le3 y x = true → y = x := by
  unfold lst
  rw [Bool.not_eq_true', List.any_eq_false]
  constructor
  · intro h y hy hl
    have := h y hy
    simp [hl] at this
    exact this
  · intro h y hy
    cases hl : le3 y x with
    | false => simp
    | true => simp [h y hy hl]
/-- What the reference holds behind k of the list. -/
structure RF (ts out : List T3) (k : Nat) : Prop where
  pw : out.Pairwise lt3
  mem : ∀ x, x ∈ out ↔ x ∈ ts.take k ∧ lst ts x = true
  len : out.length ≤ k
theorem RF.zero (ts : List T3) : RF ts [] 0 := ⟨List.Pairwise.nil, fun x => by simp, Nat.le_refl _⟩
theorem RF.skip {ts out : List T3} {k : Nat} {x : T3} (h : RF ts out k) (hx : ts[k]? = some x) (hs : x ∈ out ∨ lst ts x = false) : RF ts out (k + 1) := by
  refine ⟨h.pw, fun y => ?_, Nat.le_succ_of_le h.len⟩
  rw [h.mem, List.take_add_one, hx, List.mem_append]
  simp only [Option.toList_some, List.mem_singleton]
  constructor
  · exact fun ⟨a, b⟩ => ⟨Or.inl a, b⟩
  · rintro ⟨a | rfl, b⟩
    · exact ⟨a, b⟩
    · rcases hs with hs | hs
      · exact (h.mem y).1 hs
      · rw [hs] at b; cases b
theorem RF.put {ts out : List T3} {k j : Nat} {x : T3} (h : RF ts out k) (hx : ts[k]? = some x) (hn : x ∉ out) (hl : lst ts x = true) (hs : Spot out x j) : RF ts (out.take j ++ x :: out.drop j) (k + 1) := by
  refine ⟨ins_pw h.pw hn hs, fun y => ?_, ?_⟩
  · rw [mem_ins, h.mem, List.take_add_one, hx, List.mem_append]
    simp only [Option.toList_some, List.mem_singleton]
    constructor
    · rintro (rfl | ⟨a, b⟩)
      · exact ⟨Or.inr rfl, hl⟩
      · exact ⟨Or.inl a, b⟩
    · rintro ⟨a | rfl, b⟩
      · exact Or.inr ⟨a, b⟩
      · exact Or.inl rfl
  · have := h.len
    simp
    omega
theorem RF.done {ts out : List T3} {k : Nat} (h : RF ts out k) (hk : ¬ k < ts.length) : out = tfront ts := by
  refine rise_unique h.pw (tfront_rise ts) fun x => ?_
  rw [h.mem, tfront_mem, List.take_of_length_le (by omega), lst_iff]

set_option maxHeartbeats 4000000 in
set_option maxRecDepth 100000 in
theorem refFront_any (v : Value) (ts : List T3) (w : World) (hv : Lst w v ts) (hbig : ts.length * 24 ≤ 140737488355328) :
    Calls Tryz.prog 7 #[v] w fun e w' => ∃ v', e = .returned v' ∧ w'.ownsRow w.heap.size 25 3 v' (tfront ts).length (flat (tfront ts)) ∧ Below w.heap.size w w' := by
  obtain ⟨pl, cl, rfl⟩ := hv.form
  have HL : Hid (Lst w (.slice pl ts.length cl) ts) := hv
  clear hv
  have hW := fun v ts a b c W h1 h2 => within_any v ts a b c W h1 h2
  have hLs := fun v ts a b c W h1 h2 => refleast_any v ts a b c W h1 h2
  have hC := fun a b c x y z W => refCompare_any a b c x y z W
  have hm : Tryz.prog.follows .mixedOrders = true := by kernel_rfl
  obtain ⟨i0, hi, hz0, hz1, hz2⟩ := info_parts infoT
  have Hi : Hid (Tryz.prog.info? 25 = some i0) := hi
  have Hz0 : Hid (i0.zero = some (.agg #[.int .u64 0, .int .u64 0, .int .u64 0])) := hz0
  have Hz1 : Hid (i0.size = 3) := hz1
  have Hz2 : Hid (i0.bytes = 24) := hz2
  clear hi hz0 hz1 hz2
  go_enter Tryz.func7, Tryz.ntmps7
  go_wp2_with fail
  go_loopw [3, 4] (fun s3 s4 wr => ∃ (i : Nat) (out : List T3), i ≤ ts.length ∧ s4 = .int .i64 i ∧ RF ts out i ∧ wr.ownsRow w.heap.size 25 3 s3 out.length (flat out) ∧ Below w.heap.size w wr) (fun _ s4 _ => ts.length - (RowKit.intOf s4).toNat)
  case atStart => exact ⟨0, [], Nat.zero_le _, rfl, RF.zero ts, ⟨rfl, Or.inl ⟨rfl, rfl⟩⟩, Below.refl _ _⟩
  case round =>
    obtain ⟨i, out, hi, rfl, hrf, hown, hbw⟩ := hrel
    have hol : out.length ≤ i := hrf.len
    have HR : Hid (RF ts out i) := hrf
    clear hrf
    by_cases hlt : i < ts.length
    · have hltz : (i : Int) < (ts.length : Int) := by omega
      obtain ⟨x, hx⟩ : ∃ x, ts[i]? = some x := ⟨ts[i], by simp⟩
      obtain ⟨b1, o1, c1, e1, z1, x1, x2, x3⟩ := HL.out.at hx
      simp only [Value.slice.injEq] at e1
      obtain ⟨rfl, _, rfl⟩ := e1
      have HX : Hid (ts[i]? = some x) := hx
      clear hx
      have hsz := hbw.size
      have y1 := (hbw.cell (p := ⟨b1, o1 + i * 3, none⟩) z1).trans x1
      have y2 := (hbw.cell (p := ⟨b1, o1 + i * 3 + 1, none⟩) z1).trans x2
      have y3 := (hbw.cell (p := ⟨b1, o1 + i * 3 + 2, none⟩) z1).trans x3
      go_wp2_with fail
      refine (hW _ out _ _ _ _ (owns_lst hown) (by unfold maxLen; omega)).mono ?_
      rintro e w2 ⟨rfl, hg2⟩
      have hown2 := owns_below' hown hg2.below
      have hbw2 := hbw.trans (hg2.below.mono hsz)
      have hsz2 := hbw2.size
      replace y1 := (hbw2.cell (p := ⟨b1, o1 + i * 3, none⟩) z1).trans x1
      replace y2 := (hbw2.cell (p := ⟨b1, o1 + i * 3 + 1, none⟩) z1).trans x2
      replace y3 := (hbw2.cell (p := ⟨b1, o1 + i * 3 + 2, none⟩) z1).trans x3
      clear hW hown hbw hg2
      by_cases hin : x ∈ out
      · have hany : (out.any fun s => decide (s = (x.1, x.2.1, x.2.2))) = true := List.any_eq_true.2 ⟨x, hin, by simp⟩
        rw [hany]
        have HN : Hid (x ∈ out) := hin
        clear hin hany
        go_wp2_with fail
        exact ⟨⟨i + 1, out, by omega, by go_num, HR.out.skip HX.out (Or.inl HN.out), hown2, hbw2⟩, by simp [RowKit.intOf]; omega⟩
      · have hany : (out.any fun s => decide (s = (x.1, x.2.1, x.2.2))) = false := List.any_eq_false.2 fun y hy => by simp; rintro rfl; exact hin hy
        rw [hany]
        have HN : Hid (¬ x ∈ out) := hin
        clear hin hany
        go_wp2_with fail
        refine (hLs _ ts _ _ _ _ (HL.out.below hbw2) (by unfold maxLen; omega)).mono ?_
        rintro e w3 ⟨rfl, hg3⟩
        rw [show (!(ts.any fun s => !decide (s = (x.1, x.2.1, x.2.2)) && le3 s (x.1, x.2.1, x.2.2))) = lst ts x from rfl]
        have hown3 := owns_below' hown2 hg3.below
        have hbw3 := hbw2.trans (hg3.below.mono hsz2)
        have hsz3 := hbw3.size
        replace y1 := (hbw3.cell (p := ⟨b1, o1 + i * 3, none⟩) z1).trans x1
        replace y2 := (hbw3.cell (p := ⟨b1, o1 + i * 3 + 1, none⟩) z1).trans x2
        replace y3 := (hbw3.cell (p := ⟨b1, o1 + i * 3 + 2, none⟩) z1).trans x3
        clear hLs hown2 hbw2 hg3
        cases hls : lst ts x with
        | false =>
          have HB : Hid (lst ts x = false) := hls
          clear hls
          go_wp2_with fail
          exact ⟨⟨i + 1, out, by omega, by go_num, HR.out.skip HX.out (Or.inr HB.out), hown3, hbw3⟩, by simp [RowKit.intOf]; omega⟩
        | true =>
          have HB : Hid (lst ts x = true) := hls
          clear hls
          have HO : Hid (Lst w3 u3 out) := owns_lst hown3
          obtain ⟨po, co, rfl⟩ := HO.out.form
          have zb1 : b1 < w3.heap.size := by omega
          go_wp2_with fail
          go_loopw [5, 6] (fun s5 s6 wr2 => ∃ j : Nat, j ≤ out.length ∧ s6 = .int .i64 j ∧ (∀ m s, m < j → out[m]? = some s → lt3 s x) ∧ wr2.ownsRow w3.heap.size 25 3 s5 j (flat (out.take j)) ∧ Below w3.heap.size w3 wr2) (fun _ s6 _ => out.length - (RowKit.intOf s6).toNat)
          case atStart => exact ⟨0, Nat.zero_le _, rfl, fun m s h => absurd h (Nat.not_lt_zero _), ⟨rfl, Or.inl ⟨rfl, rfl⟩⟩, Below.refl _ _⟩
          case round =>
            obtain ⟨j, hj, rfl, hall, howj, hbj⟩ := hrel
            have HA : Hid (∀ m s, m < j → out[m]? = some s → lt3 s x) := hall
            clear hall
            have hszj := hbj.size
            have p1 := (hbj.cell (p := ⟨b1, o1 + i * 3, none⟩) zb1).trans y1
            have p2 := (hbj.cell (p := ⟨b1, o1 + i * 3 + 1, none⟩) zb1).trans y2
            have p3 := (hbj.cell (p := ⟨b1, o1 + i * 3 + 2, none⟩) zb1).trans y3
            have zr1 : b1 < wr.heap.size := by omega
            have hways : (∃ s, out[j]? = some s ∧ tcmp s.1 s.2.1 s.2.2 x.1 x.2.1 x.2.2 < 0) ∨ Spot out x j := by
              by_cases hjl : j < out.length
              · by_cases hc : cmp3 out[j] x < 0
                · exact Or.inl ⟨out[j], by simp, hc⟩
                · refine Or.inr ⟨hj, HA.out, fun s hs => ?_⟩
                  rw [List.getElem?_eq_getElem hjl] at hs
                  cases hs
                  exact fun h => hc ((cmp3_neg _ _).2 h)
              · refine Or.inr ⟨hj, HA.out, fun s hs => ?_⟩
                have := (List.getElem?_eq_some_iff.1 hs).1
                omega
            rcases hways with ⟨s, hs, hcz⟩ | hsp
            · have hjl : j < out.length := (List.getElem?_eq_some_iff.1 hs).1
              have hjz : (j : Int) < (out.length : Int) := by omega
              obtain ⟨b2, o2, c2, e2, z2, q1, q2, q3⟩ := HO.out.at hs
              simp only [Value.slice.injEq] at e2
              obtain ⟨rfl, _, rfl⟩ := e2
              replace q1 := (hbj.cell (p := ⟨b2, o2 + j * 3, none⟩) z2).trans q1
              replace q2 := (hbj.cell (p := ⟨b2, o2 + j * 3 + 1, none⟩) z2).trans q2
              replace q3 := (hbj.cell (p := ⟨b2, o2 + j * 3 + 2, none⟩) z2).trans q3
              have zr2 : b2 < wr.heap.size := by omega
              have gp1 := cell_grown zr1 p1
              have gp2 := cell_grown zr1 p2
              have gp3 := cell_grown zr1 p3
              have gq1 := cell_grown zr2 q1
              have gq2 := cell_grown zr2 q2
              have gq3 := cell_grown zr2 q3
              have HS : Hid (out[j]? = some s) := hs
              have HZ : Hid (lt3 s x) := (cmp3_neg _ _).1 hcz
              clear hs
              go_wp2_with fail
              go_quiet_grown (first | (go_at_call 26; refine Calls.grown_of (hC _ _ _ _ _ _ _)))
              have hgn : Gr wr (grow (wr.drewN nq) osq) := ⟨nq, osq, rfl⟩
              generalize grow (wr.drewN nq) osq = wn at hgn ⊢
              have hbn := hbj.trans (hgn.below.mono hszj)
              have hon := owns_below' howj hgn.below
              replace q1 := (hgn.cell (b := b2) (o := o2 + j * 3) zr2).trans q1
              replace q2 := (hgn.cell (b := b2) (o := o2 + j * 3 + 1) zr2).trans q2
              replace q3 := (hgn.cell (b := b2) (o := o2 + j * 3 + 2) zr2).trans q3
              have hszn := hgn.size
              clear gp1 gp2 gp3 gq1 gq2 gq3 howj hbj p1 p2 p3 hcz
              go_wp2_with (at_builtin; refine wpList_append_one rfl _ _ rfl w3.heap.size _ j (flat (out.take j)) rfl hon s rfl (by omega) (by omega) ?_)
              intro vn wm hom hbm
              go_wp2
              refine ⟨⟨j + 1, by omega, by go_num, ?_, ?_, hbn.trans hbm⟩, by simp [RowKit.intOf]; omega⟩
              · intro m s' hm hs'
                rcases Nat.lt_succ_iff_lt_or_eq.1 hm with h | rfl
                · exact HA.out m s' h hs'
                · rw [HS.out] at hs'
                  cases hs'
                  exact HZ.out
              · rw [List.take_add_one, HS.out, flat_append]
                simpa [flat] using hom
            · have HSP : Hid (Spot out x j) := hsp
              have hway2 : (∃ s, out[j]? = some s ∧ ¬ tcmp s.1 s.2.1 s.2.2 x.1 x.2.1 x.2.2 < 0) ∨ ¬ j < out.length := by
                by_cases hjl : j < out.length
                · exact Or.inl ⟨out[j], by simp, fun h => hsp.2.2 out[j] (by simp) ((cmp3_neg _ _).1 h)⟩
                · exact Or.inr hjl
              clear hsp
              rcases hway2 with ⟨s, hs, hcz⟩ | hjl
              case' inl =>
                have hjl : j < out.length := (List.getElem?_eq_some_iff.1 hs).1
                have hjz : (j : Int) < (out.length : Int) := by omega
                obtain ⟨b2, o2, c2, e2, z2, q1, q2, q3⟩ := HO.out.at hs
                simp only [Value.slice.injEq] at e2
                obtain ⟨rfl, _, rfl⟩ := e2
                replace q1 := (hbj.cell (p := ⟨b2, o2 + j * 3, none⟩) z2).trans q1
                replace q2 := (hbj.cell (p := ⟨b2, o2 + j * 3 + 1, none⟩) z2).trans q2
                replace q3 := (hbj.cell (p := ⟨b2, o2 + j * 3 + 2, none⟩) z2).trans q3
                have zr2 : b2 < wr.heap.size := by omega
                have gp1 := cell_grown zr1 p1
                have gp2 := cell_grown zr1 p2
                have gp3 := cell_grown zr1 p3
                have gq1 := cell_grown zr2 q1
                have gq2 := cell_grown zr2 q2
                have gq3 := cell_grown zr2 q3
                clear hs
                go_wp2_with fail
                go_quiet_grown (first | (go_at_call 26; refine Calls.grown_of (hC _ _ _ _ _ _ _)))
                have hgn : Gr wr (grow (wr.drewN nq) osq) := ⟨nq, osq, rfl⟩
                generalize grow (wr.drewN nq) osq = wn at hgn ⊢
                clear gp1 gp2 gp3 gq1 gq2 gq3 q1 q2 q3 hjz hjl
              case' inr =>
                have hjz : ¬ (j : Int) < (out.length : Int) := by omega
                go_wp2_with fail
                go_quiet (fail)
                have hgn : Gr wr (wr.drewN nq) := (Gr.refl wr).drewN nq
                generalize wr.drewN nq = wn at hgn ⊢
                clear hjz hjl
              all_goals have hbn := hbj.trans (hgn.below.mono hszj)
              all_goals have hon := owns_below' howj hgn.below
              all_goals replace p1 := (hgn.cell (b := b1) (o := o1 + i * 3) zr1).trans p1
              all_goals replace p2 := (hgn.cell (b := b1) (o := o1 + i * 3 + 1) zr1).trans p2
              all_goals replace p3 := (hgn.cell (b := b1) (o := o1 + i * 3 + 2) zr1).trans p3
              all_goals have hszn := hgn.size
              all_goals clear howj hbj
              all_goals go_wp2_with (at_builtin; refine wpList_append_one rfl _ _ rfl w3.heap.size _ j (flat (out.take j)) rfl hon x rfl (by omega) (by omega) ?_)
              all_goals intro vn wm hom hbm
              all_goals have hbm3 := hbn.trans hbm
              all_goals clear hon hbn hbm p1 p2 p3
              all_goals go_wp2_with fail
              all_goals
                go_loopw [5, 6] (fun s5 s6 wr3 => ∃ m : Nat, j ≤ m ∧ m ≤ out.length ∧ s6 = .int .i64 m ∧ wr3.ownsRow w3.heap.size 25 3 s5 (m + 1) (flat (out.take j ++ x :: (out.drop j).take (m - j))) ∧ Below w3.heap.size w3 wr3) (fun _ s6 _ => out.length - (RowKit.intOf s6).toNat)
                case atStart => exact ⟨j, Nat.le_refl _, hj, rfl, by rw [Nat.sub_self, List.take_zero, flat_append]; simpa [flat] using hom, hbm3⟩
                case round =>
                  obtain ⟨m, hjm, hmo, rfl, hop, hbp⟩ := hrel
                  have hszp := hbp.size
                  by_cases hml : m < out.length
                  · have hmz : (m : Int) < (out.length : Int) := by omega
                    obtain ⟨s', hs'⟩ : ∃ s', out[m]? = some s' := ⟨out[m], by simp⟩
                    have HT : Hid ((out.drop j).take (m + 1 - j) = (out.drop j).take (m - j) ++ [s']) := by
                      unfold Hid
                      rw [show m + 1 - j = m - j + 1 by omega, List.take_add_one, List.getElem?_drop, show j + (m - j) = m by omega, hs']
                      rfl
                    obtain ⟨b3, o3, c3, e3, z3, r1, r2, r3⟩ := HO.out.at hs'
                    simp only [Value.slice.injEq] at e3
                    obtain ⟨e4, _, rfl⟩ := e3
                    first | (simp only [Option.some.injEq, Addr.mk.injEq, and_true] at e4; obtain ⟨rfl, rfl⟩ := e4) | subst e4
                    replace r1 := (hbp.cell (p := ⟨_, _ + m * 3, none⟩) z3).trans r1
                    replace r2 := (hbp.cell (p := ⟨_, _ + m * 3 + 1, none⟩) z3).trans r2
                    replace r3 := (hbp.cell (p := ⟨_, _ + m * 3 + 2, none⟩) z3).trans r3
                    clear hs'
                    go_wp2_with (at_builtin; refine wpList_append_one rfl _ _ rfl w3.heap.size _ (m + 1) _ rfl hop s' rfl (by omega) (by omega) ?_)
                    intro vq wq hoq hbq
                    go_wp2
                    refine ⟨⟨m + 1, by omega, by omega, by go_num, ?_, hbp.trans hbq⟩, by simp [RowKit.intOf]; omega⟩
                    rw [HT.out, ← List.cons_append, ← List.append_assoc, flat_append]
                    simpa [flat] using hoq
                  · have hmz : ¬ (m : Int) < (out.length : Int) := by omega
                    have hmo' : m = out.length := by omega
                    subst hmo'
                    go_wp2
                    refine ⟨⟨i + 1, out.take j ++ x :: out.drop j, by omega, by go_num, HR.out.put HX.out HN.out HB.out HSP.out, ?_, hbw3.trans (hbp.mono hsz3)⟩, by simp [RowKit.intOf]; omega⟩
                    rw [show (out.drop j).take (out.length - j) = out.drop j from List.take_of_length_le (by simp)] at hop
                    rw [show (out.take j ++ x :: out.drop j).length = out.length + 1 by simp; omega]
                    exact owns_base hop hsz3
    · have hltz : ¬ (i : Int) < (ts.length : Int) := by omega
      have HD : Hid (out = tfront ts) := HR.out.done hlt
      go_wp2_with fail
      go_ret
      rw [← HD.out]
      exact ⟨_, rfl, hown, hbw⟩
end Go.Proofs.YtmhbpelbkeclpaaGreatDoor
