import Derived.Test.YtngnfglnfkhheaaGreatKKn
import Derived.Test.YtngnfglnfkhheaaGreatKEmp
import Derived.BigQuiet
namespace Go.Proofs.YtngnfglnfkhheaaGreat.Df
open Go.RowKit Go.Sort
attribute [local go_sem ↓] Go.wp_at_zero Go.wp_at_succ
/-- Where the places stand, as far as they were looked at. -/
def posF (us : List Nat) (i k : Nat) : Int := if k ∈ us.take i then ((us.idxOf k : Nat) : Int) else -1
theorem posF_at {us : List Nat} {i u : Nat} (hd : us.Nodup) (hi : us[i]? = some u) : posF us i u = -1 := by
  unfold posF
  rw [if_neg]
  intro h
  obtain ⟨j, hj⟩ := List.mem_iff_getElem?.1 h
  have hlt := (List.getElem?_eq_some_iff.1 hj).1
  rw [List.length_take] at hlt
  rw [List.getElem?_take_of_lt (by omega)] at hj
  have := nodup_pos hd hi hj
  omega
theorem idx_at {us : List Nat} {i u : Nat} (hd : us.Nodup) (hi : us[i]? = some u) : us.idxOf u = i := by
  have hm : u ∈ us := List.mem_of_getElem? hi
  have h1 : us[us.idxOf u]? = some u := by
    have hlt := List.idxOf_lt_length_of_mem hm
    rw [List.getElem?_eq_getElem hlt]
    exact congrArg some (List.getElem_idxOf hlt)
  exact (nodup_pos hd hi h1).symm
theorem posF_step {us : List Nat} {i u : Nat} (hd : us.Nodup) (hi : us[i]? = some u) (k : Nat) : upd (posF us i) u (i : Int) k = posF us (i + 1) k := by
  unfold upd
  by_cases e : k = u
  · subst e
    rw [if_pos rfl]
    unfold posF
    rw [List.take_add_one, hi, if_pos (by simp), idx_at hd hi]
  · rw [if_neg e]
    unfold posF
    have : (k ∈ us.take (i + 1)) ↔ k ∈ us.take i := by
      rw [List.take_add_one, hi]
      simp [e]
    simp only [this]
/-- What is held by a step, as far as they were looked at. -/
def heldF (ss : List Con) (f : Nat → Int) (k : Nat) : Bool := ss.any fun x => decide (x.out = (k : Int) ∧ f x.inn.toNat + 1 = f k)
theorem heldF_snoc {ss : List Con} {f : Nat → Int} {i : Nat} {x : Con} (hx : ss[i]? = some x) (k : Nat) : heldF (ss.take (i + 1)) f k = (heldF (ss.take i) f k || decide (x.out = (k : Int) ∧ f x.inn.toNat + 1 = f k)) := by
  unfold heldF
  rw [List.take_add_one, hx, List.any_append]
  simp
def updC (M : Nat → Bool) (k : Nat) (b : Bool) : Nat → Bool := fun j => if j = k then b else M j
theorem fnB_setC (n : Nat) (M : Nat → Bool) (k : Nat) (b : Bool) : (fnB n M).set k b = fnB n (updC M k b) := by
  refine List.ext_getElem? fun j => ?_
  rw [List.getElem?_set]
  by_cases hj : j < n
  · by_cases e : k = j
    · subst e
      rw [if_pos rfl, if_pos (by rw [fnB_len]; exact hj), fnB_get _ hj]
      simp [updC]
    · rw [if_neg e, fnB_get _ hj, fnB_get _ hj]
      have : ¬ j = k := fun h => e h.symm
      simp [updC, this]
  · have h2 : (fnB n (updC M k b))[j]? = none := List.getElem?_eq_none (by rw [fnB_len]; omega)
    rw [h2]
    split
    · rw [if_neg (by rw [fnB_len]; omega)]
    · exact List.getElem?_eq_none (by rw [fnB_len]; omega)
/-- Truths by place, as they lie. -/
structure Hb (w : World) (n g : Nat) (M : Nat → Bool) (W : World) : Prop where
  bl : Below w.heap.size w W
  row : W.ownsRow w.heap.size 4 1 (.slice (some ⟨g, 0, none⟩) n n) n (fl EBo (fnB n M))
section
variable {w W W' : World} {n g : Nat} {M : Nat → Bool}
theorem Hb.below (h : Hb w n g M W) (hb : Below W.heap.size W W') : Hb w n g M W' := ⟨h.bl.trans (hb.mono h.bl.size), owns_below h.row hb⟩
theorem Hb.set (h : Hb w n g M W) (k : Nat) (b : Bool) : Hb w n g (updC M k b) (W.setCell ⟨g, k, none⟩ (.bool b)) := by
  obtain ⟨h1, h2⟩ := owns_one h.row k (.bool b)
  rw [fl_Bo, ← List.map_set, fnB_setC, ← fl_Bo] at h1
  exact ⟨h.bl.trans (h2.below h.bl.size (fun j e => by rw [e]; exact (owns_rd h.row g rfl).1)), h1⟩
theorem Hb.cell (h : Hb w n g M W) {k : Nat} (hk : k < n) : W.cell? ⟨g, k, none⟩ = some (.bool (M k)) ∧ g < W.heap.size := by
  have hr : W.ownsRow w.heap.size 4 1 (.slice (some ⟨g, 0, none⟩) n n) (fnB n M).length (fl EBo (fnB n M)) := owns_re h.row (fnB_len n M).symm rfl
  obtain ⟨b, o, c, hv, hb, hx⟩ := (owns_ls (E := EBo) hr).get (fnB_get M hk)
  simp only [Value.slice.injEq, Option.some.injEq, Addr.mk.injEq] at hv
  obtain ⟨⟨rfl, rfl, -⟩, -, -⟩ := hv
  have h0 := hx 0 _ (by decide) rfl
  simp only [Nat.zero_add, show EBo.k = 1 from rfl, Nat.mul_one, Nat.add_zero] at h0
  exact ⟨h0, hb⟩
theorem Hb.re {M' : Nat → Bool} (h : Hb w n g M W) (hf : ∀ k, k < n → M k = M' k) : Hb w n g M' W := by
  have e : fnB n M = fnB n M' := List.map_congr_left fun k hk => hf k (List.mem_range.1 hk)
  exact ⟨h.bl, by rw [← e]; exact h.row⟩
end
theorem find_some {g : Gph} (hOK : Gok g) (h : ordN (stL g).length (stL g) (stL g).length = none) : 0 < ((findN (stL g) (stL g).length).getD []).length := by
  obtain ⟨x, m, hx, hr⟩ := ord_none h
  have h1 := findN_ok (ls := stL g) (fun l hl y hy => (((stL_good hOK).2 l hl).2 y hy).1) (stL g).length
  revert h1
  cases findN (stL g) (stL g).length with
  | none => intro h1; exact absurd hr (h1 x hx m)
  | some l =>
    rintro ⟨q, _, h2, _⟩
    cases l with
    | nil => cases h2
    | cons => simp
theorem find_none {g : Gph} (hOK : Gok g) {us : List Nat} (h : Or (stL g) us) : ((findN (stL g) (stL g).length).getD []).length = 0 := by
  have h1 := findN_ok (ls := stL g) (fun l hl y hy => (((stL_good hOK).2 l hl).2 y hy).1) (stL g).length
  revert h1
  cases findN (stL g) (stL g).length with
  | none => intro _; rfl
  | some l =>
    rintro ⟨q, _, h2, h3, _⟩
    exact absurd ⟨l, h2, h3, Nat.le_refl _⟩ (h.none (sp_lt hOK) q l.length)
set_option maxRecDepth 100000 in
set_option maxHeartbeats 8000000 in
theorem cycleOrders_any {M : Nat} {nv ev : Value} {a : Int} {xs : List NV} {es : List Edg} (w : World) (hG : GR M w nv ev xs es) (hM : M ≤ w.heap.size) (hC : Gcap ev xs) : Calls Tryz.prog 3 #[.agg (gvc a nv ev)] w fun r w' => r = .returned (.bool true) ∧ Below w.heap.size w w' := by
  have hmx : Tryz.prog.follows .mixedOrders = true := by kernel_rfl
  obtain ⟨W0, hW0⟩ : ∃ W, W = w.alloc (.cells (gvc a nv ev) 25) := ⟨_, rfl⟩
  obtain ⟨gx, hgx⟩ : ∃ b, b = w.heap.size := ⟨_, rfl⟩
  have b0 : Below w.heap.size w W0 := by rw [hW0]; exact ((Gr.refl w).alloc _).below
  have HB : Hid (W0.heap[gx]? = some (.cells (gvc a nv ev) 25 (0, 0)) ∧ Below w.heap.size w W0) := ⟨by rw [hW0, hgx]; exact heap_new' _ _, b0⟩
  have HG : Hid (∀ W, Below W0.heap.size W0 W → GR W.heap.size W nv ev xs es) := fun W hb => ((hG.below b0).below hb).up (Nat.le_trans (Nat.le_trans hM b0.size) hb.size)
  have HC := hid hC
  obtain ⟨qn, cn, hnv⟩ := hG.nodes.form
  obtain ⟨qe, ce, hev⟩ := hG.edges.form
  have HW : Hid (w.alloc (.cells #[.int .i64 a, .slice qn xs.length cn, .slice qe es.length ce] 25) = W0 ∧ w.heap.size = gx) := by rw [← hnv, ← hev]; exact ⟨hW0.symm, hgx.symm⟩
  obtain ⟨nl, hnl⟩ : ∃ n, n = xs.length := ⟨_, rfl⟩
  obtain ⟨el, hel⟩ : ∃ n, n = es.length := ⟨_, rfl⟩
  subst hnv
  subst hev
  rw [← hnl] at HB HG HW ⊢
  rw [← hel] at HB HG HC HW ⊢
  have HNL := hid hnl
  clear hG hM hC hW0 hgx b0 hnl hel
  go_enter Tryz.func3, Tryz.ntmps3
  go_upto_region 1 with fail
  rw [HW.out.1, HW.out.2]
  clear HW
  go_wp2_with fail
  refine (known_any W0).mono ?_
  rintro r w1 ⟨rfl, H1⟩
  have hb1 := (H1.out.block _ (tk_lt HB.out.1)).trans HB.out.1
  have c1 := (tk_store hb1).1
  have l1 := tk_lt hb1
  have hch := rcheck_any (a := a) w1 (HG.out w1 H1.out) (Nat.le_refl _)
  clear hb1
  go_wp2_with fail
  refine hch.mono ?_
  clear hch c1 l1
  rintro r w2 ⟨e, t, rfl, hfl, hb2⟩
  have B2 : Hid (Below W0.heap.size W0 w2) := H1.out.trans (hb2.mono H1.out.size)
  clear hb2 H1
  by_cases he : e = 0
  · subst he
    have hOK : Gok (gof a xs es) := hfl.ok.1 rfl
    have HFL := hid hfl
    have HOK := hid hOK
    have hb1 := (B2.out.block _ (tk_lt HB.out.1)).trans HB.out.1
    have c1 := (tk_store hb1).1
    have l1 := tk_lt hb1
    have hnew := new_any (a := a) w2 (HG.out w2 B2.out) HC.out
    clear hb1 hfl hOK
    go_wp2_with fail
    refine hnew.mono ?_
    clear hnew c1 l1
    rintro r w3 ⟨hb3, e3, t3, hfl3, hr3⟩
    obtain ⟨rfl, rfl⟩ := hfl3.same HFL.out
    rcases hr3 with ⟨h0, _⟩ | ⟨_, gb, rfl, hm⟩
    · exact absurd rfl h0
    have B3 : Hid (Below W0.heap.size W0 w3) := B2.out.trans (hb3.mono B2.out.size)
    have HM := hid hm
    clear hb3 hfl3 hm B2
    have hord := order_any w3 HM.out HOK.out
    obtain ⟨ls, hls⟩ : ∃ l, l = stL (gof a xs es) := ⟨_, rfl⟩
    rw [← hls] at hord
    have HLS := hid hls
    obtain ⟨n, hn⟩ : ∃ n, n = ls.length := ⟨_, rfl⟩
    have HN := hid hn
    have hn9 : n ≤ 1000 := by rw [hn, hls]; exact (stL_good HOK.out).1
    clear hls hn
    go_wp2_with fail
    refine hord.mono ?_
    clear hord
    rintro r w4 ⟨hb4, hr4⟩
    have B34 := hid hb4
    have hrank := rank_any w4 (HM.out.below hb4) HOK.out
    rw [← HLS.out] at hrank
    clear hb4
    rcases hr4 with ⟨eo, rfl⟩ | ⟨o, fo, d, eo, rfl, hrow⟩
    · have HEO := hid eo
      clear eo
      go_wp2_with fail
      refine hrank.mono ?_
      clear hrank
      rintro r w5 ⟨hb5, hr5⟩
      rcases hr5 with ⟨_, rfl⟩ | ⟨us, f5, d5, e5, _⟩
      · have B35 : Hid (Below w3.heap.size w3 w5) := B34.out.trans (hb5.mono B34.out.size)
        have hfind := find_any w5 (HM.out.below B35.out) HOK.out
        clear hb5
        go_wp2_with fail
        refine hfind.mono ?_
        clear hfind
        rintro r w6 ⟨fv, rfl, hb6, hrow6⟩
        have hpos := find_some HOK.out (by rw [← HLS.out]; exact HEO.out)
        obtain ⟨q6, m6, k6, rfl⟩ := owns_form hrow6
        obtain ⟨em, _⟩ := owns_caps hrow6 _ _ _ rfl
        rw [← em] at hpos
        have FIN : Hid (Below w.heap.size w w6) := by
          have h1 := B35.out.trans (hb6.mono B35.out.size)
          have h2 := B3.out.trans (h1.mono B3.out.size)
          exact HB.out.2.trans (h2.mono HB.out.2.size)
        have hm6 : (0 : Int) < (m6 : Int) := by omega
        clear em hrow6 hb6
        go_wp2_with fail
        go_ret
        exact ⟨by first | rfl | simp [hpos], FIN.out⟩
      · rw [HEO.out] at e5
        cases e5
    · obtain ⟨us, ho, hor⟩ := ord_some eo
      have HEO := hid eo
      have HOR := hid hor
      have hul : us.length = n := by rw [hor.len, HN.out]
      have hol : o.length = n := by rw [ho]; simpa using hul
      have HUO := hid ho
      have HUL := hid hul
      obtain ⟨qo, mo, co, rfl⟩ := owns_form hrow
      obtain ⟨rfl, _⟩ := owns_caps hrow _ _ _ rfl
      have LO4 : Hid (Lz EI w4.heap.size w4 (.slice qo o.length co) o) := owns_lz (E := EI) hrow
      rw [hol] at LO4 ⊢
      clear eo ho hor hrow hol hul
      go_wp2_with fail
      refine hrank.mono ?_
      clear hrank
      rintro r w5 ⟨hb5, hr5⟩
      rcases hr5 with ⟨e5, _⟩ | ⟨us5, f5, d5, e5, rfl, hrow5⟩
      · rw [HEO.out] at e5
        cases e5
      obtain rfl : us = us5 := by
        rw [HEO.out] at e5
        simp only [Option.some.injEq, Prod.mk.injEq] at e5
        rw [HUO.out] at e5
        exact ints_inj e5.1
      obtain ⟨rf, hrf⟩ : ∃ f, f = rkN ls us := ⟨_, rfl⟩
      have HRK : Hid (Rk ls us us.length rf) := by
        have h := Rk.all HOR.out us.length (Nat.le_refl _)
        rw [List.take_length, ← hrf] at h
        exact h
      rw [← HN.out, ← hrf] at hrow5
      obtain ⟨q5, c5, rfl, hz5⟩ := own_z hrow5 (fnL_len n rf).symm
      have LR5 := hid hz5
      have B35 : Hid (Below w3.heap.size w3 w5 ∧ Below w4.heap.size w4 w5) := ⟨B34.out.trans (hb5.mono B34.out.size), hb5⟩
      have B05 : Hid (Below W0.heap.size W0 w5) := B3.out.trans (B35.out.1.mono B3.out.size)
      have hb1 := (B05.out.block _ (tk_lt HB.out.1)).trans HB.out.1
      have c1 := (tk_store hb1).1
      have l1 := tk_lt hb1
      have hpl := rplaces_any (ev := .slice qe el ce) (a := a) w5 (nr_of (HG.out w5 B05.out) (Nat.le_refl _) HOK.out)
      have hpn : firstN (xs.map NV.n) xs.length = n := by
        rw [HN.out, HLS.out, stL_len]
        unfold plN firstN
        simp
      rw [hpn] at hpl
      clear hpn hb5 e5 hrow5 hz5 hrf hb1
      go_wp2_with fail
      refine hpl.mono ?_
      clear hpl c1 l1
      rintro r w6 ⟨rfl, g6⟩
      have hfind := find_any w6 ((HM.out.below B35.out.1).below g6.below) HOK.out
      have B56 := hid g6.below
      clear g6
      go_wp2_with fail
      refine hfind.mono ?_
      clear hfind
      rintro r w7 ⟨fv, rfl, hb7, hrow7⟩
      have hz := find_none HOK.out (us := us) (by rw [← HLS.out]; exact HOR.out)
      obtain ⟨q7, m7, k7, rfl⟩ := owns_form hrow7
      obtain ⟨em, _⟩ := owns_caps hrow7 _ _ _ rfl
      rw [hz] at em
      subst em
      have B57 : Hid (Below w5.heap.size w5 w7) := B56.out.trans (hb7.mono B56.out.size)
      have B07 : Hid (Below W0.heap.size W0 w7) := B05.out.trans (B57.out.mono B05.out.size)
      have LO : Hid (Lz EI w7.heap.size w7 (.slice qo n co) o) := ((LO4.out.below B35.out.2).up B35.out.2.size |>.below B57.out).up B57.out.size
      have LR : Hid (Lz EI w7.heap.size w7 (.slice q5 n c5) (fnL n rf)) := (LR5.out.below B57.out).up B57.out.size
      obtain ⟨i0, hi0, hz0, hz1, hz2⟩ := info_parts infoIK
      clear hz hrow7 hb7 LO4 LR5 B56 B57 B05 B35 B34 B3
      go_upto_region 15 with (at_make; refine wpList_make_full _ rfl _ _ 33 rfl w7.heap.size 3 i0 (.int .i64 0) 1 Tryz.underlying33 hi0 hz0 hz1 _ _ _ _ n rfl rfl rfl rfl (by rw [hz2]; omega) (by unfold maxLen; omega) (Nat.le_refl _) ?_; intro w8 hrow hg1)
      obtain ⟨g8, hg8⟩ : ∃ g, g = w7.heap.size := ⟨_, rfl⟩
      rw [← hg8]
      have W1 : Hid (Wt w7 n g8 (fun k => if k < 0 then -1 else 0) w8) := by
        refine ⟨(Kp.grownBy (S := fun _ => False) hg1 (fun _ h => by cases h)).below (Nat.le_refl _) (fun _ h => h.elim), ?_⟩
        rw [hg8]
        refine owns_re hrow rfl ?_
        rw [madeK, fnL_zero, fl_I]
        simp
      clear hrow hg1 hg8 hi0 hz0 hz1 hz2
      go_wp2_with fail
      go_loopw [14] (fun s14 wr => ∃ i : Nat, i ≤ n ∧ s14 = .int .i64 (i : Nat) ∧ Hid (Wt w7 n g8 (fun k => if k < i then -1 else 0) wr)) (fun s14 _ => n - (RowKit.intOf s14).toNat)
      case atStart => exact ⟨0, Nat.zero_le _, rfl, W1.out⟩
      case round =>
        clear W1
        obtain ⟨i, hi, rfl, HI⟩ := hrel
        by_cases hlt : i < n
        · have hltz : (i : Int) < (n : Int) := by omega
          have hi1 : (0 : Int) ≤ (i : Int) := by omega
          have hc := (HI.out.cell hlt).1
          have lg := (HI.out.cell hlt).2
          have fg := own_frK HI.out.row
          have FIN : Hid (Wt w7 n g8 (fun k => if k < i + 1 then -1 else 0) (wr.setCell ⟨g8, i, none⟩ (.int .i64 (-1)))) := (HI.out.set i (-1)).1.re (fun k _ => by
            unfold upd
            by_cases e : k = i
            · subst e
              rw [if_pos rfl, if_pos (Nat.lt_succ_self _)]
            · rw [if_neg e]
              dsimp only
              by_cases e2 : k < i
              · rw [if_pos e2, if_pos (by omega)]
              · rw [if_neg e2, if_neg (by omega)])
          clear HI
          go_wp2_with fail
          go_roundw
          case rel => exact ⟨i + 1, by omega, by go_num, FIN.out⟩
          case measure => simp [RowKit.intOf]; omega
        · have hltz : ¬ (i : Int) < (n : Int) := by omega
          have W2 : Hid (Wt w7 n g8 (posF us 0) wr) := HI.out.re (fun k hk => by rw [if_pos (by omega)]; simp [posF])
          clear HI
          go_wp2_with fail
          go_loopw [15] (fun s15 wr => ∃ i : Nat, i ≤ n ∧ s15 = .int .i64 (i : Nat) ∧ Hid (Wt w7 n g8 (posF us i) wr)) (fun s15 _ => n - (RowKit.intOf s15).toNat)
          case atStart => exact ⟨0, Nat.zero_le _, rfl, W2.out⟩
          case round =>
            clear W2
            obtain ⟨i, hi, rfl, HI⟩ := hrel
            by_cases hlt : i < n
            · have hltz : (i : Int) < (n : Int) := by omega
              have hi1 : (0 : Int) ≤ (i : Int) := by omega
              obtain ⟨u, hu⟩ : ∃ u, us[i]? = some u := ⟨us[i]'(by have := HUL.out; omega), by simp⟩
              have hun : u < n := by rw [HN.out]; exact HOR.out.bd u (List.mem_of_getElem? hu)
              have hou : o[i]? = some ((u : Nat) : Int) := by rw [HUO.out]; simp [hu]
              obtain ⟨b1, o1, c1, e1, z1, x1⟩ := ls_atI ((LO.out.below HI.out.bl).ls hou) hou
              simp only [Value.slice.injEq] at e1
              obtain ⟨rfl, -, rfl⟩ := e1
              have hc := (HI.out.cell hun).1
              rw [posF_at HOR.out.nd hu] at hc
              have lg := (HI.out.cell hun).2
              have fg := own_frK HI.out.row
              have FIN : Hid (Wt w7 n g8 (posF us (i + 1)) (wr.setCell ⟨g8, u, none⟩ (.int .i64 (i : Int)))) := (HI.out.set u (i : Int)).1.re (fun k _ => posF_step HOR.out.nd hu k)
              have hu0 : (0 : Int) ≤ (u : Int) := by omega
              have huz : (u : Int) < (n : Int) := by omega
              have hu1 : ¬ (u : Int) < 0 := by omega
              have hu2 : ¬ (n : Int) ≤ (u : Int) := by omega
              clear hu hou HI
              go_wp2_with fail
              go_roundw
              case rel => exact ⟨i + 1, by omega, by go_num, FIN.out⟩
              case measure => simp [RowKit.intOf]; omega
            · have hltz : ¬ (i : Int) < (n : Int) := by omega
              obtain rfl : i = n := by omega
              have B7 : Hid (Below W0.heap.size W0 wr) := B07.out.trans (HI.out.bl.mono B07.out.size)
              have hb1 := (B7.out.block _ (tk_lt HB.out.1)).trans HB.out.1
              have c1 := (tk_store hb1).1
              have l1 := tk_lt hb1
              have hem := kempty_any (a := a) wr (HG.out wr B7.out) (Nat.le_refl _) HOK.out
              clear hb1
              go_wp2_with fail
              refine hem.mono ?_
              clear hem c1 l1
              rintro r w9 ⟨sv, rfl, hb9, hrow9⟩
              obtain ⟨ss, hss⟩ : ∃ l, l = emR (gof a xs es) := ⟨_, rfl⟩
              rw [← hss] at hrow9
              have HST : Hid (∀ x ∈ ss, ∃ p q : Nat, x = ⟨(p : Int), (q : Int), (0, 0, 0)⟩ ∧ Sp ls p q ∧ p < i ∧ q < i) := fun x hx => by
                rw [hss] at hx
                obtain ⟨p, q, e1, e2⟩ := emR_mem.1 hx
                have h1 := (sp_iff HOK.out).2 e2
                rw [← HLS.out] at h1
                have h2 := stS_lt HOK.out e2
                rw [← stL_len, ← HLS.out, ← HN.out] at h2
                exact ⟨p, q, e1, h1, h2⟩
              have HSP : Hid (∀ p q : Nat, Sp ls p q → ⟨(p : Int), (q : Int), (0, 0, 0)⟩ ∈ ss) := fun p q h => by
                rw [hss]
                rw [HLS.out] at h
                exact emR_mem.2 ⟨p, q, rfl, (sp_iff HOK.out).1 h⟩
              have hs9 : ss.length ≤ 432 := by rw [hss]; exact Nat.le_trans (List.length_filter_le _ _) (stR_len HOK.out)
              obtain ⟨qs, ms, cs, rfl⟩ := owns_form hrow9
              obtain ⟨rfl, _⟩ := owns_caps hrow9 _ _ _ rfl
              have B79 : Hid (Below w7.heap.size w7 w9) := HI.out.bl.trans (hb9.mono HI.out.bl.size)
              have B9 : Hid (Below w.heap.size w w9) := by
                have h1 := B07.out.trans (B79.out.mono B07.out.size)
                exact HB.out.2.trans (h1.mono HB.out.2.size)
              have LS : Hid (Lz EC w9.heap.size w9 (.slice qs ss.length cs) ss) := owns_lz (E := EC) hrow9
              have LA : Hid (Lz EI w9.heap.size w9 (.slice (some ⟨g8, 0, none⟩) i i) (fnL i (posF us i))) := by
                have h1 := (HI.out.below hb9).row
                exact owns_lz (E := EI) (owns_re h1 (fnL_len _ _).symm rfl)
              have LR9 : Hid (Lz EI w9.heap.size w9 (.slice q5 i c5) (fnL i rf)) := (LR.out.below B79.out).up B79.out.size
              have HPOS : Hid (∀ p q : Nat, Sp ls p q → p < i → q < i → posF us i p < posF us i q) := fun p q hs hp hq => by
                obtain ⟨i1, h1⟩ := HOR.out.at (k := p) (by rw [← HN.out]; exact hp)
                obtain ⟨i2, h2⟩ := HOR.out.at (k := q) (by rw [← HN.out]; exact hq)
                have h3 := HOR.out.bef i1 i2 p q h1 h2 hs
                unfold posF
                rw [List.take_of_length_le (by have := HUL.out; omega), if_pos (List.mem_of_getElem? h1), if_pos (List.mem_of_getElem? h2), idx_at HOR.out.nd h1, idx_at HOR.out.nd h2]
                omega
              obtain ⟨sl, hsl⟩ : ∃ n, n = ss.length := ⟨_, rfl⟩
              rw [← hsl] at LS hs9 ⊢
              have HSL := hid hsl
              obtain ⟨i0, hi0, hz0, hz1, hz2⟩ := info_parts (show (Tryz.prog.info? 4).map (fun i => (i.zero, i.size, i.bytes)) = some (some (.bool false), 1, 1) by kernel_rfl)
              obtain ⟨pf, hpf⟩ : ∃ f, f = posF us i := ⟨_, rfl⟩
              rw [← hpf] at LA HPOS
              clear hss hrow9 hb9 HI B7 B79 LO LR hsl hpf
              go_upto_region 27 with (at_make; refine wpList_make_full _ rfl _ _ 40 rfl w9.heap.size 4 i0 (.bool false) 1 Tryz.underlying40 hi0 hz0 hz1 _ _ _ _ i rfl rfl rfl rfl (by rw [hz2]; omega) (by unfold maxLen; omega) (Nat.le_refl _) ?_; intro w10 hrow hg1)
              obtain ⟨g10, hg10⟩ : ∃ g, g = w9.heap.size := ⟨_, rfl⟩
              rw [← hg10]
              have H10 : Hid (Hb w9 i g10 (heldF (ss.take 0) rf) w10) := by
                refine ⟨(Kp.grownBy (S := fun _ => False) hg1 (fun _ h => by cases h)).below (Nat.le_refl _) (fun _ h => h.elim), ?_⟩
                rw [hg10]
                refine owns_re hrow rfl ?_
                rw [madeB]
                rfl
              clear hrow hg1 hg10 hi0 hz0 hz1 hz2
              go_wp2_with fail
              go_loopw [18] (fun s18 wr => ∃ k : Nat, k ≤ sl ∧ s18 = .int .i64 (k : Nat) ∧ Hid (Hb w9 i g10 (heldF (ss.take k) rf) wr)) (fun s18 _ => sl - (RowKit.intOf s18).toNat)
              case atStart => exact ⟨0, Nat.zero_le _, rfl, H10.out⟩
              case round =>
                clear H10
                obtain ⟨k, hk, rfl, HI⟩ := hrel
                by_cases hlk : k < sl
                · have hlkz : (k : Int) < (sl : Int) := by omega
                  have hk0 : (0 : Int) ≤ (k : Int) := by omega
                  obtain ⟨x, hx⟩ : ∃ x, ss[k]? = some x := ⟨ss[k]'(by have := HSL.out; omega), by simp⟩
                  obtain ⟨p, q, rfl, hsp, hpn, hqn⟩ := HST.out x (List.mem_of_getElem? hx)
                  obtain ⟨b2, o2, c2, ev2, zz2, y0, y1, y2, y3, y4⟩ := ls_atC ((LS.out.below HI.out.bl).ls hx) hx
                  simp only [Value.slice.injEq] at ev2
                  obtain ⟨rfl, -, rfl⟩ := ev2
                  obtain ⟨yb, hyb⟩ : ∃ b, b = wr.heap.size := ⟨_, rfl⟩
                  obtain ⟨W6, hW6⟩ : ∃ W, W = wr.alloc (.cells #[.int .i64 (p : Int), .int .i64 (q : Int), .int .u64 0, .int .u64 0, .int .u64 0] 45) := ⟨_, rfl⟩
                  have hb6 : Below wr.heap.size wr W6 := by rw [hW6]; exact ((Gr.refl wr).alloc _).below
                  have P6 : Hid (Hb w9 i g10 (heldF (ss.take k) rf) W6 ∧ W6.heap[yb]? = some (.cells #[.int .i64 (p : Int), .int .i64 (q : Int), .int .u64 0, .int .u64 0, .int .u64 0] 45 (0, 0))) := ⟨HI.out.below hb6, by rw [hW6, hyb]; exact heap_new' _ _⟩
                  have HW6 : Hid (wr.alloc (.cells #[.int .i64 (p : Int), .int .i64 (q : Int), .int .u64 0, .int .u64 0, .int .u64 0] 45) = W6 ∧ wr.heap.size = yb) := ⟨hW6.symm, hyb.symm⟩
                  have HXX := hid hx
                  have HRR : Hid (rf p + 1 ≤ rf q ∧ 0 ≤ rf p ∧ rf p ≤ 1000 ∧ 0 ≤ rf q ∧ rf q ≤ 1000) := by
                    have h1 := HRK.out.up p q (by rw [List.take_length]; exact all_in HOR.out.nd HOR.out.bd HOR.out.len p (by rw [← HN.out]; exact hpn)) hsp
                    have h2 := HRK.out.pos p
                    have h3 := HRK.out.pos q
                    have h4 := HUL.out
                    refine ⟨h1, ?_⟩
                    omega
                  have hpos := HPOS.out p q hsp hpn hqn
                  obtain ⟨bA, oA, cA, eA, zA, xA1⟩ := ls_atI ((LA.out.below P6.out.1.bl).ls (fnL_get pf hpn)) (fnL_get pf hpn)
                  obtain ⟨bA2, oA2, cA2, eA2, -, xA2⟩ := ls_atI ((LA.out.below P6.out.1.bl).ls (fnL_get pf hqn)) (fnL_get pf hqn)
                  rw [eA] at eA2
                  simp only [Value.slice.injEq, Option.some.injEq, Addr.mk.injEq] at eA eA2
                  obtain ⟨⟨rfl, rfl, -⟩, -, rfl⟩ := eA2
                  obtain ⟨⟨rfl, rfl, -⟩, -, -⟩ := eA
                  obtain ⟨bR, oR, cR, eR, zR, xR1⟩ := ls_atI ((LR9.out.below P6.out.1.bl).ls (fnL_get rf hpn)) (fnL_get rf hpn)
                  obtain ⟨bR2, oR2, cR2, eR2, -, xR2⟩ := ls_atI ((LR9.out.below P6.out.1.bl).ls (fnL_get rf hqn)) (fnL_get rf hqn)
                  rw [eR] at eR2
                  simp only [Value.slice.injEq, Option.some.injEq, Addr.mk.injEq] at eR eR2
                  obtain ⟨⟨rfl, rfl, -⟩, -, rfl⟩ := eR2
                  obtain ⟨rfl, -, rfl⟩ := eR
                  have HCR : Hid (W6.cell? ⟨bR, oR + p, none⟩ = some (.int .i64 (rf p)) ∧ W6.cell? ⟨bR, oR + q, none⟩ = some (.int .i64 (rf q)) ∧ bR < W6.heap.size) := ⟨xR1, xR2, zR⟩
                  obtain ⟨ap, hap⟩ : ∃ x, x = pf p := ⟨_, rfl⟩
                  obtain ⟨aq, haq⟩ : ∃ x, x = pf q := ⟨_, rfl⟩
                  obtain ⟨rp, hrp⟩ : ∃ x, x = rf p := ⟨_, rfl⟩
                  obtain ⟨rq, hrq⟩ : ∃ x, x = rf q := ⟨_, rfl⟩
                  rw [← hap] at xA1 hpos
                  rw [← haq] at xA2 hpos
                  rw [← hrp] at xR1 HCR HRR
                  rw [← hrq] at xR2 HCR HRR
                  have HRPQ : Hid (rp = rf p ∧ rq = rf q) := ⟨hrp, hrq⟩
                  have hg1 : ¬ aq ≤ ap := by omega
                  have hg2 : ¬ rq ≤ rp := by have := HRR.out.1; omega
                  have hp0 : (0 : Int) ≤ (p : Int) := by omega
                  have hq0 : (0 : Int) ≤ (q : Int) := by omega
                  have hpz : (p : Int) < (i : Int) := by omega
                  have hqz : (q : Int) < (i : Int) := by omega
                  clear hx hW6 hyb hb6 HI hap haq hrp hrq hpos hsp
                  go_upto_region 31 with fail
                  rw [HW6.out.1, HW6.out.2]
                  clear HW6 y0 y1 y2 y3 y4 zz2
                  have cy := (tk_store P6.out.2).1
                  have ly := tk_lt P6.out.2
                  rw [Nat.zero_add] at xA1 xA2
                  go_quiet (fail)
                  obtain ⟨W7, hW7⟩ : ∃ W, W = W6.drewN nq := ⟨_, rfl⟩
                  rw [← hW7]
                  have b7 : Below W6.heap.size W6 W7 := by rw [hW7]; exact ((Gr.refl W6).drewN nq).below
                  have P7 : Hid (Hb w9 i g10 (heldF (ss.take k) rf) W7 ∧ W7.heap[yb]? = some (.cells #[.int .i64 (p : Int), .int .i64 (q : Int), .int .u64 0, .int .u64 0, .int .u64 0] 45 (0, 0)) ∧ W7.cell? ⟨bR, oR + p, none⟩ = some (.int .i64 rp) ∧ W7.cell? ⟨bR, oR + q, none⟩ = some (.int .i64 rq) ∧ bR < W7.heap.size) := ⟨P6.out.1.below b7, (b7.block _ (tk_lt P6.out.2)).trans P6.out.2, (b7.cell (p := ⟨bR, oR + p, none⟩) HCR.out.2.2).trans HCR.out.1, (b7.cell (p := ⟨bR, oR + q, none⟩) HCR.out.2.2).trans HCR.out.2.1, Nat.lt_of_lt_of_le HCR.out.2.2 b7.size⟩
                  clear hW7 b7 P6 HCR cy ly xA1 xA2 xR1 xR2 zA zR hg1 hg2
                  have hh := (P7.out.1.cell hqn).1
                  have lh := (P7.out.1.cell hqn).2
                  have fh := P7.out.1.row.frozenAt
                  have HNXT : Hid (∀ b : Bool, (b = (heldF (ss.take k) rf q || decide (rp + 1 = rq))) → Hb w9 i g10 (heldF (ss.take (k + 1)) rf) ((W7.setCell ⟨g10, q, none⟩ (.bool b)).drew)) := fun b hb => by
                    refine ((P7.out.1.set q b).below (Gr.refl _).drew.below).re (fun j _ => ?_)
                    rw [heldF_snoc HXX.out]
                    unfold updC
                    by_cases e : j = q
                    · subst e
                      rw [if_pos rfl, hb, HRPQ.out.1, HRPQ.out.2]
                      simp
                    · rw [if_neg e]
                      have e2 : ¬ ((q : Nat) : Int) = ((j : Nat) : Int) := by omega
                      simp [e2]
                  have hwrap : IntKind.i64.wrap (rp + 1) = rp + 1 := by rw [IntKind.wrap_i64]; have := HRR.out; omega
                  cases hhe : heldF (ss.take k) rf q with
                  | true =>
                    rw [hhe] at hh
                    have FIN := hid (HNXT.out true (by rw [hhe]; rfl))
                    obtain ⟨w12, hw12⟩ : ∃ W, W = (W7.setCell ⟨g10, q, none⟩ (.bool true)).drew := ⟨_, rfl⟩
                    rw [← hw12] at FIN
                    have HW12 := hid hw12
                    clear HNXT hhe hw12
                    go_upto_region 33 with fail
                    have hS0 : (W7.drew).heap[yb]? = some (.cells #[.int .i64 (p : Int), .int .i64 (q : Int), .int .u64 0, .int .u64 0, .int .u64 0] 45 (0, 0)) ∧ (W7.drew).cell? ⟨g10, q, none⟩ = some (.bool true) ∧ g10 < (W7.drew).heap.size ∧ ∀ j, (W7.drew).frozen? ⟨g10, j, none⟩ = false := ⟨P7.out.2.1, hh, lh, fh⟩
                    clear hh lh fh
                    refine wp_regionD (S := fun W => W.heap[yb]? = some (.cells #[.int .i64 (p : Int), .int .i64 (q : Int), .int .u64 0, .int .u64 0, .int .u64 0] 45 (0, 0)) ∧ W.cell? ⟨g10, q, none⟩ = some (.bool true) ∧ g10 < W.heap.size ∧ ∀ j, W.frozen? ⟨g10, j, none⟩ = false) (D := [23]) hmx ?_
                    refine' wpAnyD_take (i := 0) (oi := { dst := some 175, op := Go.Op.move (Go.Operand.tmp 17), type := 40, pos := "law.go:136", after := #[], guard := none }) (v := _) rfl (by kernel_rfl) (by kernel_rfl) (by kernel_rfl) (fun _ _ _ h => h) (by kernel_rfl) (Or.inl ⟨by rfl, ?hy1⟩) hS0 ?rest1
                    case hy1 => (intro W hSw; go_simp; try (with_reducible rfl))
                    try simp only [Act.put, List.setIfInBounds_toArray, List.set_cons_zero, List.set_cons_succ]
                    refine' wpAnyD_take (i := 1) (oi := { dst := some 176, op := Go.Op.fieldAddr 45 (Go.Operand.tmp 19) 1, type := 0, pos := "law.go:136", after := #[], guard := none }) (v := _) rfl (by kernel_rfl) (by kernel_rfl) (by kernel_rfl) (fun _ _ _ h => h) (by kernel_rfl) (Or.inl ⟨by rfl, ?hy2⟩) hS0 ?rest2
                    case hy2 => (intro W hSw; have hc := (tk_store hSw.1).1; have hl := tk_lt hSw.1; go_simp; try (with_reducible rfl))
                    try simp only [Act.put, List.setIfInBounds_toArray, List.set_cons_zero, List.set_cons_succ]
                    refine' wpAnyD_take (i := 2) (oi := { dst := some 177, op := Go.Op.load 3 (Go.Operand.tmp 176), type := 3, pos := "law.go:136", after := #[{ on := 1, ground := Go.Ground.data }], guard := none }) (v := _) rfl (by kernel_rfl) (by kernel_rfl) (by kernel_rfl) (fun _ _ _ h => h) (by kernel_rfl) (Or.inl ⟨by rfl, ?hy3⟩) hS0 ?rest3
                    case hy3 => (intro W hSw; have hc := (tk_store hSw.1).1; have hl := tk_lt hSw.1; go_simp; try (with_reducible rfl))
                    try simp only [Act.put, List.setIfInBounds_toArray, List.set_cons_zero, List.set_cons_succ]
                    refine' wpAnyD_take (i := 3) (oi := { dst := some 178, op := Go.Op.move (Go.Operand.tmp 17), type := 40, pos := "law.go:136", after := #[], guard := none }) (v := _) rfl (by kernel_rfl) (by kernel_rfl) (by kernel_rfl) (fun _ _ _ h => h) (by kernel_rfl) (Or.inl ⟨by rfl, ?hy4⟩) hS0 ?rest4
                    case hy4 => (intro W hSw; go_simp; try (with_reducible rfl))
                    try simp only [Act.put, List.setIfInBounds_toArray, List.set_cons_zero, List.set_cons_succ]
                    refine' wpAnyD_take (i := 4) (oi := { dst := some 179, op := Go.Op.fieldAddr 45 (Go.Operand.tmp 19) 1, type := 0, pos := "law.go:136", after := #[], guard := none }) (v := _) rfl (by kernel_rfl) (by kernel_rfl) (by kernel_rfl) (fun _ _ _ h => h) (by kernel_rfl) (Or.inl ⟨by rfl, ?hy5⟩) hS0 ?rest5
                    case hy5 => (intro W hSw; have hc := (tk_store hSw.1).1; have hl := tk_lt hSw.1; go_simp; try (with_reducible rfl))
                    try simp only [Act.put, List.setIfInBounds_toArray, List.set_cons_zero, List.set_cons_succ]
                    refine' wpAnyD_take (i := 5) (oi := { dst := some 180, op := Go.Op.load 3 (Go.Operand.tmp 179), type := 3, pos := "law.go:136", after := #[{ on := 4, ground := Go.Ground.data }], guard := none }) (v := _) rfl (by kernel_rfl) (by kernel_rfl) (by kernel_rfl) (fun _ _ _ h => h) (by kernel_rfl) (Or.inl ⟨by rfl, ?hy6⟩) hS0 ?rest6
                    case hy6 => (intro W hSw; have hc := (tk_store hSw.1).1; have hl := tk_lt hSw.1; go_simp; try (with_reducible rfl))
                    try simp only [Act.put, List.setIfInBounds_toArray, List.set_cons_zero, List.set_cons_succ]
                    refine' wpAnyD_take (i := 6) (oi := { dst := some 181, op := Go.Op.indexAddr 40 (Go.Operand.tmp 178) (Go.Operand.tmp 180), type := 0, pos := "law.go:136", after := #[{ on := 3, ground := Go.Ground.data }, { on := 5, ground := Go.Ground.data }], guard := none }) (v := _) rfl (by kernel_rfl) (by kernel_rfl) (by kernel_rfl) (fun _ _ _ h => h) (by kernel_rfl) (Or.inl ⟨by rfl, ?hy7⟩) hS0 ?rest7
                    case hy7 => (intro W hSw; go_simp; try (with_reducible rfl))
                    try simp only [Act.put, List.setIfInBounds_toArray, List.set_cons_zero, List.set_cons_succ]
                    refine' wpAnyD_take (i := 7) (oi := { dst := some 182, op := Go.Op.load 4 (Go.Operand.tmp 181), type := 4, pos := "law.go:136", after := #[{ on := 6, ground := Go.Ground.data }], guard := none }) (v := _) rfl (by kernel_rfl) (by kernel_rfl) (by kernel_rfl) (fun _ _ _ h => h) (by kernel_rfl) (Or.inl ⟨by rfl, ?hy8⟩) hS0 ?rest8
                    case hy8 => (intro W hSw; have hc := hSw.2.1; have hl := hSw.2.2.1; go_simp; try (with_reducible rfl))
                    try simp only [Act.put, List.setIfInBounds_toArray, List.set_cons_zero, List.set_cons_succ]
                    refine' wpAnyD_take (i := 8) (oi := { dst := some 183, op := Go.Op.move (Go.Operand.tmp 182), type := 4, pos := "law.go:136", after := #[{ on := 7, ground := Go.Ground.data }], guard := none }) (v := _) rfl (by kernel_rfl) (by kernel_rfl) (by kernel_rfl) (fun _ _ _ h => h) (by kernel_rfl) (Or.inl ⟨by rfl, ?hy9⟩) hS0 ?rest9
                    case hy9 => (intro W hSw; go_simp; try (with_reducible rfl))
                    try simp only [Act.put, List.setIfInBounds_toArray, List.set_cons_zero, List.set_cons_succ]
                    refine' wpAnyD_take (i := 9) (oi := { dst := some 184, op := Go.Op.move (Go.Operand.tmp 10), type := 33, pos := "law.go:136", after := #[{ on := 8, ground := Go.Ground.guard }], guard := some (8, false) }) (v := undef) rfl (by kernel_rfl) (by kernel_rfl) (by kernel_rfl) (fun _ _ _ h => h) (by kernel_rfl) (Or.inr ⟨by rfl, rfl⟩) hS0 ?rest10
                    try simp only [Act.put, List.setIfInBounds_toArray, List.set_cons_zero, List.set_cons_succ]
                    refine' wpAnyD_take (i := 10) (oi := { dst := some 185, op := Go.Op.fieldAddr 45 (Go.Operand.tmp 19) 0, type := 0, pos := "law.go:136", after := #[{ on := 8, ground := Go.Ground.guard }], guard := some (8, false) }) (v := undef) rfl (by kernel_rfl) (by kernel_rfl) (by kernel_rfl) (fun _ _ _ h => h) (by kernel_rfl) (Or.inr ⟨by rfl, rfl⟩) hS0 ?rest11
                    try simp only [Act.put, List.setIfInBounds_toArray, List.set_cons_zero, List.set_cons_succ]
                    refine' wpAnyD_take (i := 11) (oi := { dst := some 186, op := Go.Op.load 3 (Go.Operand.tmp 185), type := 3, pos := "law.go:136", after := #[{ on := 10, ground := Go.Ground.data }, { on := 8, ground := Go.Ground.guard }], guard := some (8, false) }) (v := undef) rfl (by kernel_rfl) (by kernel_rfl) (by kernel_rfl) (fun _ _ _ h => h) (by kernel_rfl) (Or.inr ⟨by rfl, rfl⟩) hS0 ?rest12
                    try simp only [Act.put, List.setIfInBounds_toArray, List.set_cons_zero, List.set_cons_succ]
                    refine' wpAnyD_take (i := 12) (oi := { dst := some 187, op := Go.Op.indexAddr 33 (Go.Operand.tmp 184) (Go.Operand.tmp 186), type := 0, pos := "law.go:136", after := #[{ on := 9, ground := Go.Ground.data }, { on := 11, ground := Go.Ground.data }, { on := 8, ground := Go.Ground.guard }], guard := some (8, false) }) (v := undef) rfl (by kernel_rfl) (by kernel_rfl) (by kernel_rfl) (fun _ _ _ h => h) (by kernel_rfl) (Or.inr ⟨by rfl, rfl⟩) hS0 ?rest13
                    try simp only [Act.put, List.setIfInBounds_toArray, List.set_cons_zero, List.set_cons_succ]
                    refine' wpAnyD_take (i := 13) (oi := { dst := some 188, op := Go.Op.load 3 (Go.Operand.tmp 187), type := 3, pos := "law.go:136", after := #[{ on := 12, ground := Go.Ground.data }, { on := 8, ground := Go.Ground.guard }], guard := some (8, false) }) (v := undef) rfl (by kernel_rfl) (by kernel_rfl) (by kernel_rfl) (fun _ _ _ h => h) (by kernel_rfl) (Or.inr ⟨by rfl, rfl⟩) hS0 ?rest14
                    try simp only [Act.put, List.setIfInBounds_toArray, List.set_cons_zero, List.set_cons_succ]
                    refine' wpAnyD_take (i := 14) (oi := { dst := some 189, op := Go.Op.binOp Go.BinOp.add 3 (Go.Operand.tmp 188) (Go.Operand.const (Go.Value.int Go.IntKind.i64 1)) 3, type := 3, pos := "law.go:136", after := #[{ on := 13, ground := Go.Ground.data }, { on := 8, ground := Go.Ground.guard }], guard := some (8, false) }) (v := undef) rfl (by kernel_rfl) (by kernel_rfl) (by kernel_rfl) (fun _ _ _ h => h) (by kernel_rfl) (Or.inr ⟨by rfl, rfl⟩) hS0 ?rest15
                    try simp only [Act.put, List.setIfInBounds_toArray, List.set_cons_zero, List.set_cons_succ]
                    refine' wpAnyD_take (i := 15) (oi := { dst := some 190, op := Go.Op.move (Go.Operand.tmp 10), type := 33, pos := "law.go:136", after := #[{ on := 8, ground := Go.Ground.guard }], guard := some (8, false) }) (v := undef) rfl (by kernel_rfl) (by kernel_rfl) (by kernel_rfl) (fun _ _ _ h => h) (by kernel_rfl) (Or.inr ⟨by rfl, rfl⟩) hS0 ?rest16
                    try simp only [Act.put, List.setIfInBounds_toArray, List.set_cons_zero, List.set_cons_succ]
                    refine' wpAnyD_take (i := 16) (oi := { dst := some 191, op := Go.Op.fieldAddr 45 (Go.Operand.tmp 19) 1, type := 0, pos := "law.go:136", after := #[{ on := 8, ground := Go.Ground.guard }], guard := some (8, false) }) (v := undef) rfl (by kernel_rfl) (by kernel_rfl) (by kernel_rfl) (fun _ _ _ h => h) (by kernel_rfl) (Or.inr ⟨by rfl, rfl⟩) hS0 ?rest17
                    try simp only [Act.put, List.setIfInBounds_toArray, List.set_cons_zero, List.set_cons_succ]
                    refine' wpAnyD_take (i := 17) (oi := { dst := some 192, op := Go.Op.load 3 (Go.Operand.tmp 191), type := 3, pos := "law.go:136", after := #[{ on := 16, ground := Go.Ground.data }, { on := 8, ground := Go.Ground.guard }], guard := some (8, false) }) (v := undef) rfl (by kernel_rfl) (by kernel_rfl) (by kernel_rfl) (fun _ _ _ h => h) (by kernel_rfl) (Or.inr ⟨by rfl, rfl⟩) hS0 ?rest18
                    try simp only [Act.put, List.setIfInBounds_toArray, List.set_cons_zero, List.set_cons_succ]
                    refine' wpAnyD_take (i := 18) (oi := { dst := some 193, op := Go.Op.indexAddr 33 (Go.Operand.tmp 190) (Go.Operand.tmp 192), type := 0, pos := "law.go:136", after := #[{ on := 15, ground := Go.Ground.data }, { on := 17, ground := Go.Ground.data }, { on := 8, ground := Go.Ground.guard }], guard := some (8, false) }) (v := undef) rfl (by kernel_rfl) (by kernel_rfl) (by kernel_rfl) (fun _ _ _ h => h) (by kernel_rfl) (Or.inr ⟨by rfl, rfl⟩) hS0 ?rest19
                    try simp only [Act.put, List.setIfInBounds_toArray, List.set_cons_zero, List.set_cons_succ]
                    refine' wpAnyD_take (i := 19) (oi := { dst := some 194, op := Go.Op.load 3 (Go.Operand.tmp 193), type := 3, pos := "law.go:136", after := #[{ on := 18, ground := Go.Ground.data }, { on := 8, ground := Go.Ground.guard }], guard := some (8, false) }) (v := undef) rfl (by kernel_rfl) (by kernel_rfl) (by kernel_rfl) (fun _ _ _ h => h) (by kernel_rfl) (Or.inr ⟨by rfl, rfl⟩) hS0 ?rest20
                    try simp only [Act.put, List.setIfInBounds_toArray, List.set_cons_zero, List.set_cons_succ]
                    refine' wpAnyD_take (i := 20) (oi := { dst := some 195, op := Go.Op.binOp Go.BinOp.eql 3 (Go.Operand.tmp 189) (Go.Operand.tmp 194) 3, type := 4, pos := "law.go:136", after := #[{ on := 14, ground := Go.Ground.data }, { on := 19, ground := Go.Ground.data }, { on := 8, ground := Go.Ground.guard }], guard := some (8, false) }) (v := undef) rfl (by kernel_rfl) (by kernel_rfl) (by kernel_rfl) (fun _ _ _ h => h) (by kernel_rfl) (Or.inr ⟨by rfl, rfl⟩) hS0 ?rest21
                    try simp only [Act.put, List.setIfInBounds_toArray, List.set_cons_zero, List.set_cons_succ]
                    refine' wpAnyD_take (i := 21) (oi := { dst := some 196, op := Go.Op.pick (Go.Operand.tmp 183) (Go.Operand.const (Go.Value.bool true)) (Go.Operand.tmp 195), type := 4, pos := "law.go:136", after := #[{ on := 8, ground := Go.Ground.data }, { on := 20, ground := Go.Ground.data }], guard := none }) (v := _) rfl (by kernel_rfl) (by kernel_rfl) (by kernel_rfl) (fun _ _ _ h => h) (by kernel_rfl) (Or.inl ⟨by rfl, ?hy22⟩) hS0 ?rest22
                    case hy22 => (intro W hSw; go_simp; try (with_reducible rfl))
                    try simp only [Act.put, List.setIfInBounds_toArray, List.set_cons_zero, List.set_cons_succ]
                    refine' wpAnyD_take (i := 22) (oi := { dst := some 197, op := Go.Op.indexAddr 40 (Go.Operand.tmp 175) (Go.Operand.tmp 177), type := 0, pos := "law.go:136", after := #[{ on := 0, ground := Go.Ground.data }, { on := 2, ground := Go.Ground.data }, { on := 0, ground := Go.Ground.phase }, { on := 1, ground := Go.Ground.phase }, { on := 2, ground := Go.Ground.phase }, { on := 3, ground := Go.Ground.phase }, { on := 4, ground := Go.Ground.phase }, { on := 5, ground := Go.Ground.phase }, { on := 6, ground := Go.Ground.phase }, { on := 7, ground := Go.Ground.phase }, { on := 8, ground := Go.Ground.phase }, { on := 9, ground := Go.Ground.phase }, { on := 10, ground := Go.Ground.phase }, { on := 11, ground := Go.Ground.phase }, { on := 12, ground := Go.Ground.phase }, { on := 13, ground := Go.Ground.phase }, { on := 14, ground := Go.Ground.phase }, { on := 15, ground := Go.Ground.phase }, { on := 16, ground := Go.Ground.phase }, { on := 17, ground := Go.Ground.phase }, { on := 18, ground := Go.Ground.phase }, { on := 19, ground := Go.Ground.phase }, { on := 20, ground := Go.Ground.phase }, { on := 21, ground := Go.Ground.phase }], guard := none }) (v := _) rfl (by kernel_rfl) (by kernel_rfl) (by kernel_rfl) (fun _ _ _ h => h) (by kernel_rfl) (Or.inl ⟨by rfl, ?hy23⟩) hS0 ?rest23
                    case hy23 => (intro W hSw; go_simp; try (with_reducible rfl))
                    try simp only [Act.put, List.setIfInBounds_toArray, List.set_cons_zero, List.set_cons_succ]
                    refine wpAnyD_one (i := 23) (o := { dst := none, op := Go.Op.store 4 (Go.Operand.tmp 197) (Go.Operand.tmp 196), type := 0, pos := "law.go:136", after := #[{ on := 22, ground := Go.Ground.data }, { on := 21, ground := Go.Ground.data }, { on := 8, ground := Go.Ground.chain }, { on := 0, ground := Go.Ground.phase }, { on := 1, ground := Go.Ground.phase }, { on := 2, ground := Go.Ground.phase }, { on := 3, ground := Go.Ground.phase }, { on := 4, ground := Go.Ground.phase }, { on := 5, ground := Go.Ground.phase }, { on := 6, ground := Go.Ground.phase }, { on := 7, ground := Go.Ground.phase }, { on := 8, ground := Go.Ground.phase }, { on := 9, ground := Go.Ground.phase }, { on := 10, ground := Go.Ground.phase }, { on := 11, ground := Go.Ground.phase }, { on := 12, ground := Go.Ground.phase }, { on := 13, ground := Go.Ground.phase }, { on := 14, ground := Go.Ground.phase }, { on := 15, ground := Go.Ground.phase }, { on := 16, ground := Go.Ground.phase }, { on := 17, ground := Go.Ground.phase }, { on := 18, ground := Go.Ground.phase }, { on := 19, ground := Go.Ground.phase }, { on := 20, ground := Go.Ground.phase }, { on := 21, ground := Go.Ground.phase }], guard := none }) (by kernel_rfl) rfl (fun K hK => ?_)
                    have c8 := hS0.2.1
                    have f8 := hS0.2.2.2 q
                    have l8 := hS0.2.2.1
                    go_simp
                    rw [show (W7.setCell ⟨g10, q, none⟩ (.bool true)).drew = w12 from HW12.out.symm]
                    clear c8 f8 l8
                    refine hK.out _ _ (fun hD => absurd (by decide) hD) ?_
                    clear hK K
                    try simp only [Act.put, List.setIfInBounds_toArray, List.set_cons_zero, List.set_cons_succ]
                    refine wpAnyD_done (by kernel_rfl) ?_ _
                    clear hS0 HW12 hwrap
                    go_wp2_with fail
                    go_roundw
                    case rel => exact ⟨k + 1, by omega, by go_num, FIN.out⟩
                    case measure => simp [RowKit.intOf]; omega
                  | false =>
                    rw [hhe] at hh
                    by_cases hrr : rp + 1 = rq
                    · have FIN := hid (HNXT.out true (by rw [hhe, decide_eq_true hrr]; rfl))
                      obtain ⟨w12, hw12⟩ : ∃ W, W = (W7.setCell ⟨g10, q, none⟩ (.bool true)).drew := ⟨_, rfl⟩
                      rw [← hw12] at FIN
                      have HW12 := hid hw12
                      have hq1 := P7.out.2.2.2.1
                      rw [← hrr] at hq1
                      clear HNXT hhe hw12
                      go_upto_region 33 with fail
                      have hS0 : (W7.drew).heap[yb]? = some (.cells #[.int .i64 (p : Int), .int .i64 (q : Int), .int .u64 0, .int .u64 0, .int .u64 0] 45 (0, 0)) ∧ (W7.drew).cell? ⟨g10, q, none⟩ = some (.bool false) ∧ g10 < (W7.drew).heap.size ∧ (∀ j, (W7.drew).frozen? ⟨g10, j, none⟩ = false) ∧ (W7.drew).cell? ⟨bR, oR + p, none⟩ = some (.int .i64 rp) ∧ (W7.drew).cell? ⟨bR, oR + q, none⟩ = some (.int .i64 (rp + 1)) ∧ bR < (W7.drew).heap.size := ⟨P7.out.2.1, hh, lh, fh, P7.out.2.2.1, hq1, P7.out.2.2.2.2⟩
                      clear hh lh fh hq1 hrr
                      refine wp_regionD (S := fun W => W.heap[yb]? = some (.cells #[.int .i64 (p : Int), .int .i64 (q : Int), .int .u64 0, .int .u64 0, .int .u64 0] 45 (0, 0)) ∧ W.cell? ⟨g10, q, none⟩ = some (.bool false) ∧ g10 < W.heap.size ∧ (∀ j, W.frozen? ⟨g10, j, none⟩ = false) ∧ W.cell? ⟨bR, oR + p, none⟩ = some (.int .i64 rp) ∧ W.cell? ⟨bR, oR + q, none⟩ = some (.int .i64 (rp + 1)) ∧ bR < W.heap.size) (D := [23]) hmx ?_
                      refine' wpAnyD_take (i := 0) (oi := { dst := some 175, op := Go.Op.move (Go.Operand.tmp 17), type := 40, pos := "law.go:136", after := #[], guard := none }) (v := _) rfl (by kernel_rfl) (by kernel_rfl) (by kernel_rfl) (fun _ _ _ h => h) (by kernel_rfl) (Or.inl ⟨by rfl, ?hy25⟩) hS0 ?rest25
                      case hy25 => (intro W hSw; go_simp; try (with_reducible rfl))
                      try simp only [Act.put, List.setIfInBounds_toArray, List.set_cons_zero, List.set_cons_succ]
                      refine' wpAnyD_take (i := 1) (oi := { dst := some 176, op := Go.Op.fieldAddr 45 (Go.Operand.tmp 19) 1, type := 0, pos := "law.go:136", after := #[], guard := none }) (v := _) rfl (by kernel_rfl) (by kernel_rfl) (by kernel_rfl) (fun _ _ _ h => h) (by kernel_rfl) (Or.inl ⟨by rfl, ?hy26⟩) hS0 ?rest26
                      case hy26 => (intro W hSw; have hc := (tk_store hSw.1).1; have hl := tk_lt hSw.1; go_simp; try (with_reducible rfl))
                      try simp only [Act.put, List.setIfInBounds_toArray, List.set_cons_zero, List.set_cons_succ]
                      refine' wpAnyD_take (i := 2) (oi := { dst := some 177, op := Go.Op.load 3 (Go.Operand.tmp 176), type := 3, pos := "law.go:136", after := #[{ on := 1, ground := Go.Ground.data }], guard := none }) (v := _) rfl (by kernel_rfl) (by kernel_rfl) (by kernel_rfl) (fun _ _ _ h => h) (by kernel_rfl) (Or.inl ⟨by rfl, ?hy27⟩) hS0 ?rest27
                      case hy27 => (intro W hSw; have hc := (tk_store hSw.1).1; have hl := tk_lt hSw.1; go_simp; try (with_reducible rfl))
                      try simp only [Act.put, List.setIfInBounds_toArray, List.set_cons_zero, List.set_cons_succ]
                      refine' wpAnyD_take (i := 3) (oi := { dst := some 178, op := Go.Op.move (Go.Operand.tmp 17), type := 40, pos := "law.go:136", after := #[], guard := none }) (v := _) rfl (by kernel_rfl) (by kernel_rfl) (by kernel_rfl) (fun _ _ _ h => h) (by kernel_rfl) (Or.inl ⟨by rfl, ?hy28⟩) hS0 ?rest28
                      case hy28 => (intro W hSw; go_simp; try (with_reducible rfl))
                      try simp only [Act.put, List.setIfInBounds_toArray, List.set_cons_zero, List.set_cons_succ]
                      refine' wpAnyD_take (i := 4) (oi := { dst := some 179, op := Go.Op.fieldAddr 45 (Go.Operand.tmp 19) 1, type := 0, pos := "law.go:136", after := #[], guard := none }) (v := _) rfl (by kernel_rfl) (by kernel_rfl) (by kernel_rfl) (fun _ _ _ h => h) (by kernel_rfl) (Or.inl ⟨by rfl, ?hy29⟩) hS0 ?rest29
                      case hy29 => (intro W hSw; have hc := (tk_store hSw.1).1; have hl := tk_lt hSw.1; go_simp; try (with_reducible rfl))
                      try simp only [Act.put, List.setIfInBounds_toArray, List.set_cons_zero, List.set_cons_succ]
                      refine' wpAnyD_take (i := 5) (oi := { dst := some 180, op := Go.Op.load 3 (Go.Operand.tmp 179), type := 3, pos := "law.go:136", after := #[{ on := 4, ground := Go.Ground.data }], guard := none }) (v := _) rfl (by kernel_rfl) (by kernel_rfl) (by kernel_rfl) (fun _ _ _ h => h) (by kernel_rfl) (Or.inl ⟨by rfl, ?hy30⟩) hS0 ?rest30
                      case hy30 => (intro W hSw; have hc := (tk_store hSw.1).1; have hl := tk_lt hSw.1; go_simp; try (with_reducible rfl))
                      try simp only [Act.put, List.setIfInBounds_toArray, List.set_cons_zero, List.set_cons_succ]
                      refine' wpAnyD_take (i := 6) (oi := { dst := some 181, op := Go.Op.indexAddr 40 (Go.Operand.tmp 178) (Go.Operand.tmp 180), type := 0, pos := "law.go:136", after := #[{ on := 3, ground := Go.Ground.data }, { on := 5, ground := Go.Ground.data }], guard := none }) (v := _) rfl (by kernel_rfl) (by kernel_rfl) (by kernel_rfl) (fun _ _ _ h => h) (by kernel_rfl) (Or.inl ⟨by rfl, ?hy31⟩) hS0 ?rest31
                      case hy31 => (intro W hSw; go_simp; try (with_reducible rfl))
                      try simp only [Act.put, List.setIfInBounds_toArray, List.set_cons_zero, List.set_cons_succ]
                      refine' wpAnyD_take (i := 7) (oi := { dst := some 182, op := Go.Op.load 4 (Go.Operand.tmp 181), type := 4, pos := "law.go:136", after := #[{ on := 6, ground := Go.Ground.data }], guard := none }) (v := _) rfl (by kernel_rfl) (by kernel_rfl) (by kernel_rfl) (fun _ _ _ h => h) (by kernel_rfl) (Or.inl ⟨by rfl, ?hy32⟩) hS0 ?rest32
                      case hy32 => (intro W hSw; have hc := hSw.2.1; have hl := hSw.2.2.1; go_simp; try (with_reducible rfl))
                      try simp only [Act.put, List.setIfInBounds_toArray, List.set_cons_zero, List.set_cons_succ]
                      refine' wpAnyD_take (i := 8) (oi := { dst := some 183, op := Go.Op.move (Go.Operand.tmp 182), type := 4, pos := "law.go:136", after := #[{ on := 7, ground := Go.Ground.data }], guard := none }) (v := _) rfl (by kernel_rfl) (by kernel_rfl) (by kernel_rfl) (fun _ _ _ h => h) (by kernel_rfl) (Or.inl ⟨by rfl, ?hy33⟩) hS0 ?rest33
                      case hy33 => (intro W hSw; go_simp; try (with_reducible rfl))
                      try simp only [Act.put, List.setIfInBounds_toArray, List.set_cons_zero, List.set_cons_succ]
                      refine' wpAnyD_take (i := 9) (oi := { dst := some 184, op := Go.Op.move (Go.Operand.tmp 10), type := 33, pos := "law.go:136", after := #[{ on := 8, ground := Go.Ground.guard }], guard := some (8, false) }) (v := _) rfl (by kernel_rfl) (by kernel_rfl) (by kernel_rfl) (fun _ _ _ h => h) (by kernel_rfl) (Or.inl ⟨by rfl, ?hy34⟩) hS0 ?rest34
                      case hy34 => (intro W hSw; go_simp; try (with_reducible rfl))
                      try simp only [Act.put, List.setIfInBounds_toArray, List.set_cons_zero, List.set_cons_succ]
                      refine' wpAnyD_take (i := 10) (oi := { dst := some 185, op := Go.Op.fieldAddr 45 (Go.Operand.tmp 19) 0, type := 0, pos := "law.go:136", after := #[{ on := 8, ground := Go.Ground.guard }], guard := some (8, false) }) (v := _) rfl (by kernel_rfl) (by kernel_rfl) (by kernel_rfl) (fun _ _ _ h => h) (by kernel_rfl) (Or.inl ⟨by rfl, ?hy35⟩) hS0 ?rest35
                      case hy35 => (intro W hSw; have hc := (tk_store hSw.1).1; have hl := tk_lt hSw.1; go_simp; try (with_reducible rfl))
                      try simp only [Act.put, List.setIfInBounds_toArray, List.set_cons_zero, List.set_cons_succ]
                      refine' wpAnyD_take (i := 11) (oi := { dst := some 186, op := Go.Op.load 3 (Go.Operand.tmp 185), type := 3, pos := "law.go:136", after := #[{ on := 10, ground := Go.Ground.data }, { on := 8, ground := Go.Ground.guard }], guard := some (8, false) }) (v := _) rfl (by kernel_rfl) (by kernel_rfl) (by kernel_rfl) (fun _ _ _ h => h) (by kernel_rfl) (Or.inl ⟨by rfl, ?hy36⟩) hS0 ?rest36
                      case hy36 => (intro W hSw; have hc := (tk_store hSw.1).1; have hl := tk_lt hSw.1; go_simp; try (with_reducible rfl))
                      try simp only [Act.put, List.setIfInBounds_toArray, List.set_cons_zero, List.set_cons_succ]
                      refine' wpAnyD_take (i := 12) (oi := { dst := some 187, op := Go.Op.indexAddr 33 (Go.Operand.tmp 184) (Go.Operand.tmp 186), type := 0, pos := "law.go:136", after := #[{ on := 9, ground := Go.Ground.data }, { on := 11, ground := Go.Ground.data }, { on := 8, ground := Go.Ground.guard }], guard := some (8, false) }) (v := _) rfl (by kernel_rfl) (by kernel_rfl) (by kernel_rfl) (fun _ _ _ h => h) (by kernel_rfl) (Or.inl ⟨by rfl, ?hy37⟩) hS0 ?rest37
                      case hy37 => (intro W hSw; go_simp; try (with_reducible rfl))
                      try simp only [Act.put, List.setIfInBounds_toArray, List.set_cons_zero, List.set_cons_succ]
                      refine' wpAnyD_take (i := 13) (oi := { dst := some 188, op := Go.Op.load 3 (Go.Operand.tmp 187), type := 3, pos := "law.go:136", after := #[{ on := 12, ground := Go.Ground.data }, { on := 8, ground := Go.Ground.guard }], guard := some (8, false) }) (v := _) rfl (by kernel_rfl) (by kernel_rfl) (by kernel_rfl) (fun _ _ _ h => h) (by kernel_rfl) (Or.inl ⟨by rfl, ?hy38⟩) hS0 ?rest38
                      case hy38 => (intro W hSw; have hc := hSw.2.2.2.2.1; have hl := hSw.2.2.2.2.2.2; go_simp; try (with_reducible rfl))
                      try simp only [Act.put, List.setIfInBounds_toArray, List.set_cons_zero, List.set_cons_succ]
                      refine' wpAnyD_take (i := 14) (oi := { dst := some 189, op := Go.Op.binOp Go.BinOp.add 3 (Go.Operand.tmp 188) (Go.Operand.const (Go.Value.int Go.IntKind.i64 1)) 3, type := 3, pos := "law.go:136", after := #[{ on := 13, ground := Go.Ground.data }, { on := 8, ground := Go.Ground.guard }], guard := some (8, false) }) (v := _) rfl (by kernel_rfl) (by kernel_rfl) (by kernel_rfl) (fun _ _ _ h => h) (by kernel_rfl) (Or.inl ⟨by rfl, ?hy39⟩) hS0 ?rest39
                      case hy39 => (intro W hSw; go_simp; try (with_reducible rfl))
                      try simp only [Act.put, List.setIfInBounds_toArray, List.set_cons_zero, List.set_cons_succ]
                      refine' wpAnyD_take (i := 15) (oi := { dst := some 190, op := Go.Op.move (Go.Operand.tmp 10), type := 33, pos := "law.go:136", after := #[{ on := 8, ground := Go.Ground.guard }], guard := some (8, false) }) (v := _) rfl (by kernel_rfl) (by kernel_rfl) (by kernel_rfl) (fun _ _ _ h => h) (by kernel_rfl) (Or.inl ⟨by rfl, ?hy40⟩) hS0 ?rest40
                      case hy40 => (intro W hSw; go_simp; try (with_reducible rfl))
                      try simp only [Act.put, List.setIfInBounds_toArray, List.set_cons_zero, List.set_cons_succ]
                      refine' wpAnyD_take (i := 16) (oi := { dst := some 191, op := Go.Op.fieldAddr 45 (Go.Operand.tmp 19) 1, type := 0, pos := "law.go:136", after := #[{ on := 8, ground := Go.Ground.guard }], guard := some (8, false) }) (v := _) rfl (by kernel_rfl) (by kernel_rfl) (by kernel_rfl) (fun _ _ _ h => h) (by kernel_rfl) (Or.inl ⟨by rfl, ?hy41⟩) hS0 ?rest41
                      case hy41 => (intro W hSw; have hc := (tk_store hSw.1).1; have hl := tk_lt hSw.1; go_simp; try (with_reducible rfl))
                      try simp only [Act.put, List.setIfInBounds_toArray, List.set_cons_zero, List.set_cons_succ]
                      refine' wpAnyD_take (i := 17) (oi := { dst := some 192, op := Go.Op.load 3 (Go.Operand.tmp 191), type := 3, pos := "law.go:136", after := #[{ on := 16, ground := Go.Ground.data }, { on := 8, ground := Go.Ground.guard }], guard := some (8, false) }) (v := _) rfl (by kernel_rfl) (by kernel_rfl) (by kernel_rfl) (fun _ _ _ h => h) (by kernel_rfl) (Or.inl ⟨by rfl, ?hy42⟩) hS0 ?rest42
                      case hy42 => (intro W hSw; have hc := (tk_store hSw.1).1; have hl := tk_lt hSw.1; go_simp; try (with_reducible rfl))
                      try simp only [Act.put, List.setIfInBounds_toArray, List.set_cons_zero, List.set_cons_succ]
                      refine' wpAnyD_take (i := 18) (oi := { dst := some 193, op := Go.Op.indexAddr 33 (Go.Operand.tmp 190) (Go.Operand.tmp 192), type := 0, pos := "law.go:136", after := #[{ on := 15, ground := Go.Ground.data }, { on := 17, ground := Go.Ground.data }, { on := 8, ground := Go.Ground.guard }], guard := some (8, false) }) (v := _) rfl (by kernel_rfl) (by kernel_rfl) (by kernel_rfl) (fun _ _ _ h => h) (by kernel_rfl) (Or.inl ⟨by rfl, ?hy43⟩) hS0 ?rest43
                      case hy43 => (intro W hSw; go_simp; try (with_reducible rfl))
                      try simp only [Act.put, List.setIfInBounds_toArray, List.set_cons_zero, List.set_cons_succ]
                      refine' wpAnyD_take (i := 19) (oi := { dst := some 194, op := Go.Op.load 3 (Go.Operand.tmp 193), type := 3, pos := "law.go:136", after := #[{ on := 18, ground := Go.Ground.data }, { on := 8, ground := Go.Ground.guard }], guard := some (8, false) }) (v := _) rfl (by kernel_rfl) (by kernel_rfl) (by kernel_rfl) (fun _ _ _ h => h) (by kernel_rfl) (Or.inl ⟨by rfl, ?hy44⟩) hS0 ?rest44
                      case hy44 => (intro W hSw; have hc := hSw.2.2.2.2.2.1; have hl := hSw.2.2.2.2.2.2; go_simp; try (with_reducible rfl))
                      try simp only [Act.put, List.setIfInBounds_toArray, List.set_cons_zero, List.set_cons_succ]
                      refine' wpAnyD_take (i := 20) (oi := { dst := some 195, op := Go.Op.binOp Go.BinOp.eql 3 (Go.Operand.tmp 189) (Go.Operand.tmp 194) 3, type := 4, pos := "law.go:136", after := #[{ on := 14, ground := Go.Ground.data }, { on := 19, ground := Go.Ground.data }, { on := 8, ground := Go.Ground.guard }], guard := some (8, false) }) (v := _) rfl (by kernel_rfl) (by kernel_rfl) (by kernel_rfl) (fun _ _ _ h => h) (by kernel_rfl) (Or.inl ⟨by rfl, ?hy45⟩) hS0 ?rest45
                      case hy45 => (intro W hSw; go_simp; try (with_reducible rfl))
                      try simp only [Act.put, List.setIfInBounds_toArray, List.set_cons_zero, List.set_cons_succ]
                      refine' wpAnyD_take (i := 21) (oi := { dst := some 196, op := Go.Op.pick (Go.Operand.tmp 183) (Go.Operand.const (Go.Value.bool true)) (Go.Operand.tmp 195), type := 4, pos := "law.go:136", after := #[{ on := 8, ground := Go.Ground.data }, { on := 20, ground := Go.Ground.data }], guard := none }) (v := _) rfl (by kernel_rfl) (by kernel_rfl) (by kernel_rfl) (fun _ _ _ h => h) (by kernel_rfl) (Or.inl ⟨by rfl, ?hy46⟩) hS0 ?rest46
                      case hy46 => (intro W hSw; go_simp; try (with_reducible rfl))
                      try simp only [Act.put, List.setIfInBounds_toArray, List.set_cons_zero, List.set_cons_succ]
                      refine' wpAnyD_take (i := 22) (oi := { dst := some 197, op := Go.Op.indexAddr 40 (Go.Operand.tmp 175) (Go.Operand.tmp 177), type := 0, pos := "law.go:136", after := #[{ on := 0, ground := Go.Ground.data }, { on := 2, ground := Go.Ground.data }, { on := 0, ground := Go.Ground.phase }, { on := 1, ground := Go.Ground.phase }, { on := 2, ground := Go.Ground.phase }, { on := 3, ground := Go.Ground.phase }, { on := 4, ground := Go.Ground.phase }, { on := 5, ground := Go.Ground.phase }, { on := 6, ground := Go.Ground.phase }, { on := 7, ground := Go.Ground.phase }, { on := 8, ground := Go.Ground.phase }, { on := 9, ground := Go.Ground.phase }, { on := 10, ground := Go.Ground.phase }, { on := 11, ground := Go.Ground.phase }, { on := 12, ground := Go.Ground.phase }, { on := 13, ground := Go.Ground.phase }, { on := 14, ground := Go.Ground.phase }, { on := 15, ground := Go.Ground.phase }, { on := 16, ground := Go.Ground.phase }, { on := 17, ground := Go.Ground.phase }, { on := 18, ground := Go.Ground.phase }, { on := 19, ground := Go.Ground.phase }, { on := 20, ground := Go.Ground.phase }, { on := 21, ground := Go.Ground.phase }], guard := none }) (v := _) rfl (by kernel_rfl) (by kernel_rfl) (by kernel_rfl) (fun _ _ _ h => h) (by kernel_rfl) (Or.inl ⟨by rfl, ?hy47⟩) hS0 ?rest47
                      case hy47 => (intro W hSw; go_simp; try (with_reducible rfl))
                      try simp only [Act.put, List.setIfInBounds_toArray, List.set_cons_zero, List.set_cons_succ]
                      refine wpAnyD_one (i := 23) (o := { dst := none, op := Go.Op.store 4 (Go.Operand.tmp 197) (Go.Operand.tmp 196), type := 0, pos := "law.go:136", after := #[{ on := 22, ground := Go.Ground.data }, { on := 21, ground := Go.Ground.data }, { on := 8, ground := Go.Ground.chain }, { on := 0, ground := Go.Ground.phase }, { on := 1, ground := Go.Ground.phase }, { on := 2, ground := Go.Ground.phase }, { on := 3, ground := Go.Ground.phase }, { on := 4, ground := Go.Ground.phase }, { on := 5, ground := Go.Ground.phase }, { on := 6, ground := Go.Ground.phase }, { on := 7, ground := Go.Ground.phase }, { on := 8, ground := Go.Ground.phase }, { on := 9, ground := Go.Ground.phase }, { on := 10, ground := Go.Ground.phase }, { on := 11, ground := Go.Ground.phase }, { on := 12, ground := Go.Ground.phase }, { on := 13, ground := Go.Ground.phase }, { on := 14, ground := Go.Ground.phase }, { on := 15, ground := Go.Ground.phase }, { on := 16, ground := Go.Ground.phase }, { on := 17, ground := Go.Ground.phase }, { on := 18, ground := Go.Ground.phase }, { on := 19, ground := Go.Ground.phase }, { on := 20, ground := Go.Ground.phase }, { on := 21, ground := Go.Ground.phase }], guard := none }) (by kernel_rfl) rfl (fun K hK => ?_)
                      have c8 := hS0.2.1
                      have f8 := hS0.2.2.2.1 q
                      have l8 := hS0.2.2.1
                      go_simp
                      rw [show (W7.setCell ⟨g10, q, none⟩ (.bool true)).drew = w12 from HW12.out.symm]
                      clear c8 f8 l8
                      refine hK.out _ _ (fun hD => absurd (by decide) hD) ?_
                      clear hK K
                      try simp only [Act.put, List.setIfInBounds_toArray, List.set_cons_zero, List.set_cons_succ]
                      refine wpAnyD_done (by kernel_rfl) ?_ _
                      clear hS0 HW12 hwrap
                      go_wp2_with fail
                      go_roundw
                      case rel => exact ⟨k + 1, by omega, by go_num, FIN.out⟩
                      case measure => simp [RowKit.intOf]; omega
                    · have FIN := hid (HNXT.out false (by rw [hhe, decide_eq_false hrr]; rfl))
                      obtain ⟨w12, hw12⟩ : ∃ W, W = (W7.setCell ⟨g10, q, none⟩ (.bool false)).drew := ⟨_, rfl⟩
                      rw [← hw12] at FIN
                      have HW12 := hid hw12
                      have hbe : (rp + 1 == rq) = false := by simpa using hrr
                      clear HNXT hhe hw12
                      go_upto_region 33 with fail
                      have hS0 : (W7.drew).heap[yb]? = some (.cells #[.int .i64 (p : Int), .int .i64 (q : Int), .int .u64 0, .int .u64 0, .int .u64 0] 45 (0, 0)) ∧ (W7.drew).cell? ⟨g10, q, none⟩ = some (.bool false) ∧ g10 < (W7.drew).heap.size ∧ (∀ j, (W7.drew).frozen? ⟨g10, j, none⟩ = false) ∧ (W7.drew).cell? ⟨bR, oR + p, none⟩ = some (.int .i64 rp) ∧ (W7.drew).cell? ⟨bR, oR + q, none⟩ = some (.int .i64 rq) ∧ bR < (W7.drew).heap.size := ⟨P7.out.2.1, hh, lh, fh, P7.out.2.2.1, P7.out.2.2.2.1, P7.out.2.2.2.2⟩
                      clear hh lh fh
                      refine wp_regionD (S := fun W => W.heap[yb]? = some (.cells #[.int .i64 (p : Int), .int .i64 (q : Int), .int .u64 0, .int .u64 0, .int .u64 0] 45 (0, 0)) ∧ W.cell? ⟨g10, q, none⟩ = some (.bool false) ∧ g10 < W.heap.size ∧ (∀ j, W.frozen? ⟨g10, j, none⟩ = false) ∧ W.cell? ⟨bR, oR + p, none⟩ = some (.int .i64 rp) ∧ W.cell? ⟨bR, oR + q, none⟩ = some (.int .i64 rq) ∧ bR < W.heap.size) (D := [23]) hmx ?_
                      refine' wpAnyD_take (i := 0) (oi := { dst := some 175, op := Go.Op.move (Go.Operand.tmp 17), type := 40, pos := "law.go:136", after := #[], guard := none }) (v := _) rfl (by kernel_rfl) (by kernel_rfl) (by kernel_rfl) (fun _ _ _ h => h) (by kernel_rfl) (Or.inl ⟨by rfl, ?hy49⟩) hS0 ?rest49
                      case hy49 => (intro W hSw; go_simp; try (with_reducible rfl))
                      try simp only [Act.put, List.setIfInBounds_toArray, List.set_cons_zero, List.set_cons_succ]
                      refine' wpAnyD_take (i := 1) (oi := { dst := some 176, op := Go.Op.fieldAddr 45 (Go.Operand.tmp 19) 1, type := 0, pos := "law.go:136", after := #[], guard := none }) (v := _) rfl (by kernel_rfl) (by kernel_rfl) (by kernel_rfl) (fun _ _ _ h => h) (by kernel_rfl) (Or.inl ⟨by rfl, ?hy50⟩) hS0 ?rest50
                      case hy50 => (intro W hSw; have hc := (tk_store hSw.1).1; have hl := tk_lt hSw.1; go_simp; try (with_reducible rfl))
                      try simp only [Act.put, List.setIfInBounds_toArray, List.set_cons_zero, List.set_cons_succ]
                      refine' wpAnyD_take (i := 2) (oi := { dst := some 177, op := Go.Op.load 3 (Go.Operand.tmp 176), type := 3, pos := "law.go:136", after := #[{ on := 1, ground := Go.Ground.data }], guard := none }) (v := _) rfl (by kernel_rfl) (by kernel_rfl) (by kernel_rfl) (fun _ _ _ h => h) (by kernel_rfl) (Or.inl ⟨by rfl, ?hy51⟩) hS0 ?rest51
                      case hy51 => (intro W hSw; have hc := (tk_store hSw.1).1; have hl := tk_lt hSw.1; go_simp; try (with_reducible rfl))
                      try simp only [Act.put, List.setIfInBounds_toArray, List.set_cons_zero, List.set_cons_succ]
                      refine' wpAnyD_take (i := 3) (oi := { dst := some 178, op := Go.Op.move (Go.Operand.tmp 17), type := 40, pos := "law.go:136", after := #[], guard := none }) (v := _) rfl (by kernel_rfl) (by kernel_rfl) (by kernel_rfl) (fun _ _ _ h => h) (by kernel_rfl) (Or.inl ⟨by rfl, ?hy52⟩) hS0 ?rest52
                      case hy52 => (intro W hSw; go_simp; try (with_reducible rfl))
                      try simp only [Act.put, List.setIfInBounds_toArray, List.set_cons_zero, List.set_cons_succ]
                      refine' wpAnyD_take (i := 4) (oi := { dst := some 179, op := Go.Op.fieldAddr 45 (Go.Operand.tmp 19) 1, type := 0, pos := "law.go:136", after := #[], guard := none }) (v := _) rfl (by kernel_rfl) (by kernel_rfl) (by kernel_rfl) (fun _ _ _ h => h) (by kernel_rfl) (Or.inl ⟨by rfl, ?hy53⟩) hS0 ?rest53
                      case hy53 => (intro W hSw; have hc := (tk_store hSw.1).1; have hl := tk_lt hSw.1; go_simp; try (with_reducible rfl))
                      try simp only [Act.put, List.setIfInBounds_toArray, List.set_cons_zero, List.set_cons_succ]
                      refine' wpAnyD_take (i := 5) (oi := { dst := some 180, op := Go.Op.load 3 (Go.Operand.tmp 179), type := 3, pos := "law.go:136", after := #[{ on := 4, ground := Go.Ground.data }], guard := none }) (v := _) rfl (by kernel_rfl) (by kernel_rfl) (by kernel_rfl) (fun _ _ _ h => h) (by kernel_rfl) (Or.inl ⟨by rfl, ?hy54⟩) hS0 ?rest54
                      case hy54 => (intro W hSw; have hc := (tk_store hSw.1).1; have hl := tk_lt hSw.1; go_simp; try (with_reducible rfl))
                      try simp only [Act.put, List.setIfInBounds_toArray, List.set_cons_zero, List.set_cons_succ]
                      refine' wpAnyD_take (i := 6) (oi := { dst := some 181, op := Go.Op.indexAddr 40 (Go.Operand.tmp 178) (Go.Operand.tmp 180), type := 0, pos := "law.go:136", after := #[{ on := 3, ground := Go.Ground.data }, { on := 5, ground := Go.Ground.data }], guard := none }) (v := _) rfl (by kernel_rfl) (by kernel_rfl) (by kernel_rfl) (fun _ _ _ h => h) (by kernel_rfl) (Or.inl ⟨by rfl, ?hy55⟩) hS0 ?rest55
                      case hy55 => (intro W hSw; go_simp; try (with_reducible rfl))
                      try simp only [Act.put, List.setIfInBounds_toArray, List.set_cons_zero, List.set_cons_succ]
                      refine' wpAnyD_take (i := 7) (oi := { dst := some 182, op := Go.Op.load 4 (Go.Operand.tmp 181), type := 4, pos := "law.go:136", after := #[{ on := 6, ground := Go.Ground.data }], guard := none }) (v := _) rfl (by kernel_rfl) (by kernel_rfl) (by kernel_rfl) (fun _ _ _ h => h) (by kernel_rfl) (Or.inl ⟨by rfl, ?hy56⟩) hS0 ?rest56
                      case hy56 => (intro W hSw; have hc := hSw.2.1; have hl := hSw.2.2.1; go_simp; try (with_reducible rfl))
                      try simp only [Act.put, List.setIfInBounds_toArray, List.set_cons_zero, List.set_cons_succ]
                      refine' wpAnyD_take (i := 8) (oi := { dst := some 183, op := Go.Op.move (Go.Operand.tmp 182), type := 4, pos := "law.go:136", after := #[{ on := 7, ground := Go.Ground.data }], guard := none }) (v := _) rfl (by kernel_rfl) (by kernel_rfl) (by kernel_rfl) (fun _ _ _ h => h) (by kernel_rfl) (Or.inl ⟨by rfl, ?hy57⟩) hS0 ?rest57
                      case hy57 => (intro W hSw; go_simp; try (with_reducible rfl))
                      try simp only [Act.put, List.setIfInBounds_toArray, List.set_cons_zero, List.set_cons_succ]
                      refine' wpAnyD_take (i := 9) (oi := { dst := some 184, op := Go.Op.move (Go.Operand.tmp 10), type := 33, pos := "law.go:136", after := #[{ on := 8, ground := Go.Ground.guard }], guard := some (8, false) }) (v := _) rfl (by kernel_rfl) (by kernel_rfl) (by kernel_rfl) (fun _ _ _ h => h) (by kernel_rfl) (Or.inl ⟨by rfl, ?hy58⟩) hS0 ?rest58
                      case hy58 => (intro W hSw; go_simp; try (with_reducible rfl))
                      try simp only [Act.put, List.setIfInBounds_toArray, List.set_cons_zero, List.set_cons_succ]
                      refine' wpAnyD_take (i := 10) (oi := { dst := some 185, op := Go.Op.fieldAddr 45 (Go.Operand.tmp 19) 0, type := 0, pos := "law.go:136", after := #[{ on := 8, ground := Go.Ground.guard }], guard := some (8, false) }) (v := _) rfl (by kernel_rfl) (by kernel_rfl) (by kernel_rfl) (fun _ _ _ h => h) (by kernel_rfl) (Or.inl ⟨by rfl, ?hy59⟩) hS0 ?rest59
                      case hy59 => (intro W hSw; have hc := (tk_store hSw.1).1; have hl := tk_lt hSw.1; go_simp; try (with_reducible rfl))
                      try simp only [Act.put, List.setIfInBounds_toArray, List.set_cons_zero, List.set_cons_succ]
                      refine' wpAnyD_take (i := 11) (oi := { dst := some 186, op := Go.Op.load 3 (Go.Operand.tmp 185), type := 3, pos := "law.go:136", after := #[{ on := 10, ground := Go.Ground.data }, { on := 8, ground := Go.Ground.guard }], guard := some (8, false) }) (v := _) rfl (by kernel_rfl) (by kernel_rfl) (by kernel_rfl) (fun _ _ _ h => h) (by kernel_rfl) (Or.inl ⟨by rfl, ?hy60⟩) hS0 ?rest60
                      case hy60 => (intro W hSw; have hc := (tk_store hSw.1).1; have hl := tk_lt hSw.1; go_simp; try (with_reducible rfl))
                      try simp only [Act.put, List.setIfInBounds_toArray, List.set_cons_zero, List.set_cons_succ]
                      refine' wpAnyD_take (i := 12) (oi := { dst := some 187, op := Go.Op.indexAddr 33 (Go.Operand.tmp 184) (Go.Operand.tmp 186), type := 0, pos := "law.go:136", after := #[{ on := 9, ground := Go.Ground.data }, { on := 11, ground := Go.Ground.data }, { on := 8, ground := Go.Ground.guard }], guard := some (8, false) }) (v := _) rfl (by kernel_rfl) (by kernel_rfl) (by kernel_rfl) (fun _ _ _ h => h) (by kernel_rfl) (Or.inl ⟨by rfl, ?hy61⟩) hS0 ?rest61
                      case hy61 => (intro W hSw; go_simp; try (with_reducible rfl))
                      try simp only [Act.put, List.setIfInBounds_toArray, List.set_cons_zero, List.set_cons_succ]
                      refine' wpAnyD_take (i := 13) (oi := { dst := some 188, op := Go.Op.load 3 (Go.Operand.tmp 187), type := 3, pos := "law.go:136", after := #[{ on := 12, ground := Go.Ground.data }, { on := 8, ground := Go.Ground.guard }], guard := some (8, false) }) (v := _) rfl (by kernel_rfl) (by kernel_rfl) (by kernel_rfl) (fun _ _ _ h => h) (by kernel_rfl) (Or.inl ⟨by rfl, ?hy62⟩) hS0 ?rest62
                      case hy62 => (intro W hSw; have hc := hSw.2.2.2.2.1; have hl := hSw.2.2.2.2.2.2; go_simp; try (with_reducible rfl))
                      try simp only [Act.put, List.setIfInBounds_toArray, List.set_cons_zero, List.set_cons_succ]
                      refine' wpAnyD_take (i := 14) (oi := { dst := some 189, op := Go.Op.binOp Go.BinOp.add 3 (Go.Operand.tmp 188) (Go.Operand.const (Go.Value.int Go.IntKind.i64 1)) 3, type := 3, pos := "law.go:136", after := #[{ on := 13, ground := Go.Ground.data }, { on := 8, ground := Go.Ground.guard }], guard := some (8, false) }) (v := _) rfl (by kernel_rfl) (by kernel_rfl) (by kernel_rfl) (fun _ _ _ h => h) (by kernel_rfl) (Or.inl ⟨by rfl, ?hy63⟩) hS0 ?rest63
                      case hy63 => (intro W hSw; go_simp; try (with_reducible rfl))
                      try simp only [Act.put, List.setIfInBounds_toArray, List.set_cons_zero, List.set_cons_succ]
                      refine' wpAnyD_take (i := 15) (oi := { dst := some 190, op := Go.Op.move (Go.Operand.tmp 10), type := 33, pos := "law.go:136", after := #[{ on := 8, ground := Go.Ground.guard }], guard := some (8, false) }) (v := _) rfl (by kernel_rfl) (by kernel_rfl) (by kernel_rfl) (fun _ _ _ h => h) (by kernel_rfl) (Or.inl ⟨by rfl, ?hy64⟩) hS0 ?rest64
                      case hy64 => (intro W hSw; go_simp; try (with_reducible rfl))
                      try simp only [Act.put, List.setIfInBounds_toArray, List.set_cons_zero, List.set_cons_succ]
                      refine' wpAnyD_take (i := 16) (oi := { dst := some 191, op := Go.Op.fieldAddr 45 (Go.Operand.tmp 19) 1, type := 0, pos := "law.go:136", after := #[{ on := 8, ground := Go.Ground.guard }], guard := some (8, false) }) (v := _) rfl (by kernel_rfl) (by kernel_rfl) (by kernel_rfl) (fun _ _ _ h => h) (by kernel_rfl) (Or.inl ⟨by rfl, ?hy65⟩) hS0 ?rest65
                      case hy65 => (intro W hSw; have hc := (tk_store hSw.1).1; have hl := tk_lt hSw.1; go_simp; try (with_reducible rfl))
                      try simp only [Act.put, List.setIfInBounds_toArray, List.set_cons_zero, List.set_cons_succ]
                      refine' wpAnyD_take (i := 17) (oi := { dst := some 192, op := Go.Op.load 3 (Go.Operand.tmp 191), type := 3, pos := "law.go:136", after := #[{ on := 16, ground := Go.Ground.data }, { on := 8, ground := Go.Ground.guard }], guard := some (8, false) }) (v := _) rfl (by kernel_rfl) (by kernel_rfl) (by kernel_rfl) (fun _ _ _ h => h) (by kernel_rfl) (Or.inl ⟨by rfl, ?hy66⟩) hS0 ?rest66
                      case hy66 => (intro W hSw; have hc := (tk_store hSw.1).1; have hl := tk_lt hSw.1; go_simp; try (with_reducible rfl))
                      try simp only [Act.put, List.setIfInBounds_toArray, List.set_cons_zero, List.set_cons_succ]
                      refine' wpAnyD_take (i := 18) (oi := { dst := some 193, op := Go.Op.indexAddr 33 (Go.Operand.tmp 190) (Go.Operand.tmp 192), type := 0, pos := "law.go:136", after := #[{ on := 15, ground := Go.Ground.data }, { on := 17, ground := Go.Ground.data }, { on := 8, ground := Go.Ground.guard }], guard := some (8, false) }) (v := _) rfl (by kernel_rfl) (by kernel_rfl) (by kernel_rfl) (fun _ _ _ h => h) (by kernel_rfl) (Or.inl ⟨by rfl, ?hy67⟩) hS0 ?rest67
                      case hy67 => (intro W hSw; go_simp; try (with_reducible rfl))
                      try simp only [Act.put, List.setIfInBounds_toArray, List.set_cons_zero, List.set_cons_succ]
                      refine' wpAnyD_take (i := 19) (oi := { dst := some 194, op := Go.Op.load 3 (Go.Operand.tmp 193), type := 3, pos := "law.go:136", after := #[{ on := 18, ground := Go.Ground.data }, { on := 8, ground := Go.Ground.guard }], guard := some (8, false) }) (v := _) rfl (by kernel_rfl) (by kernel_rfl) (by kernel_rfl) (fun _ _ _ h => h) (by kernel_rfl) (Or.inl ⟨by rfl, ?hy68⟩) hS0 ?rest68
                      case hy68 => (intro W hSw; have hc := hSw.2.2.2.2.2.1; have hl := hSw.2.2.2.2.2.2; go_simp; try (with_reducible rfl))
                      try simp only [Act.put, List.setIfInBounds_toArray, List.set_cons_zero, List.set_cons_succ]
                      refine' wpAnyD_take (i := 20) (oi := { dst := some 195, op := Go.Op.binOp Go.BinOp.eql 3 (Go.Operand.tmp 189) (Go.Operand.tmp 194) 3, type := 4, pos := "law.go:136", after := #[{ on := 14, ground := Go.Ground.data }, { on := 19, ground := Go.Ground.data }, { on := 8, ground := Go.Ground.guard }], guard := some (8, false) }) (v := _) rfl (by kernel_rfl) (by kernel_rfl) (by kernel_rfl) (fun _ _ _ h => h) (by kernel_rfl) (Or.inl ⟨by rfl, ?hy69⟩) hS0 ?rest69
                      case hy69 => (intro W hSw; go_simp; try (with_reducible rfl))
                      try simp only [Act.put, List.setIfInBounds_toArray, List.set_cons_zero, List.set_cons_succ]
                      refine' wpAnyD_take (i := 21) (oi := { dst := some 196, op := Go.Op.pick (Go.Operand.tmp 183) (Go.Operand.const (Go.Value.bool true)) (Go.Operand.tmp 195), type := 4, pos := "law.go:136", after := #[{ on := 8, ground := Go.Ground.data }, { on := 20, ground := Go.Ground.data }], guard := none }) (v := _) rfl (by kernel_rfl) (by kernel_rfl) (by kernel_rfl) (fun _ _ _ h => h) (by kernel_rfl) (Or.inl ⟨by rfl, ?hy70⟩) hS0 ?rest70
                      case hy70 => (intro W hSw; go_simp; try (with_reducible rfl))
                      try simp only [Act.put, List.setIfInBounds_toArray, List.set_cons_zero, List.set_cons_succ]
                      refine' wpAnyD_take (i := 22) (oi := { dst := some 197, op := Go.Op.indexAddr 40 (Go.Operand.tmp 175) (Go.Operand.tmp 177), type := 0, pos := "law.go:136", after := #[{ on := 0, ground := Go.Ground.data }, { on := 2, ground := Go.Ground.data }, { on := 0, ground := Go.Ground.phase }, { on := 1, ground := Go.Ground.phase }, { on := 2, ground := Go.Ground.phase }, { on := 3, ground := Go.Ground.phase }, { on := 4, ground := Go.Ground.phase }, { on := 5, ground := Go.Ground.phase }, { on := 6, ground := Go.Ground.phase }, { on := 7, ground := Go.Ground.phase }, { on := 8, ground := Go.Ground.phase }, { on := 9, ground := Go.Ground.phase }, { on := 10, ground := Go.Ground.phase }, { on := 11, ground := Go.Ground.phase }, { on := 12, ground := Go.Ground.phase }, { on := 13, ground := Go.Ground.phase }, { on := 14, ground := Go.Ground.phase }, { on := 15, ground := Go.Ground.phase }, { on := 16, ground := Go.Ground.phase }, { on := 17, ground := Go.Ground.phase }, { on := 18, ground := Go.Ground.phase }, { on := 19, ground := Go.Ground.phase }, { on := 20, ground := Go.Ground.phase }, { on := 21, ground := Go.Ground.phase }], guard := none }) (v := _) rfl (by kernel_rfl) (by kernel_rfl) (by kernel_rfl) (fun _ _ _ h => h) (by kernel_rfl) (Or.inl ⟨by rfl, ?hy71⟩) hS0 ?rest71
                      case hy71 => (intro W hSw; go_simp; try (with_reducible rfl))
                      try simp only [Act.put, List.setIfInBounds_toArray, List.set_cons_zero, List.set_cons_succ]
                      refine wpAnyD_one (i := 23) (o := { dst := none, op := Go.Op.store 4 (Go.Operand.tmp 197) (Go.Operand.tmp 196), type := 0, pos := "law.go:136", after := #[{ on := 22, ground := Go.Ground.data }, { on := 21, ground := Go.Ground.data }, { on := 8, ground := Go.Ground.chain }, { on := 0, ground := Go.Ground.phase }, { on := 1, ground := Go.Ground.phase }, { on := 2, ground := Go.Ground.phase }, { on := 3, ground := Go.Ground.phase }, { on := 4, ground := Go.Ground.phase }, { on := 5, ground := Go.Ground.phase }, { on := 6, ground := Go.Ground.phase }, { on := 7, ground := Go.Ground.phase }, { on := 8, ground := Go.Ground.phase }, { on := 9, ground := Go.Ground.phase }, { on := 10, ground := Go.Ground.phase }, { on := 11, ground := Go.Ground.phase }, { on := 12, ground := Go.Ground.phase }, { on := 13, ground := Go.Ground.phase }, { on := 14, ground := Go.Ground.phase }, { on := 15, ground := Go.Ground.phase }, { on := 16, ground := Go.Ground.phase }, { on := 17, ground := Go.Ground.phase }, { on := 18, ground := Go.Ground.phase }, { on := 19, ground := Go.Ground.phase }, { on := 20, ground := Go.Ground.phase }, { on := 21, ground := Go.Ground.phase }], guard := none }) (by kernel_rfl) rfl (fun K hK => ?_)
                      have c8 := hS0.2.1
                      have f8 := hS0.2.2.2.1 q
                      have l8 := hS0.2.2.1
                      go_simp
                      rw [show (W7.setCell ⟨g10, q, none⟩ (.bool false)).drew = w12 from HW12.out.symm]
                      clear c8 f8 l8
                      refine hK.out _ _ (fun hD => absurd (by decide) hD) ?_
                      clear hK K
                      try simp only [Act.put, List.setIfInBounds_toArray, List.set_cons_zero, List.set_cons_succ]
                      refine wpAnyD_done (by kernel_rfl) ?_ _
                      clear hS0 HW12 hwrap hbe hrr
                      go_wp2_with fail
                      go_roundw
                      case rel => exact ⟨k + 1, by omega, by go_num, FIN.out⟩
                      case measure => simp [RowKit.intOf]; omega
                · have hlkz : ¬ (k : Int) < (sl : Int) := by omega
                  have H12 : Hid (Hb w9 i g10 (fun j => decide (0 < rf j)) wr) := HI.out.re (fun j hj => by
                    rw [List.take_of_length_le (by have := HSL.out; omega)]
                    rw [Bool.eq_iff_iff]
                    unfold heldF
                    rw [List.any_eq_true]
                    constructor
                    · rintro ⟨x, hx, hd⟩
                      obtain ⟨p, q, rfl, hs, _, _⟩ := HST.out x hx
                      have hd := of_decide_eq_true hd
                      have h0 := (HRK.out.pos p).1
                      have e1 : ((p : Nat) : Int).toNat = p := by omega
                      rw [e1] at hd
                      exact decide_eq_true (by omega)
                    · intro hd
                      obtain ⟨p, _, hs, he⟩ := HRK.out.held j (of_decide_eq_true hd)
                      exact ⟨_, HSP.out p j hs, decide_eq_true ⟨rfl, by simpa using he⟩⟩)
                  clear HI
                  go_wp2_with fail
                  go_loopw [20] (fun s20 wr => ∃ k : Nat, k ≤ i ∧ s20 = .int .i64 (k : Nat) ∧ Hid (Hb w9 i g10 (fun j => decide (0 < rf j)) wr)) (fun s20 _ => i - (RowKit.intOf s20).toNat)
                  case atStart => exact ⟨0, Nat.zero_le _, rfl, H12.out⟩
                  case round =>
                    clear H12
                    obtain ⟨j, hj, rfl, HI⟩ := hrel
                    by_cases hlj : j < i
                    · have hljz : (j : Int) < (i : Int) := by omega
                      have hj0 : (0 : Int) ≤ (j : Int) := by omega
                      have hh := (HI.out.cell hlj).1
                      have lh := (HI.out.cell hlj).2
                      obtain ⟨bR, oR, cR, eR, zR, xR⟩ := ls_atI ((LR9.out.below HI.out.bl).ls (fnL_get rf hlj)) (fnL_get rf hlj)
                      simp only [Value.slice.injEq] at eR
                      obtain ⟨rfl, -, rfl⟩ := eR
                      have hr0 := (HRK.out.pos j).1
                      obtain ⟨rj, hrj⟩ : ∃ x, x = rf j := ⟨_, rfl⟩
                      rw [← hrj] at hh xR hr0
                      have hr1 : ¬ rj < 0 := by omega
                      have HNX : Hid (∀ m, Hb w9 i g10 (fun j => decide (0 < rf j)) (wr.drewN m)) := fun m => HI.out.below ((Gr.refl wr).drewN m).below
                      clear hrj HI
                      by_cases hr2 : 0 < rj
                      · rw [decide_eq_true hr2] at hh
                        go_upto_region 37 with fail
                        go_quiet (fail)
                        have FIN := hid (HNX.out nq)
                        go_wp2_with fail
                        go_roundw
                        case rel => exact ⟨j + 1, by omega, by go_num, FIN.out⟩
                        case measure => simp [RowKit.intOf]; omega
                      · rw [decide_eq_false hr2] at hh
                        go_upto_region 37 with fail
                        go_quiet (fail)
                        have FIN := hid (HNX.out nq)
                        go_wp2_with fail
                        go_roundw
                        case rel => exact ⟨j + 1, by omega, by go_num, FIN.out⟩
                        case measure => simp [RowKit.intOf]; omega
                    · have hljz : ¬ (j : Int) < (i : Int) := by omega
                      have FIN : Hid (Below w.heap.size w wr) := B9.out.trans (HI.out.bl.mono B9.out.size)
                      clear HI
                      go_wp2_with fail
                      go_ret
                      exact ⟨rfl, FIN.out⟩
  · have FIN : Hid (Below w.heap.size w w2) := HB.out.2.trans (B2.out.mono HB.out.2.size)
    clear hfl
    go_wp2_with fail
    go_ret
    exact ⟨rfl, FIN.out⟩
end Go.Proofs.YtngnfglnfkhheaaGreat.Df
