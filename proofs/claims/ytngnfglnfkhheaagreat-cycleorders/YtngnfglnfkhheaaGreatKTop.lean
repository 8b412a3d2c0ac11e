import Derived.Test.YtngnfglnfkhheaaGreatJ3
import Derived.BigQuiet
namespace Go.Proofs.YtngnfglnfkhheaaGreat.Df
open Go.RowKit Go.Sort
attribute [local go_sem ↓] Go.wp_at_zero Go.wp_at_succ
theorem nlNodes_any (w : World) : Calls Tryz.prog 54 #[.pointer none] w fun r w' => r = .returned (.int .i64 0) ∧ w' = w := by
  go_enter Tryz.func54, Tryz.ntmps54
  go_wp2_with fail
  go_ret
  exact ⟨rfl, rfl⟩
theorem nlPlaces_any (w : World) : Calls Tryz.prog 52 #[.pointer none] w fun r w' => r = .returned (.int .i64 0) ∧ w' = w := by
  go_enter Tryz.func52, Tryz.ntmps52
  go_wp2_with fail
  go_ret
  exact ⟨rfl, rfl⟩
theorem nlRaw_any (w : World) : Calls Tryz.prog 53 #[.pointer none] w fun r w' => r = .returned (.agg (gvc 0 (.slice none 0 0) (.slice none 0 0))) ∧ Below w.heap.size w w' := by
  go_enter Tryz.func53, Tryz.ntmps53
  go_wp2_with fail
  refine bodyPost_ret (v := .agg #[.int .i64 0, .slice none 0 0, .slice none 0 0]) (by simp [results, Tryz.results53, go_sem]) rfl ?_
  exact ⟨rfl, ((Gr.refl w).alloc _).below⟩
set_option maxHeartbeats 2000000 in
/-- A nil graph has no steps. -/
theorem stepsNil_any (w : World) : Calls Tryz.prog 29 #[.pointer none] w fun r w' => ∃ p c, r = .returned (.slice p 0 c) ∧ Below w.heap.size w w' := by
  obtain ⟨i0, hi0, hz0, hz1, hz2⟩ := info_parts infoLL
  have fd := fldG2 (.int .i64 0) (.slice none 0 0) (.slice none 0 0)
  go_enter Tryz.func29, Tryz.ntmps29
  go_wp2_with fail
  refine (nlPlaces_any w).mono ?_
  rintro r w1 ⟨rfl, hw1⟩
  have hw2 := hw1.symm
  subst hw2
  clear hw1
  go_upto_region 2 with (at_make; refine wpList_make_full _ rfl _ _ 67 rfl w.heap.size 33 i0 (.slice none 0 0) 1 Tryz.underlying67 hi0 hz0 hz1 _ _ _ _ 0 rfl rfl rfl rfl (by omega) (by unfold maxLen; omega) (Nat.le_refl _) ?_; intro w2 hrow hg1)
  have B2 : Hid (Below w.heap.size w w2) := (Kp.grownBy (S := fun _ => False) hg1 (fun _ h => by cases h)).below (Nat.le_refl _) (fun _ h => h.elim)
  clear hrow hg1
  go_wp2_with fail
  refine (nlRaw_any w2).mono ?_
  rintro r w3 ⟨rfl, hb3⟩
  have B3 : Hid (Below w.heap.size w w3) := B2.out.trans (hb3.mono B2.out.size)
  clear hb3
  dsimp only [gvc]
  go_wp2_with fail
  refine wp_loop_rounds 1 ?_
  rw [rounds_succ]
  go_wp2_with fail
  refine (nlNodes_any w3).mono ?_
  rintro r w4 ⟨rfl, hw4⟩
  have hw5 := hw4.symm
  subst hw5
  clear hw4
  go_wp2_with fail
  refine wp_loop_rounds 1 ?_
  rw [rounds_succ]
  go_wp2_with fail
  refine wp_loop_rounds 1 ?_
  rw [rounds_succ]
  go_wp2_with fail
  go_ret
  exact ⟨_, _, rfl, B3.out⟩
/-- The order of a graph's places. -/
theorem order_any {B gb : Nat} {g : Gph} (w : World) (h : Gm B w gb g) (hOK : Gok g) : Calls Tryz.prog 9 #[.pointer (some ⟨gb, 0, none⟩)] w (Od w (stL g).length (stL g)) := by
  have hs := stepsOf_any w h hOK
  have HOK := hid hOK
  clear h hOK
  go_enter Tryz.func9, Tryz.ntmps9
  go_wp2_with fail
  refine hs.mono ?_
  clear hs
  rintro r w1 ⟨v, rfl, H1⟩
  have ho := ordered_any w1 H1.out.2 (stL_good HOK.out).1 (stL_good HOK.out).2
  go_wp2_with fail
  refine ho.mono ?_
  clear ho
  rintro r w2 ⟨hb, hr⟩
  have hbb := H1.out.1.trans (hb.mono H1.out.1.size)
  rcases hr with ⟨e, rfl⟩ | ⟨o, f, d, e, rfl, hrow⟩
  · have FIN : Hid (Od w (stL g).length (stL g) (.returned (.tuple #[.slice none 0 0, .int .i64 27])) w2) := ⟨hbb, Or.inl ⟨e, rfl⟩⟩
    clear e hb hbb
    go_wp2_with fail
    refine bodyPost_ret (v := .tuple #[.slice none 0 0, .int .i64 27]) (by simp [results, Tryz.results9, go_sem]) rfl ?_
    exact FIN.out
  · obtain ⟨q, m, c, rfl⟩ := owns_form hrow
    have FIN : Hid (Od w (stL g).length (stL g) (.returned (.tuple #[.slice q m c, .int .i64 0])) w2) := ⟨hbb, Or.inr ⟨o, f, _, e, rfl, owns_base hrow H1.out.1.size⟩⟩
    clear e hb hbb hrow
    go_wp2_with fail
    refine bodyPost_ret (v := .tuple #[.slice q m c, .int .i64 0]) (by simp [results, Tryz.results9, go_sem]) rfl ?_
    exact FIN.out
theorem orderNil_any (w : World) : Calls Tryz.prog 9 #[.pointer none] w fun r w' => r = .returned (.tuple #[.slice none 0 0, .int .i64 1]) ∧ w' = w := by
  go_enter Tryz.func9, Tryz.ntmps9
  go_wp2_with fail
  refine bodyPost_ret (v := .tuple #[.slice none 0 0, .int .i64 1]) (by simp [results, Tryz.results9, go_sem]) rfl ?_
  exact ⟨rfl, rfl⟩
theorem rankNil_any (w : World) : Calls Tryz.prog 10 #[.pointer none] w fun r w' => r = .returned (.tuple #[.slice none 0 0, .int .i64 1]) ∧ w' = w := by
  go_enter Tryz.func10, Tryz.ntmps10
  go_wp2_with fail
  refine bodyPost_ret (v := .tuple #[.slice none 0 0, .int .i64 1]) (by simp [results, Tryz.results10, go_sem]) rfl ?_
  exact ⟨rfl, rfl⟩
/-- What Rank answers. -/
def Rd (w : World) (ls : List (List Int)) (r : Ending) (w' : World) : Prop := Below w.heap.size w w' ∧ ((ordN ls.length ls ls.length = none ∧ r = .returned (.tuple #[.slice none 0 0, .int .i64 27])) ∨ ∃ us f d, ordN ls.length ls ls.length = some (ints us, f) ∧ r = .returned (.tuple #[d, .int .i64 0]) ∧ w'.ownsRow w.heap.size 3 1 d ls.length (fl EI (fnL ls.length (rkN ls us))))
theorem rk_step {ls : List (List Int)} {u : Nat} {l : List Int} {f : Nat → Int} {k : Nat} (hl : ls[u]? = some l) (hk : l.length ≤ k) : (fun y : Nat => if ((y : Nat) : Int) ∈ l.take k then max (f y) (f u + 1) else f y) = rkS ls f u := by
  have h : l.take k = l := List.take_of_length_le hk
  funext y
  unfold rkS
  rw [h, hl]
  rfl
set_option maxRecDepth 100000 in
set_option maxHeartbeats 8000000 in
/-- The ranks of a graph's places. -/
theorem rank_any {B gb : Nat} {g : Gph} (w : World) (h : Gm B w gb g) (hOK : Gok g) : Calls Tryz.prog 10 #[.pointer (some ⟨gb, 0, none⟩)] w (Rd w (stL g)) := by
  have hmx : Tryz.prog.follows .mixedOrders = true := by kernel_rfl
  have hs := stepsOf_any w h hOK
  have HOK := hid hOK
  have hgood := stL_good hOK
  obtain ⟨ls, hls⟩ : ∃ ls, ls = stL g := ⟨_, rfl⟩
  rw [← hls] at hs hgood ⊢
  obtain ⟨n, hn⟩ : ∃ n, n = ls.length := ⟨_, rfl⟩
  have HX : Hid (∀ l ∈ ls, l.length ≤ 1000 ∧ ∀ x ∈ l, 0 ≤ x ∧ x < (n : Int)) := by rw [hn]; exact hgood.2
  have hn9 : n ≤ 1000 := by rw [hn]; exact hgood.1
  have HN := hid hn
  have HG := hid hgood
  obtain ⟨i0, hi0, hz0, hz1, hz2⟩ := info_parts infoIK
  clear h hOK hgood hls hn
  go_enter Tryz.func10, Tryz.ntmps10
  go_wp2_with fail
  refine hs.mono ?_
  clear hs
  rintro r w1 ⟨v, rfl, H1⟩
  have ho := ordered_any w1 H1.out.2 HG.out.1 HG.out.2
  obtain ⟨p, c, rfl⟩ := H1.out.2.form
  go_wp2_with fail
  refine ho.mono ?_
  clear ho
  rintro r w2 ⟨hb, hr⟩
  have H2 : Hid (Below w.heap.size w w2 ∧ Below w1.heap.size w1 w2 ∧ w.heap.size ≤ w2.heap.size) := ⟨H1.out.1.trans (hb.mono H1.out.1.size), hb, Nat.le_trans H1.out.1.size hb.size⟩
  clear hb
  rcases hr with ⟨e, rfl⟩ | ⟨o, f, d, e, rfl, hrow⟩
  · have FIN : Hid (Rd w ls (.returned (.tuple #[.slice none 0 0, .int .i64 27])) w2) := ⟨H2.out.1, Or.inl ⟨e, rfl⟩⟩
    clear e
    go_wp2_with fail
    refine bodyPost_ret (v := .tuple #[.slice none 0 0, .int .i64 27]) (by simp [results, Tryz.results10, go_sem]) rfl ?_
    exact FIN.out
  · obtain ⟨us, ho, hor⟩ := ord_some e
    have HE := hid e
    have HOR := hid hor
    have hul : us.length = n := by rw [hor.len, HN.out]
    have hol : o.length = n := by rw [ho]; simpa using hul
    have HUO := hid ho
    obtain ⟨q, m, c2, rfl⟩ := owns_form hrow
    obtain ⟨rfl, hcap⟩ := owns_caps hrow _ _ _ rfl
    have HO : Hid (Lz EI w2.heap.size w2 (.slice q o.length c2) o) := owns_lz (E := EI) hrow
    have HF : Hid (Ff w1.heap.size w2 (.slice p ls.length c) ls) := H1.out.2.below H2.out.2.1
    rw [hol] at HO ⊢
    rw [← HN.out] at HF ⊢
    have HUL := hid hul
    clear e ho hor hrow hol hcap hul
    go_upto_region 8 with (at_make; refine wpList_make_full _ rfl _ _ 33 rfl w2.heap.size 3 i0 (.int .i64 0) 1 Tryz.underlying33 hi0 hz0 hz1 _ _ _ _ n rfl rfl rfl rfl (by rw [hz2]; omega) (by unfold maxLen; omega) (Nat.le_refl _) ?_; intro w3 hrow hg1)
    obtain ⟨g3, hg3⟩ : ∃ g, g = w2.heap.size := ⟨_, rfl⟩
    rw [← hg3]
    have W1 : Hid (Wt w2 n g3 (rkN ls (us.take 0)) w3) := by
      refine ⟨(Kp.grownBy (S := fun _ => False) hg1 (fun _ h => by cases h)).below (Nat.le_refl _) (fun _ h => h.elim), ?_⟩
      rw [hg3]
      refine owns_re hrow rfl ?_
      rw [madeK, fnL_zero, fl_I]
      rfl
    clear hrow hg1 hg3 hi0 hz0 hz1 hz2
    go_wp2_with fail
    go_loopw [29] (fun s29 wr => ∃ t : Nat, t ≤ n ∧ s29 = .int .i64 (t : Nat) ∧ Hid (Wt w2 n g3 (rkN ls (us.take t)) wr)) (fun s29 _ => n - (RowKit.intOf s29).toNat)
    case atStart => exact ⟨0, Nat.zero_le _, rfl, W1.out⟩
    case round =>
      clear W1
      obtain ⟨t, ht, rfl, HI⟩ := hrel
      by_cases hlt : t < n
      · have hltz : (t : Int) < (n : Int) := by omega
        have ht0 : (0 : Int) ≤ (t : Int) := by omega
        obtain ⟨u, hu⟩ : ∃ u, us[t]? = some u := ⟨us[t]'(by have := HUL.out; omega), by simp⟩
        have hun : u < n := by rw [HN.out]; exact HOR.out.bd u (List.mem_of_getElem? hu)
        have hou : o[t]? = some ((u : Nat) : Int) := by rw [HUO.out]; simp [hu]
        obtain ⟨b, off, c1, e1, z0, x0⟩ := ls_atI (HO.out.ls hou) hou
        have x1 := (HI.out.bl.cell (p := ⟨b, off + t, none⟩) z0).trans x0
        have z1 := Nat.lt_of_lt_of_le z0 HI.out.bl.size
        simp only [Value.slice.injEq] at e1
        obtain ⟨rfl, -, rfl⟩ := e1
        obtain ⟨l, hl⟩ : ∃ l, ls[u]? = some l := ⟨ls[u]'(by have := HN.out; omega), by simp⟩
        obtain ⟨b2, off2, c3, q2, c4, e2, z2, x2, hz⟩ := HF.out.at hl
        have x3 := (HI.out.bl.cell (p := ⟨b2, off2 + u, none⟩) z2).trans x2
        have z3 := Nat.lt_of_lt_of_le z2 HI.out.bl.size
        simp only [Value.slice.injEq] at e2
        obtain ⟨rfl, -, rfl⟩ := e2
        have HL : Hid (ls[u]? = some l ∧ l.length ≤ 1000 ∧ (∀ x ∈ l, 0 ≤ x ∧ x < (n : Int)) ∧ ((u : Nat) : Int) ∉ l ∧ us[t]? = some u) := ⟨hl, (HX.out l (List.mem_of_getElem? hl)).1, (HX.out l (List.mem_of_getElem? hl)).2, fun e => HOR.out.self ⟨l, hl, e⟩, hu⟩
        have HZ := hid (fun (W : World) (hb : Below w2.heap.size w2 W) => hz.below hb)
        have hll := HL.out.2.1
        obtain ⟨f0, hf0⟩ : ∃ f, f = rkN ls (us.take t) := ⟨_, rfl⟩
        have HB0 : Hid (∀ k, 0 ≤ f0 k ∧ f0 k ≤ (t : Int)) := by rw [hf0]; exact (Rk.all HOR.out t (by have := HUL.out; omega)).pos
        have HF0 := hid hf0
        have hu0 : (0 : Int) ≤ (u : Int) := by omega
        have huz : (u : Int) < (n : Int) := by omega
        rw [← hf0] at HI
        clear hz hl z0 x0 z2 x2 hu hou hf0
        go_wp2_with fail
        clear x1 z1 x3 z3
        go_loopw [38] (fun s38 wr => ∃ k : Nat, k ≤ l.length ∧ s38 = .int .i64 (k : Nat) ∧ Hid (Wt w2 n g3 (fun y => if ((y : Nat) : Int) ∈ l.take k then max (f0 y) (f0 u + 1) else f0 y) wr)) (fun s38 _ => l.length - (RowKit.intOf s38).toNat)
        case atStart => exact ⟨0, Nat.zero_le _, rfl, HI.out.re (fun k _ => by simp)⟩
        case round =>
          clear HI
          obtain ⟨k, hk, rfl, HI⟩ := hrel
          by_cases hlk : k < l.length
          · have hlkz : (k : Int) < (l.length : Int) := by omega
            have hk0 : (0 : Int) ≤ (k : Int) := by omega
            obtain ⟨x, hx⟩ : ∃ x, l[k]? = some x := ⟨l[k], by simp⟩
            have hxb := HL.out.2.2.1 x (List.mem_of_getElem? hx)
            have hxu : x ≠ ((u : Nat) : Int) := fun e => HL.out.2.2.2.1 (e ▸ List.mem_of_getElem? hx)
            obtain ⟨e, rfl⟩ : ∃ e : Nat, x = (e : Int) := ⟨x.toNat, by omega⟩
            obtain ⟨b5, o5, c5, e5, z5, y5⟩ := ls_atI ((HZ.out wr HI.out.bl).ls hx) hx
            simp only [Value.slice.injEq] at e5
            obtain ⟨rfl, -, rfl⟩ := e5
            obtain ⟨a, ha⟩ : ∃ a : Int, a = if ((e : Nat) : Int) ∈ l.take k then max (f0 e) (f0 u + 1) else f0 e := ⟨_, rfl⟩
            obtain ⟨fu, hfu⟩ : ∃ a : Int, a = f0 u := ⟨_, rfl⟩
            have hc := (HI.out.cell (k := e) (by omega)).1
            rw [← ha] at hc
            have hcu := (HI.out.cell (k := u) hun).1
            rw [if_neg (fun e2 => HL.out.2.2.2.1 (List.mem_of_mem_take e2)), ← hfu] at hcu
            have lg := (HI.out.cell (k := e) (by omega)).2
            have fg := own_frK HI.out.row
            have ha9 : 0 ≤ a ∧ a ≤ 1000 := by
              have h1 := HB0.out e
              have h2 := HB0.out u
              rw [ha]
              split <;> omega
            have hfu9 : 0 ≤ fu ∧ fu ≤ 1000 := by
              have h2 := HB0.out u
              omega
            have FIN : Hid (Wt w2 n g3 (fun y => if ((y : Nat) : Int) ∈ l.take (k + 1) then max (f0 y) (f0 u + 1) else f0 y) ((wr.setCell ⟨g3, e, none⟩ (.int .i64 (max a (fu + 1)))).drew)) := by
              have hW := (HI.out.set e (max a (fu + 1))).1
              refine (hW.below (Gr.refl _).drew.below).re (fun y _ => ?_)
              unfold upd
              rw [List.take_add_one, hx]
              by_cases hy : y = e
              · subst hy
                rw [if_pos rfl, if_pos (by simp), ha, hfu]
                split
                · rw [Int.max_assoc, Int.max_self]
                · rfl
              · rw [if_neg hy]
                have e3 : (((y : Nat) : Int) ∈ l.take k ++ (some ((e : Nat) : Int)).toList) ↔ ((y : Nat) : Int) ∈ l.take k := by
                  simp only [Option.toList_some, List.mem_append, List.mem_singleton]
                  exact ⟨fun h => h.resolve_right (by omega), Or.inl⟩
                simp only [e3]
            have he0 : (0 : Int) ≤ (e : Int) := by omega
            have hen : (e : Int) < (n : Int) := hxb.2
            obtain ⟨ha1, ha2⟩ := ha9
            obtain ⟨hfu1, hfu2⟩ := hfu9
            obtain ⟨w9, hw9⟩ : ∃ W, W = (wr.setCell ⟨g3, e, none⟩ (.int .i64 (max a (fu + 1)))).drew := ⟨_, rfl⟩
            rw [← hw9] at FIN
            have HW9 := hid hw9
            have hwrap : IntKind.i64.wrap (fu + 1) = fu + 1 := by rw [IntKind.wrap_i64]; omega
            clear hx ha hfu hw9 hxu
            go_upto_region 14 with fail
            have hS0 : (wr.drew).cell? ⟨g3, e, none⟩ = some (.int .i64 a) ∧ (wr.drew).cell? ⟨g3, u, none⟩ = some (.int .i64 fu) ∧ g3 < (wr.drew).heap.size ∧ ∀ j, (wr.drew).frozen? ⟨g3, j, none⟩ = false := ⟨hc, hcu, lg, fg⟩
            clear hc hcu lg fg
            refine wp_regionD (S := fun W => W.cell? ⟨g3, e, none⟩ = some (.int .i64 a) ∧ W.cell? ⟨g3, u, none⟩ = some (.int .i64 fu) ∧ g3 < W.heap.size ∧ ∀ j, W.frozen? ⟨g3, j, none⟩ = false) (D := [13]) hmx ?_
            refine' wpAnyD_take (i := 0) (oi := { dst := some 42, op := Go.Op.move (Go.Operand.tmp 7), type := 33, pos := "cycle.go:32", after := #[], guard := none }) (v := _) rfl (by kernel_rfl) (by kernel_rfl) (by kernel_rfl) (fun _ _ _ h => h) (by kernel_rfl) (Or.inl ⟨by rfl, ?hy1⟩) hS0 ?rest1
            case hy1 => (intro W hSw; go_simp; try (with_reducible rfl))
            try simp only [Act.put, List.setIfInBounds_toArray, List.set_cons_zero, List.set_cons_succ]
            refine' wpAnyD_take (i := 1) (oi := { dst := some 43, op := Go.Op.move (Go.Operand.tmp 11), type := 3, pos := "cycle.go:32", after := #[], guard := none }) (v := _) rfl (by kernel_rfl) (by kernel_rfl) (by kernel_rfl) (fun _ _ _ h => h) (by kernel_rfl) (Or.inl ⟨by rfl, ?hy2⟩) hS0 ?rest2
            case hy2 => (intro W hSw; go_simp; try (with_reducible rfl))
            try simp only [Act.put, List.setIfInBounds_toArray, List.set_cons_zero, List.set_cons_succ]
            refine' wpAnyD_take (i := 2) (oi := { dst := some 44, op := Go.Op.move (Go.Operand.tmp 7), type := 33, pos := "cycle.go:32", after := #[], guard := none }) (v := _) rfl (by kernel_rfl) (by kernel_rfl) (by kernel_rfl) (fun _ _ _ h => h) (by kernel_rfl) (Or.inl ⟨by rfl, ?hy3⟩) hS0 ?rest3
            case hy3 => (intro W hSw; go_simp; try (with_reducible rfl))
            try simp only [Act.put, List.setIfInBounds_toArray, List.set_cons_zero, List.set_cons_succ]
            refine' wpAnyD_take (i := 3) (oi := { dst := some 45, op := Go.Op.move (Go.Operand.tmp 11), type := 3, pos := "cycle.go:32", after := #[], guard := none }) (v := _) rfl (by kernel_rfl) (by kernel_rfl) (by kernel_rfl) (fun _ _ _ h => h) (by kernel_rfl) (Or.inl ⟨by rfl, ?hy4⟩) hS0 ?rest4
            case hy4 => (intro W hSw; go_simp; try (with_reducible rfl))
            try simp only [Act.put, List.setIfInBounds_toArray, List.set_cons_zero, List.set_cons_succ]
            refine' wpAnyD_take (i := 4) (oi := { dst := some 46, op := Go.Op.indexAddr 33 (Go.Operand.tmp 44) (Go.Operand.tmp 45), type := 0, pos := "cycle.go:32", after := #[{ on := 2, ground := Go.Ground.data }, { on := 3, ground := Go.Ground.data }], guard := none }) (v := _) rfl (by kernel_rfl) (by kernel_rfl) (by kernel_rfl) (fun _ _ _ h => h) (by kernel_rfl) (Or.inl ⟨by rfl, ?hy5⟩) hS0 ?rest5
            case hy5 => (intro W hSw; go_simp; try (with_reducible rfl))
            try simp only [Act.put, List.setIfInBounds_toArray, List.set_cons_zero, List.set_cons_succ]
            refine' wpAnyD_take (i := 5) (oi := { dst := some 47, op := Go.Op.load 3 (Go.Operand.tmp 46), type := 3, pos := "cycle.go:32", after := #[{ on := 4, ground := Go.Ground.data }], guard := none }) (v := _) rfl (by kernel_rfl) (by kernel_rfl) (by kernel_rfl) (fun _ _ _ h => h) (by kernel_rfl) (Or.inl ⟨by rfl, ?hy6⟩) hS0 ?rest6
            case hy6 => (intro W hSw; have hc := hSw.1; have hl := hSw.2.2.1; go_simp; try (with_reducible rfl))
            try simp only [Act.put, List.setIfInBounds_toArray, List.set_cons_zero, List.set_cons_succ]
            refine' wpAnyD_take (i := 6) (oi := { dst := some 48, op := Go.Op.move (Go.Operand.tmp 7), type := 33, pos := "cycle.go:32", after := #[], guard := none }) (v := _) rfl (by kernel_rfl) (by kernel_rfl) (by kernel_rfl) (fun _ _ _ h => h) (by kernel_rfl) (Or.inl ⟨by rfl, ?hy7⟩) hS0 ?rest7
            case hy7 => (intro W hSw; go_simp; try (with_reducible rfl))
            try simp only [Act.put, List.setIfInBounds_toArray, List.set_cons_zero, List.set_cons_succ]
            refine' wpAnyD_take (i := 7) (oi := { dst := some 49, op := Go.Op.move (Go.Operand.tmp 9), type := 3, pos := "cycle.go:32", after := #[], guard := none }) (v := _) rfl (by kernel_rfl) (by kernel_rfl) (by kernel_rfl) (fun _ _ _ h => h) (by kernel_rfl) (Or.inl ⟨by rfl, ?hy8⟩) hS0 ?rest8
            case hy8 => (intro W hSw; go_simp; try (with_reducible rfl))
            try simp only [Act.put, List.setIfInBounds_toArray, List.set_cons_zero, List.set_cons_succ]
            refine' wpAnyD_take (i := 8) (oi := { dst := some 50, op := Go.Op.indexAddr 33 (Go.Operand.tmp 48) (Go.Operand.tmp 49), type := 0, pos := "cycle.go:32", after := #[{ on := 6, ground := Go.Ground.data }, { on := 7, ground := Go.Ground.data }], guard := none }) (v := _) rfl (by kernel_rfl) (by kernel_rfl) (by kernel_rfl) (fun _ _ _ h => h) (by kernel_rfl) (Or.inl ⟨by rfl, ?hy9⟩) hS0 ?rest9
            case hy9 => (intro W hSw; go_simp; try (with_reducible rfl))
            try simp only [Act.put, List.setIfInBounds_toArray, List.set_cons_zero, List.set_cons_succ]
            refine' wpAnyD_take (i := 9) (oi := { dst := some 51, op := Go.Op.load 3 (Go.Operand.tmp 50), type := 3, pos := "cycle.go:32", after := #[{ on := 8, ground := Go.Ground.data }], guard := none }) (v := _) rfl (by kernel_rfl) (by kernel_rfl) (by kernel_rfl) (fun _ _ _ h => h) (by kernel_rfl) (Or.inl ⟨by rfl, ?hy10⟩) hS0 ?rest10
            case hy10 => (intro W hSw; have hc := hSw.2.1; have hl := hSw.2.2.1; go_simp; try (with_reducible rfl))
            try simp only [Act.put, List.setIfInBounds_toArray, List.set_cons_zero, List.set_cons_succ]
            refine' wpAnyD_take (i := 10) (oi := { dst := some 52, op := Go.Op.binOp Go.BinOp.add 3 (Go.Operand.tmp 51) (Go.Operand.const (Go.Value.int Go.IntKind.i64 1)) 3, type := 3, pos := "cycle.go:32", after := #[{ on := 9, ground := Go.Ground.data }], guard := none }) (v := _) rfl (by kernel_rfl) (by kernel_rfl) (by kernel_rfl) (fun _ _ _ h => h) (by kernel_rfl) (Or.inl ⟨by rfl, ?hy11⟩) hS0 ?rest11
            case hy11 => (intro W hSw; go_simp; try (with_reducible rfl))
            try simp only [Act.put, List.setIfInBounds_toArray, List.set_cons_zero, List.set_cons_succ]
            refine' wpAnyD_take (i := 11) (oi := { dst := some 53, op := Go.Op.call { callee := Go.Callee.builtin Go.Builtin.max, args := #[Go.Operand.tmp 47, Go.Operand.tmp 52], argTypes := #[3, 3] }, type := 3, pos := "cycle.go:32", after := #[{ on := 5, ground := Go.Ground.data }, { on := 10, ground := Go.Ground.data }], guard := none }) (v := _) rfl (by kernel_rfl) (by kernel_rfl) (by kernel_rfl) (fun _ _ _ h => h) (by kernel_rfl) (Or.inl ⟨by rfl, ?hy12⟩) hS0 ?rest12
            case hy12 => (intro W hSw; go_simp; try (with_reducible rfl))
            try simp only [Act.put, List.setIfInBounds_toArray, List.set_cons_zero, List.set_cons_succ]
            refine' wpAnyD_take (i := 12) (oi := { dst := some 54, op := Go.Op.indexAddr 33 (Go.Operand.tmp 42) (Go.Operand.tmp 43), type := 0, pos := "cycle.go:32", after := #[{ on := 0, ground := Go.Ground.data }, { on := 1, ground := Go.Ground.data }, { on := 0, ground := Go.Ground.phase }, { on := 1, ground := Go.Ground.phase }, { on := 2, ground := Go.Ground.phase }, { on := 3, ground := Go.Ground.phase }, { on := 4, ground := Go.Ground.phase }, { on := 5, ground := Go.Ground.phase }, { on := 6, ground := Go.Ground.phase }, { on := 7, ground := Go.Ground.phase }, { on := 8, ground := Go.Ground.phase }, { on := 9, ground := Go.Ground.phase }, { on := 10, ground := Go.Ground.phase }, { on := 11, ground := Go.Ground.phase }], guard := none }) (v := _) rfl (by kernel_rfl) (by kernel_rfl) (by kernel_rfl) (fun _ _ _ h => h) (by kernel_rfl) (Or.inl ⟨by rfl, ?hy13⟩) hS0 ?rest13
            case hy13 => (intro W hSw; go_simp; try (with_reducible rfl))
            try simp only [Act.put, List.setIfInBounds_toArray, List.set_cons_zero, List.set_cons_succ]
            refine wpAnyD_one (i := 13) (o := { dst := none, op := Go.Op.store 3 (Go.Operand.tmp 54) (Go.Operand.tmp 53), type := 0, pos := "cycle.go:32", after := #[{ on := 12, ground := Go.Ground.data }, { on := 11, ground := Go.Ground.data }, { on := 0, ground := Go.Ground.phase }, { on := 1, ground := Go.Ground.phase }, { on := 2, ground := Go.Ground.phase }, { on := 3, ground := Go.Ground.phase }, { on := 4, ground := Go.Ground.phase }, { on := 5, ground := Go.Ground.phase }, { on := 6, ground := Go.Ground.phase }, { on := 7, ground := Go.Ground.phase }, { on := 8, ground := Go.Ground.phase }, { on := 9, ground := Go.Ground.phase }, { on := 10, ground := Go.Ground.phase }, { on := 11, ground := Go.Ground.phase }], guard := none }) (by kernel_rfl) rfl (fun K hK => ?_)
            have c8 := hS0.1
            have f8 := hS0.2.2.2 e
            have l8 := hS0.2.2.1
            go_simp
            rw [show (wr.setCell ⟨g3, e, none⟩ (.int .i64 (max a (fu + 1)))).drew = w9 from HW9.out.symm]
            clear c8 f8 l8
            refine hK.out _ _ (fun hD => absurd (by decide) hD) ?_
            clear hK K
            try simp only [Act.put, List.setIfInBounds_toArray, List.set_cons_zero, List.set_cons_succ]
            refine wpAnyD_done (by kernel_rfl) ?_ _
            clear hS0 HW9 hwrap
            go_wp2_with fail
            go_roundw
            case rel => exact ⟨k + 1, by omega, by go_num, FIN.out⟩
            case measure => simp [RowKit.intOf]; omega
          · have hlkz : ¬ (k : Int) < (l.length : Int) := by omega
            have FIN : Hid (Wt w2 n g3 (rkN ls (us.take (t + 1))) wr) := by
              have h := HI.out
              rw [rk_step HL.out.1 (by omega), HF0.out, ← rkN_snoc] at h
              rw [List.take_add_one, HL.out.2.2.2.2]
              exact h
            clear HI
            go_wp2_with fail
            go_roundw
            case rel => exact ⟨t + 1, by omega, by go_num, FIN.out⟩
            case measure => simp [RowKit.intOf]; omega
      · have hltz : ¬ (t : Int) < (n : Int) := by omega
        have FIN : Hid (Rd w ls (.returned (.tuple #[.slice (some ⟨g3, 0, none⟩) n n, .int .i64 0])) wr) := by
          have h := HI.out
          rw [List.take_of_length_le (by have := HUL.out; omega)] at h
          refine ⟨H2.out.1.trans (h.bl.mono H2.out.2.2), Or.inr ⟨us, f, _, by rw [HE.out, HUO.out], rfl, ?_⟩⟩
          have hr := owns_base h.row H2.out.2.2
          rw [← HN.out]
          exact hr
        clear HI
        go_wp2_with fail
        refine bodyPost_ret (v := .tuple #[.slice (some ⟨g3, 0, none⟩) n n, .int .i64 0]) (by simp [results, Tryz.results10, go_sem]) rfl ?_
        exact FIN.out
end Go.Proofs.YtngnfglnfkhheaaGreat.Df
