import Derived.Test.YtpgodnaebkmhhaaGreatJ6
import Derived.BigQuiet
import Derived.Test.YtpgodnaebkmhhaaGreatJ5
namespace Go.Proofs.YtpgodnaebkmhhaaGreat.Df
open Go.RowKit Go.Sort
attribute [local go_sem ↓] Go.wp_at_zero Go.wp_at_succ
theorem nlNodes_any (w : World) : Calls Tryz.prog 54 #[.pointer none] w fun r w' => r = .returned (.int .i64 0) ∧ w' = w := by
  go_enter Tryz.func54, Tryz.ntmps54
  go_wp2_with fail
  go_ret
  exact ⟨rfl, rfl⟩
theorem nlPlaces_any (w : World) : Calls Tryz.prog 52 #[.pointer none] w fun r w' => r = .returned (.int .i64 0) ∧ w' = w := by
  go_enter Tryz.func52, Tryz.ntmps52
  go_wp2_with fail
  go_ret
  exact ⟨rfl, rfl⟩
theorem nlRaw_any (w : World) : Calls Tryz.prog 53 #[.pointer none] w fun r w' => r = .returned (.agg (gvc 0 (.slice none 0 0) (.slice none 0 0))) ∧ Below w.heap.size w w' := by
  go_enter Tryz.func53, Tryz.ntmps53
  go_wp2_with fail
  refine bodyPost_ret (v := .agg #[.int .i64 0, .slice none 0 0, .slice none 0 0]) (by simp [results, Tryz.results53, go_sem]) rfl ?_
  exact ⟨rfl, ((Gr.refl w).alloc _).below⟩
set_option maxHeartbeats 2000000 in
/-- A nil graph has no steps. -/
theorem stepsNil_any (w : World) : Calls Tryz.prog 29 #[.pointer none] w fun r w' => ∃ p c, r = .returned (.slice p 0 c) ∧ Below w.heap.size w w' := by
  obtain ⟨i0, hi0, hz0, hz1, hz2⟩ := info_parts infoLL
  have fd := fldG2 (.int .i64 0) (.slice none 0 0) (.slice none 0 0)
  go_enter Tryz.func29, Tryz.ntmps29
  go_wp2_with fail
  refine (nlPlaces_any w).mono ?_
  rintro r w1 ⟨rfl, hw1⟩
  have hw2 := hw1.symm
  subst hw2
  clear hw1
  go_upto_region 2 with (at_make; refine wpList_make_full _ rfl _ _ 67 rfl w.heap.size 33 i0 (.slice none 0 0) 1 Tryz.underlying67 hi0 hz0 hz1 _ _ _ _ 0 rfl rfl rfl rfl (by omega) (by unfold maxLen; omega) (Nat.le_refl _) ?_; intro w2 hrow hg1)
  have B2 : Hid (Below w.heap.size w w2) := (Kp.grownBy (S := fun _ => False) hg1 (fun _ h => by cases h)).below (Nat.le_refl _) (fun _ h => h.elim)
  clear hrow hg1
  go_wp2_with fail
  refine (nlRaw_any w2).mono ?_
  rintro r w3 ⟨rfl, hb3⟩
  have B3 : Hid (Below w.heap.size w w3) := B2.out.trans (hb3.mono B2.out.size)
  clear hb3
  dsimp only [gvc]
  go_wp2_with fail
  refine wp_loop_rounds 1 ?_
  rw [rounds_succ]
  go_wp2_with fail
  refine (nlNodes_any w3).mono ?_
  rintro r w4 ⟨rfl, hw4⟩
  have hw5 := hw4.symm
  subst hw5
  clear hw4
  go_wp2_with fail
  refine wp_loop_rounds 1 ?_
  rw [rounds_succ]
  go_wp2_with fail
  refine wp_loop_rounds 1 ?_
  rw [rounds_succ]
  go_wp2_with fail
  go_ret
  exact ⟨_, _, rfl, B3.out⟩
/-- The order of a graph's places. -/
theorem order_any {B gb : Nat} {g : Gph} (w : World) (h : Gm B w gb g) (hOK : Gok g) : Calls Tryz.prog 9 #[.pointer (some ⟨gb, 0, none⟩)] w (Od w (stL g).length (stL g)) := by
  have hs := stepsOf_any w h hOK
  have HOK := hid hOK
  clear h hOK
  go_enter Tryz.func9, Tryz.ntmps9
  go_wp2_with fail
  refine hs.mono ?_
  clear hs
  rintro r w1 ⟨v, rfl, H1⟩
  have ho := ordered_any w1 H1.out.2 (stL_good HOK.out).1 (stL_good HOK.out).2
  go_wp2_with fail
  refine ho.mono ?_
  clear ho
  rintro r w2 ⟨hb, hr⟩
  have hbb := H1.out.1.trans (hb.mono H1.out.1.size)
  rcases hr with ⟨e, rfl⟩ | ⟨o, f, d, e, rfl, hrow⟩
  · have FIN : Hid (Od w (stL g).length (stL g) (.returned (.tuple #[.slice none 0 0, .int .i64 27])) w2) := ⟨hbb, Or.inl ⟨e, rfl⟩⟩
    clear e hb hbb
    go_wp2_with fail
    refine bodyPost_ret (v := .tuple #[.slice none 0 0, .int .i64 27]) (by simp [results, Tryz.results9, go_sem]) rfl ?_
    exact FIN.out
  · obtain ⟨q, m, c, rfl⟩ := owns_form hrow
    have FIN : Hid (Od w (stL g).length (stL g) (.returned (.tuple #[.slice q m c, .int .i64 0])) w2) := ⟨hbb, Or.inr ⟨o, f, _, e, rfl, owns_base hrow H1.out.1.size⟩⟩
    clear e hb hbb hrow
    go_wp2_with fail
    refine bodyPost_ret (v := .tuple #[.slice q m c, .int .i64 0]) (by simp [results, Tryz.results9, go_sem]) rfl ?_
    exact FIN.out
theorem orderNil_any (w : World) : Calls Tryz.prog 9 #[.pointer none] w fun r w' => r = .returned (.tuple #[.slice none 0 0, .int .i64 1]) ∧ w' = w := by
  go_enter Tryz.func9, Tryz.ntmps9
  go_wp2_with fail
  refine bodyPost_ret (v := .tuple #[.slice none 0 0, .int .i64 1]) (by simp [results, Tryz.results9, go_sem]) rfl ?_
  exact ⟨rfl, rfl⟩
theorem rankNil_any (w : World) : Calls Tryz.prog 10 #[.pointer none] w fun r w' => r = .returned (.tuple #[.slice none 0 0, .int .i64 1]) ∧ w' = w := by
  go_enter Tryz.func10, Tryz.ntmps10
  go_wp2_with fail
  refine bodyPost_ret (v := .tuple #[.slice none 0 0, .int .i64 1]) (by simp [results, Tryz.results10, go_sem]) rfl ?_
  exact ⟨rfl, rfl⟩
/-- What Rank answers. -/
def Rd (w : World) (ls : List (List Int)) (r : Ending) (w' : World) : Prop := Below w.heap.size w w' ∧ ((ordN ls.length ls ls.length = none ∧ r = .returned (.tuple #[.slice none 0 0, .int .i64 27])) ∨ ∃ us f d, ordN ls.length ls ls.length = some (ints us, f) ∧ r = .returned (.tuple #[d, .int .i64 0]) ∧ w'.ownsRow w.heap.size 3 1 d ls.length (fl EI (fnL ls.length (rkN ls us))))
theorem rk_step {ls : List (List Int)} {u : Nat} {l : List Int} {f : Nat → Int} {k : Nat} (hl : ls[u]? = some l) (hk : l.length ≤ k) : (fun y : Nat => if ((y : Nat) : Int) ∈ l.take k then max (f y) (f u + 1) else f y) = rkS ls f u := by
  have h : l.take k = l := List.take_of_length_le hk
  funext y
  unfold rkS
  rw [h, hl]
  rfl
set_option maxRecDepth 100000 in
set_option maxHeartbeats 8000000 in
/-- The ranks of a graph's places. -/
theorem rank_any {B gb : Nat} {g : Gph} (w : World) (h : Gm B w gb g) (hOK : Gok g) : Calls Tryz.prog 10 #[.pointer (some ⟨gb, 0, none⟩)] w (Rd w (stL g)) := by
  have hmx : Tryz.prog.follows .mixedOrders = true := by kernel_rfl
  have hs := stepsOf_any w h hOK
  have HOK := hid hOK
  have hgood := stL_good hOK
  obtain ⟨ls, hls⟩ : ∃ ls, ls = stL g := ⟨_, rfl⟩
  rw [← hls] at hs hgood ⊢
  obtain ⟨n, hn⟩ : ∃ n, n = ls.length := ⟨_, rfl⟩
  have HX : Hid (∀ l ∈ ls, l.length ≤ 1000 ∧ ∀ x ∈ l, 0 ≤ x ∧ x < (n : Int)) := by rw [hn]; exact hgood.2
  have hn9 : n ≤ 1000 := by rw [hn]; exact hgood.1
  have HN := hid hn
  have HG := hid hgood
  obtain ⟨i0, hi0, hz0, hz1, hz2⟩ := info_parts infoIK
  clear h hOK hgood hls hn
  go_enter Tryz.func10, Tryz.ntmps10
  go_wp2_with fail
  refine hs.mono ?_
  clear hs
  rintro r w1 ⟨v, rfl, H1⟩
  have ho := ordered_any w1 H1.out.2 HG.out.1 HG.out.2
  obtain ⟨p, c, rfl⟩ := H1.out.2.form
  go_wp2_with fail
  refine ho.mono ?_
  clear ho
  rintro r w2 ⟨hb, hr⟩
  have H2 : Hid (Below w.heap.size w w2 ∧ Below w1.heap.size w1 w2 ∧ w.heap.size ≤ w2.heap.size) := ⟨H1.out.1.trans (hb.mono H1.out.1.size), hb, Nat.le_trans H1.out.1.size hb.size⟩
  clear hb
  rcases hr with ⟨e, rfl⟩ | ⟨o, f, d, e, rfl, hrow⟩
  · have FIN : Hid (Rd w ls (.returned (.tuple #[.slice none 0 0, .int .i64 27])) w2) := ⟨H2.out.1, Or.inl ⟨e, rfl⟩⟩
    clear e
    go_wp2_with fail
    refine bodyPost_ret (v := .tuple #[.slice none 0 0, .int .i64 27]) (by simp [results, Tryz.results10, go_sem]) rfl ?_
    exact FIN.out
  · obtain ⟨us, ho, hor⟩ := ord_some e
    have HE := hid e
    have HOR := hid hor
    have hul : us.length = n := by rw [hor.len, HN.out]
    have hol : o.length = n := by rw [ho]; simpa using hul
    have HUO := hid ho
    obtain ⟨q, m, c2, rfl⟩ := owns_form hrow
    obtain ⟨rfl, hcap⟩ := owns_caps hrow _ _ _ rfl
    have HO : Hid (Lz EI w2.heap.size w2 (.slice q o.length c2) o) := owns_lz (E := EI) hrow
    have HF : Hid (Ff w1.heap.size w2 (.slice p ls.length c) ls) := H1.out.2.below H2.out.2.1
    rw [hol] at HO ⊢
    rw [← HN.out] at HF ⊢
    have HUL := hid hul
    clear e ho hor hrow hol hcap hul
    go_upto_region 8 with (at_make; refine wpList_make_full _ rfl _ _ 33 rfl w2.heap.size 3 i0 (.int .i64 0) 1 Tryz.underlying33 hi0 hz0 hz1 _ _ _ _ n rfl rfl rfl rfl (by rw [hz2]; omega) (by unfold maxLen; omega) (Nat.le_refl _) ?_; intro w3 hrow hg1)
    obtain ⟨g3, hg3⟩ : ∃ g, g = w2.heap.size := ⟨_, rfl⟩
    rw [← hg3]
    have W1 : Hid (Wt w2 n g3 (rkN ls (us.take 0)) w3) := by
      refine ⟨(Kp.grownBy (S := fun _ => False) hg1 (fun _ h => by cases h)).below (Nat.le_refl _) (fun _ h => h.elim), ?_⟩
      rw [hg3]
      refine owns_re hrow rfl ?_
      rw [madeK, fnL_zero, fl_I]
      rfl
    clear hrow hg1 hg3 hi0 hz0 hz1 hz2
    go_wp2_with fail
    go_loopw [29] (fun s29 wr => ∃ t : Nat, t ≤ n ∧ s29 = .int .i64 (t : Nat) ∧ Hid (Wt w2 n g3 (rkN ls (us.take t)) wr)) (fun s29 _ => n - (RowKit.intOf s29).toNat)
    case atStart => exact ⟨0, Nat.zero_le _, rfl, W1.out⟩
    case round =>
      clear W1
      obtain ⟨t, ht, rfl, HI⟩ := hrel
      by_cases hlt : t < n
      · have hltz : (t : Int) < (n : Int) := by omega
        have ht0 : (0 : Int) ≤ (t : Int) := by omega
        obtain ⟨u, hu⟩ : ∃ u, us[t]? = some u := ⟨us[t]'(by have := HUL.out; omega), by simp⟩
        have hun : u < n := by rw [HN.out]; exact HOR.out.bd u (List.mem_of_getElem? hu)
        have hou : o[t]? = some ((u : Nat) : Int) := by rw [HUO.out]; simp [hu]
        obtain ⟨b, off, c1, e1, z0, x0⟩ := ls_atI (HO.out.ls hou) hou
        have x1 := (HI.out.bl.cell (p := ⟨b, off + t, none⟩) z0).trans x0
        have z1 := Nat.lt_of_lt_of_le z0 HI.out.bl.size
        simp only [Value.slice.injEq] at e1
        obtain ⟨rfl, -, rfl⟩ := e1
        obtain ⟨l, hl⟩ : ∃ l, ls[u]? = some l := ⟨ls[u]'(by have := HN.out; omega), by simp⟩
        obtain ⟨b2, off2, c3, q2, c4, e2, z2, x2, hz⟩ := HF.out.at hl
        have x3 := (HI.out.bl.cell (p := ⟨b2, off2 + u, none⟩) z2).trans x2
        have z3 := Nat.lt_of_lt_of_le z2 HI.out.bl.size
        simp only [Value.slice.injEq] at e2
        obtain ⟨rfl, -, rfl⟩ := e2
        have HL : Hid (ls[u]? = some l ∧ l.length ≤ 1000 ∧ (∀ x ∈ l, 0 ≤ x ∧ x < (n : Int)) ∧ ((u : Nat) : Int) ∉ l ∧ us[t]? = some u) := ⟨hl, (HX.out l (List.mem_of_getElem? hl)).1, (HX.out l (List.mem_of_getElem? hl)).2, fun e => HOR.out.self ⟨l, hl, e⟩, hu⟩
        have HZ := hid (fun (W : World) (hb : Below w2.heap.size w2 W) => hz.below hb)
        have hll := HL.out.2.1
        obtain ⟨f0, hf0⟩ : ∃ f, f = rkN ls (us.take t) := ⟨_, rfl⟩
        have HB0 : Hid (∀ k, 0 ≤ f0 k ∧ f0 k ≤ (t : Int)) := by rw [hf0]; exact (Rk.all HOR.out t (by have := HUL.out; omega)).pos
        have HF0 := hid hf0
        have hu0 : (0 : Int) ≤ (u : Int) := by omega
        have huz : (u : Int) < (n : Int) := by omega
        rw [← hf0] at HI
        clear hz hl z0 x0 z2 x2 hu hou hf0
        go_wp2_with fail
        clear x1 z1 x3 z3
        go_loopw [38] (fun s38 wr => ∃ k : Nat, k ≤ l.length ∧ s38 = .int .i64 (k : Nat) ∧ Hid (Wt w2 n g3 (fun y => if ((y : Nat) : Int) ∈ l.take k then max (f0 y) (f0 u + 1) else f0 y) wr)) (fun s38 _ => l.length - (RowKit.intOf s38).toNat)
        case atStart => exact ⟨0, Nat.zero_le _, rfl, HI.out.re (fun k _ => by simp)⟩
        case round =>
          clear HI
          obtain ⟨k, hk, rfl, HI⟩ := hrel
          by_cases hlk : k < l.length
          · have hlkz : (k : Int) < (l.length : Int) := by omega
            have hk0 : (0 : Int) ≤ (k : Int) := by omega
            obtain ⟨x, hx⟩ : ∃ x, l[k]? = some x := ⟨l[k], by simp⟩
            have hxb := HL.out.2.2.1 x (List.mem_of_getElem? hx)
            have hxu : x ≠ ((u : Nat) : Int) := fun e => HL.out.2.2.2.1 (e ▸ List.mem_of_getElem? hx)
            obtain ⟨e, rfl⟩ : ∃ e : Nat, x = (e : Int) := ⟨x.toNat, by omega⟩
            obtain ⟨b5, o5, c5, e5, z5, y5⟩ := ls_atI ((HZ.out wr HI.out.bl).ls hx) hx
            simp only [Value.slice.injEq] at e5
            obtain ⟨rfl, -, rfl⟩ := e5
            obtain ⟨a, ha⟩ : ∃ a : Int, a = if ((e : Nat) : Int) ∈ l.take k then max (f0 e) (f0 u + 1) else f0 e := ⟨_, rfl⟩
            obtain ⟨fu, hfu⟩ : ∃ a : Int, a = f0 u := ⟨_, rfl⟩
            have hc := (HI.out.cell (k := e) (by omega)).1
            rw [← ha] at hc
            have hcu := (HI.out.cell (k := u) hun).1
            rw [if_neg (fun e2 => HL.out.2.2.2.1 (List.mem_of_mem_take e2)), ← hfu] at hcu
            have lg := (HI.out.cell (k := e) (by omega)).2
            have fg := own_frK HI.out.row
            have ha9 : 0 ≤ a ∧ a ≤ 1000 := by
              have h1 := HB0.out e
              have h2 := HB0.out u
              rw [ha]
              split <;> omega
            have hfu9 : 0 ≤ fu ∧ fu ≤ 1000 := by
              have h2 := HB0.out u
              omega
            have FIN : Hid (Wt w2 n g3 (fun y => if ((y : Nat) : Int) ∈ l.take (k + 1) then max (f0 y) (f0 u + 1) else f0 y) ((wr.setCell ⟨g3, e, none⟩ (.int .i64 (max a (fu + 1)))).drew)) := by
              have hW := (HI.out.set e (max a (fu + 1))).1
              refine (hW.below (Gr.refl _).drew.below).re (fun y _ => ?_)
              unfold upd
              rw [List.take_add_one, hx]
              by_cases hy : y = e
              · subst hy
                rw [if_pos rfl, if_pos (by simp), ha, hfu]
                split
                · rw [Int.max_assoc, Int.max_self]
                · rfl
              · rw [if_neg hy]
                have e3 : (((y : Nat) : Int) ∈ l.take k ++ (some ((e : Nat) : Int)).toList) ↔ ((y : Nat) : Int) ∈ l.take k := by
                  simp only [Option.toList_some, List.mem_append, List.mem_singleton]
                  exact ⟨fun h => h.resolve_right (by omega), Or.inl⟩
                simp only [e3]
            have he0 : (0 : Int) ≤ (e : Int) := by omega
            have hen : (e : Int) < (n : Int) := hxb.2
            obtain ⟨ha1, ha2⟩ := ha9
            obtain ⟨hfu1, hfu2⟩ := hfu9
            obtain ⟨w9, hw9⟩ : ∃ W, W = (wr.setCell ⟨g3, e, none⟩ (.int .i64 (max a (fu + 1)))).drew := ⟨_, rfl⟩
            rw [← hw9] at FIN
            have HW9 := hid hw9
            have hwrap : IntKind.i64.wrap (fu + 1) = fu + 1 := by rw [IntKind.wrap_i64]; omega
            clear hx ha hfu hw9 hxu
            go_upto_region 14 with fail
            have hS0 : (wr.drew).cell? ⟨g3, e, none⟩ = some (.int .i64 a) ∧ (wr.drew).cell? ⟨g3, u, none⟩ = some (.int .i64 fu) ∧ g3 < (wr.drew).heap.size ∧ ∀ j, (wr.drew).frozen? ⟨g3, j, none⟩ = false := ⟨hc, hcu, lg, fg⟩
            clear hc hcu lg fg
            refine wp_regionD (S := fun W => W.cell? ⟨g3, e, none⟩ = some (.int .i64 a) ∧ W.cell? ⟨g3, u, none⟩ = some (.int .i64 fu) ∧ g3 < W.heap.size ∧ ∀ j, W.frozen? ⟨g3, j, none⟩ = false) (D := [13]) hmx ?_
            refine' wpAnyD_take (i := 0) (oi := { dst := some 42, op := Go.Op.move (Go.Operand.tmp 7), type := 33, pos := "cycle.go:32", after := #[], guard := none }) (v := _) rfl (by kernel_rfl) (by kernel_rfl) (by kernel_rfl) (fun _ _ _ h => h) (by kernel_rfl) (Or.inl ⟨by rfl, ?hy1⟩) hS0 ?rest1
            case hy1 => (intro W hSw; go_simp; try (with_reducible rfl))
            try simp only [Act.put, List.setIfInBounds_toArray, List.set_cons_zero, List.set_cons_succ]
            refine' wpAnyD_take (i := 1) (oi := { dst := some 43, op := Go.Op.move (Go.Operand.tmp 11), type := 3, pos := "cycle.go:32", after := #[], guard := none }) (v := _) rfl (by kernel_rfl) (by kernel_rfl) (by kernel_rfl) (fun _ _ _ h => h) (by kernel_rfl) (Or.inl ⟨by rfl, ?hy2⟩) hS0 ?rest2
            case hy2 => (intro W hSw; go_simp; try (with_reducible rfl))
            try simp only [Act.put, List.setIfInBounds_toArray, List.set_cons_zero, List.set_cons_succ]
            refine' wpAnyD_take (i := 2) (oi := { dst := some 44, op := Go.Op.move (Go.Operand.tmp 7), type := 33, pos := "cycle.go:32", after := #[], guard := none }) (v := _) rfl (by kernel_rfl) (by kernel_rfl) (by kernel_rfl) (fun _ _ _ h => h) (by kernel_rfl) (Or.inl ⟨by rfl, ?hy3⟩) hS0 ?rest3
            case hy3 => (intro W hSw; go_simp; try (with_reducible rfl))
            try simp only [Act.put, List.setIfInBounds_toArray, List.set_cons_zero, List.set_cons_succ]
            refine' wpAnyD_take (i := 3) (oi := { dst := some 45, op := Go.Op.move (Go.Operand.tmp 11), type := 3, pos := "cycle.go:32", after := #[], guard := none }) (v := _) rfl (by kernel_rfl) (by kernel_rfl) (by kernel_rfl) (fun _ _ _ h => h) (by kernel_rfl) (Or.inl ⟨by rfl, ?hy4⟩) hS0 ?rest4
            case hy4 => (intro W hSw; go_simp; try (with_reducible rfl))
            try simp only [Act.put, List.setIfInBounds_toArray, List.set_cons_zero, List.set_cons_succ]
            refine' wpAnyD_take (i := 4) (oi := { dst := some 46, op := Go.Op.indexAddr 33 (Go.Operand.tmp 44) (Go.Operand.tmp 45), type := 0, pos := "cycle.go:32", after := #[{ on := 2, ground := Go.Ground.data }, { on := 3, ground := Go.Ground.data }], guard := none }) (v := _) rfl (by kernel_rfl) (by kernel_rfl) (by kernel_rfl) (fun _ _ _ h => h) (by kernel_rfl) (Or.inl ⟨by rfl, ?hy5⟩) hS0 ?rest5
            case hy5 => (intro W hSw; go_simp; try (with_reducible rfl))
            try simp only [Act.put, List.setIfInBounds_toArray, List.set_cons_zero, List.set_cons_succ]
            refine' wpAnyD_take (i := 5) (oi := { dst := some 47, op := Go.Op.load 3 (Go.Operand.tmp 46), type := 3, pos := "cycle.go:32", after := #[{ on := 4, ground := Go.Ground.data }], guard := none }) (v := _) rfl (by kernel_rfl) (by kernel_rfl) (by kernel_rfl) (fun _ _ _ h => h) (by kernel_rfl) (Or.inl ⟨by rfl, ?hy6⟩) hS0 ?rest6
            case hy6 => (intro W hSw; have hc := hSw.1; have hl := hSw.2.2.1; go_simp; try (with_reducible rfl))
            try simp only [Act.put, List.setIfInBounds_toArray, List.set_cons_zero, List.set_cons_succ]
            refine' wpAnyD_take (i := 6) (oi := { dst := some 48, op := Go.Op.move (Go.Operand.tmp 7), type := 33, pos := "cycle.go:32", after := #[], guard := none }) (v := _) rfl (by kernel_rfl) (by kernel_rfl) (by kernel_rfl) (fun _ _ _ h => h) (by kernel_rfl) (Or.inl ⟨by rfl, ?hy7⟩) hS0 ?rest7
            case hy7 => (intro W hSw; go_simp; try (with_reducible rfl))
            try simp only [Act.put, List.setIfInBounds_toArray, List.set_cons_zero, List.set_cons_succ]
            refine' wpAnyD_take (i := 7) (oi := { dst := some 49, op := Go.Op.move (Go.Operand.tmp 9), type := 3, pos := "cycle.go:32", after := #[], guard := none }) (v := _) rfl (by kernel_rfl) (by kernel_rfl) (by kernel_rfl) (fun _ _ _ h => h) (by kernel_rfl) (Or.inl ⟨by rfl, ?hy8⟩) hS0 ?rest8
            case hy8 => (intro W hSw; go_simp; try (with_reducible rfl))
            try simp only [Act.put, List.setIfInBounds_toArray, List.set_cons_zero, List.set_cons_succ]
            refine' wpAnyD_take (i := 8) (oi := { dst := some 50, op := Go.Op.indexAddr 33 (Go.Operand.tmp 48) (Go.Operand.tmp 49), type := 0, pos := "cycle.go:32", after := #[{ on := 6, ground := Go.Ground.data }, { on := 7, ground := Go.Ground.data }], guard := none }) (v := _) rfl (by kernel_rfl) (by kernel_rfl) (by kernel_rfl) (fun _ _ _ h => h) (by kernel_rfl) (Or.inl ⟨by rfl, ?hy9⟩) hS0 ?rest9
            case hy9 => (intro W hSw; go_simp; try (with_reducible rfl))
            try simp only [Act.put, List.setIfInBounds_toArray, List.set_cons_zero, List.set_cons_succ]
            refine' wpAnyD_take (i := 9) (oi := { dst := some 51, op := Go.Op.load 3 (Go.Operand.tmp 50), type := 3, pos := "cycle.go:32", after := #[{ on := 8, ground := Go.Ground.data }], guard := none }) (v := _) rfl (by kernel_rfl) (by kernel_rfl) (by kernel_rfl) (fun _ _ _ h => h) (by kernel_rfl) (Or.inl ⟨by rfl, ?hy10⟩) hS0 ?rest10
            case hy10 => (intro W hSw; have hc := hSw.2.1; have hl := hSw.2.2.1; go_simp; try (with_reducible rfl))
            try simp only [Act.put, List.setIfInBounds_toArray, List.set_cons_zero, List.set_cons_succ]
            refine' wpAnyD_take (i := 10) (oi := { dst := some 52, op := Go.Op.binOp Go.BinOp.add 3 (Go.Operand.tmp 51) (Go.Operand.const (Go.Value.int Go.IntKind.i64 1)) 3, type := 3, pos := "cycle.go:32", after := #[{ on := 9, ground := Go.Ground.data }], guard := none }) (v := _) rfl (by kernel_rfl) (by kernel_rfl) (by kernel_rfl) (fun _ _ _ h => h) (by kernel_rfl) (Or.inl ⟨by rfl, ?hy11⟩) hS0 ?rest11
            case hy11 => (intro W hSw; go_simp; try (with_reducible rfl))
            try simp only [Act.put, List.setIfInBounds_toArray, List.set_cons_zero, List.set_cons_succ]
            refine' wpAnyD_take (i := 11) (oi := { dst := some 53, op := Go.Op.call { callee := Go.Callee.builtin Go.Builtin.max, args := #[Go.Operand.tmp 47, Go.Operand.tmp 52], argTypes := #[3, 3] }, type := 3, pos := "cycle.go:32", after := #[{ on := 5, ground := Go.Ground.data }, { on := 10, ground := Go.Ground.data }], guard := none }) (v := _) rfl (by kernel_rfl) (by kernel_rfl) (by kernel_rfl) (fun _ _ _ h => h) (by kernel_rfl) (Or.inl ⟨by rfl, ?hy12⟩) hS0 ?rest12
            case hy12 => (intro W hSw; go_simp; try (with_reducible rfl))
            try simp only [Act.put, List.setIfInBounds_toArray, List.set_cons_zero, List.set_cons_succ]
            refine' wpAnyD_take (i := 12) (oi := { dst := some 54, op := Go.Op.indexAddr 33 (Go.Operand.tmp 42) (Go.Operand.tmp 43), type := 0, pos := "cycle.go:32", after := #[{ on := 0, ground := Go.Ground.data }, { on := 1, ground := Go.Ground.data }, { on := 0, ground := Go.Ground.phase }, { on := 1, ground := Go.Ground.phase }, { on := 2, ground := Go.Ground.phase }, { on := 3, ground := Go.Ground.phase }, { on := 4, ground := Go.Ground.phase }, { on := 5, ground := Go.Ground.phase }, { on := 6, ground := Go.Ground.phase }, { on := 7, ground := Go.Ground.phase }, { on := 8, ground := Go.Ground.phase }, { on := 9, ground := Go.Ground.phase }, { on := 10, ground := Go.Ground.phase }, { on := 11, ground := Go.Ground.phase }], guard := none }) (v := _) rfl (by kernel_rfl) (by kernel_rfl) (by kernel_rfl) (fun _ _ _ h => h) (by kernel_rfl) (Or.inl ⟨by rfl, ?hy13⟩) hS0 ?rest13
            case hy13 => (intro W hSw; go_simp; try (with_reducible rfl))
            try simp only [Act.put, List.setIfInBounds_toArray, List.set_cons_zero, List.set_cons_succ]
            refine wpAnyD_one (i := 13) (o := { dst := none, op := Go.Op.store 3 (Go.Operand.tmp 54) (Go.Operand.tmp 53), type := 0, pos := "cycle.go:32", after := #[{ on := 12, ground := Go.Ground.data }, { on := 11, ground := Go.Ground.data }, { on := 0, ground := Go.Ground.phase }, { on := 1, ground := Go.Ground.phase }, { on := 2, ground := Go.Ground.phase }, { on := 3, ground := Go.Ground.phase }, { on := 4, ground := Go.Ground.phase }, { on := 5, ground := Go.Ground.phase }, { on := 6, ground := Go.Ground.phase }, { on := 7, ground := Go.Ground.phase }, { on := 8, ground := Go.Ground.phase }, { on := 9, ground := Go.Ground.phase }, { on := 10, ground := Go.Ground.phase }, { on := 11, ground := Go.Ground.phase }], guard := none }) (by kernel_rfl) rfl (fun K hK => ?_)
            have c8 := hS0.1
            have f8 := hS0.2.2.2 e
            have l8 := hS0.2.2.1
            go_simp
            rw [show (wr.setCell ⟨g3, e, none⟩ (.int .i64 (max a (fu + 1)))).drew = w9 from HW9.out.symm]
            clear c8 f8 l8
            refine hK.out _ _ (fun hD => absurd (by decide) hD) ?_
            clear hK K
            try simp only [Act.put, List.setIfInBounds_toArray, List.set_cons_zero, List.set_cons_succ]
            refine wpAnyD_done (by kernel_rfl) ?_ _
            clear hS0 HW9 hwrap
            go_wp2_with fail
            go_roundw
            case rel => exact ⟨k + 1, by omega, by go_num, FIN.out⟩
            case measure => simp [RowKit.intOf]; omega
          · have hlkz : ¬ (k : Int) < (l.length : Int) := by omega
            have FIN : Hid (Wt w2 n g3 (rkN ls (us.take (t + 1))) wr) := by
              have h := HI.out
              rw [rk_step HL.out.1 (by omega), HF0.out, ← rkN_snoc] at h
              rw [List.take_add_one, HL.out.2.2.2.2]
              exact h
            clear HI
            go_wp2_with fail
            go_roundw
            case rel => exact ⟨t + 1, by omega, by go_num, FIN.out⟩
            case measure => simp [RowKit.intOf]; omega
      · have hltz : ¬ (t : Int) < (n : Int) := by omega
        have FIN : Hid (Rd w ls (.returned (.tuple #[.slice (some ⟨g3, 0, none⟩) n n, .int .i64 0])) wr) := by
          have h := HI.out
          rw [List.take_of_length_le (by have := HUL.out; omega)] at h
          refine ⟨H2.out.1.trans (h.bl.mono H2.out.2.2), Or.inr ⟨us, f, _, by rw [HE.out, HUO.out], rfl, ?_⟩⟩
          have hr := owns_base h.row H2.out.2.2
          rw [← HN.out]
          exact hr
        clear HI
        go_wp2_with fail
        refine bodyPost_ret (v := .tuple #[.slice (some ⟨g3, 0, none⟩) n n, .int .i64 0]) (by simp [results, Tryz.results10, go_sem]) rfl ?_
        exact FIN.out
end Go.Proofs.YtpgodnaebkmhhaaGreat.Df

namespace Go.Proofs.YtpgodnaebkmhhaaGreat.Df
open Go.RowKit Go.Sort
attribute [local go_sem ↓] Go.wp_at_zero Go.wp_at_succ
/-- The greatest rank ahead of a place, as far as was looked. -/
structure Mx (R : Nat → Int) (u : Nat) (S : List Con) (m : Int) : Prop where
  pos : 0 ≤ m
  up : ∀ p : Nat, ⟨(p : Int), (u : Int), (0, 0, 0)⟩ ∈ S → R p + 1 ≤ m
  held : m = 0 ∨ ∃ p : Nat, ⟨(p : Int), (u : Int), (0, 0, 0)⟩ ∈ S ∧ R p + 1 = m
theorem con_eq {a b p u : Nat} (h : (⟨(p : Int), (u : Int), (0, 0, 0)⟩ : Con) = ⟨(a : Int), (b : Int), (0, 0, 0)⟩) : p = a ∧ u = b := by
  have h1 := congrArg Con.inn h
  have h2 := congrArg Con.out h
  simp only at h1 h2
  omega
theorem Mx.skip {R : Nat → Int} {u : Nat} {S : List Con} {m : Int} (h : Mx R u S m) {a b : Nat} (hn : b = u → R a + 1 ≤ m) : Mx R u (S ++ [⟨(a : Int), (b : Int), (0, 0, 0)⟩]) m := by
  refine ⟨h.pos, fun p hp => ?_, ?_⟩
  · rcases List.mem_append.1 hp with hp | hp
    · exact h.up p hp
    · rw [List.mem_singleton] at hp
      obtain ⟨e1, e2⟩ := con_eq hp
      rw [e1]
      exact hn e2.symm
  · rcases h.held with h1 | ⟨p, h1, h2⟩
    · exact Or.inl h1
    · exact Or.inr ⟨p, List.mem_append_left _ h1, h2⟩
theorem Mx.take {R : Nat → Int} {u : Nat} {S : List Con} {m : Int} (h : Mx R u S m) {a : Nat} (hn : m < R a + 1) : Mx R u (S ++ [⟨(a : Int), (u : Int), (0, 0, 0)⟩]) (R a + 1) := by
  refine ⟨by have := h.pos; omega, fun p hp => ?_, Or.inr ⟨a, List.mem_append_right _ (List.mem_singleton.2 rfl), rfl⟩⟩
  rcases List.mem_append.1 hp with hp | hp
  · have := h.up p hp
    omega
  · rw [List.mem_singleton] at hp
    rw [(con_eq hp).1]
    exact Int.le_refl _
theorem Mx.done {ls : List (List Int)} {us : List Nat} {S : List Con} (hS : SS ls S) (h : Or ls us) {u : Nat} {m : Int} (hm : Mx (rkN ls us) u S m) : m = rkN ls us u := by
  have hr := Rk.all h us.length (Nat.le_refl _)
  rw [List.take_length] at hr
  obtain ⟨h1, h2⟩ := Rk.rank h hr u
  have hsp : ∀ p : Nat, ⟨(p : Int), (u : Int), (0, 0, 0)⟩ ∈ S → Sp ls p u := fun p hp => by
    obtain ⟨a, b, e, hs, _⟩ := hS.to_ _ hp
    obtain ⟨e1, e2⟩ := con_eq e
    rw [e1, e2]
    exact hs
  have up : m ≤ rkN ls us u := by
    rcases hm.held with e | ⟨p, hp, e⟩
    · rw [e]
      exact (hr.pos u).1
    · rw [← e]
      exact h1 p (hsp p hp)
  have dn : rkN ls us u ≤ m := by
    rcases h2 with e | ⟨p, hp, e⟩
    · rw [e]
      exact hm.pos
    · rw [← e]
      exact hm.up p (hS.of_ p u hp)
  omega
/-- The ranks, as far as they were reckoned. -/
def rkF (R : Nat → Int) (us : List Nat) (i : Nat) : Nat → Int := fun k => if k ∈ us.take i then R k else 0
theorem rkF_all {n : Nat} {R : Nat → Int} {us : List Nat} (hall : ∀ k, k < n → k ∈ us) (k : Nat) (hk : k < n) : rkF R us us.length k = R k := by
  unfold rkF
  rw [List.take_length, if_pos (hall k hk)]
theorem rkF_step {R : Nat → Int} {us : List Nat} {i u : Nat} (hu : us[i]? = some u) (k : Nat) : upd (rkF R us i) u (R u) k = rkF R us (i + 1) k := by
  unfold upd rkF
  have hm : k ∈ us.take (i + 1) ↔ k ∈ us.take i ∨ k = u := by
    rw [List.take_add_one, hu]
    simp
  by_cases e : k = u
  · subst e
    rw [if_pos rfl, if_pos (hm.2 (Or.inr rfl))]
  · rw [if_neg e]
    simp only [hm, e, or_false]
theorem bef_take {ls : List (List Int)} {us : List Nat} (h : Or ls us) {i u p : Nat} (hu : us[i]? = some u) (hs : Sp ls p u) : p ∈ us.take i ∧ p ≠ u := by
  obtain ⟨j, hj⟩ := h.at hs.lt
  have hlt := h.bef j i p u hj hu hs
  refine ⟨List.mem_iff_getElem?.2 ⟨j, by rw [List.getElem?_take_of_lt hlt]; exact hj⟩, fun e => ?_⟩
  subst e
  exact h.self hs
set_option maxRecDepth 100000 in
set_option maxHeartbeats 16000000 in
/-- The document's Rank. -/
theorem krank_any {M : Nat} {nv ev : Value} {a : Int} {xs : List NV} {es : List Edg} (w : World) (hG : GR M w nv ev xs es) (hM : M ≤ w.heap.size) (hOK : Gok (gof a xs es)) : Calls Tryz.prog 17 #[.agg (gvc a nv ev)] w (Rd w (stL (gof a xs es))) := by
  have hmx : Tryz.prog.follows .mixedOrders = true := by kernel_rfl
  obtain ⟨W0, hW0⟩ : ∃ W, W = w.alloc (.cells (gvc a nv ev) 25) := ⟨_, rfl⟩
  obtain ⟨gb, hgb⟩ : ∃ b, b = w.heap.size := ⟨_, rfl⟩
  have g0 : Gr w W0 := by rw [hW0]; exact (Gr.refl w).alloc _
  have HB : Hid (W0.heap[gb]? = some (.cells (gvc a nv ev) 25 (0, 0)) ∧ Below w.heap.size w W0) := ⟨by rw [hW0, hgb]; exact heap_new' _ _, g0.below⟩
  have HW : Hid (w.alloc (.cells #[.int .i64 a, nv, ev] 25) = W0 ∧ w.heap.size = gb) := ⟨hW0.symm, hgb.symm⟩
  have hod := korder_any (a := a) W0 (hG.below g0.below) (Nat.le_trans hM g0.below.size) hOK
  have hem : ∀ W, Below W0.heap.size W0 W → Calls Tryz.prog 13 #[.agg (gvc a nv ev)] W (Cp EC 45 W (emR (gof a xs es))) := fun W hb => kempty_any (a := a) W ((hG.below g0.below).below hb) (Nat.le_trans (Nat.le_trans hM g0.below.size) hb.size) hOK
  have hsl : (emR (gof a xs es)).length ≤ 1000 := Nat.le_trans (List.length_filter_le _ _) (Nat.le_trans (stR_len hOK) (by decide))
  have hn9 : (stL (gof a xs es)).length ≤ 1000 := (stL_good hOK).1
  have HSS := hid (ss_of hOK)
  obtain ⟨ls, hls⟩ : ∃ l, l = stL (gof a xs es) := ⟨_, rfl⟩
  obtain ⟨S, hSe⟩ : ∃ S, S = emR (gof a xs es) := ⟨_, rfl⟩
  rw [← hls] at hod hn9 HSS ⊢
  rw [← hSe] at hem hsl HSS
  obtain ⟨qn, cn, hnv⟩ := hG.nodes.form
  obtain ⟨qe, ce, hev⟩ := hG.edges.form
  subst hnv
  subst hev
  have c0 := (tk_store HB.out.1).1
  have l0 := tk_lt HB.out.1
  generalize xs.length = nl at *
  generalize es.length = el at *
  clear hG hM hW0 hgb g0 hOK hls hSe
  obtain ⟨i0, hi0, hz0, hz1, hz2⟩ := info_parts infoIK
  go_enter Tryz.func17, Tryz.ntmps17
  go_upto_region 1 with fail
  rw [HW.out.1, HW.out.2]
  go_wp2_with fail
  refine hod.mono ?_
  clear hod c0 l0
  rintro r w1 ⟨hb1, ho⟩
  have HB1 := hid hb1
  have hb' := (hb1.block _ (tk_lt HB.out.1)).trans HB.out.1
  have c1 := (tk_store hb').1
  have l1 := tk_lt hb'
  have he1 := hem w1 hb1
  clear hb1 hb' hem
  rcases ho with ⟨hno, rfl⟩ | ⟨o, f, d, hso, rfl, hrow⟩
  · have HNO := hid hno
    clear hno he1
    go_wp2
    refine bodyPost_ret (v := .tuple #[.slice none 0 0, .int .i64 27]) (by simp [results, Tryz.results17, go_sem]) rfl ?_
    exact ⟨HB.out.2.trans (HB1.out.mono HB.out.2.size), Or.inl ⟨HNO.out, rfl⟩⟩
  · obtain ⟨us, rfl, hor⟩ := ord_some hso
    have HOR := hid hor
    have HSO := hid hso
    obtain ⟨po, mo, co, hd⟩ := owns_form hrow
    obtain ⟨hmo, _⟩ := owns_caps hrow _ _ _ hd
    subst hd
    subst hmo
    have hul : us.length = ls.length := hor.len
    have HLO : Hid (Lz EI w1.heap.size w1 (.slice po (ints us).length co) (ints us)) := owns_lz (E := EI) hrow
    rw [List.length_map, hul] at HLO ⊢
    clear hor hso hrow
    go_wp2_with fail
    refine he1.mono ?_
    clear he1 c1 l1
    rintro r w2 ⟨d2, rfl, hb2, hrow2⟩
    obtain ⟨ps, ms, cs, rfl⟩ := owns_form hrow2
    obtain ⟨rfl, _⟩ := owns_caps hrow2 _ _ _ rfl
    have HL2 : Hid (Lz EC w2.heap.size w2 (.slice ps S.length cs) S) := owns_lz (E := EC) hrow2
    have HLO2 := hid (HLO.out.below hb2)
    have HB2 := hid (HB.out.2.trans ((HB1.out.trans (hb2.mono HB1.out.size)).mono HB.out.2.size))
    clear hb2 hrow2 HLO
    obtain ⟨n, hnn⟩ : ∃ n, n = ls.length := ⟨_, rfl⟩
    have HN := hid hnn
    rw [← hnn] at hn9 hul HLO2 ⊢
    clear hnn
    have hn0 : (0 : Int) ≤ (n : Int) := by omega
    go_upto_region 6 with (at_make; refine wpList_make_full _ rfl _ _ 33 rfl w2.heap.size 3 i0 (.int .i64 0) 1 Tryz.underlying33 hi0 hz0 hz1 _ _ _ _ n rfl rfl rfl rfl (by rw [hz2]; omega) (by unfold maxLen; omega) (Nat.le_refl _) ?_; intro w3 hrow hg1)
    obtain ⟨g, hg⟩ : ∃ g, g = w2.heap.size := ⟨_, rfl⟩
    rw [← hg]
    have W3 : Hid (Wt w2 n g (rkF (rkN ls us) us 0) w3) := by
      refine ⟨(Kp.grownBy (S := fun _ => False) hg1 (fun _ h => by cases h)).below (Nat.le_refl _) (fun _ h => h.elim), ?_⟩
      rw [hg]
      refine owns_re hrow rfl ?_
      rw [madeK, fnL_zero, fl_I]
      rfl
    clear hrow hg1 hg hi0 hz0 hz1 hz2
    go_wp2_with fail
    go_loopw [8, 9] (fun s8 _ wr => ∃ i : Nat, i ≤ n ∧ s8 = .int .i64 (i : Nat) ∧ Hid (Wt w2 n g (rkF (rkN ls us) us i) wr)) (fun s8 _ _ => n - (RowKit.intOf s8).toNat)
    case atStart => exact ⟨0, Nat.zero_le _, rfl, W3.out⟩
    case round =>
      clear W3
      obtain ⟨i, hi, rfl, HI⟩ := hrel
      by_cases hlt : i < n
      · have hltz : (i : Int) < (n : Int) := by omega
        have hi1 : (0 : Int) ≤ (i : Int) := by omega
        obtain ⟨u, hu⟩ : ∃ u, us[i]? = some u := ⟨us[i]'(by omega), by simp⟩
        have hun : u < n := by have := HOR.out.bd u (List.mem_of_getElem? hu); have := HN.out; omega
        have uz : (u : Int) < (n : Int) := by omega
        have u0 : (0 : Int) ≤ (u : Int) := by omega
        have hui : (ints us)[i]? = some (u : Int) := by rw [List.getElem?_map, hu]; rfl
        have HU := hid hu
        have hut : u ∉ us.take i := fun e => by
          obtain ⟨j, hj⟩ := List.mem_iff_getElem?.1 e
          have hjl := (List.getElem?_eq_some_iff.1 hj).1
          rw [List.length_take] at hjl
          rw [List.getElem?_take_of_lt (by omega)] at hj
          have := nodup_pos HOR.out.nd hu hj
          omega
        have HUT := hid hut
        clear hu hut
        go_wp2_with fail
        go_loopw [9] (fun s9 wr => ∃ (j : Nat) (m : Int), j ≤ S.length ∧ s9 = .int .i64 (j : Nat) ∧ Hid (Wt w2 n g (upd (rkF (rkN ls us) us i) u m) wr ∧ Mx (rkN ls us) u (S.take j) m ∧ m ≤ 1001)) (fun s9 _ => S.length - (RowKit.intOf s9).toNat)
        case atStart =>
          refine ⟨0, 0, Nat.zero_le _, rfl, HI.out.re (fun k _ => ?_), ⟨Int.le_refl _, fun p hp => by simp at hp, Or.inl rfl⟩, by omega⟩
          unfold upd
          by_cases e : k = u
          · subst e
            rw [if_pos rfl]
            unfold rkF
            rw [if_neg HUT.out]
          · rw [if_neg e]
        case round =>
          clear HI
          obtain ⟨j, m, hj, rfl, HI⟩ := hrel
          by_cases hlt3 : j < S.length
          · have hlt3z : (j : Int) < (S.length : Int) := by omega
            have hj0 : (0 : Int) ≤ (j : Int) := by omega
            obtain ⟨s, hs'⟩ : ∃ s, S[j]? = some s := ⟨S[j], by simp⟩
            obtain ⟨p, y, rfl, hsp, hy⟩ := HSS.out.to_ s (List.mem_of_getElem? hs')
            have hp := hsp.lt
            have HQ : Hid (S.take (j + 1) = S.take j ++ [⟨(p : Int), (y : Int), (0, 0, 0)⟩]) := by show _ = _; rw [List.take_add_one, hs']; rfl
            obtain ⟨b1, o1, k1, e1, z1, x0, x1, x2, x3, x4⟩ := ls_atC ((HL2.out.below HI.out.1.bl).ls hs') hs'
            simp only [Value.slice.injEq] at e1
            obtain ⟨rfl, -, rfl⟩ := e1
            obtain ⟨b2, o2, k2, e2, z2, y0⟩ := ls_atI ((HLO2.out.below HI.out.1.bl).ls hui) hui
            rw [List.length_map, hul] at e2
            simp only [Value.slice.injEq] at e2
            obtain ⟨rfl, -, rfl⟩ := e2
            rw [← HN.out] at hp hy
            have pz : (p : Int) < (n : Int) := by omega
            have p0 : (0 : Int) ≤ (p : Int) := by omega
            obtain ⟨d0, e0⟩ := HI.out.1.cell hun
            obtain ⟨d1, _⟩ := HI.out.1.cell hp
            have hd0 : upd (rkF (rkN ls us) us i) u m u = m := by unfold upd; rw [if_pos rfl]
            rw [hd0] at d0
            have HSP := hid hsp
            have hRb : 0 ≤ rkN ls us p ∧ rkN ls us p ≤ 1000 := by
              have hr := Rk.all HOR.out us.length (Nat.le_refl _)
              rw [List.take_length] at hr
              have := hr.pos p
              omega
            clear hs' x2 x3 x4 hsp hd0
            by_cases h1 : (y : Int) = (u : Int)
            · have hyu : y = u := by omega
              subst hyu
              obtain ⟨hpt, hpu⟩ := bef_take HOR.out HU.out HSP.out
              have hd1 : upd (rkF (rkN ls us) us i) y m p = rkN ls us p := by unfold upd rkF; rw [if_neg hpu, if_pos hpt]
              rw [hd1] at d1
              have hwr : IntKind.i64.wrap (rkN ls us p + 1) = rkN ls us p + 1 := by rw [IntKind.wrap_i64]; omega
              clear hd1 hpt
              obtain ⟨R, hR⟩ : ∃ R, R = rkN ls us := ⟨_, rfl⟩
              rw [← hR] at HI d1 hwr hRb
              have hRb2 := hid hRb
              have HRE := hid hR
              clear hR
              by_cases h2 : m < R p + 1
              · go_wp2_with fail
                go_quiet (fail)
                go_upto_region 13 with fail
                obtain ⟨W1, hW1⟩ : ∃ W, W = (wr.drewN nq).drew := ⟨_, rfl⟩
                have GQ : Gr wr W1 := by rw [hW1]; exact ((Gr.refl wr).drewN nq).drew
                have HT := hid (HI.out.1.below GQ.below)
                have X0 := (GQ.cell z1).trans x0
                have X1 := (GQ.cell z1).trans x1
                have Y0 := (GQ.cell z2).trans y0
                have D0 := (GQ.cell e0).trans d0
                have D1 := (GQ.cell e0).trans d1
                have Z1 := Nat.lt_of_lt_of_le z1 GQ.below.size
                have Z2 := Nat.lt_of_lt_of_le z2 GQ.below.size
                have E0 := Nat.lt_of_lt_of_le e0 GQ.below.size
                have fz := own_frK HT.out.row
                have HW1 : Hid ((wr.drewN nq).drew = W1) := hW1.symm
                have FIN : Hid (Wt w2 n g (upd (upd (rkF R us i) y m) y (R p + 1)) (W1.setCell ⟨g, y, none⟩ (.int .i64 (R p + 1))) ∧ Mx R y (S.take (j + 1)) (R p + 1) ∧ R p + 1 ≤ 1001) := ⟨(HT.out.set y _).1, by rw [HQ.out]; exact HI.out.2.1.take h2, by omega⟩
                clear hW1 GQ x0 x1 y0 d0 d1 z1 z2 e0
                refine wp_regionD (S := fun W => W = W1) (D := [15]) hmx ?_
                refine' wpAnyD_take (i := 0) (oi := { dst := some 64, op := Go.Op.move (Go.Operand.tmp 7), type := 33, pos := "ref.go:130", after := #[], guard := none }) (v := _) rfl (by kernel_rfl) (by kernel_rfl) (by kernel_rfl) (fun _ _ _ h => h) (by kernel_rfl) (Or.inl ⟨by rfl, ?hy1⟩) HW1.out ?rest1
                case hy1 => (intro W hSw; (try dsimp only at hSw); subst hSw; go_simp; try (with_reducible rfl))
                try simp only [Act.put, List.setIfInBounds_toArray, List.set_cons_zero, List.set_cons_succ]
                refine' wpAnyD_take (i := 1) (oi := { dst := some 65, op := Go.Op.move (Go.Operand.tmp 4), type := 33, pos := "ref.go:130", after := #[], guard := none }) (v := _) rfl (by kernel_rfl) (by kernel_rfl) (by kernel_rfl) (fun _ _ _ h => h) (by kernel_rfl) (Or.inl ⟨by rfl, ?hy2⟩) HW1.out ?rest2
                case hy2 => (intro W hSw; (try dsimp only at hSw); subst hSw; go_simp; try (with_reducible rfl))
                try simp only [Act.put, List.setIfInBounds_toArray, List.set_cons_zero, List.set_cons_succ]
                refine' wpAnyD_take (i := 2) (oi := { dst := some 66, op := Go.Op.move (Go.Operand.tmp 8), type := 3, pos := "ref.go:130", after := #[], guard := none }) (v := _) rfl (by kernel_rfl) (by kernel_rfl) (by kernel_rfl) (fun _ _ _ h => h) (by kernel_rfl) (Or.inl ⟨by rfl, ?hy3⟩) HW1.out ?rest3
                case hy3 => (intro W hSw; (try dsimp only at hSw); subst hSw; go_simp; try (with_reducible rfl))
                try simp only [Act.put, List.setIfInBounds_toArray, List.set_cons_zero, List.set_cons_succ]
                refine' wpAnyD_take (i := 3) (oi := { dst := some 67, op := Go.Op.indexAddr 33 (Go.Operand.tmp 65) (Go.Operand.tmp 66), type := 0, pos := "ref.go:130", after := #[{ on := 1, ground := Go.Ground.data }, { on := 2, ground := Go.Ground.data }], guard := none }) (v := _) rfl (by kernel_rfl) (by kernel_rfl) (by kernel_rfl) (fun _ _ _ h => h) (by kernel_rfl) (Or.inl ⟨by rfl, ?hy4⟩) HW1.out ?rest4
                case hy4 => (intro W hSw; (try dsimp only at hSw); subst hSw; go_simp; try (with_reducible rfl))
                try simp only [Act.put, List.setIfInBounds_toArray, List.set_cons_zero, List.set_cons_succ]
                refine' wpAnyD_take (i := 4) (oi := { dst := some 68, op := Go.Op.load 3 (Go.Operand.tmp 67), type := 3, pos := "ref.go:130", after := #[{ on := 3, ground := Go.Ground.data }], guard := none }) (v := _) rfl (by kernel_rfl) (by kernel_rfl) (by kernel_rfl) (fun _ _ _ h => h) (by kernel_rfl) (Or.inl ⟨by rfl, ?hy5⟩) HW1.out ?rest5
                case hy5 => (intro W hSw; (try dsimp only at hSw); subst hSw; go_simp; try (with_reducible rfl))
                try simp only [Act.put, List.setIfInBounds_toArray, List.set_cons_zero, List.set_cons_succ]
                refine' wpAnyD_take (i := 5) (oi := { dst := some 69, op := Go.Op.move (Go.Operand.tmp 7), type := 33, pos := "ref.go:130", after := #[], guard := none }) (v := _) rfl (by kernel_rfl) (by kernel_rfl) (by kernel_rfl) (fun _ _ _ h => h) (by kernel_rfl) (Or.inl ⟨by rfl, ?hy6⟩) HW1.out ?rest6
                case hy6 => (intro W hSw; (try dsimp only at hSw); subst hSw; go_simp; try (with_reducible rfl))
                try simp only [Act.put, List.setIfInBounds_toArray, List.set_cons_zero, List.set_cons_succ]
                refine' wpAnyD_take (i := 6) (oi := { dst := some 70, op := Go.Op.move (Go.Operand.tmp 6), type := 38, pos := "ref.go:130", after := #[], guard := none }) (v := _) rfl (by kernel_rfl) (by kernel_rfl) (by kernel_rfl) (fun _ _ _ h => h) (by kernel_rfl) (Or.inl ⟨by rfl, ?hy7⟩) HW1.out ?rest7
                case hy7 => (intro W hSw; (try dsimp only at hSw); subst hSw; go_simp; try (with_reducible rfl))
                try simp only [Act.put, List.setIfInBounds_toArray, List.set_cons_zero, List.set_cons_succ]
                refine' wpAnyD_take (i := 7) (oi := { dst := some 71, op := Go.Op.move (Go.Operand.tmp 9), type := 3, pos := "ref.go:130", after := #[], guard := none }) (v := _) rfl (by kernel_rfl) (by kernel_rfl) (by kernel_rfl) (fun _ _ _ h => h) (by kernel_rfl) (Or.inl ⟨by rfl, ?hy8⟩) HW1.out ?rest8
                case hy8 => (intro W hSw; (try dsimp only at hSw); subst hSw; go_simp; try (with_reducible rfl))
                try simp only [Act.put, List.setIfInBounds_toArray, List.set_cons_zero, List.set_cons_succ]
                refine' wpAnyD_take (i := 8) (oi := { dst := some 72, op := Go.Op.indexAddr 38 (Go.Operand.tmp 70) (Go.Operand.tmp 71), type := 0, pos := "ref.go:130", after := #[{ on := 6, ground := Go.Ground.data }, { on := 7, ground := Go.Ground.data }], guard := none }) (v := _) rfl (by kernel_rfl) (by kernel_rfl) (by kernel_rfl) (fun _ _ _ h => h) (by kernel_rfl) (Or.inl ⟨by rfl, ?hy9⟩) HW1.out ?rest9
                case hy9 => (intro W hSw; (try dsimp only at hSw); subst hSw; go_simp; try (with_reducible rfl))
                try simp only [Act.put, List.setIfInBounds_toArray, List.set_cons_zero, List.set_cons_succ]
                refine' wpAnyD_take (i := 9) (oi := { dst := some 73, op := Go.Op.fieldAddr 45 (Go.Operand.tmp 72) 0, type := 0, pos := "ref.go:130", after := #[{ on := 8, ground := Go.Ground.data }], guard := none }) (v := _) rfl (by kernel_rfl) (by kernel_rfl) (by kernel_rfl) (fun _ _ _ h => h) (by kernel_rfl) (Or.inl ⟨by rfl, ?hy10⟩) HW1.out ?rest10
                case hy10 => (intro W hSw; (try dsimp only at hSw); subst hSw; go_simp; try (with_reducible rfl))
                try simp only [Act.put, List.setIfInBounds_toArray, List.set_cons_zero, List.set_cons_succ]
                refine' wpAnyD_take (i := 10) (oi := { dst := some 74, op := Go.Op.load 3 (Go.Operand.tmp 73), type := 3, pos := "ref.go:130", after := #[{ on := 9, ground := Go.Ground.data }], guard := none }) (v := _) rfl (by kernel_rfl) (by kernel_rfl) (by kernel_rfl) (fun _ _ _ h => h) (by kernel_rfl) (Or.inl ⟨by rfl, ?hy11⟩) HW1.out ?rest11
                case hy11 => (intro W hSw; (try dsimp only at hSw); subst hSw; go_simp; try (with_reducible rfl))
                try simp only [Act.put, List.setIfInBounds_toArray, List.set_cons_zero, List.set_cons_succ]
                refine' wpAnyD_take (i := 11) (oi := { dst := some 75, op := Go.Op.indexAddr 33 (Go.Operand.tmp 69) (Go.Operand.tmp 74), type := 0, pos := "ref.go:130", after := #[{ on := 5, ground := Go.Ground.data }, { on := 10, ground := Go.Ground.data }], guard := none }) (v := _) rfl (by kernel_rfl) (by kernel_rfl) (by kernel_rfl) (fun _ _ _ h => h) (by kernel_rfl) (Or.inl ⟨by rfl, ?hy12⟩) HW1.out ?rest12
                case hy12 => (intro W hSw; (try dsimp only at hSw); subst hSw; go_simp; try (with_reducible rfl))
                try simp only [Act.put, List.setIfInBounds_toArray, List.set_cons_zero, List.set_cons_succ]
                refine' wpAnyD_take (i := 12) (oi := { dst := some 76, op := Go.Op.load 3 (Go.Operand.tmp 75), type := 3, pos := "ref.go:130", after := #[{ on := 11, ground := Go.Ground.data }], guard := none }) (v := _) rfl (by kernel_rfl) (by kernel_rfl) (by kernel_rfl) (fun _ _ _ h => h) (by kernel_rfl) (Or.inl ⟨by rfl, ?hy13⟩) HW1.out ?rest13
                case hy13 => (intro W hSw; (try dsimp only at hSw); subst hSw; go_simp; try (with_reducible rfl))
                try simp only [Act.put, List.setIfInBounds_toArray, List.set_cons_zero, List.set_cons_succ]
                refine' wpAnyD_take (i := 13) (oi := { dst := some 77, op := Go.Op.binOp Go.BinOp.add 3 (Go.Operand.tmp 76) (Go.Operand.const (Go.Value.int Go.IntKind.i64 1)) 3, type := 3, pos := "ref.go:130", after := #[{ on := 12, ground := Go.Ground.data }], guard := none }) (v := _) rfl (by kernel_rfl) (by kernel_rfl) (by kernel_rfl) (fun _ _ _ h => h) (by kernel_rfl) (Or.inl ⟨by rfl, ?hy14⟩) HW1.out ?rest14
                case hy14 => (intro W hSw; (try dsimp only at hSw); subst hSw; go_simp; try (with_reducible rfl))
                try simp only [Act.put, List.setIfInBounds_toArray, List.set_cons_zero, List.set_cons_succ]
                refine wpAnyD_one (i := 14) (o := { dst := some 78, op := Go.Op.indexAddr 33 (Go.Operand.tmp 64) (Go.Operand.tmp 68), type := 0, pos := "ref.go:130", after := #[{ on := 0, ground := Go.Ground.data }, { on := 4, ground := Go.Ground.data }, { on := 0, ground := Go.Ground.phase }, { on := 1, ground := Go.Ground.phase }, { on := 2, ground := Go.Ground.phase }, { on := 3, ground := Go.Ground.phase }, { on := 4, ground := Go.Ground.phase }, { on := 5, ground := Go.Ground.phase }, { on := 6, ground := Go.Ground.phase }, { on := 7, ground := Go.Ground.phase }, { on := 8, ground := Go.Ground.phase }, { on := 9, ground := Go.Ground.phase }, { on := 10, ground := Go.Ground.phase }, { on := 11, ground := Go.Ground.phase }, { on := 12, ground := Go.Ground.phase }, { on := 13, ground := Go.Ground.phase }], guard := none }) (by kernel_rfl) rfl (fun K hK => ?_)
                rw [HW1.out]
                go_simp
                refine hK.out _ _ (fun hD => rfl) ?_
                clear hK K
                try simp only [Act.put, List.setIfInBounds_toArray, List.set_cons_zero, List.set_cons_succ]
                refine wpAnyD_one (i := 15) (o := { dst := none, op := Go.Op.store 3 (Go.Operand.tmp 78) (Go.Operand.tmp 77), type := 0, pos := "ref.go:130", after := #[{ on := 14, ground := Go.Ground.data }, { on := 13, ground := Go.Ground.data }, { on := 0, ground := Go.Ground.phase }, { on := 1, ground := Go.Ground.phase }, { on := 2, ground := Go.Ground.phase }, { on := 3, ground := Go.Ground.phase }, { on := 4, ground := Go.Ground.phase }, { on := 5, ground := Go.Ground.phase }, { on := 6, ground := Go.Ground.phase }, { on := 7, ground := Go.Ground.phase }, { on := 8, ground := Go.Ground.phase }, { on := 9, ground := Go.Ground.phase }, { on := 10, ground := Go.Ground.phase }, { on := 11, ground := Go.Ground.phase }, { on := 12, ground := Go.Ground.phase }, { on := 13, ground := Go.Ground.phase }], guard := none }) (by kernel_rfl) rfl (fun K hK => ?_)
                go_simp
                refine hK.out _ _ (fun hD => absurd (by decide) hD) ?_
                clear hK K
                try simp only [Act.put, List.setIfInBounds_toArray, List.set_cons_zero, List.set_cons_succ]
                refine wpAnyD_done (by kernel_rfl) ?_ _
                go_wp2_with fail
                go_roundw
                case rel =>
                  refine ⟨j + 1, R p + 1, by omega, by go_num, ?_⟩
                  rw [← HRE.out]
                  refine ⟨FIN.out.1.re (fun k _ => ?_), FIN.out.2⟩
                  unfold upd
                  by_cases e : k = y
                  · simp only [if_pos e]
                  · simp only [if_neg e]
                case measure => simp [RowKit.intOf]; omega
              · have FIN : Hid (Wt w2 n g (upd (rkF R us i) y m) wr ∧ Mx R y (S.take (j + 1)) m ∧ m ≤ 1001) := ⟨HI.out.1, by rw [HQ.out]; exact HI.out.2.1.skip (fun _ => by omega), HI.out.2.2⟩
                rw [HRE.out] at FIN
                go_wp2_with fail
                go_quiet (fail)
                go_wp2_with fail
                go_roundw
                case rel => exact ⟨j + 1, m, by omega, by go_num, ⟨FIN.out.1.below ((Gr.refl _).drewN _).below, FIN.out.2⟩⟩
                case measure => simp [RowKit.intOf]; omega
            · have FIN : Hid (Wt w2 n g (upd (rkF (rkN ls us) us i) u m) wr ∧ Mx (rkN ls us) u (S.take (j + 1)) m ∧ m ≤ 1001) := ⟨HI.out.1, by rw [HQ.out]; exact HI.out.2.1.skip (fun e => absurd (by omega) h1), HI.out.2.2⟩
              go_wp2_with fail
              go_quiet (fail)
              go_wp2_with fail
              go_roundw
              case rel => exact ⟨j + 1, m, by omega, by go_num, ⟨FIN.out.1.below ((Gr.refl _).drewN _).below, FIN.out.2⟩⟩
              case measure => simp [RowKit.intOf]; omega
          · have hlt3z : ¬ (j : Int) < (S.length : Int) := by omega
            have e : j = S.length := by omega
            subst e
            rw [List.take_length] at HI
            have hm := Mx.done HSS.out HOR.out HI.out.2.1
            have FIN : Hid (Wt w2 n g (rkF (rkN ls us) us (i + 1)) wr) := HI.out.1.re (fun k _ => by rw [hm]; exact rkF_step HU.out k)
            clear hm
            go_wp2_with fail
            go_roundw
            case rel => exact ⟨i + 1, by omega, by go_num, FIN.out⟩
            case measure => simp [RowKit.intOf]; omega
      · have hltz : ¬ (i : Int) < (n : Int) := by omega
        have e : i = us.length := by omega
        have FIN : Hid (Wt w2 n g (rkN ls us) wr) := HI.out.re (fun k hk => by rw [e]; exact rkF_all (n := n) (fun k hk => all_in HOR.out.nd HOR.out.bd HOR.out.len k (by have := HN.out; omega)) k hk)
        clear e
        go_wp2_with fail
        refine bodyPost_ret (v := .tuple #[.slice (some ⟨g, 0, none⟩) n n, .int .i64 0]) (by simp [results, Tryz.results17, go_sem]) rfl ?_
        have hn2 := HN.out
        subst hn2
        exact ⟨HB2.out.trans (FIN.out.bl.mono HB2.out.size), Or.inr ⟨us, f, _, HSO.out, rfl, owns_base FIN.out.row HB2.out.size⟩⟩
end Go.Proofs.YtpgodnaebkmhhaaGreat.Df

namespace Go.Proofs.YtpgodnaebkmhhaaGreat.Df
open Go.RowKit Go.Sort
attribute [local go_sem ↓] Go.wp_at_zero Go.wp_at_succ

/-- What least answers. -/
def Lv (ls : List (List Int)) (q k p : Nat) (v : Int) : Prop := (v = -1 ∧ ¬ ∃ y, Sp ls p y ∧ At ls q k y) ∨ ∃ y : Nat, v = (y : Int) ∧ Lst ls q k p y
/-- As far as was looked. -/
def Lb (ls : List (List Int)) (q k p : Nat) (S : List Con) (v : Int) : Prop := (v = -1 ∧ ∀ y : Nat, ⟨(p : Int), (y : Int), (0, 0, 0)⟩ ∈ S → ¬ At ls q k y) ∨
  ∃ y : Nat, v = (y : Int) ∧ ⟨(p : Int), (y : Int), (0, 0, 0)⟩ ∈ S ∧ At ls q k y ∧ ∀ y' : Nat, ⟨(p : Int), (y' : Int), (0, 0, 0)⟩ ∈ S → At ls q k y' → y ≤ y'
section
variable {ls : List (List Int)} {q k p : Nat} {S : List Con} {v : Int}
theorem Lb.skip (h : Lb ls q k p S v) {a b : Nat} (hn : ¬ (a = p ∧ At ls q k b ∧ (v < 0 ∨ (b : Int) < v))) : Lb ls q k p (S ++ [⟨(a : Int), (b : Int), (0, 0, 0)⟩]) v := by
  have hm : ∀ y : Nat, ⟨(p : Int), (y : Int), (0, 0, 0)⟩ ∈ S ++ [⟨(a : Int), (b : Int), (0, 0, 0)⟩] → ⟨(p : Int), (y : Int), (0, 0, 0)⟩ ∈ S ∨ (a = p ∧ b = y) := fun y hy => by
    rcases List.mem_append.1 hy with hy | hy
    · exact Or.inl hy
    · rw [List.mem_singleton] at hy
      have h1 := congrArg Con.inn hy
      have h2 := congrArg Con.out hy
      simp only at h1 h2
      exact Or.inr ⟨by omega, by omega⟩
  rcases h with ⟨h1, h2⟩ | ⟨y, h1, h2, h3, h4⟩
  · refine Or.inl ⟨h1, fun y hy ha => ?_⟩
    rcases hm y hy with hy | ⟨e1, e2⟩
    · exact h2 y hy ha
    · exact hn ⟨e1, e2 ▸ ha, Or.inl (by omega)⟩
  · refine Or.inr ⟨y, h1, List.mem_append_left _ h2, h3, fun y' hy ha => ?_⟩
    rcases hm y' hy with hy | ⟨e1, e2⟩
    · exact h4 y' hy ha
    · subst e2
      by_cases e : y ≤ b
      · exact e
      · exact absurd ⟨e1, ha, Or.inr (by omega)⟩ hn
theorem Lb.take (h : Lb ls q k p S v) {b : Nat} (ha : At ls q k b) (hv : v < 0 ∨ (b : Int) < v) : Lb ls q k p (S ++ [⟨(p : Int), (b : Int), (0, 0, 0)⟩]) (b : Int) := by
  refine Or.inr ⟨b, rfl, List.mem_append_right _ (List.mem_singleton.2 rfl), ha, fun y' hy ha' => ?_⟩
  rcases List.mem_append.1 hy with hy | hy
  · rcases h with ⟨_, h2⟩ | ⟨y, h1, h2, h3, h4⟩
    · exact absurd ha' (h2 y' hy)
    · have := h4 y' hy ha'
      omega
  · rw [List.mem_singleton] at hy
    have h2 := congrArg Con.out hy
    simp only at h2
    omega
theorem Lb.done (h : Lb ls q k p S v) (hS : SS ls S) : Lv ls q k p v := by
  have hsp : ∀ y : Nat, ⟨(p : Int), (y : Int), (0, 0, 0)⟩ ∈ S → Sp ls p y := fun y hy => by
    obtain ⟨a, b, e, hs, _⟩ := hS.to_ _ hy
    have h1 := congrArg Con.inn e
    have h2 := congrArg Con.out e
    simp only at h1 h2
    have e1 : p = a := by omega
    have e2 : y = b := by omega
    rw [e1, e2]
    exact hs
  rcases h with ⟨h1, h2⟩ | ⟨y, h1, h2, h3, h4⟩
  · exact Or.inl ⟨h1, fun ⟨y, hs, ha⟩ => h2 y (hS.of_ p y hs) ha⟩
  · exact Or.inr ⟨y, h1, hsp y h2, h3, fun y' hs ha => h4 y' (hS.of_ p y' hs) ha⟩
end
set_option maxRecDepth 100000 in
set_option maxHeartbeats 4000000 in
/-- The document's least. -/
theorem kleast_any {M M' g : Nat} {vs : Value} {ls : List (List Int)} {S : List Con} {f : Nat → Int} (q p k : Nat) (w : World) (hL : Lz EC M w vs S) (hS : SS ls S) (hd : Lz EI M' w (.slice (some ⟨g, 0, none⟩) ls.length ls.length) (fnL ls.length f)) (hf : ∀ x, x < ls.length → Dv ls q ls.length x (f x)) (_ : ls.length ≤ 1000) (hs : S.length ≤ 1000) :
    Calls Tryz.prog 37 #[vs, .slice (some ⟨g, 0, none⟩) ls.length ls.length, .int .i64 (p : Nat), .int .i64 (k : Nat)] w fun e w' => ∃ v, e = .returned (.int .i64 v) ∧ Lv ls q k p v ∧ w' = w := by
  obtain ⟨ps, cs, rfl⟩ := hL.form
  have HL := hid hL
  have HS := hid hS
  have HD := hid hd
  have HF := hid hf
  obtain ⟨n, hnn⟩ : ∃ n, n = ls.length := ⟨_, rfl⟩
  have HN := hid hnn
  rw [← hnn] at HD ⊢
  clear hL hS hnn hd hf
  go_enter Tryz.func37, Tryz.ntmps37
  go_wp2_with fail
  go_loopw [9, 10, 11] (fun s9 s10 _ wr => ∃ (i : Nat) (v : Int), i ≤ S.length ∧ s10 = .int .i64 (i : Nat) ∧ s9 = .int .i64 v ∧ Hid (Lb ls q k p (S.take i) v) ∧ wr = w) (fun _ s10 _ _ => S.length - (RowKit.intOf s10).toNat)
  case atStart => exact ⟨0, -1, Nat.zero_le _, rfl, rfl, Or.inl ⟨rfl, fun y hy => by simp at hy⟩, rfl⟩
  case round =>
    obtain ⟨i, v, hi, rfl, rfl, HI, hwr⟩ := hrel
    rw [hwr]
    clear hwr
    by_cases hlt : i < S.length
    · have hltz : (i : Int) < (S.length : Int) := by omega
      have hi0 : (0 : Int) ≤ (i : Int) := by omega
      obtain ⟨s, hs'⟩ : ∃ s, S[i]? = some s := ⟨S[i], by simp⟩
      obtain ⟨a, b, rfl, hsp, hb⟩ := HS.out.to_ s (List.mem_of_getElem? hs')
      have HQ : Hid (S.take (i + 1) = S.take i ++ [⟨(a : Int), (b : Int), (0, 0, 0)⟩]) := by show _ = _; rw [List.take_add_one, hs']; rfl
      obtain ⟨b1, o1, c1, e1, z1, x0, x1, x2, x3, x4⟩ := ls_atC (HL.out.ls hs') hs'
      simp only [Value.slice.injEq] at e1
      obtain ⟨rfl, -, rfl⟩ := e1
      have hdv := hid (HF.out b hb)
      rw [← HN.out] at hb
      have hgb := fnL_get f hb
      obtain ⟨b2, o2, c2, e2, z2, y0⟩ := ls_atI (HD.out.ls hgb) hgb
      rw [fnL_len] at e2
      simp only [Value.slice.injEq, Option.some.injEq, Addr.mk.injEq] at e2
      obtain ⟨⟨rfl, rfl, -⟩, -, rfl⟩ := e2
      simp only [Nat.zero_add] at y0
      have bz : (b : Int) < (n : Int) := by omega
      have b0 : (0 : Int) ≤ (b : Int) := by omega
      have hiff : Hid (f b = (k : Int) ↔ At ls q k b) := hdv.out.iff
      clear hs' x2 x3 x4 hsp hgb hdv
      by_cases h1 : (a : Int) = (p : Int)
      · have h1' : a = p := by omega
        subst h1'
        by_cases h2 : f b = (k : Int)
        · by_cases h3 : v < 0
          · have FIN : Hid (Lb ls q k a (S.take (i + 1)) (b : Int)) := by show Lb _ _ _ _ _ _; rw [HQ.out]; exact HI.out.take (hiff.out.1 h2) (Or.inl h3)
            go_wp2_with fail
            go_roundw
            case rel => exact ⟨i + 1, _, by omega, by go_num, rfl, FIN.out, by first | rfl | trivial⟩
            case measure => simp [RowKit.intOf]; omega
          · by_cases h4 : (b : Int) < v
            · have FIN : Hid (Lb ls q k a (S.take (i + 1)) (b : Int)) := by show Lb _ _ _ _ _ _; rw [HQ.out]; exact HI.out.take (hiff.out.1 h2) (Or.inr h4)
              go_wp2_with fail
              go_roundw
              case rel => exact ⟨i + 1, _, by omega, by go_num, rfl, FIN.out, by first | rfl | trivial⟩
              case measure => simp [RowKit.intOf]; omega
            · have FIN : Hid (Lb ls q k a (S.take (i + 1)) v) := by show Lb _ _ _ _ _ _; rw [HQ.out]; exact HI.out.skip (fun h => by rcases h.2.2 with h | h; exact h3 h; exact h4 h)
              go_wp2_with fail
              go_roundw
              case rel => exact ⟨i + 1, _, by omega, by go_num, rfl, FIN.out, by first | rfl | trivial⟩
              case measure => simp [RowKit.intOf]; omega
        · have FIN : Hid (Lb ls q k a (S.take (i + 1)) v) := by show Lb _ _ _ _ _ _; rw [HQ.out]; exact HI.out.skip (fun h => h2 (hiff.out.2 h.2.1))
          go_wp2_with fail
          go_roundw
          case rel => exact ⟨i + 1, _, by omega, by go_num, rfl, FIN.out, by first | rfl | trivial⟩
          case measure => simp [RowKit.intOf]; omega
      · have FIN : Hid (Lb ls q k p (S.take (i + 1)) v) := by show Lb _ _ _ _ _ _; rw [HQ.out]; exact HI.out.skip (fun h => h1 (by omega))
        go_wp2_with fail
        go_roundw
        case rel => exact ⟨i + 1, _, by omega, by go_num, rfl, FIN.out, by first | rfl | trivial⟩
        case measure => simp [RowKit.intOf]; omega
    · have hltz : ¬ (i : Int) < (S.length : Int) := by omega
      have e : i = S.length := by omega
      subst e
      rw [List.take_length] at HI
      go_wp2_with fail
      go_ret
      exact ⟨v, rfl, HI.out.done HS.out, by first | rfl | trivial⟩
end Go.Proofs.YtpgodnaebkmhhaaGreat.Df

namespace Go.Proofs.YtpgodnaebkmhhaaGreat.Df
open Go.RowKit Go.Sort

section
variable {ls : List (List Int)} {q : Nat}
theorem first_of {q : Nat} : ∀ {l : List Nat}, q ∈ l → ∃ a b, l = a ++ q :: b ∧ q ∉ a
  | [], h => by cases h
  | x :: l, h => by
    by_cases e : x = q
    · exact ⟨[], l, by rw [e]; rfl, by simp⟩
    · obtain ⟨a, b, h1, h2⟩ := first_of ((List.mem_cons.1 h).resolve_left (fun h => e h.symm))
      exact ⟨x :: a, b, by rw [h1]; rfl, by simp [h2]; exact fun h => e h.symm⟩
theorem At.few {k x : Nat} (h : At ls q k x) (hq : q < ls.length) : k < ls.length := by
  rcases h with ⟨rfl, _⟩ | ⟨hx, hk, ⟨l, h1, h2, h3⟩, h4⟩
  · omega
  · obtain ⟨m, m1, m2, m3, m4⟩ := Wp.slim l h2
    have key : ∃ m : List Nat, Wp ls m q ∧ m.head? = some x ∧ m.Nodup ∧ q ∉ m := by
      by_cases e : q ∈ m
      · obtain ⟨a, b, e1, e2⟩ := first_of e
        subst e1
        have ha : a ≠ [] := fun e3 => by
          subst e3
          rw [h1] at m2
          simp at m2
          exact hx m2.symm
        refine ⟨a, Wp.front m1, ?_, (List.nodup_append.1 m3).1, e2⟩
        rw [← h1, ← m2]
        cases a with
        | nil => exact absurd rfl ha
        | cons v a => rfl
      · exact ⟨m, m1, m2.trans h1, m3, e⟩
    obtain ⟨r, r1, r2, r3, r4⟩ := key
    have hb := Wp.lt r r1
    have hn := nodup_le (n := ls.length) (q :: r) (List.nodup_cons.2 ⟨r4, r3⟩) (fun y hy => by
      rcases List.mem_cons.1 hy with rfl | hy
      · exact hq
      · exact hb y hy)
    have hr : Ry ls q r.length x := ⟨r, r2, r1, Nat.le_refl _⟩
    rw [List.length_cons] at hn
    by_cases e : k < ls.length
    · exact e
    · exact absurd (hr.mono (by omega)) h4
/-- What the document's Find finds is what the program's finds. -/
theorem find_eq (h0 : ∀ l ∈ ls, ∀ x ∈ l, (0 : Int) ≤ x) (hs : ∀ l ∈ ls, l.Pairwise (· ≤ ·)) {p : Nat} {l : List Nat} (hp : p < ls.length) (hno : ∀ q', q' < p → ∀ k, ¬ ∃ y, Sp ls q' y ∧ At ls q' k y) (hr : Rn ls p l) : findN ls ls.length = some l := by
  have h := find_rn h0 hs ls.length
  obtain ⟨k, y, l', hk, h1, h2, h3, rfl⟩ := id hr
  cases e : findN ls ls.length with
  | none =>
    rw [e] at h
    exact absurd ⟨y, h2.sp, h2.at_⟩ (h p hp k)
  | some l0 =>
    rw [e] at h
    obtain ⟨q0, hq0, hmin, hr0⟩ := h
    have hpq : p = q0 := by
      rcases Nat.lt_trichotomy p q0 with e1 | e1 | e1
      · exact absurd ⟨y, h2.sp, h2.at_⟩ (hmin p e1 k)
      · exact e1
      · obtain ⟨k0, y0, _, _, _, g2, _, _⟩ := hr0
        exact absurd ⟨y0, g2.sp, g2.at_⟩ (hno q0 e1 k0)
    subst hpq
    rw [hr0.uniq hr]
theorem find_none (h0 : ∀ l ∈ ls, ∀ x ∈ l, (0 : Int) ≤ x) (hs : ∀ l ∈ ls, l.Pairwise (· ≤ ·)) (hno : ∀ q', q' < ls.length → ∀ k, ¬ ∃ y, Sp ls q' y ∧ At ls q' k y) : findN ls ls.length = none := by
  have h := find_rn h0 hs ls.length
  cases e : findN ls ls.length with
  | none => rfl
  | some l0 =>
    rw [e] at h
    obtain ⟨q0, hq0, _, k0, y0, _, _, _, g2, _, _⟩ := h
    exact absurd ⟨y0, g2.sp, g2.at_⟩ (hno q0 hq0 k0)
end
end Go.Proofs.YtpgodnaebkmhhaaGreat.Df
