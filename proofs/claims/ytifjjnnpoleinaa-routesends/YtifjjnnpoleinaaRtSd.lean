import Derived.Test.YtifjjnnpoleinaaRtSame
import Derived.Test.YtifjjnnpoleinaaRtArgs
namespace Go.Proofs.Ytifjjnnpoleinaa.Df
open Go.RowKit Go.Sort
attribute [local go_sem ↓] Go.wp_at_zero Go.wp_at_succ
theorem ls_atOt {w : World} {b n c : Nat} {os : List Ot} (h : Ls EOt w (.slice (some ⟨b, 0, none⟩) n c) os) {j : Nat} {o : Ot} (hj : os[j]? = some o) : b < w.heap.size ∧ w.cell? ⟨b, j * 7, none⟩ = some (.int .i64 o.wk) ∧ w.cell? ⟨b, j * 7 + 1, none⟩ = some (.int .i64 o.at_) ∧ w.cell? ⟨b, j * 7 + 1 + 1, none⟩ = some (.int .u64 o.x.a) ∧ w.cell? ⟨b, j * 7 + 1 + 2, none⟩ = some (.int .u64 o.x.b) ∧ w.cell? ⟨b, j * 7 + 1 + 3, none⟩ = some (.int .u64 o.x.c) ∧ w.cell? ⟨b, j * 7 + 1 + 4, none⟩ = some (.int .u64 (o.x.key : Nat)) ∧ w.cell? ⟨b, j * 7 + 1 + 5, none⟩ = some (.int .u64 o.x.val) := by
  obtain ⟨b', off, c', hv, hb, h0, h1, h2, h3, h4, h5, h6⟩ := ls_atOg h hj
  simp only [Value.slice.injEq, Option.some.injEq, Addr.mk.injEq] at hv
  obtain ⟨⟨rfl, rfl, _⟩, _⟩ := hv
  simp only [Nat.zero_add] at h0 h1 h2 h3 h4 h5 h6
  exact ⟨hb, h0, h1, h2, h3, h4, h5, h6⟩
/-- What is to be sent at the question number r / 2. -/
def qL (g : Gph) (ks : List Aw) (r : Nat) : List Ot := match ks[r / 2]? with
  | some k => sends g k.1.k k.1.x k.1.o k.1.m
  | none => []
theorem qL_at {g : Gph} {ks : List Aw} {i r : Nat} {k : Aw} (h : ks[i]? = some k) (hr : r / 2 = i) : qL g ks r = sends g k.1.k k.1.x k.1.o k.1.m := by
  unfold qL
  rw [hr, h]
theorem qL_len {B gb : Nat} {g : Gph} {w : World} (h : Gm B w gb g) (ks : List Aw) (r : Nat) : (qL g ks r).length ≤ 48 := by
  unfold qL
  split
  · exact sends_len h _ _ _ _
  · simp
def rowC (Q : Nat → List Ot) (i j r : Nat) : List Ot := if r < i then fillL r (Q r) (Q r).length else if r = i then fillL r (Q r) j else Q r
theorem rowC_next {Q : Nat → List Ot} {i r : Nat} : rowC Q i (Q i).length r = rowC Q (i + 1) 0 r := by
  unfold rowC
  by_cases h1 : r < i
  · rw [if_pos h1, if_pos (by omega)]
  · by_cases h2 : r = i
    · subst h2
      rw [if_neg h1, if_pos rfl, if_pos (by omega)]
    · rw [if_neg h1, if_neg h2, if_neg (by omega)]
      split
      · rename_i h3
        subst h3
        simp [fillL]
      · rfl
theorem rowC_zero {Q : Nat → List Ot} (r : Nat) : rowC Q 0 0 r = Q r := by
  unfold rowC
  rw [if_neg (by omega)]
  split
  · rename_i h
    subst h
    simp [fillL]
  · rfl
theorem rowC_len {Q : Nat → List Ot} {i j r : Nat} (h : j ≤ (Q i).length) : (rowC Q i j r).length = (Q r).length := by
  unfold rowC
  split
  · exact fillL_len (Nat.le_refl _)
  · split
    · rename_i h2
      subst h2
      exact fillL_len h
    · rfl
theorem rowC_self {Q : Nat → List Ot} {i j : Nat} : rowC Q i j i = fillL i (Q i) j := by
  unfold rowC
  rw [if_neg (by omega), if_pos rfl]
set_option maxRecDepth 100000 in
set_option maxHeartbeats 16000000 in
theorem routeSends_any {M : Nat} {nv ev av : Value} {a : Int} {xs : List NV} {es : List Edg} {ks : List Aw} (w : World) (hG : GR M w nv ev xs es) (hM : M ≤ w.heap.size) (hC : Gcap ev xs) (hA : Ls EAk w av ks) (hal : ks.length * 64 ≤ 140737488351232) : Calls Try.prog 5 #[.agg (gvc a nv ev), av] w fun r w' => r = .returned (.bool true) ∧ Below w.heap.size w w' := by
  have hmx : Try.prog.follows .mixedOrders = true := by kernel_rfl
  obtain ⟨qn, cn, hnv⟩ := hG.nodes.form
  obtain ⟨qe, ce, hev⟩ := hG.edges.form
  subst hnv
  subst hev
  obtain ⟨qa, ca, rfl⟩ := hA.form
  obtain ⟨nl, hnl⟩ : ∃ n, n = xs.length := ⟨_, rfl⟩
  obtain ⟨el, hel⟩ : ∃ n, n = es.length := ⟨_, rfl⟩
  obtain ⟨na, hna⟩ : ∃ n, n = ks.length := ⟨_, rfl⟩
  rw [← hnl, ← hel] at hG ⊢
  rw [← hel] at hC
  rw [← hna] at hA hal ⊢
  have HEL : Hid (nl = xs.length ∧ el = es.length ∧ na = ks.length) := ⟨hnl, hel, hna⟩
  obtain ⟨gx, hgx⟩ : ∃ b, b = w.heap.size := ⟨_, rfl⟩
  obtain ⟨w0, hw0⟩ : ∃ W, W = w.alloc (.cells (gvc a (.slice qn nl cn) (.slice qe el ce)) 25) := ⟨_, rfl⟩
  have T0 : Hid (Below w.heap.size w w0 ∧ w0.heap[gx]? = some (.cells (gvc a (.slice qn nl cn) (.slice qe el ce)) 25 (0, 0))) := by
    rw [hw0, hgx]
    exact ⟨((Gr.refl w).alloc _).below, heap_new' _ _⟩
  have HW0 : Hid (w.alloc (.cells #[.int .i64 a, .slice qn nl cn, .slice qe el ce] 25) = w0 ∧ w.heap.size = gx) := ⟨hw0.symm, hgx.symm⟩
  have HG : Hid (∀ W, Below w.heap.size w W → GR W.heap.size W (.slice qn nl cn) (.slice qe el ce) xs es ∧ Ls EAk W (.slice qa na ca) ks) := fun W hb => ⟨(hG.below hb).up (Nat.le_trans hM hb.size), hA.below hb⟩
  have HC := hid hC
  clear hw0 hgx hG hC hM hnl hel hA hna
  go_enter Try.func5, Try.ntmps5
  go_upto_region 1 with fail
  rw [HW0.out.1, HW0.out.2]
  clear HW0
  go_wp2_with fail
  refine (taken_any w0).mono ?_
  rintro r w1 ⟨rfl, b1⟩
  have T1 : Hid (Below w.heap.size w w1 ∧ w1.heap[gx]? = some (.cells (gvc a (.slice qn nl cn) (.slice qe el ce)) 25 (0, 0))) := ⟨T0.out.1.trans (b1.mono T0.out.1.size), (b1.block _ (tk_lt T0.out.2)).trans T0.out.2⟩
  clear b1 T0
  have cx := (tk_store T1.out.2).1
  have lx := tk_lt T1.out.2
  have hnew := new_any (a := a) w1 (HG.out w1 T1.out.1).1 HC.out
  unfold gvc at cx hnew
  go_wp2_with fail
  refine hnew.mono ?_
  rintro r Wb ⟨b4, e, t, hF, hr⟩
  have T4 : Hid (Below w.heap.size w Wb ∧ Wb.heap[gx]? = some (.cells (gvc a (.slice qn nl cn) (.slice qe el ce)) 25 (0, 0))) := ⟨T1.out.1.trans (b4.mono T1.out.1.size), (b4.block _ (tk_lt T1.out.2)).trans T1.out.2⟩
  have HF := hid hF
  clear hnew b4 hF T1 cx lx
  rcases hr with ⟨he, rfl⟩ | ⟨rfl, gb, rfl, hgm⟩
  · have he1 : (e == 0) = false := by simp [he]
    have he2 : (e != 0) = true := by simp [he]
    go_wp2_with fail
    go_ret
    exact ⟨rfl, T4.out.1⟩
  · have HOK := hid (HF.out.ok.1 rfl)
    obtain ⟨B, hB⟩ : ∃ b, b = Wb.heap.size := ⟨_, rfl⟩
    obtain ⟨Q, hQ⟩ : ∃ Q, Q = qL (gof a xs es) ks := ⟨_, rfl⟩
    have HQ : Hid ((∀ (i r : Nat) (k : Aw), ks[i]? = some k → r / 2 = i → Q r = sends (gof a xs es) k.1.k k.1.x k.1.o k.1.m) ∧ ∀ r, (Q r).length ≤ 48) := by
      rw [hQ]
      exact ⟨fun i r k h1 h2 => qL_at h1 h2, qL_len hgm ks⟩
    have HW : Hid (∀ W, Below B Wb W → Below w.heap.size w W ∧ W.heap[gx]? = some (.cells (gvc a (.slice qn nl cn) (.slice qe el ce)) 25 (0, 0)) ∧ Gm w1.heap.size W gb (gof a xs es) ∧ Nr W (.slice qn nl cn) xs ∧ Lz ED W.heap.size W (.slice qe es.length ce) es ∧ Ls EAk W (.slice qa na ca) ks ∧ B ≤ W.heap.size) := fun W hb => by
      rw [hB] at hb
      have h1 := T4.out.1.trans (hb.mono T4.out.1.size)
      have h2 := HG.out W h1
      refine ⟨h1, (hb.block _ (tk_lt T4.out.2)).trans T4.out.2, hgm.below hb, ⟨h2.1.nodes, by have h := HOK.out.nl; simpa using h, HOK.out.pok⟩, ?_, h2.2, by rw [hB]; exact hb.size⟩
      have h3 := h2.1.edges
      rw [HEL.out.2.1] at h3
      exact h3
    have he48 : el ≤ 48 := by rw [HEL.out.2.1]; exact HOK.out.el
    have hna : (na : Int) * 64 ≤ 140737488351232 := by omega
    have HSQ : Hid (∀ (k : Aw), docS (gof a xs es) k.1.k k.1.x k.1.o k.1.m = sends (gof a xs es) k.1.k k.1.x k.1.o k.1.m) := fun k => docS_eq HOK.out _ _ _ _
    have HB0 : Hid (B = Wb.heap.size) := hB
    clear hgm T4 HF hB hQ HG HC
    go_wp2_with fail
    go_loopw [8, 9, 10, 11, 12] (fun s8 s9 s10 _ _ wr => ∃ i : Nat, i ≤ na ∧ s10 = .int .i64 i ∧ Hid (∃ vs us : List LV, vs.length = 2 * i ∧ us.length = 2 * i ∧ Fx EOt 51 40 B wr s8 vs Q ∧ Fx EOt 87 60 B wr s9 us Q ∧ Below B Wb wr)) (fun _ _ s10 _ _ _ => na - (RowKit.intOf s10).toNat)
    case atStart => exact ⟨0, Nat.zero_le _, rfl, [], [], rfl, rfl, Fx.nil _ _ _ _ _ _, Fx.nil _ _ _ _ _ _, Below.refl _ _⟩
    case round =>
      obtain ⟨i, hi, rfl, HI⟩ := hrel
      obtain ⟨vs, us, hvl, hul, hfo, hfr, hbl⟩ := HI.out
      obtain ⟨pv, pc, hpv⟩ := (owns_ls (E := EL) hfo.row).form
      obtain ⟨pu, uc, hpu⟩ := (owns_ls (E := EL) hfr.row).form
      rw [hvl] at hpv
      rw [hul] at hpu
      subst hpv
      subst hpu
      have HFO := hid hfo
      have HFR := hid hfr
      have HBL := hid hbl
      have HVL : Hid (vs.length = 2 * i ∧ us.length = 2 * i) := ⟨hvl, hul⟩
      clear HI hfo hfr hbl hvl hul
      by_cases hil : i < na
      · have hilz : (i : Int) < (na : Int) := by omega
        have hi0 : (0 : Int) ≤ (i : Int) := by omega
        obtain ⟨k, hk⟩ : ∃ k, ks[i]? = some k := ⟨ks[i]'(by have := HEL.out; omega), by simp⟩
        obtain ⟨b1, o1, c1, e1, z1, hc1⟩ := (HW.out _ HBL.out).2.2.2.2.2.1.get hk
        simp only [Value.slice.injEq] at e1
        obtain ⟨rfl, -, rfl⟩ := e1
        have x0 : wr.cell? ⟨b1, o1 + i * 8, none⟩ = some (.int .i64 k.1.k) := hc1 0 _ (by decide) rfl
        have x1 : wr.cell? ⟨b1, o1 + i * 8 + 1, none⟩ = some (.int .u64 k.1.x.a) := hc1 1 _ (by decide) rfl
        have x2 : wr.cell? ⟨b1, o1 + i * 8 + 2, none⟩ = some (.int .u64 k.1.x.b) := hc1 2 _ (by decide) rfl
        have x3 : wr.cell? ⟨b1, o1 + i * 8 + 3, none⟩ = some (.int .u64 k.1.x.c) := hc1 3 _ (by decide) rfl
        have x4 : wr.cell? ⟨b1, o1 + i * 8 + 4, none⟩ = some (.int .u64 (k.1.x.key : Nat)) := hc1 4 _ (by decide) rfl
        have x5 : wr.cell? ⟨b1, o1 + i * 8 + 5, none⟩ = some (.int .u64 k.1.x.val) := hc1 5 _ (by decide) rfl
        have x6 : wr.cell? ⟨b1, o1 + i * 8 + 6, none⟩ = some (.int .i64 k.1.o) := hc1 6 _ (by decide) rfl
        have x7 : wr.cell? ⟨b1, o1 + i * 8 + 7, none⟩ = some (.int .i64 k.1.m) := hc1 7 _ (by decide) rfl
        have HQK : Hid (∀ r, r / 2 = i → Q r = sends (gof a xs es) k.1.k k.1.x k.1.o k.1.m) := fun r hr => HQ.out.1 i r k hk hr
        clear hc1 hk
        obtain ⟨ab, hab⟩ : ∃ b, b = wr.heap.size := ⟨_, rfl⟩
        obtain ⟨W1, hW1⟩ : ∃ W, W = wr.alloc (.cells #[.int .i64 k.1.k, .int .u64 k.1.x.a, .int .u64 k.1.x.b, .int .u64 k.1.x.c, .int .u64 (k.1.x.key : Nat), .int .u64 k.1.x.val, .int .i64 k.1.o, .int .i64 k.1.m] 32) := ⟨_, rfl⟩
        have H1 : Hid (Fx EOt 51 40 B W1 (.slice pv (2 * i) pc) vs Q ∧ Fx EOt 87 60 B W1 (.slice pu (2 * i) uc) us Q ∧ Below B Wb W1 ∧ W1.heap[ab]? = some (.cells #[.int .i64 k.1.k, .int .u64 k.1.x.a, .int .u64 k.1.x.b, .int .u64 k.1.x.c, .int .u64 (k.1.x.key : Nat), .int .u64 k.1.x.val, .int .i64 k.1.o, .int .i64 k.1.m] 32 (0, 0))) := by
          have g := ((Gr.refl wr).alloc (.cells #[.int .i64 k.1.k, .int .u64 k.1.x.a, .int .u64 k.1.x.b, .int .u64 k.1.x.c, .int .u64 (k.1.x.key : Nat), .int .u64 k.1.x.val, .int .i64 k.1.o, .int .i64 k.1.m] 32)).below
          rw [hW1, hab]
          exact ⟨HFO.out.below g, HFR.out.below g, HBL.out.trans (g.mono (HW.out _ HBL.out).2.2.2.2.2.2), heap_new' _ _⟩
        have HW1 : Hid (wr.alloc (.cells #[.int .i64 k.1.k, .int .u64 k.1.x.a, .int .u64 k.1.x.b, .int .u64 k.1.x.c, .int .u64 (k.1.x.key : Nat), .int .u64 k.1.x.val, .int .i64 k.1.o, .int .i64 k.1.m] 32) = W1 ∧ wr.heap.size = ab) := ⟨hW1.symm, hab.symm⟩
        clear hW1 hab HFO HFR HBL
        go_upto_region 12 with fail
        rw [HW1.out.1, HW1.out.2]
        clear HW1 x0 x1 x2 x3 x4 x5 x6 x7 z1
        go_wp2_with fail
        go_loopw [8, 9, 12] (fun s8 s9 s12 wx => ∃ n : Nat, n ≤ 2 ∧ s12 = .int .i64 n ∧ Hid (∃ vs us : List LV, vs.length = 2 * i + n ∧ us.length = 2 * i + n ∧ Fx EOt 51 40 B wx s8 vs Q ∧ Fx EOt 87 60 B wx s9 us Q ∧ Below B Wb wx ∧ wx.heap[ab]? = some (.cells #[.int .i64 k.1.k, .int .u64 k.1.x.a, .int .u64 k.1.x.b, .int .u64 k.1.x.c, .int .u64 (k.1.x.key : Nat), .int .u64 k.1.x.val, .int .i64 k.1.o, .int .i64 k.1.m] 32 (0, 0)))) (fun _ _ s12 _ => 2 - (RowKit.intOf s12).toNat)
        case atStart => exact ⟨0, by omega, rfl, vs, us, HVL.out.1, HVL.out.2, H1.out.1, H1.out.2.1, H1.out.2.2.1, H1.out.2.2.2⟩
        case round =>
          clear H1 HVL vs us
          obtain ⟨n, hn, rfl, HI⟩ := hrel
          obtain ⟨vs, us, hvl, hul, hfo, hfr, hbl, hak⟩ := HI.out
          obtain ⟨pv, pc, hpv⟩ := (owns_ls (E := EL) hfo.row).form
          obtain ⟨pu, uc, hpu⟩ := (owns_ls (E := EL) hfr.row).form
          obtain ⟨R, hR⟩ : ∃ R, R = 2 * i + n := ⟨_, rfl⟩
          rw [hvl, ← hR] at hpv
          rw [hul, ← hR] at hpu
          subst hpv
          subst hpu
          have HFO := hid hfo
          have HFR := hid hfr
          have HBL := hid hbl
          have HAK := hid hak
          have HVL : Hid (vs.length = R ∧ us.length = R ∧ R = 2 * i + n) := ⟨by omega, by omega, hR⟩
          clear HI hfo hfr hbl hvl hul hak
          by_cases hn2 : n < 2
          · have hn2z : (n : Int) < 2 := by omega
            have HQR : Hid (Q R = sends (gof a xs es) k.1.k k.1.x k.1.o k.1.m) := HQK.out R (by omega)
            have hRb : (R : Int) * 24 + 24 ≤ 140737488355328 := by omega
            clear hR
            have a0 : wr.cell? ⟨ab, 0, none⟩ = some (.int .i64 k.1.k) := (tk_store HAK.out).1 0
            have a1 : wr.cell? ⟨ab, 1, none⟩ = some (.int .u64 k.1.x.a) := (tk_store HAK.out).1 1
            have a2 : wr.cell? ⟨ab, 2, none⟩ = some (.int .u64 k.1.x.b) := (tk_store HAK.out).1 2
            have a3 : wr.cell? ⟨ab, 3, none⟩ = some (.int .u64 k.1.x.c) := (tk_store HAK.out).1 3
            have a4 : wr.cell? ⟨ab, 4, none⟩ = some (.int .u64 (k.1.x.key : Nat)) := (tk_store HAK.out).1 4
            have a5 : wr.cell? ⟨ab, 5, none⟩ = some (.int .u64 k.1.x.val) := (tk_store HAK.out).1 5
            have a6 : wr.cell? ⟨ab, 6, none⟩ = some (.int .i64 k.1.o) := (tk_store HAK.out).1 6
            have a7 : wr.cell? ⟨ab, 7, none⟩ = some (.int .i64 k.1.m) := (tk_store HAK.out).1 7
            have lA := tk_lt HAK.out
            have hsd := send_any k.1.k k.1.o k.1.m k.1.x k.2 wr (HW.out _ HBL.out).2.2.1
            rw [← HQR.out] at hsd
            go_wp2_with fail
            refine hsd.mono ?_
            rintro r w2 ⟨v2, rfl, HS⟩
            obtain ⟨q2, n2, c2, rfl⟩ := owns_form HS.out.1
            have hn2e := (owns_caps HS.out.1 _ _ _ rfl).1
            subst hn2e
            obtain ⟨w3, hw3⟩ : ∃ W, W = w2.alloc (.cells #[.slice q2 (Q R).length c2] 40) := ⟨_, rfl⟩
            have HW3 : Hid (Below w2.heap.size w2 w3 ∧ Ls EL w3 (.slice (some ⟨w2.heap.size, 0, none⟩) 1 1) [⟨q2, (Q R).length, c2⟩] ∧ w3.ownsRow B 40 1 (.slice pv R pc) R (fl EL vs) ∧ B ≤ w3.heap.size ∧ Below wr.heap.size wr w3) := by
              have g : Below w2.heap.size w2 w3 := by rw [hw3]; exact ((Gr.refl w2).alloc _).below
              have g2 := HS.out.2.trans (g.mono HS.out.2.size)
              have ho := owns_below HFO.out.row g2
              rw [HVL.out.1] at ho
              exact ⟨g, one_ls (E := EL) (x := ⟨q2, (Q R).length, c2⟩) (by rw [hw3]; exact heap_new' _ _) rfl, ho, Nat.le_trans (HW.out _ HBL.out).2.2.2.2.2.2 g2.size, g2⟩
            clear hsd
            go_wp2_with (at_builtin; rw [← hw3]; refine wpAppL EL Try.underlying58 infoLo rfl (by decide) rfl _ _ rfl B _ R _ rfl HW3.out.2.2.1 (.slice (some ⟨w2.heap.size, 0, none⟩) 1 1) [⟨q2, (Q R).length, c2⟩] rfl HW3.out.2.1 (by simp only [List.length_singleton]; omega) (by unfold maxLen; simp only [List.length_singleton]; omega) HW3.out.2.2.2.1 ?_)
            intro v4 w4 ho4 hg4
            have H4 : Hid (Fx EOt 51 40 B w4 v4 (vs ++ [⟨q2, (Q R).length, c2⟩]) Q ∧ Fx EOt 87 60 B w4 (.slice pu R uc) us Q ∧ Below B Wb w4 ∧ w4.heap[ab]? = some (.cells #[.int .i64 k.1.k, .int .u64 k.1.x.a, .int .u64 k.1.x.b, .int .u64 k.1.x.c, .int .u64 (k.1.x.key : Nat), .int .u64 k.1.x.val, .int .i64 k.1.o, .int .i64 k.1.m] 32 (0, 0))) := by
              rw [← hw3] at hg4
              have hK := Kp.grownBy (S := fun j => (Value.slice pv R pc).ownBlock = some j) hg4 (fun _ h => h)
              have hbB := (HW.out _ HBL.out).2.2.2.2.2.2
              have hB3 := HBL.out.trans (HW3.out.2.2.2.2.mono hbB)
              have ho5 : w4.ownsRow B 40 1 v4 (vs.length + 1) (fl EL vs ++ fl EL [⟨q2, (Q R).length, c2⟩]) := by rw [HVL.out.1]; exact ho4
              refine ⟨(Fx.push (by decide) HFO.out hbB HS.out.2 (x := ⟨q2, (Q R).length, c2⟩) HS.out.1 HW3.out.1 ho5 hg4).re (fun r _ => ?_), (HFR.out.below HW3.out.2.2.2.2).other HW3.out.2.2.1 (by decide) (by decide) hK, hB3.trans (hK.below HW3.out.2.2.2.1 (fun j e => (owns_rd HW3.out.2.2.1 j e).1)), ?_⟩
              · by_cases e : r = vs.length
                · simp only [e, if_true, HVL.out.1]
                · simp only [if_neg e]
              · have h3 := (HW3.out.2.2.2.2.block _ lA).trans HAK.out
                exact (hK.block _ (tk_lt h3) (fun e => owns_ne_blk HW3.out.2.2.1 h3 (by decide) _ e rfl)).trans h3
            have HV4 : Hid ((vs ++ [(⟨q2, (Q R).length, c2⟩ : LV)]).length = R + 1) := by show _ = _; rw [List.length_append, HVL.out.1]; rfl
            generalize vs ++ [(⟨q2, (Q R).length, c2⟩ : LV)] = vs' at H4 HV4
            clear ho4 hg4 hw3 HW3 HS a0 a1 a2 a3 a4 a5 a6 a7 lA HFO HFR HBL HAK
            have a0 : w4.cell? ⟨ab, 0, none⟩ = some (.int .i64 k.1.k) := (tk_store H4.out.2.2.2).1 0
            have a1 : w4.cell? ⟨ab, 1, none⟩ = some (.int .u64 k.1.x.a) := (tk_store H4.out.2.2.2).1 1
            have a2 : w4.cell? ⟨ab, 2, none⟩ = some (.int .u64 k.1.x.b) := (tk_store H4.out.2.2.2).1 2
            have a3 : w4.cell? ⟨ab, 3, none⟩ = some (.int .u64 k.1.x.c) := (tk_store H4.out.2.2.2).1 3
            have a4 : w4.cell? ⟨ab, 4, none⟩ = some (.int .u64 (k.1.x.key : Nat)) := (tk_store H4.out.2.2.2).1 4
            have a5 : w4.cell? ⟨ab, 5, none⟩ = some (.int .u64 k.1.x.val) := (tk_store H4.out.2.2.2).1 5
            have a6 : w4.cell? ⟨ab, 6, none⟩ = some (.int .i64 k.1.o) := (tk_store H4.out.2.2.2).1 6
            have a7 : w4.cell? ⟨ab, 7, none⟩ = some (.int .i64 k.1.m) := (tk_store H4.out.2.2.2).1 7
            have lA := tk_lt H4.out.2.2.2
            have cg := (tk_store (HW.out _ H4.out.2.2.1).2.1).1
            have lg := tk_lt (HW.out _ H4.out.2.2.1).2.1
            have hrs := rsend_any (a := a) (es := es) k.1.k k.1.o k.1.m k.1.x k.2 w4 (HW.out _ H4.out.2.2.1).2.2.2.1 (HW.out _ H4.out.2.2.1).2.2.2.2.1 (by rw [← HEL.out.2.1]; exact he48)
            rw [HSQ.out, ← HQR.out, ← HEL.out.2.1] at hrs
            unfold gvc at cg hrs
            go_wp2_with fail
            refine hrs.mono ?_
            rintro r w5 ⟨v5, rfl, HS⟩
            obtain ⟨q5, n5, c5, rfl⟩ := owns_form HS.out.1
            have hn5e := (owns_caps HS.out.1 _ _ _ rfl).1
            subst hn5e
            obtain ⟨w6, hw6⟩ : ∃ W, W = w5.alloc (.cells #[.slice q5 (Q R).length c5] 60) := ⟨_, rfl⟩
            have HW6 : Hid (Below w5.heap.size w5 w6 ∧ Ls EL w6 (.slice (some ⟨w5.heap.size, 0, none⟩) 1 1) [⟨q5, (Q R).length, c5⟩] ∧ w6.ownsRow B 60 1 (.slice pu R uc) R (fl EL us) ∧ B ≤ w6.heap.size ∧ Below w4.heap.size w4 w6) := by
              have g : Below w5.heap.size w5 w6 := by rw [hw6]; exact ((Gr.refl w5).alloc _).below
              have g2 := HS.out.2.trans (g.mono HS.out.2.size)
              have ho := owns_below H4.out.2.1.row g2
              rw [HVL.out.2.1] at ho
              exact ⟨g, one_ls (E := EL) (x := ⟨q5, (Q R).length, c5⟩) (by rw [hw6]; exact heap_new' _ _) rfl, ho, Nat.le_trans (HW.out _ H4.out.2.2.1).2.2.2.2.2.2 g2.size, g2⟩
            clear hrs cg lg
            go_wp2_with (at_builtin; rw [← hw6]; refine wpAppL EL Try.underlying59 infoLr rfl (by decide) rfl _ _ rfl B _ R _ rfl HW6.out.2.2.1 (.slice (some ⟨w5.heap.size, 0, none⟩) 1 1) [⟨q5, (Q R).length, c5⟩] rfl HW6.out.2.1 (by simp only [List.length_singleton]; omega) (by unfold maxLen; simp only [List.length_singleton]; omega) HW6.out.2.2.2.1 ?_)
            intro v7 w7 ho7 hg7
            have H7 : Hid (Fx EOt 51 40 B w7 v4 vs' Q ∧ Fx EOt 87 60 B w7 v7 (us ++ [⟨q5, (Q R).length, c5⟩]) Q ∧ Below B Wb w7 ∧ w7.heap[ab]? = some (.cells #[.int .i64 k.1.k, .int .u64 k.1.x.a, .int .u64 k.1.x.b, .int .u64 k.1.x.c, .int .u64 (k.1.x.key : Nat), .int .u64 k.1.x.val, .int .i64 k.1.o, .int .i64 k.1.m] 32 (0, 0))) := by
              rw [← hw6] at hg7
              have hK := Kp.grownBy (S := fun j => (Value.slice pu R uc).ownBlock = some j) hg7 (fun _ h => h)
              have hbB := (HW.out _ H4.out.2.2.1).2.2.2.2.2.2
              have hB6 := H4.out.2.2.1.trans (HW6.out.2.2.2.2.mono hbB)
              have ho8 : w7.ownsRow B 60 1 v7 (us.length + 1) (fl EL us ++ fl EL [⟨q5, (Q R).length, c5⟩]) := by rw [HVL.out.2.1]; exact ho7
              refine ⟨(H4.out.1.below HW6.out.2.2.2.2).other HW6.out.2.2.1 (by decide) (by decide) hK, (Fx.push (by decide) H4.out.2.1 hbB HS.out.2 (x := ⟨q5, (Q R).length, c5⟩) HS.out.1 HW6.out.1 ho8 hg7).re (fun r _ => ?_), hB6.trans (hK.below HW6.out.2.2.2.1 (fun j e => (owns_rd HW6.out.2.2.1 j e).1)), ?_⟩
              · by_cases e : r = us.length
                · simp only [e, if_true, HVL.out.2.1]
                · simp only [if_neg e]
              · have h3 := (HW6.out.2.2.2.2.block _ lA).trans H4.out.2.2.2
                exact (hK.block _ (tk_lt h3) (fun e => owns_ne_blk HW6.out.2.2.1 h3 (by decide) _ e rfl)).trans h3
            have HU7 : Hid ((us ++ [(⟨q5, (Q R).length, c5⟩ : LV)]).length = R + 1) := by show _ = _; rw [List.length_append, HVL.out.2.1]; rfl
            generalize us ++ [(⟨q5, (Q R).length, c5⟩ : LV)] = us' at H7 HU7
            clear ho7 hg7 hw6 HW6 HS a0 a1 a2 a3 a4 a5 a6 a7 lA H4
            have hs9 := send_any (g := gof a xs es) 0 0 8 ⟨9, 0, 0, 9, 0⟩ (by decide) w7 (HW.out _ H7.out.2.2.1).2.2.1
            go_wp2_with fail
            refine hs9.mono ?_
            rintro r w8 ⟨v8, rfl, HS8⟩
            have F9 : Hid (∃ vs us : List LV, vs.length = 2 * i + (n + 1) ∧ us.length = 2 * i + (n + 1) ∧ Fx EOt 51 40 B w8 v4 vs Q ∧ Fx EOt 87 60 B w8 v7 us Q ∧ Below B Wb w8 ∧ w8.heap[ab]? = some (.cells #[.int .i64 k.1.k, .int .u64 k.1.x.a, .int .u64 k.1.x.b, .int .u64 k.1.x.c, .int .u64 (k.1.x.key : Nat), .int .u64 k.1.x.val, .int .i64 k.1.o, .int .i64 k.1.m] 32 (0, 0))) := ⟨vs', us', by have h1 := HV4.out; have h2 := HVL.out.2.2; omega, by have h1 := HU7.out; have h2 := HVL.out.2.2; omega, H7.out.1.below HS8.out.2, H7.out.2.1.below HS8.out.2, H7.out.2.2.1.trans (HS8.out.2.mono (HW.out _ H7.out.2.2.1).2.2.2.2.2.2), (HS8.out.2.block _ (tk_lt H7.out.2.2.2)).trans H7.out.2.2.2⟩
            clear hs9 HS8 H7
            go_wp2
            go_roundw
            case rel => exact ⟨n + 1, by omega, by first | rfl | go_num, F9.out⟩
            case measure => simp [RowKit.intOf]; omega
          · have hn2z : ¬ (n : Int) < 2 := by omega
            have F9 : Hid (∃ vs us : List LV, vs.length = 2 * (i + 1) ∧ us.length = 2 * (i + 1) ∧ Fx EOt 51 40 B wr (.slice pv R pc) vs Q ∧ Fx EOt 87 60 B wr (.slice pu R uc) us Q ∧ Below B Wb wr) := ⟨vs, us, by have h1 := HVL.out; omega, by have h1 := HVL.out; omega, HFO.out, HFR.out, HBL.out⟩
            go_wp2
            go_roundw
            case rel => exact ⟨i + 1, by omega, by first | rfl | go_num, F9.out⟩
            case measure => simp [RowKit.intOf]; omega
      · have hilz : ¬ (i : Int) < (na : Int) := by omega
        obtain ⟨N, hN⟩ : ∃ N, N = 2 * i := ⟨_, rfl⟩
        rw [← hN] at HFO HFR HVL ⊢
        have hN8 : (N : Int) * 24 ≤ 140737488355328 := by omega
        obtain ⟨Wj, hWj⟩ : ∃ W, W = wr := ⟨_, rfl⟩
        subst hWj
        have HQ48 : Hid (∀ r, (Q r).length ≤ 48) := HQ.out.2
        have HEN : Hid (∀ W, Below B Wb W → Below w.heap.size w W ∧ B ≤ W.heap.size) := fun W hb => ⟨(HW.out W hb).1, (HW.out W hb).2.2.2.2.2.2⟩
        go_upto_region 18 with fail
        clear hilz hil hi hN HW HQ HSQ HOK HEL hna hal he48 HB0
        go_wp2_with fail
        go_loopw [13] (fun s13 wx => ∃ j : Nat, j ≤ N ∧ s13 = .int .i64 j ∧ Hid (Gr Wj wx)) (fun s13 _ => N - (RowKit.intOf s13).toNat)
        case atStart => exact ⟨0, Nat.zero_le _, rfl, Gr.refl _⟩
        case round =>
          obtain ⟨j, hj, rfl, HG⟩ := hrel
          by_cases hjl : j < N
          · have hjlz : (j : Int) < (N : Int) := by omega
            have hj0 : (0 : Int) ≤ (j : Int) := by omega
            obtain ⟨x, hx⟩ : ∃ x, vs[j]? = some x := ⟨vs[j]'(by have := HVL.out; omega), by simp⟩
            obtain ⟨y, hy⟩ : ∃ y, us[j]? = some y := ⟨us[j]'(by have := HVL.out; omega), by simp⟩
            have fo := HFO.out.below HG.out.below
            have fr := HFR.out.below HG.out.below
            obtain ⟨b1, o1, c1, e1, z1, x1⟩ := ls_atL (owns_ls (E := EL) fo.row) hx
            obtain ⟨b2, o2, c2, e2, z2, y1⟩ := ls_atL (owns_ls (E := EL) fr.row) hy
            simp only [Value.slice.injEq] at e1 e2
            obtain ⟨rfl, -, rfl⟩ := e1
            obtain ⟨rfl, -, rfl⟩ := e2
            have HSM : Hid (∀ X, Gr wr X → Ls EOt X x.v (Q j) ∧ Ls EOt X y.v (Q j)) := fun X g => ⟨owns_ls (E := EOt) (owns_below (fo.each j x hx) g.below), owns_ls (E := EOt) (owns_below (fr.each j y hy) g.below)⟩
            have HSD : Hid (∀ X, Gr wr X → X.cell? ⟨b1, o1 + j, none⟩ = some x.v ∧ X.cell? ⟨b2, o2 + j, none⟩ = some y.v ∧ b1 < X.heap.size ∧ b2 < X.heap.size) := fun X g => ⟨(g.cell z1).trans x1, (g.cell z2).trans y1, Nat.lt_of_lt_of_le z1 g.size, Nat.lt_of_lt_of_le z2 g.size⟩
            have G0 : Hid (Gr wr wr.drew) := (Gr.refl wr).drew
            clear fo fr hx hy z1 x1 z2 y1
            go_upto_region 21 with fail
            obtain ⟨xq, xm, xc⟩ := x
            obtain ⟨yq, ym, yc⟩ := y
            simp only [LV.v] at HSM HSD
            refine wp_regionD (S := fun X => X.cell? ⟨b1, o1 + j, none⟩ = some (.slice xq xm xc) ∧ X.cell? ⟨b2, o2 + j, none⟩ = some (.slice yq ym yc) ∧ b1 < X.heap.size ∧ b2 < X.heap.size) (D := []) hmx ?_
            refine' wpAnyD_take (i := 0) (oi := { dst := some 85, op := Go.Op.move (Go.Operand.tmp 8), type := 58, pos := "law.go:71", after := #[], guard := none }) (v := _) rfl (by kernel_rfl) (by kernel_rfl) (by kernel_rfl) (fun _ _ _ h => h) (by kernel_rfl) (Or.inl ⟨by rfl, ?hy1⟩) (HSD.out _ G0.out) ?rest1
            case hy1 => (intro W hSw; go_simp; try (with_reducible rfl))
            try simp only [Act.put, List.setIfInBounds_toArray, List.set_cons_zero, List.set_cons_succ]
            refine' wpAnyD_take (i := 1) (oi := { dst := some 86, op := Go.Op.move (Go.Operand.tmp 13), type := 3, pos := "law.go:71", after := #[], guard := none }) (v := _) rfl (by kernel_rfl) (by kernel_rfl) (by kernel_rfl) (fun _ _ _ h => h) (by kernel_rfl) (Or.inl ⟨by rfl, ?hy2⟩) (HSD.out _ G0.out) ?rest2
            case hy2 => (intro W hSw; go_simp; try (with_reducible rfl))
            try simp only [Act.put, List.setIfInBounds_toArray, List.set_cons_zero, List.set_cons_succ]
            refine' wpAnyD_take (i := 2) (oi := { dst := some 87, op := Go.Op.indexAddr 58 (Go.Operand.tmp 85) (Go.Operand.tmp 86), type := 0, pos := "law.go:71", after := #[{ on := 0, ground := Go.Ground.data }, { on := 1, ground := Go.Ground.data }], guard := none }) (v := _) rfl (by kernel_rfl) (by kernel_rfl) (by kernel_rfl) (fun _ _ _ h => h) (by kernel_rfl) (Or.inl ⟨by rfl, ?hy3⟩) (HSD.out _ G0.out) ?rest3
            case hy3 => (intro W hSw; obtain ⟨h1, h2, h3, h4⟩ := hSw; go_simp; try (with_reducible rfl))
            try simp only [Act.put, List.setIfInBounds_toArray, List.set_cons_zero, List.set_cons_succ]
            refine' wpAnyD_take (i := 3) (oi := { dst := some 88, op := Go.Op.load 40 (Go.Operand.tmp 87), type := 40, pos := "law.go:71", after := #[{ on := 2, ground := Go.Ground.data }], guard := none }) (v := _) rfl (by kernel_rfl) (by kernel_rfl) (by kernel_rfl) (fun _ _ _ h => h) (by kernel_rfl) (Or.inl ⟨by rfl, ?hy4⟩) (HSD.out _ G0.out) ?rest4
            case hy4 => (intro W hSw; obtain ⟨h1, h2, h3, h4⟩ := hSw; go_simp; try (with_reducible rfl))
            try simp only [Act.put, List.setIfInBounds_toArray, List.set_cons_zero, List.set_cons_succ]
            refine' wpAnyD_take (i := 4) (oi := { dst := some 89, op := Go.Op.move (Go.Operand.tmp 9), type := 59, pos := "law.go:71", after := #[], guard := none }) (v := _) rfl (by kernel_rfl) (by kernel_rfl) (by kernel_rfl) (fun _ _ _ h => h) (by kernel_rfl) (Or.inl ⟨by rfl, ?hy5⟩) (HSD.out _ G0.out) ?rest5
            case hy5 => (intro W hSw; go_simp; try (with_reducible rfl))
            try simp only [Act.put, List.setIfInBounds_toArray, List.set_cons_zero, List.set_cons_succ]
            refine' wpAnyD_take (i := 5) (oi := { dst := some 90, op := Go.Op.move (Go.Operand.tmp 13), type := 3, pos := "law.go:71", after := #[], guard := none }) (v := _) rfl (by kernel_rfl) (by kernel_rfl) (by kernel_rfl) (fun _ _ _ h => h) (by kernel_rfl) (Or.inl ⟨by rfl, ?hy6⟩) (HSD.out _ G0.out) ?rest6
            case hy6 => (intro W hSw; go_simp; try (with_reducible rfl))
            try simp only [Act.put, List.setIfInBounds_toArray, List.set_cons_zero, List.set_cons_succ]
            refine' wpAnyD_take (i := 6) (oi := { dst := some 91, op := Go.Op.indexAddr 59 (Go.Operand.tmp 89) (Go.Operand.tmp 90), type := 0, pos := "law.go:71", after := #[{ on := 4, ground := Go.Ground.data }, { on := 5, ground := Go.Ground.data }], guard := none }) (v := _) rfl (by kernel_rfl) (by kernel_rfl) (by kernel_rfl) (fun _ _ _ h => h) (by kernel_rfl) (Or.inl ⟨by rfl, ?hy7⟩) (HSD.out _ G0.out) ?rest7
            case hy7 => (intro W hSw; obtain ⟨h1, h2, h3, h4⟩ := hSw; go_simp; try (with_reducible rfl))
            try simp only [Act.put, List.setIfInBounds_toArray, List.set_cons_zero, List.set_cons_succ]
            refine' wpAnyD_take (i := 7) (oi := { dst := some 92, op := Go.Op.load 60 (Go.Operand.tmp 91), type := 60, pos := "law.go:71", after := #[{ on := 6, ground := Go.Ground.data }], guard := none }) (v := _) rfl (by kernel_rfl) (by kernel_rfl) (by kernel_rfl) (fun _ _ _ h => h) (by kernel_rfl) (Or.inl ⟨by rfl, ?hy8⟩) (HSD.out _ G0.out) ?rest8
            case hy8 => (intro W hSw; obtain ⟨h1, h2, h3, h4⟩ := hSw; go_simp; try (with_reducible rfl))
            try simp only [Act.put, List.setIfInBounds_toArray, List.set_cons_zero, List.set_cons_succ]
            refine wpAnyD_one (i := 8) (o := { dst := some 93, op := Go.Op.call { callee := Go.Callee.value (Go.Operand.func 18), args := #[Go.Operand.tmp 88, Go.Operand.tmp 92], argTypes := #[40, 60] }, type := 4, pos := "law.go:71", after := #[{ on := 3, ground := Go.Ground.data }, { on := 7, ground := Go.Ground.data }], guard := none }) (by kernel_rfl) rfl (fun K hK => ?_)
            go_simp
            refine (sameO_any _ (HSM.out _ G0.out).1 (HSM.out _ G0.out).2 (Nat.le_trans (HQ48.out j) (by decide))).mono ?_
            rintro r w3 ⟨rfl, g3⟩
            have G3 := G0.out.trans g3
            clear g3
            go_wp2_with fail
            refine hK.out _ _ (fun hD => (HSD.out _ G3)) ?_
            clear hK K
            try simp only [Act.put, List.setIfInBounds_toArray, List.set_cons_zero, List.set_cons_succ]
            refine' wpAnyD_take (i := 9) (oi := { dst := some 94, op := Go.Op.unOp Go.UnOp.not 4 (Go.Operand.tmp 93), type := 4, pos := "law.go:71", after := #[{ on := 8, ground := Go.Ground.data }], guard := none }) (v := _) rfl (by kernel_rfl) (by kernel_rfl) (by kernel_rfl) (fun _ _ _ h => h) (by kernel_rfl) (Or.inl ⟨by rfl, ?hy10⟩) (HSD.out _ G3) ?rest10
            case hy10 => (intro W hSw; go_simp; try (with_reducible rfl))
            try simp only [Act.put, List.setIfInBounds_toArray, List.set_cons_zero, List.set_cons_succ]
            refine wpAnyD_done (by kernel_rfl) ?_ _
            have F9 : Hid (Gr Wj w3) := HG.out.trans G3
            clear G3
            go_wp2
            go_roundw
            case rel => exact ⟨j + 1, by omega, by first | rfl | go_num, F9.out⟩
            case measure => simp [RowKit.intOf]; omega
          · have hjlz : ¬ (j : Int) < (N : Int) := by omega
            have HF1 : Hid (Fx EOt 51 40 B wr (.slice pv N pc) vs (rowC Q 0 0) ∧ Below B Wb wr) := ⟨(HFO.out.below HG.out.below).re (fun r _ => (rowC_zero r).symm), HBL.out.trans (HG.out.below.mono (HEN.out _ HBL.out).2)⟩
            obtain ⟨Wc, hWc⟩ : ∃ W, W = wr := ⟨_, rfl⟩
            subst hWc
            go_upto_region 23 with fail
            clear HFO HFR HBL HG hjlz hjl hj
            go_wp2_with fail
            go_loopw [14, 15] (fun s14 _ wx => ∃ j : Nat, j ≤ N ∧ s14 = .int .i64 j ∧ Hid (Fx EOt 51 40 B wx (.slice pv N pc) vs (rowC Q j 0) ∧ Below B Wb wx)) (fun s14 _ _ => N - (RowKit.intOf s14).toNat)
            case atStart => exact ⟨0, Nat.zero_le _, rfl, HF1.out⟩
            case round =>
              clear HF1
              obtain ⟨j, hj, rfl, HI⟩ := hrel
              by_cases hjl : j < N
              · have hjlz : (j : Int) < (N : Int) := by omega
                have hj0 : (0 : Int) ≤ (j : Int) := by omega
                obtain ⟨x, hx⟩ : ∃ x, vs[j]? = some x := ⟨vs[j]'(by have := HVL.out; omega), by simp⟩
                have HX := hid hx
                have hq48 := HQ48.out j
                clear hx
                go_wp2_with fail
                go_loopw [15] (fun s15 wx => ∃ l : Nat, l ≤ (Q j).length ∧ s15 = .int .i64 l ∧ Hid (Fx EOt 51 40 B wx (.slice pv N pc) vs (rowC Q j l) ∧ Below B Wb wx)) (fun s15 _ => (Q j).length - (RowKit.intOf s15).toNat)
                case atStart => exact ⟨0, Nat.zero_le _, rfl, HI.out⟩
                case round =>
                  clear HI
                  obtain ⟨l, hl, rfl, HI⟩ := hrel
                  obtain ⟨b1, o1, c1, e1, z1, x1⟩ := ls_atL (owns_ls (E := EL) HI.out.1.row) HX.out
                  simp only [Value.slice.injEq] at e1
                  obtain ⟨rfl, -, rfl⟩ := e1
                  have hrow := HI.out.1.each j x HX.out
                  have hxm := (owns_caps hrow _ _ _ rfl).1
                  rw [rowC_len hl] at hxm hrow
                  rw [rowC_self] at hrow
                  have HRW := hid hrow
                  clear hrow
                  obtain ⟨xq, xm, xc⟩ := x
                  simp only [LV.v] at x1 HRW
                  simp only at hxm
                  subst hxm
                  by_cases hll : l < (Q j).length
                  · have hllz : (l : Int) < ((Q j).length : Int) := by omega
                    have hl0 : (0 : Int) ≤ (l : Int) := by omega
                    obtain ⟨o, ho⟩ : ∃ o, (fillL j (Q j) l)[l]? = some o := ⟨(fillL j (Q j) l)[l]'(by rw [fillL_len (by omega)]; exact hll), by simp⟩
                    obtain ⟨g, cur, hq, hg⟩ : ∃ g cur, xq = some ⟨g, 0, none⟩ ∧ wr.heap[g]? = some (.cells cur 51 (0, 0)) := by
                      rcases HRW.out.2 with ⟨h0, _⟩ | ⟨g, cap, cur, hv, _, hh, _⟩
                      · simp only [Value.slice.injEq] at h0
                        omega
                      · simp only [Value.slice.injEq] at hv
                        exact ⟨g, cur, hv.1, hh⟩
                    subst hq
                    have hfz := (tk_store hg).2
                    have hgl := tk_lt hg
                    obtain ⟨-, y0, y1, y2, y3, y4, y5, y6⟩ := ls_atOt (owns_ls (E := EOt) (show wr.ownsRow B 51 EOt.k (.slice (some ⟨g, 0, none⟩) (Q j).length xc) (fillL j (Q j) l).length (fl EOt (fillL j (Q j) l)) by rw [fillL_len (by omega)]; exact HRW.out)) ho
                    simp only [Nat.add_assoc, Nat.reduceAdd] at y2 y3 y4 y5 y6
                    have FIN : Hid (Fx EOt 51 40 B (((((((wr.setCell ⟨g, l * 7, none⟩ (.int .i64 (-1 - (j : Int)))).setCell ⟨g, l * 7 + 1, none⟩ (.int .i64 0)).setCell ⟨g, l * 7 + 2, none⟩ (.int .u64 0)).setCell ⟨g, l * 7 + 3, none⟩ (.int .u64 0)).setCell ⟨g, l * 7 + 4, none⟩ (.int .u64 0)).setCell ⟨g, l * 7 + 5, none⟩ (.int .u64 0)).setCell ⟨g, l * 7 + 6, none⟩ (.int .u64 0)) (.slice (some ⟨b1, o1, none⟩) N pc) vs (rowC Q j (l + 1)) ∧ Below B Wb (((((((wr.setCell ⟨g, l * 7, none⟩ (.int .i64 (-1 - (j : Int)))).setCell ⟨g, l * 7 + 1, none⟩ (.int .i64 0)).setCell ⟨g, l * 7 + 2, none⟩ (.int .u64 0)).setCell ⟨g, l * 7 + 3, none⟩ (.int .u64 0)).setCell ⟨g, l * 7 + 4, none⟩ (.int .u64 0)).setCell ⟨g, l * 7 + 5, none⟩ (.int .u64 0)).setCell ⟨g, l * 7 + 6, none⟩ (.int .u64 0))) := by
                      obtain ⟨h1, h2⟩ := owns_ot HRW.out ho (mo j)
                      rw [fillL_set hll] at h1
                      have h1' : (((((((wr.setCell ⟨g, l * 7, none⟩ (.int .i64 (-1 - (j : Int)))).setCell ⟨g, l * 7 + 1, none⟩ (.int .i64 0)).setCell ⟨g, l * 7 + 2, none⟩ (.int .u64 0)).setCell ⟨g, l * 7 + 3, none⟩ (.int .u64 0)).setCell ⟨g, l * 7 + 4, none⟩ (.int .u64 0)).setCell ⟨g, l * 7 + 5, none⟩ (.int .u64 0)).setCell ⟨g, l * 7 + 6, none⟩ (.int .u64 0)).ownsRow B 51 7 (.slice (some ⟨g, 0, none⟩) (Q j).length xc) (fillL j (Q j) (l + 1)).length (fl EOt (fillL j (Q j) (l + 1))) := by
                        rw [fillL_len (by omega)]
                        exact h1
                      have h2' : Kp (fun q => q = g) wr (((((((wr.setCell ⟨g, l * 7, none⟩ (.int .i64 (-1 - (j : Int)))).setCell ⟨g, l * 7 + 1, none⟩ (.int .i64 0)).setCell ⟨g, l * 7 + 2, none⟩ (.int .u64 0)).setCell ⟨g, l * 7 + 3, none⟩ (.int .u64 0)).setCell ⟨g, l * 7 + 4, none⟩ (.int .u64 0)).setCell ⟨g, l * 7 + 5, none⟩ (.int .u64 0)).setCell ⟨g, l * 7 + 6, none⟩ (.int .u64 0)) := h2
                      have hK : Kp (fun q => (LV.v ⟨some ⟨g, 0, none⟩, (Q j).length, xc⟩).ownBlock = some q) wr (((((((wr.setCell ⟨g, l * 7, none⟩ (.int .i64 (-1 - (j : Int)))).setCell ⟨g, l * 7 + 1, none⟩ (.int .i64 0)).setCell ⟨g, l * 7 + 2, none⟩ (.int .u64 0)).setCell ⟨g, l * 7 + 3, none⟩ (.int .u64 0)).setCell ⟨g, l * 7 + 4, none⟩ (.int .u64 0)).setCell ⟨g, l * 7 + 5, none⟩ (.int .u64 0)).setCell ⟨g, l * 7 + 6, none⟩ (.int .u64 0)) := h2'.mono (fun q e => by subst e; rfl)
                      refine ⟨(HI.out.1.turn (by decide) HX.out (l := fillL j (Q j) (l + 1)) h1' hK).re (fun r _ => ?_), HI.out.2.trans (h2'.below (HEN.out _ HI.out.2).2 (fun q e => by rw [e]; exact (owns_rd HRW.out g rfl).1))⟩
                      by_cases e : r = j
                      · subst e
                        simp only [if_true, rowC_self]
                      · simp only [if_neg e]
                        unfold rowC
                        simp only [if_neg e]
                    clear hg
                    go_wp2_with fail
                    clear y0 y1 y2 y3 y4 y5 y6 hfz hgl
                    generalize (((((((wr.setCell ⟨g, l * 7, none⟩ (.int .i64 (-1 - (j : Int)))).setCell ⟨g, l * 7 + 1, none⟩ (.int .i64 0)).setCell ⟨g, l * 7 + 2, none⟩ (.int .u64 0)).setCell ⟨g, l * 7 + 3, none⟩ (.int .u64 0)).setCell ⟨g, l * 7 + 4, none⟩ (.int .u64 0)).setCell ⟨g, l * 7 + 5, none⟩ (.int .u64 0)).setCell ⟨g, l * 7 + 6, none⟩ (.int .u64 0)) = wn at FIN ⊢
                    go_roundw
                    case rel => exact ⟨l + 1, by omega, by first | rfl | go_num, FIN.out⟩
                    case measure => simp [RowKit.intOf]; omega
                  · have hllz : ¬ (l : Int) < ((Q j).length : Int) := by omega
                    have hle : l = (Q j).length := by omega
                    subst hle
                    have F9 : Hid (Fx EOt 51 40 B wr (.slice (some ⟨b1, o1, none⟩) N pc) vs (rowC Q (j + 1) 0) ∧ Below B Wb wr) := ⟨HI.out.1.re (fun r _ => rowC_next), HI.out.2⟩
                    go_wp2
                    go_roundw
                    case rel => exact ⟨j + 1, by omega, by first | rfl | go_num, F9.out⟩
                    case measure => simp [RowKit.intOf]; omega
              · have hjlz : ¬ (j : Int) < (N : Int) := by omega
                have hje : j = N := by omega
                subst hje
                obtain ⟨Lf, hLf⟩ : ∃ L : Nat → List Ot, L = fun r => List.replicate (Q r).length (mo r) := ⟨_, rfl⟩
                have HLF : Hid (∀ r, Lf r = List.replicate (Q r).length (mo r)) := fun r => by rw [hLf]
                have HLL : Hid (∀ r, (Lf r).length ≤ 48) := fun r => by rw [HLF.out r, List.length_replicate]; exact HQ48.out r
                have HF2 : Hid (Fx EOt 51 40 B wr (.slice pv j pc) vs Lf ∧ Below B Wb wr) := ⟨HI.out.1.re (fun r hr => by
                  rw [HLF.out r]
                  unfold rowC
                  rw [if_pos (by have := HVL.out; omega), fillL_all]), HI.out.2⟩
                obtain ⟨Wd, hWd⟩ : ∃ W, W = wr := ⟨_, rfl⟩
                subst hWd
                go_upto_region 30 with fail
                clear HI hjlz hjl hj hLf
                generalize j = N at *
                go_wp2_with fail
                go_loopw [16] (fun s16 wx => ∃ j : Nat, j ≤ N ∧ s16 = .int .i64 j ∧ Hid (Fx EOt 51 40 B wx (.slice pv N pc) vs Lf ∧ Below B Wb wx)) (fun s16 _ => N - (RowKit.intOf s16).toNat)
                case atStart => exact ⟨0, Nat.zero_le _, rfl, HF2.out⟩
                case round =>
                  clear HF2
                  obtain ⟨j, hj, rfl, HI⟩ := hrel
                  by_cases hjl : j < N
                  · have hjlz : (j : Int) < (N : Int) := by omega
                    have hj0 : (0 : Int) ≤ (j : Int) := by omega
                    obtain ⟨x, hx⟩ : ∃ x, vs[j]? = some x := ⟨vs[j]'(by have := HVL.out; omega), by simp⟩
                    obtain ⟨b1, o1, c1, e1, z1, x1⟩ := ls_atL (owns_ls (E := EL) HI.out.1.row) hx
                    simp only [Value.slice.injEq] at e1
                    obtain ⟨rfl, -, rfl⟩ := e1
                    have HRW := hid (HI.out.1.each j x hx)
                    have HX := hid hx
                    have hl48 := HLL.out j
                    obtain ⟨xq, xm, xc⟩ := x
                    simp only [LV.v] at x1 HRW
                    clear hx
                    go_wp2_with (at_builtin; refine wpAppR Try.underlying40 infoOt rfl _ _ rfl B _ (Lf j).length (fl EOt (Lf j)) rfl HRW.out 3 rfl (by decide) (by omega) (by unfold maxLen; omega) _ rfl rfl _ ?_)
                    intro v9 w9 hsb hro
                    have F9 : Hid (Fx EOt 51 40 B w9 (.slice (some ⟨b1, o1, none⟩) N pc) vs Lf ∧ Below B Wb w9) := by
                      refine ⟨(HI.out.1.turn (by decide) HX.out (l := Lf j) hro hsb.kp).re (fun r _ => ?_), HI.out.2.trans (hsb.kp.below (HEN.out _ HI.out.2).2 (fun q e => (owns_rd HRW.out q e).1))⟩
                      by_cases e : r = j
                      · simp only [e, if_true]
                      · simp only [if_neg e]
                    clear hsb hro x1 z1
                    go_wp2
                    go_roundw
                    case rel => exact ⟨j + 1, by omega, by first | rfl | go_num, F9.out⟩
                    case measure => simp [RowKit.intOf]; omega
                  · have hjlz : ¬ (j : Int) < (N : Int) := by omega
                    have HF3 : Hid (Fx EOt 51 40 B wr (.slice pv N pc) vs Lf ∧ Below B Wb wr) := HI.out
                    obtain ⟨We, hWe⟩ : ∃ W, W = wr := ⟨_, rfl⟩
                    subst hWe
                    go_upto_region 34 with fail
                    clear HI hjlz hjl hj
                    go_wp2_with fail
                    go_loopw [17, 18] (fun s17 _ wx => ∃ j : Nat, j ≤ N ∧ s17 = .int .i64 j ∧ wx = We) (fun s17 _ _ => N - (RowKit.intOf s17).toNat)
                    case atStart => exact ⟨0, Nat.zero_le _, rfl, rfl⟩
                    case round =>
                      obtain ⟨j, hj, rfl, hwe⟩ := hrel
                      subst hwe
                      by_cases hjl : j < N
                      · have hjlz : (j : Int) < (N : Int) := by omega
                        have hj0 : (0 : Int) ≤ (j : Int) := by omega
                        obtain ⟨x, hx⟩ : ∃ x, vs[j]? = some x := ⟨vs[j]'(by have := HVL.out; omega), by simp⟩
                        obtain ⟨b1, o1, c1, e1, z1, x1⟩ := ls_atL (owns_ls (E := EL) HF3.out.1.row) hx
                        simp only [Value.slice.injEq] at e1
                        obtain ⟨rfl, -, rfl⟩ := e1
                        have HRW := hid (HF3.out.1.each j x hx)
                        have hxm := (owns_caps HRW.out _ _ _ rfl).1
                        have hl48 := HLL.out j
                        obtain ⟨xq, xm, xc⟩ := x
                        simp only [LV.v] at x1 HRW
                        simp only at hxm
                        subst hxm
                        clear hx
                        go_wp2_with fail
                        go_loopw [18] (fun s18 wx => ∃ l : Nat, l ≤ (Lf j).length ∧ s18 = .int .i64 l ∧ wx = wr) (fun s18 _ => (Lf j).length - (RowKit.intOf s18).toNat)
                        case atStart => exact ⟨0, Nat.zero_le _, rfl, rfl⟩
                        case round =>
                          obtain ⟨l, hl, rfl, hwe⟩ := hrel
                          subst hwe
                          by_cases hll : l < (Lf j).length
                          · have hllz : (l : Int) < ((Lf j).length : Int) := by omega
                            have hl0 : (0 : Int) ≤ (l : Int) := by omega
                            have ho : (Lf j)[l]? = some (mo j) := by
                              rw [HLF.out j, List.getElem?_replicate, if_pos (by have h := hll; rw [HLF.out j, List.length_replicate] at h; exact h)]
                            obtain ⟨g, hq⟩ : ∃ g, xq = some ⟨g, 0, none⟩ := by
                              rcases HRW.out.2 with ⟨h0, _⟩ | ⟨g, cap, cur, hv, _⟩
                              · simp only [Value.slice.injEq] at h0
                                omega
                              · simp only [Value.slice.injEq] at hv
                                exact ⟨g, hv.1⟩
                            subst hq
                            obtain ⟨hgl, y9, -⟩ := ls_atOt (owns_ls (E := EOt) HRW.out) ho
                            have y0 : wr.cell? ⟨g, l * 7, none⟩ = some (.int .i64 (-1 - (j : Int))) := y9
                            clear ho y9
                            go_wp2
                            go_roundw
                            case rel => exact ⟨l + 1, by omega, by first | rfl | go_num, by first | rfl | trivial⟩
                            case measure => simp [RowKit.intOf]; omega
                          · have hllz : ¬ (l : Int) < ((Lf j).length : Int) := by omega
                            go_wp2
                            go_roundw
                            case rel => exact ⟨j + 1, by omega, by first | rfl | go_num, by first | rfl | trivial⟩
                            case measure => simp [RowKit.intOf]; omega
                      · have hjlz : ¬ (j : Int) < (N : Int) := by omega
                        go_wp2
                        go_ret
                        exact ⟨rfl, (HEN.out _ HF3.out.2).1⟩
end Go.Proofs.Ytifjjnnpoleinaa.Df
