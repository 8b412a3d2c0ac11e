import Derived.Test.YtnmcpedldphgjaaQuPut0
import Derived.Shelf.SlSortCmp.QuietGrown
namespace Go.Proofs.Ytnmcpedldphgjaa.Qe
open Go.RowKit Go.Sort Go.Shelf
attribute [local go_sem ↓] Go.wp_at_zero Go.wp_at_succ

set_option maxHeartbeats 1000000 in
theorem told_any (a b : Tq) (h : tl a b = true) (w : World) : Calls Try.prog 15 #[.agg #[.int .u64 a.1, .int .u64 a.2.1, .int .u64 a.2.2], .agg #[.int .u64 b.1, .int .u64 b.2.1, .int .u64 b.2.2]] w fun e w' => e = .returned (.bool true) ∧ Gr w w' := by
  rw [tl_iff] at h
  by_cases h1 : a.1 = b.1
  · have g1 : (a.1 != b.1) = false := by simp [h1]
    by_cases h2 : a.2.1 = b.2.1
    · have g2 : (a.2.1 != b.2.1) = false := by simp [h2]
      have h3 : a.2.2 < b.2.2 := by omega
      clear h h1 h2
      go_enter Try.func15, Try.ntmps15
      go_wp2
      go_ret
      exact ⟨rfl, ((Gr.refl _).alloc _).alloc _⟩
    · have g2 : (a.2.1 != b.2.1) = true := by simp [h2]
      have h3 : a.2.1 < b.2.1 := by omega
      clear h h1 h2
      go_enter Try.func15, Try.ntmps15
      go_wp2
      go_ret
      exact ⟨rfl, ((Gr.refl _).alloc _).alloc _⟩
  · have g1 : (a.1 != b.1) = true := by simp [h1]
    have h3 : a.1 < b.1 := by omega
    clear h h1
    go_enter Try.func15, Try.ntmps15
    go_wp2
    go_ret
    exact ⟨rfl, ((Gr.refl _).alloc _).alloc _⟩
/-- What the first loop holds. -/
def Lp (w : World) (qb : Nat) (l : List Ms) (i n : Nat) (W : World) : Prop := Pq W (fun k => w.heap.size ≤ k) qb 192 i (qs (l.take i)) ∧ n = nv 192 (l.take i) ∧ Below w.heap.size w W
theorem Lp.put {w W W' : World} {qb : Nat} {l : List Ms} {i n : Nat} {x : Ms} (h : Lp w qb l i n W) (hx : l[i]? = some x) (hP : Pq W' (nx (fun k => w.heap.size ≤ k) W W') qb 192 (i + 1) (ptn 192 (qs (l.take i)) x)) (hk : Kp (fun k => w.heap.size ≤ k) W W') : Lp w qb l (i + 1) (n + if Plc 192 x.at_ then 1 else 0) W' := by
  obtain ⟨hi, rfl⟩ := List.getElem?_eq_some_iff.1 hx
  refine ⟨(hP.mono (fun k _ hk => hk.elim id (fun h2 => Nat.le_trans h.2.2.size h2.1)) (Nat.le_refl _)).ext (fun p hp => ?_), ?_, h.2.2.trans (hk.below h.2.2.size (fun k h => h))⟩
  · rw [List.take_succ_eq_append_getElem hi]
    exact qs_put p hp
  · rw [List.take_succ_eq_append_getElem hi, nv_snoc, ← h.2.1]
set_option maxHeartbeats 8000000 in
set_option maxRecDepth 100000 in
theorem queueCounts_any {v : Value} {l : List Ms} (w : World) (hv : Ls EM w v l) (hl : l.length * 48 ≤ 140737488355328) : Calls Try.prog 4 #[v] w fun e w' => e = .returned (.bool true) ∧ Below w.heap.size w w' := by
  have hmx : Try.prog.follows .mixedOrders = true := by kernel_rfl
  have heq := fun a b c x y z W => run_eqT a b c x y z W
  have hnew := new_any 192 w (by decide)
  obtain ⟨p, c, rfl⟩ := hv.form
  obtain ⟨n, hn⟩ : ∃ n, n = l.length := ⟨_, rfl⟩
  rw [← hn] at hl ⊢
  have HV : Hid (Ls EM w (.slice p n c) l) := by rw [hn]; exact hv
  have HN := hid hn
  have HL := hid hl
  have hnb : n ≤ 2932031007402 := by omega
  clear hv hn hl
  go_enter Try.func4, Try.ntmps4
  go_wp2_with fail
  refine hnew.mono ?_
  rintro e w1 ⟨qb, rfl, h1⟩
  have HW1 := hid (And.intro h1.out.2.1 h1.out.2.2)
  have hkn := known_any w1
  clear h1 hnew
  go_wp2_with fail
  refine hkn.mono ?_
  rintro e w2 ⟨rfl, hB2⟩
  have HST : Hid (Lp w qb l 0 0 w2) := ⟨(HW1.out.1.below hB2).mono (fun k _ h => h) (Nat.le_refl _), rfl, HW1.out.2.trans (hB2.mono HW1.out.2.size)⟩
  clear hB2 hkn HW1
  go_wp2_with fail
  go_loopw [5, 6] (fun s5 s6 wr => ∃ i k : Nat, i ≤ n ∧ k ≤ n ∧ s6 = .int .i64 (i : Nat) ∧ s5 = .int .i64 (k : Nat) ∧ Hid (Lp w qb l i k wr)) (fun _ s6 _ => n - (RowKit.intOf s6).toNat)
  case atStart => exact ⟨0, 0, Nat.zero_le _, Nat.zero_le _, rfl, rfl, HST.out⟩
  case round =>
    clear HST
    obtain ⟨i, k, hi, hk, rfl, rfl, HC⟩ := hrel
    by_cases hlt : i < n
    · have hz : (i : Int) < (n : Int) := by omega
      have hi0 : (0 : Int) ≤ (i : Int) := by omega
      obtain ⟨x, hx⟩ : ∃ x, l[i]? = some x := ⟨l[i]'(by have := HN.out; omega), by simp⟩
      obtain ⟨b1, o1, q1, e1, l1, y0, y1, y2, y3, y4, y5⟩ := ls_at (HV.out.below HC.out.2.2) hx
      simp only [Value.slice.injEq] at e1
      obtain ⟨rfl, -, rfl⟩ := e1
      have HX := hid hx
      have HKN : Hid (k + (if Plc 192 x.at_ then 1 else 0) ≤ n) := by
        have h1 := nv_le 192 (l.take (i + 1))
        obtain ⟨hi', hxe⟩ := List.getElem?_eq_some_iff.1 hx
        rw [List.take_succ_eq_append_getElem hi', nv_snoc, ← HC.out.2.1, hxe] at h1
        rw [List.length_append, List.length_take, List.length_singleton] at h1
        show _ ≤ _
        omega
      have hpt := put_any x wr HC.out.1 (by omega)
      clear hx
      by_cases hP : Plc 192 x.at_
      · rw [show pe 192 x.at_ = 0 by unfold pe; rw [if_pos hP]] at hpt
        rw [if_pos hP] at HKN
        have HP := hid hP
        clear hP
        go_wp2_with fail
        refine hpt.mono ?_
        rintro e w3 ⟨rfl, h3⟩
        have H3 := hid (HC.out.put HX.out h3.out.1 h3.out.2)
        rw [if_pos HP.out] at H3
        clear h3 hpt
        go_wp2_with fail
        go_roundw
        case rel => exact ⟨i + 1, k + 1, hlt, HKN.out, by simp, by simp, H3.out⟩
        case measure => simp [RowKit.intOf]; omega
      · rw [show pe 192 x.at_ = 42 by unfold pe; rw [if_neg hP]] at hpt
        have HP := hid hP
        clear hP HKN
        go_wp2_with fail
        refine hpt.mono ?_
        rintro e w3 ⟨rfl, h3⟩
        have H3 := hid (HC.out.put HX.out h3.out.1 h3.out.2)
        rw [if_neg HP.out] at H3
        clear h3 hpt
        go_wp2_with fail
        go_roundw
        case rel => exact ⟨i + 1, k, hlt, hk, by simp, rfl, H3.out⟩
        case measure => simp [RowKit.intOf]; omega
    · have hz : ¬ ((i : Int) < (n : Int)) := by omega
      have hin : i = n := by omega
      subst hin
      obtain ⟨Q, hQ⟩ : ∃ Q, Q = qs l := ⟨_, rfl⟩
      have hlp := HC.out
      unfold Lp at hlp
      rw [show l.take i = l by rw [HN.out]; exact List.take_length, ← hQ] at hlp
      have htot : tot 192 Q = k := by rw [hQ, tot_qs]; exact hlp.2.1.symm
      have HQ := hid hQ
      have hcn := counts_any wr hlp.1 (by omega) (by rw [htot]; omega)
      have HTT := hid htot
      have HPQ := hid hlp.1
      have HBW := hid hlp.2.2
      obtain ⟨cs, hcs⟩ : ∃ cs, cs = ctsTo Q 192 := ⟨_, rfl⟩
      rw [← hcs] at hcn
      have HCS := hid hcs
      have HCL : Hid (cs.length ≤ i) := by
        have h1 := ctsTo_len Q 192
        rw [← hcs] at h1
        have h2 : sumTo (fun i => (Q i).length) 192 = k := htot
        show _ ≤ _
        omega
      clear hQ hlp htot hcs HC
      go_wp2_with fail
      refine hcn.mono ?_
      rintro e w4 ⟨u, rfl, ⟨q, c4, rfl⟩, h4⟩
      have HLC : Hid (Ls EC w4 (.slice q cs.length c4) cs) := owns_ls (E := EC) h4.out.1
      have HP4 := hid (HPQ.out.below h4.out.2)
      have HB4 := hid (HBW.out.trans (h4.out.2.mono HBW.out.size))
      obtain ⟨nc, hnc⟩ : ∃ nc, nc = cs.length := ⟨_, rfl⟩
      rw [← hnc] at HLC HCL ⊢
      have HNC := hid hnc
      have hncb : nc ≤ 2932031007402 := Nat.le_trans HCL.out hnb
      clear h4 hcn hnc
      go_wp2_with fail
      go_loopw [8, 9] (fun s8 s9 wr => ∃ j t : Nat, j ≤ nc ∧ t ≤ 2932031007402 ∧ s9 = .int .i64 (j : Nat) ∧ s8 = .int .i64 (t : Nat) ∧ Hid ((t : Int) = ((cs.take j).map Cg.n).sum) ∧ Hid (Below w4.heap.size w4 wr)) (fun _ s9 _ => nc - (RowKit.intOf s9).toNat)
      case atStart => exact ⟨0, 0, Nat.zero_le _, Nat.zero_le _, rfl, rfl, rfl, (Gr.refl _).below⟩
      case round =>
        obtain ⟨j, t, hj, ht, rfl, rfl, HT, HG⟩ := hrel
        by_cases hjl : j < nc
        · have hjz : (j : Int) < (nc : Int) := by omega
          have hj0 : (0 : Int) ≤ (j : Int) := by omega
          obtain ⟨x, hx⟩ : ∃ x, cs[j]? = some x := ⟨cs[j]'(by have := HNC.out; omega), by simp⟩
          obtain ⟨b1, o1, q1, e1, l1, y0, y1, y2, y3, y4⟩ := lc_at (HLC.out.below HG.out) hx
          simp only [Value.slice.injEq] at e1
          obtain ⟨rfl, -, rfl⟩ := e1
          have HX := hid hx
          clear hx
          go_upto_region 16 with fail
          obtain ⟨W5, hW5⟩ : ∃ W5, W5 = wr.alloc (.cells #[.int .i64 x.at_, .int .u64 x.a, .int .u64 x.b, .int .u64 x.c] 49) := ⟨_, rfl⟩
          obtain ⟨b5, hb5⟩ : ∃ b5, b5 = wr.heap.size := ⟨_, rfl⟩
          rw [← hW5, ← hb5]
          have G5 : Gr wr W5 := by rw [hW5]; exact (Gr.refl _).alloc _
          have hbk : W5.heap[b5]? = some (.cells #[.int .i64 x.at_, .int .u64 x.a, .int .u64 x.b, .int .u64 x.c] 49 (0, 0)) := by rw [hW5, hb5]; exact heap_new' _ _
          have t0 : W5.cell? ⟨b5, 0, none⟩ = some (.int .i64 x.at_) := by simp [World.cell?, hbk]
          have t1 : W5.cell? ⟨b5, 1, none⟩ = some (.int .u64 x.a) := by simp [World.cell?, hbk]
          have t2 : W5.cell? ⟨b5, 2, none⟩ = some (.int .u64 x.b) := by simp [World.cell?, hbk]
          have t3 : W5.cell? ⟨b5, 3, none⟩ = some (.int .u64 x.c) := by simp [World.cell?, hbk]
          have l5 : b5 < W5.heap.size := (Array.getElem?_eq_some_iff.1 hbk).1
          have HG5 := hid G5
          have HB5 := hid (HG.out.trans (G5.below.mono HG.out.size))
          clear hW5 hb5 hbk G5 y0 y1 y2 y3
          go_cut [93] from 55 to 93 (fun s93 w' => s93 = .bool false ∧ Hid (Gr W5 w'))
          case first =>
            by_cases hE : j = 0
            · subst hE
              go_quiet (fail)
              go_wp2_with fail
              go_meet
              exact ⟨rfl, (Gr.refl _).drewN _⟩
            · obtain ⟨j', hj'⟩ : ∃ j', j = j' + 1 := ⟨j - 1, by omega⟩
              subst hj'
              obtain ⟨z, hzj⟩ : ∃ z, cs[j']? = some z := ⟨cs[j']'(by have := HNC.out; omega), by simp⟩
              have hcl : cl z x := by
                obtain ⟨i1, e1⟩ := List.getElem?_eq_some_iff.1 hzj
                obtain ⟨i2, e2⟩ := List.getElem?_eq_some_iff.1 HX.out
                have h1 := cts_sorted Q 192
                rw [← HCS.out] at h1
                have h2 := List.pairwise_iff_getElem.1 h1 j' (j' + 1) i1 i2 (by omega)
                rw [e1, e2] at h2
                exact h2
              obtain ⟨b', o', c', e1, lz, z0, z1, z2, z3, z4⟩ := lc_at (HLC.out.below HB5.out) hzj
              simp only [Value.slice.injEq, Option.some.injEq, Addr.mk.injEq] at e1
              obtain ⟨⟨rfl, rfl, -⟩, -, -⟩ := e1
              have hj1 : (0 : Int) < (j' : Int) + 1 := by omega
              have hj2 : (0 : Int) ≤ (j' : Int) := by omega
              have hj3 : (j' : Int) < (nc : Int) := by omega
              clear hE hzj
              unfold cl at hcl
              by_cases hA : z.at_ < x.at_
              · clear hcl z1 z2 z3 z4
                go_quiet (fail)
                go_wp2_with fail
                go_meet
                exact ⟨rfl, (Gr.refl _).drewN _⟩
              · have hAE : z.at_ = x.at_ := by omega
                have hAb : (z.at_ == x.at_) = true := by simp [hAE]
                have hto := fun W => told_any (z.a, z.b, z.c) (x.a, x.b, x.c) (hcl.resolve_left hA).2 W
                simp only at hto
                have gt : ∀ nn oo, (grow (W5.drewN nn) oo).cell? ⟨b5, 0, none⟩ = some (.int .i64 x.at_) ∧ (grow (W5.drewN nn) oo).cell? ⟨b5, 1, none⟩ = some (.int .u64 x.a) ∧ (grow (W5.drewN nn) oo).cell? ⟨b5, 2, none⟩ = some (.int .u64 x.b) ∧ (grow (W5.drewN nn) oo).cell? ⟨b5, 3, none⟩ = some (.int .u64 x.c) := fun nn oo => ⟨((((Gr.refl W5).drewN nn).grown oo).cell l5).trans t0, ((((Gr.refl W5).drewN nn).grown oo).cell l5).trans t1, ((((Gr.refl W5).drewN nn).grown oo).cell l5).trans t2, ((((Gr.refl W5).drewN nn).grown oo).cell l5).trans t3⟩
                have gz : ∀ nn oo, (grow (W5.drewN nn) oo).cell? ⟨b1, o1 + j' * 5, none⟩ = some (.int .i64 z.at_) ∧ (grow (W5.drewN nn) oo).cell? ⟨b1, o1 + j' * 5 + 1, none⟩ = some (.int .u64 z.a) ∧ (grow (W5.drewN nn) oo).cell? ⟨b1, o1 + j' * 5 + 2, none⟩ = some (.int .u64 z.b) ∧ (grow (W5.drewN nn) oo).cell? ⟨b1, o1 + j' * 5 + 3, none⟩ = some (.int .u64 z.c) := fun nn oo => ⟨((((Gr.refl W5).drewN nn).grown oo).cell lz).trans z0, ((((Gr.refl W5).drewN nn).grown oo).cell lz).trans z1, ((((Gr.refl W5).drewN nn).grown oo).cell lz).trans z2, ((((Gr.refl W5).drewN nn).grown oo).cell lz).trans z3⟩
                have gt0 := fun nn oo => (gt nn oo).1
                have gt1 := fun nn oo => (gt nn oo).2.1
                have gt2 := fun nn oo => (gt nn oo).2.2.1
                have gt3 := fun nn oo => (gt nn oo).2.2.2
                have gz0 := fun nn oo => (gz nn oo).1
                have gz1 := fun nn oo => (gz nn oo).2.1
                have gz2 := fun nn oo => (gz nn oo).2.2.1
                have gz3 := fun nn oo => (gz nn oo).2.2.2
                have hjw : IntKind.i64.wrap ((j' : Int) + 1 - 1) = (j' : Int) := by rw [show (j' : Int) + 1 - 1 = (j' : Int) by omega]; exact (Go.IntWalk.i64_left _).trans (Go.IntWalk.wrap64_in _ ⟨by omega, by omega⟩)
                have hjw2 : IntKind.i64.wrap (j' : Int) = (j' : Int) := (Go.IntWalk.i64_left _).trans (Go.IntWalk.wrap64_in _ ⟨by omega, by omega⟩)
                clear hcl gt gz hAE z4
                go_quiet_grown (first | (go_at_call 15; refine Calls.grown_of (v := .bool true) (hto _)))
                go_wp2_with fail
                go_meet
                exact ⟨rfl, ((Gr.refl _).drewN _).grown _⟩
          case rest =>
            obtain ⟨rfl, HG6⟩ := hcut
            have u0 := (HG6.out.cell l5).trans t0
            have u1 := (HG6.out.cell l5).trans t1
            have u2' := (HG6.out.cell l5).trans t2
            have u3 := (HG6.out.cell l5).trans t3
            have l6 := Nat.lt_of_lt_of_le l5 HG6.out.size
            have HB6 := hid (HB5.out.trans (HG6.out.below.mono HB5.out.size))
            have v4 := ((HG5.out.trans HG6.out).cell l1).trans y4
            have l1' := Nat.lt_of_lt_of_le l1 (HG5.out.trans HG6.out).size
            have HVW := hid (HV.out.below (HB4.out.trans (HB6.out.mono HB4.out.size)))
            have HM0 : Hid ((0 : Nat) = hm (l.take 0) x.at_ (x.a, x.b, x.c)) := rfl
            clear t0 t1 t2 t3 y4
            go_wp2_with fail
            go_loopw [11, 12] (fun s11 s12 wr2 => ∃ m k2 : Nat, m ≤ i ∧ k2 ≤ m ∧ s12 = .int .i64 (m : Nat) ∧ s11 = .int .i64 (k2 : Nat) ∧ Hid (k2 = hm (l.take m) x.at_ (x.a, x.b, x.c)) ∧ Hid (Gr wc wr2)) (fun _ s12 _ => i - (RowKit.intOf s12).toNat)
            case atStart => exact ⟨0, 0, Nat.zero_le _, Nat.zero_le _, rfl, rfl, rfl, Gr.refl _⟩
            case round =>
              obtain ⟨m, k2, hm1, hkm, rfl, rfl, HK2, HGr⟩ := hrel
              have r0 := (HGr.out.cell l6).trans u0
              have r1 := (HGr.out.cell l6).trans u1
              have r2 := (HGr.out.cell l6).trans u2'
              have r3 := (HGr.out.cell l6).trans u3
              have l7 := Nat.lt_of_lt_of_le l6 HGr.out.size
              by_cases hml : m < i
              · have hmz : (m : Int) < (i : Int) := by omega
                have hm0 : (0 : Int) ≤ (m : Int) := by omega
                obtain ⟨y, hy⟩ : ∃ y, l[m]? = some y := ⟨l[m]'(by have := HN.out; omega), by simp⟩
                obtain ⟨b7, o7, q7, e7, ly, y0, y1, y2, y3, y4, y5⟩ := ls_at (HVW.out.below HGr.out.below) hy
                simp only [Value.slice.injEq] at e7
                obtain ⟨rfl, -, rfl⟩ := e7
                have HNX := hid (hm_next hy x.at_ (x.a, x.b, x.c))
                clear hy
                by_cases hP : y.at_ = x.at_
                · have hPb : (y.at_ == x.at_) = true := by simp [hP]
                  by_cases hT : tmo y = (x.a, x.b, x.c)
                  · have hte : teq y.a y.b y.c x.a x.b x.c = true := by
                      rw [teq_iff]
                      exact ⟨congrArg Prod.fst hT, congrArg (fun q => q.2.1) hT, congrArg (fun q => q.2.2) hT⟩
                    have HE : Hid (hm (l.take (m + 1)) x.at_ (x.a, x.b, x.c) = k2 + 1) := by
                      show _ = _
                      rw [HNX.out, if_pos ⟨hP, hT⟩, ← HK2.out]
                    clear hP hT HNX
                    go_wp2_with fail
                    go_quiet (fail)
                    go_wp2_with fail
                    go_roundw
                    case rel => exact ⟨m + 1, k2 + 1, hml, by omega, by simp, by simp, HE.out.symm, HGr.out.drewN _⟩
                    case measure => simp [RowKit.intOf]; omega
                  · have hte : teq y.a y.b y.c x.a x.b x.c = false := by
                      rw [← Bool.not_eq_true, teq_iff]
                      rintro ⟨h1, h2, h3⟩
                      exact hT (Prod.ext h1 (Prod.ext h2 h3))
                    have HE : Hid (hm (l.take (m + 1)) x.at_ (x.a, x.b, x.c) = k2) := by
                      show _ = _
                      rw [HNX.out, if_neg (fun h => hT h.2), ← HK2.out]
                      rfl
                    clear hP hT HNX
                    go_wp2_with fail
                    go_quiet (fail)
                    go_wp2_with fail
                    go_roundw
                    case rel => exact ⟨m + 1, k2, hml, by omega, by simp, rfl, HE.out.symm, HGr.out.drewN _⟩
                    case measure => simp [RowKit.intOf]; omega
                · have hPb : (y.at_ == x.at_) = false := by simp [hP]
                  have HE : Hid (hm (l.take (m + 1)) x.at_ (x.a, x.b, x.c) = k2) := by
                    show _ = _
                    rw [HNX.out, if_neg (fun h => hP h.1), ← HK2.out]
                    rfl
                  clear hP HNX
                  go_wp2_with fail
                  go_quiet (fail)
                  go_wp2_with fail
                  go_roundw
                  case rel => exact ⟨m + 1, k2, hml, by omega, by simp, rfl, HE.out.symm, HGr.out.drewN _⟩
                  case measure => simp [RowKit.intOf]; omega
              · have hmz : ¬ ((m : Int) < (i : Int)) := by omega
                have hmi : m = i := by omega
                obtain ⟨pp, hpp, g1, g2, g3⟩ := cts_mem (Q := Q) (N := 192) (c := x) (by rw [← HCS.out]; exact List.mem_of_getElem? HX.out)
                have hxn : x.n = (k2 : Nat) := by
                  rw [g3, HQ.out, hm_count, HK2.out, hmi, ← g1]
                  rw [show l.take i = l by rw [HN.out]; exact List.take_length]
                have HSN : Hid (((t + k2 : Nat) : Int) = ((cs.take (j + 1)).map Cg.n).sum) := by
                  obtain ⟨i2, e2⟩ := List.getElem?_eq_some_iff.1 HX.out
                  show _ = _
                  rw [List.take_succ_eq_append_getElem i2, List.map_append, List.sum_append, e2, ← HT.out]
                  simp [hxn]
                have HTB : Hid (t + k2 ≤ 2932031007402) := by
                  show _ ≤ _
                  have h1 := cts_sum Q 192
                  have h2 : sumTo (fun i => (Q i).length) 192 = k := HTT.out
                  rw [← HCS.out, h2] at h1
                  have h3 : ((cs.take (j + 1)).map Cg.n).sum ≤ (cs.map Cg.n).sum := by
                    have h4 : (cs.map Cg.n).sum = ((cs.take (j + 1)).map Cg.n).sum + ((cs.drop (j + 1)).map Cg.n).sum := by
                      rw [← List.sum_append, ← List.map_append, List.take_append_drop]
                    have h5 : 0 ≤ ((cs.drop (j + 1)).map Cg.n).sum := by
                      have : ∀ L : List Cg, (∀ c ∈ L, 0 < c.n) → 0 ≤ (L.map Cg.n).sum := by
                        intro L
                        induction L with
                        | nil => intro _; exact Int.le_refl _
                        | cons c L ih =>
                          intro hc
                          have h6 := ih (fun y hy => hc y (by simp [hy]))
                          have h7 := hc c (by simp)
                          rw [List.map_cons, List.sum_cons]
                          omega
                      refine this _ (fun c hc => ?_)
                      obtain ⟨_, _, _, h8, _⟩ := cts_mem (Q := Q) (N := 192) (c := c) (by rw [← HCS.out]; exact List.mem_of_mem_drop hc)
                      exact h8
                    omega
                  have h9 := HSN.out
                  omega
                have v4' : wr.cell? ⟨b1, o1 + j * 5 + 4, none⟩ = some (.int .i64 (k2 : Nat)) := by rw [← hxn]; exact (HGr.out.cell l1').trans v4
                have l8 := Nat.lt_of_lt_of_le l1' HGr.out.size
                have hk0 : ((k2 : Int) == 0) = false := by
                  have : (0 : Int) < (k2 : Nat) := by rw [← hxn]; exact g2
                  simp
                  omega
                obtain ⟨xa, hxa⟩ : ∃ xa, xa = x.at_ := ⟨_, rfl⟩
                rw [← hxa] at r0
                have hx0 : ¬ (xa < 0) := by omega
                have hx1 : ¬ (191 < xa) := by omega
                have hkb : k2 ≤ 2932031007402 := by omega
                clear v4 hxn hmi g1 g2 g3 hpp hxa u0 u1 u2' u3
                go_wp2_with fail
                go_roundw
                case rel => exact ⟨j + 1, t + k2, hjl, HTB.out, by simp, by simp, HSN.out, HB6.out.trans (HGr.out.below.mono HB6.out.size)⟩
                case measure => simp [RowKit.intOf]; omega
        · have hjz : ¬ ((j : Int) < (nc : Int)) := by omega
          have hjn : j = nc := by omega
          have htk : t = k := by
            have h1 := cts_sum Q 192
            have h2 : sumTo (fun i => (Q i).length) 192 = k := HTT.out
            rw [← HCS.out, h2] at h1
            have h3 := HT.out
            rw [hjn, HNC.out, List.take_length, h1] at h3
            omega
          subst htk
          have htt := total_any wr (HP4.out.below HG.out) (by omega)
          rw [HTT.out] at htt
          go_wp2_with fail
          refine htt.mono ?_
          rintro e w9 ⟨rfl, rfl⟩
          go_wp2
          go_ret
          exact ⟨rfl, HB4.out.trans (HG.out.mono HB4.out.size)⟩
end Go.Proofs.Ytnmcpedldphgjaa.Qe
