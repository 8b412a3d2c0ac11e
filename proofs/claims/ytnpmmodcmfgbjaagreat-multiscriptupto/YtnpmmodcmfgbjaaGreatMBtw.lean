import Derived.Test.YtnpmmodcmfgbjaaGreatJ3
import Derived.Test.YtnpmmodcmfgbjaaGreatCBtw
import Derived.Test.YtnpmmodcmfgbjaaGreatJ6
import Derived.Deep.QuietTactic
import Derived.Deep.Cut
import Derived.BigQuiet
namespace Go.Proofs.YtnpmmodcmfgbjaaGreat
open Go.RowKit Go.Sort Go.Maps
attribute [local go_sem ↓] Go.wp_at_zero Go.wp_at_succ
theorem hidM {p : Prop} (h : p) : Hid p := h
/-- A list without its first, as it lies. -/
theorem ls_rest {w : World} {b off n c : Nat} {x : Tm} {l : List Tm} (h : Lst w (.slice (some ⟨b, off, none⟩) n c) (x :: l)) (hn : n = (x :: l).length) : Lst w (.slice (some ⟨b, off + 3, none⟩) l.length (c - 1)) l ∧ (c = 1 → n ≤ c → Lst w (.slice (some ⟨b, off, none⟩) l.length 0) l) ∧ n - 1 = l.length := by
  refine ⟨?_, fun hc hnc => ?_, by rw [hn]; rfl⟩
  · have := h.tail (k := 1) (c - 1)
    rw [Nat.one_mul] at this
    exact this
  · have hl : l = [] := List.eq_nil_of_length_eq_zero (by rw [hn, List.length_cons] at hnc; omega)
    subst hl
    exact h.void (k := 1) (Nat.le_refl _) 0
set_option maxHeartbeats 4000000 in
set_option maxRecDepth 100000 in
theorem between0_any (v u : Value) (l m : List Tm) (w : World) (hv : Lst w v l) (hu : Lst w u m) (hcv : ∀ p n c, v = .slice p n c → n ≤ c) (hcu : ∀ p n c, u = .slice p n c → n ≤ c) (hl : (l.length + m.length) * 32 ≤ 140737488355328) :
    Calls Tryz.prog 42 #[v, u] w fun e w' => ∃ v', e = .returned v' ∧ w'.ownsRow w.heap.size 54 4 v' (btw tol l m).length (fl ED (btw tol l m)) ∧ Below w.heap.size w w' := by
  have hmx : Tryz.prog.follows .mixedOrders = true := by kernel_rfl
  obtain ⟨pl, cl, rfl⟩ := hv.form
  obtain ⟨pm, cm, rfl⟩ := hu.form
  have hcl := hcv _ _ _ rfl
  have hcm := hcu _ _ _ rfl
  have HV := hidM hv
  have HU := hidM hu
  have HC : Hid (∀ (x y : Tm) (W : World), Calls Tryz.prog 24 #[tv x, tv y] W fun e w' => e = .returned (.int .i64 (tcm x y)) ∧ Gr W w') := fun x y W => Compare_any _ _ _ _ _ _ W
  have hbl : (btw tol l m).length ≤ l.length + m.length := btw_len l m
  clear hv hu hcv hcu
  go_enter Tryz.func42, Tryz.ntmps42
  go_wp2_with fail
  go_loopw [0, 1, 5, 21, 43] (fun s0 s1 s5 _ _ wr => ∃ (l' m' : List Tm) (T : List Dl) (p q : Option Addr) (c d : Nat), s0 = .slice p l'.length c ∧ s1 = .slice q m'.length d ∧ Hid (Lst w (.slice p l'.length c) l' ∧ Lst w (.slice q m'.length d) m' ∧ btw tol l m = T ++ btw tol l' m' ∧ wr.ownsRow w.heap.size 54 4 s5 T.length (fl ED T) ∧ Below w.heap.size w wr) ∧ l'.length + m'.length ≤ l.length + m.length ∧ l'.length ≤ c ∧ m'.length ≤ d) (fun s0 s1 _ _ _ _ => (match s0 with | .slice _ n _ => n | _ => 0) + (match s1 with | .slice _ n _ => n | _ => 0))
  case atStart => exact ⟨l, m, [], pl, pm, cl, cm, rfl, rfl, ⟨HV.out, HU.out, rfl, World.ownsRow_nil _ _ _ _, Below.refl _ _⟩, Nat.le_refl _, hcl, hcm⟩
  case round =>
    obtain ⟨l', m', T, p, q, c, d, rfl, rfl, HI, hlen, hlc, hmc⟩ := hrel
    obtain ⟨pt, mt, ct, ht⟩ : ∃ p m c, u5 = .slice p m c := by
      obtain ⟨_, ⟨h0, _⟩ | ⟨g, cap, cur, h0, _⟩⟩ := HI.out.2.2.2.1
      · exact ⟨_, _, _, h0⟩
      · exact ⟨_, _, _, h0⟩
    subst ht
    have hmt : mt = T.length := by
      obtain ⟨_, ⟨h0, h1⟩ | ⟨g, cap, cur, h0, _⟩⟩ := HI.out.2.2.2.1
      · simp only [Value.slice.injEq] at h0
        omega
      · simp only [Value.slice.injEq] at h0
        exact h0.2.1
    subst hmt
    have HT : Hid (T.length + (btw tol l' m').length ≤ l.length + m.length) := by
      have := hbl
      rw [HI.out.2.2.1, List.length_append] at this
      exact this
    obtain ⟨nl, hnl⟩ : ∃ n, n = l'.length := ⟨_, rfl⟩
    obtain ⟨nm, hnm⟩ : ∃ n, n = m'.length := ⟨_, rfl⟩
    rw [← hnl, ← hnm] at HI hlen
    rw [← hnl] at hlc
    rw [← hnm] at hmc
    rw [← hnl, ← hnm]
    have hwr : IntKind.i64.wrap ((nl : Int) + (nm : Int)) = (nl : Int) + (nm : Int) := by rw [IntKind.wrap_i64]; omega
    have HNL := hidM hnl
    have HNM := hidM hnm
    have hlcz : (nl : Int) ≤ (c : Int) := by omega
    have hmcz : (nm : Int) ≤ (d : Int) := by omega
    cases l' with
    | nil =>
      obtain rfl : nl = 0 := hnl
      cases m' with
      | nil =>
        obtain rfl : nm = 0 := hnm
        have FIN : Hid (wr.ownsRow w.heap.size 54 4 (.slice pt T.length ct) (btw tol l m).length (fl ED (btw tol l m)) ∧ Below w.heap.size w wr) := by
          have e : btw tol l m = T := by rw [HI.out.2.2.1, btw, List.append_nil]
          rw [e]
          exact ⟨HI.out.2.2.2.1, HI.out.2.2.2.2⟩
        go_wp2_with fail
        go_ret
        exact ⟨_, rfl, FIN.out⟩
      | cons b xb =>
        clear hnm
        obtain ⟨b2, o2, c2, e2, z2, y1, y2, y3⟩ := (Ls.below (by have h := HI.out.2.1; rw [HNM.out] at h; exact h) HI.out.2.2.2.2 : Lst wr (.slice q (b :: xb).length d) (b :: xb)).at3 (j := 0) rfl
        simp only [Value.slice.injEq] at e2
        obtain ⟨rfl, -, rfl⟩ := e2
        simp only [Nat.zero_mul, Nat.add_zero] at y1 y2 y3
        have LB := hidM (ls_rest HI.out.2.1 HNM.out)
        have hm1 : (0 : Int) < (nm : Int) := by have := HNM.out; simp at this; omega
        have hm2 : 0 < nm := by omega
        have hm3 : (1 : Int) ≤ (nm : Int) := by omega
        have hmb : ((nm : Int) == 0) = false := by simp; omega
        have hmb1 : ¬ (nm : Int) = 0 := by omega
        have hmb2 : ¬ nm = 0 := by omega
        have hs1 : (0 : Int) < (nm : Int) := by omega
        have hT1 : T.length + 1 ≤ l.length + m.length := by have := HT.out; rw [btw] at this; simp only [List.length_cons] at this; omega
        have HBT : Hid (btw tol l m = T ++ [(b, 1)] ++ btw tol [] xb) := by show _ = _; rw [HI.out.2.2.1, btw, List.append_assoc]; rfl
        go_upto_region 5 with fail
        go_quiet (fail)
        generalize hw9 : wr.drewN nq = w9 at *
        have Gw9 : Gr wr w9 := by rw [← hw9]; exact (Gr.refl wr).drewN nq
        have HGw9 := hidM Gw9
        clear hw9 Gw9
        go_upto_region 7 with fail
        go_quiet (fail)
        generalize hw9 : w9.drewN nq = w8 at *
        have Gw8 : Gr wr w8 := by rw [← hw9]; exact HGw9.out.drewN nq
        have HGw8 := hidM Gw8
        clear hw9 Gw8
        have BW := hidM (HI.out.2.2.2.2.trans (HGw8.out.below.mono HI.out.2.2.2.2.size))
        have OW := hidM (owns_below HI.out.2.2.2.1 HGw8.out.below)
        have Y1 := (HGw8.out.cell z2).trans y1
        have Y2 := (HGw8.out.cell z2).trans y2
        have Y3 := (HGw8.out.cell z2).trans y3
        have Z2 := Nat.lt_of_lt_of_le z2 HGw8.out.below.size
        clear y1 y2 y3 z2
        go_upto_region 4 with (at_builtin; refine wpApp1D rfl _ _ rfl w.heap.size _ T.length _ rfl OW.out (b, 1) rfl (by omega) BW.out.size ?_; intro g' cap' w6 ho6 hg6 hl6)
        have HO6 : Hid (w6.ownsRow w.heap.size 54 4 (.slice (some ⟨g', 0, none⟩) (T.length + 1) cap') (T ++ [(b, 1)]).length (fl ED (T ++ [(b, 1)]))) := by
          show World.ownsRow _ _ _ _ _ _ _
          rw [List.length_append, List.length_singleton, fl_append, fl_one]
          exact ho6
        have HB6 : Hid (Below w.heap.size w w6) := BW.out.trans ((Kp.grownBy (S := fun k => w.heap.size ≤ k) hg6 (fun k hk => (OW.out.lt k hk).1)).below BW.out.size (fun _ h => h))
        clear ho6 hg6 hl6
        by_cases hd1 : d = 1
        · skip
          go_wp2_with fail
          have na := HNL.out
          have nb := HNM.out
          simp only [List.length] at na nb
          refine ⟨⟨[], xb, T ++ [(b, 1)], _, _, _, _, by first | rfl | (rw [na]; rfl) | (simp only [na]; rfl), by first | rfl | (rw [nb]; rfl) | (simp only [nb]; rfl), ⟨by have h := HI.out.1; rw [HNL.out] at h; exact h, LB.out.2.1 hd1 hmc, HBT.out, HO6.out, HB6.out⟩, ?_, ?_, ?_⟩, ?_⟩
          all_goals first | omega | (simp only; omega) | (simp only [List.length]; omega)
        · skip
          go_wp2_with fail
          have na := HNL.out
          have nb := HNM.out
          simp only [List.length] at na nb
          refine ⟨⟨[], xb, T ++ [(b, 1)], _, _, _, _, by first | rfl | (rw [na]; rfl) | (simp only [na]; rfl), by first | rfl | (rw [nb]; rfl) | (simp only [nb]; rfl), ⟨by have h := HI.out.1; rw [HNL.out] at h; exact h, LB.out.1, HBT.out, HO6.out, HB6.out⟩, ?_, ?_, ?_⟩, ?_⟩
          all_goals first | omega | (simp only; omega) | (simp only [List.length]; omega)
    | cons a xa =>
      cases m' with
      | nil =>
        obtain rfl : nm = 0 := hnm
        clear hnl
        obtain ⟨b1, o1, c1, e1, z1, x1, x2, x3⟩ := (Ls.below (by have h := HI.out.1; rw [HNL.out] at h; exact h) HI.out.2.2.2.2 : Lst wr (.slice p (a :: xa).length c) (a :: xa)).at3 (j := 0) rfl
        simp only [Value.slice.injEq] at e1
        obtain ⟨rfl, -, rfl⟩ := e1
        simp only [Nat.zero_mul, Nat.add_zero] at x1 x2 x3
        have LA := hidM (ls_rest HI.out.1 HNL.out)
        have hl1 : (0 : Int) < (nl : Int) := by have := HNL.out; simp at this; omega
        have hl2 : 0 < nl := by omega
        have hl3 : (1 : Int) ≤ (nl : Int) := by omega
        have hs1 : (0 : Int) < (nl : Int) := by omega
        have hT1 : T.length + 1 ≤ l.length + m.length := by have := HT.out; rw [btw] at this; simp only [List.length_cons] at this; omega
        have HBT : Hid (btw tol l m = T ++ [(a, -1)] ++ btw tol xa []) := by show _ = _; rw [HI.out.2.2.1, btw, List.append_assoc]; rfl
        go_upto_region 5 with fail
        go_quiet (fail)
        generalize hw9 : wr.drewN nq = w9 at *
        have Gw9 : Gr wr w9 := by rw [← hw9]; exact (Gr.refl wr).drewN nq
        have HGw9 := hidM Gw9
        clear hw9 Gw9
        go_upto_region 7 with fail
        go_quiet (fail)
        generalize hw9 : w9.drewN nq = w8 at *
        have Gw8 : Gr wr w8 := by rw [← hw9]; exact HGw9.out.drewN nq
        have HGw8 := hidM Gw8
        clear hw9 Gw8
        have BW := hidM (HI.out.2.2.2.2.trans (HGw8.out.below.mono HI.out.2.2.2.2.size))
        have OW := hidM (owns_below HI.out.2.2.2.1 HGw8.out.below)
        have X1 := (HGw8.out.cell z1).trans x1
        have X2 := (HGw8.out.cell z1).trans x2
        have X3 := (HGw8.out.cell z1).trans x3
        have Z1 := Nat.lt_of_lt_of_le z1 HGw8.out.below.size
        clear x1 x2 x3 z1
        go_upto_region 9 with (at_builtin; refine wpApp1D rfl _ _ rfl w.heap.size _ T.length _ rfl OW.out (a, -1) rfl (by omega) BW.out.size ?_; intro g' cap' w6 ho6 hg6 hl6)
        have HO6 : Hid (w6.ownsRow w.heap.size 54 4 (.slice (some ⟨g', 0, none⟩) (T.length + 1) cap') (T ++ [(a, -1)]).length (fl ED (T ++ [(a, -1)]))) := by
          show World.ownsRow _ _ _ _ _ _ _
          rw [List.length_append, List.length_singleton, fl_append, fl_one]
          exact ho6
        have HB6 : Hid (Below w.heap.size w w6) := BW.out.trans ((Kp.grownBy (S := fun k => w.heap.size ≤ k) hg6 (fun k hk => (OW.out.lt k hk).1)).below BW.out.size (fun _ h => h))
        clear ho6 hg6 hl6
        by_cases hc1 : c = 1
        · skip
          go_wp2_with fail
          have na := HNL.out
          have nb := HNM.out
          simp only [List.length] at na nb
          refine ⟨⟨xa, [], T ++ [(a, -1)], _, _, _, _, by first | rfl | (rw [na]; rfl) | (simp only [na]; rfl), by first | rfl | (rw [nb]; rfl) | (simp only [nb]; rfl), ⟨LA.out.2.1 hc1 hlc, by have h := HI.out.2.1; rw [HNM.out] at h; exact h, HBT.out, HO6.out, HB6.out⟩, ?_, ?_, ?_⟩, ?_⟩
          all_goals first | omega | (simp only; omega) | (simp only [List.length]; omega)
        · skip
          go_wp2_with fail
          have na := HNL.out
          have nb := HNM.out
          simp only [List.length] at na nb
          refine ⟨⟨xa, [], T ++ [(a, -1)], _, _, _, _, by first | rfl | (rw [na]; rfl) | (simp only [na]; rfl), by first | rfl | (rw [nb]; rfl) | (simp only [nb]; rfl), ⟨LA.out.1, by have h := HI.out.2.1; rw [HNM.out] at h; exact h, HBT.out, HO6.out, HB6.out⟩, ?_, ?_, ?_⟩, ?_⟩
          all_goals first | omega | (simp only; omega) | (simp only [List.length]; omega)
      | cons b xb =>
        clear hnl hnm
        obtain ⟨b1, o1, c1, e1, z1, x1, x2, x3⟩ := (Ls.below (by have h := HI.out.1; rw [HNL.out] at h; exact h) HI.out.2.2.2.2 : Lst wr (.slice p (a :: xa).length c) (a :: xa)).at3 (j := 0) rfl
        simp only [Value.slice.injEq] at e1
        obtain ⟨rfl, -, rfl⟩ := e1
        simp only [Nat.zero_mul, Nat.add_zero] at x1 x2 x3
        have LA := hidM (ls_rest HI.out.1 HNL.out)
        have hl1 : (0 : Int) < (nl : Int) := by have := HNL.out; simp at this; omega
        have hl2 : 0 < nl := by omega
        have hl3 : (1 : Int) ≤ (nl : Int) := by omega
        obtain ⟨b2, o2, c2, e2, z2, y1, y2, y3⟩ := (Ls.below (by have h := HI.out.2.1; rw [HNM.out] at h; exact h) HI.out.2.2.2.2 : Lst wr (.slice q (b :: xb).length d) (b :: xb)).at3 (j := 0) rfl
        simp only [Value.slice.injEq] at e2
        obtain ⟨rfl, -, rfl⟩ := e2
        simp only [Nat.zero_mul, Nat.add_zero] at y1 y2 y3
        have LB := hidM (ls_rest HI.out.2.1 HNM.out)
        have hm1 : (0 : Int) < (nm : Int) := by have := HNM.out; simp at this; omega
        have hm2 : 0 < nm := by omega
        have hm3 : (1 : Int) ≤ (nm : Int) := by omega
        have hmb : ((nm : Int) == 0) = false := by simp; omega
        have hmb1 : ¬ (nm : Int) = 0 := by omega
        have hmb2 : ¬ nm = 0 := by omega
        have hs1 : (0 : Int) < (nl : Int) + (nm : Int) := by omega
        by_cases hab : a = b
        · subst hab
          have hE : ∀ W, Sem.run Tryz.prog (Op.equalIn 10000 37 (.agg #[.int .u64 a.1.1, .int .u64 a.1.2.1, .int .u64 a.1.2.2]) (.agg #[.int .u64 a.1.1, .int .u64 a.1.2.1, .int .u64 a.1.2.2])) W = .ok true W := fun W => by rw [run_eqT, teq_dec, decide_eq_true rfl]
          have HBT : Hid (btw tol l m = T ++ btw tol xa xb) := by show _ = _; rw [HI.out.2.2.1, btw, if_pos rfl]
          go_upto_region 5 with fail
          go_quiet (fail)
          generalize hw9 : wr.drewN nq = w9 at *
          have G9 : Gr wr w9 := by rw [← hw9]; exact (Gr.refl wr).drewN nq
          have HG9 := hidM G9
          clear hw9 G9
          go_upto_region 6 with fail
          by_cases hc1 : c = 1
          · skip
            by_cases hd1 : d = 1
            · skip
              go_quiet (fail)
              go_wp2_with fail
              have GG := HG9.out.drewN nq
              have na := HNL.out
              have nb := HNM.out
              simp only [List.length] at na nb
              refine ⟨⟨xa, xb, T, _, _, _, _, by first | rfl | (rw [na]; rfl) | (simp only [na]; rfl), by first | rfl | (rw [nb]; rfl) | (simp only [nb]; rfl), ⟨LA.out.2.1 hc1 hlc, LB.out.2.1 hd1 hmc, HBT.out, owns_below HI.out.2.2.2.1 GG.below, HI.out.2.2.2.2.trans (GG.below.mono HI.out.2.2.2.2.size)⟩, ?_, ?_, ?_⟩, ?_⟩
              all_goals first | omega | (simp only; omega) | (simp only [List.length]; omega)
            · skip
              go_quiet (fail)
              go_wp2_with fail
              have GG := HG9.out.drewN nq
              have na := HNL.out
              have nb := HNM.out
              simp only [List.length] at na nb
              refine ⟨⟨xa, xb, T, _, _, _, _, by first | rfl | (rw [na]; rfl) | (simp only [na]; rfl), by first | rfl | (rw [nb]; rfl) | (simp only [nb]; rfl), ⟨LA.out.2.1 hc1 hlc, LB.out.1, HBT.out, owns_below HI.out.2.2.2.1 GG.below, HI.out.2.2.2.2.trans (GG.below.mono HI.out.2.2.2.2.size)⟩, ?_, ?_, ?_⟩, ?_⟩
              all_goals first | omega | (simp only; omega) | (simp only [List.length]; omega)
          · skip
            by_cases hd1 : d = 1
            · skip
              go_quiet (fail)
              go_wp2_with fail
              have GG := HG9.out.drewN nq
              have na := HNL.out
              have nb := HNM.out
              simp only [List.length] at na nb
              refine ⟨⟨xa, xb, T, _, _, _, _, by first | rfl | (rw [na]; rfl) | (simp only [na]; rfl), by first | rfl | (rw [nb]; rfl) | (simp only [nb]; rfl), ⟨LA.out.1, LB.out.2.1 hd1 hmc, HBT.out, owns_below HI.out.2.2.2.1 GG.below, HI.out.2.2.2.2.trans (GG.below.mono HI.out.2.2.2.2.size)⟩, ?_, ?_, ?_⟩, ?_⟩
              all_goals first | omega | (simp only; omega) | (simp only [List.length]; omega)
            · skip
              go_quiet (fail)
              go_wp2_with fail
              have GG := HG9.out.drewN nq
              have na := HNL.out
              have nb := HNM.out
              simp only [List.length] at na nb
              refine ⟨⟨xa, xb, T, _, _, _, _, by first | rfl | (rw [na]; rfl) | (simp only [na]; rfl), by first | rfl | (rw [nb]; rfl) | (simp only [nb]; rfl), ⟨LA.out.1, LB.out.1, HBT.out, owns_below HI.out.2.2.2.1 GG.below, HI.out.2.2.2.2.trans (GG.below.mono HI.out.2.2.2.2.size)⟩, ?_, ?_, ?_⟩, ?_⟩
              all_goals first | omega | (simp only; omega) | (simp only [List.length]; omega)
        · have hE : ∀ W, Sem.run Tryz.prog (Op.equalIn 10000 37 (.agg #[.int .u64 a.1.1, .int .u64 a.1.2.1, .int .u64 a.1.2.2]) (.agg #[.int .u64 b.1.1, .int .u64 b.1.2.1, .int .u64 b.1.2.2])) W = .ok false W := fun W => by rw [run_eqT, teq_dec, decide_eq_false hab]
          have hT1 : T.length + 1 ≤ l.length + m.length := by
            have := HT.out
            rw [btw, if_neg hab] at this
            split at this <;> (simp only [List.length_cons] at this; omega)
          go_upto_region 5 with fail
          go_quiet (fail)
          generalize hw9 : wr.drewN nq = w9 at *
          have Gw9 : Gr wr w9 := by rw [← hw9]; exact (Gr.refl wr).drewN nq
          have HGw9 := hidM Gw9
          clear hw9 Gw9
          go_upto_region 7 with fail
          have S9 : Gr wr w9.drew := HGw9.out.drew
          have hcmp := HC.out a b
          obtain ⟨r, hr⟩ : ∃ r, r = tcm a b := ⟨_, rfl⟩
          rw [← hr] at hcmp
          have HRR := hidM hr
          clear hr
          by_cases hlt : r < 0
          · skip
            refine wp_regionD (S := fun W => Gr wr W) (D := []) hmx ?_
            refine' wpAnyD_take (i := 0) (oi := { dst := some 44, op := Go.Op.move (Go.Operand.tmp 1), type := 42, pos := "multi.go:110", after := #[], guard := none }) (v := _) rfl (by kernel_rfl) (by kernel_rfl) (by kernel_rfl) (fun _ _ _ h => h) (by kernel_rfl) (Or.inl ⟨by rfl, ?hy1⟩) S9 ?rest1
            case hy1 => (intro W hSw; (try dsimp only at hSw); have k1 := (hSw.cell z1).trans x1; have k2 := (hSw.cell z1).trans x2; have k3 := (hSw.cell z1).trans x3; have j1 := (hSw.cell z2).trans y1; have j2 := (hSw.cell z2).trans y2; have j3 := (hSw.cell z2).trans y3; have kz := Nat.lt_of_lt_of_le z1 hSw.below.size; have jz := Nat.lt_of_lt_of_le z2 hSw.below.size; go_simp; try (with_reducible rfl))
            try simp only [Act.put, List.setIfInBounds_toArray, List.set_cons_zero, List.set_cons_succ]
            refine' wpAnyD_take (i := 1) (oi := { dst := some 45, op := Go.Op.call { callee := Go.Callee.builtin Go.Builtin.len, args := #[Go.Operand.tmp 44], argTypes := #[42] }, type := 3, pos := "multi.go:110", after := #[{ on := 0, ground := Go.Ground.data }], guard := none }) (v := _) rfl (by kernel_rfl) (by kernel_rfl) (by kernel_rfl) (fun _ _ _ h => h) (by kernel_rfl) (Or.inl ⟨by rfl, ?hy2⟩) S9 ?rest2
            case hy2 => (intro W hSw; (try dsimp only at hSw); have k1 := (hSw.cell z1).trans x1; have k2 := (hSw.cell z1).trans x2; have k3 := (hSw.cell z1).trans x3; have j1 := (hSw.cell z2).trans y1; have j2 := (hSw.cell z2).trans y2; have j3 := (hSw.cell z2).trans y3; have kz := Nat.lt_of_lt_of_le z1 hSw.below.size; have jz := Nat.lt_of_lt_of_le z2 hSw.below.size; go_simp; try (with_reducible rfl))
            try simp only [Act.put, List.setIfInBounds_toArray, List.set_cons_zero, List.set_cons_succ]
            refine' wpAnyD_take (i := 2) (oi := { dst := some 46, op := Go.Op.binOp Go.BinOp.eql 3 (Go.Operand.tmp 45) (Go.Operand.const (Go.Value.int Go.IntKind.i64 0)) 3, type := 4, pos := "multi.go:110", after := #[{ on := 1, ground := Go.Ground.data }], guard := none }) (v := _) rfl (by kernel_rfl) (by kernel_rfl) (by kernel_rfl) (fun _ _ _ h => h) (by kernel_rfl) (Or.inl ⟨by rfl, ?hy3⟩) S9 ?rest3
            case hy3 => (intro W hSw; (try dsimp only at hSw); have k1 := (hSw.cell z1).trans x1; have k2 := (hSw.cell z1).trans x2; have k3 := (hSw.cell z1).trans x3; have j1 := (hSw.cell z2).trans y1; have j2 := (hSw.cell z2).trans y2; have j3 := (hSw.cell z2).trans y3; have kz := Nat.lt_of_lt_of_le z1 hSw.below.size; have jz := Nat.lt_of_lt_of_le z2 hSw.below.size; go_simp; try (with_reducible rfl))
            try simp only [Act.put, List.setIfInBounds_toArray, List.set_cons_zero, List.set_cons_succ]
            refine' wpAnyD_take (i := 3) (oi := { dst := some 47, op := Go.Op.move (Go.Operand.tmp 46), type := 4, pos := "multi.go:110", after := #[{ on := 2, ground := Go.Ground.data }], guard := none }) (v := _) rfl (by kernel_rfl) (by kernel_rfl) (by kernel_rfl) (fun _ _ _ h => h) (by kernel_rfl) (Or.inl ⟨by rfl, ?hy4⟩) S9 ?rest4
            case hy4 => (intro W hSw; (try dsimp only at hSw); have k1 := (hSw.cell z1).trans x1; have k2 := (hSw.cell z1).trans x2; have k3 := (hSw.cell z1).trans x3; have j1 := (hSw.cell z2).trans y1; have j2 := (hSw.cell z2).trans y2; have j3 := (hSw.cell z2).trans y3; have kz := Nat.lt_of_lt_of_le z1 hSw.below.size; have jz := Nat.lt_of_lt_of_le z2 hSw.below.size; go_simp; try (with_reducible rfl))
            try simp only [Act.put, List.setIfInBounds_toArray, List.set_cons_zero, List.set_cons_succ]
            refine' wpAnyD_take (i := 4) (oi := { dst := some 48, op := Go.Op.move (Go.Operand.tmp 0), type := 42, pos := "multi.go:110", after := #[{ on := 3, ground := Go.Ground.guard }], guard := some (3, false) }) (v := _) rfl (by kernel_rfl) (by kernel_rfl) (by kernel_rfl) (fun _ _ _ h => h) (by kernel_rfl) (Or.inl ⟨by rfl, ?hy5⟩) S9 ?rest5
            case hy5 => (intro W hSw; (try dsimp only at hSw); have k1 := (hSw.cell z1).trans x1; have k2 := (hSw.cell z1).trans x2; have k3 := (hSw.cell z1).trans x3; have j1 := (hSw.cell z2).trans y1; have j2 := (hSw.cell z2).trans y2; have j3 := (hSw.cell z2).trans y3; have kz := Nat.lt_of_lt_of_le z1 hSw.below.size; have jz := Nat.lt_of_lt_of_le z2 hSw.below.size; go_simp; try (with_reducible rfl))
            try simp only [Act.put, List.setIfInBounds_toArray, List.set_cons_zero, List.set_cons_succ]
            refine' wpAnyD_take (i := 5) (oi := { dst := some 49, op := Go.Op.call { callee := Go.Callee.builtin Go.Builtin.len, args := #[Go.Operand.tmp 48], argTypes := #[42] }, type := 3, pos := "multi.go:110", after := #[{ on := 4, ground := Go.Ground.data }, { on := 3, ground := Go.Ground.guard }], guard := some (3, false) }) (v := _) rfl (by kernel_rfl) (by kernel_rfl) (by kernel_rfl) (fun _ _ _ h => h) (by kernel_rfl) (Or.inl ⟨by rfl, ?hy6⟩) S9 ?rest6
            case hy6 => (intro W hSw; (try dsimp only at hSw); have k1 := (hSw.cell z1).trans x1; have k2 := (hSw.cell z1).trans x2; have k3 := (hSw.cell z1).trans x3; have j1 := (hSw.cell z2).trans y1; have j2 := (hSw.cell z2).trans y2; have j3 := (hSw.cell z2).trans y3; have kz := Nat.lt_of_lt_of_le z1 hSw.below.size; have jz := Nat.lt_of_lt_of_le z2 hSw.below.size; go_simp; try (with_reducible rfl))
            try simp only [Act.put, List.setIfInBounds_toArray, List.set_cons_zero, List.set_cons_succ]
            refine' wpAnyD_take (i := 6) (oi := { dst := some 50, op := Go.Op.binOp Go.BinOp.gtr 3 (Go.Operand.tmp 49) (Go.Operand.const (Go.Value.int Go.IntKind.i64 0)) 3, type := 4, pos := "multi.go:110", after := #[{ on := 5, ground := Go.Ground.data }, { on := 3, ground := Go.Ground.guard }], guard := some (3, false) }) (v := _) rfl (by kernel_rfl) (by kernel_rfl) (by kernel_rfl) (fun _ _ _ h => h) (by kernel_rfl) (Or.inl ⟨by rfl, ?hy7⟩) S9 ?rest7
            case hy7 => (intro W hSw; (try dsimp only at hSw); have k1 := (hSw.cell z1).trans x1; have k2 := (hSw.cell z1).trans x2; have k3 := (hSw.cell z1).trans x3; have j1 := (hSw.cell z2).trans y1; have j2 := (hSw.cell z2).trans y2; have j3 := (hSw.cell z2).trans y3; have kz := Nat.lt_of_lt_of_le z1 hSw.below.size; have jz := Nat.lt_of_lt_of_le z2 hSw.below.size; go_simp; try (with_reducible rfl))
            try simp only [Act.put, List.setIfInBounds_toArray, List.set_cons_zero, List.set_cons_succ]
            refine' wpAnyD_take (i := 7) (oi := { dst := some 51, op := Go.Op.move (Go.Operand.tmp 50), type := 4, pos := "multi.go:110", after := #[{ on := 6, ground := Go.Ground.data }, { on := 3, ground := Go.Ground.chain }, { on := 3, ground := Go.Ground.guard }], guard := some (3, false) }) (v := _) rfl (by kernel_rfl) (by kernel_rfl) (by kernel_rfl) (fun _ _ _ h => h) (by kernel_rfl) (Or.inl ⟨by rfl, ?hy8⟩) S9 ?rest8
            case hy8 => (intro W hSw; (try dsimp only at hSw); have k1 := (hSw.cell z1).trans x1; have k2 := (hSw.cell z1).trans x2; have k3 := (hSw.cell z1).trans x3; have j1 := (hSw.cell z2).trans y1; have j2 := (hSw.cell z2).trans y2; have j3 := (hSw.cell z2).trans y3; have kz := Nat.lt_of_lt_of_le z1 hSw.below.size; have jz := Nat.lt_of_lt_of_le z2 hSw.below.size; go_simp; try (with_reducible rfl))
            try simp only [Act.put, List.setIfInBounds_toArray, List.set_cons_zero, List.set_cons_succ]
            refine' wpAnyD_take (i := 8) (oi := { dst := some 52, op := Go.Op.move (Go.Operand.tmp 0), type := 42, pos := "multi.go:110", after := #[{ on := 7, ground := Go.Ground.guard }], guard := some (7, true) }) (v := _) rfl (by kernel_rfl) (by kernel_rfl) (by kernel_rfl) (fun _ _ _ h => h) (by kernel_rfl) (Or.inl ⟨by rfl, ?hy9⟩) S9 ?rest9
            case hy9 => (intro W hSw; (try dsimp only at hSw); have k1 := (hSw.cell z1).trans x1; have k2 := (hSw.cell z1).trans x2; have k3 := (hSw.cell z1).trans x3; have j1 := (hSw.cell z2).trans y1; have j2 := (hSw.cell z2).trans y2; have j3 := (hSw.cell z2).trans y3; have kz := Nat.lt_of_lt_of_le z1 hSw.below.size; have jz := Nat.lt_of_lt_of_le z2 hSw.below.size; go_simp; try (with_reducible rfl))
            try simp only [Act.put, List.setIfInBounds_toArray, List.set_cons_zero, List.set_cons_succ]
            refine' wpAnyD_take (i := 9) (oi := { dst := some 53, op := Go.Op.indexAddr 42 (Go.Operand.tmp 52) (Go.Operand.const (Go.Value.int Go.IntKind.i64 0)), type := 0, pos := "multi.go:110", after := #[{ on := 8, ground := Go.Ground.data }, { on := 7, ground := Go.Ground.guard }], guard := some (7, true) }) (v := _) rfl (by kernel_rfl) (by kernel_rfl) (by kernel_rfl) (fun _ _ _ h => h) (by kernel_rfl) (Or.inl ⟨by rfl, ?hy10⟩) S9 ?rest10
            case hy10 => (intro W hSw; (try dsimp only at hSw); have k1 := (hSw.cell z1).trans x1; have k2 := (hSw.cell z1).trans x2; have k3 := (hSw.cell z1).trans x3; have j1 := (hSw.cell z2).trans y1; have j2 := (hSw.cell z2).trans y2; have j3 := (hSw.cell z2).trans y3; have kz := Nat.lt_of_lt_of_le z1 hSw.below.size; have jz := Nat.lt_of_lt_of_le z2 hSw.below.size; go_simp; try (with_reducible rfl))
            try simp only [Act.put, List.setIfInBounds_toArray, List.set_cons_zero, List.set_cons_succ]
            refine' wpAnyD_take (i := 10) (oi := { dst := some 54, op := Go.Op.load 37 (Go.Operand.tmp 53), type := 37, pos := "multi.go:110", after := #[{ on := 9, ground := Go.Ground.data }, { on := 7, ground := Go.Ground.guard }], guard := some (7, true) }) (v := _) rfl (by kernel_rfl) (by kernel_rfl) (by kernel_rfl) (fun _ _ _ h => h) (by kernel_rfl) (Or.inl ⟨by rfl, ?hy11⟩) S9 ?rest11
            case hy11 => (intro W hSw; (try dsimp only at hSw); have k1 := (hSw.cell z1).trans x1; have k2 := (hSw.cell z1).trans x2; have k3 := (hSw.cell z1).trans x3; have j1 := (hSw.cell z2).trans y1; have j2 := (hSw.cell z2).trans y2; have j3 := (hSw.cell z2).trans y3; have kz := Nat.lt_of_lt_of_le z1 hSw.below.size; have jz := Nat.lt_of_lt_of_le z2 hSw.below.size; go_simp; try (with_reducible rfl))
            try simp only [Act.put, List.setIfInBounds_toArray, List.set_cons_zero, List.set_cons_succ]
            refine' wpAnyD_take (i := 11) (oi := { dst := some 55, op := Go.Op.move (Go.Operand.tmp 1), type := 42, pos := "multi.go:110", after := #[{ on := 7, ground := Go.Ground.guard }], guard := some (7, true) }) (v := _) rfl (by kernel_rfl) (by kernel_rfl) (by kernel_rfl) (fun _ _ _ h => h) (by kernel_rfl) (Or.inl ⟨by rfl, ?hy12⟩) S9 ?rest12
            case hy12 => (intro W hSw; (try dsimp only at hSw); have k1 := (hSw.cell z1).trans x1; have k2 := (hSw.cell z1).trans x2; have k3 := (hSw.cell z1).trans x3; have j1 := (hSw.cell z2).trans y1; have j2 := (hSw.cell z2).trans y2; have j3 := (hSw.cell z2).trans y3; have kz := Nat.lt_of_lt_of_le z1 hSw.below.size; have jz := Nat.lt_of_lt_of_le z2 hSw.below.size; go_simp; try (with_reducible rfl))
            try simp only [Act.put, List.setIfInBounds_toArray, List.set_cons_zero, List.set_cons_succ]
            refine' wpAnyD_take (i := 12) (oi := { dst := some 56, op := Go.Op.indexAddr 42 (Go.Operand.tmp 55) (Go.Operand.const (Go.Value.int Go.IntKind.i64 0)), type := 0, pos := "multi.go:110", after := #[{ on := 11, ground := Go.Ground.data }, { on := 7, ground := Go.Ground.guard }], guard := some (7, true) }) (v := _) rfl (by kernel_rfl) (by kernel_rfl) (by kernel_rfl) (fun _ _ _ h => h) (by kernel_rfl) (Or.inl ⟨by rfl, ?hy13⟩) S9 ?rest13
            case hy13 => (intro W hSw; (try dsimp only at hSw); have k1 := (hSw.cell z1).trans x1; have k2 := (hSw.cell z1).trans x2; have k3 := (hSw.cell z1).trans x3; have j1 := (hSw.cell z2).trans y1; have j2 := (hSw.cell z2).trans y2; have j3 := (hSw.cell z2).trans y3; have kz := Nat.lt_of_lt_of_le z1 hSw.below.size; have jz := Nat.lt_of_lt_of_le z2 hSw.below.size; go_simp; try (with_reducible rfl))
            try simp only [Act.put, List.setIfInBounds_toArray, List.set_cons_zero, List.set_cons_succ]
            refine' wpAnyD_take (i := 13) (oi := { dst := some 57, op := Go.Op.load 37 (Go.Operand.tmp 56), type := 37, pos := "multi.go:110", after := #[{ on := 12, ground := Go.Ground.data }, { on := 7, ground := Go.Ground.guard }], guard := some (7, true) }) (v := _) rfl (by kernel_rfl) (by kernel_rfl) (by kernel_rfl) (fun _ _ _ h => h) (by kernel_rfl) (Or.inl ⟨by rfl, ?hy14⟩) S9 ?rest14
            case hy14 => (intro W hSw; (try dsimp only at hSw); have k1 := (hSw.cell z1).trans x1; have k2 := (hSw.cell z1).trans x2; have k3 := (hSw.cell z1).trans x3; have j1 := (hSw.cell z2).trans y1; have j2 := (hSw.cell z2).trans y2; have j3 := (hSw.cell z2).trans y3; have kz := Nat.lt_of_lt_of_le z1 hSw.below.size; have jz := Nat.lt_of_lt_of_le z2 hSw.below.size; go_simp; try (with_reducible rfl))
            try simp only [Act.put, List.setIfInBounds_toArray, List.set_cons_zero, List.set_cons_succ]
            refine wpAnyD_one (i := 14) (o := { dst := some 58, op := Go.Op.call { callee := Go.Callee.value (Go.Operand.func 24), args := #[Go.Operand.tmp 54, Go.Operand.tmp 57], argTypes := #[37, 37] }, type := 3, pos := "multi.go:110", after := #[{ on := 10, ground := Go.Ground.data }, { on := 13, ground := Go.Ground.data }, { on := 7, ground := Go.Ground.chain }, { on := 7, ground := Go.Ground.guard }], guard := some (7, true) }) (by kernel_rfl) rfl (fun K hK => ?_)
            go_simp
            refine (hcmp _).mono ?_
            rintro e w8 ⟨rfl, g8⟩
            have S8 : Gr wr w8 := S9.trans g8
            go_wp2_with fail
            refine hK.out _ _ (fun hD => S8) ?_
            clear hK K
            try simp only [Act.put, List.setIfInBounds_toArray, List.set_cons_zero, List.set_cons_succ]
            refine' wpAnyD_take (i := 15) (oi := { dst := some 59, op := Go.Op.binOp Go.BinOp.lss 3 (Go.Operand.tmp 58) (Go.Operand.const (Go.Value.int Go.IntKind.i64 0)) 3, type := 4, pos := "multi.go:110", after := #[{ on := 14, ground := Go.Ground.data }, { on := 7, ground := Go.Ground.guard }], guard := some (7, true) }) (v := _) rfl (by kernel_rfl) (by kernel_rfl) (by kernel_rfl) (fun _ _ _ h => h) (by kernel_rfl) (Or.inl ⟨by rfl, ?hy16⟩) S8 ?rest16
            case hy16 => (intro W hSw; (try dsimp only at hSw); have k1 := (hSw.cell z1).trans x1; have k2 := (hSw.cell z1).trans x2; have k3 := (hSw.cell z1).trans x3; have j1 := (hSw.cell z2).trans y1; have j2 := (hSw.cell z2).trans y2; have j3 := (hSw.cell z2).trans y3; have kz := Nat.lt_of_lt_of_le z1 hSw.below.size; have jz := Nat.lt_of_lt_of_le z2 hSw.below.size; go_simp; try (with_reducible rfl))
            try simp only [Act.put, List.setIfInBounds_toArray, List.set_cons_zero, List.set_cons_succ]
            refine' wpAnyD_take (i := 16) (oi := { dst := some 60, op := Go.Op.pick (Go.Operand.tmp 51) (Go.Operand.tmp 59) (Go.Operand.const (Go.Value.bool false)), type := 4, pos := "multi.go:110", after := #[{ on := 7, ground := Go.Ground.data }, { on := 15, ground := Go.Ground.data }, { on := 3, ground := Go.Ground.guard }], guard := some (3, false) }) (v := _) rfl (by kernel_rfl) (by kernel_rfl) (by kernel_rfl) (fun _ _ _ h => h) (by kernel_rfl) (Or.inl ⟨by rfl, ?hy17⟩) S8 ?rest17
            case hy17 => (intro W hSw; (try dsimp only at hSw); have k1 := (hSw.cell z1).trans x1; have k2 := (hSw.cell z1).trans x2; have k3 := (hSw.cell z1).trans x3; have j1 := (hSw.cell z2).trans y1; have j2 := (hSw.cell z2).trans y2; have j3 := (hSw.cell z2).trans y3; have kz := Nat.lt_of_lt_of_le z1 hSw.below.size; have jz := Nat.lt_of_lt_of_le z2 hSw.below.size; go_simp; try (with_reducible rfl))
            try simp only [Act.put, List.setIfInBounds_toArray, List.set_cons_zero, List.set_cons_succ]
            refine' wpAnyD_take (i := 17) (oi := { dst := some 61, op := Go.Op.pick (Go.Operand.tmp 47) (Go.Operand.const (Go.Value.bool true)) (Go.Operand.tmp 60), type := 4, pos := "multi.go:110", after := #[{ on := 3, ground := Go.Ground.data }, { on := 16, ground := Go.Ground.data }], guard := none }) (v := _) rfl (by kernel_rfl) (by kernel_rfl) (by kernel_rfl) (fun _ _ _ h => h) (by kernel_rfl) (Or.inl ⟨by rfl, ?hy18⟩) S8 ?rest18
            case hy18 => (intro W hSw; (try dsimp only at hSw); have k1 := (hSw.cell z1).trans x1; have k2 := (hSw.cell z1).trans x2; have k3 := (hSw.cell z1).trans x3; have j1 := (hSw.cell z2).trans y1; have j2 := (hSw.cell z2).trans y2; have j3 := (hSw.cell z2).trans y3; have kz := Nat.lt_of_lt_of_le z1 hSw.below.size; have jz := Nat.lt_of_lt_of_le z2 hSw.below.size; go_simp; try (with_reducible rfl))
            try simp only [Act.put, List.setIfInBounds_toArray, List.set_cons_zero, List.set_cons_succ]
            refine' wpAnyD_take (i := 18) (oi := { dst := some 43, op := Go.Op.assign (Go.Operand.tmp 61), type := 4, pos := "multi.go:110", after := #[{ on := 17, ground := Go.Ground.data }, { on := 14, ground := Go.Ground.chain }], guard := none }) (v := _) rfl (by kernel_rfl) (by kernel_rfl) (by kernel_rfl) (fun _ _ _ h => h) (by kernel_rfl) (Or.inl ⟨by rfl, ?hy19⟩) S8 ?rest19
            case hy19 => (intro W hSw; (try dsimp only at hSw); have k1 := (hSw.cell z1).trans x1; have k2 := (hSw.cell z1).trans x2; have k3 := (hSw.cell z1).trans x3; have j1 := (hSw.cell z2).trans y1; have j2 := (hSw.cell z2).trans y2; have j3 := (hSw.cell z2).trans y3; have kz := Nat.lt_of_lt_of_le z1 hSw.below.size; have jz := Nat.lt_of_lt_of_le z2 hSw.below.size; go_simp; try (with_reducible rfl))
            try simp only [Act.put, List.setIfInBounds_toArray, List.set_cons_zero, List.set_cons_succ]
            refine wpAnyD_done (by kernel_rfl) ?_ _
            have HGw8 := hidM S8
            clear S8 S9 g8
            have HBT : Hid (btw tol l m = T ++ [(a, -1)] ++ btw tol xa (b :: xb)) := by show _ = _; rw [HI.out.2.2.1, btw, if_neg hab, if_pos (by unfold tol; rw [← HRR.out]; exact decide_eq_true hlt), List.append_assoc]; rfl
            have BW := hidM (HI.out.2.2.2.2.trans (HGw8.out.below.mono HI.out.2.2.2.2.size))
            have OW := hidM (owns_below HI.out.2.2.2.1 HGw8.out.below)
            have X1 := (HGw8.out.cell z1).trans x1
            have X2 := (HGw8.out.cell z1).trans x2
            have X3 := (HGw8.out.cell z1).trans x3
            have Z1 := Nat.lt_of_lt_of_le z1 HGw8.out.below.size
            clear x1 x2 x3 z1
            go_upto_region 9 with (at_builtin; refine wpApp1D rfl _ _ rfl w.heap.size _ T.length _ rfl OW.out (a, -1) rfl (by omega) BW.out.size ?_; intro g' cap' w6 ho6 hg6 hl6)
            have HO6 : Hid (w6.ownsRow w.heap.size 54 4 (.slice (some ⟨g', 0, none⟩) (T.length + 1) cap') (T ++ [(a, -1)]).length (fl ED (T ++ [(a, -1)]))) := by
              show World.ownsRow _ _ _ _ _ _ _
              rw [List.length_append, List.length_singleton, fl_append, fl_one]
              exact ho6
            have HB6 : Hid (Below w.heap.size w w6) := BW.out.trans ((Kp.grownBy (S := fun k => w.heap.size ≤ k) hg6 (fun k hk => (OW.out.lt k hk).1)).below BW.out.size (fun _ h => h))
            clear ho6 hg6 hl6
            by_cases hc1 : c = 1
            · skip
              go_wp2_with fail
              have na := HNL.out
              have nb := HNM.out
              simp only [List.length] at na nb
              refine ⟨⟨xa, b :: xb, T ++ [(a, -1)], _, _, _, _, by first | rfl | (rw [na]; rfl) | (simp only [na]; rfl), by first | rfl | (rw [nb]; rfl) | (simp only [nb]; rfl), ⟨LA.out.2.1 hc1 hlc, by have h := HI.out.2.1; rw [HNM.out] at h; exact h, HBT.out, HO6.out, HB6.out⟩, ?_, ?_, ?_⟩, ?_⟩
              all_goals first | omega | (simp only; omega) | (simp only [List.length]; omega)
            · skip
              go_wp2_with fail
              have na := HNL.out
              have nb := HNM.out
              simp only [List.length] at na nb
              refine ⟨⟨xa, b :: xb, T ++ [(a, -1)], _, _, _, _, by first | rfl | (rw [na]; rfl) | (simp only [na]; rfl), by first | rfl | (rw [nb]; rfl) | (simp only [nb]; rfl), ⟨LA.out.1, by have h := HI.out.2.1; rw [HNM.out] at h; exact h, HBT.out, HO6.out, HB6.out⟩, ?_, ?_, ?_⟩, ?_⟩
              all_goals first | omega | (simp only; omega) | (simp only [List.length]; omega)
          · skip
            refine wp_regionD (S := fun W => Gr wr W) (D := []) hmx ?_
            refine' wpAnyD_take (i := 0) (oi := { dst := some 44, op := Go.Op.move (Go.Operand.tmp 1), type := 42, pos := "multi.go:110", after := #[], guard := none }) (v := _) rfl (by kernel_rfl) (by kernel_rfl) (by kernel_rfl) (fun _ _ _ h => h) (by kernel_rfl) (Or.inl ⟨by rfl, ?hy20⟩) S9 ?rest20
            case hy20 => (intro W hSw; (try dsimp only at hSw); have k1 := (hSw.cell z1).trans x1; have k2 := (hSw.cell z1).trans x2; have k3 := (hSw.cell z1).trans x3; have j1 := (hSw.cell z2).trans y1; have j2 := (hSw.cell z2).trans y2; have j3 := (hSw.cell z2).trans y3; have kz := Nat.lt_of_lt_of_le z1 hSw.below.size; have jz := Nat.lt_of_lt_of_le z2 hSw.below.size; go_simp; try (with_reducible rfl))
            try simp only [Act.put, List.setIfInBounds_toArray, List.set_cons_zero, List.set_cons_succ]
            refine' wpAnyD_take (i := 1) (oi := { dst := some 45, op := Go.Op.call { callee := Go.Callee.builtin Go.Builtin.len, args := #[Go.Operand.tmp 44], argTypes := #[42] }, type := 3, pos := "multi.go:110", after := #[{ on := 0, ground := Go.Ground.data }], guard := none }) (v := _) rfl (by kernel_rfl) (by kernel_rfl) (by kernel_rfl) (fun _ _ _ h => h) (by kernel_rfl) (Or.inl ⟨by rfl, ?hy21⟩) S9 ?rest21
            case hy21 => (intro W hSw; (try dsimp only at hSw); have k1 := (hSw.cell z1).trans x1; have k2 := (hSw.cell z1).trans x2; have k3 := (hSw.cell z1).trans x3; have j1 := (hSw.cell z2).trans y1; have j2 := (hSw.cell z2).trans y2; have j3 := (hSw.cell z2).trans y3; have kz := Nat.lt_of_lt_of_le z1 hSw.below.size; have jz := Nat.lt_of_lt_of_le z2 hSw.below.size; go_simp; try (with_reducible rfl))
            try simp only [Act.put, List.setIfInBounds_toArray, List.set_cons_zero, List.set_cons_succ]
            refine' wpAnyD_take (i := 2) (oi := { dst := some 46, op := Go.Op.binOp Go.BinOp.eql 3 (Go.Operand.tmp 45) (Go.Operand.const (Go.Value.int Go.IntKind.i64 0)) 3, type := 4, pos := "multi.go:110", after := #[{ on := 1, ground := Go.Ground.data }], guard := none }) (v := _) rfl (by kernel_rfl) (by kernel_rfl) (by kernel_rfl) (fun _ _ _ h => h) (by kernel_rfl) (Or.inl ⟨by rfl, ?hy22⟩) S9 ?rest22
            case hy22 => (intro W hSw; (try dsimp only at hSw); have k1 := (hSw.cell z1).trans x1; have k2 := (hSw.cell z1).trans x2; have k3 := (hSw.cell z1).trans x3; have j1 := (hSw.cell z2).trans y1; have j2 := (hSw.cell z2).trans y2; have j3 := (hSw.cell z2).trans y3; have kz := Nat.lt_of_lt_of_le z1 hSw.below.size; have jz := Nat.lt_of_lt_of_le z2 hSw.below.size; go_simp; try (with_reducible rfl))
            try simp only [Act.put, List.setIfInBounds_toArray, List.set_cons_zero, List.set_cons_succ]
            refine' wpAnyD_take (i := 3) (oi := { dst := some 47, op := Go.Op.move (Go.Operand.tmp 46), type := 4, pos := "multi.go:110", after := #[{ on := 2, ground := Go.Ground.data }], guard := none }) (v := _) rfl (by kernel_rfl) (by kernel_rfl) (by kernel_rfl) (fun _ _ _ h => h) (by kernel_rfl) (Or.inl ⟨by rfl, ?hy23⟩) S9 ?rest23
            case hy23 => (intro W hSw; (try dsimp only at hSw); have k1 := (hSw.cell z1).trans x1; have k2 := (hSw.cell z1).trans x2; have k3 := (hSw.cell z1).trans x3; have j1 := (hSw.cell z2).trans y1; have j2 := (hSw.cell z2).trans y2; have j3 := (hSw.cell z2).trans y3; have kz := Nat.lt_of_lt_of_le z1 hSw.below.size; have jz := Nat.lt_of_lt_of_le z2 hSw.below.size; go_simp; try (with_reducible rfl))
            try simp only [Act.put, List.setIfInBounds_toArray, List.set_cons_zero, List.set_cons_succ]
            refine' wpAnyD_take (i := 4) (oi := { dst := some 48, op := Go.Op.move (Go.Operand.tmp 0), type := 42, pos := "multi.go:110", after := #[{ on := 3, ground := Go.Ground.guard }], guard := some (3, false) }) (v := _) rfl (by kernel_rfl) (by kernel_rfl) (by kernel_rfl) (fun _ _ _ h => h) (by kernel_rfl) (Or.inl ⟨by rfl, ?hy24⟩) S9 ?rest24
            case hy24 => (intro W hSw; (try dsimp only at hSw); have k1 := (hSw.cell z1).trans x1; have k2 := (hSw.cell z1).trans x2; have k3 := (hSw.cell z1).trans x3; have j1 := (hSw.cell z2).trans y1; have j2 := (hSw.cell z2).trans y2; have j3 := (hSw.cell z2).trans y3; have kz := Nat.lt_of_lt_of_le z1 hSw.below.size; have jz := Nat.lt_of_lt_of_le z2 hSw.below.size; go_simp; try (with_reducible rfl))
            try simp only [Act.put, List.setIfInBounds_toArray, List.set_cons_zero, List.set_cons_succ]
            refine' wpAnyD_take (i := 5) (oi := { dst := some 49, op := Go.Op.call { callee := Go.Callee.builtin Go.Builtin.len, args := #[Go.Operand.tmp 48], argTypes := #[42] }, type := 3, pos := "multi.go:110", after := #[{ on := 4, ground := Go.Ground.data }, { on := 3, ground := Go.Ground.guard }], guard := some (3, false) }) (v := _) rfl (by kernel_rfl) (by kernel_rfl) (by kernel_rfl) (fun _ _ _ h => h) (by kernel_rfl) (Or.inl ⟨by rfl, ?hy25⟩) S9 ?rest25
            case hy25 => (intro W hSw; (try dsimp only at hSw); have k1 := (hSw.cell z1).trans x1; have k2 := (hSw.cell z1).trans x2; have k3 := (hSw.cell z1).trans x3; have j1 := (hSw.cell z2).trans y1; have j2 := (hSw.cell z2).trans y2; have j3 := (hSw.cell z2).trans y3; have kz := Nat.lt_of_lt_of_le z1 hSw.below.size; have jz := Nat.lt_of_lt_of_le z2 hSw.below.size; go_simp; try (with_reducible rfl))
            try simp only [Act.put, List.setIfInBounds_toArray, List.set_cons_zero, List.set_cons_succ]
            refine' wpAnyD_take (i := 6) (oi := { dst := some 50, op := Go.Op.binOp Go.BinOp.gtr 3 (Go.Operand.tmp 49) (Go.Operand.const (Go.Value.int Go.IntKind.i64 0)) 3, type := 4, pos := "multi.go:110", after := #[{ on := 5, ground := Go.Ground.data }, { on := 3, ground := Go.Ground.guard }], guard := some (3, false) }) (v := _) rfl (by kernel_rfl) (by kernel_rfl) (by kernel_rfl) (fun _ _ _ h => h) (by kernel_rfl) (Or.inl ⟨by rfl, ?hy26⟩) S9 ?rest26
            case hy26 => (intro W hSw; (try dsimp only at hSw); have k1 := (hSw.cell z1).trans x1; have k2 := (hSw.cell z1).trans x2; have k3 := (hSw.cell z1).trans x3; have j1 := (hSw.cell z2).trans y1; have j2 := (hSw.cell z2).trans y2; have j3 := (hSw.cell z2).trans y3; have kz := Nat.lt_of_lt_of_le z1 hSw.below.size; have jz := Nat.lt_of_lt_of_le z2 hSw.below.size; go_simp; try (with_reducible rfl))
            try simp only [Act.put, List.setIfInBounds_toArray, List.set_cons_zero, List.set_cons_succ]
            refine' wpAnyD_take (i := 7) (oi := { dst := some 51, op := Go.Op.move (Go.Operand.tmp 50), type := 4, pos := "multi.go:110", after := #[{ on := 6, ground := Go.Ground.data }, { on := 3, ground := Go.Ground.chain }, { on := 3, ground := Go.Ground.guard }], guard := some (3, false) }) (v := _) rfl (by kernel_rfl) (by kernel_rfl) (by kernel_rfl) (fun _ _ _ h => h) (by kernel_rfl) (Or.inl ⟨by rfl, ?hy27⟩) S9 ?rest27
            case hy27 => (intro W hSw; (try dsimp only at hSw); have k1 := (hSw.cell z1).trans x1; have k2 := (hSw.cell z1).trans x2; have k3 := (hSw.cell z1).trans x3; have j1 := (hSw.cell z2).trans y1; have j2 := (hSw.cell z2).trans y2; have j3 := (hSw.cell z2).trans y3; have kz := Nat.lt_of_lt_of_le z1 hSw.below.size; have jz := Nat.lt_of_lt_of_le z2 hSw.below.size; go_simp; try (with_reducible rfl))
            try simp only [Act.put, List.setIfInBounds_toArray, List.set_cons_zero, List.set_cons_succ]
            refine' wpAnyD_take (i := 8) (oi := { dst := some 52, op := Go.Op.move (Go.Operand.tmp 0), type := 42, pos := "multi.go:110", after := #[{ on := 7, ground := Go.Ground.guard }], guard := some (7, true) }) (v := _) rfl (by kernel_rfl) (by kernel_rfl) (by kernel_rfl) (fun _ _ _ h => h) (by kernel_rfl) (Or.inl ⟨by rfl, ?hy28⟩) S9 ?rest28
            case hy28 => (intro W hSw; (try dsimp only at hSw); have k1 := (hSw.cell z1).trans x1; have k2 := (hSw.cell z1).trans x2; have k3 := (hSw.cell z1).trans x3; have j1 := (hSw.cell z2).trans y1; have j2 := (hSw.cell z2).trans y2; have j3 := (hSw.cell z2).trans y3; have kz := Nat.lt_of_lt_of_le z1 hSw.below.size; have jz := Nat.lt_of_lt_of_le z2 hSw.below.size; go_simp; try (with_reducible rfl))
            try simp only [Act.put, List.setIfInBounds_toArray, List.set_cons_zero, List.set_cons_succ]
            refine' wpAnyD_take (i := 9) (oi := { dst := some 53, op := Go.Op.indexAddr 42 (Go.Operand.tmp 52) (Go.Operand.const (Go.Value.int Go.IntKind.i64 0)), type := 0, pos := "multi.go:110", after := #[{ on := 8, ground := Go.Ground.data }, { on := 7, ground := Go.Ground.guard }], guard := some (7, true) }) (v := _) rfl (by kernel_rfl) (by kernel_rfl) (by kernel_rfl) (fun _ _ _ h => h) (by kernel_rfl) (Or.inl ⟨by rfl, ?hy29⟩) S9 ?rest29
            case hy29 => (intro W hSw; (try dsimp only at hSw); have k1 := (hSw.cell z1).trans x1; have k2 := (hSw.cell z1).trans x2; have k3 := (hSw.cell z1).trans x3; have j1 := (hSw.cell z2).trans y1; have j2 := (hSw.cell z2).trans y2; have j3 := (hSw.cell z2).trans y3; have kz := Nat.lt_of_lt_of_le z1 hSw.below.size; have jz := Nat.lt_of_lt_of_le z2 hSw.below.size; go_simp; try (with_reducible rfl))
            try simp only [Act.put, List.setIfInBounds_toArray, List.set_cons_zero, List.set_cons_succ]
            refine' wpAnyD_take (i := 10) (oi := { dst := some 54, op := Go.Op.load 37 (Go.Operand.tmp 53), type := 37, pos := "multi.go:110", after := #[{ on := 9, ground := Go.Ground.data }, { on := 7, ground := Go.Ground.guard }], guard := some (7, true) }) (v := _) rfl (by kernel_rfl) (by kernel_rfl) (by kernel_rfl) (fun _ _ _ h => h) (by kernel_rfl) (Or.inl ⟨by rfl, ?hy30⟩) S9 ?rest30
            case hy30 => (intro W hSw; (try dsimp only at hSw); have k1 := (hSw.cell z1).trans x1; have k2 := (hSw.cell z1).trans x2; have k3 := (hSw.cell z1).trans x3; have j1 := (hSw.cell z2).trans y1; have j2 := (hSw.cell z2).trans y2; have j3 := (hSw.cell z2).trans y3; have kz := Nat.lt_of_lt_of_le z1 hSw.below.size; have jz := Nat.lt_of_lt_of_le z2 hSw.below.size; go_simp; try (with_reducible rfl))
            try simp only [Act.put, List.setIfInBounds_toArray, List.set_cons_zero, List.set_cons_succ]
            refine' wpAnyD_take (i := 11) (oi := { dst := some 55, op := Go.Op.move (Go.Operand.tmp 1), type := 42, pos := "multi.go:110", after := #[{ on := 7, ground := Go.Ground.guard }], guard := some (7, true) }) (v := _) rfl (by kernel_rfl) (by kernel_rfl) (by kernel_rfl) (fun _ _ _ h => h) (by kernel_rfl) (Or.inl ⟨by rfl, ?hy31⟩) S9 ?rest31
            case hy31 => (intro W hSw; (try dsimp only at hSw); have k1 := (hSw.cell z1).trans x1; have k2 := (hSw.cell z1).trans x2; have k3 := (hSw.cell z1).trans x3; have j1 := (hSw.cell z2).trans y1; have j2 := (hSw.cell z2).trans y2; have j3 := (hSw.cell z2).trans y3; have kz := Nat.lt_of_lt_of_le z1 hSw.below.size; have jz := Nat.lt_of_lt_of_le z2 hSw.below.size; go_simp; try (with_reducible rfl))
            try simp only [Act.put, List.setIfInBounds_toArray, List.set_cons_zero, List.set_cons_succ]
            refine' wpAnyD_take (i := 12) (oi := { dst := some 56, op := Go.Op.indexAddr 42 (Go.Operand.tmp 55) (Go.Operand.const (Go.Value.int Go.IntKind.i64 0)), type := 0, pos := "multi.go:110", after := #[{ on := 11, ground := Go.Ground.data }, { on := 7, ground := Go.Ground.guard }], guard := some (7, true) }) (v := _) rfl (by kernel_rfl) (by kernel_rfl) (by kernel_rfl) (fun _ _ _ h => h) (by kernel_rfl) (Or.inl ⟨by rfl, ?hy32⟩) S9 ?rest32
            case hy32 => (intro W hSw; (try dsimp only at hSw); have k1 := (hSw.cell z1).trans x1; have k2 := (hSw.cell z1).trans x2; have k3 := (hSw.cell z1).trans x3; have j1 := (hSw.cell z2).trans y1; have j2 := (hSw.cell z2).trans y2; have j3 := (hSw.cell z2).trans y3; have kz := Nat.lt_of_lt_of_le z1 hSw.below.size; have jz := Nat.lt_of_lt_of_le z2 hSw.below.size; go_simp; try (with_reducible rfl))
            try simp only [Act.put, List.setIfInBounds_toArray, List.set_cons_zero, List.set_cons_succ]
            refine' wpAnyD_take (i := 13) (oi := { dst := some 57, op := Go.Op.load 37 (Go.Operand.tmp 56), type := 37, pos := "multi.go:110", after := #[{ on := 12, ground := Go.Ground.data }, { on := 7, ground := Go.Ground.guard }], guard := some (7, true) }) (v := _) rfl (by kernel_rfl) (by kernel_rfl) (by kernel_rfl) (fun _ _ _ h => h) (by kernel_rfl) (Or.inl ⟨by rfl, ?hy33⟩) S9 ?rest33
            case hy33 => (intro W hSw; (try dsimp only at hSw); have k1 := (hSw.cell z1).trans x1; have k2 := (hSw.cell z1).trans x2; have k3 := (hSw.cell z1).trans x3; have j1 := (hSw.cell z2).trans y1; have j2 := (hSw.cell z2).trans y2; have j3 := (hSw.cell z2).trans y3; have kz := Nat.lt_of_lt_of_le z1 hSw.below.size; have jz := Nat.lt_of_lt_of_le z2 hSw.below.size; go_simp; try (with_reducible rfl))
            try simp only [Act.put, List.setIfInBounds_toArray, List.set_cons_zero, List.set_cons_succ]
            refine wpAnyD_one (i := 14) (o := { dst := some 58, op := Go.Op.call { callee := Go.Callee.value (Go.Operand.func 24), args := #[Go.Operand.tmp 54, Go.Operand.tmp 57], argTypes := #[37, 37] }, type := 3, pos := "multi.go:110", after := #[{ on := 10, ground := Go.Ground.data }, { on := 13, ground := Go.Ground.data }, { on := 7, ground := Go.Ground.chain }, { on := 7, ground := Go.Ground.guard }], guard := some (7, true) }) (by kernel_rfl) rfl (fun K hK => ?_)
            go_simp
            refine (hcmp _).mono ?_
            rintro e w8 ⟨rfl, g8⟩
            have S8 : Gr wr w8 := S9.trans g8
            go_wp2_with fail
            refine hK.out _ _ (fun hD => S8) ?_
            clear hK K
            try simp only [Act.put, List.setIfInBounds_toArray, List.set_cons_zero, List.set_cons_succ]
            refine' wpAnyD_take (i := 15) (oi := { dst := some 59, op := Go.Op.binOp Go.BinOp.lss 3 (Go.Operand.tmp 58) (Go.Operand.const (Go.Value.int Go.IntKind.i64 0)) 3, type := 4, pos := "multi.go:110", after := #[{ on := 14, ground := Go.Ground.data }, { on := 7, ground := Go.Ground.guard }], guard := some (7, true) }) (v := _) rfl (by kernel_rfl) (by kernel_rfl) (by kernel_rfl) (fun _ _ _ h => h) (by kernel_rfl) (Or.inl ⟨by rfl, ?hy35⟩) S8 ?rest35
            case hy35 => (intro W hSw; (try dsimp only at hSw); have k1 := (hSw.cell z1).trans x1; have k2 := (hSw.cell z1).trans x2; have k3 := (hSw.cell z1).trans x3; have j1 := (hSw.cell z2).trans y1; have j2 := (hSw.cell z2).trans y2; have j3 := (hSw.cell z2).trans y3; have kz := Nat.lt_of_lt_of_le z1 hSw.below.size; have jz := Nat.lt_of_lt_of_le z2 hSw.below.size; go_simp; try (with_reducible rfl))
            try simp only [Act.put, List.setIfInBounds_toArray, List.set_cons_zero, List.set_cons_succ]
            refine' wpAnyD_take (i := 16) (oi := { dst := some 60, op := Go.Op.pick (Go.Operand.tmp 51) (Go.Operand.tmp 59) (Go.Operand.const (Go.Value.bool false)), type := 4, pos := "multi.go:110", after := #[{ on := 7, ground := Go.Ground.data }, { on := 15, ground := Go.Ground.data }, { on := 3, ground := Go.Ground.guard }], guard := some (3, false) }) (v := _) rfl (by kernel_rfl) (by kernel_rfl) (by kernel_rfl) (fun _ _ _ h => h) (by kernel_rfl) (Or.inl ⟨by rfl, ?hy36⟩) S8 ?rest36
            case hy36 => (intro W hSw; (try dsimp only at hSw); have k1 := (hSw.cell z1).trans x1; have k2 := (hSw.cell z1).trans x2; have k3 := (hSw.cell z1).trans x3; have j1 := (hSw.cell z2).trans y1; have j2 := (hSw.cell z2).trans y2; have j3 := (hSw.cell z2).trans y3; have kz := Nat.lt_of_lt_of_le z1 hSw.below.size; have jz := Nat.lt_of_lt_of_le z2 hSw.below.size; go_simp; try (with_reducible rfl))
            try simp only [Act.put, List.setIfInBounds_toArray, List.set_cons_zero, List.set_cons_succ]
            refine' wpAnyD_take (i := 17) (oi := { dst := some 61, op := Go.Op.pick (Go.Operand.tmp 47) (Go.Operand.const (Go.Value.bool true)) (Go.Operand.tmp 60), type := 4, pos := "multi.go:110", after := #[{ on := 3, ground := Go.Ground.data }, { on := 16, ground := Go.Ground.data }], guard := none }) (v := _) rfl (by kernel_rfl) (by kernel_rfl) (by kernel_rfl) (fun _ _ _ h => h) (by kernel_rfl) (Or.inl ⟨by rfl, ?hy37⟩) S8 ?rest37
            case hy37 => (intro W hSw; (try dsimp only at hSw); have k1 := (hSw.cell z1).trans x1; have k2 := (hSw.cell z1).trans x2; have k3 := (hSw.cell z1).trans x3; have j1 := (hSw.cell z2).trans y1; have j2 := (hSw.cell z2).trans y2; have j3 := (hSw.cell z2).trans y3; have kz := Nat.lt_of_lt_of_le z1 hSw.below.size; have jz := Nat.lt_of_lt_of_le z2 hSw.below.size; go_simp; try (with_reducible rfl))
            try simp only [Act.put, List.setIfInBounds_toArray, List.set_cons_zero, List.set_cons_succ]
            refine' wpAnyD_take (i := 18) (oi := { dst := some 43, op := Go.Op.assign (Go.Operand.tmp 61), type := 4, pos := "multi.go:110", after := #[{ on := 17, ground := Go.Ground.data }, { on := 14, ground := Go.Ground.chain }], guard := none }) (v := _) rfl (by kernel_rfl) (by kernel_rfl) (by kernel_rfl) (fun _ _ _ h => h) (by kernel_rfl) (Or.inl ⟨by rfl, ?hy38⟩) S8 ?rest38
            case hy38 => (intro W hSw; (try dsimp only at hSw); have k1 := (hSw.cell z1).trans x1; have k2 := (hSw.cell z1).trans x2; have k3 := (hSw.cell z1).trans x3; have j1 := (hSw.cell z2).trans y1; have j2 := (hSw.cell z2).trans y2; have j3 := (hSw.cell z2).trans y3; have kz := Nat.lt_of_lt_of_le z1 hSw.below.size; have jz := Nat.lt_of_lt_of_le z2 hSw.below.size; go_simp; try (with_reducible rfl))
            try simp only [Act.put, List.setIfInBounds_toArray, List.set_cons_zero, List.set_cons_succ]
            refine wpAnyD_done (by kernel_rfl) ?_ _
            have HGw8 := hidM S8
            clear S8 S9 g8
            have HBT : Hid (btw tol l m = T ++ [(b, 1)] ++ btw tol (a :: xa) xb) := by show _ = _; rw [HI.out.2.2.1, btw, if_neg hab, if_neg (by unfold tol; rw [← HRR.out, decide_eq_false (by omega)]; decide), List.append_assoc]; rfl
            have BW := hidM (HI.out.2.2.2.2.trans (HGw8.out.below.mono HI.out.2.2.2.2.size))
            have OW := hidM (owns_below HI.out.2.2.2.1 HGw8.out.below)
            have Y1 := (HGw8.out.cell z2).trans y1
            have Y2 := (HGw8.out.cell z2).trans y2
            have Y3 := (HGw8.out.cell z2).trans y3
            have Z2 := Nat.lt_of_lt_of_le z2 HGw8.out.below.size
            clear y1 y2 y3 z2
            go_upto_region 4 with (at_builtin; refine wpApp1D rfl _ _ rfl w.heap.size _ T.length _ rfl OW.out (b, 1) rfl (by omega) BW.out.size ?_; intro g' cap' w6 ho6 hg6 hl6)
            have HO6 : Hid (w6.ownsRow w.heap.size 54 4 (.slice (some ⟨g', 0, none⟩) (T.length + 1) cap') (T ++ [(b, 1)]).length (fl ED (T ++ [(b, 1)]))) := by
              show World.ownsRow _ _ _ _ _ _ _
              rw [List.length_append, List.length_singleton, fl_append, fl_one]
              exact ho6
            have HB6 : Hid (Below w.heap.size w w6) := BW.out.trans ((Kp.grownBy (S := fun k => w.heap.size ≤ k) hg6 (fun k hk => (OW.out.lt k hk).1)).below BW.out.size (fun _ h => h))
            clear ho6 hg6 hl6
            by_cases hd1 : d = 1
            · skip
              go_wp2_with fail
              have na := HNL.out
              have nb := HNM.out
              simp only [List.length] at na nb
              refine ⟨⟨a :: xa, xb, T ++ [(b, 1)], _, _, _, _, by first | rfl | (rw [na]; rfl) | (simp only [na]; rfl), by first | rfl | (rw [nb]; rfl) | (simp only [nb]; rfl), ⟨by have h := HI.out.1; rw [HNL.out] at h; exact h, LB.out.2.1 hd1 hmc, HBT.out, HO6.out, HB6.out⟩, ?_, ?_, ?_⟩, ?_⟩
              all_goals first | omega | (simp only; omega) | (simp only [List.length]; omega)
            · skip
              go_wp2_with fail
              have na := HNL.out
              have nb := HNM.out
              simp only [List.length] at na nb
              refine ⟨⟨a :: xa, xb, T ++ [(b, 1)], _, _, _, _, by first | rfl | (rw [na]; rfl) | (simp only [na]; rfl), by first | rfl | (rw [nb]; rfl) | (simp only [nb]; rfl), ⟨by have h := HI.out.1; rw [HNL.out] at h; exact h, LB.out.1, HBT.out, HO6.out, HB6.out⟩, ?_, ?_, ?_⟩, ?_⟩
              all_goals first | omega | (simp only; omega) | (simp only [List.length]; omega)
end Go.Proofs.YtnpmmodcmfgbjaaGreat
