import Derived.Test.YtbdkjcfkocdhfaaGreatMKn2
import Derived.Test.YtbdkjcfkocdhfaaGreatMEqD
namespace Go.Proofs.YtbdkjcfkocdhfaaGreat
open Go.RowKit Go.Sort Go.Maps
open Tt (Tl byd byd_f byd_t)
attribute [local go_sem ↓] Go.wp_at_zero Go.wp_at_succ

/-- A Multi that was made behind the world W, whose blocks are as they were. -/
structure Sn (W w : World) (mb tb b cb n : Nat) (v : Value) (f : Tm → Int) (fr : List Tm) : Prop where
  mu : Mu w mb tb b cb n v f fr
  fr : IsFr f fr
  bl : Below W.heap.size W w
  zm : W.heap.size ≤ mb
  zt : W.heap.size ≤ tb
  zb : W.heap.size ≤ b
  zc : W.heap.size ≤ cb
  zv : ∀ g, v.ownBlock = some g → W.heap.size ≤ g
section
variable {W w w' : World} {mb tb b cb n : Nat} {v u : Value} {f f' : Tm → Int} {fr fr' : List Tm} {ds : List Dl}
theorem Sn.below (h : Sn W w mb tb b cb n v f fr) (hb : Below w.heap.size w w') : Sn W w' mb tb b cb n v f fr :=
  ⟨h.mu.below hb, h.fr, h.bl.trans (hb.mono h.bl.size), h.zm, h.zt, h.zb, h.zc, h.zv⟩
theorem Sn.kp {T : Nat → Prop} (h : Sn W w mb tb b cb n v f fr) (hk : Kp T w w') (h0 : ∀ k, T k → W.heap.size ≤ k) (h1 : ¬ T mb) (h2 : ¬ T tb) (h3 : ¬ T b) (h4 : ¬ T cb) (h5 : ∀ k, v.ownBlock = some k → ¬ T k) : Sn W w' mb tb b cb n v f fr :=
  ⟨h.mu.kp hk h1 h2 h3 h4 h5, h.fr, h.bl.trans (hk.below h.bl.size h0), h.zm, h.zt, h.zb, h.zc, h.zv⟩
theorem Sn.new (w : World) : Calls Tryz.prog 7 #[] w fun e w' => ∃ mb tb b cb, e = .returned (.pointer (some ⟨mb, 0, none⟩)) ∧ Sn w w' mb tb b cb 0 (.slice none 0 0) (fun _ => 0) [] := by
  refine (mnew_any w).mono ?_
  rintro e w' ⟨mb, tb, b, cb, rfl, hM, ⟨z1, z2, z3, z4⟩, hB⟩
  exact ⟨mb, tb, b, cb, rfl, hM, IsFr.nil, hB, z1, z2, z3, z4, fun g hg => by simp [Value.ownBlock] at hg⟩
/-- What Apply may turn. -/
def Tb (b cb : Nat) (v : Value) (k : Nat) : Prop := k = b ∨ k = cb ∨ v.ownBlock = some k
theorem Sn.ok (h : Sn W w mb tb b cb n v f fr) (hu : Ls ED w u ds) (hbig : n + 2 * ds.length + 1 ≤ 2199023255552) (hb : bad f ds = false) (hf : newc f ds = f') (hF' : IsFr f' fr') :
    Calls Tryz.prog 10 #[.pointer (some ⟨mb, 0, none⟩), u] w fun e w' => ∃ vo v' : Value, e = .returned (.tuple #[vo, .int .i64 0]) ∧ w'.ownsRow w.heap.size 34 4 vo (dlt fr fr').length (fl ED (dlt fr fr')) ∧ Sn W w' mb tb b cb (n + 2 * ds.length) v' f' fr' ∧
        Kp (Tb b cb v) w w' ∧ (∀ g, v'.ownBlock = some g → v.ownBlock = some g ∨ w.heap.size ≤ g) ∧ ∀ g, v'.ownBlock = some g → vo.ownBlock ≠ some g := by
  refine (apply_ok ds u w h.mu h.fr hu hbig hb hf hF').mono ?_
  rintro e w' ⟨vo, v', rfl, ho, hM, hK, hV, hN⟩
  refine ⟨vo, v', rfl, ho, ⟨hM, hF', h.bl.trans (hK.below h.bl.size fun k hk => ?_), h.zm, h.zt, h.zb, h.zc, fun g hg => ?_⟩, hK, hV, hN⟩
  · rcases hk with rfl | rfl | hk
    · exact h.zb
    · exact h.zc
    · exact h.zv _ hk
  · rcases hV g hg with h1 | h1
    · exact h.zv _ h1
    · exact Nat.le_trans h.bl.size h1
theorem Sn.bad (h : Sn W w mb tb b cb n v f fr) (hu : Ls ED w u ds) (hbig : n + 2 * ds.length + 1 ≤ 2199023255552) (hb : bad f ds = true) :
    Calls Tryz.prog 10 #[.pointer (some ⟨mb, 0, none⟩), u] w fun e w' => e = .returned (.tuple #[.slice none 0 0, .int .i64 12]) ∧ Below w.heap.size w w' := by
  refine (apply_any ds u w h.mu h.fr hu hbig).mono ?_
  rintro e w' (⟨_, rfl, h1⟩ | ⟨h1, _⟩)
  · exact ⟨rfl, h1⟩
  · rw [hb] at h1; cases h1
end

/-- One time's count alone. -/
def fx (x : Tm) (c : Int) : Tm → Int := upd (fun _ => 0) x c
def frx (x : Tm) (c : Int) : List Tm := if 0 < c then [x] else []
theorem fx_at (x : Tm) (c : Int) : fx x c x = c := upd_same _ _ _
theorem fx_zero (x : Tm) : (fun _ => 0) = fx x 0 := by funext t; unfold fx upd; split <;> rfl
theorem frx_is (x : Tm) (c : Int) : IsFr (fx x c) (frx x c) := by
  unfold frx
  by_cases hc : 0 < c
  · rw [if_pos hc]
    refine ⟨by simp [Good], fun y hy => by simp at hy; subst hy; rw [fx_at]; exact hc, fun y hy => ?_⟩
    have : y = x := by
      by_cases h : y = x
      · exact h
      · rw [fx, upd_other _ _ h] at hy; omega
    subst this
    exact ccov_true.2 ⟨y, by simp, ords.refl y⟩
  · rw [if_neg hc]
    refine ⟨good_nil, fun y hy => by simp at hy, fun y hy => ?_⟩
    by_cases h : y = x
    · subst h; rw [fx_at] at hy; omega
    · rw [fx, upd_other _ _ h] at hy; omega
theorem newc_one (x : Tm) (c a : Int) : newc (fx x c) [(x, a)] = fx x (wrap64 (wrap64 (0 + a) + c)) := by
  funext t
  simp only [newc, sm, fx, List.foldl_cons, List.foldl_nil]
  unfold upd
  by_cases h : t = x
  · rw [if_pos h, if_pos h, if_pos h]
  · rw [if_neg h, if_neg h, if_neg h]
    show wrap64 (0 + 0) = 0
    unfold wrap64; omega
theorem newc_two (x : Tm) (c a d : Int) : newc (fx x c) [(x, a), (x, d)] = fx x (wrap64 (wrap64 (wrap64 (0 + a) + d) + c)) := by
  funext t
  simp only [newc, sm, fx, List.foldl_cons, List.foldl_nil]
  unfold upd
  by_cases h : t = x
  · simp [h]
  · simp [h]
    unfold wrap64; omega
theorem bad_one (x : Tm) (c a : Int) : bad (fx x c) [(x, a)] = (byd a || byd (wrap64 (wrap64 (0 + a) + c))) := by
  unfold bad
  rw [newc_one]
  simp [fx_at]
theorem bad_two (x : Tm) (c a d : Int) : bad (fx x c) [(x, a), (x, d)] = ((byd a || byd d) || byd (wrap64 (wrap64 (wrap64 (0 + a) + d) + c))) := by
  unfold bad
  rw [newc_two]
  simp [fx_at]
end Go.Proofs.YtbdkjcfkocdhfaaGreat

namespace Go.Proofs.YtbdkjcfkocdhfaaGreat
open Go.RowKit Go.Sort
attribute [local go_sem ↓] Go.wp_at_zero Go.wp_at_succ

theorem teq_t {s t : Tm} (h : s = t) : teq s.1.1 s.1.2.1 s.1.2.2 t.1.1 t.1.2.1 t.1.2.2 = true := by rw [teq_dec]; simpa using h
theorem teq_f {s t : Tm} (h : s ≠ t) : teq s.1.1 s.1.2.1 s.1.2.2 t.1.1 t.1.2.1 t.1.2.2 = false := by rw [teq_dec]; simpa using h
set_option maxHeartbeats 1000000 in
theorem tms_any (va vb : Value) (ta tb : List Tm) (w : World) (ha : Ls ET w va ta) (hb : Ls ET w vb tb) (hl : ta.length ≤ maxLen) :
    Calls Tryz.prog 12 #[va, vb] w fun e w' => e = .returned (.bool (decide (ta = tb))) ∧ Gr w w' := by
  unfold maxLen at hl
  obtain ⟨pa, ca, rfl⟩ := ha.form
  obtain ⟨pb, cb, rfl⟩ := hb.form
  have heq := fun a b c x y z W => run_eqT a b c x y z W
  have hm : Tryz.prog.follows .mixedOrders = true := by kernel_rfl
  by_cases hlen : ta.length = tb.length
  · have hne : ((ta.length : Int) != (tb.length : Int)) = false := by simp [hlen]
    have Hlen : Hid (ta.length = tb.length) := hlen
    have Ha : Hid (Ls ET w (.slice pa ta.length ca) ta) := ha
    have Hb : Hid (Ls ET w (.slice pb tb.length cb) tb) := hb
    clear ha hb hlen
    go_enter Tryz.func12, Tryz.ntmps12
    go_wp2
    go_loopw [5] (fun s5 wr => ∃ k : Nat, k ≤ ta.length ∧ s5 = .int .i64 k ∧ Gr w wr ∧ Hid (ta.take k = tb.take k)) (fun s5 _ => ta.length - (RowKit.intOf s5).toNat)
    case atStart => exact ⟨0, Nat.zero_le _, rfl, Gr.refl _, rfl⟩
    case round =>
      obtain ⟨k, hk, rfl, hgr, HTK⟩ := hrel
      by_cases hlt : k < ta.length
      · have hltz : (k : Int) < (ta.length : Int) := by omega
        have hltz2 : (k : Int) < (tb.length : Int) := by have := Hlen.out; omega
        obtain ⟨s, hs⟩ : ∃ s, ta[k]? = some s := ⟨ta[k], by simp⟩
        obtain ⟨t, ht⟩ : ∃ t, tb[k]? = some t := ⟨tb[k]'(by omega), by simp⟩
        obtain ⟨b1, o1, c1, e1, z1, x1, x2, x3⟩ := (Ha.out.below hgr.below).at3 hs
        obtain ⟨b2, o2, c2, e2, z2, y1, y2, y3⟩ := (Hb.out.below hgr.below).at3 ht
        simp only [Value.slice.injEq] at e1 e2
        obtain ⟨rfl, -, rfl⟩ := e1
        obtain ⟨rfl, -, rfl⟩ := e2
        have HS : Hid (ta[k]? = some s) := hs
        have HT : Hid (tb[k]? = some t) := ht
        clear hs ht
        by_cases hst : s = t
        · have hq := teq_t hst
          have HST : Hid (s = t) := hst
          clear hst
          go_wp2_with fail
          go_region
          all_goals go_wp2
          all_goals exact ⟨⟨k + 1, by omega, by go_num, hgr.drew, take_same HTK.out HS.out (by rw [HST.out]; exact HT.out)⟩, by simp [RowKit.intOf]; omega⟩
        · have hq := teq_f hst
          have HST : Hid (s ≠ t) := hst
          clear hst
          go_wp2_with fail
          go_region
          all_goals go_wp2
          all_goals go_ret
          all_goals refine ⟨?_, hgr.drew⟩
          all_goals rw [decide_eq_false (fun e => HST.out (Option.some.inj (HS.out.symm.trans ((congrArg (·[k]?) e).trans HT.out))))]
          all_goals rfl
      · have hltz : ¬ (k : Int) < (ta.length : Int) := by omega
        go_wp2
        go_ret
        refine ⟨?_, hgr⟩
        have h1 := HTK.out
        rw [List.take_of_length_le (by omega), List.take_of_length_le (by have := Hlen.out; omega)] at h1
        rw [decide_eq_true h1]
        rfl
  · have hne : ((ta.length : Int) != (tb.length : Int)) = true := by simp; omega
    have hd : decide (ta = tb) = false := decide_eq_false (fun h => hlen (by rw [h]))
    rw [hd]
    clear ha hb hlen
    go_enter Tryz.func12, Tryz.ntmps12
    go_wp2
    go_ret
    exact ⟨rfl, Gr.refl _⟩

end Go.Proofs.YtbdkjcfkocdhfaaGreat

namespace Go.Proofs.YtbdkjcfkocdhfaaGreat
open Go.RowKit Go.Sort Go.Maps
open Tt (Tl byd byd_f byd_t)
attribute [local go_sem ↓] Go.wp_at_zero Go.wp_at_succ

theorem times_any {mb tb b cb n : Nat} {v : Value} {f : Tm → Int} {fr : List Tm} (w : World) (h : Mu w mb tb b cb n v f fr) (hn : n * 24 ≤ 140737488355328) :
    Calls Tryz.prog 11 #[.pointer (some ⟨mb, 0, none⟩)] w fun e w' => ∃ (v : Value) (ks : List Tm), Sup f ks ∧ e = .returned v ∧ w'.ownsRow w.heap.size 32 3 v (stT ks).length (flT (stT ks)) ∧ Below w.heap.size w w' := by
  have hk := mtimes_any w h.tl hn
  have m0 := h.c0
  have hml := h.lt
  clear h
  go_enter Tryz.func11, Tryz.ntmps11
  go_wp2_with fail
  refine hk.mono ?_
  rintro e w1 ⟨v1, ks, hS, rfl, ho, hv, hb⟩
  go_wp2
  go_ret
  exact ⟨_, ks, hS, rfl, ho, hb⟩

/-- 'append(own, d)' as a step of a region that draws: d lies in the newest block. -/
theorem step_app1D {w : World} {ops : Array Oper} {o : Oper} {a : Act} {K : Act → World → Prop} {Q : Exit → Act → World → Prop} {E' : Prop} (hgd : o.guard = none) (s x : Operand)
    (ho : o.op = .call { callee := .builtin .append, args := #[s, x], argTypes := #[22, 22] })
    (base : Nat) (v : Value) (n : Nat) (xs : List Value) (hs : a.eval s = v) (hown : w.ownsRow base 34 4 v n xs)
    (t : Dl) (hx : a.eval x = .slice (some ⟨w.heap.size, 0, none⟩) 1 1) (hbig : (n + 1) * 32 ≤ 140737488355328) (hbase : base ≤ w.heap.size)
    (h : ∀ g cap w', w'.ownsRow base 34 4 (.slice (some ⟨g, 0, none⟩) (n + 1) cap) (n + 1) (xs ++ ED.enc t) → w.grownBy w' v.ownBlock → K (a.put o.dst (.slice (some ⟨g, 0, none⟩) (n + 1) cap)) w') :
    if Region.wanted o (yielded ops a.tmps) = true then Oper.wp Tryz.prog o a (w.alloc (.cells #[.int .u64 t.1.1.1, .int .u64 t.1.1.2.1, .int .u64 t.1.1.2.2, .int .i64 t.2] 34)) K Q else E' := by
  obtain ⟨i0, hi, hz0, hz1, hz2⟩ := info_parts infoDl
  refine step_append_lies _ hgd s x _ ho base 34 i0 _ 4 32 Tryz.underlying22 hi hz0 hz1 hz2 rfl (by decide) v n xs hs (hown.alloc _) ⟨w.heap.size, 0, none⟩ 1 1 (ED.enc t) hx rfl (World.news_of_block (heap_new' _ _)) (ED.one t) (by decide) (by unfold maxLen; omega) hbig (by simp; omega) _ rfl ?_
  intro g cap w' h1 h2 _ _
  exact h g cap w' h1 ⟨h2.os, h2.tape, h2.output, Nat.le_trans (by simp) h2.size, fun k hk hne => (h2.block k (by simp; omega) hne).trans ((World.grownBy_alloc w _ none).block k hk (by simp))⟩

/-- Deltas whose counts can't leave their range. -/
def sml (l : List Dl) : List Dl := (l.take 1000).map fun d => (d.1, Int.tmod d.2 1000)
theorem sml_length (l : List Dl) : (sml l).length ≤ 1000 := by simp [sml]; omega
theorem tmod_bd (z : Int) : -999 ≤ Int.tmod z 1000 ∧ Int.tmod z 1000 ≤ 999 := by
  have h1 := Int.tmod_lt_of_pos z (show (0 : Int) < 1000 by decide)
  have h2 := Int.lt_tmod_of_pos z (show (0 : Int) < 1000 by decide)
  omega
theorem sml_bd (l : List Dl) : ∀ d ∈ sml l, -999 ≤ d.2 ∧ d.2 ≤ 999 := by
  intro d hd
  obtain ⟨e, _, rfl⟩ := List.mem_map.1 hd
  exact tmod_bd e.2
set_option maxHeartbeats 1000000 in
set_option maxRecDepth 100000 in
theorem small_any (v : Value) (l : List Dl) (w : World) (hv : Ls ED w v l) (hl : l.length ≤ 9223372036854775807) :
    Calls Tryz.prog 9 #[v] w fun e w' => ∃ v', e = .returned v' ∧ w'.ownsRow w.heap.size 34 4 v' (sml l).length (fl ED (sml l)) ∧ Below w.heap.size w w' := by
  have hmx : Tryz.prog.follows .mixedOrders = true := by kernel_rfl
  obtain ⟨pl, cl, rfl⟩ := hv.form
  have HL : Hid (Ls ED w (.slice pl l.length cl) l) := hv
  clear hv
  go_enter Tryz.func9, Tryz.ntmps9
  go_wp2_with fail
  go_loopw [3, 4] (fun s3 s4 wr => ∃ k : Nat, k ≤ l.length ∧ k ≤ 1000 ∧ s4 = .int .i64 k ∧ Hid (wr.ownsRow w.heap.size 34 4 s3 k (fl ED ((l.take k).map fun d => (d.1, Int.tmod d.2 1000))) ∧ Below w.heap.size w wr)) (fun _ s4 _ => l.length - (RowKit.intOf s4).toNat)
  case atStart => exact ⟨0, Nat.zero_le _, by omega, rfl, World.ownsRow_nil _ _ _ _, Below.refl _ _⟩
  case round =>
    obtain ⟨k, hk, hk2, rfl, HI⟩ := hrel
    by_cases hlt : k < l.length
    · have hltz : (k : Int) < (l.length : Int) := by omega
      by_cases hlt2 : k < 1000
      · have hltz2 : (k : Int) < 1000 := by omega
        obtain ⟨d, hd⟩ : ∃ d, l[k]? = some d := ⟨l[k], by simp⟩
        obtain ⟨b1, o1, c1, e1, z1, x1, x2, x3, x4⟩ := (HL.out.below HI.out.2).at4 hd
        simp only [Value.slice.injEq] at e1
        obtain ⟨rfl, -, rfl⟩ := e1
        have HT : Hid ((l.take (k + 1)).map (fun d => (d.1, Int.tmod d.2 1000)) = (l.take k).map (fun d => (d.1, Int.tmod d.2 1000)) ++ [(d.1, Int.tmod d.2 1000)]) := by
          show _ = _
          rw [List.take_add_one, hd, List.map_append]; rfl
        have ho := owns_below HI.out.1 (Gr.refl wr).drew.below
        clear hd
        have hbz := HI.out.2.size
        go_wp2_with fail
        go_region_law (refine step_app1D rfl (.tmp 15) (.tmp 28) rfl w.heap.size _ k _ (by simp [Act.eval]) ho (d.1, Int.tmod d.2 1000) (by simp [Act.eval]) (by omega) hbz ?_; intro g' cap' w6 ho6 hg6)
        all_goals go_wp2
        all_goals go_roundw
        case rel | rel =>
          refine ⟨k + 1, by omega, by omega, by go_num, ?_, HI.out.2.trans ((Gr.refl wr).drew.below.mono hbz |>.trans ((Kp.grownBy (S := fun j => w.heap.size ≤ j) hg6 (fun j hj => (ho.lt j hj).1)).below hbz (fun _ h => h)))⟩
          rw [HT.out, fl_append, fl_one]
          exact ho6
        case measure | measure => simp [RowKit.intOf]; omega
      · have hltz2 : ¬ (k : Int) < 1000 := by omega
        have hk3 : k = 1000 := by omega
        subst hk3
        go_wp2
        go_ret
        refine ⟨_, rfl, ?_, HI.out.2⟩
        refine owns_re HI.out.1 ?_ rfl
        simp [sml]; omega
    · have hltz : ¬ (k : Int) < (l.length : Int) := by omega
      have hkl : k = l.length := by omega
      subst hkl
      go_wp2
      go_ret
      refine ⟨_, rfl, ?_, HI.out.2⟩
      refine owns_re HI.out.1 ?_ ?_
      · simp [sml]; omega
      · rw [sml, List.take_of_length_le (Nat.le_refl _), List.take_of_length_le hk2]
end Go.Proofs.YtbdkjcfkocdhfaaGreat

namespace Go.Proofs.YtbdkjcfkocdhfaaGreat
open Go.RowKit Go.Sort Go.Maps
open Tt (Tl byd byd_f byd_t)

/-- The sum of a time's deltas. -/
def isum (ds : List Dl) (t : Tm) : Int := (ds.map fun d => if d.1 = t then d.2 else 0).sum
theorem isum_nil (t : Tm) : isum [] t = 0 := rfl
theorem isum_cons (d : Dl) (ds : List Dl) (t : Tm) : isum (d :: ds) t = (if d.1 = t then d.2 else 0) + isum ds t := by simp [isum]
theorem isum_append (a b : List Dl) (t : Tm) : isum (a ++ b) t = isum a t + isum b t := by simp [isum]
def Lo9 (ds : List Dl) : Prop := ∀ d ∈ ds, -999 ≤ d.2 ∧ d.2 ≤ 999
theorem isum_bd {ds : List Dl} (h : Lo9 ds) (t : Tm) : -(999 * (ds.length : Int)) ≤ isum ds t ∧ isum ds t ≤ 999 * (ds.length : Int) := by
  induction ds with
  | nil => simp [isum_nil]
  | cons d ds ih =>
    have h1 := ih (fun e he => h e (List.mem_cons_of_mem _ he))
    have h2 := h d (by simp)
    rw [isum_cons, List.length_cons]
    split <;> omega
theorem isum_other {ds : List Dl} {t : Tm} (h : t ∉ ds.map Prod.fst) : isum ds t = 0 := by
  induction ds with
  | nil => rfl
  | cons d ds ih =>
    rw [isum_cons, ih (fun h' => h (by simp at h' ⊢; exact Or.inr h')), if_neg (fun e => h (by rw [← e]; simp))]
    rfl
theorem sm_fold (ds : List Dl) (h : Lo9 ds) (g : Tm → Int) (hg : ∀ t, -1000000000000 + 999 * (ds.length : Int) ≤ g t ∧ g t ≤ 1000000000000 - 999 * (ds.length : Int)) (t : Tm) :
    ds.foldl (fun g d => upd g d.1 (wrap64 (g d.1 + d.2))) g t = g t + isum ds t := by
  induction ds generalizing g with
  | nil => simp [isum_nil]
  | cons d ds ih =>
    have h2 := h d (by simp)
    have h3 : wrap64 (g d.1 + d.2) = g d.1 + d.2 := by
      have := hg d.1
      simp only [List.length_cons] at this
      exact wrap_small (by omega)
    rw [List.foldl_cons, ih (fun e he => h e (List.mem_cons_of_mem _ he)), isum_cons, h3]
    · unfold upd
      by_cases e : t = d.1
      · rw [if_pos e, if_pos e.symm, e]; omega
      · rw [if_neg e, if_neg (fun e' => e e'.symm)]; omega
    · intro s
      rw [h3]
      have h4 := hg s
      have h5 := hg d.1
      simp only [List.length_cons] at h4 h5
      unfold upd
      split <;> omega
theorem sm_isum {ds : List Dl} (h : Lo9 ds) (hl : ds.length ≤ 1000000) (t : Tm) : sm ds t = isum ds t := by
  unfold sm
  rw [sm_fold ds h _ (fun s => by omega)]
  omega
theorem newc_isum {f : Tm → Int} {ds : List Dl} (h : Lo9 ds) (hl : ds.length ≤ 1000000) (hf : ∀ t, -1000000000000 ≤ f t ∧ f t ≤ 1000000000000) : newc f ds = fun t => isum ds t + f t := by
  funext t
  unfold newc
  rw [sm_isum h hl]
  have h1 := isum_bd h t
  have h2 := hf t
  exact wrap_small (by omega)
theorem bad_small {f : Tm → Int} {ds : List Dl} (h : Lo9 ds) (hl : ds.length ≤ 1000000) (hf : ∀ t, -1000000000 ≤ f t ∧ f t ≤ 1000000000) : bad f ds = false := by
  unfold bad
  rw [newc_isum h hl (fun t => by have := hf t; omega), Bool.or_eq_false_iff, List.any_eq_false, List.any_eq_false]
  refine ⟨fun d hd => ?_, fun d hd => ?_⟩
  · have := h d hd
    rw [byd_f.2 (by omega)]; simp
  · have h1 := isum_bd h d.1
    have h2 := hf d.1
    have h3 : byd (isum ds d.1 + f d.1) = false := byd_f.2 (by omega)
    show ¬ byd (isum ds d.1 + f d.1) = true
    rw [h3]; simp
theorem sml_lo (l : List Dl) : Lo9 (sml l) := sml_bd l
section
variable {W w : World} {mb tb b cb n : Nat} {v u : Value} {f f' : Tm → Int} {fr : List Tm} {ds : List Dl}
/-- Apply of small deltas. -/
theorem Sn.small (h : Sn W w mb tb b cb n v f fr) (hu : Ls ED w u ds) (hbig : n + 2 * ds.length + 1 ≤ 2199023255552) (hd : Lo9 ds) (hl : ds.length ≤ 1000000) (hf : ∀ t, -1000000000 ≤ f t ∧ f t ≤ 1000000000) (hf' : f' = fun t => isum ds t + f t) :
    Calls Tryz.prog 10 #[.pointer (some ⟨mb, 0, none⟩), u] w fun e w' => ∃ (vo v' : Value) (fr' : List Tm), e = .returned (.tuple #[vo, .int .i64 0]) ∧ w'.ownsRow w.heap.size 34 4 vo (dlt fr fr').length (fl ED (dlt fr fr')) ∧ Sn W w' mb tb b cb (n + 2 * ds.length) v' f' fr' ∧
        Kp (Tb b cb v) w w' ∧ (∀ g, v'.ownBlock = some g → v.ownBlock = some g ∨ w.heap.size ≤ g) ∧ ∀ g, v'.ownBlock = some g → vo.ownBlock ≠ some g := by
  have hn : newc f ds = f' := by rw [newc_isum hd hl (fun t => by have := hf t; omega), hf']
  refine (apply_any ds u w h.mu h.fr hu hbig).mono ?_
  rintro e w' (⟨h1, _⟩ | ⟨_, vo, v', fr', hF, rfl, ho, hM, hK, hV, hN⟩)
  · rw [bad_small hd hl hf] at h1; cases h1
  · rw [hn] at hF hM
    refine ⟨vo, v', fr', rfl, ho, ⟨hM, hF, h.bl.trans (hK.below h.bl.size fun k hk => ?_), h.zm, h.zt, h.zb, h.zc, fun g hg => ?_⟩, hK, hV, hN⟩
    · rcases hk with rfl | rfl | hk
      · exact h.zb
      · exact h.zc
      · exact h.zv _ hk
    · rcases hV g hg with h1 | h1
      · exact h.zv _ h1
      · exact Nat.le_trans h.bl.size h1
end
end Go.Proofs.YtbdkjcfkocdhfaaGreat
