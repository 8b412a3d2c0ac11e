import Derived.Test.YtdnnfgabdkkdjaaGreatJ14
import Derived.Test.YtdnnfgabdkkdjaaGreatJ18
import Derived.Test.YtdnnfgabdkkdjaaGreatJ7
namespace Go.Proofs.YtdnnfgabdkkdjaaGreat.Lf
open Go.RowKit Go.Sort Pt
attribute [local go_sem ↓] Go.wp_at_zero Go.wp_at_succ
set_option maxHeartbeats 1000000 in
theorem ron_any (a b : Tri) (w : World) : Calls Tryz.prog 21 #[Pc.tv a, Pc.tv b] w fun e w' => e = .returned (.tuple #[Pc.tv (thv a b), .bool (thn3 a b).isSome]) ∧ Below w.heap.size w w' := by
 have ha := fun W => rthen_any a b W
 have ht := fun W => rtime_any (thv a b) W
 generalize thv a b = r at ha ht ⊢
 generalize (thn3 a b).isSome = ok at ha ⊢
 unfold Pc.tv at ha ht ⊢
 go_enter Tryz.func21, Tryz.ntmps21
 go_wp2_with fail
 refine (ha _).mono ?_
 rintro e w1 ⟨rfl, g1⟩
 have hz1 : w.heap.size + 2 < w1.heap.size := by have := g1.size; simp at this; omega
 have hz1a : w.heap.size + 1 + 1 < w1.heap.size := by omega
 have hz1b : w.heap.size + 1 + 1 < w1.heap.size + 1 := by omega
 have hz1c : w.heap.size + 1 + 1 ≠ w1.heap.size := by omega
 obtain ⟨hc1, hf1⟩ := g1.cells
 go_wp2_with fail
 refine (ht _).mono ?_
 rintro e w2 ⟨rfl, g2⟩
 have g3 : Gr w w2 := (((((Gr.refl w).alloc _).alloc _).alloc _).trans g1).trans (((Gr.refl w1).alloc _).trans g2)
 have hB := g3.below
 clear g3
 have hz2 : w.heap.size + 1 + 1 < w2.heap.size := by have := g2.size; simp at this; omega
 obtain ⟨hc2, hf2⟩ := g2.cells
 have hfz : ∀ o, w2.frozen? ⟨w.heap.size + 1 + 1, o, none⟩ = false := fun o => by
  rw [hf2 _ _ (by simp; omega)]
  have e1 : (w1.alloc (.cells #[.int .u64 r.1.1, .int .u64 r.1.2.1, .int .u64 r.1.2.2] 39)).frozen? ⟨w.heap.size + 1 + 1, o, none⟩ = w1.frozen? ⟨w.heap.size + 1 + 1, o, none⟩ := ((Gr.refl w1).alloc _).frozen (by omega)
  rw [e1, hf1 _ _ (by simp)]
  have hn := heap_new' ((w.alloc (.cells #[.int .u64 a.1.1, .int .u64 a.1.2.1, .int .u64 a.1.2.2] 39)).alloc (.cells #[.int .u64 b.1.1, .int .u64 b.1.2.1, .int .u64 b.1.2.2] 50)) (.cells #[.int .u64 0, .int .u64 0, .int .u64 0] 50)
  have hs : ((w.alloc (.cells #[.int .u64 a.1.1, .int .u64 a.1.2.1, .int .u64 a.1.2.2] 39)).alloc (.cells #[.int .u64 b.1.1, .int .u64 b.1.2.1, .int .u64 b.1.2.2] 50)).heap.size = w.heap.size + 1 + 1 := by simp
  rw [hs] at hn
  unfold World.frozen?
  rw [hn]
  simp
 go_wp2
 refine bodyPost_ret (v := .tuple #[Pc.tv r, .bool ok]) (by simp [results, Tryz.results21, go_sem, *]) rfl ⟨rfl, ?_⟩
 have k : w.heap.size ≤ w.heap.size + 1 + 1 := by omega
 exact ((hB.setCell (p := ⟨w.heap.size + 1 + 1, 0, none⟩) k _).setCell (p := ⟨w.heap.size + 1 + 1, 1, none⟩) k _).setCell (p := ⟨w.heap.size + 1 + 1, 2, none⟩) k _
end Go.Proofs.YtdnnfgabdkkdjaaGreat.Lf

namespace Go.Proofs.YtdnnfgabdkkdjaaGreat.Lf
open Go.RowKit Go.Sort Pt
open Df (hid LV EL tk_store tk_lt ls_atL)
attribute [local go_sem ↓] Go.wp_at_zero Go.wp_at_succ
def Tv (M : Nat) (w : World) (tv : Value) (n : Nat) (R : Nat → Nat → List Tri) : Prop := (tv = .pointer none ∧ n = 0) ∨ ∃ tb, tv = .pointer (some ⟨tb, 0, none⟩) ∧ TP M w tb n R
theorem Tv.keep {M n : Nat} {w w' : World} {tv : Value} {R : Nat → Nat → List Tri} (h : Tv M w tv n R) (hb : Below M w w') : Tv M w' tv n R := by
 rcases h with h | ⟨tb, h1, h2⟩
 ·exact Or.inl h
 ·exact Or.inr ⟨tb, h1, h2.keep hb⟩
def bt (n : Nat) (R : Nat → Nat → List Tri) (p q : Int) : List Tri := if (0 ≤ p ∧ p < n) ∧ 0 ≤ q ∧ q < n then R p.toNat q.toNat else []
theorem bt_in {n p q : Nat} {R : Nat → Nat → List Tri} (hp : p < n) (hq : q < n) : bt n R p q = R p q := by
 unfold bt
 rw [if_pos ⟨⟨by omega, by omega⟩, by omega, by omega⟩]
 simp
theorem Tq.at {M n : Nat} {w : World} {v : Value} {R : Nat → Nat → List Tri} (h : Tq M w v n R) : ∃ ps cs, v = .slice ps n cs ∧ ∀ p q, p < n → q < n → ∃ b off b2 o2 c2 pq cq, ps = some ⟨b, off, none⟩ ∧ b < w.heap.size ∧ w.cell? ⟨b, off + p, none⟩ = some (.slice (some ⟨b2, o2, none⟩) n c2) ∧ b2 < w.heap.size ∧ w.cell? ⟨b2, o2 + q, none⟩ = some (.slice pq (R p q).length cq) ∧ Lq Pc.ET M w (.slice pq (R p q).length cq) (R p q) := by
 obtain ⟨us, h1, h2, h3⟩ := h
 obtain ⟨ps, cs, e⟩ := h1.1.form
 rw [h2] at e
 refine ⟨ps, cs, e, fun p q hp hq => ?_⟩
 obtain ⟨u, hu⟩ : ∃ u, us[p]? = some u := ⟨us[p]'(by omega), by simp⟩
 obtain ⟨vs, a1, a2, a3⟩ := h3 p u hu
 obtain ⟨x, hx⟩ : ∃ x, vs[q]? = some x := ⟨vs[q]'(by omega), by simp⟩
 obtain ⟨b, off, c, e1, hb, hc⟩ := ls_atL h1.1 hu
 rw [e] at e1
 simp only [Value.slice.injEq] at e1
 obtain ⟨b2, o2, c2, e2, hb2, hc2⟩ := ls_atL a1.1 hx
 rw [a2] at e2
 have hx3 := a3 q x hx
 obtain ⟨pq, cq, e3⟩ := hx3.1.form
 rw [e3] at hc2 hx3
 rw [e2] at hc
 exact ⟨b, off, b2, o2, c2, pq, cq, e1.1, hb, hc, hb2, hc2, hx3⟩
theorem places_any {M n : Nat} {tv : Value} {R : Nat → Nat → List Tri} (w : World) (h : Tv M w tv n R) : Calls Tryz.prog 29 #[tv] w fun e w' => e = .returned (.int .i64 (n : Nat)) ∧ w' = w := by
 rcases h with ⟨rfl, rfl⟩ | ⟨tb, rfl, v, h1, _, h3⟩
 ·go_enter Tryz.func29, Tryz.ntmps29
  go_wp2
  go_ret
  exact ⟨rfl, rfl⟩
 ·obtain ⟨ps, cs, rfl, _⟩ := h3.at
  have c1 := (tk_store h1).1
  have l1 := tk_lt h1
  clear h1 h3
  go_enter Tryz.func29, Tryz.ntmps29
  go_wp2
  go_ret
  exact ⟨rfl, rfl⟩
theorem among_any (x : Int) (n : Nat) (b : Bool) (hb : b = decide (0 ≤ x ∧ x < n)) (w : World) : Calls Tryz.prog 63 #[.int .i64 x, .int .i64 (n : Nat)] w fun e w' => e = .returned (.bool b) ∧ w' = w := by
 by_cases h0 : 0 ≤ x
 ·by_cases h1 : x < n
  ·have e : b = true := by rw [hb]; simp; omega
   subst e
   clear hb
   go_enter Tryz.func63, Tryz.ntmps63
   go_wp2
   go_ret
   exact ⟨rfl, rfl⟩
  ·have e : b = false := by rw [hb]; simp; omega
   subst e
   clear hb
   go_enter Tryz.func63, Tryz.ntmps63
   go_wp2
   go_ret
   exact ⟨rfl, rfl⟩
 ·have e : b = false := by rw [hb]; simp; omega
  subst e
  clear hb
  go_enter Tryz.func63, Tryz.ntmps63
  go_wp2
  go_ret
  exact ⟨rfl, rfl⟩
set_option maxHeartbeats 1000000 in
theorem between_any {M n : Nat} {tv : Value} {R : Nat → Nat → List Tri} (p q : Int) (w : World) (h : Tv M w tv n R) : Calls Tryz.prog 37 #[tv, .int .i64 p, .int .i64 q] w fun e w' => ∃ pp c, e = .returned (.slice pp (bt n R p q).length c) ∧ w' = w ∧ Lq Pc.ET M w (.slice pp (bt n R p q).length c) (bt n R p q) := by
 obtain ⟨bp, hbp⟩ : ∃ b, b = decide (0 ≤ p ∧ p < (n : Int)) := ⟨_, rfl⟩
 obtain ⟨bq, hbq⟩ : ∃ b, b = decide (0 ≤ q ∧ q < (n : Int)) := ⟨_, rfl⟩
 have hpl := places_any w h
 have hap := among_any p n bp hbp w
 have haq := among_any q n bq hbq w
 have HT := hid h
 have HBP := hid hbp
 have HBQ := hid hbq
 clear h hbp hbq
 cases bp with
 | false =>
  have HE : Hid (bt n R p q = []) := by
   unfold bt
   rw [if_neg (fun h => ?_)]
   ·exact rfl
   ·have := HBP.out
    rw [decide_eq_true h.1] at this
    cases this
  rw [HE.out]
  go_enter Tryz.func37, Tryz.ntmps37
  go_wp2_with fail
  refine hpl.mono ?_
  rintro e w1 ⟨rfl, hw1⟩
  rw [hw1]
  clear hw1
  go_wp2_with fail
  refine hap.mono ?_
  rintro e w2 ⟨rfl, hw2⟩
  rw [hw2]
  clear hw2
  go_wp2
  go_ret
  exact ⟨none, 0, rfl, rfl, Ls.nil w, fun k hk => by simp [Value.ownBlock] at hk⟩
 | true =>
  cases bq with
  | false =>
   have HE : Hid (bt n R p q = []) := by
    unfold bt
    rw [if_neg (fun h => ?_)]
    ·exact rfl
    ·have := HBQ.out
     rw [decide_eq_true h.2] at this
     cases this
   rw [HE.out]
   go_enter Tryz.func37, Tryz.ntmps37
   go_wp2_with fail
   refine hpl.mono ?_
   rintro e w1 ⟨rfl, hw1⟩
   rw [hw1]
   clear hw1
   go_wp2_with fail
   refine hap.mono ?_
   rintro e w2 ⟨rfl, hw2⟩
   rw [hw2]
   clear hw2
   go_wp2_with fail
   refine hpl.mono ?_
   rintro e w3 ⟨rfl, hw3⟩
   rw [hw3]
   clear hw3
   go_wp2_with fail
   refine haq.mono ?_
   rintro e w4 ⟨rfl, hw4⟩
   rw [hw4]
   clear hw4
   go_wp2
   go_ret
   exact ⟨none, 0, rfl, rfl, Ls.nil w, fun k hk => by simp [Value.ownBlock] at hk⟩
  | true =>
   obtain ⟨h1, h2⟩ := of_decide_eq_true HBP.out.symm
   obtain ⟨h3, h4⟩ := of_decide_eq_true HBQ.out.symm
   obtain ⟨pn, rfl⟩ := Int.eq_ofNat_of_zero_le h1
   obtain ⟨qn, rfl⟩ := Int.eq_ofNat_of_zero_le h3
   have hpn : pn < n := by omega
   have hqn : qn < n := by omega
   rw [bt_in hpn hqn]
   rcases HT.out with ⟨_, h0⟩ | ⟨tb, rfl, v, b1, _, b3⟩
   ·omega
   ·obtain ⟨ps, cs, rfl, hat⟩ := b3.at
    obtain ⟨b, off, b2, o2, c2, pq, cq, rfl, z1, z2, z3, z4, z5⟩ := hat pn qn hpn hqn
    have c1 := (tk_store b1).1
    have l1 := tk_lt b1
    have HZ := hid z5
    clear b1 b3 hat z5 HT
    generalize hrl : (R pn qn).length = rl at *
    go_enter Tryz.func37, Tryz.ntmps37
    go_wp2_with fail
    refine hpl.mono ?_
    rintro e w1 ⟨rfl, hw1⟩
    rw [hw1]
    clear hw1
    go_wp2_with fail
    refine hap.mono ?_
    rintro e w2 ⟨rfl, hw2⟩
    rw [hw2]
    clear hw2
    go_wp2_with fail
    refine hpl.mono ?_
    rintro e w3 ⟨rfl, hw3⟩
    rw [hw3]
    clear hw3
    go_wp2_with fail
    refine haq.mono ?_
    rintro e w4 ⟨rfl, hw4⟩
    rw [hw4]
    clear hw4
    go_wp2
    go_ret
    exact ⟨pq, cq, rfl, rfl, HZ.out⟩
set_option maxHeartbeats 1000000 in
theorem least_any {M n : Nat} {tv : Value} {R : Nat → Nat → List Tri} (p q : Int) (w : World) (h : Tv M w tv n R) (hl : (bt n R p q).length ≤ 64) : Calls Tryz.prog 12 #[tv, .int .i64 p, .int .i64 q] w fun e w' => ∃ v', e = .returned v' ∧ w'.ownsRow w.heap.size 39 3 v' (bt n R p q).length (fl Pc.ET (bt n R p q)) ∧ Below w.heap.size w w' := by
 have hb := between_any p q w h
 clear h
 generalize bt n R p q = l at *
 go_enter Tryz.func12, Tryz.ntmps12
 go_wp2_with fail
 refine hb.mono ?_
 rintro e w1 ⟨pp, c, rfl, hw1, hq⟩
 rw [hw1]
 clear hw1 hb
 have hcl := Pc.Cn.clone_any _ l w hq.1 (by omega)
 clear hq
 go_wp2_with fail
 refine hcl.mono ?_
 rintro e w2 ⟨v', rfl, h1, h2⟩
 clear hcl
 go_wp2
 go_ret
 exact ⟨_, rfl, h1, h2⟩
end Go.Proofs.YtdnnfgabdkkdjaaGreat.Lf

namespace Go.Proofs.YtdnnfgabdkkdjaaGreat.Lf
open Go.RowKit Go.Sort Pt
open Df (hid LV EL EI tk_store tk_lt)
attribute [local go_sem ↓] Go.wp_at_zero Go.wp_at_succ
def PredB (g : Nat) (lb : Array Value) (p : Tri → Bool) (w : World) : Prop := ∀ (W : World) (x : Tri), Below w.heap.size w W → Calls Tryz.prog g (#[Pc.tv x] ++ lb) W fun e w' => e = .returned (.bool (p x)) ∧ Below W.heap.size W w'
set_option maxHeartbeats 2000000 in
set_option maxRecDepth 100000 in
theorem indexFuncB_any (v : Value) (l : List Tri) (g : Nat) (lb : Array Value) (p : Tri → Bool) (w : World) (hv : Pc.Lst w v l) (hl : l.length ≤ maxLen) (eg : ∀ args w, (callFunc g args).run Tryz.prog w = .ok (.enter g args) w) (hp : PredB g lb p w) :
    Calls Tryz.prog 64 #[v, .func (.func g) #[] lb] w fun e w' => e = .returned (.int .i64 (Pc.Cn.idxv p l)) ∧ Below w.heap.size w w' := by
 unfold maxLen at hl
 obtain ⟨pl, cl, rfl⟩ := hv.form
 have HL : Hid (Pc.Lst w (.slice pl l.length cl) l) := hv
 have HP : Hid (PredB g lb p w) := hp
 clear hv hp
 obtain ⟨r, hr⟩ : ∃ r, r = Pc.Cn.idxv p l := ⟨_, rfl⟩
 rw [← hr]
 have HRR : Hid (r = Pc.Cn.idxv p l) := hr
 clear hr
 go_enter Tryz.func64, Tryz.ntmps64
 go_wp2_with fail
 go_loopw [5, 8] (fun s5 s8 wr => ∃ k : Nat, k ≤ l.length ∧ s8 = .int .i64 k ∧ Below w.heap.size w wr ∧ Hid (∀ j y, j < k → l[j]? = some y → p y = false)) (fun _ s8 _ => l.length - (RowKit.intOf s8).toNat)
 case atStart => exact ⟨0, Nat.zero_le _, rfl, Below.refl _ _, fun j _ hj => absurd hj (Nat.not_lt_zero _)⟩
 case round =>
  obtain ⟨k, hk, rfl, hgr, A⟩ := hrel
  by_cases hlt : k < l.length
  ·have hltz : (k : Int) < (l.length : Int) := by omega
   obtain ⟨x, hx⟩ : ∃ x, l[k]? = some x := ⟨l[k], by simp⟩
   obtain ⟨b1, o1, c1, e1, z1, x1, x2, x3⟩ := (HL.out.below hgr).atP hx
   simp only [Value.slice.injEq] at e1
   obtain ⟨rfl, -, rfl⟩ := e1
   have HX : Hid (l[k]? = some x) := hx
   clear hx
   have hcall := HP.out wr x hgr
   cases hq : p x with
   | true =>
    rw [hq] at hcall
    go_wp2_with (go_at_fn g; refine hcall.mono ?_; rintro e w' ⟨rfl, hb'⟩)
    go_ret
    exact ⟨by rw [HRR.out, Pc.Cn.idxv_hit HX.out hq A.out]; rfl, hgr.trans (hb'.mono hgr.size)⟩
   | false =>
    rw [hq] at hcall
    go_wp2_with (go_at_fn g; refine hcall.mono ?_; rintro e w' ⟨rfl, hb'⟩)
    refine ⟨⟨k + 1, by omega, by go_num, hgr.trans (hb'.mono hgr.size), fun j y hj hy => ?_⟩, by simp [RowKit.intOf]; omega⟩
    by_cases e : j = k
    ·subst e
     have := HX.out
     rw [hy] at this
     cases this; exact hq
    ·exact A.out j y (by omega) hy
  ·have hltz : ¬ (k : Int) < (l.length : Int) := by omega
   have hk' : k = l.length := by omega
   subst hk'
   go_wp2
   go_ret
   exact ⟨by rw [HRR.out, Pc.Cn.idxv_miss A.out]; rfl, hgr⟩
set_option maxHeartbeats 2000000 in
theorem containsFuncB_any (v : Value) (l : List Tri) (g : Nat) (lb : Array Value) (p : Tri → Bool) (w : World) (hv : Pc.Lst w v l) (hl : l.length ≤ maxLen) (eg : ∀ args w, (callFunc g args).run Tryz.prog w = .ok (.enter g args) w) (hp : PredB g lb p w) :
    Calls Tryz.prog 43 #[v, .func (.func g) #[] lb] w fun e w' => e = .returned (.bool (l.any p)) ∧ Below w.heap.size w w' := by
 have h := indexFuncB_any v l g lb p w hv hl eg hp
 rw [← Pc.Cn.idxv_neg]
 generalize Pc.Cn.idxv p l = r at h ⊢
 go_enter Tryz.func43, Tryz.ntmps43
 go_wp2_with fail
 refine h.mono ?_
 rintro e w1 ⟨rfl, hg⟩
 go_wp2
 go_ret
 exact ⟨by first | rfl | simp, hg⟩
theorem on_any (a b : Tri) (w : World) : Calls Tryz.prog 45 #[Pc.tv a, Pc.tv b] w fun e w' => e = .returned (.tuple #[Pc.tv (thv a b), .bool (thn3 a b).isSome]) ∧ Below w.heap.size w w' := by
 obtain ⟨x1, x2, x3, y1, y2, y3, ⟨e1, e2, e3⟩, ⟨f1, f2, f3⟩, ⟨g1, g2, g3⟩, ⟨h1, h2, h3⟩, k0, k1, k2, k3⟩ := thv_nat a b
 have h := On_any x1 x2 x3 y1 y2 y3 w g1 g2 g3 h1 h2 h3
 rw [k1, k2, k3, k0] at h
 unfold Pc.tv
 rw [e1, e2, e3, f1, f2, f3]
 exact h
def cldP (s u b : Tri) : Bool := (thn3 b s).isSome && Pc.bel (thv b s) u
set_option maxHeartbeats 1000000 in
theorem could1_any {s u : Hf.Th} {B1 B2 : Nat} (x : Tri) (w : World) (h1 : w.heap[B1]? = some (.cells #[.int .i64 s.1, .int .u64 s.2.1.1, .int .u64 s.2.1.2.1, .int .u64 s.2.1.2.2] 52 (0, 0))) (h2 : w.heap[B2]? = some (.cells #[.int .i64 u.1, .int .u64 u.2.1.1, .int .u64 u.2.1.2.1, .int .u64 u.2.1.2.2] 52 (0, 0))) :
    Calls Tryz.prog 44 #[Pc.tv x, .pointer (some ⟨B1, 0, none⟩), .pointer (some ⟨B2, 0, none⟩)] w fun e w' => e = .returned (.bool (cldP s.2 u.2 x)) ∧ Below w.heap.size w w' := by
 unfold cldP
 have hon := fun W => on_any x s.2 W
 have hah := fun W => pAhead_any (thv x s.2).1.1 (thv x s.2).1.2.1 (thv x s.2).1.2.2 u.2.1.1 u.2.1.2.1 u.2.1.2.2 W
 rw [show tle (thv x s.2).1.1 (thv x s.2).1.2.1 (thv x s.2).1.2.2 u.2.1.1 u.2.1.2.1 u.2.1.2.2 = Pc.bel (thv x s.2) u.2 from rfl] at hah
 generalize Pc.bel (thv x s.2) u.2 = bb at hah ⊢
 generalize thv x s.2 = cv at hon hah
 generalize (thn3 x s.2).isSome = ok at hon ⊢
 unfold Pc.tv at hon
 have HS : Hid (∀ W, Below w.heap.size w W → W.heap[B1]? = some (.cells #[.int .i64 s.1, .int .u64 s.2.1.1, .int .u64 s.2.1.2.1, .int .u64 s.2.1.2.2] 52 (0, 0)) ∧ W.heap[B2]? = some (.cells #[.int .i64 u.1, .int .u64 u.2.1.1, .int .u64 u.2.1.2.1, .int .u64 u.2.1.2.2] 52 (0, 0))) := fun W hb => ⟨(hb.block _ (tk_lt h1)).trans h1, (hb.block _ (tk_lt h2)).trans h2⟩
 obtain ⟨W0, hW0⟩ : ∃ W, W = w.alloc (.cells #[.int .u64 x.1.1, .int .u64 x.1.2.1, .int .u64 x.1.2.2] 39) := ⟨_, rfl⟩
 obtain ⟨xb, hxb⟩ : ∃ b, b = w.heap.size := ⟨_, rfl⟩
 have B0 : Hid (Below w.heap.size w W0 ∧ W0.heap[xb]? = some (.cells #[.int .u64 x.1.1, .int .u64 x.1.2.1, .int .u64 x.1.2.2] 39 (0, 0))) := by
  rw [hW0, hxb]
  exact ⟨((Gr.refl w).alloc _).below, heap_new' _ _⟩
 have HW0 : Hid (w.alloc (.cells #[.int .u64 x.1.1, .int .u64 x.1.2.1, .int .u64 x.1.2.2] 39) = W0 ∧ w.heap.size = xb) := ⟨hW0.symm, hxb.symm⟩
 clear h1 h2 hW0 hxb
 go_enter Tryz.func44, Tryz.ntmps44
 go_upto_region 1 with fail
 rw [HW0.out.1, HW0.out.2]
 clear HW0
 obtain ⟨q1, q2⟩ := HS.out _ B0.out.1
 have c1 := (tk_store q1).1
 have l1 := tk_lt q1
 have c2 := (tk_store B0.out.2).1
 have l2 := tk_lt B0.out.2
 clear q1 q2
 go_wp2_with fail
 refine (hon _).mono ?_
 rintro e w1 ⟨rfl, hb1⟩
 clear c1 l1 c2 l2
 have HB1 : Hid (Below w.heap.size w w1) := B0.out.1.trans (hb1.mono B0.out.1.size)
 obtain ⟨W2, hW2⟩ : ∃ W, W = w1.alloc (.cells #[.int .u64 cv.1.1, .int .u64 cv.1.2.1, .int .u64 cv.1.2.2] 50) := ⟨_, rfl⟩
 obtain ⟨yb, hyb⟩ : ∃ b, b = w1.heap.size := ⟨_, rfl⟩
 have P2 : Hid (Below w.heap.size w W2 ∧ W2.heap[yb]? = some (.cells #[.int .u64 cv.1.1, .int .u64 cv.1.2.1, .int .u64 cv.1.2.2] 50 (0, 0))) := by
  rw [hW2, hyb]
  exact ⟨HB1.out.trans (((Gr.refl w1).alloc _).below.mono HB1.out.size), heap_new' _ _⟩
 have HW2 : Hid (w1.alloc (.cells #[.int .u64 cv.1.1, .int .u64 cv.1.2.1, .int .u64 cv.1.2.2] 50) = W2 ∧ w1.heap.size = yb) := ⟨hW2.symm, hyb.symm⟩
 clear hW2 hyb hb1
 go_upto_region 2 with fail
 rw [HW2.out.1, HW2.out.2]
 clear HW2
 obtain ⟨q1, q2⟩ := HS.out _ P2.out.1
 have c1 := (tk_store q2).1
 have l1 := tk_lt q2
 have c2 := (tk_store P2.out.2).1
 have l2 := tk_lt P2.out.2
 clear q1 q2
 cases ok with
 | true =>
  go_wp2_with fail
  refine (hah _).mono ?_
  rintro e w3 ⟨rfl, hg3⟩
  clear c1 l1 c2 l2
  go_wp2
  go_ret
  exact ⟨by simp, P2.out.1.trans (hg3.below.mono P2.out.1.size)⟩
 | false =>
  go_wp2
  go_ret
  exact ⟨by simp, P2.out.1⟩
set_option maxHeartbeats 1000000 in
theorem could_any {M n : Nat} {tv : Value} {R : Nat → Nat → List Tri} (s u : Hf.Th) (w : World) (h : Tv M w tv n R) (hM : M ≤ w.heap.size) (hl : (bt n R s.1 u.1).length ≤ 64) : Calls Tryz.prog 17 #[tv, .agg #[.int .i64 s.1, .int .u64 s.2.1.1, .int .u64 s.2.1.2.1, .int .u64 s.2.1.2.2], .agg #[.int .i64 u.1, .int .u64 u.2.1.1, .int .u64 u.2.1.2.1, .int .u64 u.2.1.2.2]] w fun e w' => e = .returned (.bool ((bt n R s.1 u.1).any (cldP s.2 u.2))) ∧ Below w.heap.size w w' := by
 obtain ⟨W0, hW0⟩ : ∃ W, W = (w.alloc (.cells #[.int .i64 s.1, .int .u64 s.2.1.1, .int .u64 s.2.1.2.1, .int .u64 s.2.1.2.2] 52)).alloc (.cells #[.int .i64 u.1, .int .u64 u.2.1.1, .int .u64 u.2.1.2.1, .int .u64 u.2.1.2.2] 52) := ⟨_, rfl⟩
 obtain ⟨xb, hxb⟩ : ∃ b, b = w.heap.size := ⟨_, rfl⟩
 have B0 : Hid (Below w.heap.size w W0 ∧ W0.heap[xb]? = some (.cells #[.int .i64 s.1, .int .u64 s.2.1.1, .int .u64 s.2.1.2.1, .int .u64 s.2.1.2.2] 52 (0, 0)) ∧ W0.heap[xb + 1]? = some (.cells #[.int .i64 u.1, .int .u64 u.2.1.1, .int .u64 u.2.1.2.1, .int .u64 u.2.1.2.2] 52 (0, 0))) := by
  rw [hW0, hxb]
  exact ⟨(((Gr.refl w).alloc _).alloc _).below, Df.new1 w _ _, Df.new2 w _ _⟩
 have HW0 : Hid ((w.alloc (.cells #[.int .i64 s.1, .int .u64 s.2.1.1, .int .u64 s.2.1.2.1, .int .u64 s.2.1.2.2] 52)).alloc (.cells #[.int .i64 u.1, .int .u64 u.2.1.1, .int .u64 u.2.1.2.1, .int .u64 u.2.1.2.2] 52) = W0 ∧ w.heap.size = xb) := ⟨hW0.symm, hxb.symm⟩
 have hb := between_any s.1 u.1 W0 (h.keep (B0.out.1.mono hM))
 clear hW0 hxb h hM
 have hpr : PredB 44 #[.pointer (some ⟨xb, 0, none⟩), .pointer (some ⟨xb + 1, 0, none⟩)] (cldP s.2 u.2) W0 := fun W x hW => could1_any x W ((hW.block _ (tk_lt B0.out.2.1)).trans B0.out.2.1) ((hW.block _ (tk_lt B0.out.2.2)).trans B0.out.2.2)
 have HPR := hid hpr
 have c1 := (tk_store B0.out.2.1).1
 have l1 := tk_lt B0.out.2.1
 have c2 := (tk_store B0.out.2.2).1
 have l2 := tk_lt B0.out.2.2
 clear hpr
 generalize bt n R s.1 u.1 = l at *
 go_enter Tryz.func17, Tryz.ntmps17
 go_upto_region 1 with fail
 rw [HW0.out.1, HW0.out.2]
 clear HW0
 go_wp2_with fail
 refine hb.mono ?_
 rintro e w1 ⟨pp, c, rfl, hw1, hq⟩
 rw [hw1]
 clear hw1 hb
 have hct := containsFuncB_any _ l 44 #[.pointer (some ⟨xb, 0, none⟩), .pointer (some ⟨xb + 1, 0, none⟩)] (cldP s.2 u.2) W0 hq.1 (by unfold maxLen; omega) (enters_of Tryz.func44 (by kernel_rfl) rfl) HPR.out
 clear hq c1 l1 c2 l2
 go_wp2_with fail
 refine hct.mono ?_
 rintro e w2 ⟨rfl, h2⟩
 clear hct
 have HB2 : Hid (Below w.heap.size w w2) := B0.out.1.trans (h2.mono B0.out.1.size)
 clear h2
 go_wp2
 go_ret
 exact ⟨rfl, HB2.out⟩
end Go.Proofs.YtdnnfgabdkkdjaaGreat.Lf

namespace Go.Proofs.YtdnnfgabdkkdjaaGreat.Lf
open Go.RowKit Go.Sort Pt
open Df (hid LV EL EI infoI tk_store tk_lt)
attribute [local go_sem ↓] Go.wp_at_zero Go.wp_at_succ
def toL (n : Nat) (R : Nat → Nat → List Tri) (p : Int) (i : Nat) : List Int := ((List.range i).filter (fun q => decide (0 < (bt n R p (q : Nat)).length))).map (fun q => ((q : Nat) : Int))
theorem toL_succ (n : Nat) (R : Nat → Nat → List Tri) (p : Int) (i : Nat) : toL n R p (i + 1) = toL n R p i ++ if 0 < (bt n R p (i : Nat)).length then [(i : Int)] else [] := by
 unfold toL
 rw [List.range_succ, List.filter_append, List.map_append]
 congr 1
 by_cases h : 0 < (bt n R p (i : Nat)).length
 ·rw [if_pos h, List.filter_cons, if_pos (by simpa using h)]
  rfl
 ·rw [if_neg h, List.filter_cons, if_neg (by simpa using h)]
  rfl
theorem toL_len (n : Nat) (R : Nat → Nat → List Tri) (p : Int) (i : Nat) : (toL n R p i).length ≤ i := by
 unfold toL
 rw [List.length_map]
 exact Nat.le_trans (List.length_filter_le _ _) (by simp)
set_option maxHeartbeats 1000000 in
theorem to_any {M n : Nat} {tv : Value} {R : Nat → Nat → List Tri} (p : Int) (w : World) (h : Tv M w tv n R) (hM : M ≤ w.heap.size) (hn : n ≤ 192) : Calls Tryz.prog 24 #[tv, .int .i64 p] w fun e w' => ∃ v', e = .returned v' ∧ w'.ownsRow w.heap.size 3 1 v' (toL n R p n).length (fl EI (toL n R p n)) ∧ Below w.heap.size w w' := by
 have hpl := places_any w h
 have HT : Hid (∀ W, Below w.heap.size w W → Tv M W tv n R) := fun W hb => h.keep (hb.mono hM)
 clear h hM
 go_enter Tryz.func24, Tryz.ntmps24
 go_wp2_with fail
 refine hpl.mono ?_
 rintro e w1 ⟨rfl, hw1⟩
 rw [hw1]
 clear hw1 hpl
 go_wp2_with fail
 go_loopw [5, 6, 9] (fun s5 _ s9 wr => ∃ i : Nat, i ≤ n ∧ s9 = .int .i64 i ∧ Hid (wr.ownsRow w.heap.size 3 1 s5 (toL n R p i).length (fl EI (toL n R p i)) ∧ Below w.heap.size w wr)) (fun _ _ s9 _ => n - (RowKit.intOf s9).toNat)
 case atStart => exact ⟨0, Nat.zero_le _, rfl, World.ownsRow_nil _ _ _ _, Below.refl _ _⟩
 case round =>
  obtain ⟨i, hi, rfl, HI⟩ := hrel
  by_cases hlt : i < n
  ·have hltz : (i : Int) < (n : Int) := by omega
   have hi0 : (0 : Int) ≤ (i : Int) := by omega
   have hb := between_any p (i : Nat) wr (HT.out wr HI.out.2)
   have HSU := hid (toL_succ n R p i)
   have hll := toL_len n R p i
   generalize bt n R p (i : Nat) = bl at *
   generalize toL n R p i = tl at *
   by_cases hz : 0 < bl.length
   ·have hzz : (0 : Int) < (bl.length : Int) := by omega
    have HN : Hid (toL n R p (i + 1) = tl ++ [(i : Int)]) := by rw [HSU.out, if_pos hz]; exact rfl
    clear HSU
    have hwz := HI.out.2.size
    have HO := hid HI.out.1
    have HB := hid HI.out.2
    clear HI
    go_wp2_with fail
    refine hb.mono ?_
    rintro e w2 ⟨pp, c, rfl, hw2, _⟩
    rw [hw2]
    clear hw2 hb
    go_wp2_with (at_builtin; refine wpApp1 EI Tryz.underlying59 infoI rfl (by decide) rfl _ _ rfl w.heap.size _ tl.length _ rfl HO.out (i : Int) rfl (by omega) (by unfold maxLen; omega) hwz _ rfl _ ?_)
    intro g6 c6 w6 ho6 hg6 hl6
    have HE : Hid (w6.ownsRow w.heap.size 3 1 (.slice (some ⟨g6, 0, none⟩) (tl.length + 1) c6) (toL n R p (i + 1)).length (fl EI (toL n R p (i + 1))) ∧ Below w.heap.size w w6) := by
     rw [HN.out]
     exact ⟨owns_re ho6 (by simp) (by rw [fl_append, fl_one]), HB.out.trans ((Kp.grownBy (S := fun k => w.heap.size ≤ k) hg6 (fun k hk => (HO.out.lt k hk).1)).below HB.out.size (fun _ h => h))⟩
    clear ho6 hg6 hl6
    go_wp2
    go_roundw
    case rel => exact ⟨i + 1, by omega, by first | rfl | go_num, HE.out⟩
    case measure => simp [RowKit.intOf]; omega
   ·have hzz : ¬ (0 : Int) < (bl.length : Int) := by omega
    have HN : Hid (toL n R p (i + 1) = tl) := by rw [HSU.out, if_neg hz, List.append_nil]; exact rfl
    clear HSU
    go_wp2_with fail
    refine hb.mono ?_
    rintro e w2 ⟨pp, c, rfl, hw2, _⟩
    rw [hw2]
    clear hw2 hb
    go_wp2
    go_roundw
    case rel => exact ⟨i + 1, by omega, by first | rfl | go_num, by rw [HN.out]; exact HI.out⟩
    case measure => simp [RowKit.intOf]; omega
  ·have hltz : ¬ (i : Int) < (n : Int) := by omega
   have hie : i = n := by omega
   subst hie
   go_wp2
   go_ret
   exact ⟨_, rfl, HI.out⟩
def onL (bl : List Tri) (t : Tri) : List Tri := bl.filterMap (fun b => thn3 b t)
theorem onL_take {bl : List Tri} {j : Nat} {b : Tri} (t : Tri) (h : bl[j]? = some b) : onL (bl.take (j + 1)) t = onL (bl.take j) t ++ (thn3 b t).toList := by
 unfold onL
 rw [List.take_add_one, h, List.filterMap_append]
 congr 1
theorem onL_len (bl : List Tri) (t : Tri) : (onL bl t).length ≤ bl.length := List.length_filterMap_le _ _
def allT (n : Nat) (R : Nat → Nat → List Tri) (q : Int) (l : List Hf.Th) : List Tri := l.flatMap (fun s => onL (bt n R s.1 q) s.2)
theorem allT_take {n : Nat} {R : Nat → Nat → List Tri} {q : Int} {l : List Hf.Th} {i : Nat} {s : Hf.Th} (h : l[i]? = some s) : allT n R q (l.take (i + 1)) = allT n R q (l.take i) ++ onL (bt n R s.1 q) s.2 := by
 unfold allT
 rw [List.take_add_one, h, List.flatMap_append]
 simp
theorem allT_len {n : Nat} {R : Nat → Nat → List Tri} {q : Int} (hR : ∀ p q, (bt n R p q).length ≤ 64) (l : List Hf.Th) : (allT n R q l).length ≤ 64 * l.length := by
 induction l with
 | nil => simp [allT]
 | cons s l ih =>
  have h1 : allT n R q (s :: l) = onL (bt n R s.1 q) s.2 ++ allT n R q l := rfl
  rw [h1, List.length_append, List.length_cons]
  have h2 := onL_len (bt n R s.1 q) s.2
  have h3 := hR s.1 q
  omega
def frt (l : List Tri) : List Tri := cjoin Pc.bel Pc.tol [] l
theorem frt_nil : frt [] = [] := rfl
theorem frt_snoc (l : List Tri) (x : Tri) : frt (l ++ [x]) = cins Pc.bel Pc.tol (frt l) x := by
 unfold frt
 rw [cjoin_append]
 rfl
theorem frt_len (l : List Tri) : (frt l).length ≤ l.length := by
 have := cjoin_length (bel := Pc.bel) (fst := Pc.tol) [] l
 simpa [frt] using this
structure Ck (w : World) (cb : Nat) (all : List Tri) (W : World) : Prop where
 bl : Below w.heap.size w W
 lo : w.heap.size ≤ cb
 ch : ∃ v, Pc.Cn.Ch W cb fA fT v (frt all) ∧ ∀ g, v.ownBlock = some g → w.heap.size ≤ g
theorem Ck.below {w W W' : World} {cb : Nat} {all : List Tri} (h : Ck w cb all W) (hb : Below W.heap.size W W') : Ck w cb all W' := by
 obtain ⟨v, h1, h2⟩ := h.ch
 exact ⟨h.bl.trans (hb.mono h.bl.size), h.lo, v, h1.below hb, h2⟩
structure Cj (w : World) (M cb : Nat) (all : List Tri) (xb : Nat) (s : Hf.Th) (lv : Value) (bl : List Tri) (W : World) : Prop where
 bw : Below w.heap.size w W
 lo : w.heap.size ≤ cb
 ne : cb ≠ xb
 ch : ∃ v, Pc.Cn.Ch W cb fA fT v (frt all) ∧ ∀ g, v.ownBlock = some g → w.heap.size ≤ g ∧ g ≠ xb
 bx : W.heap[xb]? = some (.cells #[.int .i64 s.1, .int .u64 s.2.1.1, .int .u64 s.2.1.2.1, .int .u64 s.2.1.2.2] 52 (0, 0))
 lq : Lq Pc.ET M W lv bl
section
variable {w W W' : World} {M cb xb : Nat} {all bl : List Tri} {s : Hf.Th} {lv : Value}
theorem Cj.below (h : Cj w M cb all xb s lv bl W) (hM : M ≤ w.heap.size) (hb : Below W.heap.size W W') : Cj w M cb all xb s lv bl W' := by
 obtain ⟨v, h1, h2⟩ := h.ch
 exact ⟨h.bw.trans (hb.mono h.bw.size), h.lo, h.ne, ⟨v, h1.below hb, h2⟩, (hb.block _ (tk_lt h.bx)).trans h.bx, h.lq.keep (hb.mono (Nat.le_trans hM h.bw.size))⟩
theorem Cj.ck (h : Cj w M cb all xb s lv bl W) : Ck w cb all W := by
 obtain ⟨v, h1, h2⟩ := h.ch
 exact ⟨h.bw, h.lo, v, h1, fun g hg => (h2 g hg).1⟩
theorem Ck.cj (h : Ck w cb all W) (hq : Lq Pc.ET M (W.alloc (.cells #[.int .i64 s.1, .int .u64 s.2.1.1, .int .u64 s.2.1.2.1, .int .u64 s.2.1.2.2] 52)) lv bl) : Cj w M cb all W.heap.size s lv bl (W.alloc (.cells #[.int .i64 s.1, .int .u64 s.2.1.1, .int .u64 s.2.1.2.1, .int .u64 s.2.1.2.2] 52)) := by
 obtain ⟨v, h1, h2⟩ := h.ch
 have hb := ((Gr.refl W).alloc (.cells #[.int .i64 s.1, .int .u64 s.2.1.1, .int .u64 s.2.1.2.1, .int .u64 s.2.1.2.2] 52)).below
 exact ⟨h.bl.trans (hb.mono h.bl.size), h.lo, Nat.ne_of_lt h1.lt, ⟨v, h1.below hb, fun g hg => ⟨h2 g hg, Nat.ne_of_lt (h1.row g hg)⟩⟩, heap_new' _ _, hq⟩
theorem Cj.ins (h : Cj w M cb all xb s lv bl W) (hM : M ≤ w.heap.size) (x : Tri) (hl : (all.length + 1) * 24 ≤ 140737488355328) : Calls Tryz.prog 48 #[.pointer (some ⟨cb, 0, none⟩), .agg #[.int .u64 x.1.1, .int .u64 x.1.2.1, .int .u64 x.1.2.2]] W fun e W' => ∃ b, e = .returned (.bool b) ∧ Hid (Cj w M cb (all ++ [x]) xb s lv bl W') := by
 obtain ⟨v, h1, h2⟩ := h.ch
 have h3 := frt_len all
 refine (Pc.Cn.insert_any x W h1 (by omega) Pc.ahead_ok Pc.told_ok).mono ?_
 rintro e W' ⟨v', rfl, q1, q2⟩
 obtain ⟨k1, k2⟩ := q2.below h.bw.size h.lo (fun g hg => (h2 g hg).1)
 refine ⟨_, rfl, h.bw.trans k1, h.lo, h.ne, ⟨v', ?_, fun g hg => ⟨k2 g hg, ?_⟩⟩, (q2.1.block _ (tk_lt h.bx) (fun e => ?_)).trans h.bx, h.lq.keep (k1.mono hM)⟩
 ·rw [frt_snoc]
  exact q1
 ·rcases q2.2 g hg with a | a
  ·exact (h2 g a).2
  ·have := tk_lt h.bx
   omega
 ·rcases e with e | e
  ·exact h.ne e.symm
  ·exact (h2 xb e).2 rfl
end
set_option maxRecDepth 100000 in
set_option maxHeartbeats 2000000 in
theorem front_any {M M2 n : Nat} {tv sv : Value} {R : Nat → Nat → List Tri} {l : List Hf.Th} (q : Int) (w : World) (h : Tv M w tv n R) (hM : M ≤ w.heap.size) (hR : ∀ p q, (bt n R p q).length ≤ 64) (hs : Df.Lz EF M2 w sv l) (hl : (64 * l.length + 1) * 24 ≤ 140737488355328) : Calls Tryz.prog 19 #[tv, .int .i64 q, sv] w fun e w' => ∃ v', e = .returned v' ∧ w'.ownsRow w.heap.size 50 3 v' (frt (allT n R q l)).length (fl Pc.ET (frt (allT n R q l))) ∧ Below w.heap.size w w' := by
 have HT : Hid (∀ W, Below w.heap.size w W → Tv M W tv n R) := fun W hb => h.keep (hb.mono hM)
 obtain ⟨ps, cs, rfl⟩ := hs.form
 have HS := hid hs
 have HR := hid hR
 have HM := hid hM
 have HBD : Hid (∀ k : Nat, k ≤ 64 * l.length → (k + 1) * 24 ≤ 140737488355328) := fun k hk => Nat.le_trans (Nat.mul_le_mul_right 24 (Nat.add_le_add_right hk 1)) hl
 have hlb : l.length ≤ 91625968981 := by omega
 clear hl
 have hny := Pc.Cn.noneYet_any w
 clear h hM hs hR
 go_enter Tryz.func19, Tryz.ntmps19
 go_wp2_with fail
 refine hny.mono ?_
 rintro e w1 ⟨rfl, hC1, hg1⟩
 obtain ⟨cb, hcb⟩ : ∃ b, b = w.heap.size := ⟨_, rfl⟩
 rw [← hcb] at hC1 ⊢
 have HK1 : Hid (Ck w cb [] w1) := ⟨hg1.below, by omega, _, hC1, fun g hg => by simp [Value.ownBlock] at hg⟩
 clear hny hC1 hg1 hcb
 go_wp2_with fail
 go_loopw [9, 11, 12, 13, 20] (fun _ _ _ _ s20 wr => ∃ i : Nat, i ≤ l.length ∧ s20 = .int .i64 i ∧ Hid (Ck w cb (allT n R q (l.take i)) wr)) (fun _ _ _ _ s20 _ => l.length - (RowKit.intOf s20).toNat)
 case atStart => exact ⟨0, Nat.zero_le _, rfl, HK1.out⟩
 case round =>
  clear HK1
  obtain ⟨i, hi, rfl, HI⟩ := hrel
  by_cases hlt : i < l.length
  ·have hltz : (i : Int) < (l.length : Int) := by omega
   have hi0 : (0 : Int) ≤ (i : Int) := by omega
   obtain ⟨s, hsi⟩ : ∃ s, l[i]? = some s := ⟨l[i], by simp⟩
   obtain ⟨b1, o1, c1, hv1, hb1, u0, u1, u2, u3⟩ := EF_at ((HS.out.below HI.out.bl).ls hsi) hsi
   simp only [Value.slice.injEq] at hv1
   obtain ⟨rfl, -, rfl⟩ := hv1
   have HTK := hid (allT_take (n := n) (R := R) (q := q) hsi)
   have HLN : Hid ((allT n R q (l.take i)).length ≤ 64 * i) := by
    have := allT_len (q := q) HR.out (l.take i)
    rw [List.length_take, Nat.min_eq_left hi] at this
    exact this
   clear hsi
   obtain ⟨xb, hxb⟩ : ∃ b, b = wr.heap.size := ⟨_, rfl⟩
   obtain ⟨W4, hW4⟩ : ∃ W, W = wr.alloc (.cells #[.int .i64 s.1, .int .u64 s.2.1.1, .int .u64 s.2.1.2.1, .int .u64 s.2.1.2.2] 52) := ⟨_, rfl⟩
   have HCK := hid HI.out
   have P4 : Hid (Ck w cb (allT n R q (l.take i)) W4 ∧ W4.heap[xb]? = some (.cells #[.int .i64 s.1, .int .u64 s.2.1.1, .int .u64 s.2.1.2.1, .int .u64 s.2.1.2.2] 52 (0, 0))) := by
    rw [hW4, hxb]
    exact ⟨HI.out.below ((Gr.refl wr).alloc _).below, heap_new' _ _⟩
   have HW4 : Hid (wr.alloc (.cells #[.int .i64 s.1, .int .u64 s.2.1.1, .int .u64 s.2.1.2.1, .int .u64 s.2.1.2.2] 52) = W4 ∧ wr.heap.size = xb) := ⟨hW4.symm, hxb.symm⟩
   have HWE : Hid (W4 = wr.alloc (.cells #[.int .i64 s.1, .int .u64 s.2.1.1, .int .u64 s.2.1.2.1, .int .u64 s.2.1.2.2] 52) ∧ xb = wr.heap.size) := ⟨hW4, hxb⟩
   clear hW4 hxb HI
   go_upto_region 5 with fail
   rw [HW4.out.1, HW4.out.2]
   clear HW4 u0 u1 u2 u3 hb1
   have hbt := between_any s.1 q W4 (HT.out W4 P4.out.1.bl)
   have hbl := HR.out s.1 q
   have cx := (tk_store P4.out.2).1
   have lx := tk_lt P4.out.2
   generalize bt n R s.1 q = bl at *
   go_wp2_with fail
   refine hbt.mono ?_
   rintro e w5 ⟨pp, c5, rfl, hw5, hq5⟩
   rw [hw5]
   have HQ := hid hq5
   clear hw5 hbt hq5 cx lx
   generalize allT n R q (l.take i) = al at *
   have HJ : Hid (Cj w M cb (al ++ onL (bl.take 0) s.2) xb s (.slice pp bl.length c5) bl W4) := by
    have h0 : al ++ onL (bl.take 0) s.2 = al := by simp [onL]
    rw [h0]
    have h1 := HQ.out
    rw [HWE.out.1] at h1
    have h2 := HCK.out.cj h1
    rw [HWE.out.1, HWE.out.2]
    exact h2
   clear P4 HCK HQ
   go_wp2_with fail
   go_loopw [11, 12, 13, 30] (fun _ _ _ s30 wx => ∃ j : Nat, j ≤ bl.length ∧ s30 = .int .i64 j ∧ Hid (Cj w M cb (al ++ onL (bl.take j) s.2) xb s (.slice pp bl.length c5) bl wx)) (fun _ _ _ s30 _ => bl.length - (RowKit.intOf s30).toNat)
   case atStart => exact ⟨0, Nat.zero_le _, rfl, HJ.out⟩
   case round =>
    clear HJ
    obtain ⟨j, hj, rfl, HJ⟩ := hrel
    by_cases hjl : j < bl.length
    ·have hjz : (j : Int) < (bl.length : Int) := by omega
     have hj0 : (0 : Int) ≤ (j : Int) := by omega
     obtain ⟨b, hbj⟩ : ∃ b, bl[j]? = some b := ⟨bl[j], by simp⟩
     obtain ⟨b2, o2, c2, hv2, hb2, u0, u1, u2⟩ := HJ.out.lq.1.atP hbj
     simp only [Value.slice.injEq] at hv2
     obtain ⟨rfl, -, rfl⟩ := hv2
     have HTJ := hid (onL_take s.2 hbj)
     have HLJ : Hid ((onL (bl.take j) s.2).length ≤ j) := by
      have := onL_len (bl.take j) s.2
      rw [List.length_take, Nat.min_eq_left hj] at this
      exact this
     have HLK : Hid ((al ++ onL (bl.take j) s.2).length ≤ 64 * l.length) := by
      show _ ≤ _
      rw [List.length_append]
      have h1 := HLN.out
      have h2 := HLJ.out
      clear hjz hj0 hltz hi0 hb2 u0 u1 u2
      omega
     clear hbj
     obtain ⟨yb, hyb⟩ : ∃ b, b = wr.heap.size := ⟨_, rfl⟩
     obtain ⟨W7, hW7⟩ : ∃ W, W = wr.alloc (.cells #[.int .u64 b.1.1, .int .u64 b.1.2.1, .int .u64 b.1.2.2] 39) := ⟨_, rfl⟩
     have P7 : Hid (Cj w M cb (al ++ onL (bl.take j) s.2) xb s (.slice (some ⟨b2, o2, none⟩) bl.length c5) bl W7 ∧ W7.heap[yb]? = some (.cells #[.int .u64 b.1.1, .int .u64 b.1.2.1, .int .u64 b.1.2.2] 39 (0, 0))) := by
      rw [hW7, hyb]
      exact ⟨HJ.out.below HM.out ((Gr.refl wr).alloc _).below, heap_new' _ _⟩
     have HW7 : Hid (wr.alloc (.cells #[.int .u64 b.1.1, .int .u64 b.1.2.1, .int .u64 b.1.2.2] 39) = W7 ∧ wr.heap.size = yb) := ⟨hW7.symm, hyb.symm⟩
     clear hW7 hyb HJ
     go_upto_region 8 with fail
     rw [HW7.out.1, HW7.out.2]
     clear HW7 u0 u1 u2 hb2
     have hon := on_any b s.2 W7
     obtain ⟨cv, hcv⟩ : ∃ z, z = thv b s.2 := ⟨_, rfl⟩
     obtain ⟨ok, hok⟩ : ∃ z, z = (thn3 b s.2).isSome := ⟨_, rfl⟩
     rw [← hcv, ← hok] at hon
     unfold Pc.tv at hon
     have HCV : Hid (cv = thv b s.2 ∧ ok = (thn3 b s.2).isSome) := ⟨hcv, hok⟩
     clear hcv hok
     have cx := (tk_store P7.out.1.bx).1
     have lx := tk_lt P7.out.1.bx
     have cy := (tk_store P7.out.2).1
     have ly := tk_lt P7.out.2
     go_wp2_with fail
     refine hon.mono ?_
     rintro e w8 ⟨rfl, hb8⟩
     clear hon cx lx cy ly
     obtain ⟨zb, hzb⟩ : ∃ b, b = w8.heap.size := ⟨_, rfl⟩
     obtain ⟨W9, hW9⟩ : ∃ W, W = w8.alloc (.cells #[.int .u64 cv.1.1, .int .u64 cv.1.2.1, .int .u64 cv.1.2.2] 50) := ⟨_, rfl⟩
     have P9 : Hid (Cj w M cb (al ++ onL (bl.take j) s.2) xb s (.slice (some ⟨b2, o2, none⟩) bl.length c5) bl W9 ∧ W9.heap[zb]? = some (.cells #[.int .u64 cv.1.1, .int .u64 cv.1.2.1, .int .u64 cv.1.2.2] 50 (0, 0))) := by
      rw [hW9, hzb]
      exact ⟨P7.out.1.below HM.out (hb8.trans (((Gr.refl w8).alloc _).below.mono hb8.size)), heap_new' _ _⟩
     have HW9 : Hid (w8.alloc (.cells #[.int .u64 cv.1.1, .int .u64 cv.1.2.1, .int .u64 cv.1.2.2] 50) = W9 ∧ w8.heap.size = zb) := ⟨hW9.symm, hzb.symm⟩
     clear hW9 hzb P7 hb8
     go_upto_region 9 with fail
     rw [HW9.out.1, HW9.out.2]
     clear HW9
     have cz := (tk_store P9.out.2).1
     have lz := tk_lt P9.out.2
     cases ok with
     | true =>
      have hins := P9.out.1.ins HM.out cv (HBD.out _ HLK.out)
      go_wp2_with fail
      refine hins.mono ?_
      rintro e w10 ⟨bb, rfl, HJ10⟩
      clear hins cz lz
      have HN : Hid (Cj w M cb (al ++ onL (bl.take (j + 1)) s.2) xb s (.slice (some ⟨b2, o2, none⟩) bl.length c5) bl w10) := by
       obtain ⟨z, hz⟩ := Option.isSome_iff_exists.1 HCV.out.2.symm
       rw [HTJ.out, hz, Option.toList_some, ← List.append_assoc, show z = cv by rw [HCV.out.1, thv_some hz]]
       exact HJ10.out
      clear HJ10
      go_wp2
      go_roundw
      case rel => exact ⟨j + 1, by omega, by first | rfl | go_num, HN.out⟩
      case measure => simp [RowKit.intOf]; omega
     | false =>
      have HN : Hid (Cj w M cb (al ++ onL (bl.take (j + 1)) s.2) xb s (.slice (some ⟨b2, o2, none⟩) bl.length c5) bl W9) := by
       have hz : thn3 b s.2 = none := by
        have := HCV.out.2
        cases h : thn3 b s.2 with
        | none => rfl
        | some z => rw [h] at this; cases this
       rw [HTJ.out, hz, Option.toList_none, List.append_nil]
       exact P9.out.1
      go_wp2
      go_roundw
      case rel => exact ⟨j + 1, by omega, by first | rfl | go_num, HN.out⟩
      case measure => simp [RowKit.intOf]; omega
    ·have hjz : ¬ (j : Int) < (bl.length : Int) := by omega
     have hje : j = bl.length := by omega
     subst hje
     rw [List.take_length] at HJ
     have HN : Hid (Ck w cb (allT n R q (l.take (i + 1))) wr) := by
      rw [HTK.out]
      exact HJ.out.ck
     clear HJ
     go_wp2
     go_roundw
     case rel => exact ⟨i + 1, by omega, by first | rfl | go_num, HN.out⟩
     case measure => simp [RowKit.intOf]; omega
  ·have hltz : ¬ (i : Int) < (l.length : Int) := by omega
   have hie : i = l.length := by omega
   subst hie
   rw [List.take_length] at HI
   have HLN := allT_len (q := q) HR.out l
   have hfl := frt_len (allT n R q l)
   have hfb : (frt (allT n R q l)).length ≤ 5864062014806 := by omega
   generalize hal : allT n R q l = al at *
   have HAL := hid hal
   clear hal
   have hls : Calls Tryz.prog 49 #[.pointer (some ⟨cb, 0, none⟩)] wr fun e w' => ∃ pp cc, e = .returned (.slice pp (frt al).length cc) ∧ w'.ownsRow wr.heap.size 39 3 (.slice pp (frt al).length cc) (frt al).length (Pc.flT (frt al)) ∧ Below wr.heap.size wr w' := by
    obtain ⟨v, h1, _⟩ := HI.out.ch
    refine (Pc.Cn.list_any wr h1 (by have h2 := HBD.out _ HLN; omega)).mono ?_
    rintro e w' ⟨v', rfl, q1, q2⟩
    obtain ⟨pp, cc, rfl⟩ := (Pc.owns_lst q1).form
    exact ⟨pp, cc, rfl, q1, q2⟩
   have HB := hid HI.out.bl
   have HFB : Hid (∀ k, k < (frt al).length → (k + 1) * 24 ≤ 140737488355328) := fun k hk => HBD.out k (by omega)
   clear HI
   generalize hfr : frt al = fr at *
   have HFR := hid hfr
   clear hfr
   go_wp2_with fail
   refine hls.mono ?_
   rintro e w20 ⟨pp, cc, rfl, ho20, hb20⟩
   have HL20 : Hid (Ls Pc.ET w20 (.slice pp fr.length cc) fr ∧ Below w.heap.size w w20) := ⟨owns_ls (E := Pc.ET) ho20, HB.out.trans (hb20.mono HB.out.size)⟩
   clear hls ho20 hb20
   go_wp2_with fail
   go_loopw [14, 16, 50] (fun s14 _ s50 wx => ∃ k : Nat, k ≤ fr.length ∧ s50 = .int .i64 k ∧ Hid (wx.ownsRow w20.heap.size 50 3 s14 k (Pc.flT (fr.take k)) ∧ Below w20.heap.size w20 wx)) (fun _ _ s50 _ => fr.length - (RowKit.intOf s50).toNat)
   case atStart => exact ⟨0, Nat.zero_le _, rfl, World.ownsRow_nil _ _ _ _, Below.refl _ _⟩
   case round =>
    obtain ⟨k, hk, rfl, HI⟩ := hrel
    by_cases hkl : k < fr.length
    ·have hkz : (k : Int) < (fr.length : Int) := by omega
     have hk0 : (0 : Int) ≤ (k : Int) := by omega
     obtain ⟨x, hx⟩ : ∃ x, fr[k]? = some x := ⟨fr[k], by simp⟩
     obtain ⟨b2, o2, c2, hv2, hb2, u0, u1, u2⟩ := (HL20.out.1.below HI.out.2).atP hx
     simp only [Value.slice.injEq] at hv2
     obtain ⟨rfl, -, rfl⟩ := hv2
     have HX := hid hx
     clear hx
     obtain ⟨W9, hW9⟩ : ∃ W, W = wr.alloc (.cells #[.int .u64 x.1.1, .int .u64 x.1.2.1, .int .u64 x.1.2.2] 39) := ⟨_, rfl⟩
     obtain ⟨zb, hzb⟩ : ∃ b, b = wr.heap.size := ⟨_, rfl⟩
     have P9 : Hid (W9.ownsRow w20.heap.size 50 3 u14 k (Pc.flT (fr.take k)) ∧ Below w20.heap.size w20 W9 ∧ W9.heap[zb]? = some (.cells #[.int .u64 x.1.1, .int .u64 x.1.2.1, .int .u64 x.1.2.2] 39 (0, 0))) := by
      have g5 := ((Gr.refl wr).alloc (.cells #[.int .u64 x.1.1, .int .u64 x.1.2.1, .int .u64 x.1.2.2] 39)).below
      rw [hW9, hzb]
      exact ⟨owns_below HI.out.1 g5, HI.out.2.trans (g5.mono HI.out.2.size), heap_new' _ _⟩
     have HW9 : Hid (wr.alloc (.cells #[.int .u64 x.1.1, .int .u64 x.1.2.1, .int .u64 x.1.2.2] 39) = W9 ∧ wr.heap.size = zb) := ⟨hW9.symm, hzb.symm⟩
     clear hW9 hzb HI
     go_upto_region 17 with fail
     rw [HW9.out.1, HW9.out.2]
     clear HW9 u0 u1 u2 hb2
     have cz := (tk_store P9.out.2.2).1
     have lz := tk_lt P9.out.2.2
     have hz9 := P9.out.2.1.size
     go_wp2_with (at_builtin; refine wpT1 rfl _ _ rfl w20.heap.size _ k _ rfl P9.out.1 x rfl (HFB.out k hkl) hz9 ?_)
     intro g6 c6 w6 ho6 hg6 hl6
     have HE : Hid (w6.ownsRow w20.heap.size 50 3 (.slice (some ⟨g6, 0, none⟩) (k + 1) c6) (k + 1) (Pc.flT (fr.take (k + 1))) ∧ Below w20.heap.size w20 w6) := by
      refine ⟨owns_re ho6 rfl ?_, P9.out.2.1.trans ((Kp.grownBy (S := fun j => w20.heap.size ≤ j) hg6 (fun j hj => (P9.out.1.lt j hj).1)).below P9.out.2.1.size (fun _ h => h))⟩
      rw [List.take_add_one, HX.out, Option.toList_some, Pc.flT_append, Pc.flT_one]
     clear ho6 hg6 hl6 cz lz
     go_wp2
     go_roundw
     case rel => exact ⟨k + 1, by omega, by first | rfl | go_num, HE.out⟩
     case measure => simp [RowKit.intOf]; omega
    ·have hkz : ¬ (k : Int) < (fr.length : Int) := by omega
     have hke : k = fr.length := by omega
     subst hke
     rw [List.take_length] at HI
     have FIN : Hid (wr.ownsRow w.heap.size 50 3 u14 fr.length (Pc.flT fr) ∧ Below w.heap.size w wr) := ⟨owns_base HI.out.1 HL20.out.2.size, HL20.out.2.trans (HI.out.2.mono HL20.out.2.size)⟩
     clear HI
     go_wp2
     go_ret
     rw [HAL.out, HFR.out]
     exact ⟨u14, rfl, FIN.out⟩
end Go.Proofs.YtdnnfgabdkkdjaaGreat.Lf
