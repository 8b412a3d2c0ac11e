import Derived.Test.YtjppkehnjnmbnaaGreatJ13
import Derived.Test.YtjppkehnjnmbnaaGreatJ17
namespace Go.Proofs.YtjppkehnjnmbnaaGreat.Lf
open Go.RowKit Go.Sort Pt
attribute [local go_sem ↓] Go.wp_at_zero Go.wp_at_succ
theorem infoTi : (Tryz.prog.info? 50).map (fun i => (i.zero, i.size, i.bytes)) = some (some (.agg #[.int .u64 0, .int .u64 0, .int .u64 0]), 3, 24) := by kernel_rfl
theorem teq_t {s t : Tri} (h : s = t) : teq s.1.1 s.1.2.1 s.1.2.2 t.1.1 t.1.2.1 t.1.2.2 = true := by rw [Pc.teq_dec]; simpa using h
theorem wpT1 {w : World} {ops : Array Oper} {rest : List Oper} {o : Oper} {a : Act} {Q : Exit → Act → World → Prop} (hgd : o.guard = none) (s x : Operand)
    (ho : o.op = .call { callee := .builtin .append, args := #[s, x], argTypes := #[55, 55] })
    (base : Nat) (v : Value) (n : Nat) (xs : List Value) (hs : a.eval s = v) (hown : w.ownsRow base 50 3 v n xs)
    (t : Tri) (hx : a.eval x = .slice (some ⟨w.heap.size, 0, none⟩) 1 1) (hbig : (n + 1) * 24 ≤ 140737488355328) (hbase : base ≤ w.heap.size)
    (h : ∀ g cap w', w'.ownsRow base 50 3 (.slice (some ⟨g, 0, none⟩) (n + 1) cap) (n + 1) (xs ++ Pc.ET.enc t) → w.grownBy w' v.ownBlock → (v.ownBlock = some g ∨ w.heap.size ≤ g) → wpList Tryz.prog ops Q rest (a.put o.dst (.slice (some ⟨g, 0, none⟩) (n + 1) cap)) w') :
    wpList Tryz.prog ops Q (o :: rest) a (w.alloc (.cells #[.int .u64 t.1.1, .int .u64 t.1.2.1, .int .u64 t.1.2.2] 50)) :=
 YtjppkehnjnmbnaaGreat.wpApp1 Pc.ET Tryz.underlying55 infoTi rfl (by decide) hgd s x ho base v n xs hs hown t hx hbig (by unfold maxLen; omega) hbase _ rfl _ h
end Go.Proofs.YtjppkehnjnmbnaaGreat.Lf

namespace Go.Proofs.YtjppkehnjnmbnaaGreat.Lf
open Go.RowKit Go.Sort Pt
attribute [local go_sem ↓] Go.wp_at_zero Go.wp_at_succ
set_option maxHeartbeats 1000000 in
theorem ron_any (a b : Tri) (w : World) : Calls Tryz.prog 21 #[Pc.tv a, Pc.tv b] w fun e w' => e = .returned (.tuple #[Pc.tv (thv a b), .bool (thn3 a b).isSome]) ∧ Below w.heap.size w w' := by
 have ha := fun W => rthen_any a b W
 have ht := fun W => rtime_any (thv a b) W
 generalize thv a b = r at ha ht ⊢
 generalize (thn3 a b).isSome = ok at ha ⊢
 unfold Pc.tv at ha ht ⊢
 go_enter Tryz.func21, Tryz.ntmps21
 go_wp2_with fail
 refine (ha _).mono ?_
 rintro e w1 ⟨rfl, g1⟩
 have hz1 : w.heap.size + 2 < w1.heap.size := by have := g1.size; simp at this; omega
 have hz1a : w.heap.size + 1 + 1 < w1.heap.size := by omega
 have hz1b : w.heap.size + 1 + 1 < w1.heap.size + 1 := by omega
 have hz1c : w.heap.size + 1 + 1 ≠ w1.heap.size := by omega
 obtain ⟨hc1, hf1⟩ := g1.cells
 go_wp2_with fail
 refine (ht _).mono ?_
 rintro e w2 ⟨rfl, g2⟩
 have g3 : Gr w w2 := (((((Gr.refl w).alloc _).alloc _).alloc _).trans g1).trans (((Gr.refl w1).alloc _).trans g2)
 have hB := g3.below
 clear g3
 have hz2 : w.heap.size + 1 + 1 < w2.heap.size := by have := g2.size; simp at this; omega
 obtain ⟨hc2, hf2⟩ := g2.cells
 have hfz : ∀ o, w2.frozen? ⟨w.heap.size + 1 + 1, o, none⟩ = false := fun o => by
  rw [hf2 _ _ (by simp; omega)]
  have e1 : (w1.alloc (.cells #[.int .u64 r.1.1, .int .u64 r.1.2.1, .int .u64 r.1.2.2] 39)).frozen? ⟨w.heap.size + 1 + 1, o, none⟩ = w1.frozen? ⟨w.heap.size + 1 + 1, o, none⟩ := ((Gr.refl w1).alloc _).frozen (by omega)
  rw [e1, hf1 _ _ (by simp)]
  have hn := heap_new' ((w.alloc (.cells #[.int .u64 a.1.1, .int .u64 a.1.2.1, .int .u64 a.1.2.2] 39)).alloc (.cells #[.int .u64 b.1.1, .int .u64 b.1.2.1, .int .u64 b.1.2.2] 50)) (.cells #[.int .u64 0, .int .u64 0, .int .u64 0] 50)
  have hs : ((w.alloc (.cells #[.int .u64 a.1.1, .int .u64 a.1.2.1, .int .u64 a.1.2.2] 39)).alloc (.cells #[.int .u64 b.1.1, .int .u64 b.1.2.1, .int .u64 b.1.2.2] 50)).heap.size = w.heap.size + 1 + 1 := by simp
  rw [hs] at hn
  unfold World.frozen?
  rw [hn]
  simp
 go_wp2
 refine bodyPost_ret (v := .tuple #[Pc.tv r, .bool ok]) (by simp [results, Tryz.results21, go_sem, *]) rfl ⟨rfl, ?_⟩
 have k : w.heap.size ≤ w.heap.size + 1 + 1 := by omega
 exact ((hB.setCell (p := ⟨w.heap.size + 1 + 1, 0, none⟩) k _).setCell (p := ⟨w.heap.size + 1 + 1, 1, none⟩) k _).setCell (p := ⟨w.heap.size + 1 + 1, 2, none⟩) k _
end Go.Proofs.YtjppkehnjnmbnaaGreat.Lf

namespace Go.Proofs.YtjppkehnjnmbnaaGreat.Lf
open Go.RowKit Go.Sort Pt
open Df (hid LV EL tk_store tk_lt ls_atL)
attribute [local go_sem ↓] Go.wp_at_zero Go.wp_at_succ
def Tv (M : Nat) (w : World) (tv : Value) (n : Nat) (R : Nat → Nat → List Tri) : Prop := (tv = .pointer none ∧ n = 0) ∨ ∃ tb, tv = .pointer (some ⟨tb, 0, none⟩) ∧ TP M w tb n R
theorem Tv.keep {M n : Nat} {w w' : World} {tv : Value} {R : Nat → Nat → List Tri} (h : Tv M w tv n R) (hb : Below M w w') : Tv M w' tv n R := by
 rcases h with h | ⟨tb, h1, h2⟩
 ·exact Or.inl h
 ·exact Or.inr ⟨tb, h1, h2.keep hb⟩
def bt (n : Nat) (R : Nat → Nat → List Tri) (p q : Int) : List Tri := if (0 ≤ p ∧ p < n) ∧ 0 ≤ q ∧ q < n then R p.toNat q.toNat else []
theorem bt_in {n p q : Nat} {R : Nat → Nat → List Tri} (hp : p < n) (hq : q < n) : bt n R p q = R p q := by
 unfold bt
 rw [if_pos ⟨⟨by omega, by omega⟩, by omega, by omega⟩]
 simp
theorem Tq.at {M n : Nat} {w : World} {v : Value} {R : Nat → Nat → List Tri} (h : Tq M w v n R) : ∃ ps cs, v = .slice ps n cs ∧ ∀ p q, p < n → q < n → ∃ b off b2 o2 c2 pq cq, ps = some ⟨b, off, none⟩ ∧ b < w.heap.size ∧ w.cell? ⟨b, off + p, none⟩ = some (.slice (some ⟨b2, o2, none⟩) n c2) ∧ b2 < w.heap.size ∧ w.cell? ⟨b2, o2 + q, none⟩ = some (.slice pq (R p q).length cq) ∧ Lq Pc.ET M w (.slice pq (R p q).length cq) (R p q) := by
 obtain ⟨us, h1, h2, h3⟩ := h
 obtain ⟨ps, cs, e⟩ := h1.1.form
 rw [h2] at e
 refine ⟨ps, cs, e, fun p q hp hq => ?_⟩
 obtain ⟨u, hu⟩ : ∃ u, us[p]? = some u := ⟨us[p]'(by omega), by simp⟩
 obtain ⟨vs, a1, a2, a3⟩ := h3 p u hu
 obtain ⟨x, hx⟩ : ∃ x, vs[q]? = some x := ⟨vs[q]'(by omega), by simp⟩
 obtain ⟨b, off, c, e1, hb, hc⟩ := ls_atL h1.1 hu
 rw [e] at e1
 simp only [Value.slice.injEq] at e1
 obtain ⟨b2, o2, c2, e2, hb2, hc2⟩ := ls_atL a1.1 hx
 rw [a2] at e2
 have hx3 := a3 q x hx
 obtain ⟨pq, cq, e3⟩ := hx3.1.form
 rw [e3] at hc2 hx3
 rw [e2] at hc
 exact ⟨b, off, b2, o2, c2, pq, cq, e1.1, hb, hc, hb2, hc2, hx3⟩
theorem places_any {M n : Nat} {tv : Value} {R : Nat → Nat → List Tri} (w : World) (h : Tv M w tv n R) : Calls Tryz.prog 29 #[tv] w fun e w' => e = .returned (.int .i64 (n : Nat)) ∧ w' = w := by
 rcases h with ⟨rfl, rfl⟩ | ⟨tb, rfl, v, h1, _, h3⟩
 ·go_enter Tryz.func29, Tryz.ntmps29
  go_wp2
  go_ret
  exact ⟨rfl, rfl⟩
 ·obtain ⟨ps, cs, rfl, _⟩ := h3.at
  have c1 := (tk_store h1).1
  have l1 := tk_lt h1
  clear h1 h3
  go_enter Tryz.func29, Tryz.ntmps29
  go_wp2
  go_ret
  exact ⟨rfl, rfl⟩
theorem among_any (x : Int) (n : Nat) (b : Bool) (hb : b = decide (0 ≤ x ∧ x < n)) (w : World) : Calls Tryz.prog 63 #[.int .i64 x, .int .i64 (n : Nat)] w fun e w' => e = .returned (.bool b) ∧ w' = w := by
 by_cases h0 : 0 ≤ x
 ·by_cases h1 : x < n
  ·have e : b = true := by rw [hb]; simp; omega
   subst e
   clear hb
   go_enter Tryz.func63, Tryz.ntmps63
   go_wp2
   go_ret
   exact ⟨rfl, rfl⟩
  ·have e : b = false := by rw [hb]; simp; omega
   subst e
   clear hb
   go_enter Tryz.func63, Tryz.ntmps63
   go_wp2
   go_ret
   exact ⟨rfl, rfl⟩
 ·have e : b = false := by rw [hb]; simp; omega
  subst e
  clear hb
  go_enter Tryz.func63, Tryz.ntmps63
  go_wp2
  go_ret
  exact ⟨rfl, rfl⟩
set_option maxHeartbeats 1000000 in
theorem between_any {M n : Nat} {tv : Value} {R : Nat → Nat → List Tri} (p q : Int) (w : World) (h : Tv M w tv n R) : Calls Tryz.prog 37 #[tv, .int .i64 p, .int .i64 q] w fun e w' => ∃ pp c, e = .returned (.slice pp (bt n R p q).length c) ∧ w' = w ∧ Lq Pc.ET M w (.slice pp (bt n R p q).length c) (bt n R p q) := by
 obtain ⟨bp, hbp⟩ : ∃ b, b = decide (0 ≤ p ∧ p < (n : Int)) := ⟨_, rfl⟩
 obtain ⟨bq, hbq⟩ : ∃ b, b = decide (0 ≤ q ∧ q < (n : Int)) := ⟨_, rfl⟩
 have hpl := places_any w h
 have hap := among_any p n bp hbp w
 have haq := among_any q n bq hbq w
 have HT := hid h
 have HBP := hid hbp
 have HBQ := hid hbq
 clear h hbp hbq
 cases bp with
 | false =>
  have HE : Hid (bt n R p q = []) := by
   unfold bt
   rw [if_neg (fun h => ?_)]
   ·exact rfl
   ·have := HBP.out
    rw [decide_eq_true h.1] at this
    cases this
  rw [HE.out]
  go_enter Tryz.func37, Tryz.ntmps37
  go_wp2_with fail
  refine hpl.mono ?_
  rintro e w1 ⟨rfl, hw1⟩
  rw [hw1]
  clear hw1
  go_wp2_with fail
  refine hap.mono ?_
  rintro e w2 ⟨rfl, hw2⟩
  rw [hw2]
  clear hw2
  go_wp2
  go_ret
  exact ⟨none, 0, rfl, rfl, Ls.nil w, fun k hk => by simp [Value.ownBlock] at hk⟩
 | true =>
  cases bq with
  | false =>
   have HE : Hid (bt n R p q = []) := by
    unfold bt
    rw [if_neg (fun h => ?_)]
    ·exact rfl
    ·have := HBQ.out
     rw [decide_eq_true h.2] at this
     cases this
   rw [HE.out]
   go_enter Tryz.func37, Tryz.ntmps37
   go_wp2_with fail
   refine hpl.mono ?_
   rintro e w1 ⟨rfl, hw1⟩
   rw [hw1]
   clear hw1
   go_wp2_with fail
   refine hap.mono ?_
   rintro e w2 ⟨rfl, hw2⟩
   rw [hw2]
   clear hw2
   go_wp2_with fail
   refine hpl.mono ?_
   rintro e w3 ⟨rfl, hw3⟩
   rw [hw3]
   clear hw3
   go_wp2_with fail
   refine haq.mono ?_
   rintro e w4 ⟨rfl, hw4⟩
   rw [hw4]
   clear hw4
   go_wp2
   go_ret
   exact ⟨none, 0, rfl, rfl, Ls.nil w, fun k hk => by simp [Value.ownBlock] at hk⟩
  | true =>
   obtain ⟨h1, h2⟩ := of_decide_eq_true HBP.out.symm
   obtain ⟨h3, h4⟩ := of_decide_eq_true HBQ.out.symm
   obtain ⟨pn, rfl⟩ := Int.eq_ofNat_of_zero_le h1
   obtain ⟨qn, rfl⟩ := Int.eq_ofNat_of_zero_le h3
   have hpn : pn < n := by omega
   have hqn : qn < n := by omega
   rw [bt_in hpn hqn]
   rcases HT.out with ⟨_, h0⟩ | ⟨tb, rfl, v, b1, _, b3⟩
   ·omega
   ·obtain ⟨ps, cs, rfl, hat⟩ := b3.at
    obtain ⟨b, off, b2, o2, c2, pq, cq, rfl, z1, z2, z3, z4, z5⟩ := hat pn qn hpn hqn
    have c1 := (tk_store b1).1
    have l1 := tk_lt b1
    have HZ := hid z5
    clear b1 b3 hat z5 HT
    generalize hrl : (R pn qn).length = rl at *
    go_enter Tryz.func37, Tryz.ntmps37
    go_wp2_with fail
    refine hpl.mono ?_
    rintro e w1 ⟨rfl, hw1⟩
    rw [hw1]
    clear hw1
    go_wp2_with fail
    refine hap.mono ?_
    rintro e w2 ⟨rfl, hw2⟩
    rw [hw2]
    clear hw2
    go_wp2_with fail
    refine hpl.mono ?_
    rintro e w3 ⟨rfl, hw3⟩
    rw [hw3]
    clear hw3
    go_wp2_with fail
    refine haq.mono ?_
    rintro e w4 ⟨rfl, hw4⟩
    rw [hw4]
    clear hw4
    go_wp2
    go_ret
    exact ⟨pq, cq, rfl, rfl, HZ.out⟩
set_option maxHeartbeats 1000000 in
theorem least_any {M n : Nat} {tv : Value} {R : Nat → Nat → List Tri} (p q : Int) (w : World) (h : Tv M w tv n R) (hl : (bt n R p q).length ≤ 64) : Calls Tryz.prog 12 #[tv, .int .i64 p, .int .i64 q] w fun e w' => ∃ v', e = .returned v' ∧ w'.ownsRow w.heap.size 39 3 v' (bt n R p q).length (fl Pc.ET (bt n R p q)) ∧ Below w.heap.size w w' := by
 have hb := between_any p q w h
 clear h
 generalize bt n R p q = l at *
 go_enter Tryz.func12, Tryz.ntmps12
 go_wp2_with fail
 refine hb.mono ?_
 rintro e w1 ⟨pp, c, rfl, hw1, hq⟩
 rw [hw1]
 clear hw1 hb
 have hcl := Pc.Cn.clone_any _ l w hq.1 (by omega)
 clear hq
 go_wp2_with fail
 refine hcl.mono ?_
 rintro e w2 ⟨v', rfl, h1, h2⟩
 clear hcl
 go_wp2
 go_ret
 exact ⟨_, rfl, h1, h2⟩
end Go.Proofs.YtjppkehnjnmbnaaGreat.Lf

namespace Go.Proofs.YtjppkehnjnmbnaaGreat.Lf
open Go.RowKit Go.Sort Pt
open Df (hid LV EL EI tk_store tk_lt)
attribute [local go_sem ↓] Go.wp_at_zero Go.wp_at_succ
def PredB (g : Nat) (lb : Array Value) (p : Tri → Bool) (w : World) : Prop := ∀ (W : World) (x : Tri), Below w.heap.size w W → Calls Tryz.prog g (#[Pc.tv x] ++ lb) W fun e w' => e = .returned (.bool (p x)) ∧ Below W.heap.size W w'
set_option maxHeartbeats 2000000 in
set_option maxRecDepth 100000 in
theorem indexFuncB_any (v : Value) (l : List Tri) (g : Nat) (lb : Array Value) (p : Tri → Bool) (w : World) (hv : Pc.Lst w v l) (hl : l.length ≤ maxLen) (eg : ∀ args w, (callFunc g args).run Tryz.prog w = .ok (.enter g args) w) (hp : PredB g lb p w) :
    Calls Tryz.prog 64 #[v, .func (.func g) #[] lb] w fun e w' => e = .returned (.int .i64 (Pc.Cn.idxv p l)) ∧ Below w.heap.size w w' := by
 unfold maxLen at hl
 obtain ⟨pl, cl, rfl⟩ := hv.form
 have HL : Hid (Pc.Lst w (.slice pl l.length cl) l) := hv
 have HP : Hid (PredB g lb p w) := hp
 clear hv hp
 obtain ⟨r, hr⟩ : ∃ r, r = Pc.Cn.idxv p l := ⟨_, rfl⟩
 rw [← hr]
 have HRR : Hid (r = Pc.Cn.idxv p l) := hr
 clear hr
 go_enter Tryz.func64, Tryz.ntmps64
 go_wp2_with fail
 go_loopw [5, 8] (fun s5 s8 wr => ∃ k : Nat, k ≤ l.length ∧ s8 = .int .i64 k ∧ Below w.heap.size w wr ∧ Hid (∀ j y, j < k → l[j]? = some y → p y = false)) (fun _ s8 _ => l.length - (RowKit.intOf s8).toNat)
 case atStart => exact ⟨0, Nat.zero_le _, rfl, Below.refl _ _, fun j _ hj => absurd hj (Nat.not_lt_zero _)⟩
 case round =>
  obtain ⟨k, hk, rfl, hgr, A⟩ := hrel
  by_cases hlt : k < l.length
  ·have hltz : (k : Int) < (l.length : Int) := by omega
   obtain ⟨x, hx⟩ : ∃ x, l[k]? = some x := ⟨l[k], by simp⟩
   obtain ⟨b1, o1, c1, e1, z1, x1, x2, x3⟩ := (HL.out.below hgr).atP hx
   simp only [Value.slice.injEq] at e1
   obtain ⟨rfl, -, rfl⟩ := e1
   have HX : Hid (l[k]? = some x) := hx
   clear hx
   have hcall := HP.out wr x hgr
   cases hq : p x with
   | true =>
    rw [hq] at hcall
    go_wp2_with (go_at_fn g; refine hcall.mono ?_; rintro e w' ⟨rfl, hb'⟩)
    go_ret
    exact ⟨by rw [HRR.out, Pc.Cn.idxv_hit HX.out hq A.out]; rfl, hgr.trans (hb'.mono hgr.size)⟩
   | false =>
    rw [hq] at hcall
    go_wp2_with (go_at_fn g; refine hcall.mono ?_; rintro e w' ⟨rfl, hb'⟩)
    refine ⟨⟨k + 1, by omega, by go_num, hgr.trans (hb'.mono hgr.size), fun j y hj hy => ?_⟩, by simp [RowKit.intOf]; omega⟩
    by_cases e : j = k
    ·subst e
     have := HX.out
     rw [hy] at this
     cases this; exact hq
    ·exact A.out j y (by omega) hy
  ·have hltz : ¬ (k : Int) < (l.length : Int) := by omega
   have hk' : k = l.length := by omega
   subst hk'
   go_wp2
   go_ret
   exact ⟨by rw [HRR.out, Pc.Cn.idxv_miss A.out]; rfl, hgr⟩
set_option maxHeartbeats 2000000 in
theorem containsFuncB_any (v : Value) (l : List Tri) (g : Nat) (lb : Array Value) (p : Tri → Bool) (w : World) (hv : Pc.Lst w v l) (hl : l.length ≤ maxLen) (eg : ∀ args w, (callFunc g args).run Tryz.prog w = .ok (.enter g args) w) (hp : PredB g lb p w) :
    Calls Tryz.prog 43 #[v, .func (.func g) #[] lb] w fun e w' => e = .returned (.bool (l.any p)) ∧ Below w.heap.size w w' := by
 have h := indexFuncB_any v l g lb p w hv hl eg hp
 rw [← Pc.Cn.idxv_neg]
 generalize Pc.Cn.idxv p l = r at h ⊢
 go_enter Tryz.func43, Tryz.ntmps43
 go_wp2_with fail
 refine h.mono ?_
 rintro e w1 ⟨rfl, hg⟩
 go_wp2
 go_ret
 exact ⟨by first | rfl | simp, hg⟩
theorem on_any (a b : Tri) (w : World) : Calls Tryz.prog 45 #[Pc.tv a, Pc.tv b] w fun e w' => e = .returned (.tuple #[Pc.tv (thv a b), .bool (thn3 a b).isSome]) ∧ Below w.heap.size w w' := by
 obtain ⟨x1, x2, x3, y1, y2, y3, ⟨e1, e2, e3⟩, ⟨f1, f2, f3⟩, ⟨g1, g2, g3⟩, ⟨h1, h2, h3⟩, k0, k1, k2, k3⟩ := thv_nat a b
 have h := On_any x1 x2 x3 y1 y2 y3 w g1 g2 g3 h1 h2 h3
 rw [k1, k2, k3, k0] at h
 unfold Pc.tv
 rw [e1, e2, e3, f1, f2, f3]
 exact h
def cldP (s u b : Tri) : Bool := (thn3 b s).isSome && Pc.bel (thv b s) u
set_option maxHeartbeats 1000000 in
theorem could1_any {s u : Hf.Th} {B1 B2 : Nat} (x : Tri) (w : World) (h1 : w.heap[B1]? = some (.cells #[.int .i64 s.1, .int .u64 s.2.1.1, .int .u64 s.2.1.2.1, .int .u64 s.2.1.2.2] 52 (0, 0))) (h2 : w.heap[B2]? = some (.cells #[.int .i64 u.1, .int .u64 u.2.1.1, .int .u64 u.2.1.2.1, .int .u64 u.2.1.2.2] 52 (0, 0))) :
    Calls Tryz.prog 44 #[Pc.tv x, .pointer (some ⟨B1, 0, none⟩), .pointer (some ⟨B2, 0, none⟩)] w fun e w' => e = .returned (.bool (cldP s.2 u.2 x)) ∧ Below w.heap.size w w' := by
 unfold cldP
 have hon := fun W => on_any x s.2 W
 have hah := fun W => pAhead_any (thv x s.2).1.1 (thv x s.2).1.2.1 (thv x s.2).1.2.2 u.2.1.1 u.2.1.2.1 u.2.1.2.2 W
 rw [show tle (thv x s.2).1.1 (thv x s.2).1.2.1 (thv x s.2).1.2.2 u.2.1.1 u.2.1.2.1 u.2.1.2.2 = Pc.bel (thv x s.2) u.2 from rfl] at hah
 generalize Pc.bel (thv x s.2) u.2 = bb at hah ⊢
 generalize thv x s.2 = cv at hon hah
 generalize (thn3 x s.2).isSome = ok at hon ⊢
 unfold Pc.tv at hon
 have HS : Hid (∀ W, Below w.heap.size w W → W.heap[B1]? = some (.cells #[.int .i64 s.1, .int .u64 s.2.1.1, .int .u64 s.2.1.2.1, .int .u64 s.2.1.2.2] 52 (0, 0)) ∧ W.heap[B2]? = some (.cells #[.int .i64 u.1, .int .u64 u.2.1.1, .int .u64 u.2.1.2.1, .int .u64 u.2.1.2.2] 52 (0, 0))) := fun W hb => ⟨(hb.block _ (tk_lt h1)).trans h1, (hb.block _ (tk_lt h2)).trans h2⟩
 obtain ⟨W0, hW0⟩ : ∃ W, W = w.alloc (.cells #[.int .u64 x.1.1, .int .u64 x.1.2.1, .int .u64 x.1.2.2] 39) := ⟨_, rfl⟩
 obtain ⟨xb, hxb⟩ : ∃ b, b = w.heap.size := ⟨_, rfl⟩
 have B0 : Hid (Below w.heap.size w W0 ∧ W0.heap[xb]? = some (.cells #[.int .u64 x.1.1, .int .u64 x.1.2.1, .int .u64 x.1.2.2] 39 (0, 0))) := by
  rw [hW0, hxb]
  exact ⟨((Gr.refl w).alloc _).below, heap_new' _ _⟩
 have HW0 : Hid (w.alloc (.cells #[.int .u64 x.1.1, .int .u64 x.1.2.1, .int .u64 x.1.2.2] 39) = W0 ∧ w.heap.size = xb) := ⟨hW0.symm, hxb.symm⟩
 clear h1 h2 hW0 hxb
 go_enter Tryz.func44, Tryz.ntmps44
 go_upto_region 1 with fail
 rw [HW0.out.1, HW0.out.2]
 clear HW0
 obtain ⟨q1, q2⟩ := HS.out _ B0.out.1
 have c1 := (tk_store q1).1
 have l1 := tk_lt q1
 have c2 := (tk_store B0.out.2).1
 have l2 := tk_lt B0.out.2
 clear q1 q2
 go_wp2_with fail
 refine (hon _).mono ?_
 rintro e w1 ⟨rfl, hb1⟩
 clear c1 l1 c2 l2
 have HB1 : Hid (Below w.heap.size w w1) := B0.out.1.trans (hb1.mono B0.out.1.size)
 obtain ⟨W2, hW2⟩ : ∃ W, W = w1.alloc (.cells #[.int .u64 cv.1.1, .int .u64 cv.1.2.1, .int .u64 cv.1.2.2] 50) := ⟨_, rfl⟩
 obtain ⟨yb, hyb⟩ : ∃ b, b = w1.heap.size := ⟨_, rfl⟩
 have P2 : Hid (Below w.heap.size w W2 ∧ W2.heap[yb]? = some (.cells #[.int .u64 cv.1.1, .int .u64 cv.1.2.1, .int .u64 cv.1.2.2] 50 (0, 0))) := by
  rw [hW2, hyb]
  exact ⟨HB1.out.trans (((Gr.refl w1).alloc _).below.mono HB1.out.size), heap_new' _ _⟩
 have HW2 : Hid (w1.alloc (.cells #[.int .u64 cv.1.1, .int .u64 cv.1.2.1, .int .u64 cv.1.2.2] 50) = W2 ∧ w1.heap.size = yb) := ⟨hW2.symm, hyb.symm⟩
 clear hW2 hyb hb1
 go_upto_region 2 with fail
 rw [HW2.out.1, HW2.out.2]
 clear HW2
 obtain ⟨q1, q2⟩ := HS.out _ P2.out.1
 have c1 := (tk_store q2).1
 have l1 := tk_lt q2
 have c2 := (tk_store P2.out.2).1
 have l2 := tk_lt P2.out.2
 clear q1 q2
 cases ok with
 | true =>
  go_wp2_with fail
  refine (hah _).mono ?_
  rintro e w3 ⟨rfl, hg3⟩
  clear c1 l1 c2 l2
  go_wp2
  go_ret
  exact ⟨by simp, P2.out.1.trans (hg3.below.mono P2.out.1.size)⟩
 | false =>
  go_wp2
  go_ret
  exact ⟨by simp, P2.out.1⟩
set_option maxHeartbeats 1000000 in
theorem could_any {M n : Nat} {tv : Value} {R : Nat → Nat → List Tri} (s u : Hf.Th) (w : World) (h : Tv M w tv n R) (hM : M ≤ w.heap.size) (hl : (bt n R s.1 u.1).length ≤ 64) : Calls Tryz.prog 17 #[tv, .agg #[.int .i64 s.1, .int .u64 s.2.1.1, .int .u64 s.2.1.2.1, .int .u64 s.2.1.2.2], .agg #[.int .i64 u.1, .int .u64 u.2.1.1, .int .u64 u.2.1.2.1, .int .u64 u.2.1.2.2]] w fun e w' => e = .returned (.bool ((bt n R s.1 u.1).any (cldP s.2 u.2))) ∧ Below w.heap.size w w' := by
 obtain ⟨W0, hW0⟩ : ∃ W, W = (w.alloc (.cells #[.int .i64 s.1, .int .u64 s.2.1.1, .int .u64 s.2.1.2.1, .int .u64 s.2.1.2.2] 52)).alloc (.cells #[.int .i64 u.1, .int .u64 u.2.1.1, .int .u64 u.2.1.2.1, .int .u64 u.2.1.2.2] 52) := ⟨_, rfl⟩
 obtain ⟨xb, hxb⟩ : ∃ b, b = w.heap.size := ⟨_, rfl⟩
 have B0 : Hid (Below w.heap.size w W0 ∧ W0.heap[xb]? = some (.cells #[.int .i64 s.1, .int .u64 s.2.1.1, .int .u64 s.2.1.2.1, .int .u64 s.2.1.2.2] 52 (0, 0)) ∧ W0.heap[xb + 1]? = some (.cells #[.int .i64 u.1, .int .u64 u.2.1.1, .int .u64 u.2.1.2.1, .int .u64 u.2.1.2.2] 52 (0, 0))) := by
  rw [hW0, hxb]
  exact ⟨(((Gr.refl w).alloc _).alloc _).below, Df.new1 w _ _, Df.new2 w _ _⟩
 have HW0 : Hid ((w.alloc (.cells #[.int .i64 s.1, .int .u64 s.2.1.1, .int .u64 s.2.1.2.1, .int .u64 s.2.1.2.2] 52)).alloc (.cells #[.int .i64 u.1, .int .u64 u.2.1.1, .int .u64 u.2.1.2.1, .int .u64 u.2.1.2.2] 52) = W0 ∧ w.heap.size = xb) := ⟨hW0.symm, hxb.symm⟩
 have hb := between_any s.1 u.1 W0 (h.keep (B0.out.1.mono hM))
 clear hW0 hxb h hM
 have hpr : PredB 44 #[.pointer (some ⟨xb, 0, none⟩), .pointer (some ⟨xb + 1, 0, none⟩)] (cldP s.2 u.2) W0 := fun W x hW => could1_any x W ((hW.block _ (tk_lt B0.out.2.1)).trans B0.out.2.1) ((hW.block _ (tk_lt B0.out.2.2)).trans B0.out.2.2)
 have HPR := hid hpr
 have c1 := (tk_store B0.out.2.1).1
 have l1 := tk_lt B0.out.2.1
 have c2 := (tk_store B0.out.2.2).1
 have l2 := tk_lt B0.out.2.2
 clear hpr
 generalize bt n R s.1 u.1 = l at *
 go_enter Tryz.func17, Tryz.ntmps17
 go_upto_region 1 with fail
 rw [HW0.out.1, HW0.out.2]
 clear HW0
 go_wp2_with fail
 refine hb.mono ?_
 rintro e w1 ⟨pp, c, rfl, hw1, hq⟩
 rw [hw1]
 clear hw1 hb
 have hct := containsFuncB_any _ l 44 #[.pointer (some ⟨xb, 0, none⟩), .pointer (some ⟨xb + 1, 0, none⟩)] (cldP s.2 u.2) W0 hq.1 (by unfold maxLen; omega) (enters_of Tryz.func44 (by kernel_rfl) rfl) HPR.out
 clear hq c1 l1 c2 l2
 go_wp2_with fail
 refine hct.mono ?_
 rintro e w2 ⟨rfl, h2⟩
 clear hct
 have HB2 : Hid (Below w.heap.size w w2) := B0.out.1.trans (h2.mono B0.out.1.size)
 clear h2
 go_wp2
 go_ret
 exact ⟨rfl, HB2.out⟩
end Go.Proofs.YtjppkehnjnmbnaaGreat.Lf
