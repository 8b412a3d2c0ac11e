import Derived.Test.YtdnnfgabdkkdjaaGreatGNod2
import Derived.BigQuiet
namespace Go.Proofs.YtdnnfgabdkkdjaaGreat.Df
open Go.RowKit Go.Sort
attribute [local go_sem ↓] Go.wp_at_zero Go.wp_at_succ
def natN? (ns : List Nod) (i : Int) : Option Nod := if 0 ≤ i then ns[i.toNat]? else none
def hasIN (ns : List Nod) (i p : Int) : Bool := match natN? ns i with | some x => decide (0 ≤ p ∧ p < x.ins) | none => false
def hasON (ns : List Nod) (i p : Int) : Bool := match natN? ns i with | some x => decide (0 ≤ p ∧ p < x.outs) | none => false
theorem nat_map (xs : List NV) (i : Int) : natN? (xs.map NV.n) i = (nat? xs i).map NV.n := by
 unfold natN? nat?
 split <;> simp
theorem hasI_map (xs : List NV) (i p : Int) : hasI xs i p = hasIN (xs.map NV.n) i p := by
 unfold hasI hasIN
 rw [nat_map]
 cases nat? xs i <;> rfl
theorem hasO_map (xs : List NV) (i p : Int) : hasO xs i p = hasON (xs.map NV.n) i p := by
 unfold hasO hasON
 rw [nat_map]
 cases nat? xs i <;> rfl
def eflawN (ns : List Nod) (l : List Edg) (d : Edg) : Int := if hasON ns d.src d.out = false ∨ hasIN ns d.dst d.inn = false ∨ anyw l d = true then 25 else match natN? ns d.dst with | some y => if y.kind = 6 ∧ d.keyed = false then 26 else 0 | none => 0
theorem eflaw_map (xs : List NV) (l : List Edg) (d : Edg) : eflaw xs l d = eflawN (xs.map NV.n) l d := by
 unfold eflaw eflawN
 rw [hasI_map, hasO_map, nat_map]
 cases nat? xs d.dst <;> rfl
def NG (g : Gph) (i : Nat) : Prop := ∀ j n, j < i → g.nodes[j]? = some n → nflaw g.arity n = 0
def EG (g : Gph) (i : Nat) : Prop := ∀ j d, j < i → g.edges[j]? = some d → eflawN g.nodes (g.edges.take j) d = 0
inductive Fl (g : Gph) : Int → Int → Prop
 | arity : (g.arity < 1 ∨ 3 < g.arity) → Fl g 10 0
 | long : 1 ≤ g.arity → g.arity ≤ 3 → (24 < g.nodes.length ∨ 48 < g.edges.length) → Fl g 2 0
 | node (i : Nat) (n : Nod) : 1 ≤ g.arity → g.arity ≤ 3 → g.nodes.length ≤ 24 → g.edges.length ≤ 48 → g.nodes[i]? = some n → NG g i → nflaw g.arity n ≠ 0 → Fl g (nflaw g.arity n) i
 | edge (i : Nat) (d : Edg) : 1 ≤ g.arity → g.arity ≤ 3 → g.nodes.length ≤ 24 → g.edges.length ≤ 48 → NG g g.nodes.length → g.edges[i]? = some d → EG g i → eflawN g.nodes (g.edges.take i) d ≠ 0 → Fl g (eflawN g.nodes (g.edges.take i) d) (g.nodes.length + i : Nat)
 | none : 1 ≤ g.arity → g.arity ≤ 3 → g.nodes.length ≤ 24 → g.edges.length ≤ 48 → NG g g.nodes.length → EG g g.edges.length → Fl g 0 0
structure Gok (g : Gph) : Prop where
 a1 : 1 ≤ g.arity
 a2 : g.arity ≤ 3
 nl : g.nodes.length ≤ 24
 el : g.edges.length ≤ 48
 ng : NG g g.nodes.length
 eg : EG g g.edges.length
theorem Fl.ok {g : Gph} {e t : Int} (h : Fl g e t) : e = 0 ↔ Gok g := by
 cases h with
 | arity h => exact ⟨fun h0 => (by cases h0), fun k => by have := k.a1; have := k.a2; omega⟩
 | long _ _ h => exact ⟨fun h0 => (by cases h0), fun k => by have := k.nl; have := k.el; omega⟩
 | node i n _ _ _ _ hi _ hf => exact ⟨fun h0 => absurd h0 hf, fun k => k.ng i n (List.getElem?_eq_some_iff.1 hi).1 hi⟩
 | edge i d _ _ _ _ _ hi _ hf => exact ⟨fun h0 => absurd h0 hf, fun k => k.eg i d (List.getElem?_eq_some_iff.1 hi).1 hi⟩
 | none h1 h2 h3 h4 h5 h6 => exact ⟨fun _ => ⟨h1, h2, h3, h4, h5, h6⟩, fun _ => rfl⟩
theorem Fl.same {g : Gph} {e t e' t' : Int} (h : Fl g e t) (k : Fl g e' t') : e = e' ∧ t = t' := by
 have ngl : ∀ {i j : Nat} {n : Nod}, NG g i → g.nodes[j]? = some n → nflaw g.arity n ≠ 0 → i ≤ j := fun h hj hf => Nat.le_of_not_lt fun hlt => hf (h _ _ hlt hj)
 have egl : ∀ {i j : Nat} {d : Edg}, EG g i → g.edges[j]? = some d → eflawN g.nodes (g.edges.take j) d ≠ 0 → i ≤ j := fun h hj hf => Nat.le_of_not_lt fun hlt => hf (h _ _ hlt hj)
 have lt : ∀ {α : Type} {l : List α} {i : Nat} {x : α}, l[i]? = some x → i < l.length := fun h => (List.getElem?_eq_some_iff.1 h).1
 cases h with
 | arity h => cases k <;> first | exact ⟨rfl, rfl⟩ | omega
 | long h1 h2 h3 => cases k <;> first | exact ⟨rfl, rfl⟩ | omega
 | node i n h1 h2 h3 h4 hi hg hf =>
  cases k with
  | arity => omega
  | long => omega
  | node j m _ _ _ _ hj kg kf =>
   have : i = j := Nat.le_antisymm (ngl hg hj kf) (ngl kg hi hf)
   subst this
   rw [hi] at hj
   cases hj
   exact ⟨rfl, rfl⟩
  | edge j d _ _ _ _ kn => have := ngl kn hi hf; have := lt hi; omega
  | none _ _ _ _ kn _ => have := ngl kn hi hf; have := lt hi; omega
 | edge i d h1 h2 h3 h4 hn hi hg hf =>
  cases k with
  | arity => omega
  | long => omega
  | node j m _ _ _ _ hj kg kf => have := ngl hn hj kf; have := lt hj; omega
  | edge j m _ _ _ _ _ hj kg kf =>
   have : i = j := Nat.le_antisymm (egl hg hj kf) (egl kg hi hf)
   subst this
   rw [hi] at hj
   cases hj
   exact ⟨rfl, rfl⟩
  | none _ _ _ _ _ ke => have := egl ke hi hf; have := lt hi; omega
 | none h1 h2 h3 h4 hn he =>
  cases k with
  | arity => omega
  | long => omega
  | node j m _ _ _ _ hj kg kf => have := ngl hn hj kf; have := lt hj; omega
  | edge j m _ _ _ _ _ hj kg kf => have := egl he hj kf; have := lt hj; omega
  | none => exact ⟨rfl, rfl⟩
structure Gcap (ev : Value) (xs : List NV) : Prop where
 edges : ∀ p n c, ev = .slice p n c → n ≤ c
 conns : ∀ x ∈ xs, x.n.conns.length ≤ x.dc ∧ x.n.conns.length ≤ 140737488351232
theorem ng_step {g : Gph} {i : Nat} {n : Nod} (h : NG g i) (hi : g.nodes[i]? = some n) (hf : nflaw g.arity n = 0) : NG g (i + 1) := fun j m hj hm => by
 by_cases e : j = i
 ·subst e; rw [hi] at hm; cases hm; exact hf
 ·exact h j m (by omega) hm
theorem eg_step {g : Gph} {i : Nat} {d : Edg} (h : EG g i) (hi : g.edges[i]? = some d) (hf : eflawN g.nodes (g.edges.take i) d = 0) : EG g (i + 1) := fun j m hj hm => by
 by_cases e : j = i
 ·subst e; rw [hi] at hm; cases hm; exact hf
 ·exact h j m (by omega) hm
theorem Lz.front {α : Type} {E : El α} {M : Nat} {w : World} {p : Option Addr} {n c : Nat} {l : List α} (h : Lz E M w (.slice p n c) l) (k : Nat) (hk : k ≤ l.length) (c2 : Nat) : Lz E M w (.slice p k c2) (l.take k) := by
 rcases h with ⟨h, hb⟩ | ⟨rfl, q, c', e⟩
 ·cases p with
  | none =>
   rcases h with ⟨rfl, e⟩ | ⟨b, off, c', e, _⟩
   ·obtain rfl : k = 0 := by simpa using hk
    exact Or.inr ⟨by simp, none, c2, rfl⟩
   ·cases e
  | some a =>
   rcases h with ⟨rfl, e⟩ | ⟨b, off, c', e, hlt, hl⟩
   ·cases e
   ·simp only [Value.slice.injEq, Option.some.injEq] at e
    obtain ⟨rfl, rfl, rfl⟩ := e
    refine Or.inl ⟨Ls.cut (c := c) (n := l.length) (Or.inr ⟨b, off, c, rfl, hlt, hl⟩) hk c2, fun k hk => hb k (by simpa [Value.ownBlock] using hk)⟩
 ·obtain rfl : k = 0 := by simpa using hk
  exact Or.inr ⟨by simp, p, c2, rfl⟩
set_option maxRecDepth 100000 in
set_option maxHeartbeats 8000000 in
theorem flawof_any {M : Nat} {nv ev : Value} {a : Int} {xs : List NV} {es : List Edg} (w : World) (hG : GR M w nv ev xs es) (hC : Gcap ev xs) : Calls Tryz.prog 53 #[.agg (gvc a nv ev)] w fun r w' => ∃ e t : Int, r = .returned (.tuple #[.int .i64 e, .int .i64 t]) ∧ Fl (gof a xs es) e t ∧ Below w.heap.size w w' := by
 have hmx : Tryz.prog.follows .mixedOrders = true := by kernel_rfl
 obtain ⟨pn, cn, hnv⟩ := hG.nodes.form
 obtain ⟨pe, ce, hev⟩ := hG.edges.form
 obtain ⟨nl, hnl⟩ : ∃ n, n = xs.length := ⟨_, rfl⟩
 obtain ⟨el, hel⟩ : ∃ n, n = es.length := ⟨_, rfl⟩
 rw [← hnl] at hnv
 rw [← hel] at hev
 subst hnv
 subst hev
 have HC := hid hC
 have HNL : Hid (nl = (gof a xs es).nodes.length ∧ nl = xs.length) := ⟨by simp [hnl], hnl⟩
 have HEL : Hid (el = (gof a xs es).edges.length ∧ el = es.length) := ⟨by simp [hel], hel⟩
 have g0 := (Gr.refl w).alloc (.cells (gvc a (.slice pn nl cn) (.slice pe el ce)) 25)
 have HG := hid (hG.below g0.below)
 have HB := hid (heap_new' w (.cells (gvc a (.slice pn nl cn) (.slice pe el ce)) 25))
 have B0 := hid g0.below
 obtain ⟨W0, hW0⟩ : ∃ W, W = w.alloc (.cells (gvc a (.slice pn nl cn) (.slice pe el ce)) 25) := ⟨_, rfl⟩
 have HW : Hid (w.alloc (.cells #[.int .i64 a, .slice pn nl cn, .slice pe el ce] 25) = W0) := hW0.symm
 rw [← hW0] at HG HB B0
 have c0 := (tk_store HB.out).1
 have l0 := tk_lt HB.out
 clear hG g0 hW0 hnl hel hC
 by_cases ha : a < 1
 ·have HF : Hid (Fl (gof a xs es) 10 0) := .arity (Or.inl ha)
  go_enter Tryz.func53, Tryz.ntmps53
  go_upto_region 1 with fail
  rw [HW.out]
  go_wp2_with fail
  go_ret2
  exact ⟨10, 0, rfl, HF.out, B0.out⟩
 ·by_cases ha3 : 3 < a
  ·have HF : Hid (Fl (gof a xs es) 10 0) := .arity (Or.inr ha3)
   go_enter Tryz.func53, Tryz.ntmps53
   go_upto_region 1 with fail
   rw [HW.out]
   go_wp2_with fail
   go_ret2
   exact ⟨10, 0, rfl, HF.out, B0.out⟩
  ·by_cases hn : 24 < nl
   ·have hnz : (24 : Int) < (nl : Int) := by omega
    have HF : Hid (Fl (gof a xs es) 2 0) := .long (show 1 ≤ a by omega) (show a ≤ 3 by omega) (Or.inl (by rw [← HNL.out.1]; exact hn))
    clear hn
    go_enter Tryz.func53, Tryz.ntmps53
    go_upto_region 1 with fail
    rw [HW.out]
    go_wp2_with fail
    go_ret2
    exact ⟨2, 0, rfl, HF.out, B0.out⟩
   ·have hnz : ¬ (24 : Int) < (nl : Int) := by omega
    by_cases he : 48 < el
    ·have hez : (48 : Int) < (el : Int) := by omega
     have HF : Hid (Fl (gof a xs es) 2 0) := .long (show 1 ≤ a by omega) (show a ≤ 3 by omega) (Or.inr (by rw [← HEL.out.1]; exact he))
     clear hn he
     go_enter Tryz.func53, Tryz.ntmps53
     go_upto_region 1 with fail
     rw [HW.out]
     go_wp2_with fail
     go_ret2
     exact ⟨2, 0, rfl, HF.out, B0.out⟩
    ·have hez : ¬ (48 : Int) < (el : Int) := by omega
     have HA : Hid (1 ≤ (gof a xs es).arity ∧ (gof a xs es).arity ≤ 3 ∧ (gof a xs es).nodes.length ≤ 24 ∧ (gof a xs es).edges.length ≤ 48) := ⟨show 1 ≤ a by omega, show a ≤ 3 by omega, by rw [← HNL.out.1]; omega, by rw [← HEL.out.1]; omega⟩
     clear hn he
     go_enter Tryz.func53, Tryz.ntmps53
     go_upto_region 1 with fail
     rw [HW.out]
     clear HW
     go_wp2_with fail
     have h24 : nl ≤ 24 := by omega
     have h48 : el ≤ 48 := by omega
     clear hnz hez ha ha3
     go_loopw [31] (fun s31 wr => ∃ j : Nat, j ≤ nl ∧ s31 = .int .i64 (j : Nat) ∧ Hid (Below W0.heap.size W0 wr ∧ NG (gof a xs es) j)) (fun s31 _ => nl - (RowKit.intOf s31).toNat)
     case atStart => exact ⟨0, Nat.zero_le _, rfl, Below.refl _ _, fun _ _ h => absurd h (Nat.not_lt_zero _)⟩
     case round =>
      clear c0 l0
      obtain ⟨j, hj, rfl, HI⟩ := hrel
      have hb0 := (HI.out.1.block _ (tk_lt HB.out)).trans HB.out
      have c1 := (tk_store hb0).1
      have l1 := tk_lt hb0
      by_cases hlt : j < nl
      ·have hltz : (j : Int) < (nl : Int) := by omega
       obtain ⟨y, hy⟩ : ∃ y, xs[j]? = some y := ⟨xs[j]'(by have := HNL.out.2; omega), by simp⟩
       have hym := List.mem_of_getElem? hy
       obtain ⟨b1, o1, q1, ev1, zz1, x0, x1, x2, x3, x4, x5, x6, x7, x8, x9⟩ := ls_atV ((HG.out.nodes.below HI.out.1).ls hy) hy
       simp only [Value.slice.injEq] at ev1
       obtain ⟨rfl, -, rfl⟩ := ev1
       have HYN : Hid ((gof a xs es).nodes[j]? = some y.n) := by show _ = _; simp [hy]
       obtain ⟨yb, hyb⟩ : ∃ b, b = wr.heap.size := ⟨_, rfl⟩
       obtain ⟨W5, hW5⟩ : ∃ W, W = wr.alloc (.cells y.cells 89) := ⟨_, rfl⟩
       have P5 : Hid (Below W0.heap.size W0 W5 ∧ W5.heap[yb]? = some (.cells y.cells 89 (0, 0)) ∧ W5.heap[w.heap.size]? = some (.cells (gvc a (.slice (some ⟨b1, o1, none⟩) nl cn) (.slice pe el ce)) 25 (0, 0))) := by
        have g5 := ((Gr.refl wr).alloc (.cells y.cells 89)).below
        have h5 := HI.out.1.trans (g5.mono HI.out.1.size)
        rw [hW5, hyb]
        exact ⟨h5, heap_new' _ _, (h5.block _ (tk_lt HB.out)).trans HB.out⟩
       have HW5 : Hid (wr.alloc (.cells #[.int .i64 y.n.kind, .int .i64 y.n.ins, .int .i64 y.n.outs, .slice y.cq y.cm y.cc, .int .u64 (y.n.via.1 : Nat), .int .u64 (y.n.via.2.1 : Nat), .int .u64 (y.n.via.2.2 : Nat), .int .u64 (y.n.bound : Nat), .slice y.dq y.dm y.dc, .bool y.n.start] 89) = W5 ∧ wr.heap.size = yb) := ⟨hW5.symm, hyb.symm⟩
       have cy := (tk_store P5.out.2.1).1
       have ly := tk_lt P5.out.2.1
       have cg := (tk_store P5.out.2.2).1
       have lg := tk_lt P5.out.2.2
       have hcall := nodeflaw_any y a W5 ((HG.out.each y hym).below P5.out.1) (HC.out.conns y hym).1 (HC.out.conns y hym).2
       clear hW5 hyb hy hym hb0
       by_cases hz : nflaw a y.n = 0
       ·rw [hz] at hcall
        have HZ := hid hz
        clear hz
        go_upto_region 8 with fail
        rw [HW5.out.1, HW5.out.2]
        clear HW5 x0 x1 x2 x3 x4 x5 x6 x7 x8 x9 zz1 c1 l1
        go_wp2_with fail
        refine hcall.mono ?_
        rintro r w6 ⟨rfl, b6⟩
        have B6 := hid (P5.out.1.trans (b6.mono P5.out.1.size))
        clear b6 cy ly cg lg hcall
        go_wp2_with fail
        go_roundw
        case rel => exact ⟨j + 1, by omega, by go_num, B6.out, ng_step HI.out.2 HYN.out HZ.out⟩
        case measure => simp [RowKit.intOf]; omega
       ·have HF : Hid (Fl (gof a xs es) (nflaw a y.n) j) := .node j y.n HA.out.1 HA.out.2.1 HA.out.2.2.1 HA.out.2.2.2 HYN.out HI.out.2 hz
        generalize nflaw a y.n = zz at hcall HF hz
        have hb : (zz == 0) = false := by simp [hz]
        have hb' : (zz != 0) = true := by simp [hz]
        go_upto_region 8 with fail
        rw [HW5.out.1, HW5.out.2]
        clear HW5 x0 x1 x2 x3 x4 x5 x6 x7 x8 x9 zz1 c1 l1
        go_wp2_with fail
        refine hcall.mono ?_
        rintro r w6 ⟨rfl, b6⟩
        have B6 := hid (B0.out.trans ((P5.out.1.trans (b6.mono P5.out.1.size)).mono B0.out.size))
        clear b6 cy ly cg lg hcall
        go_wp2_with fail
        go_ret2
        exact ⟨zz, j, rfl, HF.out, B6.out⟩
      ·have hltz : ¬ (j : Int) < (nl : Int) := by omega
       have HN : Hid (NG (gof a xs es) (gof a xs es).nodes.length) := by
        have h := HI.out.2
        rw [show j = nl by omega, HNL.out.1] at h
        exact h
       go_wp2_with fail
       have HB1 := hid hb0
       have BI := hid HI.out.1
       clear c1 l1 hb0 HI hltz hlt
       go_loopw [48] (fun s48 wr => ∃ j : Nat, j ≤ el ∧ s48 = .int .i64 (j : Nat) ∧ Hid (Below W0.heap.size W0 wr ∧ EG (gof a xs es) j)) (fun s48 _ => el - (RowKit.intOf s48).toNat)
       case atStart => exact ⟨0, Nat.zero_le _, rfl, BI.out, fun _ _ h => absurd h (Nat.not_lt_zero _)⟩
       case round =>
        obtain ⟨i, hi, rfl, HI⟩ := hrel
        clear HB1 BI
        have hb0 := (HI.out.1.block _ (tk_lt HB.out)).trans HB.out
        by_cases hlt : i < el
        ·have hltz : (i : Int) < (el : Int) := by omega
         obtain ⟨y, hy⟩ : ∃ y, es[i]? = some y := ⟨es[i]'(by have := HEL.out.2; omega), by simp⟩
         obtain ⟨b1, o1, q1, ev1, zz1, x0, x1, x2, x3, x4⟩ := ls_atD ((HG.out.edges.below HI.out.1).ls hy) hy
         simp only [Value.slice.injEq] at ev1
         obtain ⟨rfl, -, rfl⟩ := ev1
         have HYN : Hid ((gof a xs es).edges[i]? = some y) := hy
         obtain ⟨yb, hyb⟩ : ∃ b, b = wr.heap.size := ⟨_, rfl⟩
         obtain ⟨W5, hW5⟩ : ∃ W, W = wr.alloc (.cells (ecells y) 94) := ⟨_, rfl⟩
         have P5 : Hid (Below W0.heap.size W0 W5 ∧ W5.heap[yb]? = some (.cells (ecells y) 94 (0, 0)) ∧ W5.heap[w.heap.size]? = some (.cells (gvc a (.slice pn nl cn) (.slice (some ⟨b1, o1, none⟩) el ce)) 25 (0, 0))) := by
          have g5 := ((Gr.refl wr).alloc (.cells (ecells y) 94)).below
          have h5 := HI.out.1.trans (g5.mono HI.out.1.size)
          rw [hW5, hyb]
          exact ⟨h5, heap_new' _ _, (h5.block _ (tk_lt HB.out)).trans HB.out⟩
         have HW5 : Hid (wr.alloc (.cells #[.int .i64 y.src, .int .i64 y.out, .int .i64 y.dst, .int .i64 y.inn, .bool y.keyed] 94) = W5 ∧ wr.heap.size = yb) := ⟨hW5.symm, hyb.symm⟩
         have hce : el ≤ ce := HC.out.edges _ _ _ rfl
         have hcall : ∀ W, Below W5.heap.size W5 W → Calls Tryz.prog 78 #[.agg (ecells y), .slice (some ⟨b1, o1, none⟩) i ce, .slice pn nl cn] W fun r w' => r = .returned (.int .i64 (eflawN (gof a xs es).nodes ((gof a xs es).edges.take i) y)) ∧ Below W.heap.size W w' := fun W hb => by
          have hbw := P5.out.1.trans (hb.mono P5.out.1.size)
          have h1 := (HG.out.edges.below hbw).front i (by have := HEL.out.2; omega) ce
          have h := edgeflaw_any y W h1 (HG.out.nodes.below hbw) (by have := HEL.out.2; have := HG.out.wide; have := HA.out.2.2.2; simp at this ⊢; omega)
          rw [eflaw_map] at h
          exact h
         clear hW5 hyb hy hb0
         generalize hzz : eflawN (gof a xs es).nodes ((gof a xs es).edges.take i) y = zz at hcall
         have HZZ := hid hzz
         clear hzz
         go_upto_region 15 with fail
         rw [HW5.out.1, HW5.out.2]
         clear HW5 x0 x1 x2 x3 x4 zz1
         have hS0 : Below W5.heap.size W5 W5.drew := (Gr.refl W5).drew.below
         have hi0 : (0 : Int) ≤ (i : Int) := by omega
         have hic : (i : Int) ≤ (ce : Int) := by omega
         clear hce
         refine wp_regionD (S := fun W => Below W5.heap.size W5 W) (D := []) hmx ?_
         refine' wpAnyD_take (i := 0) (oi := ⟨some 53, .load 94 (.tmp 8), 94, "look.go:23", #[], none⟩) (v := _) rfl (by kernel_rfl) (by kernel_rfl) (by kernel_rfl) (fun _ _ _ h => h) (by kernel_rfl) (Or.inl ⟨by rfl, ?hy1⟩) hS0 ?rest1
         case hy1 => (intro W hSw; have hb := (hSw.block _ (tk_lt P5.out.2.1)).trans P5.out.2.1; have hc := (tk_store hb).1; have hl := tk_lt hb; go_simp; try (with_reducible rfl))
         try simp only [Act.put, List.setIfInBounds_toArray, List.set_cons_zero, List.set_cons_succ]
         refine' wpAnyD_take (i := 1) (oi := ⟨some 54, .fieldAddr 25 (.tmp 1) 2, 0, "look.go:23", #[], none⟩) (v := _) rfl (by kernel_rfl) (by kernel_rfl) (by kernel_rfl) (fun _ _ _ h => h) (by kernel_rfl) (Or.inl ⟨by rfl, ?hy2⟩) hS0 ?rest2
         case hy2 => (intro W hSw; go_simp; try (with_reducible rfl))
         try simp only [Act.put, List.setIfInBounds_toArray, List.set_cons_zero, List.set_cons_succ]
         refine' wpAnyD_take (i := 2) (oi := ⟨some 55, .load 23 (.tmp 54), 23, "look.go:23", #[⟨1, .data⟩], none⟩) (v := _) rfl (by kernel_rfl) (by kernel_rfl) (by kernel_rfl) (fun _ _ _ h => h) (by kernel_rfl) (Or.inl ⟨by rfl, ?hy3⟩) hS0 ?rest3
         case hy3 => (intro W hSw; have hb := (hSw.block _ (tk_lt P5.out.2.2)).trans P5.out.2.2; have hc := (tk_store hb).1; have hl := tk_lt hb; go_simp; try (with_reducible rfl))
         try simp only [Act.put, List.setIfInBounds_toArray, List.set_cons_zero, List.set_cons_succ]
         refine' wpAnyD_take (i := 3) (oi := ⟨some 56, .move (.tmp 7), 3, "look.go:23", #[], none⟩) (v := _) rfl (by kernel_rfl) (by kernel_rfl) (by kernel_rfl) (fun _ _ _ h => h) (by kernel_rfl) (Or.inl ⟨by rfl, ?hy4⟩) hS0 ?rest4
         case hy4 => (intro W hSw; go_simp; try (with_reducible rfl))
         try simp only [Act.put, List.setIfInBounds_toArray, List.set_cons_zero, List.set_cons_succ]
         refine' wpAnyD_take (i := 4) (oi := ⟨some 57, .slice 23 (.tmp 55) none (some (.tmp 56)) none, 23, "look.go:23", #[⟨2, .data⟩, ⟨3, .data⟩], none⟩) (v := _) rfl (by kernel_rfl) (by kernel_rfl) (by kernel_rfl) (fun _ _ _ h => h) (by kernel_rfl) (Or.inl ⟨by rfl, ?hy5⟩) hS0 ?rest5
         case hy5 => (intro W hSw; go_simp; try (with_reducible rfl))
         try simp only [Act.put, List.setIfInBounds_toArray, List.set_cons_zero, List.set_cons_succ]
         refine' wpAnyD_take (i := 5) (oi := ⟨some 58, .fieldAddr 25 (.tmp 1) 1, 0, "look.go:23", #[], none⟩) (v := _) rfl (by kernel_rfl) (by kernel_rfl) (by kernel_rfl) (fun _ _ _ h => h) (by kernel_rfl) (Or.inl ⟨by rfl, ?hy6⟩) hS0 ?rest6
         case hy6 => (intro W hSw; go_simp; try (with_reducible rfl))
         try simp only [Act.put, List.setIfInBounds_toArray, List.set_cons_zero, List.set_cons_succ]
         refine' wpAnyD_take (i := 6) (oi := ⟨some 59, .load 22 (.tmp 58), 22, "look.go:23", #[⟨5, .data⟩], none⟩) (v := _) rfl (by kernel_rfl) (by kernel_rfl) (by kernel_rfl) (fun _ _ _ h => h) (by kernel_rfl) (Or.inl ⟨by rfl, ?hy7⟩) hS0 ?rest7
         case hy7 => (intro W hSw; have hb := (hSw.block _ (tk_lt P5.out.2.2)).trans P5.out.2.2; have hc := (tk_store hb).1; have hl := tk_lt hb; go_simp; try (with_reducible rfl))
         try simp only [Act.put, List.setIfInBounds_toArray, List.set_cons_zero, List.set_cons_succ]
         refine wpAnyD_one (i := 7) (o := ⟨some 60, .call ⟨.value (.func 78), #[.tmp 53, .tmp 57, .tmp 59], #[94, 23, 22]⟩, 76, "look.go:23", #[⟨0, .data⟩, ⟨4, .data⟩, ⟨6, .data⟩], none⟩) (by kernel_rfl) rfl (fun K hK => ?_)
         go_simp
         refine (hcall _ hS0).mono ?_
         rintro r w6 ⟨rfl, b6⟩
         have hS6 : Below W5.heap.size W5 w6 := hS0.trans (b6.mono hS0.size)
         clear b6
         go_wp2_with fail
         refine hK.out _ _ (fun hD => hS6) ?_
         clear hK K
         try simp only [Act.put, List.setIfInBounds_toArray, List.set_cons_zero, List.set_cons_succ]
         refine' wpAnyD_take (i := 8) (oi := ⟨some 9, .assign (.tmp 60), 76, "look.go:23", #[⟨7, .data⟩, ⟨7, .chain⟩, ⟨0, .phase⟩, ⟨1, .phase⟩, ⟨2, .phase⟩, ⟨3, .phase⟩, ⟨4, .phase⟩, ⟨5, .phase⟩, ⟨6, .phase⟩, ⟨7, .phase⟩], none⟩) (v := _) rfl (by kernel_rfl) (by kernel_rfl) (by kernel_rfl) (fun _ _ _ h => h) (by kernel_rfl) (Or.inl ⟨by rfl, ?hy9⟩) hS6 ?rest9
         case hy9 => (intro W hSw; go_simp; try (with_reducible rfl))
         try simp only [Act.put, List.setIfInBounds_toArray, List.set_cons_zero, List.set_cons_succ]
         refine wpAnyD_done (by kernel_rfl) ?_ _
         have B6 := hid (P5.out.1.trans (hS6.mono P5.out.1.size))
         clear hcall hS0 hS6 hi0 hic
         by_cases hz : zz = 0
         ·subst hz
          go_wp2_with fail
          go_roundw
          case rel => exact ⟨i + 1, by omega, by go_num, B6.out, eg_step HI.out.2 HYN.out HZZ.out⟩
          case measure => simp [RowKit.intOf]; omega
         ·have hb : (zz == 0) = false := by simp [hz]
          have hb' : (zz != 0) = true := by simp [hz]
          have HF : Hid (Fl (gof a xs es) zz (nl + i : Nat)) := by
           have h := Fl.edge (g := gof a xs es) i y HA.out.1 HA.out.2.1 HA.out.2.2.1 HA.out.2.2.2 HN.out HYN.out HI.out.2 (by rw [HZZ.out]; exact hz)
           rw [HZZ.out, ← HNL.out.1] at h
           exact h
          have hb9 := (B6.out.block _ (tk_lt HB.out)).trans HB.out
          have c9 := (tk_store hb9).1
          have l9 := tk_lt hb9
          have hnn : (nl : Int) ≤ 24 := by omega
          have hii : (i : Int) ≤ 48 := by omega
          clear hb9
          go_upto_region 17 with fail
          go_quiet (fail)
          go_wp2_with fail
          go_ret2
          exact ⟨zz, (nl + i : Nat), by push_cast; rfl, HF.out, B0.out.trans ((B6.out.trans (((Gr.refl _).drewN _).below.mono B6.out.size)).mono B0.out.size)⟩
        ·have hltz : ¬ (i : Int) < (el : Int) := by omega
         have HF : Hid (Fl (gof a xs es) 0 0) := .none HA.out.1 HA.out.2.1 HA.out.2.2.1 HA.out.2.2.2 HN.out (by
          have h := HI.out.2
          rw [show i = el by omega, HEL.out.1] at h
          exact h)
         go_wp2_with fail
         go_ret2
         exact ⟨0, 0, rfl, HF.out, B0.out.trans (HI.out.1.mono B0.out.size)⟩
end Go.Proofs.YtdnnfgabdkkdjaaGreat.Df
