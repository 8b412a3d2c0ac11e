import Derived.Test.YtjppkehnjnmbnaaGreatJ18
import Derived.Test.YtjppkehnjnmbnaaGreatJ6
import Derived.Test.YtjppkehnjnmbnaaGreatJ17
namespace Go.Proofs.YtjppkehnjnmbnaaGreat.Lf
open Go.RowKit Go.Sort Pt
open Df (hid LV EL EI infoI tk_store tk_lt)
attribute [local go_sem ↓] Go.wp_at_zero Go.wp_at_succ
def toL (n : Nat) (R : Nat → Nat → List Tri) (p : Int) (i : Nat) : List Int := ((List.range i).filter (fun q => decide (0 < (bt n R p (q : Nat)).length))).map (fun q => ((q : Nat) : Int))
theorem toL_succ (n : Nat) (R : Nat → Nat → List Tri) (p : Int) (i : Nat) : toL n R p (i + 1) = toL n R p i ++ if 0 < (bt n R p (i : Nat)).length then [(i : Int)] else [] := by
 unfold toL
 rw [List.range_succ, List.filter_append, List.map_append]
 congr 1
 by_cases h : 0 < (bt n R p (i : Nat)).length
 ·rw [if_pos h, List.filter_cons, if_pos (by simpa using h)]
  rfl
 ·rw [if_neg h, List.filter_cons, if_neg (by simpa using h)]
  rfl
theorem toL_len (n : Nat) (R : Nat → Nat → List Tri) (p : Int) (i : Nat) : (toL n R p i).length ≤ i := by
 unfold toL
 rw [List.length_map]
 exact Nat.le_trans (List.length_filter_le _ _) (by simp)
set_option maxHeartbeats 1000000 in
theorem to_any {M n : Nat} {tv : Value} {R : Nat → Nat → List Tri} (p : Int) (w : World) (h : Tv M w tv n R) (hM : M ≤ w.heap.size) (hn : n ≤ 192) : Calls Tryz.prog 24 #[tv, .int .i64 p] w fun e w' => ∃ v', e = .returned v' ∧ w'.ownsRow w.heap.size 3 1 v' (toL n R p n).length (fl EI (toL n R p n)) ∧ Below w.heap.size w w' := by
 have hpl := places_any w h
 have HT : Hid (∀ W, Below w.heap.size w W → Tv M W tv n R) := fun W hb => h.keep (hb.mono hM)
 clear h hM
 go_enter Tryz.func24, Tryz.ntmps24
 go_wp2_with fail
 refine hpl.mono ?_
 rintro e w1 ⟨rfl, hw1⟩
 rw [hw1]
 clear hw1 hpl
 go_wp2_with fail
 go_loopw [5, 6, 9] (fun s5 _ s9 wr => ∃ i : Nat, i ≤ n ∧ s9 = .int .i64 i ∧ Hid (wr.ownsRow w.heap.size 3 1 s5 (toL n R p i).length (fl EI (toL n R p i)) ∧ Below w.heap.size w wr)) (fun _ _ s9 _ => n - (RowKit.intOf s9).toNat)
 case atStart => exact ⟨0, Nat.zero_le _, rfl, World.ownsRow_nil _ _ _ _, Below.refl _ _⟩
 case round =>
  obtain ⟨i, hi, rfl, HI⟩ := hrel
  by_cases hlt : i < n
  ·have hltz : (i : Int) < (n : Int) := by omega
   have hi0 : (0 : Int) ≤ (i : Int) := by omega
   have hb := between_any p (i : Nat) wr (HT.out wr HI.out.2)
   have HSU := hid (toL_succ n R p i)
   have hll := toL_len n R p i
   generalize bt n R p (i : Nat) = bl at *
   generalize toL n R p i = tl at *
   by_cases hz : 0 < bl.length
   ·have hzz : (0 : Int) < (bl.length : Int) := by omega
    have HN : Hid (toL n R p (i + 1) = tl ++ [(i : Int)]) := by rw [HSU.out, if_pos hz]; exact rfl
    clear HSU
    have hwz := HI.out.2.size
    have HO := hid HI.out.1
    have HB := hid HI.out.2
    clear HI
    go_wp2_with fail
    refine hb.mono ?_
    rintro e w2 ⟨pp, c, rfl, hw2, _⟩
    rw [hw2]
    clear hw2 hb
    go_wp2_with (at_builtin; refine wpApp1 EI Tryz.underlying59 infoI rfl (by decide) rfl _ _ rfl w.heap.size _ tl.length _ rfl HO.out (i : Int) rfl (by omega) (by unfold maxLen; omega) hwz _ rfl _ ?_)
    intro g6 c6 w6 ho6 hg6 hl6
    have HE : Hid (w6.ownsRow w.heap.size 3 1 (.slice (some ⟨g6, 0, none⟩) (tl.length + 1) c6) (toL n R p (i + 1)).length (fl EI (toL n R p (i + 1))) ∧ Below w.heap.size w w6) := by
     rw [HN.out]
     exact ⟨owns_re ho6 (by simp) (by rw [fl_append, fl_one]), HB.out.trans ((Kp.grownBy (S := fun k => w.heap.size ≤ k) hg6 (fun k hk => (HO.out.lt k hk).1)).below HB.out.size (fun _ h => h))⟩
    clear ho6 hg6 hl6
    go_wp2
    go_roundw
    case rel => exact ⟨i + 1, by omega, by first | rfl | go_num, HE.out⟩
    case measure => simp [RowKit.intOf]; omega
   ·have hzz : ¬ (0 : Int) < (bl.length : Int) := by omega
    have HN : Hid (toL n R p (i + 1) = tl) := by rw [HSU.out, if_neg hz, List.append_nil]; exact rfl
    clear HSU
    go_wp2_with fail
    refine hb.mono ?_
    rintro e w2 ⟨pp, c, rfl, hw2, _⟩
    rw [hw2]
    clear hw2 hb
    go_wp2
    go_roundw
    case rel => exact ⟨i + 1, by omega, by first | rfl | go_num, by rw [HN.out]; exact HI.out⟩
    case measure => simp [RowKit.intOf]; omega
  ·have hltz : ¬ (i : Int) < (n : Int) := by omega
   have hie : i = n := by omega
   subst hie
   go_wp2
   go_ret
   exact ⟨_, rfl, HI.out⟩
def onL (bl : List Tri) (t : Tri) : List Tri := bl.filterMap (fun b => thn3 b t)
theorem onL_take {bl : List Tri} {j : Nat} {b : Tri} (t : Tri) (h : bl[j]? = some b) : onL (bl.take (j + 1)) t = onL (bl.take j) t ++ (thn3 b t).toList := by
 unfold onL
 rw [List.take_add_one, h, List.filterMap_append]
 congr 1
theorem onL_len (bl : List Tri) (t : Tri) : (onL bl t).length ≤ bl.length := List.length_filterMap_le _ _
def allT (n : Nat) (R : Nat → Nat → List Tri) (q : Int) (l : List Hf.Th) : List Tri := l.flatMap (fun s => onL (bt n R s.1 q) s.2)
theorem allT_take {n : Nat} {R : Nat → Nat → List Tri} {q : Int} {l : List Hf.Th} {i : Nat} {s : Hf.Th} (h : l[i]? = some s) : allT n R q (l.take (i + 1)) = allT n R q (l.take i) ++ onL (bt n R s.1 q) s.2 := by
 unfold allT
 rw [List.take_add_one, h, List.flatMap_append]
 simp
theorem allT_len {n : Nat} {R : Nat → Nat → List Tri} {q : Int} (hR : ∀ p q, (bt n R p q).length ≤ 64) (l : List Hf.Th) : (allT n R q l).length ≤ 64 * l.length := by
 induction l with
 | nil => simp [allT]
 | cons s l ih =>
  have h1 : allT n R q (s :: l) = onL (bt n R s.1 q) s.2 ++ allT n R q l := rfl
  rw [h1, List.length_append, List.length_cons]
  have h2 := onL_len (bt n R s.1 q) s.2
  have h3 := hR s.1 q
  omega
def frt (l : List Tri) : List Tri := cjoin Pc.bel Pc.tol [] l
theorem frt_nil : frt [] = [] := rfl
theorem frt_snoc (l : List Tri) (x : Tri) : frt (l ++ [x]) = cins Pc.bel Pc.tol (frt l) x := by
 unfold frt
 rw [cjoin_append]
 rfl
theorem frt_len (l : List Tri) : (frt l).length ≤ l.length := by
 have := cjoin_length (bel := Pc.bel) (fst := Pc.tol) [] l
 simpa [frt] using this
structure Ck (w : World) (cb : Nat) (all : List Tri) (W : World) : Prop where
 bl : Below w.heap.size w W
 lo : w.heap.size ≤ cb
 ch : ∃ v, Pc.Cn.Ch W cb fA fT v (frt all) ∧ ∀ g, v.ownBlock = some g → w.heap.size ≤ g
theorem Ck.below {w W W' : World} {cb : Nat} {all : List Tri} (h : Ck w cb all W) (hb : Below W.heap.size W W') : Ck w cb all W' := by
 obtain ⟨v, h1, h2⟩ := h.ch
 exact ⟨h.bl.trans (hb.mono h.bl.size), h.lo, v, h1.below hb, h2⟩
structure Cj (w : World) (M cb : Nat) (all : List Tri) (xb : Nat) (s : Hf.Th) (lv : Value) (bl : List Tri) (W : World) : Prop where
 bw : Below w.heap.size w W
 lo : w.heap.size ≤ cb
 ne : cb ≠ xb
 ch : ∃ v, Pc.Cn.Ch W cb fA fT v (frt all) ∧ ∀ g, v.ownBlock = some g → w.heap.size ≤ g ∧ g ≠ xb
 bx : W.heap[xb]? = some (.cells #[.int .i64 s.1, .int .u64 s.2.1.1, .int .u64 s.2.1.2.1, .int .u64 s.2.1.2.2] 52 (0, 0))
 lq : Lq Pc.ET M W lv bl
section
variable {w W W' : World} {M cb xb : Nat} {all bl : List Tri} {s : Hf.Th} {lv : Value}
theorem Cj.below (h : Cj w M cb all xb s lv bl W) (hM : M ≤ w.heap.size) (hb : Below W.heap.size W W') : Cj w M cb all xb s lv bl W' := by
 obtain ⟨v, h1, h2⟩ := h.ch
 exact ⟨h.bw.trans (hb.mono h.bw.size), h.lo, h.ne, ⟨v, h1.below hb, h2⟩, (hb.block _ (tk_lt h.bx)).trans h.bx, h.lq.keep (hb.mono (Nat.le_trans hM h.bw.size))⟩
theorem Cj.ck (h : Cj w M cb all xb s lv bl W) : Ck w cb all W := by
 obtain ⟨v, h1, h2⟩ := h.ch
 exact ⟨h.bw, h.lo, v, h1, fun g hg => (h2 g hg).1⟩
theorem Ck.cj (h : Ck w cb all W) (hq : Lq Pc.ET M (W.alloc (.cells #[.int .i64 s.1, .int .u64 s.2.1.1, .int .u64 s.2.1.2.1, .int .u64 s.2.1.2.2] 52)) lv bl) : Cj w M cb all W.heap.size s lv bl (W.alloc (.cells #[.int .i64 s.1, .int .u64 s.2.1.1, .int .u64 s.2.1.2.1, .int .u64 s.2.1.2.2] 52)) := by
 obtain ⟨v, h1, h2⟩ := h.ch
 have hb := ((Gr.refl W).alloc (.cells #[.int .i64 s.1, .int .u64 s.2.1.1, .int .u64 s.2.1.2.1, .int .u64 s.2.1.2.2] 52)).below
 exact ⟨h.bl.trans (hb.mono h.bl.size), h.lo, Nat.ne_of_lt h1.lt, ⟨v, h1.below hb, fun g hg => ⟨h2 g hg, Nat.ne_of_lt (h1.row g hg)⟩⟩, heap_new' _ _, hq⟩
theorem Cj.ins (h : Cj w M cb all xb s lv bl W) (hM : M ≤ w.heap.size) (x : Tri) (hl : (all.length + 1) * 24 ≤ 140737488355328) : Calls Tryz.prog 48 #[.pointer (some ⟨cb, 0, none⟩), .agg #[.int .u64 x.1.1, .int .u64 x.1.2.1, .int .u64 x.1.2.2]] W fun e W' => ∃ b, e = .returned (.bool b) ∧ Hid (Cj w M cb (all ++ [x]) xb s lv bl W') := by
 obtain ⟨v, h1, h2⟩ := h.ch
 have h3 := frt_len all
 refine (Pc.Cn.insert_any x W h1 (by omega) Pc.ahead_ok Pc.told_ok).mono ?_
 rintro e W' ⟨v', rfl, q1, q2⟩
 obtain ⟨k1, k2⟩ := q2.below h.bw.size h.lo (fun g hg => (h2 g hg).1)
 refine ⟨_, rfl, h.bw.trans k1, h.lo, h.ne, ⟨v', ?_, fun g hg => ⟨k2 g hg, ?_⟩⟩, (q2.1.block _ (tk_lt h.bx) (fun e => ?_)).trans h.bx, h.lq.keep (k1.mono hM)⟩
 ·rw [frt_snoc]
  exact q1
 ·rcases q2.2 g hg with a | a
  ·exact (h2 g a).2
  ·have := tk_lt h.bx
   omega
 ·rcases e with e | e
  ·exact h.ne e.symm
  ·exact (h2 xb e).2 rfl
end
set_option maxRecDepth 100000 in
set_option maxHeartbeats 2000000 in
theorem front_any {M M2 n : Nat} {tv sv : Value} {R : Nat → Nat → List Tri} {l : List Hf.Th} (q : Int) (w : World) (h : Tv M w tv n R) (hM : M ≤ w.heap.size) (hR : ∀ p q, (bt n R p q).length ≤ 64) (hs : Df.Lz EF M2 w sv l) (hl : (64 * l.length + 1) * 24 ≤ 140737488355328) : Calls Tryz.prog 19 #[tv, .int .i64 q, sv] w fun e w' => ∃ v', e = .returned v' ∧ w'.ownsRow w.heap.size 50 3 v' (frt (allT n R q l)).length (fl Pc.ET (frt (allT n R q l))) ∧ Below w.heap.size w w' := by
 have HT : Hid (∀ W, Below w.heap.size w W → Tv M W tv n R) := fun W hb => h.keep (hb.mono hM)
 obtain ⟨ps, cs, rfl⟩ := hs.form
 have HS := hid hs
 have HR := hid hR
 have HM := hid hM
 have HBD : Hid (∀ k : Nat, k ≤ 64 * l.length → (k + 1) * 24 ≤ 140737488355328) := fun k hk => Nat.le_trans (Nat.mul_le_mul_right 24 (Nat.add_le_add_right hk 1)) hl
 have hlb : l.length ≤ 91625968981 := by omega
 clear hl
 have hny := Pc.Cn.noneYet_any w
 clear h hM hs hR
 go_enter Tryz.func19, Tryz.ntmps19
 go_wp2_with fail
 refine hny.mono ?_
 rintro e w1 ⟨rfl, hC1, hg1⟩
 obtain ⟨cb, hcb⟩ : ∃ b, b = w.heap.size := ⟨_, rfl⟩
 rw [← hcb] at hC1 ⊢
 have HK1 : Hid (Ck w cb [] w1) := ⟨hg1.below, by omega, _, hC1, fun g hg => by simp [Value.ownBlock] at hg⟩
 clear hny hC1 hg1 hcb
 go_wp2_with fail
 go_loopw [9, 11, 12, 13, 20] (fun _ _ _ _ s20 wr => ∃ i : Nat, i ≤ l.length ∧ s20 = .int .i64 i ∧ Hid (Ck w cb (allT n R q (l.take i)) wr)) (fun _ _ _ _ s20 _ => l.length - (RowKit.intOf s20).toNat)
 case atStart => exact ⟨0, Nat.zero_le _, rfl, HK1.out⟩
 case round =>
  clear HK1
  obtain ⟨i, hi, rfl, HI⟩ := hrel
  by_cases hlt : i < l.length
  ·have hltz : (i : Int) < (l.length : Int) := by omega
   have hi0 : (0 : Int) ≤ (i : Int) := by omega
   obtain ⟨s, hsi⟩ : ∃ s, l[i]? = some s := ⟨l[i], by simp⟩
   obtain ⟨b1, o1, c1, hv1, hb1, u0, u1, u2, u3⟩ := EF_at ((HS.out.below HI.out.bl).ls hsi) hsi
   simp only [Value.slice.injEq] at hv1
   obtain ⟨rfl, -, rfl⟩ := hv1
   have HTK := hid (allT_take (n := n) (R := R) (q := q) hsi)
   have HLN : Hid ((allT n R q (l.take i)).length ≤ 64 * i) := by
    have := allT_len (q := q) HR.out (l.take i)
    rw [List.length_take, Nat.min_eq_left hi] at this
    exact this
   clear hsi
   obtain ⟨xb, hxb⟩ : ∃ b, b = wr.heap.size := ⟨_, rfl⟩
   obtain ⟨W4, hW4⟩ : ∃ W, W = wr.alloc (.cells #[.int .i64 s.1, .int .u64 s.2.1.1, .int .u64 s.2.1.2.1, .int .u64 s.2.1.2.2] 52) := ⟨_, rfl⟩
   have HCK := hid HI.out
   have P4 : Hid (Ck w cb (allT n R q (l.take i)) W4 ∧ W4.heap[xb]? = some (.cells #[.int .i64 s.1, .int .u64 s.2.1.1, .int .u64 s.2.1.2.1, .int .u64 s.2.1.2.2] 52 (0, 0))) := by
    rw [hW4, hxb]
    exact ⟨HI.out.below ((Gr.refl wr).alloc _).below, heap_new' _ _⟩
   have HW4 : Hid (wr.alloc (.cells #[.int .i64 s.1, .int .u64 s.2.1.1, .int .u64 s.2.1.2.1, .int .u64 s.2.1.2.2] 52) = W4 ∧ wr.heap.size = xb) := ⟨hW4.symm, hxb.symm⟩
   have HWE : Hid (W4 = wr.alloc (.cells #[.int .i64 s.1, .int .u64 s.2.1.1, .int .u64 s.2.1.2.1, .int .u64 s.2.1.2.2] 52) ∧ xb = wr.heap.size) := ⟨hW4, hxb⟩
   clear hW4 hxb HI
   go_upto_region 5 with fail
   rw [HW4.out.1, HW4.out.2]
   clear HW4 u0 u1 u2 u3 hb1
   have hbt := between_any s.1 q W4 (HT.out W4 P4.out.1.bl)
   have hbl := HR.out s.1 q
   have cx := (tk_store P4.out.2).1
   have lx := tk_lt P4.out.2
   generalize bt n R s.1 q = bl at *
   go_wp2_with fail
   refine hbt.mono ?_
   rintro e w5 ⟨pp, c5, rfl, hw5, hq5⟩
   rw [hw5]
   have HQ := hid hq5
   clear hw5 hbt hq5 cx lx
   generalize allT n R q (l.take i) = al at *
   have HJ : Hid (Cj w M cb (al ++ onL (bl.take 0) s.2) xb s (.slice pp bl.length c5) bl W4) := by
    have h0 : al ++ onL (bl.take 0) s.2 = al := by simp [onL]
    rw [h0]
    have h1 := HQ.out
    rw [HWE.out.1] at h1
    have h2 := HCK.out.cj h1
    rw [HWE.out.1, HWE.out.2]
    exact h2
   clear P4 HCK HQ
   go_wp2_with fail
   go_loopw [11, 12, 13, 30] (fun _ _ _ s30 wx => ∃ j : Nat, j ≤ bl.length ∧ s30 = .int .i64 j ∧ Hid (Cj w M cb (al ++ onL (bl.take j) s.2) xb s (.slice pp bl.length c5) bl wx)) (fun _ _ _ s30 _ => bl.length - (RowKit.intOf s30).toNat)
   case atStart => exact ⟨0, Nat.zero_le _, rfl, HJ.out⟩
   case round =>
    clear HJ
    obtain ⟨j, hj, rfl, HJ⟩ := hrel
    by_cases hjl : j < bl.length
    ·have hjz : (j : Int) < (bl.length : Int) := by omega
     have hj0 : (0 : Int) ≤ (j : Int) := by omega
     obtain ⟨b, hbj⟩ : ∃ b, bl[j]? = some b := ⟨bl[j], by simp⟩
     obtain ⟨b2, o2, c2, hv2, hb2, u0, u1, u2⟩ := HJ.out.lq.1.atP hbj
     simp only [Value.slice.injEq] at hv2
     obtain ⟨rfl, -, rfl⟩ := hv2
     have HTJ := hid (onL_take s.2 hbj)
     have HLJ : Hid ((onL (bl.take j) s.2).length ≤ j) := by
      have := onL_len (bl.take j) s.2
      rw [List.length_take, Nat.min_eq_left hj] at this
      exact this
     have HLK : Hid ((al ++ onL (bl.take j) s.2).length ≤ 64 * l.length) := by
      show _ ≤ _
      rw [List.length_append]
      have h1 := HLN.out
      have h2 := HLJ.out
      clear hjz hj0 hltz hi0 hb2 u0 u1 u2
      omega
     clear hbj
     obtain ⟨yb, hyb⟩ : ∃ b, b = wr.heap.size := ⟨_, rfl⟩
     obtain ⟨W7, hW7⟩ : ∃ W, W = wr.alloc (.cells #[.int .u64 b.1.1, .int .u64 b.1.2.1, .int .u64 b.1.2.2] 39) := ⟨_, rfl⟩
     have P7 : Hid (Cj w M cb (al ++ onL (bl.take j) s.2) xb s (.slice (some ⟨b2, o2, none⟩) bl.length c5) bl W7 ∧ W7.heap[yb]? = some (.cells #[.int .u64 b.1.1, .int .u64 b.1.2.1, .int .u64 b.1.2.2] 39 (0, 0))) := by
      rw [hW7, hyb]
      exact ⟨HJ.out.below HM.out ((Gr.refl wr).alloc _).below, heap_new' _ _⟩
     have HW7 : Hid (wr.alloc (.cells #[.int .u64 b.1.1, .int .u64 b.1.2.1, .int .u64 b.1.2.2] 39) = W7 ∧ wr.heap.size = yb) := ⟨hW7.symm, hyb.symm⟩
     clear hW7 hyb HJ
     go_upto_region 8 with fail
     rw [HW7.out.1, HW7.out.2]
     clear HW7 u0 u1 u2 hb2
     have hon := on_any b s.2 W7
     obtain ⟨cv, hcv⟩ : ∃ z, z = thv b s.2 := ⟨_, rfl⟩
     obtain ⟨ok, hok⟩ : ∃ z, z = (thn3 b s.2).isSome := ⟨_, rfl⟩
     rw [← hcv, ← hok] at hon
     unfold Pc.tv at hon
     have HCV : Hid (cv = thv b s.2 ∧ ok = (thn3 b s.2).isSome) := ⟨hcv, hok⟩
     clear hcv hok
     have cx := (tk_store P7.out.1.bx).1
     have lx := tk_lt P7.out.1.bx
     have cy := (tk_store P7.out.2).1
     have ly := tk_lt P7.out.2
     go_wp2_with fail
     refine hon.mono ?_
     rintro e w8 ⟨rfl, hb8⟩
     clear hon cx lx cy ly
     obtain ⟨zb, hzb⟩ : ∃ b, b = w8.heap.size := ⟨_, rfl⟩
     obtain ⟨W9, hW9⟩ : ∃ W, W = w8.alloc (.cells #[.int .u64 cv.1.1, .int .u64 cv.1.2.1, .int .u64 cv.1.2.2] 50) := ⟨_, rfl⟩
     have P9 : Hid (Cj w M cb (al ++ onL (bl.take j) s.2) xb s (.slice (some ⟨b2, o2, none⟩) bl.length c5) bl W9 ∧ W9.heap[zb]? = some (.cells #[.int .u64 cv.1.1, .int .u64 cv.1.2.1, .int .u64 cv.1.2.2] 50 (0, 0))) := by
      rw [hW9, hzb]
      exact ⟨P7.out.1.below HM.out (hb8.trans (((Gr.refl w8).alloc _).below.mono hb8.size)), heap_new' _ _⟩
     have HW9 : Hid (w8.alloc (.cells #[.int .u64 cv.1.1, .int .u64 cv.1.2.1, .int .u64 cv.1.2.2] 50) = W9 ∧ w8.heap.size = zb) := ⟨hW9.symm, hzb.symm⟩
     clear hW9 hzb P7 hb8
     go_upto_region 9 with fail
     rw [HW9.out.1, HW9.out.2]
     clear HW9
     have cz := (tk_store P9.out.2).1
     have lz := tk_lt P9.out.2
     cases ok with
     | true =>
      have hins := P9.out.1.ins HM.out cv (HBD.out _ HLK.out)
      go_wp2_with fail
      refine hins.mono ?_
      rintro e w10 ⟨bb, rfl, HJ10⟩
      clear hins cz lz
      have HN : Hid (Cj w M cb (al ++ onL (bl.take (j + 1)) s.2) xb s (.slice (some ⟨b2, o2, none⟩) bl.length c5) bl w10) := by
       obtain ⟨z, hz⟩ := Option.isSome_iff_exists.1 HCV.out.2.symm
       rw [HTJ.out, hz, Option.toList_some, ← List.append_assoc, show z = cv by rw [HCV.out.1, thv_some hz]]
       exact HJ10.out
      clear HJ10
      go_wp2
      go_roundw
      case rel => exact ⟨j + 1, by omega, by first | rfl | go_num, HN.out⟩
      case measure => simp [RowKit.intOf]; omega
     | false =>
      have HN : Hid (Cj w M cb (al ++ onL (bl.take (j + 1)) s.2) xb s (.slice (some ⟨b2, o2, none⟩) bl.length c5) bl W9) := by
       have hz : thn3 b s.2 = none := by
        have := HCV.out.2
        cases h : thn3 b s.2 with
        | none => rfl
        | some z => rw [h] at this; cases this
       rw [HTJ.out, hz, Option.toList_none, List.append_nil]
       exact P9.out.1
      go_wp2
      go_roundw
      case rel => exact ⟨j + 1, by omega, by first | rfl | go_num, HN.out⟩
      case measure => simp [RowKit.intOf]; omega
    ·have hjz : ¬ (j : Int) < (bl.length : Int) := by omega
     have hje : j = bl.length := by omega
     subst hje
     rw [List.take_length] at HJ
     have HN : Hid (Ck w cb (allT n R q (l.take (i + 1))) wr) := by
      rw [HTK.out]
      exact HJ.out.ck
     clear HJ
     go_wp2
     go_roundw
     case rel => exact ⟨i + 1, by omega, by first | rfl | go_num, HN.out⟩
     case measure => simp [RowKit.intOf]; omega
  ·have hltz : ¬ (i : Int) < (l.length : Int) := by omega
   have hie : i = l.length := by omega
   subst hie
   rw [List.take_length] at HI
   have HLN := allT_len (q := q) HR.out l
   have hfl := frt_len (allT n R q l)
   have hfb : (frt (allT n R q l)).length ≤ 5864062014806 := by omega
   generalize hal : allT n R q l = al at *
   have HAL := hid hal
   clear hal
   have hls : Calls Tryz.prog 49 #[.pointer (some ⟨cb, 0, none⟩)] wr fun e w' => ∃ pp cc, e = .returned (.slice pp (frt al).length cc) ∧ w'.ownsRow wr.heap.size 39 3 (.slice pp (frt al).length cc) (frt al).length (Pc.flT (frt al)) ∧ Below wr.heap.size wr w' := by
    obtain ⟨v, h1, _⟩ := HI.out.ch
    refine (Pc.Cn.list_any wr h1 (by have h2 := HBD.out _ HLN; omega)).mono ?_
    rintro e w' ⟨v', rfl, q1, q2⟩
    obtain ⟨pp, cc, rfl⟩ := (Pc.owns_lst q1).form
    exact ⟨pp, cc, rfl, q1, q2⟩
   have HB := hid HI.out.bl
   have HFB : Hid (∀ k, k < (frt al).length → (k + 1) * 24 ≤ 140737488355328) := fun k hk => HBD.out k (by omega)
   clear HI
   generalize hfr : frt al = fr at *
   have HFR := hid hfr
   clear hfr
   go_wp2_with fail
   refine hls.mono ?_
   rintro e w20 ⟨pp, cc, rfl, ho20, hb20⟩
   have HL20 : Hid (Ls Pc.ET w20 (.slice pp fr.length cc) fr ∧ Below w.heap.size w w20) := ⟨owns_ls (E := Pc.ET) ho20, HB.out.trans (hb20.mono HB.out.size)⟩
   clear hls ho20 hb20
   go_wp2_with fail
   go_loopw [14, 16, 50] (fun s14 _ s50 wx => ∃ k : Nat, k ≤ fr.length ∧ s50 = .int .i64 k ∧ Hid (wx.ownsRow w20.heap.size 50 3 s14 k (Pc.flT (fr.take k)) ∧ Below w20.heap.size w20 wx)) (fun _ _ s50 _ => fr.length - (RowKit.intOf s50).toNat)
   case atStart => exact ⟨0, Nat.zero_le _, rfl, World.ownsRow_nil _ _ _ _, Below.refl _ _⟩
   case round =>
    obtain ⟨k, hk, rfl, HI⟩ := hrel
    by_cases hkl : k < fr.length
    ·have hkz : (k : Int) < (fr.length : Int) := by omega
     have hk0 : (0 : Int) ≤ (k : Int) := by omega
     obtain ⟨x, hx⟩ : ∃ x, fr[k]? = some x := ⟨fr[k], by simp⟩
     obtain ⟨b2, o2, c2, hv2, hb2, u0, u1, u2⟩ := (HL20.out.1.below HI.out.2).atP hx
     simp only [Value.slice.injEq] at hv2
     obtain ⟨rfl, -, rfl⟩ := hv2
     have HX := hid hx
     clear hx
     obtain ⟨W9, hW9⟩ : ∃ W, W = wr.alloc (.cells #[.int .u64 x.1.1, .int .u64 x.1.2.1, .int .u64 x.1.2.2] 39) := ⟨_, rfl⟩
     obtain ⟨zb, hzb⟩ : ∃ b, b = wr.heap.size := ⟨_, rfl⟩
     have P9 : Hid (W9.ownsRow w20.heap.size 50 3 u14 k (Pc.flT (fr.take k)) ∧ Below w20.heap.size w20 W9 ∧ W9.heap[zb]? = some (.cells #[.int .u64 x.1.1, .int .u64 x.1.2.1, .int .u64 x.1.2.2] 39 (0, 0))) := by
      have g5 := ((Gr.refl wr).alloc (.cells #[.int .u64 x.1.1, .int .u64 x.1.2.1, .int .u64 x.1.2.2] 39)).below
      rw [hW9, hzb]
      exact ⟨owns_below HI.out.1 g5, HI.out.2.trans (g5.mono HI.out.2.size), heap_new' _ _⟩
     have HW9 : Hid (wr.alloc (.cells #[.int .u64 x.1.1, .int .u64 x.1.2.1, .int .u64 x.1.2.2] 39) = W9 ∧ wr.heap.size = zb) := ⟨hW9.symm, hzb.symm⟩
     clear hW9 hzb HI
     go_upto_region 17 with fail
     rw [HW9.out.1, HW9.out.2]
     clear HW9 u0 u1 u2 hb2
     have cz := (tk_store P9.out.2.2).1
     have lz := tk_lt P9.out.2.2
     have hz9 := P9.out.2.1.size
     go_wp2_with (at_builtin; refine wpT1 rfl _ _ rfl w20.heap.size _ k _ rfl P9.out.1 x rfl (HFB.out k hkl) hz9 ?_)
     intro g6 c6 w6 ho6 hg6 hl6
     have HE : Hid (w6.ownsRow w20.heap.size 50 3 (.slice (some ⟨g6, 0, none⟩) (k + 1) c6) (k + 1) (Pc.flT (fr.take (k + 1))) ∧ Below w20.heap.size w20 w6) := by
      refine ⟨owns_re ho6 rfl ?_, P9.out.2.1.trans ((Kp.grownBy (S := fun j => w20.heap.size ≤ j) hg6 (fun j hj => (P9.out.1.lt j hj).1)).below P9.out.2.1.size (fun _ h => h))⟩
      rw [List.take_add_one, HX.out, Option.toList_some, Pc.flT_append, Pc.flT_one]
     clear ho6 hg6 hl6 cz lz
     go_wp2
     go_roundw
     case rel => exact ⟨k + 1, by omega, by first | rfl | go_num, HE.out⟩
     case measure => simp [RowKit.intOf]; omega
    ·have hkz : ¬ (k : Int) < (fr.length : Int) := by omega
     have hke : k = fr.length := by omega
     subst hke
     rw [List.take_length] at HI
     have FIN : Hid (wr.ownsRow w.heap.size 50 3 u14 fr.length (Pc.flT fr) ∧ Below w.heap.size w wr) := ⟨owns_base HI.out.1 HL20.out.2.size, HL20.out.2.trans (HI.out.2.mono HL20.out.2.size)⟩
     clear HI
     go_wp2
     go_ret
     rw [HAL.out, HFR.out]
     exact ⟨u14, rfl, FIN.out⟩
end Go.Proofs.YtjppkehnjnmbnaaGreat.Lf

namespace Go.Proofs.YtjppkehnjnmbnaaGreat.Lf
open Go.RowKit Go.Sort Pt
open Df (hid EI)
attribute [local go_sem ↓] Go.wp_at_zero Go.wp_at_succ
set_option maxHeartbeats 1000000 in
theorem sameP_eq {va vb : Value} {l : List Tri} (w : World) (ha : Ls Pc.ET w va l) (hb : Ls Pc.ET w vb l) (hl : l.length ≤ 140737488351232) : Calls Tryz.prog 11 #[va, vb] w fun e w' => e = .returned (.bool true) ∧ Gr w w' := by
 obtain ⟨pa, ca, rfl⟩ := ha.form
 obtain ⟨pb, cb, rfl⟩ := hb.form
 have hm : Tryz.prog.follows .mixedOrders = true := by kernel_rfl
 have Ha := hid ha
 have Hb := hid hb
 have heq := fun a b c x y z W => run_eqP a b c x y z W
 clear ha hb
 go_enter Tryz.func11, Tryz.ntmps11
 go_wp2_with fail
 go_loopw [5] (fun s5 wr => ∃ k : Nat, k ≤ l.length ∧ s5 = .int .i64 (k : Nat) ∧ Gr w wr) (fun s5 _ => l.length - (RowKit.intOf s5).toNat)
 case atStart => exact ⟨0, Nat.zero_le _, rfl, Gr.refl _⟩
 case round =>
  obtain ⟨k, hk, rfl, hgr⟩ := hrel
  by_cases hlt : k < l.length
  ·have hltz : (k : Int) < (l.length : Int) := by omega
   have hk0 : (0 : Int) ≤ (k : Int) := by omega
   obtain ⟨s, hs⟩ : ∃ s, l[k]? = some s := ⟨l[k], by simp⟩
   obtain ⟨b1, o1, c1, e1, z1, x0, x1, x2⟩ := (Ha.out.below hgr.below).atP hs
   obtain ⟨b2, o2, c2, e2, z2, y0, y1, y2⟩ := (Hb.out.below hgr.below).atP hs
   simp only [Value.slice.injEq] at e1 e2
   obtain ⟨rfl, -, rfl⟩ := e1
   obtain ⟨rfl, -, rfl⟩ := e2
   have hq := teq_t (s := s) (t := s) rfl
   have GR' := hid hgr
   clear hs hgr
   go_wp2_with fail
   go_quiet (fail)
   go_wp2_with fail
   go_roundw
   case rel => exact ⟨k + 1, by omega, by go_num, GR'.out.drewN _⟩
   case measure => simp [RowKit.intOf]; omega
  ·have hltz : ¬ (k : Int) < (l.length : Int) := by omega
   go_wp2_with fail
   go_ret
   exact ⟨rfl, hgr⟩
set_option maxHeartbeats 1000000 in
theorem sameI_eq {va vb : Value} {l : List Int} (w : World) (ha : Ls EI w va l) (hb : Ls EI w vb l) (hl : l.length ≤ 140737488351232) : Calls Tryz.prog 28 #[va, vb] w fun e w' => e = .returned (.bool true) ∧ Gr w w' := by
 obtain ⟨pa, ca, rfl⟩ := ha.form
 obtain ⟨pb, cb, rfl⟩ := hb.form
 have hm : Tryz.prog.follows .mixedOrders = true := by kernel_rfl
 have Ha := hid ha
 have Hb := hid hb
 clear ha hb
 go_enter Tryz.func28, Tryz.ntmps28
 go_wp2_with fail
 go_loopw [5] (fun s5 wr => ∃ k : Nat, k ≤ l.length ∧ s5 = .int .i64 (k : Nat) ∧ Gr w wr) (fun s5 _ => l.length - (RowKit.intOf s5).toNat)
 case atStart => exact ⟨0, Nat.zero_le _, rfl, Gr.refl _⟩
 case round =>
  obtain ⟨k, hk, rfl, hgr⟩ := hrel
  by_cases hlt : k < l.length
  ·have hltz : (k : Int) < (l.length : Int) := by omega
   have hk0 : (0 : Int) ≤ (k : Int) := by omega
   obtain ⟨s, hs⟩ : ∃ s, l[k]? = some s := ⟨l[k], by simp⟩
   obtain ⟨b1, o1, c1, e1, z1, x0⟩ := Df.ls_atI (Ha.out.below hgr.below) hs
   obtain ⟨b2, o2, c2, e2, z2, y0⟩ := Df.ls_atI (Hb.out.below hgr.below) hs
   simp only [Value.slice.injEq] at e1 e2
   obtain ⟨rfl, -, rfl⟩ := e1
   obtain ⟨rfl, -, rfl⟩ := e2
   have GR' := hid hgr
   clear hs hgr
   go_wp2_with fail
   go_quiet (fail)
   go_wp2_with fail
   go_roundw
   case rel => exact ⟨k + 1, by omega, by go_num, GR'.out.drewN _⟩
   case measure => simp [RowKit.intOf]; omega
  ·have hltz : ¬ (k : Int) < (l.length : Int) := by omega
   go_wp2_with fail
   go_ret
   exact ⟨rfl, hgr⟩
end Go.Proofs.YtjppkehnjnmbnaaGreat.Lf

namespace Go.Proofs.YtjppkehnjnmbnaaGreat.Lf
open Go.RowKit Go.Sort Pt
open Df (hid EI exG exX exE plN tk_lt GR owns_form owns_caps)
attribute [local go_sem ↓] Go.wp_at_zero Go.wp_at_succ
theorem TP.re {M tb n : Nat} {w : World} {R R' : Nat → Nat → List Tri} (h : TP M w tb n R) (hR : ∀ p, p < n → R p = R' p) : TP M w tb n R' := by
 obtain ⟨v, h1, h2, h3⟩ := h
 exact ⟨v, h1, h2, h3.re hR⟩
theorem exTab_any {B gb : Nat} (w : World) (h : Df.Gm B w gb (exG 1)) : Calls Tryz.prog 33 #[.pointer (some ⟨gb, 0, none⟩)] w fun e w' => ∃ tb, e = .returned (.tuple #[.pointer (some ⟨tb, 0, none⟩), .int .i64 0]) ∧ Hid (Below w.heap.size w w' ∧ TP w'.heap.size w' tb 6 exR) := by
 refine (new_any w h ((Df.ex_fl 1 (Or.inr rfl)).ok.1 rfl) ex_gpt).mono ?_
 rintro e w' ⟨hb, a, ht, hc⟩
 rcases ht.same ex_tab with ⟨_, h⟩ | ⟨_, h⟩ | ⟨R, R', rfl, h2, h3⟩
 ·cases h
 ·cases h
 ·cases h2
  rcases hc with ⟨h, _⟩ | ⟨h, _⟩ | ⟨S, tb, h, rfl, htp⟩
  ·cases h
  ·cases h
  ·cases h
   rw [ex_pl] at htp h3
   exact ⟨tb, rfl, hb, htp.re h3⟩
theorem newNil_any (w : World) : Calls Tryz.prog 33 #[.pointer none] w fun e w' => e = .returned (.tuple #[.pointer none, .int .i64 1]) ∧ w' = w := by
 have h := Df.orderNil_any w
 go_enter Tryz.func33, Tryz.ntmps33
 go_wp2_with fail
 refine h.mono ?_
 rintro e w1 ⟨rfl, hw1⟩
 rw [hw1]
 clear hw1
 go_wp2
 refine bodyPost_ret (v := .tuple #[.pointer none, .int .i64 1]) (by simp [results, Tryz.results33, go_sem]) rfl ?_
 exact ⟨rfl, rfl⟩
def R0 : Nat → Nat → List Tri := fun _ _ => []
theorem bt0 (p q : Int) : bt 0 R0 p q = [] := by
 unfold bt R0
 split <;> rfl
theorem nv (w : World) : Tv 0 w (.pointer none) 0 R0 := Or.inl ⟨rfl, rfl⟩
theorem nilLeast_any (w : World) : Calls Tryz.prog 12 #[.pointer none, .int .i64 0, .int .i64 0] w fun e w' => ∃ q c, e = .returned (.slice q 0 c) ∧ Hid (Below w.heap.size w w') := by
 have h := least_any 0 0 w (nv w) (by rw [bt0]; exact Nat.zero_le _)
 rw [bt0] at h
 refine h.mono ?_
 rintro e w' ⟨v, rfl, h1, h2⟩
 obtain ⟨q, m, c, rfl⟩ := owns_form h1
 obtain ⟨rfl, _⟩ := owns_caps h1 _ _ _ rfl
 exact ⟨q, c, rfl, h2⟩
theorem nilTo_any (w : World) : Calls Tryz.prog 24 #[.pointer none, .int .i64 0] w fun e w' => ∃ q c, e = .returned (.slice q 0 c) ∧ Hid (Below w.heap.size w w') := by
 refine (to_any 0 w (nv w) (Nat.zero_le _) (by decide)).mono ?_
 rintro e w' ⟨v, rfl, h1, h2⟩
 obtain ⟨q, m, c, rfl⟩ := owns_form h1
 obtain ⟨rfl, _⟩ := owns_caps h1 _ _ _ rfl
 exact ⟨q, c, rfl, h2⟩
theorem nilCould_any (w : World) : Calls Tryz.prog 17 #[.pointer none, .agg #[.int .i64 0, .int .u64 0, .int .u64 0, .int .u64 0], .agg #[.int .i64 0, .int .u64 0, .int .u64 0, .int .u64 0]] w fun e w' => e = .returned (.bool false) ∧ Hid (Below w.heap.size w w') := by
 have h := could_any (0, PX.z) (0, PX.z) w (nv w) (Nat.zero_le _) (by rw [bt0]; exact Nat.zero_le _)
 rw [bt0] at h
 exact h
theorem nilFront_any {b : Nat} (w : World) (hb : w.heap[b]? = some (.cells #[.int .i64 0, .int .u64 0, .int .u64 0, .int .u64 0] 52 (0, 0))) : Calls Tryz.prog 19 #[.pointer none, .int .i64 0, .slice (some ⟨b, 0, none⟩) 1 1] w fun e w' => ∃ q c, e = .returned (.slice q 0 c) ∧ Hid (Below w.heap.size w w') := by
 have hls : Ls EF w (.slice (some ⟨b, 0, none⟩) 1 1) [(0, PX.z)] := Df.sm_rowK (E := EF) (l := [(0, PX.z)]) rfl hb
 have h := front_any 0 w (nv w) (Nat.zero_le _) (fun p q => by rw [bt0]; exact Nat.zero_le _) (Or.inl ⟨hls, hls.blk⟩) (by decide)
 have e0 : allT 0 R0 0 [(0, PX.z)] = [] := by
  unfold allT
  simp [bt0, onL]
 rw [e0, frt_nil] at h
 refine h.mono ?_
 rintro e w' ⟨v, rfl, h1, h2⟩
 obtain ⟨q, m, c, rfl⟩ := owns_form h1
 obtain ⟨rfl, _⟩ := owns_caps h1 _ _ _ rfl
 exact ⟨q, c, rfl, h2⟩
theorem exLeast_any {M tb : Nat} (w : World) (h : TP M w tb 6 exR) : Calls Tryz.prog 12 #[.pointer (some ⟨tb, 0, none⟩), .int .i64 3, .int .i64 2] w fun e w' => ∃ q c, e = .returned (.slice q 1 c) ∧ Hid (Below w.heap.size w w' ∧ Ls Pc.ET w' (.slice q 1 c) [tk1 1]) := by
 have e : bt 6 exR 3 2 = [tk1 1] := rfl
 have h := least_any 3 2 w (Or.inr ⟨tb, rfl, h⟩) (by rw [e]; decide)
 rw [e] at h
 refine h.mono ?_
 rintro e w' ⟨v, rfl, h1, h2⟩
 obtain ⟨q, m, c, rfl⟩ := owns_form h1
 obtain ⟨rfl, _⟩ := owns_caps h1 _ _ _ rfl
 exact ⟨q, c, rfl, h2, owns_ls (E := Pc.ET) h1⟩
theorem exTo_any {M tb : Nat} (w : World) (h : TP M w tb 6 exR) (hM : M ≤ w.heap.size) : Calls Tryz.prog 24 #[.pointer (some ⟨tb, 0, none⟩), .int .i64 4] w fun e w' => ∃ q c, e = .returned (.slice q 4 c) ∧ Hid (Below w.heap.size w w' ∧ Ls EI w' (.slice q 4 c) [2, 3, 4, 5]) := by
 have e : toL 6 exR 4 6 = [2, 3, 4, 5] := by decide
 have h := to_any 4 w (Or.inr ⟨tb, rfl, h⟩) hM (by decide)
 rw [e] at h
 refine h.mono ?_
 rintro e w' ⟨v, rfl, h1, h2⟩
 obtain ⟨q, m, c, rfl⟩ := owns_form h1
 obtain ⟨rfl, _⟩ := owns_caps h1 _ _ _ rfl
 exact ⟨q, c, rfl, h2, owns_ls (E := EI) h1⟩
theorem ex_cld : (bt 6 exR 0 5).any (cldP (tri (3, 7, 0)) (tri (4, 7, 0))) = true := by
 have e : bt 6 exR 0 5 = [tk1 1] := rfl
 rw [e]
 simp only [List.any_cons, List.any_nil, Bool.or_false]
 obtain ⟨a1, a2, a3⟩ := tri_val (p := (3, 7, 0)) (by decide)
 obtain ⟨b1, b2, b3⟩ := tri_val (p := (4, 7, 0)) (by decide)
 obtain ⟨c1, c2, c3⟩ := tk1_val (k := 1) (by decide)
 simp only at a1 a2 a3 b1 b2 b3
 obtain ⟨c, hc⟩ := thn3_of (a := tk1 1) (b := tri (3, 7, 0)) ⟨by omega, by omega, by omega⟩
 obtain ⟨d1, d2, d3⟩ := thn3_some hc
 unfold cldP
 rw [hc, thv_some hc]
 simp only [Option.isSome_some, Bool.true_and]
 exact (Pc.bel_iff _ _).2 ⟨by omega, by omega, by omega⟩
theorem exCould_any {M tb : Nat} (w : World) (h : TP M w tb 6 exR) (hM : M ≤ w.heap.size) : Calls Tryz.prog 17 #[.pointer (some ⟨tb, 0, none⟩), .agg #[.int .i64 0, .int .u64 3, .int .u64 7, .int .u64 0], .agg #[.int .i64 5, .int .u64 4, .int .u64 7, .int .u64 0]] w fun e w' => e = .returned (.bool true) ∧ Hid (Below w.heap.size w w') := by
 have h := could_any (0, tri (3, 7, 0)) (5, tri (4, 7, 0)) w (Or.inr ⟨tb, rfl, h⟩) hM (by show (bt 6 exR 0 5).length ≤ 64; decide)
 rw [show (bt 6 exR ((0, tri (3, 7, 0)) : Hf.Th).1 ((5, tri (4, 7, 0)) : Hf.Th).1).any (cldP ((0, tri (3, 7, 0)) : Hf.Th).2 ((5, tri (4, 7, 0)) : Hf.Th).2) = true from ex_cld] at h
 obtain ⟨a1, a2, a3⟩ := tri_val (p := (3, 7, 0)) (by decide)
 obtain ⟨b1, b2, b3⟩ := tri_val (p := (4, 7, 0)) (by decide)
 simp only at a1 a2 a3 b1 b2 b3
 simp only [a1, a2, a3, b1, b2, b3] at h
 exact h
set_option maxRecDepth 100000 in
set_option maxHeartbeats 4000000 in
theorem known_any (w : World) : Calls Tryz.prog 10 #[] w fun r w' => r = .returned (.bool true) ∧ Hid (Below w.heap.size w w') := by
 go_enter Tryz.func10, Tryz.ntmps10
 go_wp2_with fail
 refine (Df.example_any w).mono ?_
 rintro r w1 ⟨rfl, H1⟩
 go_wp2_with fail
 refine (Df.exNew_any 1 (Or.inr rfl) w1 H1.out.2).mono ?_
 rintro r w2 ⟨g, rfl, H2⟩
 have B2 : Hid (Below w.heap.size w w2) := H1.out.1.trans (H2.out.1.mono H1.out.1.size)
 have G2 := hid H2.out.2
 clear H1 H2
 go_wp2_with fail
 refine (exTab_any w2 G2.out).mono ?_
 rintro r w3 ⟨tb, rfl, H3⟩
 have B3 : Hid (Below w.heap.size w w3) := B2.out.trans (H3.out.1.mono B2.out.size)
 have T3 : Hid (TP w3.heap.size w3 tb 6 exR) := H3.out.2
 clear H3 G2 B2
 go_wp2_with fail
 refine (newNil_any w3).mono ?_
 rintro r w4 ⟨rfl, hw4⟩
 rw [hw4]
 clear hw4
 go_wp2_with fail
 refine (nilLeast_any w3).mono ?_
 rintro r w5 ⟨q5, c5, rfl, H5⟩
 go_wp2_with fail
 refine (nilTo_any w5).mono ?_
 rintro r w6 ⟨q6, c6, rfl, H6⟩
 have B36 : Hid (Below w3.heap.size w3 w6) := H5.out.trans (H6.out.mono H5.out.size)
 clear H5 H6
 go_wp2_with fail
 refine (nilCould_any w6).mono ?_
 rintro r w7 ⟨rfl, H7⟩
 have B37 : Hid (Below w3.heap.size w3 w7) := B36.out.trans (H7.out.mono B36.out.size)
 clear B36 H7
 have hnf := nilFront_any (w7.alloc (.cells #[.int .i64 0, .int .u64 0, .int .u64 0, .int .u64 0] 52)) (heap_new' _ _)
 go_wp2_with fail
 refine hnf.mono ?_
 clear hnf
 rintro r w8 ⟨q8, c8, rfl, H8⟩
 have B38 : Hid (Below w3.heap.size w3 w8) := by
  have h1 := B37.out.trans (((Gr.refl w7).alloc (.cells #[.int .i64 0, .int .u64 0, .int .u64 0, .int .u64 0] 52)).below.mono B37.out.size)
  exact h1.trans (H8.out.mono h1.size)
 clear B37 H8
 go_wp2_with fail
 refine (places_any w8 (nv w8)).mono ?_
 rintro r w9 ⟨rfl, hw9⟩
 rw [hw9]
 clear hw9
 go_wp2_with fail
 refine (places_any w8 (Or.inr ⟨tb, rfl, T3.out.keep B38.out⟩)).mono ?_
 rintro r w10 ⟨rfl, hw10⟩
 rw [hw10]
 clear hw10
 go_wp2_with fail
 refine (exLeast_any w8 (T3.out.keep B38.out)).mono ?_
 rintro r w11 ⟨q11, c11, rfl, H11⟩
 have B311 : Hid (Below w3.heap.size w3 w11) := B38.out.trans (H11.out.1.mono B38.out.size)
 have hs1 := sameP_eq (w11.alloc (.cells #[.int .u64 1, .int .u64 0, .int .u64 0] 39)) (H11.out.2.below ((Gr.refl w11).alloc _).below) (Df.sm_rowK (E := Pc.ET) (l := [tk1 1]) (c := 1) rfl (heap_new' _ _)) (by decide)
 clear B38
 go_wp2_with fail
 refine hs1.mono ?_
 clear hs1
 rintro r w12 ⟨rfl, g12⟩
 have B312 : Hid (Below w3.heap.size w3 w12) := by
  have h1 := B311.out.trans (((Gr.refl w11).alloc (.cells #[.int .u64 1, .int .u64 0, .int .u64 0] 39)).below.mono B311.out.size)
  exact h1.trans (g12.below.mono h1.size)
 clear B311 g12 H11
 go_wp2_with fail
 refine (exTo_any w12 (T3.out.keep B312.out) B312.out.size).mono ?_
 rintro r w13 ⟨q13, c13, rfl, H13⟩
 have B313 : Hid (Below w3.heap.size w3 w13) := B312.out.trans (H13.out.1.mono B312.out.size)
 have hs2 := sameI_eq (w13.alloc (.cells #[.int .i64 2, .int .i64 3, .int .i64 4, .int .i64 5] 3)) (H13.out.2.below ((Gr.refl w13).alloc _).below) (Df.sm_rowK (E := EI) (l := [2, 3, 4, 5]) (c := 4) rfl (heap_new' _ _)) (by decide)
 clear B312
 go_wp2_with fail
 refine hs2.mono ?_
 clear hs2
 rintro r w14 ⟨rfl, g14⟩
 have B314 : Hid (Below w3.heap.size w3 w14) := by
  have h1 := B313.out.trans (((Gr.refl w13).alloc (.cells #[.int .i64 2, .int .i64 3, .int .i64 4, .int .i64 5] 3)).below.mono B313.out.size)
  exact h1.trans (g14.below.mono h1.size)
 clear B313 g14 H13
 go_wp2_with fail
 refine (exCould_any w14 (T3.out.keep B314.out) B314.out.size).mono ?_
 rintro r w15 ⟨rfl, H15⟩
 have FIN : Hid (Below w.heap.size w w15) := by
  have h1 := B314.out.trans (H15.out.mono B314.out.size)
  exact B3.out.trans (h1.mono B3.out.size)
 clear B314 H15
 go_wp2
 go_ret
 exact ⟨by first | rfl | simp, FIN.out⟩
end Go.Proofs.YtjppkehnjnmbnaaGreat.Lf

namespace Go.Proofs.YtjppkehnjnmbnaaGreat.Lf
open Go.RowKit Go.Sort Pt
open Df (hid LV EL EI infoI tk_store tk_lt)
attribute [local go_sem ↓] Go.wp_at_zero Go.wp_at_succ
end Go.Proofs.YtjppkehnjnmbnaaGreat.Lf
