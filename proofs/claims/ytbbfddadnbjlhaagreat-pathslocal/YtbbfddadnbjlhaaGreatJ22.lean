import Derived.Test.YtbbfddadnbjlhaaGreatJ21
import Derived.Test.YtbbfddadnbjlhaaGreatGM1
import Derived.Test.YtbbfddadnbjlhaaGreatEqs
import Derived.Test.YtbbfddadnbjlhaaGreatJ9
import Derived.Test.YtbbfddadnbjlhaaGreatRows
import Derived.Test.YtbbfddadnbjlhaaGreatGFlaw
import Derived.ProofKit
import Derived.Lay
import Derived.LaidMore
import Derived.Deep.DeepHandedRow
import Derived.Lib.SmallJoins
import Derived.OpenShut
import Derived.Deep.Slices
import Derived.ChangeOld
import Derived.Test.YtbbfddadnbjlhaaGreatJ13
namespace Go.Proofs.YtbbfddadnbjlhaaGreat.Lf
open Go.RowKit Go.Sort Pt
open Df (tk_store tk_lt)
section
variable {n : Nat} {R : Nat → Nat → List Tri} {s : Hf.Th} {l : List Hf.Th}
end
end Go.Proofs.YtbbfddadnbjlhaaGreat.Lf

namespace Go.Proofs.YtbbfddadnbjlhaaGreat.Lf
open Go.RowKit Go.Sort Pt
open Df (hid Gph plN Gok GR NV Edg gof gvc Gcap EI tk_store tk_lt owns_form owns_caps stR LV EL)
attribute [local go_sem ↓] Go.wp_at_zero Go.wp_at_succ
theorem infoPa : (Tryz.prog.info? 39).map (fun i => (i.zero, i.size, i.bytes)) = some (some (.agg #[.int .u64 0, .int .u64 0, .int .u64 0]), 3, 24) := by kernel_rfl
theorem infoLp : (Tryz.prog.info? 35).map (fun i => (i.zero, i.size, i.bytes)) = some (some (.slice none 0 0), 1, 24) := by kernel_rfl
def Ms (St : Nat → Nat → Tri → Prop) (sr : List Df.Con) (R0 : Nat → List Tri) (p n B gm i j : Nat) (S : Nat → Prop) (W : World) : Prop := ∃ (vs : List LV) (L : Nat → List Tri), Fw Pc.ET 39 35 B W (.slice (some ⟨gm, 0, none⟩) n n) vs L ∧ vs.length = n ∧ Md St sr R0 p i j L ∧ ∀ (k : Nat) (x : LV), vs[k]? = some x → ∀ b, x.v.ownBlock = some b → ¬ S b
theorem Ms.below {St : Nat → Nat → Tri → Prop} {sr : List Df.Con} {R0 : Nat → List Tri} {p n B gm i j : Nat} {S : Nat → Prop} {W W' : World} (h : Ms St sr R0 p n B gm i j S W) (hb : Below W.heap.size W W') : Ms St sr R0 p n B gm i j S W' := by
 obtain ⟨vs, L, h1, h2, h3, h4⟩ := h
 exact ⟨vs, L, h1.below hb, h2, h3, h4⟩
theorem Ms.sep {St : Nat → Nat → Tri → Prop} {sr : List Df.Con} {R0 : Nat → List Tri} {p n B gm i j : Nat} {S S' : Nat → Prop} {W : World} (h : Ms St sr R0 p n B gm i j S W) (hS : ∀ b, S' b → W.heap.size ≤ b) : Ms St sr R0 p n B gm i j S' W := by
 obtain ⟨vs, L, h1, h2, h3, h4⟩ := h
 refine ⟨vs, L, h1, h2, h3, fun k x hk b e hs => ?_⟩
 have a1 := (Df.owns_rd (h1.each k x hk) b e).2
 have a2 := hS b hs
 omega
theorem Ms.skip {St : Nat → Nat → Tri → Prop} {sr : List Df.Con} {R0 : Nat → List Tri} {p n B gm i j : Nat} {S : Nat → Prop} {W : World} (h : Ms St sr R0 p n B gm i j S W) {c : Df.Con} {a : Tri} (hc : sr[i]? = some c) (ha : (R0 c.inn.toNat)[j]? = some a) (hx : thn3 a (tri c.via) = none) : Ms St sr R0 p n B gm i (j + 1) S W := by
 obtain ⟨vs, L, h1, h2, h3, h4⟩ := h
 exact ⟨vs, L, h1, h2, h3.skip hc ha hx, h4⟩
theorem Ms.next {St : Nat → Nat → Tri → Prop} {sr : List Df.Con} {R0 : Nat → List Tri} {p n B gm i j : Nat} {S : Nat → Prop} {W : World} (h : Ms St sr R0 p n B gm i j S W) {c : Df.Con} (hc : sr[i]? = some c) (hj : (R0 c.inn.toNat).length = j) (h64 : j ≤ 64) : Ms St sr R0 p n B gm (i + 1) 0 S W := by
 obtain ⟨vs, L, h1, h2, h3, h4⟩ := h
 exact ⟨vs, L, h1, h2, h3.next hc hj h64, h4⟩
theorem Ms.put {St : Nat → Nat → Tri → Prop} {sr : List Df.Con} {R0 : Nat → List Tri} {p n B gm i j : Nat} {S : Nat → Prop} {W w1 : World} {vs : List LV} {L : Nat → List Tri} (hf : Fw Pc.ET 39 35 B W (.slice (some ⟨gm, 0, none⟩) n n) vs L) (hn : vs.length = n) {q g cap : Nat} {x : LV} {y : Tri} (hm : Md St sr R0 p i j (fun r => if r = q then L q ++ [y] else L r)) (hap : ∀ (k : Nat) (x : LV), vs[k]? = some x → ∀ b, x.v.ownBlock = some b → ¬ S b) (hx : vs[q]? = some x)
    (h1 : w1.ownsRow B 39 3 (.slice (some ⟨g, 0, none⟩) ((L q).length + 1) cap) ((L q).length + 1) (fl Pc.ET (L q) ++ Pc.ET.enc y)) (h2 : W.grownBy w1 x.v.ownBlock) (h3 : x.v.ownBlock = some g ∨ W.heap.size ≤ g) (hS : ∀ b, S b → b < W.heap.size) :
    Ms St sr R0 p n B gm i j S (w1.setCell ⟨gm, q, none⟩ (.slice (some ⟨g, 0, none⟩) ((L q).length + 1) cap)) ∧ Kp (fun j => (Value.slice (some ⟨gm, 0, none⟩) n n).ownBlock = some j ∨ x.v.ownBlock = some j) W (w1.setCell ⟨gm, q, none⟩ (.slice (some ⟨g, 0, none⟩) ((L q).length + 1) cap)) := by
 obtain ⟨a1, a2⟩ := hf.step (by decide) hx (by rw [hn]) h1 h2 h3
 refine ⟨⟨_, _, a1, by rw [List.length_set]; exact hn, hm, fun k x' hk b e hs => ?_⟩, a2⟩
 rw [List.getElem?_set] at hk
 by_cases e2 : q = k
 ·subst e2
  rw [if_pos rfl, if_pos (List.getElem?_eq_some_iff.1 hx).1] at hk
  cases hk
  have eb : g = b := by simpa [Value.ownBlock] using e
  subst eb
  rcases h3 with h3 | h3
  ·exact hap q x hx g h3 hs
  ·have := hS g hs
   omega
 ·rw [if_neg e2] at hk
  exact hap k x' hk b e hs
theorem any_take1 {α : Type} {l : List α} {k : Nat} {a : α} (h : l[k]? = some a) (f : α → Bool) : (l.take (k + 1)).any f = ((l.take k).any f || f a) := by
 rw [List.take_add_one, h]
 simp
set_option maxRecDepth 100000 in
set_option maxHeartbeats 32000000 in
theorem pathsLocal_any {M0 : Nat} {nv ev : Value} {a : Int} {xs : List NV} {es : List Edg} (fr : Int) (w : World) (hG : GR M0 w nv ev xs es) (hM : M0 ≤ w.heap.size) (hC : Gcap ev xs) (hP : Gpt (gof a xs es)) : Calls Tryz.prog 3 #[.agg (gvc a nv ev), .int .i64 fr] w fun e w' => e = .returned (.bool true) ∧ Below w.heap.size w w' := by
 have hmx : Tryz.prog.follows .mixedOrders = true := by kernel_rfl
 obtain ⟨xb, hxb⟩ : ∃ b, b = w.heap.size := ⟨_, rfl⟩
 obtain ⟨W0, hW0⟩ : ∃ W, W = w.alloc (.cells (gvc a nv ev) 25) := ⟨_, rfl⟩
 have P0 : Hid (Below w.heap.size w W0 ∧ W0.heap[xb]? = some (.cells (gvc a nv ev) 25 (0, 0))) := by
  rw [hW0, hxb]
  exact ⟨((Gr.refl w).alloc _).below, heap_new' _ _⟩
 have hbo := both_any (a := a) W0 (hG.below P0.out.1) (Nat.le_trans hM P0.out.1.size) hC hP
 have HG0 : Hid (∀ W, Below W0.heap.size W0 W → GR M0 W nv ev xs es ∧ M0 ≤ W.heap.size) := fun W hb => by
  have h1 := P0.out.1.trans (hb.mono P0.out.1.size)
  exact ⟨hG.below h1, Nat.le_trans hM h1.size⟩
 have HPT := hid hP
 have HW0 : Hid (w.alloc (.cells (gvc a nv ev) 25) = W0 ∧ w.heap.size = xb) := ⟨hW0.symm, hxb.symm⟩
 have c0 := (tk_store P0.out.2).1
 have l0 := tk_lt P0.out.2
 clear hG hM hC hP hW0 hxb
 obtain ⟨g, hg⟩ : ∃ g, g = gof a xs es := ⟨_, rfl⟩
 have HGE := hid hg
 rw [← hg] at hbo HPT
 clear hg
 go_enter Tryz.func3, Tryz.ntmps3
 go_upto_region 1 with fail
 rw [HW0.out.1, HW0.out.2]
 clear HW0
 go_wp2_with fail
 refine hbo.mono ?_
 clear hbo c0 l0
 rintro r w1 ⟨hb1, hr⟩
 have HB1 := hid hb1
 clear hb1
 rcases hr with rfl | ⟨tb, rb, R, hok, hres, rfl, htp, htr⟩
 ·go_wp2_with fail
  refine (known_any w1).mono ?_
  rintro r w2 ⟨rfl, H2⟩
  have HBz : Hid (Below w.heap.size w w2) := P0.out.1.trans ((HB1.out.trans (H2.out.mono HB1.out.size)).mono P0.out.1.size)
  go_wp2_with fail
  go_ret
  exact ⟨rfl, HBz.out⟩
 ·have HR := hid (bt_len hres)
  have HRS := hid hres
  have HT := hid htp
  have HTR := hid htr
  have HOK := hid hok
  have hn := Df.plN_le hok
  clear hres htp htr hok
  obtain ⟨n, hnn⟩ : ∃ n, n = plN g.nodes := ⟨_, rfl⟩
  have HNN := hid hnn
  rw [← hnn] at HR HRS HT HTR hn
  clear hnn
  go_wp2_with fail
  refine (known_any w1).mono ?_
  rintro r Wk ⟨rfl, H2⟩
  have HBk : Hid (Below w.heap.size w Wk) := P0.out.1.trans ((HB1.out.trans (H2.out.mono HB1.out.size)).mono P0.out.1.size)
  obtain ⟨rv, HSD⟩ : ∃ rv, Hid (∀ W, Below Wk.heap.size Wk W → W.heap[rb]? = some (.cells #[.int .i64 (n : Nat), rv] 33 (0, 0)) ∧ W.heap[xb]? = some (.cells (gvc a nv ev) 25 (0, 0)) ∧ GR M0 W nv ev xs es ∧ M0 ≤ W.heap.size ∧ TP w1.heap.size W tb n R ∧ w1.heap.size ≤ W.heap.size) := by
   obtain ⟨rv, q1, _⟩ := HTR.out.keep H2.out
   refine ⟨rv, fun W hb => ?_⟩
   have h1 := H2.out.trans (hb.mono H2.out.size)
   have h2 := HB1.out.trans (h1.mono HB1.out.size)
   exact ⟨(hb.block _ (tk_lt q1)).trans q1, (h2.block _ (tk_lt P0.out.2)).trans P0.out.2, (HG0.out W h2).1, (HG0.out W h2).2, HT.out.keep h1, h1.size⟩
  clear H2 HT HTR HB1 P0 HG0
  have cr := (tk_store (HSD.out _ (Below.refl _ _)).1).1
  have lr := tk_lt (HSD.out _ (Below.refl _ _)).1
  by_cases hn0 : n = 0
  ·have hn0z : (n : Int) = 0 := by omega
   go_wp2_with fail
   go_ret
   exact ⟨rfl, HBk.out⟩
  ·have hn0z : ¬ (n : Int) = 0 := by omega
   have htm := tmod_bd2 fr (m := (n : Int)) (by omega)
   go_upto_if 52 with fail
   generalize fr.tmod (n : Int) = mm at *
   go_cut [1] from 37 to 58 (fun s1 wx => ∃ p : Nat, p < n ∧ s1 = .int .i64 p ∧ wx = Wk)
   case first =>
    by_cases hmm : mm < 0
    ·go_wp2_with fail
     go_meet
     exact ⟨(mm + n).toNat, by omega, by first | rfl | go_num, rfl⟩
    ·go_wp2_with fail
     go_meet
     exact ⟨mm.toNat, by omega, by first | rfl | go_num, rfl⟩
   case rest =>
    obtain ⟨p, hp, rfl, hwe⟩ := hcut
    have hwd := hwe.symm
    subst hwd
    clear hwe htm hn0z
    have HRP : Hid (Res PX (StG g) p (some (R p))) := HRS.out p hp
    have HLE : Hid (∀ (q : Nat) W, q < n → Below Wk.heap.size Wk W → Calls Tryz.prog 12 #[.pointer (some ⟨tb, 0, none⟩), .int .i64 (p : Nat), .int .i64 (q : Nat)] W fun e w' => ∃ v', e = .returned v' ∧ Hid (w'.ownsRow W.heap.size 39 3 v' (R p q).length (fl Pc.ET (R p q)) ∧ Below W.heap.size W w')) := fun q W hq hb => by
     have h := least_any (p : Nat) (q : Nat) W (Or.inr ⟨tb, rfl, (HSD.out W hb).2.2.2.2.1⟩) (HR.out _ _)
     rw [bt_in hp hq] at h
     refine h.mono ?_
     rintro e w' ⟨v', h1, h2, h3⟩
     exact ⟨v', h1, h2, h3⟩
    have H64 : Hid (∀ q, (R p q).length ≤ 64) := fun q => (HRP.out q).2.2
    have hl1 := HLE.out p Wk hp (Below.refl _ _)
    rw [res_self HRP.out] at hl1
    go_wp2_with fail
    refine hl1.mono ?_
    rintro r w2 ⟨v2, rfl, HS⟩
    have hs1 : ∀ b, Hid (Ls Pc.ET (w2.alloc (.cells #[.int .u64 0, .int .u64 0, .int .u64 0] 39)) (.slice (some ⟨b, 0, none⟩) 1 1) [PX.z]) → Calls Tryz.prog 11 #[v2, .slice (some ⟨b, 0, none⟩) 1 1] (w2.alloc (.cells #[.int .u64 0, .int .u64 0, .int .u64 0] 39)) fun e w' => e = .returned (.bool true) ∧ Gr (w2.alloc (.cells #[.int .u64 0, .int .u64 0, .int .u64 0] 39)) w' := fun b hb => sameP_eq _ (owns_ls (E := Pc.ET) (owns_below HS.out.1 ((Gr.refl w2).alloc _).below)) hb.out (by simp)
    have hz1 : Hid (Ls Pc.ET (w2.alloc (.cells #[.int .u64 0, .int .u64 0, .int .u64 0] 39)) (.slice (some ⟨w2.heap.size, 0, none⟩) 1 1) [PX.z]) := Df.one_ls (E := Pc.ET) (x := PX.z) (heap_new' w2 _) rfl
    have hs2 := hs1 _ hz1
    clear hl1 hs1
    go_wp2_with fail
    refine hs2.mono ?_
    rintro r w3 ⟨rfl, g3⟩
    have HB3 : Hid (Below Wk.heap.size Wk w3) := HS.out.2.trans ((((Gr.refl w2).alloc _).trans g3).below.mono HS.out.2.size)
    clear hs2 g3 hz1 HS cr lr
    have hst := Df.ksteps_any (a := a) w3 (HSD.out _ HB3.out).2.2.1 (HSD.out _ HB3.out).2.2.2.1 (by rw [← HGE.out]; exact HOK.out)
    rw [← HGE.out] at hst
    have cx := (tk_store (HSD.out _ HB3.out).2.1).1
    have lx := tk_lt (HSD.out _ HB3.out).2.1
    go_wp2_with fail
    refine hst.mono ?_
    clear hst cx lx
    rintro r w5 ⟨d, rfl, hb5, ho5⟩
    have HB5 : Hid (Below Wk.heap.size Wk w5) := HB3.out.trans (hb5.mono HB3.out.size)
    obtain ⟨pd, cd, hd⟩ := (owns_ls (E := Df.EC) ho5).form
    subst hd
    have HLS := hid (owns_ls (E := Df.EC) ho5)
    have HSL : Hid ((stR g).length ≤ 432) := Df.stR_len HOK.out
    have HSR : Hid (∀ (i : Nat) (c : Df.Con), (stR g)[i]? = some c → ∃ q q', q < n ∧ q' < n ∧ c.inn = (q : Int) ∧ c.out = (q' : Int) ∧ StG g q q' (tri c.via) ∧ Df.PthT c.via) := fun i c hc => by
     rw [HNN.out]
     exact stR_at HOK.out HPT.out hc
    have HHAS : Hid (∀ (L : Nat → List Tri), Md (StG g) (stR g) (R p) p (stR g).length 0 L → ∀ (q : Nat) (k : Tri), q ≠ p → k ∈ R p q → k ∈ L q) := fun L hL q k hq hk => hL.has HRP.out hq hk
    generalize stR g = sr at *
    obtain ⟨B, hB⟩ : ∃ b, b = w5.heap.size := ⟨_, rfl⟩
    have HWN : Hid (∀ W, Below B w5 W → Below Wk.heap.size Wk W ∧ Ls Df.EC W (.slice pd sr.length cd) sr ∧ B ≤ W.heap.size) := fun W hb => by
     rw [hB] at hb ⊢
     exact ⟨HB5.out.trans (hb.mono HB5.out.size), HLS.out.below hb, hb.size⟩
    clear ho5 hb5 HB3 HLS
    obtain ⟨i0, hi0, hz0, hz1, hz2⟩ := info_parts infoLp
    have cr := (tk_store (HSD.out _ HB5.out).1).1
    have lr := tk_lt (HSD.out _ HB5.out).1
    go_upto_region 13 with (at_make; refine wpList_make_full _ rfl _ _ 42 rfl w5.heap.size 35 i0 (.slice none 0 0) 1 Tryz.underlying42 hi0 hz0 hz1 _ _ _ _ n rfl rfl rfl rfl (by rw [hz2]; omega) (by unfold maxLen; omega) (Nat.le_refl _) ?_; intro w6 hrow hg6)
    have hb6 : Below w5.heap.size w5 w6 := (Kp.grownBy (S := fun _ => False) hg6 (fun _ h => by cases h)).below (Nat.le_refl _) (fun _ h => h.elim)
    obtain ⟨gm, hgm⟩ : ∃ b, b = w5.heap.size := ⟨_, rfl⟩
    have HM0 : Hid (Ms (StG g) sr (R p) p n B gm 0 0 (fun _ => False) w6 ∧ Below B w5 w6) := by
     rw [hgm, hB]
     exact ⟨⟨_, _, Fw.made Pc.ET 39 35 hrow, by simp, Md.zero, fun _ _ _ _ _ h => h⟩, hb6⟩
    rw [← hgm]
    clear hrow hg6 hi0 hz0 hz1 hz2 hb6 cr lr hgm hB i0
    go_wp2_with fail
    go_loopw [11, 12, 13, 14, 15] (fun s11 _ _ _ _ wr => ∃ i : Nat, i ≤ sr.length ∧ s11 = .int .i64 i ∧ Hid (Ms (StG g) sr (R p) p n B gm i 0 (fun _ => False) wr ∧ Below B w5 wr)) (fun s11 _ _ _ _ _ => sr.length - (RowKit.intOf s11).toNat)
    case atStart => exact ⟨0, Nat.zero_le _, rfl, HM0.out⟩
    case round =>
     clear HM0
     obtain ⟨i, hi, rfl, HI⟩ := hrel
     have hsl := HSL.out
     by_cases hil : i < sr.length
     ·have hilz : (i : Int) < (sr.length : Int) := by omega
      have hi0 : (0 : Int) ≤ (i : Int) := by omega
      obtain ⟨c, hc⟩ : ∃ c, sr[i]? = some c := ⟨sr[i]'hil, by simp⟩
      obtain ⟨q0, q1, hq0, hq1, hci, hco, hst, hpt⟩ := HSR.out i c hc
      obtain ⟨b1, o1, c1, hv1, hb1, x0, x1, x2, x3, x4⟩ := Df.ls_atC (HWN.out _ HI.out.2).2.1 hc
      cases hv1
      rw [hci] at x0
      have hl2 := HLE.out q0 wr hq0 (HWN.out _ HI.out.2).1
      have HCC : Hid (sr[i]? = some c ∧ c.inn = (q0 : Int) ∧ c.out = (q1 : Int) ∧ StG g q0 q1 (tri c.via) ∧ Df.PthT c.via) := ⟨hc, hci, hco, hst, hpt⟩
      clear hc hci hco hst hpt
      obtain ⟨by', hby⟩ : ∃ z, z = tri c.via := ⟨_, rfl⟩
      have HSE : Hid (∀ W, Below B w5 W → W.cell? ⟨b1, o1 + i * 5 + 1, none⟩ = some (.int .i64 (q1 : Nat)) ∧ W.cell? ⟨b1, o1 + i * 5 + 2, none⟩ = some (.int .u64 by'.1.1) ∧ W.cell? ⟨b1, o1 + i * 5 + 3, none⟩ = some (.int .u64 by'.1.2.1) ∧ W.cell? ⟨b1, o1 + i * 5 + 4, none⟩ = some (.int .u64 by'.1.2.2) ∧ b1 < W.heap.size) := fun W hb => by
       obtain ⟨b3, o3, c3, hv3, hb3, y0, y1, y2, y3, y4⟩ := Df.ls_atC (HWN.out _ hb).2.1 HCC.out.1
       simp only [Value.slice.injEq, Option.some.injEq, Addr.mk.injEq, and_true] at hv3
       obtain ⟨⟨rfl, rfl⟩, -⟩ := hv3
       have htv : ((c.via.1 : Nat) : Int) = by'.1.1 ∧ ((c.via.2.1 : Nat) : Int) = by'.1.2.1 ∧ ((c.via.2.2 : Nat) : Int) = by'.1.2.2 := by
        rw [hby, tri_of HCC.out.2.2.2.2]
        exact ⟨rfl, rfl, rfl⟩
       rw [HCC.out.2.2.1] at y1
       rw [htv.1] at y2
       rw [htv.2.1] at y3
       rw [htv.2.2] at y4
       exact ⟨y1, y2, y3, y4, hb3⟩
      have HBY := hid hby
      clear hby
      go_wp2_with fail
      refine hl2.mono ?_
      rintro r w7 ⟨v7, rfl, HS⟩
      obtain ⟨pl, cl, hpl⟩ := (owns_ls (E := Pc.ET) HS.out.1).form
      subst hpl
      obtain ⟨bl, hbl⟩ : ∃ l, l = R p q0 := ⟨_, rfl⟩
      have HBL : Hid (bl = R p q0 ∧ bl.length ≤ 64) := ⟨hbl, by rw [hbl]; exact H64.out q0⟩
      rw [← hbl] at HS ⊢
      obtain ⟨B2, hB2⟩ : ∃ b, b = wr.heap.size := ⟨_, rfl⟩
      have HJ0 : Hid (Ms (StG g) sr (R p) p n B gm i 0 (fun b => (Value.slice pl bl.length cl).ownBlock = some b) w7 ∧ Below B w5 w7 ∧ w7.ownsRow B2 39 3 (.slice pl bl.length cl) bl.length (fl Pc.ET bl)) := by
       refine ⟨(HI.out.1.sep (fun b e => (Df.owns_rd HS.out.1 b e).1)).below HS.out.2, HI.out.2.trans (HS.out.2.mono (HWN.out _ HI.out.2).2.2), ?_⟩
       rw [hB2]
       exact HS.out.1
      clear hl2 hbl hB2 HS HI x0 x1 x2 x3 x4 hb1
      go_wp2_with fail
      go_loopw [13, 14, 15] (fun s13 _ _ wr => ∃ j : Nat, j ≤ bl.length ∧ s13 = .int .i64 j ∧ Hid (Ms (StG g) sr (R p) p n B gm i j (fun b => (Value.slice pl bl.length cl).ownBlock = some b) wr ∧ Below B w5 wr ∧ wr.ownsRow B2 39 3 (.slice pl bl.length cl) bl.length (fl Pc.ET bl))) (fun s13 _ _ _ => bl.length - (RowKit.intOf s13).toNat)
      case atStart => exact ⟨0, Nat.zero_le _, rfl, HJ0.out⟩
      case round =>
       clear HJ0
       obtain ⟨j, hj, rfl, HJ⟩ := hrel
       have hb64 := HBL.out.2
       by_cases hjl : j < bl.length
       ·have hjz : (j : Int) < (bl.length : Int) := by omega
        have hj0 : (0 : Int) ≤ (j : Int) := by omega
        obtain ⟨b, hbj⟩ : ∃ b, bl[j]? = some b := ⟨bl[j], by simp⟩
        obtain ⟨b2, o2, c2, hv2, hb2, v0, v1, v2⟩ := (owns_ls (E := Pc.ET) HJ.out.2.2).atP hbj
        simp only [Value.slice.injEq] at hv2
        obtain ⟨rfl, -, rfl⟩ := hv2
        have HBJ : Hid (bl[j]? = some b) := hbj
        obtain ⟨cv, hcv⟩ : ∃ z, z = thv b by' := ⟨_, rfl⟩
        obtain ⟨ok, hok⟩ : ∃ z, z = (thn3 b by').isSome := ⟨_, rfl⟩
        have hth := fun W => rthen_any b by' W
        rw [← hcv, ← hok] at hth
        unfold Pc.tv at hth
        have HCV : Hid (cv = thv b by' ∧ ok = (thn3 b by').isSome) := ⟨hcv, hok⟩
        have HSD : Hid (∀ W, Below wr.heap.size wr W → Below B w5 W ∧ W.cell? ⟨b2, o2 + j * 3, none⟩ = some (.int .u64 b.1.1) ∧ W.cell? ⟨b2, o2 + j * 3 + 1, none⟩ = some (.int .u64 b.1.2.1) ∧ W.cell? ⟨b2, o2 + j * 3 + 2, none⟩ = some (.int .u64 b.1.2.2) ∧ b2 < W.heap.size) := fun W hb =>
         ⟨HJ.out.2.1.trans (hb.mono (HWN.out _ HJ.out.2.1).2.2), (hb.cell (p := ⟨b2, o2 + j * 3, none⟩) hb2).trans v0, (hb.cell (p := ⟨b2, o2 + j * 3 + 1, none⟩) hb2).trans v1, (hb.cell (p := ⟨b2, o2 + j * 3 + 2, none⟩) hb2).trans v2, Nat.lt_of_lt_of_le hb2 hb.size⟩
        clear hcv hok hbj v0 v1 v2 hb2
        go_upto_region 20 with fail
        have hB0 : Below wr.heap.size wr wr.drew := (Gr.refl wr).drew.below
        have hS0 := HSD.out _ hB0
        go_cut [14, 15] (fun s14 s15 wq => ∃ pb, s14 = .pointer (some ⟨pb, 0, none⟩) ∧ s15 = .bool ok ∧ Hid (Below wr.heap.size wr wq ∧ wq.heap[pb]? = some (.cells #[.int .u64 cv.1.1, .int .u64 cv.1.2.1, .int .u64 cv.1.2.2] 39 (0, 0)) ∧ wr.heap.size ≤ pb))
        case first =>
         skip
         refine wp_regionD (S := fun W => Below B w5 W ∧ W.cell? ⟨b2, o2 + j * 3, none⟩ = some (.int .u64 b.1.1) ∧ W.cell? ⟨b2, o2 + j * 3 + 1, none⟩ = some (.int .u64 b.1.2.1) ∧ W.cell? ⟨b2, o2 + j * 3 + 2, none⟩ = some (.int .u64 b.1.2.2) ∧ b2 < W.heap.size) (D := []) hmx ?_
         refine' wpAnyD_take (i := 0) (oi := ⟨some 95, .move (.tmp 12), 35, "law.go:212", #[], none⟩) (v := _) rfl (by kernel_rfl) (by kernel_rfl) (by kernel_rfl) (fun _ _ _ h => h) (by kernel_rfl) (Or.inl ⟨by rfl, ?hy2001⟩) hS0 ?rest2001
         case hy2001 => (intro W hSw; go_simp; try (with_reducible rfl))
         try simp only [Act.put, List.setIfInBounds_toArray, List.set_cons_zero, List.set_cons_succ]
         refine' wpAnyD_take (i := 1) (oi := ⟨some 96, .move (.tmp 13), 3, "law.go:212", #[], none⟩) (v := _) rfl (by kernel_rfl) (by kernel_rfl) (by kernel_rfl) (fun _ _ _ h => h) (by kernel_rfl) (Or.inl ⟨by rfl, ?hy2002⟩) hS0 ?rest2002
         case hy2002 => (intro W hSw; go_simp; try (with_reducible rfl))
         try simp only [Act.put, List.setIfInBounds_toArray, List.set_cons_zero, List.set_cons_succ]
         refine' wpAnyD_take (i := 2) (oi := ⟨some 97, .indexAddr 35 (.tmp 95) (.tmp 96), 0, "law.go:212", #[⟨0, .data⟩, ⟨1, .data⟩], none⟩) (v := _) rfl (by kernel_rfl) (by kernel_rfl) (by kernel_rfl) (fun _ _ _ h => h) (by kernel_rfl) (Or.inl ⟨by rfl, ?hy2003⟩) hS0 ?rest2003
         case hy2003 => (intro W hSw; go_simp; try (with_reducible rfl))
         try simp only [Act.put, List.setIfInBounds_toArray, List.set_cons_zero, List.set_cons_succ]
         refine' wpAnyD_take (i := 3) (oi := ⟨some 98, .load 39 (.tmp 97), 39, "law.go:212", #[⟨2, .data⟩], none⟩) (v := _) rfl (by kernel_rfl) (by kernel_rfl) (by kernel_rfl) (fun _ _ _ h => h) (by kernel_rfl) (Or.inl ⟨by rfl, ?hy2004⟩) hS0 ?rest2004
         case hy2004 => (intro W hSw; obtain ⟨s0, s1, s2, s3, s4⟩ := hSw; go_simp; try (with_reducible rfl))
         try simp only [Act.put, List.setIfInBounds_toArray, List.set_cons_zero, List.set_cons_succ]
         refine' wpAnyD_take (i := 4) (oi := ⟨some 99, .move (.tmp 9), 40, "law.go:212", #[], none⟩) (v := _) rfl (by kernel_rfl) (by kernel_rfl) (by kernel_rfl) (fun _ _ _ h => h) (by kernel_rfl) (Or.inl ⟨by rfl, ?hy2005⟩) hS0 ?rest2005
         case hy2005 => (intro W hSw; go_simp; try (with_reducible rfl))
         try simp only [Act.put, List.setIfInBounds_toArray, List.set_cons_zero, List.set_cons_succ]
         refine' wpAnyD_take (i := 5) (oi := ⟨some 100, .move (.tmp 11), 3, "law.go:212", #[], none⟩) (v := _) rfl (by kernel_rfl) (by kernel_rfl) (by kernel_rfl) (fun _ _ _ h => h) (by kernel_rfl) (Or.inl ⟨by rfl, ?hy2006⟩) hS0 ?rest2006
         case hy2006 => (intro W hSw; go_simp; try (with_reducible rfl))
         try simp only [Act.put, List.setIfInBounds_toArray, List.set_cons_zero, List.set_cons_succ]
         refine' wpAnyD_take (i := 6) (oi := ⟨some 101, .indexAddr 40 (.tmp 99) (.tmp 100), 0, "law.go:212", #[⟨4, .data⟩, ⟨5, .data⟩], none⟩) (v := _) rfl (by kernel_rfl) (by kernel_rfl) (by kernel_rfl) (fun _ _ _ h => h) (by kernel_rfl) (Or.inl ⟨by rfl, ?hy2007⟩) hS0 ?rest2007
         case hy2007 => (intro W hSw; go_simp; try (with_reducible rfl))
         try simp only [Act.put, List.setIfInBounds_toArray, List.set_cons_zero, List.set_cons_succ]
         refine' wpAnyD_take (i := 7) (oi := ⟨some 102, .fieldAddr 44 (.tmp 101) 2, 0, "law.go:212", #[⟨6, .data⟩], none⟩) (v := _) rfl (by kernel_rfl) (by kernel_rfl) (by kernel_rfl) (fun _ _ _ h => h) (by kernel_rfl) (Or.inl ⟨by rfl, ?hy2008⟩) hS0 ?rest2008
         case hy2008 => (intro W hSw; go_simp; try (with_reducible rfl))
         try simp only [Act.put, List.setIfInBounds_toArray, List.set_cons_zero, List.set_cons_succ]
         refine' wpAnyD_take (i := 8) (oi := ⟨some 103, .load 39 (.tmp 102), 39, "law.go:212", #[⟨7, .data⟩], none⟩) (v := _) rfl (by kernel_rfl) (by kernel_rfl) (by kernel_rfl) (fun _ _ _ h => h) (by kernel_rfl) (Or.inl ⟨by rfl, ?hy2009⟩) hS0 ?rest2009
         case hy2009 => (intro W hSw; obtain ⟨y1, y2, y3, y4, y5⟩ := HSE.out _ hSw.1; go_simp; try (with_reducible rfl))
         try simp only [Act.put, List.setIfInBounds_toArray, List.set_cons_zero, List.set_cons_succ]
         refine wpAnyD_two (i := 9) (j := 13) (oi := ⟨some 104, .call ⟨.value (.func 14), #[.tmp 98, .tmp 103], #[39, 39]⟩, 45, "law.go:212", #[⟨3, .data⟩, ⟨8, .data⟩], none⟩) (oj := ⟨some 14, .alloc 39, 0, "law.go:212", #[], none⟩) (by kernel_rfl) rfl rfl (fun K hK => ?tA) (fun K hK => ?tB)
         case tA =>
          go_simp
          refine (hth _).mono ?_
          rintro r w14 ⟨rfl, g14⟩
          have hS14 : Below wr.heap.size wr w14 := hB0.trans (g14.below.mono hB0.size)
          clear g14
          go_wp2_with fail
          refine hK.out _ _ (fun hD => HSD.out _ hS14) ?_
          clear hK K
          try simp only [Act.put, List.setIfInBounds_toArray, List.set_cons_zero, List.set_cons_succ]
          refine' wpAnyD_take (i := 10) (oi := ⟨some 94, .move (.tmp 104), 45, "law.go:212", #[⟨9, .data⟩], none⟩) (v := _) rfl (by kernel_rfl) (by kernel_rfl) (by kernel_rfl) (fun _ _ _ h => h) (by kernel_rfl) (Or.inl ⟨by rfl, ?hy2010⟩) (HSD.out _ hS14) ?rest2010
          case hy2010 => (intro W hSw; go_simp; try (with_reducible rfl))
          try simp only [Act.put, List.setIfInBounds_toArray, List.set_cons_zero, List.set_cons_succ]
          refine' wpAnyD_take (i := 11) (oi := ⟨some 105, .extract (.tmp 94) 0, 39, "law.go:212", #[⟨10, .data⟩], none⟩) (v := _) rfl (by kernel_rfl) (by kernel_rfl) (by kernel_rfl) (fun _ _ _ h => h) (by kernel_rfl) (Or.inl ⟨by rfl, ?hy2011⟩) (HSD.out _ hS14) ?rest2011
          case hy2011 => (intro W hSw; go_simp; try (with_reducible rfl))
          try simp only [Act.put, List.setIfInBounds_toArray, List.set_cons_zero, List.set_cons_succ]
          refine' wpAnyD_take (i := 12) (oi := ⟨some 106, .extract (.tmp 94) 1, 4, "law.go:212", #[⟨10, .data⟩, ⟨14, .gcOnly .lateStores⟩], none⟩) (v := _) rfl (by kernel_rfl) (by kernel_rfl) (by kernel_rfl) (fun _ _ _ h => h) (by kernel_rfl) (Or.inl ⟨by rfl, ?hy2012⟩) (HSD.out _ hS14) ?rest2012
          case hy2012 => (intro W hSw; go_simp; try (with_reducible rfl))
          try simp only [Act.put, List.setIfInBounds_toArray, List.set_cons_zero, List.set_cons_succ]
          refine wpAnyD_one (i := 13) (o := ⟨some 14, .alloc 39, 0, "law.go:212", #[], none⟩) (by kernel_rfl) rfl (fun K hK => ?_)
          go_simp
          have hS15 : Below wr.heap.size wr (w14.alloc (.cells #[.int .u64 0, .int .u64 0, .int .u64 0] 39)) := hS14.trans (((Gr.refl w14).alloc _).below.mono hS14.size)
          refine hK.out _ _ (fun hD => HSD.out _ hS15) ?_
          clear hK K
          try simp only [Act.put, List.setIfInBounds_toArray, List.set_cons_zero, List.set_cons_succ]
          refine wpAnyD_one (i := 14) (o := ⟨none, .store 39 (.tmp 14) (.tmp 105), 0, "law.go:212", #[⟨13, .data⟩, ⟨11, .data⟩, ⟨9, .chain⟩, ⟨0, .phase⟩, ⟨1, .phase⟩, ⟨2, .phase⟩, ⟨3, .phase⟩, ⟨4, .phase⟩, ⟨5, .phase⟩, ⟨6, .phase⟩, ⟨7, .phase⟩, ⟨8, .phase⟩, ⟨9, .phase⟩, ⟨10, .phase⟩, ⟨11, .phase⟩, ⟨12, .textOnly .lateStores⟩, ⟨13, .phase⟩], none⟩) (by kernel_rfl) rfl (fun K hK => ?_)
          go_simp
          have hS16 : Below wr.heap.size wr (w14.alloc (.cells #[.int .u64 cv.1.1, .int .u64 cv.1.2.1, .int .u64 cv.1.2.2] 39)) := hS14.trans (((Gr.refl w14).alloc _).below.mono hS14.size)
          refine hK.out _ _ (fun hD => HSD.out _ hS16) ?_
          clear hK K
          try simp only [Act.put, List.setIfInBounds_toArray, List.set_cons_zero, List.set_cons_succ]
          refine wpAnyD_one (i := 15) (o := ⟨some 15, .assign (.tmp 106), 4, "law.go:212", #[⟨12, .data⟩, ⟨14, .chain⟩, ⟨0, .phase⟩, ⟨1, .phase⟩, ⟨2, .phase⟩, ⟨3, .phase⟩, ⟨4, .phase⟩, ⟨5, .phase⟩, ⟨6, .phase⟩, ⟨7, .phase⟩, ⟨8, .phase⟩, ⟨9, .phase⟩, ⟨10, .phase⟩, ⟨11, .phase⟩, ⟨12, .phase⟩, ⟨13, .phase⟩, ⟨14, .phase⟩], none⟩) (by kernel_rfl) rfl (fun K hK => ?_)
          go_simp
          refine hK.out _ _ (fun hD => HSD.out _ hS16) ?_
          clear hK K
          try simp only [Act.put, List.setIfInBounds_toArray, List.set_cons_zero, List.set_cons_succ]
          refine wpAnyD_done (by kernel_rfl) ?_ _
          go_wp2_with fail
          go_meet
          exact ⟨_, rfl, rfl, hS14.trans (((Gr.refl w14).alloc _).below.mono hS14.size), heap_new' _ _, hS14.size⟩
         case tB =>
          go_simp
          have hSa : Below wr.heap.size wr (wr.drew.alloc (.cells #[.int .u64 0, .int .u64 0, .int .u64 0] 39)) := hB0.trans (((Gr.refl wr.drew).alloc _).below.mono hB0.size)
          have hna := heap_new' wr.drew (.cells #[.int .u64 0, .int .u64 0, .int .u64 0] 39)
          refine hK.out _ _ (fun hD => HSD.out _ hSa) ?_
          clear hK K
          try simp only [Act.put, List.setIfInBounds_toArray, List.set_cons_zero, List.set_cons_succ]
          refine wpAnyD_one (i := 9) (o := ⟨some 104, .call ⟨.value (.func 14), #[.tmp 98, .tmp 103], #[39, 39]⟩, 45, "law.go:212", #[⟨3, .data⟩, ⟨8, .data⟩], none⟩) (by kernel_rfl) rfl (fun K hK => ?_)
          go_simp
          refine (hth _).mono ?_
          rintro r w14 ⟨rfl, g14⟩
          have hS14 : Below wr.heap.size wr w14 := hSa.trans (g14.below.mono hSa.size)
          have hbk : w14.heap[wr.heap.size]? = some (.cells #[.int .u64 0, .int .u64 0, .int .u64 0] 39 (0, 0)) := (g14.below.block _ (tk_lt hna)).trans hna
          clear g14 hna hSa
          go_wp2_with fail
          refine hK.out _ _ (fun hD => HSD.out _ hS14) ?_
          clear hK K
          try simp only [Act.put, List.setIfInBounds_toArray, List.set_cons_zero, List.set_cons_succ]
          refine' wpAnyD_take (i := 10) (oi := ⟨some 94, .move (.tmp 104), 45, "law.go:212", #[⟨9, .data⟩], none⟩) (v := _) rfl (by kernel_rfl) (by kernel_rfl) (by kernel_rfl) (fun _ _ _ h => h) (by kernel_rfl) (Or.inl ⟨by rfl, ?hy2013⟩) (HSD.out _ hS14) ?rest2013
          case hy2013 => (intro W hSw; go_simp; try (with_reducible rfl))
          try simp only [Act.put, List.setIfInBounds_toArray, List.set_cons_zero, List.set_cons_succ]
          refine' wpAnyD_take (i := 11) (oi := ⟨some 105, .extract (.tmp 94) 0, 39, "law.go:212", #[⟨10, .data⟩], none⟩) (v := _) rfl (by kernel_rfl) (by kernel_rfl) (by kernel_rfl) (fun _ _ _ h => h) (by kernel_rfl) (Or.inl ⟨by rfl, ?hy2014⟩) (HSD.out _ hS14) ?rest2014
          case hy2014 => (intro W hSw; go_simp; try (with_reducible rfl))
          try simp only [Act.put, List.setIfInBounds_toArray, List.set_cons_zero, List.set_cons_succ]
          refine' wpAnyD_take (i := 12) (oi := ⟨some 106, .extract (.tmp 94) 1, 4, "law.go:212", #[⟨10, .data⟩, ⟨14, .gcOnly .lateStores⟩], none⟩) (v := _) rfl (by kernel_rfl) (by kernel_rfl) (by kernel_rfl) (fun _ _ _ h => h) (by kernel_rfl) (Or.inl ⟨by rfl, ?hy2015⟩) (HSD.out _ hS14) ?rest2015
          case hy2015 => (intro W hSw; go_simp; try (with_reducible rfl))
          try simp only [Act.put, List.setIfInBounds_toArray, List.set_cons_zero, List.set_cons_succ]
          have cb := (tk_store hbk).1
          have fb := (tk_store hbk).2
          have lb := tk_lt hbk
          refine wpAnyD_one (i := 14) (o := ⟨none, .store 39 (.tmp 14) (.tmp 105), 0, "law.go:212", #[⟨13, .data⟩, ⟨11, .data⟩, ⟨9, .chain⟩, ⟨0, .phase⟩, ⟨1, .phase⟩, ⟨2, .phase⟩, ⟨3, .phase⟩, ⟨4, .phase⟩, ⟨5, .phase⟩, ⟨6, .phase⟩, ⟨7, .phase⟩, ⟨8, .phase⟩, ⟨9, .phase⟩, ⟨10, .phase⟩, ⟨11, .phase⟩, ⟨12, .textOnly .lateStores⟩, ⟨13, .phase⟩], none⟩) (by kernel_rfl) rfl (fun K hK => ?_)
          go_simp
          obtain ⟨b0, k0⟩ := Df.tk_set hbk 0 (.int .u64 cv.1.1)
          obtain ⟨b1, k1⟩ := Df.tk_set b0 1 (.int .u64 cv.1.2.1)
          obtain ⟨b2, k2⟩ := Df.tk_set b1 2 (.int .u64 cv.1.2.2)
          have kk : Below wr.heap.size wr (((w14.setCell ⟨wr.heap.size, 0, none⟩ (.int .u64 cv.1.1)).setCell ⟨wr.heap.size, 1, none⟩ (.int .u64 cv.1.2.1)).setCell ⟨wr.heap.size, 2, none⟩ (.int .u64 cv.1.2.2)) := hS14.trans (((k0.trans k1 (fun _ _ h => h)).trans k2 (fun _ _ h => h)).below hS14.size (fun k h => by rw [h]; exact Nat.le_refl _))
          clear k0 k1 k2 b0 b1 cb fb lb hbk
          generalize (((w14.setCell ⟨wr.heap.size, 0, none⟩ (.int .u64 cv.1.1)).setCell ⟨wr.heap.size, 1, none⟩ (.int .u64 cv.1.2.1)).setCell ⟨wr.heap.size, 2, none⟩ (.int .u64 cv.1.2.2)) = w16 at kk b2 ⊢
          refine hK.out _ _ (fun hD => HSD.out _ kk) ?_
          clear hK K
          try simp only [Act.put, List.setIfInBounds_toArray, List.set_cons_zero, List.set_cons_succ]
          refine wpAnyD_one (i := 15) (o := ⟨some 15, .assign (.tmp 106), 4, "law.go:212", #[⟨12, .data⟩, ⟨14, .chain⟩, ⟨0, .phase⟩, ⟨1, .phase⟩, ⟨2, .phase⟩, ⟨3, .phase⟩, ⟨4, .phase⟩, ⟨5, .phase⟩, ⟨6, .phase⟩, ⟨7, .phase⟩, ⟨8, .phase⟩, ⟨9, .phase⟩, ⟨10, .phase⟩, ⟨11, .phase⟩, ⟨12, .phase⟩, ⟨13, .phase⟩, ⟨14, .phase⟩], none⟩) (by kernel_rfl) rfl (fun K hK => ?_)
          go_simp
          refine hK.out _ _ (fun hD => HSD.out _ kk) ?_
          clear hK K
          try simp only [Act.put, List.setIfInBounds_toArray, List.set_cons_zero, List.set_cons_succ]
          refine wpAnyD_done (by kernel_rfl) ?_ _
          go_wp2_with fail
          go_meet
          exact ⟨_, rfl, rfl, kk, b2, Nat.le_refl _⟩
        case rest =>
         obtain ⟨pb, rfl, rfl, HC⟩ := hcut
         clear hS0 hB0 hth HSD
         have HLB : Hid (Below B w5 wc) := HJ.out.2.1.trans (HC.out.1.mono (HWN.out _ HJ.out.2.1).2.2)
         have hcin : (R p c.inn.toNat)[j]? = some b := by
          rw [HCC.out.2.1, Int.toNat_natCast, ← HBL.out.1]
          exact HBJ.out
         cases ok with
         | true =>
          obtain ⟨z, hz⟩ := Option.isSome_iff_exists.1 HCV.out.2.symm
          have hzv : z = cv := by rw [HCV.out.1, thv_some hz]
          subst hzv
          obtain ⟨vs, L, hf, hvn, hmd, hap⟩ := HJ.out.1
          obtain ⟨⟨xq, xm, xc⟩, hx, hxc, hgl, hxm, hxo⟩ := hf.cell hvn hq1
          have hmp := hmd.put HCC.out.1 hcin (by rw [← HBY.out]; exact hz) HCC.out.2.2.1 (res_step HRP.out (List.mem_of_getElem? (by rw [← HBL.out.1]; exact HBJ.out)) (by rw [HBY.out]; exact HCC.out.2.2.2.1) hz)
          have HLE2 : Hid ((L q1).length ≤ 28000) := by
           have h1 := hmd.len q1
           show _ ≤ _
           omega
          have HF : Hid (Fw Pc.ET 39 35 B wc (.slice (some ⟨gm, 0, none⟩) n n) vs L ∧ vs.length = n ∧ vs[q1]? = some ⟨xq, xm, xc⟩ ∧ Md (StG g) sr (R p) p i (j + 1) (fun r => if r = q1 then L q1 ++ [z] else L r) ∧ (∀ (k : Nat) (x : LV), vs[k]? = some x → ∀ b, x.v.ownBlock = some b → ¬ (Value.slice (some ⟨b2, o2, none⟩) bl.length cl).ownBlock = some b) ∧ (∀ b, (Value.slice xq xm xc).ownBlock = some b → b < wr.heap.size)) := ⟨hf.below HC.out.1, hvn, hx, hmp, hap, fun b e => (Df.owns_rd hxo b e).2⟩
          have HRW : Hid (wc.ownsRow B 39 3 (.slice xq xm xc) (L q1).length (fl Pc.ET (L q1))) := owns_below hxo HC.out.1
          have HLR : Hid (wc.ownsRow B2 39 3 (.slice (some ⟨b2, o2, none⟩) bl.length cl) bl.length (fl Pc.ET bl)) := owns_below HJ.out.2.2 HC.out.1
          have HSB : Hid (∀ W, Below wc.heap.size wc W → Below B w5 W ∧ W.cell? ⟨gm, q1, none⟩ = some (.slice xq xm xc) ∧ gm < W.heap.size ∧ W.heap[pb]? = some (.cells #[.int .u64 z.1.1, .int .u64 z.1.2.1, .int .u64 z.1.2.2] 39 (0, 0))) := fun W hb => by
           have h1 := HC.out.1.trans (hb.mono HC.out.1.size)
           exact ⟨HJ.out.2.1.trans (h1.mono (HWN.out _ HJ.out.2.1).2.2), (h1.cell (p := ⟨gm, q1, none⟩) hgl).trans hxc, Nat.lt_of_lt_of_le hgl h1.size, (hb.block _ (tk_lt HC.out.2.1)).trans HC.out.2.1⟩
          have HPB : Hid (wr.heap.size ≤ pb) := HC.out.2.2
          have HBW : Hid (B ≤ wc.heap.size) := (HWN.out _ HLB.out).2.2
          clear hf hvn hx hxc hgl hxm hxo hmp hmd hap hz HJ HC hcin HCV
          go_upto_region 22 with fail
          have hB0 : Below wc.heap.size wc wc.drew := (Gr.refl wc).drew.below
          have hS0 := HSB.out _ hB0
          refine wp_regionD (S := fun W => Below B w5 W ∧ W.cell? ⟨gm, q1, none⟩ = some (.slice xq xm xc) ∧ gm < W.heap.size ∧ W.heap[pb]? = some (.cells #[.int .u64 z.1.1, .int .u64 z.1.2.1, .int .u64 z.1.2.2] 39 (0, 0))) (D := [18]) hmx ?_
          refine' wpAnyD_take (i := 0) (oi := ⟨some 108, .move (.tmp 10), 42, "law.go:214", #[], none⟩) (v := _) rfl (by kernel_rfl) (by kernel_rfl) (by kernel_rfl) (fun _ _ _ h => h) (by kernel_rfl) (Or.inl ⟨by rfl, ?hy1⟩) hS0 ?rest1
          case hy1 => (intro W hSw; go_simp; try (with_reducible rfl))
          try simp only [Act.put, List.setIfInBounds_toArray, List.set_cons_zero, List.set_cons_succ]
          refine' wpAnyD_take (i := 1) (oi := ⟨some 109, .move (.tmp 9), 40, "law.go:214", #[], none⟩) (v := _) rfl (by kernel_rfl) (by kernel_rfl) (by kernel_rfl) (fun _ _ _ h => h) (by kernel_rfl) (Or.inl ⟨by rfl, ?hy2⟩) hS0 ?rest2
          case hy2 => (intro W hSw; go_simp; try (with_reducible rfl))
          try simp only [Act.put, List.setIfInBounds_toArray, List.set_cons_zero, List.set_cons_succ]
          refine' wpAnyD_take (i := 2) (oi := ⟨some 110, .move (.tmp 11), 3, "law.go:214", #[], none⟩) (v := _) rfl (by kernel_rfl) (by kernel_rfl) (by kernel_rfl) (fun _ _ _ h => h) (by kernel_rfl) (Or.inl ⟨by rfl, ?hy3⟩) hS0 ?rest3
          case hy3 => (intro W hSw; go_simp; try (with_reducible rfl))
          try simp only [Act.put, List.setIfInBounds_toArray, List.set_cons_zero, List.set_cons_succ]
          refine' wpAnyD_take (i := 3) (oi := ⟨some 111, .indexAddr 40 (.tmp 109) (.tmp 110), 0, "law.go:214", #[⟨1, .data⟩, ⟨2, .data⟩], none⟩) (v := _) rfl (by kernel_rfl) (by kernel_rfl) (by kernel_rfl) (fun _ _ _ h => h) (by kernel_rfl) (Or.inl ⟨by rfl, ?hy4⟩) hS0 ?rest4
          case hy4 => (intro W hSw; go_simp; try (with_reducible rfl))
          try simp only [Act.put, List.setIfInBounds_toArray, List.set_cons_zero, List.set_cons_succ]
          refine' wpAnyD_take (i := 4) (oi := ⟨some 112, .fieldAddr 44 (.tmp 111) 1, 0, "law.go:214", #[⟨3, .data⟩], none⟩) (v := _) rfl (by kernel_rfl) (by kernel_rfl) (by kernel_rfl) (fun _ _ _ h => h) (by kernel_rfl) (Or.inl ⟨by rfl, ?hy5⟩) hS0 ?rest5
          case hy5 => (intro W hSw; go_simp; try (with_reducible rfl))
          try simp only [Act.put, List.setIfInBounds_toArray, List.set_cons_zero, List.set_cons_succ]
          refine' wpAnyD_take (i := 5) (oi := ⟨some 113, .load 3 (.tmp 112), 3, "law.go:214", #[⟨4, .data⟩], none⟩) (v := _) rfl (by kernel_rfl) (by kernel_rfl) (by kernel_rfl) (fun _ _ _ h => h) (by kernel_rfl) (Or.inl ⟨by rfl, ?hy6⟩) hS0 ?rest6
          case hy6 => (intro W hSw; obtain ⟨y1, y2, y3, y4, y5⟩ := HSE.out _ hSw.1; go_simp; try (with_reducible rfl))
          try simp only [Act.put, List.setIfInBounds_toArray, List.set_cons_zero, List.set_cons_succ]
          refine' wpAnyD_take (i := 6) (oi := ⟨some 114, .move (.tmp 10), 42, "law.go:214", #[], none⟩) (v := _) rfl (by kernel_rfl) (by kernel_rfl) (by kernel_rfl) (fun _ _ _ h => h) (by kernel_rfl) (Or.inl ⟨by rfl, ?hy7⟩) hS0 ?rest7
          case hy7 => (intro W hSw; go_simp; try (with_reducible rfl))
          try simp only [Act.put, List.setIfInBounds_toArray, List.set_cons_zero, List.set_cons_succ]
          refine' wpAnyD_take (i := 7) (oi := ⟨some 115, .move (.tmp 9), 40, "law.go:214", #[], none⟩) (v := _) rfl (by kernel_rfl) (by kernel_rfl) (by kernel_rfl) (fun _ _ _ h => h) (by kernel_rfl) (Or.inl ⟨by rfl, ?hy8⟩) hS0 ?rest8
          case hy8 => (intro W hSw; go_simp; try (with_reducible rfl))
          try simp only [Act.put, List.setIfInBounds_toArray, List.set_cons_zero, List.set_cons_succ]
          refine' wpAnyD_take (i := 8) (oi := ⟨some 116, .move (.tmp 11), 3, "law.go:214", #[], none⟩) (v := _) rfl (by kernel_rfl) (by kernel_rfl) (by kernel_rfl) (fun _ _ _ h => h) (by kernel_rfl) (Or.inl ⟨by rfl, ?hy9⟩) hS0 ?rest9
          case hy9 => (intro W hSw; go_simp; try (with_reducible rfl))
          try simp only [Act.put, List.setIfInBounds_toArray, List.set_cons_zero, List.set_cons_succ]
          refine' wpAnyD_take (i := 9) (oi := ⟨some 117, .indexAddr 40 (.tmp 115) (.tmp 116), 0, "law.go:214", #[⟨7, .data⟩, ⟨8, .data⟩], none⟩) (v := _) rfl (by kernel_rfl) (by kernel_rfl) (by kernel_rfl) (fun _ _ _ h => h) (by kernel_rfl) (Or.inl ⟨by rfl, ?hy10⟩) hS0 ?rest10
          case hy10 => (intro W hSw; go_simp; try (with_reducible rfl))
          try simp only [Act.put, List.setIfInBounds_toArray, List.set_cons_zero, List.set_cons_succ]
          refine' wpAnyD_take (i := 10) (oi := ⟨some 118, .fieldAddr 44 (.tmp 117) 1, 0, "law.go:214", #[⟨9, .data⟩], none⟩) (v := _) rfl (by kernel_rfl) (by kernel_rfl) (by kernel_rfl) (fun _ _ _ h => h) (by kernel_rfl) (Or.inl ⟨by rfl, ?hy11⟩) hS0 ?rest11
          case hy11 => (intro W hSw; go_simp; try (with_reducible rfl))
          try simp only [Act.put, List.setIfInBounds_toArray, List.set_cons_zero, List.set_cons_succ]
          refine' wpAnyD_take (i := 11) (oi := ⟨some 119, .load 3 (.tmp 118), 3, "law.go:214", #[⟨10, .data⟩], none⟩) (v := _) rfl (by kernel_rfl) (by kernel_rfl) (by kernel_rfl) (fun _ _ _ h => h) (by kernel_rfl) (Or.inl ⟨by rfl, ?hy12⟩) hS0 ?rest12
          case hy12 => (intro W hSw; obtain ⟨y1, y2, y3, y4, y5⟩ := HSE.out _ hSw.1; go_simp; try (with_reducible rfl))
          try simp only [Act.put, List.setIfInBounds_toArray, List.set_cons_zero, List.set_cons_succ]
          refine' wpAnyD_take (i := 12) (oi := ⟨some 120, .indexAddr 42 (.tmp 114) (.tmp 119), 0, "law.go:214", #[⟨6, .data⟩, ⟨11, .data⟩], none⟩) (v := _) rfl (by kernel_rfl) (by kernel_rfl) (by kernel_rfl) (fun _ _ _ h => h) (by kernel_rfl) (Or.inl ⟨by rfl, ?hy13⟩) hS0 ?rest13
          case hy13 => (intro W hSw; go_simp; try (with_reducible rfl))
          try simp only [Act.put, List.setIfInBounds_toArray, List.set_cons_zero, List.set_cons_succ]
          refine' wpAnyD_take (i := 13) (oi := ⟨some 121, .load 35 (.tmp 120), 35, "law.go:214", #[⟨12, .data⟩], none⟩) (v := _) rfl (by kernel_rfl) (by kernel_rfl) (by kernel_rfl) (fun _ _ _ h => h) (by kernel_rfl) (Or.inl ⟨by rfl, ?hy14⟩) hS0 ?rest14
          case hy14 => (intro W hSw; have hc := hSw.2.1; have hl := hSw.2.2.1; go_simp; try (with_reducible rfl))
          try simp only [Act.put, List.setIfInBounds_toArray, List.set_cons_zero, List.set_cons_succ]
          refine' wpAnyD_take (i := 14) (oi := ⟨some 122, .load 39 (.tmp 14), 39, "law.go:214", #[], none⟩) (v := _) rfl (by kernel_rfl) (by kernel_rfl) (by kernel_rfl) (fun _ _ _ h => h) (by kernel_rfl) (Or.inl ⟨by rfl, ?hy15⟩) hS0 ?rest15
          case hy15 => (intro W hSw; have hc := (tk_store hSw.2.2.2).1; have hl := tk_lt hSw.2.2.2; go_simp; try (with_reducible rfl))
          try simp only [Act.put, List.setIfInBounds_toArray, List.set_cons_zero, List.set_cons_succ]
          refine wpAnyD_one (i := 15) (o := ⟨some 123, .buildSlice 35 1 #[(0, .tmp 122)], 35, "law.go:214", #[⟨14, .data⟩], none⟩) (by kernel_rfl) rfl (fun K hK => ?_)
          go_simp
          have hS8 : Below wc.heap.size wc (wc.drew.alloc (.cells #[.int .u64 z.1.1, .int .u64 z.1.2.1, .int .u64 z.1.2.2] 39)) := hB0.trans (((Gr.refl wc.drew).alloc _).below.mono hB0.size)
          refine hK.out _ _ (fun hD => (HSB.out _ hS8)) ?_
          clear hK K
          try simp only [Act.put, List.setIfInBounds_toArray, List.set_cons_zero, List.set_cons_succ]
          refine wpAnyD_one (i := 16) (o := ⟨some 124, .call ⟨.builtin .append, #[.tmp 121, .tmp 123], #[35, 35]⟩, 35, "law.go:214", #[⟨13, .data⟩, ⟨15, .data⟩], none⟩) (by kernel_rfl) rfl (fun K hK => ?_)
          refine step_app1 Pc.ET Tryz.underlying35 infoPa rfl (by decide) rfl _ _ rfl B (.slice xq xm xc) (L q1).length (fl Pc.ET (L q1)) rfl (owns_below HRW.out hB0) z (by first | rfl | simp) (by have := HLE2.out; omega) (by have := HLE2.out; unfold maxLen; omega) (Nat.le_trans HBW.out hB0.size) _ rfl _ ?_
          intro g8 cap8 w8 h8 k8 n8
          have hb8 := (Kp.grownBy (S := fun k => (Value.slice xq xm xc).ownBlock = some k) k8.out (fun _ h => h))
          have ST : Hid (Ms (StG g) sr (R p) p n B gm i (j + 1) (fun b => (Value.slice (some ⟨b2, o2, none⟩) bl.length cl).ownBlock = some b) (w8.setCell ⟨gm, q1, none⟩ (.slice (some ⟨g8, 0, none⟩) ((L q1).length + 1) cap8)) ∧ Below B w5 (w8.setCell ⟨gm, q1, none⟩ (.slice (some ⟨g8, 0, none⟩) ((L q1).length + 1) cap8)) ∧ (w8.setCell ⟨gm, q1, none⟩ (.slice (some ⟨g8, 0, none⟩) ((L q1).length + 1) cap8)).ownsRow B2 39 3 (.slice (some ⟨b2, o2, none⟩) bl.length cl) bl.length (fl Pc.ET bl)) := by
           have hf := HF.out.1.below hB0
           obtain ⟨m1, m2⟩ := Ms.put hf HF.out.2.1 HF.out.2.2.2.1 HF.out.2.2.2.2.1 HF.out.2.2.1 h8.out k8.out n8.out (fun b e => (Df.owns_rd (owns_below HLR.out hB0) b e).2)
           refine ⟨m1, (HSB.out _ hB0).1.trans (m2.below (Nat.le_trans HBW.out hB0.size) (hf.blocks HF.out.2.2.1)), owns_kp m2 (owns_below HLR.out hB0) (fun k e e2 => ?_)⟩
           rcases e2 with e2 | e2
           ·exact Df.owns_ne_own (owns_below HLR.out hB0) hf.row (by decide) k e e2
           ·exact HF.out.2.2.2.2.1 q1 _ HF.out.2.2.1 k e2 e
          have F8 : Hid (w8.frozen? ⟨gm, q1, none⟩ = false ∧ Below B w5 w8 ∧ w8.cell? ⟨gm, q1, none⟩ = some (.slice xq xm xc) ∧ gm < w8.heap.size ∧ w8.heap[pb]? = some (.cells #[.int .u64 z.1.1, .int .u64 z.1.2.1, .int .u64 z.1.2.2] 39 (0, 0))) := by
           have hf := HF.out.1.below hB0
           have hne := Df.owns_ne_own hf.row (hf.each q1 _ HF.out.2.2.1) (by decide)
           have hr8 := owns_kp hb8 hf.row (fun j e e2 => hne j e e2)
           rw [HF.out.2.1] at hr8
           obtain ⟨t1, t2, t3, t4⟩ := HSB.out _ hB0
           exact ⟨hr8.frozenAt _, t1.trans (hb8.below (Nat.le_trans HBW.out hB0.size) (fun k e => hf.blocks HF.out.2.2.1 k (Or.inr e))), (hb8.cell t3 (fun e => hne gm rfl e)).trans t2, Nat.lt_of_lt_of_le t3 hb8.size, (hb8.block _ (tk_lt t4) (fun e => by
            have h1 := HF.out.2.2.2.2.2 pb e
            have h2 := HPB.out
            omega)).trans t4⟩
          clear h8 k8 n8 hb8
          generalize (L q1).length + 1 = ll at ST ⊢
          refine hK.out _ _ (fun hD => F8.out.2) ?_
          clear hK K
          try simp only [Act.put, List.setIfInBounds_toArray, List.set_cons_zero, List.set_cons_succ]
          refine' wpAnyD_take (i := 17) (oi := ⟨some 125, .indexAddr 42 (.tmp 108) (.tmp 113), 0, "law.go:214", #[⟨0, .data⟩, ⟨5, .data⟩, ⟨0, .phase⟩, ⟨1, .phase⟩, ⟨2, .phase⟩, ⟨3, .phase⟩, ⟨4, .phase⟩, ⟨5, .phase⟩, ⟨6, .phase⟩, ⟨7, .phase⟩, ⟨8, .phase⟩, ⟨9, .phase⟩, ⟨10, .phase⟩, ⟨11, .phase⟩, ⟨12, .phase⟩, ⟨13, .phase⟩, ⟨14, .phase⟩, ⟨15, .phase⟩, ⟨16, .phase⟩], none⟩) (v := _) rfl (by kernel_rfl) (by kernel_rfl) (by kernel_rfl) (fun _ _ _ h => h) (by kernel_rfl) (Or.inl ⟨by rfl, ?hy18⟩) F8.out.2 ?rest18
          case hy18 => (intro W hSw; go_simp; try (with_reducible rfl))
          try simp only [Act.put, List.setIfInBounds_toArray, List.set_cons_zero, List.set_cons_succ]
          refine wpAnyD_one (i := 18) (o := ⟨none, .store 35 (.tmp 125) (.tmp 124), 0, "law.go:214", #[⟨17, .data⟩, ⟨16, .data⟩, ⟨16, .chain⟩, ⟨0, .phase⟩, ⟨1, .phase⟩, ⟨2, .phase⟩, ⟨3, .phase⟩, ⟨4, .phase⟩, ⟨5, .phase⟩, ⟨6, .phase⟩, ⟨7, .phase⟩, ⟨8, .phase⟩, ⟨9, .phase⟩, ⟨10, .phase⟩, ⟨11, .phase⟩, ⟨12, .phase⟩, ⟨13, .phase⟩, ⟨14, .phase⟩, ⟨15, .phase⟩, ⟨16, .phase⟩], none⟩) (by kernel_rfl) rfl (fun K hK => ?_)
          have c8 := F8.out.2.2.1
          have f8 := F8.out.1
          have l8 := F8.out.2.2.2.1
          go_simp
          generalize (w8.setCell ⟨gm, q1, none⟩ (.slice (some ⟨g8, 0, none⟩) ll cap8)) = w9 at ST ⊢
          clear c8 f8 l8
          refine hK.out _ _ (fun hD => absurd (by decide) hD) ?_
          clear hK K
          try simp only [Act.put, List.setIfInBounds_toArray, List.set_cons_zero, List.set_cons_succ]
          refine wpAnyD_done (by kernel_rfl) ?_ _
          clear HF HRW HLR HSB
          go_wp2
          go_roundw
          case rel => exact ⟨j + 1, by omega, by first | rfl | go_num, ST.out⟩
          case measure => simp [RowKit.intOf]; omega
         | false =>
          have hz : thn3 b by' = none := by
           have := HCV.out.2
           cases h : thn3 b by' with
           | none => rfl
           | some z => rw [h] at this; cases this
          have HN : Hid (Ms (StG g) sr (R p) p n B gm i (j + 1) (fun b => (Value.slice (some ⟨b2, o2, none⟩) bl.length cl).ownBlock = some b) wc ∧ Below B w5 wc ∧ wc.ownsRow B2 39 3 (.slice (some ⟨b2, o2, none⟩) bl.length cl) bl.length (fl Pc.ET bl)) := ⟨(HJ.out.1.below HC.out.1).skip HCC.out.1 hcin (by rw [← HBY.out]; exact hz), HLB.out, owns_below HJ.out.2.2 HC.out.1⟩
          clear HJ hz hcin
          go_wp2
          go_roundw
          case rel => exact ⟨j + 1, by omega, by first | rfl | go_num, HN.out⟩
          case measure => simp [RowKit.intOf]; omega
       ·have hjz : ¬ (j : Int) < (bl.length : Int) := by omega
        have hje : j = bl.length := by omega
        subst hje
        have HN : Hid (Ms (StG g) sr (R p) p n B gm (i + 1) 0 (fun _ => False) wr ∧ Below B w5 wr) := ⟨(HJ.out.1.next HCC.out.1 (by rw [HCC.out.2.1, Int.toNat_natCast, ← HBL.out.1]) hb64).sep (fun _ h => h.elim), HJ.out.2.1⟩
        clear HJ
        go_wp2
        go_roundw
        case rel => exact ⟨i + 1, by omega, by first | rfl | go_num, HN.out⟩
        case measure => simp [RowKit.intOf]; omega
     ·have hilz : ¬ (i : Int) < (sr.length : Int) := by omega
      have hie : i = sr.length := by omega
      subst hie
      obtain ⟨vs, L, hf, hvn, hmd, -⟩ := HI.out.1
      have HV : Hid (∀ q, q < n → ∃ xq xc, ∀ W, Below wr.heap.size wr W → W.cell? ⟨gm, q, none⟩ = some (.slice xq (L q).length xc) ∧ gm < W.heap.size ∧ Ls Pc.ET W (.slice xq (L q).length xc) (L q)) := fun q hq => by
       obtain ⟨⟨xq, xm, xc⟩, hx, hxc, hgl, hxm, hxo⟩ := hf.cell hvn hq
       have e : xm = (L q).length := hxm
       subst e
       exact ⟨xq, xc, fun W hb => ⟨(hb.cell (p := ⟨gm, q, none⟩) hgl).trans hxc, Nat.lt_of_lt_of_le hgl hb.size, owns_ls (E := Pc.ET) (owns_below hxo hb)⟩⟩
      have HCO : Hid (∀ (q : Nat) (y : Tri), y ∈ L q → (R p q).any (fun a => Pc.bel a y) = true) := fun q y hy => by
       obtain ⟨a, ha, hay⟩ := hmd.cov HRP.out hy
       exact List.any_eq_true.2 ⟨a, ha, (Pc.bel_px a y).2 hay⟩
      have HHS : Hid (∀ (q : Nat) (k : Tri), q ≠ p → k ∈ R p q → k ∈ L q) := fun q k h1 h2 => HHAS.out L hmd q k h1 h2
      have HLN : Hid (∀ q, (L q).length ≤ 28000) := fun q => by
       have h1 := hmd.len q
       omega
      have HWB : Hid (∀ W, Below wr.heap.size wr W → Below Wk.heap.size Wk W) := fun W hb => (HWN.out _ (HI.out.2.trans (hb.mono (HWN.out _ HI.out.2).2.2))).1
      clear hf hvn hmd HI HHAS HSR HSL HWN HB5
      obtain ⟨Wm, hWm⟩ : ∃ W, W = wr := ⟨_, rfl⟩
      subst hWm
      go_wp2_with fail
      go_loopw [16, 17, 18, 19, 20, 21, 22, 23, 24] (fun s16 _ _ _ _ _ _ _ _ wx => ∃ q : Nat, q ≤ n ∧ s16 = .int .i64 q ∧ Hid (Below Wm.heap.size Wm wx)) (fun s16 _ _ _ _ _ _ _ _ _ => n - (RowKit.intOf s16).toNat)
      case atStart => exact ⟨0, Nat.zero_le _, rfl, Below.refl _ _⟩
      case round =>
       obtain ⟨q, hq, rfl, HQ⟩ := hrel
       have cr := (tk_store (HSD.out _ (HWB.out _ HQ.out)).1).1
       have lr := tk_lt (HSD.out _ (HWB.out _ HQ.out)).1
       by_cases hqn : q < n
       ·have hqz : (q : Int) < (n : Int) := by omega
        have hq0 : (0 : Int) ≤ (q : Int) := by omega
        obtain ⟨xq, xc, hxw⟩ := HV.out q hqn
        have hl3 := HLE.out q wr hqn (HWB.out _ HQ.out)
        go_wp2_with fail
        refine hl3.mono ?_
        rintro r Wq ⟨v7, rfl, HS⟩
        clear hl3 cr lr
        obtain ⟨pl, cl, hpl⟩ := (owns_ls (E := Pc.ET) HS.out.1).form
        subst hpl
        have HQ2 : Hid (∀ W, Below Wq.heap.size Wq W → W.cell? ⟨gm, q, none⟩ = some (.slice xq (L q).length xc) ∧ gm < W.heap.size ∧ Ls Pc.ET W (.slice xq (L q).length xc) (L q) ∧ Ls Pc.ET W (.slice pl (R p q).length cl) (R p q) ∧ Below Wm.heap.size Wm W) := fun W hb => by
         have h1 := HQ.out.trans ((HS.out.2.trans (hb.mono HS.out.2.size)).mono HQ.out.size)
         obtain ⟨h2, h3, h4⟩ := hxw W h1
         exact ⟨h2, h3, h4, owns_ls (E := Pc.ET) (owns_below HS.out.1 hb), h1⟩
        have HCQ : Hid (∀ y ∈ L q, (R p q).any (fun a => Pc.bel a y) = true) := fun y hy => HCO.out q y hy
        have HHQ : Hid (∀ a ∈ R p q, q = p ∨ a ∈ L q) := fun a ha => by
         by_cases e : q = p
         ·exact Or.inl e
         ·exact Or.inr (HHS.out q a e ha)
        have HTQ : Hid (∀ (i j : Nat) (a b : Tri), (R p q)[i]? = some a → (R p q)[j]? = some b → (i < j → Pc.tol a b = true) ∧ (i ≠ j → Pc.bel a b = false)) := fun i j a b hi hj => by
         refine ⟨fun h => (Pc.tol_px a b).2 (res_told HRP.out hi hj h), fun h => ?_⟩
         have h2 := res_apart HRP.out hi hj h
         rw [← Pc.bel_px] at h2
         exact Bool.eq_false_iff.2 h2
        have HBD : Hid ((R p q).length ≤ 64 ∧ (L q).length ≤ 28000) := ⟨H64.out q, HLN.out q⟩
        clear HS HQ hxw
        generalize R p q = bl at *
        generalize L q = ll at *
        have hbd := HBD.out
        go_wp2_with fail
        go_loopw [18, 19, 20] (fun s18 _ _ wx => ∃ j : Nat, j ≤ ll.length ∧ s18 = .int .i64 j ∧ Hid (Below Wq.heap.size Wq wx)) (fun s18 _ _ _ => ll.length - (RowKit.intOf s18).toNat)
        case atStart => exact ⟨0, Nat.zero_le _, rfl, Below.refl _ _⟩
        case round =>
         obtain ⟨j, hj, rfl, HJ⟩ := hrel
         have cg := (HQ2.out _ HJ.out).1
         have lg := (HQ2.out _ HJ.out).2.1
         by_cases hjl : j < ll.length
         ·have hjz : (j : Int) < (ll.length : Int) := by omega
          have hj0 : (0 : Int) ≤ (j : Int) := by omega
          obtain ⟨y, hy⟩ : ∃ y, ll[j]? = some y := ⟨ll[j], by simp⟩
          have HY := hid hy
          clear hy
          go_wp2_with fail
          clear cg lg
          go_loopw [19, 20] (fun s19 s20 wx => ∃ k : Nat, k ≤ bl.length ∧ s20 = .int .i64 k ∧ s19 = .bool ((bl.take k).any (fun a => Pc.bel a y)) ∧ Hid (Below Wq.heap.size Wq wx)) (fun _ s20 _ => bl.length - (RowKit.intOf s20).toNat)
          case atStart => exact ⟨0, Nat.zero_le _, rfl, by simp, HJ.out⟩
          case round =>
           clear HJ
           obtain ⟨k, hk, rfl, rfl, HK⟩ := hrel
           by_cases hkl : k < bl.length
           ·have hkz : (k : Int) < (bl.length : Int) := by omega
            have hk0 : (0 : Int) ≤ (k : Int) := by omega
            obtain ⟨a, ha⟩ : ∃ a, bl[k]? = some a := ⟨bl[k], by simp⟩
            obtain ⟨b2, o2, c2, hv2, hb2, v0, v1, v2⟩ := (HQ2.out _ HK.out).2.2.2.1.atP ha
            simp only [Value.slice.injEq] at hv2
            obtain ⟨rfl, -, rfl⟩ := hv2
            obtain ⟨b3, o3, c3, hv3, hb3, y0, y1, y2⟩ := (HQ2.out _ HK.out).2.2.1.atP HY.out
            simp only [Value.slice.injEq] at hv3
            obtain ⟨rfl, -, rfl⟩ := hv3
            have HL1 : Hid (∀ W, Below wr.heap.size wr W → W.cell? ⟨b2, o2 + k * 3, none⟩ = some (.int .u64 a.1.1) ∧ W.cell? ⟨b2, o2 + k * 3 + 1, none⟩ = some (.int .u64 a.1.2.1) ∧ W.cell? ⟨b2, o2 + k * 3 + 2, none⟩ = some (.int .u64 a.1.2.2) ∧ b2 < W.heap.size ∧ W.cell? ⟨gm, q, none⟩ = some (.slice (some ⟨b3, o3, none⟩) ll.length xc) ∧ gm < W.heap.size ∧ W.cell? ⟨b3, o3 + j * 3, none⟩ = some (.int .u64 y.1.1) ∧ W.cell? ⟨b3, o3 + j * 3 + 1, none⟩ = some (.int .u64 y.1.2.1) ∧ W.cell? ⟨b3, o3 + j * 3 + 2, none⟩ = some (.int .u64 y.1.2.2) ∧ b3 < W.heap.size) := fun W hb => by
             have h1 := HQ2.out _ (HK.out.trans (hb.mono HK.out.size))
             exact ⟨(hb.cell (p := ⟨b2, o2 + k * 3, none⟩) hb2).trans v0, (hb.cell (p := ⟨b2, o2 + k * 3 + 1, none⟩) hb2).trans v1, (hb.cell (p := ⟨b2, o2 + k * 3 + 2, none⟩) hb2).trans v2, Nat.lt_of_lt_of_le hb2 hb.size, h1.1, h1.2.1, (hb.cell (p := ⟨b3, o3 + j * 3, none⟩) hb3).trans y0, (hb.cell (p := ⟨b3, o3 + j * 3 + 1, none⟩) hb3).trans y1, (hb.cell (p := ⟨b3, o3 + j * 3 + 2, none⟩) hb3).trans y2, Nat.lt_of_lt_of_le hb3 hb.size⟩
            have HTA := hid (any_take1 ha (fun a => Pc.bel a y))
            clear v0 v1 v2 y0 y1 y2 hb2 hb3 ha
            have hah := fun W => rahead_any a y W
            unfold Pc.tv at hah
            have hB0 : Below wr.heap.size wr wr.drew := (Gr.refl wr).drew.below
            generalize (bl.take k).any (fun a => Pc.bel a y) = cov at *
            cases cov with
            | true =>
             go_upto_region 34 with fail
             refine wp_regionD (S := fun W => Below wr.heap.size wr W) (D := []) hmx ?_
             refine' wpAnyD_take (i := 0) (oi := ⟨some 153, .move (.tmp 19), 4, "law.go:223", #[], none⟩) (v := _) rfl (by kernel_rfl) (by kernel_rfl) (by kernel_rfl) (fun _ _ _ h => h) (by kernel_rfl) (Or.inl ⟨by rfl, ?hy20⟩) hB0 ?rest20
             case hy20 => (intro W hSw; go_simp; try (with_reducible rfl))
             try simp only [Act.put, List.setIfInBounds_toArray, List.set_cons_zero, List.set_cons_succ]
             refine' wpAnyD_take (i := 1) (oi := ⟨some 154, .move (.tmp 153), 4, "law.go:223", #[⟨0, .data⟩], none⟩) (v := _) rfl (by kernel_rfl) (by kernel_rfl) (by kernel_rfl) (fun _ _ _ h => h) (by kernel_rfl) (Or.inl ⟨by rfl, ?hy21⟩) hB0 ?rest21
             case hy21 => (intro W hSw; go_simp; try (with_reducible rfl))
             try simp only [Act.put, List.setIfInBounds_toArray, List.set_cons_zero, List.set_cons_succ]
             refine' wpAnyD_take (i := 2) (oi := ⟨some 155, .move (.tmp 17), 35, "law.go:223", #[⟨1, .guard⟩], some (1, false)⟩) (v := undef) rfl (by kernel_rfl) (by kernel_rfl) (by kernel_rfl) (fun _ _ _ h => h) (by kernel_rfl) (Or.inr ⟨by rfl, rfl⟩) hB0 ?rest22
             try simp only [Act.put, List.setIfInBounds_toArray, List.set_cons_zero, List.set_cons_succ]
             refine' wpAnyD_take (i := 3) (oi := ⟨some 156, .move (.tmp 20), 3, "law.go:223", #[⟨1, .guard⟩], some (1, false)⟩) (v := undef) rfl (by kernel_rfl) (by kernel_rfl) (by kernel_rfl) (fun _ _ _ h => h) (by kernel_rfl) (Or.inr ⟨by rfl, rfl⟩) hB0 ?rest23
             try simp only [Act.put, List.setIfInBounds_toArray, List.set_cons_zero, List.set_cons_succ]
             refine' wpAnyD_take (i := 4) (oi := ⟨some 157, .indexAddr 35 (.tmp 155) (.tmp 156), 0, "law.go:223", #[⟨2, .data⟩, ⟨3, .data⟩, ⟨1, .guard⟩], some (1, false)⟩) (v := undef) rfl (by kernel_rfl) (by kernel_rfl) (by kernel_rfl) (fun _ _ _ h => h) (by kernel_rfl) (Or.inr ⟨by rfl, rfl⟩) hB0 ?rest24
             try simp only [Act.put, List.setIfInBounds_toArray, List.set_cons_zero, List.set_cons_succ]
             refine' wpAnyD_take (i := 5) (oi := ⟨some 158, .load 39 (.tmp 157), 39, "law.go:223", #[⟨4, .data⟩, ⟨1, .guard⟩], some (1, false)⟩) (v := undef) rfl (by kernel_rfl) (by kernel_rfl) (by kernel_rfl) (fun _ _ _ h => h) (by kernel_rfl) (Or.inr ⟨by rfl, rfl⟩) hB0 ?rest25
             try simp only [Act.put, List.setIfInBounds_toArray, List.set_cons_zero, List.set_cons_succ]
             refine' wpAnyD_take (i := 6) (oi := ⟨some 159, .move (.tmp 10), 42, "law.go:223", #[⟨1, .guard⟩], some (1, false)⟩) (v := undef) rfl (by kernel_rfl) (by kernel_rfl) (by kernel_rfl) (fun _ _ _ h => h) (by kernel_rfl) (Or.inr ⟨by rfl, rfl⟩) hB0 ?rest26
             try simp only [Act.put, List.setIfInBounds_toArray, List.set_cons_zero, List.set_cons_succ]
             refine' wpAnyD_take (i := 7) (oi := ⟨some 160, .move (.tmp 16), 3, "law.go:223", #[⟨1, .guard⟩], some (1, false)⟩) (v := undef) rfl (by kernel_rfl) (by kernel_rfl) (by kernel_rfl) (fun _ _ _ h => h) (by kernel_rfl) (Or.inr ⟨by rfl, rfl⟩) hB0 ?rest27
             try simp only [Act.put, List.setIfInBounds_toArray, List.set_cons_zero, List.set_cons_succ]
             refine' wpAnyD_take (i := 8) (oi := ⟨some 161, .indexAddr 42 (.tmp 159) (.tmp 160), 0, "law.go:223", #[⟨6, .data⟩, ⟨7, .data⟩, ⟨1, .guard⟩], some (1, false)⟩) (v := undef) rfl (by kernel_rfl) (by kernel_rfl) (by kernel_rfl) (fun _ _ _ h => h) (by kernel_rfl) (Or.inr ⟨by rfl, rfl⟩) hB0 ?rest28
             try simp only [Act.put, List.setIfInBounds_toArray, List.set_cons_zero, List.set_cons_succ]
             refine' wpAnyD_take (i := 9) (oi := ⟨some 162, .load 35 (.tmp 161), 35, "law.go:223", #[⟨8, .data⟩, ⟨1, .guard⟩], some (1, false)⟩) (v := undef) rfl (by kernel_rfl) (by kernel_rfl) (by kernel_rfl) (fun _ _ _ h => h) (by kernel_rfl) (Or.inr ⟨by rfl, rfl⟩) hB0 ?rest29
             try simp only [Act.put, List.setIfInBounds_toArray, List.set_cons_zero, List.set_cons_succ]
             refine' wpAnyD_take (i := 10) (oi := ⟨some 163, .move (.tmp 18), 3, "law.go:223", #[⟨1, .guard⟩], some (1, false)⟩) (v := undef) rfl (by kernel_rfl) (by kernel_rfl) (by kernel_rfl) (fun _ _ _ h => h) (by kernel_rfl) (Or.inr ⟨by rfl, rfl⟩) hB0 ?rest30
             try simp only [Act.put, List.setIfInBounds_toArray, List.set_cons_zero, List.set_cons_succ]
             refine' wpAnyD_take (i := 11) (oi := ⟨some 164, .indexAddr 35 (.tmp 162) (.tmp 163), 0, "law.go:223", #[⟨9, .data⟩, ⟨10, .data⟩, ⟨1, .guard⟩], some (1, false)⟩) (v := undef) rfl (by kernel_rfl) (by kernel_rfl) (by kernel_rfl) (fun _ _ _ h => h) (by kernel_rfl) (Or.inr ⟨by rfl, rfl⟩) hB0 ?rest31
             try simp only [Act.put, List.setIfInBounds_toArray, List.set_cons_zero, List.set_cons_succ]
             refine' wpAnyD_take (i := 12) (oi := ⟨some 165, .load 39 (.tmp 164), 39, "law.go:223", #[⟨11, .data⟩, ⟨1, .guard⟩], some (1, false)⟩) (v := undef) rfl (by kernel_rfl) (by kernel_rfl) (by kernel_rfl) (fun _ _ _ h => h) (by kernel_rfl) (Or.inr ⟨by rfl, rfl⟩) hB0 ?rest32
             try simp only [Act.put, List.setIfInBounds_toArray, List.set_cons_zero, List.set_cons_succ]
             refine wpAnyD_one (i := 13) (o := ⟨some 166, .call ⟨.value (.func 15), #[.tmp 158, .tmp 165], #[39, 39]⟩, 4, "law.go:223", #[⟨5, .data⟩, ⟨12, .data⟩, ⟨1, .chain⟩, ⟨1, .guard⟩], some (1, false)⟩) (by kernel_rfl) rfl (fun K hK => ?_)
             rw [if_neg (Bool.eq_false_iff.1 (by kernel_rfl))]
             refine hK.out _ _ (fun hD => hB0) ?_
             clear hK K
             try simp only [Act.put, List.setIfInBounds_toArray, List.set_cons_zero, List.set_cons_succ]
             refine' wpAnyD_take (i := 14) (oi := ⟨some 167, .pick (.tmp 154) (.const (.bool true)) (.tmp 166), 4, "law.go:223", #[⟨1, .data⟩, ⟨13, .data⟩], none⟩) (v := _) rfl (by kernel_rfl) (by kernel_rfl) (by kernel_rfl) (fun _ _ _ h => h) (by kernel_rfl) (Or.inl ⟨by rfl, ?hy34⟩) hB0 ?rest34
             case hy34 => (intro W hSw; go_simp; try (with_reducible rfl))
             try simp only [Act.put, List.setIfInBounds_toArray, List.set_cons_zero, List.set_cons_succ]
             refine' wpAnyD_take (i := 15) (oi := ⟨some 19, .assign (.tmp 167), 4, "law.go:223", #[⟨14, .data⟩, ⟨13, .chain⟩, ⟨0, .phase⟩, ⟨1, .phase⟩, ⟨2, .phase⟩, ⟨3, .phase⟩, ⟨4, .phase⟩, ⟨5, .phase⟩, ⟨6, .phase⟩, ⟨7, .phase⟩, ⟨8, .phase⟩, ⟨9, .phase⟩, ⟨10, .phase⟩, ⟨11, .phase⟩, ⟨12, .phase⟩, ⟨13, .phase⟩, ⟨14, .phase⟩], none⟩) (v := _) rfl (by kernel_rfl) (by kernel_rfl) (by kernel_rfl) (fun _ _ _ h => h) (by kernel_rfl) (Or.inl ⟨by rfl, ?hy35⟩) hB0 ?rest35
             case hy35 => (intro W hSw; go_simp; try (with_reducible rfl))
             try simp only [Act.put, List.setIfInBounds_toArray, List.set_cons_zero, List.set_cons_succ]
             refine wpAnyD_done (by kernel_rfl) ?_ _
             go_wp2
             go_roundw
             case rel => exact ⟨k + 1, by omega, by first | rfl | go_num, by rw [HTA.out]; rfl, HK.out.trans (hB0.mono HK.out.size)⟩
             case measure => simp [RowKit.intOf]; omega
            | false =>
             go_upto_region 34 with fail
             refine wp_regionD (S := fun W => Below wr.heap.size wr W) (D := []) hmx ?_
             refine' wpAnyD_take (i := 0) (oi := ⟨some 153, .move (.tmp 19), 4, "law.go:223", #[], none⟩) (v := _) rfl (by kernel_rfl) (by kernel_rfl) (by kernel_rfl) (fun _ _ _ h => h) (by kernel_rfl) (Or.inl ⟨by rfl, ?hy36⟩) hB0 ?rest36
             case hy36 => (intro W hSw; go_simp; try (with_reducible rfl))
             try simp only [Act.put, List.setIfInBounds_toArray, List.set_cons_zero, List.set_cons_succ]
             refine' wpAnyD_take (i := 1) (oi := ⟨some 154, .move (.tmp 153), 4, "law.go:223", #[⟨0, .data⟩], none⟩) (v := _) rfl (by kernel_rfl) (by kernel_rfl) (by kernel_rfl) (fun _ _ _ h => h) (by kernel_rfl) (Or.inl ⟨by rfl, ?hy37⟩) hB0 ?rest37
             case hy37 => (intro W hSw; go_simp; try (with_reducible rfl))
             try simp only [Act.put, List.setIfInBounds_toArray, List.set_cons_zero, List.set_cons_succ]
             refine' wpAnyD_take (i := 2) (oi := ⟨some 155, .move (.tmp 17), 35, "law.go:223", #[⟨1, .guard⟩], some (1, false)⟩) (v := _) rfl (by kernel_rfl) (by kernel_rfl) (by kernel_rfl) (fun _ _ _ h => h) (by kernel_rfl) (Or.inl ⟨by rfl, ?hy38⟩) hB0 ?rest38
             case hy38 => (intro W hSw; go_simp; try (with_reducible rfl))
             try simp only [Act.put, List.setIfInBounds_toArray, List.set_cons_zero, List.set_cons_succ]
             refine' wpAnyD_take (i := 3) (oi := ⟨some 156, .move (.tmp 20), 3, "law.go:223", #[⟨1, .guard⟩], some (1, false)⟩) (v := _) rfl (by kernel_rfl) (by kernel_rfl) (by kernel_rfl) (fun _ _ _ h => h) (by kernel_rfl) (Or.inl ⟨by rfl, ?hy39⟩) hB0 ?rest39
             case hy39 => (intro W hSw; go_simp; try (with_reducible rfl))
             try simp only [Act.put, List.setIfInBounds_toArray, List.set_cons_zero, List.set_cons_succ]
             refine' wpAnyD_take (i := 4) (oi := ⟨some 157, .indexAddr 35 (.tmp 155) (.tmp 156), 0, "law.go:223", #[⟨2, .data⟩, ⟨3, .data⟩, ⟨1, .guard⟩], some (1, false)⟩) (v := _) rfl (by kernel_rfl) (by kernel_rfl) (by kernel_rfl) (fun _ _ _ h => h) (by kernel_rfl) (Or.inl ⟨by rfl, ?hy40⟩) hB0 ?rest40
             case hy40 => (intro W hSw; go_simp; try (with_reducible rfl))
             try simp only [Act.put, List.setIfInBounds_toArray, List.set_cons_zero, List.set_cons_succ]
             refine' wpAnyD_take (i := 5) (oi := ⟨some 158, .load 39 (.tmp 157), 39, "law.go:223", #[⟨4, .data⟩, ⟨1, .guard⟩], some (1, false)⟩) (v := _) rfl (by kernel_rfl) (by kernel_rfl) (by kernel_rfl) (fun _ _ _ h => h) (by kernel_rfl) (Or.inl ⟨by rfl, ?hy41⟩) hB0 ?rest41
             case hy41 => (intro W hSw; obtain ⟨s0, s1, s2, s3, t0, t1, z0, z1, z2, z3⟩ := HL1.out _ hSw; go_simp; try (with_reducible rfl))
             try simp only [Act.put, List.setIfInBounds_toArray, List.set_cons_zero, List.set_cons_succ]
             refine' wpAnyD_take (i := 6) (oi := ⟨some 159, .move (.tmp 10), 42, "law.go:223", #[⟨1, .guard⟩], some (1, false)⟩) (v := _) rfl (by kernel_rfl) (by kernel_rfl) (by kernel_rfl) (fun _ _ _ h => h) (by kernel_rfl) (Or.inl ⟨by rfl, ?hy42⟩) hB0 ?rest42
             case hy42 => (intro W hSw; go_simp; try (with_reducible rfl))
             try simp only [Act.put, List.setIfInBounds_toArray, List.set_cons_zero, List.set_cons_succ]
             refine' wpAnyD_take (i := 7) (oi := ⟨some 160, .move (.tmp 16), 3, "law.go:223", #[⟨1, .guard⟩], some (1, false)⟩) (v := _) rfl (by kernel_rfl) (by kernel_rfl) (by kernel_rfl) (fun _ _ _ h => h) (by kernel_rfl) (Or.inl ⟨by rfl, ?hy43⟩) hB0 ?rest43
             case hy43 => (intro W hSw; go_simp; try (with_reducible rfl))
             try simp only [Act.put, List.setIfInBounds_toArray, List.set_cons_zero, List.set_cons_succ]
             refine' wpAnyD_take (i := 8) (oi := ⟨some 161, .indexAddr 42 (.tmp 159) (.tmp 160), 0, "law.go:223", #[⟨6, .data⟩, ⟨7, .data⟩, ⟨1, .guard⟩], some (1, false)⟩) (v := _) rfl (by kernel_rfl) (by kernel_rfl) (by kernel_rfl) (fun _ _ _ h => h) (by kernel_rfl) (Or.inl ⟨by rfl, ?hy44⟩) hB0 ?rest44
             case hy44 => (intro W hSw; go_simp; try (with_reducible rfl))
             try simp only [Act.put, List.setIfInBounds_toArray, List.set_cons_zero, List.set_cons_succ]
             refine' wpAnyD_take (i := 9) (oi := ⟨some 162, .load 35 (.tmp 161), 35, "law.go:223", #[⟨8, .data⟩, ⟨1, .guard⟩], some (1, false)⟩) (v := _) rfl (by kernel_rfl) (by kernel_rfl) (by kernel_rfl) (fun _ _ _ h => h) (by kernel_rfl) (Or.inl ⟨by rfl, ?hy45⟩) hB0 ?rest45
             case hy45 => (intro W hSw; obtain ⟨s0, s1, s2, s3, t0, t1, z0, z1, z2, z3⟩ := HL1.out _ hSw; go_simp; try (with_reducible rfl))
             try simp only [Act.put, List.setIfInBounds_toArray, List.set_cons_zero, List.set_cons_succ]
             refine' wpAnyD_take (i := 10) (oi := ⟨some 163, .move (.tmp 18), 3, "law.go:223", #[⟨1, .guard⟩], some (1, false)⟩) (v := _) rfl (by kernel_rfl) (by kernel_rfl) (by kernel_rfl) (fun _ _ _ h => h) (by kernel_rfl) (Or.inl ⟨by rfl, ?hy46⟩) hB0 ?rest46
             case hy46 => (intro W hSw; go_simp; try (with_reducible rfl))
             try simp only [Act.put, List.setIfInBounds_toArray, List.set_cons_zero, List.set_cons_succ]
             refine' wpAnyD_take (i := 11) (oi := ⟨some 164, .indexAddr 35 (.tmp 162) (.tmp 163), 0, "law.go:223", #[⟨9, .data⟩, ⟨10, .data⟩, ⟨1, .guard⟩], some (1, false)⟩) (v := _) rfl (by kernel_rfl) (by kernel_rfl) (by kernel_rfl) (fun _ _ _ h => h) (by kernel_rfl) (Or.inl ⟨by rfl, ?hy47⟩) hB0 ?rest47
             case hy47 => (intro W hSw; go_simp; try (with_reducible rfl))
             try simp only [Act.put, List.setIfInBounds_toArray, List.set_cons_zero, List.set_cons_succ]
             refine' wpAnyD_take (i := 12) (oi := ⟨some 165, .load 39 (.tmp 164), 39, "law.go:223", #[⟨11, .data⟩, ⟨1, .guard⟩], some (1, false)⟩) (v := _) rfl (by kernel_rfl) (by kernel_rfl) (by kernel_rfl) (fun _ _ _ h => h) (by kernel_rfl) (Or.inl ⟨by rfl, ?hy48⟩) hB0 ?rest48
             case hy48 => (intro W hSw; obtain ⟨s0, s1, s2, s3, t0, t1, z0, z1, z2, z3⟩ := HL1.out _ hSw; go_simp; try (with_reducible rfl))
             try simp only [Act.put, List.setIfInBounds_toArray, List.set_cons_zero, List.set_cons_succ]
             refine wpAnyD_one (i := 13) (o := ⟨some 166, .call ⟨.value (.func 15), #[.tmp 158, .tmp 165], #[39, 39]⟩, 4, "law.go:223", #[⟨5, .data⟩, ⟨12, .data⟩, ⟨1, .chain⟩, ⟨1, .guard⟩], some (1, false)⟩) (by kernel_rfl) rfl (fun K hK => ?_)
             rw [if_pos (by kernel_rfl)]
             go_simp
             refine (hah _).mono ?_
             rintro r w3 ⟨rfl, g3⟩
             have B3 : Below wr.heap.size wr w3 := hB0.trans (g3.below.mono hB0.size)
             clear g3
             go_wp2_with fail
             refine hK.out _ _ (fun hD => B3) ?_
             clear hK K
             try simp only [Act.put, List.setIfInBounds_toArray, List.set_cons_zero, List.set_cons_succ]
             refine' wpAnyD_take (i := 14) (oi := ⟨some 167, .pick (.tmp 154) (.const (.bool true)) (.tmp 166), 4, "law.go:223", #[⟨1, .data⟩, ⟨13, .data⟩], none⟩) (v := _) rfl (by kernel_rfl) (by kernel_rfl) (by kernel_rfl) (fun _ _ _ h => h) (by kernel_rfl) (Or.inl ⟨by rfl, ?hy50⟩) B3 ?rest50
             case hy50 => (intro W hSw; go_simp; try (with_reducible rfl))
             try simp only [Act.put, List.setIfInBounds_toArray, List.set_cons_zero, List.set_cons_succ]
             refine' wpAnyD_take (i := 15) (oi := ⟨some 19, .assign (.tmp 167), 4, "law.go:223", #[⟨14, .data⟩, ⟨13, .chain⟩, ⟨0, .phase⟩, ⟨1, .phase⟩, ⟨2, .phase⟩, ⟨3, .phase⟩, ⟨4, .phase⟩, ⟨5, .phase⟩, ⟨6, .phase⟩, ⟨7, .phase⟩, ⟨8, .phase⟩, ⟨9, .phase⟩, ⟨10, .phase⟩, ⟨11, .phase⟩, ⟨12, .phase⟩, ⟨13, .phase⟩, ⟨14, .phase⟩], none⟩) (v := _) rfl (by kernel_rfl) (by kernel_rfl) (by kernel_rfl) (fun _ _ _ h => h) (by kernel_rfl) (Or.inl ⟨by rfl, ?hy51⟩) B3 ?rest51
             case hy51 => (intro W hSw; go_simp; try (with_reducible rfl))
             try simp only [Act.put, List.setIfInBounds_toArray, List.set_cons_zero, List.set_cons_succ]
             refine wpAnyD_done (by kernel_rfl) ?_ _
             go_wp2
             go_roundw
             case rel => exact ⟨k + 1, by omega, by first | rfl | go_num, by rw [HTA.out]; rfl, HK.out.trans (B3.mono HK.out.size)⟩
             case measure => simp [RowKit.intOf]; omega
           ·have hkz : ¬ (k : Int) < (bl.length : Int) := by omega
            have hke : k = bl.length := by omega
            subst hke
            have hcv : (bl.take bl.length).any (fun a => Pc.bel a y) = true := by
             rw [List.take_length]
             exact HCQ.out y (List.mem_of_getElem? HY.out)
            rw [hcv]
            clear hcv
            go_wp2
            go_roundw
            case rel => exact ⟨j + 1, by omega, by first | rfl | go_num, HK.out⟩
            case measure => simp [RowKit.intOf]; omega
         ·have hjz : ¬ (j : Int) < (ll.length : Int) := by omega
          clear hj hjl
          go_wp2_with fail
          clear cg lg
          go_loopw [21, 22, 23, 24] (fun s21 _ _ _ wx => ∃ k : Nat, k ≤ bl.length ∧ s21 = .int .i64 k ∧ Hid (Below Wq.heap.size Wq wx)) (fun s21 _ _ _ _ => bl.length - (RowKit.intOf s21).toNat)
          case atStart => exact ⟨0, Nat.zero_le _, rfl, HJ.out⟩
          case round =>
           clear HJ hjz
           obtain ⟨k, hk, rfl, HK⟩ := hrel
           by_cases hkl : k < bl.length
           ·have hkz : (k : Int) < (bl.length : Int) := by omega
            have hk0 : (0 : Int) ≤ (k : Int) := by omega
            obtain ⟨a, ha⟩ : ∃ a, bl[k]? = some a := ⟨bl[k], by simp⟩
            have HA := hid ha
            clear ha
            have heq1 : ((q : Int) == (p : Int)) = decide (q = p) := by
             by_cases e : q = p
             ·simp [e]
             ·have e2 : ¬ (q : Int) = (p : Int) := by omega
              simp [e, e2]
            go_wp2_with fail
            go_loopw [22, 23] (fun s22 s23 wx => ∃ j : Nat, j ≤ ll.length ∧ s23 = .int .i64 j ∧ s22 = .bool (decide (q = p) || (ll.take j).any (fun y => decide (y = a))) ∧ Hid (Below Wq.heap.size Wq wx)) (fun _ s23 _ => ll.length - (RowKit.intOf s23).toNat)
            case atStart => exact ⟨0, Nat.zero_le _, rfl, by simp, HK.out⟩
            case round =>
             clear HK heq1
             obtain ⟨j2, hj, rfl, rfl, HJ⟩ := hrel
             have cg := (HQ2.out _ HJ.out).1
             have lg := (HQ2.out _ HJ.out).2.1
             have hB0 : Below wr.heap.size wr wr.drew := (Gr.refl wr).drew.below
             by_cases hjl : j2 < ll.length
             ·have hjz : (j2 : Int) < (ll.length : Int) := by omega
              have hj0 : (0 : Int) ≤ (j2 : Int) := by omega
              obtain ⟨y, hy⟩ : ∃ y, ll[j2]? = some y := ⟨ll[j2], by simp⟩
              obtain ⟨b2, o2, c2, hv2, hb2, v0, v1, v2⟩ := (HQ2.out _ HJ.out).2.2.2.1.atP HA.out
              simp only [Value.slice.injEq] at hv2
              obtain ⟨rfl, -, rfl⟩ := hv2
              obtain ⟨b3, o3, c3, hv3, hb3, y0, y1, y2⟩ := (HQ2.out _ HJ.out).2.2.1.atP hy
              simp only [Value.slice.injEq] at hv3
              obtain ⟨rfl, -, rfl⟩ := hv3
              have HL1 : Hid (∀ W, Below wr.heap.size wr W → W.cell? ⟨b2, o2 + k * 3, none⟩ = some (.int .u64 a.1.1) ∧ W.cell? ⟨b2, o2 + k * 3 + 1, none⟩ = some (.int .u64 a.1.2.1) ∧ W.cell? ⟨b2, o2 + k * 3 + 2, none⟩ = some (.int .u64 a.1.2.2) ∧ b2 < W.heap.size ∧ W.cell? ⟨gm, q, none⟩ = some (.slice (some ⟨b3, o3, none⟩) ll.length xc) ∧ gm < W.heap.size ∧ W.cell? ⟨b3, o3 + j2 * 3, none⟩ = some (.int .u64 y.1.1) ∧ W.cell? ⟨b3, o3 + j2 * 3 + 1, none⟩ = some (.int .u64 y.1.2.1) ∧ W.cell? ⟨b3, o3 + j2 * 3 + 2, none⟩ = some (.int .u64 y.1.2.2) ∧ b3 < W.heap.size) := fun W hb => by
               have h1 := HQ2.out _ (HJ.out.trans (hb.mono HJ.out.size))
               exact ⟨(hb.cell (p := ⟨b2, o2 + k * 3, none⟩) hb2).trans v0, (hb.cell (p := ⟨b2, o2 + k * 3 + 1, none⟩) hb2).trans v1, (hb.cell (p := ⟨b2, o2 + k * 3 + 2, none⟩) hb2).trans v2, Nat.lt_of_lt_of_le hb2 hb.size, h1.1, h1.2.1, (hb.cell (p := ⟨b3, o3 + j2 * 3, none⟩) hb3).trans y0, (hb.cell (p := ⟨b3, o3 + j2 * 3 + 1, none⟩) hb3).trans y1, (hb.cell (p := ⟨b3, o3 + j2 * 3 + 2, none⟩) hb3).trans y2, Nat.lt_of_lt_of_le hb3 hb.size⟩
              have HTA : Hid ((decide (q = p) || (ll.take (j2 + 1)).any (fun y => decide (y = a))) = (decide (q = p) || (ll.take j2).any (fun y => decide (y = a)) || decide (y = a))) := by
               show _ = _
               rw [any_take1 hy, Bool.or_assoc]
              have heq := fun W => run_eqP y.1.1 y.1.2.1 y.1.2.2 a.1.1 a.1.2.1 a.1.2.2 W
              simp only [Pc.teq_dec] at heq
              clear v0 v1 v2 y0 y1 y2 hb2 hb3 hy
              generalize (decide (q = p) || (ll.take j2).any (fun y => decide (y = a))) = is at *
              generalize decide (y = a) = isy at *
              cases is with
              | true =>
               go_upto_region 44 with fail
               clear cg lg
               refine wp_regionD (S := fun W => Below wr.heap.size wr W) (D := []) hmx ?_
               refine' wpAnyD_take (i := 0) (oi := ⟨some 188, .move (.tmp 22), 4, "law.go:232", #[], none⟩) (v := _) rfl (by kernel_rfl) (by kernel_rfl) (by kernel_rfl) (fun _ _ _ h => h) (by kernel_rfl) (Or.inl ⟨by rfl, ?hy52⟩) hB0 ?rest52
               case hy52 => (intro W hSw; go_simp; try (with_reducible rfl))
               try simp only [Act.put, List.setIfInBounds_toArray, List.set_cons_zero, List.set_cons_succ]
               refine' wpAnyD_take (i := 1) (oi := ⟨some 189, .move (.tmp 188), 4, "law.go:232", #[⟨0, .data⟩], none⟩) (v := _) rfl (by kernel_rfl) (by kernel_rfl) (by kernel_rfl) (fun _ _ _ h => h) (by kernel_rfl) (Or.inl ⟨by rfl, ?hy53⟩) hB0 ?rest53
               case hy53 => (intro W hSw; go_simp; try (with_reducible rfl))
               try simp only [Act.put, List.setIfInBounds_toArray, List.set_cons_zero, List.set_cons_succ]
               refine' wpAnyD_take (i := 2) (oi := ⟨some 190, .move (.tmp 10), 42, "law.go:232", #[⟨1, .guard⟩], some (1, false)⟩) (v := undef) rfl (by kernel_rfl) (by kernel_rfl) (by kernel_rfl) (fun _ _ _ h => h) (by kernel_rfl) (Or.inr ⟨by rfl, rfl⟩) hB0 ?rest54
               try simp only [Act.put, List.setIfInBounds_toArray, List.set_cons_zero, List.set_cons_succ]
               refine' wpAnyD_take (i := 3) (oi := ⟨some 191, .move (.tmp 16), 3, "law.go:232", #[⟨1, .guard⟩], some (1, false)⟩) (v := undef) rfl (by kernel_rfl) (by kernel_rfl) (by kernel_rfl) (fun _ _ _ h => h) (by kernel_rfl) (Or.inr ⟨by rfl, rfl⟩) hB0 ?rest55
               try simp only [Act.put, List.setIfInBounds_toArray, List.set_cons_zero, List.set_cons_succ]
               refine' wpAnyD_take (i := 4) (oi := ⟨some 192, .indexAddr 42 (.tmp 190) (.tmp 191), 0, "law.go:232", #[⟨2, .data⟩, ⟨3, .data⟩, ⟨1, .guard⟩], some (1, false)⟩) (v := undef) rfl (by kernel_rfl) (by kernel_rfl) (by kernel_rfl) (fun _ _ _ h => h) (by kernel_rfl) (Or.inr ⟨by rfl, rfl⟩) hB0 ?rest56
               try simp only [Act.put, List.setIfInBounds_toArray, List.set_cons_zero, List.set_cons_succ]
               refine' wpAnyD_take (i := 5) (oi := ⟨some 193, .load 35 (.tmp 192), 35, "law.go:232", #[⟨4, .data⟩, ⟨1, .guard⟩], some (1, false)⟩) (v := undef) rfl (by kernel_rfl) (by kernel_rfl) (by kernel_rfl) (fun _ _ _ h => h) (by kernel_rfl) (Or.inr ⟨by rfl, rfl⟩) hB0 ?rest57
               try simp only [Act.put, List.setIfInBounds_toArray, List.set_cons_zero, List.set_cons_succ]
               refine' wpAnyD_take (i := 6) (oi := ⟨some 194, .move (.tmp 23), 3, "law.go:232", #[⟨1, .guard⟩], some (1, false)⟩) (v := undef) rfl (by kernel_rfl) (by kernel_rfl) (by kernel_rfl) (fun _ _ _ h => h) (by kernel_rfl) (Or.inr ⟨by rfl, rfl⟩) hB0 ?rest58
               try simp only [Act.put, List.setIfInBounds_toArray, List.set_cons_zero, List.set_cons_succ]
               refine' wpAnyD_take (i := 7) (oi := ⟨some 195, .indexAddr 35 (.tmp 193) (.tmp 194), 0, "law.go:232", #[⟨5, .data⟩, ⟨6, .data⟩, ⟨1, .guard⟩], some (1, false)⟩) (v := undef) rfl (by kernel_rfl) (by kernel_rfl) (by kernel_rfl) (fun _ _ _ h => h) (by kernel_rfl) (Or.inr ⟨by rfl, rfl⟩) hB0 ?rest59
               try simp only [Act.put, List.setIfInBounds_toArray, List.set_cons_zero, List.set_cons_succ]
               refine' wpAnyD_take (i := 8) (oi := ⟨some 196, .load 39 (.tmp 195), 39, "law.go:232", #[⟨7, .data⟩, ⟨1, .guard⟩], some (1, false)⟩) (v := undef) rfl (by kernel_rfl) (by kernel_rfl) (by kernel_rfl) (fun _ _ _ h => h) (by kernel_rfl) (Or.inr ⟨by rfl, rfl⟩) hB0 ?rest60
               try simp only [Act.put, List.setIfInBounds_toArray, List.set_cons_zero, List.set_cons_succ]
               refine' wpAnyD_take (i := 9) (oi := ⟨some 197, .move (.tmp 17), 35, "law.go:232", #[⟨1, .guard⟩], some (1, false)⟩) (v := undef) rfl (by kernel_rfl) (by kernel_rfl) (by kernel_rfl) (fun _ _ _ h => h) (by kernel_rfl) (Or.inr ⟨by rfl, rfl⟩) hB0 ?rest61
               try simp only [Act.put, List.setIfInBounds_toArray, List.set_cons_zero, List.set_cons_succ]
               refine' wpAnyD_take (i := 10) (oi := ⟨some 198, .move (.tmp 21), 3, "law.go:232", #[⟨1, .guard⟩], some (1, false)⟩) (v := undef) rfl (by kernel_rfl) (by kernel_rfl) (by kernel_rfl) (fun _ _ _ h => h) (by kernel_rfl) (Or.inr ⟨by rfl, rfl⟩) hB0 ?rest62
               try simp only [Act.put, List.setIfInBounds_toArray, List.set_cons_zero, List.set_cons_succ]
               refine' wpAnyD_take (i := 11) (oi := ⟨some 199, .indexAddr 35 (.tmp 197) (.tmp 198), 0, "law.go:232", #[⟨9, .data⟩, ⟨10, .data⟩, ⟨1, .guard⟩], some (1, false)⟩) (v := undef) rfl (by kernel_rfl) (by kernel_rfl) (by kernel_rfl) (fun _ _ _ h => h) (by kernel_rfl) (Or.inr ⟨by rfl, rfl⟩) hB0 ?rest63
               try simp only [Act.put, List.setIfInBounds_toArray, List.set_cons_zero, List.set_cons_succ]
               refine' wpAnyD_take (i := 12) (oi := ⟨some 200, .load 39 (.tmp 199), 39, "law.go:232", #[⟨11, .data⟩, ⟨1, .guard⟩], some (1, false)⟩) (v := undef) rfl (by kernel_rfl) (by kernel_rfl) (by kernel_rfl) (fun _ _ _ h => h) (by kernel_rfl) (Or.inr ⟨by rfl, rfl⟩) hB0 ?rest64
               try simp only [Act.put, List.setIfInBounds_toArray, List.set_cons_zero, List.set_cons_succ]
               refine' wpAnyD_take (i := 13) (oi := ⟨some 201, .binOp .eql 39 (.tmp 196) (.tmp 200) 39, 4, "law.go:232", #[⟨8, .data⟩, ⟨12, .data⟩, ⟨1, .guard⟩], some (1, false)⟩) (v := undef) rfl (by kernel_rfl) (by kernel_rfl) (by kernel_rfl) (fun _ _ _ h => h) (by kernel_rfl) (Or.inr ⟨by rfl, rfl⟩) hB0 ?rest65
               try simp only [Act.put, List.setIfInBounds_toArray, List.set_cons_zero, List.set_cons_succ]
               refine' wpAnyD_take (i := 14) (oi := ⟨some 202, .pick (.tmp 189) (.const (.bool true)) (.tmp 201), 4, "law.go:232", #[⟨1, .data⟩, ⟨13, .data⟩], none⟩) (v := _) rfl (by kernel_rfl) (by kernel_rfl) (by kernel_rfl) (fun _ _ _ h => h) (by kernel_rfl) (Or.inl ⟨by rfl, ?hy66⟩) hB0 ?rest66
               case hy66 => (intro W hSw; go_simp; try (with_reducible rfl))
               try simp only [Act.put, List.setIfInBounds_toArray, List.set_cons_zero, List.set_cons_succ]
               refine' wpAnyD_take (i := 15) (oi := ⟨some 22, .assign (.tmp 202), 4, "law.go:232", #[⟨14, .data⟩, ⟨1, .chain⟩, ⟨0, .phase⟩, ⟨1, .phase⟩, ⟨2, .phase⟩, ⟨3, .phase⟩, ⟨4, .phase⟩, ⟨5, .phase⟩, ⟨6, .phase⟩, ⟨7, .phase⟩, ⟨8, .phase⟩, ⟨9, .phase⟩, ⟨10, .phase⟩, ⟨11, .phase⟩, ⟨12, .phase⟩, ⟨13, .phase⟩, ⟨14, .phase⟩], none⟩) (v := _) rfl (by kernel_rfl) (by kernel_rfl) (by kernel_rfl) (fun _ _ _ h => h) (by kernel_rfl) (Or.inl ⟨by rfl, ?hy67⟩) hB0 ?rest67
               case hy67 => (intro W hSw; go_simp; try (with_reducible rfl))
               try simp only [Act.put, List.setIfInBounds_toArray, List.set_cons_zero, List.set_cons_succ]
               refine wpAnyD_done (by kernel_rfl) ?_ _
               go_wp2
               go_roundw
               case rel => exact ⟨j2 + 1, by omega, by first | rfl | go_num, by rw [HTA.out]; rfl, HJ.out.trans (hB0.mono HJ.out.size)⟩
               case measure => simp [RowKit.intOf]; omega
              | false =>
               go_upto_region 44 with fail
               clear cg lg
               refine wp_regionD (S := fun W => Below wr.heap.size wr W) (D := []) hmx ?_
               refine' wpAnyD_take (i := 0) (oi := ⟨some 188, .move (.tmp 22), 4, "law.go:232", #[], none⟩) (v := _) rfl (by kernel_rfl) (by kernel_rfl) (by kernel_rfl) (fun _ _ _ h => h) (by kernel_rfl) (Or.inl ⟨by rfl, ?hy68⟩) hB0 ?rest68
               case hy68 => (intro W hSw; go_simp; try (with_reducible rfl))
               try simp only [Act.put, List.setIfInBounds_toArray, List.set_cons_zero, List.set_cons_succ]
               refine' wpAnyD_take (i := 1) (oi := ⟨some 189, .move (.tmp 188), 4, "law.go:232", #[⟨0, .data⟩], none⟩) (v := _) rfl (by kernel_rfl) (by kernel_rfl) (by kernel_rfl) (fun _ _ _ h => h) (by kernel_rfl) (Or.inl ⟨by rfl, ?hy69⟩) hB0 ?rest69
               case hy69 => (intro W hSw; go_simp; try (with_reducible rfl))
               try simp only [Act.put, List.setIfInBounds_toArray, List.set_cons_zero, List.set_cons_succ]
               refine' wpAnyD_take (i := 2) (oi := ⟨some 190, .move (.tmp 10), 42, "law.go:232", #[⟨1, .guard⟩], some (1, false)⟩) (v := _) rfl (by kernel_rfl) (by kernel_rfl) (by kernel_rfl) (fun _ _ _ h => h) (by kernel_rfl) (Or.inl ⟨by rfl, ?hy70⟩) hB0 ?rest70
               case hy70 => (intro W hSw; go_simp; try (with_reducible rfl))
               try simp only [Act.put, List.setIfInBounds_toArray, List.set_cons_zero, List.set_cons_succ]
               refine' wpAnyD_take (i := 3) (oi := ⟨some 191, .move (.tmp 16), 3, "law.go:232", #[⟨1, .guard⟩], some (1, false)⟩) (v := _) rfl (by kernel_rfl) (by kernel_rfl) (by kernel_rfl) (fun _ _ _ h => h) (by kernel_rfl) (Or.inl ⟨by rfl, ?hy71⟩) hB0 ?rest71
               case hy71 => (intro W hSw; go_simp; try (with_reducible rfl))
               try simp only [Act.put, List.setIfInBounds_toArray, List.set_cons_zero, List.set_cons_succ]
               refine' wpAnyD_take (i := 4) (oi := ⟨some 192, .indexAddr 42 (.tmp 190) (.tmp 191), 0, "law.go:232", #[⟨2, .data⟩, ⟨3, .data⟩, ⟨1, .guard⟩], some (1, false)⟩) (v := _) rfl (by kernel_rfl) (by kernel_rfl) (by kernel_rfl) (fun _ _ _ h => h) (by kernel_rfl) (Or.inl ⟨by rfl, ?hy72⟩) hB0 ?rest72
               case hy72 => (intro W hSw; go_simp; try (with_reducible rfl))
               try simp only [Act.put, List.setIfInBounds_toArray, List.set_cons_zero, List.set_cons_succ]
               refine' wpAnyD_take (i := 5) (oi := ⟨some 193, .load 35 (.tmp 192), 35, "law.go:232", #[⟨4, .data⟩, ⟨1, .guard⟩], some (1, false)⟩) (v := _) rfl (by kernel_rfl) (by kernel_rfl) (by kernel_rfl) (fun _ _ _ h => h) (by kernel_rfl) (Or.inl ⟨by rfl, ?hy73⟩) hB0 ?rest73
               case hy73 => (intro W hSw; obtain ⟨s0, s1, s2, s3, t0, t1, z0, z1, z2, z3⟩ := HL1.out _ hSw; go_simp; try (with_reducible rfl))
               try simp only [Act.put, List.setIfInBounds_toArray, List.set_cons_zero, List.set_cons_succ]
               refine' wpAnyD_take (i := 6) (oi := ⟨some 194, .move (.tmp 23), 3, "law.go:232", #[⟨1, .guard⟩], some (1, false)⟩) (v := _) rfl (by kernel_rfl) (by kernel_rfl) (by kernel_rfl) (fun _ _ _ h => h) (by kernel_rfl) (Or.inl ⟨by rfl, ?hy74⟩) hB0 ?rest74
               case hy74 => (intro W hSw; go_simp; try (with_reducible rfl))
               try simp only [Act.put, List.setIfInBounds_toArray, List.set_cons_zero, List.set_cons_succ]
               refine' wpAnyD_take (i := 7) (oi := ⟨some 195, .indexAddr 35 (.tmp 193) (.tmp 194), 0, "law.go:232", #[⟨5, .data⟩, ⟨6, .data⟩, ⟨1, .guard⟩], some (1, false)⟩) (v := _) rfl (by kernel_rfl) (by kernel_rfl) (by kernel_rfl) (fun _ _ _ h => h) (by kernel_rfl) (Or.inl ⟨by rfl, ?hy75⟩) hB0 ?rest75
               case hy75 => (intro W hSw; go_simp; try (with_reducible rfl))
               try simp only [Act.put, List.setIfInBounds_toArray, List.set_cons_zero, List.set_cons_succ]
               refine' wpAnyD_take (i := 8) (oi := ⟨some 196, .load 39 (.tmp 195), 39, "law.go:232", #[⟨7, .data⟩, ⟨1, .guard⟩], some (1, false)⟩) (v := _) rfl (by kernel_rfl) (by kernel_rfl) (by kernel_rfl) (fun _ _ _ h => h) (by kernel_rfl) (Or.inl ⟨by rfl, ?hy76⟩) hB0 ?rest76
               case hy76 => (intro W hSw; obtain ⟨s0, s1, s2, s3, t0, t1, z0, z1, z2, z3⟩ := HL1.out _ hSw; go_simp; try (with_reducible rfl))
               try simp only [Act.put, List.setIfInBounds_toArray, List.set_cons_zero, List.set_cons_succ]
               refine' wpAnyD_take (i := 9) (oi := ⟨some 197, .move (.tmp 17), 35, "law.go:232", #[⟨1, .guard⟩], some (1, false)⟩) (v := _) rfl (by kernel_rfl) (by kernel_rfl) (by kernel_rfl) (fun _ _ _ h => h) (by kernel_rfl) (Or.inl ⟨by rfl, ?hy77⟩) hB0 ?rest77
               case hy77 => (intro W hSw; go_simp; try (with_reducible rfl))
               try simp only [Act.put, List.setIfInBounds_toArray, List.set_cons_zero, List.set_cons_succ]
               refine' wpAnyD_take (i := 10) (oi := ⟨some 198, .move (.tmp 21), 3, "law.go:232", #[⟨1, .guard⟩], some (1, false)⟩) (v := _) rfl (by kernel_rfl) (by kernel_rfl) (by kernel_rfl) (fun _ _ _ h => h) (by kernel_rfl) (Or.inl ⟨by rfl, ?hy78⟩) hB0 ?rest78
               case hy78 => (intro W hSw; go_simp; try (with_reducible rfl))
               try simp only [Act.put, List.setIfInBounds_toArray, List.set_cons_zero, List.set_cons_succ]
               refine' wpAnyD_take (i := 11) (oi := ⟨some 199, .indexAddr 35 (.tmp 197) (.tmp 198), 0, "law.go:232", #[⟨9, .data⟩, ⟨10, .data⟩, ⟨1, .guard⟩], some (1, false)⟩) (v := _) rfl (by kernel_rfl) (by kernel_rfl) (by kernel_rfl) (fun _ _ _ h => h) (by kernel_rfl) (Or.inl ⟨by rfl, ?hy79⟩) hB0 ?rest79
               case hy79 => (intro W hSw; go_simp; try (with_reducible rfl))
               try simp only [Act.put, List.setIfInBounds_toArray, List.set_cons_zero, List.set_cons_succ]
               refine' wpAnyD_take (i := 12) (oi := ⟨some 200, .load 39 (.tmp 199), 39, "law.go:232", #[⟨11, .data⟩, ⟨1, .guard⟩], some (1, false)⟩) (v := _) rfl (by kernel_rfl) (by kernel_rfl) (by kernel_rfl) (fun _ _ _ h => h) (by kernel_rfl) (Or.inl ⟨by rfl, ?hy80⟩) hB0 ?rest80
               case hy80 => (intro W hSw; obtain ⟨s0, s1, s2, s3, t0, t1, z0, z1, z2, z3⟩ := HL1.out _ hSw; go_simp; try (with_reducible rfl))
               try simp only [Act.put, List.setIfInBounds_toArray, List.set_cons_zero, List.set_cons_succ]
               refine' wpAnyD_take (i := 13) (oi := ⟨some 201, .binOp .eql 39 (.tmp 196) (.tmp 200) 39, 4, "law.go:232", #[⟨8, .data⟩, ⟨12, .data⟩, ⟨1, .guard⟩], some (1, false)⟩) (v := _) rfl (by kernel_rfl) (by kernel_rfl) (by kernel_rfl) (fun _ _ _ h => h) (by kernel_rfl) (Or.inl ⟨by rfl, ?hy81⟩) hB0 ?rest81
               case hy81 => (intro W hSw; go_simp; try (with_reducible rfl))
               try simp only [Act.put, List.setIfInBounds_toArray, List.set_cons_zero, List.set_cons_succ]
               refine' wpAnyD_take (i := 14) (oi := ⟨some 202, .pick (.tmp 189) (.const (.bool true)) (.tmp 201), 4, "law.go:232", #[⟨1, .data⟩, ⟨13, .data⟩], none⟩) (v := _) rfl (by kernel_rfl) (by kernel_rfl) (by kernel_rfl) (fun _ _ _ h => h) (by kernel_rfl) (Or.inl ⟨by rfl, ?hy82⟩) hB0 ?rest82
               case hy82 => (intro W hSw; go_simp; try (with_reducible rfl))
               try simp only [Act.put, List.setIfInBounds_toArray, List.set_cons_zero, List.set_cons_succ]
               refine' wpAnyD_take (i := 15) (oi := ⟨some 22, .assign (.tmp 202), 4, "law.go:232", #[⟨14, .data⟩, ⟨1, .chain⟩, ⟨0, .phase⟩, ⟨1, .phase⟩, ⟨2, .phase⟩, ⟨3, .phase⟩, ⟨4, .phase⟩, ⟨5, .phase⟩, ⟨6, .phase⟩, ⟨7, .phase⟩, ⟨8, .phase⟩, ⟨9, .phase⟩, ⟨10, .phase⟩, ⟨11, .phase⟩, ⟨12, .phase⟩, ⟨13, .phase⟩, ⟨14, .phase⟩], none⟩) (v := _) rfl (by kernel_rfl) (by kernel_rfl) (by kernel_rfl) (fun _ _ _ h => h) (by kernel_rfl) (Or.inl ⟨by rfl, ?hy83⟩) hB0 ?rest83
               case hy83 => (intro W hSw; go_simp; try (with_reducible rfl))
               try simp only [Act.put, List.setIfInBounds_toArray, List.set_cons_zero, List.set_cons_succ]
               refine wpAnyD_done (by kernel_rfl) ?_ _
               go_wp2
               go_roundw
               case rel => exact ⟨j2 + 1, by omega, by first | rfl | go_num, by rw [HTA.out]; rfl, HJ.out.trans (hB0.mono HJ.out.size)⟩
               case measure => simp [RowKit.intOf]; omega
             ·have hjz : ¬ (j2 : Int) < (ll.length : Int) := by omega
              have hje : j2 = ll.length := by omega
              subst hje
              have hcv : (decide (q = p) || (ll.take ll.length).any (fun y => decide (y = a))) = true := by
               rw [List.take_length]
               rcases HHQ.out a (List.mem_of_getElem? HA.out) with h | h
               ·simp [h]
               ·rw [Bool.or_eq_true]
                exact Or.inr (List.any_eq_true.2 ⟨a, h, by simp⟩)
              rw [hcv]
              clear hcv hj hjl
              obtain ⟨b2, o2, c2, hv2, hb2, v0, v1, v2⟩ := (HQ2.out _ HJ.out).2.2.2.1.atP HA.out
              simp only [Value.slice.injEq] at hv2
              obtain ⟨rfl, -, rfl⟩ := hv2
              go_upto_region 45 with fail
              clear cg lg hjz
              go_cut [221] from 203 to 221 (fun s221 wx => s221 = .bool false ∧ Hid (Below Wq.heap.size Wq wx))
              case first =>
               by_cases hkz0 : k = 0
               ·subst hkz0
                refine wp_regionD (S := fun W => Below wr.heap.size wr W) (D := []) hmx ?_
                refine' wpAnyD_take (i := 0) (oi := ⟨some 203, .move (.tmp 22), 4, "law.go:234", #[], none⟩) (v := _) rfl (by kernel_rfl) (by kernel_rfl) (by kernel_rfl) (fun _ _ _ h => h) (by kernel_rfl) (Or.inl ⟨by rfl, ?hy84⟩) hB0 ?rest84
                case hy84 => (intro W hSw; go_simp; try (with_reducible rfl))
                try simp only [Act.put, List.setIfInBounds_toArray, List.set_cons_zero, List.set_cons_succ]
                refine' wpAnyD_take (i := 1) (oi := ⟨some 204, .unOp .not 4 (.tmp 203), 4, "law.go:234", #[⟨0, .data⟩], none⟩) (v := _) rfl (by kernel_rfl) (by kernel_rfl) (by kernel_rfl) (fun _ _ _ h => h) (by kernel_rfl) (Or.inl ⟨by rfl, ?hy85⟩) hB0 ?rest85
                case hy85 => (intro W hSw; go_simp; try (with_reducible rfl))
                try simp only [Act.put, List.setIfInBounds_toArray, List.set_cons_zero, List.set_cons_succ]
                refine' wpAnyD_take (i := 2) (oi := ⟨some 205, .move (.tmp 204), 4, "law.go:234", #[⟨1, .data⟩], none⟩) (v := _) rfl (by kernel_rfl) (by kernel_rfl) (by kernel_rfl) (fun _ _ _ h => h) (by kernel_rfl) (Or.inl ⟨by rfl, ?hy86⟩) hB0 ?rest86
                case hy86 => (intro W hSw; go_simp; try (with_reducible rfl))
                try simp only [Act.put, List.setIfInBounds_toArray, List.set_cons_zero, List.set_cons_succ]
                refine' wpAnyD_take (i := 3) (oi := ⟨some 206, .move (.tmp 21), 3, "law.go:234", #[⟨2, .guard⟩], some (2, false)⟩) (v := _) rfl (by kernel_rfl) (by kernel_rfl) (by kernel_rfl) (fun _ _ _ h => h) (by kernel_rfl) (Or.inl ⟨by rfl, ?hy87⟩) hB0 ?rest87
                case hy87 => (intro W hSw; go_simp; try (with_reducible rfl))
                try simp only [Act.put, List.setIfInBounds_toArray, List.set_cons_zero, List.set_cons_succ]
                refine' wpAnyD_take (i := 4) (oi := ⟨some 207, .binOp .gtr 3 (.tmp 206) (.const (.int .i64 0)) 3, 4, "law.go:234", #[⟨3, .data⟩, ⟨2, .guard⟩], some (2, false)⟩) (v := .bool false) rfl (by kernel_rfl) (by kernel_rfl) (by kernel_rfl) (fun _ _ _ h => h) (by kernel_rfl) (Or.inl ⟨by rfl, ?hy88⟩) hB0 ?rest88
                case hy88 => (intro W hSw; go_simp; try (with_reducible rfl))
                try simp only [Act.put, List.setIfInBounds_toArray, List.set_cons_zero, List.set_cons_succ]
                refine' wpAnyD_take (i := 5) (oi := ⟨some 208, .move (.tmp 207), 4, "law.go:234", #[⟨4, .data⟩, ⟨2, .chain⟩, ⟨2, .guard⟩], some (2, false)⟩) (v := _) rfl (by kernel_rfl) (by kernel_rfl) (by kernel_rfl) (fun _ _ _ h => h) (by kernel_rfl) (Or.inl ⟨by rfl, ?hy89⟩) hB0 ?rest89
                case hy89 => (intro W hSw; go_simp; try (with_reducible rfl))
                try simp only [Act.put, List.setIfInBounds_toArray, List.set_cons_zero, List.set_cons_succ]
                refine' wpAnyD_take (i := 6) (oi := ⟨some 209, .move (.tmp 17), 35, "law.go:234", #[⟨5, .guard⟩], some (5, true)⟩) (v := undef) rfl (by kernel_rfl) (by kernel_rfl) (by kernel_rfl) (fun _ _ _ h => h) (by kernel_rfl) (Or.inr ⟨by rfl, rfl⟩) hB0 ?rest90
                try simp only [Act.put, List.setIfInBounds_toArray, List.set_cons_zero, List.set_cons_succ]
                refine' wpAnyD_take (i := 7) (oi := ⟨some 210, .move (.tmp 21), 3, "law.go:234", #[⟨5, .guard⟩], some (5, true)⟩) (v := undef) rfl (by kernel_rfl) (by kernel_rfl) (by kernel_rfl) (fun _ _ _ h => h) (by kernel_rfl) (Or.inr ⟨by rfl, rfl⟩) hB0 ?rest91
                try simp only [Act.put, List.setIfInBounds_toArray, List.set_cons_zero, List.set_cons_succ]
                refine' wpAnyD_take (i := 8) (oi := ⟨some 211, .binOp .sub 3 (.tmp 210) (.const (.int .i64 1)) 3, 3, "law.go:234", #[⟨7, .data⟩, ⟨5, .guard⟩], some (5, true)⟩) (v := undef) rfl (by kernel_rfl) (by kernel_rfl) (by kernel_rfl) (fun _ _ _ h => h) (by kernel_rfl) (Or.inr ⟨by rfl, rfl⟩) hB0 ?rest92
                try simp only [Act.put, List.setIfInBounds_toArray, List.set_cons_zero, List.set_cons_succ]
                refine' wpAnyD_take (i := 9) (oi := ⟨some 212, .indexAddr 35 (.tmp 209) (.tmp 211), 0, "law.go:234", #[⟨6, .data⟩, ⟨8, .data⟩, ⟨5, .guard⟩], some (5, true)⟩) (v := undef) rfl (by kernel_rfl) (by kernel_rfl) (by kernel_rfl) (fun _ _ _ h => h) (by kernel_rfl) (Or.inr ⟨by rfl, rfl⟩) hB0 ?rest93
                try simp only [Act.put, List.setIfInBounds_toArray, List.set_cons_zero, List.set_cons_succ]
                refine' wpAnyD_take (i := 10) (oi := ⟨some 213, .load 39 (.tmp 212), 39, "law.go:234", #[⟨9, .data⟩, ⟨5, .guard⟩], some (5, true)⟩) (v := undef) rfl (by kernel_rfl) (by kernel_rfl) (by kernel_rfl) (fun _ _ _ h => h) (by kernel_rfl) (Or.inr ⟨by rfl, rfl⟩) hB0 ?rest94
                try simp only [Act.put, List.setIfInBounds_toArray, List.set_cons_zero, List.set_cons_succ]
                refine' wpAnyD_take (i := 11) (oi := ⟨some 214, .move (.tmp 17), 35, "law.go:234", #[⟨5, .guard⟩], some (5, true)⟩) (v := undef) rfl (by kernel_rfl) (by kernel_rfl) (by kernel_rfl) (fun _ _ _ h => h) (by kernel_rfl) (Or.inr ⟨by rfl, rfl⟩) hB0 ?rest95
                try simp only [Act.put, List.setIfInBounds_toArray, List.set_cons_zero, List.set_cons_succ]
                refine' wpAnyD_take (i := 12) (oi := ⟨some 215, .move (.tmp 21), 3, "law.go:234", #[⟨5, .guard⟩], some (5, true)⟩) (v := undef) rfl (by kernel_rfl) (by kernel_rfl) (by kernel_rfl) (fun _ _ _ h => h) (by kernel_rfl) (Or.inr ⟨by rfl, rfl⟩) hB0 ?rest96
                try simp only [Act.put, List.setIfInBounds_toArray, List.set_cons_zero, List.set_cons_succ]
                refine' wpAnyD_take (i := 13) (oi := ⟨some 216, .indexAddr 35 (.tmp 214) (.tmp 215), 0, "law.go:234", #[⟨11, .data⟩, ⟨12, .data⟩, ⟨5, .guard⟩], some (5, true)⟩) (v := undef) rfl (by kernel_rfl) (by kernel_rfl) (by kernel_rfl) (fun _ _ _ h => h) (by kernel_rfl) (Or.inr ⟨by rfl, rfl⟩) hB0 ?rest97
                try simp only [Act.put, List.setIfInBounds_toArray, List.set_cons_zero, List.set_cons_succ]
                refine' wpAnyD_take (i := 14) (oi := ⟨some 217, .load 39 (.tmp 216), 39, "law.go:234", #[⟨13, .data⟩, ⟨5, .guard⟩], some (5, true)⟩) (v := undef) rfl (by kernel_rfl) (by kernel_rfl) (by kernel_rfl) (fun _ _ _ h => h) (by kernel_rfl) (Or.inr ⟨by rfl, rfl⟩) hB0 ?rest98
                try simp only [Act.put, List.setIfInBounds_toArray, List.set_cons_zero, List.set_cons_succ]
                refine wpAnyD_one (i := 15) (o := ⟨some 218, .call ⟨.value (.func 16), #[.tmp 213, .tmp 217], #[39, 39]⟩, 4, "law.go:234", #[⟨10, .data⟩, ⟨14, .data⟩, ⟨5, .chain⟩, ⟨5, .guard⟩], some (5, true)⟩) (by kernel_rfl) rfl (fun K hK => ?_)
                rw [if_neg (Bool.eq_false_iff.1 (by kernel_rfl))]
                refine hK.out _ _ (fun hD => hB0) ?_
                clear hK K
                try simp only [Act.put, List.setIfInBounds_toArray, List.set_cons_zero, List.set_cons_succ]
                refine' wpAnyD_take (i := 16) (oi := ⟨some 219, .unOp .not 4 (.tmp 218), 4, "law.go:234", #[⟨15, .data⟩, ⟨5, .guard⟩], some (5, true)⟩) (v := undef) rfl (by kernel_rfl) (by kernel_rfl) (by kernel_rfl) (fun _ _ _ h => h) (by kernel_rfl) (Or.inr ⟨by rfl, rfl⟩) hB0 ?rest100
                try simp only [Act.put, List.setIfInBounds_toArray, List.set_cons_zero, List.set_cons_succ]
                refine' wpAnyD_take (i := 17) (oi := ⟨some 220, .pick (.tmp 208) (.tmp 219) (.const (.bool false)), 4, "law.go:234", #[⟨5, .data⟩, ⟨16, .data⟩, ⟨2, .guard⟩], some (2, false)⟩) (v := _) rfl (by kernel_rfl) (by kernel_rfl) (by kernel_rfl) (fun _ _ _ h => h) (by kernel_rfl) (Or.inl ⟨by rfl, ?hy101⟩) hB0 ?rest101
                case hy101 => (intro W hSw; go_simp; try (with_reducible rfl))
                try simp only [Act.put, List.setIfInBounds_toArray, List.set_cons_zero, List.set_cons_succ]
                refine' wpAnyD_take (i := 18) (oi := ⟨some 221, .pick (.tmp 205) (.const (.bool true)) (.tmp 220), 4, "law.go:234", #[⟨2, .data⟩, ⟨17, .data⟩], none⟩) (v := _) rfl (by kernel_rfl) (by kernel_rfl) (by kernel_rfl) (fun _ _ _ h => h) (by kernel_rfl) (Or.inl ⟨by rfl, ?hy102⟩) hB0 ?rest102
                case hy102 => (intro W hSw; go_simp; try (with_reducible rfl))
                try simp only [Act.put, List.setIfInBounds_toArray, List.set_cons_zero, List.set_cons_succ]
                refine wpAnyD_done (by kernel_rfl) ?_ _
                go_wp2_with fail
                go_meet
                exact ⟨rfl, HJ.out.trans (hB0.mono HJ.out.size)⟩
               ·obtain ⟨k', hk'⟩ : ∃ k', k = k' + 1 := ⟨k - 1, by omega⟩
                have hz1 : IntKind.i64.wrap ((k : Int) - 1) = (k' : Int) := by
                 rw [IntKind.wrap_i64]
                 omega
                have hk1 : (0 : Int) < (k : Int) := by omega
                have hk2 : (k' : Int) < (bl.length : Int) := by omega
                have hk3 : (0 : Int) ≤ (k' : Int) := by omega
                obtain ⟨e, he⟩ : ∃ e, bl[k']? = some e := ⟨bl[k'], by simp⟩
                obtain ⟨b4, o4, c4, hv4, hb4, y0, y1, y2⟩ := (HQ2.out _ HJ.out).2.2.2.1.atP he
                simp only [Value.slice.injEq, Option.some.injEq, Addr.mk.injEq, and_true] at hv4
                obtain ⟨⟨rfl, rfl⟩, -⟩ := hv4
                have HL1 : Hid (∀ W, Below wr.heap.size wr W → W.cell? ⟨b2, o2 + k * 3, none⟩ = some (.int .u64 a.1.1) ∧ W.cell? ⟨b2, o2 + k * 3 + 1, none⟩ = some (.int .u64 a.1.2.1) ∧ W.cell? ⟨b2, o2 + k * 3 + 2, none⟩ = some (.int .u64 a.1.2.2) ∧ b2 < W.heap.size ∧ W.cell? ⟨b2, o2 + k' * 3, none⟩ = some (.int .u64 e.1.1) ∧ W.cell? ⟨b2, o2 + k' * 3 + 1, none⟩ = some (.int .u64 e.1.2.1) ∧ W.cell? ⟨b2, o2 + k' * 3 + 2, none⟩ = some (.int .u64 e.1.2.2)) := fun W hb =>
                 ⟨(hb.cell (p := ⟨b2, o2 + k * 3, none⟩) hb2).trans v0, (hb.cell (p := ⟨b2, o2 + k * 3 + 1, none⟩) hb2).trans v1, (hb.cell (p := ⟨b2, o2 + k * 3 + 2, none⟩) hb2).trans v2, Nat.lt_of_lt_of_le hb2 hb.size, (hb.cell (p := ⟨b2, o2 + k' * 3, none⟩) hb2).trans y0, (hb.cell (p := ⟨b2, o2 + k' * 3 + 1, none⟩) hb2).trans y1, (hb.cell (p := ⟨b2, o2 + k' * 3 + 2, none⟩) hb2).trans y2⟩
                have hto := fun W => rtold_any e a W
                rw [(HTQ.out k' k e a he HA.out).1 (by omega)] at hto
                clear hk' hkz0
                unfold Pc.tv at hto
                clear v0 v1 v2 y0 y1 y2 hb2 he
                refine wp_regionD (S := fun W => Below wr.heap.size wr W) (D := []) hmx ?_
                refine' wpAnyD_take (i := 0) (oi := ⟨some 203, .move (.tmp 22), 4, "law.go:234", #[], none⟩) (v := _) rfl (by kernel_rfl) (by kernel_rfl) (by kernel_rfl) (fun _ _ _ h => h) (by kernel_rfl) (Or.inl ⟨by rfl, ?hy103⟩) hB0 ?rest103
                case hy103 => (intro W hSw; go_simp; try (with_reducible rfl))
                try simp only [Act.put, List.setIfInBounds_toArray, List.set_cons_zero, List.set_cons_succ]
                refine' wpAnyD_take (i := 1) (oi := ⟨some 204, .unOp .not 4 (.tmp 203), 4, "law.go:234", #[⟨0, .data⟩], none⟩) (v := _) rfl (by kernel_rfl) (by kernel_rfl) (by kernel_rfl) (fun _ _ _ h => h) (by kernel_rfl) (Or.inl ⟨by rfl, ?hy104⟩) hB0 ?rest104
                case hy104 => (intro W hSw; go_simp; try (with_reducible rfl))
                try simp only [Act.put, List.setIfInBounds_toArray, List.set_cons_zero, List.set_cons_succ]
                refine' wpAnyD_take (i := 2) (oi := ⟨some 205, .move (.tmp 204), 4, "law.go:234", #[⟨1, .data⟩], none⟩) (v := _) rfl (by kernel_rfl) (by kernel_rfl) (by kernel_rfl) (fun _ _ _ h => h) (by kernel_rfl) (Or.inl ⟨by rfl, ?hy105⟩) hB0 ?rest105
                case hy105 => (intro W hSw; go_simp; try (with_reducible rfl))
                try simp only [Act.put, List.setIfInBounds_toArray, List.set_cons_zero, List.set_cons_succ]
                refine' wpAnyD_take (i := 3) (oi := ⟨some 206, .move (.tmp 21), 3, "law.go:234", #[⟨2, .guard⟩], some (2, false)⟩) (v := _) rfl (by kernel_rfl) (by kernel_rfl) (by kernel_rfl) (fun _ _ _ h => h) (by kernel_rfl) (Or.inl ⟨by rfl, ?hy106⟩) hB0 ?rest106
                case hy106 => (intro W hSw; go_simp; try (with_reducible rfl))
                try simp only [Act.put, List.setIfInBounds_toArray, List.set_cons_zero, List.set_cons_succ]
                refine' wpAnyD_take (i := 4) (oi := ⟨some 207, .binOp .gtr 3 (.tmp 206) (.const (.int .i64 0)) 3, 4, "law.go:234", #[⟨3, .data⟩, ⟨2, .guard⟩], some (2, false)⟩) (v := .bool true) rfl (by kernel_rfl) (by kernel_rfl) (by kernel_rfl) (fun _ _ _ h => h) (by kernel_rfl) (Or.inl ⟨by rfl, ?hy107⟩) hB0 ?rest107
                case hy107 => (intro W hSw; go_simp; first | done | omega | (with_reducible rfl))
                try simp only [Act.put, List.setIfInBounds_toArray, List.set_cons_zero, List.set_cons_succ]
                refine' wpAnyD_take (i := 5) (oi := ⟨some 208, .move (.tmp 207), 4, "law.go:234", #[⟨4, .data⟩, ⟨2, .chain⟩, ⟨2, .guard⟩], some (2, false)⟩) (v := _) rfl (by kernel_rfl) (by kernel_rfl) (by kernel_rfl) (fun _ _ _ h => h) (by kernel_rfl) (Or.inl ⟨by rfl, ?hy108⟩) hB0 ?rest108
                case hy108 => (intro W hSw; go_simp; try (with_reducible rfl))
                try simp only [Act.put, List.setIfInBounds_toArray, List.set_cons_zero, List.set_cons_succ]
                refine' wpAnyD_take (i := 6) (oi := ⟨some 209, .move (.tmp 17), 35, "law.go:234", #[⟨5, .guard⟩], some (5, true)⟩) (v := _) rfl (by kernel_rfl) (by kernel_rfl) (by kernel_rfl) (fun _ _ _ h => h) (by kernel_rfl) (Or.inl ⟨by rfl, ?hy109⟩) hB0 ?rest109
                case hy109 => (intro W hSw; go_simp; try (with_reducible rfl))
                try simp only [Act.put, List.setIfInBounds_toArray, List.set_cons_zero, List.set_cons_succ]
                refine' wpAnyD_take (i := 7) (oi := ⟨some 210, .move (.tmp 21), 3, "law.go:234", #[⟨5, .guard⟩], some (5, true)⟩) (v := _) rfl (by kernel_rfl) (by kernel_rfl) (by kernel_rfl) (fun _ _ _ h => h) (by kernel_rfl) (Or.inl ⟨by rfl, ?hy110⟩) hB0 ?rest110
                case hy110 => (intro W hSw; go_simp; try (with_reducible rfl))
                try simp only [Act.put, List.setIfInBounds_toArray, List.set_cons_zero, List.set_cons_succ]
                refine' wpAnyD_take (i := 8) (oi := ⟨some 211, .binOp .sub 3 (.tmp 210) (.const (.int .i64 1)) 3, 3, "law.go:234", #[⟨7, .data⟩, ⟨5, .guard⟩], some (5, true)⟩) (v := .int .i64 (k' : Nat)) rfl (by kernel_rfl) (by kernel_rfl) (by kernel_rfl) (fun _ _ _ h => h) (by kernel_rfl) (Or.inl ⟨by rfl, ?hy111⟩) hB0 ?rest111
                case hy111 => (intro W hSw; go_simp; try (with_reducible rfl))
                try simp only [Act.put, List.setIfInBounds_toArray, List.set_cons_zero, List.set_cons_succ]
                refine' wpAnyD_take (i := 9) (oi := ⟨some 212, .indexAddr 35 (.tmp 209) (.tmp 211), 0, "law.go:234", #[⟨6, .data⟩, ⟨8, .data⟩, ⟨5, .guard⟩], some (5, true)⟩) (v := _) rfl (by kernel_rfl) (by kernel_rfl) (by kernel_rfl) (fun _ _ _ h => h) (by kernel_rfl) (Or.inl ⟨by rfl, ?hy112⟩) hB0 ?rest112
                case hy112 => (intro W hSw; go_simp; try (with_reducible rfl))
                try simp only [Act.put, List.setIfInBounds_toArray, List.set_cons_zero, List.set_cons_succ]
                refine' wpAnyD_take (i := 10) (oi := ⟨some 213, .load 39 (.tmp 212), 39, "law.go:234", #[⟨9, .data⟩, ⟨5, .guard⟩], some (5, true)⟩) (v := _) rfl (by kernel_rfl) (by kernel_rfl) (by kernel_rfl) (fun _ _ _ h => h) (by kernel_rfl) (Or.inl ⟨by rfl, ?hy113⟩) hB0 ?rest113
                case hy113 => (intro W hSw; obtain ⟨s0, s1, s2, s3, z0, z1, z2⟩ := HL1.out _ hSw; go_simp; try (with_reducible rfl))
                try simp only [Act.put, List.setIfInBounds_toArray, List.set_cons_zero, List.set_cons_succ]
                refine' wpAnyD_take (i := 11) (oi := ⟨some 214, .move (.tmp 17), 35, "law.go:234", #[⟨5, .guard⟩], some (5, true)⟩) (v := _) rfl (by kernel_rfl) (by kernel_rfl) (by kernel_rfl) (fun _ _ _ h => h) (by kernel_rfl) (Or.inl ⟨by rfl, ?hy114⟩) hB0 ?rest114
                case hy114 => (intro W hSw; go_simp; try (with_reducible rfl))
                try simp only [Act.put, List.setIfInBounds_toArray, List.set_cons_zero, List.set_cons_succ]
                refine' wpAnyD_take (i := 12) (oi := ⟨some 215, .move (.tmp 21), 3, "law.go:234", #[⟨5, .guard⟩], some (5, true)⟩) (v := _) rfl (by kernel_rfl) (by kernel_rfl) (by kernel_rfl) (fun _ _ _ h => h) (by kernel_rfl) (Or.inl ⟨by rfl, ?hy115⟩) hB0 ?rest115
                case hy115 => (intro W hSw; go_simp; try (with_reducible rfl))
                try simp only [Act.put, List.setIfInBounds_toArray, List.set_cons_zero, List.set_cons_succ]
                refine' wpAnyD_take (i := 13) (oi := ⟨some 216, .indexAddr 35 (.tmp 214) (.tmp 215), 0, "law.go:234", #[⟨11, .data⟩, ⟨12, .data⟩, ⟨5, .guard⟩], some (5, true)⟩) (v := _) rfl (by kernel_rfl) (by kernel_rfl) (by kernel_rfl) (fun _ _ _ h => h) (by kernel_rfl) (Or.inl ⟨by rfl, ?hy116⟩) hB0 ?rest116
                case hy116 => (intro W hSw; go_simp; try (with_reducible rfl))
                try simp only [Act.put, List.setIfInBounds_toArray, List.set_cons_zero, List.set_cons_succ]
                refine' wpAnyD_take (i := 14) (oi := ⟨some 217, .load 39 (.tmp 216), 39, "law.go:234", #[⟨13, .data⟩, ⟨5, .guard⟩], some (5, true)⟩) (v := _) rfl (by kernel_rfl) (by kernel_rfl) (by kernel_rfl) (fun _ _ _ h => h) (by kernel_rfl) (Or.inl ⟨by rfl, ?hy117⟩) hB0 ?rest117
                case hy117 => (intro W hSw; obtain ⟨s0, s1, s2, s3, z0, z1, z2⟩ := HL1.out _ hSw; go_simp; try (with_reducible rfl))
                try simp only [Act.put, List.setIfInBounds_toArray, List.set_cons_zero, List.set_cons_succ]
                refine wpAnyD_one (i := 15) (o := ⟨some 218, .call ⟨.value (.func 16), #[.tmp 213, .tmp 217], #[39, 39]⟩, 4, "law.go:234", #[⟨10, .data⟩, ⟨14, .data⟩, ⟨5, .chain⟩, ⟨5, .guard⟩], some (5, true)⟩) (by kernel_rfl) rfl (fun K hK => ?_)
                rw [if_pos (by kernel_rfl)]
                go_simp
                refine (hto _).mono ?_
                rintro r w3 ⟨rfl, g3⟩
                have B3 : Below wr.heap.size wr w3 := hB0.trans (g3.below.mono hB0.size)
                clear g3
                go_wp2_with fail
                refine hK.out _ _ (fun hD => B3) ?_
                clear hK K
                try simp only [Act.put, List.setIfInBounds_toArray, List.set_cons_zero, List.set_cons_succ]
                refine' wpAnyD_take (i := 16) (oi := ⟨some 219, .unOp .not 4 (.tmp 218), 4, "law.go:234", #[⟨15, .data⟩, ⟨5, .guard⟩], some (5, true)⟩) (v := _) rfl (by kernel_rfl) (by kernel_rfl) (by kernel_rfl) (fun _ _ _ h => h) (by kernel_rfl) (Or.inl ⟨by rfl, ?hy119⟩) B3 ?rest119
                case hy119 => (intro W hSw; go_simp; try (with_reducible rfl))
                try simp only [Act.put, List.setIfInBounds_toArray, List.set_cons_zero, List.set_cons_succ]
                refine' wpAnyD_take (i := 17) (oi := ⟨some 220, .pick (.tmp 208) (.tmp 219) (.const (.bool false)), 4, "law.go:234", #[⟨5, .data⟩, ⟨16, .data⟩, ⟨2, .guard⟩], some (2, false)⟩) (v := _) rfl (by kernel_rfl) (by kernel_rfl) (by kernel_rfl) (fun _ _ _ h => h) (by kernel_rfl) (Or.inl ⟨by rfl, ?hy120⟩) B3 ?rest120
                case hy120 => (intro W hSw; go_simp; try (with_reducible rfl))
                try simp only [Act.put, List.setIfInBounds_toArray, List.set_cons_zero, List.set_cons_succ]
                refine' wpAnyD_take (i := 18) (oi := ⟨some 221, .pick (.tmp 205) (.const (.bool true)) (.tmp 220), 4, "law.go:234", #[⟨2, .data⟩, ⟨17, .data⟩], none⟩) (v := _) rfl (by kernel_rfl) (by kernel_rfl) (by kernel_rfl) (fun _ _ _ h => h) (by kernel_rfl) (Or.inl ⟨by rfl, ?hy121⟩) B3 ?rest121
                case hy121 => (intro W hSw; go_simp; try (with_reducible rfl))
                try simp only [Act.put, List.setIfInBounds_toArray, List.set_cons_zero, List.set_cons_succ]
                refine wpAnyD_done (by kernel_rfl) ?_ _
                go_wp2_with fail
                go_meet
                exact ⟨rfl, HJ.out.trans (B3.mono HJ.out.size)⟩
              case rest =>
               obtain ⟨rfl, HZ⟩ := hcut
               clear HJ hB0 v0 v1 v2 hb2
               go_wp2_with fail
               go_loopw [24] (fun s24 wx => ∃ j : Nat, j ≤ bl.length ∧ s24 = .int .i64 j ∧ Hid (Below Wq.heap.size Wq wx)) (fun s24 _ => bl.length - (RowKit.intOf s24).toNat)
               case atStart => exact ⟨0, Nat.zero_le _, rfl, HZ.out⟩
               case round =>
                clear HZ
                obtain ⟨j3, hj, rfl, HJ⟩ := hrel
                have hB0 : Below wr.heap.size wr wr.drew := (Gr.refl wr).drew.below
                by_cases hjl : j3 < bl.length
                ·have hjz : (j3 : Int) < (bl.length : Int) := by omega
                 have hj0 : (0 : Int) ≤ (j3 : Int) := by omega
                 by_cases hjk : j3 = k
                 ·subst hjk
                  go_upto_region 50 with fail
                  refine wp_regionD (S := fun W => Below wr.heap.size wr W) (D := []) hmx ?_
                  refine' wpAnyD_take (i := 0) (oi := ⟨some 228, .move (.tmp 24), 3, "law.go:238", #[], none⟩) (v := _) rfl (by kernel_rfl) (by kernel_rfl) (by kernel_rfl) (fun _ _ _ h => h) (by kernel_rfl) (Or.inl ⟨by rfl, ?hy122⟩) hB0 ?rest122
                  case hy122 => (intro W hSw; go_simp; try (with_reducible rfl))
                  try simp only [Act.put, List.setIfInBounds_toArray, List.set_cons_zero, List.set_cons_succ]
                  refine' wpAnyD_take (i := 1) (oi := ⟨some 229, .move (.tmp 21), 3, "law.go:238", #[], none⟩) (v := _) rfl (by kernel_rfl) (by kernel_rfl) (by kernel_rfl) (fun _ _ _ h => h) (by kernel_rfl) (Or.inl ⟨by rfl, ?hy123⟩) hB0 ?rest123
                  case hy123 => (intro W hSw; go_simp; try (with_reducible rfl))
                  try simp only [Act.put, List.setIfInBounds_toArray, List.set_cons_zero, List.set_cons_succ]
                  refine' wpAnyD_take (i := 2) (oi := ⟨some 230, .binOp .neq 3 (.tmp 228) (.tmp 229) 3, 4, "law.go:238", #[⟨0, .data⟩, ⟨1, .data⟩], none⟩) (v := .bool false) rfl (by kernel_rfl) (by kernel_rfl) (by kernel_rfl) (fun _ _ _ h => h) (by kernel_rfl) (Or.inl ⟨by rfl, ?hy124⟩) hB0 ?rest124
                  case hy124 => (intro W hSw; go_simp; first | done | (with_reducible rfl) | simp | simp [hjkz])
                  try simp only [Act.put, List.setIfInBounds_toArray, List.set_cons_zero, List.set_cons_succ]
                  refine' wpAnyD_take (i := 3) (oi := ⟨some 231, .move (.tmp 230), 4, "law.go:238", #[⟨2, .data⟩], none⟩) (v := _) rfl (by kernel_rfl) (by kernel_rfl) (by kernel_rfl) (fun _ _ _ h => h) (by kernel_rfl) (Or.inl ⟨by rfl, ?hy125⟩) hB0 ?rest125
                  case hy125 => (intro W hSw; go_simp; try (with_reducible rfl))
                  try simp only [Act.put, List.setIfInBounds_toArray, List.set_cons_zero, List.set_cons_succ]
                  refine' wpAnyD_take (i := 4) (oi := ⟨some 232, .move (.tmp 17), 35, "law.go:238", #[⟨3, .guard⟩], some (3, true)⟩) (v := undef) rfl (by kernel_rfl) (by kernel_rfl) (by kernel_rfl) (fun _ _ _ h => h) (by kernel_rfl) (Or.inr ⟨by rfl, rfl⟩) hB0 ?rest126
                  try simp only [Act.put, List.setIfInBounds_toArray, List.set_cons_zero, List.set_cons_succ]
                  refine' wpAnyD_take (i := 5) (oi := ⟨some 233, .move (.tmp 24), 3, "law.go:238", #[⟨3, .guard⟩], some (3, true)⟩) (v := undef) rfl (by kernel_rfl) (by kernel_rfl) (by kernel_rfl) (fun _ _ _ h => h) (by kernel_rfl) (Or.inr ⟨by rfl, rfl⟩) hB0 ?rest127
                  try simp only [Act.put, List.setIfInBounds_toArray, List.set_cons_zero, List.set_cons_succ]
                  refine' wpAnyD_take (i := 6) (oi := ⟨some 234, .indexAddr 35 (.tmp 232) (.tmp 233), 0, "law.go:238", #[⟨4, .data⟩, ⟨5, .data⟩, ⟨3, .guard⟩], some (3, true)⟩) (v := undef) rfl (by kernel_rfl) (by kernel_rfl) (by kernel_rfl) (fun _ _ _ h => h) (by kernel_rfl) (Or.inr ⟨by rfl, rfl⟩) hB0 ?rest128
                  try simp only [Act.put, List.setIfInBounds_toArray, List.set_cons_zero, List.set_cons_succ]
                  refine' wpAnyD_take (i := 7) (oi := ⟨some 235, .load 39 (.tmp 234), 39, "law.go:238", #[⟨6, .data⟩, ⟨3, .guard⟩], some (3, true)⟩) (v := undef) rfl (by kernel_rfl) (by kernel_rfl) (by kernel_rfl) (fun _ _ _ h => h) (by kernel_rfl) (Or.inr ⟨by rfl, rfl⟩) hB0 ?rest129
                  try simp only [Act.put, List.setIfInBounds_toArray, List.set_cons_zero, List.set_cons_succ]
                  refine' wpAnyD_take (i := 8) (oi := ⟨some 236, .move (.tmp 17), 35, "law.go:238", #[⟨3, .guard⟩], some (3, true)⟩) (v := undef) rfl (by kernel_rfl) (by kernel_rfl) (by kernel_rfl) (fun _ _ _ h => h) (by kernel_rfl) (Or.inr ⟨by rfl, rfl⟩) hB0 ?rest130
                  try simp only [Act.put, List.setIfInBounds_toArray, List.set_cons_zero, List.set_cons_succ]
                  refine' wpAnyD_take (i := 9) (oi := ⟨some 237, .move (.tmp 21), 3, "law.go:238", #[⟨3, .guard⟩], some (3, true)⟩) (v := undef) rfl (by kernel_rfl) (by kernel_rfl) (by kernel_rfl) (fun _ _ _ h => h) (by kernel_rfl) (Or.inr ⟨by rfl, rfl⟩) hB0 ?rest131
                  try simp only [Act.put, List.setIfInBounds_toArray, List.set_cons_zero, List.set_cons_succ]
                  refine' wpAnyD_take (i := 10) (oi := ⟨some 238, .indexAddr 35 (.tmp 236) (.tmp 237), 0, "law.go:238", #[⟨8, .data⟩, ⟨9, .data⟩, ⟨3, .guard⟩], some (3, true)⟩) (v := undef) rfl (by kernel_rfl) (by kernel_rfl) (by kernel_rfl) (fun _ _ _ h => h) (by kernel_rfl) (Or.inr ⟨by rfl, rfl⟩) hB0 ?rest132
                  try simp only [Act.put, List.setIfInBounds_toArray, List.set_cons_zero, List.set_cons_succ]
                  refine' wpAnyD_take (i := 11) (oi := ⟨some 239, .load 39 (.tmp 238), 39, "law.go:238", #[⟨10, .data⟩, ⟨3, .guard⟩], some (3, true)⟩) (v := undef) rfl (by kernel_rfl) (by kernel_rfl) (by kernel_rfl) (fun _ _ _ h => h) (by kernel_rfl) (Or.inr ⟨by rfl, rfl⟩) hB0 ?rest133
                  try simp only [Act.put, List.setIfInBounds_toArray, List.set_cons_zero, List.set_cons_succ]
                  refine wpAnyD_one (i := 12) (o := ⟨some 240, .call ⟨.value (.func 15), #[.tmp 235, .tmp 239], #[39, 39]⟩, 4, "law.go:238", #[⟨7, .data⟩, ⟨11, .data⟩, ⟨3, .chain⟩, ⟨3, .guard⟩], some (3, true)⟩) (by kernel_rfl) rfl (fun K hK => ?_)
                  rw [if_neg (Bool.eq_false_iff.1 (by kernel_rfl))]
                  refine hK.out _ _ (fun hD => hB0) ?_
                  clear hK K
                  try simp only [Act.put, List.setIfInBounds_toArray, List.set_cons_zero, List.set_cons_succ]
                  refine' wpAnyD_take (i := 13) (oi := ⟨some 241, .pick (.tmp 231) (.tmp 240) (.const (.bool false)), 4, "law.go:238", #[⟨3, .data⟩, ⟨12, .data⟩], none⟩) (v := _) rfl (by kernel_rfl) (by kernel_rfl) (by kernel_rfl) (fun _ _ _ h => h) (by kernel_rfl) (Or.inl ⟨by rfl, ?hy135⟩) hB0 ?rest135
                  case hy135 => (intro W hSw; go_simp; try (with_reducible rfl))
                  try simp only [Act.put, List.setIfInBounds_toArray, List.set_cons_zero, List.set_cons_succ]
                  refine wpAnyD_done (by kernel_rfl) ?_ _
                  go_wp2
                  go_roundw
                  case rel => exact ⟨j3 + 1, by omega, by first | rfl | go_num, HJ.out.trans (hB0.mono HJ.out.size)⟩
                  case measure => simp [RowKit.intOf]; omega
                 ·have hjkz : ¬ (j3 : Int) = (k : Int) := by omega
                  obtain ⟨e, he⟩ : ∃ e, bl[j3]? = some e := ⟨bl[j3], by simp⟩
                  obtain ⟨b4, o4, c4, hv4, hb4, y0, y1, y2⟩ := (HQ2.out _ HJ.out).2.2.2.1.atP he
                  simp only [Value.slice.injEq, Option.some.injEq, Addr.mk.injEq, and_true] at hv4
                  obtain ⟨⟨rfl, rfl⟩, -⟩ := hv4
                  obtain ⟨b5, o5, c5, hv5, hb5, v0, v1, v2⟩ := (HQ2.out _ HJ.out).2.2.2.1.atP HA.out
                  simp only [Value.slice.injEq, Option.some.injEq, Addr.mk.injEq, and_true] at hv5
                  obtain ⟨⟨rfl, rfl⟩, -⟩ := hv5
                  have HL1 : Hid (∀ W, Below wr.heap.size wr W → W.cell? ⟨b2, o2 + k * 3, none⟩ = some (.int .u64 a.1.1) ∧ W.cell? ⟨b2, o2 + k * 3 + 1, none⟩ = some (.int .u64 a.1.2.1) ∧ W.cell? ⟨b2, o2 + k * 3 + 2, none⟩ = some (.int .u64 a.1.2.2) ∧ b2 < W.heap.size ∧ W.cell? ⟨b2, o2 + j3 * 3, none⟩ = some (.int .u64 e.1.1) ∧ W.cell? ⟨b2, o2 + j3 * 3 + 1, none⟩ = some (.int .u64 e.1.2.1) ∧ W.cell? ⟨b2, o2 + j3 * 3 + 2, none⟩ = some (.int .u64 e.1.2.2)) := fun W hb =>
                   ⟨(hb.cell (p := ⟨b2, o2 + k * 3, none⟩) hb5).trans v0, (hb.cell (p := ⟨b2, o2 + k * 3 + 1, none⟩) hb5).trans v1, (hb.cell (p := ⟨b2, o2 + k * 3 + 2, none⟩) hb5).trans v2, Nat.lt_of_lt_of_le hb5 hb.size, (hb.cell (p := ⟨b2, o2 + j3 * 3, none⟩) hb5).trans y0, (hb.cell (p := ⟨b2, o2 + j3 * 3 + 1, none⟩) hb5).trans y1, (hb.cell (p := ⟨b2, o2 + j3 * 3 + 2, none⟩) hb5).trans y2⟩
                  have hah := fun W => rahead_any e a W
                  rw [(HTQ.out j3 k e a he HA.out).2 hjk] at hah
                  unfold Pc.tv at hah
                  clear v0 v1 v2 y0 y1 y2 hb4 hb5 he
                  go_upto_region 50 with fail
                  refine wp_regionD (S := fun W => Below wr.heap.size wr W) (D := []) hmx ?_
                  refine' wpAnyD_take (i := 0) (oi := ⟨some 228, .move (.tmp 24), 3, "law.go:238", #[], none⟩) (v := _) rfl (by kernel_rfl) (by kernel_rfl) (by kernel_rfl) (fun _ _ _ h => h) (by kernel_rfl) (Or.inl ⟨by rfl, ?hy136⟩) hB0 ?rest136
                  case hy136 => (intro W hSw; go_simp; try (with_reducible rfl))
                  try simp only [Act.put, List.setIfInBounds_toArray, List.set_cons_zero, List.set_cons_succ]
                  refine' wpAnyD_take (i := 1) (oi := ⟨some 229, .move (.tmp 21), 3, "law.go:238", #[], none⟩) (v := _) rfl (by kernel_rfl) (by kernel_rfl) (by kernel_rfl) (fun _ _ _ h => h) (by kernel_rfl) (Or.inl ⟨by rfl, ?hy137⟩) hB0 ?rest137
                  case hy137 => (intro W hSw; go_simp; try (with_reducible rfl))
                  try simp only [Act.put, List.setIfInBounds_toArray, List.set_cons_zero, List.set_cons_succ]
                  refine' wpAnyD_take (i := 2) (oi := ⟨some 230, .binOp .neq 3 (.tmp 228) (.tmp 229) 3, 4, "law.go:238", #[⟨0, .data⟩, ⟨1, .data⟩], none⟩) (v := .bool true) rfl (by kernel_rfl) (by kernel_rfl) (by kernel_rfl) (fun _ _ _ h => h) (by kernel_rfl) (Or.inl ⟨by rfl, ?hy138⟩) hB0 ?rest138
                  case hy138 => (intro W hSw; go_simp; first | done | (with_reducible rfl) | simp | simp [hjkz])
                  try simp only [Act.put, List.setIfInBounds_toArray, List.set_cons_zero, List.set_cons_succ]
                  refine' wpAnyD_take (i := 3) (oi := ⟨some 231, .move (.tmp 230), 4, "law.go:238", #[⟨2, .data⟩], none⟩) (v := _) rfl (by kernel_rfl) (by kernel_rfl) (by kernel_rfl) (fun _ _ _ h => h) (by kernel_rfl) (Or.inl ⟨by rfl, ?hy139⟩) hB0 ?rest139
                  case hy139 => (intro W hSw; go_simp; try (with_reducible rfl))
                  try simp only [Act.put, List.setIfInBounds_toArray, List.set_cons_zero, List.set_cons_succ]
                  refine' wpAnyD_take (i := 4) (oi := ⟨some 232, .move (.tmp 17), 35, "law.go:238", #[⟨3, .guard⟩], some (3, true)⟩) (v := _) rfl (by kernel_rfl) (by kernel_rfl) (by kernel_rfl) (fun _ _ _ h => h) (by kernel_rfl) (Or.inl ⟨by rfl, ?hy140⟩) hB0 ?rest140
                  case hy140 => (intro W hSw; go_simp; try (with_reducible rfl))
                  try simp only [Act.put, List.setIfInBounds_toArray, List.set_cons_zero, List.set_cons_succ]
                  refine' wpAnyD_take (i := 5) (oi := ⟨some 233, .move (.tmp 24), 3, "law.go:238", #[⟨3, .guard⟩], some (3, true)⟩) (v := _) rfl (by kernel_rfl) (by kernel_rfl) (by kernel_rfl) (fun _ _ _ h => h) (by kernel_rfl) (Or.inl ⟨by rfl, ?hy141⟩) hB0 ?rest141
                  case hy141 => (intro W hSw; go_simp; try (with_reducible rfl))
                  try simp only [Act.put, List.setIfInBounds_toArray, List.set_cons_zero, List.set_cons_succ]
                  refine' wpAnyD_take (i := 6) (oi := ⟨some 234, .indexAddr 35 (.tmp 232) (.tmp 233), 0, "law.go:238", #[⟨4, .data⟩, ⟨5, .data⟩, ⟨3, .guard⟩], some (3, true)⟩) (v := _) rfl (by kernel_rfl) (by kernel_rfl) (by kernel_rfl) (fun _ _ _ h => h) (by kernel_rfl) (Or.inl ⟨by rfl, ?hy142⟩) hB0 ?rest142
                  case hy142 => (intro W hSw; go_simp; try (with_reducible rfl))
                  try simp only [Act.put, List.setIfInBounds_toArray, List.set_cons_zero, List.set_cons_succ]
                  refine' wpAnyD_take (i := 7) (oi := ⟨some 235, .load 39 (.tmp 234), 39, "law.go:238", #[⟨6, .data⟩, ⟨3, .guard⟩], some (3, true)⟩) (v := _) rfl (by kernel_rfl) (by kernel_rfl) (by kernel_rfl) (fun _ _ _ h => h) (by kernel_rfl) (Or.inl ⟨by rfl, ?hy143⟩) hB0 ?rest143
                  case hy143 => (intro W hSw; obtain ⟨s0, s1, s2, s3, z0, z1, z2⟩ := HL1.out _ hSw; go_simp; try (with_reducible rfl))
                  try simp only [Act.put, List.setIfInBounds_toArray, List.set_cons_zero, List.set_cons_succ]
                  refine' wpAnyD_take (i := 8) (oi := ⟨some 236, .move (.tmp 17), 35, "law.go:238", #[⟨3, .guard⟩], some (3, true)⟩) (v := _) rfl (by kernel_rfl) (by kernel_rfl) (by kernel_rfl) (fun _ _ _ h => h) (by kernel_rfl) (Or.inl ⟨by rfl, ?hy144⟩) hB0 ?rest144
                  case hy144 => (intro W hSw; go_simp; try (with_reducible rfl))
                  try simp only [Act.put, List.setIfInBounds_toArray, List.set_cons_zero, List.set_cons_succ]
                  refine' wpAnyD_take (i := 9) (oi := ⟨some 237, .move (.tmp 21), 3, "law.go:238", #[⟨3, .guard⟩], some (3, true)⟩) (v := _) rfl (by kernel_rfl) (by kernel_rfl) (by kernel_rfl) (fun _ _ _ h => h) (by kernel_rfl) (Or.inl ⟨by rfl, ?hy145⟩) hB0 ?rest145
                  case hy145 => (intro W hSw; go_simp; try (with_reducible rfl))
                  try simp only [Act.put, List.setIfInBounds_toArray, List.set_cons_zero, List.set_cons_succ]
                  refine' wpAnyD_take (i := 10) (oi := ⟨some 238, .indexAddr 35 (.tmp 236) (.tmp 237), 0, "law.go:238", #[⟨8, .data⟩, ⟨9, .data⟩, ⟨3, .guard⟩], some (3, true)⟩) (v := _) rfl (by kernel_rfl) (by kernel_rfl) (by kernel_rfl) (fun _ _ _ h => h) (by kernel_rfl) (Or.inl ⟨by rfl, ?hy146⟩) hB0 ?rest146
                  case hy146 => (intro W hSw; go_simp; try (with_reducible rfl))
                  try simp only [Act.put, List.setIfInBounds_toArray, List.set_cons_zero, List.set_cons_succ]
                  refine' wpAnyD_take (i := 11) (oi := ⟨some 239, .load 39 (.tmp 238), 39, "law.go:238", #[⟨10, .data⟩, ⟨3, .guard⟩], some (3, true)⟩) (v := _) rfl (by kernel_rfl) (by kernel_rfl) (by kernel_rfl) (fun _ _ _ h => h) (by kernel_rfl) (Or.inl ⟨by rfl, ?hy147⟩) hB0 ?rest147
                  case hy147 => (intro W hSw; obtain ⟨s0, s1, s2, s3, z0, z1, z2⟩ := HL1.out _ hSw; go_simp; try (with_reducible rfl))
                  try simp only [Act.put, List.setIfInBounds_toArray, List.set_cons_zero, List.set_cons_succ]
                  refine wpAnyD_one (i := 12) (o := ⟨some 240, .call ⟨.value (.func 15), #[.tmp 235, .tmp 239], #[39, 39]⟩, 4, "law.go:238", #[⟨7, .data⟩, ⟨11, .data⟩, ⟨3, .chain⟩, ⟨3, .guard⟩], some (3, true)⟩) (by kernel_rfl) rfl (fun K hK => ?_)
                  rw [if_pos (by kernel_rfl)]
                  go_simp
                  refine (hah _).mono ?_
                  rintro r w3 ⟨rfl, g3⟩
                  have B3 : Below wr.heap.size wr w3 := hB0.trans (g3.below.mono hB0.size)
                  clear g3
                  go_wp2_with fail
                  refine hK.out _ _ (fun hD => B3) ?_
                  clear hK K
                  try simp only [Act.put, List.setIfInBounds_toArray, List.set_cons_zero, List.set_cons_succ]
                  refine' wpAnyD_take (i := 13) (oi := ⟨some 241, .pick (.tmp 231) (.tmp 240) (.const (.bool false)), 4, "law.go:238", #[⟨3, .data⟩, ⟨12, .data⟩], none⟩) (v := _) rfl (by kernel_rfl) (by kernel_rfl) (by kernel_rfl) (fun _ _ _ h => h) (by kernel_rfl) (Or.inl ⟨by rfl, ?hy149⟩) B3 ?rest149
                  case hy149 => (intro W hSw; go_simp; try (with_reducible rfl))
                  try simp only [Act.put, List.setIfInBounds_toArray, List.set_cons_zero, List.set_cons_succ]
                  refine wpAnyD_done (by kernel_rfl) ?_ _
                  go_wp2
                  go_roundw
                  case rel => exact ⟨j3 + 1, by omega, by first | rfl | go_num, HJ.out.trans (B3.mono HJ.out.size)⟩
                  case measure => simp [RowKit.intOf]; omega
                ·have hjz : ¬ (j3 : Int) < (bl.length : Int) := by omega
                 go_wp2
                 go_roundw
                 case rel => exact ⟨k + 1, by omega, by first | rfl | go_num, HJ.out⟩
                 case measure => simp [RowKit.intOf]; omega
           ·have hkz : ¬ (k : Int) < (bl.length : Int) := by omega
            go_wp2
            go_roundw
            case rel => exact ⟨q + 1, by omega, by first | rfl | go_num, (HQ2.out _ HK.out).2.2.2.2⟩
            case measure => simp [RowKit.intOf]; omega
       ·have hqz : ¬ (q : Int) < (n : Int) := by omega
        go_wp2_with fail
        go_ret
        exact ⟨rfl, HBk.out.trans ((HWB.out _ HQ.out).mono HBk.out.size)⟩
end Go.Proofs.YtbbfddadnbjlhaaGreat.Lf

namespace Go.Proofs.YtbbfddadnbjlhaaGreat
open Go.ChangeShapes Go.WideShapes Go.ChangeAt Go.RowKit Go.Joins
def laidL : List (String × DataW Unit) := []
theorem own : ownKnob Tryz.prog.godebug = none := by kernel_rfl
theorem laidOut : laidOutB Tryz.prog = true := by kernel_rfl
theorem witness {H : Type} {enc : TypeId × Value → H} {os : Os} {f : FuncId} {fn : Func} {s : OpenSpec} {conds : List PathCond} {apart : Bool} (args : Array Value)
    (hsh : ((World.laidAll Tryz.prog os laidL).forCall (fun _ _ => 0) ⟨#[], args, []⟩).Shaped Tryz.prog)
    (hok : Input.okWideB Tryz.prog ((World.laidAll Tryz.prog os laidL).forCall (fun _ _ => 0) ⟨#[], args, []⟩) f ⟨#[], args, []⟩ = true)
    (hrow : s.preRow enc Tryz.prog fn conds apart laidL ((World.laidAll Tryz.prog os laidL).forCall (fun _ _ => 0) ⟨#[], args, []⟩).memory args) :
    ∃ (w : World) (tape : Tape) (i : Input), w.os = os ∧ (w.forCall tape i).Shaped Tryz.prog ∧ i.vars = [] ∧ Input.okWide Tryz.prog (w.forCall tape i) .any w.heap.size f i ∧
     s.preRow enc Tryz.prog fn conds apart laidL (w.forCall tape i).memory i.args ∧ ({} : Assume).holds Tryz.prog (lone (Frame.enter Tryz.prog f i.args .normal) [] (w.forCall tape i)) :=
 ⟨World.laidAll Tryz.prog os laidL, fun _ _ => 0, ⟨#[], args, []⟩, World.laidAll_os _ _ _, hsh, (Input.okWide_of_okWideB (base := 0) hok).1, (Input.okWide_of_okWideB hok).2, hrow, by
  simp only [Assume.holds]
  exact ⟨by simp, by simp, by simp, by simp, by simp⟩⟩
theorem laid_met (os : Os) (args : Array Value) : laidMetH Tryz.prog laidL ((World.laidAll Tryz.prog os laidL).forCall (fun _ _ => 0) ⟨#[], args, []⟩).memory := by
 rw [MakeChecks.laidMetH_plain _ _ _ (by kernel_rfl)]
 exact laidMet_laidAll _ (by kernel_rfl) (by kernel_rfl)
theorem i64_bd {x : Int} (h : (Lit.int .i64 x).wf = true) : -9223372036854775808 ≤ x ∧ x ≤ 9223372036854775807 := by
 simpa [Lit.wf, IntKind.min, IntKind.max, IntKind.signed, IntKind.bits] using h
theorem u64_bd {x : Int} (h : (Lit.int .u64 x).wf = true) : 0 ≤ x ∧ x ≤ 18446744073709551615 := by
 simpa [Lit.wf, IntKind.min, IntKind.max, IntKind.signed, IntKind.bits] using h
end Go.Proofs.YtbbfddadnbjlhaaGreat
namespace Go.Proofs.YtbbfddadnbjlhaaGreat.Df
open Go.ChangeShapes Go.WideShapes Go.ChangeAt Go.RowKit Go.Joins
theorem cell_in {W : World} {a : Addr} {u : Value} (h : W.cell? a = some u) : a.spot = none ∧ a.block < W.heap.size := by
 unfold World.cell? at h
 split at h
 ·rename_i hh
  refine ⟨?_, (Array.getElem?_eq_some_iff.1 hh).1⟩
  split at h
  ·cases h
  ·rename_i hs
   simpa using hs
 ·cases h
theorem weights_all {H : Type} {P : Program} {e : TypeId} {l : List (DataW H)} {d : DataW H} (hd : d ∈ l) {n : Nat} (hn : n ∈ d.weights P e) : n ∈ DataW.weightsAll P e l := by
 induction l with
 | nil => cases hd
 | cons x l ih =>
  simp only [DataW.weightsAll, List.mem_append]
  rcases List.mem_cons.1 hd with rfl | hd
  ·exact Or.inl hn
  ·exact Or.inr (ih hd)
def Wgt {H : Type} (P : Program) (t : TypeId) (d : DataW H) : Prop := ∀ n ∈ d.weights P t, n ≤ reachBytes
theorem trod_list {P : Program} {α : Type} [Inhabited α] (E : El α) (Pr : α → Prop) {sT eT : TypeId} (hu : P.underlying sT = some (.slice eT)) (hc : P.cellsOf eT = E.k) (hk : 0 < E.k)
    {H : Type} {enc : TypeId × Value → H} {W : World} {base : Nat} {sp : Nat → Bool} {held : Bool}
    (hel : ∀ fuel cs y, cs.length = E.k → DataW.trod enc P W base sp held fuel eT cs = some y → Wgt P eT y.1 → ∃ x, cs = E.enc x ∧ Pr x)
    (fuel : Nat) (cs : List Value) (y : DataW H × List MemPlace) (h : DataW.trod enc P W base sp held fuel sT cs = some y) (hw : Wgt P sT y.1) :
    ∃ (q : Option Addr) (c : Nat) (ts : List α), cs = [.slice q ts.length c] ∧ Lz E W.heap.size W (.slice q ts.length c) ts ∧ (∀ x ∈ ts, Pr x) ∧ ts.length * P.bytesOf eT ≤ reachBytes ∧ ts.length ≤ c := by
 rcases Deep.open_slice hu h with ⟨hcs, hx⟩ | ⟨a, len, cap, m, n, D, Pl, hcs, hb, hl, hm, hmm, hx, hall⟩
 ·exact ⟨none, 0, [], hcs, Lz.nil _ _ _, fun _ h => (by cases h), by simp, Nat.le_refl _⟩
 ·have hlm : len ≤ m := by rw [hmm]; split <;> omega
  have hws : Wgt P sT (.slice ((List.range len).map D) ((List.range (m - len)).map fun j => D (len + j))) := by rw [hx] at hw; exact hw
  have hsz : len * P.bytesOf eT ≤ reachBytes := by
   have h1 := hws (((List.range len).map D).length * P.bytesOf eT + ((List.range (m - len)).map fun j => D (len + j)).length * P.bytesOf eT) (by simp [DataW.weights, hu, Nat.add_mul])
   simp only [List.length_map, List.length_range] at h1
   omega
  by_cases h0 : len = 0
  ·subst h0
   exact ⟨some a, cap, [], hcs, Or.inr ⟨rfl, _, _, rfl⟩, fun _ h => (by cases h), by simp, Nat.zero_le _⟩
  ·obtain ⟨cs0, g1, _⟩ := hall 0 (by omega)
   rw [hc] at g1
   obtain ⟨_, hl0, hc0⟩ := World.cells?_some g1
   have g0 := hc0 0 hk
   rw [show (a.add (0 * E.k)).add 0 = a by simp [Addr.add]] at g0
   obtain ⟨u0, hu0⟩ : ∃ u, cs0[0]? = some u := ⟨cs0[0]'(by omega), by simp⟩
   obtain ⟨hsp, hlt⟩ := cell_in (g0.trans hu0)
   clear g0 hc0 hl0 g1 hu0
   obtain ⟨b, off, spot⟩ := a
   simp only at hsp hlt
   subst hsp
   obtain ⟨V, hV⟩ := Deep.choose_lt (α := α) (p := fun i t => (∀ j u, j < E.k → (E.enc t)[j]? = some u → W.cell? ⟨b, off + i * E.k + j, none⟩ = some u) ∧ Pr t) (n := len) (fun i hi => by
    obtain ⟨cs', h1, h2⟩ := hall i (by omega)
    rw [hc] at h1
    obtain ⟨_, hl3, hc'⟩ := World.cells?_some h1
    have hwi : Wgt P eT (D i) := fun n hn => hws n (by
     simp only [DataW.weights, hu, List.mem_cons, List.mem_append]
     exact Or.inr (Or.inl (weights_all (List.mem_map.2 ⟨i, List.mem_range.2 hi, rfl⟩) hn)))
    obtain ⟨x, rfl, hPr⟩ := hel _ _ _ hl3 h2 hwi
    refine ⟨x, fun j u hj hu' => ?_, hPr⟩
    have g0 := hc' j hj
    rw [Deep.add_add, addA] at g0
    rw [← Nat.add_assoc] at g0
    rw [g0]
    exact hu')
   refine ⟨some ⟨b, off, none⟩, cap, (List.range len).map V, by simpa using hcs, Or.inl ⟨Or.inr ⟨b, off, cap, rfl, hlt, fun j u hj => ?_⟩, fun k hk => ?_⟩, fun x hx => ?_, by simpa using hsz, by simpa using hl⟩
   ·have hjl : j < len * E.k := by
      have := (List.getElem?_eq_some_iff.1 hj).1
      rw [fl_length] at this
      simpa using this
    have hi : j / E.k < len := (Nat.div_lt_iff_lt_mul hk).2 hjl
    have hg := fl_get E ((List.range len).map V) (j / E.k) (j % E.k) (V (j / E.k)) (by simp [hi]) (Nat.mod_lt _ hk)
    rw [Nat.div_add_mod', hj] at hg
    have := (hV (j / E.k) hi).1 (j % E.k) u (Nat.mod_lt _ hk) hg.symm
    rwa [Nat.add_assoc, Nat.div_add_mod'] at this
   ·simp [Value.ownBlock] at hk
    omega
   ·obtain ⟨i, hi, rfl⟩ := List.mem_map.1 hx
    exact (hV i (List.mem_range.1 hi)).2
theorem c1i : Tryz.prog.cellsOf 3 = 1 := by kernel_rfl
theorem c1b : Tryz.prog.cellsOf 4 = 1 := by kernel_rfl
theorem c1u : Tryz.prog.cellsOf 37 = 1 := by kernel_rfl
theorem c3p : Tryz.prog.cellsOf 39 = 3 := by kernel_rfl
theorem c1o : Tryz.prog.cellsOf 87 = 1 := by kernel_rfl
theorem c1c : Tryz.prog.cellsOf 85 = 1 := by kernel_rfl
instance : Inhabited Opd := ⟨⟨0, 0⟩⟩
instance : Inhabited Con := ⟨⟨0, 0, (0, 0, 0)⟩⟩
instance : Inhabited Edg := ⟨⟨0, 0, 0, 0, false⟩⟩
instance : Inhabited NV := ⟨⟨⟨0, 0, 0, [], (0, 0, 0), 0, [], false⟩, none, 0, 0, none, 0, 0⟩⟩
section
variable {H : Type} {enc : TypeId × Value → H} {W : World} {base : Nat} {sp : Nat → Bool} {held : Bool}
theorem trod_i {fuel : Nat} {c : Value} {y : DataW H × List MemPlace} (h : DataW.trod enc Tryz.prog W base sp held fuel 3 [c] = some y) : ∃ n : Int, c = .int .i64 n ∧ I64 n := by
 obtain ⟨u, e, _, w⟩ := DataW.trod_int Tryz.underlying3 h
 simp at e
 exact ⟨u, e, i64_bd w⟩
theorem trod_u {fuel : Nat} {c : Value} {y : DataW H × List MemPlace} (h : DataW.trod enc Tryz.prog W base sp held fuel 37 [c] = some y) : ∃ n : Nat, c = .int .u64 (n : Nat) ∧ U64 n := by
 obtain ⟨u, e, _, w⟩ := DataW.trod_int Tryz.underlying37 h
 have b := u64_bd w
 simp at e
 exact ⟨u.toNat, by rw [e, Int.toNat_of_nonneg b.1], by unfold U64; omega⟩
set_option maxRecDepth 100000 in
theorem trod_pth (fuel : Nat) (c0 c1 c2 : Value) (y : DataW H × List MemPlace) (h : DataW.trod enc Tryz.prog W base sp held fuel 39 [c0, c1, c2] = some y) : ∃ p : Pth, c0 = .int .u64 (p.1 : Nat) ∧ c1 = .int .u64 (p.2.1 : Nat) ∧ c2 = .int .u64 (p.2.2 : Nat) ∧ PthT p := by
 obtain ⟨xs, k, _, _, _, hxl, hff⟩ := DataW.trod_struct Tryz.underlying39 h
 match xs, hxl with
 | [y0, y1, y2], _ =>
  have k0 : DataW.trod enc Tryz.prog W base sp held k 37 (([c0, c1, c2].drop 0).take (Tryz.prog.cellsOf 37)) = some y0 := hff 0 _ rfl
  have k1 : DataW.trod enc Tryz.prog W base sp held k 37 (([c0, c1, c2].drop 1).take (Tryz.prog.cellsOf 37)) = some y1 := hff 1 _ rfl
  have k2 : DataW.trod enc Tryz.prog W base sp held k 37 (([c0, c1, c2].drop 2).take (Tryz.prog.cellsOf 37)) = some y2 := hff 2 _ rfl
  rw [c1u] at k0 k1 k2
  obtain ⟨a, ea, ta⟩ := trod_u k0
  obtain ⟨b, eb, tb⟩ := trod_u k1
  obtain ⟨c, ec, tc⟩ := trod_u k2
  exact ⟨(a, b, c), ea, eb, ec, ta, tb, tc⟩
set_option maxRecDepth 100000 in
theorem trod_opd (fuel : Nat) (cs : List Value) (y : DataW H × List MemPlace) (hl : cs.length = 2) (h : DataW.trod enc Tryz.prog W base sp held fuel 138 cs = some y) : ∃ o : Opd, cs = EO.enc o ∧ OpdT o := by
 obtain ⟨xs, k, _, _, _, hxl, hff⟩ := DataW.trod_struct Tryz.underlying138 h
 match cs, hl, xs, hxl with
 | [c0, c1], _, [y0, y1], _ =>
  have k0 : DataW.trod enc Tryz.prog W base sp held k 3 (([c0, c1].drop 0).take (Tryz.prog.cellsOf 3)) = some y0 := hff 0 _ rfl
  have k1 : DataW.trod enc Tryz.prog W base sp held k 37 (([c0, c1].drop 1).take (Tryz.prog.cellsOf 37)) = some y1 := hff 1 _ rfl
  rw [c1i] at k0
  rw [c1u] at k1
  obtain ⟨a, rfl, ta⟩ := trod_i k0
  obtain ⟨b, rfl, tb⟩ := trod_u k1
  exact ⟨⟨a, b⟩, rfl, ta, tb⟩
set_option maxRecDepth 100000 in
theorem trod_con (fuel : Nat) (cs : List Value) (y : DataW H × List MemPlace) (hl : cs.length = 5) (h : DataW.trod enc Tryz.prog W base sp held fuel 92 cs = some y) : ∃ o : Con, cs = EC.enc o ∧ ConT o := by
 obtain ⟨xs, k, _, _, _, hxl, hff⟩ := DataW.trod_struct Tryz.underlying92 h
 match cs, hl, xs, hxl with
 | [c0, c1, c2, c3, c4], _, [y0, y1, y2], _ =>
  have k0 : DataW.trod enc Tryz.prog W base sp held k 3 (([c0, c1, c2, c3, c4].drop 0).take (Tryz.prog.cellsOf 3)) = some y0 := hff 0 _ rfl
  have k1 : DataW.trod enc Tryz.prog W base sp held k 3 (([c0, c1, c2, c3, c4].drop 1).take (Tryz.prog.cellsOf 3)) = some y1 := hff 1 _ rfl
  have k2 : DataW.trod enc Tryz.prog W base sp held k 39 (([c0, c1, c2, c3, c4].drop 2).take (Tryz.prog.cellsOf 39)) = some y2 := hff 2 _ rfl
  rw [c1i] at k0 k1
  rw [c3p] at k2
  obtain ⟨a, rfl, ta⟩ := trod_i k0
  obtain ⟨b, rfl, tb⟩ := trod_i k1
  obtain ⟨p, rfl, rfl, rfl, tp⟩ := trod_pth _ _ _ _ _ k2
  exact ⟨⟨a, b, p⟩, rfl, ta, tb, tp⟩
set_option maxRecDepth 100000 in
theorem trod_edg (fuel : Nat) (cs : List Value) (y : DataW H × List MemPlace) (hl : cs.length = 5) (h : DataW.trod enc Tryz.prog W base sp held fuel 94 cs = some y) : ∃ o : Edg, cs = ED.enc o ∧ EdgT o := by
 obtain ⟨xs, k, _, _, _, hxl, hff⟩ := DataW.trod_struct Tryz.underlying94 h
 match cs, hl, xs, hxl with
 | [c0, c1, c2, c3, c4], _, [y0, y1, y2, y3, y4], _ =>
  have k0 : DataW.trod enc Tryz.prog W base sp held k 3 (([c0, c1, c2, c3, c4].drop 0).take (Tryz.prog.cellsOf 3)) = some y0 := hff 0 _ rfl
  have k1 : DataW.trod enc Tryz.prog W base sp held k 3 (([c0, c1, c2, c3, c4].drop 1).take (Tryz.prog.cellsOf 3)) = some y1 := hff 1 _ rfl
  have k2 : DataW.trod enc Tryz.prog W base sp held k 3 (([c0, c1, c2, c3, c4].drop 2).take (Tryz.prog.cellsOf 3)) = some y2 := hff 2 _ rfl
  have k3 : DataW.trod enc Tryz.prog W base sp held k 3 (([c0, c1, c2, c3, c4].drop 3).take (Tryz.prog.cellsOf 3)) = some y3 := hff 3 _ rfl
  have k4 : DataW.trod enc Tryz.prog W base sp held k 4 (([c0, c1, c2, c3, c4].drop 4).take (Tryz.prog.cellsOf 4)) = some y4 := hff 4 _ rfl
  rw [c1i] at k0 k1 k2 k3
  rw [c1b] at k4
  obtain ⟨a, rfl, ta⟩ := trod_i k0
  obtain ⟨b, rfl, tb⟩ := trod_i k1
  obtain ⟨c, rfl, tc⟩ := trod_i k2
  obtain ⟨d, rfl, td⟩ := trod_i k3
  obtain ⟨e, he, _⟩ := DataW.trod_bool Tryz.underlying4 k4
  simp at he
  subst he
  exact ⟨⟨a, b, c, d, e⟩, rfl, ta, tb, tc, td⟩
end
end Go.Proofs.YtbbfddadnbjlhaaGreat.Df
namespace Go.Proofs.YtbbfddadnbjlhaaGreat.Df
open Go.ChangeShapes Go.WideShapes Go.ChangeAt Go.RowKit Go.Joins
section
variable {H : Type} {enc : TypeId × Value → H} {W : World} {base : Nat} {sp : Nat → Bool} {held : Bool}
def NodK2 (W : World) (x : NV) : Prop := NodT x.n ∧ NR W.heap.size W x ∧ x.n.code.length * 16 ≤ 140737488351232 ∧ x.n.conns.length * 40 ≤ 140737488351232 ∧ x.n.conns.length ≤ x.dc
def Sz (xs : List NV) (es : List Edg) : Prop := xs.length * 112 ≤ 140737488351232 ∧ es.length * 40 ≤ 140737488351232 ∧ ∀ x ∈ xs, x.n.code.length * 16 ≤ 140737488351232 ∧ x.n.conns.length * 40 ≤ 140737488351232
set_option maxRecDepth 100000 in
theorem trod_nod2 (fuel : Nat) (cs : List Value) (y : DataW H × List MemPlace) (hl : cs.length = 10) (h : DataW.trod enc Tryz.prog W base sp held fuel 89 cs = some y) (hw : Wgt Tryz.prog 89 y.1) : ∃ x : NV, cs = EV.enc x ∧ NodK2 W x := by
 obtain ⟨xs, k, _, hxy, _, hxl, hff⟩ := DataW.trod_struct Tryz.underlying89 h
 match cs, hl, xs, hxl with
 | [c0, c1, c2, c3, c4, c5, c6, c7, c8, c9], _, [y0, y1, y2, y3, y4, y5, y6, y7], _ =>
  have hwe : ∀ n ∈ DataW.weightsEach Tryz.prog [3, 3, 3, 87, 39, 37, 85, 4] [y0.1, y1.1, y2.1, y3.1, y4.1, y5.1, y6.1, y7.1], n ≤ reachBytes := fun n hn => hw n (by
   rw [hxy]
   simp only [DataW.weights, Tryz.underlying89]
   exact hn)
  have k0 : DataW.trod enc Tryz.prog W base sp held k 3 (([c0, c1, c2, c3, c4, c5, c6, c7, c8, c9].drop 0).take (Tryz.prog.cellsOf 3)) = some y0 := hff 0 _ rfl
  have k1 : DataW.trod enc Tryz.prog W base sp held k 3 (([c0, c1, c2, c3, c4, c5, c6, c7, c8, c9].drop 1).take (Tryz.prog.cellsOf 3)) = some y1 := hff 1 _ rfl
  have k2 : DataW.trod enc Tryz.prog W base sp held k 3 (([c0, c1, c2, c3, c4, c5, c6, c7, c8, c9].drop 2).take (Tryz.prog.cellsOf 3)) = some y2 := hff 2 _ rfl
  have k3 : DataW.trod enc Tryz.prog W base sp held k 87 (([c0, c1, c2, c3, c4, c5, c6, c7, c8, c9].drop 3).take (Tryz.prog.cellsOf 87)) = some y3 := hff 3 _ rfl
  have k4 : DataW.trod enc Tryz.prog W base sp held k 39 (([c0, c1, c2, c3, c4, c5, c6, c7, c8, c9].drop 4).take (Tryz.prog.cellsOf 39)) = some y4 := hff 4 _ rfl
  have k5 : DataW.trod enc Tryz.prog W base sp held k 37 (([c0, c1, c2, c3, c4, c5, c6, c7, c8, c9].drop 7).take (Tryz.prog.cellsOf 37)) = some y5 := hff 5 _ rfl
  have k6 : DataW.trod enc Tryz.prog W base sp held k 85 (([c0, c1, c2, c3, c4, c5, c6, c7, c8, c9].drop 8).take (Tryz.prog.cellsOf 85)) = some y6 := hff 6 _ rfl
  have k7 : DataW.trod enc Tryz.prog W base sp held k 4 (([c0, c1, c2, c3, c4, c5, c6, c7, c8, c9].drop 9).take (Tryz.prog.cellsOf 4)) = some y7 := hff 7 _ rfl
  rw [c1i] at k0 k1 k2
  rw [c1o] at k3
  rw [c3p] at k4
  rw [c1u] at k5
  rw [c1c] at k6
  rw [c1b] at k7
  obtain ⟨a, rfl, ta⟩ := trod_i k0
  obtain ⟨b, rfl, tb⟩ := trod_i k1
  obtain ⟨c, rfl, tc⟩ := trod_i k2
  obtain ⟨q3, d3, l3, e3, z3, p3, s3, _⟩ := trod_list EO OpdT Tryz.underlying87 (by kernel_rfl) (by decide) (fun fuel cs y hl h _ => trod_opd fuel cs y hl h) _ _ _ k3 (fun n hn => hwe n (DataW.weights_mem_each (j := 3) rfl rfl n hn))
  obtain ⟨p, rfl, rfl, rfl, tp⟩ := trod_pth _ _ _ _ _ k4
  obtain ⟨u, rfl, tu⟩ := trod_u k5
  obtain ⟨q6, d6, l6, e6, z6, p6, s6, t6⟩ := trod_list EC ConT Tryz.underlying85 (by kernel_rfl) (by decide) (fun fuel cs y hl h _ => trod_con fuel cs y hl h) _ _ _ k6 (fun n hn => hwe n (DataW.weights_mem_each (j := 6) rfl rfl n hn))
  obtain ⟨e, he, _⟩ := DataW.trod_bool Tryz.underlying4 k7
  simp at he e3 e6
  subst he e3 e6
  rw [show Tryz.prog.bytesOf 138 = 16 by kernel_rfl] at s3
  rw [show Tryz.prog.bytesOf 92 = 40 by kernel_rfl] at s6
  have hrb : reachBytes ≤ 140737488351232 := by decide
  exact ⟨⟨⟨a, b, c, l3, p, u, l6, e⟩, q3, l3.length, d3, q6, l6.length, d6⟩, rfl, ⟨ta, tb, tc, p3, tp, tu, p6⟩, ⟨z3, z6⟩, by simp only; omega, by simp only; omega, t6⟩
end
set_option maxRecDepth 100000 in
theorem open_graph2 {H : Type} {enc : TypeId × Value → H} {W : World} {r : Reach} {b0 base : Nat} {sp : Nat → Bool} {held : Bool} {v : Value} {d : DataW H} {p : List MemPlace} (hv : Value.okWide Tryz.prog W r b0 25 v) (h : DataW.Trod enc Tryz.prog W base sp held 25 v d p) (hw : Wgt Tryz.prog 25 d) :
    (∀ x ∈ p, x.block < W.heap.size) ∧ ∃ (a : Int) (nv ev : Value) (xs : List NV) (es : List Edg), v = .agg (gvc a nv ev) ∧ GphT (gof a xs es) ∧ GR W.heap.size W nv ev xs es ∧ Sz xs es ∧ Gcap ev xs := by
 have hlt : ∀ x ∈ p, x.block < W.heap.size := by
  obtain ⟨fuel, hf⟩ := h
  exact DataW.trod_lt fuel _ _ _ hf
 refine ⟨hlt, ?_⟩
 obtain ⟨c0, c1, c2, y0, y1, y2, m, rfl, rfl, rfl, h0, h1, h2⟩ := open_agg3 Tryz.underlying25 (by kernel_rfl) (by kernel_rfl) hv h
 have hwe : ∀ n ∈ DataW.weightsEach Tryz.prog [3, 22, 23] [y0.1, y1.1, y2.1], n ≤ reachBytes := fun n hn => hw n (by
  simp only [DataW.weights, Tryz.underlying25]
  exact hn)
 obtain ⟨a, rfl, ta⟩ := trod_i h0
 obtain ⟨q1, d1, l1, e1, z1, p1, s1, _⟩ := trod_list EV (NodK2 W) Tryz.underlying22 (by kernel_rfl) (by decide) (fun fuel cs y hl h hw => trod_nod2 fuel cs y hl h hw) _ _ _ h1 (fun n hn => hwe n (DataW.weights_mem_each (j := 1) rfl rfl n hn))
 obtain ⟨q2, d2, l2, e2, z2, p2, s2, t2⟩ := trod_list ED EdgT Tryz.underlying23 (by kernel_rfl) (by decide) (fun fuel cs y hl h _ => trod_edg fuel cs y hl h) _ _ _ h2 (fun n hn => hwe n (DataW.weights_mem_each (j := 2) rfl rfl n hn))
 simp at e1 e2
 subst e1 e2
 rw [show Tryz.prog.bytesOf 89 = 112 by kernel_rfl] at s1
 rw [show Tryz.prog.bytesOf 94 = 40 by kernel_rfl] at s2
 have hrb : reachBytes ≤ 140737488351232 := by decide
 refine ⟨a, _, _, l1, l2, rfl, ⟨ta, fun n hn => ?_, p2⟩, ⟨z1, z2, fun x hx => (p1 x hx).2.1, fun x hx => by have := (p1 x hx).2.2; omega, by omega, by omega⟩, ⟨by omega, by omega, fun x hx => ⟨(p1 x hx).2.2.1, (p1 x hx).2.2.2.1⟩⟩, ⟨fun p n c e => by simp only [Value.slice.injEq] at e; omega, fun x hx => ⟨(p1 x hx).2.2.2.2, by have := (p1 x hx).2.2.2.1; omega⟩⟩⟩
 obtain ⟨x, hx, rfl⟩ := List.mem_map.1 hn
 exact (p1 x hx).1
end Go.Proofs.YtbbfddadnbjlhaaGreat.Df

namespace Go.Proofs.YtbbfddadnbjlhaaGreat.Lf
open Go.ChangeShapes Go.WideShapes Go.ChangeAt Go.RowKit Go.Joins Go.Sort Pt
open Df (Gph gof GR Gcap NV Edg GphT EdgT)
section
variable {H : Type} {enc : TypeId × Value → H} {W : World} {base : Nat} {sp : Nat → Bool} {held : Bool}
end
theorem GphT.gpt {g : Gph} (h : GphT g) : Gpt g := fun n hn => ⟨(h.2.1 n hn).2.2.2.2.1, fun c hc => ((h.2.1 n hn).2.2.2.2.2.2 c hc).2.2⟩
end Go.Proofs.YtbbfddadnbjlhaaGreat.Lf
