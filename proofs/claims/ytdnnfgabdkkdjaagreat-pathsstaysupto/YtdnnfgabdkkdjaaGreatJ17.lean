import Derived.Test.YtdnnfgabdkkdjaaGreatJ16
import Derived.Test.YtdnnfgabdkkdjaaGreatJ11
import Derived.BigQuiet
import Derived.Test.YtdnnfgabdkkdjaaGreatJ15
namespace Go.Proofs.YtdnnfgabdkkdjaaGreat.Df
open Go.RowKit Go.Sort
section
variable {ls : List (List Int)} {q : Nat}
end
end Go.Proofs.YtdnnfgabdkkdjaaGreat.Df

namespace Go.Proofs.YtdnnfgabdkkdjaaGreat.Df
open Go.RowKit Go.Sort
attribute [local go_sem ↓] Go.wp_at_zero Go.wp_at_succ
set_option maxHeartbeats 1000000 in
theorem khas_any {M : Nat} {v : Value} {l : List Int} (x : Int) (w : World) (h : Lz EI M w v l) (hl : l.length ≤ 1000) : Calls Tryz.prog 99 #[v, .int .i64 x] w fun e w' => e = .returned (.bool (decide (x ∈ l))) ∧ w' = w := by
 obtain ⟨pv, cv, rfl⟩ := h.form
 have HL := hid h
 clear h
 go_enter Tryz.func99, Tryz.ntmps99
 go_wp2_with fail
 go_loopw [5] (fun s5 wr => ∃ k : Nat, k ≤ l.length ∧ s5 = .int .i64 (k : Nat) ∧ x ∉ l.take k ∧ wr = w) (fun s5 _ => l.length - (RowKit.intOf s5).toNat)
 case atStart => exact ⟨0, Nat.zero_le _, rfl, by simp, rfl⟩
 case round =>
  obtain ⟨k, hk, rfl, hnn, hwr⟩ := hrel
  subst hwr
  by_cases hkl : k < l.length
  ·have hltz : (k : Int) < (l.length : Int) := by omega
   have hk0 : (0 : Int) ≤ (k : Int) := by omega
   obtain ⟨s, hs⟩ : ∃ s, l[k]? = some s := ⟨l[k], by simp⟩
   obtain ⟨b1, o1, c1, e1, z1, x0⟩ := ls_atI (HL.out.ls hs) hs
   simp only [Value.slice.injEq] at e1
   obtain ⟨rfl, -, rfl⟩ := e1
   have HS := hid hs
   have HN := hid hnn
   clear hs hnn
   by_cases he : s = x
   ·go_wp2_with fail
    go_ret
    exact ⟨ret_bool (decide_eq_true (he ▸ List.mem_of_getElem? HS.out)).symm, rfl⟩
   ·go_wp2_with fail
    go_roundw
    case rel =>
     refine ⟨k + 1, by omega, by go_num, ?_, by first | rfl | trivial⟩
     rw [List.take_add_one, HS.out]
     intro hm
     rcases List.mem_append.1 hm with hm | hm
     ·exact HN.out hm
     ·simp at hm
      exact he hm.symm
    case measure => simp [RowKit.intOf]; omega
  ·have hltz : ¬ (k : Int) < (l.length : Int) := by omega
   have e : k = l.length := by omega
   subst e
   rw [List.take_length] at hnn
   have HN := hid hnn
   clear hnn
   go_wp2_with fail
   go_ret
   exact ⟨ret_bool (decide_eq_false HN.out).symm, by first | rfl | trivial⟩
def FreeR (S : List Con) (l : List Int) (p : Int) : Prop := ∀ s ∈ S, s.out = p → s.inn ∈ l
set_option maxHeartbeats 1000000 in
theorem kfree_any {M M' : Nat} {vs v : Value} {S : List Con} {l : List Int} (p : Int) (w : World) (hS : Lz EC M' w vs S) (h : Lz EI M w v l) (hl : l.length ≤ 1000) (hs : S.length ≤ 1000) : Calls Tryz.prog 100 #[vs, v, .int .i64 p] w fun e w' => ∃ t, e = .returned (.bool t) ∧ (t = true ↔ FreeR S l p) ∧ w' = w := by
 obtain ⟨pv, cv, rfl⟩ := h.form
 obtain ⟨ps, cs, rfl⟩ := hS.form
 have HL := hid h
 have HS := hid hS
 have hh := fun x => khas_any x w h hl
 clear h hS
 go_enter Tryz.func100, Tryz.ntmps100
 go_wp2_with fail
 go_loopw [7] (fun s7 wr => ∃ k : Nat, k ≤ S.length ∧ s7 = .int .i64 (k : Nat) ∧ (∀ s ∈ S.take k, s.out = p → s.inn ∈ l) ∧ wr = w) (fun s7 _ => S.length - (RowKit.intOf s7).toNat)
 case atStart => exact ⟨0, Nat.zero_le _, rfl, by simp, rfl⟩
 case round =>
  obtain ⟨k, hk, rfl, hnn, hwr⟩ := hrel
  subst hwr
  by_cases hkl : k < S.length
  ·have hltz : (k : Int) < (S.length : Int) := by omega
   have hk0 : (0 : Int) ≤ (k : Int) := by omega
   obtain ⟨s, hs'⟩ : ∃ s, S[k]? = some s := ⟨S[k], by simp⟩
   obtain ⟨b1, o1, c1, e1, z1, x0, x1, x2, x3, x4⟩ := ls_atC (HS.out.ls hs') hs'
   simp only [Value.slice.injEq] at e1
   obtain ⟨rfl, -, rfl⟩ := e1
   have HQ := hid hs'
   have HN := hid hnn
   clear hs' hnn x2 x3 x4
   have hext : ∀ (hq : s.out = p → s.inn ∈ l), ∀ s' ∈ S.take (k + 1), s'.out = p → s'.inn ∈ l := fun hq s' hm => by
    rw [List.take_add_one, HQ.out] at hm
    rcases List.mem_append.1 hm with hm | hm
    ·exact HN.out s' hm
    ·simp at hm
     subst hm
     exact hq
   have HX := hid hext
   clear hext
   by_cases he : s.out = p
   ·by_cases hm : s.inn ∈ l
    ·have hc := hh s.inn
     rw [decide_eq_true hm] at hc
     go_wp2_with fail
     refine hc.mono ?_
     rintro e w1 ⟨rfl, hw1⟩
     subst hw1
     go_wp2_with fail
     go_roundw
     case rel => exact ⟨k + 1, by omega, by go_num, HX.out (fun _ => hm), by first | rfl | trivial⟩
     case measure => simp [RowKit.intOf]; omega
    ·have hc := hh s.inn
     rw [decide_eq_false hm] at hc
     go_wp2_with fail
     refine hc.mono ?_
     rintro e w1 ⟨rfl, hw1⟩
     subst hw1
     go_wp2_with fail
     go_ret
     exact ⟨false, rfl, ⟨nofun, fun hf => absurd (hf s (List.mem_of_getElem? HQ.out) he) hm⟩, by first | rfl | trivial⟩
   ·go_wp2_with fail
    go_roundw
    case rel => exact ⟨k + 1, by omega, by go_num, HX.out (fun e => absurd e he), by first | rfl | trivial⟩
    case measure => simp [RowKit.intOf]; omega
  ·have hltz : ¬ (k : Int) < (S.length : Int) := by omega
   have e : k = S.length := by omega
   subst e
   rw [List.take_length] at hnn
   have HN := hid hnn
   clear hnn
   go_wp2_with fail
   go_ret
   exact Or.inr ⟨rfl, HN.out, rfl⟩
end Go.Proofs.YtdnnfgabdkkdjaaGreat.Df

namespace Go.Proofs.YtdnnfgabdkkdjaaGreat.Df
open Go.RowKit Go.Sort
attribute [local go_sem ↓] Go.wp_at_zero Go.wp_at_succ
set_option maxHeartbeats 4000000 in
theorem kplaces_any {nv ev : Value} {a : Int} {xs : List NV} (w : World) (h : Nr w nv xs) : Calls Tryz.prog 61 #[.agg (gvc a nv ev)] w fun r w' => r = .returned (.int .i64 (plN (xs.map NV.n) : Nat)) ∧ Gr w w' := by
 have g0 := (Gr.refl w).alloc (.cells (gvc a nv ev) 25)
 have HB := hid (heap_new' w (.cells (gvc a nv ev) 25))
 have hk := kin_any (a := a) (ev := ev) xs.length 0 (by decide) (by decide) (Nat.le_refl _) _ (h.below g0.below)
 obtain ⟨W0, hW0⟩ : ∃ W, W = w.alloc (.cells (gvc a nv ev) 25) := ⟨_, rfl⟩
 have HW : Hid (w.alloc (.cells #[.int .i64 a, nv, ev] 25) = W0) := hW0.symm
 rw [← hW0] at g0 HB hk
 have G0 := hid g0
 obtain ⟨qn, cn, rfl⟩ := h.nodes.form
 have HE : Hid (((firstN (xs.map NV.n) xs.length : Nat) : Int) = (plN (xs.map NV.n) : Nat)) := by
  show _ = _
  unfold plN firstN
  rw [List.length_map]
 generalize xs.length = nl at *
 clear h hW0 g0
 have c0 := (tk_store HB.out).1
 have l0 := tk_lt HB.out
 go_enter Tryz.func61, Tryz.ntmps61
 go_upto_region 1 with fail
 rw [HW.out]
 clear HW
 go_wp2_with fail
 refine hk.mono ?_
 rintro r w1 ⟨rfl, g1⟩
 clear c0 l0 hk
 go_wp2
 go_ret
 exact ⟨by rw [HE.out]; rfl, G0.out.trans g1⟩
theorem freeR_iff {g : Gph} (h : Gok g) {us : List Nat} {p : Nat} : FreeR (emR g) (ints us) (p : Int) ↔ ∀ r, Sp (stL g) r p → r ∈ us := by
 constructor
 ·intro hf r hr
  have h1 := hf ⟨(r : Int), (p : Int), (0, 0, 0)⟩ (emR_mem.2 ⟨r, p, rfl, (sp_iff h).1 hr⟩) rfl
  obtain ⟨u, hu, e⟩ := List.mem_map.1 h1
  have : u = r := Int.ofNat_inj.1 e
  exact this ▸ hu
 ·intro hall s hs he
  obtain ⟨r, q, rfl, hm⟩ := emR_mem.1 hs
  have hq : q = p := Int.ofNat_inj.1 he
  subst hq
  exact List.mem_map.2 ⟨r, hall r ((sp_iff h).2 hm), rfl⟩
theorem mem_ints {us : List Nat} {p : Nat} : ((p : Nat) : Int) ∈ ints us ↔ p ∈ us := by
 constructor
 ·intro h
  obtain ⟨u, hu, e⟩ := List.mem_map.1 h
  have : u = p := Int.ofNat_inj.1 e
  exact this ▸ hu
 ·exact fun h => List.mem_map.2 ⟨p, h, rfl⟩
def Cn (ls : List (List Int)) (us : List Nat) (k : Nat) : Prop := k ∉ us ∧ ∀ r, Sp ls r k → r ∈ us
def Nxt (ls : List (List Int)) (us : List Nat) (n : Nat) (p nx : Int) : Prop := (nx = -1 ∧ ∀ k : Nat, p < k → k < n → ¬ Cn ls us k) ∨ ∃ q : Nat, nx = q ∧ p < q ∧ q < n ∧ Cn ls us q ∧ ∀ k : Nat, p < k → k < q → ¬ Cn ls us k
theorem Nxt.skip {ls : List (List Int)} {us : List Nat} {n p : Nat} {nx : Int} (h : Nxt ls us n p nx) (hc : ¬ Cn ls us p) : Nxt ls us n ((p : Int) - 1) nx := by
 rcases h with ⟨h1, h2⟩ | ⟨q, h1, h2, h3, h4, h5⟩
 ·exact Or.inl ⟨h1, fun k hk hkn => by
    by_cases e : k = p
    ·exact e ▸ hc
    ·exact h2 k (by omega) hkn⟩
 ·exact Or.inr ⟨q, h1, by omega, h3, h4, fun k hk hkq => by
    by_cases e : k = p
    ·exact e ▸ hc
    ·exact h5 k (by omega) hkq⟩
theorem Nxt.take {ls : List (List Int)} {us : List Nat} {n p : Nat} (hp : p < n) (hc : Cn ls us p) : Nxt ls us n ((p : Int) - 1) (p : Int) :=
 Or.inr ⟨p, rfl, by omega, hp, hc, fun k hk hkp => by omega⟩
theorem Nxt.zero {ls : List (List Int)} {us : List Nat} {f : Nat → Int} {nx : Int} (ho : Oi ls us f) (h : Nxt ls us ls.length (-1) nx) : (nx = -1 ∧ zeroN ls.length f = none) ∨ ∃ q : Nat, nx = q ∧ zeroN ls.length f = some q := by
 have hn := ho.next
 rcases h with ⟨h1, h2⟩ | ⟨q, h1, h2, h3, h4, h5⟩
 ·cases e : zeroN ls.length f with
  | none => exact Or.inl ⟨h1, rfl⟩
  | some p =>
   rw [e] at hn
   exact absurd hn.2.1 (h2 p (by omega) hn.1)
 ·cases e : zeroN ls.length f with
  | none =>
   rw [e] at hn
   exact absurd h4 (hn q h3)
  | some p =>
   rw [e] at hn
   refine Or.inr ⟨q, h1, ?_⟩
   rcases Nat.lt_trichotomy p q with e2 | e2 | e2
   ·exact absurd hn.2.1 (h5 p (by omega) e2)
   ·rw [e2]
   ·exact absurd h4 (hn.2.2 q e2)
set_option maxRecDepth 100000 in
set_option maxHeartbeats 8000000 in
theorem korder_any {M : Nat} {nv ev : Value} {a : Int} {xs : List NV} {es : List Edg} (w : World) (hG : GR M w nv ev xs es) (hM : M ≤ w.heap.size) (hOK : Gok (gof a xs es)) : Calls Tryz.prog 60 #[.agg (gvc a nv ev)] w (Od w (stL (gof a xs es)).length (stL (gof a xs es))) := by
 obtain ⟨W0, hW0⟩ : ∃ W, W = w.alloc (.cells (gvc a nv ev) 25) := ⟨_, rfl⟩
 obtain ⟨gb, hgb⟩ : ∃ b, b = w.heap.size := ⟨_, rfl⟩
 have g0 : Gr w W0 := by rw [hW0]; exact (Gr.refl w).alloc _
 have HB : Hid (W0.heap[gb]? = some (.cells (gvc a nv ev) 25 (0, 0)) ∧ Below w.heap.size w W0) := ⟨by rw [hW0, hgb]; exact heap_new' _ _, g0.below⟩
 have HW : Hid (w.alloc (.cells #[.int .i64 a, nv, ev] 25) = W0 ∧ w.heap.size = gb) := ⟨hW0.symm, hgb.symm⟩
 have hst := kempty_any (a := a) W0 (hG.below g0.below) (Nat.le_trans hM g0.below.size) hOK
 have hpl : ∀ W, Below W0.heap.size W0 W → Calls Tryz.prog 61 #[.agg (gvc a nv ev)] W fun r w' => r = .returned (.int .i64 (plN (xs.map NV.n) : Nat)) ∧ Gr W w' := fun W hb => kplaces_any W (nr_of ((hG.below g0.below).below hb) (Nat.le_trans (Nat.le_trans hM g0.below.size) hb.size) hOK)
 have hsl : (emR (gof a xs es)).length ≤ 1000 := Nat.le_trans (List.length_filter_le _ _) (Nat.le_trans (stR_len hOK) (by decide))
 obtain ⟨n, hn⟩ : ∃ n, n = (stL (gof a xs es)).length := ⟨_, rfl⟩
 have hne : plN (xs.map NV.n) = n := by rw [hn, stL_len]
 have hn9 : n ≤ 1000 := by rw [hn]; exact (stL_good hOK).1
 rw [hne] at hpl
 have HOK := hid hOK
 obtain ⟨ls, hls⟩ : ∃ l, l = stL (gof a xs es) := ⟨_, rfl⟩
 have hln : ls.length = n := by rw [hls, hn]
 obtain ⟨S, hSe⟩ : ∃ S, S = emR (gof a xs es) := ⟨_, rfl⟩
 have HFR : Hid (∀ (us : List Nat) (p : Nat), FreeR S (ints us) (p : Int) ↔ ∀ r, Sp ls r p → r ∈ us) := fun us p => by rw [hSe, hls]; exact freeR_iff hOK
 rw [← hls]
 rw [← hSe] at hst hsl
 obtain ⟨qn, cn, hnv⟩ := hG.nodes.form
 obtain ⟨qe, ce, hev⟩ := hG.edges.form
 subst hnv
 subst hev
 have c0 := (tk_store HB.out.1).1
 have l0 := tk_lt HB.out.1
 generalize xs.length = nl at *
 generalize es.length = el at *
 clear hG hM hW0 hgb g0 hOK hls hSe hne hn
 go_enter Tryz.func60, Tryz.ntmps60
 go_upto_region 1 with fail
 rw [HW.out.1, HW.out.2]
 go_wp2_with fail
 refine hst.mono ?_
 clear hst c0 l0
 rintro r w1 ⟨d, rfl, hb1, hrow⟩
 obtain ⟨q, m, c, rfl⟩ := owns_form hrow
 obtain ⟨rfl, hcap⟩ := owns_caps hrow _ _ _ rfl
 have HL : Hid (Lz EC w1.heap.size w1 (.slice q S.length c) S) := owns_lz (E := EC) hrow
 have hb' := (hb1.block _ (tk_lt HB.out.1)).trans HB.out.1
 have c1 := (tk_store hb').1
 have l1 := tk_lt hb'
 have HB1 := hid hb1
 have hp1 := hpl w1 hb1
 clear hrow hb1 hb' hpl
 go_wp2_with fail
 refine hp1.mono ?_
 clear hp1 c1 l1
 rintro r w2 ⟨rfl, g2⟩
 have HB2 := hid (HB.out.2.trans ((HB1.out.trans (g2.below.mono HB1.out.size)).mono HB.out.2.size))
 have HL2 := hid (HL.out.below g2.below)
 clear g2 HL HB1
 have hlnz : (ls.length : Int) = (n : Int) := by omega
 go_wp2_with fail
 go_loopw [6, 7, 8] (fun s6 _ _ wr => ∃ (t : Nat) (us : List Nat) (f : Nat → Int) (vo : Value), s6 = vo ∧ t ≤ n ∧ us.length = t ∧ Hid (ordN n ls t = some (ints us, f) ∧ Oi ls us f ∧ wr.ownsRow w2.heap.size 3 1 vo t (fl EI (ints us)) ∧ Below w2.heap.size w2 wr)) (fun s6 _ _ _ => n - (match s6 with | .slice _ m _ => m | _ => 0))
 case atStart =>
  have h0 := ordN_inv ls 0 (Nat.zero_le _)
  exact ⟨0, [], _, _, rfl, Nat.zero_le _, rfl, rfl, by
   obtain ⟨us, h1, h2, h3⟩ := h0
   have : us = [] := List.eq_nil_of_length_eq_zero h2
   subst this
   exact h3, World.ownsRow_nil _ _ _ _, Below.refl _ _⟩
 case round =>
  obtain ⟨t, us, f, vo, rfl, ht, hul, HI⟩ := hrel
  obtain ⟨po, mo, co, hvo⟩ := owns_form HI.out.2.2.1
  obtain ⟨hmo, _⟩ := owns_caps HI.out.2.2.1 _ _ _ hvo
  subst hvo
  subst hmo
  have hwb := HI.out.2.2.2.size
  by_cases hlt : mo < n
  ·have hltz : (mo : Int) < (n : Int) := by omega
   have hwn : IntKind.i64.wrap ((n : Int) - 1) = (n : Int) - 1 := by rw [IntKind.wrap_i64]; omega
   have HLI : Hid (Lz EI wr.heap.size wr (.slice po mo co) (ints us)) := owns_lz (E := EI) (by rw [List.length_map, hul]; exact HI.out.2.2.1)
   have hil : (ints us).length ≤ 1000 := by rw [List.length_map]; omega
   have HSL := hid (HL2.out.below HI.out.2.2.2)
   have hhas := fun x => khas_any x wr HLI.out hil
   have hfre := fun p => kfree_any p wr HSL.out HLI.out hil hsl
   go_wp2_with fail
   go_loopw [7, 8] (fun s7 s8 wr2 => ∃ (p nx : Int), -1 ≤ p ∧ p < n ∧ s8 = .int .i64 p ∧ s7 = .int .i64 nx ∧ Hid (Nxt ls us n p nx) ∧ wr2 = wr) (fun _ s8 _ => (RowKit.intOf s8 + 1).toNat)
   case atStart => exact ⟨(n : Int) - 1, -1, by omega, by omega, rfl, rfl, Or.inl ⟨rfl, fun k h1 h2 => by omega⟩, rfl⟩
   case round =>
    obtain ⟨p, nx, hp1, hp2, rfl, rfl, HX, hwr⟩ := hrel
    rw [hwr]
    clear hwr
    by_cases hp : 0 ≤ p
    ·obtain ⟨pn, hpn⟩ : ∃ k : Nat, p = (k : Int) := ⟨p.toNat, by omega⟩
     subst hpn
     have hwp : IntKind.i64.wrap ((pn : Int) - 1) = (pn : Int) - 1 := by rw [IntKind.wrap_i64]; omega
     have hh := hhas (pn : Int)
     have hf := hfre (pn : Int)
     by_cases hin : pn ∈ us
     ·rw [decide_eq_true (mem_ints.2 hin)] at hh
      have FIN : Hid (Nxt ls us n ((pn : Int) - 1) nx) := HX.out.skip (fun h => h.1 hin)
      go_wp2_with fail
      refine hh.mono ?_
      rintro e w4 ⟨rfl, hw4⟩
      subst hw4
      go_wp2_with fail
      go_roundw
      case rel => exact ⟨(pn : Int) - 1, nx, by omega, by omega, by go_num, rfl, FIN.out, by first | rfl | trivial⟩
      case measure => (simp [RowKit.intOf]; try omega)
     ·rw [decide_eq_false (fun h => hin (mem_ints.1 h))] at hh
      go_wp2_with fail
      refine hh.mono ?_
      rintro e w4 ⟨rfl, hw4⟩
      subst hw4
      go_wp2_with fail
      refine hf.mono ?_
      rintro e w5 ⟨tt, rfl, htt, hw5⟩
      subst hw5
      have HTT := hid htt
      clear htt hh hf
      cases tt with
      | true =>
       have FIN : Hid (Nxt ls us n ((pn : Int) - 1) (pn : Int)) := Nxt.take (by omega) ⟨hin, (HFR.out us pn).1 (HTT.out.1 rfl)⟩
       go_wp2_with fail
       go_roundw
       case rel => exact ⟨(pn : Int) - 1, _, by omega, by omega, by go_num, rfl, FIN.out, by first | rfl | trivial⟩
       case measure => (simp [RowKit.intOf]; try omega)
      | false =>
       have FIN : Hid (Nxt ls us n ((pn : Int) - 1) nx) := HX.out.skip (fun h => by
        have := HTT.out.2 ((HFR.out us pn).2 h.2)
        cases this)
       go_wp2_with fail
       go_roundw
       case rel => exact ⟨(pn : Int) - 1, nx, by omega, by omega, by go_num, rfl, FIN.out, by first | rfl | trivial⟩
       case measure => (simp [RowKit.intOf]; try omega)
    ·have hpe : p = -1 := by omega
     subst hpe
     have hz : Hid ((nx = -1 ∧ zeroN n f = none) ∨ ∃ q : Nat, nx = q ∧ zeroN n f = some q) := by
      have h1 := HX.out
      have h2 := HI.out.2.1
      show _ ∨ _
      rw [← hln] at h1 ⊢
      exact Nxt.zero h2 h1
     have HON : Hid (ordN n ls (mo + 1) = match zeroN n f with | none => none | some p => some (ints us ++ [(p : Int)], stepN ls f p)) := by
      show _ = _
      rw [ordN, HI.out.1]
      dsimp only
      cases zeroN n f <;> rfl
     rcases hz.out with ⟨hx1, hx2⟩ | ⟨nq, hx1, hx2⟩
     ·subst hx1
      have hno : Hid (ordN n ls n = none) := ordN_none (t := mo + 1) (by omega) (by rw [HON.out, hx2])
      clear hx2 hz
      go_wp2_with fail
      refine bodyPost_ret (v := .tuple #[.slice none 0 0, .int .i64 27]) (by simp [results, Tryz.results60, go_sem]) rfl ?_
      exact ⟨HB2.out.trans (HI.out.2.2.2.mono HB2.out.size), Or.inl ⟨hno.out, rfl⟩⟩
     ·subst hx1
      rw [hx2] at HON
      have HOI : Hid (Oi ls (us ++ [nq]) (stepN ls f nq)) := HI.out.2.1.step (by rw [hln]; exact hx2)
      have hqn : nq < n := by
       have := HOI.out.bd nq (by simp)
       omega
      have hq0 : ¬ (nq : Int) < 0 := by omega
      clear hx2 hz HX
      go_wp2_with (at_builtin; refine wpApp1 EI Tryz.underlying59 infoIK rfl (by decide) rfl _ _ rfl w2.heap.size (.slice po mo co) mo _ rfl HI.out.2.2.1 (nq : Int) (by first | rfl | simp) (by omega) (by unfold maxLen; omega) hwb _ rfl _ ?_; intro g' cap' w' hown' hg' hgb; go_frame)
      go_roundw
      case rel =>
       refine ⟨mo + 1, us ++ [nq], _, _, rfl, by omega, by simp [hul], by rw [HON.out]; simp, HOI.out, ?_, HI.out.2.2.2.grown hg' hwb (fun j hj => (HI.out.2.2.1.lt j hj).1)⟩
       rw [show ints (us ++ [nq]) = ints us ++ [(nq : Int)] by simp, fl_append]
       exact hown'
      case measure => simp only; omega
  ·have hltz : ¬ (mo : Int) < (n : Int) := by omega
   have e : mo = n := by omega
   subst e
   go_wp2_with fail
   refine bodyPost_ret (v := .tuple #[.slice po mo co, .int .i64 0]) (by simp [results, Tryz.results60, go_sem]) rfl ?_
   refine ⟨HB2.out.trans (HI.out.2.2.2.mono HB2.out.size), Or.inr ⟨ints us, f, _, HI.out.1, rfl, ?_⟩⟩
   rw [List.length_map, hul]
   exact owns_base HI.out.2.2.1 HB2.out.size
end Go.Proofs.YtdnnfgabdkkdjaaGreat.Df

namespace Go.Proofs.YtdnnfgabdkkdjaaGreat.Lf
open Go.RowKit Go.Sort Pt
open Df (hid Con Gph Pth PthT plN stR stL Gok LV EL EC owns_form owns_caps owns_ne_own owns_ne_blk tk_store tk_lt tk_set ordN GR NV Edg gof gvc korder_any ksteps_any kplaces_any nr_of)
attribute [local go_sem ↓] Go.wp_at_zero Go.wp_at_succ
def NwR (w : World) (g : Gph) (e : Ending) (w' : World) : Prop := Below w.heap.size w w' ∧ ∃ a, Tab g a ∧ ((a = none ∧ e = .returned (.tuple #[.pointer none, .int .i64 27])) ∨ (a = some none ∧ e = .returned (.tuple #[.pointer none, .int .i64 28])) ∨ ∃ R tb, a = some (some R) ∧ e = .returned (.tuple #[.pointer (some ⟨tb, 0, none⟩), .int .i64 0]) ∧ TR w'.heap.size w' tb (plN g.nodes) R)
set_option maxRecDepth 100000 in
set_option maxHeartbeats 8000000 in
theorem rnew_any {M : Nat} {nv ev : Value} {a : Int} {xs : List NV} {es : List Edg} (w : World) (hG : GR M w nv ev xs es) (hM : M ≤ w.heap.size) (hOK : Gok (gof a xs es)) (hP : Gpt (gof a xs es)) : Calls Tryz.prog 34 #[.agg (gvc a nv ev)] w (NwR w (gof a xs es)) := by
 obtain ⟨xb, hxb⟩ : ∃ b, b = w.heap.size := ⟨_, rfl⟩
 obtain ⟨W0, hW0⟩ : ∃ W, W = w.alloc (.cells (gvc a nv ev) 25) := ⟨_, rfl⟩
 have P0 : Hid (Below w.heap.size w W0 ∧ W0.heap[xb]? = some (.cells (gvc a nv ev) 25 (0, 0))) := by
  rw [hW0, hxb]
  exact ⟨((Gr.refl w).alloc _).below, heap_new' _ _⟩
 have HW0 : Hid (w.alloc (.cells #[.int .i64 a, nv, ev] 25) = W0 ∧ w.heap.size = xb) := ⟨hW0.symm, hxb.symm⟩
 have HG : Hid (∀ W, Below W0.heap.size W0 W → GR M W nv ev xs es ∧ M ≤ W.heap.size ∧ W.heap[xb]? = some (.cells (gvc a nv ev) 25 (0, 0))) := fun W hb => by
  have h1 := P0.out.1.trans (hb.mono P0.out.1.size)
  exact ⟨hG.below h1, Nat.le_trans hM h1.size, (hb.block _ (tk_lt P0.out.2)).trans P0.out.2⟩
 obtain ⟨pn, cn, hnv⟩ := hG.nodes.form
 obtain ⟨pe, ce, hev⟩ := hG.edges.form
 subst hnv
 subst hev
 generalize xs.length = nl at *
 generalize es.length = el at *
 have HOK := hid hOK
 have HPT := hid hP
 have hpl := Df.plN_le hOK
 have hord := korder_any W0 (HG.out W0 (Below.refl _ _)).1 (HG.out W0 (Below.refl _ _)).2.1 hOK
 have c0 := (tk_store P0.out.2).1
 have l0 := tk_lt P0.out.2
 clear hG hM hOK hP hW0 hxb
 obtain ⟨g, hg⟩ : ∃ g, g = gof a xs es := ⟨_, rfl⟩
 have HGE := hid hg
 rw [← hg] at HOK HPT hpl hord ⊢
 clear hg
 go_enter Tryz.func34, Tryz.ntmps34
 go_upto_region 1 with fail
 rw [HW0.out.1, HW0.out.2]
 clear HW0
 go_wp2_with fail
 refine hord.mono ?_
 clear hord c0 l0
 rintro r w1 ⟨hb1, hr⟩
 rcases hr with ⟨hno, rfl⟩ | ⟨o, f, d, hso, rfl, _⟩
 ·have FIN : Hid (NwR w g (.returned (.tuple #[.pointer none, .int .i64 27])) w1) := ⟨P0.out.1.trans (hb1.mono P0.out.1.size), none, .cyc hno, Or.inl ⟨rfl, rfl⟩⟩
  go_wp2
  refine bodyPost_ret (v := .tuple #[.pointer none, .int .i64 27]) (by simp [results, Tryz.results34, go_sem]) rfl ?_
  exact FIN.out
 ·have HNO : Hid (ordN (stL g).length (stL g) (stL g).length ≠ none) := fun e => by rw [hso] at e; cases e
  clear hso
  have HB1 := hid hb1
  have hst := ksteps_any w1 (HG.out w1 hb1).1 (HG.out w1 hb1).2.1 (by rw [← HGE.out]; exact HOK.out)
  rw [← HGE.out] at hst
  have hbx := (HG.out w1 hb1).2.2
  have c1 := (tk_store hbx).1
  have l1 := tk_lt hbx
  clear hb1 hbx
  go_wp2_with fail
  refine hst.mono ?_
  clear hst c1 l1
  rintro r w2 ⟨sv, rfl, hb2, hrow2⟩
  have HB2 := hid (HB1.out.trans (hb2.mono HB1.out.size))
  have HS2 : Hid (Ls EC w2 sv (stR g)) := owns_ls (E := EC) hrow2
  clear hb2 hrow2
  obtain ⟨ps, cs, hsv⟩ := HS2.out.form
  subst hsv
  have hpc := kplaces_any (a := a) (ev := .slice pe el ce) w2 (nr_of (HG.out w2 HB2.out).1 (HG.out w2 HB2.out).2.1 (by rw [← HGE.out]; exact HOK.out))
  obtain ⟨n, hn⟩ : ∃ n, n = plN g.nodes := ⟨_, rfl⟩
  rw [show xs.map NV.n = g.nodes by rw [HGE.out], ← hn] at hpc
  rw [← hn] at hpl
  have HN := hid hn
  have hbx := (HG.out w2 HB2.out).2.2
  have c1 := (tk_store hbx).1
  have l1 := tk_lt hbx
  clear hbx hn
  generalize hsl : (stR g).length = sl at *
  go_wp2_with fail
  refine hpc.mono ?_
  clear hpc c1 l1
  rintro r w3 ⟨rfl, hg3⟩
  have HB3 := hid (HB2.out.trans (hg3.below.mono HB2.out.size))
  have HS3 := hid (HS2.out.below hg3.below)
  clear hg3
  obtain ⟨tb, htb⟩ : ∃ b, b = w3.heap.size := ⟨_, rfl⟩
  obtain ⟨W3, hW3⟩ : ∃ W, W = w3.alloc (.cells #[.int .i64 (n : Nat), .slice none 0 0] 33) := ⟨_, rfl⟩
  have P3 : Hid (Below w3.heap.size w3 W3 ∧ W3.heap[tb]? = some (.cells #[.int .i64 (n : Nat), .slice none 0 0] 33 (0, 0)) ∧ w3.heap.size ≤ tb) := by
   rw [hW3, htb]
   exact ⟨((Gr.refl w3).alloc _).below, heap_new' _ _, Nat.le_refl _⟩
  have HW3 : Hid (w3.alloc (.cells #[.int .i64 (n : Nat), .slice none 0 0] 33) = W3 ∧ w3.heap.size = tb) := ⟨hW3.symm, htb.symm⟩
  have HBW : Hid (Below w.heap.size w w3) := P0.out.1.trans (HB3.out.mono P0.out.1.size)
  have HSLN := hid hsl
  clear hW3 htb hsl
  go_upto_region 6 with fail
  rw [HW3.out.1, HW3.out.2]
  clear HW3
  go_wp2_with fail
  go_loopw [8, 9, 10] (fun s8 _ _ wr => ∃ (i : Nat) (v : Value) (us : List LV) (R : Nat → Nat → List Tri), i ≤ n ∧ s8 = .int .i64 i ∧ Hid (us.length = i ∧ Below w3.heap.size w3 wr ∧ wr.heap[tb]? = some (.cells #[.int .i64 (n : Nat), v] 33 (0, 0)) ∧ T3 w3.heap.size wr v us n R ∧ ∀ p, p < i → Res PX (StG g) p (some (R p)))) (fun s8 _ _ _ => n - (RowKit.intOf s8).toNat)
  case atStart => exact ⟨0, _, [], fun _ _ => [], Nat.zero_le _, rfl, rfl, P3.out.1, P3.out.2.1, T3.nil _ _ _ _, fun p hp => absurd hp (Nat.not_lt_zero _)⟩
  case round =>
   obtain ⟨i, v, us, R, hi, rfl, HI⟩ := hrel
   have ct := (tk_store HI.out.2.2.1).1
   have lt := tk_lt HI.out.2.2.1
   by_cases hlt : i < n
   ·have hltz : (i : Int) < (n : Int) := by omega
    have hi0 : (0 : Int) ≤ (i : Int) := by omega
    have hlf := rfrom_any (l := stR g) (n := n) (p := i) wr (HS3.out.below HI.out.2.1) (fun c hc => stR_pth HPT.out hc) (fun c hc => by rw [HN.out]; exact stR_lt HOK.out hc) hlt hpl (Df.stR_len HOK.out)
    go_wp2_with fail
    refine hlf.mono ?_
    clear hlf
    rintro r w5 ⟨hb5, a5, hres, hcase⟩
    have HRES : Hid (Res PX (StG g) i a5) := by
     rw [HN.out] at hres
     exact hres
    clear hres
    rcases hcase with ⟨rfl, rfl⟩ | ⟨rows, gs5, vs5, rfl, rfl, hfw5, hvl5⟩
    ·have FIN : Hid (NwR w g (.returned (.tuple #[.pointer none, .int .i64 28])) w5) := ⟨HBW.out.trans ((HI.out.2.1.trans (hb5.mono HI.out.2.1.size)).mono HBW.out.size), some none, .wide HNO.out i (by rw [← HN.out]; exact hlt) HRES.out, Or.inr (Or.inl ⟨rfl, rfl⟩)⟩
     clear hb5 ct lt
     go_wp2
     refine bodyPost_ret (v := .tuple #[.pointer none, .int .i64 28]) (by simp [results, Tryz.results34, go_sem]) rfl ?_
     exact FIN.out
    ·have hbx := (hb5.block _ (tk_lt HI.out.2.2.1)).trans HI.out.2.2.1
     have HT5 := hid (HI.out.2.2.2.1.below hb5)
     have HR5 : Hid (Rw2 w3.heap.size w5 (.slice (some ⟨gs5, 0, none⟩) n n) n rows ∧ w5.heap[tb]? = some (.cells #[.int .i64 (n : Nat), v] 33 (0, 0)) ∧ Below w3.heap.size w3 w5) := ⟨(hfw5.rw2 hvl5).base HI.out.2.1.size, hbx, HI.out.2.1.trans (hb5.mono HI.out.2.1.size)⟩
     have HOW : Hid (w5.ownsRow w3.heap.size 42 1 v i (fl EL us)) := owns_re HT5.out.row HI.out.1 rfl
     have hz5 : w3.heap.size ≤ w5.heap.size := HR5.out.2.2.size
     have cx := (tk_store hbx).1
     have lx := tk_lt hbx
     clear hbx hb5 hfw5 hvl5 ct lt
     go_wp2_with (at_builtin; refine wpApp1 EL Tryz.underlying31 infoPll rfl (by decide) rfl _ _ rfl w3.heap.size _ i _ rfl HOW.out ⟨some ⟨gs5, 0, none⟩, n, n⟩ rfl (by omega) (by unfold maxLen; omega) hz5 _ rfl _ ?_)
     intro g6 c6 w6 ho6 hg6 hl6
     have hK6 : Kp (fun k => v.ownBlock = some k) w5 w6 := Kp.grownBy hg6 (fun _ h => h)
     have hbx6 : w6.heap[tb]? = some (.cells #[.int .i64 (n : Nat), v] 33 (0, 0)) := (hK6.block _ (tk_lt HR5.out.2.1) (fun e => owns_ne_blk HOW.out HR5.out.2.1 (by decide) tb e rfl)).trans HR5.out.2.1
     have HT6 : Hid (T3 w3.heap.size w6 (.slice (some ⟨g6, 0, none⟩) (i + 1) c6) (us ++ [⟨some ⟨gs5, 0, none⟩, n, n⟩]) n (fun p => if p = i then rows else R p)) := by
      have e := HI.out.1
      have h1 := HT5.out.app (g := g6) (cap := c6) (w1 := w6) (u := ⟨some ⟨gs5, 0, none⟩, n, n⟩) HR5.out.1 (by rw [e]; exact ho6) hg6
      rw [e] at h1
      exact h1
     have HB6 : Hid (Below w3.heap.size w3 w6) := HR5.out.2.2.trans (hK6.below HR5.out.2.2.size (fun k hk => (HOW.out.lt k hk).1))
     have cx6 := (tk_store hbx6).1
     have fx6 := (tk_store hbx6).2
     have lx6 := tk_lt hbx6
     obtain ⟨b7, k7⟩ := tk_set hbx6 1 (.slice (some ⟨g6, 0, none⟩) (i + 1) c6)
     have P7 : Hid ((w6.setCell ⟨tb, 1, none⟩ (.slice (some ⟨g6, 0, none⟩) (i + 1) c6)).heap[tb]? = some (.cells #[.int .i64 (n : Nat), .slice (some ⟨g6, 0, none⟩) (i + 1) c6] 33 (0, 0)) ∧ Below w3.heap.size w3 (w6.setCell ⟨tb, 1, none⟩ (.slice (some ⟨g6, 0, none⟩) (i + 1) c6)) ∧ T3 w3.heap.size (w6.setCell ⟨tb, 1, none⟩ (.slice (some ⟨g6, 0, none⟩) (i + 1) c6)) (.slice (some ⟨g6, 0, none⟩) (i + 1) c6) (us ++ [⟨some ⟨gs5, 0, none⟩, n, n⟩]) n (fun p => if p = i then rows else R p)) := ⟨b7, HB6.out.trans (k7.below HB6.out.size (fun k hk => by rw [hk]; exact P3.out.2.2)), HT6.out.block hbx6 (by decide) (by decide) (by decide) k7⟩
     clear b7 k7 hbx6 ho6 hg6 hl6 hK6 cx lx
     go_wp2_with fail
     go_roundw
     case rel =>
      refine ⟨i + 1, _, us ++ [⟨some ⟨gs5, 0, none⟩, n, n⟩], fun p => if p = i then rows else R p, by omega, by first | rfl | go_num, by rw [List.length_append, HI.out.1]; rfl, P7.out.2.1, P7.out.1, P7.out.2.2, fun p hp => ?_⟩
      by_cases e : p = i
      ·subst e
       simp only [if_true]
       exact HRES.out
      ·simp only [if_neg e]
       exact HI.out.2.2.2.2 p (by omega)
     case measure => simp [RowKit.intOf]; omega
   ·have hltz : ¬ (i : Int) < (n : Int) := by omega
    have hie : i = n := by omega
    subst hie
    have FIN : Hid (NwR w g (.returned (.tuple #[.pointer (some ⟨tb, 0, none⟩), .int .i64 0])) wr) := ⟨HBW.out.trans (HI.out.2.1.mono HBW.out.size), some (some R), .tab R HNO.out (by rw [← HN.out]; exact HI.out.2.2.2.2), Or.inr (Or.inr ⟨R, tb, rfl, rfl, by
     rw [← HN.out]
     exact ⟨v, HI.out.2.2.1, tk_lt HI.out.2.2.1, HI.out.2.2.2.1.tq HI.out.1⟩⟩)⟩
    go_wp2
    refine bodyPost_ret (v := .tuple #[.pointer (some ⟨tb, 0, none⟩), .int .i64 0]) (by simp [results, Tryz.results34, go_sem]) rfl ?_
    exact FIN.out
end Go.Proofs.YtdnnfgabdkkdjaaGreat.Lf
