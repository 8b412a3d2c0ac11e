import Derived.Test.YtpgodnaebkmhhaaGreatJ2
import Derived.Test.YtpgodnaebkmhhaaGreatJ5
import Derived.BigQuiet
import Derived.Test.YtpgodnaebkmhhaaGreatKSo
namespace Go.Proofs.YtpgodnaebkmhhaaGreat.Df
open Go.RowKit Go.Sort
attribute [local go_sem ↓] Go.wp_at_zero Go.wp_at_succ

set_option maxHeartbeats 1000000 in
theorem khas_any {M : Nat} {v : Value} {l : List Int} (x : Int) (w : World) (h : Lz EI M w v l) (hl : l.length ≤ 1000) : Calls Tryz.prog 34 #[v, .int .i64 x] w fun e w' => e = .returned (.bool (decide (x ∈ l))) ∧ w' = w := by
  obtain ⟨pv, cv, rfl⟩ := h.form
  have HL := hid h
  clear h
  go_enter Tryz.func34, Tryz.ntmps34
  go_wp2_with fail
  go_loopw [5] (fun s5 wr => ∃ k : Nat, k ≤ l.length ∧ s5 = .int .i64 (k : Nat) ∧ x ∉ l.take k ∧ wr = w) (fun s5 _ => l.length - (RowKit.intOf s5).toNat)
  case atStart => exact ⟨0, Nat.zero_le _, rfl, by simp, rfl⟩
  case round =>
    obtain ⟨k, hk, rfl, hnn, hwr⟩ := hrel
    subst hwr
    by_cases hkl : k < l.length
    · have hltz : (k : Int) < (l.length : Int) := by omega
      have hk0 : (0 : Int) ≤ (k : Int) := by omega
      obtain ⟨s, hs⟩ : ∃ s, l[k]? = some s := ⟨l[k], by simp⟩
      obtain ⟨b1, o1, c1, e1, z1, x0⟩ := ls_atI (HL.out.ls hs) hs
      simp only [Value.slice.injEq] at e1
      obtain ⟨rfl, -, rfl⟩ := e1
      have HS := hid hs
      have HN := hid hnn
      clear hs hnn
      by_cases he : s = x
      · go_wp2_with fail
        go_ret
        exact ⟨ret_bool (decide_eq_true (he ▸ List.mem_of_getElem? HS.out)).symm, rfl⟩
      · go_wp2_with fail
        go_roundw
        case rel =>
          refine ⟨k + 1, by omega, by go_num, ?_, by first | rfl | trivial⟩
          rw [List.take_add_one, HS.out]
          intro hm
          rcases List.mem_append.1 hm with hm | hm
          · exact HN.out hm
          · simp at hm
            exact he hm.symm
        case measure => simp [RowKit.intOf]; omega
    · have hltz : ¬ (k : Int) < (l.length : Int) := by omega
      have e : k = l.length := by omega
      subst e
      rw [List.take_length] at hnn
      have HN := hid hnn
      clear hnn
      go_wp2_with fail
      go_ret
      exact ⟨ret_bool (decide_eq_false HN.out).symm, by first | rfl | trivial⟩
/-- All steps to p come from the list. -/
def FreeR (S : List Con) (l : List Int) (p : Int) : Prop := ∀ s ∈ S, s.out = p → s.inn ∈ l
set_option maxHeartbeats 1000000 in
theorem kfree_any {M M' : Nat} {vs v : Value} {S : List Con} {l : List Int} (p : Int) (w : World) (hS : Lz EC M' w vs S) (h : Lz EI M w v l) (hl : l.length ≤ 1000) (hs : S.length ≤ 1000) : Calls Tryz.prog 35 #[vs, v, .int .i64 p] w fun e w' => ∃ t, e = .returned (.bool t) ∧ (t = true ↔ FreeR S l p) ∧ w' = w := by
  obtain ⟨pv, cv, rfl⟩ := h.form
  obtain ⟨ps, cs, rfl⟩ := hS.form
  have HL := hid h
  have HS := hid hS
  have hh := fun x => khas_any x w h hl
  clear h hS
  go_enter Tryz.func35, Tryz.ntmps35
  go_wp2_with fail
  go_loopw [7] (fun s7 wr => ∃ k : Nat, k ≤ S.length ∧ s7 = .int .i64 (k : Nat) ∧ (∀ s ∈ S.take k, s.out = p → s.inn ∈ l) ∧ wr = w) (fun s7 _ => S.length - (RowKit.intOf s7).toNat)
  case atStart => exact ⟨0, Nat.zero_le _, rfl, by simp, rfl⟩
  case round =>
    obtain ⟨k, hk, rfl, hnn, hwr⟩ := hrel
    subst hwr
    by_cases hkl : k < S.length
    · have hltz : (k : Int) < (S.length : Int) := by omega
      have hk0 : (0 : Int) ≤ (k : Int) := by omega
      obtain ⟨s, hs'⟩ : ∃ s, S[k]? = some s := ⟨S[k], by simp⟩
      obtain ⟨b1, o1, c1, e1, z1, x0, x1, x2, x3, x4⟩ := ls_atC (HS.out.ls hs') hs'
      simp only [Value.slice.injEq] at e1
      obtain ⟨rfl, -, rfl⟩ := e1
      have HQ := hid hs'
      have HN := hid hnn
      clear hs' hnn x2 x3 x4
      have hext : ∀ (hq : s.out = p → s.inn ∈ l), ∀ s' ∈ S.take (k + 1), s'.out = p → s'.inn ∈ l := fun hq s' hm => by
        rw [List.take_add_one, HQ.out] at hm
        rcases List.mem_append.1 hm with hm | hm
        · exact HN.out s' hm
        · simp at hm
          subst hm
          exact hq
      have HX := hid hext
      clear hext
      by_cases he : s.out = p
      · by_cases hm : s.inn ∈ l
        · have hc := hh s.inn
          rw [decide_eq_true hm] at hc
          go_wp2_with fail
          refine hc.mono ?_
          rintro e w1 ⟨rfl, hw1⟩
          subst hw1
          go_wp2_with fail
          go_roundw
          case rel => exact ⟨k + 1, by omega, by go_num, HX.out (fun _ => hm), by first | rfl | trivial⟩
          case measure => simp [RowKit.intOf]; omega
        · have hc := hh s.inn
          rw [decide_eq_false hm] at hc
          go_wp2_with fail
          refine hc.mono ?_
          rintro e w1 ⟨rfl, hw1⟩
          subst hw1
          go_wp2_with fail
          go_ret
          exact ⟨false, rfl, ⟨nofun, fun hf => absurd (hf s (List.mem_of_getElem? HQ.out) he) hm⟩, by first | rfl | trivial⟩
      · go_wp2_with fail
        go_roundw
        case rel => exact ⟨k + 1, by omega, by go_num, HX.out (fun e => absurd e he), by first | rfl | trivial⟩
        case measure => simp [RowKit.intOf]; omega
    · have hltz : ¬ (k : Int) < (S.length : Int) := by omega
      have e : k = S.length := by omega
      subst e
      rw [List.take_length] at hnn
      have HN := hid hnn
      clear hnn
      go_wp2_with fail
      go_ret
      exact Or.inr ⟨rfl, HN.out, rfl⟩
end Go.Proofs.YtpgodnaebkmhhaaGreat.Df

namespace Go.Proofs.YtpgodnaebkmhhaaGreat.Df
open Go.RowKit Go.Sort
attribute [local go_sem ↓] Go.wp_at_zero Go.wp_at_succ

set_option maxHeartbeats 4000000 in
theorem kplaces_any {nv ev : Value} {a : Int} {xs : List NV} (w : World) (h : Nr w nv xs) : Calls Tryz.prog 33 #[.agg (gvc a nv ev)] w fun r w' => r = .returned (.int .i64 (plN (xs.map NV.n) : Nat)) ∧ Gr w w' := by
  have g0 := (Gr.refl w).alloc (.cells (gvc a nv ev) 25)
  have HB := hid (heap_new' w (.cells (gvc a nv ev) 25))
  have hk := kin_any (a := a) (ev := ev) xs.length 0 (by decide) (by decide) (Nat.le_refl _) _ (h.below g0.below)
  obtain ⟨W0, hW0⟩ : ∃ W, W = w.alloc (.cells (gvc a nv ev) 25) := ⟨_, rfl⟩
  have HW : Hid (w.alloc (.cells #[.int .i64 a, nv, ev] 25) = W0) := hW0.symm
  rw [← hW0] at g0 HB hk
  have G0 := hid g0
  obtain ⟨qn, cn, rfl⟩ := h.nodes.form
  have HE : Hid (((firstN (xs.map NV.n) xs.length : Nat) : Int) = (plN (xs.map NV.n) : Nat)) := by
    show _ = _
    unfold plN firstN
    rw [List.length_map]
  generalize xs.length = nl at *
  clear h hW0 g0
  have c0 := (tk_store HB.out).1
  have l0 := tk_lt HB.out
  go_enter Tryz.func33, Tryz.ntmps33
  go_upto_region 1 with fail
  rw [HW.out]
  clear HW
  go_wp2_with fail
  refine hk.mono ?_
  rintro r w1 ⟨rfl, g1⟩
  clear c0 l0 hk
  go_wp2
  go_ret
  exact ⟨by rw [HE.out]; rfl, G0.out.trans g1⟩
/-- The steps to a place, in the document's words. -/
theorem freeR_iff {g : Gph} (h : Gok g) {us : List Nat} {p : Nat} : FreeR (emR g) (ints us) (p : Int) ↔ ∀ r, Sp (stL g) r p → r ∈ us := by
  constructor
  · intro hf r hr
    have h1 := hf ⟨(r : Int), (p : Int), (0, 0, 0)⟩ (emR_mem.2 ⟨r, p, rfl, (sp_iff h).1 hr⟩) rfl
    obtain ⟨u, hu, e⟩ := List.mem_map.1 h1
    have : u = r := Int.ofNat_inj.1 e
    exact this ▸ hu
  · intro hall s hs he
    obtain ⟨r, q, rfl, hm⟩ := emR_mem.1 hs
    have hq : q = p := Int.ofNat_inj.1 he
    subst hq
    exact List.mem_map.2 ⟨r, hall r ((sp_iff h).2 hm), rfl⟩
theorem mem_ints {us : List Nat} {p : Nat} : ((p : Nat) : Int) ∈ ints us ↔ p ∈ us := by
  constructor
  · intro h
    obtain ⟨u, hu, e⟩ := List.mem_map.1 h
    have : u = p := Int.ofNat_inj.1 e
    exact this ▸ hu
  · exact fun h => List.mem_map.2 ⟨p, h, rfl⟩
/-- A place may be listed next. -/
def Cn (ls : List (List Int)) (us : List Nat) (k : Nat) : Prop := k ∉ us ∧ ∀ r, Sp ls r k → r ∈ us
/-- The lowest such place above p, as far as was looked. -/
def Nxt (ls : List (List Int)) (us : List Nat) (n : Nat) (p nx : Int) : Prop := (nx = -1 ∧ ∀ k : Nat, p < k → k < n → ¬ Cn ls us k) ∨ ∃ q : Nat, nx = q ∧ p < q ∧ q < n ∧ Cn ls us q ∧ ∀ k : Nat, p < k → k < q → ¬ Cn ls us k
theorem Nxt.skip {ls : List (List Int)} {us : List Nat} {n p : Nat} {nx : Int} (h : Nxt ls us n p nx) (hc : ¬ Cn ls us p) : Nxt ls us n ((p : Int) - 1) nx := by
  rcases h with ⟨h1, h2⟩ | ⟨q, h1, h2, h3, h4, h5⟩
  · exact Or.inl ⟨h1, fun k hk hkn => by
      by_cases e : k = p
      · exact e ▸ hc
      · exact h2 k (by omega) hkn⟩
  · exact Or.inr ⟨q, h1, by omega, h3, h4, fun k hk hkq => by
      by_cases e : k = p
      · exact e ▸ hc
      · exact h5 k (by omega) hkq⟩
theorem Nxt.take {ls : List (List Int)} {us : List Nat} {n p : Nat} (hp : p < n) (hc : Cn ls us p) : Nxt ls us n ((p : Int) - 1) (p : Int) :=
  Or.inr ⟨p, rfl, by omega, hp, hc, fun k hk hkp => by omega⟩
theorem Nxt.zero {ls : List (List Int)} {us : List Nat} {f : Nat → Int} {nx : Int} (ho : Oi ls us f) (h : Nxt ls us ls.length (-1) nx) : (nx = -1 ∧ zeroN ls.length f = none) ∨ ∃ q : Nat, nx = q ∧ zeroN ls.length f = some q := by
  have hn := ho.next
  rcases h with ⟨h1, h2⟩ | ⟨q, h1, h2, h3, h4, h5⟩
  · cases e : zeroN ls.length f with
    | none => exact Or.inl ⟨h1, rfl⟩
    | some p =>
      rw [e] at hn
      exact absurd hn.2.1 (h2 p (by omega) hn.1)
  · cases e : zeroN ls.length f with
    | none =>
      rw [e] at hn
      exact absurd h4 (hn q h3)
    | some p =>
      rw [e] at hn
      refine Or.inr ⟨q, h1, ?_⟩
      rcases Nat.lt_trichotomy p q with e2 | e2 | e2
      · exact absurd hn.2.1 (h5 p (by omega) e2)
      · rw [e2]
      · exact absurd h4 (hn.2.2 q e2)
set_option maxRecDepth 100000 in
set_option maxHeartbeats 8000000 in
/-- The document's Order. -/
theorem korder_any {M : Nat} {nv ev : Value} {a : Int} {xs : List NV} {es : List Edg} (w : World) (hG : GR M w nv ev xs es) (hM : M ≤ w.heap.size) (hOK : Gok (gof a xs es)) : Calls Tryz.prog 16 #[.agg (gvc a nv ev)] w (Od w (stL (gof a xs es)).length (stL (gof a xs es))) := by
  obtain ⟨W0, hW0⟩ : ∃ W, W = w.alloc (.cells (gvc a nv ev) 25) := ⟨_, rfl⟩
  obtain ⟨gb, hgb⟩ : ∃ b, b = w.heap.size := ⟨_, rfl⟩
  have g0 : Gr w W0 := by rw [hW0]; exact (Gr.refl w).alloc _
  have HB : Hid (W0.heap[gb]? = some (.cells (gvc a nv ev) 25 (0, 0)) ∧ Below w.heap.size w W0) := ⟨by rw [hW0, hgb]; exact heap_new' _ _, g0.below⟩
  have HW : Hid (w.alloc (.cells #[.int .i64 a, nv, ev] 25) = W0 ∧ w.heap.size = gb) := ⟨hW0.symm, hgb.symm⟩
  have hst := kempty_any (a := a) W0 (hG.below g0.below) (Nat.le_trans hM g0.below.size) hOK
  have hpl : ∀ W, Below W0.heap.size W0 W → Calls Tryz.prog 33 #[.agg (gvc a nv ev)] W fun r w' => r = .returned (.int .i64 (plN (xs.map NV.n) : Nat)) ∧ Gr W w' := fun W hb => kplaces_any W (nr_of ((hG.below g0.below).below hb) (Nat.le_trans (Nat.le_trans hM g0.below.size) hb.size) hOK)
  have hsl : (emR (gof a xs es)).length ≤ 1000 := Nat.le_trans (List.length_filter_le _ _) (Nat.le_trans (stR_len hOK) (by decide))
  obtain ⟨n, hn⟩ : ∃ n, n = (stL (gof a xs es)).length := ⟨_, rfl⟩
  have hne : plN (xs.map NV.n) = n := by rw [hn, stL_len]
  have hn9 : n ≤ 1000 := by rw [hn]; exact (stL_good hOK).1
  rw [hne] at hpl
  have HOK := hid hOK
  obtain ⟨ls, hls⟩ : ∃ l, l = stL (gof a xs es) := ⟨_, rfl⟩
  have hln : ls.length = n := by rw [hls, hn]
  obtain ⟨S, hSe⟩ : ∃ S, S = emR (gof a xs es) := ⟨_, rfl⟩
  have HFR : Hid (∀ (us : List Nat) (p : Nat), FreeR S (ints us) (p : Int) ↔ ∀ r, Sp ls r p → r ∈ us) := fun us p => by rw [hSe, hls]; exact freeR_iff hOK
  rw [← hls]
  rw [← hSe] at hst hsl
  obtain ⟨qn, cn, hnv⟩ := hG.nodes.form
  obtain ⟨qe, ce, hev⟩ := hG.edges.form
  subst hnv
  subst hev
  have c0 := (tk_store HB.out.1).1
  have l0 := tk_lt HB.out.1
  generalize xs.length = nl at *
  generalize es.length = el at *
  clear hG hM hW0 hgb g0 hOK hls hSe hne hn
  go_enter Tryz.func16, Tryz.ntmps16
  go_upto_region 1 with fail
  rw [HW.out.1, HW.out.2]
  go_wp2_with fail
  refine hst.mono ?_
  clear hst c0 l0
  rintro r w1 ⟨d, rfl, hb1, hrow⟩
  obtain ⟨q, m, c, rfl⟩ := owns_form hrow
  obtain ⟨rfl, hcap⟩ := owns_caps hrow _ _ _ rfl
  have HL : Hid (Lz EC w1.heap.size w1 (.slice q S.length c) S) := owns_lz (E := EC) hrow
  have hb' := (hb1.block _ (tk_lt HB.out.1)).trans HB.out.1
  have c1 := (tk_store hb').1
  have l1 := tk_lt hb'
  have HB1 := hid hb1
  have hp1 := hpl w1 hb1
  clear hrow hb1 hb' hpl
  go_wp2_with fail
  refine hp1.mono ?_
  clear hp1 c1 l1
  rintro r w2 ⟨rfl, g2⟩
  have HB2 := hid (HB.out.2.trans ((HB1.out.trans (g2.below.mono HB1.out.size)).mono HB.out.2.size))
  have HL2 := hid (HL.out.below g2.below)
  clear g2 HL HB1
  have hlnz : (ls.length : Int) = (n : Int) := by omega
  go_wp2_with fail
  go_loopw [6, 7, 8] (fun s6 _ _ wr => ∃ (t : Nat) (us : List Nat) (f : Nat → Int) (vo : Value), s6 = vo ∧ t ≤ n ∧ us.length = t ∧ Hid (ordN n ls t = some (ints us, f) ∧ Oi ls us f ∧ wr.ownsRow w2.heap.size 3 1 vo t (fl EI (ints us)) ∧ Below w2.heap.size w2 wr)) (fun s6 _ _ _ => n - (match s6 with | .slice _ m _ => m | _ => 0))
  case atStart =>
    have h0 := ordN_inv ls 0 (Nat.zero_le _)
    exact ⟨0, [], _, _, rfl, Nat.zero_le _, rfl, rfl, by
      obtain ⟨us, h1, h2, h3⟩ := h0
      have : us = [] := List.eq_nil_of_length_eq_zero h2
      subst this
      exact h3, World.ownsRow_nil _ _ _ _, Below.refl _ _⟩
  case round =>
    obtain ⟨t, us, f, vo, rfl, ht, hul, HI⟩ := hrel
    obtain ⟨po, mo, co, hvo⟩ := owns_form HI.out.2.2.1
    obtain ⟨hmo, _⟩ := owns_caps HI.out.2.2.1 _ _ _ hvo
    subst hvo
    subst hmo
    have hwb := HI.out.2.2.2.size
    by_cases hlt : mo < n
    · have hltz : (mo : Int) < (n : Int) := by omega
      have hwn : IntKind.i64.wrap ((n : Int) - 1) = (n : Int) - 1 := by rw [IntKind.wrap_i64]; omega
      have HLI : Hid (Lz EI wr.heap.size wr (.slice po mo co) (ints us)) := owns_lz (E := EI) (by rw [List.length_map, hul]; exact HI.out.2.2.1)
      have hil : (ints us).length ≤ 1000 := by rw [List.length_map]; omega
      have HSL := hid (HL2.out.below HI.out.2.2.2)
      have hhas := fun x => khas_any x wr HLI.out hil
      have hfre := fun p => kfree_any p wr HSL.out HLI.out hil hsl
      go_wp2_with fail
      go_loopw [7, 8] (fun s7 s8 wr2 => ∃ (p nx : Int), -1 ≤ p ∧ p < n ∧ s8 = .int .i64 p ∧ s7 = .int .i64 nx ∧ Hid (Nxt ls us n p nx) ∧ wr2 = wr) (fun _ s8 _ => (RowKit.intOf s8 + 1).toNat)
      case atStart => exact ⟨(n : Int) - 1, -1, by omega, by omega, rfl, rfl, Or.inl ⟨rfl, fun k h1 h2 => by omega⟩, rfl⟩
      case round =>
        obtain ⟨p, nx, hp1, hp2, rfl, rfl, HX, hwr⟩ := hrel
        rw [hwr]
        clear hwr
        by_cases hp : 0 ≤ p
        · obtain ⟨pn, hpn⟩ : ∃ k : Nat, p = (k : Int) := ⟨p.toNat, by omega⟩
          subst hpn
          have hwp : IntKind.i64.wrap ((pn : Int) - 1) = (pn : Int) - 1 := by rw [IntKind.wrap_i64]; omega
          have hh := hhas (pn : Int)
          have hf := hfre (pn : Int)
          by_cases hin : pn ∈ us
          · rw [decide_eq_true (mem_ints.2 hin)] at hh
            have FIN : Hid (Nxt ls us n ((pn : Int) - 1) nx) := HX.out.skip (fun h => h.1 hin)
            go_wp2_with fail
            refine hh.mono ?_
            rintro e w4 ⟨rfl, hw4⟩
            subst hw4
            go_wp2_with fail
            go_roundw
            case rel => exact ⟨(pn : Int) - 1, nx, by omega, by omega, by go_num, rfl, FIN.out, by first | rfl | trivial⟩
            case measure => (simp [RowKit.intOf]; try omega)
          · rw [decide_eq_false (fun h => hin (mem_ints.1 h))] at hh
            go_wp2_with fail
            refine hh.mono ?_
            rintro e w4 ⟨rfl, hw4⟩
            subst hw4
            go_wp2_with fail
            refine hf.mono ?_
            rintro e w5 ⟨tt, rfl, htt, hw5⟩
            subst hw5
            have HTT := hid htt
            clear htt hh hf
            cases tt with
            | true =>
              have FIN : Hid (Nxt ls us n ((pn : Int) - 1) (pn : Int)) := Nxt.take (by omega) ⟨hin, (HFR.out us pn).1 (HTT.out.1 rfl)⟩
              go_wp2_with fail
              go_roundw
              case rel => exact ⟨(pn : Int) - 1, _, by omega, by omega, by go_num, rfl, FIN.out, by first | rfl | trivial⟩
              case measure => (simp [RowKit.intOf]; try omega)
            | false =>
              have FIN : Hid (Nxt ls us n ((pn : Int) - 1) nx) := HX.out.skip (fun h => by
                have := HTT.out.2 ((HFR.out us pn).2 h.2)
                cases this)
              go_wp2_with fail
              go_roundw
              case rel => exact ⟨(pn : Int) - 1, nx, by omega, by omega, by go_num, rfl, FIN.out, by first | rfl | trivial⟩
              case measure => (simp [RowKit.intOf]; try omega)
        · have hpe : p = -1 := by omega
          subst hpe
          have hz : Hid ((nx = -1 ∧ zeroN n f = none) ∨ ∃ q : Nat, nx = q ∧ zeroN n f = some q) := by
            have h1 := HX.out
            have h2 := HI.out.2.1
            show _ ∨ _
            rw [← hln] at h1 ⊢
            exact Nxt.zero h2 h1
          have HON : Hid (ordN n ls (mo + 1) = match zeroN n f with | none => none | some p => some (ints us ++ [(p : Int)], stepN ls f p)) := by
            show _ = _
            rw [ordN, HI.out.1]
            dsimp only
            cases zeroN n f <;> rfl
          rcases hz.out with ⟨hx1, hx2⟩ | ⟨nq, hx1, hx2⟩
          · subst hx1
            have hno : Hid (ordN n ls n = none) := ordN_none (t := mo + 1) (by omega) (by rw [HON.out, hx2])
            clear hx2 hz
            go_wp2_with fail
            refine bodyPost_ret (v := .tuple #[.slice none 0 0, .int .i64 27]) (by simp [results, Tryz.results16, go_sem]) rfl ?_
            exact ⟨HB2.out.trans (HI.out.2.2.2.mono HB2.out.size), Or.inl ⟨hno.out, rfl⟩⟩
          · subst hx1
            rw [hx2] at HON
            have HOI : Hid (Oi ls (us ++ [nq]) (stepN ls f nq)) := HI.out.2.1.step (by rw [hln]; exact hx2)
            have hqn : nq < n := by
              have := HOI.out.bd nq (by simp)
              omega
            have hq0 : ¬ (nq : Int) < 0 := by omega
            clear hx2 hz HX
            go_wp2_with (at_builtin; refine wpApp1 EI Tryz.underlying33 infoIK rfl (by decide) rfl _ _ rfl w2.heap.size (.slice po mo co) mo _ rfl HI.out.2.2.1 (nq : Int) (by first | rfl | simp) (by omega) (by unfold maxLen; omega) hwb _ rfl _ ?_; intro g' cap' w' hown' hg' hgb; go_frame)
            go_roundw
            case rel =>
              refine ⟨mo + 1, us ++ [nq], _, _, rfl, by omega, by simp [hul], by rw [HON.out]; simp, HOI.out, ?_, HI.out.2.2.2.grown hg' hwb (fun j hj => (HI.out.2.2.1.lt j hj).1)⟩
              rw [show ints (us ++ [nq]) = ints us ++ [(nq : Int)] by simp, fl_append]
              exact hown'
            case measure => simp only; omega
    · have hltz : ¬ (mo : Int) < (n : Int) := by omega
      have e : mo = n := by omega
      subst e
      go_wp2_with fail
      refine bodyPost_ret (v := .tuple #[.slice po mo co, .int .i64 0]) (by simp [results, Tryz.results16, go_sem]) rfl ?_
      refine ⟨HB2.out.trans (HI.out.2.2.2.mono HB2.out.size), Or.inr ⟨ints us, f, _, HI.out.1, rfl, ?_⟩⟩
      rw [List.length_map, hul]
      exact owns_base HI.out.2.2.1 HB2.out.size
end Go.Proofs.YtpgodnaebkmhhaaGreat.Df

namespace Go.Proofs.YtpgodnaebkmhhaaGreat.Df
open Go.RowKit Go.Sort
attribute [local go_sem ↓] Go.wp_at_zero Go.wp_at_succ

/-- The list of the empty steps. -/
structure SS (ls : List (List Int)) (S : List Con) : Prop where
  to_ : ∀ x ∈ S, ∃ p q : Nat, x = ⟨(p : Int), (q : Int), (0, 0, 0)⟩ ∧ Sp ls p q ∧ q < ls.length
  of_ : ∀ p q, Sp ls p q → ⟨(p : Int), (q : Int), (0, 0, 0)⟩ ∈ S
theorem ss_of {g : Gph} (h : Gok g) : SS (stL g) (emR g) :=
  ⟨fun x hx => by
    obtain ⟨p, q, rfl, hm⟩ := emR_mem.1 hx
    exact ⟨p, q, rfl, (sp_iff h).2 hm, sp_lt h p q ((sp_iff h).2 hm)⟩, fun p q hs => emR_mem.2 ⟨p, q, rfl, (sp_iff h).1 hs⟩⟩
/-- What is known of a distance behind so many rounds. -/
def Dv (ls : List (List Int)) (q m x : Nat) (v : Int) : Prop := (∃ k, k ≤ m ∧ At ls q k x ∧ v = (k : Int)) ∨ ((∀ k, k ≤ m → ¬ At ls q k x) ∧ v = -1)
theorem Dv.iff {ls : List (List Int)} {q x k : Nat} {v : Int} (h : Dv ls q ls.length x v) : v = (k : Int) ↔ At ls q k x := by
  constructor
  · intro e
    rcases h with ⟨j, _, ha, hv⟩ | ⟨_, hv⟩
    · have : j = k := by omega
      exact this ▸ ha
    · omega
  · intro ha
    rcases h with ⟨j, _, hj, hv⟩ | ⟨hno, _⟩
    · rw [hv, hj.uniq ha]
    · exact absurd ha (hno k ha.le)
/-- Within a round. -/
structure Dr (ls : List (List Int)) (q k : Nat) (S : List Con) (f : Nat → Int) : Prop where
  v : ∀ x, x < ls.length → Dv ls q k x (f x) ∨ (f x = (k : Int) + 1 ∧ At ls q (k + 1) x)
  s : ∀ s ∈ S, ∀ p y : Nat, s.inn = (p : Int) → s.out = (y : Int) → At ls q k y → f p ≠ -1
theorem Dr.at {ls : List (List Int)} {q k : Nat} {S : List Con} {f : Nat → Int} (h : Dr ls q k S f) {x : Nat} (hx : x < ls.length) : f x = (k : Int) ↔ At ls q k x := by
  constructor
  · intro e
    rcases h.v x hx with (⟨j, _, ha, hv⟩ | ⟨_, hv⟩) | ⟨hv, _⟩
    · have : j = k := by omega
      exact this ▸ ha
    · omega
    · omega
  · intro ha
    rcases h.v x hx with (⟨j, _, hj, hv⟩ | ⟨hno, _⟩) | ⟨_, ha'⟩
    · rw [hv, hj.uniq ha]
    · exact absurd ha (hno k (Nat.le_refl _))
    · have := ha.uniq ha'
      omega
theorem Dr.skip {ls : List (List Int)} {q k : Nat} {S : List Con} {f : Nat → Int} {p y : Nat} (h : Dr ls q k S f) (hno : ¬ (At ls q k y ∧ f p < 0)) (_ : p < ls.length) : Dr ls q k (S ++ [⟨(p : Int), (y : Int), (0, 0, 0)⟩]) f := by
  refine ⟨h.v, fun s hs p' y' e1 e2 ha => ?_⟩
  rcases List.mem_append.1 hs with hs | hs
  · exact h.s s hs p' y' e1 e2 ha
  · rw [List.mem_singleton] at hs
    subst hs
    have h1 : p = p' := Int.ofNat_inj.1 e1
    have h2 : y = y' := Int.ofNat_inj.1 e2
    subst h1
    subst h2
    intro e
    exact hno ⟨ha, by omega⟩
theorem Dr.step {ls : List (List Int)} {q k : Nat} {S : List Con} {f : Nat → Int} {p y : Nat} (h : Dr ls q k S f) (ha : At ls q k y) (hf : f p < 0) (hp : p < ls.length) (hs : Sp ls p y) (_ : q < ls.length) : Dr ls q k (S ++ [⟨(p : Int), (y : Int), (0, 0, 0)⟩]) (upd f p ((k : Int) + 1)) := by
  have hno : ∀ j, j ≤ k → ¬ At ls q j p := by
    rcases h.v p hp with (⟨j, _, _, hv⟩ | ⟨hno, _⟩) | ⟨hv, _⟩
    · omega
    · exact hno
    · omega
  have hpq : p ≠ q := fun e => hno 0 (Nat.zero_le _) (Or.inl ⟨rfl, e⟩)
  have hA : At ls q (k + 1) p := at_succ.2 ⟨hpq, hno, y, hs, ha⟩
  refine ⟨fun x hx => ?_, fun s hs' p' y' e1 e2 ha' => ?_⟩
  · unfold upd
    by_cases e : x = p
    · rw [if_pos e]
      exact Or.inr ⟨rfl, e ▸ hA⟩
    · rw [if_neg e]
      exact h.v x hx
  · unfold upd
    by_cases e : p' = p
    · rw [if_pos e]
      omega
    · rw [if_neg e]
      rcases List.mem_append.1 hs' with hs' | hs'
      · exact h.s s hs' p' y' e1 e2 ha'
      · rw [List.mem_singleton] at hs'
        subst hs'
        exact absurd (Int.ofNat_inj.1 e1.symm) e
theorem Dr.done {ls : List (List Int)} {q k : Nat} {S : List Con} {f : Nat → Int} (h : Dr ls q k S f) (hS : SS ls S) : ∀ x, x < ls.length → Dv ls q (k + 1) x (f x) := by
  intro x hx
  rcases h.v x hx with (⟨j, hj, ha, hv⟩ | ⟨hno, hv⟩) | ⟨hv, ha⟩
  · exact Or.inl ⟨j, by omega, ha, hv⟩
  · refine Or.inr ⟨fun j hj ha => ?_, hv⟩
    by_cases e : j = k + 1
    · subst e
      obtain ⟨_, _, y, hs, hy⟩ := at_succ.1 ha
      exact h.s _ (hS.of_ x y hs) x y rfl rfl hy hv
    · exact hno j (by omega) ha
  · exact Or.inl ⟨k + 1, Nat.le_refl _, ha, by rw [hv]; omega⟩
theorem Dr.start {ls : List (List Int)} {q k : Nat} {f : Nat → Int} (h : ∀ x, x < ls.length → Dv ls q k x (f x)) : Dr ls q k [] f := ⟨fun x hx => Or.inl (h x hx), fun _ hs => by cases hs⟩
set_option maxRecDepth 100000 in
set_option maxHeartbeats 4000000 in
/-- The document's far. -/
theorem kfar_any {M : Nat} {vs : Value} {ls : List (List Int)} {S : List Con} (q : Nat) (w : World) (hL : Lz EC M w vs S) (hS : SS ls S) (hq : q < ls.length) (hn : ls.length ≤ 1000) (hs : S.length ≤ 1000) :
    Calls Tryz.prog 36 #[vs, .int .i64 (ls.length : Nat), .int .i64 (q : Nat)] w fun e w' => ∃ g f, e = .returned (.slice (some ⟨g, 0, none⟩) ls.length ls.length) ∧ Wt w ls.length g f w' ∧ ∀ x, x < ls.length → Dv ls q ls.length x (f x) := by
  obtain ⟨ps, cs, rfl⟩ := hL.form
  have HL := hid hL
  have HS := hid hS
  obtain ⟨n, hnn⟩ : ∃ n, n = ls.length := ⟨_, rfl⟩
  have HN := hid hnn
  rw [← hnn] at hq hn ⊢
  have hqz : (q : Int) < (n : Int) := by omega
  have hq0 : (0 : Int) ≤ (q : Int) := by omega
  have hn0 : (0 : Int) ≤ (n : Int) := by omega
  clear hL hS hnn
  obtain ⟨i0, hi0, hz0, hz1, hz2⟩ := info_parts infoIK
  go_enter Tryz.func36, Tryz.ntmps36
  go_upto_region 2 with (at_make; refine wpList_make_full _ rfl _ _ 33 rfl w.heap.size 3 i0 (.int .i64 0) 1 Tryz.underlying33 hi0 hz0 hz1 _ _ _ _ n rfl rfl rfl rfl (by rw [hz2]; omega) (by unfold maxLen; omega) (Nat.le_refl _) ?_; intro w1 hrow hg1)
  obtain ⟨g, hg⟩ : ∃ g, g = w.heap.size := ⟨_, rfl⟩
  rw [← hg]
  have W1 : Hid (Wt w n g (fun _ => 0) w1) := by
    refine ⟨(Kp.grownBy (S := fun _ => False) hg1 (fun _ h => by cases h)).below (Nat.le_refl _) (fun _ h => h.elim), ?_⟩
    rw [hg]
    refine owns_re hrow rfl ?_
    rw [madeK, fnL_zero, fl_I]
  clear hrow hg1 hg hi0 hz0 hz1 hz2
  go_wp2_with fail
  go_loopw [8] (fun s8 wr => ∃ i : Nat, i ≤ n ∧ s8 = .int .i64 (i : Nat) ∧ Hid (Wt w n g (fun k => if k < i then -1 else 0) wr)) (fun s8 _ => n - (RowKit.intOf s8).toNat)
  case atStart => exact ⟨0, Nat.zero_le _, rfl, W1.out.re (fun k _ => by simp)⟩
  case round =>
    clear W1
    obtain ⟨i, hi, rfl, HI⟩ := hrel
    by_cases hlt : i < n
    · have hltz : (i : Int) < (n : Int) := by omega
      have hi1 : (0 : Int) ≤ (i : Int) := by omega
      obtain ⟨x0, z0⟩ := HI.out.cell hlt
      have fz := own_frK HI.out.row
      have HX := hid ((HI.out.set i (-1)).1.re (f' := fun k => if k < i + 1 then -1 else 0) (fun k _ => by
        unfold upd
        by_cases e : k = i
        · rw [if_pos e, if_pos (by omega)]
        · rw [if_neg e]
          show (if k < i then (-1 : Int) else 0) = _
          by_cases e2 : k < i
          · rw [if_pos e2, if_pos (by omega)]
          · rw [if_neg e2, if_neg (by omega)]))
      go_wp2_with fail
      go_roundw
      case rel => exact ⟨i + 1, by omega, by go_num, HX.out⟩
      case measure => simp [RowKit.intOf]; omega
    · have hltz : ¬ (i : Int) < (n : Int) := by omega
      obtain ⟨x0, z0⟩ := HI.out.cell hq
      have fz := own_frK HI.out.row
      have HX := hid ((HI.out.set q 0).1.re (f' := fun k => if k = q then 0 else -1) (fun k hk => by
        unfold upd
        by_cases e : k = q
        · rw [if_pos e, if_pos e]
        · rw [if_neg e, if_neg e]
          show (if k < i then (-1 : Int) else 0) = _
          rw [if_pos (by omega)]))
      go_upto_region 7 with fail
      generalize (wr.setCell ⟨g, q, none⟩ (.int .i64 0)) = W2 at *
      clear x0 z0 fz HI
      go_wp2_with fail
      go_loopw [9, 10] (fun s9 _ wr => ∃ (k : Nat) (f : Nat → Int), k ≤ n ∧ s9 = .int .i64 (k : Nat) ∧ Hid (Wt w n g f wr ∧ ∀ x, x < ls.length → Dv ls q k x (f x))) (fun s9 _ _ => n - (RowKit.intOf s9).toNat)
      case atStart =>
        refine ⟨0, _, Nat.zero_le _, rfl, HX.out, fun x _ => ?_⟩
        by_cases e : x = q
        · rw [if_pos e]
          exact Or.inl ⟨0, Nat.le_refl _, Or.inl ⟨rfl, e⟩, rfl⟩
        · rw [if_neg e]
          refine Or.inr ⟨fun k hk ha => ?_, rfl⟩
          rcases ha with ⟨_, h⟩ | ⟨_, h, _⟩
          · exact e h
          · omega
      case round =>
        clear HX
        obtain ⟨k, f, hk, rfl, HI⟩ := hrel
        by_cases hlt2 : k < n
        · have hlt2z : (k : Int) < (n : Int) := by omega
          go_wp2_with fail
          go_loopw [10] (fun s10 wr => ∃ (i : Nat) (f : Nat → Int), i ≤ S.length ∧ s10 = .int .i64 (i : Nat) ∧ Hid (Wt w n g f wr ∧ Dr ls q k (S.take i) f)) (fun s10 _ => S.length - (RowKit.intOf s10).toNat)
          case atStart => exact ⟨0, f, Nat.zero_le _, rfl, HI.out.1, Dr.start HI.out.2⟩
          case round =>
            clear HI
            obtain ⟨i, f, hi2, rfl, HI⟩ := hrel
            by_cases hlt3 : i < S.length
            · have hlt3z : (i : Int) < (S.length : Int) := by omega
              have hi0 : (0 : Int) ≤ (i : Int) := by omega
              obtain ⟨s, hs'⟩ : ∃ s, S[i]? = some s := ⟨S[i], by simp⟩
              obtain ⟨p, y, rfl, hsp, hy⟩ := HS.out.to_ s (List.mem_of_getElem? hs')
              have hp := hsp.lt
              have HQ : Hid (S.take (i + 1) = S.take i ++ [⟨(p : Int), (y : Int), (0, 0, 0)⟩]) := by show _ = _; rw [List.take_add_one, hs']; rfl
              obtain ⟨b1, o1, c1, e1, z1, x0, x1, x2, x3, x4⟩ := ls_atC ((HL.out.below HI.out.1.bl).ls hs') hs'
              simp only [Value.slice.injEq] at e1
              obtain ⟨rfl, -, rfl⟩ := e1
              rw [← HN.out] at hp hy
              obtain ⟨d0, e0⟩ := HI.out.1.cell hy
              obtain ⟨d1, _⟩ := HI.out.1.cell hp
              have fz := own_frK HI.out.1.row
              have pz : (p : Int) < (n : Int) := by omega
              have p0 : (0 : Int) ≤ (p : Int) := by omega
              have yz : (y : Int) < (n : Int) := by omega
              have y0 : (0 : Int) ≤ (y : Int) := by omega
              have hwr : IntKind.i64.wrap ((k : Int) + 1) = (k : Int) + 1 := by rw [IntKind.wrap_i64]; omega
              have HSP := hid hsp
              clear hs' x2 x3 x4 hsp
              by_cases h1 : f y = (k : Int)
              · by_cases h2 : f p < 0
                · have FIN : Hid (Wt w n g (upd f p ((k : Int) + 1)) (wr.setCell ⟨g, p, none⟩ (.int .i64 ((k : Int) + 1))) ∧ Dr ls q k (S.take (i + 1)) (upd f p ((k : Int) + 1))) := ⟨(HI.out.1.set p _).1, by rw [HQ.out]; exact HI.out.2.step ((HI.out.2.at (by rw [← HN.out]; exact hy)).1 h1) h2 (by rw [← HN.out]; exact hp) HSP.out (by rw [← HN.out]; exact hq)⟩
                  go_wp2_with fail
                  go_roundw
                  case rel => exact ⟨i + 1, _, by omega, by go_num, FIN.out⟩
                  case measure => simp [RowKit.intOf]; omega
                · have FIN : Hid (Wt w n g f wr ∧ Dr ls q k (S.take (i + 1)) f) := ⟨HI.out.1, by rw [HQ.out]; exact HI.out.2.skip (fun h => h2 h.2) (by rw [← HN.out]; exact hp)⟩
                  go_wp2_with fail
                  go_roundw
                  case rel => exact ⟨i + 1, _, by omega, by go_num, FIN.out⟩
                  case measure => simp [RowKit.intOf]; omega
              · have FIN : Hid (Wt w n g f wr ∧ Dr ls q k (S.take (i + 1)) f) := ⟨HI.out.1, by rw [HQ.out]; exact HI.out.2.skip (fun h => h1 ((HI.out.2.at (by rw [← HN.out]; exact hy)).2 h.1)) (by rw [← HN.out]; exact hp)⟩
                go_wp2_with fail
                go_roundw
                case rel => exact ⟨i + 1, _, by omega, by go_num, FIN.out⟩
                case measure => simp [RowKit.intOf]; omega
            · have hlt3z : ¬ (i : Int) < (S.length : Int) := by omega
              have e : i = S.length := by omega
              subst e
              rw [List.take_length] at HI
              have FIN : Hid (Wt w n g f wr ∧ ∀ x, x < ls.length → Dv ls q (k + 1) x (f x)) := ⟨HI.out.1, HI.out.2.done HS.out⟩
              go_wp2_with fail
              go_roundw
              case rel => exact ⟨k + 1, f, by omega, by go_num, FIN.out⟩
              case measure => simp [RowKit.intOf]; omega
        · have hlt2z : ¬ (k : Int) < (n : Int) := by omega
          have e : k = n := by omega
          subst e
          have HE : Hid (∀ x, x < ls.length → Dv ls q k x (f x)) := HI.out.2
          go_wp2_with fail
          go_ret
          exact ⟨g, rfl, f, HI.out.1, fun x hx => HE.out x (by rw [← HN.out]; exact hx)⟩
end Go.Proofs.YtpgodnaebkmhhaaGreat.Df

namespace Go.Proofs.YtpgodnaebkmhhaaGreat.Df
open Go.RowKit Go.Sort
attribute [local go_sem ↓] Go.wp_at_zero Go.wp_at_succ
theorem infoLL : (Tryz.prog.info? 33).map (fun i => (i.zero, i.size, i.bytes)) = some (some (.slice none 0 0), 1, 24) := by kernel_rfl
theorem fl_L (vs : List LV) : fl EL vs = vs.map LV.v := by
  induction vs with
  | nil => rfl
  | cons x l ih => rw [fl_cons, ih]; rfl
theorem madeL (n : Nat) : (madeCells (Value.slice none 0 0).cells (n * 1)).toList = fl EL (List.replicate n ⟨none, 0, 0⟩) := by
  rw [Nat.mul_one, fl_L]
  exact (toList_madeCells_one _ n).trans (by simp)
theorem fldG2 (a b c : Value) (w : World) : Sem.run Tryz.prog (Instr.field 25 (.agg #[a, b, c]) 2) w = .ok c w := by kernel_rfl
/-- The lists as they are made: all empty. -/
theorem Fo.made {w w1 : World} {n : Nat} (hrow : w1.ownsRow w.heap.size 33 1 (.slice (some ⟨w.heap.size, 0, none⟩) n n) n (madeCells (Value.slice none 0 0).cells (n * 1)).toList) : Fo w.heap.size w1 (.slice (some ⟨w.heap.size, 0, none⟩) n n) (List.replicate n ⟨none, 0, 0⟩) (fun _ => []) := by
  have hnil : ∀ (k : Nat) (x : LV), (List.replicate n (⟨none, 0, 0⟩ : LV))[k]? = some x → x = ⟨none, 0, 0⟩ := fun k x h => List.eq_of_mem_replicate (List.mem_of_getElem? h)
  refine ⟨?_, fun k x h => ?_, fun k x h b e => ?_⟩
  · rw [List.length_replicate]
    rw [madeL] at hrow
    exact hrow
  · rw [hnil k x h]
    exact World.ownsRow_nil _ _ _ _
  · rw [hnil k x h] at e
    cases e
/-- What stands while the steps are gathered. -/
def Sg (w : World) (n g : Nat) (l : List (Nat × Nat)) (W : World) : Prop := ∃ vs, Fo w.heap.size W (.slice (some ⟨g, 0, none⟩) n n) vs (fromS l) ∧ vs.length = n ∧ Below w.heap.size w W
theorem Sg.below {w W W' : World} {n g : Nat} {l : List (Nat × Nat)} (h : Sg w n g l W) (hb : Below W.heap.size W W') : Sg w n g l W' := by
  obtain ⟨vs, h1, h2, h3⟩ := h
  exact ⟨vs, h1.below hb, h2, h3.trans (hb.mono h3.size)⟩
theorem Sg.cell {w W : World} {n g : Nat} {l : List (Nat × Nat)} (h : Sg w n g l W) {k : Nat} (hk : k < n) : ∃ vs x, Fo w.heap.size W (.slice (some ⟨g, 0, none⟩) n n) vs (fromS l) ∧ vs.length = n ∧ Below w.heap.size w W ∧ vs[k]? = some x ∧ W.cell? ⟨g, k, none⟩ = some x.v ∧ g < W.heap.size ∧ W.ownsRow w.heap.size 3 1 x.v (fromS l k).length (fl EI (fromS l k)) := by
  obtain ⟨vs, h1, h2, h3⟩ := h
  obtain ⟨x, hx⟩ : ∃ x, vs[k]? = some x := ⟨vs[k]'(by omega), by simp⟩
  obtain ⟨b, off, c, hv, hb, hc⟩ := ls_atL (owns_ls (E := EL) h1.row) hx
  simp only [Value.slice.injEq, Option.some.injEq, Addr.mk.injEq] at hv
  obtain ⟨⟨rfl, rfl, -⟩, -, -⟩ := hv
  rw [Nat.zero_add] at hc
  exact ⟨vs, x, h1, h2, h3, hx, hc, hb, h1.each k x hx⟩
set_option maxRecDepth 100000 in
set_option maxHeartbeats 8000000 in
/-- The steps of a graph, by place. -/
theorem stepsOf_any {B gb : Nat} {g : Gph} (w : World) (h : Gm B w gb g) (hOK : Gok g) : Calls Tryz.prog 29 #[.pointer (some ⟨gb, 0, none⟩)] w fun r w' => ∃ v, r = .returned v ∧ Hid (Below w.heap.size w w' ∧ Ff w'.heap.size w' v (stL g)) := by
  have hmx : Tryz.prog.follows .mixedOrders = true := by kernel_rfl
  have HM : Hid (∀ W, Below w.heap.size w W → Gm B W gb g) := fun W hb => h.below hb
  have HOK := hid hOK
  have hpl := plN_le hOK
  have hp := gplaces_any w h
  obtain ⟨n, hn⟩ : ∃ n, n = plN g.nodes := ⟨_, rfl⟩
  rw [← hn] at hpl hp
  have HN := hid hn
  have hnl := hOK.nl
  have hel := hOK.el
  clear h hOK hn
  obtain ⟨i0, hi0, hz0, hz1, hz2⟩ := info_parts infoLL
  go_enter Tryz.func29, Tryz.ntmps29
  go_wp2_with fail
  refine hp.mono ?_
  clear hp
  rintro r w1 ⟨rfl, hw1⟩
  have hw2 := hw1.symm
  subst hw2
  clear hw1
  go_upto_region 2 with (at_make; refine wpList_make_full _ rfl _ _ 67 rfl w.heap.size 33 i0 (.slice none 0 0) 1 Tryz.underlying67 hi0 hz0 hz1 _ _ _ _ n rfl rfl rfl rfl (by rw [hz2]; omega) (by unfold maxLen; omega) (Nat.le_refl _) ?_; intro w2 hrow hg1)
  have hb2 : Below w.heap.size w w2 := (Kp.grownBy (S := fun _ => False) hg1 (fun _ h => by cases h)).below (Nat.le_refl _) (fun _ h => h.elim)
  have S2 : Hid (Sg w n w.heap.size [] w2) := ⟨_, (Fo.made hrow).re (fun k _ => rfl), by simp, hb2⟩
  obtain ⟨gg, hgg⟩ : ∃ g, g = w.heap.size := ⟨_, rfl⟩
  rw [← hgg] at S2 ⊢
  have hraw := graw_any w2 (HM.out w2 hb2)
  clear hrow hg1 hgg hi0 hz0 hz1 hz2 hb2
  go_wp2_with fail
  refine hraw.mono ?_
  clear hraw
  rintro r w3 ⟨nv, ev, ys, HR⟩
  obtain ⟨rfl, hb3, hys, hcg⟩ := HR.out
  clear HR
  have S3 : Hid (Sg w n gg [] w3 ∧ w3.ownsRow w2.heap.size 74 5 ev g.edges.length (fl ED g.edges)) := ⟨S2.out.below hb3, hcg.edges⟩
  obtain ⟨qn, mn, cn, hq⟩ := owns_form hcg.nodes
  obtain ⟨qe, me, ce, hqe⟩ := owns_form hcg.edges
  subst hq
  subst hqe
  obtain ⟨rfl, hce⟩ := owns_caps hcg.edges _ _ _ rfl
  obtain ⟨es, hes⟩ : ∃ es, es = g.edges := ⟨_, rfl⟩
  rw [← hes] at S3 hel hce ⊢
  have HES := hid hes
  generalize hml : es.length = el at S3 hel hce ⊢
  have HEL := hid hml
  clear hcg hys hb3 S2 hes hml
  dsimp only [gvc]
  have fd := fldG2 (.int .i64 g.arity) (.slice qn mn cn) (.slice qe el ce)
  go_wp2_with fail
  go_loopw [20] (fun s20 wr => ∃ i : Nat, i ≤ el ∧ s20 = .int .i64 (i : Nat) ∧ Hid (Sg w n gg (edgS g.nodes (es.take i)) wr ∧ wr.ownsRow w2.heap.size 74 5 (.slice qe el ce) el (fl ED es))) (fun s20 _ => el - (RowKit.intOf s20).toNat)
  case atStart => exact ⟨0, Nat.zero_le _, rfl, S3.out⟩
  case round =>
    clear S3
    obtain ⟨i, hi, rfl, HI⟩ := hrel
    by_cases hlt : i < el
    · have hltz : (i : Int) < (el : Int) := by omega
      have hi1 : (0 : Int) ≤ (i : Int) := by omega
      obtain ⟨y, hy⟩ : ∃ y, es[i]? = some y := ⟨es[i]'(by have := HEL.out; omega), by simp⟩
      have HY := hid hy
      have HEN : Hid (hasON g.nodes y.src y.out = true ∧ hasIN g.nodes y.dst y.inn = true) := HOK.out.ends (by rw [← HES.out]; exact hy)
      obtain ⟨b1, o1, q1, ev1, zz1, x0, x1, x2, x3, x4⟩ := ls_atD (owns_ls (E := ED) (owns_re HI.out.2 HEL.out.symm rfl)) hy
      simp only [Value.slice.injEq] at ev1
      obtain ⟨rfl, -, rfl⟩ := ev1
      clear hy
      obtain ⟨yb, hyb⟩ : ∃ b, b = wr.heap.size := ⟨_, rfl⟩
      obtain ⟨W5, hW5⟩ : ∃ W, W = wr.alloc (.cells (ecells y) 74) := ⟨_, rfl⟩
      have P5 : Hid (Sg w n gg (edgS g.nodes (es.take i)) W5 ∧ W5.ownsRow w2.heap.size 74 5 (.slice (some ⟨b1, o1, none⟩) el ce) el (fl ED es) ∧ W5.heap[yb]? = some (.cells (ecells y) 74 (0, 0))) := by
        have g5 := ((Gr.refl wr).alloc (.cells (ecells y) 74)).below
        rw [hW5, hyb]
        exact ⟨HI.out.1.below g5, owns_below HI.out.2 g5, heap_new' _ _⟩
      have HW5 : Hid (wr.alloc (.cells #[.int .i64 y.src, .int .i64 y.out, .int .i64 y.dst, .int .i64 y.inn, .bool y.keyed] 74) = W5 ∧ wr.heap.size = yb) := ⟨hW5.symm, hyb.symm⟩
      clear hW5 hyb HI
      go_upto_region 5 with fail
      rw [HW5.out.1, HW5.out.2]
      clear HW5 x0 x1 x2 x3 x4 zz1
      have hout := gout_any y.src y.out W5 (HM.out W5 (by obtain ⟨_, _, _, h⟩ := P5.out.1; exact h))
      rw [outN_pl HEN.out.1 HOK.out.pok] at hout
      obtain ⟨fr, hfr⟩ : ∃ k, k = outPl g.nodes y := ⟨_, rfl⟩
      rw [← hfr] at hout
      have hfn : fr < n := by rw [hfr, HN.out]; exact outPl_lt HEN.out.1
      have HFR := hid hfr
      clear hfr
      have c5 := (tk_store P5.out.2.2).1
      have l5 := tk_lt P5.out.2.2
      go_wp2_with fail
      refine hout.mono ?_
      clear hout c5 l5
      rintro r W6 ⟨rfl, g6⟩
      go_upto_region 6 with fail
      obtain ⟨pl, hpl2⟩ : ∃ p, p = edgS g.nodes (es.take i) := ⟨_, rfl⟩
      obtain ⟨pi, hpi⟩ : ∃ k, k = inPl g.nodes y := ⟨_, rfl⟩
      have hS := P5.out.1.below g6.below
      have HE6 := hid (owns_below P5.out.2.1 g6.below)
      have HD : Hid (W6.heap[yb]? = some (.cells (ecells y) 74 (0, 0))) := (g6.below.block _ (tk_lt P5.out.2.2)).trans P5.out.2.2
      have HNX : Hid (pl ++ [(fr, pi)] = edgS g.nodes (es.take (i + 1))) := by
        show _ = _
        rw [hpl2, HFR.out, hpi, List.take_add_one, HY.out]
        simp [edgS, edgP]
      rw [← hpl2] at hS
      have hll := fromS_len pl fr
      have hpn : pl.length ≤ 48 := by
        rw [hpl2]
        simp only [edgS, List.length_map, List.length_take]
        omega
      obtain ⟨vs, ⟨xq, xm, xc⟩, f1, f2, f3, f4, f5, f6, f7⟩ := hS.cell hfn
      have HF : Hid (Fo w.heap.size W6 (.slice (some ⟨gg, 0, none⟩) n n) vs (fromS pl) ∧ vs.length = n ∧ vs[fr]? = some ⟨xq, xm, xc⟩) := ⟨f1, f2, f4⟩
      have HBL := hid f3
      have HBW := hid f3.size
      have HC : Hid (W6.cell? ⟨gg, fr, none⟩ = some (.slice xq xm xc) ∧ gg < W6.heap.size ∧ fr = fr) := ⟨f5, f6, rfl⟩
      have HIN : Hid (∀ W, Below W6.heap.size W6 W → Calls Tryz.prog 50 #[.pointer (some ⟨gb, 0, none⟩), .int .i64 y.dst, .int .i64 y.inn] W fun r w' => r = .returned (.int .i64 ((pi : Nat) : Int)) ∧ Gr W w') := fun W hb => by
        have h := gin_any y.dst y.inn W (HM.out W (f3.trans (hb.mono f3.size)))
        rw [inN_pl HEN.out.2, ← hpi] at h
        exact h.mono (fun r w' hr => ⟨hr.1, by rw [hr.2]; exact Gr.refl _⟩)
      obtain ⟨LL, hLL⟩ : ∃ l, l = fromS pl fr := ⟨_, rfl⟩
      rw [← hLL] at f7 hll
      have HRW := hid f7
      have HLL := hid hLL
      have HLE : Hid (LL.length ≤ 48) := Nat.le_trans hll hpn
      have hf0 : (0 : Int) ≤ (fr : Int) := by omega
      have hfz : (fr : Int) < (n : Int) := by omega
      clear f1 f2 f3 f4 f5 f6 f7 hLL hll hpn hpl2 hpi hS g6 P5
      have hB0 : Below W6.heap.size W6 W6.drew := (Gr.refl W6).drew.below
      have HSB : Hid (∀ W, Below W6.heap.size W6 W → W.cell? ⟨gg, fr, none⟩ = some (.slice xq xm xc) ∧ gg < W.heap.size ∧ W.heap[yb]? = some (.cells (ecells y) 74 (0, 0))) := fun W hb => ⟨(hb.cell (p := ⟨gg, fr, none⟩) HC.out.2.1).trans HC.out.1, Nat.lt_of_lt_of_le HC.out.2.1 hb.size, (hb.block _ (tk_lt HD.out)).trans HD.out⟩
      have hS0 := HSB.out _ hB0
      refine wp_regionD (S := fun W => W.cell? ⟨gg, fr, none⟩ = some (.slice xq xm xc) ∧ gg < W.heap.size ∧ W.heap[yb]? = some (.cells (ecells y) 74 (0, 0))) (D := [15]) hmx ?_
      refine' wpAnyD_take (i := 0) (oi := { dst := some 30, op := Go.Op.move (Go.Operand.tmp 3), type := 67, pos := "cycle.go:92", after := #[], guard := none }) (v := _) rfl (by kernel_rfl) (by kernel_rfl) (by kernel_rfl) (fun _ _ _ h => h) (by kernel_rfl) (Or.inl ⟨by rfl, ?hy1⟩) hS0 ?rest1
      case hy1 => (intro W hSw; go_simp; try (with_reducible rfl))
      try simp only [Act.put, List.setIfInBounds_toArray, List.set_cons_zero, List.set_cons_succ]
      refine' wpAnyD_take (i := 1) (oi := { dst := some 31, op := Go.Op.move (Go.Operand.tmp 6), type := 3, pos := "cycle.go:92", after := #[], guard := none }) (v := _) rfl (by kernel_rfl) (by kernel_rfl) (by kernel_rfl) (fun _ _ _ h => h) (by kernel_rfl) (Or.inl ⟨by rfl, ?hy2⟩) hS0 ?rest2
      case hy2 => (intro W hSw; go_simp; try (with_reducible rfl))
      try simp only [Act.put, List.setIfInBounds_toArray, List.set_cons_zero, List.set_cons_succ]
      refine' wpAnyD_take (i := 2) (oi := { dst := some 32, op := Go.Op.move (Go.Operand.tmp 3), type := 67, pos := "cycle.go:92", after := #[], guard := none }) (v := _) rfl (by kernel_rfl) (by kernel_rfl) (by kernel_rfl) (fun _ _ _ h => h) (by kernel_rfl) (Or.inl ⟨by rfl, ?hy3⟩) hS0 ?rest3
      case hy3 => (intro W hSw; go_simp; try (with_reducible rfl))
      try simp only [Act.put, List.setIfInBounds_toArray, List.set_cons_zero, List.set_cons_succ]
      refine' wpAnyD_take (i := 3) (oi := { dst := some 33, op := Go.Op.move (Go.Operand.tmp 6), type := 3, pos := "cycle.go:92", after := #[], guard := none }) (v := _) rfl (by kernel_rfl) (by kernel_rfl) (by kernel_rfl) (fun _ _ _ h => h) (by kernel_rfl) (Or.inl ⟨by rfl, ?hy4⟩) hS0 ?rest4
      case hy4 => (intro W hSw; go_simp; try (with_reducible rfl))
      try simp only [Act.put, List.setIfInBounds_toArray, List.set_cons_zero, List.set_cons_succ]
      refine' wpAnyD_take (i := 4) (oi := { dst := some 34, op := Go.Op.indexAddr 67 (Go.Operand.tmp 32) (Go.Operand.tmp 33), type := 0, pos := "cycle.go:92", after := #[{ on := 2, ground := Go.Ground.data }, { on := 3, ground := Go.Ground.data }], guard := none }) (v := _) rfl (by kernel_rfl) (by kernel_rfl) (by kernel_rfl) (fun _ _ _ h => h) (by kernel_rfl) (Or.inl ⟨by rfl, ?hy5⟩) hS0 ?rest5
      case hy5 => (intro W hSw; go_simp; try (with_reducible rfl))
      try simp only [Act.put, List.setIfInBounds_toArray, List.set_cons_zero, List.set_cons_succ]
      refine' wpAnyD_take (i := 5) (oi := { dst := some 35, op := Go.Op.load 33 (Go.Operand.tmp 34), type := 33, pos := "cycle.go:92", after := #[{ on := 4, ground := Go.Ground.data }], guard := none }) (v := _) rfl (by kernel_rfl) (by kernel_rfl) (by kernel_rfl) (fun _ _ _ h => h) (by kernel_rfl) (Or.inl ⟨by rfl, ?hy6⟩) hS0 ?rest6
      case hy6 => (intro W hSw; have hc := hSw.1; have hl := hSw.2.1; go_simp; try (with_reducible rfl))
      try simp only [Act.put, List.setIfInBounds_toArray, List.set_cons_zero, List.set_cons_succ]
      refine' wpAnyD_take (i := 6) (oi := { dst := some 36, op := Go.Op.move (Go.Operand.tmp 0), type := 29, pos := "cycle.go:92", after := #[], guard := none }) (v := _) rfl (by kernel_rfl) (by kernel_rfl) (by kernel_rfl) (fun _ _ _ h => h) (by kernel_rfl) (Or.inl ⟨by rfl, ?hy7⟩) hS0 ?rest7
      case hy7 => (intro W hSw; go_simp; try (with_reducible rfl))
      try simp only [Act.put, List.setIfInBounds_toArray, List.set_cons_zero, List.set_cons_succ]
      refine' wpAnyD_take (i := 7) (oi := { dst := some 37, op := Go.Op.fieldAddr 74 (Go.Operand.tmp 5) 2, type := 0, pos := "cycle.go:92", after := #[], guard := none }) (v := _) rfl (by kernel_rfl) (by kernel_rfl) (by kernel_rfl) (fun _ _ _ h => h) (by kernel_rfl) (Or.inl ⟨by rfl, ?hy8⟩) hS0 ?rest8
      case hy8 => (intro W hSw; go_simp; try (with_reducible rfl))
      try simp only [Act.put, List.setIfInBounds_toArray, List.set_cons_zero, List.set_cons_succ]
      refine' wpAnyD_take (i := 8) (oi := { dst := some 38, op := Go.Op.load 3 (Go.Operand.tmp 37), type := 3, pos := "cycle.go:92", after := #[{ on := 7, ground := Go.Ground.data }], guard := none }) (v := _) rfl (by kernel_rfl) (by kernel_rfl) (by kernel_rfl) (fun _ _ _ h => h) (by kernel_rfl) (Or.inl ⟨by rfl, ?hy9⟩) hS0 ?rest9
      case hy9 => (intro W hSw; have hc := (tk_store hSw.2.2).1; have hl := tk_lt hSw.2.2; go_simp; try (with_reducible rfl))
      try simp only [Act.put, List.setIfInBounds_toArray, List.set_cons_zero, List.set_cons_succ]
      refine' wpAnyD_take (i := 9) (oi := { dst := some 39, op := Go.Op.fieldAddr 74 (Go.Operand.tmp 5) 3, type := 0, pos := "cycle.go:92", after := #[], guard := none }) (v := _) rfl (by kernel_rfl) (by kernel_rfl) (by kernel_rfl) (fun _ _ _ h => h) (by kernel_rfl) (Or.inl ⟨by rfl, ?hy10⟩) hS0 ?rest10
      case hy10 => (intro W hSw; go_simp; try (with_reducible rfl))
      try simp only [Act.put, List.setIfInBounds_toArray, List.set_cons_zero, List.set_cons_succ]
      refine' wpAnyD_take (i := 10) (oi := { dst := some 40, op := Go.Op.load 3 (Go.Operand.tmp 39), type := 3, pos := "cycle.go:92", after := #[{ on := 9, ground := Go.Ground.data }], guard := none }) (v := _) rfl (by kernel_rfl) (by kernel_rfl) (by kernel_rfl) (fun _ _ _ h => h) (by kernel_rfl) (Or.inl ⟨by rfl, ?hy11⟩) hS0 ?rest11
      case hy11 => (intro W hSw; have hc := (tk_store hSw.2.2).1; have hl := tk_lt hSw.2.2; go_simp; try (with_reducible rfl))
      try simp only [Act.put, List.setIfInBounds_toArray, List.set_cons_zero, List.set_cons_succ]
      refine wpAnyD_one (i := 11) (o := { dst := some 41, op := Go.Op.call { callee := Go.Callee.value (Go.Operand.func 50), args := #[Go.Operand.tmp 36, Go.Operand.tmp 38, Go.Operand.tmp 40], argTypes := #[29, 3, 3] }, type := 3, pos := "cycle.go:92", after := #[{ on := 6, ground := Go.Ground.data }, { on := 8, ground := Go.Ground.data }, { on := 10, ground := Go.Ground.data }], guard := none }) (by kernel_rfl) rfl (fun K hK => ?_)
      go_simp
      refine (HIN.out _ hB0).mono ?_
      rintro r w7 ⟨rfl, g7⟩
      have hS7 : Below W6.heap.size W6 w7 := hB0.trans (g7.below.mono hB0.size)
      clear g7
      go_wp2_with fail
      refine hK.out _ _ (fun hD => HSB.out _ hS7) ?_
      clear hK K
      try simp only [Act.put, List.setIfInBounds_toArray, List.set_cons_zero, List.set_cons_succ]
      refine wpAnyD_one (i := 12) (o := { dst := some 42, op := Go.Op.buildSlice 33 1 #[(0, Go.Operand.tmp 41)], type := 33, pos := "cycle.go:92", after := #[{ on := 11, ground := Go.Ground.data }], guard := none }) (by kernel_rfl) rfl (fun K hK => ?_)
      go_simp
      have hS8 : Below W6.heap.size W6 (w7.alloc (.cells #[.int .i64 ((pi : Nat) : Int)] 3)) := hS7.trans (((Gr.refl w7).alloc _).below.mono hS7.size)
      refine hK.out _ _ (fun hD => HSB.out _ hS8) ?_
      clear hK K
      try simp only [Act.put, List.setIfInBounds_toArray, List.set_cons_zero, List.set_cons_succ]
      refine wpAnyD_one (i := 13) (o := { dst := some 43, op := Go.Op.call { callee := Go.Callee.builtin Go.Builtin.append, args := #[Go.Operand.tmp 35, Go.Operand.tmp 42], argTypes := #[33, 33] }, type := 33, pos := "cycle.go:92", after := #[{ on := 5, ground := Go.Ground.data }, { on := 12, ground := Go.Ground.data }, { on := 11, ground := Go.Ground.chain }], guard := none }) (by kernel_rfl) rfl (fun K hK => ?_)
      refine step_app1 EI Tryz.underlying33 infoI rfl (by decide) rfl _ _ rfl w.heap.size (.slice xq xm xc) LL.length (fl EI LL) rfl (owns_below HRW.out hS7) ((pi : Nat) : Int) (by first | rfl | simp) (by have := HLE.out; omega) (by have := HLE.out; unfold maxLen; omega) (Nat.le_trans HBW.out hS7.size) _ rfl _ ?_
      intro g8 cap8 w8 h8 k8 n8
      have ST : Hid (Sg w n gg (pl ++ [(fr, pi)]) (w8.setCell ⟨gg, fr, none⟩ (.slice (some ⟨g8, 0, none⟩) (LL.length + 1) cap8)) ∧ (w8.setCell ⟨gg, fr, none⟩ (.slice (some ⟨g8, 0, none⟩) (LL.length + 1) cap8)).ownsRow w2.heap.size 74 5 (.slice (some ⟨b1, o1, none⟩) el ce) el (fl ED es)) := by
        have hf := HF.out.1.below hS7
        rw [HLL.out] at h8 ⊢
        obtain ⟨h1, h2⟩ := hf.step HF.out.2.2 (by rw [HF.out.2.1]) h8.out k8.out n8.out
        refine ⟨⟨_, h1.re (fun k _ => (fromS_snoc pl (fr, pi) k).symm), by rw [List.length_set]; exact HF.out.2.1, (HBL.out.trans (hS7.mono HBL.out.size)).trans (h2.below (Nat.le_trans HBL.out.size hS7.size) (hf.blocks HF.out.2.2))⟩, ?_⟩
        exact hf.other HF.out.2.2 h2 (owns_below HE6.out hS7) (by decide) (by decide)
      have hb8 := (Kp.grownBy (S := fun k => (Value.slice xq xm xc).ownBlock = some k) k8.out (fun _ h => h))
      have F8 : Hid (w8.frozen? ⟨gg, fr, none⟩ = false ∧ gg < w8.heap.size ∧ w8.cell? ⟨gg, fr, none⟩ = some (.slice xq xm xc) ∧ w8.heap[yb]? = some (.cells (ecells y) 74 (0, 0))) := by
        have hf := HF.out.1.below hS7
        have hne := owns_ne_own hf.row (hf.each fr _ HF.out.2.2) (by decide)
        have hr8 := owns_kp hb8 hf.row (fun j e e2 => hne j e e2)
        rw [HF.out.2.1] at hr8
        exact ⟨hr8.frozenAt _, Nat.lt_of_lt_of_le HC.out.2.1 (Nat.le_trans hS7.size hb8.size), (hb8.cell (Nat.lt_of_lt_of_le HC.out.2.1 hS7.size) (fun e => hne gg rfl e)).trans ((hS7.cell (p := ⟨gg, fr, none⟩) HC.out.2.1).trans HC.out.1), (hb8.block _ (Nat.lt_of_lt_of_le (tk_lt HD.out) hS7.size) (fun e => owns_ne_blk (owns_below HRW.out hS7) (HSB.out _ hS7).2.2 (by decide) yb e rfl)).trans (HSB.out _ hS7).2.2⟩
      clear h8 k8 n8 hb8
      generalize LL.length + 1 = ll at ST ⊢
      refine hK.out _ _ (fun hD => ⟨F8.out.2.2.1, F8.out.2.1, F8.out.2.2.2⟩) ?_
      clear hK K
      try simp only [Act.put, List.setIfInBounds_toArray, List.set_cons_zero, List.set_cons_succ]
      refine' wpAnyD_take (i := 14) (oi := { dst := some 44, op := Go.Op.indexAddr 67 (Go.Operand.tmp 30) (Go.Operand.tmp 31), type := 0, pos := "cycle.go:92", after := #[{ on := 0, ground := Go.Ground.data }, { on := 1, ground := Go.Ground.data }, { on := 0, ground := Go.Ground.phase }, { on := 1, ground := Go.Ground.phase }, { on := 2, ground := Go.Ground.phase }, { on := 3, ground := Go.Ground.phase }, { on := 4, ground := Go.Ground.phase }, { on := 5, ground := Go.Ground.phase }, { on := 6, ground := Go.Ground.phase }, { on := 7, ground := Go.Ground.phase }, { on := 8, ground := Go.Ground.phase }, { on := 9, ground := Go.Ground.phase }, { on := 10, ground := Go.Ground.phase }, { on := 11, ground := Go.Ground.phase }, { on := 12, ground := Go.Ground.phase }, { on := 13, ground := Go.Ground.phase }], guard := none }) (v := _) rfl (by kernel_rfl) (by kernel_rfl) (by kernel_rfl) (fun _ _ _ h => h) (by kernel_rfl) (Or.inl ⟨by rfl, ?hy15⟩) ⟨F8.out.2.2.1, F8.out.2.1, F8.out.2.2.2⟩ ?rest15
      case hy15 => (intro W hSw; go_simp; try (with_reducible rfl))
      try simp only [Act.put, List.setIfInBounds_toArray, List.set_cons_zero, List.set_cons_succ]
      refine wpAnyD_one (i := 15) (o := { dst := none, op := Go.Op.store 33 (Go.Operand.tmp 44) (Go.Operand.tmp 43), type := 0, pos := "cycle.go:92", after := #[{ on := 14, ground := Go.Ground.data }, { on := 13, ground := Go.Ground.data }, { on := 13, ground := Go.Ground.chain }, { on := 0, ground := Go.Ground.phase }, { on := 1, ground := Go.Ground.phase }, { on := 2, ground := Go.Ground.phase }, { on := 3, ground := Go.Ground.phase }, { on := 4, ground := Go.Ground.phase }, { on := 5, ground := Go.Ground.phase }, { on := 6, ground := Go.Ground.phase }, { on := 7, ground := Go.Ground.phase }, { on := 8, ground := Go.Ground.phase }, { on := 9, ground := Go.Ground.phase }, { on := 10, ground := Go.Ground.phase }, { on := 11, ground := Go.Ground.phase }, { on := 12, ground := Go.Ground.phase }, { on := 13, ground := Go.Ground.phase }], guard := none }) (by kernel_rfl) rfl (fun K hK => ?_)
      have c8 := F8.out.2.2.1
      have f8 := F8.out.1
      have l8 := F8.out.2.1
      go_simp
      generalize (w8.setCell ⟨gg, fr, none⟩ (.slice (some ⟨g8, 0, none⟩) ll cap8)) = w9 at ST ⊢
      clear c8 f8 l8
      refine hK.out _ _ (fun hD => absurd (by decide) hD) ?_
      clear hK K
      try simp only [Act.put, List.setIfInBounds_toArray, List.set_cons_zero, List.set_cons_succ]
      refine wpAnyD_done (by kernel_rfl) ?_ _
      have FIN : Hid (Sg w n gg (edgS g.nodes (es.take (i + 1))) w9 ∧ w9.ownsRow w2.heap.size 74 5 (.slice (some ⟨b1, o1, none⟩) el ce) el (fl ED es)) := by rw [← HNX.out]; exact ST.out
      clear ST HNX hS0 hS7 hB0 HSB
      go_upto_region 7 with fail
      go_wp2_with fail
      go_roundw
      case rel => exact ⟨i + 1, by omega, by go_num, FIN.out⟩
      case measure => simp [RowKit.intOf]; omega
    · have hltz : ¬ (i : Int) < (el : Int) := by omega
      have S9 : Hid (Sg w n gg (edgS g.nodes es) wr) := by
        have h := HI.out.1
        rw [List.take_of_length_le (by have := HEL.out; omega)] at h
        exact h
      have hnod := gnodes_any wr (HM.out wr (by obtain ⟨_, _, _, h⟩ := S9.out; exact h))
      obtain ⟨nl, hnl2⟩ : ∃ k, k = g.nodes.length := ⟨_, rfl⟩
      rw [← hnl2] at hnod hnl
      have HNL := hid hnl2
      clear HI hnl2
      go_wp2_with fail
      refine hnod.mono ?_
      clear hnod
      rintro r w10 ⟨rfl, hw10⟩
      subst hw10
      go_wp2_with fail
      go_loopw [48] (fun s48 wr => ∃ i : Nat, i ≤ nl ∧ s48 = .int .i64 (i : Nat) ∧ Hid (Sg w n gg (edgS g.nodes es ++ nodU g.nodes i) wr)) (fun s48 _ => nl - (RowKit.intOf s48).toNat)
      case atStart => exact ⟨0, Nat.zero_le _, rfl, by have h := S9.out; show Sg _ _ _ _ _; simpa [nodU] using h⟩
      case round =>
        clear S9
        obtain ⟨j, hj, rfl, HI⟩ := hrel
        by_cases hlj : j < nl
        · have hljz : (j : Int) < (nl : Int) := by omega
          have hj1 : (0 : Int) ≤ (j : Int) := by omega
          have hcon := gconns_any (j : Int) wr (HM.out wr (by obtain ⟨_, _, _, h⟩ := HI.out; exact h))
          obtain ⟨cs, hcs⟩ : ∃ l, l = connsAt g.nodes (j : Int) := ⟨_, rfl⟩
          rw [← hcs] at hcon
          have hcl : cs.length ≤ 16 := by rw [hcs]; exact HOK.out.conLen j
          have HCS := hid hcs
          clear hcs
          go_wp2_with fail
          refine hcon.mono ?_
          clear hcon
          rintro r w11 ⟨dv, rfl, hb11, hcr⟩
          obtain ⟨qc, mc, cc, hqc⟩ := owns_form hcr
          subst hqc
          obtain ⟨rfl, hcc⟩ := owns_caps hcr _ _ _ rfl
          have hB1 : ∃ b, b = wr.heap.size := ⟨_, rfl⟩
          obtain ⟨B1, hB1⟩ := hB1
          rw [← hB1] at hcr
          have S11 : Hid (Sg w n gg (edgS g.nodes es ++ nodU g.nodes j) w11 ∧ w11.ownsRow B1 72 5 (.slice qc cs.length cc) cs.length (fl EC cs)) := ⟨HI.out.below hb11, hcr⟩
          generalize hml : cs.length = cl at S11 hcl hcc ⊢
          have HCL := hid hml
          clear hb11 hcr HI hml hB1
          go_wp2_with fail
          go_loopw [55] (fun s55 wr => ∃ k : Nat, k ≤ cl ∧ s55 = .int .i64 (k : Nat) ∧ Hid (Sg w n gg (edgS g.nodes es ++ nodU g.nodes j ++ nodS g.nodes j (cs.take k)) wr ∧ wr.ownsRow B1 72 5 (.slice qc cl cc) cl (fl EC cs))) (fun s55 _ => cl - (RowKit.intOf s55).toNat)
          case atStart => exact ⟨0, Nat.zero_le _, rfl, by have h := S11.out; show Sg _ _ _ _ _ ∧ _; simpa [nodS] using h⟩
          case round =>
            clear S11
            obtain ⟨k, hk, rfl, HI⟩ := hrel
            by_cases hlk : k < cl
            · have hlkz : (k : Int) < (cl : Int) := by omega
              have hk1 : (0 : Int) ≤ (k : Int) := by omega
              obtain ⟨y, hy⟩ : ∃ y, cs[k]? = some y := ⟨cs[k]'(by have := HCL.out; omega), by simp⟩
              have HY := hid hy
              have HEN : Hid (hasIN g.nodes (j : Int) y.inn = true ∧ hasON g.nodes (j : Int) y.out = true) := HOK.out.con (by rw [← HCS.out]; exact List.mem_of_getElem? hy)
              obtain ⟨b1, o1, q1, ev1, zz1, x0, x1, x2, x3, x4⟩ := ls_atC (owns_ls (E := EC) (owns_re HI.out.2 HCL.out.symm rfl)) hy
              simp only [Value.slice.injEq] at ev1
              obtain ⟨rfl, -, rfl⟩ := ev1
              clear hy
              obtain ⟨yb, hyb⟩ : ∃ b, b = wr.heap.size := ⟨_, rfl⟩
              obtain ⟨W5, hW5⟩ : ∃ W, W = wr.alloc (.cells (ccells y) 72) := ⟨_, rfl⟩
              have P5 : Hid (Sg w n gg (edgS g.nodes es ++ nodU g.nodes j ++ nodS g.nodes j (cs.take k)) W5 ∧ W5.ownsRow B1 72 5 (.slice (some ⟨b1, o1, none⟩) cl cc) cl (fl EC cs) ∧ W5.heap[yb]? = some (.cells (ccells y) 72 (0, 0))) := by
                have g5 := ((Gr.refl wr).alloc (.cells (ccells y) 72)).below
                rw [hW5, hyb]
                exact ⟨HI.out.1.below g5, owns_below HI.out.2 g5, heap_new' _ _⟩
              have HW5 : Hid (wr.alloc (.cells #[.int .i64 y.inn, .int .i64 y.out, .int .u64 (y.via.1 : Nat), .int .u64 (y.via.2.1 : Nat), .int .u64 (y.via.2.2 : Nat)] 72) = W5 ∧ wr.heap.size = yb) := ⟨hW5.symm, hyb.symm⟩
              clear hW5 hyb HI
              go_upto_region 14 with fail
              rw [HW5.out.1, HW5.out.2]
              clear HW5 x0 x1 x2 x3 x4 zz1
              have c5 := (tk_store P5.out.2.2).1
              have l5 := tk_lt P5.out.2.2
              by_cases hE : y.via = (0, 0, 0)
              · have hin := gin_any (j : Int) y.inn W5 (HM.out W5 (by obtain ⟨_, _, _, h⟩ := P5.out.1; exact h))
                rw [cIn_eq HEN.out.1] at hin
                obtain ⟨fr, hfr⟩ : ∃ k, k = cIn g.nodes j y := ⟨_, rfl⟩
                rw [← hfr] at hin
                have hfn : fr < n := by rw [hfr, HN.out]; exact cIn_lt HEN.out.1
                have HFR := hid hfr
                clear hfr
                obtain ⟨hE1, hE2, hE3⟩ : y.via.1 = 0 ∧ y.via.2.1 = 0 ∧ y.via.2.2 = 0 := by rw [hE]; exact ⟨rfl, rfl, rfl⟩
                go_wp2_with fail
                refine hin.mono ?_
                clear hin c5 l5
                rintro r W6 ⟨rfl, hW6⟩
                subst hW6
                go_upto_region 16 with fail
                obtain ⟨pl, hpl2⟩ : ∃ p, p = edgS g.nodes es ++ nodU g.nodes j ++ nodS g.nodes j (cs.take k) := ⟨_, rfl⟩
                obtain ⟨pi, hpi⟩ : ∃ k, k = cOut g.nodes j y := ⟨_, rfl⟩
                have hS := P5.out.1
                have HE6 := hid P5.out.2.1
                have HD := hid P5.out.2.2
                have HNX : Hid (pl ++ [(fr, pi)] = edgS g.nodes es ++ nodU g.nodes j ++ nodS g.nodes j (cs.take (k + 1))) := by
                  show _ = _
                  rw [hpl2, HFR.out, hpi, List.take_add_one, HY.out]
                  simp [nodS, isE, conS, hE]
                rw [← hpl2] at hS
                have hll := fromS_len pl fr
                have hpn : pl.length ≤ 500 := by
                  have h1 := nodU_len HOK.out j
                  have h2 : (nodS g.nodes j (cs.take k)).length ≤ k := by
                    unfold nodS
                    rw [List.length_map]
                    exact Nat.le_trans (List.length_filter_le _ _) (by rw [List.length_take]; omega)
                  rw [hpl2, List.length_append, List.length_append]
                  simp only [edgS, List.length_map]
                  have := HEL.out
                  omega
                obtain ⟨vs, ⟨xq, xm, xc⟩, f1, f2, f3, f4, f5, f6, f7⟩ := hS.cell hfn
                have HF : Hid (Fo w.heap.size W6 (.slice (some ⟨gg, 0, none⟩) n n) vs (fromS pl) ∧ vs.length = n ∧ vs[fr]? = some ⟨xq, xm, xc⟩) := ⟨f1, f2, f4⟩
                have HBL := hid f3
                have HBW := hid f3.size
                have HC : Hid (W6.cell? ⟨gg, fr, none⟩ = some (.slice xq xm xc) ∧ gg < W6.heap.size ∧ fr = fr) := ⟨f5, f6, rfl⟩
                have HIN : Hid (∀ W, Below W6.heap.size W6 W → Calls Tryz.prog 49 #[.pointer (some ⟨gb, 0, none⟩), .int .i64 (j : Int), .int .i64 y.out] W fun r w' => r = .returned (.int .i64 ((pi : Nat) : Int)) ∧ Gr W w') := fun W hb => by
                  have h := gout_any (j : Int) y.out W (HM.out W (f3.trans (hb.mono f3.size)))
                  rw [cOut_eq HOK.out.pok HEN.out.2, ← hpi] at h
                  exact h
                obtain ⟨LL, hLL⟩ : ∃ l, l = fromS pl fr := ⟨_, rfl⟩
                rw [← hLL] at f7 hll
                have HRW := hid f7
                have HLL := hid hLL
                have HLE : Hid (LL.length ≤ 500) := Nat.le_trans hll hpn
                have hf0 : (0 : Int) ≤ (fr : Int) := by omega
                have hfz : (fr : Int) < (n : Int) := by omega
                clear f1 f2 f3 f4 f5 f6 f7 hLL hll hpn hpl2 hpi hS P5
                have hB0 : Below W6.heap.size W6 W6.drew := (Gr.refl W6).drew.below
                have HSB : Hid (∀ W, Below W6.heap.size W6 W → W.cell? ⟨gg, fr, none⟩ = some (.slice xq xm xc) ∧ gg < W.heap.size ∧ W.heap[yb]? = some (.cells (ccells y) 72 (0, 0))) := fun W hb => ⟨(hb.cell (p := ⟨gg, fr, none⟩) HC.out.2.1).trans HC.out.1, Nat.lt_of_lt_of_le HC.out.2.1 hb.size, (hb.block _ (tk_lt HD.out)).trans HD.out⟩
                have hS0 := HSB.out _ hB0
                refine wp_regionD (S := fun W => W.cell? ⟨gg, fr, none⟩ = some (.slice xq xm xc) ∧ gg < W.heap.size ∧ W.heap[yb]? = some (.cells (ccells y) 72 (0, 0))) (D := [14]) hmx ?_
                refine' wpAnyD_take (i := 0) (oi := { dst := some 68, op := Go.Op.move (Go.Operand.tmp 3), type := 67, pos := "cycle.go:98", after := #[], guard := none }) (v := _) rfl (by kernel_rfl) (by kernel_rfl) (by kernel_rfl) (fun _ _ _ h => h) (by kernel_rfl) (Or.inl ⟨by rfl, ?hy17⟩) hS0 ?rest17
                case hy17 => (intro W hSw; go_simp; try (with_reducible rfl))
                try simp only [Act.put, List.setIfInBounds_toArray, List.set_cons_zero, List.set_cons_succ]
                refine' wpAnyD_take (i := 1) (oi := { dst := some 69, op := Go.Op.move (Go.Operand.tmp 10), type := 3, pos := "cycle.go:98", after := #[], guard := none }) (v := _) rfl (by kernel_rfl) (by kernel_rfl) (by kernel_rfl) (fun _ _ _ h => h) (by kernel_rfl) (Or.inl ⟨by rfl, ?hy18⟩) hS0 ?rest18
                case hy18 => (intro W hSw; go_simp; try (with_reducible rfl))
                try simp only [Act.put, List.setIfInBounds_toArray, List.set_cons_zero, List.set_cons_succ]
                refine' wpAnyD_take (i := 2) (oi := { dst := some 70, op := Go.Op.move (Go.Operand.tmp 3), type := 67, pos := "cycle.go:98", after := #[], guard := none }) (v := _) rfl (by kernel_rfl) (by kernel_rfl) (by kernel_rfl) (fun _ _ _ h => h) (by kernel_rfl) (Or.inl ⟨by rfl, ?hy19⟩) hS0 ?rest19
                case hy19 => (intro W hSw; go_simp; try (with_reducible rfl))
                try simp only [Act.put, List.setIfInBounds_toArray, List.set_cons_zero, List.set_cons_succ]
                refine' wpAnyD_take (i := 3) (oi := { dst := some 71, op := Go.Op.move (Go.Operand.tmp 10), type := 3, pos := "cycle.go:98", after := #[], guard := none }) (v := _) rfl (by kernel_rfl) (by kernel_rfl) (by kernel_rfl) (fun _ _ _ h => h) (by kernel_rfl) (Or.inl ⟨by rfl, ?hy20⟩) hS0 ?rest20
                case hy20 => (intro W hSw; go_simp; try (with_reducible rfl))
                try simp only [Act.put, List.setIfInBounds_toArray, List.set_cons_zero, List.set_cons_succ]
                refine' wpAnyD_take (i := 4) (oi := { dst := some 72, op := Go.Op.indexAddr 67 (Go.Operand.tmp 70) (Go.Operand.tmp 71), type := 0, pos := "cycle.go:98", after := #[{ on := 2, ground := Go.Ground.data }, { on := 3, ground := Go.Ground.data }], guard := none }) (v := _) rfl (by kernel_rfl) (by kernel_rfl) (by kernel_rfl) (fun _ _ _ h => h) (by kernel_rfl) (Or.inl ⟨by rfl, ?hy21⟩) hS0 ?rest21
                case hy21 => (intro W hSw; go_simp; try (with_reducible rfl))
                try simp only [Act.put, List.setIfInBounds_toArray, List.set_cons_zero, List.set_cons_succ]
                refine' wpAnyD_take (i := 5) (oi := { dst := some 73, op := Go.Op.load 33 (Go.Operand.tmp 72), type := 33, pos := "cycle.go:98", after := #[{ on := 4, ground := Go.Ground.data }], guard := none }) (v := _) rfl (by kernel_rfl) (by kernel_rfl) (by kernel_rfl) (fun _ _ _ h => h) (by kernel_rfl) (Or.inl ⟨by rfl, ?hy22⟩) hS0 ?rest22
                case hy22 => (intro W hSw; have hc := hSw.1; have hl := hSw.2.1; go_simp; try (with_reducible rfl))
                try simp only [Act.put, List.setIfInBounds_toArray, List.set_cons_zero, List.set_cons_succ]
                refine' wpAnyD_take (i := 6) (oi := { dst := some 74, op := Go.Op.move (Go.Operand.tmp 0), type := 29, pos := "cycle.go:98", after := #[], guard := none }) (v := _) rfl (by kernel_rfl) (by kernel_rfl) (by kernel_rfl) (fun _ _ _ h => h) (by kernel_rfl) (Or.inl ⟨by rfl, ?hy23⟩) hS0 ?rest23
                case hy23 => (intro W hSw; go_simp; try (with_reducible rfl))
                try simp only [Act.put, List.setIfInBounds_toArray, List.set_cons_zero, List.set_cons_succ]
                refine' wpAnyD_take (i := 7) (oi := { dst := some 75, op := Go.Op.move (Go.Operand.tmp 7), type := 3, pos := "cycle.go:98", after := #[], guard := none }) (v := _) rfl (by kernel_rfl) (by kernel_rfl) (by kernel_rfl) (fun _ _ _ h => h) (by kernel_rfl) (Or.inl ⟨by rfl, ?hy24⟩) hS0 ?rest24
                case hy24 => (intro W hSw; go_simp; try (with_reducible rfl))
                try simp only [Act.put, List.setIfInBounds_toArray, List.set_cons_zero, List.set_cons_succ]
                refine' wpAnyD_take (i := 8) (oi := { dst := some 76, op := Go.Op.fieldAddr 72 (Go.Operand.tmp 9) 1, type := 0, pos := "cycle.go:98", after := #[], guard := none }) (v := _) rfl (by kernel_rfl) (by kernel_rfl) (by kernel_rfl) (fun _ _ _ h => h) (by kernel_rfl) (Or.inl ⟨by rfl, ?hy25⟩) hS0 ?rest25
                case hy25 => (intro W hSw; go_simp; try (with_reducible rfl))
                try simp only [Act.put, List.setIfInBounds_toArray, List.set_cons_zero, List.set_cons_succ]
                refine' wpAnyD_take (i := 9) (oi := { dst := some 77, op := Go.Op.load 3 (Go.Operand.tmp 76), type := 3, pos := "cycle.go:98", after := #[{ on := 8, ground := Go.Ground.data }], guard := none }) (v := _) rfl (by kernel_rfl) (by kernel_rfl) (by kernel_rfl) (fun _ _ _ h => h) (by kernel_rfl) (Or.inl ⟨by rfl, ?hy26⟩) hS0 ?rest26
                case hy26 => (intro W hSw; have hc := (tk_store hSw.2.2).1; have hl := tk_lt hSw.2.2; go_simp; try (with_reducible rfl))
                try simp only [Act.put, List.setIfInBounds_toArray, List.set_cons_zero, List.set_cons_succ]
                refine wpAnyD_one (i := 10) (o := { dst := some 78, op := Go.Op.call { callee := Go.Callee.value (Go.Operand.func 49), args := #[Go.Operand.tmp 74, Go.Operand.tmp 75, Go.Operand.tmp 77], argTypes := #[29, 3, 3] }, type := 3, pos := "cycle.go:98", after := #[{ on := 6, ground := Go.Ground.data }, { on := 7, ground := Go.Ground.data }, { on := 9, ground := Go.Ground.data }], guard := none }) (by kernel_rfl) rfl (fun K hK => ?_)
                go_simp
                refine (HIN.out _ hB0).mono ?_
                rintro r w7 ⟨rfl, g7⟩
                have hS7 : Below W6.heap.size W6 w7 := hB0.trans (g7.below.mono hB0.size)
                clear g7
                go_wp2_with fail
                refine hK.out _ _ (fun hD => HSB.out _ hS7) ?_
                clear hK K
                try simp only [Act.put, List.setIfInBounds_toArray, List.set_cons_zero, List.set_cons_succ]
                refine wpAnyD_one (i := 11) (o := { dst := some 79, op := Go.Op.buildSlice 33 1 #[(0, Go.Operand.tmp 78)], type := 33, pos := "cycle.go:98", after := #[{ on := 10, ground := Go.Ground.data }], guard := none }) (by kernel_rfl) rfl (fun K hK => ?_)
                go_simp
                have hS8 : Below W6.heap.size W6 (w7.alloc (.cells #[.int .i64 ((pi : Nat) : Int)] 3)) := hS7.trans (((Gr.refl w7).alloc _).below.mono hS7.size)
                refine hK.out _ _ (fun hD => HSB.out _ hS8) ?_
                clear hK K
                try simp only [Act.put, List.setIfInBounds_toArray, List.set_cons_zero, List.set_cons_succ]
                refine wpAnyD_one (i := 12) (o := { dst := some 80, op := Go.Op.call { callee := Go.Callee.builtin Go.Builtin.append, args := #[Go.Operand.tmp 73, Go.Operand.tmp 79], argTypes := #[33, 33] }, type := 33, pos := "cycle.go:98", after := #[{ on := 5, ground := Go.Ground.data }, { on := 11, ground := Go.Ground.data }, { on := 10, ground := Go.Ground.chain }], guard := none }) (by kernel_rfl) rfl (fun K hK => ?_)
                refine step_app1 EI Tryz.underlying33 infoI rfl (by decide) rfl _ _ rfl w.heap.size (.slice xq xm xc) LL.length (fl EI LL) rfl (owns_below HRW.out hS7) ((pi : Nat) : Int) (by first | rfl | simp) (by have := HLE.out; omega) (by have := HLE.out; unfold maxLen; omega) (Nat.le_trans HBW.out hS7.size) _ rfl _ ?_
                intro g8 cap8 w8 h8 k8 n8
                have ST : Hid (Sg w n gg (pl ++ [(fr, pi)]) (w8.setCell ⟨gg, fr, none⟩ (.slice (some ⟨g8, 0, none⟩) (LL.length + 1) cap8)) ∧ (w8.setCell ⟨gg, fr, none⟩ (.slice (some ⟨g8, 0, none⟩) (LL.length + 1) cap8)).ownsRow B1 72 5 (.slice (some ⟨b1, o1, none⟩) cl cc) cl (fl EC cs)) := by
                  have hf := HF.out.1.below hS7
                  rw [HLL.out] at h8 ⊢
                  obtain ⟨h1, h2⟩ := hf.step HF.out.2.2 (by rw [HF.out.2.1]) h8.out k8.out n8.out
                  refine ⟨⟨_, h1.re (fun k _ => (fromS_snoc pl (fr, pi) k).symm), by rw [List.length_set]; exact HF.out.2.1, (HBL.out.trans (hS7.mono HBL.out.size)).trans (h2.below (Nat.le_trans HBL.out.size hS7.size) (hf.blocks HF.out.2.2))⟩, ?_⟩
                  exact hf.other HF.out.2.2 h2 (owns_below HE6.out hS7) (by decide) (by decide)
                have hb8 := (Kp.grownBy (S := fun k => (Value.slice xq xm xc).ownBlock = some k) k8.out (fun _ h => h))
                have F8 : Hid (w8.frozen? ⟨gg, fr, none⟩ = false ∧ gg < w8.heap.size ∧ w8.cell? ⟨gg, fr, none⟩ = some (.slice xq xm xc) ∧ w8.heap[yb]? = some (.cells (ccells y) 72 (0, 0))) := by
                  have hf := HF.out.1.below hS7
                  have hne := owns_ne_own hf.row (hf.each fr _ HF.out.2.2) (by decide)
                  have hr8 := owns_kp hb8 hf.row (fun j e e2 => hne j e e2)
                  rw [HF.out.2.1] at hr8
                  exact ⟨hr8.frozenAt _, Nat.lt_of_lt_of_le HC.out.2.1 (Nat.le_trans hS7.size hb8.size), (hb8.cell (Nat.lt_of_lt_of_le HC.out.2.1 hS7.size) (fun e => hne gg rfl e)).trans ((hS7.cell (p := ⟨gg, fr, none⟩) HC.out.2.1).trans HC.out.1), (hb8.block _ (Nat.lt_of_lt_of_le (tk_lt HD.out) hS7.size) (fun e => owns_ne_blk (owns_below HRW.out hS7) (HSB.out _ hS7).2.2 (by decide) yb e rfl)).trans (HSB.out _ hS7).2.2⟩
                clear h8 k8 n8 hb8
                generalize LL.length + 1 = ll at ST ⊢
                refine hK.out _ _ (fun hD => ⟨F8.out.2.2.1, F8.out.2.1, F8.out.2.2.2⟩) ?_
                clear hK K
                try simp only [Act.put, List.setIfInBounds_toArray, List.set_cons_zero, List.set_cons_succ]
                refine' wpAnyD_take (i := 13) (oi := { dst := some 81, op := Go.Op.indexAddr 67 (Go.Operand.tmp 68) (Go.Operand.tmp 69), type := 0, pos := "cycle.go:98", after := #[{ on := 0, ground := Go.Ground.data }, { on := 1, ground := Go.Ground.data }, { on := 0, ground := Go.Ground.phase }, { on := 1, ground := Go.Ground.phase }, { on := 2, ground := Go.Ground.phase }, { on := 3, ground := Go.Ground.phase }, { on := 4, ground := Go.Ground.phase }, { on := 5, ground := Go.Ground.phase }, { on := 6, ground := Go.Ground.phase }, { on := 7, ground := Go.Ground.phase }, { on := 8, ground := Go.Ground.phase }, { on := 9, ground := Go.Ground.phase }, { on := 10, ground := Go.Ground.phase }, { on := 11, ground := Go.Ground.phase }, { on := 12, ground := Go.Ground.phase }], guard := none }) (v := _) rfl (by kernel_rfl) (by kernel_rfl) (by kernel_rfl) (fun _ _ _ h => h) (by kernel_rfl) (Or.inl ⟨by rfl, ?hy30⟩) ⟨F8.out.2.2.1, F8.out.2.1, F8.out.2.2.2⟩ ?rest30
                case hy30 => (intro W hSw; go_simp; try (with_reducible rfl))
                try simp only [Act.put, List.setIfInBounds_toArray, List.set_cons_zero, List.set_cons_succ]
                refine wpAnyD_one (i := 14) (o := { dst := none, op := Go.Op.store 33 (Go.Operand.tmp 81) (Go.Operand.tmp 80), type := 0, pos := "cycle.go:98", after := #[{ on := 13, ground := Go.Ground.data }, { on := 12, ground := Go.Ground.data }, { on := 12, ground := Go.Ground.chain }, { on := 0, ground := Go.Ground.phase }, { on := 1, ground := Go.Ground.phase }, { on := 2, ground := Go.Ground.phase }, { on := 3, ground := Go.Ground.phase }, { on := 4, ground := Go.Ground.phase }, { on := 5, ground := Go.Ground.phase }, { on := 6, ground := Go.Ground.phase }, { on := 7, ground := Go.Ground.phase }, { on := 8, ground := Go.Ground.phase }, { on := 9, ground := Go.Ground.phase }, { on := 10, ground := Go.Ground.phase }, { on := 11, ground := Go.Ground.phase }, { on := 12, ground := Go.Ground.phase }], guard := none }) (by kernel_rfl) rfl (fun K hK => ?_)
                have c8 := F8.out.2.2.1
                have f8 := F8.out.1
                have l8 := F8.out.2.1
                go_simp
                generalize (w8.setCell ⟨gg, fr, none⟩ (.slice (some ⟨g8, 0, none⟩) ll cap8)) = w9 at ST ⊢
                clear c8 f8 l8
                refine hK.out _ _ (fun hD => absurd (by decide) hD) ?_
                clear hK K
                try simp only [Act.put, List.setIfInBounds_toArray, List.set_cons_zero, List.set_cons_succ]
                refine wpAnyD_done (by kernel_rfl) ?_ _
                have FIN : Hid (Sg w n gg (edgS g.nodes es ++ nodU g.nodes j ++ nodS g.nodes j (cs.take (k + 1))) w9 ∧ w9.ownsRow B1 72 5 (.slice (some ⟨b1, o1, none⟩) cl cc) cl (fl EC cs)) := by rw [← HNX.out]; exact ST.out
                clear ST HNX hS0 hS7 hB0 HSB
                go_upto_region 17 with fail
                go_wp2_with fail
                go_roundw
                case rel => exact ⟨k + 1, by omega, by go_num, FIN.out⟩
                case measure => simp [RowKit.intOf]; omega
              · have FIN : Hid (Sg w n gg (edgS g.nodes es ++ nodU g.nodes j ++ nodS g.nodes j (cs.take (k + 1))) W5 ∧ W5.ownsRow B1 72 5 (.slice (some ⟨b1, o1, none⟩) cl cc) cl (fl EC cs)) := by
                  have e1 : nodS g.nodes j (cs.take (k + 1)) = nodS g.nodes j (cs.take k) := by
                    rw [List.take_add_one, HY.out]
                    simp [nodS, isE, hE]
                  rw [e1]
                  exact ⟨P5.out.1, P5.out.2.1⟩
                clear P5
                have hne : ¬ (y.via.1 = 0 ∧ y.via.2.1 = 0 ∧ y.via.2.2 = 0) := fun e => hE (Prod.ext e.1 (Prod.ext e.2.1 e.2.2))
                clear hE
                have hne3 : y.via.1 ≠ 0 ∨ (y.via.1 = 0 ∧ y.via.2.1 ≠ 0) ∨ (y.via.1 = 0 ∧ y.via.2.1 = 0 ∧ y.via.2.2 ≠ 0) := by omega
                clear hne
                rcases hne3 with h1 | ⟨h1, h2⟩ | ⟨h1, h2, h3⟩
                · go_wp2_with fail
                  go_roundw
                  case rel => exact ⟨k + 1, by omega, by go_num, FIN.out⟩
                  case measure => simp [RowKit.intOf]; omega
                · go_wp2_with fail
                  go_roundw
                  case rel => exact ⟨k + 1, by omega, by go_num, FIN.out⟩
                  case measure => simp [RowKit.intOf]; omega
                · go_wp2_with fail
                  go_roundw
                  case rel => exact ⟨k + 1, by omega, by go_num, FIN.out⟩
                  case measure => simp [RowKit.intOf]; omega
            · have hlkz : ¬ (k : Int) < (cl : Int) := by omega
              have FIN : Hid (Sg w n gg (edgS g.nodes es ++ nodU g.nodes (j + 1)) wr) := by
                have h := HI.out.1
                rw [List.take_of_length_le (by have := HCL.out; omega), HCS.out, List.append_assoc] at h
                exact h
              clear HI
              go_wp2_with fail
              go_roundw
              case rel => exact ⟨j + 1, by omega, by go_num, FIN.out⟩
              case measure => simp [RowKit.intOf]; omega
        · have hljz : ¬ (j : Int) < (nl : Int) := by omega
          have S20 : Hid (∃ vs, Fo w.heap.size wr (.slice (some ⟨gg, 0, none⟩) n n) vs (fun k => if k < 0 then srtI (fromS (stS g) k) else fromS (stS g) k) ∧ vs.length = n ∧ Below w.heap.size w wr) := by
            have h := HI.out
            obtain rfl : j = nl := by omega
            have e1 : edgS g.nodes es ++ nodU g.nodes j = stS g := by unfold stS; rw [HES.out, HNL.out]
            rw [e1] at h
            obtain ⟨vs, h1, h2, h3⟩ := h
            exact ⟨vs, h1.re (fun k _ => by rw [if_neg (Nat.not_lt_zero _)]), h2, h3⟩
          clear HI
          go_wp2_with fail
          go_loopw [86] (fun s86 wr => ∃ i : Nat, i ≤ n ∧ s86 = .int .i64 (i : Nat) ∧ Hid (∃ vs, Fo w.heap.size wr (.slice (some ⟨gg, 0, none⟩) n n) vs (fun k => if k < i then srtI (fromS (stS g) k) else fromS (stS g) k) ∧ vs.length = n ∧ Below w.heap.size w wr)) (fun s86 _ => n - (RowKit.intOf s86).toNat)
          case atStart => exact ⟨0, Nat.zero_le _, rfl, S20.out⟩
          case round =>
            clear S20
            obtain ⟨k, hk, rfl, HI⟩ := hrel
            by_cases hlk : k < n
            · have hlkz : (k : Int) < (n : Int) := by omega
              have hk1 : (0 : Int) ≤ (k : Int) := by omega
              obtain ⟨vs, f1, f2, f3⟩ := HI.out
              obtain ⟨x, hx⟩ : ∃ x, vs[k]? = some x := ⟨vs[k]'(by omega), by simp⟩
              obtain ⟨b, off, c, hv, hb, hc⟩ := ls_atL (owns_ls (E := EL) f1.row) hx
              simp only [Value.slice.injEq, Option.some.injEq, Addr.mk.injEq] at hv
              obtain ⟨⟨rfl, rfl, -⟩, -, -⟩ := hv
              rw [Nat.zero_add] at hc
              have he := f1.each k x hx
              rw [if_neg (Nat.lt_irrefl k)] at he
              have HF : Hid (Fo w.heap.size wr (.slice (some ⟨gg, 0, none⟩) n n) vs (fun j => if j < k then srtI (fromS (stS g) j) else fromS (stS g) j) ∧ vs.length = n ∧ Below w.heap.size w wr ∧ vs[k]? = some x) := ⟨f1, f2, f3, hx⟩
              have hll : (fromS (stS g) k).length ≤ 432 := Nat.le_trans (fromS_len _ _) (stS_len HOK.out)
              have HFIN : Hid (∀ W, Fo w.heap.size W (.slice (some ⟨gg, 0, none⟩) n n) vs (fun j => if j = k then srtI (fromS (stS g) k) else if j < k then srtI (fromS (stS g) j) else fromS (stS g) j) → Below w.heap.size w W → ∃ vs, Fo w.heap.size W (.slice (some ⟨gg, 0, none⟩) n n) vs (fun j => if j < k + 1 then srtI (fromS (stS g) j) else fromS (stS g) j) ∧ vs.length = n ∧ Below w.heap.size w W) := fun W h1 h2 => ⟨vs, h1.re (fun j _ => by
                by_cases e1 : j = k
                · subst e1
                  rw [if_pos rfl, if_pos (Nat.lt_succ_self _)]
                · rw [if_neg e1]
                  by_cases e2 : j < k
                  · rw [if_pos e2, if_pos (by omega)]
                  · rw [if_neg e2, if_neg (by omega)]), HF.out.2.1, h2⟩
              obtain ⟨q, m, c2⟩ := x
              rcases own_at0 he with ⟨e0, eq, em⟩ | ⟨gk, eq, em⟩
              · dsimp only at eq em
                subst eq
                subst em
                have hs := AnyM.slices_Sort_int_none Tryz.lSort none c2 wr
                change Calls Tryz.prog 56 _ _ _ at hs
                have FIN := hid (HFIN.out wr (HF.out.1.re (fun j _ => by
                  by_cases e1 : j = k
                  · subst e1
                    rw [if_pos rfl, if_neg (Nat.lt_irrefl _), e0]
                    simp [srtI]
                  · rw [if_neg e1])) HF.out.2.2.1)
                clear HF HFIN f1 f2 f3 hx he HI
                go_wp2_with fail
                refine hs.mono ?_
                clear hs
                rintro r w87 ⟨rfl, hw⟩
                subst hw
                go_wp2_with fail
                go_roundw
                case rel => exact ⟨k + 1, by omega, by go_num, FIN.out⟩
                case measure => simp [RowKit.intOf]; omega
              · dsimp only at eq em
                subst eq
                subst em
                have hs := AnyM.slices_Sort_int Tryz.lSort gk 0 c2 (fromS (stS g) k) wr (holds_own he).1 (holds_own he).2 (by omega)
                change Calls Tryz.prog 56 _ _ _ at hs
                have HE := hid he
                generalize hgl : (fromS (stS g) k).length = ll at hs hc hll
                have HGL := hid hgl
                clear f1 f2 f3 hx he HI hgl
                go_wp2_with fail
                refine hs.mono ?_
                clear hs
                rintro r w87 ⟨rfl, nn, os, hw⟩
                have FIN : Hid (∃ vs, Fo w.heap.size w87 (.slice (some ⟨gg, 0, none⟩) n n) vs (fun j => if j < k + 1 then srtI (fromS (stS g) j) else fromS (stS g) j) ∧ vs.length = n ∧ Below w.heap.size w w87) := by
                  obtain ⟨h1, h2⟩ := sorted_own HE.out (w' := w87) (n := nn) (os := os) hw
                  obtain ⟨h3, h4⟩ := HF.out.1.put HF.out.2.2.2 h2 h1
                  exact HFIN.out w87 h3 (HF.out.2.2.1.trans (h4.below HF.out.2.2.1.size (fun j e => (owns_rd HE.out j e).1)))
                clear hw HF HFIN HE
                go_wp2_with fail
                go_roundw
                case rel => exact ⟨k + 1, by omega, by go_num, FIN.out⟩
                case measure => simp [RowKit.intOf]; omega
            · have hlkz : ¬ (k : Int) < (n : Int) := by omega
              have FIN : Hid (Below w.heap.size w wr ∧ Ff wr.heap.size wr (.slice (some ⟨gg, 0, none⟩) n n) (stL g)) := by
                obtain ⟨vs, h1, h2, h3⟩ := HI.out
                refine ⟨h3, h1.ff (by rw [stL_len, h2, HN.out]) (fun j l hl => ?_)⟩
                have hj := (List.getElem?_eq_some_iff.1 hl).1
                rw [stL_len] at hj
                rw [stL_get hj] at hl
                rw [if_pos (by have := HN.out; omega)]
                exact (Option.some.inj hl).symm
              clear HI
              go_wp2_with fail
              go_ret
              exact ⟨_, rfl, FIN.out⟩
end Go.Proofs.YtpgodnaebkmhhaaGreat.Df
