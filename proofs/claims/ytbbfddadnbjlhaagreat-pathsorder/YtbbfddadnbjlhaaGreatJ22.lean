import Derived.Test.YtbbfddadnbjlhaaGreatJ18
import Derived.Test.YtbbfddadnbjlhaaGreatJ16
import Derived.Test.YtbbfddadnbjlhaaGreatJ21
namespace Go.Proofs.YtbbfddadnbjlhaaGreat.Lf
open Go.RowKit Go.Sort Pt
open Df (hid Con Gph Pth PthT plN stR stL Gok LV EL tk_store tk_lt GR NV Edg gof gvc Gcap rcheck_any Fl ordN)
attribute [local go_sem ↓] Go.wp_at_zero Go.wp_at_succ
def Bo2 (w : World) (g : Gph) (e : Ending) (w' : World) : Prop := Below w.heap.size w w' ∧ (e = .returned (.tuple #[.pointer none, .pointer none, .bool false, .bool true]) ∨ ∃ tb rb R, ordN (stL g).length (stL g) (stL g).length ≠ none ∧ Gok g ∧ (∀ p, p < plN g.nodes → Res PX (StG g) p (some (R p))) ∧ e = .returned (.tuple #[.pointer (some ⟨tb, 0, none⟩), .pointer (some ⟨rb, 0, none⟩), .bool false, .bool false]) ∧ TP w'.heap.size w' tb (plN g.nodes) R ∧ TR w'.heap.size w' rb (plN g.nodes) R)
set_option maxRecDepth 100000 in
set_option maxHeartbeats 4000000 in
theorem both2_any {M : Nat} {nv ev : Value} {a : Int} {xs : List NV} {es : List Edg} (w : World) (hG : GR M w nv ev xs es) (hM : M ≤ w.heap.size) (hC : Gcap ev xs) (hP : Gpt (gof a xs es)) : Calls Tryz.prog 9 #[.agg (gvc a nv ev)] w (Bo2 w (gof a xs es)) := by
 obtain ⟨xb, hxb⟩ : ∃ b, b = w.heap.size := ⟨_, rfl⟩
 obtain ⟨W0, hW0⟩ : ∃ W, W = w.alloc (.cells (gvc a nv ev) 25) := ⟨_, rfl⟩
 have P0 : Hid (Below w.heap.size w W0 ∧ W0.heap[xb]? = some (.cells (gvc a nv ev) 25 (0, 0))) := by
  rw [hW0, hxb]
  exact ⟨((Gr.refl w).alloc _).below, heap_new' _ _⟩
 have HW0 : Hid (w.alloc (.cells #[.int .i64 a, nv, ev] 25) = W0 ∧ w.heap.size = xb) := ⟨hW0.symm, hxb.symm⟩
 have HG : Hid (∀ W, Below W0.heap.size W0 W → GR M W nv ev xs es ∧ M ≤ W.heap.size ∧ W.heap[xb]? = some (.cells (gvc a nv ev) 25 (0, 0))) := fun W hb => by
  have h1 := P0.out.1.trans (hb.mono P0.out.1.size)
  exact ⟨hG.below h1, Nat.le_trans hM h1.size, (hb.block _ (tk_lt P0.out.2)).trans P0.out.2⟩
 have HPT := hid hP
 have HCP := hid hC
 have hchk := rcheck_any (a := a) W0 (HG.out W0 (Below.refl _ _)).1 (HG.out W0 (Below.refl _ _)).2.1
 obtain ⟨pn, cn, hnv⟩ := hG.nodes.form
 obtain ⟨pe, ce, hev⟩ := hG.edges.form
 subst hnv
 subst hev
 generalize xs.length = nl at *
 generalize es.length = el at *
 have c0 := (tk_store P0.out.2).1
 have l0 := tk_lt P0.out.2
 clear hG hM hP hC hW0 hxb
 obtain ⟨g, hg⟩ : ∃ g, g = gof a xs es := ⟨_, rfl⟩
 have HGE := hid hg
 rw [← hg] at HPT hchk ⊢
 clear hg
 go_enter Tryz.func9, Tryz.ntmps9
 go_upto_region 1 with fail
 rw [HW0.out.1, HW0.out.2]
 clear HW0
 go_wp2_with fail
 refine hchk.mono ?_
 clear hchk c0 l0
 rintro r w1 ⟨e1, t1, rfl, hF1, hb1⟩
 by_cases he : e1 = 0
 ·subst he
  have HOK : Hid (Gok g) := hF1.ok.1 rfl
  have HF := hid hF1
  have hnw := Df.new_any (a := a) w1 (HG.out w1 hb1).1 HCP.out
  rw [← HGE.out] at hnw
  have hbx := (HG.out w1 hb1).2.2
  have c1 := (tk_store hbx).1
  have l1 := tk_lt hbx
  have HB1 := hid hb1
  clear hF1 hb1 hbx
  go_wp2_with fail
  refine hnw.mono ?_
  clear hnw c1 l1
  rintro r w2 ⟨hb2, e2, t2, hF2, hc2⟩
  have he2 := (hF2.same HF.out).1
  subst he2
  rcases hc2 with ⟨h, _⟩ | ⟨_, gb, rfl, hgm⟩
  ·exact absurd rfl h
  ·have HB2 := hid (HB1.out.trans (hb2.mono HB1.out.size))
   have hpn := new_any w2 hgm HOK.out HPT.out
   clear hF2 hb2 hgm
   go_wp2_with fail
   refine hpn.mono ?_
   clear hpn
   rintro r w3 ⟨hb3, a3, ht3, hc3⟩
   have HB3 := hid (HB2.out.trans (hb3.mono HB2.out.size))
   have hrn := rnew_any (a := a) w3 (HG.out w3 HB3.out).1 (HG.out w3 HB3.out).2.1 (by rw [← HGE.out]; exact HOK.out) (by rw [← HGE.out]; exact HPT.out)
   rw [← HGE.out] at hrn
   have hbx := (HG.out w3 HB3.out).2.2
   have c1 := (tk_store hbx).1
   have l1 := tk_lt hbx
   have HT3 := hid ht3
   have HBW : Hid (Below w.heap.size w w3) := P0.out.1.trans (HB3.out.mono P0.out.1.size)
   clear hb3 hbx ht3
   rcases hc3 with ⟨rfl, rfl⟩ | ⟨rfl, rfl⟩ | ⟨R, tb, rfl, rfl, htp⟩
   ·go_wp2_with fail
    refine hrn.mono ?_
    clear hrn c1 l1
    rintro r w4 ⟨hb4, a4, ht4, hc4⟩
    have FIN : Hid (Below w.heap.size w w4) := HBW.out.trans (hb4.mono HBW.out.size)
    rcases hc4 with ⟨rfl, rfl⟩ | ⟨rfl, rfl⟩ | ⟨R', rb, rfl, rfl, htr⟩
    ·clear hb4 ht4
     go_wp2
     refine bodyPost_ret (v := .tuple #[.pointer none, .pointer none, .bool false, .bool true]) (by simp [results, Tryz.results9, go_sem]) rfl ?_
     exact ⟨FIN.out, Or.inl rfl⟩
    ·rcases HT3.out.same ht4 with ⟨_, h⟩ | ⟨h, _⟩ | ⟨_, _, h, _⟩ <;> cases h
    ·rcases HT3.out.same ht4 with ⟨_, h⟩ | ⟨h, _⟩ | ⟨_, _, h, _⟩ <;> cases h
   ·go_wp2_with fail
    refine hrn.mono ?_
    clear hrn c1 l1
    rintro r w4 ⟨hb4, a4, ht4, hc4⟩
    have FIN : Hid (Below w.heap.size w w4) := HBW.out.trans (hb4.mono HBW.out.size)
    rcases hc4 with ⟨rfl, rfl⟩ | ⟨rfl, rfl⟩ | ⟨R', rb, rfl, rfl, htr⟩
    ·rcases HT3.out.same ht4 with ⟨h, _⟩ | ⟨_, h⟩ | ⟨_, _, h, _⟩ <;> cases h
    ·clear hb4 ht4
     go_wp2
     refine bodyPost_ret (v := .tuple #[.pointer none, .pointer none, .bool false, .bool true]) (by simp [results, Tryz.results9, go_sem]) rfl ?_
     exact ⟨FIN.out, Or.inl rfl⟩
    ·rcases HT3.out.same ht4 with ⟨h, _⟩ | ⟨_, h⟩ | ⟨_, _, h, _⟩ <;> cases h
   ·have HTP := hid htp
    clear htp
    go_wp2_with fail
    refine hrn.mono ?_
    clear hrn c1 l1
    rintro r w4 ⟨hb4, a4, ht4, hc4⟩
    rcases hc4 with ⟨rfl, rfl⟩ | ⟨rfl, rfl⟩ | ⟨R', rb, rfl, rfl, htr⟩
    ·rcases HT3.out.same ht4 with ⟨h, _⟩ | ⟨h, _⟩ | ⟨_, _, _, h, _⟩ <;> cases h
    ·rcases HT3.out.same ht4 with ⟨h, _⟩ | ⟨h, _⟩ | ⟨_, _, _, h, _⟩ <;> cases h
    ·have FIN : Hid (Bo2 w g (.returned (.tuple #[.pointer (some ⟨tb, 0, none⟩), .pointer (some ⟨rb, 0, none⟩), .bool false, .bool false])) w4) := by
       have hR : ∀ p, p < plN g.nodes → R' p = R p := by
        rcases HT3.out.same ht4 with ⟨h, _⟩ | ⟨h, _⟩ | ⟨S, S', h1, h2, h3⟩
        ·cases h
        ·cases h
        ·cases h1
         cases h2
         exact fun p hp => (h3 p hp).symm
       have hres : ∀ p, p < plN g.nodes → Res PX (StG g) p (some (R p)) := by
        have := HT3.out
        cases this
        assumption
       have hord : ordN (stL g).length (stL g) (stL g).length ≠ none := by
        have := HT3.out
        cases this
        assumption
       obtain ⟨v, k1, k2, k3⟩ := htr
       exact ⟨HBW.out.trans (hb4.mono HBW.out.size), Or.inr ⟨tb, rb, R, hord, HOK.out, hres, rfl, (HTP.out.keep hb4).up hb4.size, v, k1, k2, k3.re hR⟩⟩
     clear hb4 ht4 htr
     go_wp2
     refine bodyPost_ret (v := .tuple #[.pointer (some ⟨tb, 0, none⟩), .pointer (some ⟨rb, 0, none⟩), .bool false, .bool false]) (by simp [results, Tryz.results9, go_sem]) rfl ?_
     exact FIN.out
 ·have hnb : (e1 != 0) = true := by simp [he]
  have FIN : Hid (Below w.heap.size w w1) := P0.out.1.trans (hb1.mono P0.out.1.size)
  clear hF1 hb1 he
  go_wp2
  refine bodyPost_ret (v := .tuple #[.pointer none, .pointer none, .bool false, .bool true]) (by simp [results, Tryz.results9, go_sem]) rfl ?_
  exact ⟨FIN.out, Or.inl rfl⟩
end Go.Proofs.YtbbfddadnbjlhaaGreat.Lf

namespace Go.Proofs.YtbbfddadnbjlhaaGreat.Lf
open Go.RowKit Go.Sort Pt
open Df (Con Gph plN stR stL Gok ordN)
theorem rank_of {ls : List (List Int)} (h : ordN ls.length ls ls.length ≠ none) : ∃ f : Nat → Int, ∀ p q, Df.Sp ls p q → f p + 1 ≤ f q := by
 cases e : ordN ls.length ls ls.length with
 | none => exact absurd e h
 | some z =>
  obtain ⟨o, f⟩ := z
  obtain ⟨us, _, hO⟩ := Df.ord_some e
  have hr := Df.Rk.all hO us.length (Nat.le_refl _)
  exact ⟨_, fun p q hs => (Df.Rk.rank hO hr q).1 p hs⟩
theorem sts_quiet {g : Gph} (hP : Gpt g) (hok : Gok g) {p q : Nat} (h : StG g p q PX.z) : Df.Sp (stL g) p q := by
 obtain ⟨_, c, hc, h1, h2, h3⟩ := sts_ssL.1 h
 have hv := tri_val (stR_pth hP hc)
 rw [h3] at hv
 have z1 : PX.z.1.1 = 0 := rfl
 have z2 : PX.z.1.2.1 = 0 := rfl
 have z3 : PX.z.1.2.2 = 0 := rfl
 have hz : c.via = (0, 0, 0) := Prod.ext (by show c.via.1 = 0; omega) (Prod.ext (by show c.via.2.1 = 0; omega) (by show c.via.2.2 = 0; omega))
 have hm : c ∈ Df.emR g := by
  unfold Df.emR
  rw [List.mem_filter]
  exact ⟨hc, by simp [Df.isE, hz]⟩
 obtain ⟨p', q', e, hs⟩ := Df.emR_mem.1 hm
 rw [e] at h1 h2
 simp only at h1 h2
 have e1 : p' = p := by omega
 have e2 : q' = q := by omega
 rw [e1, e2] at hs
 exact (Df.sp_iff hok).2 hs
theorem wy_rank {St : Nat → Nat → Tri → Prop} {f : Nat → Int} (hs : ∀ q q', St q q' PX.z → f q + 1 ≤ f q') {p q : Nat} {c : Tri} (h : Wy PX St p q c) : c = PX.z → p = q ∨ f p + 1 ≤ f q := by
 induction h with
 | nil => exact fun _ => Or.inl rfl
 | @step q q' a b c h1 h2 h3 ih =>
  intro hc
  subst hc
  obtain ⟨s1, s2, s3⟩ := thn3_some h3
  have ba := tri_bd a
  have bb := tri_bd b
  have z1 : PX.z.1.1 = 0 := rfl
  have z2 : PX.z.1.2.1 = 0 := rfl
  have z3 : PX.z.1.2.2 = 0 := rfl
  have ea : a = PX.z := tri_ext (by omega) (by omega) (by omega)
  have eb : b = PX.z := tri_ext (by omega) (by omega) (by omega)
  rw [eb] at h2
  have h4 := hs _ _ h2
  rcases ih ea with h5 | h5
  ·subst h5
   exact Or.inr h4
  ·exact Or.inr (by omega)
theorem cld_anti {g : Gph} (hP : Gpt g) (hok : Gok g) (ho : ordN (stL g).length (stL g) (stL g).length ≠ none) {i j : Nat} {t u : Tri} (h : Cld (StG g) i t j u) (k : Cld (StG g) j u i t) : i = j ∧ t = u := by
 obtain ⟨a, c, ha, hc, k1, k2, k3⟩ := h
 obtain ⟨b, d, hb, hd, m1, m2, m3⟩ := k
 obtain ⟨c1, c2, c3⟩ := thn3_some hc
 obtain ⟨d1, d2, d3⟩ := thn3_some hd
 have ba := tri_bd a
 have bb := tri_bd b
 have z1 : PX.z.1.1 = 0 := rfl
 have z2 : PX.z.1.2.1 = 0 := rfl
 have z3 : PX.z.1.2.2 = 0 := rfl
 have ea : a = PX.z := tri_ext (by omega) (by omega) (by omega)
 have eb : b = PX.z := tri_ext (by omega) (by omega) (by omega)
 obtain ⟨f, hf⟩ := rank_of ho
 have hs : ∀ q q', StG g q q' PX.z → f q + 1 ≤ f q' := fun q q' h => hf q q' (sts_quiet hP hok h)
 refine ⟨?_, tri_ext (by omega) (by omega) (by omega)⟩
 rcases wy_rank hs ha ea with h1 | h1
 ·exact h1
 ·rcases wy_rank hs hb eb with h2 | h2
  ·exact h2.symm
  ·omega
end Go.Proofs.YtbbfddadnbjlhaaGreat.Lf
