import Derived.Test.YtifjjnnpoleinaaGHang
import Derived.BigQuiet
import Derived.RangeFuncNested
import Derived.RangeFuncBound
import Derived.RangeFuncCalls
import Derived.RangeFuncLeaves
import Derived.RangeFuncFrom
import Derived.RangeFuncBox
import Derived.Shelf.Abstract
import Derived.Shelf.RegionOpen
import Derived.WalkKit
import Derived.OwnWalkIn
import Derived.TacticsInMore
import Derived.LoopNIn
import Derived.LoopIn
import Derived.Maps.AppendAt
import Derived.Sort.QuietIn
namespace Go.Proofs.Ytifjjnnpoleinaa.Df
open Go.RowKit Go.Sort
attribute [local go_sem ↓] Go.wp_at_zero Go.wp_at_succ

theorem nflaw_lists {a : Int} {n : Nod} (h : nflaw a n = 0) : n.code.length ≤ 16 ∧ n.conns.length ≤ 16 := by
  unfold nflaw at h
  split at h
  · cases h
  · split at h
    · cases h
    · split at h
      · cases h
      · rename_i h1 h2 h3
        simp only [nhas, has, Bool.or_eq_true, decide_eq_true_eq, not_or, Nat.not_lt, Nat.le_zero_eq] at h3
        obtain ⟨⟨⟨⟨c1, -⟩, -⟩, c4⟩, -⟩ := h3
        unfold nrest at h
        constructor
        · by_cases hk : n.kind = 2 ∨ n.kind = 3
          · rw [if_pos hk] at h
            split at h
            · cases h
            · omega
          · rw [if_neg hk] at c1
            omega
        · by_cases hk : n.kind = 8
          · rw [if_neg (by omega), if_neg (by omega), if_pos hk] at h
            split at h
            · rename_i hc
              exact (cok_iff.1 hc).1
            · cases h
          · rw [if_neg hk] at c4
            omega
theorem Gok.lists {g : Gph} (h : Gok g) : ∀ n ∈ g.nodes, n.code.length ≤ 16 ∧ n.conns.length ≤ 16 := fun n hn => by
  obtain ⟨i, hi, rfl⟩ := List.mem_iff_getElem.1 hn
  exact nflaw_lists (h.ng i _ hi (by simp))
theorem Hg.base {B B' gb : Nat} {w : World} {a : Int} {nv ev fv pv : Value} {ns : List Nod} {ss : List SV} {L : Nat → List Int} (h : Hg B w gb a nv ev fv pv ns ss L) (hb : B' ≤ B) : Hg B' w gb a nv ev fv pv ns ss L :=
  ⟨h.blk, owns_base h.fr hb, owns_base h.sp hb, h.len, h.shape, fun k s hk => owns_base (h.each k s hk) hb, h.apart⟩
theorem Hg.kp {B gb : Nat} {S : Nat → Prop} {w w' : World} {a : Int} {nv ev fv pv : Value} {ns : List Nod} {ss : List SV} {L : Nat → List Int} (h : Hg B w gb a nv ev fv pv ns ss L) (hg : B ≤ gb) (hk : Kp S w w') (hS : ∀ k, B ≤ k → k < w.heap.size → ¬ S k) : Hg B w' gb a nv ev fv pv ns ss L :=
  ⟨(hk.block _ (tk_lt h.blk) (hS _ hg (tk_lt h.blk))).trans h.blk, owns_kp hk h.fr (fun k e => hS k (owns_rd h.fr k e).1 (owns_rd h.fr k e).2), owns_kp hk h.sp (fun k e => hS k (owns_rd h.sp k e).1 (owns_rd h.sp k e).2), h.len, h.shape, fun k s hs => owns_kp hk (h.each k s hs) (fun k e => hS k (owns_rd (h.each _ s hs) k e).1 (owns_rd (h.each _ s hs) k e).2), h.apart⟩
/-- A graph that was made: its blocks lie at B and behind. -/
structure Gp (B : Nat) (w : World) (gb : Nat) (g : Gph) (nv ev fv pv : Value) (ys : List NV) (ss : List SV) : Prop where
  low : B ≤ gb
  raw : Cg B w nv ev ys g.edges
  nds : ys.map NV.n = g.nodes
  rows : Hg B w gb g.arity nv ev fv pv g.nodes ss (fun k => edgesU g.nodes g.edges k g.edges.length)
  ok : Gok g
def Gm (B : Nat) (w : World) (gb : Nat) (g : Gph) : Prop := ∃ nv ev fv pv ys ss, Gp B w gb g nv ev fv pv ys ss
theorem Gp.kp {B gb : Nat} {S : Nat → Prop} {w w' : World} {g : Gph} {nv ev fv pv : Value} {ys : List NV} {ss : List SV} (h : Gp B w gb g nv ev fv pv ys ss) (hk : Kp S w w') (hS : ∀ k, B ≤ k → k < w.heap.size → ¬ S k) : Gp B w' gb g nv ev fv pv ys ss :=
  ⟨h.low, h.raw.kp hk hS, h.nds, h.rows.kp h.low hk hS, h.ok⟩
theorem Gp.below {B gb : Nat} {w w' : World} {g : Gph} {nv ev fv pv : Value} {ys : List NV} {ss : List SV} (h : Gp B w gb g nv ev fv pv ys ss) (hb : Below w.heap.size w w') : Gp B w' gb g nv ev fv pv ys ss := h.kp (S := fun _ => False) (Kp.of_below hb) (fun _ _ _ h => h)
theorem Gm.kp {B gb : Nat} {S : Nat → Prop} {w w' : World} {g : Gph} (h : Gm B w gb g) (hk : Kp S w w') (hS : ∀ k, B ≤ k → k < w.heap.size → ¬ S k) : Gm B w' gb g := by
  obtain ⟨nv, ev, fv, pv, ys, ss, h⟩ := h
  exact ⟨nv, ev, fv, pv, ys, ss, h.kp hk hS⟩
theorem Gm.below {B gb : Nat} {w w' : World} {g : Gph} (h : Gm B w gb g) (hb : Below w.heap.size w w') : Gm B w' gb g := h.kp (S := fun _ => False) (Kp.of_below hb) (fun _ _ _ h => h)
/-- What New answers. -/
def Nw (w : World) (g : Gph) (r : Ending) (w' : World) : Prop := Below w.heap.size w w' ∧ ∃ e t, Fl g e t ∧ ((e ≠ 0 ∧ r = .returned (.tuple #[.pointer none, .int .i64 e, .int .i64 t])) ∨ (e = 0 ∧ ∃ gb, r = .returned (.tuple #[.pointer (some ⟨gb, 0, none⟩), .int .i64 0, .int .i64 0]) ∧ Gm w.heap.size w' gb g))
theorem shape_of {t : List Spt} {k : Nat} {s : SV} (h : (t.map SV.of)[k]? = some s) : t[k]? = some (s.nd.toNat, s.pt.toNat, s.inn) ∧ 0 ≤ s.nd ∧ 0 ≤ s.pt := by
  rw [List.getElem?_map] at h
  cases e : t[k]? with
  | none => rw [e] at h; cases h
  | some x =>
    rw [e] at h
    cases h
    simp [SV.of]
theorem of_ev {t : List Spt} {k : Nat} {s : SV} (h : (t.map SV.of)[k]? = some s) : s.ev = .slice none 0 0 := by
  rw [List.getElem?_map] at h
  cases e : t[k]? with
  | none => rw [e] at h; cases h
  | some x =>
    rw [e] at h
    cases h
    rfl
set_option maxHeartbeats 4000000 in
theorem new_any {M : Nat} {nv ev : Value} {a : Int} {xs : List NV} {es : List Edg} (w : World) (hG : GR M w nv ev xs es) (hC : Gcap ev xs) : Calls Try.prog 7 #[.agg (gvc a nv ev)] w (Nw w (gof a xs es)) := by
  have g0 := (Gr.refl w).alloc (.cells (gvc a nv ev) 25)
  have HG := hid (hG.below g0.below)
  have HB := hid (heap_new' w (.cells (gvc a nv ev) 25))
  have B0 := hid g0.below
  obtain ⟨W0, hW0⟩ : ∃ W, W = w.alloc (.cells (gvc a nv ev) 25) := ⟨_, rfl⟩
  have HW : Hid (w.alloc (.cells #[.int .i64 a, nv, ev] 25) = W0) := hW0.symm
  rw [← hW0] at HG HB B0
  have HCP := hid hC
  have hf := flawof_any (a := a) W0 HG.out hC
  obtain ⟨pn, cn, rfl⟩ := hG.nodes.form
  obtain ⟨pe, ce, rfl⟩ := hG.edges.form
  have c0 := (tk_store HB.out).1
  have l0 := tk_lt HB.out
  generalize hnl : xs.length = nl at *
  generalize hel : es.length = el at *
  have HNL := hid hnl
  have HEL := hid hel
  clear hG g0 hW0 hC hnl hel
  go_enter Try.func7, Try.ntmps7
  go_upto_region 1 with fail
  rw [HW.out]
  clear HW
  go_wp2_with fail
  refine hf.mono ?_
  rintro r w1 ⟨e, t, rfl, hF, b1⟩
  have B1 := hid (B0.out.trans (b1.mono B0.out.size))
  have HF := hid hF
  by_cases he : e = 0
  · subst he
    have HOK := hid (hF.ok.1 rfl)
    have hn1 := (b1.block _ (tk_lt HB.out)).trans HB.out
    have c1 := (tk_store hn1).1
    have l1 := tk_lt hn1
    have G1 := HG.out.below b1
    have hcop := copied_any (a := a) w1 G1 ⟨by have h := HOK.out.nl; simp at h; omega, by have h := HOK.out.el; simp at h; omega, fun x hx => by have h := HOK.out.lists x.n (List.mem_map_of_mem hx); omega⟩
    clear hF b1 hf c0 l0 hn1 G1
    go_wp2_with fail
    refine hcop.mono ?_
    rintro r w2 ⟨nv', ev', ys, rfl, b2, hys, hcg⟩
    have B2 := hid (B1.out.trans (b2.mono B1.out.size))
    have CG := hid (hcg.base B1.out.size)
    have HYS := hid hys
    obtain ⟨qn, mn, kn, hn⟩ := owns_form hcg.nodes
    obtain ⟨qe, me, ke, hq⟩ := owns_form hcg.edges
    subst hn
    subst hq
    clear b2 hcg hys hcop c1 l1
    obtain ⟨gb, hgb⟩ : ∃ b, b = w2.heap.size := ⟨_, rfl⟩
    obtain ⟨W3, hW3⟩ : ∃ W, W = w2.alloc (.cells (gcells a (.slice qn mn kn) (.slice qe me ke) (.slice none 0 0) (.slice none 0 0)) 75) := ⟨_, rfl⟩
    have P3 : Hid (Below w2.heap.size w2 W3 ∧ W3.heap[gb]? = some (.cells (gcells a (.slice qn mn kn) (.slice qe me ke) (.slice none 0 0) (.slice none 0 0)) 75 (0, 0)) ∧ gb = w2.heap.size ∧ W3.heap.size = gb + 1) := by
      rw [hW3, hgb]
      exact ⟨((Gr.refl w2).alloc _).below, heap_new' _ _, rfl, by simp⟩
    have HW3 : Hid (w2.alloc (.cells #[.int .i64 a, .slice qn mn kn, .slice qe me ke, .slice none 0 0, .slice none 0 0] 75) = W3 ∧ w2.heap.size = gb) := ⟨hW3.symm, hgb.symm⟩
    clear hW3 hgb
    have hpo : Pok (ys.map NV.n) := by rw [HYS.out]; exact HOK.out.pok
    have hyl : ys.length = xs.length := by have := congrArg List.length HYS.out; simpa using this
    have hxl : xs.length ≤ 24 := by have := HOK.out.nl; simpa using this
    have hN3 : Lz EV w2.heap.size W3 (.slice qn mn kn) ys := Or.inl ⟨(owns_ls (E := EV) CG.out.nodes).below P3.out.1, fun k e => (owns_rd CG.out.nodes k e).2⟩
    have hE3 : Lz ED w2.heap.size W3 (.slice qe me ke) es := Or.inl ⟨(owns_ls (E := ED) CG.out.edges).below P3.out.1, fun k e => (owns_rd CG.out.edges k e).2⟩
    have hnum := number_any W3 P3.out.2.1 hN3 (fun k e e2 => by have := (owns_rd CG.out.nodes k e).2; have := P3.out.2.2.1; omega) (by omega) hpo
    have HN3 := hid hN3
    have HE3 := hid hE3
    clear hN3 hE3
    go_upto_region 5 with fail
    rw [HW3.out.1, HW3.out.2]
    clear HW3
    go_wp2_with fail
    refine hnum.mono ?_
    rintro r w4 ⟨rfl, fv, pv, hNp⟩
    have HNP := hid hNp
    have hH4 : Hg W3.heap.size w4 gb a (.slice qn mn kn) (.slice qe me ke) fv pv (ys.map NV.n) ((spotsU (ys.map NV.n) ys.length).map SV.of) (fun _ => []) := by
      have hl : (ys.map NV.n).length = ys.length := by simp
      refine ⟨hNp.blk, by rw [hl]; exact hNp.fr, hNp.sp, by simp, fun k s hk => by rw [hl]; exact shape_of hk, fun k s hk => ?_, fun k s hk b hb => ?_⟩
      · rw [of_ev hk]
        exact World.ownsRow_nil _ _ _ _
      · rw [of_ev hk] at hb
        cases hb
    have keep : ∀ k, k < w2.heap.size → w4.heap[k]? = W3.heap[k]? := fun k hk => hNp.kp.block k (Nat.lt_of_lt_of_le hk P3.out.1.size) (fun e => by have := P3.out.2.2.1; omega)
    have hN4 : Lz EV w2.heap.size w4 (.slice qn mn kn) ys := by
      rcases HN3.out with ⟨h, hm⟩ | h
      · exact Or.inl ⟨h.kept hNp.kp.size (fun k e => keep k (hm k e)), hm⟩
      · exact Or.inr h
    have hE4 : Lz ED w2.heap.size w4 (.slice qe me ke) es := by
      rcases HE3.out with ⟨h, hm⟩ | h
      · exact Or.inl ⟨h.kept hNp.kp.size (fun k e => keep k (hm k e)), hm⟩
      · exact Or.inr h
    have hhang := hang_any (a := a) w4 hH4 (by have := P3.out.2.2.2; omega) hNp.kp.size (by have := P3.out.2.2; omega) hN4 hE4 (by have h := HOK.out; unfold gof at h ⊢; rw [HYS.out]; exact h)
    clear hnum hNp hH4 keep hN4 hE4 hpo hyl hxl
    go_wp2_with fail
    refine hhang.mono ?_
    rintro r w5 ⟨rfl, ss, hH5, k5⟩
    have KK : Kp (fun k => w2.heap.size ≤ k) w2 w5 := ((Kp.of_below P3.out.1).trans (HNP.out.kp) (fun j _ e => by have := P3.out.2.2.1; omega)).trans k5 (fun j _ e => by have := P3.out.2.2; omega)
    have FIN : Hid (Below w.heap.size w w5 ∧ Gm w.heap.size w5 gb (gof a xs es)) := by
      refine ⟨B2.out.trans (KK.below B2.out.size (fun k e => Nat.le_trans B2.out.size e)), _, _, fv, pv, ys, ss, by have := P3.out.2.2.1; have := B2.out.size; omega, CG.out.kp KK (fun k _ h e => by omega), HYS.out, ?_, HOK.out⟩
      have h := hH5.base (B' := w.heap.size) (by have := P3.out.2.2; have := B2.out.size; omega)
      rw [HYS.out] at h
      exact h
    clear hhang hH5 k5 KK
    go_wp2_with fail
    refine bodyPost_ret (v := .tuple #[.pointer (some ⟨gb, 0, none⟩), .int .i64 0, .int .i64 0]) (by simp [results, Try.results7, go_sem]) rfl ?_
    exact ⟨FIN.out.1, 0, t, HF.out, Or.inr ⟨rfl, gb, rfl, FIN.out.2⟩⟩
  · have hb : (e == 0) = false := by simp [he]
    have hb' : (e != 0) = true := by simp [he]
    have HE := hid he
    clear hF b1 hf c0 l0 he
    go_wp2_with fail
    refine bodyPost_ret (v := .tuple #[.pointer none, .int .i64 e, .int .i64 t]) (by simp [results, Try.results7, go_sem]) rfl ?_
    exact ⟨B1.out, e, t, HF.out, Or.inl ⟨HE.out, rfl⟩⟩
end Go.Proofs.Ytifjjnnpoleinaa.Df

namespace Go.Proofs.Ytifjjnnpoleinaa.Df
open Go.RowKit Go.Sort
attribute [local go_sem ↓] Go.wp_at_zero Go.wp_at_succ

theorem Gp.gb {B gb : Nat} {w : World} {g : Gph} {nv ev fv pv : Value} {ys : List NV} {ss : List SV} (h : Gp B w gb g nv ev fv pv ys ss) : Gb w gb g.arity nv ev fv pv ys := by
  have hl : ys.length = g.nodes.length := by rw [← h.nds, List.length_map]
  refine ⟨h.rows.blk, owns_lz (E := EV) h.raw.nodes, ?_, by rw [hl]; exact h.ok.nl, by rw [h.nds]; exact h.ok.pok⟩
  rw [h.nds, hl]
  exact owns_ls (E := EI) h.rows.fr
theorem gin_any {B gb : Nat} {g : Gph} (i p : Int) (w : World) (h : Gm B w gb g) : Calls Try.prog 12 #[.pointer (some ⟨gb, 0, none⟩), .int .i64 i, .int .i64 p] w fun r w' => r = .returned (.int .i64 (inN g.nodes i p)) ∧ w' = w := by
  obtain ⟨nv, ev, fv, pv, ys, ss, h⟩ := h
  have := in_any i p w h.gb
  rw [h.nds] at this
  exact this
theorem gout_any {B gb : Nat} {g : Gph} (i p : Int) (w : World) (h : Gm B w gb g) : Calls Try.prog 39 #[.pointer (some ⟨gb, 0, none⟩), .int .i64 i, .int .i64 p] w fun r w' => r = .returned (.int .i64 (outN g.nodes i p)) ∧ Gr w w' := by
  obtain ⟨nv, ev, fv, pv, ys, ss, h⟩ := h
  have := out_any i p w h.gb
  rw [h.nds] at this
  exact this
/-- How many places there are. -/
def plN (ns : List Nod) : Nat := (spotsU ns ns.length).length
theorem gplaces_any {B gb : Nat} {g : Gph} (w : World) (h : Gm B w gb g) : Calls Try.prog 11 #[.pointer (some ⟨gb, 0, none⟩)] w fun r w' => r = .returned (.int .i64 (plN g.nodes : Nat)) ∧ w' = w := by
  obtain ⟨nv, ev, fv, pv, ys, ss, h⟩ := h
  have HL : Hid (ss.length = plN g.nodes) := h.rows.len
  have cg := (tk_store h.rows.blk).1
  have lg := tk_lt h.rows.blk
  obtain ⟨p, n, c, rfl⟩ := owns_form h.rows.sp
  have HN := hid (owns_caps h.rows.sp _ _ _ rfl).1
  clear h
  go_enter Try.func11, Try.ntmps11
  go_wp2_with fail
  go_ret
  exact ⟨by rw [← HL.out, ← HN.out]; rfl, rfl⟩
set_option maxHeartbeats 1000000 in
/-- A copy of the graph as it was given. -/
theorem graw_any {B gb : Nat} {g : Gph} (w : World) (h : Gm B w gb g) : Calls Try.prog 26 #[.pointer (some ⟨gb, 0, none⟩)] w fun r w' => ∃ nv ev ys, Hid (r = .returned (.agg (gvc g.arity nv ev)) ∧ Below w.heap.size w w' ∧ ys.map NV.n = g.nodes ∧ Cg w.heap.size w' nv ev ys g.edges) := by
  obtain ⟨nv, ev, fv, pv, ys, ss, h⟩ := h
  have hyl : ys.length = g.nodes.length := by rw [← h.nds, List.length_map]
  have hnl := h.ok.nl
  have hel := h.ok.el
  have hli : ∀ y ∈ ys, y.n.code.length ≤ 16 ∧ y.n.conns.length ≤ 16 := fun y hy => h.ok.lists y.n (by rw [← h.nds]; exact List.mem_map_of_mem hy)
  have HNDS := hid h.nds
  obtain ⟨W0, hW0⟩ : ∃ W, W = w.alloc (.cells (gvc 0 (.slice none 0 0) (.slice none 0 0)) 25) := ⟨_, rfl⟩
  have b0 : Below w.heap.size w W0 := by rw [hW0]; exact ((Gr.refl w).alloc _).below
  have N0 : Hid (W0.heap[w.heap.size]? = some (.cells (gvc 0 (.slice none 0 0) (.slice none 0 0)) 25 (0, 0)) ∧ Below w.heap.size w W0) := by rw [hW0]; exact ⟨heap_new' _ _, ((Gr.refl w).alloc _).below⟩
  have HW : Hid (w.alloc (.cells #[.int .i64 0, .slice none 0 0, .slice none 0 0] 25) = W0) := hW0.symm
  have h0 := h.below b0
  have hgr : GR W0.heap.size W0 nv ev ys g.edges := h0.raw.gr ⟨by omega, by omega⟩ (fun y hy => by have := hli y hy; omega)
  have hcop := copied_any (a := g.arity) W0 hgr ⟨by omega, by omega, fun y hy => by have := hli y hy; omega⟩
  have cg := (tk_store h0.rows.blk).1
  have lg := tk_lt h0.rows.blk
  have HG : Hid (nv = nv) := rfl
  obtain ⟨p1, n1, c1, rfl⟩ := owns_form h.raw.nodes
  obtain ⟨p2, n2, c2, rfl⟩ := owns_form h.raw.edges
  clear h h0 hgr b0 hW0 hli hyl hnl hel HG
  go_enter Try.func26, Try.ntmps26
  go_upto_region 1 with fail
  rw [HW.out]
  clear HW
  go_wp2_with fail
  refine hcop.mono ?_
  rintro r w2 ⟨nv', ev', zs, rfl, b2, hys, hcg⟩
  have HC : Hid (Below W0.heap.size W0 w2 ∧ zs.map NV.n = g.nodes ∧ Cg W0.heap.size w2 nv' ev' zs g.edges) := ⟨b2, hys.trans HNDS.out, hcg⟩
  obtain ⟨q1, m1, k1, hq1⟩ := owns_form hcg.nodes
  obtain ⟨q2, m2, k2, hq2⟩ := owns_form hcg.edges
  subst hq1
  subst hq2
  have hn2 := (b2.block _ (tk_lt N0.out.1)).trans N0.out.1
  have c2 := (tk_store hn2).1
  have f2 := (tk_store hn2).2
  have l2 := tk_lt hn2
  have HN2 := hid hn2
  clear b2 hys hcg hn2 hcop cg lg
  go_wp2_with fail
  obtain ⟨wf, hwf⟩ : ∃ wf, wf = ((w2.setCell ⟨w.heap.size, 0, none⟩ (.int .i64 g.arity)).setCell ⟨w.heap.size, 1, none⟩ (.slice q1 m1 k1)).setCell ⟨w.heap.size, 2, none⟩ (.slice q2 m2 k2) := ⟨_, rfl⟩
  rw [← hwf]
  obtain ⟨hbf, hkf⟩ : wf.heap[w.heap.size]? = some (.cells #[.int .i64 g.arity, .slice q1 m1 k1, .slice q2 m2 k2] 25 (0, 0)) ∧ Kp (fun k => k = w.heap.size) w2 wf := by
    rw [hwf]
    exact fill3 HN2.out _ _ _
  clear hwf c2 f2 l2
  obtain ⟨qf, -⟩ := tk_store hbf
  have hlf := tk_lt hbf
  refine bodyPost_ret (v := .agg #[.int .i64 g.arity, .slice q1 m1 k1, .slice q2 m2 k2]) (by simp [results, Try.results26, go_sem, qf]) rfl ?_
  have hlo := tk_lt N0.out.1
  have hbw := N0.out.2.trans (HC.out.1.mono N0.out.2.size)
  exact ⟨_, _, zs, rfl, hbw.trans (hkf.below hbw.size (fun k e => by omega)), HC.out.2.1, (HC.out.2.2.kp hkf (fun k h1 h2 e => by omega)).base N0.out.2.size⟩
/-- From each in-port to each out-port. -/
def rowL (i p : Nat) : List Con := (List.range p).map fun (o : Nat) => ⟨(i : Int), (o : Int), (0, 0, 0)⟩
def acrL (o : Nat) : Nat → List Con
  | 0 => []
  | i + 1 => acrL o i ++ rowL i o
theorem rowL_succ (i p : Nat) : rowL i (p + 1) = rowL i p ++ [⟨(i : Int), (p : Int), (0, 0, 0)⟩] := by simp [rowL, List.range_succ]
theorem acrL_length (o i : Nat) : (acrL o i).length = i * o := by
  induction i with
  | zero => simp [acrL]
  | succ i ih => rw [acrL, List.length_append, ih, Nat.succ_mul]; simp [rowL]
set_option maxHeartbeats 2000000 in
theorem across_any (k : Int) (ci co : Nat) (cq : Option Addr) (cm cc : Nat) (via : Pth) (bd : Nat) (dq : Option Addr) (dm dc : Nat) (st : Bool) (hi : ci ≤ 4) (ho : co ≤ 4) (w : World) : Calls Try.prog 50 #[.agg (ncells k (ci : Int) (co : Int) (.slice cq cm cc) via bd (.slice dq dm dc) st)] w (Cp EC 97 w (acrL co ci)) := by
  have B0 := hid ((Gr.refl w).alloc (.cells (ncells k (ci : Int) (co : Int) (.slice cq cm cc) via bd (.slice dq dm dc) st) 68)).below
  have N0 := hid (heap_new' w (.cells (ncells k (ci : Int) (co : Int) (.slice cq cm cc) via bd (.slice dq dm dc) st) 68))
  obtain ⟨W0, hW0⟩ : ∃ W, W = w.alloc (.cells (ncells k (ci : Int) (co : Int) (.slice cq cm cc) via bd (.slice dq dm dc) st) 68) := ⟨_, rfl⟩
  have HW : Hid (w.alloc (.cells #[.int .i64 k, .int .i64 (ci : Int), .int .i64 (co : Int), .slice cq cm cc, .int .u64 (via.1 : Nat), .int .u64 (via.2.1 : Nat), .int .u64 (via.2.2 : Nat), .int .u64 (bd : Nat), .slice dq dm dc, .bool st] 68) = W0) := hW0.symm
  rw [← hW0] at B0 N0
  have c0 := (tk_store N0.out).1
  have l0 := tk_lt N0.out
  clear hW0
  go_enter Try.func50, Try.ntmps50
  go_upto_region 1 with fail
  rw [HW.out]
  clear HW
  go_wp2_with fail
  clear c0 l0
  go_loopw [8, 3] (fun s8 s3 wr => ∃ (i : Nat), i ≤ ci ∧ s8 = .int .i64 (i : Nat) ∧ Hid (Below W0.heap.size W0 wr ∧ wr.ownsRow W0.heap.size 97 5 s3 (acrL co i).length (fl EC (acrL co i)))) (fun s8 _ _ => ci - (RowKit.intOf s8).toNat)
  case atStart => exact ⟨0, Nat.zero_le _, rfl, Below.refl _ _, World.ownsRow_nil _ _ _ _⟩
  case round =>
    obtain ⟨i, hil, rfl, HI⟩ := hrel
    rename_i s8 s3
    obtain ⟨q3, m3, k3, hs3⟩ := owns_form HI.out.2
    subst hs3
    by_cases hlt : i < ci
    · have hltz : (i : Int) < (ci : Int) := by omega
      have hn := (HI.out.1.block _ (tk_lt N0.out)).trans N0.out
      have c1 := (tk_store hn).1
      have l1 := tk_lt hn
      clear hn
      go_upto_region 6 with fail
      clear c1 l1
      go_loopw [13, 3] (fun s13 s3 wr => ∃ (p : Nat), p ≤ co ∧ s13 = .int .i64 (p : Nat) ∧ Hid (Below W0.heap.size W0 wr ∧ wr.ownsRow W0.heap.size 97 5 s3 (acrL co i ++ rowL i p).length (fl EC (acrL co i ++ rowL i p)))) (fun s13 _ _ => co - (RowKit.intOf s13).toNat)
      case atStart => exact ⟨0, Nat.zero_le _, rfl, HI.out.1, owns_re HI.out.2 (by simp [rowL]) (by simp [rowL])⟩
      case round =>
        clear HI
        obtain ⟨p, hpl, rfl, HI⟩ := hrel
        rename_i s13 s3'
        obtain ⟨q4, m4, k4, hs4⟩ := owns_form HI.out.2
        subst hs4
        by_cases hlp : p < co
        · have hlpz : (p : Int) < (co : Int) := by omega
          obtain ⟨LL, hLL⟩ : ∃ l, l = acrL co i ++ rowL i p := ⟨_, rfl⟩
          rw [← hLL] at HI
          have HLL := hid hLL
          have HLN : Hid (LL.length ≤ 20) := by
            show _ ≤ _
            have h1 : i * co ≤ 4 * 4 := Nat.mul_le_mul (by omega) ho
            rw [hLL, List.length_append, acrL_length]
            simp [rowL]
            omega
          clear hLL
          go_wp2_with (at_builtin; refine wpApp1 EC Try.underlying66 infoC rfl (by decide) rfl _ _ rfl W0.heap.size _ LL.length _ rfl HI.out.2 ⟨(i : Int), (p : Int), (0, 0, 0)⟩ (by first | rfl | simp) (by have := HLN.out; omega) (by have := HLN.out; unfold maxLen; omega) HI.out.1.size _ rfl _ ?_)
          intro g8 cap8 w8 h8 k8 _
          have FIN : Hid (Below W0.heap.size W0 w8 ∧ w8.ownsRow W0.heap.size 97 5 (.slice (some ⟨g8, 0, none⟩) (LL.length + 1) cap8) (acrL co i ++ rowL i (p + 1)).length (fl EC (acrL co i ++ rowL i (p + 1)))) := by
            have k2 := Kp.grownBy (S := fun k => (Value.slice q4 m4 k4).ownBlock = some k) k8 (fun _ h => h)
            refine ⟨HI.out.1.trans (k2.below HI.out.1.size (fun k e => (owns_rd HI.out.2 k e).1)), owns_re h8 (by rw [HLL.out, rowL_succ]; simp; omega) (by rw [HLL.out, rowL_succ, ← List.append_assoc, fl_append EC (acrL co i ++ rowL i p), fl_one])⟩
          clear h8 k8
          generalize LL.length + 1 = ll at FIN ⊢
          go_wp2_with fail
          go_roundw
          case rel => exact ⟨p + 1, by omega, by go_num, FIN.out⟩
          case measure => simp [RowKit.intOf]; omega
        · have hlpz : ¬ (p : Int) < (co : Int) := by omega
          have FIN : Hid (Below W0.heap.size W0 wr ∧ wr.ownsRow W0.heap.size 97 5 (.slice q4 m4 k4) (acrL co (i + 1)).length (fl EC (acrL co (i + 1)))) := by
            have h := HI.out.2
            rw [show p = co by omega] at h
            exact ⟨HI.out.1, h⟩
          go_wp2_with fail
          go_roundw
          case rel => exact ⟨i + 1, by omega, by go_num, FIN.out⟩
          case measure => simp [RowKit.intOf]; omega
    · have hltz : ¬ (i : Int) < (ci : Int) := by omega
      obtain rfl : i = ci := by omega
      go_wp2_with fail
      go_ret
      exact ⟨_, rfl, B0.out.trans (HI.out.1.mono B0.out.size), owns_base HI.out.2 B0.out.size⟩
end Go.Proofs.Ytifjjnnpoleinaa.Df

namespace Go.Proofs.Ytifjjnnpoleinaa.Df
open Go.RowKit Go.Sort
attribute [local go_sem ↓] Go.wp_at_zero Go.wp_at_succ

/-- Node and port of a place, and whether it is an in-place. -/
def ofN (ns : List Nod) (k : Int) : Int × Int × Bool := if k < 0 then (-1, -1, false) else match (spotsU ns ns.length)[k.toNat]? with
  | some s => ((s.1 : Nat), (s.2.1 : Nat), s.2.2)
  | none => (-1, -1, false)
set_option maxHeartbeats 2000000 in
theorem gof_any {B gb : Nat} {g : Gph} (k : Int) (w : World) (h : Gm B w gb g) : Calls Try.prog 8 #[.pointer (some ⟨gb, 0, none⟩), .int .i64 k] w fun r w' => r = .returned (.tuple #[.int .i64 (ofN g.nodes k).1, .int .i64 (ofN g.nodes k).2.1, .bool (ofN g.nodes k).2.2]) ∧ Gr w w' := by
  obtain ⟨nv, ev, fv, pv, ys, ss, h⟩ := h
  have cg := (tk_store h.rows.blk).1
  have lg := tk_lt h.rows.blk
  by_cases hk : 0 ≤ k ∧ k < (ss.length : Int)
  · obtain ⟨j, rfl⟩ : ∃ j : Nat, k = (j : Int) := ⟨k.toNat, by omega⟩
    have hj : j < ss.length := by omega
    obtain ⟨s, hs⟩ : ∃ s, ss[j]? = some s := ⟨ss[j], List.getElem?_eq_getElem hj⟩
    obtain ⟨h1, h2, h3⟩ := h.rows.shape j s hs
    have HR : Hid (ofN g.nodes (j : Int) = (s.nd, s.pt, s.inn)) := by
      show _ = _
      unfold ofN
      rw [if_neg (by omega), Int.toNat_natCast, h1]
      simp only [Int.toNat_of_nonneg h2, Int.toNat_of_nonneg h3]
    obtain ⟨b1, o1, c1, rfl, hb1, x1, x2, x3, x4⟩ := ls_atS (owns_ls (E := ES) h.rows.sp) hs
    have hc := among_any (j : Int) (ss.length : Int) w
    rw [decide_eq_true hk] at hc
    generalize ss.length = m at hc cg hj hk
    have hjz : (j : Int) < (m : Int) := by omega
    have hj0 : (0 : Int) ≤ (j : Int) := by omega
    obtain ⟨sn, sp, si, sq, sm, sc⟩ := s
    simp only [SV.ev] at x4
    rw [HR.out]
    clear h hs h1 h2 h3 hk hj HR
    go_enter Try.func8, Try.ntmps8
    go_wp2_with fail
    refine hc.mono ?_
    rintro r w1 ⟨rfl, rfl⟩
    clear hc
    go_upto_region 6 with fail
    go_quiet (fail)
    go_wp2_with fail
    refine bodyPost_ret (v := .tuple #[.int .i64 sn, .int .i64 sp, .bool si]) (by simp [results, Try.results8, go_sem]) rfl ?_
    exact ⟨rfl, ((Gr.refl _).alloc _).drewN _⟩
  · have HR : Hid (ofN g.nodes k = (-1, -1, false)) := by
      show _ = _
      unfold ofN
      by_cases h0 : k < 0
      · rw [if_pos h0]
      · rw [if_neg h0, List.getElem?_eq_none (by rw [← h.rows.len]; omega)]
    obtain ⟨p, n, c, rfl⟩ := owns_form h.rows.sp
    have hn := (owns_caps h.rows.sp _ _ _ rfl).1
    subst hn
    have hc := among_any k (ss.length : Int) w
    rw [decide_eq_false hk] at hc
    generalize ss.length = m at hc cg hk
    rw [HR.out]
    clear h HR
    go_enter Try.func8, Try.ntmps8
    go_wp2_with fail
    refine hc.mono ?_
    rintro r w1 ⟨rfl, rfl⟩
    clear hc
    go_wp2_with fail
    refine bodyPost_ret (v := .tuple #[.int .i64 (-1), .int .i64 (-1), .bool false]) (by simp [results, Try.results8, go_sem]) rfl ?_
    exact ⟨rfl, Gr.refl _⟩
end Go.Proofs.Ytifjjnnpoleinaa.Df

namespace Go.Proofs.Ytifjjnnpoleinaa.Df
open Go.RowKit Go.Sort Go.Shelf
attribute [local go_sem] Oper.semAt_some

theorem edges_in {n : Nat} {gb : Nat} (k : Int) (w : World) : CallsIn Fence.wide n Try.prog 10 #[.pointer (some ⟨gb, 0, none⟩), .int .i64 k] w fun e w' => e = .returned (.func (.func 28) #[] #[.pointer (some ⟨w.heap.size + 1, 0, none⟩), .pointer (some ⟨w.heap.size, 0, none⟩)]) ∧ w' = (w.alloc (.cells #[.pointer (some ⟨gb, 0, none⟩)] 34)).alloc (.cells #[.int .i64 k] 3) := by
  refine callsIn_wide.2 ?_
  go_enter Try.func10, Try.ntmps10
  go_wp2_with fail
  go_ret
  exact ⟨by simp, rfl⟩
/-- The edges at a place. -/
def edN (g : Gph) (k : Int) : List Int := if 0 ≤ k ∧ k < (plN g.nodes : Int) then edgesU g.nodes g.edges k.toNat g.edges.length else []
theorem abides_gr {J : List Int → World → Prop} {B : Nat} (h : AbidesFrom B J) {W W' : World} (hg : Gr W W') {pre : List Int} (h0 : J pre W) : J pre W' := h pre W W' none h0 ⟨hg.below.os, hg.below.tape, hg.below.output, hg.below.size, fun k hk _ => hg.below.block k hk⟩ (fun r e => by cases e)
theorem ls_low {α : Type} {E : El α} {n₀ : Nat} {W W' : World} {v : Value} {L : List α} (h : Ls E W v L) (hb : Below n₀ W W') (hq : ∀ b, v.ownBlock = some b → b < n₀) : Ls E W' v L :=
  Kp.ls (S := fun k => n₀ ≤ k) ⟨hb.os, hb.tape, hb.output, hb.size, fun k _ hS => hb.block k (by omega)⟩ h (fun k e => by have := hq k e; omega)
theorem take_snoc {α : Type} {L : List α} {k : Nat} {x : α} (hx : L[k]? = some x) : L.take k ++ [x] = L.take (k + 1) := by rw [List.take_add_one, hx]; rfl
set_option maxRecDepth 100000 in
set_option maxHeartbeats 2000000 in
theorem edges1_in (n : Nat) (hn : 1 ≤ n) (l Bp Bg n₀ : Nat) {B gb j : Nat} {g : Gph} {nv ev fv pv : Value} {ys : List NV} {ss : List SV} {s : SV} {L : List Int} (J Jx : List Int → World → Prop)
    (hY : ∀ pre x W, J pre W → pre.length < L.length → YieldAt Fence.wide (n - 1) Try.prog l #[.int .i64 x] W fun e W' => (e = .returned (.bool true) ∧ J (pre ++ [x]) W' ∧ Below n₀ W W') ∨ (e = .returned (.bool false) ∧ Jx (pre ++ [x]) W'))
    (W : World) (hJ : AbidesFrom W.heap.size J) (h : Gp B W gb g nv ev fv pv ys ss) (hs : ss[j]? = some s) (hL : W.ownsRow B 3 1 s.ev L.length (fl EI L)) (hq : ∀ b, s.ev.ownBlock = some b → b < n₀) (hBp : W.cell? ⟨Bp, 0, none⟩ = some (.int .i64 (j : Nat))) (hBg : W.cell? ⟨Bg, 0, none⟩ = some (.pointer (some ⟨gb, 0, none⟩))) (hLl : L.length ≤ 1000) (h0 : J [] W) :
    CallsIn Fence.wide n Try.prog 28 #[.func (.yield l) #[] #[], .pointer (some ⟨Bp, 0, none⟩), .pointer (some ⟨Bg, 0, none⟩)] W fun e W' => (∃ v, e = .returned v) ∧ ((∃ zs, zs = L ∧ J zs W') ∨ (∃ pre, pre <+: L ∧ Jx pre W')) := by
  have hjs : j < ss.length := (List.getElem?_eq_some_iff.1 hs).1
  have hlen := h.rows.len
  have hP := fun (n : Nat) (W' : World) (hb : Below W.heap.size W W') => callsIn_wide (n := n).2 (gplaces_any W' (Gm.below ⟨nv, ev, fv, pv, ys, ss, h⟩ hb))
  have hA := fun (n : Nat) (W' : World) => callsIn_wide (n := n).2 (among_any (j : Int) (plN g.nodes : Nat) W')
  rw [decide_eq_true (by unfold plN; omega)] at hA
  have cg := (tk_store h.rows.blk).1
  have lg := tk_lt h.rows.blk
  obtain ⟨b1, o1, c1, rfl, hb1, x1, x2, x3, x4⟩ := ls_atS (owns_ls (E := ES) h.rows.sp) hs
  obtain ⟨sn, sp, si, sq, sm, sc⟩ := s
  simp only [SV.ev] at x4 hL hq
  have hm := (owns_caps hL _ _ _ rfl).1
  subst hm
  have HLs := hid (owns_ls (E := EI) hL)
  have HQ := hid hq
  have HJ := hid hJ
  have H0 := hid h0
  have HY := hid hY
  have hjz : (j : Int) < (ss.length : Int) := by omega
  have hj0 : (0 : Int) ≤ (j : Int) := by omega
  refine callsIn_of_wp Try.func28 rfl trivial ?_ rfl
  simp only [Try.ntmps28, List.size_toArray, List.length_cons, List.length_nil, Nat.reduceAdd, Nat.reduceSub, Array.replicate_succ, Array.replicate_zero, List.push_toArray, List.append_toArray, List.nil_append, List.cons_append]
  have hmx : Try.prog.follows .mixedOrders = true := by kernel_rfl
  gi_wp2
  gi_region_with_o (first | (refine ⟨trivial, ?_⟩; gi_at_call 11; refine (hP _ W.drew (Gr.refl W).drew.below).mono ?_; rintro e w' ⟨rfl, rfl⟩) | (refine ⟨trivial, ?_⟩; gi_at_call 23; refine (hA _ W.drew).mono ?_; rintro e w' ⟨rfl, rfl⟩))
  all_goals (
    go_simp
    gi_wp2
    gi_quiet (fail)
    gi_wp2
    clear hP hA
    gi_loopw [20] (fun i wr => ∃ k : Nat, k ≤ L.length ∧ i = .int .i64 k ∧ Hid (J (L.take k) wr) ∧ Hid (Ls EI wr (.slice sq L.length sc) L)) (fun i _ => L.length - (intOf i).toNat)
    case atStart => exact ⟨0, Nat.zero_le _, rfl, by rw [List.take_zero]; exact abides_gr HJ.out ((Gr.refl W).drew.drewN _) H0.out, HLs.out.below ((Gr.refl W).drew.drewN _).below⟩
    case round =>
      obtain ⟨k, hk, rfl, hJs, hls⟩ := hrel
      by_cases hlt : k < L.length
      · obtain ⟨x, hx⟩ : ∃ x, L[k]? = some x := ⟨L[k], List.getElem?_eq_getElem hlt⟩
        obtain ⟨b2, o2, c2, e2, hb2, y2⟩ := ls_atI hls.out hx
        simp only [Value.slice.injEq] at e2
        obtain ⟨rfl, -, rfl⟩ := e2
        obtain ⟨fn, tmps, assign, body, hy, hR⟩ := HY.out (L.take k) x wr hJs.out (by simp; omega)
        have hkz : (k : Int) < (L.length : Int) := by omega
        gi_wp2
        refine hR.mono ?_
        rintro e W3 (⟨rfl, hJ3, hk3⟩ | ⟨rfl, hJx3⟩)
        · gi_wp2
          go_roundw
          case rel => exact ⟨k + 1, by omega, by simp, by rw [← take_snoc hx]; exact hJ3, ls_low hls.out hk3 HQ.out⟩
          case measure => simp [intOf]; omega
        · gi_wp2
          refine bodyPost_ret (results_none rfl _ _ _) rfl ?_
          exact ⟨⟨_, rfl⟩, .inr ⟨_, by rw [take_snoc hx]; exact List.take_prefix _ _, hJx3⟩⟩
      · have hkz : ¬ (k : Int) < (L.length : Int) := by omega
        gi_wp2
        go_end0
        exact ⟨⟨_, rfl⟩, .inl (by have h := hJs.out; rwa [List.take_of_length_le (by omega)] at h)⟩)
set_option maxRecDepth 100000 in
set_option maxHeartbeats 2000000 in
theorem edges1_none (n : Nat) (hn : 1 ≤ n) (l Bp Bg : Nat) {B gb : Nat} {k : Int} {g : Gph} (J : List Int → World → Prop) (W : World) (hJ : AbidesFrom W.heap.size J) (h : Gm B W gb g) (hk : ¬ (0 ≤ k ∧ k < (plN g.nodes : Int))) (hBp : W.cell? ⟨Bp, 0, none⟩ = some (.int .i64 k)) (hBg : W.cell? ⟨Bg, 0, none⟩ = some (.pointer (some ⟨gb, 0, none⟩))) (h0 : J [] W) :
    CallsIn Fence.wide n Try.prog 28 #[.func (.yield l) #[] #[], .pointer (some ⟨Bp, 0, none⟩), .pointer (some ⟨Bg, 0, none⟩)] W fun e W' => (∃ v, e = .returned v) ∧ Hid (J [] W') := by
  have hP := fun (n : Nat) (W' : World) (hb : Below W.heap.size W W') => callsIn_wide (n := n).2 (gplaces_any W' (h.below hb))
  have hA := fun (n : Nat) (W' : World) => callsIn_wide (n := n).2 (among_any k (plN g.nodes : Nat) W')
  rw [decide_eq_false hk] at hA
  have HJ := hid hJ
  have H0 := hid h0
  refine callsIn_of_wp Try.func28 rfl trivial ?_ rfl
  simp only [Try.ntmps28, List.size_toArray, List.length_cons, List.length_nil, Nat.reduceAdd, Nat.reduceSub, Array.replicate_succ, Array.replicate_zero, List.push_toArray, List.append_toArray, List.nil_append, List.cons_append]
  have hmx : Try.prog.follows .mixedOrders = true := by kernel_rfl
  gi_wp2
  gi_region_with_o (first | (refine ⟨trivial, ?_⟩; gi_at_call 11; refine (hP _ W.drew (Gr.refl W).drew.below).mono ?_; rintro e w' ⟨rfl, rfl⟩) | (refine ⟨trivial, ?_⟩; gi_at_call 23; refine (hA _ W.drew).mono ?_; rintro e w' ⟨rfl, rfl⟩))
  all_goals (
    go_simp
    gi_wp2
    refine bodyPost_ret (results_none rfl _ _ _) rfl ?_
    exact ⟨⟨_, rfl⟩, abides_gr HJ.out (Gr.refl W).drew H0.out⟩)
/-- What the closure that Edges hands back gives. -/
theorem edges_stops (n : Nat) (hn : 1 ≤ n) (Bp Bg : Nat) {B gb : Nat} (k : Int) {g : Gph} (w : World) (n₀ : Nat) (hm : Gm B w gb g) (hn₀ : w.heap.size ≤ n₀) (w1 : World) (h1 : Below w.heap.size w w1) (hBp : w1.cell? ⟨Bp, 0, none⟩ = some (.int .i64 k)) (hBg : w1.cell? ⟨Bg, 0, none⟩ = some (.pointer (some ⟨gb, 0, none⟩))) (hbp : Bp < w1.heap.size) (hbg : Bg < w1.heap.size) :
    SeqStopsK Fence.wide n Try.prog 28 #[.pointer (some ⟨Bp, 0, none⟩), .pointer (some ⟨Bg, 0, none⟩)] (fun x : Int => #[Value.int .i64 x]) (Below n₀) (fun zs => zs = edN g k) (fun pre => pre <+: edN g k) (edN g k).length w1 := fun l J Jx W hW hJ _ hY h0 => by
  have hb := h1.trans (hW.mono h1.size)
  have cp := (hW.cell (p := ⟨Bp, 0, none⟩) hbp).trans hBp
  have cg := (hW.cell (p := ⟨Bg, 0, none⟩) hbg).trans hBg
  by_cases hk : 0 ≤ k ∧ k < (plN g.nodes : Int)
  · obtain ⟨nv, ev, fv, pv, ys, ss, h⟩ := hm
    obtain ⟨j, rfl⟩ : ∃ j : Nat, k = (j : Int) := ⟨k.toNat, by omega⟩
    have hlen := h.rows.len
    have hj : j < ss.length := by unfold plN at hk; omega
    have e : edN g (j : Int) = edgesU g.nodes g.edges j g.edges.length := by
      unfold edN
      rw [if_pos hk, Int.toNat_natCast]
    have hr := h.rows.each j ss[j] (List.getElem?_eq_getElem hj)
    rw [e] at hY ⊢
    exact edges1_in n hn l Bp Bg n₀ J Jx hY W hJ (h.below hb) (List.getElem?_eq_getElem hj) (owns_below hr hb) (fun b hb => by have := (owns_rd hr b hb).2; omega) cp cg (by have h1 := edgesU_length g.nodes g.edges j g.edges.length; have h2 := h.ok.el; omega) h0
  · have e : edN g k = [] := by unfold edN; rw [if_neg hk]
    rw [e]
    exact (edges1_none n hn l Bp Bg J W hJ (hm.below hb) hk cp cg h0).mono fun r W' ⟨hr, hj⟩ => ⟨hr, .inl ⟨_, rfl, hj.out⟩⟩
end Go.Proofs.Ytifjjnnpoleinaa.Df
