import Derived.Test.YtdnnfgabdkkdjaaGreatGHang
import Derived.Laws.EntriesVeiled
import Derived.BigQuiet
namespace Go.Proofs.YtdnnfgabdkkdjaaGreat.Df
open Go.RowKit Go.Sort
attribute [local go_sem ↓] Go.wp_at_zero Go.wp_at_succ
theorem nflaw_lists {a : Int} {n : Nod} (h : nflaw a n = 0) : n.code.length ≤ 16 ∧ n.conns.length ≤ 16 := by
 unfold nflaw at h
 split at h
 ·cases h
 ·split at h
  ·cases h
  ·split at h
   ·cases h
   ·rename_i h1 h2 h3
    simp only [nhas, has, Bool.or_eq_true, decide_eq_true_eq, not_or, Nat.not_lt, Nat.le_zero_eq] at h3
    obtain ⟨⟨⟨⟨c1, -⟩, -⟩, c4⟩, -⟩ := h3
    unfold nrest at h
    constructor
    ·by_cases hk : n.kind = 2 ∨ n.kind = 3
     ·rw [if_pos hk] at h
      split at h
      ·cases h
      ·omega
     ·rw [if_neg hk] at c1
      omega
    ·by_cases hk : n.kind = 8
     ·rw [if_neg (by omega), if_neg (by omega), if_pos hk] at h
      split at h
      ·rename_i hc
       exact (cok_iff.1 hc).1
      ·cases h
     ·rw [if_neg hk] at c4
      omega
theorem Gok.lists {g : Gph} (h : Gok g) : ∀ n ∈ g.nodes, n.code.length ≤ 16 ∧ n.conns.length ≤ 16 := fun n hn => by
 obtain ⟨i, hi, rfl⟩ := List.mem_iff_getElem.1 hn
 exact nflaw_lists (h.ng i _ hi (by simp))
theorem Hg.base {B B' gb : Nat} {w : World} {a : Int} {nv ev fv pv : Value} {ns : List Nod} {ss : List SV} {L : Nat → List Int} (h : Hg B w gb a nv ev fv pv ns ss L) (hb : B' ≤ B) : Hg B' w gb a nv ev fv pv ns ss L :=
 ⟨h.blk, owns_base h.fr hb, owns_base h.sp hb, h.len, h.shape, fun k s hk => owns_base (h.each k s hk) hb, h.apart⟩
theorem Hg.kp {B gb : Nat} {S : Nat → Prop} {w w' : World} {a : Int} {nv ev fv pv : Value} {ns : List Nod} {ss : List SV} {L : Nat → List Int} (h : Hg B w gb a nv ev fv pv ns ss L) (hg : B ≤ gb) (hk : Kp S w w') (hS : ∀ k, B ≤ k → k < w.heap.size → ¬ S k) : Hg B w' gb a nv ev fv pv ns ss L :=
 ⟨(hk.block _ (tk_lt h.blk) (hS _ hg (tk_lt h.blk))).trans h.blk, owns_kp hk h.fr (fun k e => hS k (owns_rd h.fr k e).1 (owns_rd h.fr k e).2), owns_kp hk h.sp (fun k e => hS k (owns_rd h.sp k e).1 (owns_rd h.sp k e).2), h.len, h.shape, fun k s hs => owns_kp hk (h.each k s hs) (fun k e => hS k (owns_rd (h.each _ s hs) k e).1 (owns_rd (h.each _ s hs) k e).2), h.apart⟩
structure Gp (B : Nat) (w : World) (gb : Nat) (g : Gph) (nv ev fv pv : Value) (ys : List NV) (ss : List SV) : Prop where
 low : B ≤ gb
 raw : Cg B w nv ev ys g.edges
 nds : ys.map NV.n = g.nodes
 rows : Hg B w gb g.arity nv ev fv pv g.nodes ss (fun k => edgesU g.nodes g.edges k g.edges.length)
 ok : Gok g
def Gm (B : Nat) (w : World) (gb : Nat) (g : Gph) : Prop := ∃ nv ev fv pv ys ss, Gp B w gb g nv ev fv pv ys ss
theorem Gp.kp {B gb : Nat} {S : Nat → Prop} {w w' : World} {g : Gph} {nv ev fv pv : Value} {ys : List NV} {ss : List SV} (h : Gp B w gb g nv ev fv pv ys ss) (hk : Kp S w w') (hS : ∀ k, B ≤ k → k < w.heap.size → ¬ S k) : Gp B w' gb g nv ev fv pv ys ss :=
 ⟨h.low, h.raw.kp hk hS, h.nds, h.rows.kp h.low hk hS, h.ok⟩
theorem Gp.below {B gb : Nat} {w w' : World} {g : Gph} {nv ev fv pv : Value} {ys : List NV} {ss : List SV} (h : Gp B w gb g nv ev fv pv ys ss) (hb : Below w.heap.size w w') : Gp B w' gb g nv ev fv pv ys ss := h.kp (S := fun _ => False) (Kp.of_below hb) (fun _ _ _ h => h)
theorem Gm.kp {B gb : Nat} {S : Nat → Prop} {w w' : World} {g : Gph} (h : Gm B w gb g) (hk : Kp S w w') (hS : ∀ k, B ≤ k → k < w.heap.size → ¬ S k) : Gm B w' gb g := by
 obtain ⟨nv, ev, fv, pv, ys, ss, h⟩ := h
 exact ⟨nv, ev, fv, pv, ys, ss, h.kp hk hS⟩
theorem Gm.below {B gb : Nat} {w w' : World} {g : Gph} (h : Gm B w gb g) (hb : Below w.heap.size w w') : Gm B w' gb g := h.kp (S := fun _ => False) (Kp.of_below hb) (fun _ _ _ h => h)
def Nw (w : World) (g : Gph) (r : Ending) (w' : World) : Prop := Below w.heap.size w w' ∧ ∃ e t, Fl g e t ∧ ((e ≠ 0 ∧ r = .returned (.tuple #[.pointer none, .int .i64 e, .int .i64 t])) ∨ (e = 0 ∧ ∃ gb, r = .returned (.tuple #[.pointer (some ⟨gb, 0, none⟩), .int .i64 0, .int .i64 0]) ∧ Gm w.heap.size w' gb g))
theorem shape_of {t : List Spt} {k : Nat} {s : SV} (h : (t.map SV.of)[k]? = some s) : t[k]? = some (s.nd.toNat, s.pt.toNat, s.inn) ∧ 0 ≤ s.nd ∧ 0 ≤ s.pt := by
 rw [List.getElem?_map] at h
 cases e : t[k]? with
 | none => rw [e] at h; cases h
 | some x =>
  rw [e] at h
  cases h
  simp [SV.of]
theorem of_ev {t : List Spt} {k : Nat} {s : SV} (h : (t.map SV.of)[k]? = some s) : s.ev = .slice none 0 0 := by
 rw [List.getElem?_map] at h
 cases e : t[k]? with
 | none => rw [e] at h; cases h
 | some x =>
  rw [e] at h
  cases h
  rfl
set_option maxHeartbeats 4000000 in
theorem new_any {M : Nat} {nv ev : Value} {a : Int} {xs : List NV} {es : List Edg} (w : World) (hG : GR M w nv ev xs es) (hC : Gcap ev xs) : Calls Tryz.prog 32 #[.agg (gvc a nv ev)] w (Nw w (gof a xs es)) := by
 have g0 := (Gr.refl w).alloc (.cells (gvc a nv ev) 25)
 have HG := hid (hG.below g0.below)
 have HB := hid (heap_new' w (.cells (gvc a nv ev) 25))
 have B0 := hid g0.below
 obtain ⟨W0, hW0⟩ : ∃ W, W = w.alloc (.cells (gvc a nv ev) 25) := ⟨_, rfl⟩
 have HW : Hid (w.alloc (.cells #[.int .i64 a, nv, ev] 25) = W0) := hW0.symm
 rw [← hW0] at HG HB B0
 have HCP := hid hC
 have hf := flawof_any (a := a) W0 HG.out hC
 obtain ⟨pn, cn, rfl⟩ := hG.nodes.form
 obtain ⟨pe, ce, rfl⟩ := hG.edges.form
 have c0 := (tk_store HB.out).1
 have l0 := tk_lt HB.out
 generalize hnl : xs.length = nl at *
 generalize hel : es.length = el at *
 have HNL := hid hnl
 have HEL := hid hel
 clear hG g0 hW0 hC hnl hel
 go_enter Tryz.func32, Tryz.ntmps32
 go_upto_region 1 with fail
 rw [HW.out]
 clear HW
 go_wp2_with fail
 refine hf.mono ?_
 rintro r w1 ⟨e, t, rfl, hF, b1⟩
 have B1 := hid (B0.out.trans (b1.mono B0.out.size))
 have HF := hid hF
 by_cases he : e = 0
 ·subst he
  have HOK := hid (hF.ok.1 rfl)
  have hn1 := (b1.block _ (tk_lt HB.out)).trans HB.out
  have c1 := (tk_store hn1).1
  have l1 := tk_lt hn1
  have G1 := HG.out.below b1
  have hcop := copied_any (a := a) w1 G1 ⟨by have h := HOK.out.nl; simp at h; omega, by have h := HOK.out.el; simp at h; omega, fun x hx => by have h := HOK.out.lists x.n (List.mem_map_of_mem hx); omega⟩
  clear hF b1 hf c0 l0 hn1 G1
  go_wp2_with fail
  refine hcop.mono ?_
  rintro r w2 ⟨nv', ev', ys, rfl, b2, hys, hcg⟩
  have B2 := hid (B1.out.trans (b2.mono B1.out.size))
  have CG := hid (hcg.base B1.out.size)
  have HYS := hid hys
  obtain ⟨qn, mn, kn, hn⟩ := owns_form hcg.nodes
  obtain ⟨qe, me, ke, hq⟩ := owns_form hcg.edges
  subst hn
  subst hq
  clear b2 hcg hys hcop c1 l1
  obtain ⟨gb, hgb⟩ : ∃ b, b = w2.heap.size := ⟨_, rfl⟩
  obtain ⟨W3, hW3⟩ : ∃ W, W = w2.alloc (.cells (gcells a (.slice qn mn kn) (.slice qe me ke) (.slice none 0 0) (.slice none 0 0)) 110) := ⟨_, rfl⟩
  have P3 : Hid (Below w2.heap.size w2 W3 ∧ W3.heap[gb]? = some (.cells (gcells a (.slice qn mn kn) (.slice qe me ke) (.slice none 0 0) (.slice none 0 0)) 110 (0, 0)) ∧ gb = w2.heap.size ∧ W3.heap.size = gb + 1) := by
   rw [hW3, hgb]
   exact ⟨((Gr.refl w2).alloc _).below, heap_new' _ _, rfl, by simp⟩
  have HW3 : Hid (w2.alloc (.cells #[.int .i64 a, .slice qn mn kn, .slice qe me ke, .slice none 0 0, .slice none 0 0] 110) = W3 ∧ w2.heap.size = gb) := ⟨hW3.symm, hgb.symm⟩
  clear hW3 hgb
  have hpo : Pok (ys.map NV.n) := by rw [HYS.out]; exact HOK.out.pok
  have hyl : ys.length = xs.length := by have := congrArg List.length HYS.out; simpa using this
  have hxl : xs.length ≤ 24 := by have := HOK.out.nl; simpa using this
  have hN3 : Lz EV w2.heap.size W3 (.slice qn mn kn) ys := Or.inl ⟨(owns_ls (E := EV) CG.out.nodes).below P3.out.1, fun k e => (owns_rd CG.out.nodes k e).2⟩
  have hE3 : Lz ED w2.heap.size W3 (.slice qe me ke) es := Or.inl ⟨(owns_ls (E := ED) CG.out.edges).below P3.out.1, fun k e => (owns_rd CG.out.edges k e).2⟩
  have hnum := number_any W3 P3.out.2.1 hN3 (fun k e e2 => by have := (owns_rd CG.out.nodes k e).2; have := P3.out.2.2.1; omega) (by omega) hpo
  have HN3 := hid hN3
  have HE3 := hid hE3
  clear hN3 hE3
  go_upto_region 5 with fail
  rw [HW3.out.1, HW3.out.2]
  clear HW3
  go_wp2_with fail
  refine hnum.mono ?_
  rintro r w4 ⟨rfl, fv, pv, hNp⟩
  have HNP := hid hNp
  have hH4 : Hg W3.heap.size w4 gb a (.slice qn mn kn) (.slice qe me ke) fv pv (ys.map NV.n) ((spotsU (ys.map NV.n) ys.length).map SV.of) (fun _ => []) := by
   have hl : (ys.map NV.n).length = ys.length := by simp
   refine ⟨hNp.blk, by rw [hl]; exact hNp.fr, hNp.sp, by simp, fun k s hk => by rw [hl]; exact shape_of hk, fun k s hk => ?_, fun k s hk b hb => ?_⟩
   ·rw [of_ev hk]
    exact World.ownsRow_nil _ _ _ _
   ·rw [of_ev hk] at hb
    cases hb
  have keep : ∀ k, k < w2.heap.size → w4.heap[k]? = W3.heap[k]? := fun k hk => hNp.kp.block k (Nat.lt_of_lt_of_le hk P3.out.1.size) (fun e => by have := P3.out.2.2.1; omega)
  have hN4 : Lz EV w2.heap.size w4 (.slice qn mn kn) ys := by
   rcases HN3.out with ⟨h, hm⟩ | h
   ·exact Or.inl ⟨h.kept hNp.kp.size (fun k e => keep k (hm k e)), hm⟩
   ·exact Or.inr h
  have hE4 : Lz ED w2.heap.size w4 (.slice qe me ke) es := by
   rcases HE3.out with ⟨h, hm⟩ | h
   ·exact Or.inl ⟨h.kept hNp.kp.size (fun k e => keep k (hm k e)), hm⟩
   ·exact Or.inr h
  have hhang := hang_any (a := a) w4 hH4 (by have := P3.out.2.2.2; omega) hNp.kp.size (by have := P3.out.2.2; omega) hN4 hE4 (by have h := HOK.out; unfold gof at h ⊢; rw [HYS.out]; exact h)
  clear hnum hNp hH4 keep hN4 hE4 hpo hyl hxl
  go_wp2_with fail
  refine hhang.mono ?_
  rintro r w5 ⟨rfl, ss, hH5, k5⟩
  have KK : Kp (fun k => w2.heap.size ≤ k) w2 w5 := ((Kp.of_below P3.out.1).trans (HNP.out.kp) (fun j _ e => by have := P3.out.2.2.1; omega)).trans k5 (fun j _ e => by have := P3.out.2.2; omega)
  have FIN : Hid (Below w.heap.size w w5 ∧ Gm w.heap.size w5 gb (gof a xs es)) := by
   refine ⟨B2.out.trans (KK.below B2.out.size (fun k e => Nat.le_trans B2.out.size e)), _, _, fv, pv, ys, ss, by have := P3.out.2.2.1; have := B2.out.size; omega, CG.out.kp KK (fun k _ h e => by omega), HYS.out, ?_, HOK.out⟩
   have h := hH5.base (B' := w.heap.size) (by have := P3.out.2.2; have := B2.out.size; omega)
   rw [HYS.out] at h
   exact h
  clear hhang hH5 k5 KK
  go_wp2_with fail
  refine bodyPost_ret (v := .tuple #[.pointer (some ⟨gb, 0, none⟩), .int .i64 0, .int .i64 0]) (by simp [results, Tryz.results32, go_sem]) rfl ?_
  exact ⟨FIN.out.1, 0, t, HF.out, Or.inr ⟨rfl, gb, rfl, FIN.out.2⟩⟩
 ·have hb : (e == 0) = false := by simp [he]
  have hb' : (e != 0) = true := by simp [he]
  have HE := hid he
  clear hF b1 hf c0 l0 he
  go_wp2_with fail
  refine bodyPost_ret (v := .tuple #[.pointer none, .int .i64 e, .int .i64 t]) (by simp [results, Tryz.results32, go_sem]) rfl ?_
  exact ⟨B1.out, e, t, HF.out, Or.inl ⟨HE.out, rfl⟩⟩
end Go.Proofs.YtdnnfgabdkkdjaaGreat.Df

namespace Go.Proofs.YtdnnfgabdkkdjaaGreat.Df
open Go.RowKit Go.Sort
attribute [local go_sem ↓] Go.wp_at_zero Go.wp_at_succ
theorem Gp.gb {B gb : Nat} {w : World} {g : Gph} {nv ev fv pv : Value} {ys : List NV} {ss : List SV} (h : Gp B w gb g nv ev fv pv ys ss) : Gb w gb g.arity nv ev fv pv ys := by
 have hl : ys.length = g.nodes.length := by rw [← h.nds, List.length_map]
 refine ⟨h.rows.blk, owns_lz (E := EV) h.raw.nodes, ?_, by rw [hl]; exact h.ok.nl, by rw [h.nds]; exact h.ok.pok⟩
 rw [h.nds, hl]
 exact owns_ls (E := EI) h.rows.fr
theorem gin_any {B gb : Nat} {g : Gph} (i p : Int) (w : World) (h : Gm B w gb g) : Calls Tryz.prog 84 #[.pointer (some ⟨gb, 0, none⟩), .int .i64 i, .int .i64 p] w fun r w' => r = .returned (.int .i64 (inN g.nodes i p)) ∧ w' = w := by
 obtain ⟨nv, ev, fv, pv, ys, ss, h⟩ := h
 have := in_any i p w h.gb
 rw [h.nds] at this
 exact this
theorem gout_any {B gb : Nat} {g : Gph} (i p : Int) (w : World) (h : Gm B w gb g) : Calls Tryz.prog 83 #[.pointer (some ⟨gb, 0, none⟩), .int .i64 i, .int .i64 p] w fun r w' => r = .returned (.int .i64 (outN g.nodes i p)) ∧ Gr w w' := by
 obtain ⟨nv, ev, fv, pv, ys, ss, h⟩ := h
 have := out_any i p w h.gb
 rw [h.nds] at this
 exact this
def plN (ns : List Nod) : Nat := (spotsU ns ns.length).length
theorem gplaces_any {B gb : Nat} {g : Gph} (w : World) (h : Gm B w gb g) : Calls Tryz.prog 87 #[.pointer (some ⟨gb, 0, none⟩)] w fun r w' => r = .returned (.int .i64 (plN g.nodes : Nat)) ∧ w' = w := by
 obtain ⟨nv, ev, fv, pv, ys, ss, h⟩ := h
 have HL : Hid (ss.length = plN g.nodes) := h.rows.len
 have cg := (tk_store h.rows.blk).1
 have lg := tk_lt h.rows.blk
 obtain ⟨p, n, c, rfl⟩ := owns_form h.rows.sp
 have HN := hid (owns_caps h.rows.sp _ _ _ rfl).1
 clear h
 go_enter Tryz.func87, Tryz.ntmps87
 go_wp2_with fail
 go_ret
 exact ⟨by rw [← HL.out, ← HN.out]; rfl, rfl⟩
theorem gnodes_any {B gb : Nat} {g : Gph} (w : World) (h : Gm B w gb g) : Calls Tryz.prog 89 #[.pointer (some ⟨gb, 0, none⟩)] w fun r w' => r = .returned (.int .i64 (g.nodes.length : Nat)) ∧ w' = w := by
 obtain ⟨nv, ev, fv, pv, ys, ss, h⟩ := h
 have HL : Hid (ys.length = g.nodes.length) := by show _ = _; rw [← h.nds, List.length_map]
 have cg := (tk_store h.rows.blk).1
 have lg := tk_lt h.rows.blk
 obtain ⟨p, n, c, rfl⟩ := owns_form h.raw.nodes
 have HN := hid (owns_caps h.raw.nodes _ _ _ rfl).1
 clear h
 go_enter Tryz.func89, Tryz.ntmps89
 go_wp2_with fail
 go_ret
 exact ⟨by rw [← HL.out, ← HN.out]; rfl, rfl⟩
set_option maxHeartbeats 1000000 in
theorem graw_any {B gb : Nat} {g : Gph} (w : World) (h : Gm B w gb g) : Calls Tryz.prog 88 #[.pointer (some ⟨gb, 0, none⟩)] w fun r w' => ∃ nv ev ys, Hid (r = .returned (.agg (gvc g.arity nv ev)) ∧ Below w.heap.size w w' ∧ ys.map NV.n = g.nodes ∧ Cg w.heap.size w' nv ev ys g.edges) := by
 obtain ⟨nv, ev, fv, pv, ys, ss, h⟩ := h
 have hyl : ys.length = g.nodes.length := by rw [← h.nds, List.length_map]
 have hnl := h.ok.nl
 have hel := h.ok.el
 have hli : ∀ y ∈ ys, y.n.code.length ≤ 16 ∧ y.n.conns.length ≤ 16 := fun y hy => h.ok.lists y.n (by rw [← h.nds]; exact List.mem_map_of_mem hy)
 have HNDS := hid h.nds
 obtain ⟨W0, hW0⟩ : ∃ W, W = w.alloc (.cells (gvc 0 (.slice none 0 0) (.slice none 0 0)) 25) := ⟨_, rfl⟩
 have b0 : Below w.heap.size w W0 := by rw [hW0]; exact ((Gr.refl w).alloc _).below
 have N0 : Hid (W0.heap[w.heap.size]? = some (.cells (gvc 0 (.slice none 0 0) (.slice none 0 0)) 25 (0, 0)) ∧ Below w.heap.size w W0) := by rw [hW0]; exact ⟨heap_new' _ _, ((Gr.refl w).alloc _).below⟩
 have HW : Hid (w.alloc (.cells #[.int .i64 0, .slice none 0 0, .slice none 0 0] 25) = W0) := hW0.symm
 have h0 := h.below b0
 have hgr : GR W0.heap.size W0 nv ev ys g.edges := h0.raw.gr ⟨by omega, by omega⟩ (fun y hy => by have := hli y hy; omega)
 have hcop := copied_any (a := g.arity) W0 hgr ⟨by omega, by omega, fun y hy => by have := hli y hy; omega⟩
 have cg := (tk_store h0.rows.blk).1
 have lg := tk_lt h0.rows.blk
 have HG : Hid (nv = nv) := rfl
 obtain ⟨p1, n1, c1, rfl⟩ := owns_form h.raw.nodes
 obtain ⟨p2, n2, c2, rfl⟩ := owns_form h.raw.edges
 clear h h0 hgr b0 hW0 hli hyl hnl hel HG
 go_enter Tryz.func88, Tryz.ntmps88
 go_upto_region 1 with fail
 rw [HW.out]
 clear HW
 go_wp2_with fail
 refine hcop.mono ?_
 rintro r w2 ⟨nv', ev', zs, rfl, b2, hys, hcg⟩
 have HC : Hid (Below W0.heap.size W0 w2 ∧ zs.map NV.n = g.nodes ∧ Cg W0.heap.size w2 nv' ev' zs g.edges) := ⟨b2, hys.trans HNDS.out, hcg⟩
 obtain ⟨q1, m1, k1, hq1⟩ := owns_form hcg.nodes
 obtain ⟨q2, m2, k2, hq2⟩ := owns_form hcg.edges
 subst hq1
 subst hq2
 have hn2 := (b2.block _ (tk_lt N0.out.1)).trans N0.out.1
 have c2 := (tk_store hn2).1
 have f2 := (tk_store hn2).2
 have l2 := tk_lt hn2
 have HN2 := hid hn2
 clear b2 hys hcg hn2 hcop cg lg
 go_wp2_with fail
 obtain ⟨wf, hwf⟩ : ∃ wf, wf = ((w2.setCell ⟨w.heap.size, 0, none⟩ (.int .i64 g.arity)).setCell ⟨w.heap.size, 1, none⟩ (.slice q1 m1 k1)).setCell ⟨w.heap.size, 2, none⟩ (.slice q2 m2 k2) := ⟨_, rfl⟩
 rw [← hwf]
 obtain ⟨hbf, hkf⟩ : wf.heap[w.heap.size]? = some (.cells #[.int .i64 g.arity, .slice q1 m1 k1, .slice q2 m2 k2] 25 (0, 0)) ∧ Kp (fun k => k = w.heap.size) w2 wf := by
  rw [hwf]
  exact fill3 HN2.out _ _ _
 clear hwf c2 f2 l2
 obtain ⟨qf, -⟩ := tk_store hbf
 have hlf := tk_lt hbf
 refine bodyPost_ret (v := .agg #[.int .i64 g.arity, .slice q1 m1 k1, .slice q2 m2 k2]) (by simp [results, Tryz.results88, go_sem, qf]) rfl ?_
 have hlo := tk_lt N0.out.1
 have hbw := N0.out.2.trans (HC.out.1.mono N0.out.2.size)
 exact ⟨_, _, zs, rfl, hbw.trans (hkf.below hbw.size (fun k e => by omega)), HC.out.2.1, (HC.out.2.2.kp hkf (fun k h1 h2 e => by omega)).base N0.out.2.size⟩
def rowL (i p : Nat) : List Con := (List.range p).map fun (o : Nat) => ⟨(i : Int), (o : Int), (0, 0, 0)⟩
def acrL (o : Nat) : Nat → List Con
 | 0 => []
 | i + 1 => acrL o i ++ rowL i o
theorem rowL_succ (i p : Nat) : rowL i (p + 1) = rowL i p ++ [⟨(i : Int), (p : Int), (0, 0, 0)⟩] := by simp [rowL, List.range_succ]
theorem acrL_length (o i : Nat) : (acrL o i).length = i * o := by
 induction i with
 | zero => simp [acrL]
 | succ i ih => rw [acrL, List.length_append, ih, Nat.succ_mul]; simp [rowL]
set_option maxHeartbeats 2000000 in
theorem across_any (k : Int) (ci co : Nat) (cq : Option Addr) (cm cc : Nat) (via : Pth) (bd : Nat) (dq : Option Addr) (dm dc : Nat) (st : Bool) (hi : ci ≤ 4) (ho : co ≤ 4) (w : World) : Calls Tryz.prog 130 #[.agg (ncells k (ci : Int) (co : Int) (.slice cq cm cc) via bd (.slice dq dm dc) st)] w (Cp EC 92 w (acrL co ci)) := by
 have B0 := hid ((Gr.refl w).alloc (.cells (ncells k (ci : Int) (co : Int) (.slice cq cm cc) via bd (.slice dq dm dc) st) 89)).below
 have N0 := hid (heap_new' w (.cells (ncells k (ci : Int) (co : Int) (.slice cq cm cc) via bd (.slice dq dm dc) st) 89))
 obtain ⟨W0, hW0⟩ : ∃ W, W = w.alloc (.cells (ncells k (ci : Int) (co : Int) (.slice cq cm cc) via bd (.slice dq dm dc) st) 89) := ⟨_, rfl⟩
 have HW : Hid (w.alloc (.cells #[.int .i64 k, .int .i64 (ci : Int), .int .i64 (co : Int), .slice cq cm cc, .int .u64 (via.1 : Nat), .int .u64 (via.2.1 : Nat), .int .u64 (via.2.2 : Nat), .int .u64 (bd : Nat), .slice dq dm dc, .bool st] 89) = W0) := hW0.symm
 rw [← hW0] at B0 N0
 have c0 := (tk_store N0.out).1
 have l0 := tk_lt N0.out
 clear hW0
 go_enter Tryz.func130, Tryz.ntmps130
 go_upto_region 1 with fail
 rw [HW.out]
 clear HW
 go_wp2_with fail
 clear c0 l0
 go_loopw [8, 3] (fun s8 s3 wr => ∃ (i : Nat), i ≤ ci ∧ s8 = .int .i64 (i : Nat) ∧ Hid (Below W0.heap.size W0 wr ∧ wr.ownsRow W0.heap.size 92 5 s3 (acrL co i).length (fl EC (acrL co i)))) (fun s8 _ _ => ci - (RowKit.intOf s8).toNat)
 case atStart => exact ⟨0, Nat.zero_le _, rfl, Below.refl _ _, World.ownsRow_nil _ _ _ _⟩
 case round =>
  obtain ⟨i, hil, rfl, HI⟩ := hrel
  rename_i s8 s3
  obtain ⟨q3, m3, k3, hs3⟩ := owns_form HI.out.2
  subst hs3
  by_cases hlt : i < ci
  ·have hltz : (i : Int) < (ci : Int) := by omega
   have hn := (HI.out.1.block _ (tk_lt N0.out)).trans N0.out
   have c1 := (tk_store hn).1
   have l1 := tk_lt hn
   clear hn
   go_upto_region 6 with fail
   clear c1 l1
   go_loopw [13, 3] (fun s13 s3 wr => ∃ (p : Nat), p ≤ co ∧ s13 = .int .i64 (p : Nat) ∧ Hid (Below W0.heap.size W0 wr ∧ wr.ownsRow W0.heap.size 92 5 s3 (acrL co i ++ rowL i p).length (fl EC (acrL co i ++ rowL i p)))) (fun s13 _ _ => co - (RowKit.intOf s13).toNat)
   case atStart => exact ⟨0, Nat.zero_le _, rfl, HI.out.1, owns_re HI.out.2 (by simp [rowL]) (by simp [rowL])⟩
   case round =>
    clear HI
    obtain ⟨p, hpl, rfl, HI⟩ := hrel
    rename_i s13 s3'
    obtain ⟨q4, m4, k4, hs4⟩ := owns_form HI.out.2
    subst hs4
    by_cases hlp : p < co
    ·have hlpz : (p : Int) < (co : Int) := by omega
     obtain ⟨LL, hLL⟩ : ∃ l, l = acrL co i ++ rowL i p := ⟨_, rfl⟩
     rw [← hLL] at HI
     have HLL := hid hLL
     have HLN : Hid (LL.length ≤ 20) := by
      show _ ≤ _
      have h1 : i * co ≤ 4 * 4 := Nat.mul_le_mul (by omega) ho
      rw [hLL, List.length_append, acrL_length]
      simp [rowL]
      omega
     clear hLL
     go_wp2_with (at_builtin; refine wpApp1 EC Tryz.underlying85 infoC rfl (by decide) rfl _ _ rfl W0.heap.size _ LL.length _ rfl HI.out.2 ⟨(i : Int), (p : Int), (0, 0, 0)⟩ (by first | rfl | simp) (by have := HLN.out; omega) (by have := HLN.out; unfold maxLen; omega) HI.out.1.size _ rfl _ ?_)
     intro g8 cap8 w8 h8 k8 _
     have FIN : Hid (Below W0.heap.size W0 w8 ∧ w8.ownsRow W0.heap.size 92 5 (.slice (some ⟨g8, 0, none⟩) (LL.length + 1) cap8) (acrL co i ++ rowL i (p + 1)).length (fl EC (acrL co i ++ rowL i (p + 1)))) := by
      have k2 := Kp.grownBy (S := fun k => (Value.slice q4 m4 k4).ownBlock = some k) k8 (fun _ h => h)
      refine ⟨HI.out.1.trans (k2.below HI.out.1.size (fun k e => (owns_rd HI.out.2 k e).1)), owns_re h8 (by rw [HLL.out, rowL_succ]; simp; omega) (by rw [HLL.out, rowL_succ, ← List.append_assoc, fl_append EC (acrL co i ++ rowL i p), fl_one])⟩
     clear h8 k8
     generalize LL.length + 1 = ll at FIN ⊢
     go_wp2_with fail
     go_roundw
     case rel => exact ⟨p + 1, by omega, by go_num, FIN.out⟩
     case measure => simp [RowKit.intOf]; omega
    ·have hlpz : ¬ (p : Int) < (co : Int) := by omega
     have FIN : Hid (Below W0.heap.size W0 wr ∧ wr.ownsRow W0.heap.size 92 5 (.slice q4 m4 k4) (acrL co (i + 1)).length (fl EC (acrL co (i + 1)))) := by
      have h := HI.out.2
      rw [show p = co by omega] at h
      exact ⟨HI.out.1, h⟩
     go_wp2_with fail
     go_roundw
     case rel => exact ⟨i + 1, by omega, by go_num, FIN.out⟩
     case measure => simp [RowKit.intOf]; omega
  ·have hltz : ¬ (i : Int) < (ci : Int) := by omega
   obtain rfl : i = ci := by omega
   go_wp2_with fail
   go_ret
   exact ⟨_, rfl, B0.out.trans (HI.out.1.mono B0.out.size), owns_base HI.out.2 B0.out.size⟩
end Go.Proofs.YtdnnfgabdkkdjaaGreat.Df

namespace Go.Proofs.YtdnnfgabdkkdjaaGreat.Df
open Go.RowKit Go.Sort
attribute [local go_sem ↓] Go.wp_at_zero Go.wp_at_succ
set_option maxHeartbeats 1000000 in
theorem round_any (k i o : Int) (cq : Option Addr) (cm cc : Nat) (via : Pth) (bd : Nat) (dq : Option Addr) (dm dc : Nat) (st : Bool) (w : World) : Calls Tryz.prog 136 #[.agg (ncells k i o (.slice cq cm cc) via bd (.slice dq dm dc) st)] w (Cp EC 92 w [⟨0, 0, via⟩]) := by
 have h := World.ownsRow_lit (base := w.heap.size) (size := 5) (e := 92) (w.alloc (.cells (ncells k i o (.slice cq cm cc) via bd (.slice dq dm dc) st) 89)) #[.int .i64 0, .int .i64 0, .int .u64 (via.1 : Nat), .int .u64 (via.2.1 : Nat), .int .u64 (via.2.2 : Nat)] 1 (by simp) (by decide) rfl
 have H := hid h
 clear h
 go_enter Tryz.func136, Tryz.ntmps136
 go_wp2_with fail
 go_ret
 refine ⟨_, rfl, (((Gr.refl w).alloc _).alloc _).below, ?_⟩
 have h := H.out
 rw [World.size_alloc] at h
 exact h
set_option maxHeartbeats 1000000 in
theorem listed_any {M : Nat} (k i o : Int) (cq : Option Addr) (cm cc : Nat) (via : Pth) (bd : Nat) (dq : Option Addr) (dm dc : Nat) (st : Bool) (l : List Con) (w : World) (hL : Lz EC M w (.slice dq dm dc) l) (hb : l.length * 40 ≤ 140737488351232) : Calls Tryz.prog 139 #[.agg (ncells k i o (.slice cq cm cc) via bd (.slice dq dm dc) st)] w (Cp EC 92 w l) := by
 have B0 := hid ((Gr.refl w).alloc (.cells (ncells k i o (.slice cq cm cc) via bd (.slice dq dm dc) st) 89)).below
 have hc := copyC_any (w.alloc (.cells (ncells k i o (.slice cq cm cc) via bd (.slice dq dm dc) st) 89)) (hL.below B0.out) hb
 clear hL
 go_enter Tryz.func139, Tryz.ntmps139
 go_wp2_with fail
 refine hc.mono ?_
 rintro r w1 ⟨d, rfl, b1, o1⟩
 have H : Hid (Below w.heap.size w w1 ∧ w1.ownsRow w.heap.size 92 5 d l.length (fl EC l)) := ⟨B0.out.trans (b1.mono B0.out.size), owns_base o1 B0.out.size⟩
 clear b1 o1
 go_wp2_with fail
 go_ret
 exact ⟨_, rfl, H.out⟩
def connsN (n : Nod) : List Con := if n.kind = 5 then [⟨0, 0, n.via⟩] else if n.kind = 8 then n.conns else acrL n.outs.toNat n.ins.toNat
def connsAt (ns : List Nod) (i : Int) : List Con := match natN? ns i with | some n => connsN n | none => []
set_option maxHeartbeats 2000000 in
theorem connsgen {B gb : Nat} {g : Gph} {nv ev fv pv : Value} {ys : List NV} {ss : List SV} {j : Nat} {y : NV} {F1 F2 fw ff fc : Nat} {pI pO : Bool} {l : List Con} (w : World) (h : Gp B w gb g nv ev fv pv ys ss) (hy : ys[j]? = some y)
    (hK : ∀ W, Calls Tryz.prog 111 #[.int .i64 y.n.kind] W (Ks F1 F2 fw ff fc y.n.ins y.n.outs pI pO W)) (e5 : ∀ args w, (callFunc fc args).run Tryz.prog w = .ok (.enter fc args) w)
    (hC : ∀ W, Below w.heap.size w W → Calls Tryz.prog fc #[.agg y.cells] W (Cp EC 92 W l)) : Calls Tryz.prog 90 #[.pointer (some ⟨gb, 0, none⟩), .int .i64 (j : Nat)] w (Cp EC 92 w l) := by
 have hn := fun W (hb : Below w.heap.size w W) => gnodes_any W ⟨nv, ev, fv, pv, ys, ss, h.below hb⟩
 have hjl := (List.getElem?_eq_some_iff.1 hy).1
 have hyl : ys.length = g.nodes.length := by rw [← h.nds, List.length_map]
 have ha := fun W => among_any (j : Int) (g.nodes.length : Nat) W
 have hd : decide (0 ≤ (j : Int) ∧ (j : Int) < ((g.nodes.length : Nat) : Int)) = true := by simp; omega
 rw [hd] at ha
 have hn0 := hn w (Below.refl _ _)
 have cg := (tk_store h.rows.blk).1
 have lg := tk_lt h.rows.blk
 obtain ⟨b1, o1, c1, e1, z1, x0, x1, x2, x3, x4, x5, x6, x7, x8, x9⟩ := ls_atV (owns_ls (E := EV) h.raw.nodes) hy
 subst e1
 generalize ys.length = nl at hjl hyl cg
 have hjz : (j : Int) < (nl : Int) := by omega
 have hj0 : (0 : Int) ≤ (j : Int) := by omega
 generalize g.nodes.length = gl at hn0 ha
 obtain ⟨yb, hyb⟩ : ∃ b, b = w.heap.size := ⟨_, rfl⟩
 obtain ⟨W5, hW5⟩ : ∃ W, W = w.alloc (.cells y.cells 89) := ⟨_, rfl⟩
 have P5 : Hid (Below w.heap.size w W5 ∧ W5.heap[yb]? = some (.cells y.cells 89 (0, 0))) := by
  rw [hW5, hyb]
  exact ⟨((Gr.refl w).alloc _).below, heap_new' _ _⟩
 have HW5 : Hid (w.alloc (.cells #[.int .i64 y.n.kind, .int .i64 y.n.ins, .int .i64 y.n.outs, .slice y.cq y.cm y.cc, .int .u64 (y.n.via.1 : Nat), .int .u64 (y.n.via.2.1 : Nat), .int .u64 (y.n.via.2.2 : Nat), .int .u64 (y.n.bound : Nat), .slice y.dq y.dm y.dc, .bool y.n.start] 89) = W5 ∧ w.heap.size = yb) := ⟨hW5.symm, hyb.symm⟩
 clear h hy hd hn hyb hW5
 go_enter Tryz.func90, Tryz.ntmps90
 go_wp2_with fail
 refine hn0.mono ?_
 rintro r w1 ⟨rfl, rfl⟩
 go_wp2_with fail
 refine (ha _).mono ?_
 rintro r w1 ⟨rfl, rfl⟩
 go_upto_region 4 with fail
 rw [HW5.out.1, HW5.out.2]
 have cy := (tk_store P5.out.2).1
 have ly := tk_lt P5.out.2
 clear HW5 x0 x1 x2 x3 x4 x5 x6 x7 x8 x9 cg lg z1 hn0 ha
 go_wp2_with fail
 refine (hK _).mono ?_
 rintro r w2 ⟨b1, b2, rfl, b, -, -⟩
 have B2 := hid (P5.out.1.trans (b.mono P5.out.1.size))
 have N2 := hid ((b.block _ ly).trans P5.out.2)
 obtain ⟨kb, hkb⟩ : ∃ kb, kb = w2.heap.size := ⟨_, rfl⟩
 obtain ⟨W3, hW3⟩ : ∃ W, W = w2.alloc (.cells #[fv1 F1 b1, fv1 F2 b2, fv0 fw, fv0 ff, fv0 fc] 175) := ⟨_, rfl⟩
 have P3 : Hid (Below w1.heap.size w1 W3 ∧ W3.heap[yb]? = some (.cells y.cells 89 (0, 0)) ∧ W3.heap[kb]? = some (.cells #[fv1 F1 b1, fv1 F2 b2, fv0 fw, fv0 ff, fv0 fc] 175 (0, 0))) := by
  have g3 := ((Gr.refl w2).alloc (.cells #[fv1 F1 b1, fv1 F2 b2, fv0 fw, fv0 ff, fv0 fc] 175)).below
  rw [hW3, hkb]
  exact ⟨B2.out.trans (g3.mono B2.out.size), (g3.block _ (tk_lt N2.out)).trans N2.out, heap_new' _ _⟩
 have HW3 : Hid (w2.alloc (.cells #[.func (.func F1) #[] #[.pointer (some ⟨b1, 0, none⟩)], .func (.func F2) #[] #[.pointer (some ⟨b2, 0, none⟩)], .func (.func fw) #[] #[], .func (.func ff) #[] #[], .func (.func fc) #[] #[]] 175) = W3 ∧ w2.heap.size = kb) := ⟨hW3.symm, hkb.symm⟩
 clear cy ly b hK hW3 hkb
 go_upto_region 5 with fail
 rw [HW3.out.1, HW3.out.2]
 have c3 := (tk_store P3.out.2.1).1
 have l3 := tk_lt P3.out.2.1
 have k3 := (tk_store P3.out.2.2).1
 have m3 := tk_lt P3.out.2.2
 have q3 := hC W3 P3.out.1
 clear HW3 hC
 go_wp2_with fail
 refine q3.mono ?_
 rintro r w4 ⟨d, rfl, b4, o4⟩
 have FIN := hid (And.intro (P3.out.1.trans (b4.mono P3.out.1.size)) (owns_base o4 P3.out.1.size))
 clear b4 o4 q3 c3 l3 k3 m3
 go_wp2_with fail
 go_ret
 exact ⟨_, rfl, FIN.out⟩
set_option maxHeartbeats 1000000 in
theorem conns_none {B gb : Nat} {g : Gph} (i : Int) (w : World) (h : Gm B w gb g) (hi : natN? g.nodes i = none) : Calls Tryz.prog 90 #[.pointer (some ⟨gb, 0, none⟩), .int .i64 i] w (Cp EC 92 w []) := by
 have hn := gnodes_any w h
 have ha := fun W => among_any i (g.nodes.length : Nat) W
 have hd : decide (0 ≤ i ∧ i < ((g.nodes.length : Nat) : Int)) = false := by
  rw [decide_eq_false_iff_not]
  intro h2
  unfold natN? at hi
  rw [if_pos h2.1, List.getElem?_eq_none_iff] at hi
  omega
 rw [hd] at ha
 generalize g.nodes.length = gl at hn ha
 clear h hi hd
 go_enter Tryz.func90, Tryz.ntmps90
 go_wp2_with fail
 refine hn.mono ?_
 rintro r w1 ⟨rfl, rfl⟩
 go_wp2_with fail
 refine (ha _).mono ?_
 rintro r w1 ⟨rfl, rfl⟩
 go_wp2_with fail
 go_ret
 exact ⟨_, rfl, Below.refl _ _, World.ownsRow_nil _ _ _ _⟩
theorem nflaw_kind {a : Int} {n : Nod} (h : nflaw a n = 0) : 1 ≤ n.kind ∧ n.kind ≤ 8 := by
 unfold nflaw at h
 split at h
 ·cases h
 ·omega
theorem gconns_any {B gb : Nat} {g : Gph} (i : Int) (w : World) (hm : Gm B w gb g) : Calls Tryz.prog 90 #[.pointer (some ⟨gb, 0, none⟩), .int .i64 i] w (Cp EC 92 w (connsAt g.nodes i)) := by
 cases e : natN? g.nodes i with
 | none => unfold connsAt; rw [e]; exact conns_none i w hm e
 | some n =>
  unfold connsAt
  rw [e]
  obtain ⟨nv, ev, fv, pv, ys, ss, h⟩ := hm
  have hi0 : 0 ≤ i := by
   unfold natN? at e
   by_cases h0 : 0 ≤ i
   ·exact h0
   ·rw [if_neg h0] at e; cases e
  obtain ⟨j, rfl⟩ : ∃ j : Nat, i = (j : Int) := ⟨i.toNat, by omega⟩
  have hj : g.nodes[j]? = some n := by
   unfold natN? at e
   rw [if_pos hi0, Int.toNat_natCast] at e
   exact e
  rw [← h.nds] at hj
  obtain ⟨y, hy, rfl⟩ := nd_get hj
  have hym : y.n ∈ g.nodes := by rw [← h.nds]; exact List.mem_map_of_mem (List.mem_of_getElem? hy)
  obtain ⟨q, hq, hqy⟩ := List.mem_iff_getElem.1 hym
  have hfl : nflaw g.arity y.n = 0 := h.ok.ng q _ hq (by rw [← hqy]; simp)
  have hkd := nflaw_kind hfl
  have hpt := nflaw_ports hfl
  have hls := nflaw_lists hfl
  have hown := h.raw.each y (List.mem_of_getElem? hy)
  have ea := enters_of (P := Tryz.prog) Tryz.func130 (by kernel_rfl) rfl
  have er := enters_of (P := Tryz.prog) Tryz.func136 (by kernel_rfl) rfl
  have el := enters_of (P := Tryz.prog) Tryz.func139 (by kernel_rfl) rfl
  have hgen := fun (fw ff fc : Nat) (uI uO : Bool) (i0 o0 : Int) (l : List Con) (hk : ∀ W, Calls Tryz.prog 111 #[.int .i64 y.n.kind] W (Kd W uI i0 uO o0 fw ff fc)) e5 hC => connsgen (fw := fw) (ff := ff) (fc := fc) (l := l) w h hy (fun W => (hk W).mono fun _ _ h => ks_of h) e5 hC
  have hac : y.n.kind ≠ 5 → y.n.kind ≠ 8 → ∀ W, Below w.heap.size w W → Calls Tryz.prog 130 #[.agg y.cells] W (Cp EC 92 W (connsN y.n)) := fun h5 h8 W _ => by
   unfold connsN
   rw [if_neg h5, if_neg h8]
   have hc := across_any y.n.kind y.n.ins.toNat y.n.outs.toNat y.cq y.cm y.cc y.n.via y.n.bound y.dq y.dm y.dc y.n.start (by omega) (by omega) W
   rw [show ((y.n.ins.toNat : Nat) : Int) = y.n.ins by omega, show ((y.n.outs.toNat : Nat) : Int) = y.n.outs by omega] at hc
   exact hc
  have hro : y.n.kind = 5 → ∀ W, Below w.heap.size w W → Calls Tryz.prog 136 #[.agg y.cells] W (Cp EC 92 W (connsN y.n)) := fun h5 W _ => by
   unfold connsN
   rw [if_pos h5]
   exact round_any y.n.kind y.n.ins y.n.outs y.cq y.cm y.cc y.n.via y.n.bound y.dq y.dm y.dc y.n.start W
  have hli : y.n.kind = 8 → ∀ W, Below w.heap.size w W → Calls Tryz.prog 139 #[.agg y.cells] W (Cp EC 92 W (connsN y.n)) := fun h8 W hb => by
   unfold connsN
   rw [if_neg (by omega), if_pos h8]
   exact listed_any y.n.kind y.n.ins y.n.outs y.cq y.cm y.cc y.n.via y.n.bound y.dq y.dm y.dc y.n.start y.n.conns W (owns_lz (E := EC) (owns_below hown.2 hb)) (by omega)
  have hk8 : y.n.kind = 1 ∨ y.n.kind = 2 ∨ y.n.kind = 3 ∨ y.n.kind = 4 ∨ y.n.kind = 5 ∨ y.n.kind = 6 ∨ y.n.kind = 7 ∨ y.n.kind = 8 := by omega
  rcases hk8 with hk | hk | hk | hk | hk | hk | hk | hk
  ·exact hgen _ _ _ _ _ _ _ _ (by rw [hk]; exact kind1_any) ea (hac (by omega) (by omega))
  ·exact hgen _ _ _ _ _ _ _ _ (by rw [hk]; exact kind2_any) ea (hac (by omega) (by omega))
  ·exact hgen _ _ _ _ _ _ _ _ (by rw [hk]; exact kind3_any) ea (hac (by omega) (by omega))
  ·exact hgen _ _ _ _ _ _ _ _ (by rw [hk]; exact kind4_any) ea (hac (by omega) (by omega))
  ·exact hgen _ _ _ _ _ _ _ _ (by rw [hk]; exact kind5_any) er (hro hk)
  ·exact hgen _ _ _ _ _ _ _ _ (by rw [hk]; exact kind6_any) ea (hac (by omega) (by omega))
  ·exact hgen _ _ _ _ _ _ _ _ (by rw [hk]; exact kind7_any) ea (hac (by omega) (by omega))
  ·exact hgen _ _ _ _ _ _ _ _ (by rw [hk]; exact kind8_any) el (hli hk)
end Go.Proofs.YtdnnfgabdkkdjaaGreat.Df

namespace Go.Proofs.YtdnnfgabdkkdjaaGreat.Df
open Go.RowKit Go.Sort
attribute [local go_sem ↓] Go.wp_at_zero Go.wp_at_succ
set_option maxHeartbeats 1000000 in
theorem indexI_any {M : Nat} {v : Value} {l : List Int} (x : Int) (w : World) (hL : Lz EI M w v l) (hl : l.length ≤ 140737488351232) : Calls Tryz.prog 118 #[v, .int .i64 x] w fun r w' => w' = w ∧ ((∃ k : Nat, r = .returned (.int .i64 (k : Nat)) ∧ l[k]? = some x ∧ ∀ j, j < k → l[j]? ≠ some x) ∨ (r = .returned (.int .i64 (-1)) ∧ x ∉ l)) := by
 obtain ⟨p, c, rfl⟩ := hL.form
 have HL := hid hL
 clear hL
 go_enter Tryz.func118, Tryz.ntmps118
 go_wp2_with fail
 go_loopw [8] (fun s8 wr => ∃ i : Nat, i ≤ l.length ∧ s8 = .int .i64 (i : Nat) ∧ wr = w ∧ Hid (∀ j, j < i → l[j]? ≠ some x)) (fun s8 _ => l.length - (RowKit.intOf s8).toNat)
 case atStart => exact ⟨0, Nat.zero_le _, rfl, rfl, fun j hj => absurd hj (Nat.not_lt_zero _)⟩
 case round =>
  obtain ⟨i, hi, rfl, hw, HI⟩ := hrel
  subst hw
  by_cases hlt : i < l.length
  ·have hltz : (i : Int) < (l.length : Int) := by omega
   have hi0 : (0 : Int) ≤ (i : Int) := by omega
   obtain ⟨y, hy⟩ : ∃ y, l[i]? = some y := ⟨l[i], by simp⟩
   obtain ⟨b1, o1, c1, e1, z1, x0⟩ := ls_atI (HL.out.ls hy) hy
   simp only [Value.slice.injEq] at e1
   obtain ⟨rfl, -, rfl⟩ := e1
   have HY := hid hy
   clear hy
   by_cases hxy : x = y
   ·subst hxy
    go_wp2_with fail
    go_ret
    exact ⟨rfl, Or.inl ⟨i, rfl, HY.out, HI.out⟩⟩
   ·have hz : (x == y) = false := by simpa using hxy
    have FIN : Hid (∀ j, j < i + 1 → l[j]? ≠ some x) := fun j hj h => by
     by_cases e : j = i
     ·subst e
      rw [HY.out] at h
      exact hxy (Option.some.inj h).symm
     ·exact HI.out j (by omega) h
    go_wp2_with fail
    go_roundw
    case rel => exact ⟨i + 1, by omega, by go_num, trivial, FIN.out⟩
    case measure => simp [RowKit.intOf]; omega
  ·have hltz : ¬ (i : Int) < (l.length : Int) := by omega
   go_wp2_with fail
   go_ret
   refine ⟨rfl, Or.inr ⟨rfl, fun hm => ?_⟩⟩
   obtain ⟨j, hj⟩ := List.mem_iff_getElem?.1 hm
   exact HI.out j (by have := (List.getElem?_eq_some_iff.1 hj).1; omega) hj
end Go.Proofs.YtdnnfgabdkkdjaaGreat.Df
