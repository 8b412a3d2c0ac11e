import Derived.Test.YtifjjnnpoleinaaGHang
namespace Go.Proofs.Ytifjjnnpoleinaa.Df
open Go.RowKit Go.Sort
attribute [local go_sem ↓] Go.wp_at_zero Go.wp_at_succ

theorem nflaw_lists {a : Int} {n : Nod} (h : nflaw a n = 0) : n.code.length ≤ 16 ∧ n.conns.length ≤ 16 := by
  unfold nflaw at h
  split at h
  · cases h
  · split at h
    · cases h
    · split at h
      · cases h
      · rename_i h1 h2 h3
        simp only [nhas, has, Bool.or_eq_true, decide_eq_true_eq, not_or, Nat.not_lt, Nat.le_zero_eq] at h3
        obtain ⟨⟨⟨⟨c1, -⟩, -⟩, c4⟩, -⟩ := h3
        unfold nrest at h
        constructor
        · by_cases hk : n.kind = 2 ∨ n.kind = 3
          · rw [if_pos hk] at h
            split at h
            · cases h
            · omega
          · rw [if_neg hk] at c1
            omega
        · by_cases hk : n.kind = 8
          · rw [if_neg (by omega), if_neg (by omega), if_pos hk] at h
            split at h
            · rename_i hc
              exact (cok_iff.1 hc).1
            · cases h
          · rw [if_neg hk] at c4
            omega
theorem Gok.lists {g : Gph} (h : Gok g) : ∀ n ∈ g.nodes, n.code.length ≤ 16 ∧ n.conns.length ≤ 16 := fun n hn => by
  obtain ⟨i, hi, rfl⟩ := List.mem_iff_getElem.1 hn
  exact nflaw_lists (h.ng i _ hi (by simp))
theorem Hg.base {B B' gb : Nat} {w : World} {a : Int} {nv ev fv pv : Value} {ns : List Nod} {ss : List SV} {L : Nat → List Int} (h : Hg B w gb a nv ev fv pv ns ss L) (hb : B' ≤ B) : Hg B' w gb a nv ev fv pv ns ss L :=
  ⟨h.blk, owns_base h.fr hb, owns_base h.sp hb, h.len, h.shape, fun k s hk => owns_base (h.each k s hk) hb, h.apart⟩
theorem Hg.kp {B gb : Nat} {S : Nat → Prop} {w w' : World} {a : Int} {nv ev fv pv : Value} {ns : List Nod} {ss : List SV} {L : Nat → List Int} (h : Hg B w gb a nv ev fv pv ns ss L) (hg : B ≤ gb) (hk : Kp S w w') (hS : ∀ k, B ≤ k → k < w.heap.size → ¬ S k) : Hg B w' gb a nv ev fv pv ns ss L :=
  ⟨(hk.block _ (tk_lt h.blk) (hS _ hg (tk_lt h.blk))).trans h.blk, owns_kp hk h.fr (fun k e => hS k (owns_rd h.fr k e).1 (owns_rd h.fr k e).2), owns_kp hk h.sp (fun k e => hS k (owns_rd h.sp k e).1 (owns_rd h.sp k e).2), h.len, h.shape, fun k s hs => owns_kp hk (h.each k s hs) (fun k e => hS k (owns_rd (h.each _ s hs) k e).1 (owns_rd (h.each _ s hs) k e).2), h.apart⟩
/-- A graph that was made: its blocks lie at B and behind. -/
structure Gp (B : Nat) (w : World) (gb : Nat) (g : Gph) (nv ev fv pv : Value) (ys : List NV) (ss : List SV) : Prop where
  low : B ≤ gb
  raw : Cg B w nv ev ys g.edges
  nds : ys.map NV.n = g.nodes
  rows : Hg B w gb g.arity nv ev fv pv g.nodes ss (fun k => edgesU g.nodes g.edges k g.edges.length)
  ok : Gok g
def Gm (B : Nat) (w : World) (gb : Nat) (g : Gph) : Prop := ∃ nv ev fv pv ys ss, Gp B w gb g nv ev fv pv ys ss
theorem Gp.kp {B gb : Nat} {S : Nat → Prop} {w w' : World} {g : Gph} {nv ev fv pv : Value} {ys : List NV} {ss : List SV} (h : Gp B w gb g nv ev fv pv ys ss) (hk : Kp S w w') (hS : ∀ k, B ≤ k → k < w.heap.size → ¬ S k) : Gp B w' gb g nv ev fv pv ys ss :=
  ⟨h.low, h.raw.kp hk hS, h.nds, h.rows.kp h.low hk hS, h.ok⟩
theorem Gp.below {B gb : Nat} {w w' : World} {g : Gph} {nv ev fv pv : Value} {ys : List NV} {ss : List SV} (h : Gp B w gb g nv ev fv pv ys ss) (hb : Below w.heap.size w w') : Gp B w' gb g nv ev fv pv ys ss := h.kp (S := fun _ => False) (Kp.of_below hb) (fun _ _ _ h => h)
theorem Gm.kp {B gb : Nat} {S : Nat → Prop} {w w' : World} {g : Gph} (h : Gm B w gb g) (hk : Kp S w w') (hS : ∀ k, B ≤ k → k < w.heap.size → ¬ S k) : Gm B w' gb g := by
  obtain ⟨nv, ev, fv, pv, ys, ss, h⟩ := h
  exact ⟨nv, ev, fv, pv, ys, ss, h.kp hk hS⟩
theorem Gm.below {B gb : Nat} {w w' : World} {g : Gph} (h : Gm B w gb g) (hb : Below w.heap.size w w') : Gm B w' gb g := h.kp (S := fun _ => False) (Kp.of_below hb) (fun _ _ _ h => h)
/-- What New answers. -/
def Nw (w : World) (g : Gph) (r : Ending) (w' : World) : Prop := Below w.heap.size w w' ∧ ∃ e t, Fl g e t ∧ ((e ≠ 0 ∧ r = .returned (.tuple #[.pointer none, .int .i64 e, .int .i64 t])) ∨ (e = 0 ∧ ∃ gb, r = .returned (.tuple #[.pointer (some ⟨gb, 0, none⟩), .int .i64 0, .int .i64 0]) ∧ Gm w.heap.size w' gb g))
theorem shape_of {t : List Spt} {k : Nat} {s : SV} (h : (t.map SV.of)[k]? = some s) : t[k]? = some (s.nd.toNat, s.pt.toNat, s.inn) ∧ 0 ≤ s.nd ∧ 0 ≤ s.pt := by
  rw [List.getElem?_map] at h
  cases e : t[k]? with
  | none => rw [e] at h; cases h
  | some x =>
    rw [e] at h
    cases h
    simp [SV.of]
theorem of_ev {t : List Spt} {k : Nat} {s : SV} (h : (t.map SV.of)[k]? = some s) : s.ev = .slice none 0 0 := by
  rw [List.getElem?_map] at h
  cases e : t[k]? with
  | none => rw [e] at h; cases h
  | some x =>
    rw [e] at h
    cases h
    rfl
set_option maxHeartbeats 4000000 in
theorem new_any {M : Nat} {nv ev : Value} {a : Int} {xs : List NV} {es : List Edg} (w : World) (hG : GR M w nv ev xs es) (hC : Gcap ev xs) : Calls Try.prog 7 #[.agg (gvc a nv ev)] w (Nw w (gof a xs es)) := by
  have g0 := (Gr.refl w).alloc (.cells (gvc a nv ev) 25)
  have HG := hid (hG.below g0.below)
  have HB := hid (heap_new' w (.cells (gvc a nv ev) 25))
  have B0 := hid g0.below
  obtain ⟨W0, hW0⟩ : ∃ W, W = w.alloc (.cells (gvc a nv ev) 25) := ⟨_, rfl⟩
  have HW : Hid (w.alloc (.cells #[.int .i64 a, nv, ev] 25) = W0) := hW0.symm
  rw [← hW0] at HG HB B0
  have HCP := hid hC
  have hf := flawof_any (a := a) W0 HG.out hC
  obtain ⟨pn, cn, rfl⟩ := hG.nodes.form
  obtain ⟨pe, ce, rfl⟩ := hG.edges.form
  have c0 := (tk_store HB.out).1
  have l0 := tk_lt HB.out
  generalize hnl : xs.length = nl at *
  generalize hel : es.length = el at *
  have HNL := hid hnl
  have HEL := hid hel
  clear hG g0 hW0 hC hnl hel
  go_enter Try.func7, Try.ntmps7
  go_upto_region 1 with fail
  rw [HW.out]
  clear HW
  go_wp2_with fail
  refine hf.mono ?_
  rintro r w1 ⟨e, t, rfl, hF, b1⟩
  have B1 := hid (B0.out.trans (b1.mono B0.out.size))
  have HF := hid hF
  by_cases he : e = 0
  · subst he
    have HOK := hid (hF.ok.1 rfl)
    have hn1 := (b1.block _ (tk_lt HB.out)).trans HB.out
    have c1 := (tk_store hn1).1
    have l1 := tk_lt hn1
    have G1 := HG.out.below b1
    have hcop := copied_any (a := a) w1 G1 ⟨by have h := HOK.out.nl; simp at h; omega, by have h := HOK.out.el; simp at h; omega, fun x hx => by have h := HOK.out.lists x.n (List.mem_map_of_mem hx); omega⟩
    clear hF b1 hf c0 l0 hn1 G1
    go_wp2_with fail
    refine hcop.mono ?_
    rintro r w2 ⟨nv', ev', ys, rfl, b2, hys, hcg⟩
    have B2 := hid (B1.out.trans (b2.mono B1.out.size))
    have CG := hid (hcg.base B1.out.size)
    have HYS := hid hys
    obtain ⟨qn, mn, kn, hn⟩ := owns_form hcg.nodes
    obtain ⟨qe, me, ke, hq⟩ := owns_form hcg.edges
    subst hn
    subst hq
    clear b2 hcg hys hcop c1 l1
    obtain ⟨gb, hgb⟩ : ∃ b, b = w2.heap.size := ⟨_, rfl⟩
    obtain ⟨W3, hW3⟩ : ∃ W, W = w2.alloc (.cells (gcells a (.slice qn mn kn) (.slice qe me ke) (.slice none 0 0) (.slice none 0 0)) 75) := ⟨_, rfl⟩
    have P3 : Hid (Below w2.heap.size w2 W3 ∧ W3.heap[gb]? = some (.cells (gcells a (.slice qn mn kn) (.slice qe me ke) (.slice none 0 0) (.slice none 0 0)) 75 (0, 0)) ∧ gb = w2.heap.size ∧ W3.heap.size = gb + 1) := by
      rw [hW3, hgb]
      exact ⟨((Gr.refl w2).alloc _).below, heap_new' _ _, rfl, by simp⟩
    have HW3 : Hid (w2.alloc (.cells #[.int .i64 a, .slice qn mn kn, .slice qe me ke, .slice none 0 0, .slice none 0 0] 75) = W3 ∧ w2.heap.size = gb) := ⟨hW3.symm, hgb.symm⟩
    clear hW3 hgb
    have hpo : Pok (ys.map NV.n) := by rw [HYS.out]; exact HOK.out.pok
    have hyl : ys.length = xs.length := by have := congrArg List.length HYS.out; simpa using this
    have hxl : xs.length ≤ 24 := by have := HOK.out.nl; simpa using this
    have hN3 : Lz EV w2.heap.size W3 (.slice qn mn kn) ys := Or.inl ⟨(owns_ls (E := EV) CG.out.nodes).below P3.out.1, fun k e => (owns_rd CG.out.nodes k e).2⟩
    have hE3 : Lz ED w2.heap.size W3 (.slice qe me ke) es := Or.inl ⟨(owns_ls (E := ED) CG.out.edges).below P3.out.1, fun k e => (owns_rd CG.out.edges k e).2⟩
    have hnum := number_any W3 P3.out.2.1 hN3 (fun k e e2 => by have := (owns_rd CG.out.nodes k e).2; have := P3.out.2.2.1; omega) (by omega) hpo
    have HN3 := hid hN3
    have HE3 := hid hE3
    clear hN3 hE3
    go_upto_region 5 with fail
    rw [HW3.out.1, HW3.out.2]
    clear HW3
    go_wp2_with fail
    refine hnum.mono ?_
    rintro r w4 ⟨rfl, fv, pv, hNp⟩
    have HNP := hid hNp
    have hH4 : Hg W3.heap.size w4 gb a (.slice qn mn kn) (.slice qe me ke) fv pv (ys.map NV.n) ((spotsU (ys.map NV.n) ys.length).map SV.of) (fun _ => []) := by
      have hl : (ys.map NV.n).length = ys.length := by simp
      refine ⟨hNp.blk, by rw [hl]; exact hNp.fr, hNp.sp, by simp, fun k s hk => by rw [hl]; exact shape_of hk, fun k s hk => ?_, fun k s hk b hb => ?_⟩
      · rw [of_ev hk]
        exact World.ownsRow_nil _ _ _ _
      · rw [of_ev hk] at hb
        cases hb
    have keep : ∀ k, k < w2.heap.size → w4.heap[k]? = W3.heap[k]? := fun k hk => hNp.kp.block k (Nat.lt_of_lt_of_le hk P3.out.1.size) (fun e => by have := P3.out.2.2.1; omega)
    have hN4 : Lz EV w2.heap.size w4 (.slice qn mn kn) ys := by
      rcases HN3.out with ⟨h, hm⟩ | h
      · exact Or.inl ⟨h.kept hNp.kp.size (fun k e => keep k (hm k e)), hm⟩
      · exact Or.inr h
    have hE4 : Lz ED w2.heap.size w4 (.slice qe me ke) es := by
      rcases HE3.out with ⟨h, hm⟩ | h
      · exact Or.inl ⟨h.kept hNp.kp.size (fun k e => keep k (hm k e)), hm⟩
      · exact Or.inr h
    have hhang := hang_any (a := a) w4 hH4 (by have := P3.out.2.2.2; omega) hNp.kp.size (by have := P3.out.2.2; omega) hN4 hE4 (by have h := HOK.out; unfold gof at h ⊢; rw [HYS.out]; exact h)
    clear hnum hNp hH4 keep hN4 hE4 hpo hyl hxl
    go_wp2_with fail
    refine hhang.mono ?_
    rintro r w5 ⟨rfl, ss, hH5, k5⟩
    have KK : Kp (fun k => w2.heap.size ≤ k) w2 w5 := ((Kp.of_below P3.out.1).trans (HNP.out.kp) (fun j _ e => by have := P3.out.2.2.1; omega)).trans k5 (fun j _ e => by have := P3.out.2.2; omega)
    have FIN : Hid (Below w.heap.size w w5 ∧ Gm w.heap.size w5 gb (gof a xs es)) := by
      refine ⟨B2.out.trans (KK.below B2.out.size (fun k e => Nat.le_trans B2.out.size e)), _, _, fv, pv, ys, ss, by have := P3.out.2.2.1; have := B2.out.size; omega, CG.out.kp KK (fun k _ h e => by omega), HYS.out, ?_, HOK.out⟩
      have h := hH5.base (B' := w.heap.size) (by have := P3.out.2.2; have := B2.out.size; omega)
      rw [HYS.out] at h
      exact h
    clear hhang hH5 k5 KK
    go_wp2_with fail
    refine bodyPost_ret (v := .tuple #[.pointer (some ⟨gb, 0, none⟩), .int .i64 0, .int .i64 0]) (by simp [results, Try.results7, go_sem]) rfl ?_
    exact ⟨FIN.out.1, 0, t, HF.out, Or.inr ⟨rfl, gb, rfl, FIN.out.2⟩⟩
  · have hb : (e == 0) = false := by simp [he]
    have hb' : (e != 0) = true := by simp [he]
    have HE := hid he
    clear hF b1 hf c0 l0 he
    go_wp2_with fail
    refine bodyPost_ret (v := .tuple #[.pointer none, .int .i64 e, .int .i64 t]) (by simp [results, Try.results7, go_sem]) rfl ?_
    exact ⟨B1.out, e, t, HF.out, Or.inl ⟨HE.out, rfl⟩⟩
end Go.Proofs.Ytifjjnnpoleinaa.Df
