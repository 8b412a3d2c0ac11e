import Derived.Test.YtnclnagpfjmlcaaDUnt
import Derived.Test.YtnclnagpfjmlcaaDRput
import Derived.Test.YtnclnagpfjmlcaaDAp
import Derived.Test.YtnclnagpfjmlcaaDKnown
import Derived.Test.YtnclnagpfjmlcaaDArgs2
namespace Go.Proofs.Ytnclnagpfjmlcaa.Df
open Go.RowKit Go.Sort Wi
attribute [local go_sem ↓] Go.wp_at_zero Go.wp_at_succ

/-- What is laid of a graph; nothing, where it has no bytes. -/
def lay (g : Gph) : List UInt8 := if egph g = 0 then bgph g else []
theorem lay_len {a : Int} {xs : List NV} {es : List Edg} (hT : GphT (gof a xs es)) : (lay (gof a xs es)).length ≤ 70000 := by
  unfold lay
  split
  · rename_i h
    exact bgph_len hT h
  · simp
theorem laid_row {w w' : World} {g : Gph} {r : Ending} (h : Laid w g r w') : Below w.heap.size w w' ∧ ∃ d, r = .returned (.tuple #[d, .int .i64 (egph g : Nat)]) ∧ w'.ownsRow w.heap.size 5 1 d (lay g).length (fl EB (lay g)) := by
  obtain ⟨h1, d, h2, h3⟩ := h
  refine ⟨h1, d, h2, ?_⟩
  unfold lay
  rcases h3 with ⟨h4, h5⟩ | ⟨h4, rfl⟩
  · rw [if_pos h4]; exact h5
  · rw [if_neg h4]; exact World.ownsRow_nil _ _ _ _
/-- A row of bytes that was laid between two worlds. -/
structure Rb (lo hi : Nat) (W : World) (d : Value) (L : List UInt8) : Prop where
  row : W.ownsRow 0 5 1 d L.length (fl EB L)
  at_ : ∀ k, d.ownBlock = some k → lo ≤ k ∧ k < hi
theorem Rb.of {w w' : World} {d : Value} {L : List UInt8} (h : w'.ownsRow w.heap.size 5 1 d L.length (fl EB L)) : Rb w.heap.size w'.heap.size w' d L := ⟨owns_base h (Nat.zero_le _), fun k hk => owns_rd h k hk⟩
theorem Rb.below {lo hi : Nat} {W W' : World} {d : Value} {L : List UInt8} (h : Rb lo hi W d L) (hb : Below W.heap.size W W') : Rb lo hi W' d L := ⟨owns_below h.row hb, h.at_⟩
theorem Rb.ls {lo hi : Nat} {W : World} {d : Value} {L : List UInt8} (h : Rb lo hi W d L) : Ls EB W d L := owns_ls (E := EB) h.row
abbrev f4 {α : Type} (a b c d : α) (i : Nat) : α := if i = 0 then a else if i = 1 then b else if i = 2 then c else d
theorem fam4 {l1 h1 l2 h2 l3 h3 l4 h4 : Nat} {W : World} {d1 d2 d3 d4 : Value} {L1 L2 L3 L4 : List UInt8} (r1 : Rb l1 h1 W d1 L1) (r2 : Rb l2 h2 W d2 L2) (r3 : Rb l3 h3 W d3 L3) (r4 : Rb l4 h4 W d4 L4) (e1 : h1 ≤ l2) (e2 : h2 ≤ l3) (e3 : h3 ≤ l4) (o2 : l2 ≤ h2) (o3 : l3 ≤ h3) : Fam EB 5 W 4 (f4 d1 d2 d3 d4) (f4 L1 L2 L3 L4) := by
  refine ⟨fun i hi => ?_, fun i j hi hj hne g hg hg2 => ?_⟩
  · rcases (by omega : i = 0 ∨ i = 1 ∨ i = 2 ∨ i = 3) with rfl | rfl | rfl | rfl
    · exact r1.row
    · exact r2.row
    · exact r3.row
    · exact r4.row
  · have key : ∀ k, k < 4 → (f4 d1 d2 d3 d4 k).ownBlock = some g → f4 l1 l2 l3 l4 k ≤ g ∧ g < f4 h1 h2 h3 h4 k := fun k hk e => by
      rcases (by omega : k = 0 ∨ k = 1 ∨ k = 2 ∨ k = 3) with rfl | rfl | rfl | rfl
      · exact r1.at_ g e
      · exact r2.at_ g e
      · exact r3.at_ g e
      · exact r4.at_ g e
    have k1 := key i hi hg
    have k2 := key j hj hg2
    rcases (by omega : i = 0 ∨ i = 1 ∨ i = 2 ∨ i = 3) with rfl | rfl | rfl | rfl <;> rcases (by omega : j = 0 ∨ j = 1 ∨ j = 2 ∨ j = 3) with rfl | rfl | rfl | rfl <;> simp [f4] at k1 k2 hne <;> omega
set_option maxRecDepth 100000 in
set_option maxHeartbeats 8000000 in
theorem puts_any {nv ev nv2 ev2 : Value} {a a2 : Int} {xs xs2 : List NV} {es es2 : List Edg} (hT : GphT (gof a xs es)) (hT2 : GphT (gof a2 xs2 es2)) (w : World) (hG : GR w.heap.size w nv ev xs es) (hG2 : GR w.heap.size w nv2 ev2 xs2 es2) (hsz : Sz xs es) : Calls Try.prog 7 #[.agg (gvc a nv ev), .agg (gvc a2 nv2 ev2)] w fun r w' => r = .returned (.bool true) ∧ Below w.heap.size w w' := by
  have hmx : Try.prog.follows .mixedOrders = true := by kernel_rfl
  obtain ⟨pn, cn, rfl⟩ := hG.nodes.form
  obtain ⟨pe, ce, rfl⟩ := hG.edges.form
  obtain ⟨pn2, cn2, rfl⟩ := hG2.nodes.form
  obtain ⟨pe2, ce2, rfl⟩ := hG2.edges.form
  have HT := hid (And.intro hT hT2)
  have HSZ := hid hsz
  generalize xs.length = nl at *
  generalize es.length = el at *
  generalize xs2.length = nl2 at *
  generalize es2.length = el2 at *
  obtain ⟨W0, hW0⟩ : ∃ W, W = (w.alloc (.cells (gvc a (.slice pn nl cn) (.slice pe el ce)) 25)).alloc (.cells (gvc a2 (.slice pn2 nl2 cn2) (.slice pe2 el2 ce2)) 25) := ⟨_, rfl⟩
  have G0 : Hid (Below w.heap.size w W0 ∧ W0.heap[w.heap.size]? = some (.cells (gvc a (.slice pn nl cn) (.slice pe el ce)) 25 (0, 0)) ∧ W0.heap[w.heap.size + 1]? = some (.cells (gvc a2 (.slice pn2 nl2 cn2) (.slice pe2 el2 ce2)) 25 (0, 0))) := by
    rw [hW0]
    exact ⟨(((Gr.refl w).alloc _).alloc _).below, new1 w _ _, new2 w _ _⟩
  have HG := hid (And.intro (hG.later (Nat.le_refl _) G0.out.1) (hG2.later (Nat.le_refl _) G0.out.1))
  have HW : Hid ((w.alloc (.cells #[.int .i64 a, .slice pn nl cn, .slice pe el ce] 25)).alloc (.cells #[.int .i64 a2, .slice pn2 nl2 cn2, .slice pe2 el2 ce2] 25) = W0) := hW0.symm
  have c1 := (tk_store G0.out.2.1).1
  have l1 := tk_lt G0.out.2.1
  clear hG hG2 hsz hT hT2 hW0
  go_enter Try.func7, Try.ntmps7
  go_upto_region 1 with fail
  rw [HW.out]
  clear HW
  go_wp2_with fail
  refine (roomy_any _ HG.out.1 HSZ.out).mono ?_
  rintro r w1 ⟨nv', ev', ys, rfl, b1, hxy, m1, m2, m3⟩
  have RQ : Rq w1 nv' ev' ys es := ⟨m1, m2, m3⟩
  obtain ⟨gn, kn, hgn, -⟩ := m1
  obtain ⟨ge, ke, hge, -⟩ := m2
  have hgo : gof a ys es = gof a xs es := by unfold gof; rw [hxy]
  have hyl : ys.length = xs.length := by have := congrArg List.length hxy; simpa using this
  have hys := map_big (p := fun n => n.code.length * 16 ≤ 140737488351232 ∧ n.conns.length * 40 ≤ 140737488351232) hxy HSZ.out.2.2
  have HGO := hid (And.intro hgo hxy)
  have hyl2 := hyl
  generalize ys.length = yl at hgn hyl
  generalize es.length = el' at hge
  subst hgn hge
  obtain ⟨W6, hW6⟩ : ∃ W, W = w1.alloc (.cells (gvc a (.slice (some ⟨gn, 0, none⟩) yl kn) (.slice (some ⟨ge, 0, none⟩) el' ke)) 25) := ⟨_, rfl⟩
  have HW6 : Hid (w1.alloc (.cells #[.int .i64 a, .slice (some ⟨gn, 0, none⟩) yl kn, .slice (some ⟨ge, 0, none⟩) el' ke] 25) = W6) := hW6.symm
  obtain ⟨ib, hib⟩ : ∃ b, b = w1.heap.size := ⟨_, rfl⟩
  have P6 : Hid (Below W0.heap.size W0 W6 ∧ W6.heap[ib]? = some (.cells (gvc a (.slice (some ⟨gn, 0, none⟩) yl kn) (.slice (some ⟨ge, 0, none⟩) el' ke)) 25 (0, 0)) ∧ Rq W6 (.slice (some ⟨gn, 0, none⟩) yl kn) (.slice (some ⟨ge, 0, none⟩) el' ke) ys es ∧ GR W6.heap.size W6 (.slice (some ⟨gn, 0, none⟩) yl kn) (.slice (some ⟨ge, 0, none⟩) el' ke) ys es) := by
    have g6 : Gr w1 W6 := by rw [hW6]; exact (Gr.refl _).alloc _
    have h5 := RQ.below g6.below
    refine ⟨b1.trans (g6.below.mono b1.size), by rw [hW6, hib]; exact heap_new' _ _, h5, h5.gr (fun x hx => by have := hys x hx; omega) ?_⟩
    have := HSZ.out
    unfold Sz at this
    omega
  have HIB := hid hib
  clear hW6 hib RQ m3 b1 hgo hxy hys hyl hyl2 c1 l1
  have K0 : Hid (Below W6.heap.size W6 W6) := Below.refl _ _
  obtain ⟨ci, li⟩ : (∀ i, W6.cell? ⟨ib, i, none⟩ = (gvc a (.slice (some ⟨gn, 0, none⟩) yl kn) (.slice (some ⟨ge, 0, none⟩) el' ke))[i]?) ∧ ib < W6.heap.size := by
    have h := (K0.out.block _ (tk_lt P6.out.2.1)).trans P6.out.2.1
    exact ⟨(tk_store h).1, tk_lt h⟩
  obtain ⟨cg, lg⟩ : (∀ i, W6.cell? ⟨w.heap.size, i, none⟩ = (gvc a (.slice pn nl cn) (.slice pe el ce))[i]?) ∧ w.heap.size < W6.heap.size := by
    have h := (P6.out.1.block _ (tk_lt G0.out.2.1)).trans G0.out.2.1
    have h2 := (K0.out.block _ (tk_lt h)).trans h
    exact ⟨(tk_store h2).1, tk_lt h2⟩
  obtain ⟨co, lo⟩ : (∀ i, W6.cell? ⟨w.heap.size + 1, i, none⟩ = (gvc a2 (.slice pn2 nl2 cn2) (.slice pe2 el2 ce2))[i]?) ∧ w.heap.size + 1 < W6.heap.size := by
    have h := (P6.out.1.block _ (tk_lt G0.out.2.2)).trans G0.out.2.2
    have h2 := (K0.out.block _ (tk_lt h)).trans h
    exact ⟨(tk_store h2).1, tk_lt h2⟩
  go_wp2_with fail
  rw [HW6.out]
  rw [← HIB.out]
  clear HW6 HIB
  refine (put_any (by rw [HGO.out.1]; exact HT.out.1) _ (P6.out.2.2.2.later (Nat.le_refl _) K0.out)).mono ?_
  intro r w10 h
  obtain ⟨b, d1, rfl, hr⟩ := laid_row h
  rw [HGO.out.1] at hr ⊢
  have K1 := hid (K0.out.trans (b.mono K0.out.size))
  have R1 := hid (Rb.of hr)
  have Y1 := hid b
  have Z1 : Hid (W6.heap.size ≤ w10.heap.size) := b.size
  clear h b hr ci li cg lg co lo
  obtain ⟨ci, li⟩ : (∀ i, w10.cell? ⟨ib, i, none⟩ = (gvc a (.slice (some ⟨gn, 0, none⟩) yl kn) (.slice (some ⟨ge, 0, none⟩) el' ke))[i]?) ∧ ib < w10.heap.size := by
    have h := (K1.out.block _ (tk_lt P6.out.2.1)).trans P6.out.2.1
    exact ⟨(tk_store h).1, tk_lt h⟩
  obtain ⟨cg, lg⟩ : (∀ i, w10.cell? ⟨w.heap.size, i, none⟩ = (gvc a (.slice pn nl cn) (.slice pe el ce))[i]?) ∧ w.heap.size < w10.heap.size := by
    have h := (P6.out.1.block _ (tk_lt G0.out.2.1)).trans G0.out.2.1
    have h2 := (K1.out.block _ (tk_lt h)).trans h
    exact ⟨(tk_store h2).1, tk_lt h2⟩
  obtain ⟨co, lo⟩ : (∀ i, w10.cell? ⟨w.heap.size + 1, i, none⟩ = (gvc a2 (.slice pn2 nl2 cn2) (.slice pe2 el2 ce2))[i]?) ∧ w.heap.size + 1 < w10.heap.size := by
    have h := (P6.out.1.block _ (tk_lt G0.out.2.2)).trans G0.out.2.2
    have h2 := (K1.out.block _ (tk_lt h)).trans h
    exact ⟨(tk_store h2).1, tk_lt h2⟩
  go_wp2_with fail
  refine (rput_any HT.out.1 _ ((HG.out.1.later (Nat.le_refl _) P6.out.1).later (Nat.le_refl _) K1.out)).mono ?_
  intro r w20 h
  obtain ⟨b, d2, rfl, hr⟩ := laid_row h
  have K2 := hid (K1.out.trans (b.mono K1.out.size))
  have R2 := hid (Rb.of hr)
  have Y2 := hid b
  have Z2 : Hid (w10.heap.size ≤ w20.heap.size) := b.size
  clear h b hr ci li cg lg co lo
  have R1 := hid (R1.out.below Y2.out)
  obtain ⟨ci, li⟩ : (∀ i, w20.cell? ⟨ib, i, none⟩ = (gvc a (.slice (some ⟨gn, 0, none⟩) yl kn) (.slice (some ⟨ge, 0, none⟩) el' ke))[i]?) ∧ ib < w20.heap.size := by
    have h := (K2.out.block _ (tk_lt P6.out.2.1)).trans P6.out.2.1
    exact ⟨(tk_store h).1, tk_lt h⟩
  obtain ⟨cg, lg⟩ : (∀ i, w20.cell? ⟨w.heap.size, i, none⟩ = (gvc a (.slice pn nl cn) (.slice pe el ce))[i]?) ∧ w.heap.size < w20.heap.size := by
    have h := (P6.out.1.block _ (tk_lt G0.out.2.1)).trans G0.out.2.1
    have h2 := (K2.out.block _ (tk_lt h)).trans h
    exact ⟨(tk_store h2).1, tk_lt h2⟩
  obtain ⟨co, lo⟩ : (∀ i, w20.cell? ⟨w.heap.size + 1, i, none⟩ = (gvc a2 (.slice pn2 nl2 cn2) (.slice pe2 el2 ce2))[i]?) ∧ w.heap.size + 1 < w20.heap.size := by
    have h := (P6.out.1.block _ (tk_lt G0.out.2.2)).trans G0.out.2.2
    have h2 := (K2.out.block _ (tk_lt h)).trans h
    exact ⟨(tk_store h2).1, tk_lt h2⟩
  go_wp2_with fail
  refine (put_any (by rw [HGO.out.1]; exact HT.out.1) _ (P6.out.2.2.2.later (Nat.le_refl _) K2.out)).mono ?_
  intro r w30 h
  obtain ⟨b, d3, rfl, hr⟩ := laid_row h
  rw [HGO.out.1] at hr ⊢
  have K3 := hid (K2.out.trans (b.mono K2.out.size))
  have R3 := hid (Rb.of hr)
  have Y3 := hid b
  have Z3 : Hid (w20.heap.size ≤ w30.heap.size) := b.size
  clear h b hr ci li cg lg co lo
  have R1 := hid (R1.out.below Y3.out)
  have R2 := hid (R2.out.below Y3.out)
  obtain ⟨ci, li⟩ : (∀ i, w30.cell? ⟨ib, i, none⟩ = (gvc a (.slice (some ⟨gn, 0, none⟩) yl kn) (.slice (some ⟨ge, 0, none⟩) el' ke))[i]?) ∧ ib < w30.heap.size := by
    have h := (K3.out.block _ (tk_lt P6.out.2.1)).trans P6.out.2.1
    exact ⟨(tk_store h).1, tk_lt h⟩
  obtain ⟨cg, lg⟩ : (∀ i, w30.cell? ⟨w.heap.size, i, none⟩ = (gvc a (.slice pn nl cn) (.slice pe el ce))[i]?) ∧ w.heap.size < w30.heap.size := by
    have h := (P6.out.1.block _ (tk_lt G0.out.2.1)).trans G0.out.2.1
    have h2 := (K3.out.block _ (tk_lt h)).trans h
    exact ⟨(tk_store h2).1, tk_lt h2⟩
  obtain ⟨co, lo⟩ : (∀ i, w30.cell? ⟨w.heap.size + 1, i, none⟩ = (gvc a2 (.slice pn2 nl2 cn2) (.slice pe2 el2 ce2))[i]?) ∧ w.heap.size + 1 < w30.heap.size := by
    have h := (P6.out.1.block _ (tk_lt G0.out.2.2)).trans G0.out.2.2
    have h2 := (K3.out.block _ (tk_lt h)).trans h
    exact ⟨(tk_store h2).1, tk_lt h2⟩
  go_wp2_with fail
  refine (put_any HT.out.2 _ ((HG.out.2.later (Nat.le_refl _) P6.out.1).later (Nat.le_refl _) K3.out)).mono ?_
  intro r w40 h
  obtain ⟨b, d4, rfl, hr⟩ := laid_row h
  have K4 := hid (K3.out.trans (b.mono K3.out.size))
  have R4 := hid (Rb.of hr)
  have Y4 := hid b
  have Z4 : Hid (w30.heap.size ≤ w40.heap.size) := b.size
  clear h b hr ci li cg lg co lo
  have R1 := hid (R1.out.below Y4.out)
  have R2 := hid (R2.out.below Y4.out)
  have R3 := hid (R3.out.below Y4.out)
  obtain ⟨ci, li⟩ : (∀ i, w40.cell? ⟨ib, i, none⟩ = (gvc a (.slice (some ⟨gn, 0, none⟩) yl kn) (.slice (some ⟨ge, 0, none⟩) el' ke))[i]?) ∧ ib < w40.heap.size := by
    have h := (K4.out.block _ (tk_lt P6.out.2.1)).trans P6.out.2.1
    exact ⟨(tk_store h).1, tk_lt h⟩
  obtain ⟨cg, lg⟩ : (∀ i, w40.cell? ⟨w.heap.size, i, none⟩ = (gvc a (.slice pn nl cn) (.slice pe el ce))[i]?) ∧ w.heap.size < w40.heap.size := by
    have h := (P6.out.1.block _ (tk_lt G0.out.2.1)).trans G0.out.2.1
    have h2 := (K4.out.block _ (tk_lt h)).trans h
    exact ⟨(tk_store h2).1, tk_lt h2⟩
  obtain ⟨co, lo⟩ : (∀ i, w40.cell? ⟨w.heap.size + 1, i, none⟩ = (gvc a2 (.slice pn2 nl2 cn2) (.slice pe2 el2 ce2))[i]?) ∧ w.heap.size + 1 < w40.heap.size := by
    have h := (P6.out.1.block _ (tk_lt G0.out.2.2)).trans G0.out.2.2
    have h2 := (K4.out.block _ (tk_lt h)).trans h
    exact ⟨(tk_store h2).1, tk_lt h2⟩
  go_wp2_with fail
  refine (rput_any HT.out.2 _ ((HG.out.2.later (Nat.le_refl _) P6.out.1).later (Nat.le_refl _) K4.out)).mono ?_
  intro r w50 h
  obtain ⟨b, d5, rfl, hr⟩ := laid_row h
  have K5 := hid (K4.out.trans (b.mono K4.out.size))
  have R5 := hid (Rb.of hr)
  have Y5 := hid b
  have Z5 : Hid (w40.heap.size ≤ w50.heap.size) := b.size
  clear h b hr ci li cg lg co lo
  have R1 := hid (R1.out.below Y5.out)
  have R2 := hid (R2.out.below Y5.out)
  have R3 := hid (R3.out.below Y5.out)
  have R4 := hid (R4.out.below Y5.out)
  obtain ⟨ci, li⟩ : (∀ i, w50.cell? ⟨ib, i, none⟩ = (gvc a (.slice (some ⟨gn, 0, none⟩) yl kn) (.slice (some ⟨ge, 0, none⟩) el' ke))[i]?) ∧ ib < w50.heap.size := by
    have h := (K5.out.block _ (tk_lt P6.out.2.1)).trans P6.out.2.1
    exact ⟨(tk_store h).1, tk_lt h⟩
  obtain ⟨cg, lg⟩ : (∀ i, w50.cell? ⟨w.heap.size, i, none⟩ = (gvc a (.slice pn nl cn) (.slice pe el ce))[i]?) ∧ w.heap.size < w50.heap.size := by
    have h := (P6.out.1.block _ (tk_lt G0.out.2.1)).trans G0.out.2.1
    have h2 := (K5.out.block _ (tk_lt h)).trans h
    exact ⟨(tk_store h2).1, tk_lt h2⟩
  obtain ⟨co, lo⟩ : (∀ i, w50.cell? ⟨w.heap.size + 1, i, none⟩ = (gvc a2 (.slice pn2 nl2 cn2) (.slice pe2 el2 ce2))[i]?) ∧ w.heap.size + 1 < w50.heap.size := by
    have h := (P6.out.1.block _ (tk_lt G0.out.2.2)).trans G0.out.2.2
    have h2 := (K5.out.block _ (tk_lt h)).trans h
    exact ⟨(tk_store h2).1, tk_lt h2⟩
  go_wp2_with fail
  refine (put_any (by rw [HGO.out.1]; exact HT.out.1) _ (P6.out.2.2.2.later (Nat.le_refl _) K5.out)).mono ?_
  intro r w60 h
  obtain ⟨b, d6, rfl, hr⟩ := laid_row h
  rw [HGO.out.1] at hr ⊢
  have K6 := hid (K5.out.trans (b.mono K5.out.size))
  have R6 := hid (Rb.of hr)
  have Y6 := hid b
  have Z6 : Hid (w50.heap.size ≤ w60.heap.size) := b.size
  clear h b hr ci li cg lg co lo
  have R1 := hid (R1.out.below Y6.out)
  have R2 := hid (R2.out.below Y6.out)
  have R3 := hid (R3.out.below Y6.out)
  have R4 := hid (R4.out.below Y6.out)
  have R5 := hid (R5.out.below Y6.out)
  generalize hE : egph (gof a xs es) = E1
  generalize egph (gof a2 xs2 es2) = E2
  have HL1 := hid (lay_len HT.out.1)
  have HL2 := hid (lay_len HT.out.2)
  generalize lay (gof a xs es) = L1 at *
  generalize lay (gof a2 xs2 es2) = L2 at *
  clear hE
  go_wp2_with fail
  refine (known_any _).mono ?_
  rintro r w70 ⟨rfl, b⟩
  have K7 := hid (K6.out.trans (b.mono K6.out.size))
  have Z7 : Hid (w60.heap.size ≤ w70.heap.size) := b.size
  have R1 := hid (R1.out.below b)
  have R2 := hid (R2.out.below b)
  have R3 := hid (R3.out.below b)
  have R4 := hid (R4.out.below b)
  have R5 := hid (R5.out.below b)
  have R6 := hid (R6.out.below b)
  clear b
  have t1 := to_text R1.out.ls
  have t2 := to_text R2.out.ls
  have t3 := to_text R3.out.ls
  have t4 := to_text R4.out.ls
  have t5 := to_text R5.out.ls
  have t6 := to_text R6.out.ls
  obtain ⟨ci, li⟩ : (∀ i, w70.cell? ⟨ib, i, none⟩ = (gvc a (.slice (some ⟨gn, 0, none⟩) yl kn) (.slice (some ⟨ge, 0, none⟩) el' ke))[i]?) ∧ ib < w70.heap.size := by
    have h := (K7.out.block _ (tk_lt P6.out.2.1)).trans P6.out.2.1
    exact ⟨(tk_store h).1, tk_lt h⟩
  obtain ⟨cg, lg⟩ : (∀ i, w70.cell? ⟨w.heap.size, i, none⟩ = (gvc a (.slice pn nl cn) (.slice pe el ce))[i]?) ∧ w.heap.size < w70.heap.size := by
    have h := (P6.out.1.block _ (tk_lt G0.out.2.1)).trans G0.out.2.1
    have h2 := (K7.out.block _ (tk_lt h)).trans h
    exact ⟨(tk_store h2).1, tk_lt h2⟩
  obtain ⟨co, lo⟩ : (∀ i, w70.cell? ⟨w.heap.size + 1, i, none⟩ = (gvc a2 (.slice pn2 nl2 cn2) (.slice pe2 el2 ce2))[i]?) ∧ w.heap.size + 1 < w70.heap.size := by
    have h := (P6.out.1.block _ (tk_lt G0.out.2.2)).trans G0.out.2.2
    have h2 := (K7.out.block _ (tk_lt h)).trans h
    exact ⟨(tk_store h2).1, tk_lt h2⟩
  go_wp2_with fail
  refine (untouched_any HGO.out.2 _ ((HG.out.1.later (Nat.le_refl _) P6.out.1).later (Nat.le_refl _) K7.out) (P6.out.2.2.1.below K7.out) HSZ.out).mono ?_
  rintro r w80 ⟨rfl, b⟩
  have K8 := hid (K7.out.trans (b.mono K7.out.size))
  have Z8 : Hid (w70.heap.size ≤ w80.heap.size) := b.size
  have R1 := hid (R1.out.below b)
  have R3 := hid (R3.out.below b)
  have R4 := hid (R4.out.below b)
  have R6 := hid (R6.out.below b)
  clear b t1 t2 t3 t4 t5 t6 ci li cg lg co lo
  obtain ⟨pa, ca, rfl⟩ := R1.out.ls.form
  obtain ⟨pb, cb, rfl⟩ := R3.out.ls.form
  obtain ⟨pc, cc, rfl⟩ := R4.out.ls.form
  obtain ⟨pd, cd, rfl⟩ := R6.out.ls.form
  obtain ⟨W9, hW9⟩ : ∃ W, W = w80.alloc (.cells #[.slice pa L1.length ca, .slice pb L1.length cb, .slice pc L2.length cc, .slice pd L1.length cd] 26) := ⟨_, rfl⟩
  obtain ⟨sb, hsb⟩ : ∃ b, b = w80.heap.size := ⟨_, rfl⟩
  have FA : Hid (Fam EB 5 W9 4 (f4 (.slice pa L1.length ca) (.slice pb L1.length cb) (.slice pc L2.length cc) (.slice pd L1.length cd)) (f4 L1 L1 L2 L1) ∧ W9.ownsRow 0 26 1 (.slice (some ⟨sb, 0, none⟩) 4 4) 4 ((List.range 4).map (f4 (.slice pa L1.length ca) (.slice pb L1.length cb) (.slice pc L2.length cc) (.slice pd L1.length cd))) ∧ (∀ q, SqF 4 (f4 (.slice pa L1.length ca) (.slice pb L1.length cb) (.slice pc L2.length cc) (.slice pd L1.length cd)) q → w.heap.size ≤ q ∧ q < sb) ∧ Below w.heap.size w W9) := by
    have g9 : Gr w80 W9 := by rw [hW9]; exact (Gr.refl _).alloc _
    have z6 := P6.out.1.size
    have z0 := G0.out.1.size
    have z1 := Z1.out
    have z2 := Z2.out
    have z3 := Z3.out
    have z4 := Z4.out
    have z5 := Z5.out
    have z7 := Z6.out
    have z8 := Z7.out
    have z9 := Z8.out
    have hb := G0.out.1.trans ((P6.out.1.trans (K8.out.mono P6.out.1.size)).mono G0.out.1.size)
    refine ⟨fam4 (R1.out.below g9.below) (R3.out.below g9.below) (R4.out.below g9.below) (R6.out.below g9.below) (by omega) (by omega) (by omega) (by omega) (by omega), ?_, fun q hq => ?_, hb.trans (g9.below.mono hb.size)⟩
    · rw [hW9, hsb]
      exact ⟨by simp, .inr ⟨w80.heap.size, 4, #[.slice pa L1.length ca, .slice pb L1.length cb, .slice pc L2.length cc, .slice pd L1.length cd], rfl, Nat.zero_le _, heap_alloc_new w80 _, Nat.le_refl _, by decide, rfl, by simp [f4, List.range, List.range.loop]⟩⟩
    · obtain ⟨i, hi, e⟩ := hq
      rcases (by omega : i = 0 ∨ i = 1 ∨ i = 2 ∨ i = 3) with rfl | rfl | rfl | rfl
      · have := R1.out.at_ q e; omega
      · have := R3.out.at_ q e; omega
      · have := R4.out.at_ q e; omega
      · have := R6.out.at_ q e; omega
  have HE : Hid (w80.alloc (.cells #[.slice pa L1.length ca, .slice pb L1.length cb, .slice pc L2.length cc, .slice pd L1.length cd] 26) = W9 ∧ w80.heap.size = sb) := ⟨hW9.symm, hsb.symm⟩
  clear hW9 hsb
  go_wp2_with fail
  rw [HE.out.1, HE.out.2]
  refine (apart_any 4 _ (f4 (.slice pa L1.length ca) (.slice pb L1.length cb) (.slice pc L2.length cc) (.slice pd L1.length cd)) (f4 L1 L1 L2 L1) _ FA.out.2.1 FA.out.1 (fun q hq e => by have := FA.out.2.2.1 q hq; simp [Value.ownBlock] at e; omega) (by decide) (fun i hi => ?_)).mono ?_
  · have h1 := HL1.out
    have h2 := HL2.out
    rcases (by omega : i = 0 ∨ i = 1 ∨ i = 2 ∨ i = 3) with rfl | rfl | rfl | rfl <;> simp [f4] <;> omega
  · rintro r w90 ⟨rfl, k⟩
    have B9 : Hid (Below w.heap.size w w90) := FA.out.2.2.2.trans (k.below FA.out.2.2.2.size (fun q hq => (FA.out.2.2.1 q hq).1))
    go_wp2_with fail
    go_ret
    exact ⟨rfl, B9.out⟩
end Go.Proofs.Ytnclnagpfjmlcaa.Df
