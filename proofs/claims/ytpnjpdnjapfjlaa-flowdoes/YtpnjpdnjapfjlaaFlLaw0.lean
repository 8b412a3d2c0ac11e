import Derived.Test.YtpnjpdnjapfjlaaFlRef
namespace Go.Proofs.Ytpnjpdnjapfjlaa.Cd
open Go.RowKit Go.Sort
attribute [local go_sem ↓] Go.wp_at_zero Go.wp_at_succ

theorem md_mapper (b : Nat) (w : World) : (method 205 64 (.pointer (some ⟨b, 0, none⟩)) "Do").run Try.prog w = .ok (52, .pointer (some ⟨b, 0, none⟩)) w := by kernel_rfl
theorem md_filter (b : Nat) (w : World) : (method 205 67 (.pointer (some ⟨b, 0, none⟩)) "Do").run Try.prog w = .ok (55, .pointer (some ⟨b, 0, none⟩)) w := by kernel_rfl
theorem md_join (b : Nat) (w : World) : (method 205 53 (.pointer (some ⟨b, 0, none⟩)) "Do").run Try.prog w = .ok (45, .pointer (some ⟨b, 0, none⟩)) w := by kernel_rfl
theorem md_loop (b : Nat) (w : World) : (method 205 56 (.pointer (some ⟨b, 0, none⟩)) "Do").run Try.prog w = .ok (47, .pointer (some ⟨b, 0, none⟩)) w := by kernel_rfl
theorem two_nw (w : World) (o1 o2 : Obj) : ((w.alloc o1).alloc o2).heap[w.heap.size]? = some o1 ∧ ((w.alloc o1).alloc o2).heap[w.heap.size + 1]? = some o2 := by
  have h := heap_new' (w.alloc o1) o2
  rw [show (w.alloc o1).heap.size = w.heap.size + 1 by simp] at h
  refine ⟨?_, h⟩
  rw [← heap_new' w o1]
  exact ((Gr.refl (w.alloc o1)).alloc o2).below.block w.heap.size (by simp)
/-- What Do does, by its number, at every later world. -/
def Mt (w : World) (T : TypeId) (b g : Nat) (x : Nd) (l : List Op2) : Prop :=
  (∀ W : World, (method 205 T (.pointer (some ⟨b, 0, none⟩)) "Do").run Try.prog W = .ok (g, .pointer (some ⟨b, 0, none⟩)) W) ∧ (∀ (args : Array Value) (W : World), (callFunc g args).run Try.prog W = .ok (.enter g args) W) ∧
  ∀ (W : World) (t : T3) (r : Rc), Below w.heap.size w W → t.ok → Rok r → Calls Try.prog g #[.pointer (some ⟨b, 0, none⟩), t.v, rv r] W fun e w' => e = .returned (tup (ndo x l t r)) ∧ Below W.heap.size W w'
theorem Flw.mt {lo : Nat} {w : World} {v : Value} {x : Nd} {l : List Op2} (h : Flw lo w v x l) (hy : x.y.ok) (hl : ∀ o ∈ l, Ook o) : ∃ T b g, v = .iface T (.pointer (some ⟨b, 0, none⟩)) ∧ Mt w T b g x l := by
  rcases h with ⟨e, b, p, n, c, hv, hb, hh, h1, hg⟩ | ⟨e, b, p, n, c, hv, hb, hh, h1, hg⟩ | ⟨e, b, hv, hb, hh⟩ | ⟨e, b, hv, hb, hh⟩
  · refine ⟨_, b, _, hv, md_mapper b, fun _ _ => by kernel_rfl, fun W t r hW _ hr => ?_⟩
    rw [show ndo x l t r = (t, mapL l r, true) by simp [ndo, e]]
    exact mapDo_any t hr hl W ((hW.block b (tk_lt hh)).trans hh) (h1.below hW)
  · refine ⟨_, b, _, hv, md_filter b, fun _ _ => by kernel_rfl, fun W t r hW _ hr => ?_⟩
    rw [show ndo x l t r = if passL l r then (t, r, true) else (⟨0, 0, 0⟩, ⟨0, 0⟩, false) by simp [ndo, e]]
    exact filDo_any t r W ((hW.block b (tk_lt hh)).trans hh) (h1.below hW)
  · refine ⟨_, b, _, hv, md_join b, fun _ _ => by kernel_rfl, fun W t r hW _ hr => ?_⟩
    rw [show ndo x l t r = (t, r, true) by simp [ndo, e]]
    exact joinDo_any b t r W
  · refine ⟨_, b, _, hv, md_loop b, fun _ _ => by kernel_rfl, fun W t r hW ht hr => ?_⟩
    rw [show ndo x l t r = if lok x t then (⟨t.a + x.y.a, t.b + x.y.b, t.c + x.y.c⟩, r, true) else (⟨0, 0, 0⟩, ⟨0, 0⟩, false) by simp [ndo, e], ← lok_eq x t ht]
    exact loopDo_any (m := ⟨most x.y.a x.bd, most x.y.b x.bd, most x.y.c x.bd⟩) r hy ht W ((hW.block b (tk_lt hh)).trans hh)
theorem ndo_ok {x : Nd} {l : List Op2} {t : T3} {r : Rc} (ht : t.ok) : (ndo x l t r).1.ok := by
  unfold ndo
  split
  · exact ht
  split
  · split
    · exact ht
    · exact ⟨by decide, by decide, by decide⟩
  split
  · split
    · rename_i h
      simp only [lok, okp, Bool.and_eq_true, Bool.or_eq_true, decide_eq_true_eq] at h
      obtain ⟨h1, h2, h3⟩ := h
      obtain ⟨t1, t2, t3⟩ := ht
      refine ⟨?_, ?_, ?_⟩ <;> simp only <;> omega
    · exact ⟨by decide, by decide, by decide⟩
  · exact ht
set_option maxHeartbeats 4000000 in
set_option maxRecDepth 100000 in
theorem does_any {lo : Nat} {v : Value} {x : Nd} {p : Option Addr} {n c : Nat} {l : List Op2} {t : T3} {r : Rc} (hy : x.y.ok) (ht : t.ok) (hr : Rok r) (hl : ∀ o ∈ l, Ook o) (w : World) (hf : Flw lo w v x l) (hv : Ls EO w (.slice p n c) l) : Calls Try.prog 9 #[v, x.v p n c, .agg #[.int .u64 t.a, .int .u64 t.b, .int .u64 t.c, .int .u64 r.key, .int .u64 r.val]] w fun e w' => e = .returned (.bool true) ∧ Below w.heap.size w w' := by
  obtain ⟨T, b, g, rfl, hm, hg, hc⟩ := hf.mt hy hl
  obtain ⟨W0, hW0⟩ : ∃ W0, W0 = (w.alloc (.cells (ncells x p n c) 28)).alloc (.cells #[.int .u64 t.a, .int .u64 t.b, .int .u64 t.c, .int .u64 r.key, .int .u64 r.val] 50) := ⟨_, rfl⟩
  have HG : Hid (Below w.heap.size w W0) := by rw [hW0]; exact (((Gr.refl w).alloc _).alloc _).below
  have b1 : W0.heap[w.heap.size]? = some (.cells (ncells x p n c) 28 (0, 0)) := by rw [hW0, ← heap_new' w (.cells (ncells x p n c) 28)]; exact ((Gr.refl (w.alloc (.cells (ncells x p n c) 28))).alloc _).below.block _ (by simp)
  have b2 : W0.heap[w.heap.size + 1]? = some (.cells #[.int .u64 t.a, .int .u64 t.b, .int .u64 t.c, .int .u64 r.key, .int .u64 r.val] 50 (0, 0)) := by
    have h := heap_new' (w.alloc (.cells (ncells x p n c) 28)) (.cells #[.int .u64 t.a, .int .u64 t.b, .int .u64 t.c, .int .u64 r.key, .int .u64 r.val] 50)
    rw [hW0]
    rwa [show (w.alloc (.cells (ncells x p n c) 28)).heap.size = w.heap.size + 1 by simp] at h
  have HC : Hid (∀ W, Below w.heap.size w W → Calls Try.prog g #[.pointer (some ⟨b, 0, none⟩), t.v, rv r] W fun e w' => e = .returned (tup (ndo x l t r)) ∧ Below W.heap.size W w') := fun W hW => hc W t r hW ht hr
  have HR : Hid (∀ W, Below w.heap.size w W → Calls Try.prog 14 #[x.v p n c, t.v, rv r] W fun e w' => e = .returned (tup (ndo x l t r)) ∧ Below W.heap.size W w') := fun W hW => rdo_any x hy ht hr hl W (hv.below hW)
  have heqT := fun (a b c : Int) W => run_eqT a b c a b c W
  have hteq : ∀ a b c : Int, teq a b c a b c = true := fun a b c => by simp [teq]
  simp only [hteq] at heqT
  have heqR := fun x y W => run_eqR x y W
  obtain ⟨⟨u, s, ok⟩, hd⟩ : ∃ d, d = ndo x l t r := ⟨_, rfl⟩
  rw [← hd] at HC HR
  clear hd hc hf hv hl hr ht hy hteq
  go_enter Try.func9, Try.ntmps9
  go_upto_region 1 with fail
  obtain ⟨nb, hnb⟩ : ∃ nb, nb = w.heap.size := ⟨_, rfl⟩
  obtain ⟨ab, hab⟩ : ∃ ab, ab = nb + 1 := ⟨_, rfl⟩
  rw [← hW0, ← hnb, ← hab]
  rw [← hnb] at b1
  rw [← hnb, ← hab] at b2
  obtain ⟨z1, d1, -⟩ := blk_at b1
  obtain ⟨z2, d2, -⟩ := blk_at b2
  have HB1 := hid b1
  have HB2 := hid b2
  clear hW0 hnb hab b1 b2
  go_wp2_with fail
  refine (HC.out _ HG.out).mono ?_
  rintro e u1 ⟨rfl, g1⟩
  go_upto_region 2 with fail
  obtain ⟨W2, hW2⟩ : ∃ W2, W2 = (u1.alloc (.cells #[.int .u64 u.a, .int .u64 u.b, .int .u64 u.c] 29)).alloc (.cells #[.int .u64 s.key, .int .u64 s.val] 31) := ⟨_, rfl⟩
  have hG2 : Gr u1 W2 := by rw [hW2]; exact ((Gr.refl u1).alloc _).alloc _
  have h2 := two_nw u1 (.cells #[.int .u64 u.a, .int .u64 u.b, .int .u64 u.c] 29) (.cells #[.int .u64 s.key, .int .u64 s.val] 31)
  rw [← hW2] at h2
  obtain ⟨ub, hub⟩ : ∃ ub, ub = u1.heap.size := ⟨_, rfl⟩
  obtain ⟨vb, hvb⟩ : ∃ vb, vb = ub + 1 := ⟨_, rfl⟩
  rw [← hW2, ← hub, ← hvb]
  rw [← hub, ← hvb] at h2
  have hB2 : Below W0.heap.size W0 W2 := g1.trans (hG2.below.mono g1.size)
  have HG2 : Hid (Below w.heap.size w W2) := HG.out.trans (hB2.mono HG.out.size)
  have HT2 := hid h2
  clear z1 d1 z2 d2 hW2 hub hvb h2 hG2 g1
  obtain ⟨z1, d1, -⟩ := blk_at ((hB2.block nb (tk_lt HB1.out)).trans HB1.out)
  obtain ⟨z2, d2, -⟩ := blk_at ((hB2.block ab (tk_lt HB2.out)).trans HB2.out)
  clear hB2 HB1 HB2 HG HC
  go_wp2_with fail
  refine (HR.out _ HG2.out).mono ?_
  rintro e u3 ⟨rfl, g3⟩
  go_upto_region 3 with fail
  obtain ⟨W4, hW4⟩ : ∃ W4, W4 = (u3.alloc (.cells #[.int .u64 u.a, .int .u64 u.b, .int .u64 u.c] 29)).alloc (.cells #[.int .u64 s.key, .int .u64 s.val] 31) := ⟨_, rfl⟩
  have hG4 : Gr u3 W4 := by rw [hW4]; exact ((Gr.refl u3).alloc _).alloc _
  have h4 := two_nw u3 (.cells #[.int .u64 u.a, .int .u64 u.b, .int .u64 u.c] 29) (.cells #[.int .u64 s.key, .int .u64 s.val] 31)
  rw [← hW4] at h4
  obtain ⟨xb, hxb⟩ : ∃ xb, xb = u3.heap.size := ⟨_, rfl⟩
  obtain ⟨yb, hyb⟩ : ∃ yb, yb = xb + 1 := ⟨_, rfl⟩
  rw [← hW4, ← hxb, ← hyb]
  rw [← hxb, ← hyb] at h4
  have hB4 : Below W2.heap.size W2 W4 := g3.trans (hG4.below.mono g3.size)
  have HG4 : Hid (Below w.heap.size w W4) := HG2.out.trans (hB4.mono HG2.out.size)
  clear z1 d1 z2 d2 hW4 hxb hyb hG4 g3
  obtain ⟨z1, d1, -⟩ := blk_at ((hB4.block ub (tk_lt HT2.out.1)).trans HT2.out.1)
  obtain ⟨z2, d2, -⟩ := blk_at ((hB4.block vb (tk_lt HT2.out.2)).trans HT2.out.2)
  obtain ⟨z3, d3, -⟩ := blk_at h4.1
  obtain ⟨z4, d4, -⟩ := blk_at h4.2
  clear hB4 h4 HT2 HG2 HR
  go_wp2_with fail
  go_ret
  exact ⟨by simp, HG4.out⟩
end Go.Proofs.Ytpnjpdnjapfjlaa.Cd
