import Derived.Test.YtpnjpdnjapfjlaaFlTak
namespace Go.Proofs.Ytpnjpdnjapfjlaa.Cd
open Go.RowKit Go.Sort
attribute [local go_sem ↓] Go.wp_at_zero Go.wp_at_succ

theorem three_nw (w : World) (o1 o2 o3 : Obj) : (((w.alloc o1).alloc o2).alloc o3).heap[w.heap.size]? = some o1 ∧ (((w.alloc o1).alloc o2).alloc o3).heap[w.heap.size + 1]? = some o2 ∧ (((w.alloc o1).alloc o2).alloc o3).heap[w.heap.size + 1 + 1]? = some o3 := by
  have h := two_nw (w.alloc o1) o2 o3
  rw [show (w.alloc o1).heap.size = w.heap.size + 1 by simp] at h
  refine ⟨?_, h⟩
  rw [← heap_new' w o1]
  exact (((Gr.refl (w.alloc o1)).alloc o2).alloc o3).below.block w.heap.size (by simp)
/-- The ways in which a record goes. -/
inductive Way (k : Int) (y : T3) (bd : Nat) (t : T3) (r : Rc) : T3 → Rc → Bool → Prop
  | map (s : Rc) : k = 2 → Way k y bd t r t s true
  | pass : k = 3 → Way k y bd t r t r true
  | stop : k = 3 → Way k y bd t r ⟨0, 0, 0⟩ ⟨0, 0⟩ false
  | join : k = 4 → Way k y bd t r t r true
  | loop (u : T3) : k = 5 → (IntKind.u64.wrap ((t.a : Int) + y.a) = u.a ∧ IntKind.u64.wrap ((t.b : Int) + y.b) = u.b ∧ IntKind.u64.wrap ((t.c : Int) + y.c) = u.c) → (¬ (u.a : Int) < t.a ∧ ¬ (u.b : Int) < t.b ∧ ¬ (u.c : Int) < t.c) → ((y.a = 0 ∨ u.a ≤ bd) ∧ (y.b = 0 ∨ u.b ≤ bd) ∧ (y.c = 0 ∨ u.c ≤ bd)) → Way k y bd t r u r true
  | ends : k = 5 → teq y.a y.b y.c 0 0 0 = false → Way k y bd t r ⟨0, 0, 0⟩ ⟨0, 0⟩ false
theorem way_of {x : Nd} {l : List Op2} {t : T3} {r : Rc} (ht : t.ok) (he : newE x.kind l = 0) : Way x.kind x.y x.bd t r (ndo x l t r).1 (ndo x l t r).2.1 (ndo x l t r).2.2 := by
  unfold newE at he
  unfold ndo
  by_cases h2 : x.kind = 2
  · rw [if_pos h2]; exact .map _ h2
  rw [if_neg h2]
  by_cases h3 : x.kind = 3
  · rw [if_pos h3]
    split
    · exact .pass h3
    · exact .stop h3
  rw [if_neg h3]
  rw [if_neg (by omega)] at he
  by_cases h5 : x.kind = 5
  · rw [if_pos h5]
    obtain ⟨t1, t2, t3⟩ := ht
    split
    · rename_i h
      simp only [lok, okp, Bool.and_eq_true, Bool.or_eq_true, decide_eq_true_eq] at h
      obtain ⟨h1, h2, h3⟩ := h
      refine .loop _ h5 ⟨?_, ?_, ?_⟩ ⟨?_, ?_, ?_⟩ ⟨?_, ?_, ?_⟩
      any_goals simp [IntKind.wrap, IntKind.signed, IntKind.bits]
      all_goals omega
    · rename_i h
      refine .ends h5 ?_
      rw [← Bool.not_eq_true, teq_iff]
      intro ⟨y1, y2, y3⟩
      apply h
      have z1 : x.y.a = 0 := by omega
      have z2 : x.y.b = 0 := by omega
      have z3 : x.y.c = 0 := by omega
      simp [lok, okp, z1, z2, z3]
  · rw [if_neg h5]
    have h4 : x.kind = 4 := by
      apply Classical.byContradiction
      intro h4
      rw [if_neg (by omega)] at he
      omega
    exact .join h4
set_option maxHeartbeats 8000000 in
set_option maxRecDepth 100000 in
theorem flowGoes_any {x : Nd} {p : Option Addr} {n c : Nat} {l : List Op2} {t : T3} {r : Rc} (hy : x.y.ok) (ht : t.ok) (hr : Rok r) (hl : ∀ o ∈ l, Ook o) (w : World) (hv : Ls EO w (.slice p n c) l) : Calls Try.prog 3 #[x.v p n c, t.v, rv r] w fun e w' => e = .returned (.bool true) ∧ Below w.heap.size w w' := by
  have heqT := fun (a b c : Int) W => run_eqT a b c a b c W
  have hteq : ∀ a b c : Int, teq a b c a b c = true := fun a b c => by simp [teq]
  simp only [hteq] at heqT
  have heqR := fun x y W => run_eqR x y W
  have heqP := fun W => run_eqP x.y.a x.y.b x.y.c 0 0 0 W
  clear hteq
  have HN : Hid (∀ W, Below w.heap.size w W → Calls Try.prog 6 #[x.v p n c] W fun e w' => ∃ v, e = .returned (.tuple #[v, .int .i64 (newE x.kind l)]) ∧ Hid (Nw W w' v x l)) := fun W hW => new_any x W (hv.below hW)
  have HMt : Hid (∀ {lo : Nat} {w : World} {v : Value}, Flw lo w v x l → ∃ T b g, v = .iface T (.pointer (some ⟨b, 0, none⟩)) ∧ Mt w T b g x l) := fun h => h.mt hy hl
  have HTR : Hid (t.ok ∧ Rok r) := ⟨ht, hr⟩
  have HWY : Hid (newE x.kind l = 0 → Way x.kind x.y x.bd t r (ndo x l t r).1 (ndo x l t r).2.1 (ndo x l t r).2.2) := fun h => way_of ht h
  clear hv hl hr ht hy
  go_enter Try.func3, Try.ntmps3
  go_upto_region 1 with fail
  obtain ⟨W0, hW0⟩ : ∃ W0, W0 = ((w.alloc (.cells (ncells x p n c) 28)).alloc (.cells #[.int .u64 t.a, .int .u64 t.b, .int .u64 t.c] 29)).alloc (.cells #[.int .u64 r.key, .int .u64 r.val] 31) := ⟨_, rfl⟩
  have hG : Gr w W0 := by rw [hW0]; exact (((Gr.refl w).alloc _).alloc _).alloc _
  have h3 := three_nw w (.cells (ncells x p n c) 28) (.cells #[.int .u64 t.a, .int .u64 t.b, .int .u64 t.c] 29) (.cells #[.int .u64 r.key, .int .u64 r.val] 31)
  rw [← hW0] at h3
  obtain ⟨nb, hnb⟩ : ∃ nb, nb = w.heap.size := ⟨_, rfl⟩
  obtain ⟨tb, htb⟩ : ∃ tb, tb = nb + 1 := ⟨_, rfl⟩
  obtain ⟨rb, hrb⟩ : ∃ rb, rb = tb + 1 := ⟨_, rfl⟩
  rw [← hW0, ← hnb, ← htb, ← hrb]
  rw [← hnb, ← htb, ← hrb] at h3
  have HG := hid hG.below
  have HL : Hid (∀ W : World, Below W0.heap.size W0 W → W.heap[nb]? = some (.cells (ncells x p n c) 28 (0, 0)) ∧ W.heap[tb]? = some (.cells #[.int .u64 t.a, .int .u64 t.b, .int .u64 t.c] 29 (0, 0)) ∧ W.heap[rb]? = some (.cells #[.int .u64 r.key, .int .u64 r.val] 31 (0, 0))) := fun W hW => ⟨(hW.block nb (tk_lt h3.1)).trans h3.1, (hW.block tb (tk_lt h3.2.1)).trans h3.2.1, (hW.block rb (tk_lt h3.2.2)).trans h3.2.2⟩
  clear hW0 hnb htb hrb h3 hG
  go_wp2_with fail
  refine (taken_any _).mono ?_
  rintro e w1 ⟨rfl, B1⟩
  have HB1 := hid B1
  clear B1
  obtain ⟨z1, d1, -⟩ := blk_at (HL.out w1 HB1.out).1
  go_wp2_with fail
  refine (HN.out _ (HG.out.trans (HB1.out.mono HG.out.size))).mono ?_
  rintro e w2 ⟨v2, rfl, H2⟩
  have HB2 : Hid (Below W0.heap.size W0 w2) := HB1.out.trans (H2.out.1.mono HB1.out.size)
  clear z1 d1 HB1
  obtain ⟨z1, d1, -⟩ := blk_at (HL.out w2 HB2.out).1
  go_wp2_with fail
  refine (HN.out _ (HG.out.trans (HB2.out.mono HG.out.size))).mono ?_
  rintro e w3 ⟨v3, rfl, H3⟩
  have HB3 : Hid (Below W0.heap.size W0 w3) := HB2.out.trans (H3.out.1.mono HB2.out.size)
  clear z1 d1
  by_cases h0 : newE x.kind l = 0
  · have hf2 : Flw w1.heap.size w2 v2 x l := by
      rcases H2.out.2 with h | h
      · exact h.2
      · exact absurd h0 h.1
    have hf3 : Flw w2.heap.size w3 v3 x l := by
      rcases H3.out.2 with h | h
      · exact h.2
      · exact absurd h0 h.1
    obtain ⟨T, b, g, rfl, hm, hg, hc⟩ := HMt.out (hf2.below H3.out.1)
    obtain ⟨T', b', g', rfl, hm', hg', hc'⟩ := HMt.out hf3
    have hway := HWY.out h0
    rw [h0]
    have HC : Hid (∀ W, Below w3.heap.size w3 W → Calls Try.prog g #[.pointer (some ⟨b, 0, none⟩), t.v, rv r] W fun e w' => e = .returned (tup (ndo x l t r)) ∧ Below W.heap.size W w') := fun W hW => hc W t r hW HTR.out.1 HTR.out.2
    have HC' : Hid (∀ W, Below w3.heap.size w3 W → Calls Try.prog g' #[.pointer (some ⟨b', 0, none⟩), t.v, rv r] W fun e w' => e = .returned (tup (ndo x l t r)) ∧ Below W.heap.size W w') := fun W hW => hc' W t r hW HTR.out.1 HTR.out.2
    obtain ⟨⟨u, s, ok⟩, hd⟩ : ∃ d, d = ndo x l t r := ⟨_, rfl⟩
    rw [← hd] at HC HC' hway
    have HWAY : Hid (Way x.kind x.y x.bd t r u s ok) := hway
    clear hd hc hc' hf2 hf3 hway h0 HWY HMt HN H2 H3 HTR HB2
    go_upto_region 5 with fail
    go_quiet (fail)
    have HB5 : Hid (Below w3.heap.size w3 (w3.drewN nq)) := ((Gr.refl w3).drewN nq).below
    obtain ⟨w5, hw5⟩ : ∃ w5, w5 = w3.drewN nq := ⟨_, rfl⟩
    rw [← hw5] at HB5 ⊢
    clear hw5
    have HB6 : Hid (Below W0.heap.size W0 w5) := HB3.out.trans (HB5.out.mono HB3.out.size)
    obtain ⟨z2, d2, -⟩ := blk_at (HL.out w5 HB6.out).2.1
    obtain ⟨z3, d3, -⟩ := blk_at (HL.out w5 HB6.out).2.2
    go_wp2_with fail
    refine (HC.out _ HB5.out).mono ?_
    rintro e u1 ⟨rfl, g1⟩
    go_upto_region 10 with fail
    obtain ⟨W2, hW2⟩ : ∃ W2, W2 = (u1.alloc (.cells #[.int .u64 u.a, .int .u64 u.b, .int .u64 u.c] 29)).alloc (.cells #[.int .u64 s.key, .int .u64 s.val] 31) := ⟨_, rfl⟩
    have hG2 : Gr u1 W2 := by rw [hW2]; exact ((Gr.refl u1).alloc _).alloc _
    have h2 := two_nw u1 (.cells #[.int .u64 u.a, .int .u64 u.b, .int .u64 u.c] 29) (.cells #[.int .u64 s.key, .int .u64 s.val] 31)
    rw [← hW2] at h2
    obtain ⟨ub, hub⟩ : ∃ ub, ub = u1.heap.size := ⟨_, rfl⟩
    obtain ⟨vb, hvb⟩ : ∃ vb, vb = ub + 1 := ⟨_, rfl⟩
    rw [← hW2, ← hub, ← hvb]
    rw [← hub, ← hvb] at h2
    have hB2 : Below w5.heap.size w5 W2 := g1.trans (hG2.below.mono g1.size)
    have HB7 : Hid (Below W0.heap.size W0 W2) := HB6.out.trans (hB2.mono HB6.out.size)
    have HB8 : Hid (Below w3.heap.size w3 W2) := HB5.out.trans (hB2.mono HB5.out.size)
    have HT2 := hid h2
    clear z2 d2 z3 d3 hW2 hub hvb h2 hG2 g1 hB2 HB5 HB6 HC
    obtain ⟨z2, d2, -⟩ := blk_at (HL.out W2 HB7.out).2.1
    obtain ⟨z3, d3, -⟩ := blk_at (HL.out W2 HB7.out).2.2
    go_wp2_with fail
    refine (HC'.out _ HB8.out).mono ?_
    rintro e u3 ⟨rfl, g3⟩
    go_upto_region 11 with fail
    obtain ⟨W4, hW4⟩ : ∃ W4, W4 = (u3.alloc (.cells #[.int .u64 u.a, .int .u64 u.b, .int .u64 u.c] 29)).alloc (.cells #[.int .u64 s.key, .int .u64 s.val] 31) := ⟨_, rfl⟩
    have hG4 : Gr u3 W4 := by rw [hW4]; exact ((Gr.refl u3).alloc _).alloc _
    have h4 := two_nw u3 (.cells #[.int .u64 u.a, .int .u64 u.b, .int .u64 u.c] 29) (.cells #[.int .u64 s.key, .int .u64 s.val] 31)
    rw [← hW4] at h4
    obtain ⟨xb, hxb⟩ : ∃ xb, xb = u3.heap.size := ⟨_, rfl⟩
    obtain ⟨yb, hyb⟩ : ∃ yb, yb = xb + 1 := ⟨_, rfl⟩
    rw [← hW4, ← hxb, ← hyb]
    rw [← hxb, ← hyb] at h4
    have hB4 : Below W2.heap.size W2 W4 := g3.trans (hG4.below.mono g3.size)
    have HB9 : Hid (Below W0.heap.size W0 W4) := HB7.out.trans (hB4.mono HB7.out.size)
    have HG9 : Hid (Below w.heap.size w W4) := HG.out.trans (HB9.out.mono HG.out.size)
    clear z2 d2 z3 d3 hW4 hxb hyb hG4 g3
    obtain ⟨z1, d1, -⟩ := blk_at (HL.out W4 HB9.out).1
    obtain ⟨z2, d2, -⟩ := blk_at (HL.out W4 HB9.out).2.1
    obtain ⟨z3, d3, -⟩ := blk_at (HL.out W4 HB9.out).2.2
    obtain ⟨z4, d4, -⟩ := blk_at ((hB4.block ub (tk_lt HT2.out.1)).trans HT2.out.1)
    obtain ⟨z5, d5, -⟩ := blk_at ((hB4.block vb (tk_lt HT2.out.2)).trans HT2.out.2)
    obtain ⟨z6, d6, -⟩ := blk_at h4.1
    obtain ⟨z7, d7, -⟩ := blk_at h4.2
    clear hB4 h4 HT2 HB7 HB8 HB9 HC' HL HG HB3
    obtain ⟨k, i, o, y, bd, cp, cn, cc, st⟩ := x
    simp only at HWAY heqP
    go_upto_region 13 with fail
    rcases HWAY.out with ⟨_, rfl⟩ | rfl | rfl | rfl | ⟨_, rfl, ⟨w1, w2, w3⟩, ⟨n1, n2, n3⟩, hbd⟩ | ⟨rfl, hte⟩
    · go_wp2_with fail
      go_ret
      exact ⟨by simp, HG9.out⟩
    · go_wp2_with fail
      go_ret
      exact ⟨by simp, HG9.out⟩
    · go_wp2_with fail
      go_ret
      exact ⟨by simp, HG9.out⟩
    · go_wp2_with fail
      go_ret
      exact ⟨by simp, HG9.out⟩
    · have HBD := hid hbd
      clear hbd
      go_upto_region 21 with fail
      have hz : ∀ (m v : Nat), (m = 0 ∨ v ≤ bd) → ((m : Int) == 0) = true ∨ (((m : Int) == 0) = false ∧ (v : Int) ≤ bd) := fun m v h => by
        by_cases h0 : m = 0
        · exact Or.inl (by simp [h0])
        · exact Or.inr ⟨by simp [h0], by omega⟩
      have y1 := hz _ _ HBD.out.1
      have y2 := hz _ _ HBD.out.2.1
      have y3 := hz _ _ HBD.out.2.2
      clear hz HBD w1 w2 w3 n1 n2 n3
      rcases y1 with y1 | ⟨y1, l1⟩ <;> rcases y2 with y2 | ⟨y2, l2⟩ <;> rcases y3 with y3 | ⟨y3, l3⟩
      all_goals
        go_wp2_with fail
        go_ret
        exact ⟨by simp, HG9.out⟩
    · rw [hte] at heqP
      go_wp2_with fail
      go_ret
      exact ⟨by simp, HG9.out⟩
  · have e2 : v2 = .nilIface := by
      rcases H2.out.2 with h | h
      · exact absurd h.1 h0
      · exact h.2
    have e3 : v3 = .nilIface := by
      rcases H3.out.2 with h | h
      · exact absurd h.1 h0
      · exact h.2
    subst e2 e3
    obtain ⟨q, hq⟩ : ∃ q, q = newE x.kind l := ⟨_, rfl⟩
    rw [← hq]
    have hq0 : (q == 0) = false := by rw [hq]; simpa using h0
    have hq1 : (q != 0) = true := by rw [bne, hq0]; rfl
    have HB4 : Hid (Below w.heap.size w w3) := HG.out.trans (HB3.out.mono HG.out.size)
    clear hq h0 HWY HMt HN H2 H3 HTR HB2
    go_upto_region 5 with fail
    go_quiet (fail)
    go_wp2_with fail
    go_ret
    exact ⟨rfl, HB4.out.trans (((Gr.refl w3).drewN nq).below.mono HB4.out.size)⟩
end Go.Proofs.Ytpnjpdnjapfjlaa.Cd
