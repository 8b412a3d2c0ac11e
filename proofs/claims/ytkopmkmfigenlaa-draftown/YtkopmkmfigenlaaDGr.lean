import Derived.Test.YtkopmkmfigenlaaDNods
import Derived.Test.YtkopmkmfigenlaaDCatch
namespace Go.Proofs.Ytkopmkmfigenlaa.Df
open Go.RowKit Go.Sort Wi
attribute [local go_sem ↓] Go.wp_at_zero Go.wp_at_succ

/-- Reading a whole graph: nothing may be left. -/
def pget : Pa Gph := fun L a => match pgph L a with
  | .inl e => .inl e
  | .inr x => if x.2 < L.length then .inl (32, x.2) else .inr x
theorem get_eq (L : List UInt8) : get L = match pget L 0 with
  | .inl e => (none', e.1, e.2)
  | .inr x => (x.1, 0, 0) := by
  unfold get pget
  cases pgph L 0 with
  | inl e => rfl
  | inr x =>
    dsimp only
    split <;> rfl
/-- A graph that is read: its lists. -/
structure GO (base : Nat) (w : World) (nv ev : Value) (xs : List NV) (es : List Edg) : Prop where
  nodes : NL base w nv xs
  edges : VL ED 69 base w ev es
  apart : ∀ k ∈ nv.ownBlock.toList ++ xs.flatMap NV.bs, ev.ownBlock ≠ some k
abbrev gvc (a : Int) (nv ev : Value) : Array Value := #[.int .i64 a, nv, ev]
def VG (base : Nat) (w : World) (u : Value) (g : Gph) : Prop := ∃ nv ev xs, u = .agg (gvc g.arity nv ev) ∧ xs.map NV.n = g.nodes ∧ GO base w nv ev xs g.edges
theorem NL.far {B j : Nat} {w w' : World} {u : Value} {xs : List NV} (h : NL B w u xs) (hk : Kp (fun k => k = j) w w') (hj : j < B) : NL B w' u xs := h.kp hk (fun k hk e => by have := (h.lt k hk).1; omega)
theorem GO.kp {base : Nat} {S : Nat → Prop} {w w' : World} {nv ev : Value} {xs : List NV} {es : List Edg} (h : GO base w nv ev xs es) (hk : Kp S w w') (hS : ∀ k, base ≤ k → ¬ S k) : GO base w' nv ev xs es :=
  ⟨h.nodes.kp hk (fun k hk => hS k (h.nodes.lt k hk).1), owns_kp hk h.edges (fun k hk => hS k (owns_rd h.edges k hk).1), h.apart⟩
theorem GO.base {b b' : Nat} {w : World} {nv ev : Value} {xs : List NV} {es : List Edg} (h : GO b w nv ev xs es) (hb : b' ≤ b) : GO b' w nv ev xs es := ⟨h.nodes.base hb, owns_base h.edges hb, h.apart⟩
/-- What stands while a graph is read. -/
structure Gf (w W : World) (rb : Nat) (v : Value) (L : List UInt8) (b : Nat) (cs : Array Value) : Prop where
  rd : Rd W rb v L b 0
  kp : Kp (fun k => k = rb) w W
  ht : W.heap[w.heap.size]? = some (.cells #[.pointer (some ⟨rb, 0, none⟩)] 73 (0, 0))
  hr : W.heap[w.heap.size + 1]? = some (.cells (gvc 0 (.slice none 0 0) (.slice none 0 0)) 25 (0, 0))
  hn : W.heap[w.heap.size + 2]? = some (.cells cs 25 (0, 0))
  old : rb < w.heap.size ∧ ∀ k, v.ownBlock = some k → k < w.heap.size
section
variable {w W W' : World} {rb b : Nat} {v : Value} {L : List UInt8} {cs : Array Value}
theorem Gf.set (h : Gf w W rb v L b cs) (i : Nat) (x : Value) : Gf w (W.setCell ⟨w.heap.size + 2, i, none⟩ x) rb v L b (cs.setIfInBounds i x) := by
  obtain ⟨h1, h2⟩ := tk_set h.hn i x
  have h4 := h.old.1
  exact ⟨h.rd.kp h2 (by omega) (fun k hk e => by have := h.old.2 k hk; omega), h.kp.trans h2 (fun j hj e => by omega), (h2.block _ (tk_lt h.ht) (by omega)).trans h.ht, (h2.block _ (tk_lt h.hr) (by omega)).trans h.hr, h1, h.old⟩
theorem Gf.set0 {a : Int} {n e : Value} (h : Gf w W rb v L b (gvc a n e)) (x : Int) : Gf w (W.setCell ⟨w.heap.size + 2, 0, none⟩ (.int .i64 x)) rb v L b (gvc x n e) := h.set 0 _
theorem Gf.set1 {a : Int} {n e : Value} (h : Gf w W rb v L b (gvc a n e)) (x : Value) : Gf w (W.setCell ⟨w.heap.size + 2, 1, none⟩ x) rb v L b (gvc a x e) := h.set 1 _
theorem Gf.set2 {a : Int} {n e : Value} (h : Gf w W rb v L b (gvc a n e)) (x : Value) : Gf w (W.setCell ⟨w.heap.size + 2, 2, none⟩ x) rb v L b (gvc a n x) := h.set 2 _
theorem Gf.call (h : Gf w W rb v L b cs) {b' : Nat} (hr : Rd W' rb v L b' 0) (hk : Kp (fun k => k = rb) W W') : Gf w W' rb v L b' cs := by
  have h4 := h.old.1
  exact ⟨hr, h.kp.trans hk (fun j hj e => e), (hk.block _ (tk_lt h.ht) (by omega)).trans h.ht, (hk.block _ (tk_lt h.hr) (by omega)).trans h.hr, (hk.block _ (tk_lt h.hn) (by omega)).trans h.hn, h.old⟩
theorem Gf.facts (h : Gf w W rb v L b cs) : (W.cell? ⟨w.heap.size, 0, none⟩ = some (.pointer (some ⟨rb, 0, none⟩)) ∧ w.heap.size < W.heap.size) ∧ ((∀ i, W.cell? ⟨w.heap.size + 2, i, none⟩ = cs[i]?) ∧ (∀ i, W.frozen? ⟨w.heap.size + 2, i, none⟩ = false) ∧ w.heap.size + 2 < W.heap.size) ∧ ((∀ i, W.cell? ⟨w.heap.size + 1, i, none⟩ = (gvc 0 (.slice none 0 0) (.slice none 0 0))[i]?) ∧ (∀ i, W.frozen? ⟨w.heap.size + 1, i, none⟩ = false) ∧ w.heap.size + 1 < W.heap.size) :=
  ⟨⟨tk_cell h.ht, tk_lt h.ht⟩, ⟨(tk_store h.hn).1, (tk_store h.hn).2, tk_lt h.hn⟩, ⟨(tk_store h.hr).1, (tk_store h.hr).2, tk_lt h.hr⟩⟩
theorem Gf.end (h : Gf w W rb v L b cs) (hk : Kp (fun k => k = w.heap.size + 1) W W') : Rd W' rb v L b 0 ∧ Kp (fun k => k = rb) w W' := by
  have h4 := h.old.1
  exact ⟨h.rd.kp hk (by omega) (fun k hk e => by have := h.old.2 k hk; omega), h.kp.trans hk (fun j hj e => by omega)⟩
end
theorem new3 (w : World) (o1 o2 o3 : Obj) : (((w.alloc o1).alloc o2).alloc o3).heap[w.heap.size]? = some o1 ∧ (((w.alloc o1).alloc o2).alloc o3).heap[w.heap.size + 1]? = some o2 ∧ (((w.alloc o1).alloc o2).alloc o3).heap[w.heap.size + 2]? = some o3 := by
  have g3 := ((Gr.refl ((w.alloc o1).alloc o2)).alloc o3).below
  refine ⟨?_, ?_, ?_⟩
  · rw [g3.block w.heap.size (by simp; omega)]
    exact new1 w o1 o2
  · rw [g3.block (w.heap.size + 1) (by simp)]
    exact new2 w o1 o2
  · have h := heap_new' ((w.alloc o1).alloc o2) o3
    rwa [show ((w.alloc o1).alloc o2).heap.size = w.heap.size + 2 by simp] at h
theorem fill3 {w : World} {b : Nat} {t : TypeId} {z0 z1 z2 : Value} (h : w.heap[b]? = some (.cells #[z0, z1, z2] t (0, 0))) (x0 x1 x2 : Value) : (((w.setCell ⟨b, 0, none⟩ x0).setCell ⟨b, 1, none⟩ x1).setCell ⟨b, 2, none⟩ x2).heap[b]? = some (.cells #[x0, x1, x2] t (0, 0)) ∧ Kp (fun k => k = b) w (((w.setCell ⟨b, 0, none⟩ x0).setCell ⟨b, 1, none⟩ x1).setCell ⟨b, 2, none⟩ x2) := by
  have s0 : (w.setCell ⟨b, 0, none⟩ x0).heap[b]? = some (.cells #[x0, z1, z2] t (0, 0)) ∧ Kp (fun k => k = b) w (w.setCell ⟨b, 0, none⟩ x0) := tk_set h 0 x0
  have s1 : ((w.setCell ⟨b, 0, none⟩ x0).setCell ⟨b, 1, none⟩ x1).heap[b]? = some (.cells #[x0, x1, z2] t (0, 0)) ∧ Kp (fun k => k = b) (w.setCell ⟨b, 0, none⟩ x0) ((w.setCell ⟨b, 0, none⟩ x0).setCell ⟨b, 1, none⟩ x1) := tk_set s0.1 1 x1
  have s2 := tk_set s1.1 2 x2
  exact ⟨s2.1, (s0.2.trans s1.2 (fun _ _ h => h)).trans s2.2 (fun _ _ h => h)⟩
set_option maxHeartbeats 4000000 in
theorem tgraph_any {rb a : Nat} {v : Value} {L : List UInt8} (w : World) (hR : Rd w rb v L a 0) : Calls Try.prog 27 #[tv rb] w (Tk pget (VG w.heap.size) rb v L a w) := by
  have hmf : ∀ (fn : Fn) (first cap : Array Value) (w : World), (Instr.makeFunc fn first cap).run Try.prog w = .ok (.func fn first cap) w := fun _ _ _ _ => rfl
  have F0 : Hid (Gf w (((w.alloc (.cells #[.pointer (some ⟨rb, 0, none⟩)] 73)).alloc (.cells #[.int .i64 0, .slice none 0 0, .slice none 0 0] 25)).alloc (.cells #[.int .i64 0, .slice none 0 0, .slice none 0 0] 25)) rb v L a (gvc 0 (.slice none 0 0) (.slice none 0 0))) := by
    have h3 := new3 w (.cells #[.pointer (some ⟨rb, 0, none⟩)] 73) (.cells #[.int .i64 0, .slice none 0 0, .slice none 0 0] 25) (.cells #[.int .i64 0, .slice none 0 0, .slice none 0 0] 25)
    have hg := (((Gr.refl w).alloc (.cells #[.pointer (some ⟨rb, 0, none⟩)] 73)).alloc (.cells #[.int .i64 0, .slice none 0 0, .slice none 0 0] 25)).alloc (.cells #[.int .i64 0, .slice none 0 0, .slice none 0 0] 25)
    exact ⟨hR.gr hg, Kp.of_gr hg, h3.1, h3.2.1, h3.2.2, hR.lt, hR.ls.blk⟩
  have hle := hR.le
  have hrb := hR.lt
  clear hR
  go_enter Try.func27, Try.ntmps27
  go_wp2_with fail
  refine (tint_any _ F0.out.rd).mono ?_
  intro r w4 h4
  cases e4 : int L a with
  | inl x =>
    obtain ⟨rfl, kk⟩ := h4.bad e4
    go_wp2_with fail
    exact ⟨rfl, Tk.no (by simp only [pget, pgph, Pa.map, Pa.and, Pa.bind, e4]) (F0.out.kp.trans kk (fun _ _ h => h))⟩
  | inr x4 =>
    obtain ⟨u, rfl, rfl, r4, kk⟩ := h4.good e4
    have F4 := hid (F0.out.call r4 kk)
    clear F0 h4 kk r4
    obtain ⟨⟨c0, l0⟩, ⟨cn, fn, ln⟩, ⟨cr, fr, lr⟩⟩ := F4.out.facts
    go_wp2_with fail
    have F5 := hid (F4.out.set0 x4.1)
    clear F4 c0 l0 cn fn ln cr fr lr
    refine (tnodel_any 24 (by decide) _ F5.out.rd).mono ?_
    intro r w6 h6
    cases e6 : lst 24 pnod L x4.2 with
    | inl x =>
      obtain ⟨rfl, kk⟩ := h6.bad e6
      go_wp2_with fail
      exact ⟨rfl, Tk.no (by simp only [pget, pgph, Pa.map, Pa.and, Pa.bind, e4, e6]) (F5.out.kp.trans kk (fun _ _ h => h))⟩
    | inr x6 =>
      obtain ⟨u, rfl, ⟨xs, hxs, nl⟩, r6, kk⟩ := h6.good e6
      obtain ⟨q6, m6, c6, rfl⟩ := owns_form nl.row
      obtain ⟨B, hB, hB2, nl⟩ : ∃ B, w.heap.size + 2 < B ∧ B ≤ w6.heap.size ∧ NL B w6 (.slice q6 m6 c6) xs := ⟨_, tk_lt F5.out.hn, kk.size, nl⟩
      have F6 := hid (F5.out.call r6 kk)
      have N6 := hid nl
      clear F5 h6 kk r6 nl
      obtain ⟨⟨c0, l0⟩, ⟨cn, fn, ln⟩, ⟨cr, fr, lr⟩⟩ := F6.out.facts
      go_wp2_with fail
      have N7 := hid (N6.out.far (tk_set F6.out.hn 1 (.slice q6 m6 c6)).2 hB)
      have S7 := hid (Nat.le_trans hB2 (tk_set F6.out.hn 1 (.slice q6 m6 c6)).2.size)
      have F7 := hid (F6.out.set1 (.slice q6 m6 c6))
      clear F6 N6 c0 l0 cn fn ln cr fr lr
      refine (tedgel_any 48 (by decide) _ F7.out.rd).mono ?_
      intro r w8 h8
      cases e8 : lst 48 pedg L x6.2 with
      | inl x =>
        obtain ⟨rfl, kk⟩ := h8.bad e8
        go_wp2_with fail
        exact ⟨rfl, Tk.no (by simp only [pget, pgph, Pa.map, Pa.and, Pa.bind, e4, e6, e8]) (F7.out.kp.trans kk (fun _ _ h => h))⟩
      | inr x8 =>
        obtain ⟨u, rfl, ev, r8, kk⟩ := h8.good e8
        obtain ⟨q8, m8, c8, rfl⟩ := owns_form ev
        have N8 := N7.out.far kk (by omega)
        have G8 : Hid (GO B w8 (.slice q6 m6 c6) (.slice q8 m8 c8) xs x8.1) := by
          have hlt := N7.out.lt
          refine ⟨N8, owns_base ev S7.out, fun k hk e => ?_⟩
          have h1 := (owns_rd ev k e).1
          have h2 := (hlt k hk).2
          omega
        have F8 := hid (F7.out.call r8 kk)
        clear F7 N7 N8 h8 kk r8 ev
        obtain ⟨⟨c0, l0⟩, ⟨cn, fn, ln⟩, ⟨cr, fr, lr⟩⟩ := F8.out.facts
        go_wp2_with fail
        have G9 := hid (G8.out.kp (tk_set F8.out.hn 2 (.slice q8 m8 c8)).2 (fun k hk e => by omega))
        have F9 := hid (F8.out.set2 (.slice q8 m8 c8))
        clear F8 G8 c0 l0 cn fn ln cr fr lr
        refine (rend_any _ F9.out.rd).mono ?_
        rintro r w10 ⟨rfl, h10, k10⟩
        have hle8 := F9.out.rd.le
        by_cases hr : x8.2 < L.length
        · have e32 : re1 0 (L.drop x8.2) = 32 := by
            unfold re1
            rw [if_pos rfl, if_neg (by rw [List.length_drop]; omega)]
          rw [e32] at h10
          have ht := (k10.block _ (tk_lt F9.out.ht) (by omega)).trans F9.out.ht
          have c0 := tk_cell ht
          have l0 := tk_lt ht
          have hlo := look_bad w10 (by decide) h10
          have K10 := hid (F9.out.kp.trans k10 (fun _ _ h => h))
          clear F9 G9 h10 k10 ht
          go_wp2_with (go_at_call 51; refine hlo.mono ?_; rintro r w11 ⟨rfl, g11⟩; have G11 := hid g11; clear g11)
          exact ⟨rfl, Tk.no (by simp only [pget, pgph, Pa.map, Pa.and, Pa.bind, e4, e6, e8, hr, if_true]) (kp_gr K10.out G11.out)⟩
        · have e32 : re1 0 (L.drop x8.2) = 0 := by
            unfold re1
            rw [if_pos rfl, if_pos (by rw [List.length_drop]; omega)]
          rw [e32] at h10
          have hlo := look_ok w10 h10
          have F10 := hid (F9.out.call h10 k10)
          have G10 := hid (G9.out.kp k10 (fun k hk e => by omega))
          clear F9 G9 h10 k10
          obtain ⟨⟨c0, l0⟩, ⟨cn, fn, ln⟩, ⟨cr, fr, lr⟩⟩ := F10.out.facts
          go_wp2_with fail
          go_at_call 51
          refine hlo.mono ?_
          rintro r w11 ⟨rfl, g11⟩
          have F11 := hid (F10.out.call (F10.out.rd.gr g11) (Kp.of_gr g11))
          have G11 := hid (G10.out.kp (Kp.of_gr (S := fun _ => False) g11) (fun _ _ h => h))
          clear F10 G10 g11 c0 l0 cn fn ln cr fr lr
          obtain ⟨⟨c0, l0⟩, ⟨cn, fn, ln⟩, ⟨cr, fr, lr⟩⟩ := F11.out.facts
          go_wp2_with fail
          obtain ⟨wf, hwf⟩ : ∃ wf, wf = (((w11.setCell ⟨w.heap.size + 1, 0, none⟩ (.int .i64 x4.1)).setCell ⟨w.heap.size + 1, 1, none⟩ (.slice q6 m6 c6)).setCell ⟨w.heap.size + 1, 2, none⟩ (.slice q8 m8 c8)) := ⟨_, rfl⟩
          rw [← hwf]
          obtain ⟨hbf, hkf⟩ : wf.heap[w.heap.size + 1]? = some (.cells #[.int .i64 x4.1, .slice q6 m6 c6, .slice q8 m8 c8] 25 (0, 0)) ∧ Kp (fun k => k = w.heap.size + 1) w11 wf := by
            rw [hwf]
            exact fill3 F11.out.hr _ _ _
          clear hwf
          obtain ⟨qf, -⟩ := tk_store hbf
          have hlf := tk_lt hbf
          have he := F11.out.end hkf
          refine bodyPost_ret (v := .agg #[.int .i64 x4.1, .slice q6 m6 c6, .slice q8 m8 c8]) (by simp [results, Try.results27, go_sem, qf]) rfl ?_
          exact Tk.yes (x := ⟨x4.1, x6.1, x8.1⟩) (by simp only [pget, pgph, Pa.map, Pa.and, Pa.bind, e4, e6, e8, hr, if_false]) he.2 he.1 ⟨_, _, xs, rfl, hxs, (G11.out.kp hkf (fun k hk e => by omega)).base (by omega)⟩
end Go.Proofs.Ytkopmkmfigenlaa.Df
