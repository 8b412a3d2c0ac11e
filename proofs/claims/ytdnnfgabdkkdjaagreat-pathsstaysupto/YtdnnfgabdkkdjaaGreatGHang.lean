import Derived.Test.YtdnnfgabdkkdjaaGreatGAsk
namespace Go.Proofs.YtdnnfgabdkkdjaaGreat.Df
open Go.RowKit Go.Sort
attribute [local go_sem ↓] Go.wp_at_zero Go.wp_at_succ
structure Hg (B : Nat) (w : World) (gb : Nat) (a : Int) (nv ev fv pv : Value) (ns : List Nod) (ss : List SV) (L : Nat → List Int) : Prop where
 blk : w.heap[gb]? = some (.cells (gcells a nv ev fv pv) 110 (0, 0))
 fr : w.ownsRow B 3 1 fv (firsts ns ns.length).length (fl EI (firsts ns ns.length))
 sp : w.ownsRow B 141 4 pv ss.length (fl ES ss)
 len : ss.length = (spotsU ns ns.length).length
 shape : ∀ (k : Nat) (s : SV), ss[k]? = some s → (spotsU ns ns.length)[k]? = some (s.nd.toNat, s.pt.toNat, s.inn) ∧ 0 ≤ s.nd ∧ 0 ≤ s.pt
 each : ∀ (k : Nat) (s : SV), ss[k]? = some s → w.ownsRow B 3 1 s.ev (L k).length (fl EI (L k))
 apart : ∀ (k : Nat) (s : SV), ss[k]? = some s → ∀ b, s.ev.ownBlock = some b → fv.ownBlock ≠ some b ∧ ∀ (k' : Nat) (s' : SV), ss[k']? = some s' → s'.ev.ownBlock = some b → k' = k
theorem fl_setE {α : Type} (E : El α) (zs : List α) (i k : Nat) (y y' : α) (u : Value) (hi : zs[i]? = some y) (hk : k < E.k) (he : (E.enc y).set k u = E.enc y') : (fl E zs).set (i * E.k + k) u = fl E (zs.set i y') := by
 induction zs generalizing i with
 | nil => simp at hi
 | cons z zs ih =>
  rw [fl_cons]
  cases i with
  | zero =>
   simp at hi
   subst hi
   rw [List.set_cons_zero, fl_cons, ← he, Nat.zero_mul, Nat.zero_add, List.set_append_left _ _ (by rw [E.len]; exact hk)]
  | succ i =>
   have e1 : (i + 1) * E.k + k = E.k + (i * E.k + k) := by rw [Nat.succ_mul]; omega
   rw [List.set_cons_succ, fl_cons, ← ih i (by simpa using hi), e1, List.set_append_right _ _ (by rw [E.len]; omega), E.len, Nat.add_sub_cancel_left]
theorem Hg.below {B gb : Nat} {w w' : World} {a : Int} {nv ev fv pv : Value} {ns : List Nod} {ss : List SV} {L : Nat → List Int} (h : Hg B w gb a nv ev fv pv ns ss L) (hb : Below w.heap.size w w') : Hg B w' gb a nv ev fv pv ns ss L :=
 ⟨(hb.block _ (tk_lt h.blk)).trans h.blk, owns_below h.fr hb, owns_below h.sp hb, h.len, h.shape, fun k s hk => owns_below (h.each k s hk) hb, h.apart⟩
theorem Hg.re {B gb : Nat} {w : World} {a : Int} {nv ev fv pv : Value} {ns : List Nod} {ss : List SV} {L L' : Nat → List Int} (h : Hg B w gb a nv ev fv pv ns ss L) (hL : ∀ k, k < ss.length → L k = L' k) : Hg B w gb a nv ev fv pv ns ss L' :=
 ⟨h.blk, h.fr, h.sp, h.len, h.shape, fun k s hk => by rw [← hL k (List.getElem?_eq_some_iff.1 hk).1]; exact h.each k s hk, h.apart⟩
def SV.withEv (s : SV) (g n c : Nat) : SV := { s with q := some ⟨g, 0, none⟩, m := n, c := c }
theorem Hg.step {B gb : Nat} {w w1 : World} {a : Int} {nv ev fv pv : Value} {ns : List Nod} {ss : List SV} {L : Nat → List Int} (h : Hg B w gb a nv ev fv pv ns ss L) (hB : gb < B) {k pb pc g cap : Nat} {s : SV} (hk : ss[k]? = some s) (hpv : pv = .slice (some ⟨pb, 0, none⟩) ss.length pc) {x : Int}
    (h1 : w1.ownsRow B 3 1 (.slice (some ⟨g, 0, none⟩) ((L k).length + 1) cap) ((L k).length + 1) (fl EI (L k) ++ EI.enc x)) (h2 : w.grownBy w1 s.ev.ownBlock) (h3 : s.ev.ownBlock = some g ∨ w.heap.size ≤ g) :
    Hg B (w1.setCell ⟨pb, k * 4 + 3, none⟩ (.slice (some ⟨g, 0, none⟩) ((L k).length + 1) cap)) gb a nv ev fv pv ns (ss.set k (s.withEv g ((L k).length + 1) cap)) (fun j => if j = k then L k ++ [x] else L j) ∧ Kp (fun j => B ≤ j) w (w1.setCell ⟨pb, k * 4 + 3, none⟩ (.slice (some ⟨g, 0, none⟩) ((L k).length + 1) cap)) := by
 have hks := (List.getElem?_eq_some_iff.1 hk).1
 have K2 := Kp.grownBy (S := fun j => s.ev.ownBlock = some j) h2 (fun _ h => h)
 have sp1 := owns_kp K2 h.sp (fun j e e2 => owns_ne_own h.sp (h.each k s hk) (by decide) j e e2)
 have sp2 := sp1
 rw [hpv] at sp2
 obtain ⟨so, sk⟩ := owns_one sp2 (k * 4 + 3) (.slice (some ⟨g, 0, none⟩) ((L k).length + 1) cap)
 have hpb : pv.ownBlock = some pb := by rw [hpv]; rfl
 have hlow : ∀ j, s.ev.ownBlock = some j → B ≤ j := fun j e => (owns_rd (h.each k s hk) j e).1
 have ne2 : ∀ {n : Nat} {v : Value} {vs : List Value}, w1.ownsRow B 3 1 v n vs → (w1.setCell ⟨pb, k * 4 + 3, none⟩ (.slice (some ⟨g, 0, none⟩) ((L k).length + 1) cap)).ownsRow B 3 1 v n vs := fun o => owns_kp sk o (fun j e e2 => owns_ne_own o sp1 (by decide) j e (by rw [e2]; exact hpb))
 have get : ∀ (j : Nat) (s' : SV), (ss.set k (s.withEv g ((L k).length + 1) cap))[j]? = some s' → (j = k ∧ s' = s.withEv g ((L k).length + 1) cap) ∨ (j ≠ k ∧ ss[j]? = some s') := fun j s' hj => by
  rw [List.getElem?_set] at hj
  by_cases e : k = j
  ·subst e
   rw [if_pos rfl, if_pos hks] at hj
   exact Or.inl ⟨rfl, (Option.some.inj hj).symm⟩
  ·rw [if_neg e] at hj
   exact Or.inr ⟨fun e2 => e e2.symm, hj⟩
 have fvlt : ∀ b, fv.ownBlock = some b → b < w.heap.size := fun b e => (owns_rd h.fr b e).2
 have evlt : ∀ (j : Nat) (s' : SV), ss[j]? = some s' → ∀ b, s'.ev.ownBlock = some b → b < w.heap.size := fun j s' hj b e => (owns_rd (h.each j s' hj) b e).2
 refine ⟨⟨?_, ?_, ?_, ?_, ?_, ?_, ?_⟩, ?_⟩
 ·exact (sk.block _ (Nat.lt_of_lt_of_le (tk_lt h.blk) K2.size) (fun e => owns_ne_blk h.sp h.blk (by decide) pb hpb e.symm)).trans ((K2.block _ (tk_lt h.blk) (fun e => by have := hlow _ e; omega)).trans h.blk)
 ·exact ne2 (owns_kp K2 h.fr (fun j e e2 => (h.apart k s hk j e2).1 e))
 ·rw [hpv]
  refine owns_re so (by simp) ?_
  exact fl_setE ES ss k 3 s _ _ hk (by decide) rfl
 ·simp [h.len]
 ·intro j s' hj
  rcases get j s' hj with ⟨rfl, rfl⟩ | ⟨_, hj⟩
  ·exact h.shape j s hk
  ·exact h.shape j s' hj
 ·intro j s' hj
  rcases get j s' hj with ⟨rfl, rfl⟩ | ⟨hne, hj⟩
  ·simp only [if_true]
   exact owns_re (ne2 h1) (by simp) (by rw [fl_append, fl_one])
  ·simp only [if_neg hne]
   exact ne2 (owns_kp K2 (h.each j s' hj) (fun b e e2 => hne ((h.apart k s hk b e2).2 j s' hj e)))
 ·intro j s' hj b hb
  rcases get j s' hj with ⟨rfl, rfl⟩ | ⟨hne, hj2⟩
  ·obtain rfl : g = b := by simpa [SV.withEv, Value.ownBlock] using hb
   refine ⟨fun e => ?_, fun k' s' hk' e => ?_⟩
   ·rcases h3 with h3 | h3
    ·exact (h.apart j s hk g h3).1 e
    ·have := fvlt g e; omega
   ·rcases get k' s' hk' with ⟨rfl, _⟩ | ⟨hne', hk'⟩
    ·rfl
    ·rcases h3 with h3 | h3
     ·exact (h.apart j s hk g h3).2 k' s' hk' e
     ·have := evlt k' s' hk' g e; omega
  ·refine ⟨(h.apart j s' hj2 b hb).1, fun k' t hk' e => ?_⟩
   rcases get k' t hk' with ⟨rfl, rfl⟩ | ⟨_, hk2⟩
   ·obtain rfl : g = b := by simpa [SV.withEv, Value.ownBlock] using e
    rcases h3 with h3 | h3
    ·exact (h.apart j s' hj2 g hb).2 k' s hk h3
    ·have := evlt j s' hj2 g hb; omega
   ·exact (h.apart j s' hj2 b hb).2 k' t hk2 e
 ·exact (K2.mono (T := fun j => B ≤ j) hlow).trans sk (fun j _ e => by rw [e]; exact (owns_rd h.sp pb hpb).1)
def midL (ns : List Nod) (es : List Edg) (d : Edg) (i p k : Nat) : List Int := edgesU ns es k i ++ (if 1 ≤ p ∧ k = outPl ns d then [(i : Int)] else []) ++ (if 2 ≤ p ∧ k = inPl ns d then [(i : Int)] else [])
theorem midL_done {ns : List Nod} {es : List Edg} {d : Edg} {i : Nat} (hi : es[i]? = some d) (hne : outPl ns d ≠ inPl ns d) (k : Nat) : midL ns es d i 2 k = edgesU ns es k (i + 1) := by
 rw [edgesU, hi]
 unfold midL
 by_cases h1 : k = outPl ns d
 ·subst h1
  simp [hne]
 ·by_cases h2 : k = inPl ns d
  ·subst h2
   simp [h1]
  ·have h1' : ¬ outPl ns d = k := fun e => h1 e.symm
   have h2' : ¬ inPl ns d = k := fun e => h2 e.symm
   simp [h1, h2, h1', h2']
theorem midL_len (ns : List Nod) (es : List Edg) (d : Edg) (i p k : Nat) : (midL ns es d i p k).length ≤ i + 2 := by
 unfold midL
 have := edgesU_length ns es k i
 simp only [List.length_append]
 have h1 : (if 1 ≤ p ∧ k = outPl ns d then [(i : Int)] else []).length ≤ 1 := by split <;> simp
 have h2 : (if 2 ≤ p ∧ k = inPl ns d then [(i : Int)] else []).length ≤ 1 := by split <;> simp
 omega
theorem outN_pl {ns : List Nod} {d : Edg} (h : hasON ns d.src d.out = true) (hp : Pok ns) : outN ns d.src d.out = (outPl ns d : Nat) := by
 obtain ⟨n, hn, h0, _, h1, _⟩ := has_out h
 have := hp n (List.mem_of_getElem? hn)
 unfold outN outPl
 rw [if_pos h, hn]
 push_cast
 omega
theorem inN_pl {ns : List Nod} {d : Edg} (h : hasIN ns d.dst d.inn = true) : inN ns d.dst d.inn = (inPl ns d : Nat) := by
 obtain ⟨n, hn, h0, _, h1, _⟩ := has_in h
 unfold inN inPl
 rw [if_pos h]
 push_cast
 omega
def Hung (B : Nat) (w : World) (gb : Nat) (a : Int) (nv ev fv pv : Value) (ns : List Nod) (es : List Edg) (n : Nat) (r : Ending) (w' : World) : Prop := r = .returned (.tuple #[]) ∧ ∃ ss', Hg B w' gb a nv ev fv pv ns ss' (fun k => edgesU ns es k n) ∧ Kp (fun k => B ≤ k) w w'
theorem run_idx0 (x y : Int) (W : World) : Sem.run Tryz.prog (Instr.index 143 (.agg #[.int .i64 x, .int .i64 y]) (.int .i64 0)) W = .ok (.int .i64 x) W := by
 unfold Instr.index
 go_simp
theorem run_idx1 (x y : Int) (W : World) : Sem.run Tryz.prog (Instr.index 143 (.agg #[.int .i64 x, .int .i64 y]) (.int .i64 1)) W = .ok (.int .i64 y) W := by
 unfold Instr.index
 go_simp
set_option maxRecDepth 100000 in
set_option maxHeartbeats 8000000 in
theorem hang_any {B gb M : Nat} {a : Int} {nv ev fv pv : Value} {xs : List NV} {es : List Edg} {ss : List SV} (w : World) (hH : Hg B w gb a nv ev fv pv (xs.map NV.n) ss (fun _ => [])) (hgb : gb < B) (hBw : B ≤ w.heap.size) (hMB : M ≤ B) (hN : Lz EV M w nv xs) (hE : Lz ED M w ev es) (hOK : Gok (gof a xs es)) : Calls Tryz.prog 56 #[.pointer (some ⟨gb, 0, none⟩)] w (Hung B w gb a nv ev fv pv (xs.map NV.n) es es.length) := by
 have hmx : Tryz.prog.follows .mixedOrders = true := by kernel_rfl
 obtain ⟨qn, cn, hnv⟩ := hN.form
 obtain ⟨qe, ce, hev⟩ := hE.form
 obtain ⟨fq, fm, fc, hfv⟩ := owns_form hH.fr
 obtain ⟨pq, pm, pc, hpv⟩ := owns_form hH.sp
 obtain ⟨el, hel⟩ : ∃ n, n = es.length := ⟨_, rfl⟩
 rw [← hel] at hev ⊢
 generalize hnl : xs.length = nl at hnv
 clear hnl
 subst hnv
 subst hev
 subst hfv
 subst hpv
 obtain ⟨ns, hns⟩ : ∃ ns, ns = xs.map NV.n := ⟨_, rfl⟩
 rw [← hns] at hH ⊢
 have HOK := hid hOK
 have HNS := hid hns
 have HEL := hid hel
 have h48 : el ≤ 48 := by rw [hel]; exact hOK.el
 have HKN : Hid (∀ W, Kp (fun k => B ≤ k) w W → Lz EV W.heap.size W (.slice qn nl cn) xs) := fun W hk => by
  rcases hN with ⟨h, hm⟩ | h
  ·exact Or.inl ⟨hk.ls h (fun k e e2 => by have := hm k e; omega), fun k e => Nat.lt_of_lt_of_le (h.blk k e) hk.size⟩
  ·exact Or.inr h
 have HKE : Hid (∀ W, Kp (fun k => B ≤ k) w W → Lz ED W.heap.size W (.slice qe el ce) es) := fun W hk => by
  rcases hE with ⟨h, hm⟩ | h
  ·exact Or.inl ⟨hk.ls h (fun k e e2 => by have := hm k e; omega), fun k e => Nat.lt_of_lt_of_le (h.blk k e) hk.size⟩
  ·exact Or.inr h
 have HGB := hid (And.intro hgb hBw)
 have HH := hid hH
 have c0 := (tk_store hH.blk).1
 have l0 := tk_lt hH.blk
 clear hH hN hE hOK hns hel hgb hBw hMB
 go_enter Tryz.func56, Tryz.ntmps56
 go_wp2_with fail
 clear c0 l0
 go_loopw [12] (fun s12 wr => ∃ (i : Nat), i ≤ el ∧ s12 = .int .i64 (i : Nat) ∧ Hid (∃ ss', Hg B wr gb a (.slice qn nl cn) (.slice qe el ce) (.slice fq fm fc) (.slice pq pm pc) ns ss' (fun k => edgesU ns es k i) ∧ Kp (fun k => B ≤ k) w wr)) (fun s12 _ => el - (RowKit.intOf s12).toNat)
 case atStart => exact ⟨0, Nat.zero_le _, rfl, _, HH.out, Kp.refl _ _⟩
 case round =>
  clear HH
  obtain ⟨i, hi, rfl, HI0⟩ := hrel
  by_cases hlt : i < el
  ·obtain ⟨ss1, hI1, hI2⟩ := HI0.out
   have HI : Hid (Hg B wr gb a (.slice qn nl cn) (.slice qe el ce) (.slice fq fm fc) (.slice pq pm pc) ns ss1 (fun k => edgesU ns es k i) ∧ Kp (fun k => B ≤ k) w wr) := ⟨hI1, hI2⟩
   clear hI1 hI2 HI0
   have hltz : (i : Int) < (el : Int) := by omega
   have hi0 : (0 : Int) ≤ (i : Int) := by omega
   obtain ⟨y, hy⟩ : ∃ y, es[i]? = some y := ⟨es[i]'(by have := HEL.out; omega), by simp⟩
   have HY := hid hy
   have HEN : Hid (hasON ns y.src y.out = true ∧ hasIN ns y.dst y.inn = true) := by rw [HNS.out]; exact HOK.out.ends (g := gof a xs es) hy
   obtain ⟨b1, o1, q1, ev1, zz1, x0, x1, x2, x3, x4⟩ := ls_atD ((HKE.out wr HI.out.2).ls hy) hy
   simp only [Value.slice.injEq] at ev1
   obtain ⟨rfl, -, rfl⟩ := ev1
   clear hy
   obtain ⟨yb, hyb⟩ : ∃ b, b = wr.heap.size := ⟨_, rfl⟩
   obtain ⟨W5, hW5⟩ : ∃ W, W = wr.alloc (.cells (ecells y) 94) := ⟨_, rfl⟩
   have P5 : Hid (Hg B W5 gb a (.slice qn nl cn) (.slice (some ⟨b1, o1, none⟩) el ce) (.slice fq fm fc) (.slice pq pm pc) ns ss1 (fun k => edgesU ns es k i) ∧ W5.heap[yb]? = some (.cells (ecells y) 94 (0, 0)) ∧ Kp (fun k => B ≤ k) w W5) := by
    have g5 := ((Gr.refl wr).alloc (.cells (ecells y) 94)).below
    rw [hW5, hyb]
    exact ⟨HI.out.1.below g5, heap_new' _ _, HI.out.2.trans (Kp.of_below g5) (fun _ _ h => h)⟩
   have HW5 : Hid (wr.alloc (.cells #[.int .i64 y.src, .int .i64 y.out, .int .i64 y.dst, .int .i64 y.inn, .bool y.keyed] 94) = W5 ∧ wr.heap.size = yb) := ⟨hW5.symm, hyb.symm⟩
   clear hW5 hyb
   go_upto_region 3 with fail
   rw [HW5.out.1, HW5.out.2]
   clear HW5 x0 x1 x2 x3 x4 zz1
   have G5 : Hid (∀ W, Below W5.heap.size W5 W → Gb W gb a (.slice qn nl cn) (.slice (some ⟨b1, o1, none⟩) el ce) (.slice fq fm fc) (.slice pq pm pc) xs) := fun W hb => by
    have hk := P5.out.2.2.trans (Kp.of_below (S := fun k => B ≤ k) hb) (fun _ _ h => h)
    have hh := P5.out.1.below hb
    refine ⟨hh.blk, HKN.out W hk, ?_, by have := HOK.out.nl; simpa using this, by have := HOK.out.pok; exact this⟩
    have := owns_ls (E := EI) hh.fr
    rw [HNS.out, List.length_map] at this
    exact this
   have hc1 : ∀ W, Below W5.heap.size W5 W → Calls Tryz.prog 83 #[.pointer (some ⟨gb, 0, none⟩), .int .i64 y.src, .int .i64 y.out] W fun r w' => r = .returned (.int .i64 (outPl ns y : Nat)) ∧ Gr W w' := fun W hb => by
    have h := out_any y.src y.out W (G5.out W hb)
    rw [← HNS.out, outN_pl HEN.out.1 (by rw [HNS.out]; exact HOK.out.pok)] at h
    exact h
   have hc2 : ∀ W, Below W5.heap.size W5 W → Calls Tryz.prog 84 #[.pointer (some ⟨gb, 0, none⟩), .int .i64 y.dst, .int .i64 y.inn] W fun r w' => r = .returned (.int .i64 (inPl ns y : Nat)) ∧ w' = W := fun W hb => by
    have h := in_any y.dst y.inn W (G5.out W hb)
    rw [← HNS.out, inN_pl HEN.out.2] at h
    exact h
   obtain ⟨po, hpo⟩ : ∃ n, n = outPl ns y := ⟨_, rfl⟩
   obtain ⟨pi, hpi⟩ : ∃ n, n = inPl ns y := ⟨_, rfl⟩
   rw [← hpo] at hc1
   rw [← hpi] at hc2
   have HPO : Hid (po = outPl ns y ∧ pi = inPl ns y) := ⟨hpo, hpi⟩
   clear hpo hpi
   have hS0 : Below W5.heap.size W5 W5.drew := (Gr.refl W5).drew.below
   refine wp_regionD (S := fun W => Below W5.heap.size W5 W) (D := []) hmx ?_
   refine' wpAnyD_take (i := 0) (oi := ⟨some 17, .move (.tmp 0), 75, "graph.go:53", #[], none⟩) (v := _) rfl (by kernel_rfl) (by kernel_rfl) (by kernel_rfl) (fun _ _ _ h => h) (by kernel_rfl) (Or.inl ⟨by rfl, ?hy1⟩) hS0 ?rest1
   case hy1 => (intro W hSw; go_simp; try (with_reducible rfl))
   try simp only [Act.put, List.setIfInBounds_toArray, List.set_cons_zero, List.set_cons_succ]
   refine' wpAnyD_take (i := 1) (oi := ⟨some 18, .fieldAddr 94 (.tmp 3) 0, 0, "graph.go:53", #[], none⟩) (v := _) rfl (by kernel_rfl) (by kernel_rfl) (by kernel_rfl) (fun _ _ _ h => h) (by kernel_rfl) (Or.inl ⟨by rfl, ?hy2⟩) hS0 ?rest2
   case hy2 => (intro W hSw; go_simp; try (with_reducible rfl))
   try simp only [Act.put, List.setIfInBounds_toArray, List.set_cons_zero, List.set_cons_succ]
   refine' wpAnyD_take (i := 2) (oi := ⟨some 19, .load 3 (.tmp 18), 3, "graph.go:53", #[⟨1, .data⟩], none⟩) (v := _) rfl (by kernel_rfl) (by kernel_rfl) (by kernel_rfl) (fun _ _ _ h => h) (by kernel_rfl) (Or.inl ⟨by rfl, ?hy3⟩) hS0 ?rest3
   case hy3 => (intro W hSw; have hb := (hSw.block _ (tk_lt P5.out.2.1)).trans P5.out.2.1; have hc := (tk_store hb).1; have hl := tk_lt hb; go_simp; try (with_reducible rfl))
   try simp only [Act.put, List.setIfInBounds_toArray, List.set_cons_zero, List.set_cons_succ]
   refine' wpAnyD_take (i := 3) (oi := ⟨some 20, .fieldAddr 94 (.tmp 3) 1, 0, "graph.go:53", #[], none⟩) (v := _) rfl (by kernel_rfl) (by kernel_rfl) (by kernel_rfl) (fun _ _ _ h => h) (by kernel_rfl) (Or.inl ⟨by rfl, ?hy4⟩) hS0 ?rest4
   case hy4 => (intro W hSw; go_simp; try (with_reducible rfl))
   try simp only [Act.put, List.setIfInBounds_toArray, List.set_cons_zero, List.set_cons_succ]
   refine' wpAnyD_take (i := 4) (oi := ⟨some 21, .load 3 (.tmp 20), 3, "graph.go:53", #[⟨3, .data⟩], none⟩) (v := _) rfl (by kernel_rfl) (by kernel_rfl) (by kernel_rfl) (fun _ _ _ h => h) (by kernel_rfl) (Or.inl ⟨by rfl, ?hy5⟩) hS0 ?rest5
   case hy5 => (intro W hSw; have hb := (hSw.block _ (tk_lt P5.out.2.1)).trans P5.out.2.1; have hc := (tk_store hb).1; have hl := tk_lt hb; go_simp; try (with_reducible rfl))
   try simp only [Act.put, List.setIfInBounds_toArray, List.set_cons_zero, List.set_cons_succ]
   refine' wpAnyD_take (i := 6) (oi := ⟨some 23, .move (.tmp 0), 75, "graph.go:53", #[], none⟩) (v := _) rfl (by kernel_rfl) (by kernel_rfl) (by kernel_rfl) (fun _ _ _ h => h) (by kernel_rfl) (Or.inl ⟨by rfl, ?hy6⟩) hS0 ?rest6
   case hy6 => (intro W hSw; go_simp; try (with_reducible rfl))
   try simp only [Act.put, List.setIfInBounds_toArray, List.set_cons_zero, List.set_cons_succ]
   refine' wpAnyD_take (i := 7) (oi := ⟨some 24, .fieldAddr 94 (.tmp 3) 2, 0, "graph.go:53", #[], none⟩) (v := _) rfl (by kernel_rfl) (by kernel_rfl) (by kernel_rfl) (fun _ _ _ h => h) (by kernel_rfl) (Or.inl ⟨by rfl, ?hy7⟩) hS0 ?rest7
   case hy7 => (intro W hSw; go_simp; try (with_reducible rfl))
   try simp only [Act.put, List.setIfInBounds_toArray, List.set_cons_zero, List.set_cons_succ]
   refine' wpAnyD_take (i := 8) (oi := ⟨some 25, .load 3 (.tmp 24), 3, "graph.go:53", #[⟨7, .data⟩], none⟩) (v := _) rfl (by kernel_rfl) (by kernel_rfl) (by kernel_rfl) (fun _ _ _ h => h) (by kernel_rfl) (Or.inl ⟨by rfl, ?hy8⟩) hS0 ?rest8
   case hy8 => (intro W hSw; have hb := (hSw.block _ (tk_lt P5.out.2.1)).trans P5.out.2.1; have hc := (tk_store hb).1; have hl := tk_lt hb; go_simp; try (with_reducible rfl))
   try simp only [Act.put, List.setIfInBounds_toArray, List.set_cons_zero, List.set_cons_succ]
   refine' wpAnyD_take (i := 9) (oi := ⟨some 26, .fieldAddr 94 (.tmp 3) 3, 0, "graph.go:53", #[], none⟩) (v := _) rfl (by kernel_rfl) (by kernel_rfl) (by kernel_rfl) (fun _ _ _ h => h) (by kernel_rfl) (Or.inl ⟨by rfl, ?hy9⟩) hS0 ?rest9
   case hy9 => (intro W hSw; go_simp; try (with_reducible rfl))
   try simp only [Act.put, List.setIfInBounds_toArray, List.set_cons_zero, List.set_cons_succ]
   refine' wpAnyD_take (i := 10) (oi := ⟨some 27, .load 3 (.tmp 26), 3, "graph.go:53", #[⟨9, .data⟩], none⟩) (v := _) rfl (by kernel_rfl) (by kernel_rfl) (by kernel_rfl) (fun _ _ _ h => h) (by kernel_rfl) (Or.inl ⟨by rfl, ?hy10⟩) hS0 ?rest10
   case hy10 => (intro W hSw; have hb := (hSw.block _ (tk_lt P5.out.2.1)).trans P5.out.2.1; have hc := (tk_store hb).1; have hl := tk_lt hb; go_simp; try (with_reducible rfl))
   try simp only [Act.put, List.setIfInBounds_toArray, List.set_cons_zero, List.set_cons_succ]
   refine' wpAnyD_take (i := 13) (oi := ⟨some 30, .move (.const (.int .i64 0)), 3, "graph.go:53", #[], none⟩) (v := _) rfl (by kernel_rfl) (by kernel_rfl) (by kernel_rfl) (fun _ _ _ h => h) (by kernel_rfl) (Or.inl ⟨by rfl, ?hy11⟩) hS0 ?rest11
   case hy11 => (intro W hSw; go_simp; try (with_reducible rfl))
   try simp only [Act.put, List.setIfInBounds_toArray, List.set_cons_zero, List.set_cons_succ]
   refine wpAnyD_one (i := 5) (o := ⟨some 22, .call ⟨.value (.func 83), #[.tmp 17, .tmp 19, .tmp 21], #[75, 3, 3]⟩, 3, "graph.go:53", #[⟨0, .data⟩, ⟨2, .data⟩, ⟨4, .data⟩], none⟩) (by kernel_rfl) rfl (fun K hK => ?_)
   go_simp
   refine (hc1 _ hS0).mono ?_
   rintro r w6 ⟨rfl, g6⟩
   have hS6 : Below W5.heap.size W5 w6 := hS0.trans (g6.below.mono hS0.size)
   clear g6
   go_wp2_with fail
   refine hK.out _ _ (fun hD => hS6) ?_
   clear hK K
   try simp only [Act.put, List.setIfInBounds_toArray, List.set_cons_zero, List.set_cons_succ]
   refine wpAnyD_one (i := 11) (o := ⟨some 28, .call ⟨.value (.func 84), #[.tmp 23, .tmp 25, .tmp 27], #[75, 3, 3]⟩, 3, "graph.go:53", #[⟨6, .data⟩, ⟨8, .data⟩, ⟨10, .data⟩, ⟨5, .chain⟩], none⟩) (by kernel_rfl) rfl (fun K hK => ?_)
   go_simp
   refine (hc2 _ hS6).mono ?_
   rintro r w7 ⟨rfl, rfl⟩
   go_wp2_with fail
   refine hK.out _ _ (fun hD => hS6) ?_
   clear hK K
   try simp only [Act.put, List.setIfInBounds_toArray, List.set_cons_zero, List.set_cons_succ]
   refine' wpAnyD_take (i := 12) (oi := ⟨some 29, .build 143 #[(0, .tmp 22), (1, .tmp 28)], 143, "graph.go:53", #[⟨5, .data⟩, ⟨11, .data⟩], none⟩) (v := _) rfl (by kernel_rfl) (by kernel_rfl) (by kernel_rfl) (fun _ _ _ h => h) (by kernel_rfl) (Or.inl ⟨by rfl, ?hy14⟩) hS6 ?rest14
   case hy14 => (intro W hSw; go_simp; try (with_reducible rfl))
   try simp only [Act.put, List.setIfInBounds_toArray, List.set_cons_zero, List.set_cons_succ]
   refine wpAnyD_done (by kernel_rfl) ?_ _
   have P6 : Hid (Hg B w7 gb a (.slice qn nl cn) (.slice (some ⟨b1, o1, none⟩) el ce) (.slice fq fm fc) (.slice pq pm pc) ns ss1 (fun k => midL ns es y i 0 k) ∧ Kp (fun k => B ≤ k) w w7) := ⟨(P5.out.1.below hS6).re (fun k _ => by simp [midL]), P5.out.2.2.trans (Kp.of_below hS6) (fun _ _ h => h)⟩
   clear hS0 hS6 hc1 hc2 G5 P5 HI
   go_upto_region 4 with fail
   go_loopw [30] (fun s30 wr => ∃ (p : Nat), p ≤ 2 ∧ s30 = .int .i64 (p : Nat) ∧ Hid (∃ ss', Hg B wr gb a (.slice qn nl cn) (.slice (some ⟨b1, o1, none⟩) el ce) (.slice fq fm fc) (.slice pq pm pc) ns ss' (fun k => midL ns es y i p k) ∧ Kp (fun k => B ≤ k) w wr)) (fun s30 _ => 2 - (RowKit.intOf s30).toNat)
   case atStart => exact ⟨0, by omega, rfl, _, P6.out⟩
   case round =>
    clear P6
    obtain ⟨p, hp, rfl, HI0⟩ := hrel
    have hp3 : p = 0 ∨ p = 1 ∨ p = 2 := by omega
    have ix0 := run_idx0 (po : Nat) (pi : Nat)
    have ix1 := run_idx1 (po : Nat) (pi : Nat)
    rcases hp3 with rfl | rfl | rfl
    ·have HAT : Hid (po = outPl ns y ∧ (spotsU ns ns.length)[po]? = some (y.src.toNat, y.out.toNat, false)) := ⟨HPO.out.1, by rw [HPO.out.1]; exact out_spot HEN.out.1⟩
     have HMID : Hid (∀ k, midL ns es y i 1 k = if k = po then midL ns es y i 0 po ++ [(i : Int)] else midL ns es y i 0 k) := fun k => by
      rw [HPO.out.1]
      unfold midL
      by_cases e : k = outPl ns y
      ·subst e; simp
      ·simp [e]
     obtain ⟨ss2, hI1, hI2⟩ := HI0.out
     have HI : Hid (Hg B wr gb a (.slice qn nl cn) (.slice (some ⟨b1, o1, none⟩) el ce) (.slice fq fm fc) (.slice pq pm pc) ns ss2 (fun k => midL ns es y i 0 k) ∧ Kp (fun k => B ≤ k) w wr) := ⟨hI1, hI2⟩
     clear hI1 hI2 HI0
     have hkl : po < ss2.length := by rw [HI.out.1.len]; exact (List.getElem?_eq_some_iff.1 HAT.out.2).1
     obtain ⟨s, hs⟩ : ∃ s, ss2[po]? = some s := ⟨ss2[po]'hkl, by simp⟩
     obtain ⟨pb, poff, pcap, hpv2, hpb, -, -, -, z3⟩ := ls_atS (owns_ls (E := ES) HI.out.1.sp) hs
     have hz : poff = 0 := by
      rcases HI.out.1.sp.2 with ⟨h0, _⟩ | ⟨g, cap, cur, h0, _⟩
      ·rw [hpv2] at h0; cases h0
      ·rw [hpv2] at h0
       simp only [Value.slice.injEq, Option.some.injEq, Addr.mk.injEq] at h0
       exact h0.1.2.1
     subst hz
     simp only [Value.slice.injEq] at hpv2
     obtain ⟨rfl, rfl, rfl⟩ := hpv2
     rw [Nat.zero_add] at z3
     have HSS := hid hs
     have HSP := hid HI.out.1.sp
     have fr3 := HI.out.1.sp.frozenAt
     have HLE := hid (midL_len ns es y i 0 po)
     have cg := (tk_store HI.out.1.blk).1
     have lg := tk_lt HI.out.1.blk
     have hk0 : (0 : Int) ≤ (po : Int) := by omega
     have HRW := hid (HI.out.1.each po s hs)
     generalize hln : ss2.length = sl at hkl cg fr3
     have hkz : (po : Int) < (sl : Int) := by omega
     have HLN := hid hln
     obtain ⟨LL, hLL⟩ : ∃ l, l = midL ns es y i 0 po := ⟨_, rfl⟩
     change Hid (wr.ownsRow B 3 1 s.ev (midL ns es y i 0 po).length (fl EI (midL ns es y i 0 po))) at HRW
     rw [← hLL] at HLE HRW
     have HLL := hid hLL
     have HBW := hid (Nat.le_trans HGB.out.2 HI.out.2.size)
     clear hs hLL hln
     obtain ⟨snd, spt, sinn, sq, sm, sc⟩ := s
     have hS0 : (wr.drew).heap[gb]? = some (.cells (gcells a (.slice qn nl cn) (.slice (some ⟨b1, o1, none⟩) el ce) (.slice fq fm fc) (.slice (some ⟨pb, 0, none⟩) sl pc)) 110 (0, 0)) ∧ (wr.drew).cell? ⟨pb, po * 4 + 3, none⟩ = some (.slice sq sm sc) ∧ pb < (wr.drew).heap.size := ⟨by have h := HI.out.1.blk; rw [HLN.out] at h; exact h, z3, hpb⟩
     clear cg lg fr3
     go_upto_region 6 with fail
     refine wp_regionD (S := fun W => W.heap[gb]? = some (.cells (gcells a (.slice qn nl cn) (.slice (some ⟨b1, o1, none⟩) el ce) (.slice fq fm fc) (.slice (some ⟨pb, 0, none⟩) sl pc)) 110 (0, 0)) ∧ W.cell? ⟨pb, po * 4 + 3, none⟩ = some (.slice sq sm sc) ∧ pb < W.heap.size) (D := [18]) hmx ?_
     refine' wpAnyD_take (i := 0) (oi := ⟨some 33, .move (.tmp 0), 75, "graph.go:54", #[], none⟩) (v := _) rfl (by kernel_rfl) (by kernel_rfl) (by kernel_rfl) (fun _ _ _ h => h) (by kernel_rfl) (Or.inl ⟨by rfl, ?hy15⟩) hS0 ?rest15
     case hy15 => (intro W hSw; go_simp; try (with_reducible rfl))
     try simp only [Act.put, List.setIfInBounds_toArray, List.set_cons_zero, List.set_cons_succ]
     refine' wpAnyD_take (i := 1) (oi := ⟨some 34, .nilCheck (.tmp 33), 0, "graph.go:54", #[⟨0, .data⟩], none⟩) (v := _) rfl (by kernel_rfl) (by kernel_rfl) (by kernel_rfl) (fun _ _ _ h => h) (by kernel_rfl) (Or.inl ⟨by rfl, ?hy16⟩) hS0 ?rest16
     case hy16 => (intro W hSw; go_simp; try (with_reducible rfl))
     try simp only [Act.put, List.setIfInBounds_toArray, List.set_cons_zero, List.set_cons_succ]
     refine' wpAnyD_take (i := 2) (oi := ⟨some 35, .fieldAddr 110 (.tmp 34) 2, 0, "graph.go:54", #[⟨1, .data⟩], none⟩) (v := _) rfl (by kernel_rfl) (by kernel_rfl) (by kernel_rfl) (fun _ _ _ h => h) (by kernel_rfl) (Or.inl ⟨by rfl, ?hy17⟩) hS0 ?rest17
     case hy17 => (intro W hSw; go_simp; try (with_reducible rfl))
     try simp only [Act.put, List.setIfInBounds_toArray, List.set_cons_zero, List.set_cons_succ]
     refine' wpAnyD_take (i := 3) (oi := ⟨some 36, .load 108 (.tmp 35), 108, "graph.go:54", #[⟨2, .data⟩], none⟩) (v := _) rfl (by kernel_rfl) (by kernel_rfl) (by kernel_rfl) (fun _ _ _ h => h) (by kernel_rfl) (Or.inl ⟨by rfl, ?hy18⟩) hS0 ?rest18
     case hy18 => (intro W hSw; have hc := (tk_store hSw.1).1; have hl := tk_lt hSw.1; go_simp; try (with_reducible rfl))
     try simp only [Act.put, List.setIfInBounds_toArray, List.set_cons_zero, List.set_cons_succ]
     refine' wpAnyD_take (i := 4) (oi := ⟨some 37, .move (.tmp 5), 3, "graph.go:54", #[], none⟩) (v := _) rfl (by kernel_rfl) (by kernel_rfl) (by kernel_rfl) (fun _ _ _ h => h) (by kernel_rfl) (Or.inl ⟨by rfl, ?hy19⟩) hS0 ?rest19
     case hy19 => (intro W hSw; go_simp; try (with_reducible rfl))
     try simp only [Act.put, List.setIfInBounds_toArray, List.set_cons_zero, List.set_cons_succ]
     refine' wpAnyD_take (i := 5) (oi := ⟨some 38, .move (.tmp 0), 75, "graph.go:54", #[], none⟩) (v := _) rfl (by kernel_rfl) (by kernel_rfl) (by kernel_rfl) (fun _ _ _ h => h) (by kernel_rfl) (Or.inl ⟨by rfl, ?hy20⟩) hS0 ?rest20
     case hy20 => (intro W hSw; go_simp; try (with_reducible rfl))
     try simp only [Act.put, List.setIfInBounds_toArray, List.set_cons_zero, List.set_cons_succ]
     refine' wpAnyD_take (i := 6) (oi := ⟨some 39, .nilCheck (.tmp 38), 0, "graph.go:54", #[⟨5, .data⟩], none⟩) (v := _) rfl (by kernel_rfl) (by kernel_rfl) (by kernel_rfl) (fun _ _ _ h => h) (by kernel_rfl) (Or.inl ⟨by rfl, ?hy21⟩) hS0 ?rest21
     case hy21 => (intro W hSw; go_simp; try (with_reducible rfl))
     try simp only [Act.put, List.setIfInBounds_toArray, List.set_cons_zero, List.set_cons_succ]
     refine' wpAnyD_take (i := 7) (oi := ⟨some 40, .fieldAddr 110 (.tmp 39) 2, 0, "graph.go:54", #[⟨6, .data⟩], none⟩) (v := _) rfl (by kernel_rfl) (by kernel_rfl) (by kernel_rfl) (fun _ _ _ h => h) (by kernel_rfl) (Or.inl ⟨by rfl, ?hy22⟩) hS0 ?rest22
     case hy22 => (intro W hSw; go_simp; try (with_reducible rfl))
     try simp only [Act.put, List.setIfInBounds_toArray, List.set_cons_zero, List.set_cons_succ]
     refine' wpAnyD_take (i := 8) (oi := ⟨some 41, .load 108 (.tmp 40), 108, "graph.go:54", #[⟨7, .data⟩], none⟩) (v := _) rfl (by kernel_rfl) (by kernel_rfl) (by kernel_rfl) (fun _ _ _ h => h) (by kernel_rfl) (Or.inl ⟨by rfl, ?hy23⟩) hS0 ?rest23
     case hy23 => (intro W hSw; have hc := (tk_store hSw.1).1; have hl := tk_lt hSw.1; go_simp; try (with_reducible rfl))
     try simp only [Act.put, List.setIfInBounds_toArray, List.set_cons_zero, List.set_cons_succ]
     refine' wpAnyD_take (i := 9) (oi := ⟨some 42, .move (.tmp 5), 3, "graph.go:54", #[], none⟩) (v := _) rfl (by kernel_rfl) (by kernel_rfl) (by kernel_rfl) (fun _ _ _ h => h) (by kernel_rfl) (Or.inl ⟨by rfl, ?hy24⟩) hS0 ?rest24
     case hy24 => (intro W hSw; go_simp; try (with_reducible rfl))
     try simp only [Act.put, List.setIfInBounds_toArray, List.set_cons_zero, List.set_cons_succ]
     refine' wpAnyD_take (i := 10) (oi := ⟨some 43, .indexAddr 108 (.tmp 41) (.tmp 42), 0, "graph.go:54", #[⟨8, .data⟩, ⟨9, .data⟩], none⟩) (v := _) rfl (by kernel_rfl) (by kernel_rfl) (by kernel_rfl) (fun _ _ _ h => h) (by kernel_rfl) (Or.inl ⟨by rfl, ?hy25⟩) hS0 ?rest25
     case hy25 => (intro W hSw; go_simp; try (with_reducible rfl))
     try simp only [Act.put, List.setIfInBounds_toArray, List.set_cons_zero, List.set_cons_succ]
     refine' wpAnyD_take (i := 11) (oi := ⟨some 44, .fieldAddr 141 (.tmp 43) 3, 0, "graph.go:54", #[⟨10, .data⟩], none⟩) (v := _) rfl (by kernel_rfl) (by kernel_rfl) (by kernel_rfl) (fun _ _ _ h => h) (by kernel_rfl) (Or.inl ⟨by rfl, ?hy26⟩) hS0 ?rest26
     case hy26 => (intro W hSw; go_simp; try (with_reducible rfl))
     try simp only [Act.put, List.setIfInBounds_toArray, List.set_cons_zero, List.set_cons_succ]
     refine' wpAnyD_take (i := 12) (oi := ⟨some 45, .load 59 (.tmp 44), 59, "graph.go:54", #[⟨11, .data⟩], none⟩) (v := _) rfl (by kernel_rfl) (by kernel_rfl) (by kernel_rfl) (fun _ _ _ h => h) (by kernel_rfl) (Or.inl ⟨by rfl, ?hy27⟩) hS0 ?rest27
     case hy27 => (intro W hSw; have hc := hSw.2.1; have hl := hSw.2.2; go_simp; try (with_reducible rfl))
     try simp only [Act.put, List.setIfInBounds_toArray, List.set_cons_zero, List.set_cons_succ]
     refine' wpAnyD_take (i := 13) (oi := ⟨some 46, .move (.tmp 2), 3, "graph.go:54", #[], none⟩) (v := _) rfl (by kernel_rfl) (by kernel_rfl) (by kernel_rfl) (fun _ _ _ h => h) (by kernel_rfl) (Or.inl ⟨by rfl, ?hy28⟩) hS0 ?rest28
     case hy28 => (intro W hSw; go_simp; try (with_reducible rfl))
     try simp only [Act.put, List.setIfInBounds_toArray, List.set_cons_zero, List.set_cons_succ]
     refine wpAnyD_one (i := 14) (o := ⟨some 47, .buildSlice 59 1 #[(0, .tmp 46)], 59, "graph.go:54", #[⟨13, .data⟩], none⟩) (by kernel_rfl) rfl (fun K hK => ?_)
     go_simp
     have b6 := ((Gr.refl wr).drew.alloc (.cells #[.int .i64 (i : Nat)] 3)).below
     have hS6 := (show _ ∧ _ ∧ _ from ⟨(b6.block _ (tk_lt hS0.1)).trans hS0.1, (b6.cell (p := ⟨pb, po * 4 + 3, none⟩) hpb).trans z3, Nat.lt_of_lt_of_le hpb b6.size⟩)
     clear b6
     refine hK.out _ _ (fun hD => hS6) ?_
     clear hK K
     try simp only [Act.put, List.setIfInBounds_toArray, List.set_cons_zero, List.set_cons_succ]
     refine wpAnyD_one (i := 15) (o := ⟨some 48, .call ⟨.builtin .append, #[.tmp 45, .tmp 47], #[59, 59]⟩, 59, "graph.go:54", #[⟨12, .data⟩, ⟨14, .data⟩], none⟩) (by kernel_rfl) rfl (fun K hK => ?_)
     refine step_app1 EI Tryz.underlying59 infoI rfl (by decide) rfl _ _ rfl B (.slice sq sm sc) LL.length (fl EI LL) rfl (show (wr.drew).ownsRow B 3 1 (.slice sq sm sc) LL.length (fl EI LL) from HRW.out) (i : Int) (by first | rfl | simp) (by have := HLE.out; omega) (by have := HLE.out; unfold maxLen; omega) HBW.out _ rfl _ ?_
     intro g8 cap8 w8 h8 k8 n8
     have ST : Hid (Hg B (w8.setCell ⟨pb, po * 4 + 3, none⟩ (.slice (some ⟨g8, 0, none⟩) (LL.length + 1) cap8)) gb a (.slice qn nl cn) (.slice (some ⟨b1, o1, none⟩) el ce) (.slice fq fm fc) (.slice (some ⟨pb, 0, none⟩) sl pc) ns (ss2.set po ((SV.mk snd spt sinn sq sm sc).withEv g8 (LL.length + 1) cap8)) (fun k => midL ns es y i (0 + 1) k) ∧ Kp (fun k => B ≤ k) w (w8.setCell ⟨pb, po * 4 + 3, none⟩ (.slice (some ⟨g8, 0, none⟩) (LL.length + 1) cap8))) := by
      rw [HLL.out] at h8 ⊢
      have h := (HI.out.1.below (Gr.refl wr).drew.below).step HGB.out.1 HSS.out (by rw [HLN.out]) h8.out k8.out n8.out
      rw [HLN.out] at h
      exact ⟨h.1.re (fun k _ => (HMID.out k).symm), (HI.out.2.trans (Kp.of_gr (Gr.refl wr).drew) (fun _ _ h => h)).trans h.2 (fun _ _ h => h)⟩
     have hb8 := (Kp.grownBy (S := fun k => (Value.slice sq sm sc).ownBlock = some k) k8.out (fun _ h => h))
     have f8 : w8.frozen? ⟨pb, po * 4 + 3, none⟩ = false := by
      have h := owns_kp hb8 HSP.out (fun j e e2 => owns_ne_own HSP.out HRW.out (by decide) j e e2)
      rw [HLN.out] at h
      exact h.frozenAt _
     have HF8 := hid f8
     have hS8 : w8.heap[gb]? = some (.cells (gcells a (.slice qn nl cn) (.slice (some ⟨b1, o1, none⟩) el ce) (.slice fq fm fc) (.slice (some ⟨pb, 0, none⟩) sl pc)) 110 (0, 0)) ∧ w8.cell? ⟨pb, po * 4 + 3, none⟩ = some (.slice sq sm sc) ∧ pb < w8.heap.size := ⟨(hb8.block _ (tk_lt hS0.1) (fun e => by have := (owns_rd HRW.out gb e).1; have := HGB.out.1; omega)).trans hS0.1, (hb8.cell hpb (fun e => owns_ne_own HRW.out HSP.out (by decide) pb e rfl)).trans z3, Nat.lt_of_lt_of_le hpb hb8.size⟩
     clear h8 k8 n8 hb8 f8
     generalize LL.length + 1 = ll at ST ⊢
     refine hK.out _ _ (fun hD => hS8) ?_
     clear hK K
     try simp only [Act.put, List.setIfInBounds_toArray, List.set_cons_zero, List.set_cons_succ]
     refine wpAnyD_one (i := 16) (o := ⟨some 49, .indexAddr 108 (.tmp 36) (.tmp 37), 0, "graph.go:54", #[⟨3, .data⟩, ⟨4, .data⟩, ⟨0, .phase⟩, ⟨1, .phase⟩, ⟨2, .phase⟩, ⟨3, .phase⟩, ⟨4, .phase⟩, ⟨5, .phase⟩, ⟨6, .phase⟩, ⟨7, .phase⟩, ⟨8, .phase⟩, ⟨9, .phase⟩, ⟨10, .phase⟩, ⟨11, .phase⟩, ⟨12, .phase⟩, ⟨13, .phase⟩, ⟨14, .phase⟩, ⟨15, .phase⟩], none⟩) (by kernel_rfl) rfl (fun K hK => ?_)
     go_simp
     refine hK.out _ _ (fun hD => hS8) ?_
     clear hK K
     try simp only [Act.put, List.setIfInBounds_toArray, List.set_cons_zero, List.set_cons_succ]
     refine' wpAnyD_take (i := 17) (oi := ⟨some 50, .fieldAddr 141 (.tmp 49) 3, 0, "graph.go:54", #[⟨16, .data⟩, ⟨0, .phase⟩, ⟨1, .phase⟩, ⟨2, .phase⟩, ⟨3, .phase⟩, ⟨4, .phase⟩, ⟨5, .phase⟩, ⟨6, .phase⟩, ⟨7, .phase⟩, ⟨8, .phase⟩, ⟨9, .phase⟩, ⟨10, .phase⟩, ⟨11, .phase⟩, ⟨12, .phase⟩, ⟨13, .phase⟩, ⟨14, .phase⟩, ⟨15, .phase⟩], none⟩) (v := _) rfl (by kernel_rfl) (by kernel_rfl) (by kernel_rfl) (fun _ _ _ h => h) (by kernel_rfl) (Or.inl ⟨by rfl, ?hy32⟩) hS8 ?rest32
     case hy32 => (intro W hSw; go_simp; try (with_reducible rfl))
     try simp only [Act.put, List.setIfInBounds_toArray, List.set_cons_zero, List.set_cons_succ]
     refine wpAnyD_one (i := 18) (o := ⟨none, .store 59 (.tmp 50) (.tmp 48), 0, "graph.go:54", #[⟨17, .data⟩, ⟨15, .data⟩, ⟨15, .chain⟩, ⟨0, .phase⟩, ⟨1, .phase⟩, ⟨2, .phase⟩, ⟨3, .phase⟩, ⟨4, .phase⟩, ⟨5, .phase⟩, ⟨6, .phase⟩, ⟨7, .phase⟩, ⟨8, .phase⟩, ⟨9, .phase⟩, ⟨10, .phase⟩, ⟨11, .phase⟩, ⟨12, .phase⟩, ⟨13, .phase⟩, ⟨14, .phase⟩, ⟨15, .phase⟩], none⟩) (by kernel_rfl) rfl (fun K hK => ?_)
     have c8 := hS8.2.1
     have f8 := HF8.out
     have l8 := hS8.2.2
     go_simp
     generalize (w8.setCell ⟨pb, po * 4 + 3, none⟩ (.slice (some ⟨g8, 0, none⟩) ll cap8)) = w9 at ST ⊢
     clear c8 f8 l8
     refine hK.out _ _ (fun hD => absurd (by decide) hD) ?_
     clear hK K
     try simp only [Act.put, List.setIfInBounds_toArray, List.set_cons_zero, List.set_cons_succ]
     refine wpAnyD_done (by kernel_rfl) ?_ _
     clear hS0 hS8 z3
     go_wp2_with fail
     go_roundw
     case rel => exact ⟨0 + 1, by omega, by go_num, _, ST.out⟩
     case measure => simp [RowKit.intOf]
    ·have HAT : Hid (pi = inPl ns y ∧ (spotsU ns ns.length)[pi]? = some (y.dst.toNat, y.inn.toNat, true)) := ⟨HPO.out.2, by rw [HPO.out.2]; exact in_spot HEN.out.2⟩
     have HMID : Hid (∀ k, midL ns es y i 2 k = if k = pi then midL ns es y i 1 pi ++ [(i : Int)] else midL ns es y i 1 k) := fun k => by
      rw [HPO.out.2]
      unfold midL
      by_cases e : k = inPl ns y
      ·subst e; simp
      ·simp [e]
     obtain ⟨ss2, hI1, hI2⟩ := HI0.out
     have HI : Hid (Hg B wr gb a (.slice qn nl cn) (.slice (some ⟨b1, o1, none⟩) el ce) (.slice fq fm fc) (.slice pq pm pc) ns ss2 (fun k => midL ns es y i 1 k) ∧ Kp (fun k => B ≤ k) w wr) := ⟨hI1, hI2⟩
     clear hI1 hI2 HI0
     have hkl : pi < ss2.length := by rw [HI.out.1.len]; exact (List.getElem?_eq_some_iff.1 HAT.out.2).1
     obtain ⟨s, hs⟩ : ∃ s, ss2[pi]? = some s := ⟨ss2[pi]'hkl, by simp⟩
     obtain ⟨pb, poff, pcap, hpv2, hpb, -, -, -, z3⟩ := ls_atS (owns_ls (E := ES) HI.out.1.sp) hs
     have hz : poff = 0 := by
      rcases HI.out.1.sp.2 with ⟨h0, _⟩ | ⟨g, cap, cur, h0, _⟩
      ·rw [hpv2] at h0; cases h0
      ·rw [hpv2] at h0
       simp only [Value.slice.injEq, Option.some.injEq, Addr.mk.injEq] at h0
       exact h0.1.2.1
     subst hz
     simp only [Value.slice.injEq] at hpv2
     obtain ⟨rfl, rfl, rfl⟩ := hpv2
     rw [Nat.zero_add] at z3
     have HSS := hid hs
     have HSP := hid HI.out.1.sp
     have fr3 := HI.out.1.sp.frozenAt
     have HLE := hid (midL_len ns es y i 1 pi)
     have cg := (tk_store HI.out.1.blk).1
     have lg := tk_lt HI.out.1.blk
     have hk0 : (0 : Int) ≤ (pi : Int) := by omega
     have HRW := hid (HI.out.1.each pi s hs)
     generalize hln : ss2.length = sl at hkl cg fr3
     have hkz : (pi : Int) < (sl : Int) := by omega
     have HLN := hid hln
     obtain ⟨LL, hLL⟩ : ∃ l, l = midL ns es y i 1 pi := ⟨_, rfl⟩
     change Hid (wr.ownsRow B 3 1 s.ev (midL ns es y i 1 pi).length (fl EI (midL ns es y i 1 pi))) at HRW
     rw [← hLL] at HLE HRW
     have HLL := hid hLL
     have HBW := hid (Nat.le_trans HGB.out.2 HI.out.2.size)
     clear hs hLL hln
     obtain ⟨snd, spt, sinn, sq, sm, sc⟩ := s
     have hS0 : (wr.drew).heap[gb]? = some (.cells (gcells a (.slice qn nl cn) (.slice (some ⟨b1, o1, none⟩) el ce) (.slice fq fm fc) (.slice (some ⟨pb, 0, none⟩) sl pc)) 110 (0, 0)) ∧ (wr.drew).cell? ⟨pb, pi * 4 + 3, none⟩ = some (.slice sq sm sc) ∧ pb < (wr.drew).heap.size := ⟨by have h := HI.out.1.blk; rw [HLN.out] at h; exact h, z3, hpb⟩
     clear cg lg fr3
     go_upto_region 6 with fail
     refine wp_regionD (S := fun W => W.heap[gb]? = some (.cells (gcells a (.slice qn nl cn) (.slice (some ⟨b1, o1, none⟩) el ce) (.slice fq fm fc) (.slice (some ⟨pb, 0, none⟩) sl pc)) 110 (0, 0)) ∧ W.cell? ⟨pb, pi * 4 + 3, none⟩ = some (.slice sq sm sc) ∧ pb < W.heap.size) (D := [18]) hmx ?_
     refine' wpAnyD_take (i := 0) (oi := ⟨some 33, .move (.tmp 0), 75, "graph.go:54", #[], none⟩) (v := _) rfl (by kernel_rfl) (by kernel_rfl) (by kernel_rfl) (fun _ _ _ h => h) (by kernel_rfl) (Or.inl ⟨by rfl, ?hy34⟩) hS0 ?rest34
     case hy34 => (intro W hSw; go_simp; try (with_reducible rfl))
     try simp only [Act.put, List.setIfInBounds_toArray, List.set_cons_zero, List.set_cons_succ]
     refine' wpAnyD_take (i := 1) (oi := ⟨some 34, .nilCheck (.tmp 33), 0, "graph.go:54", #[⟨0, .data⟩], none⟩) (v := _) rfl (by kernel_rfl) (by kernel_rfl) (by kernel_rfl) (fun _ _ _ h => h) (by kernel_rfl) (Or.inl ⟨by rfl, ?hy35⟩) hS0 ?rest35
     case hy35 => (intro W hSw; go_simp; try (with_reducible rfl))
     try simp only [Act.put, List.setIfInBounds_toArray, List.set_cons_zero, List.set_cons_succ]
     refine' wpAnyD_take (i := 2) (oi := ⟨some 35, .fieldAddr 110 (.tmp 34) 2, 0, "graph.go:54", #[⟨1, .data⟩], none⟩) (v := _) rfl (by kernel_rfl) (by kernel_rfl) (by kernel_rfl) (fun _ _ _ h => h) (by kernel_rfl) (Or.inl ⟨by rfl, ?hy36⟩) hS0 ?rest36
     case hy36 => (intro W hSw; go_simp; try (with_reducible rfl))
     try simp only [Act.put, List.setIfInBounds_toArray, List.set_cons_zero, List.set_cons_succ]
     refine' wpAnyD_take (i := 3) (oi := ⟨some 36, .load 108 (.tmp 35), 108, "graph.go:54", #[⟨2, .data⟩], none⟩) (v := _) rfl (by kernel_rfl) (by kernel_rfl) (by kernel_rfl) (fun _ _ _ h => h) (by kernel_rfl) (Or.inl ⟨by rfl, ?hy37⟩) hS0 ?rest37
     case hy37 => (intro W hSw; have hc := (tk_store hSw.1).1; have hl := tk_lt hSw.1; go_simp; try (with_reducible rfl))
     try simp only [Act.put, List.setIfInBounds_toArray, List.set_cons_zero, List.set_cons_succ]
     refine' wpAnyD_take (i := 4) (oi := ⟨some 37, .move (.tmp 5), 3, "graph.go:54", #[], none⟩) (v := _) rfl (by kernel_rfl) (by kernel_rfl) (by kernel_rfl) (fun _ _ _ h => h) (by kernel_rfl) (Or.inl ⟨by rfl, ?hy38⟩) hS0 ?rest38
     case hy38 => (intro W hSw; go_simp; try (with_reducible rfl))
     try simp only [Act.put, List.setIfInBounds_toArray, List.set_cons_zero, List.set_cons_succ]
     refine' wpAnyD_take (i := 5) (oi := ⟨some 38, .move (.tmp 0), 75, "graph.go:54", #[], none⟩) (v := _) rfl (by kernel_rfl) (by kernel_rfl) (by kernel_rfl) (fun _ _ _ h => h) (by kernel_rfl) (Or.inl ⟨by rfl, ?hy39⟩) hS0 ?rest39
     case hy39 => (intro W hSw; go_simp; try (with_reducible rfl))
     try simp only [Act.put, List.setIfInBounds_toArray, List.set_cons_zero, List.set_cons_succ]
     refine' wpAnyD_take (i := 6) (oi := ⟨some 39, .nilCheck (.tmp 38), 0, "graph.go:54", #[⟨5, .data⟩], none⟩) (v := _) rfl (by kernel_rfl) (by kernel_rfl) (by kernel_rfl) (fun _ _ _ h => h) (by kernel_rfl) (Or.inl ⟨by rfl, ?hy40⟩) hS0 ?rest40
     case hy40 => (intro W hSw; go_simp; try (with_reducible rfl))
     try simp only [Act.put, List.setIfInBounds_toArray, List.set_cons_zero, List.set_cons_succ]
     refine' wpAnyD_take (i := 7) (oi := ⟨some 40, .fieldAddr 110 (.tmp 39) 2, 0, "graph.go:54", #[⟨6, .data⟩], none⟩) (v := _) rfl (by kernel_rfl) (by kernel_rfl) (by kernel_rfl) (fun _ _ _ h => h) (by kernel_rfl) (Or.inl ⟨by rfl, ?hy41⟩) hS0 ?rest41
     case hy41 => (intro W hSw; go_simp; try (with_reducible rfl))
     try simp only [Act.put, List.setIfInBounds_toArray, List.set_cons_zero, List.set_cons_succ]
     refine' wpAnyD_take (i := 8) (oi := ⟨some 41, .load 108 (.tmp 40), 108, "graph.go:54", #[⟨7, .data⟩], none⟩) (v := _) rfl (by kernel_rfl) (by kernel_rfl) (by kernel_rfl) (fun _ _ _ h => h) (by kernel_rfl) (Or.inl ⟨by rfl, ?hy42⟩) hS0 ?rest42
     case hy42 => (intro W hSw; have hc := (tk_store hSw.1).1; have hl := tk_lt hSw.1; go_simp; try (with_reducible rfl))
     try simp only [Act.put, List.setIfInBounds_toArray, List.set_cons_zero, List.set_cons_succ]
     refine' wpAnyD_take (i := 9) (oi := ⟨some 42, .move (.tmp 5), 3, "graph.go:54", #[], none⟩) (v := _) rfl (by kernel_rfl) (by kernel_rfl) (by kernel_rfl) (fun _ _ _ h => h) (by kernel_rfl) (Or.inl ⟨by rfl, ?hy43⟩) hS0 ?rest43
     case hy43 => (intro W hSw; go_simp; try (with_reducible rfl))
     try simp only [Act.put, List.setIfInBounds_toArray, List.set_cons_zero, List.set_cons_succ]
     refine' wpAnyD_take (i := 10) (oi := ⟨some 43, .indexAddr 108 (.tmp 41) (.tmp 42), 0, "graph.go:54", #[⟨8, .data⟩, ⟨9, .data⟩], none⟩) (v := _) rfl (by kernel_rfl) (by kernel_rfl) (by kernel_rfl) (fun _ _ _ h => h) (by kernel_rfl) (Or.inl ⟨by rfl, ?hy44⟩) hS0 ?rest44
     case hy44 => (intro W hSw; go_simp; try (with_reducible rfl))
     try simp only [Act.put, List.setIfInBounds_toArray, List.set_cons_zero, List.set_cons_succ]
     refine' wpAnyD_take (i := 11) (oi := ⟨some 44, .fieldAddr 141 (.tmp 43) 3, 0, "graph.go:54", #[⟨10, .data⟩], none⟩) (v := _) rfl (by kernel_rfl) (by kernel_rfl) (by kernel_rfl) (fun _ _ _ h => h) (by kernel_rfl) (Or.inl ⟨by rfl, ?hy45⟩) hS0 ?rest45
     case hy45 => (intro W hSw; go_simp; try (with_reducible rfl))
     try simp only [Act.put, List.setIfInBounds_toArray, List.set_cons_zero, List.set_cons_succ]
     refine' wpAnyD_take (i := 12) (oi := ⟨some 45, .load 59 (.tmp 44), 59, "graph.go:54", #[⟨11, .data⟩], none⟩) (v := _) rfl (by kernel_rfl) (by kernel_rfl) (by kernel_rfl) (fun _ _ _ h => h) (by kernel_rfl) (Or.inl ⟨by rfl, ?hy46⟩) hS0 ?rest46
     case hy46 => (intro W hSw; have hc := hSw.2.1; have hl := hSw.2.2; go_simp; try (with_reducible rfl))
     try simp only [Act.put, List.setIfInBounds_toArray, List.set_cons_zero, List.set_cons_succ]
     refine' wpAnyD_take (i := 13) (oi := ⟨some 46, .move (.tmp 2), 3, "graph.go:54", #[], none⟩) (v := _) rfl (by kernel_rfl) (by kernel_rfl) (by kernel_rfl) (fun _ _ _ h => h) (by kernel_rfl) (Or.inl ⟨by rfl, ?hy47⟩) hS0 ?rest47
     case hy47 => (intro W hSw; go_simp; try (with_reducible rfl))
     try simp only [Act.put, List.setIfInBounds_toArray, List.set_cons_zero, List.set_cons_succ]
     refine wpAnyD_one (i := 14) (o := ⟨some 47, .buildSlice 59 1 #[(0, .tmp 46)], 59, "graph.go:54", #[⟨13, .data⟩], none⟩) (by kernel_rfl) rfl (fun K hK => ?_)
     go_simp
     have b6 := ((Gr.refl wr).drew.alloc (.cells #[.int .i64 (i : Nat)] 3)).below
     have hS6 := (show _ ∧ _ ∧ _ from ⟨(b6.block _ (tk_lt hS0.1)).trans hS0.1, (b6.cell (p := ⟨pb, pi * 4 + 3, none⟩) hpb).trans z3, Nat.lt_of_lt_of_le hpb b6.size⟩)
     clear b6
     refine hK.out _ _ (fun hD => hS6) ?_
     clear hK K
     try simp only [Act.put, List.setIfInBounds_toArray, List.set_cons_zero, List.set_cons_succ]
     refine wpAnyD_one (i := 15) (o := ⟨some 48, .call ⟨.builtin .append, #[.tmp 45, .tmp 47], #[59, 59]⟩, 59, "graph.go:54", #[⟨12, .data⟩, ⟨14, .data⟩], none⟩) (by kernel_rfl) rfl (fun K hK => ?_)
     refine step_app1 EI Tryz.underlying59 infoI rfl (by decide) rfl _ _ rfl B (.slice sq sm sc) LL.length (fl EI LL) rfl (show (wr.drew).ownsRow B 3 1 (.slice sq sm sc) LL.length (fl EI LL) from HRW.out) (i : Int) (by first | rfl | simp) (by have := HLE.out; omega) (by have := HLE.out; unfold maxLen; omega) HBW.out _ rfl _ ?_
     intro g8 cap8 w8 h8 k8 n8
     have ST : Hid (Hg B (w8.setCell ⟨pb, pi * 4 + 3, none⟩ (.slice (some ⟨g8, 0, none⟩) (LL.length + 1) cap8)) gb a (.slice qn nl cn) (.slice (some ⟨b1, o1, none⟩) el ce) (.slice fq fm fc) (.slice (some ⟨pb, 0, none⟩) sl pc) ns (ss2.set pi ((SV.mk snd spt sinn sq sm sc).withEv g8 (LL.length + 1) cap8)) (fun k => midL ns es y i (1 + 1) k) ∧ Kp (fun k => B ≤ k) w (w8.setCell ⟨pb, pi * 4 + 3, none⟩ (.slice (some ⟨g8, 0, none⟩) (LL.length + 1) cap8))) := by
      rw [HLL.out] at h8 ⊢
      have h := (HI.out.1.below (Gr.refl wr).drew.below).step HGB.out.1 HSS.out (by rw [HLN.out]) h8.out k8.out n8.out
      rw [HLN.out] at h
      exact ⟨h.1.re (fun k _ => (HMID.out k).symm), (HI.out.2.trans (Kp.of_gr (Gr.refl wr).drew) (fun _ _ h => h)).trans h.2 (fun _ _ h => h)⟩
     have hb8 := (Kp.grownBy (S := fun k => (Value.slice sq sm sc).ownBlock = some k) k8.out (fun _ h => h))
     have f8 : w8.frozen? ⟨pb, pi * 4 + 3, none⟩ = false := by
      have h := owns_kp hb8 HSP.out (fun j e e2 => owns_ne_own HSP.out HRW.out (by decide) j e e2)
      rw [HLN.out] at h
      exact h.frozenAt _
     have HF8 := hid f8
     have hS8 : w8.heap[gb]? = some (.cells (gcells a (.slice qn nl cn) (.slice (some ⟨b1, o1, none⟩) el ce) (.slice fq fm fc) (.slice (some ⟨pb, 0, none⟩) sl pc)) 110 (0, 0)) ∧ w8.cell? ⟨pb, pi * 4 + 3, none⟩ = some (.slice sq sm sc) ∧ pb < w8.heap.size := ⟨(hb8.block _ (tk_lt hS0.1) (fun e => by have := (owns_rd HRW.out gb e).1; have := HGB.out.1; omega)).trans hS0.1, (hb8.cell hpb (fun e => owns_ne_own HRW.out HSP.out (by decide) pb e rfl)).trans z3, Nat.lt_of_lt_of_le hpb hb8.size⟩
     clear h8 k8 n8 hb8 f8
     generalize LL.length + 1 = ll at ST ⊢
     refine hK.out _ _ (fun hD => hS8) ?_
     clear hK K
     try simp only [Act.put, List.setIfInBounds_toArray, List.set_cons_zero, List.set_cons_succ]
     refine wpAnyD_one (i := 16) (o := ⟨some 49, .indexAddr 108 (.tmp 36) (.tmp 37), 0, "graph.go:54", #[⟨3, .data⟩, ⟨4, .data⟩, ⟨0, .phase⟩, ⟨1, .phase⟩, ⟨2, .phase⟩, ⟨3, .phase⟩, ⟨4, .phase⟩, ⟨5, .phase⟩, ⟨6, .phase⟩, ⟨7, .phase⟩, ⟨8, .phase⟩, ⟨9, .phase⟩, ⟨10, .phase⟩, ⟨11, .phase⟩, ⟨12, .phase⟩, ⟨13, .phase⟩, ⟨14, .phase⟩, ⟨15, .phase⟩], none⟩) (by kernel_rfl) rfl (fun K hK => ?_)
     go_simp
     refine hK.out _ _ (fun hD => hS8) ?_
     clear hK K
     try simp only [Act.put, List.setIfInBounds_toArray, List.set_cons_zero, List.set_cons_succ]
     refine' wpAnyD_take (i := 17) (oi := ⟨some 50, .fieldAddr 141 (.tmp 49) 3, 0, "graph.go:54", #[⟨16, .data⟩, ⟨0, .phase⟩, ⟨1, .phase⟩, ⟨2, .phase⟩, ⟨3, .phase⟩, ⟨4, .phase⟩, ⟨5, .phase⟩, ⟨6, .phase⟩, ⟨7, .phase⟩, ⟨8, .phase⟩, ⟨9, .phase⟩, ⟨10, .phase⟩, ⟨11, .phase⟩, ⟨12, .phase⟩, ⟨13, .phase⟩, ⟨14, .phase⟩, ⟨15, .phase⟩], none⟩) (v := _) rfl (by kernel_rfl) (by kernel_rfl) (by kernel_rfl) (fun _ _ _ h => h) (by kernel_rfl) (Or.inl ⟨by rfl, ?hy51⟩) hS8 ?rest51
     case hy51 => (intro W hSw; go_simp; try (with_reducible rfl))
     try simp only [Act.put, List.setIfInBounds_toArray, List.set_cons_zero, List.set_cons_succ]
     refine wpAnyD_one (i := 18) (o := ⟨none, .store 59 (.tmp 50) (.tmp 48), 0, "graph.go:54", #[⟨17, .data⟩, ⟨15, .data⟩, ⟨15, .chain⟩, ⟨0, .phase⟩, ⟨1, .phase⟩, ⟨2, .phase⟩, ⟨3, .phase⟩, ⟨4, .phase⟩, ⟨5, .phase⟩, ⟨6, .phase⟩, ⟨7, .phase⟩, ⟨8, .phase⟩, ⟨9, .phase⟩, ⟨10, .phase⟩, ⟨11, .phase⟩, ⟨12, .phase⟩, ⟨13, .phase⟩, ⟨14, .phase⟩, ⟨15, .phase⟩], none⟩) (by kernel_rfl) rfl (fun K hK => ?_)
     have c8 := hS8.2.1
     have f8 := HF8.out
     have l8 := hS8.2.2
     go_simp
     generalize (w8.setCell ⟨pb, pi * 4 + 3, none⟩ (.slice (some ⟨g8, 0, none⟩) ll cap8)) = w9 at ST ⊢
     clear c8 f8 l8
     refine hK.out _ _ (fun hD => absurd (by decide) hD) ?_
     clear hK K
     try simp only [Act.put, List.setIfInBounds_toArray, List.set_cons_zero, List.set_cons_succ]
     refine wpAnyD_done (by kernel_rfl) ?_ _
     clear hS0 hS8 z3
     go_wp2_with fail
     go_roundw
     case rel => exact ⟨1 + 1, by omega, by go_num, _, ST.out⟩
     case measure => simp [RowKit.intOf]
    ·have FIN : Hid (∃ ss', Hg B wr gb a (.slice qn nl cn) (.slice (some ⟨b1, o1, none⟩) el ce) (.slice fq fm fc) (.slice pq pm pc) ns ss' (fun k => edgesU ns es k (i + 1)) ∧ Kp (fun k => B ≤ k) w wr) := by
       obtain ⟨s2, h1, h2⟩ := HI0.out
       exact ⟨s2, h1.re (fun k _ => midL_done HY.out (ends_ne HEN.out.1 HEN.out.2) k), h2⟩
     go_wp2_with fail
     go_roundw
     case rel => exact ⟨i + 1, by omega, by go_num, FIN.out⟩
     case measure => simp [RowKit.intOf]; omega
  ·have hltz : ¬ (i : Int) < (el : Int) := by omega
   obtain rfl : i = el := by omega
   go_wp2_with fail
   go_end0
   exact ⟨rfl, HI0.out⟩
end Go.Proofs.YtdnnfgabdkkdjaaGreat.Df
