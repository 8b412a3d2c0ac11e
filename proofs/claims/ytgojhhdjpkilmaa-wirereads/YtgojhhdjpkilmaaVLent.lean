import Derived.Test.YtgojhhdjpkilmaaVWr2
namespace Go.Proofs.Ytgojhhdjpkilmaa.Wi
open Go.RowKit Go.Sort
attribute [local go_sem ↓] Go.wp_at_zero Go.wp_at_succ

theorem fl_mapL (l : List UInt8) : fl EB l = l.map bv := by
  induction l with
  | nil => rfl
  | cons x l ih => rw [fl_cons, ih]; rfl
/-- Bytes that were laid by a literal. -/
theorem ls_litL {w : World} {b n : Nat} {cs : Array Value} {te : TypeId} (l : List UInt8) (h : w.heap[b]? = some (.cells cs te (0, 0))) (hc : cs.toList = l.map bv) (hn : n = l.length) (c : Nat) : Ls EB w (.slice (some ⟨b, 0, none⟩) n c) l := by
  subst hn
  refine Or.inr ⟨b, 0, c, rfl, (Array.getElem?_eq_some_iff.1 h).1, fun j u hj => ?_⟩
  rw [fl_mapL, ← hc] at hj
  rw [Nat.zero_add]
  simp only [World.cell?, h]
  simpa using hj
theorem owns_form1 {w : World} {base : Nat} {e : TypeId} {s : Nat} {v : Value} {n : Nat} {xs : List Value} (h : w.ownsRow base e s v n xs) (hn : 0 < n) : ∃ g cap, v = .slice (some ⟨g, 0, none⟩) n cap ∧ n ≤ cap ∧ cap ≤ maxLen := by
  obtain ⟨_, ⟨_, h1⟩ | ⟨g', cap', cur, hv, _, _, hn, hm, _⟩⟩ := h
  · omega
  · exact ⟨g', cap', hv, hn, hm⟩
/-- Bytes with two marks behind them: they lie at g. -/
structure Len2 (w : World) (base g cap : Nat) (l : List UInt8) : Prop where
  own : w.ownsRow base 5 1 (.slice (some ⟨g, 0, none⟩) (l.length + 2) cap) (l.length + 2) (fl EB (l ++ [195, 60]))
theorem Len2.kp {S : Nat → Prop} {w w' : World} {base g cap : Nat} {l : List UInt8} (h : Len2 w base g cap l) (hk : Kp S w w') (hS : ¬ S g) : Len2 w' base g cap l :=
  ⟨owns_kp hk h.own (fun q hq e => hS (by have : q = g := by simpa [Value.ownBlock] using hq.symm
                                          exact this ▸ e))⟩
theorem Len2.ge {w : World} {base g cap : Nat} {l : List UInt8} (h : Len2 w base g cap l) : base ≤ g ∧ g < w.heap.size := h.own.lt g rfl
theorem Len2.cap {w : World} {base g cap : Nat} {l : List UInt8} (h : Len2 w base g cap l) : l.length + 2 ≤ cap := (owns_cap h.own).1
theorem Len2.ls2 {w : World} {base g cap : Nat} {l : List UInt8} (h : Len2 w base g cap l) : Ls EB w (.slice (some ⟨g, 0, none⟩) (l ++ [195, 60]).length cap) (l ++ [195, 60]) := by
  have h1 : l.length + 2 = (l ++ [195, 60]).length := by simp
  refine owns_ls (E := EB) (base := base) (e := 5) ?_
  rw [← h1]
  exact h.own
theorem Len2.ls {w : World} {base g cap : Nat} {l : List UInt8} (h : Len2 w base g cap l) : Ls EB w (.slice (some ⟨g, 0, none⟩) l.length cap) l := by
  have := h.ls2.cut (k := l.length) (by simp) cap
  rwa [List.take_left] at this
set_option maxHeartbeats 1000000 in
theorem lent_any {v : Value} {l : List UInt8} (w : World) (hL : Lb w v l) (hl : l.length + 2 ≤ 140737488355328) :
    Calls Try.prog 26 #[v] w fun r w' => ∃ g cap, r = .returned (.slice (some ⟨g, 0, none⟩) l.length cap) ∧ Len2 w' w.heap.size g cap l ∧ Below w.heap.size w w' := by
  have hmx : Try.prog.follows .mixedOrders = true := by kernel_rfl
  obtain ⟨p, c, rfl⟩ := hL.form
  have HL := hid hL
  clear hL
  go_enter Try.func26, Try.ntmps26
  go_wp2_with (at_builtin; refine wpBL rfl _ _ rfl w.heap.size _ [] rfl (World.ownsRow_made w #[] 0 (Nat.le_refl _) (Nat.zero_le _) rfl) _ l rfl (HL.out.below ((Gr.refl _).alloc _).below) (by simp; omega) (by simp) ?_)
  intro v1 w1 h1 t1
  have hal := ((Gr.refl w).alloc (.cells #[] 5)).below
  have B1 : Hid (Below w.heap.size w w1) := hal.trans (t1.out.1.below hal.size (fun k hk => by simp [Value.ownBlock] at hk; omega))
  have O1 : Hid (w1.ownsRow w.heap.size 5 1 v1 l.length (fl EB l)) := hid (by simpa using h1.out)
  clear h1 t1 hal
  have hls2 : Ls EB (w1.alloc (.cells #[.int .u8 195, .int .u8 60] 5)) (.slice (some ⟨w1.heap.size, 0, none⟩) 2 2) [195, 60] := ls_litL [195, 60] (heap_new' _ _) rfl rfl 2
  go_wp2_with (at_builtin; refine wpBL rfl _ _ rfl w.heap.size v1 l rfl (World.ownsRow.alloc O1.out _) _ [195, 60] rfl (Or.inl hls2) (by simpa using hl) (by have := B1.out.size; simp; omega) ?_)
  intro v2 w2 h2 t2
  have h2' : w2.ownsRow w.heap.size 5 1 v2 (l.length + 2) (fl EB (l ++ [195, 60])) := owns_re h2.out (by simp) rfl
  obtain ⟨g, cap, hv, hc, _⟩ := owns_form1 h2' (by omega)
  subst hv
  have O2 := hid h2'
  have hal := ((Gr.refl w1).alloc (.cells #[.int .u8 195, .int .u8 60] 5)).below
  have B2 : Hid (Below w.heap.size w w2) := by
    have hb := B1.out.trans (hal.mono B1.out.size)
    exact hb.trans (t2.out.1.below hb.size (fun k hk => (O1.out.lt k hk).1))
  have hz1 : (l.length : Int) ≤ (cap : Int) := by omega
  have hz2 : l.length ≤ cap := by omega
  clear h2 t2 h2' hal
  go_wp2_with fail
  go_ret
  exact ⟨g, cap, rfl, ⟨O2.out⟩, B2.out⟩
set_option maxHeartbeats 2000000 in
set_option maxRecDepth 100000 in
theorem kept_any {v : Value} {l : List UInt8} {base g cap : Nat} (w : World) (hL : Lb w v l) (hN : Len2 w base g cap l) (hl : l.length + 2 ≤ 140737488355328) :
    Calls Try.prog 27 #[.slice (some ⟨g, 0, none⟩) l.length cap, v] w fun r w' => r = .returned (.bool true) ∧ Gr w w' := by
  have hmx : Try.prog.follows .mixedOrders = true := by kernel_rfl
  have hcap := hN.cap
  have x1 : w.cell? ⟨g, l.length, none⟩ = some (.int .u8 195) := by
    obtain ⟨b, off, c, e, hb, hc⟩ := ls_at hN.ls2 (j := l.length) (x := 195) (by simp)
    simp only [Value.slice.injEq, Option.some.injEq, Addr.mk.injEq, and_true, true_and] at e
    obtain ⟨⟨rfl, rfl⟩, _⟩ := e
    rw [Nat.zero_add] at hc
    exact hc
  have x2 : w.cell? ⟨g, l.length + 1, none⟩ = some (.int .u8 60) := by
    obtain ⟨b, off, c, e, hb, hc⟩ := ls_at hN.ls2 (j := l.length + 1) (x := 60) (by simp)
    simp only [Value.slice.injEq, Option.some.injEq, Addr.mk.injEq, and_true, true_and] at e
    obtain ⟨⟨rfl, rfl⟩, _⟩ := e
    rw [Nat.zero_add] at hc
    exact hc
  have hg := hN.ge.2
  obtain ⟨p, c, rfl⟩ := hL.form
  have ht : ∀ m, (convert 22 9 (.slice p l.length c)).run Try.prog (w.drewN m) = .ok (tx l) (w.drewN m) := fun m => to_textB (hL.below ((Gr.refl w).drewN m).below)
  have hs : ∀ m, (convert 22 9 (.slice (some ⟨g, 0, none⟩) l.length cap)).run Try.prog (w.drewN m) = .ok (tx l) (w.drewN m) := fun m => to_text (hN.ls.below ((Gr.refl w).drewN m).below)
  have hz1 : wrap64 ((l.length : Int) + 2) = (l.length : Int) + 2 := by unfold wrap64; omega
  have hz2 : (l.length : Int) + 2 ≤ (cap : Int) := by omega
  have hz3 : l.length + 2 ≤ cap := by omega
  have hz4 : (l.length : Int) ≤ (cap : Int) := by omega
  have hz5 : l.length ≤ cap := by omega
  have hz6 : (l.length : Int) < (l.length : Int) + 2 := by omega
  have hz7 : (l.length : Int) + 1 < (l.length : Int) + 2 := by omega
  clear hL hN
  go_enter Try.func27, Try.ntmps27
  go_wp2_with fail
  go_quiet (fail)
  go_wp2_with fail
  go_ret
  exact ⟨rfl, (Gr.refl _).drewN _⟩
end Go.Proofs.Ytgojhhdjpkilmaa.Wi
