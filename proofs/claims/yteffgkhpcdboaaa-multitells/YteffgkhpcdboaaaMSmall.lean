import Derived.Test.YteffgkhpcdboaaaMSn
import Derived.Test.YteffgkhpcdboaaaMEqT
namespace Go.Proofs.Yteffgkhpcdboaaa
open Go.RowKit Go.Sort Go.Maps
open Tt (Tl byd byd_f byd_t)
attribute [local go_sem ↓] Go.wp_at_zero Go.wp_at_succ

theorem times_any {mb tb b cb n : Nat} {v : Value} {f : Tm → Int} {fr : List Tm} (w : World) (h : Mu w mb tb b cb n v f fr) (hn : n * 24 ≤ 140737488355328) :
    Calls Try.prog 13 #[.pointer (some ⟨mb, 0, none⟩)] w fun e w' => ∃ (v : Value) (ks : List Tm), Sup f ks ∧ e = .returned v ∧ w'.ownsRow w.heap.size 24 3 v (stT ks).length (flT (stT ks)) ∧ Below w.heap.size w w' := by
  have hk := mtimes_any w h.tl hn
  have m0 := h.c0
  have hml := h.lt
  clear h
  go_enter Try.func13, Try.ntmps13
  go_wp2_with fail
  refine hk.mono ?_
  rintro e w1 ⟨v1, ks, hS, rfl, ho, hv, hb⟩
  go_wp2
  go_ret
  exact ⟨_, ks, hS, rfl, ho, hb⟩

/-- 'append(own, d)' as a step of a region that draws: d lies in the newest block. -/
theorem step_app1D {w : World} {ops : Array Oper} {o : Oper} {a : Act} {K : Act → World → Prop} {Q : Exit → Act → World → Prop} {E' : Prop} (hgd : o.guard = none) (s x : Operand)
    (ho : o.op = .call { callee := .builtin .append, args := #[s, x], argTypes := #[28, 28] })
    (base : Nat) (v : Value) (n : Nat) (xs : List Value) (hs : a.eval s = v) (hown : w.ownsRow base 33 4 v n xs)
    (t : Dl) (hx : a.eval x = .slice (some ⟨w.heap.size, 0, none⟩) 1 1) (hbig : (n + 1) * 32 ≤ 140737488355328) (hbase : base ≤ w.heap.size)
    (h : ∀ g cap w', w'.ownsRow base 33 4 (.slice (some ⟨g, 0, none⟩) (n + 1) cap) (n + 1) (xs ++ ED.enc t) → w.grownBy w' v.ownBlock → K (a.put o.dst (.slice (some ⟨g, 0, none⟩) (n + 1) cap)) w') :
    if Region.wanted o (yielded ops a.tmps) = true then Oper.wp Try.prog o a (w.alloc (.cells #[.int .u64 t.1.1.1, .int .u64 t.1.1.2.1, .int .u64 t.1.1.2.2, .int .i64 t.2] 33)) K Q else E' := by
  obtain ⟨i0, hi, hz0, hz1, hz2⟩ := info_parts infoDl
  refine step_append_lies _ hgd s x _ ho base 33 i0 _ 4 32 Try.underlying28 hi hz0 hz1 hz2 rfl (by decide) v n xs hs (hown.alloc _) ⟨w.heap.size, 0, none⟩ 1 1 (ED.enc t) hx rfl (World.news_of_block (heap_new' _ _)) (ED.one t) (by decide) (by unfold maxLen; omega) hbig (by simp; omega) _ rfl ?_
  intro g cap w' h1 h2 _ _
  exact h g cap w' h1 ⟨h2.os, h2.tape, h2.output, Nat.le_trans (by simp) h2.size, fun k hk hne => (h2.block k (by simp; omega) hne).trans ((World.grownBy_alloc w _ none).block k hk (by simp))⟩

/-- Deltas whose counts can't leave their range. -/
def sml (l : List Dl) : List Dl := (l.take 1000).map fun d => (d.1, Int.tmod d.2 1000)
theorem sml_length (l : List Dl) : (sml l).length ≤ 1000 := by simp [sml]; omega
theorem tmod_bd (z : Int) : -999 ≤ Int.tmod z 1000 ∧ Int.tmod z 1000 ≤ 999 := by
  have h1 := Int.tmod_lt_of_pos z (show (0 : Int) < 1000 by decide)
  have h2 := Int.lt_tmod_of_pos z (show (0 : Int) < 1000 by decide)
  omega
theorem sml_bd (l : List Dl) : ∀ d ∈ sml l, -999 ≤ d.2 ∧ d.2 ≤ 999 := by
  intro d hd
  obtain ⟨e, _, rfl⟩ := List.mem_map.1 hd
  exact tmod_bd e.2
set_option maxHeartbeats 1000000 in
set_option maxRecDepth 100000 in
theorem small_any (v : Value) (l : List Dl) (w : World) (hv : Ls ED w v l) (hl : l.length ≤ 9223372036854775807) :
    Calls Try.prog 12 #[v] w fun e w' => ∃ v', e = .returned v' ∧ w'.ownsRow w.heap.size 33 4 v' (sml l).length (fl ED (sml l)) ∧ Below w.heap.size w w' := by
  have hmx : Try.prog.follows .mixedOrders = true := by kernel_rfl
  obtain ⟨pl, cl, rfl⟩ := hv.form
  have HL : Hid (Ls ED w (.slice pl l.length cl) l) := hv
  clear hv
  go_enter Try.func12, Try.ntmps12
  go_wp2_with fail
  go_loopw [3, 4] (fun s3 s4 wr => ∃ k : Nat, k ≤ l.length ∧ k ≤ 1000 ∧ s4 = .int .i64 k ∧ Hid (wr.ownsRow w.heap.size 33 4 s3 k (fl ED ((l.take k).map fun d => (d.1, Int.tmod d.2 1000))) ∧ Below w.heap.size w wr)) (fun _ s4 _ => l.length - (RowKit.intOf s4).toNat)
  case atStart => exact ⟨0, Nat.zero_le _, by omega, rfl, World.ownsRow_nil _ _ _ _, Below.refl _ _⟩
  case round =>
    obtain ⟨k, hk, hk2, rfl, HI⟩ := hrel
    by_cases hlt : k < l.length
    · have hltz : (k : Int) < (l.length : Int) := by omega
      by_cases hlt2 : k < 1000
      · have hltz2 : (k : Int) < 1000 := by omega
        obtain ⟨d, hd⟩ : ∃ d, l[k]? = some d := ⟨l[k], by simp⟩
        obtain ⟨b1, o1, c1, e1, z1, x1, x2, x3, x4⟩ := (HL.out.below HI.out.2).at4 hd
        simp only [Value.slice.injEq] at e1
        obtain ⟨rfl, -, rfl⟩ := e1
        have HT : Hid ((l.take (k + 1)).map (fun d => (d.1, Int.tmod d.2 1000)) = (l.take k).map (fun d => (d.1, Int.tmod d.2 1000)) ++ [(d.1, Int.tmod d.2 1000)]) := by
          show _ = _
          rw [List.take_add_one, hd, List.map_append]; rfl
        have ho := owns_below HI.out.1 (Gr.refl wr).drew.below
        clear hd
        have hbz := HI.out.2.size
        go_wp2_with fail
        go_region_law (refine step_app1D rfl (.tmp 15) (.tmp 28) rfl w.heap.size _ k _ (by simp [Act.eval]) ho (d.1, Int.tmod d.2 1000) (by simp [Act.eval]) (by omega) hbz ?_; intro g' cap' w6 ho6 hg6)
        all_goals go_wp2
        all_goals go_roundw
        case rel | rel =>
          refine ⟨k + 1, by omega, by omega, by go_num, ?_, HI.out.2.trans ((Gr.refl wr).drew.below.mono hbz |>.trans ((Kp.grownBy (S := fun j => w.heap.size ≤ j) hg6 (fun j hj => (ho.lt j hj).1)).below hbz (fun _ h => h)))⟩
          rw [HT.out, fl_append, fl_one]
          exact ho6
        case measure | measure => simp [RowKit.intOf]; omega
      · have hltz2 : ¬ (k : Int) < 1000 := by omega
        have hk3 : k = 1000 := by omega
        subst hk3
        go_wp2
        go_ret
        refine ⟨_, rfl, ?_, HI.out.2⟩
        refine owns_re HI.out.1 ?_ rfl
        simp [sml]; omega
    · have hltz : ¬ (k : Int) < (l.length : Int) := by omega
      have hkl : k = l.length := by omega
      subst hkl
      go_wp2
      go_ret
      refine ⟨_, rfl, ?_, HI.out.2⟩
      refine owns_re HI.out.1 ?_ ?_
      · simp [sml]; omega
      · rw [sml, List.take_of_length_le (Nat.le_refl _), List.take_of_length_le hk2]
end Go.Proofs.Yteffgkhpcdboaaa
