import Derived.Test.YtnpmmodcmfgbjaaGreatMSn
import Derived.Test.YtnpmmodcmfgbjaaGreatMEqT
namespace Go.Proofs.YtnpmmodcmfgbjaaGreat
open Go.RowKit Go.Sort Go.Maps
open Tt (Tl byd byd_f byd_t)
attribute [local go_sem ↓] Go.wp_at_zero Go.wp_at_succ

theorem times_any {mb tb b cb n : Nat} {v : Value} {f : Tm → Int} {fr : List Tm} (w : World) (h : Mu w mb tb b cb n v f fr) (hn : n * 24 ≤ 140737488355328) :
    Calls Tryz.prog 16 #[.pointer (some ⟨mb, 0, none⟩)] w fun e w' => ∃ (v : Value) (ks : List Tm), Sup f ks ∧ e = .returned v ∧ w'.ownsRow w.heap.size 37 3 v (stT ks).length (flT (stT ks)) ∧ Below w.heap.size w w' := by
  have hk := mtimes_any w h.tl hn
  have m0 := h.c0
  have hml := h.lt
  clear h
  go_enter Tryz.func16, Tryz.ntmps16
  go_wp2_with fail
  refine hk.mono ?_
  rintro e w1 ⟨v1, ks, hS, rfl, ho, hv, hb⟩
  go_wp2
  go_ret
  exact ⟨_, ks, hS, rfl, ho, hb⟩

/-- 'append(own, d)' as a step of a region that draws: d lies in the newest block. -/
theorem step_app1D {w : World} {ops : Array Oper} {o : Oper} {a : Act} {K : Act → World → Prop} {Q : Exit → Act → World → Prop} {E' : Prop} (hgd : o.guard = none) (s x : Operand)
    (ho : o.op = .call { callee := .builtin .append, args := #[s, x], argTypes := #[38, 38] })
    (base : Nat) (v : Value) (n : Nat) (xs : List Value) (hs : a.eval s = v) (hown : w.ownsRow base 54 4 v n xs)
    (t : Dl) (hx : a.eval x = .slice (some ⟨w.heap.size, 0, none⟩) 1 1) (hbig : (n + 1) * 32 ≤ 140737488355328) (hbase : base ≤ w.heap.size)
    (h : ∀ g cap w', w'.ownsRow base 54 4 (.slice (some ⟨g, 0, none⟩) (n + 1) cap) (n + 1) (xs ++ ED.enc t) → w.grownBy w' v.ownBlock → K (a.put o.dst (.slice (some ⟨g, 0, none⟩) (n + 1) cap)) w') :
    if Region.wanted o (yielded ops a.tmps) = true then Oper.wp Tryz.prog o a (w.alloc (.cells #[.int .u64 t.1.1.1, .int .u64 t.1.1.2.1, .int .u64 t.1.1.2.2, .int .i64 t.2] 54)) K Q else E' := by
  obtain ⟨i0, hi, hz0, hz1, hz2⟩ := info_parts infoDl
  refine step_append_lies _ hgd s x _ ho base 54 i0 _ 4 32 Tryz.underlying38 hi hz0 hz1 hz2 rfl (by decide) v n xs hs (hown.alloc _) ⟨w.heap.size, 0, none⟩ 1 1 (ED.enc t) hx rfl (World.news_of_block (heap_new' _ _)) (ED.one t) (by decide) (by unfold maxLen; omega) hbig (by simp; omega) _ rfl ?_
  intro g cap w' h1 h2 _ _
  exact h g cap w' h1 ⟨h2.os, h2.tape, h2.output, Nat.le_trans (by simp) h2.size, fun k hk hne => (h2.block k (by simp; omega) hne).trans ((World.grownBy_alloc w _ none).block k hk (by simp))⟩

/-- Deltas whose counts can't leave their range. -/
def sml (l : List Dl) : List Dl := (l.take 1000).map fun d => (d.1, Int.tmod d.2 1000)
theorem sml_length (l : List Dl) : (sml l).length ≤ 1000 := by simp [sml]; omega
theorem tmod_bd (z : Int) : -999 ≤ Int.tmod z 1000 ∧ Int.tmod z 1000 ≤ 999 := by
  have h1 := Int.tmod_lt_of_pos z (show (0 : Int) < 1000 by decide)
  have h2 := Int.lt_tmod_of_pos z (show (0 : Int) < 1000 by decide)
  omega
theorem sml_bd (l : List Dl) : ∀ d ∈ sml l, -999 ≤ d.2 ∧ d.2 ≤ 999 := by
  intro d hd
  obtain ⟨e, _, rfl⟩ := List.mem_map.1 hd
  exact tmod_bd e.2
end Go.Proofs.YtnpmmodcmfgbjaaGreat
