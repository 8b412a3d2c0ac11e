import Derived.Test.YtinggeflllgdmaaFits
import Derived.Test.YtinggeflllgdmaaLRow
import Derived.Test.YtinggeflllgdmaaLHold2
import Derived.Laws.EntriesVeiled
import Derived.WalkKit
import Derived.WalkSpells
import Derived.Deep.DrawnRows
import Derived.Deep.DeepCutAuto
import Derived.Deep.LoopGhost
import Derived.Deep.QuietTactic
namespace Go.Proofs.Ytinggeflllgdmaa
open Go.RowKit Go.Sort
attribute [local go_sem ↓] Go.wp_at_zero Go.wp_at_succ

theorem hid {p : Prop} (h : p) : Hid p := h
theorem tk_lt {w : World} {b : Nat} {o : Obj} (h : w.heap[b]? = some o) : b < w.heap.size := (Array.getElem?_eq_some_iff.1 h).1
theorem tk_set {w : World} {b : Nat} {cs : Array Value} {t : TypeId} (h : w.heap[b]? = some (.cells cs t (0, 0))) (i : Nat) (x : Value) : (w.setCell ⟨b, i, none⟩ x).heap[b]? = some (.cells (cs.setIfInBounds i x) t (0, 0)) ∧ Kp (fun k => k = b) w (w.setCell ⟨b, i, none⟩ x) := by
  have e := setCell_eq_setRow w b i _ _ _ x h
  rw [e]
  exact ⟨by rw [setRow_heap w b _ _ _ _ h], rfl, rfl, rfl, by simp [World.setRow], fun k _ hne => setRow_other w b k _ (by omega)⟩
theorem tk_store {w : World} {b : Nat} {cs : Array Value} {t : TypeId} (h : w.heap[b]? = some (.cells cs t (0, 0))) : (∀ i, w.cell? ⟨b, i, none⟩ = cs[i]?) ∧ ∀ i, w.frozen? ⟨b, i, none⟩ = false := by
  refine ⟨fun i => by simp [World.cell?, h], fun i => by simp [World.frozen?, h]⟩

/-- A time: three numbers. -/
abbrev T3 := Int × Int × Int
abbrev tv (t : T3) : Value := .agg #[.int .u64 t.1, .int .u64 t.2.1, .int .u64 t.2.2]
/-- What an input is just now: open since a time, or closed. -/
abbrev opn (t : T3) : Value := .iface 51 (tv t)
abbrev cls : Value := .iface 58 (.agg #[])
def now : Option T3 → Value
  | some t => opn t
  | none => cls
/-- An input: its block. -/
def So (w : World) (b : Nat) (n : Int) (s : Option T3) : Prop := w.heap[b]? = some (.cells #[.int .i64 n, now s] 55 (0, 0))
theorem So.kp {S : Nat → Prop} {w w' : World} {b : Nat} {n : Int} {s : Option T3} (h : So w b n s) (hk : Kp S w w') (hS : ¬ S b) : So w' b n s := (hk.block b (tk_lt h) hS).trans h
theorem So.below {w w' : World} {b : Nat} {n : Int} {s : Option T3} (h : So w b n s) (hb : Below w.heap.size w w') : So w' b n s := (hb.block b (tk_lt h)).trans h
theorem So.cells {w : World} {b : Nat} {n : Int} {s : Option T3} (h : So w b n s) : w.cell? ⟨b, 0, none⟩ = some (.int .i64 n) ∧ w.cell? ⟨b, 1, none⟩ = some (now s) ∧ w.frozen? ⟨b, 1, none⟩ = false ∧ b < w.heap.size :=
  ⟨((tk_store h).1 0).trans rfl, ((tk_store h).1 1).trans rfl, (tk_store h).2 1, tk_lt h⟩
/-- What Send answers, what Epoch does. -/
def snx (t : T3) : Option T3 → Int
  | none => 45
  | some u => if tle u.1 u.2.1 u.2.2 t.1 t.2.1 t.2.2 then 0 else 46
def snd (n : Int) (s : Option T3) (t : T3) : Int := if tfits t.1 t.2.1 t.2.2 n = 0 then snx t s else 10
def ep (s : Option T3) : Value := .tuple #[tv (s.getD (0, 0, 0)), .bool s.isSome]
theorem tfits_two (a b c n : Int) : tfits a b c n = 0 ∨ tfits a b c n = 10 := by unfold tfits; repeat (first | split | simp)

theorem md_os (t : T3) (w : World) : (method 189 51 (tv t) "sluice/source.maySend").run Try.prog w = .ok (44, tv t) w := by kernel_rfl
theorem md_oc (t : T3) (w : World) : (method 189 51 (tv t) "sluice/source.mayClose").run Try.prog w = .ok (43, tv t) w := by kernel_rfl
theorem md_oe (t : T3) (w : World) : (method 189 51 (tv t) "sluice/source.epoch").run Try.prog w = .ok (42, tv t) w := by kernel_rfl
theorem md_cs (w : World) : (method 189 58 (.agg #[]) "sluice/source.maySend").run Try.prog w = .ok (50, .agg #[]) w := by kernel_rfl
theorem md_cc (w : World) : (method 189 58 (.agg #[]) "sluice/source.mayClose").run Try.prog w = .ok (49, .agg #[]) w := by kernel_rfl
theorem md_ce (w : World) : (method 189 58 (.agg #[]) "sluice/source.epoch").run Try.prog w = .ok (48, .agg #[]) w := by kernel_rfl

set_option maxHeartbeats 1000000 in
theorem oSend_any (u t : T3) (w : World) : Calls Try.prog 44 #[tv u, tv t] w fun e w' => e = .returned (.int .i64 (if tle u.1 u.2.1 u.2.2 t.1 t.2.1 t.2.2 then 0 else 46)) ∧ Gr w w' := by
  obtain ⟨a, b, c⟩ := u
  obtain ⟨x, y, z⟩ := t
  have HA := fun W => Ahead_any a b c x y z W
  simp only [tv]
  cases hq : tle a b c x y z <;> rw [hq] at HA <;> clear hq
  all_goals go_enter Try.func44, Try.ntmps44
  all_goals go_wp2_with (go_at_call 45; refine (HA _).mono ?_; rintro e w1 ⟨rfl, hg⟩)
  all_goals go_ret
  all_goals exact ⟨rfl, (((Gr.refl _).alloc _).alloc _).trans hg⟩
set_option maxHeartbeats 1000000 in
theorem oClose_any (u : T3) (w : World) : Calls Try.prog 43 #[tv u] w fun e w' => e = .returned (.int .i64 0) ∧ Gr w w' := by
  simp only [tv]
  go_enter Try.func43, Try.ntmps43
  go_wp2
  go_ret
  exact ⟨rfl, (Gr.refl _).alloc _⟩
set_option maxHeartbeats 1000000 in
theorem oEpoch_any (u : T3) (w : World) : Calls Try.prog 42 #[tv u] w fun e w' => e = .returned (ep (some u)) ∧ Gr w w' := by
  simp only [tv, ep, Option.getD_some, Option.isSome_some]
  go_enter Try.func42, Try.ntmps42
  go_wp2
  exact bodyPost_ret (v := .tuple #[tv u, .bool true]) (by simp [results, Try.results42, go_sem]) rfl ⟨rfl, (((Gr.refl _).alloc _).alloc _)⟩
set_option maxHeartbeats 1000000 in
theorem cSend_any (t : T3) (w : World) : Calls Try.prog 50 #[.agg #[], tv t] w fun e w' => e = .returned (.int .i64 45) ∧ Gr w w' := by
  simp only [tv]
  go_enter Try.func50, Try.ntmps50
  go_wp2
  go_ret
  exact ⟨rfl, (((Gr.refl _).alloc _).alloc _)⟩
set_option maxHeartbeats 1000000 in
theorem cClose_any (w : World) : Calls Try.prog 49 #[.agg #[]] w fun e w' => e = .returned (.int .i64 45) ∧ Gr w w' := by
  go_enter Try.func49, Try.ntmps49
  go_wp2
  go_ret
  exact ⟨rfl, (Gr.refl _).alloc _⟩
set_option maxHeartbeats 1000000 in
theorem cEpoch_any (w : World) : Calls Try.prog 48 #[.agg #[]] w fun e w' => e = .returned (ep none) ∧ Gr w w' := by
  simp only [tv, ep, Option.getD_none, Option.isSome_none]
  go_enter Try.func48, Try.ntmps48
  go_wp2
  exact bodyPost_ret (v := .tuple #[tv (0, 0, 0), .bool false]) (by simp [results, Try.results48, go_sem]) rfl ⟨rfl, (((Gr.refl _).alloc _).alloc _)⟩
set_option maxHeartbeats 1000000 in
theorem state_any {b : Nat} {n : Int} {s : Option T3} (w : World) (h : So w b n s) : Calls Try.prog 16 #[.pointer (some ⟨b, 0, none⟩)] w fun e w' => e = .returned (now s) ∧ w' = w := by
  obtain ⟨h0, h1, -, hb⟩ := h.cells
  cases s
  all_goals simp only [now] at h1 ⊢
  all_goals go_enter Try.func16, Try.ntmps16
  all_goals go_wp2
  all_goals go_ret
  all_goals exact ⟨rfl, rfl⟩
end Go.Proofs.Ytinggeflllgdmaa
