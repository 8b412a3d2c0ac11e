import Derived.Test.YtpnjpdnjapfjlaaCoMap4
import Derived.Test.YtpnjpdnjapfjlaaCoPass
import Derived.Test.YtpnjpdnjapfjlaaCoKn
import Derived.Test.YtpnjpdnjapfjlaaPOps
namespace Go.Proofs.Ytpnjpdnjapfjlaa.Cd
open Go.RowKit Go.Sort
attribute [local go_sem ↓] Go.wp_at_zero Go.wp_at_succ

/-- Three numbers of 64 bits: a time. -/
structure T3 where
  a : Nat
  b : Nat
  c : Nat
def T3.ok (t : T3) : Prop := t.a < 18446744073709551616 ∧ t.b < 18446744073709551616 ∧ t.c < 18446744073709551616
abbrev T3.v (t : T3) : Value := .agg #[.int .u64 t.a, .int .u64 t.b, .int .u64 t.c]
/-- A node without its code. -/
structure Nd where
  kind : Int
  ins : Int
  outs : Int
  y : T3
  bd : Nat
  cp : Option Addr
  cn : Nat
  cc : Nat
  st : Bool
abbrev Nd.v (x : Nd) (p : Option Addr) (n c : Nat) : Value := .agg #[.int .i64 x.kind, .int .i64 x.ins, .int .i64 x.outs, .slice p n c, .int .u64 x.y.a, .int .u64 x.y.b, .int .u64 x.y.c, .int .u64 x.bd, .slice x.cp x.cn x.cc, .bool x.st]
/-- Within the bound? -/
def okp (a by_ bd : Nat) : Bool := decide (by_ = 0) || (decide (a + by_ < 18446744073709551616) && decide (a + by_ ≤ bd))
def lok (x : Nd) (t : T3) : Bool := okp t.a x.y.a x.bd && (okp t.b x.y.b x.bd && okp t.c x.y.c x.bd)
def most (by_ bd : Nat) : Nat := if by_ = 0 then 18446744073709551615 else bd
/-- What becomes of a record. -/
def ndo (x : Nd) (l : List Op2) (t : T3) (r : Rc) : T3 × Rc × Bool :=
  if x.kind = 2 then (t, mapL l r, true)
  else if x.kind = 3 then (if passL l r then (t, r, true) else (⟨0, 0, 0⟩, ⟨0, 0⟩, false))
  else if x.kind = 5 then (if lok x t then (⟨t.a + x.y.a, t.b + x.y.b, t.c + x.y.c⟩, r, true) else (⟨0, 0, 0⟩, ⟨0, 0⟩, false))
  else (t, r, true)
def newE (k : Int) (l : List Op2) : Int := if k = 2 ∨ k = 3 then chk k l else if k = 4 ∨ k = 5 then 0 else 20
abbrev tup (d : T3 × Rc × Bool) : Value := .tuple #[d.1.v, rv d.2.1, .bool d.2.2]

theorem lok_eq (x : Nd) (t : T3) (ht : t.ok) : (pok x.y.a x.y.b x.y.c t.a t.b t.c && tle ((x.y.a + t.a : Nat) : Int) ((x.y.b + t.b : Nat) : Int) ((x.y.c + t.c : Nat) : Int) (most x.y.a x.bd : Nat) (most x.y.b x.bd : Nat) (most x.y.c x.bd : Nat)) = lok x t := by
  obtain ⟨h1, h2, h3⟩ := ht
  have one : ∀ a y : Nat, a < 18446744073709551616 → ((decide (y + a < 18446744073709551616) && decide (((y + a : Nat) : Int) ≤ ((most y x.bd : Nat) : Int))) = okp a y x.bd) := fun a y ha => by
    unfold okp most
    by_cases hy : y = 0
    · subst hy
      simp
      omega
    · simp only [hy, decide_false, if_false, Bool.false_or, Nat.add_comm a y, Int.ofNat_le]
  unfold lok
  rw [← one t.a x.y.a h1, ← one t.b x.y.b h2, ← one t.c x.y.c h3]
  unfold pok tle
  generalize decide (x.y.a + t.a < 18446744073709551616) = p1
  generalize decide (x.y.b + t.b < 18446744073709551616) = p2
  generalize decide (x.y.c + t.c < 18446744073709551616) = p3
  generalize decide (((x.y.a + t.a : Nat) : Int) ≤ ((most x.y.a x.bd : Nat) : Int)) = q1
  generalize decide (((x.y.b + t.b : Nat) : Int) ≤ ((most x.y.b x.bd : Nat) : Int)) = q2
  generalize decide (((x.y.c + t.c : Nat) : Int) ≤ ((most x.y.c x.bd : Nat) : Int)) = q3
  cases p1 <;> cases p2 <;> cases p3 <;> cases q1 <;> cases q2 <;> cases q3 <;> rfl

set_option maxHeartbeats 1000000 in
theorem letGo_any (w : World) : Calls Try.prog 46 #[] w fun e w' => e = .returned (tup (⟨0, 0, 0⟩, ⟨0, 0⟩, false)) ∧ Below w.heap.size w w' := by
  go_enter Try.func46, Try.ntmps46
  go_wp2_with fail
  refine bodyPost_ret (v := tup (⟨0, 0, 0⟩, ⟨0, 0⟩, false)) (by simp [results, Try.results46, go_sem, *]) rfl ⟨rfl, ?_⟩
  have hB : Below w.heap.size w ((w.alloc (.cells #[.int .u64 0, .int .u64 0, .int .u64 0] 29)).alloc (.cells #[.int .u64 0, .int .u64 0] 31)) := (((Gr.refl _).alloc _).alloc _).below
  exact hB
set_option maxHeartbeats 1000000 in
theorem mostOf_any (y bd : Nat) (w : World) : Calls Try.prog 17 #[.int .u64 y, .int .u64 bd] w fun e w' => e = .returned (.int .u64 (most y bd : Nat)) ∧ w' = w := by
  unfold most
  by_cases h : y = 0
  · subst h
    go_enter Try.func17, Try.ntmps17
    go_wp2_with fail
    go_ret
    exact ⟨rfl, rfl⟩
  · rw [if_neg h]
    have hb : ((y : Int) == 0) = false := by simp; omega
    go_enter Try.func17, Try.ntmps17
    go_wp2_with fail
    go_ret
    exact ⟨rfl, rfl⟩
end Go.Proofs.Ytpnjpdnjapfjlaa.Cd
