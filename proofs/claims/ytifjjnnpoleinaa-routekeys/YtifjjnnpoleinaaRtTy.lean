import Derived.Test.YtifjjnnpoleinaaRtBase
import Derived.Test.YtifjjnnpoleinaaGEdgS
namespace Go.Proofs.Ytifjjnnpoleinaa.Df
open Go.RowKit Go.Sort
attribute [local go_sem ↓] Go.wp_at_zero Go.wp_at_succ

/-- A time and a record. -/
structure Rx where
  a : Int
  b : Int
  c : Int
  key : Nat
  val : Int
  deriving DecidableEq
/-- A message with its worker. -/
structure Ot where
  wk : Int
  at_ : Int
  x : Rx
  deriving DecidableEq
def otc (o : Ot) : Array Value := #[.int .i64 o.wk, .int .i64 o.at_, .int .u64 o.x.a, .int .u64 o.x.b, .int .u64 o.x.c, .int .u64 (o.x.key : Nat), .int .u64 o.x.val]
def EOt : El Ot where
  k := 7
  enc o := (otc o).toList
  len _ := rfl
  one o := by
    intro u hu
    simp only [otc, List.mem_cons, List.not_mem_nil, or_false] at hu
    rcases hu with rfl | rfl | rfl | rfl | rfl | rfl | rfl <;> rfl
theorem infoOt : (Try.prog.info? 51).map (fun i => (i.zero, i.size, i.bytes)) = some (some (.agg #[.int .i64 0, .int .i64 0, .int .u64 0, .int .u64 0, .int .u64 0, .int .u64 0, .int .u64 0]), 7, 56) := by kernel_rfl
/-- The message along an edge. -/
def mkO (g : Gph) (x : Rx) (own m : Int) (e : Int) : Ot := match g.edges[e.toNat]? with
  | some d => ⟨alg d.keyed x.key own m, inN g.nodes d.dst d.inn, x⟩
  | none => ⟨0, 0, x⟩
/-- What a record becomes. -/
def sends (g : Gph) (k : Int) (x : Rx) (own m : Int) : List Ot := if (1 ≤ m ∧ m ≤ 8) ∧ 0 ≤ own ∧ own < m ∧ (ofN g.nodes k).2.2 = false then (edN g k).map (mkO g x own m) else []
theorem sends_len {B gb : Nat} {g : Gph} {w : World} (h : Gm B w gb g) (k : Int) (x : Rx) (own m : Int) : (sends g k x own m).length ≤ 48 := by
  obtain ⟨nv, ev, fv, pv, ys, ss, h⟩ := h
  have h2 := h.ok.el
  unfold sends
  split
  · rw [List.length_map]
    unfold edN
    split
    · have h1 := edgesU_length g.nodes g.edges k.toNat g.edges.length
      omega
    · simp
  · simp
theorem isin_any {B gb : Nat} {g : Gph} (k : Int) (w : World) (h : Gm B w gb g) : Calls Try.prog 25 #[.pointer (some ⟨gb, 0, none⟩), .int .i64 k] w fun r w' => r = .returned (.bool (ofN g.nodes k).2.2) ∧ Gr w w' := by
  have ho := gof_any k w h
  generalize ofN g.nodes k = z at ho ⊢
  go_enter Try.func25, Try.ntmps25
  go_wp2_with fail
  refine ho.mono ?_
  rintro r w1 ⟨rfl, g1⟩
  go_wp2_with fail
  go_ret
  exact ⟨rfl, g1⟩
/-- The boxes that a round of Send reads. -/
structure Sb (X : World) (g0 tb rb ob wb lb db gb : Nat) (x : Rx) (own m : Int) (v : Value) (d : Edg) : Prop where
  g : X.heap[g0]? = some (.cells #[.pointer (some ⟨gb, 0, none⟩)] 34 (0, 0))
  t : X.heap[tb]? = some (.cells #[.int .u64 x.a, .int .u64 x.b, .int .u64 x.c] 28 (0, 0))
  r : X.heap[rb]? = some (.cells #[.int .u64 (x.key : Nat), .int .u64 x.val] 30 (0, 0))
  o : X.heap[ob]? = some (.cells #[.int .i64 own] 3 (0, 0))
  w : X.heap[wb]? = some (.cells #[.int .i64 m] 3 (0, 0))
  l : X.heap[lb]? = some (.cells #[v] 40 (0, 0))
  d : X.heap[db]? = some (.cells #[.int .i64 d.src, .int .i64 d.out, .int .i64 d.dst, .int .i64 d.inn, .bool d.keyed] 47 (0, 0))
theorem Sb.kp {X Y : World} {g0 tb rb ob wb lb db gb : Nat} {x : Rx} {own m : Int} {v v' : Value} {d : Edg} {B n : Nat} {xs : List Value} (h : Sb X g0 tb rb ob wb lb db gb x own m v d) (hr : X.ownsRow B 51 7 v' n xs) (k : Kp (fun j => v'.ownBlock = some j) X Y) : Sb Y g0 tb rb ob wb lb db gb x own m v d :=
  ⟨(k.block _ (tk_lt h.g) (fun e => owns_ne_blk hr h.g (by decide) _ e rfl)).trans h.g, (k.block _ (tk_lt h.t) (fun e => owns_ne_blk hr h.t (by decide) _ e rfl)).trans h.t, (k.block _ (tk_lt h.r) (fun e => owns_ne_blk hr h.r (by decide) _ e rfl)).trans h.r, (k.block _ (tk_lt h.o) (fun e => owns_ne_blk hr h.o (by decide) _ e rfl)).trans h.o, (k.block _ (tk_lt h.w) (fun e => owns_ne_blk hr h.w (by decide) _ e rfl)).trans h.w, (k.block _ (tk_lt h.l) (fun e => owns_ne_blk hr h.l (by decide) _ e rfl)).trans h.l, (k.block _ (tk_lt h.d) (fun e => owns_ne_blk hr h.d (by decide) _ e rfl)).trans h.d⟩
end Go.Proofs.Ytifjjnnpoleinaa.Df
