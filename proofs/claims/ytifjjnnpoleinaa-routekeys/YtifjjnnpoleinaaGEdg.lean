import Derived.RangeFuncNested
import Derived.RangeFuncBound
import Derived.RangeFuncCalls
import Derived.RangeFuncLeaves
import Derived.RangeFuncFrom
import Derived.RangeFuncBox
import Derived.Shelf.Abstract
import Derived.Shelf.RegionOpen
import Derived.WalkKit
import Derived.OwnWalkIn
import Derived.TacticsInMore
import Derived.LoopNIn
import Derived.LoopIn
import Derived.Maps.AppendAt
import Derived.Sort.QuietIn
import Derived.Test.YtifjjnnpoleinaaGOf
namespace Go.Proofs.Ytifjjnnpoleinaa.Df
open Go.RowKit Go.Sort Go.Shelf
attribute [local go_sem] Oper.semAt_some

theorem edges_in {n : Nat} {gb : Nat} (k : Int) (w : World) : CallsIn Fence.wide n Try.prog 10 #[.pointer (some ⟨gb, 0, none⟩), .int .i64 k] w fun e w' => e = .returned (.func (.func 28) #[] #[.pointer (some ⟨w.heap.size + 1, 0, none⟩), .pointer (some ⟨w.heap.size, 0, none⟩)]) ∧ w' = (w.alloc (.cells #[.pointer (some ⟨gb, 0, none⟩)] 34)).alloc (.cells #[.int .i64 k] 3) := by
  refine callsIn_wide.2 ?_
  go_enter Try.func10, Try.ntmps10
  go_wp2_with fail
  go_ret
  exact ⟨by simp, rfl⟩
/-- The edges at a place. -/
def edN (g : Gph) (k : Int) : List Int := if 0 ≤ k ∧ k < (plN g.nodes : Int) then edgesU g.nodes g.edges k.toNat g.edges.length else []
theorem abides_gr {J : List Int → World → Prop} {B : Nat} (h : AbidesFrom B J) {W W' : World} (hg : Gr W W') {pre : List Int} (h0 : J pre W) : J pre W' := h pre W W' none h0 ⟨hg.below.os, hg.below.tape, hg.below.output, hg.below.size, fun k hk _ => hg.below.block k hk⟩ (fun r e => by cases e)
theorem ls_low {α : Type} {E : El α} {n₀ : Nat} {W W' : World} {v : Value} {L : List α} (h : Ls E W v L) (hb : Below n₀ W W') (hq : ∀ b, v.ownBlock = some b → b < n₀) : Ls E W' v L :=
  Kp.ls (S := fun k => n₀ ≤ k) ⟨hb.os, hb.tape, hb.output, hb.size, fun k _ hS => hb.block k (by omega)⟩ h (fun k e => by have := hq k e; omega)
theorem take_snoc {α : Type} {L : List α} {k : Nat} {x : α} (hx : L[k]? = some x) : L.take k ++ [x] = L.take (k + 1) := by rw [List.take_add_one, hx]; rfl
set_option maxRecDepth 100000 in
set_option maxHeartbeats 2000000 in
theorem edges1_in (n : Nat) (hn : 1 ≤ n) (l Bp Bg n₀ : Nat) {B gb j : Nat} {g : Gph} {nv ev fv pv : Value} {ys : List NV} {ss : List SV} {s : SV} {L : List Int} (J Jx : List Int → World → Prop)
    (hY : ∀ pre x W, J pre W → pre.length < L.length → YieldAt Fence.wide (n - 1) Try.prog l #[.int .i64 x] W fun e W' => (e = .returned (.bool true) ∧ J (pre ++ [x]) W' ∧ Below n₀ W W') ∨ (e = .returned (.bool false) ∧ Jx (pre ++ [x]) W'))
    (W : World) (hJ : AbidesFrom W.heap.size J) (h : Gp B W gb g nv ev fv pv ys ss) (hs : ss[j]? = some s) (hL : W.ownsRow B 3 1 s.ev L.length (fl EI L)) (hq : ∀ b, s.ev.ownBlock = some b → b < n₀) (hBp : W.cell? ⟨Bp, 0, none⟩ = some (.int .i64 (j : Nat))) (hBg : W.cell? ⟨Bg, 0, none⟩ = some (.pointer (some ⟨gb, 0, none⟩))) (hLl : L.length ≤ 1000) (h0 : J [] W) :
    CallsIn Fence.wide n Try.prog 28 #[.func (.yield l) #[] #[], .pointer (some ⟨Bp, 0, none⟩), .pointer (some ⟨Bg, 0, none⟩)] W fun e W' => (∃ v, e = .returned v) ∧ ((∃ zs, zs = L ∧ J zs W') ∨ (∃ pre, pre <+: L ∧ Jx pre W')) := by
  have hjs : j < ss.length := (List.getElem?_eq_some_iff.1 hs).1
  have hlen := h.rows.len
  have hP := fun (n : Nat) (W' : World) (hb : Below W.heap.size W W') => callsIn_wide (n := n).2 (gplaces_any W' (Gm.below ⟨nv, ev, fv, pv, ys, ss, h⟩ hb))
  have hA := fun (n : Nat) (W' : World) => callsIn_wide (n := n).2 (among_any (j : Int) (plN g.nodes : Nat) W')
  rw [decide_eq_true (by unfold plN; omega)] at hA
  have cg := (tk_store h.rows.blk).1
  have lg := tk_lt h.rows.blk
  obtain ⟨b1, o1, c1, rfl, hb1, x1, x2, x3, x4⟩ := ls_atS (owns_ls (E := ES) h.rows.sp) hs
  obtain ⟨sn, sp, si, sq, sm, sc⟩ := s
  simp only [SV.ev] at x4 hL hq
  have hm := (owns_caps hL _ _ _ rfl).1
  subst hm
  have HLs := hid (owns_ls (E := EI) hL)
  have HQ := hid hq
  have HJ := hid hJ
  have H0 := hid h0
  have HY := hid hY
  have hjz : (j : Int) < (ss.length : Int) := by omega
  have hj0 : (0 : Int) ≤ (j : Int) := by omega
  refine callsIn_of_wp Try.func28 rfl trivial ?_ rfl
  simp only [Try.ntmps28, List.size_toArray, List.length_cons, List.length_nil, Nat.reduceAdd, Nat.reduceSub, Array.replicate_succ, Array.replicate_zero, List.push_toArray, List.append_toArray, List.nil_append, List.cons_append]
  have hmx : Try.prog.follows .mixedOrders = true := by kernel_rfl
  gi_wp2
  gi_region_with_o (first | (refine ⟨trivial, ?_⟩; gi_at_call 11; refine (hP _ W.drew (Gr.refl W).drew.below).mono ?_; rintro e w' ⟨rfl, rfl⟩) | (refine ⟨trivial, ?_⟩; gi_at_call 23; refine (hA _ W.drew).mono ?_; rintro e w' ⟨rfl, rfl⟩))
  all_goals (
    go_simp
    gi_wp2
    gi_quiet (fail)
    gi_wp2
    clear hP hA
    gi_loopw [20] (fun i wr => ∃ k : Nat, k ≤ L.length ∧ i = .int .i64 k ∧ Hid (J (L.take k) wr) ∧ Hid (Ls EI wr (.slice sq L.length sc) L)) (fun i _ => L.length - (intOf i).toNat)
    case atStart => exact ⟨0, Nat.zero_le _, rfl, by rw [List.take_zero]; exact abides_gr HJ.out ((Gr.refl W).drew.drewN _) H0.out, HLs.out.below ((Gr.refl W).drew.drewN _).below⟩
    case round =>
      obtain ⟨k, hk, rfl, hJs, hls⟩ := hrel
      by_cases hlt : k < L.length
      · obtain ⟨x, hx⟩ : ∃ x, L[k]? = some x := ⟨L[k], List.getElem?_eq_getElem hlt⟩
        obtain ⟨b2, o2, c2, e2, hb2, y2⟩ := ls_atI hls.out hx
        simp only [Value.slice.injEq] at e2
        obtain ⟨rfl, -, rfl⟩ := e2
        obtain ⟨fn, tmps, assign, body, hy, hR⟩ := HY.out (L.take k) x wr hJs.out (by simp; omega)
        have hkz : (k : Int) < (L.length : Int) := by omega
        gi_wp2
        refine hR.mono ?_
        rintro e W3 (⟨rfl, hJ3, hk3⟩ | ⟨rfl, hJx3⟩)
        · gi_wp2
          go_roundw
          case rel => exact ⟨k + 1, by omega, by simp, by rw [← take_snoc hx]; exact hJ3, ls_low hls.out hk3 HQ.out⟩
          case measure => simp [intOf]; omega
        · gi_wp2
          refine bodyPost_ret (results_none rfl _ _ _) rfl ?_
          exact ⟨⟨_, rfl⟩, .inr ⟨_, by rw [take_snoc hx]; exact List.take_prefix _ _, hJx3⟩⟩
      · have hkz : ¬ (k : Int) < (L.length : Int) := by omega
        gi_wp2
        go_end0
        exact ⟨⟨_, rfl⟩, .inl (by have h := hJs.out; rwa [List.take_of_length_le (by omega)] at h)⟩)
set_option maxRecDepth 100000 in
set_option maxHeartbeats 2000000 in
theorem edges1_none (n : Nat) (hn : 1 ≤ n) (l Bp Bg : Nat) {B gb : Nat} {k : Int} {g : Gph} (J : List Int → World → Prop) (W : World) (hJ : AbidesFrom W.heap.size J) (h : Gm B W gb g) (hk : ¬ (0 ≤ k ∧ k < (plN g.nodes : Int))) (hBp : W.cell? ⟨Bp, 0, none⟩ = some (.int .i64 k)) (hBg : W.cell? ⟨Bg, 0, none⟩ = some (.pointer (some ⟨gb, 0, none⟩))) (h0 : J [] W) :
    CallsIn Fence.wide n Try.prog 28 #[.func (.yield l) #[] #[], .pointer (some ⟨Bp, 0, none⟩), .pointer (some ⟨Bg, 0, none⟩)] W fun e W' => (∃ v, e = .returned v) ∧ Hid (J [] W') := by
  have hP := fun (n : Nat) (W' : World) (hb : Below W.heap.size W W') => callsIn_wide (n := n).2 (gplaces_any W' (h.below hb))
  have hA := fun (n : Nat) (W' : World) => callsIn_wide (n := n).2 (among_any k (plN g.nodes : Nat) W')
  rw [decide_eq_false hk] at hA
  have HJ := hid hJ
  have H0 := hid h0
  refine callsIn_of_wp Try.func28 rfl trivial ?_ rfl
  simp only [Try.ntmps28, List.size_toArray, List.length_cons, List.length_nil, Nat.reduceAdd, Nat.reduceSub, Array.replicate_succ, Array.replicate_zero, List.push_toArray, List.append_toArray, List.nil_append, List.cons_append]
  have hmx : Try.prog.follows .mixedOrders = true := by kernel_rfl
  gi_wp2
  gi_region_with_o (first | (refine ⟨trivial, ?_⟩; gi_at_call 11; refine (hP _ W.drew (Gr.refl W).drew.below).mono ?_; rintro e w' ⟨rfl, rfl⟩) | (refine ⟨trivial, ?_⟩; gi_at_call 23; refine (hA _ W.drew).mono ?_; rintro e w' ⟨rfl, rfl⟩))
  all_goals (
    go_simp
    gi_wp2
    refine bodyPost_ret (results_none rfl _ _ _) rfl ?_
    exact ⟨⟨_, rfl⟩, abides_gr HJ.out (Gr.refl W).drew H0.out⟩)
/-- What the closure that Edges hands back gives. -/
theorem edges_stops (n : Nat) (hn : 1 ≤ n) (Bp Bg : Nat) {B gb : Nat} (k : Int) {g : Gph} (w : World) (n₀ : Nat) (hm : Gm B w gb g) (hn₀ : w.heap.size ≤ n₀) (w1 : World) (h1 : Below w.heap.size w w1) (hBp : w1.cell? ⟨Bp, 0, none⟩ = some (.int .i64 k)) (hBg : w1.cell? ⟨Bg, 0, none⟩ = some (.pointer (some ⟨gb, 0, none⟩))) (hbp : Bp < w1.heap.size) (hbg : Bg < w1.heap.size) :
    SeqStopsK Fence.wide n Try.prog 28 #[.pointer (some ⟨Bp, 0, none⟩), .pointer (some ⟨Bg, 0, none⟩)] (fun x : Int => #[Value.int .i64 x]) (Below n₀) (fun zs => zs = edN g k) (fun pre => pre <+: edN g k) (edN g k).length w1 := fun l J Jx W hW hJ _ hY h0 => by
  have hb := h1.trans (hW.mono h1.size)
  have cp := (hW.cell (p := ⟨Bp, 0, none⟩) hbp).trans hBp
  have cg := (hW.cell (p := ⟨Bg, 0, none⟩) hbg).trans hBg
  by_cases hk : 0 ≤ k ∧ k < (plN g.nodes : Int)
  · obtain ⟨nv, ev, fv, pv, ys, ss, h⟩ := hm
    obtain ⟨j, rfl⟩ : ∃ j : Nat, k = (j : Int) := ⟨k.toNat, by omega⟩
    have hlen := h.rows.len
    have hj : j < ss.length := by unfold plN at hk; omega
    have e : edN g (j : Int) = edgesU g.nodes g.edges j g.edges.length := by
      unfold edN
      rw [if_pos hk, Int.toNat_natCast]
    have hr := h.rows.each j ss[j] (List.getElem?_eq_getElem hj)
    rw [e] at hY ⊢
    exact edges1_in n hn l Bp Bg n₀ J Jx hY W hJ (h.below hb) (List.getElem?_eq_getElem hj) (owns_below hr hb) (fun b hb => by have := (owns_rd hr b hb).2; omega) cp cg (by have h1 := edgesU_length g.nodes g.edges j g.edges.length; have h2 := h.ok.el; omega) h0
  · have e : edN g k = [] := by unfold edN; rw [if_neg hk]
    rw [e]
    exact (edges1_none n hn l Bp Bg J W hJ (hm.below hb) hk cp cg h0).mono fun r W' ⟨hr, hj⟩ => ⟨hr, .inl ⟨_, rfl, hj.out⟩⟩
end Go.Proofs.Ytifjjnnpoleinaa.Df
