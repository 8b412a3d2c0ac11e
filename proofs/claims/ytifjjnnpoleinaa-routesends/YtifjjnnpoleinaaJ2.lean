import Derived.Test.YtifjjnnpoleinaaJ1
import Derived.Test.YtifjjnnpoleinaaRtBase
import Derived.Test.YtifjjnnpoleinaaLHold
import Derived.RangeFuncCalls
import Derived.OrdersIn
namespace Go.Proofs.Ytifjjnnpoleinaa.Df
open Go.RowKit Go.Sort Go.Shelf
attribute [local go_sem] Oper.semAt_some

/-- A number of an edge. -/
abbrev Vx (m : Nat) : Type := { x : Int // 0 ≤ x ∧ x < (m : Int) }
theorem vx_of {m : Nat} : ∀ {l : List Int}, (∀ x ∈ l, 0 ≤ x ∧ x < (m : Int)) → ∃ L : List (Vx m), L.map Subtype.val = l
  | [], _ => ⟨[], rfl⟩
  | x :: l, h => by
    obtain ⟨L, hL⟩ := vx_of (fun y hy => h y (List.mem_cons_of_mem _ hy))
    exact ⟨⟨x, h x (List.mem_cons_self ..)⟩ :: L, by simp [hL]⟩
theorem edgesU_val (ns : List Nod) (es : List Edg) (k : Nat) : ∀ j, (edgesU ns es k j).Pairwise (· < ·) ∧ ∀ x ∈ edgesU ns es k j, 0 ≤ x ∧ x < (j : Int)
  | 0 => ⟨by simp [edgesU], by simp [edgesU]⟩
  | j + 1 => by
    obtain ⟨h1, h2⟩ := edgesU_val ns es k j
    rw [edgesU]
    have key : ∀ (l : List Int), (l = [] ∨ l = [(j : Int)]) → (edgesU ns es k j ++ l).Pairwise (· < ·) ∧ ∀ x ∈ edgesU ns es k j ++ l, 0 ≤ x ∧ x < ((j + 1 : Nat) : Int) := by
      rintro l (rfl | rfl)
      · rw [List.append_nil]
        exact ⟨h1, fun x hx => by have := h2 x hx; omega⟩
      · refine ⟨List.pairwise_append.2 ⟨h1, by simp, fun a ha b hb => ?_⟩, fun x hx => ?_⟩
        · rw [List.mem_singleton] at hb
          have := h2 a ha
          omega
        · rcases List.mem_append.1 hx with hx | hx
          · have := h2 x hx
            omega
          · rw [List.mem_singleton] at hx
            omega
    apply key
    split
    · split
      · exact Or.inr rfl
      · exact Or.inl rfl
    · exact Or.inl rfl
theorem edN_valid (g : Gph) (k : Int) : ∀ x ∈ edN g k, 0 ≤ x ∧ x < (g.edges.length : Int) := fun x hx => by
  unfold edN at hx
  split at hx
  · exact (edgesU_val _ _ _ _).2 x hx
  · simp at hx
theorem abides_grS {m : Nat} {J : List (Vx m) → World → Prop} {B : Nat} (h : AbidesFrom B J) {W W' : World} (hg : Gr W W') {pre : List (Vx m)} (h0 : J pre W) : J pre W' := h pre W W' none h0 ⟨hg.below.os, hg.below.tape, hg.below.output, hg.below.size, fun k hk _ => hg.below.block k hk⟩ (fun r e => by cases e)
set_option maxRecDepth 100000 in
set_option maxHeartbeats 2000000 in
theorem edges1_inS (n : Nat) (hn : 1 ≤ n) (l Bp Bg n₀ : Nat) {B gb j : Nat} {g : Gph} {nv ev fv pv : Value} {ys : List NV} {ss : List SV} {s : SV} {m : Nat} {L : List (Vx m)} (J Jx : List (Vx m) → World → Prop)
    (hY : ∀ pre x W, J pre W → pre.length < L.length → YieldAt Fence.wide (n - 1) Try.prog l #[.int .i64 x.1] W fun e W' => (e = .returned (.bool true) ∧ J (pre ++ [x]) W' ∧ Below n₀ W W') ∨ (e = .returned (.bool false) ∧ Jx (pre ++ [x]) W'))
    (W : World) (hJ : AbidesFrom W.heap.size J) (h : Gp B W gb g nv ev fv pv ys ss) (hs : ss[j]? = some s) (hL : W.ownsRow B 3 1 s.ev L.length (fl EI (L.map Subtype.val))) (hq : ∀ b, s.ev.ownBlock = some b → b < n₀) (hBp : W.cell? ⟨Bp, 0, none⟩ = some (.int .i64 (j : Nat))) (hBg : W.cell? ⟨Bg, 0, none⟩ = some (.pointer (some ⟨gb, 0, none⟩))) (hLl : L.length ≤ 1000) (h0 : J [] W) :
    CallsIn Fence.wide n Try.prog 28 #[.func (.yield l) #[] #[], .pointer (some ⟨Bp, 0, none⟩), .pointer (some ⟨Bg, 0, none⟩)] W fun e W' => (∃ v, e = .returned v) ∧ ((∃ zs, zs = L ∧ J zs W') ∨ (∃ pre, pre <+: L ∧ Jx pre W')) := by
  have hjs : j < ss.length := (List.getElem?_eq_some_iff.1 hs).1
  have hlen := h.rows.len
  have hP := fun (n : Nat) (W' : World) (hb : Below W.heap.size W W') => callsIn_wide (n := n).2 (gplaces_any W' (Gm.below ⟨nv, ev, fv, pv, ys, ss, h⟩ hb))
  have hA := fun (n : Nat) (W' : World) => callsIn_wide (n := n).2 (among_any (j : Int) (plN g.nodes : Nat) W')
  rw [decide_eq_true (by unfold plN; omega)] at hA
  have cg := (tk_store h.rows.blk).1
  have lg := tk_lt h.rows.blk
  obtain ⟨b1, o1, c1, rfl, hb1, x1, x2, x3, x4⟩ := ls_atS (owns_ls (E := ES) h.rows.sp) hs
  obtain ⟨sn, sp, si, sq, sm, sc⟩ := s
  simp only [SV.ev] at x4 hL hq
  have hm := (owns_caps hL _ _ _ rfl).1
  subst hm
  have HLs : Hid (Ls EI W (.slice sq L.length sc) (L.map Subtype.val)) := owns_ls (E := EI) (by rw [List.length_map]; exact hL)
  have HQ := hid hq
  have HJ := hid hJ
  have H0 := hid h0
  have HY := hid hY
  have hjz : (j : Int) < (ss.length : Int) := by omega
  have hj0 : (0 : Int) ≤ (j : Int) := by omega
  refine callsIn_of_wp Try.func28 rfl trivial ?_ rfl
  simp only [Try.ntmps28, List.size_toArray, List.length_cons, List.length_nil, Nat.reduceAdd, Nat.reduceSub, Array.replicate_succ, Array.replicate_zero, List.push_toArray, List.append_toArray, List.nil_append, List.cons_append]
  have hmx : Try.prog.follows .mixedOrders = true := by kernel_rfl
  gi_wp2
  gi_region_with_o (first | (refine ⟨trivial, ?_⟩; gi_at_call 11; refine (hP _ W.drew (Gr.refl W).drew.below).mono ?_; rintro e w' ⟨rfl, rfl⟩) | (refine ⟨trivial, ?_⟩; gi_at_call 23; refine (hA _ W.drew).mono ?_; rintro e w' ⟨rfl, rfl⟩))
  all_goals (
    go_simp
    gi_wp2
    gi_quiet (fail)
    gi_wp2
    clear hP hA
    gi_loopw [20] (fun i wr => ∃ k : Nat, k ≤ L.length ∧ i = .int .i64 k ∧ Hid (J (L.take k) wr) ∧ Hid (Ls EI wr (.slice sq L.length sc) (L.map Subtype.val))) (fun i _ => L.length - (intOf i).toNat)
    case atStart => exact ⟨0, Nat.zero_le _, rfl, by rw [List.take_zero]; exact abides_grS HJ.out ((Gr.refl W).drew.drewN _) H0.out, HLs.out.below ((Gr.refl W).drew.drewN _).below⟩
    case round =>
      obtain ⟨k, hk, rfl, hJs, hls⟩ := hrel
      by_cases hlt : k < L.length
      · obtain ⟨x, hx⟩ : ∃ x, L[k]? = some x := ⟨L[k], List.getElem?_eq_getElem hlt⟩
        obtain ⟨b2, o2, c2, e2, hb2, y2⟩ := ls_atI hls.out (show (L.map Subtype.val)[k]? = some x.1 by rw [List.getElem?_map, hx]; rfl)
        rw [List.length_map] at e2
        simp only [Value.slice.injEq] at e2
        obtain ⟨rfl, -, rfl⟩ := e2
        obtain ⟨fn, tmps, assign, body, hy, hR⟩ := HY.out (L.take k) x wr hJs.out (by simp; omega)
        have hkz : (k : Int) < (L.length : Int) := by omega
        gi_wp2
        refine hR.mono ?_
        rintro e W3 (⟨rfl, hJ3, hk3⟩ | ⟨rfl, hJx3⟩)
        · gi_wp2
          go_roundw
          case rel => exact ⟨k + 1, by omega, by simp, by rw [← take_snoc hx]; exact hJ3, ls_low hls.out hk3 HQ.out⟩
          case measure => simp [intOf]; omega
        · gi_wp2
          refine bodyPost_ret (results_none rfl _ _ _) rfl ?_
          exact ⟨⟨_, rfl⟩, .inr ⟨_, by rw [take_snoc hx]; exact List.take_prefix _ _, hJx3⟩⟩
      · have hkz : ¬ (k : Int) < (L.length : Int) := by omega
        gi_wp2
        go_end0
        exact ⟨⟨_, rfl⟩, .inl (by have h := hJs.out; rwa [List.take_of_length_le (by omega)] at h)⟩)
set_option maxRecDepth 100000 in
set_option maxHeartbeats 2000000 in
theorem edges1_noneS (n : Nat) (hn : 1 ≤ n) (l Bp Bg : Nat) {B gb : Nat} {k : Int} {g : Gph} {m : Nat} (J : List (Vx m) → World → Prop) (W : World) (hJ : AbidesFrom W.heap.size J) (h : Gm B W gb g) (hk : ¬ (0 ≤ k ∧ k < (plN g.nodes : Int))) (hBp : W.cell? ⟨Bp, 0, none⟩ = some (.int .i64 k)) (hBg : W.cell? ⟨Bg, 0, none⟩ = some (.pointer (some ⟨gb, 0, none⟩))) (h0 : J [] W) :
    CallsIn Fence.wide n Try.prog 28 #[.func (.yield l) #[] #[], .pointer (some ⟨Bp, 0, none⟩), .pointer (some ⟨Bg, 0, none⟩)] W fun e W' => (∃ v, e = .returned v) ∧ Hid (J [] W') := by
  have hP := fun (n : Nat) (W' : World) (hb : Below W.heap.size W W') => callsIn_wide (n := n).2 (gplaces_any W' (h.below hb))
  have hA := fun (n : Nat) (W' : World) => callsIn_wide (n := n).2 (among_any k (plN g.nodes : Nat) W')
  rw [decide_eq_false hk] at hA
  have HJ := hid hJ
  have H0 := hid h0
  refine callsIn_of_wp Try.func28 rfl trivial ?_ rfl
  simp only [Try.ntmps28, List.size_toArray, List.length_cons, List.length_nil, Nat.reduceAdd, Nat.reduceSub, Array.replicate_succ, Array.replicate_zero, List.push_toArray, List.append_toArray, List.nil_append, List.cons_append]
  have hmx : Try.prog.follows .mixedOrders = true := by kernel_rfl
  gi_wp2
  gi_region_with_o (first | (refine ⟨trivial, ?_⟩; gi_at_call 11; refine (hP _ W.drew (Gr.refl W).drew.below).mono ?_; rintro e w' ⟨rfl, rfl⟩) | (refine ⟨trivial, ?_⟩; gi_at_call 23; refine (hA _ W.drew).mono ?_; rintro e w' ⟨rfl, rfl⟩))
  all_goals (
    go_simp
    gi_wp2
    refine bodyPost_ret (results_none rfl _ _ _) rfl ?_
    exact ⟨⟨_, rfl⟩, abides_grS HJ.out (Gr.refl W).drew H0.out⟩)
/-- What the closure that Edges hands back gives: numbers of edges. -/
theorem edges_stopsS (n : Nat) (hn : 1 ≤ n) (Bp Bg : Nat) {B gb : Nat} (k : Int) {g : Gph} (w : World) (n₀ : Nat) (hm : Gm B w gb g) (hn₀ : w.heap.size ≤ n₀) (w1 : World) (h1 : Below w.heap.size w w1) (hBp : w1.cell? ⟨Bp, 0, none⟩ = some (.int .i64 k)) (hBg : w1.cell? ⟨Bg, 0, none⟩ = some (.pointer (some ⟨gb, 0, none⟩))) (hbp : Bp < w1.heap.size) (hbg : Bg < w1.heap.size) :
    SeqStopsK Fence.wide n Try.prog 28 #[.pointer (some ⟨Bp, 0, none⟩), .pointer (some ⟨Bg, 0, none⟩)] (fun x : Vx g.edges.length => #[Value.int .i64 x.1]) (Below n₀) (fun zs => zs.map Subtype.val = edN g k) (fun pre => pre.map Subtype.val <+: edN g k) (edN g k).length w1 := fun l J Jx W hW hJ _ hY h0 => by
  have hb := h1.trans (hW.mono h1.size)
  have cp := (hW.cell (p := ⟨Bp, 0, none⟩) hbp).trans hBp
  have cg := (hW.cell (p := ⟨Bg, 0, none⟩) hbg).trans hBg
  obtain ⟨L, hL⟩ := vx_of (edN_valid g k)
  by_cases hk : 0 ≤ k ∧ k < (plN g.nodes : Int)
  · obtain ⟨nv, ev, fv, pv, ys, ss, h⟩ := hm
    obtain ⟨j, rfl⟩ : ∃ j : Nat, k = (j : Int) := ⟨k.toNat, by omega⟩
    have hlen := h.rows.len
    have hj : j < ss.length := by unfold plN at hk; omega
    have e : edN g (j : Int) = edgesU g.nodes g.edges j g.edges.length := by
      unfold edN
      rw [if_pos hk, Int.toNat_natCast]
    have hr := h.rows.each j ss[j] (List.getElem?_eq_getElem hj)
    have hl : (edN g (j : Int)).length = L.length := by rw [← hL, List.length_map]
    rw [hl] at hY
    rw [← e, hl, ← hL] at hr
    refine (edges1_inS n hn l Bp Bg n₀ J Jx hY W hJ (h.below hb) (List.getElem?_eq_getElem hj) (owns_below hr hb) (fun b hb => by have := (owns_rd hr b hb).2; omega) cp cg (by have h1 := edgesU_length g.nodes g.edges j g.edges.length; have h2 := h.ok.el; rw [← hl, e]; omega) h0).mono ?_
    rintro e' W' ⟨h3, h4⟩
    refine ⟨h3, ?_⟩
    rcases h4 with ⟨zs, rfl, h5⟩ | ⟨pre, h5, h6⟩
    · exact .inl ⟨zs, hL, h5⟩
    · exact .inr ⟨pre, by rw [← hL]; obtain ⟨r, rfl⟩ := h5; rw [List.map_append]; exact List.prefix_append _ _, h6⟩
  · have e : edN g k = [] := by unfold edN; rw [if_neg hk]
    rw [e]
    exact (edges1_noneS n hn l Bp Bg J W hJ (hm.below hb) hk cp cg h0).mono fun r W' ⟨hr, hj⟩ => ⟨hr, .inl ⟨[], rfl, hj.out⟩⟩
end Go.Proofs.Ytifjjnnpoleinaa.Df

namespace Go.Proofs.Ytifjjnnpoleinaa.Df
open Go.RowKit Go.Sort
attribute [local go_sem ↓] Go.wp_at_zero Go.wp_at_succ

/-- A time and a record. -/
structure Rx where
  a : Int
  b : Int
  c : Int
  key : Nat
  val : Int
  deriving DecidableEq
/-- A message with its worker. -/
structure Ot where
  wk : Int
  at_ : Int
  x : Rx
  deriving DecidableEq
def otc (o : Ot) : Array Value := #[.int .i64 o.wk, .int .i64 o.at_, .int .u64 o.x.a, .int .u64 o.x.b, .int .u64 o.x.c, .int .u64 (o.x.key : Nat), .int .u64 o.x.val]
def EOt : El Ot where
  k := 7
  enc o := (otc o).toList
  len _ := rfl
  one o := by
    intro u hu
    simp only [otc, List.mem_cons, List.not_mem_nil, or_false] at hu
    rcases hu with rfl | rfl | rfl | rfl | rfl | rfl | rfl <;> rfl
theorem infoOt : (Try.prog.info? 51).map (fun i => (i.zero, i.size, i.bytes)) = some (some (.agg #[.int .i64 0, .int .i64 0, .int .u64 0, .int .u64 0, .int .u64 0, .int .u64 0, .int .u64 0]), 7, 56) := by kernel_rfl
/-- The message along an edge. -/
def mkO (g : Gph) (x : Rx) (own m : Int) (e : Int) : Ot := match g.edges[e.toNat]? with
  | some d => ⟨alg d.keyed x.key own m, inN g.nodes d.dst d.inn, x⟩
  | none => ⟨0, 0, x⟩
/-- What a record becomes. -/
def sends (g : Gph) (k : Int) (x : Rx) (own m : Int) : List Ot := if (1 ≤ m ∧ m ≤ 8) ∧ 0 ≤ own ∧ own < m ∧ (ofN g.nodes k).2.2 = false then (edN g k).map (mkO g x own m) else []
theorem sends_len {B gb : Nat} {g : Gph} {w : World} (h : Gm B w gb g) (k : Int) (x : Rx) (own m : Int) : (sends g k x own m).length ≤ 48 := by
  obtain ⟨nv, ev, fv, pv, ys, ss, h⟩ := h
  have h2 := h.ok.el
  unfold sends
  split
  · rw [List.length_map]
    unfold edN
    split
    · have h1 := edgesU_length g.nodes g.edges k.toNat g.edges.length
      omega
    · simp
  · simp
theorem isin_any {B gb : Nat} {g : Gph} (k : Int) (w : World) (h : Gm B w gb g) : Calls Try.prog 25 #[.pointer (some ⟨gb, 0, none⟩), .int .i64 k] w fun r w' => r = .returned (.bool (ofN g.nodes k).2.2) ∧ Gr w w' := by
  have ho := gof_any k w h
  generalize ofN g.nodes k = z at ho ⊢
  go_enter Try.func25, Try.ntmps25
  go_wp2_with fail
  refine ho.mono ?_
  rintro r w1 ⟨rfl, g1⟩
  go_wp2_with fail
  go_ret
  exact ⟨rfl, g1⟩
/-- The boxes that a round of Send reads. -/
structure Sb (X : World) (g0 tb rb ob wb lb db gb : Nat) (x : Rx) (own m : Int) (v : Value) (d : Edg) : Prop where
  g : X.heap[g0]? = some (.cells #[.pointer (some ⟨gb, 0, none⟩)] 34 (0, 0))
  t : X.heap[tb]? = some (.cells #[.int .u64 x.a, .int .u64 x.b, .int .u64 x.c] 28 (0, 0))
  r : X.heap[rb]? = some (.cells #[.int .u64 (x.key : Nat), .int .u64 x.val] 30 (0, 0))
  o : X.heap[ob]? = some (.cells #[.int .i64 own] 3 (0, 0))
  w : X.heap[wb]? = some (.cells #[.int .i64 m] 3 (0, 0))
  l : X.heap[lb]? = some (.cells #[v] 40 (0, 0))
  d : X.heap[db]? = some (.cells #[.int .i64 d.src, .int .i64 d.out, .int .i64 d.dst, .int .i64 d.inn, .bool d.keyed] 47 (0, 0))
theorem Sb.kp {X Y : World} {g0 tb rb ob wb lb db gb : Nat} {x : Rx} {own m : Int} {v v' : Value} {d : Edg} {B n : Nat} {xs : List Value} (h : Sb X g0 tb rb ob wb lb db gb x own m v d) (hr : X.ownsRow B 51 7 v' n xs) (k : Kp (fun j => v'.ownBlock = some j) X Y) : Sb Y g0 tb rb ob wb lb db gb x own m v d :=
  ⟨(k.block _ (tk_lt h.g) (fun e => owns_ne_blk hr h.g (by decide) _ e rfl)).trans h.g, (k.block _ (tk_lt h.t) (fun e => owns_ne_blk hr h.t (by decide) _ e rfl)).trans h.t, (k.block _ (tk_lt h.r) (fun e => owns_ne_blk hr h.r (by decide) _ e rfl)).trans h.r, (k.block _ (tk_lt h.o) (fun e => owns_ne_blk hr h.o (by decide) _ e rfl)).trans h.o, (k.block _ (tk_lt h.w) (fun e => owns_ne_blk hr h.w (by decide) _ e rfl)).trans h.w, (k.block _ (tk_lt h.l) (fun e => owns_ne_blk hr h.l (by decide) _ e rfl)).trans h.l, (k.block _ (tk_lt h.d) (fun e => owns_ne_blk hr h.d (by decide) _ e rfl)).trans h.d⟩
end Go.Proofs.Ytifjjnnpoleinaa.Df

namespace Go.Proofs.Ytifjjnnpoleinaa
open Go.RowKit

section
variable {P : Program} {ops : Array Oper} {Q : Exit → Act → World → Prop} {md : Region.Mode} {l n : Nat}
/-- No operation defers a call. -/
def noDefer (ops : Array Oper) : Bool := ops.all fun o => match o.op with
  | .defer _ => false
  | _ => true
theorem noDefer_at (h : noDefer ops = true) {i : Nat} {o : Oper} (hi : ops[i]? = some o) (c : Call) : o.op ≠ .defer c := fun e => by
  have h1 := (Array.all_eq_true.1 h) i (Array.getElem?_eq_some_iff.1 hi).1
  rw [(Array.getElem?_eq_some_iff.1 hi).2] at h1
  simp [e] at h1
theorem wpIn_round {o : Oper} {a : Act} {w : World} {K : Act → World → Prop} (hd : ∀ c, o.op ≠ .defer c) (h : o.wp P a w K Q) : o.wpIn (Fence.wide.inRound l) n P a w K Q := by
  refine ⟨fun _ _ => trivial, ?_⟩
  rw [Oper.semAt_eq _ _ _ hd]
  unfold Oper.wp at h
  generalize (execOp a.eval o).run P w = r at h ⊢
  cases r with
  | ok nx w' =>
    cases nx with
    | value v => exact h
    | skip => exact h
    | defer d => exact h
    | enter f args => exact ⟨(fun h0 => by cases h0), CallsIn.inRound l (callsIn_wide.2 h)⟩
    | row r args => exact ⟨(fun h0 => by cases h0), fun c cs _ => (by obtain ⟨v, w1, r, s⟩ := h c cs; exact ⟨v, w1, r, stepsIn_wide.2 s⟩)⟩
    | _ => exact h.elim
  | halt e w' =>
    cases e with
    | panic v => exact h
    | _ => exact h.elim
theorem wpOp_round (hd : noDefer ops = true) (hQ : ¬ LetsOut Q) {i : Nat} {K : Act → World → Prop} {a : Act} {w : World} (h : wpOp P ops Q i K a w) : wpOpIn (Fence.wide.inRound l) n P ops Q i K a w := by
  unfold wpOp at h
  unfold wpOpIn
  cases hi : ops[i]? with
  | none => rw [hi] at h; exact h
  | some o =>
    rw [hi] at h
    simp only at h ⊢
    split at h
    · rename_i hw
      rw [if_pos hw]
      rcases h with h | h
      · exact wpIn_round (noDefer_at hd hi) h
      · exact absurd h.2 hQ
    · rename_i hw
      rw [if_neg hw]
      exact ⟨fun _ _ => trivial, h⟩
theorem wpAny_round (hd : noDefer ops = true) (hQ : ¬ LetsOut Q) (m : Nat) : ∀ (ls : Array Bool) (a : Act) (w : World), wpAny P md ops Q m ls a w → wpAnyIn (Fence.wide.inRound l) n P md ops Q m ls a w := by
  induction m with
  | zero => intro _ _ _ h; exact h
  | succ m ih =>
    intro ls a w h
    exact ⟨h.1, fun j hj => wpOpIn_mono (fun b u x => ih _ b u x) (wpOp_round hd hQ (h.2 j hj))⟩
/-- A region that draws, within a round of a range over a function: walked as anywhere. -/
theorem wp_regionR {id : Nat} {a : Act} {w : World} {S : World → Prop} {D : List Nat} (hm : P.follows .mixedOrders = true) (hd : noDefer ops = true) (hQ : ¬ LetsOut Q) (h : wpAnyD P .any ops Q S D ops.size (Array.replicate ops.size false) a w.drew) : (Code.region id ops true).wpIn (Fence.wide.inRound l) n P Q a w :=
  wpIn_region_any hm (wpAny_round hd hQ _ _ _ _ (wpAny_ofD _ _ _ _ h))
end
end Go.Proofs.Ytifjjnnpoleinaa

namespace Go.Proofs.Ytifjjnnpoleinaa.Df
open Go.RowKit Go.Sort Go.Shelf
attribute [local go_sem ↓] Go.wp_at_zero Go.wp_at_succ
attribute [local go_sem] Oper.semAt_some

theorem sends_none {g : Gph} {k : Int} {x : Rx} {own m : Int} (h : ¬ ((1 ≤ m ∧ m ≤ 8) ∧ 0 ≤ own ∧ own < m ∧ (ofN g.nodes k).2.2 = false)) : sends g k x own m = [] := by unfold sends; rw [if_neg h]
theorem fold_oneR (T : Array Value) (p : Tmp) (v : Value) : ((#[p] : Array Tmp).zip #[v]).foldl (fun t (p, v) => t.setIfInBounds p v) T = T.setIfInBounds p v := by simp
theorem fld2R (a b c : Value) (w : World) : Sem.run Try.prog (Instr.field 25 (.agg #[a, b, c]) 2) w = .ok c w := by kernel_rfl
theorem mkO_at {g : Gph} {x : Rx} {own m : Int} {e : Nat} {d : Edg} (h : g.edges[e]? = some d) : mkO g x own m (e : Nat) = ⟨alg d.keyed x.key own m, inN g.nodes d.dst d.inn, x⟩ := by
  unfold mkO
  rw [Int.toNat_natCast, h]
theorem boxed_cells {W : World} {b : Nat} {t : TypeId} {v : Value} (h : Boxed W b t v) : W.heap[b]? = some (.cells #[v] t (0, 0)) := h
attribute [local go_sem] fld2R
theorem keeps_kpS {B : Nat} {S : Nat → Prop} {W W' : World} (hS : ∀ j, S j → ∃ cs T z, W.heap[j]? = some (.cells cs T z)) (k : Kp S W W') : KeepsFrom B W W' :=
  ⟨k.size, fun j o _ hj ho => (k.block j (tk_lt hj) (fun e => by obtain ⟨cs, T, z, h⟩ := hS j e; rw [h] at hj; cases hj; cases ho)).trans hj⟩
set_option maxRecDepth 100000 in
set_option maxHeartbeats 4000000 in
theorem send_any {B gb : Nat} {g : Gph} (k own m : Int) (x : Rx) (hk : x.key < 18446744073709551616) (w : World) (hm : Gm B w gb g) : Calls Try.prog 9 #[.pointer (some ⟨gb, 0, none⟩), .int .i64 k, .agg #[.int .u64 x.a, .int .u64 x.b, .int .u64 x.c], .agg #[.int .u64 (x.key : Nat), .int .u64 x.val], .int .i64 own, .int .i64 m] w fun r w' => ∃ v, r = .returned v ∧ Hid (w'.ownsRow w.heap.size 51 7 v (sends g k x own m).length (fl EOt (sends g k x own m)) ∧ Below w.heap.size w w') := by
  have hmx : Try.prog.follows .mixedOrders = true := by kernel_rfl
  obtain ⟨w0, hw0⟩ : ∃ W, W = ((((w.alloc (.cells #[.pointer (some ⟨gb, 0, none⟩)] 34)).alloc (.cells #[.int .u64 x.a, .int .u64 x.b, .int .u64 x.c] 28)).alloc (.cells #[.int .u64 (x.key : Nat), .int .u64 x.val] 30)).alloc (.cells #[.int .i64 own] 3)).alloc (.cells #[.int .i64 m] 3) := ⟨_, rfl⟩
  have B0 : Hid (w0.heap[w.heap.size]? = some (.cells #[.pointer (some ⟨gb, 0, none⟩)] 34 (0, 0)) ∧ w0.heap[w.heap.size + 1]? = some (.cells #[.int .u64 x.a, .int .u64 x.b, .int .u64 x.c] 28 (0, 0)) ∧ w0.heap[w.heap.size + 1 + 1]? = some (.cells #[.int .u64 (x.key : Nat), .int .u64 x.val] 30 (0, 0)) ∧ w0.heap[w.heap.size + 1 + 1 + 1]? = some (.cells #[.int .i64 own] 3 (0, 0)) ∧ w0.heap[w.heap.size + 1 + 1 + 1 + 1]? = some (.cells #[.int .i64 m] 3 (0, 0)) ∧ Below w.heap.size w w0 ∧ w0.heap.size = w.heap.size + 5) := by
    have b1 := heap_new' w (.cells #[.pointer (some ⟨gb, 0, none⟩)] 34)
    have b2 := heap_new' (w.alloc (.cells #[.pointer (some ⟨gb, 0, none⟩)] 34)) (.cells #[.int .u64 x.a, .int .u64 x.b, .int .u64 x.c] 28)
    have b3 := heap_new' ((w.alloc (.cells #[.pointer (some ⟨gb, 0, none⟩)] 34)).alloc (.cells #[.int .u64 x.a, .int .u64 x.b, .int .u64 x.c] 28)) (.cells #[.int .u64 (x.key : Nat), .int .u64 x.val] 30)
    have b4 := heap_new' (((w.alloc (.cells #[.pointer (some ⟨gb, 0, none⟩)] 34)).alloc (.cells #[.int .u64 x.a, .int .u64 x.b, .int .u64 x.c] 28)).alloc (.cells #[.int .u64 (x.key : Nat), .int .u64 x.val] 30)) (.cells #[.int .i64 own] 3)
    have b5 := heap_new' ((((w.alloc (.cells #[.pointer (some ⟨gb, 0, none⟩)] 34)).alloc (.cells #[.int .u64 x.a, .int .u64 x.b, .int .u64 x.c] 28)).alloc (.cells #[.int .u64 (x.key : Nat), .int .u64 x.val] 30)).alloc (.cells #[.int .i64 own] 3)) (.cells #[.int .i64 m] 3)
    rw [World.size_alloc] at b2
    rw [World.size_alloc, World.size_alloc] at b3
    rw [World.size_alloc, World.size_alloc, World.size_alloc] at b4
    rw [World.size_alloc, World.size_alloc, World.size_alloc, World.size_alloc] at b5
    have up := fun (W : World) (o : Obj) (b : Nat) (z : Obj) (h : W.heap[b]? = some z) => (((Gr.refl W).alloc o).below.block b (tk_lt h)).trans h
    rw [hw0]
    exact ⟨up _ _ _ _ (up _ _ _ _ (up _ _ _ _ (up _ _ _ _ b1))), up _ _ _ _ (up _ _ _ _ (up _ _ _ _ b2)), up _ _ _ _ (up _ _ _ _ b3), up _ _ _ _ b4, b5, (((((Gr.refl w).alloc _).alloc _).alloc _).alloc _).alloc _ |>.below, by simp⟩
  have HW0 : Hid (((((w.alloc (.cells #[.pointer (some ⟨gb, 0, none⟩)] 34)).alloc (.cells #[.int .u64 x.a, .int .u64 x.b, .int .u64 x.c] 28)).alloc (.cells #[.int .u64 (x.key : Nat), .int .u64 x.val] 30)).alloc (.cells #[.int .i64 own] 3)).alloc (.cells #[.int .i64 m] 3) = w0) := hw0.symm
  have HM := hid (hm.below B0.out.2.2.2.2.2.1)
  have hcb := canbe_any m w0
  have hin := isin_any k w0 HM.out
  have HK := hid hk
  clear hw0 hm hk
  have c0 := (tk_store B0.out.1).1
  have c1 := (tk_store B0.out.2.2.2.1).1
  have c2 := (tk_store B0.out.2.2.2.2.1).1
  have l0 := tk_lt B0.out.1
  have l1 := tk_lt B0.out.2.2.2.1
  have l2 := tk_lt B0.out.2.2.2.2.1
  refine (callsIn_wide (n := 4)).1 ?_
  refine callsIn_of_wp_marks Try.func9 rfl trivial ?_ rfl
  refine wpIn_wide.2 ?_
  simp only [Try.ntmps9, List.size_toArray, List.length_cons, List.length_nil, Nat.reduceAdd, Nat.reduceSub, Array.replicate_succ, Array.replicate_zero, List.push_toArray, List.append_toArray, List.nil_append, List.cons_append]
  go_upto_region 1 with fail
  rw [HW0.out]
  clear HW0
  by_cases h1 : 1 ≤ m ∧ m ≤ 8
  · rw [decide_eq_true h1] at hcb
    by_cases h2 : own < 0
    · clear hin
      go_wp2_with fail
      refine hcb.mono ?_
      rintro r w0 ⟨rfl, rfl⟩
      go_wp2_with fail
      refine ⟨.slice none 0 0, by simp [results, Try.results9, go_sem], _, rfl, ?_⟩
      rw [sends_none (fun h => by omega)]
      exact ⟨World.ownsRow_nil _ _ _ _, B0.out.2.2.2.2.2.1⟩
    · by_cases h3 : m ≤ own
      · clear hin
        go_wp2_with fail
        refine hcb.mono ?_
        rintro r w0 ⟨rfl, rfl⟩
        go_wp2_with fail
        refine ⟨.slice none 0 0, by simp [results, Try.results9, go_sem], _, rfl, ?_⟩
        rw [sends_none (fun h => by omega)]
        exact ⟨World.ownsRow_nil _ _ _ _, B0.out.2.2.2.2.2.1⟩
      · obtain ⟨z, hz⟩ : ∃ z, z = (ofN g.nodes k).2.2 := ⟨_, rfl⟩
        rw [← hz] at hin
        have HZ := hid hz
        clear hz
        cases z with
        | true =>
          go_wp2_with fail
          refine hcb.mono ?_
          rintro r w0 ⟨rfl, rfl⟩
          clear hcb
          go_wp2_with fail
          refine hin.mono ?_
          rintro r w1 ⟨rfl, g1⟩
          clear hin
          go_wp2_with fail
          refine ⟨.slice none 0 0, by simp [results, Try.results9, go_sem], _, rfl, ?_⟩
          rw [sends_none (fun h => by rw [← HZ.out] at h; exact absurd h.2.2.2 (by decide))]
          exact ⟨World.ownsRow_nil _ _ _ _, B0.out.2.2.2.2.2.1.trans (g1.below.mono B0.out.2.2.2.2.2.1.size)⟩
        | false =>
          go_wp2_with fail
          refine hcb.mono ?_
          rintro r w0 ⟨rfl, rfl⟩
          clear hcb
          go_wp2_with fail
          refine hin.mono ?_
          rintro r w1 ⟨rfl, g1⟩
          have hraw := graw_any w1 (HM.out.below g1.below)
          have B1 : Hid (w1.heap[w.heap.size]? = some (.cells #[.pointer (some ⟨gb, 0, none⟩)] 34 (0, 0)) ∧ w1.heap[w.heap.size + 1]? = some (.cells #[.int .u64 x.a, .int .u64 x.b, .int .u64 x.c] 28 (0, 0)) ∧ w1.heap[w.heap.size + 1 + 1]? = some (.cells #[.int .u64 (x.key : Nat), .int .u64 x.val] 30 (0, 0)) ∧ w1.heap[w.heap.size + 1 + 1 + 1]? = some (.cells #[.int .i64 own] 3 (0, 0)) ∧ w1.heap[w.heap.size + 1 + 1 + 1 + 1]? = some (.cells #[.int .i64 m] 3 (0, 0)) ∧ Below w.heap.size w w1 ∧ Gm B w1 gb g) := by
            have up := fun (b : Nat) (z : Obj) (h : w0.heap[b]? = some z) => (g1.below.block b (tk_lt h)).trans h
            exact ⟨up _ _ B0.out.1, up _ _ B0.out.2.1, up _ _ B0.out.2.2.1, up _ _ B0.out.2.2.2.1, up _ _ B0.out.2.2.2.2.1, B0.out.2.2.2.2.2.1.trans (g1.below.mono B0.out.2.2.2.2.2.1.size), HM.out.below g1.below⟩
          have HS : Hid (sends g k x own m = (edN g k).map (mkO g x own m) ∧ (edN g k).length ≤ 48) := by
            have e : sends g k x own m = (edN g k).map (mkO g x own m) := by
              unfold sends
              rw [if_pos ⟨h1, by omega, by omega, HZ.out.symm⟩]
            refine ⟨e, ?_⟩
            have := sends_len HM.out k x own m
            rw [e, List.length_map] at this
            exact this
          clear hin c0 c1 c2 l0 l1 l2 B0 HM g1 HZ
          have c0 := (tk_store B1.out.1).1
          have l0 := tk_lt B1.out.1
          go_wp2_with fail
          refine hraw.mono ?_
          rintro r w2 ⟨nv, ev, ys, HR⟩
          have hr := HR.out.1
          subst hr
          have B2 : Hid (w2.heap[w.heap.size]? = some (.cells #[.pointer (some ⟨gb, 0, none⟩)] 34 (0, 0)) ∧ w2.heap[w.heap.size + 1]? = some (.cells #[.int .u64 x.a, .int .u64 x.b, .int .u64 x.c] 28 (0, 0)) ∧ w2.heap[w.heap.size + 1 + 1]? = some (.cells #[.int .u64 (x.key : Nat), .int .u64 x.val] 30 (0, 0)) ∧ w2.heap[w.heap.size + 1 + 1 + 1]? = some (.cells #[.int .i64 own] 3 (0, 0)) ∧ w2.heap[w.heap.size + 1 + 1 + 1 + 1]? = some (.cells #[.int .i64 m] 3 (0, 0)) ∧ Below w.heap.size w w2 ∧ Gm B w2 gb g ∧ w2.ownsRow w1.heap.size 47 5 ev g.edges.length (fl ED g.edges)) := by
            have b := HR.out.2.1
            have up := fun (q : Nat) (z : Obj) (h : w1.heap[q]? = some z) => (b.block q (tk_lt h)).trans h
            exact ⟨up _ _ B1.out.1, up _ _ B1.out.2.1, up _ _ B1.out.2.2.1, up _ _ B1.out.2.2.2.1, up _ _ B1.out.2.2.2.2.1, B1.out.2.2.2.2.2.1.trans (b.mono B1.out.2.2.2.2.2.1.size), B1.out.2.2.2.2.2.2.below b, HR.out.2.2.2.edges⟩
          clear hraw c0 l0 B1 HR h1 h2 h3
          obtain ⟨qe, ne, ce, rfl⟩ := owns_form B2.out.2.2.2.2.2.2.2
          have hne := (owns_caps B2.out.2.2.2.2.2.2.2 _ _ _ rfl).1
          subst hne
          have c0 := (tk_store B2.out.1).1
          have l0 := tk_lt B2.out.1
          have hed := fun W : World => (callsIn_wide (n := 0)).1 (edges_in (n := 0) (gb := gb) k W)
          unfold gvc
          go_wp2_with fail
          refine (hed _).mono ?_
          rintro r w3 ⟨rfl, hw3⟩
          obtain ⟨V, hV⟩ : ∃ V, V = (((w2.alloc (.cells #[.slice qe g.edges.length ce] 23)).alloc (.cells #[.slice none 0 0] 40)).alloc (.cells #[.pointer (some ⟨gb, 0, none⟩)] 34)).alloc (.cells #[.int .i64 k] 3) := ⟨_, rfl⟩
          have e3 : w3 = V := hw3.trans hV.symm
          subst e3
          clear hw3 hed c0 l0
          rw [World.size_alloc, World.size_alloc]
          have F : Hid ((w3.heap[w.heap.size]? = some (.cells #[.pointer (some ⟨gb, 0, none⟩)] 34 (0, 0)) ∧ w3.heap[w.heap.size + 1]? = some (.cells #[.int .u64 x.a, .int .u64 x.b, .int .u64 x.c] 28 (0, 0)) ∧ w3.heap[w.heap.size + 1 + 1]? = some (.cells #[.int .u64 (x.key : Nat), .int .u64 x.val] 30 (0, 0)) ∧ w3.heap[w.heap.size + 1 + 1 + 1]? = some (.cells #[.int .i64 own] 3 (0, 0)) ∧ w3.heap[w.heap.size + 1 + 1 + 1 + 1]? = some (.cells #[.int .i64 m] 3 (0, 0)) ∧ w.heap.size + 1 + 1 + 1 + 1 < w2.heap.size) ∧ Below w.heap.size w w3 ∧ Below w2.heap.size w2 w3 ∧ Gm B w2 gb g ∧ Boxed w3 w2.heap.size 23 (.slice qe g.edges.length ce) ∧ Boxed w3 (w2.heap.size + 1) 40 (.slice none 0 0) ∧ Boxed w3 (w2.heap.size + 1 + 1) 34 (.pointer (some ⟨gb, 0, none⟩)) ∧ Boxed w3 (w2.heap.size + 1 + 1 + 1) 3 (.int .i64 k) ∧ w3.heap.size = w2.heap.size + 4 ∧ w2.ownsRow w1.heap.size 47 5 (.slice qe g.edges.length ce) g.edges.length (fl ED g.edges)) := by
            have b1 := Boxed.new w2 23 (.slice qe g.edges.length ce)
            have b2 := Boxed.new (w2.alloc (.cells #[.slice qe g.edges.length ce] 23)) 40 (.slice none 0 0)
            have b3 := Boxed.new ((w2.alloc (.cells #[.slice qe g.edges.length ce] 23)).alloc (.cells #[.slice none 0 0] 40)) 34 (.pointer (some ⟨gb, 0, none⟩))
            have b4 := Boxed.new (((w2.alloc (.cells #[.slice qe g.edges.length ce] 23)).alloc (.cells #[.slice none 0 0] 40)).alloc (.cells #[.pointer (some ⟨gb, 0, none⟩)] 34)) 3 (.int .i64 k)
            rw [World.size_alloc] at b2
            rw [World.size_alloc, World.size_alloc] at b3
            rw [World.size_alloc, World.size_alloc, World.size_alloc] at b4
            have bl : Below w2.heap.size w2 w3 := by rw [hV]; exact ((((Gr.refl w2).alloc _).alloc _).alloc _).alloc _ |>.below
            have up := fun (q : Nat) (z : Obj) (h : w2.heap[q]? = some z) => (bl.block q (tk_lt h)).trans h
            refine ⟨⟨up _ _ B2.out.1, up _ _ B2.out.2.1, up _ _ B2.out.2.2.1, up _ _ B2.out.2.2.2.1, up _ _ B2.out.2.2.2.2.1, tk_lt B2.out.2.2.2.2.1⟩, B2.out.2.2.2.2.2.1.trans (bl.mono B2.out.2.2.2.2.2.1.size), bl, B2.out.2.2.2.2.2.2.1, ?_, ?_, ?_, ?_, ?_, B2.out.2.2.2.2.2.2.2⟩
            · rw [hV]; exact ((b1.alloc _).alloc _).alloc _
            · rw [hV]; exact (b2.alloc _).alloc _
            · rw [hV]; exact b3.alloc _
            · rw [hV]; exact b4
            · rw [hV]; simp
          clear hV B2
          have hst := edges_stopsS 3 (by decide) (w2.heap.size + 1 + 1 + 1) (w2.heap.size + 1 + 1) k w2 (w2.heap.size + 1) F.out.2.2.2.1 (by omega) w3 F.out.2.2.1 F.out.2.2.2.2.2.2.2.1.cell F.out.2.2.2.2.2.2.1.cell F.out.2.2.2.2.2.2.2.1.lt F.out.2.2.2.2.2.2.1.lt
          go_wp2_with fail
          refine wpIn_wide (n := 4) |>.1 ?_
          refine wpIn_rangeFunc_ownG rfl (by decide) (gf := 28) (lb := #[.pointer (some ⟨w2.heap.size + 1 + 1 + 1, 0, none⟩), .pointer (some ⟨w2.heap.size + 1 + 1, 0, none⟩)]) rfl trivial (enters_of Try.func28 (by kernel_rfl) rfl)
            hst belowK_t (belowK_b (by have := F.out.2.2.2.2.2.2.2.2.1; omega)) (Below.refl _ _) (fun _ => rfl)
            (fun (pre : List (Vx g.edges.length)) (W : World) => (∃ v, Boxed W (w2.heap.size + 1) 40 v ∧ W.ownsRow (w2.heap.size + 1) 51 7 v pre.length (fl EOt (pre.map fun y => mkO g x own m y.1)) ∧ True) ∧ Below (w2.heap.size + 1) w3 W)
            (fun _ _ _ => False)
            (OwnFrom.and (Own.from (holdsRow_own (w2.heap.size + 1) (w2.heap.size + 1) 40 51 7 (fun pre : List (Vx g.edges.length) => pre.length) (fun pre : List (Vx g.edges.length) => fl EOt (pre.map fun y => mkO g x own m y.1)) (fun _ _ => True)) _) (ownFrom_below (by have := F.out.2.2.2.2.2.2.2.2.1; omega) (by have := F.out.2.2.2.2.2.2.2.2.1; omega)))
            (fun _ _ _ _ _ hs _ _ => hs)
            ⟨⟨_, F.out.2.2.2.2.2.1, World.ownsRow_nil _ _ _ _, trivial⟩, Below.refl _ _⟩
            ?a1 ?assign ?body ?done ?stop
          case assign =>
            intro l y W K hK
            rw [fold_oneR]
            simp only [List.setIfInBounds_toArray, List.set_cons_succ, List.set_cons_zero]
            gi_wp2
            exact hK
          case stop =>
            rintro D c pre W _ hS hIx _
            exact hIx.elim
          case done =>
            rintro D ys W hD hS ⟨⟨v, hv, hrow, -⟩, hB⟩ hK
            have hc := hv.cell
            go_wp2_with fail
            refine ⟨by simp, .inl ⟨_, _, rfl, run_takeDeferred hK, ?_⟩⟩
            refine ⟨_, results_tmp rfl _ _ _, v, rfl, ?_⟩
            have hsz := F.out.2.2.2.2.2.2.2.2.1
            have hlo := F.out.2.1.size
            have hl2 := F.out.1.2.2.2.2.2
            have es : ys.map (fun y => mkO g x own m y.1) = sends g k x own m := by
              rw [HS.out.1, ← hS, List.map_map]
              rfl
            have hln : ys.length = (sends g k x own m).length := by rw [← es, List.length_map]
            rw [es, hln] at hrow
            exact ⟨owns_base (ownsRow_putObj hrow _ hK rfl) (by omega), (F.out.2.1.trans (hB.mono (by omega))).trans (belowK_b (w := w) (Nat.le_refl _) W D _ _ (by omega) hK rfl rfl)⟩
          case body =>
            rintro l pre y W ⟨⟨v, hv, hrow, -⟩, hB⟩ hlt
            obtain ⟨e, he⟩ : ∃ e : Nat, y.1 = (e : Int) := ⟨y.1.toNat, by have := y.2.1; omega⟩
            have hel : e < g.edges.length := by have := y.2.2; omega
            obtain ⟨d, hd⟩ : ∃ d, g.edges[e]? = some d := ⟨g.edges[e], List.getElem?_eq_getElem hel⟩
            have HD : Hid (mkO g x own m y.1 = ⟨alg d.keyed x.key own m, inN g.nodes d.dst d.inn, x⟩) := by
              show _ = _
              rw [he]
              exact mkO_at hd
            obtain ⟨q, n', c, rfl⟩ := owns_form hrow
            have hn' := (owns_caps hrow _ _ _ rfl).1
            subst hn'
            have hsz := F.out.2.2.2.2.2.2.2.2.1
            have hlow : w2.heap.size + 1 + 1 + 1 + 1 ≤ W.heap.size := by have := hB.size; omega
            have hls := ls_low (owns_ls (E := ED) F.out.2.2.2.2.2.2.2.2.2) (F.out.2.2.1.trans ((hB.mono (Nat.le_succ _)).mono (Nat.le_refl _))) (fun b hb => (owns_rd F.out.2.2.2.2.2.2.2.2.2 b hb).2)
            obtain ⟨b2, o2, c2, e2, z2, y0, y1, y2, y3, y4⟩ := ls_atD hls hd
            simp only [Value.slice.injEq] at e2
            obtain ⟨rfl, -, rfl⟩ := e2
            have cE : W.cell? ⟨w2.heap.size, 0, none⟩ = some (.slice (some ⟨b2, o2, none⟩) g.edges.length ce) := (hB.cell (p := ⟨w2.heap.size, 0, none⟩) (by simp)).trans F.out.2.2.2.2.1.cell
            have lE : w2.heap.size < W.heap.size := by omega
            have HGM : Hid (Gm B W gb g) := F.out.2.2.2.1.below (F.out.2.2.1.trans (hB.mono (Nat.le_succ _)))
            obtain ⟨W1, hW1⟩ : ∃ W1, W1 = W.alloc (.cells #[.int .i64 d.src, .int .i64 d.out, .int .i64 d.dst, .int .i64 d.inn, .bool d.keyed] 47) := ⟨_, rfl⟩
            have b1 : Below W.heap.size W W1 := by rw [hW1]; exact ((Gr.refl W).alloc _).below
            have HR : Hid (W1.ownsRow (w2.heap.size + 1) 51 7 (.slice q pre.length c) pre.length (fl EOt (pre.map fun y => mkO g x own m y.1)) ∧ Below W.heap.size W W1 ∧ Below (w2.heap.size + 1) w3 W ∧ pre.length < 48 ∧ w2.heap.size + 1 + 1 + 1 + 1 ≤ W.heap.size ∧ Gm B W1 gb g) := ⟨owns_below hrow b1, b1, hB, by have := HS.out.2; omega, hlow, HGM.out.below b1⟩
            have HR0 := hid hrow
            have HSB : Hid (Sb W1 w.heap.size (w.heap.size + 1) (w.heap.size + 1 + 1) (w.heap.size + 1 + 1 + 1) (w.heap.size + 1 + 1 + 1 + 1) (w2.heap.size + 1) W.heap.size gb x own m (.slice q pre.length c) d) := by
              have hl2 := F.out.1.2.2.2.2.2
              have up := fun (q : Nat) (z : Obj) (h : w3.heap[q]? = some z) (hq : q < w2.heap.size) => (b1.block q (by omega)).trans ((hB.block q (by omega)).trans h)
              refine ⟨up _ _ F.out.1.1 (by omega), up _ _ F.out.1.2.1 (by omega), up _ _ F.out.1.2.2.1 (by omega), up _ _ F.out.1.2.2.2.1 (by omega), up _ _ F.out.1.2.2.2.2.1 hl2, (b1.block _ (by omega)).trans hv, ?_⟩
              rw [hW1]
              exact heap_new' W _
            have HW1 : Hid (W.alloc (.cells #[.int .i64 d.src, .int .i64 d.out, .int .i64 d.dst, .int .i64 d.inn, .bool d.keyed] 47) = W1) := hW1.symm
            have HSD : Hid (∀ X, Kp (fun j => (Value.slice q pre.length c).ownBlock = some j) W1 X → Sb X w.heap.size (w.heap.size + 1) (w.heap.size + 1 + 1) (w.heap.size + 1 + 1 + 1) (w.heap.size + 1 + 1 + 1 + 1) (w2.heap.size + 1) W.heap.size gb x own m (.slice q pre.length c) d) := fun X hX => HSB.out.kp HR.out.1 hX
            have hez : (e : Int) < (g.edges.length : Int) := by omega
            have he0 : (0 : Int) ≤ (e : Int) := by omega
            have HV := hid hv
            clear hv hrow hB hls hd hW1 b1 HGM hel hlt hlow hsz
            rw [he]
            gi_wp2
            rw [HW1.out]
            have hal := fun X => along_any HK.out d.src d.out d.dst d.inn d.keyed own m X
            have hS0 : Kp (fun j => (Value.slice q pre.length c).ownBlock = some j) W1 W1.drew := Kp.of_gr (Gr.refl W1).drew
            refine wp_regionR (S := fun X => Kp (fun j => (Value.slice q pre.length c).ownBlock = some j) W1 X) (D := [19]) hmx (by kernel_rfl) (fun h => by obtain ⟨_, _, h⟩ := h; exact h) ?_
            refine' wpAnyD_take (i := 0) (oi := { dst := some 45, op := Go.Op.load 40 (Go.Operand.tmp 14), type := 40, pos := "route.go:46", after := #[], guard := none }) (v := _) rfl (by kernel_rfl) (by kernel_rfl) (by kernel_rfl) (fun _ _ _ h => h) (by kernel_rfl) (Or.inl ⟨by rfl, ?hy1⟩) hS0 ?rest1
            case hy1 => (intro W hSw; have hc := (tk_store (HSD.out _ hSw).l).1; have hl := tk_lt (HSD.out _ hSw).l; go_simp; try (with_reducible rfl))
            try simp only [Act.put, List.setIfInBounds_toArray, List.set_cons_zero, List.set_cons_succ]
            refine' wpAnyD_take (i := 1) (oi := { dst := some 46, op := Go.Op.load 47 (Go.Operand.tmp 16), type := 47, pos := "route.go:46", after := #[], guard := none }) (v := _) rfl (by kernel_rfl) (by kernel_rfl) (by kernel_rfl) (fun _ _ _ h => h) (by kernel_rfl) (Or.inl ⟨by rfl, ?hy2⟩) hS0 ?rest2
            case hy2 => (intro W hSw; have hc := (tk_store (HSD.out _ hSw).d).1; have hl := tk_lt (HSD.out _ hSw).d; go_simp; try (with_reducible rfl))
            try simp only [Act.put, List.setIfInBounds_toArray, List.set_cons_zero, List.set_cons_succ]
            refine' wpAnyD_take (i := 2) (oi := { dst := some 47, op := Go.Op.fieldAddr 30 (Go.Operand.tmp 9) 0, type := 0, pos := "route.go:46", after := #[], guard := none }) (v := _) rfl (by kernel_rfl) (by kernel_rfl) (by kernel_rfl) (fun _ _ _ h => h) (by kernel_rfl) (Or.inl ⟨by rfl, ?hy3⟩) hS0 ?rest3
            case hy3 => (intro W hSw; go_simp; try (with_reducible rfl))
            try simp only [Act.put, List.setIfInBounds_toArray, List.set_cons_zero, List.set_cons_succ]
            refine' wpAnyD_take (i := 3) (oi := { dst := some 48, op := Go.Op.load 26 (Go.Operand.tmp 47), type := 26, pos := "route.go:46", after := #[{ on := 2, ground := Go.Ground.data }], guard := none }) (v := _) rfl (by kernel_rfl) (by kernel_rfl) (by kernel_rfl) (fun _ _ _ h => h) (by kernel_rfl) (Or.inl ⟨by rfl, ?hy4⟩) hS0 ?rest4
            case hy4 => (intro W hSw; have hc := (tk_store (HSD.out _ hSw).r).1; have hl := tk_lt (HSD.out _ hSw).r; go_simp; try (with_reducible rfl))
            try simp only [Act.put, List.setIfInBounds_toArray, List.set_cons_zero, List.set_cons_succ]
            refine' wpAnyD_take (i := 4) (oi := { dst := some 49, op := Go.Op.load 3 (Go.Operand.tmp 10), type := 3, pos := "route.go:46", after := #[], guard := none }) (v := _) rfl (by kernel_rfl) (by kernel_rfl) (by kernel_rfl) (fun _ _ _ h => h) (by kernel_rfl) (Or.inl ⟨by rfl, ?hy5⟩) hS0 ?rest5
            case hy5 => (intro W hSw; have hc := (tk_store (HSD.out _ hSw).o).1; have hl := tk_lt (HSD.out _ hSw).o; go_simp; try (with_reducible rfl))
            try simp only [Act.put, List.setIfInBounds_toArray, List.set_cons_zero, List.set_cons_succ]
            refine' wpAnyD_take (i := 5) (oi := { dst := some 50, op := Go.Op.load 3 (Go.Operand.tmp 11), type := 3, pos := "route.go:46", after := #[], guard := none }) (v := _) rfl (by kernel_rfl) (by kernel_rfl) (by kernel_rfl) (fun _ _ _ h => h) (by kernel_rfl) (Or.inl ⟨by rfl, ?hy6⟩) hS0 ?rest6
            case hy6 => (intro W hSw; have hc := (tk_store (HSD.out _ hSw).w).1; have hl := tk_lt (HSD.out _ hSw).w; go_simp; try (with_reducible rfl))
            try simp only [Act.put, List.setIfInBounds_toArray, List.set_cons_zero, List.set_cons_succ]
            refine' wpAnyD_take (i := 7) (oi := { dst := some 52, op := Go.Op.load 34 (Go.Operand.tmp 6), type := 34, pos := "route.go:46", after := #[], guard := none }) (v := _) rfl (by kernel_rfl) (by kernel_rfl) (by kernel_rfl) (fun _ _ _ h => h) (by kernel_rfl) (Or.inl ⟨by rfl, ?hy7⟩) hS0 ?rest7
            case hy7 => (intro W hSw; have hc := (tk_store (HSD.out _ hSw).g).1; have hl := tk_lt (HSD.out _ hSw).g; go_simp; try (with_reducible rfl))
            try simp only [Act.put, List.setIfInBounds_toArray, List.set_cons_zero, List.set_cons_succ]
            refine' wpAnyD_take (i := 8) (oi := { dst := some 53, op := Go.Op.fieldAddr 47 (Go.Operand.tmp 16) 2, type := 0, pos := "route.go:46", after := #[], guard := none }) (v := _) rfl (by kernel_rfl) (by kernel_rfl) (by kernel_rfl) (fun _ _ _ h => h) (by kernel_rfl) (Or.inl ⟨by rfl, ?hy8⟩) hS0 ?rest8
            case hy8 => (intro W hSw; go_simp; try (with_reducible rfl))
            try simp only [Act.put, List.setIfInBounds_toArray, List.set_cons_zero, List.set_cons_succ]
            refine' wpAnyD_take (i := 9) (oi := { dst := some 54, op := Go.Op.load 3 (Go.Operand.tmp 53), type := 3, pos := "route.go:46", after := #[{ on := 8, ground := Go.Ground.data }], guard := none }) (v := _) rfl (by kernel_rfl) (by kernel_rfl) (by kernel_rfl) (fun _ _ _ h => h) (by kernel_rfl) (Or.inl ⟨by rfl, ?hy9⟩) hS0 ?rest9
            case hy9 => (intro W hSw; have hc := (tk_store (HSD.out _ hSw).d).1; have hl := tk_lt (HSD.out _ hSw).d; go_simp; try (with_reducible rfl))
            try simp only [Act.put, List.setIfInBounds_toArray, List.set_cons_zero, List.set_cons_succ]
            refine' wpAnyD_take (i := 10) (oi := { dst := some 55, op := Go.Op.fieldAddr 47 (Go.Operand.tmp 16) 3, type := 0, pos := "route.go:46", after := #[], guard := none }) (v := _) rfl (by kernel_rfl) (by kernel_rfl) (by kernel_rfl) (fun _ _ _ h => h) (by kernel_rfl) (Or.inl ⟨by rfl, ?hy10⟩) hS0 ?rest10
            case hy10 => (intro W hSw; go_simp; try (with_reducible rfl))
            try simp only [Act.put, List.setIfInBounds_toArray, List.set_cons_zero, List.set_cons_succ]
            refine' wpAnyD_take (i := 11) (oi := { dst := some 56, op := Go.Op.load 3 (Go.Operand.tmp 55), type := 3, pos := "route.go:46", after := #[{ on := 10, ground := Go.Ground.data }], guard := none }) (v := _) rfl (by kernel_rfl) (by kernel_rfl) (by kernel_rfl) (fun _ _ _ h => h) (by kernel_rfl) (Or.inl ⟨by rfl, ?hy11⟩) hS0 ?rest11
            case hy11 => (intro W hSw; have hc := (tk_store (HSD.out _ hSw).d).1; have hl := tk_lt (HSD.out _ hSw).d; go_simp; try (with_reducible rfl))
            try simp only [Act.put, List.setIfInBounds_toArray, List.set_cons_zero, List.set_cons_succ]
            refine' wpAnyD_take (i := 13) (oi := { dst := some 58, op := Go.Op.load 28 (Go.Operand.tmp 8), type := 28, pos := "route.go:46", after := #[], guard := none }) (v := _) rfl (by kernel_rfl) (by kernel_rfl) (by kernel_rfl) (fun _ _ _ h => h) (by kernel_rfl) (Or.inl ⟨by rfl, ?hy12⟩) hS0 ?rest12
            case hy12 => (intro W hSw; have hc := (tk_store (HSD.out _ hSw).t).1; have hl := tk_lt (HSD.out _ hSw).t; go_simp; try (with_reducible rfl))
            try simp only [Act.put, List.setIfInBounds_toArray, List.set_cons_zero, List.set_cons_succ]
            refine' wpAnyD_take (i := 14) (oi := { dst := some 59, op := Go.Op.load 30 (Go.Operand.tmp 9), type := 30, pos := "route.go:46", after := #[], guard := none }) (v := _) rfl (by kernel_rfl) (by kernel_rfl) (by kernel_rfl) (fun _ _ _ h => h) (by kernel_rfl) (Or.inl ⟨by rfl, ?hy13⟩) hS0 ?rest13
            case hy13 => (intro W hSw; have hc := (tk_store (HSD.out _ hSw).r).1; have hl := tk_lt (HSD.out _ hSw).r; go_simp; try (with_reducible rfl))
            try simp only [Act.put, List.setIfInBounds_toArray, List.set_cons_zero, List.set_cons_succ]
            refine wpAnyD_one (i := 6) (o := { dst := some 51, op := Go.Op.call { callee := Go.Callee.value (Go.Operand.func 27), args := #[Go.Operand.tmp 46, Go.Operand.tmp 48, Go.Operand.tmp 49, Go.Operand.tmp 50], argTypes := #[47, 26, 3, 3] }, type := 3, pos := "route.go:47", after := #[{ on := 1, ground := Go.Ground.data }, { on := 3, ground := Go.Ground.data }, { on := 4, ground := Go.Ground.data }, { on := 5, ground := Go.Ground.data }], guard := none }) (by kernel_rfl) rfl (fun K hK => ?_)
            go_simp
            refine (hal _).mono ?_
            rintro r w5 ⟨rfl, g5⟩
            have hS5 : Kp (fun j => (Value.slice q pre.length c).ownBlock = some j) W1 w5 := hS0.trans (Kp.of_gr g5) (fun _ _ h => h)
            have hin := gin_any d.dst d.inn w5 (HR.out.2.2.2.2.2.below ((Gr.refl W1).drew.trans g5).below)
            have hB5 := ((Gr.refl W1).drew.trans g5).below
            clear g5
            go_wp2_with fail
            refine hK.out _ _ (fun hD => hS5) ?_
            clear hK K
            try simp only [Act.put, List.setIfInBounds_toArray, List.set_cons_zero, List.set_cons_succ]
            refine wpAnyD_one (i := 12) (o := { dst := some 57, op := Go.Op.call { callee := Go.Callee.value (Go.Operand.func 12), args := #[Go.Operand.tmp 52, Go.Operand.tmp 54, Go.Operand.tmp 56], argTypes := #[34, 3, 3] }, type := 3, pos := "route.go:48", after := #[{ on := 7, ground := Go.Ground.data }, { on := 9, ground := Go.Ground.data }, { on := 11, ground := Go.Ground.data }, { on := 6, ground := Go.Ground.chain }], guard := none }) (by kernel_rfl) rfl (fun K hK => ?_)
            go_simp
            refine hin.mono ?_
            rintro r w6 ⟨rfl, rfl⟩
            go_wp2_with fail
            refine hK.out _ _ (fun hD => hS5) ?_
            clear hK K
            try simp only [Act.put, List.setIfInBounds_toArray, List.set_cons_zero, List.set_cons_succ]
            refine' wpAnyD_take (i := 15) (oi := { dst := some 60, op := Go.Op.build 49 #[(0, Go.Operand.tmp 57), (1, Go.Operand.tmp 58), (2, Go.Operand.tmp 59)], type := 49, pos := "route.go:46", after := #[{ on := 12, ground := Go.Ground.data }, { on := 13, ground := Go.Ground.data }, { on := 14, ground := Go.Ground.data }], guard := none }) (v := _) rfl (by kernel_rfl) (by kernel_rfl) (by kernel_rfl) (fun _ _ _ h => h) (by kernel_rfl) (Or.inl ⟨by rfl, ?hy16⟩) hS5 ?rest16
            case hy16 => (intro W hSw; go_simp; try (with_reducible rfl))
            try simp only [Act.put, List.setIfInBounds_toArray, List.set_cons_zero, List.set_cons_succ]
            refine' wpAnyD_take (i := 16) (oi := { dst := some 61, op := Go.Op.build 51 #[(0, Go.Operand.tmp 51), (1, Go.Operand.tmp 60)], type := 51, pos := "route.go:46", after := #[{ on := 6, ground := Go.Ground.data }, { on := 15, ground := Go.Ground.data }], guard := none }) (v := _) rfl (by kernel_rfl) (by kernel_rfl) (by kernel_rfl) (fun _ _ _ h => h) (by kernel_rfl) (Or.inl ⟨by rfl, ?hy17⟩) hS5 ?rest17
            case hy17 => (intro W hSw; go_simp; try (with_reducible rfl))
            try simp only [Act.put, List.setIfInBounds_toArray, List.set_cons_zero, List.set_cons_succ]
            refine wpAnyD_one (i := 17) (o := { dst := some 62, op := Go.Op.buildSlice 40 1 #[(0, Go.Operand.tmp 61)], type := 40, pos := "route.go:46", after := #[{ on := 16, ground := Go.Ground.data }], guard := none }) (by kernel_rfl) rfl (fun K hK => ?_)
            go_simp
            have hS7 := hS5.trans (Kp.of_gr (S := fun j => (Value.slice q pre.length c).ownBlock = some j) ((Gr.refl w6).alloc (.cells (otc ⟨alg d.keyed x.key own m, inN g.nodes d.dst d.inn, x⟩) 51))) (fun _ _ h => h)
            refine hK.out _ _ (fun hD => hS7) ?_
            clear hK K
            try simp only [Act.put, List.setIfInBounds_toArray, List.set_cons_zero, List.set_cons_succ]
            refine wpAnyD_one (i := 18) (o := { dst := some 63, op := Go.Op.call { callee := Go.Callee.builtin Go.Builtin.append, args := #[Go.Operand.tmp 45, Go.Operand.tmp 62], argTypes := #[40, 40] }, type := 40, pos := "route.go:46", after := #[{ on := 0, ground := Go.Ground.data }, { on := 17, ground := Go.Ground.data }, { on := 12, ground := Go.Ground.chain }], guard := none }) (by kernel_rfl) rfl (fun K hK => ?_)
            refine step_app1 EOt Try.underlying40 infoOt rfl (by decide) rfl _ _ rfl (w2.heap.size + 1) (.slice q pre.length c) pre.length (fl EOt (pre.map fun y => mkO g x own m y.1)) rfl (w := w6) ?ho ⟨alg d.keyed x.key own m, inN g.nodes d.dst d.inn, x⟩ (by first | rfl | simp) (by have := HR.out.2.2.2.1; omega) (by have := HR.out.2.2.2.1; unfold maxLen; omega) (by have h1 := HR.out.2.2.2.2.1; have h2 := HR.out.2.1.size; have h3 := hS5.size; omega) _ rfl _ ?_
            case ho => exact owns_below HR.out.1 hB5
            intro g8 c8 w8 h8 k8 n8
            have hS8 := hS5.trans (Kp.grownBy (S := fun j => (Value.slice q pre.length c).ownBlock = some j) k8.out (fun _ h => h)) (fun _ _ h => h)
            refine hK.out _ _ (fun hD => hS8) ?_
            clear hK K
            try simp only [Act.put, List.setIfInBounds_toArray, List.set_cons_zero, List.set_cons_succ]
            refine wpAnyD_one (i := 19) (o := { dst := none, op := Go.Op.store 40 (Go.Operand.tmp 14) (Go.Operand.tmp 63), type := 0, pos := "route.go:46", after := #[{ on := 18, ground := Go.Ground.data }, { on := 18, ground := Go.Ground.chain }, { on := 0, ground := Go.Ground.phase }, { on := 1, ground := Go.Ground.phase }, { on := 2, ground := Go.Ground.phase }, { on := 3, ground := Go.Ground.phase }, { on := 4, ground := Go.Ground.phase }, { on := 5, ground := Go.Ground.phase }, { on := 6, ground := Go.Ground.phase }, { on := 7, ground := Go.Ground.phase }, { on := 8, ground := Go.Ground.phase }, { on := 9, ground := Go.Ground.phase }, { on := 10, ground := Go.Ground.phase }, { on := 11, ground := Go.Ground.phase }, { on := 12, ground := Go.Ground.phase }, { on := 13, ground := Go.Ground.phase }, { on := 14, ground := Go.Ground.phase }, { on := 15, ground := Go.Ground.phase }, { on := 16, ground := Go.Ground.phase }, { on := 17, ground := Go.Ground.phase }, { on := 18, ground := Go.Ground.phase }], guard := none }) (by kernel_rfl) rfl (fun K hK => ?_)
            have c9 := (tk_store (HSD.out _ hS8).l).1
            have f9 := (tk_store (HSD.out _ hS8).l).2
            have l9 := tk_lt (HSD.out _ hS8).l
            go_simp
            have FIN : Hid (KeepsFrom w3.heap.size W (w8.setCell ⟨w2.heap.size + 1, 0, none⟩ (.slice (some ⟨g8, 0, none⟩) (pre.length + 1) c8)) ∧ Below (w2.heap.size + 1) W (w8.setCell ⟨w2.heap.size + 1, 0, none⟩ (.slice (some ⟨g8, 0, none⟩) (pre.length + 1) c8)) ∧ (∃ v, Boxed (w8.setCell ⟨w2.heap.size + 1, 0, none⟩ (.slice (some ⟨g8, 0, none⟩) (pre.length + 1) c8)) (w2.heap.size + 1) 40 v ∧ (w8.setCell ⟨w2.heap.size + 1, 0, none⟩ (.slice (some ⟨g8, 0, none⟩) (pre.length + 1) c8)).ownsRow (w2.heap.size + 1) 51 7 v (pre ++ [y]).length (fl EOt ((pre ++ [y]).map fun y => mkO g x own m y.1)) ∧ True) ∧ Below (w2.heap.size + 1) w3 (w8.setCell ⟨w2.heap.size + 1, 0, none⟩ (.slice (some ⟨g8, 0, none⟩) (pre.length + 1) c8))) := by
              obtain ⟨s1, s2⟩ := tk_set (HSD.out _ hS8).l 0 (.slice (some ⟨g8, 0, none⟩) (pre.length + 1) c8)
              have hsz := F.out.2.2.2.2.2.2.2.2.1
              have hlow := HR.out.2.2.2.2.1
              have kk : Kp (fun j => (Value.slice q pre.length c).ownBlock = some j ∨ j = w2.heap.size + 1) W (w8.setCell ⟨w2.heap.size + 1, 0, none⟩ (.slice (some ⟨g8, 0, none⟩) (pre.length + 1) c8)) := ((Kp.of_below (S := fun j => (Value.slice q pre.length c).ownBlock = some j ∨ j = w2.heap.size + 1) HR.out.2.1).trans hS8 (fun _ _ h => Or.inl h)).trans s2 (fun _ _ h => Or.inr h)
              have bl : Below (w2.heap.size + 1) W (w8.setCell ⟨w2.heap.size + 1, 0, none⟩ (.slice (some ⟨g8, 0, none⟩) (pre.length + 1) c8)) := kk.below (by omega) (fun j h => by rcases h with h | h; exact (owns_rd HR.out.1 j h).1; omega)
              refine ⟨keeps_kpS (fun j h => ?_) kk, bl, ⟨_, s1, ?_, trivial⟩, HR.out.2.2.1.trans bl⟩
              · rcases h with h | h
                · obtain ⟨cs, f, hc⟩ := Lib.ownsRow_kind HR.out.1 j h
                  exact ⟨_, _, _, (HR.out.2.1.block j (owns_rd HR0.out j h).2).symm.trans hc⟩
                · rw [h]
                  exact ⟨_, _, _, HV.out⟩
              · have hr := owns_kp s2 h8.out (fun j h e => owns_ne_blk h8.out (HSD.out _ hS8).l (by decide) j h e)
                rw [List.length_append, List.map_append, fl_append]
                simp only [List.map_cons, List.map_nil, fl_one, HD.out]
                exact hr
            generalize (w8.setCell ⟨w2.heap.size + 1, 0, none⟩ (.slice (some ⟨g8, 0, none⟩) (pre.length + 1) c8)) = w12 at FIN ⊢
            clear c9 f9 l9
            refine hK.out _ _ (fun hD => absurd (by decide) hD) ?_
            clear hK K
            try simp only [Act.put, List.setIfInBounds_toArray, List.set_cons_zero, List.set_cons_succ]
            refine wpAnyD_done (by kernel_rfl) ?_ _
            exact FIN.out
  · rw [decide_eq_false h1] at hcb
    clear hin
    go_wp2_with fail
    refine hcb.mono ?_
    rintro r w0 ⟨rfl, rfl⟩
    go_wp2_with fail
    refine ⟨.slice none 0 0, by simp [results, Try.results9, go_sem], _, rfl, ?_⟩
    rw [sends_none (fun h => h1 h.1)]
    exact ⟨World.ownsRow_nil _ _ _ _, B0.out.2.2.2.2.2.1⟩
end Go.Proofs.Ytifjjnnpoleinaa.Df
