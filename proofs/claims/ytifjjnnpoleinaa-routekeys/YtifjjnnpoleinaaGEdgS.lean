import Derived.Test.YtifjjnnpoleinaaGEdg
namespace Go.Proofs.Ytifjjnnpoleinaa.Df
open Go.RowKit Go.Sort Go.Shelf
attribute [local go_sem] Oper.semAt_some

/-- A number of an edge. -/
abbrev Vx (m : Nat) : Type := { x : Int // 0 ≤ x ∧ x < (m : Int) }
theorem vx_of {m : Nat} : ∀ {l : List Int}, (∀ x ∈ l, 0 ≤ x ∧ x < (m : Int)) → ∃ L : List (Vx m), L.map Subtype.val = l
  | [], _ => ⟨[], rfl⟩
  | x :: l, h => by
    obtain ⟨L, hL⟩ := vx_of (fun y hy => h y (List.mem_cons_of_mem _ hy))
    exact ⟨⟨x, h x (List.mem_cons_self ..)⟩ :: L, by simp [hL]⟩
theorem edgesU_val (ns : List Nod) (es : List Edg) (k : Nat) : ∀ j, (edgesU ns es k j).Pairwise (· < ·) ∧ ∀ x ∈ edgesU ns es k j, 0 ≤ x ∧ x < (j : Int)
  | 0 => ⟨by simp [edgesU], by simp [edgesU]⟩
  | j + 1 => by
    obtain ⟨h1, h2⟩ := edgesU_val ns es k j
    rw [edgesU]
    have key : ∀ (l : List Int), (l = [] ∨ l = [(j : Int)]) → (edgesU ns es k j ++ l).Pairwise (· < ·) ∧ ∀ x ∈ edgesU ns es k j ++ l, 0 ≤ x ∧ x < ((j + 1 : Nat) : Int) := by
      rintro l (rfl | rfl)
      · rw [List.append_nil]
        exact ⟨h1, fun x hx => by have := h2 x hx; omega⟩
      · refine ⟨List.pairwise_append.2 ⟨h1, by simp, fun a ha b hb => ?_⟩, fun x hx => ?_⟩
        · rw [List.mem_singleton] at hb
          have := h2 a ha
          omega
        · rcases List.mem_append.1 hx with hx | hx
          · have := h2 x hx
            omega
          · rw [List.mem_singleton] at hx
            omega
    apply key
    split
    · split
      · exact Or.inr rfl
      · exact Or.inl rfl
    · exact Or.inl rfl
theorem edN_valid (g : Gph) (k : Int) : ∀ x ∈ edN g k, 0 ≤ x ∧ x < (g.edges.length : Int) := fun x hx => by
  unfold edN at hx
  split at hx
  · exact (edgesU_val _ _ _ _).2 x hx
  · simp at hx
theorem abides_grS {m : Nat} {J : List (Vx m) → World → Prop} {B : Nat} (h : AbidesFrom B J) {W W' : World} (hg : Gr W W') {pre : List (Vx m)} (h0 : J pre W) : J pre W' := h pre W W' none h0 ⟨hg.below.os, hg.below.tape, hg.below.output, hg.below.size, fun k hk _ => hg.below.block k hk⟩ (fun r e => by cases e)
set_option maxRecDepth 100000 in
set_option maxHeartbeats 2000000 in
theorem edges1_inS (n : Nat) (hn : 1 ≤ n) (l Bp Bg n₀ : Nat) {B gb j : Nat} {g : Gph} {nv ev fv pv : Value} {ys : List NV} {ss : List SV} {s : SV} {m : Nat} {L : List (Vx m)} (J Jx : List (Vx m) → World → Prop)
    (hY : ∀ pre x W, J pre W → pre.length < L.length → YieldAt Fence.wide (n - 1) Try.prog l #[.int .i64 x.1] W fun e W' => (e = .returned (.bool true) ∧ J (pre ++ [x]) W' ∧ Below n₀ W W') ∨ (e = .returned (.bool false) ∧ Jx (pre ++ [x]) W'))
    (W : World) (hJ : AbidesFrom W.heap.size J) (h : Gp B W gb g nv ev fv pv ys ss) (hs : ss[j]? = some s) (hL : W.ownsRow B 3 1 s.ev L.length (fl EI (L.map Subtype.val))) (hq : ∀ b, s.ev.ownBlock = some b → b < n₀) (hBp : W.cell? ⟨Bp, 0, none⟩ = some (.int .i64 (j : Nat))) (hBg : W.cell? ⟨Bg, 0, none⟩ = some (.pointer (some ⟨gb, 0, none⟩))) (hLl : L.length ≤ 1000) (h0 : J [] W) :
    CallsIn Fence.wide n Try.prog 28 #[.func (.yield l) #[] #[], .pointer (some ⟨Bp, 0, none⟩), .pointer (some ⟨Bg, 0, none⟩)] W fun e W' => (∃ v, e = .returned v) ∧ ((∃ zs, zs = L ∧ J zs W') ∨ (∃ pre, pre <+: L ∧ Jx pre W')) := by
  have hjs : j < ss.length := (List.getElem?_eq_some_iff.1 hs).1
  have hlen := h.rows.len
  have hP := fun (n : Nat) (W' : World) (hb : Below W.heap.size W W') => callsIn_wide (n := n).2 (gplaces_any W' (Gm.below ⟨nv, ev, fv, pv, ys, ss, h⟩ hb))
  have hA := fun (n : Nat) (W' : World) => callsIn_wide (n := n).2 (among_any (j : Int) (plN g.nodes : Nat) W')
  rw [decide_eq_true (by unfold plN; omega)] at hA
  have cg := (tk_store h.rows.blk).1
  have lg := tk_lt h.rows.blk
  obtain ⟨b1, o1, c1, rfl, hb1, x1, x2, x3, x4⟩ := ls_atS (owns_ls (E := ES) h.rows.sp) hs
  obtain ⟨sn, sp, si, sq, sm, sc⟩ := s
  simp only [SV.ev] at x4 hL hq
  have hm := (owns_caps hL _ _ _ rfl).1
  subst hm
  have HLs : Hid (Ls EI W (.slice sq L.length sc) (L.map Subtype.val)) := owns_ls (E := EI) (by rw [List.length_map]; exact hL)
  have HQ := hid hq
  have HJ := hid hJ
  have H0 := hid h0
  have HY := hid hY
  have hjz : (j : Int) < (ss.length : Int) := by omega
  have hj0 : (0 : Int) ≤ (j : Int) := by omega
  refine callsIn_of_wp Try.func28 rfl trivial ?_ rfl
  simp only [Try.ntmps28, List.size_toArray, List.length_cons, List.length_nil, Nat.reduceAdd, Nat.reduceSub, Array.replicate_succ, Array.replicate_zero, List.push_toArray, List.append_toArray, List.nil_append, List.cons_append]
  have hmx : Try.prog.follows .mixedOrders = true := by kernel_rfl
  gi_wp2
  gi_region_with_o (first | (refine ⟨trivial, ?_⟩; gi_at_call 11; refine (hP _ W.drew (Gr.refl W).drew.below).mono ?_; rintro e w' ⟨rfl, rfl⟩) | (refine ⟨trivial, ?_⟩; gi_at_call 23; refine (hA _ W.drew).mono ?_; rintro e w' ⟨rfl, rfl⟩))
  all_goals (
    go_simp
    gi_wp2
    gi_quiet (fail)
    gi_wp2
    clear hP hA
    gi_loopw [20] (fun i wr => ∃ k : Nat, k ≤ L.length ∧ i = .int .i64 k ∧ Hid (J (L.take k) wr) ∧ Hid (Ls EI wr (.slice sq L.length sc) (L.map Subtype.val))) (fun i _ => L.length - (intOf i).toNat)
    case atStart => exact ⟨0, Nat.zero_le _, rfl, by rw [List.take_zero]; exact abides_grS HJ.out ((Gr.refl W).drew.drewN _) H0.out, HLs.out.below ((Gr.refl W).drew.drewN _).below⟩
    case round =>
      obtain ⟨k, hk, rfl, hJs, hls⟩ := hrel
      by_cases hlt : k < L.length
      · obtain ⟨x, hx⟩ : ∃ x, L[k]? = some x := ⟨L[k], List.getElem?_eq_getElem hlt⟩
        obtain ⟨b2, o2, c2, e2, hb2, y2⟩ := ls_atI hls.out (show (L.map Subtype.val)[k]? = some x.1 by rw [List.getElem?_map, hx]; rfl)
        rw [List.length_map] at e2
        simp only [Value.slice.injEq] at e2
        obtain ⟨rfl, -, rfl⟩ := e2
        obtain ⟨fn, tmps, assign, body, hy, hR⟩ := HY.out (L.take k) x wr hJs.out (by simp; omega)
        have hkz : (k : Int) < (L.length : Int) := by omega
        gi_wp2
        refine hR.mono ?_
        rintro e W3 (⟨rfl, hJ3, hk3⟩ | ⟨rfl, hJx3⟩)
        · gi_wp2
          go_roundw
          case rel => exact ⟨k + 1, by omega, by simp, by rw [← take_snoc hx]; exact hJ3, ls_low hls.out hk3 HQ.out⟩
          case measure => simp [intOf]; omega
        · gi_wp2
          refine bodyPost_ret (results_none rfl _ _ _) rfl ?_
          exact ⟨⟨_, rfl⟩, .inr ⟨_, by rw [take_snoc hx]; exact List.take_prefix _ _, hJx3⟩⟩
      · have hkz : ¬ (k : Int) < (L.length : Int) := by omega
        gi_wp2
        go_end0
        exact ⟨⟨_, rfl⟩, .inl (by have h := hJs.out; rwa [List.take_of_length_le (by omega)] at h)⟩)
set_option maxRecDepth 100000 in
set_option maxHeartbeats 2000000 in
theorem edges1_noneS (n : Nat) (hn : 1 ≤ n) (l Bp Bg : Nat) {B gb : Nat} {k : Int} {g : Gph} {m : Nat} (J : List (Vx m) → World → Prop) (W : World) (hJ : AbidesFrom W.heap.size J) (h : Gm B W gb g) (hk : ¬ (0 ≤ k ∧ k < (plN g.nodes : Int))) (hBp : W.cell? ⟨Bp, 0, none⟩ = some (.int .i64 k)) (hBg : W.cell? ⟨Bg, 0, none⟩ = some (.pointer (some ⟨gb, 0, none⟩))) (h0 : J [] W) :
    CallsIn Fence.wide n Try.prog 28 #[.func (.yield l) #[] #[], .pointer (some ⟨Bp, 0, none⟩), .pointer (some ⟨Bg, 0, none⟩)] W fun e W' => (∃ v, e = .returned v) ∧ Hid (J [] W') := by
  have hP := fun (n : Nat) (W' : World) (hb : Below W.heap.size W W') => callsIn_wide (n := n).2 (gplaces_any W' (h.below hb))
  have hA := fun (n : Nat) (W' : World) => callsIn_wide (n := n).2 (among_any k (plN g.nodes : Nat) W')
  rw [decide_eq_false hk] at hA
  have HJ := hid hJ
  have H0 := hid h0
  refine callsIn_of_wp Try.func28 rfl trivial ?_ rfl
  simp only [Try.ntmps28, List.size_toArray, List.length_cons, List.length_nil, Nat.reduceAdd, Nat.reduceSub, Array.replicate_succ, Array.replicate_zero, List.push_toArray, List.append_toArray, List.nil_append, List.cons_append]
  have hmx : Try.prog.follows .mixedOrders = true := by kernel_rfl
  gi_wp2
  gi_region_with_o (first | (refine ⟨trivial, ?_⟩; gi_at_call 11; refine (hP _ W.drew (Gr.refl W).drew.below).mono ?_; rintro e w' ⟨rfl, rfl⟩) | (refine ⟨trivial, ?_⟩; gi_at_call 23; refine (hA _ W.drew).mono ?_; rintro e w' ⟨rfl, rfl⟩))
  all_goals (
    go_simp
    gi_wp2
    refine bodyPost_ret (results_none rfl _ _ _) rfl ?_
    exact ⟨⟨_, rfl⟩, abides_grS HJ.out (Gr.refl W).drew H0.out⟩)
/-- What the closure that Edges hands back gives: numbers of edges. -/
theorem edges_stopsS (n : Nat) (hn : 1 ≤ n) (Bp Bg : Nat) {B gb : Nat} (k : Int) {g : Gph} (w : World) (n₀ : Nat) (hm : Gm B w gb g) (hn₀ : w.heap.size ≤ n₀) (w1 : World) (h1 : Below w.heap.size w w1) (hBp : w1.cell? ⟨Bp, 0, none⟩ = some (.int .i64 k)) (hBg : w1.cell? ⟨Bg, 0, none⟩ = some (.pointer (some ⟨gb, 0, none⟩))) (hbp : Bp < w1.heap.size) (hbg : Bg < w1.heap.size) :
    SeqStopsK Fence.wide n Try.prog 28 #[.pointer (some ⟨Bp, 0, none⟩), .pointer (some ⟨Bg, 0, none⟩)] (fun x : Vx g.edges.length => #[Value.int .i64 x.1]) (Below n₀) (fun zs => zs.map Subtype.val = edN g k) (fun pre => pre.map Subtype.val <+: edN g k) (edN g k).length w1 := fun l J Jx W hW hJ _ hY h0 => by
  have hb := h1.trans (hW.mono h1.size)
  have cp := (hW.cell (p := ⟨Bp, 0, none⟩) hbp).trans hBp
  have cg := (hW.cell (p := ⟨Bg, 0, none⟩) hbg).trans hBg
  obtain ⟨L, hL⟩ := vx_of (edN_valid g k)
  by_cases hk : 0 ≤ k ∧ k < (plN g.nodes : Int)
  · obtain ⟨nv, ev, fv, pv, ys, ss, h⟩ := hm
    obtain ⟨j, rfl⟩ : ∃ j : Nat, k = (j : Int) := ⟨k.toNat, by omega⟩
    have hlen := h.rows.len
    have hj : j < ss.length := by unfold plN at hk; omega
    have e : edN g (j : Int) = edgesU g.nodes g.edges j g.edges.length := by
      unfold edN
      rw [if_pos hk, Int.toNat_natCast]
    have hr := h.rows.each j ss[j] (List.getElem?_eq_getElem hj)
    have hl : (edN g (j : Int)).length = L.length := by rw [← hL, List.length_map]
    rw [hl] at hY
    rw [← e, hl, ← hL] at hr
    refine (edges1_inS n hn l Bp Bg n₀ J Jx hY W hJ (h.below hb) (List.getElem?_eq_getElem hj) (owns_below hr hb) (fun b hb => by have := (owns_rd hr b hb).2; omega) cp cg (by have h1 := edgesU_length g.nodes g.edges j g.edges.length; have h2 := h.ok.el; rw [← hl, e]; omega) h0).mono ?_
    rintro e' W' ⟨h3, h4⟩
    refine ⟨h3, ?_⟩
    rcases h4 with ⟨zs, rfl, h5⟩ | ⟨pre, h5, h6⟩
    · exact .inl ⟨zs, hL, h5⟩
    · exact .inr ⟨pre, by rw [← hL]; obtain ⟨r, rfl⟩ := h5; rw [List.map_append]; exact List.prefix_append _ _, h6⟩
  · have e : edN g k = [] := by unfold edN; rw [if_neg hk]
    rw [e]
    exact (edges1_noneS n hn l Bp Bg J W hJ (hm.below hb) hk cp cg h0).mono fun r W' ⟨hr, hj⟩ => ⟨hr, .inl ⟨[], rfl, hj.out⟩⟩
end Go.Proofs.Ytifjjnnpoleinaa.Df
