import Derived.RangeFuncNested
import Derived.RangeFuncBound
import Derived.RangeFuncCalls
import Derived.RangeFuncLeaves
import Derived.RangeFuncFrom
import Derived.RangeFuncBox
import Derived.RangeFuncStops
import Derived.Shelf.Abstract
import Derived.Shelf.RegionOpen
import Derived.WalkKit
import Derived.OwnWalkIn
import Derived.TacticsInMore
import Derived.LoopNIn
import Derived.LoopIn
import Derived.Maps.AppendAt
import Derived.Maps.OwnIn
import Derived.Sort.QuietIn
import Derived.Test.YtijbmchgajhkeaaSuMap
namespace Go.Proofs.Ytijbmchgajhkeaa
open Go.RowKit Go.Maps Go.Sort Go.Shelf
attribute [local go_sem] Oper.semAt_some

theorem hid {p : Prop} (h : p) : Hid p := h
/-- The keys of a map, each once. -/
def Ksd (D : DataW Unit) (ss : List Tm) : Prop := ss.Nodup ∧ ∀ t, t ∈ ss ↔ Maps.has D (ZT.lit t) = true
set_option maxRecDepth 100000 in
set_option maxHeartbeats 2000000 in
/-- The closure that maps.Keys hands back. -/
theorem keys1_in (n : Nat) (hn : 1 ≤ n) (l Bm b nn : Nat) (D0 : DataW Unit) (J Jx : List Tm → World → Prop)
    (hY : ∀ pre x W, J pre W → pre.length < Maps.size D0 → YieldAt Fence.wide (n - 1) Try.prog l #[tv x] W fun e W' => (e = .returned (.bool true) ∧ J (pre ++ [x]) W' ∧ KeepsWalks W W') ∨ (e = .returned (.bool false) ∧ Jx (pre ++ [x]) W'))
    (W : World) (hJ : AbidesFrom W.heap.size J) (hm : W.cell? ⟨Bm, 0, none⟩ = some (.map (some b))) (hown : W.ownsMap Try.prog 32 ptE b nn D0) (h0 : J [] W) :
    CallsIn Fence.wide n Try.prog 40 #[.func (.yield l) #[] #[], .pointer (some ⟨Bm, 0, none⟩)] W fun e W' => (∃ v, e = .returned v) ∧ ((∃ ss, Ksd D0 ss ∧ J ss W') ∨ (∃ pre : List Tm, True ∧ Jx pre W')) := by
  refine callsIn_of_wp Try.func40 rfl trivial ?_ rfl
  simp only [Try.ntmps40, List.size_toArray, List.length_cons, List.length_nil, Nat.reduceAdd, Nat.reduceSub, Array.replicate_succ, Array.replicate_zero, List.push_toArray, List.append_toArray, List.nil_append, List.cons_append]
  gi_wp2_with (first
    | (gi_at_range; refine wpListIn_range_own _ rfl _ 63 rfl 32 64 ZT.law Try.underlying63 _ b nn _ rfl hown ?_; intro w0 hrg0 hg0 hs0)
    | gi_in)
  go_frame
  gi_loopw [3] (fun _ wr => ∃ (left : Lit → Bool) (cnt : Nat) (ss : List Tm), wr.ranges Try.prog 32 ptE b W.heap.size nn D0 left cnt ∧ ss.length + cnt ≤ Maps.size D0 ∧ Coll ZT D0 left ss ∧ J ss wr)
    (fun _ wr => wr.rangeLeft b W.heap.size)
  case atStart =>
    exact ⟨_, _, [], hrg0, by simp, Coll.start D0, hJ [] W w0 none h0 hg0 (fun r e => by cases e)⟩
  case round =>
    obtain ⟨left, cnt, ss, hrg, hcs, hC, hJs⟩ := hrel
    gi_wp2_with (first
      | (gi_at_next; refine wpListIn_next_ranges _ rfl _ rfl 32 ZT.law ptE tv id (fun key kl hk => invTm key kl hk) (fun v _ _ => ⟨v, rfl⟩) b W.heap.size nn _ _ _ rfl hrg ?_ ?_)
      | gi_in)
    · intro hc0 hl0
      gi_wp2
      go_end0
      exact ⟨⟨_, rfl⟩, .inl ⟨ss, ⟨hC.1, fun x => by rw [hC.2 x, hl0]; simp⟩, hJs⟩⟩
    · intro ta tb tc tp c kl yd yp w2 cnt2 hkey hlk hv hat hrg2 hlt hg2 hs2 hen
      obtain ⟨x, hx⟩ : ∃ x : Tm, x = ⟨(ta, tb, tc), tp⟩ := ⟨_, rfl⟩
      rw [← hx] at hkey hen ⊢
      clear hx tp ta tb tc
      obtain rfl : kl = ZT.lit x := by
        have h7 := (ZT.key x).symm.trans hkey
        exact (Option.some.inj h7).symm
      have hJ2 : J ss w2 := hJ ss wr w2 (some W.heap.size) hJs hg2 (fun r e => by cases e; exact ⟨Nat.le_refl _, hrg.iter_walk⟩)
      obtain ⟨W3, hW3⟩ : ∃ W3, W3 = w2.alloc (.cells #[.int .u64 x.1.1, .int .u64 x.1.2.1, .int .u64 x.1.2.2] 32) := ⟨_, rfl⟩
      have hJ3 : J ss W3 := by rw [hW3]; exact hJ ss w2 _ none hJ2 (World.grownBy_alloc w2 _ none) (fun r e => by cases e)
      have hrg3 : W3.ranges Try.prog 32 ptE b W.heap.size nn D0 (fun z => left z && !z.sameKey (ZT.lit x)) cnt2 := by rw [hW3]; exact hrg2.alloc _
      obtain ⟨fn, tmps, assign, body, hy, hR⟩ := hY ss x W3 hJ3 (by omega)
      have hC2 := hC.step hlk hat
      clear hs2 hv hat hkey hlk
      have HLT := hid hlt
      clear hlt
      subst hW3
      gi_wp2
      refine hR.mono ?_
      rintro e W4 (⟨rfl, hJ4, hk4⟩ | ⟨rfl, hJx4⟩)
      · gi_wp2
        have hrg4 := hrg3.of_walks hk4
        go_roundw
        case rel => exact ⟨_, cnt2, ss ++ [x], hrg4, by have := HLT.out; simp; omega, hC2, hJ4⟩
        case measure => rw [hrg4.left_eq, hrg.left_eq]; exact HLT.out
      · gi_wp2
        refine bodyPost_ret (results_none rfl _ _ _) rfl ?_
        exact ⟨⟨_, rfl⟩, .inr ⟨ss ++ [x], trivial, hJx4⟩⟩
set_option maxRecDepth 100000 in
set_option maxHeartbeats 1000000 in
theorem keys1_nil (n : Nat) (l Bm : Nat) (J : List Tm → World → Prop) (W : World) (hJ : AbidesFrom W.heap.size J) (hm : W.cell? ⟨Bm, 0, none⟩ = some (.map none)) (h0 : J [] W) :
    CallsIn Fence.wide n Try.prog 40 #[.func (.yield l) #[] #[], .pointer (some ⟨Bm, 0, none⟩)] W fun e W' => (∃ v, e = .returned v) ∧ Hid (J [] W') := by
  refine callsIn_of_wp Try.func40 rfl trivial ?_ rfl
  simp only [Try.ntmps40, List.size_toArray, List.length_cons, List.length_nil, Nat.reduceAdd, Nat.reduceSub, Array.replicate_succ, Array.replicate_zero, List.push_toArray, List.append_toArray, List.nil_append, List.cons_append]
  have hrg := run_range_nilMap (P := Try.prog) W 63 32 64 Try.underlying63
  have hnx : ∀ ty, (Instr.next (.pointer (some ⟨W.heap.size, 0, none⟩)) false ty).run Try.prog (W.alloc (.mapIter none 0 #[] 0)) = _ := fun ty => run_next_nilMap _ ty 0 0 #[]
  gi_wp2
  refine wpIn_loop_rounds 1 ?_
  rw [roundsIn_succ]
  gi_wp2
  go_end0
  exact ⟨⟨_, rfl⟩, hJ [] W _ none h0 (World.grownBy_alloc W _ none) (fun r e => by cases e)⟩
/-- What a map's block reads as: D, or nothing. -/
def Mok (w : World) (o : Option Nat) (n : Nat) (D : DataW Unit) : Prop := match o with
  | some b => w.ownsMap Try.prog 32 ptE b n D
  | none => D = .map []
theorem Mok.below {w w' : World} {o : Option Nat} {n : Nat} {D : DataW Unit} (h : Mok w o n D) (hb : Below w.heap.size w w') : Mok w' o n D := by
  cases o with
  | none => exact h
  | some b =>
    have hbl := World.ownsMap.lt (show w.ownsMap Try.prog 32 ptE b n D from h)
    obtain ⟨es, clock, h1, h2⟩ := (show w.ownsMap Try.prog 32 ptE b n D from h)
    exact ⟨es, clock, (hb.block b hbl).trans h1, h2⟩
theorem keys_stops (n : Nat) (hn : 1 ≤ n) (Bm nn : Nat) (o : Option Nat) (D0 : DataW Unit) (w : World) (hBm : Bm < w.heap.size) (hm : w.cell? ⟨Bm, 0, none⟩ = some (.map o)) (hown : Mok w o nn D0) :
    SeqStopsK Fence.wide n Try.prog 40 #[.pointer (some ⟨Bm, 0, none⟩)] (fun x : Tm => #[tv x]) KeepsWalks (Ksd D0) (fun _ => True) (Maps.size D0) w := fun l J Jx W hW hJ _ hY h0 => by
  have hc := (hW.cell (p := ⟨Bm, 0, none⟩) hBm).trans hm
  cases o with
  | some b => exact keys1_in n hn l Bm b nn D0 J Jx hY W hJ hc (hown.below hW) h0
  | none =>
    obtain rfl : D0 = .map [] := hown
    exact (keys1_nil n l Bm J W hJ hc h0).mono fun r W' ⟨hr, hj⟩ => ⟨hr, .inl ⟨[], ⟨List.nodup_nil, fun t => by rw [show Maps.has (DataW.map (H := Unit) []) (ZT.lit t) = false from rfl]; simp⟩, hj.out⟩⟩
theorem mkeys_any (o : Option Nat) (w : World) : Calls Try.prog 24 #[.map o] w fun e w' => e = .returned (.func (.func 40) #[] #[.pointer (some ⟨w.heap.size, 0, none⟩)]) ∧ w' = w.alloc (.cells #[.map o] 63) := by
  go_enter Try.func24, Try.ntmps24
  go_wp2_with fail
  go_ret
  exact ⟨rfl, rfl⟩
theorem walks_b {B : Nat} : ∀ (W : World) (l : Nat) (o o' : Obj), B ≤ l → W.heap[l]? = some o → o.isCells = false → o.isWalk = false → KeepsWalks W (W.putObj l o') := fun _ _ _ o' _ h _ hw => KeepsWalks.putObj o' h hw
theorem owns_form {w : World} {base : Nat} {e : TypeId} {s : Nat} {v : Value} {n : Nat} {xs : List Value} (h : w.ownsRow base e s v n xs) : ∃ p c, v = .slice p n c := by
  obtain ⟨_, ⟨h0, h1⟩ | ⟨g, cap, cur, h0, _⟩⟩ := h
  · exact ⟨none, 0, by rw [h0, h1]⟩
  · exact ⟨_, _, h0⟩
/-- The block of a loop's variable. -/
def Vx (w : World) (x : Tm) (W : World) (xb : Nat) : Prop := w.heap.size ≤ xb ∧ W.heap[xb]? = some (.cells #[.int .u64 x.1.1, .int .u64 x.1.2.1, .int .u64 x.1.2.2] 32 (0, 0))
set_option maxRecDepth 100000 in
set_option maxHeartbeats 2000000 in
/-- slices.AppendSeq(nil, the keys of a map). -/
theorem appendSeq_any (Bm nn : Nat) (o : Option Nat) (D0 : DataW Unit) (w : World) (hBm : Bm < w.heap.size) (hm : w.cell? ⟨Bm, 0, none⟩ = some (.map o)) (hown : Mok w o nn D0) (hN : Maps.size D0 ≤ 1000000000) :
    Calls Try.prog 57 #[.slice none 0 0, .func (.func 40) #[] #[.pointer (some ⟨Bm, 0, none⟩)]] w fun e W' =>
      ∃ (v : Value) (ss : List Tm), e = .returned v ∧ Ksd D0 ss ∧ ss.length ≤ Maps.size D0 ∧ W'.ownsRow w.heap.size 32 3 v ss.length (flT ss) ∧ Below w.heap.size w W' := by
  obtain ⟨i0, hi, hz0, hz1, hz2⟩ := info_parts infoTm
  have HM := hid hown
  have HC := hid hm
  clear hown hm
  refine (callsIn_wide (n := 4)).1 ?_
  refine callsIn_of_wp_marks Try.func57 rfl trivial ?_ rfl
  simp only [Try.ntmps57, List.size_toArray, List.length_cons, List.length_nil, Nat.reduceAdd, Nat.reduceSub, Array.replicate_succ, Array.replicate_zero, List.push_toArray, List.append_toArray, List.nil_append, List.cons_append]
  gi_wp2
  obtain ⟨W0, hW0⟩ : ∃ W, W = w.alloc (.cells #[.slice none 0 0] 23) := ⟨_, rfl⟩
  rw [← hW0]
  have F0 : Hid (Boxed W0 w.heap.size 23 (.slice none 0 0) ∧ Below w.heap.size w W0 ∧ W0.heap.size = w.heap.size + 1) := by
    rw [hW0]
    exact ⟨Boxed.new w _ _, ((Gr.refl w).alloc _).below, by simp⟩
  clear hW0
  refine wpIn_rangeFunc_ownH rfl (by decide) (gf := 40) (lb := #[.pointer (some ⟨Bm, 0, none⟩)]) rfl trivial (enters_of Try.func40 (by kernel_rfl) rfl)
    (keys_stops 3 (by decide) Bm nn o D0 W0 (by have := F0.out.2.2; omega) ((F0.out.2.1.cell (p := ⟨Bm, 0, none⟩) hBm).trans HC.out) (HM.out.below F0.out.2.1)) (fun h k => KeepsWalks.trans h k) walks_b (Below.refl _ _) (fun _ => rfl)
    (fun (pre : List Tm) (W : World) => (∃ v, Boxed W w.heap.size 23 v ∧ W.ownsRow w.heap.size 32 3 v pre.length (flT pre) ∧ pre.length ≤ Maps.size D0) ∧ Below w.heap.size W0 W)
    (fun (_ : Code) (_ : List Tm) (_ : World) => False)
    (OwnFrom.and (Own.from (holdsRow_own w.heap.size w.heap.size 23 32 3 (fun pre : List Tm => pre.length) (fun pre : List Tm => flT pre) (fun (pre : List Tm) _ => pre.length ≤ Maps.size D0)) _) (ownFrom_below (by have := F0.out.2.2; omega) (by have := F0.out.2.2; omega)))
    (fun _ => fun _ _ _ _ h => h.elim)
    ⟨⟨_, F0.out.1, World.ownsRow_nil _ _ _ _, Nat.zero_le _⟩, Below.refl _ _⟩
    (fun (x : Tm) (a' : Act) (W : World) => ∃ xb, Vx w x W xb ∧ a' = { tmps := #[.slice none 0 0, .func (.func 40) #[] #[.pointer (some ⟨Bm, 0, none⟩)], .pointer (some ⟨w.heap.size, 0, none⟩), undef, .slice none 0 0, .pointer (some ⟨xb, 0, none⟩), .func (.func 40) #[] #[.pointer (some ⟨Bm, 0, none⟩)], tv x, undef, undef, undef, undef, undef], defers := [] })
    ?ax ?assign ?body ?done ?stop
  case ax =>
    rintro x a' _ X Y row ⟨xb, ⟨h1, h2⟩, rfl⟩ hg hr
    refine ⟨xb, ⟨h1, (hg.block xb (Array.getElem?_eq_some_iff.1 h2).1 fun e => ?_).trans h2⟩, rfl⟩
    obtain ⟨_, ob, ho, hc⟩ := hr xb e.symm
    rw [h2] at ho
    cases ho
    cases hc
  case assign =>
    rintro l pre x W K ⟨⟨v, hv, hrow, hG⟩, hB⟩ hK
    gi_wp2
    refine hK _ _ ((KeepsOthers.alloc W _).from _) (KeepsOthers.alloc W _).walks ⟨⟨v, hv.alloc _, hrow.alloc _, hG⟩, hB.alloc (by have := hB.size; have := F0.out.2.2; omega) _⟩ ⟨W.heap.size, ⟨by have := hB.size; have := F0.out.2.2; omega, heap_new' _ _⟩, rfl⟩
  case body =>
    rintro l pre x a' W hl hrec ⟨⟨v, hv, hrow, -⟩, hB⟩ ⟨xb, ⟨hx1, hx2⟩, rfl⟩ hlt
    obtain ⟨q, c, rfl⟩ := owns_form hrow
    have hc := hv.cell
    have k0 : W.cell? ⟨xb, 0, none⟩ = some (.int .u64 x.1.1) := by simp [World.cell?, hx2]
    have k1 : W.cell? ⟨xb, 1, none⟩ = some (.int .u64 x.1.2.1) := by simp [World.cell?, hx2]
    have k2 : W.cell? ⟨xb, 2, none⟩ = some (.int .u64 x.1.2.2) := by simp [World.cell?, hx2]
    have hsz := hB.size
    have hs0 := F0.out.2.2
    have hpl : pre.length < 1000000000 := by omega
    gi_wp2_with (gi_at_builtin; refine wpListIn_append_own _ rfl _ _ 23 rfl w.heap.size 32 i0 (.agg #[.int .u64 0, .int .u64 0, .int .u64 0]) 3 24 Try.underlying23 hi hz0 hz1 hz2 rfl (by decide) _ _ _ rfl (hrow.alloc _) ⟨W.heap.size, 0, none⟩ 1 1 (ET.enc x) rfl rfl (World.news_of_block (heap_new' W (.cells #[.int .u64 x.1.1, .int .u64 x.1.2.1, .int .u64 x.1.2.2] 32))) (ET.one x) (by unfold maxLen; omega) (by omega) (by simp; omega) ?_; intro v' w1 hown' hgrow _; obtain ⟨g', cap', rfl⟩ := ownsRow_succ hown'; obtain ⟨hv1, hv2, hr2, hk2, hb2⟩ := hv.appended (by decide) hrow (by omega) (Nat.le_refl _) hown' hgrow; have hc1 := hv1.cell; have hf1 := hv1.frozen)
    refine ⟨hk2.from _, hk2.walks, ⟨_, hv2, ?_, by simp; omega⟩, hB.trans hb2⟩
    rw [flT_append, flT_one]
    simpa using hr2
  case done =>
    rintro D ys W hD hS ⟨⟨v, hv, hrow, hG⟩, hB⟩ hK
    have hc := hv.cell
    have hs0 := F0.out.2.2
    gi_wp2
    refine ⟨by simp, .inl ⟨_, _, rfl, run_takeDeferred hK, ?_⟩⟩
    refine ⟨_, results_tmp rfl _ _ _, v, ys, rfl, hS, hG, ?_, ?_⟩
    · exact ownsRow_putObj hrow _ hK rfl
    · exact (F0.out.2.1.trans hB).trans (belowK_b (w := w) (Nat.le_refl _) W D _ _ (by omega) hK rfl rfl)
  case stop =>
    rintro D c qs W hD hS h hK
    exact h.elim
set_option maxHeartbeats 1000000 in
theorem collect_any (Bm nn : Nat) (o : Option Nat) (D0 : DataW Unit) (w : World) (hBm : Bm < w.heap.size) (hm : w.cell? ⟨Bm, 0, none⟩ = some (.map o)) (hown : Mok w o nn D0) (hN : Maps.size D0 ≤ 1000000000) :
    Calls Try.prog 38 #[.func (.func 40) #[] #[.pointer (some ⟨Bm, 0, none⟩)]] w fun e W' =>
      ∃ (v : Value) (ss : List Tm), e = .returned v ∧ Ksd D0 ss ∧ ss.length ≤ Maps.size D0 ∧ W'.ownsRow w.heap.size 32 3 v ss.length (flT ss) ∧ Below w.heap.size w W' := by
  have h := appendSeq_any Bm nn o D0 w hBm hm hown hN
  clear hm hown
  go_enter Try.func38, Try.ntmps38
  go_wp2_with fail
  refine h.mono ?_
  rintro e W ⟨v, ss, rfl, hS, hG, hrow, hB⟩
  go_wp2
  go_ret
  exact ⟨v, ss, rfl, hS, hG, hrow, hB⟩
end Go.Proofs.Ytijbmchgajhkeaa
