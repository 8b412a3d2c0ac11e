import Derived.Test.YtconceigfommeaaDoorTimes
import Derived.Test.YtconceigfommeaaDoorPure
import Derived.Test.YtconceigfommeaaDoorTaken
import Derived.Laws.AppendOwnNone
import Derived.Deep.LoopGhost
import Derived.Deep.RegionHeld3
import Derived.Deep.AppendLies
import Derived.Deep.DeepCutAuto
import Derived.Shelf.SlSortCmp.QuietGrown
namespace Go.Proofs.YtconceigfommeaaDoor
open Go.RowKit Go.Shelf Go.Lib
open Go.Sort hiding Below

theorem tfront_length (ts : List T3) : (tfront ts).length ≤ ts.length := by
  have h := tfold_length (tsort ts)
  rwa [tsort_length] at h
theorem pw_off {fs : List T3} (h : fs.Pairwise fun u v => lt3 u v ∧ le3 u v = false ∧ le3 v u = false) {i k : Nat} {s t : T3} (hs : fs[k]? = some s) (ht : fs[i]? = some t) (hne : k ≠ i) : le3 s t = false := by
  obtain ⟨hk, rfl⟩ := List.getElem?_eq_some_iff.1 hs
  obtain ⟨hi, rfl⟩ := List.getElem?_eq_some_iff.1 ht
  rcases Nat.lt_or_gt_of_ne hne with h1 | h1
  · exact (List.pairwise_iff_getElem.1 h k i hk hi h1).2.1
  · exact (List.pairwise_iff_getElem.1 h i k hi hk h1).2.2
theorem pw_cmp {fs : List T3} (h : fs.Pairwise fun u v => lt3 u v ∧ le3 u v = false ∧ le3 v u = false) {i : Nat} {s t : T3} (hs : fs[i]? = some s) (ht : fs[i + 1]? = some t) : cmp3 s t < 0 := by
  obtain ⟨hk, rfl⟩ := List.getElem?_eq_some_iff.1 hs
  obtain ⟨hi, rfl⟩ := List.getElem?_eq_some_iff.1 ht
  exact (cmp3_neg _ _).2 (List.pairwise_iff_getElem.1 h i (i + 1) hk hi (by omega)).1
theorem take_found {ts : List T3} {k : Nat} {s t : T3} (hs : ts[k]? = some s) : decide (t ∈ ts.take (k + 1)) = (decide (t ∈ ts.take k) || decide (s = t)) := by
  rw [List.take_add_one, hs, Bool.eq_iff_iff, Bool.or_eq_true, decide_eq_true_iff, decide_eq_true_iff, decide_eq_true_iff, List.mem_append, Option.toList_some, List.mem_singleton]
  exact or_congr_right eq_comm
theorem below_dN {B : Nat} {a w : World} (h : Below B a w) (n : Nat) : Below B a (w.drewN n) := ⟨h.os, h.tape, h.output, h.size, h.block⟩
/-- A list from its end, each time twice. -/
def dbl (l : List T3) : List T3 := l.reverse.flatMap fun t => [t, t]
theorem dbl_length (l : List T3) : (dbl l).length = 2 * l.length := by
  unfold dbl
  induction l with
  | nil => rfl
  | cons t l ih => simp [List.flatMap_append] at ih ⊢; omega
theorem dbl_drop {ts : List T3} {m : Nat} {s : T3} (hs : ts[m]? = some s) : dbl (ts.drop m) = dbl (ts.drop (m + 1)) ++ [s, s] := by
  obtain ⟨h, rfl⟩ := List.getElem?_eq_some_iff.1 hs
  unfold dbl
  rw [List.drop_eq_getElem_cons h, List.reverse_cons, List.flatMap_append]
  rfl
theorem mem_dbl (l : List T3) (x : T3) : x ∈ dbl l ↔ x ∈ l := by
  simp [dbl]
theorem flat_two (s : T3) : flat [s, s] = encT s ++ encT s := by simp [flat]
theorem app_keep {b o : Nat} {x1 x2 x3 : Value} {w w' : World} {v : Value} {B : Nat} {e : TypeId} {n : Nat} {xs : List Value} (h : w.cell? ⟨b, o, none⟩ = some x1 ∧ w.cell? ⟨b, o + 1, none⟩ = some x2 ∧ w.cell? ⟨b, o + 2, none⟩ = some x3) (hown : w.ownsRow B e 3 v n xs) (hb : b < B) (hB : B ≤ w.heap.size) (hg : w.grownBy w' v.ownBlock) :
    w'.cell? ⟨b, o, none⟩ = some x1 ∧ w'.cell? ⟨b, o + 1, none⟩ = some x2 ∧ w'.cell? ⟨b, o + 2, none⟩ = some x3 := by
  have hne : some b ≠ v.ownBlock := fun e => by have := (hown.lt b e.symm).1; omega
  have hlt : b < w.heap.size := by omega
  exact ⟨(hg.cell_far ⟨b, o, none⟩ hlt hne).trans h.1, (hg.cell_far ⟨b, o + 1, none⟩ hlt hne).trans h.2.1, (hg.cell_far ⟨b, o + 2, none⟩ hlt hne).trans h.2.2⟩
theorem heap_new (w : World) (o : Obj) : (w.alloc o).heap[w.heap.size]? = some o := by
  rw [show (w.alloc o).heap = w.heap.push o from rfl]
  simp

/-- 'append(own, l...)' where own is the call's own and l is a list of times, nil or not. -/
theorem wpList_append_lst {w : World} {ops : Array Oper} {rest : List Oper} {o : Oper} {a : Act} {Q : Exit → Act → World → Prop} (hgd : o.guard = none) (s x : Operand)
    (ho : o.op = .call { callee := .builtin .append, args := #[s, x], argTypes := #[34, 34] })
    (base : Nat) (v : Value) (n : Nat) (xs : List Value) (hs : a.eval s = v) (hown : w.ownsRow base 24 3 v n xs)
    (v1 : Value) (ts : List T3) (hx : a.eval x = v1) (hv : Lst w v1 ts) (hbig : (n + ts.length) * 24 ≤ 140737488355328) (hbase : base ≤ w.heap.size)
    (h : ∀ v' w', w'.ownsRow base 24 3 v' (n + ts.length) (xs ++ flat ts) → Below base w w' → wpList Tryd.prog ops Q rest (a.put o.dst v') w') : wpList Tryd.prog ops Q (o :: rest) a w := by
  obtain ⟨i0, hi, hz0, hz1, hz2⟩ := info_parts infoT
  rcases hv with ⟨rfl, rfl⟩ | ⟨b, off, c, rfl, hb, ht⟩
  · refine wpList_append_own_none hgd s x _ ho base 24 i0 3 Tryd.underlying34 hi v n xs hs hown hx ?_
    exact h v w (by rw [flat_nil, List.append_nil]; exact hown) (Below.refl _ _)
  · refine wpList_append_own _ hgd s x _ ho base 24 i0 _ 3 24 Tryd.underlying34 hi hz0 hz1 hz2 rfl (by decide) v n xs hs hown ⟨b, off, none⟩ ts.length c (flat ts) hx (flat_length ts) (fun j u hj => by rw [Lib.add_plain]; exact ht j u hj) (flat_oneCell ts) (by unfold maxLen; omega) hbig hbase ?_
    intro v' w' h1 h2 _
    exact h v' w' h1 ((Below.refl base w).grown h2 hbase (fun k hk => (hown.lt k hk).1))

set_option maxHeartbeats 4000000 in
set_option maxRecDepth 100000 in
theorem least_any (v : Value) (ts : List T3) (a b c : Int) (w : World) (he : Env w) (hv : Lst w v ts) (hbig : ts.length ≤ 1048576) :
    Calls Tryd.prog 4 #[v, .agg #[.int .u64 a, .int .u64 b, .int .u64 c]] w fun e w' => e = .returned (.bool true) ∧ Below w.heap.size w w' := by
  obtain ⟨i0, hi, hz0, hz1, hz2⟩ := info_parts infoT
  go_enter Tryd.func4, Tryd.ntmps4
  go_wp2_with fail
  refine (taken_any _ (he.alloc _)).mono ?_
  rintro e w1 ⟨rfl, hb1⟩
  have B1 : Below w.heap.size w w1 := ((Gr.refl _).alloc _).below.trans (hb1.mono (by simp))
  have t0 : w1.cell? ⟨w.heap.size, 0, none⟩ = some (.int .u64 a) := (hb1.cell (p := ⟨w.heap.size, 0, none⟩) (by simp)).trans (by go_simp)
  have t1 : w1.cell? ⟨w.heap.size, 1, none⟩ = some (.int .u64 b) := (hb1.cell (p := ⟨w.heap.size, 1, none⟩) (by simp)).trans (by go_simp)
  have t2 : w1.cell? ⟨w.heap.size, 2, none⟩ = some (.int .u64 c) := (hb1.cell (p := ⟨w.heap.size, 2, none⟩) (by simp)).trans (by go_simp)
  have z1 : w.heap.size < w1.heap.size := by have := hb1.size; simp at this; omega
  have L1 : Lst w1 v ts := hv.below B1
  clear hb1 hv
  go_wp2_with (at_builtin; refine wpList_append_lst rfl _ _ rfl w1.heap.size (.slice (some ⟨w1.heap.size, 0, none⟩) 0 0) 0 [] rfl ⟨rfl, Or.inr ⟨w1.heap.size, 0, #[], rfl, Nat.le_refl _, heap_new _ _, Nat.le_refl _, by simp, rfl, rfl⟩⟩ v ts rfl (L1.below ((Gr.refl _).alloc _).below) (by omega) (by simp) ?_)
  intro vo w2 ho2 hb2
  have ho2 : w2.ownsRow w1.heap.size 24 3 vo ts.length (flat ts) := by simpa using ho2
  have B2 : Below w.heap.size w w2 := B1.trans (((((Gr.refl w1).alloc _).below).trans hb2).mono B1.size)
  have b2 : Below w1.heap.size w1 w2 := ((Gr.refl w1).alloc _).below.trans hb2
  have L2 : Lst w2 v ts := L1.below b2
  have hF := Front_any vo ts w2 (owns_lst ho2) (by omega)
  clear hb2 L1
  go_wp2_with fail
  refine hF.mono ?_
  rintro e w3 ⟨vf, rfl, ho3, hb3⟩
  have b3 := b2.trans (hb3.mono b2.size)
  have B3 : Below w.heap.size w w3 := B2.trans (hb3.mono B2.size)
  have L3 : Lst w3 v ts := L2.below hb3
  have F3 : Lst w3 vf (tfront ts) := owns_lst ho3
  replace t0 := (b3.cell (p := ⟨w.heap.size, 0, none⟩) z1).trans t0
  replace t1 := (b3.cell (p := ⟨w.heap.size, 1, none⟩) z1).trans t1
  replace t2 := (b3.cell (p := ⟨w.heap.size, 2, none⟩) z1).trans t2
  have z3 : w.heap.size < w3.heap.size := by have := b3.size; omega
  have hfl : (tfront ts).length ≤ 1048576 := Nat.le_trans (tfront_length ts) hbig
  clear hF b2 b3 hb3 ho2 ho3 L2 B1 B2 z1
  generalize hfs : tfront ts = fs at *
  have Hfs : Hid (tfront ts = fs) := hfs
  clear hfs
  obtain ⟨pl, cl, rfl⟩ := L3.form
  obtain ⟨pf, cf, rfl⟩ := F3.form
  have heq := fun a b c x y z W => run_eqT a b c x y z W
  have hA := fun a b c x y z W => Ahead_any a b c x y z W
  have hC := fun a b c x y z W => Compare_any a b c x y z W
  have hm : Tryd.prog.follows .mixedOrders = true := by kernel_rfl
  have hpw : Hid (fs.Pairwise fun u v => lt3 u v ∧ le3 u v = false ∧ le3 v u = false) := by rw [← Hfs.out]; exact tfront_pw ts
  have HL : Hid (Lst w3 (.slice pl ts.length cl) ts) := L3
  have HF : Hid (Lst w3 (.slice pf fs.length cf) fs) := F3
  have hin : Hid (∀ t ∈ fs, t ∈ ts) := by rw [← Hfs.out]; exact fun t ht => tfront_sub ht
  clear L3 F3
  have Hi : Hid (Tryd.prog.info? 24 = some i0) := hi
  have Hz0 : Hid (i0.zero = some (.agg #[.int .u64 0, .int .u64 0, .int .u64 0])) := hz0
  have Hz1 : Hid (i0.size = 3) := hz1
  have Hz2 : Hid (i0.bytes = 24) := hz2
  clear hi hz0 hz1 hz2
  go_wp2_with fail
  go_loopw [6] (fun s6 wr => ∃ i : Nat, i ≤ fs.length ∧ s6 = .int .i64 i ∧ Below w3.heap.size w3 wr) (fun s6 _ => fs.length - (RowKit.intOf s6).toNat)
  case atStart => exact ⟨0, Nat.zero_le _, rfl, Below.refl _ _⟩
  case round =>
    obtain ⟨i, hi, rfl, hbw⟩ := hrel
    by_cases hlt : i < fs.length
    · have hltz : (i : Int) < (fs.length : Int) := by omega
      obtain ⟨t, ht⟩ : ∃ t, fs[i]? = some t := ⟨fs[i], by simp⟩
      have hmem : t ∈ ts := hin.out t (List.mem_of_getElem? ht)
      have HT : Hid (fs[i]? = some t) := ht
      have HM : Hid (t ∈ ts) := hmem
      clear ht hmem
      go_wp2_with fail
      go_loopw [7, 8] (fun s7 s8 wr2 => ∃ k : Nat, k ≤ ts.length ∧ s8 = .int .i64 k ∧ s7 = .bool (decide (t ∈ ts.take k)) ∧ Below w3.heap.size w3 wr2) (fun _ s8 _ => ts.length - (RowKit.intOf s8).toNat)
      case atStart => exact ⟨0, Nat.zero_le _, rfl, by simp, hbw⟩
      case round =>
        clear hbw
        obtain ⟨k, hk, rfl, rfl, hbw⟩ := hrel
        by_cases hkl : k < ts.length
        · have hklz : (k : Int) < (ts.length : Int) := by omega
          obtain ⟨s, hs⟩ : ∃ s, ts[k]? = some s := ⟨ts[k], by simp⟩
          obtain ⟨b1, o1, c1, e1, z1, x1, x2, x3⟩ := (HL.out.below hbw).at hs
          obtain ⟨b2, o2, c2, e2, z2, y1, y2, y3⟩ := (HF.out.below hbw).at HT.out
          simp only [Value.slice.injEq] at e1 e2
          obtain ⟨rfl, _, rfl⟩ := e1
          obtain ⟨rfl, _, rfl⟩ := e2
          have HN : Hid (decide (t ∈ ts.take (k + 1)) = (decide (t ∈ ts.take k) || decide (s = t))) := take_found hs
          clear hs
          generalize decide (t ∈ ts.take k) = fd at *
          cases fd with
          | true =>
            go_wp2
            go_quiet (fail)
            go_wp2
            refine ⟨⟨k + 1, by omega, by go_num, ?_, below_dN hbw _⟩, by simp [RowKit.intOf]; omega⟩
            rw [HN.out]; rfl
          | false =>
            by_cases hst : s = t
            · have hq := teq_true hst
              have HST : Hid (s = t) := hst
              clear hst
              go_wp2
              go_quiet (fail)
              go_wp2
              refine ⟨⟨k + 1, by omega, by go_num, ?_, below_dN hbw _⟩, by simp [RowKit.intOf]; omega⟩
              rw [HN.out, decide_eq_true HST.out]; rfl
            · have hq := teq_false hst
              have HST : Hid (¬ s = t) := hst
              clear hst
              go_wp2
              go_quiet (fail)
              go_wp2
              refine ⟨⟨k + 1, by omega, by go_num, ?_, below_dN hbw _⟩, by simp [RowKit.intOf]; omega⟩
              rw [HN.out, decide_eq_false HST.out]; rfl
        · have hklz : ¬ (k : Int) < (ts.length : Int) := by omega
          have hfd : decide (t ∈ ts.take k) = true := by rw [List.take_of_length_le (by omega)]; exact decide_eq_true HM.out
          rw [hfd]
          clear hfd
          go_wp2_with fail
          go_loopw [9] (fun s9 wr3 => ∃ k : Nat, k ≤ fs.length ∧ s9 = .int .i64 k ∧ Below w3.heap.size w3 wr3) (fun s9 _ => fs.length - (RowKit.intOf s9).toNat)
          case atStart => exact ⟨0, Nat.zero_le _, rfl, hbw⟩
          case round =>
            clear hbw hk hkl hklz
            obtain ⟨m, hk, rfl, hbw⟩ := hrel
            by_cases hkl : m < fs.length
            · have hklz : (m : Int) < (fs.length : Int) := by omega
              obtain ⟨s, hs⟩ : ∃ s, fs[m]? = some s := ⟨fs[m], by simp⟩
              by_cases hmi : m = i
              · have hmz : ((m : Int) != (i : Int)) = false := by rw [hmi]; simp
                clear hs hmi
                go_wp2
                go_quiet (fail)
                go_wp2
                refine ⟨⟨m + 1, by omega, by go_num, below_dN hbw _⟩, by simp [RowKit.intOf]; omega⟩
              · have hmz : ((m : Int) != (i : Int)) = true := by rw [bne_iff_ne]; omega
                have hle := pw_off hpw.out hs HT.out hmi
                obtain ⟨b1, o1, c1, e1, z1, x1, x2, x3⟩ := (HF.out.below hbw).at hs
                obtain ⟨b2, o2, c2, e2, z2, y1, y2, y3⟩ := (HF.out.below hbw).at HT.out
                simp only [Value.slice.injEq] at e1 e2
                obtain ⟨rfl, _, rfl⟩ := e1
                obtain ⟨e3, _, rfl⟩ := e2
                simp only [Option.some.injEq, Addr.mk.injEq, and_true] at e3
                obtain ⟨rfl, rfl⟩ := e3
                have gx1 := cell_grown z1 x1
                have gx2 := cell_grown z1 x2
                have gx3 := cell_grown z1 x3
                have gy1 := cell_grown z1 y1
                have gy2 := cell_grown z1 y2
                have gy3 := cell_grown z1 y3
                unfold le3 at hle
                clear hs hmi x1 x2 x3 y1 y2 y3
                go_wp2_with fail
                go_quiet_grown (first | (go_at_call 10; refine Calls.grown_of (hA _ _ _ _ _ _ _)))
                have hbn := hbw.trans ((Gr.below ⟨nq, osq, rfl⟩ : Below _ _ (grow (World.drewN _ nq) osq)).mono hbw.size)
                generalize grow (World.drewN _ nq) osq = wn at hbn ⊢
                clear gx1 gx2 gx3 gy1 gy2 gy3
                go_wp2
                refine ⟨⟨m + 1, by omega, by go_num, hbn⟩, by simp [RowKit.intOf]; omega⟩
            · have hklz : ¬ (m : Int) < (fs.length : Int) := by omega
              rcases Nat.eq_zero_or_pos i with hi0 | hi0
              · have hiz : decide ((0 : Int) < (i : Int)) = false := decide_eq_false (by omega)
                have hiN : decide (0 < i) = false := decide_eq_false (by omega)
                clear hi0
                go_wp2_with fail
                go_quiet (fail)
                go_wp2
                refine ⟨⟨i + 1, by omega, by go_num, below_dN hbw _⟩, by simp [RowKit.intOf]; omega⟩
              · have hiz : (0 : Int) < (i : Int) := by omega
                have hiN : 0 < i := hi0
                obtain ⟨j, hj⟩ : ∃ j, i = j + 1 := ⟨i - 1, by omega⟩
                obtain ⟨s, hs⟩ : ∃ s, fs[j]? = some s := ⟨fs[j]'(by omega), by simp⟩
                have hcm : cmp3 s t < 0 := pw_cmp hpw.out hs (by rw [← hj]; exact HT.out)
                have hsub : (i : Int) - 1 = (j : Int) := by omega
                unfold cmp3 at hcm
                have hcn : ¬ (0 : Int) ≤ tcmp s.1 s.2.1 s.2.2 t.1 t.2.1 t.2.2 := by omega
                have hjz : (j : Int) < (fs.length : Int) := by omega
                have hwj : IntKind.i64.wrap (j : Int) = (j : Int) := by rw [IntKind.wrap_i64]; omega
                obtain ⟨b1, o1, c1, e1, z1, x1, x2, x3⟩ := (HF.out.below hbw).at hs
                obtain ⟨b2, o2, c2, e2, z2, y1, y2, y3⟩ := (HF.out.below hbw).at HT.out
                simp only [Value.slice.injEq] at e1 e2
                obtain ⟨rfl, _, rfl⟩ := e1
                obtain ⟨e3, _, rfl⟩ := e2
                simp only [Option.some.injEq, Addr.mk.injEq, and_true] at e3
                obtain ⟨rfl, rfl⟩ := e3
                have gx1 := cell_grown z1 x1
                have gx2 := cell_grown z1 x2
                have gx3 := cell_grown z1 x3
                have gy1 := cell_grown z1 y1
                have gy2 := cell_grown z1 y2
                have gy3 := cell_grown z1 y3
                clear hs x1 x2 x3 y1 y2 y3 hcm hj
                go_wp2_with fail
                go_quiet_grown (first | (go_at_call 11; refine Calls.grown_of (hC _ _ _ _ _ _ _)))
                have hbn := hbw.trans ((Gr.below ⟨nq, osq, rfl⟩ : Below _ _ (grow (World.drewN _ nq) osq)).mono hbw.size)
                generalize grow (World.drewN _ nq) osq = wn at hbn ⊢
                clear gx1 gx2 gx3 gy1 gy2 gy3
                go_wp2
                refine ⟨⟨i + 1, by omega, by go_num, hbn⟩, by simp [RowKit.intOf]; omega⟩
    · have hltz : ¬ (i : Int) < (fs.length : Int) := by omega
      clear hA hC hpw hin
      go_wp2_with fail
      go_loopw [10, 11] (fun s10 s11 wr => ∃ j : Nat, j ≤ ts.length ∧ s11 = .int .i64 ((j : Int) - 1) ∧ wr.ownsRow w3.heap.size 24 3 s10 (2 * (ts.length - j)) (flat (dbl (ts.drop j))) ∧ Below w3.heap.size w3 wr) (fun _ s11 _ => (RowKit.intOf s11 + 1).toNat)
      case atStart => exact ⟨ts.length, Nat.le_refl _, rfl, by rw [Nat.sub_self, List.drop_length]; exact ⟨rfl, Or.inl ⟨rfl, rfl⟩⟩, hbw⟩
      case round =>
        clear hbw
        obtain ⟨j, hj, rfl, hown, hbw⟩ := hrel
        have hsz := hbw.size
        cases j with
        | succ m =>
          have em : ((m + 1 : Nat) : Int) - 1 = (m : Int) := by omega
          rw [em]
          have hm0 : (0 : Int) ≤ (m : Int) := by omega
          have hmz : (m : Int) < (ts.length : Int) := by omega
          obtain ⟨s, hs⟩ : ∃ s, ts[m]? = some s := ⟨ts[m], by simp⟩
          have hop : topen fs s = true := by rw [← Hfs.out]; exact tfront_open (List.mem_of_getElem? hs)
          have hO := Open_any (.slice pf fs.length cf) fs s.1 s.2.1 s.2.2 wr (HF.out.below hbw) (by unfold maxLen; omega)
          rw [show (s.1, s.2.1, s.2.2) = s from rfl, hop] at hO
          have HS : Hid (ts[m]? = some s) := hs
          obtain ⟨b1, o1, c1, e1, z1, x1, x2, x3⟩ := HL.out.at hs
          simp only [Value.slice.injEq] at e1
          obtain ⟨rfl, _, rfl⟩ := e1
          replace x1 := (hbw.cell (p := ⟨b1, o1 + m * 3, none⟩) z1).trans x1
          replace x2 := (hbw.cell (p := ⟨b1, o1 + m * 3 + 1, none⟩) z1).trans x2
          replace x3 := (hbw.cell (p := ⟨b1, o1 + m * 3 + 2, none⟩) z1).trans x3
          have z1' : b1 < wr.heap.size := by omega
          clear hs hop em
          go_wp2_with fail
          refine hO.mono ?_
          rintro e w4 ⟨rfl, hb4⟩
          have hown4 := owns_below' hown hb4
          have hsz4 := hb4.size
          replace x1 := (hb4.cell (p := ⟨b1, o1 + m * 3, none⟩) z1').trans x1
          replace x2 := (hb4.cell (p := ⟨b1, o1 + m * 3 + 1, none⟩) z1').trans x2
          replace x3 := (hb4.cell (p := ⟨b1, o1 + m * 3 + 2, none⟩) z1').trans x3
          have hbw4 := hbw.trans (hb4.mono hsz)
          have HB : Hid (ts.drop m = ts.drop m) := rfl
          have hdl : (dbl (ts.drop (m + 1))).length = 2 * (ts.length - (m + 1)) := by rw [dbl_length, List.length_drop]
          have HD : Hid (dbl (ts.drop m) = dbl (ts.drop (m + 1)) ++ [s, s]) := dbl_drop HS.out
          generalize hbk : dbl (ts.drop (m + 1)) = bk at *
          clear hO hown hb4 hbw hbk HB
          go_wp2_with fail
          go_region_held3 (fun w' => w'.cell? ⟨b1, o1 + m * 3, none⟩ = some (.int .u64 s.1) ∧ w'.cell? ⟨b1, o1 + m * 3 + 1, none⟩ = some (.int .u64 s.2.1) ∧ w'.cell? ⟨b1, o1 + m * 3 + 2, none⟩ = some (.int .u64 s.2.2)) (first | go_keep | exact app_keep (by assumption) (World.ownsRow.alloc (w := w4.drew) hown4 _) z1 (by simp; omega) (by assumption))
            (first | (refine step_append_lies _ rfl _ _ 34 rfl w3.heap.size 24 i0 (.agg #[.int .u64 0, .int .u64 0, .int .u64 0]) 3 24 Tryd.underlying34 Hi.out Hz0.out Hz1.out Hz2.out rfl (by decide) u10 (2 * (ts.length - (m + 1))) (flat bk) rfl (World.ownsRow.alloc (w := w4.drew) hown4 _) ⟨w4.heap.size, 0, none⟩ 2 2 (encT s ++ encT s) rfl rfl (World.news_of_block (heap_new _ _)) (fun u hu => flat_oneCell [s, s] u (by rw [flat_two]; exact hu)) (by decide) (by unfold maxLen; omega) (by omega) (by simp; omega) _ rfl ?_; intro g cap w5 hown5 hgrow hat hlt))
          go_wp2
          refine ⟨⟨m, by omega, by go_num, ?_, ?_⟩, ?_⟩
          · have en : 2 * (ts.length - m) = 2 * (ts.length - (m + 1)) + 2 := by omega
            rw [HD.out, flat_append, flat_two, en]
            exact hown5
          · exact ((below_dN hbw4 1).alloc (w := w4.drewN 1) (by exact hbw4.size) _).grown hgrow (by simp; omega) (fun k hk => (hown4.lt k hk).1)
          · simp [RowKit.intOf]
        | zero =>
          have em : ((0 : Nat) : Int) - 1 = -1 := rfl
          rw [em]
          have hown' : wr.ownsRow w3.heap.size 24 3 u10 (dbl ts).length (flat (dbl ts)) := by
            rw [dbl_length]; exact hown
          have hbd : (dbl ts).length ≤ 2097152 := by rw [dbl_length]; omega
          have etb : tfront (dbl ts) = fs := by rw [← Hfs.out]; exact tfront_congr fun x => mem_dbl ts x
          have etf : tfront fs = fs := by rw [← Hfs.out]; exact tfront_twice ts
          have eop : topen fs (a, b, c) = topen ts (a, b, c) := by rw [← Hfs.out]; exact topen_front ts _
          obtain ⟨G, hG⟩ : ∃ G : World → Prop, ∀ W, G W ↔ (w.heap.size < W.heap.size ∧ Below w3.heap.size w3 W ∧ Lst W u10 (dbl ts)) := ⟨_, fun _ => Iff.rfl⟩
          have hOl : ∀ W, G W → Calls Tryd.prog 12 #[.slice pl ts.length cl, .agg #[.int .u64 a, .int .u64 b, .int .u64 c]] W fun e w' => e = .returned (.bool (topen ts (a, b, c))) ∧ Below W.heap.size W w' := fun W h => Open_any _ ts a b c W (HL.out.below ((hG W).1 h).2.1) (by unfold maxLen; omega)
          have hOf : ∀ W, G W → Calls Tryd.prog 12 #[.slice pf fs.length cf, .agg #[.int .u64 a, .int .u64 b, .int .u64 c]] W fun e w' => e = .returned (.bool (topen ts (a, b, c))) ∧ Below W.heap.size W w' := fun W h => by rw [← eop]; exact Open_any _ fs a b c W (HF.out.below ((hG W).1 h).2.1) (by unfold maxLen; omega)
          have hFb : ∀ W, G W → Calls Tryd.prog 9 #[u10] W fun e w' => ∃ v', e = .returned v' ∧ Lst w' v' fs ∧ Below W.heap.size W w' := fun W h => (Front_any u10 (dbl ts) W ((hG W).1 h).2.2 (by omega)).mono fun e w' ⟨v', e1, e2, e3⟩ => ⟨v', e1, by rw [← etb]; exact owns_lst e2, e3⟩
          have hFf : ∀ W, G W → Calls Tryd.prog 9 #[.slice pf fs.length cf] W fun e w' => ∃ v', e = .returned v' ∧ Lst w' v' fs ∧ Below W.heap.size W w' := fun W h => (Front_any _ fs W (HF.out.below ((hG W).1 h).2.1) (by omega)).mono fun e w' ⟨v', e1, e2, e3⟩ => ⟨v', e1, by rw [etf] at e2; exact owns_lst e2, e3⟩
          have hTt : ∀ W v', Lst W v' fs → G W → Calls Tryd.prog 13 #[v', .slice pf fs.length cf] W fun e w' => e = .returned (.bool true) ∧ Below W.heap.size W w' := fun W v' h1 h => (times_any v' _ fs fs W h1 (HF.out.below ((hG W).1 h).2.1) (by unfold maxLen; omega)).mono fun e w' ⟨e1, e2⟩ => ⟨by rw [e1, decide_eq_true rfl], e2.below⟩
          have S0 : wr.cell? ⟨w.heap.size, 0, none⟩ = some (.int .u64 a) ∧ wr.cell? ⟨w.heap.size, 1, none⟩ = some (.int .u64 b) ∧ wr.cell? ⟨w.heap.size, 2, none⟩ = some (.int .u64 c) ∧ G wr := ⟨(hbw.cell (p := ⟨w.heap.size, 0, none⟩) z3).trans t0, (hbw.cell (p := ⟨w.heap.size, 1, none⟩) z3).trans t1, (hbw.cell (p := ⟨w.heap.size, 2, none⟩) z3).trans t2, (hG wr).2 ⟨by omega, hbw, owns_lst hown'⟩⟩
          have keep : ∀ W W', (W.cell? ⟨w.heap.size, 0, none⟩ = some (.int .u64 a) ∧ W.cell? ⟨w.heap.size, 1, none⟩ = some (.int .u64 b) ∧ W.cell? ⟨w.heap.size, 2, none⟩ = some (.int .u64 c) ∧ G W) → Below W.heap.size W W' → (W'.cell? ⟨w.heap.size, 0, none⟩ = some (.int .u64 a) ∧ W'.cell? ⟨w.heap.size, 1, none⟩ = some (.int .u64 b) ∧ W'.cell? ⟨w.heap.size, 2, none⟩ = some (.int .u64 c) ∧ G W') := fun W W' h hb => by
            obtain ⟨h0, h1, h2, hg⟩ := h
            obtain ⟨g1, g2, g3⟩ := (hG W).1 hg
            exact ⟨(hb.cell (p := ⟨w.heap.size, 0, none⟩) g1).trans h0, (hb.cell (p := ⟨w.heap.size, 1, none⟩) g1).trans h1, (hb.cell (p := ⟨w.heap.size, 2, none⟩) g1).trans h2, (hG W').2 ⟨Nat.lt_of_lt_of_le g1 hb.size, g2.trans (hb.mono g2.size), g3.below hb⟩⟩
          have drw : ∀ W : World, Below W.heap.size W W.drew := fun W => ⟨rfl, rfl, rfl, Nat.le_refl _, fun _ _ => rfl⟩
          have fin : ∀ W, G W → Below w.heap.size w W := fun W h => B3.trans (((hG W).1 h).2.1.mono B3.size)
          have hO2 : ∀ W v', (v' = .slice pl ts.length cl ∨ v' = .slice pf fs.length cf) → G W → Calls Tryd.prog 12 #[v', .agg #[.int .u64 a, .int .u64 b, .int .u64 c]] W fun e w' => e = .returned (.bool (topen ts (a, b, c))) ∧ Below W.heap.size W w' := fun W v' h => by
            rcases h with rfl | rfl
            · exact hOl W
            · exact hOf W
          have hF2 : ∀ W v0, (v0 = u10 ∨ v0 = .slice pf fs.length cf) → G W → Calls Tryd.prog 9 #[v0] W fun e w' => ∃ v', e = .returned v' ∧ Lst w' v' fs ∧ Below W.heap.size W w' := fun W v0 h => by
            rcases h with rfl | rfl
            · exact hFb W
            · exact hFf W
          clear hOl hOf hFb hFf
          generalize topen ts (a, b, c) = p at hO2
          clear em hown t0 t1 t2 hbw hown' etb etf eop Hi Hz0 Hz1 Hz2 Hfs hG
          go_wp2_with fail
          go_region_held3 (fun w' => w'.cell? ⟨w.heap.size, 0, none⟩ = some (.int .u64 a) ∧ w'.cell? ⟨w.heap.size, 1, none⟩ = some (.int .u64 b) ∧ w'.cell? ⟨w.heap.size, 2, none⟩ = some (.int .u64 c) ∧ G w')
            (first | exact S0 | exact keep _ _ (by assumption) (drw _) | exact keep _ _ (by assumption) (by assumption))
            (first | (go_at_call 12; refine (hO2 _ _ (by first | exact Or.inl rfl | exact Or.inr rfl) (And.right (And.right (And.right (by assumption))))).mono ?_; rintro e w5 ⟨rfl, hb5⟩) | (go_at_call 9; refine (hF2 _ _ (by first | exact Or.inl rfl | exact Or.inr rfl) (And.right (And.right (And.right (by assumption))))).mono ?_; rintro e w5 ⟨v5, rfl, L5, hb5⟩) | (go_at_call 13; refine (hTt _ _ (by assumption) (And.right (And.right (And.right (by assumption))))).mono ?_; rintro e w5 ⟨rfl, hb5⟩))
          go_wp2
          go_ret
          exact ⟨rfl, fin _ (And.right (And.right (And.right (by assumption))))⟩
end Go.Proofs.YtconceigfommeaaDoor
