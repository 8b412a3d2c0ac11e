import Derived.Test.YtijbmchgajhkeaaSuTal
import Derived.Test.YtijbmchgajhkeaaSuPur
import Derived.Test.YtijbmchgajhkeaaSuIt
import Derived.Test.YtijbmchgajhkeaaSuSo
import Derived.Sort.OwnSorted
import Derived.Maps.AppendAt
namespace Go.Proofs.Ytijbmchgajhkeaa
open Go.RowKit Go.Sort Go.Maps Go.Shelf Go.Lib
open Tt (Tl)
attribute [local go_sem ↓] Go.wp_at_zero Go.wp_at_succ

theorem ltOf_tcm (x y : Tm) : ltOf tcm x y = tol x y := rfl
theorem swoT : SWO (ltOf tcm) where
  irrefl x := ords.irr x
  trans x y z h1 h2 := ords.tr x y z h1 h2
  ntrans x y z h1 h2 := by
    rw [ltOf_tcm, tol_not] at *
    omega
theorem totT (x y : Tm) (h1 : ltOf tcm x y = false) (h2 : ltOf tcm y x = false) : x = y := by
  by_cases e : x = y
  · exact e
  · have := ords.tot x y e h1
    rw [ltOf_tcm] at h2
    rw [this] at h2
    cases h2
theorem cmpLaysT (blk off size : Nat) (w : World) : CmpLays Try.prog 25 #[] ET.enc 3 tcm blk off size w :=
  fun _ _ _ _ x y => Compare_any x.1.1 x.1.2.1 x.1.2.2 y.1.1 y.1.2.1 y.1.2.2 _
/-- The keys, in the order of telling. -/
abbrev stT (ks : List Tm) : List Tm := srtBy tcm ks
theorem stT_sorted {ks : List Tm} (h : ks.Nodup) : (stT ks).Pairwise fun a b => tol a b = true := by
  have h1 := srtBy_sorted swoT ks
  have h2 : (stT ks).Nodup := (srtBy_perm tcm ks).nodup_iff.2 h
  refine List.Pairwise.imp₂ (R := fun x y => (!(ltOf tcm) y x) = true) (S := fun x y => x ≠ y) (fun {a b} ha hb => ?_) h1 h2
  have ha' : tol b a = false := by simpa [ltOf_tcm] using ha
  exact ords.tot b a (fun e => hb e.symm) ha'
theorem sort_any (g cap base : Nat) (ts : List Tm) (w : World) (h : w.ownsRow base 32 3 (.slice (some ⟨g, 0, none⟩) ts.length cap) ts.length (flT ts)) (hsz : ts.length < 4611686018427387904) :
    Calls Try.prog 39 #[.slice (some ⟨g, 0, none⟩) ts.length cap, .func (.func 25) #[] #[]] w fun e w' => e = .returned (.tuple #[]) ∧ w'.ownsRow base 32 3 (.slice (some ⟨g, 0, none⟩) ts.length cap) ts.length (flT (stT ts)) ∧ Kp (fun k => k = g) w w' := by
  have eg : ∀ args w, (callFunc 25 args).run Try.prog w = .ok (.enter 25 args) w := enters_of Try.func25 (by kernel_rfl) rfl
  have hg : g < w.heap.size := (h.lt g rfl).2
  have hcon := AnyQ.slices_SortFunc_total Try.lSortT 3 Try.isAgg32 Try.sizeOf32 ET.enc (fun _ => rfl) ET.one tcm swoT 25 #[] g 0 cap ts.toArray w eg (cmpLaysT g 0 _ w) (holdsK_of_owns (E := ET) (by decide) h) hg (by simpa using hsz) totT
  change Calls Try.prog 39 _ _ _ at hcon
  rw [List.size_toArray] at hcon
  refine hcon.mono ?_
  rintro e w' ⟨rfl, n, os, rfl⟩
  exact ⟨rfl, owns_sorted (E := ET) (by decide) h (srtBy_length tcm ts), kp_sorted (E := ET)⟩


set_option maxHeartbeats 1000000 in
/-- slices.SortedFunc(the keys of a map, stamp.Compare). -/
theorem sortedFunc_any (Bm nn : Nat) (o : Option Nat) (D0 : DataW Unit) (w : World) (hBm : Bm < w.heap.size) (hm : w.cell? ⟨Bm, 0, none⟩ = some (.map o)) (hown : Mok w o nn D0) (hN : Maps.size D0 ≤ 1000000000) :
    Calls Try.prog 23 #[.func (.func 40) #[] #[.pointer (some ⟨Bm, 0, none⟩)], .func (.func 25) #[] #[]] w fun e W' =>
      ∃ (v : Value) (ss : List Tm), e = .returned v ∧ Ksd D0 ss ∧ ss.length ≤ Maps.size D0 ∧ W'.ownsRow w.heap.size 32 3 v (stT ss).length (flT (stT ss)) ∧ Below w.heap.size w W' := by
  have h := collect_any Bm nn o D0 w hBm hm hown hN
  clear hm hown
  go_enter Try.func23, Try.ntmps23
  go_wp2_with fail
  refine h.mono ?_
  rintro e W ⟨v, ss, rfl, hS, hG, hrow, hB⟩
  rcases id hrow.2 with ⟨rfl, hz⟩ | ⟨gb, cap, cur, rfl, hbase, hgb, r1, r2, r3, r4⟩
  · obtain rfl : ss = [] := List.eq_nil_of_length_eq_zero hz
    have hs := AnyF.slices_SortFunc_none Try.lSortT none 0 (.func (.func 25) #[] #[]) W
    change Calls Try.prog 39 _ _ _ at hs
    go_wp2_with fail
    refine hs.mono ?_
    rintro e w' ⟨rfl, rfl⟩
    go_wp2
    go_ret
    exact ⟨.slice none 0 0, [], rfl, hS, hG, by rw [show stT [] = [] from by simp [srtBy]]; exact hrow, hB⟩
  · have hs := sort_any gb cap w.heap.size ss W hrow (by omega)
    clear r1 r2 r3 r4 hgb
    go_wp2_with fail
    refine hs.mono ?_
    rintro e w' ⟨rfl, ho, hk⟩
    go_wp2
    go_ret
    exact ⟨_, ss, rfl, hS, hG, by rw [srtBy_length]; exact ho, hB.trans (hk.below hB.size fun k hk => by rw [hk]; exact hbase)⟩
section
variable {α : Type} [Inhabited α] {enc : α → Value}
theorem holds_of_blk {w : World} {g : Nat} {cur : Array Value} {e : TypeId} {ss : List α} (hb : w.heap[g]? = some (.cells cur e (0, 0))) (ht : cur.toList.take ss.length = ss.map enc) : Holds enc w g 0 ss.toArray := by
  intro j hj
  have hj' : j < ss.length := by simpa using hj
  refine ⟨?_, by simp [World.frozen?, hb]⟩
  have h1 : (cur.toList.take ss.length)[j]? = (ss.map enc)[j]? := by rw [ht]
  rw [List.getElem?_take_of_lt hj'] at h1
  simp only [World.cell?, hb, Nat.zero_add]
  simp only [Option.isSome_none, Bool.false_eq_true, if_false]
  rw [← Array.getElem?_toList, h1]
  simp [hj']
theorem heap_srt {w : World} {g n : Nat} {os : Array Obj} {cur : Array Value} {e : TypeId} {fr : Nat × Nat} (d : Array α) (hb : w.heap[g]? = some (.cells cur e fr)) :
    (grow (putRow enc (Sort.ahead w n) g 0 d) os).heap[g]? = some (.cells (putCells enc 0 d cur) e fr) := by
  have hg : g < w.heap.size := (Array.getElem?_eq_some_iff.1 hb).1
  rw [heap_grow_old _ _ (by simpa using hg)]
  simp [putRow, mapBlock, Sort.ahead, Array.getElem?_modify, hb, onCells]
theorem grownBy_srt {w : World} {g n : Nat} {os : Array Obj} (d : Array α) : w.grownBy (grow (putRow enc (Sort.ahead w n) g 0 d) os) (some g) := by
  refine ⟨rfl, rfl, rfl, by simp, fun k hk hne => ?_⟩
  rw [heap_grow_old _ _ (by simpa using hk)]
  have : g ≠ k := fun e => hne (by rw [e])
  simp [putRow, mapBlock, Sort.ahead, Array.getElem?_modify, this]
theorem take_put (cur : Array Value) (ts : List α) (h : ts.length ≤ cur.size) : (putCells enc 0 ts.toArray cur).toList.take ts.length = ts.map enc := by
  apply List.ext_getElem?
  intro j
  by_cases hj : j < ts.length
  · rw [List.getElem?_take_of_lt hj, Array.getElem?_toList]
    simp [putCells, hj, show j < cur.size by omega]
  · rw [List.getElem?_take_eq_none (by omega), List.getElem?_eq_none (by simp; omega)]
theorem ownsRow_srt {w : World} {base g cap n : Nat} {e : TypeId} {os : Array Obj} {cur : Array Value} {ss ts : List α} (hl : ts.length = ss.length) (hbase : base ≤ g) (hb : w.heap[g]? = some (.cells cur e (0, 0)))
    (h1 : ss.length ≤ cap) (h2 : cap ≤ maxLen) (h3 : cur.size = cap * 1) :
    (grow (putRow enc (Sort.ahead w n) g 0 ts.toArray) os).ownsRow base e 1 (.slice (some ⟨g, 0, none⟩) ss.length cap) ss.length (ts.map enc) :=
  ⟨by simp [hl], .inr ⟨g, cap, _, rfl, hbase, heap_srt _ hb, h1, h2, by simp [putCells, h3], by rw [Nat.mul_one, ← hl]; exact take_put cur ts (by omega)⟩⟩
end


/-- Numbers in their order. -/
def ucm (a b : Ku) : Int := c64 a.1 b.1
theorem ltOf_ucm (x y : Ku) : ltOf ucm x y = decide (x.1 < y.1) := by
  unfold ltOf ucm
  rw [Bool.eq_iff_iff, decide_eq_true_iff, decide_eq_true_iff]
  exact c64_neg _ _
structure OrdOk (g : Nat) (cf : Ku → Ku → Int) : Prop where
  enter : ∀ args w, (callFunc g args).run Try.prog w = .ok (.enter g args) w
  calls : ∀ (a b : Ku) (W : World), Calls Try.prog g #[uv a, uv b] W fun e w' => e = .returned (.int .i64 (cf a b)) ∧ Gr W w'
  swo : SWO (ltOf cf)
  tot : ∀ x y, ltOf cf x y = false → ltOf cf y x = false → x = y
theorem ucm_ok : OrdOk 42 ucm where
  enter := enters_of Try.func42 (by kernel_rfl) rfl
  calls a b W := (cmp64_any a.1 b.1 W).mono fun _ _ ⟨h1, h2⟩ => ⟨h1, h2 ▸ Gr.refl _⟩
  swo := by
    refine ⟨fun x => ?_, fun x y z h1 h2 => ?_, fun x y z h1 h2 => ?_⟩
    · rw [ltOf_ucm]; simp
    · rw [ltOf_ucm, decide_eq_true_iff] at *; omega
    · rw [ltOf_ucm, decide_eq_false_iff_not] at *; omega
  tot x y h1 h2 := by
    rw [ltOf_ucm, decide_eq_false_iff_not] at *
    exact Subtype.ext (by omega)
theorem uv_inv {key : Value} {kl : Lit} (h : keyOf Try.prog 30 key = some kl) : ∃ x, key = uv x := by
  obtain ⟨x, hx, _⟩ := ZU.inv _ _ h
  exact ⟨x, hx⟩

set_option maxHeartbeats 4000000 in
set_option maxRecDepth 100000 in
theorem keys_any {tb b g n : Nat} {f : Ku → Int} {cf : Ku → Ku → Int} (w : World) (h : Tl w tb b g n f) (ho : OrdOk g cf) (hn : n * 8 ≤ 140737488355328) :
    Calls Try.prog 29 #[.pointer (some ⟨tb, 0, none⟩)] w fun e w' => ∃ (gb cap : Nat) (ks : List Ku), Sup f ks ∧ e = .returned (.slice (some ⟨gb, 0, none⟩) (srtBy cf ks).length cap) ∧
      w'.ownsRow w.heap.size 30 1 (.slice (some ⟨gb, 0, none⟩) (srtBy cf ks).length cap) (srtBy cf ks).length ((srtBy cf ks).map uv) ∧ Below w.heap.size w w' := by
  obtain ⟨i0, hi, hz0, hz1, hz2⟩ := info_parts infoU
  have HT : Hid (Tl w tb b g n f) := h
  have c0 := h.c0
  have c1 := h.c1
  have hlt := h.lt
  obtain ⟨D, hown, h1, h2⟩ := h.ta
  have hbl := hown.lt
  have hsz := hown.size_le
  have hlen := fun ty => hown.len Try.underlying93 ty
  clear h h1
  go_enter Try.func29, Try.ntmps29
  go_wp2_with (first
    | (at_make; refine wpList_make_own _ rfl _ _ 72 rfl w.heap.size 30 i0 (.int .u64 0) 1 Try.underlying72 hi hz0 hz1 _ _ _ (Maps.size D) rfl rfl rfl (by rw [hz2]; omega) (by unfold maxLen; omega) (Nat.le_refl _) ?_; intro w1 hrow1 hg1
       have c1b := (HT.out.kp (Kp.grownBy (S := fun _ => False) hg1 (fun k hk => by cases hk)) (fun h => h) (fun h => h)).c1)
    | (at_range; refine wpList_range_own _ rfl _ 93 rfl 30 2 ZU.law Try.underlying93 _ b n _ rfl (hown.kept hg1 (by simp)) ?_; intro w0 hrg0 hg0 hs0)
    | go_in)
  go_frame
  go_loopw [3] (fun v wr => ∃ (left : Lit → Bool) (cnt : Nat) (ss : List Ku), wr.ranges Try.prog 30 (plainElem Try.prog 2) b w1.heap.size n D left cnt ∧ ss.length + cnt ≤ Maps.size D ∧
      wr.ownsRow w.heap.size 30 1 v ss.length (ss.map uv) ∧ v ≠ .slice none 0 0 ∧ Coll ZU D left ss ∧ Below w.heap.size w wr)
    (fun _ wr => wr.rangeLeft b w1.heap.size)
  case atStart =>
    exact ⟨_, _, [], hrg0, by simp, hrow1.kept hg0 (Or.inr (by simp [Value.ownBlock])), by simp, Coll.start D,
      ((Below.refl _ _).grown hg1 (Nat.le_refl _) (fun j hj => by cases hj)).grown hg0 hg1.size (fun j hj => by cases hj)⟩
  case round =>
    obtain ⟨left, cnt, ss, hrg, hcs, hrow, hnn, hC, hnx⟩ := hrel
    go_wp2_with (first
      | (at_next; refine wpList_next_ranges _ rfl _ rfl 30 ZU.law (plainElem Try.prog 2) uv (Value.int .i64) (fun key kl hk => uv_inv hk) (fun v y hv => by obtain ⟨c, rfl, _⟩ := plainElem_int_inv Try.underlying2 hv; exact ⟨c, rfl⟩) b w1.heap.size n _ _ _ rfl hrg ?_ ?_)
      | go_in)
    · intro hc0 hl0
      rcases hrow.2 with ⟨hnil, _⟩ | ⟨gb, cap, cur, rfl, hbase, hb, h3, h4, h5, h6⟩
      · exact absurd hnil hnn
      have hH : Holds uv wr gb 0 ss.toArray := holds_of_blk hb (by simpa using h6)
      have hgl : gb < wr.heap.size := (Array.getElem?_eq_some_iff.1 hb).1
      have hS := hC.sup h2 hl0
      have c0r := (hnx.cell (p := ⟨tb, 0, none⟩) hlt).trans c0
      have hc := Any.slices_SortFunc_total Try.lSortU uv (fun _ => rfl) cf ho.swo g #[] gb 0 cap ss.toArray wr ho.enter (fun _ _ _ _ x y => ho.calls x y _) hH hgl (by simp; omega) ho.tot
      rw [List.size_toArray] at hc
      go_wp2_with (go_at_call 48; refine hc.mono ?_; rintro e w' ⟨rfl, nn, os, rfl⟩)
      go_ret
      refine ⟨gb, cap, ss, hS, by rw [srtBy_length]; rfl, ?_, ?_⟩
      · rw [srtBy_length]
        exact ownsRow_srt (ss := ss) (ts := srtBy cf ss) (srtBy_length _ _) hbase hb h3 h4 h5
      · exact hnx.grown (grownBy_srt _) hnx.size (fun j hj => by cases hj; exact hbase)
    · intro xv xp c kl yd yp w2 cnt2 hkey hlk hv hat hrg2 hlt2 hg2 hs2 hen
      obtain rfl : kl = ZU.lit ⟨xv, xp⟩ := by
        have h7 := (ZU.key ⟨xv, xp⟩).symm.trans hkey
        exact (Option.some.inj h7).symm
      have hrow2 := hrow.kept hg2 (Or.inr (row_ne_iter hrow hrg).symm)
      clear hs2
      go_wp2_with (first
        | (at_builtin; refine wpList_append_own _ rfl _ _ 72 rfl w.heap.size 30 i0 (.int .u64 0) 1 8 Try.underlying72 hi hz0 hz1 hz2 rfl (by decide) _ _ _ rfl (hrow2.alloc _) ⟨w2.heap.size, 0, none⟩ 1 1 [.int .u64 xv] rfl rfl (cell_one_new _ _ _) (by simp [Value.oneCell']) (by unfold maxLen at *; omega) (by omega) (by have := hnx.size; have := hg2.size; simp; omega) ?_; intro v' w3 hown' hg3 hnil3; go_frame)
        | go_in)
      have hrg3 := (hrg2.alloc _).kept hg3 (row_ne_low hrow2 hbl) (row_ne_iter hrow2 hrg2)
      go_roundw
      case rel =>
        refine ⟨_, cnt2, ss ++ [⟨xv, xp⟩], hrg3, by simp; omega, by simpa using hown', fun hv' => by have := (hnil3.1 hv').2; omega, hC.step hlk hat, ?_⟩
        exact ((hnx.grown hg2 hnx.size (fun j hj => by cases hj; exact hg1.size)).alloc (by have := hnx.size; have := hg2.size; omega) _).grown hg3 (by have := hnx.size; have := hg2.size; simp; omega) (fun j hj => (hrow2.lt j hj).1)
      case measure => rw [hrg3.left_eq, hrg.left_eq]; exact hlt2
end Go.Proofs.Ytijbmchgajhkeaa
