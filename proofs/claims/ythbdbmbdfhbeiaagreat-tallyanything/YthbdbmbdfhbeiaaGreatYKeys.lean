import Derived.Test.YthbdbmbdfhbeiaaGreatYMeth
import Derived.Test.YthbdbmbdfhbeiaaGreatYSo
import Derived.Sort.OwnSorted
import Derived.Maps.AppendAt
namespace Go.Proofs.YthbdbmbdfhbeiaaGreat
open Go.RowKit Go.Sort Go.Maps Go.Shelf Go.Lib
attribute [local go_sem ↓] Go.wp_at_zero Go.wp_at_succ

section
variable {α : Type} [Inhabited α] {enc : α → Value}
theorem holds_of_blk {w : World} {g : Nat} {cur : Array Value} {e : TypeId} {ss : List α} (hb : w.heap[g]? = some (.cells cur e (0, 0))) (ht : cur.toList.take ss.length = ss.map enc) : Holds enc w g 0 ss.toArray := by
  intro j hj
  have hj' : j < ss.length := by simpa using hj
  refine ⟨?_, by simp [World.frozen?, hb]⟩
  have h1 : (cur.toList.take ss.length)[j]? = (ss.map enc)[j]? := by rw [ht]
  rw [List.getElem?_take_of_lt hj'] at h1
  simp only [World.cell?, hb, Nat.zero_add]
  simp only [Option.isSome_none, Bool.false_eq_true, if_false]
  rw [← Array.getElem?_toList, h1]
  simp [hj']
theorem heap_srt {w : World} {g n : Nat} {os : Array Obj} {cur : Array Value} {e : TypeId} {fr : Nat × Nat} (d : Array α) (hb : w.heap[g]? = some (.cells cur e fr)) :
    (grow (putRow enc (Sort.ahead w n) g 0 d) os).heap[g]? = some (.cells (putCells enc 0 d cur) e fr) := by
  have hg : g < w.heap.size := (Array.getElem?_eq_some_iff.1 hb).1
  rw [heap_grow_old _ _ (by simpa using hg)]
  simp [putRow, mapBlock, Sort.ahead, Array.getElem?_modify, hb, onCells]
theorem grownBy_srt {w : World} {g n : Nat} {os : Array Obj} (d : Array α) : w.grownBy (grow (putRow enc (Sort.ahead w n) g 0 d) os) (some g) := by
  refine ⟨rfl, rfl, rfl, by simp, fun k hk hne => ?_⟩
  rw [heap_grow_old _ _ (by simpa using hk)]
  have : g ≠ k := fun e => hne (by rw [e])
  simp [putRow, mapBlock, Sort.ahead, Array.getElem?_modify, this]
theorem take_put (cur : Array Value) (ts : List α) (h : ts.length ≤ cur.size) : (putCells enc 0 ts.toArray cur).toList.take ts.length = ts.map enc := by
  apply List.ext_getElem?
  intro j
  by_cases hj : j < ts.length
  · rw [List.getElem?_take_of_lt hj, Array.getElem?_toList]
    simp [putCells, hj, show j < cur.size by omega]
  · rw [List.getElem?_take_eq_none (by omega), List.getElem?_eq_none (by simp; omega)]
theorem ownsRow_srt {w : World} {base g cap n : Nat} {e : TypeId} {os : Array Obj} {cur : Array Value} {ss ts : List α} (hl : ts.length = ss.length) (hbase : base ≤ g) (hb : w.heap[g]? = some (.cells cur e (0, 0)))
    (h1 : ss.length ≤ cap) (h2 : cap ≤ maxLen) (h3 : cur.size = cap * 1) :
    (grow (putRow enc (Sort.ahead w n) g 0 ts.toArray) os).ownsRow base e 1 (.slice (some ⟨g, 0, none⟩) ss.length cap) ss.length (ts.map enc) :=
  ⟨by simp [hl], .inr ⟨g, cap, _, rfl, hbase, heap_srt _ hb, h1, h2, by simp [putCells, h3], by rw [Nat.mul_one, ← hl]; exact take_put cur ts (by omega)⟩⟩
end

/-- The keys in their order. -/
def srt (cf : BS → BS → Int) (ks : List BS) : List BS := ks.mergeSort fun x y => !(ltOf cf) y x
theorem srt_length (cf : BS → BS → Int) (ks : List BS) : (srt cf ks).length = ks.length := List.length_mergeSort ..
theorem srt_perm (cf : BS → BS → Int) (ks : List BS) : (srt cf ks).Perm ks := List.mergeSort_perm ..
theorem srt_of_perm {cf : BS → BS → Int} (hO : SWO (ltOf cf)) (hT : ∀ x y, ltOf cf x y = false → ltOf cf y x = false → x = y) {a b : List BS} (h : a.Perm b) : srt cf a = srt cf b := by
  have tr : ∀ x y z : BS, (!(ltOf cf) y x) = true → (!(ltOf cf) z y) = true → (!(ltOf cf) z x) = true := fun x y z h1 h2 => by
    simp only [Bool.not_eq_true'] at *
    exact hO.ntrans z y x h2 h1
  have to : ∀ x y : BS, ((!(ltOf cf) y x) || (!(ltOf cf) x y)) = true := fun x y => by
    cases h1 : ltOf cf y x with
    | false => simp
    | true =>
      cases h2 : ltOf cf x y with
      | false => simp
      | true => have := hO.trans x y x h2 h1; rw [hO.irrefl] at this; cases this
  refine List.Perm.eq_of_pairwise (le := fun x y => (!(ltOf cf) y x) = true) (fun x y _ _ h1 h2 => ?_) (List.pairwise_mergeSort tr to a) (List.pairwise_mergeSort tr to b) (((srt_perm cf a).trans h).trans (srt_perm cf b).symm)
  simp only [Bool.not_eq_true'] at h1 h2
  exact hT x y h2 h1

theorem infoS : (Tryz.prog.info? 9).map (fun i => (i.zero, i.size, i.bytes)) = some (some (.string ⟨#[]⟩), 1, 16) := by kernel_rfl

theorem sv_inv {key : Value} {kl : Lit} (h : keyOf Tryz.prog 9 key = some kl) : ∃ x, key = sv x := by
  obtain ⟨x, hx, _⟩ := ZS.inv _ _ h
  exact ⟨x, hx⟩

set_option maxHeartbeats 4000000 in
set_option maxRecDepth 100000 in
theorem keys_any {tb b g n : Nat} {f : BS → Int} {cf : BS → BS → Int} (w : World) (h : Tl w tb b g n f) (ho : OrdOk g cf) (hn : n * 16 ≤ 140737488355328) :
    Calls Tryz.prog 25 #[.pointer (some ⟨tb, 0, none⟩)] w fun e w' => ∃ (gb cap : Nat) (ks : List BS), Sup f ks ∧ e = .returned (.slice (some ⟨gb, 0, none⟩) (srt cf ks).length cap) ∧
      w'.ownsRow w.heap.size 9 1 (.slice (some ⟨gb, 0, none⟩) (srt cf ks).length cap) (srt cf ks).length ((srt cf ks).map sv) ∧ Below w.heap.size w w' := by
  obtain ⟨i0, hi, hz0, hz1, hz2⟩ := info_parts infoS
  have HT : Hid (Tl w tb b g n f) := h
  have c0 := h.c0
  have c1 := h.c1
  have hlt := h.lt
  obtain ⟨D, hown, h1, h2⟩ := h.ta
  have hbl := hown.lt
  have hsz := hown.size_le
  have hlen := fun ty => hown.len Tryz.underlying92 ty
  clear h h1
  go_enter Tryz.func25, Tryz.ntmps25
  go_wp2_with (first
    | (at_make; refine wpList_make_own _ rfl _ _ 71 rfl w.heap.size 9 i0 (.string ⟨#[]⟩) 1 Tryz.underlying71 hi hz0 hz1 _ _ _ (Maps.size D) rfl rfl rfl (by rw [hz2]; omega) (by unfold maxLen; omega) (Nat.le_refl _) ?_; intro w1 hrow1 hg1
       have c1b := (HT.out.kp (Kp.grownBy (S := fun _ => False) hg1 (fun k hk => by cases hk)) (fun h => h) (fun h => h)).c1)
    | (at_range; refine wpList_range_own _ rfl _ 92 rfl 9 2 ZS.law Tryz.underlying92 _ b n _ rfl (hown.kept hg1 (by simp)) ?_; intro w0 hrg0 hg0 hs0)
    | go_in)
  go_frame
  go_loopw [3] (fun v wr => ∃ (left : Lit → Bool) (cnt : Nat) (ss : List BS), wr.ranges Tryz.prog 9 (plainElem Tryz.prog 2) b w1.heap.size n D left cnt ∧ ss.length + cnt ≤ Maps.size D ∧
      wr.ownsRow w.heap.size 9 1 v ss.length (ss.map sv) ∧ v ≠ .slice none 0 0 ∧ Coll ZS D left ss ∧ Below w.heap.size w wr)
    (fun _ wr => wr.rangeLeft b w1.heap.size)
  case atStart =>
    exact ⟨_, _, [], hrg0, by simp, hrow1.kept hg0 (Or.inr (by simp [Value.ownBlock])), by simp, Coll.start D,
      ((Below.refl _ _).grown hg1 (Nat.le_refl _) (fun j hj => by cases hj)).grown hg0 hg1.size (fun j hj => by cases hj)⟩
  case round =>
    obtain ⟨left, cnt, ss, hrg, hcs, hrow, hnn, hC, hnx⟩ := hrel
    go_wp2_with (first
      | (at_next; refine wpList_next_ranges _ rfl _ rfl 9 ZS.law (plainElem Tryz.prog 2) sv (Value.int .i64) (fun key kl hk => sv_inv hk) (fun v y hv => by obtain ⟨c, rfl, _⟩ := plainElem_int_inv Tryz.underlying2 hv; exact ⟨c, rfl⟩) b w1.heap.size n _ _ _ rfl hrg ?_ ?_)
      | go_in)
    · intro hc0 hl0
      rcases hrow.2 with ⟨hnil, _⟩ | ⟨gb, cap, cur, rfl, hbase, hb, h3, h4, h5, h6⟩
      · exact absurd hnil hnn
      have hH : Holds sv wr gb 0 ss.toArray := holds_of_blk hb (by simpa using h6)
      have hgl : gb < wr.heap.size := (Array.getElem?_eq_some_iff.1 hb).1
      have hS := hC.sup h2 hl0
      have c0r := (hnx.cell (p := ⟨tb, 0, none⟩) hlt).trans c0
      have hc := Any.slices_SortFunc_total Tryz.lSort sv (fun _ => rfl) cf ho.swo g #[] gb 0 cap ss.toArray wr ho.enter (fun _ _ _ _ x y => ho.calls x y _) hH hgl (by simp; omega) ho.tot
      rw [List.size_toArray] at hc
      go_wp2_with (go_at_call 46; refine hc.mono ?_; rintro e w' ⟨rfl, nn, os, rfl⟩)
      go_ret
      refine ⟨gb, cap, ss, hS, by rw [srt_length]; rfl, ?_, ?_⟩
      · rw [srt_length]
        exact ownsRow_srt (ss := ss) (ts := srt cf ss) (srt_length _ _) hbase hb h3 h4 h5
      · exact hnx.grown (grownBy_srt _) hnx.size (fun j hj => by cases hj; exact hbase)
    · intro xv xp c kl yd yp w2 cnt2 hkey hlk hv hat hrg2 hlt2 hg2 hs2 hen
      obtain rfl : kl = ZS.lit ⟨xv, xp⟩ := by
        have h7 := (ZS.key ⟨xv, xp⟩).symm.trans hkey
        exact (Option.some.inj h7).symm
      have hrow2 := hrow.kept hg2 (Or.inr (row_ne_iter hrow hrg).symm)
      clear hs2
      go_wp2_with (first
        | (at_builtin; refine wpList_append_own _ rfl _ _ 71 rfl w.heap.size 9 i0 (.string ⟨#[]⟩) 1 16 Tryz.underlying71 hi hz0 hz1 hz2 rfl (by decide) _ _ _ rfl (hrow2.alloc _) ⟨w2.heap.size, 0, none⟩ 1 1 [.string xv] rfl rfl (cell_one_new _ _ _) (by simp [Value.oneCell']) (by unfold maxLen at *; omega) (by omega) (by have := hnx.size; have := hg2.size; simp; omega) ?_; intro v' w3 hown' hg3 hnil3; go_frame)
        | go_in)
      have hrg3 := (hrg2.alloc _).kept hg3 (row_ne_low hrow2 hbl) (row_ne_iter hrow2 hrg2)
      go_roundw
      case rel =>
        refine ⟨_, cnt2, ss ++ [⟨xv, xp⟩], hrg3, by simp; omega, by simpa using hown', fun hv' => by have := (hnil3.1 hv').2; omega, hC.step hlk hat, ?_⟩
        exact ((hnx.grown hg2 hnx.size (fun j hj => by cases hj; exact hg1.size)).alloc (by have := hnx.size; have := hg2.size; omega) _).grown hg3 (by have := hnx.size; have := hg2.size; simp; omega) (fun j hj => (hrow2.lt j hj).1)
      case measure => rw [hrg3.left_eq, hrg.left_eq]; exact hlt2
end Go.Proofs.YthbdbmbdfhbeiaaGreat
