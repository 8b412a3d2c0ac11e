import Derived.Test.YtnpmmodcmfgbjaaGreatJ4
import Derived.Lib.SliceRun
import Derived.Test.YtnpmmodcmfgbjaaGreatJ1
import Derived.Shelf.GgSortFunc.InsertionK
import Derived.Shelf.SlSortCmp.Kit1
import Derived.Test.YtnpmmodcmfgbjaaGreatJ3
import Derived.Test.YtnpmmodcmfgbjaaGreatMSo
namespace Go.Proofs.YtnpmmodcmfgbjaaGreat.Cn
open Go.RowKit Go.Sort
attribute [local go_sem ↓] Go.wp_at_zero Go.wp_at_succ

set_option maxHeartbeats 1000000 in
theorem clone_any (v : Value) (l : List Tm) (w : World) (hv : Lst w v l) (hl : l.length * 24 ≤ 140737488355328) :
    Calls Tryz.prog 52 #[v] w fun e w' => ∃ v', e = .returned v' ∧ w'.ownsRow w.heap.size 37 3 v' l.length (flT l) ∧ Below w.heap.size w w' := by
  have HV : Hid (Lst w v l) := hv
  have hen := fun (W : World) (a : Option Addr) (n c : Nat) => Lib.run_eql_slice_nil (P := Tryz.prog) W 42 37 a n c 0 0 Tryz.underlying42
  rcases hv with ⟨rfl, rfl⟩ | ⟨b, off, c, rfl, hb, ht⟩
  · go_enter Tryz.func52, Tryz.ntmps52
    go_wp2
    go_ret
    exact ⟨_, rfl, World.ownsRow_nil _ _ _ _, Below.refl _ _⟩
  · clear ht
    go_enter Tryz.func52, Tryz.ntmps52
    go_wp2_with (at_builtin; refine wpAppL rfl _ _ rfl w.heap.size (.slice (some ⟨w.heap.size, 0, none⟩) 0 0) 0 [] rfl (World.ownsRow_made w #[] 0 (Nat.le_refl _) (by unfold maxLen; omega) rfl) _ l rfl (HV.out.below ((Gr.refl w).alloc _).below) (by omega) (by simp) ?_)
    intro v' w' h1 h2
    go_wp2
    go_ret
    refine ⟨_, rfl, by simpa using h1, ?_⟩
    exact ((Gr.refl w).alloc _).below.trans ((Kp.grownBy (S := fun k => w.heap.size ≤ k) h2 (fun k hk => by simp [Value.ownBlock] at hk; omega)).below (by simp) (fun _ h => h))

set_option maxHeartbeats 1000000 in
theorem list_any {cb fb ff : Nat} {v : Value} {l : List Tm} (w : World) (hc : Ch w cb fb ff v l) (hl : l.length * 24 ≤ 140737488355328) :
    Calls Tryz.prog 29 #[.pointer (some ⟨cb, 0, none⟩)] w fun e w' => ∃ v', e = .returned v' ∧ w'.ownsRow w.heap.size 37 3 v' l.length (flT l) ∧ Below w.heap.size w w' := by
  have h := clone_any v l w hc.lst hl
  have k2 := hc.c2
  have kl := hc.lt
  clear hc
  go_enter Tryz.func29, Tryz.ntmps29
  go_wp2_with fail
  refine h.mono ?_
  rintro e w1 ⟨v', rfl, h1, h2⟩
  go_wp2
  go_ret
  exact ⟨_, rfl, h1, h2⟩

theorem cnum_append {bel fst : Tm → Tm → Bool} (l vs us : List Tm) : cnum bel fst l (vs ++ us) = cnum bel fst l vs + cnum bel fst (cjoin bel fst l vs) us := by
  induction vs generalizing l with
  | nil => simp [cnum, cjoin]
  | cons v vs ih => rw [List.cons_append, cnum, ih, cnum, cjoin_cons, Nat.add_assoc]
theorem cnum_take_succ {bel fst : Tm → Tm → Bool} {l vs : List Tm} {k : Nat} {x : Tm} (h : vs[k]? = some x) : cnum bel fst l (vs.take (k + 1)) = cnum bel fst l (vs.take k) + (if ccov bel (cjoin bel fst l (vs.take k)) x then 0 else 1) := by
  rw [List.take_add_one, h, cnum_append]
  simp [cnum]
theorem cnum_le {bel fst : Tm → Tm → Bool} (l vs : List Tm) : cnum bel fst l vs ≤ vs.length := by
  induction vs generalizing l with
  | nil => simp [cnum]
  | cons v vs ih => rw [cnum, List.length_cons]; have := ih (cins bel fst l v); split <;> omega

set_option maxHeartbeats 2000000 in
set_option maxRecDepth 100000 in
theorem join_any {cb fb ff : Nat} {v u : Value} {l vs : List Tm} {bel fst : Tm → Tm → Bool} (w : World) (hc : Ch w cb fb ff v l) (hu : Lst w u vs) (hap : ∀ k, u.ownBlock = some k → k ≠ cb ∧ v.ownBlock ≠ some k) (hl : (l.length + vs.length) * 24 ≤ 140737488355328) (hB : FnOk fb bel) (hF : FnOk ff fst) :
    Calls Tryz.prog 64 #[.pointer (some ⟨cb, 0, none⟩), u] w fun e w' => e = .returned (.int .i64 (cnum bel fst l vs : Nat)) ∧ ∃ v', Ch w' cb fb ff v' (cjoin bel fst l vs) ∧ Turn cb v v' w w' := by
  obtain ⟨pu, cu, rfl⟩ := hu.form
  have HU : Hid (Lst w (.slice pu vs.length cu) vs) := hu
  have HA : Hid (∀ k, (Value.slice pu vs.length cu).ownBlock = some k → k ≠ cb ∧ v.ownBlock ≠ some k) := hap
  have HC : Hid (Ch w cb fb ff v l) := hc
  clear hu hap hc
  go_enter Tryz.func64, Tryz.ntmps64
  go_wp2_with fail
  go_loopw [5, 7, 10] (fun s5 _ s10 wr => ∃ (k : Nat) (vr : Value), k ≤ vs.length ∧ s10 = .int .i64 k ∧ s5 = .int .i64 (cnum bel fst l (vs.take k) : Nat) ∧ Hid (Ch wr cb fb ff vr (cjoin bel fst l (vs.take k)) ∧ Turn cb v vr w wr)) (fun _ _ s10 _ => vs.length - (RowKit.intOf s10).toNat)
  case atStart => exact ⟨0, v, Nat.zero_le _, rfl, rfl, HC.out, Turn.refl _ _ _⟩
  case round =>
    obtain ⟨k, vr, hk, rfl, rfl, HI⟩ := hrel
    obtain ⟨hch, htu⟩ := HI.out
    by_cases hlt : k < vs.length
    · have hltz : (k : Int) < (vs.length : Int) := by omega
      obtain ⟨x, hx⟩ : ∃ x, vs[k]? = some x := ⟨vs[k], by simp⟩
      have HLw : Lst wr (.slice pu vs.length cu) vs := htu.1.ls HU.out (fun j hj hs => by
        obtain ⟨h1, h2⟩ := HA.out j hj
        rcases hs with hs | hs
        · exact h1 hs
        · exact h2 hs)
      obtain ⟨b1, o1, c1, e1, z1, x1, x2, x3⟩ := HLw.at3 hx
      simp only [Value.slice.injEq] at e1
      obtain ⟨rfl, -, rfl⟩ := e1
      clear HLw
      have hjl := cjoin_length (bel := bel) (fst := fst) l (vs.take k)
      have htl : (vs.take k).length = k := by simp; omega
      have HJ : Hid (cjoin bel fst l (vs.take (k + 1)) = cins bel fst (cjoin bel fst l (vs.take k)) x) := cjoin_take_succ hx
      have HN : Hid (cnum bel fst l (vs.take (k + 1)) = cnum bel fst l (vs.take k) + (if ccov bel (cjoin bel fst l (vs.take k)) x then 0 else 1)) := cnum_take_succ hx
      have hnl := cnum_le (bel := bel) (fst := fst) l (vs.take k)
      rw [htl] at hjl hnl
      clear hx
      generalize cjoin bel fst l (vs.take k) = f at *
      generalize cnum bel fst l (vs.take k) = q at *
      have hi := insert_any x (wr.alloc (.cells #[.int .u64 x.1.1, .int .u64 x.1.2.1, .int .u64 x.1.2.2] 37)) (hch.below ((Gr.refl _).alloc _).below) (by omega) hB hF
      have HT : Hid (Turn cb v vr w (wr.alloc (.cells #[.int .u64 x.1.1, .int .u64 x.1.2.1, .int .u64 x.1.2.2] 37))) := htu.trans (Turn.of_below ((Gr.refl _).alloc _).below)
      clear hch htu HI
      cases hq : ccov bel f x with
      | true =>
        rw [hq] at hi
        have HN' : Hid (cnum bel fst l (vs.take (k + 1)) = q) := by rw [HN.out, hq]; simp [Hid]
        go_wp2_with fail
        refine hi.mono ?_
        rintro e w2 ⟨v2, rfl, hch2, htu2⟩
        go_wp2
        refine ⟨⟨k + 1, v2, by omega, by go_num, by rw [HN'.out], by rw [HJ.out]; exact hch2, HT.out.trans htu2⟩, by simp [RowKit.intOf]; omega⟩
      | false =>
        rw [hq] at hi
        have HN' : Hid (cnum bel fst l (vs.take (k + 1)) = q + 1) := by rw [HN.out, hq]; simp [Hid]
        go_wp2_with fail
        refine hi.mono ?_
        rintro e w2 ⟨v2, rfl, hch2, htu2⟩
        go_wp2
        refine ⟨⟨k + 1, v2, by omega, by go_num, by rw [HN'.out]; go_num, by rw [HJ.out]; exact hch2, HT.out.trans htu2⟩, by simp [RowKit.intOf]; omega⟩
    · have hltz : ¬ (k : Int) < (vs.length : Int) := by omega
      rw [List.take_of_length_le (by omega)] at hch
      have HE : Hid (vs.take k = vs) := List.take_of_length_le (by omega)
      go_wp2
      go_ret
      exact ⟨by rw [HE.out]; rfl, vr, hch, htu⟩
end Go.Proofs.YtnpmmodcmfgbjaaGreat.Cn

namespace Go.Proofs.YtnpmmodcmfgbjaaGreat
open Go.RowKit Go.Sort Go.Shelf Go.Lib
section
variable {α : Type} [Inhabited α] {E : El α}
theorem flatK_fl (hk : 0 < E.k) (ts : List α) : flatK E.enc E.k ts.toArray = (fl E ts).toArray := by
  refine ext_get! (by rw [size_flatK]; simp [fl_length]) fun t ht => ?_
  rw [size_flatK] at ht
  have ht' : t < ts.length * E.k := by simpa using ht
  have hq : t / E.k < ts.length := (Nat.div_lt_iff_lt_mul hk).2 ht'
  rw [get_flatK _ _ _ t ht]
  have h1 := fl_get E ts (t / E.k) (t % E.k) ts[t / E.k] (by simp) (Nat.mod_lt _ hk)
  rw [Nat.div_add_mod'] at h1
  have h3 : (ts.toArray)[t / E.k]! = ts[t / E.k] := by simp [hq]
  rw [h3]
  have h4 : ((fl E ts).toArray)[t]! = ((fl E ts)[t]?).getD default := by simp
  rw [h4, h1]
  simp
theorem holdsK_of_owns (hk : 0 < E.k) {w : World} {base : Nat} {e : TypeId} {g cap : Nat} {ts : List α} (h : w.ownsRow base e E.k (.slice (some ⟨g, 0, none⟩) ts.length cap) ts.length (fl E ts)) : HoldsK E.enc E.k w g 0 ts.toArray := by
  obtain ⟨_, ⟨h0, _⟩ | ⟨g', cap', cur, hv, hg, hh, hc1, hc2, hsz, htk⟩⟩ := id h
  · cases h0
  cases hv
  unfold HoldsK
  rw [flatK_fl hk]
  intro j hj
  have hj' : j < (fl E ts).length := by simpa using hj
  refine ⟨?_, ?_⟩
  · have := h.cells (g := g) rfl j _ (List.getElem?_eq_getElem hj')
    rw [addA] at this
    rw [this]
    simp [hj']
  · simp only [World.frozen?, hh]
    simp
theorem heap_sortWorldK (hk : 0 < E.k) {w : World} {g n : Nat} {os : Array Obj} {cur : Array Value} {e : TypeId} (us : List α) (hb : w.heap[g]? = some (.cells cur e (0, 0))) :
    (sortWorldK E.enc E.k w g 0 n us.toArray os).heap[g]? = some (.cells (putCells id 0 (fl E us).toArray cur) e (0, 0)) := by
  have hg : g < w.heap.size := (Array.getElem?_eq_some_iff.1 hb).1
  unfold sortWorldK putRowK
  rw [flatK_fl hk, heap_grow_old _ _ (by simpa using hg)]
  simp [putRow, mapBlock, Sort.ahead, Array.getElem?_modify, hb, onCells]
theorem take_put_id (cur : Array Value) (vs : List Value) (h : vs.length ≤ cur.size) : (putCells id 0 vs.toArray cur).toList.take vs.length = vs := by
  apply List.ext_getElem?
  intro j
  by_cases hj : j < vs.length
  · rw [List.getElem?_take_of_lt hj, Array.getElem?_toList]
    simp [putCells, hj, show j < cur.size by omega]
  · rw [List.getElem?_take_eq_none (by omega), List.getElem?_eq_none (by omega)]
/-- A row that was sorted. -/
theorem owns_sorted (hk : 0 < E.k) {w : World} {base : Nat} {e : TypeId} {g cap n : Nat} {ts us : List α} {os : Array Obj} (h : w.ownsRow base e E.k (.slice (some ⟨g, 0, none⟩) ts.length cap) ts.length (fl E ts)) (hl : us.length = ts.length) :
    (sortWorldK E.enc E.k w g 0 n us.toArray os).ownsRow base e E.k (.slice (some ⟨g, 0, none⟩) ts.length cap) ts.length (fl E us) := by
  obtain ⟨_, ⟨h0, _⟩ | ⟨g', cap', cur, hv, hg, hh, hc1, hc2, hsz, htk⟩⟩ := id h
  · cases h0
  cases hv
  have hle : (fl E us).length ≤ cur.size := by rw [fl_length, hl, hsz]; exact Nat.mul_le_mul_right _ hc1
  refine ⟨by rw [fl_length, hl], .inr ⟨g, cap, _, rfl, hg, heap_sortWorldK hk us hh, hc1, hc2, by simp [putCells, hsz], ?_⟩⟩
  have := take_put_id cur (fl E us) hle
  rwa [fl_length, hl] at this
theorem kp_sorted {w : World} {g n : Nat} {us : List α} {os : Array Obj} : Kp (fun k => k = g) w (sortWorldK E.enc E.k w g 0 n us.toArray os) := by
  refine ⟨rfl, rfl, rfl, by simp [sortWorldK, putRowK, putRow, mapBlock, Sort.ahead, grow], fun k hk hne => ?_⟩
  unfold sortWorldK putRowK
  rw [heap_grow_old _ _ (by simpa [putRow, mapBlock, Sort.ahead] using hk)]
  have : g ≠ k := fun e => hne e.symm
  simp [putRow, mapBlock, Sort.ahead, Array.getElem?_modify, this]
end

section
variable {K : Type}
/-- In their order. -/
def srtBy (cf : K → K → Int) (ks : List K) : List K := ks.mergeSort fun x y => !(ltOf cf) y x
theorem srtBy_length (cf : K → K → Int) (ks : List K) : (srtBy cf ks).length = ks.length := List.length_mergeSort ..
theorem srtBy_perm (cf : K → K → Int) (ks : List K) : (srtBy cf ks).Perm ks := List.mergeSort_perm ..
theorem srtBy_mem {cf : K → K → Int} {ks : List K} {x : K} : x ∈ srtBy cf ks ↔ x ∈ ks := (srtBy_perm cf ks).mem_iff
theorem srtBy_sorted {cf : K → K → Int} (hO : SWO (ltOf cf)) (a : List K) : (srtBy cf a).Pairwise fun x y => (!(ltOf cf) y x) = true := by
  refine List.pairwise_mergeSort (fun x y z h1 h2 => ?_) (fun x y => ?_) a
  · simp only [Bool.not_eq_true'] at *
    exact hO.ntrans z y x h2 h1
  · cases h1 : ltOf cf y x with
    | false => simp
    | true =>
      cases h2 : ltOf cf x y with
      | false => simp
      | true => have := hO.trans x y x h2 h1; rw [hO.irrefl] at this; cases this
theorem srtBy_of_perm {cf : K → K → Int} (hO : SWO (ltOf cf)) (hT : ∀ x y, ltOf cf x y = false → ltOf cf y x = false → x = y) {a b : List K} (h : a.Perm b) : srtBy cf a = srtBy cf b := by
  refine List.Perm.eq_of_pairwise (le := fun x y => (!(ltOf cf) y x) = true) (fun x y _ _ h1 h2 => ?_) (srtBy_sorted hO a) (srtBy_sorted hO b) (((srtBy_perm cf a).trans h).trans (srtBy_perm cf b).symm)
  simp only [Bool.not_eq_true'] at h1 h2
  exact hT x y h2 h1
end
end Go.Proofs.YtnpmmodcmfgbjaaGreat

namespace Go.Proofs.YtnpmmodcmfgbjaaGreat
open Go.RowKit Go.Sort Go.Maps Go.Shelf Go.Lib
open Tt (Tl byd byd_f byd_t)
attribute [local go_sem ↓] Go.wp_at_zero Go.wp_at_succ

theorem ltOf_tcm (x y : Tm) : ltOf tcm x y = tol x y := rfl
theorem swoT : SWO (ltOf tcm) where
  irrefl x := ords.irr x
  trans x y z h1 h2 := ords.tr x y z h1 h2
  ntrans x y z h1 h2 := by
    rw [ltOf_tcm, tol_not] at *
    omega
theorem totT (x y : Tm) (h1 : ltOf tcm x y = false) (h2 : ltOf tcm y x = false) : x = y := by
  by_cases e : x = y
  · exact e
  · have := ords.tot x y e h1
    rw [ltOf_tcm] at h2
    rw [this] at h2
    cases h2
theorem cmpLaysT (blk off size : Nat) (w : World) : CmpLays Tryz.prog 24 #[] ET.enc 3 tcm blk off size w :=
  fun _ _ _ _ x y => Compare_any x.1.1 x.1.2.1 x.1.2.2 y.1.1 y.1.2.1 y.1.2.2 _
/-- The keys, in the order of telling. -/
abbrev stT (ks : List Tm) : List Tm := srtBy tcm ks
theorem stT_sorted {ks : List Tm} (h : ks.Nodup) : (stT ks).Pairwise fun a b => tol a b = true := by
  have h1 := srtBy_sorted swoT ks
  have h2 : (stT ks).Nodup := (srtBy_perm tcm ks).nodup_iff.2 h
  refine List.Pairwise.imp₂ (R := fun x y => (!(ltOf tcm) y x) = true) (S := fun x y => x ≠ y) (fun {a b} ha hb => ?_) h1 h2
  have ha' : tol b a = false := by simpa [ltOf_tcm] using ha
  exact ords.tot b a (fun e => hb e.symm) ha'
theorem sort_any (g cap base : Nat) (ts : List Tm) (w : World) (h : w.ownsRow base 37 3 (.slice (some ⟨g, 0, none⟩) ts.length cap) ts.length (flT ts)) (hsz : ts.length < 4611686018427387904) :
    Calls Tryz.prog 72 #[.slice (some ⟨g, 0, none⟩) ts.length cap, .func (.func 24) #[] #[]] w fun e w' => e = .returned (.tuple #[]) ∧ w'.ownsRow base 37 3 (.slice (some ⟨g, 0, none⟩) ts.length cap) ts.length (flT (stT ts)) ∧ Kp (fun k => k = g) w w' := by
  have eg : ∀ args w, (callFunc 24 args).run Tryz.prog w = .ok (.enter 24 args) w := enters_of Tryz.func24 (by kernel_rfl) rfl
  have hg : g < w.heap.size := (h.lt g rfl).2
  have hcon := AnyQ.slices_SortFunc_total Tryz.lSortT 3 Tryz.isAgg37 Tryz.sizeOf37 ET.enc (fun _ => rfl) ET.one tcm swoT 24 #[] g 0 cap ts.toArray w eg (cmpLaysT g 0 _ w) (holdsK_of_owns (E := ET) (by decide) h) hg (by simpa using hsz) totT
  change Calls Tryz.prog 72 _ _ _ at hcon
  rw [List.size_toArray] at hcon
  refine hcon.mono ?_
  rintro e w' ⟨rfl, n, os, rfl⟩
  exact ⟨rfl, owns_sorted (E := ET) (by decide) h (srtBy_length tcm ts), kp_sorted (E := ET)⟩

set_option maxHeartbeats 4000000 in
set_option maxRecDepth 100000 in
theorem keys_any {tb b n : Nat} {f : Tm → Int} (w : World) (h : Tl w tb b 24 n f) (hn : n * 24 ≤ 140737488355328) :
    Calls Tryz.prog 58 #[.pointer (some ⟨tb, 0, none⟩)] w fun e w' => ∃ (v : Value) (ks : List Tm), Sup f ks ∧ e = .returned v ∧
      w'.ownsRow w.heap.size 37 3 v (stT ks).length (flT (stT ks)) ∧ v ≠ .slice none 0 0 ∧ Below w.heap.size w w' := by
  obtain ⟨i0, hi, hz0, hz1, hz2⟩ := info_parts infoTm
  have HT : Hid (Tl w tb b 24 n f) := h
  have c0 := h.c0
  have c1 := h.c1
  have hlt := h.lt
  obtain ⟨D, hown, h1, h2⟩ := h.ta
  have hbl := hown.lt
  have hsz := hown.size_le
  have hlen := fun ty => hown.len Tryz.underlying92 ty
  clear h h1
  go_enter Tryz.func58, Tryz.ntmps58
  go_wp2_with (first
    | (at_make; refine wpList_make_own _ rfl _ _ 42 rfl w.heap.size 37 i0 (.agg #[.int .u64 0, .int .u64 0, .int .u64 0]) 3 Tryz.underlying42 hi hz0 hz1 _ _ _ (Maps.size D) rfl rfl rfl (by rw [hz2]; omega) (by unfold maxLen; omega) (Nat.le_refl _) ?_; intro w1 hrow1 hg1
       have c1b := (HT.out.kp (Kp.grownBy (S := fun _ => False) hg1 (fun k hk => by cases hk)) (fun h => h) (fun h => h)).c1)
    | (at_range; refine wpList_range_own _ rfl _ 92 rfl 37 2 ZT.law Tryz.underlying92 _ b n _ rfl (hown.kept hg1 (by simp)) ?_; intro w0 hrg0 hg0 hs0)
    | go_in)
  go_frame
  go_loopw [3, 4] (fun v _ wr => ∃ (left : Lit → Bool) (cnt : Nat) (ss : List Tm), wr.ranges Tryz.prog 37 (plainElem Tryz.prog 2) b w1.heap.size n D left cnt ∧ ss.length + cnt ≤ Maps.size D ∧
      wr.ownsRow w.heap.size 37 3 v ss.length (flT ss) ∧ v ≠ .slice none 0 0 ∧ Coll ZT D left ss ∧ Below w.heap.size w wr)
    (fun _ _ wr => wr.rangeLeft b w1.heap.size)
  case atStart =>
    exact ⟨_, _, [], hrg0, by simp, hrow1.kept hg0 (Or.inr (by simp [Value.ownBlock])), by simp, Coll.start D,
      ((Below.refl _ _).grown hg1 (Nat.le_refl _) (fun j hj => by cases hj)).grown hg0 hg1.size (fun j hj => by cases hj)⟩
  case round =>
    obtain ⟨left, cnt, ss, hrg, hcs, hrow, hnn, hC, hnx⟩ := hrel
    go_wp2_with (first
      | (at_next; refine wpList_next_ranges _ rfl _ rfl 37 ZT.law (plainElem Tryz.prog 2) tv (Value.int .i64) (fun key kl hk => tv_inv hk) (fun v y hv => by obtain ⟨c, rfl, _⟩ := plainElem_int_inv Tryz.underlying2 hv; exact ⟨c, rfl⟩) b w1.heap.size n _ _ _ rfl hrg ?_ ?_)
      | go_in)
    · intro hc0 hl0
      rcases hrow.2 with ⟨hnil, _⟩ | ⟨gb, cap, cur, rfl, hbase, hb, h3, h4, h5, h6⟩
      · exact absurd hnil hnn
      have hS := hC.sup h2 hl0
      have c0r := (hnx.cell (p := ⟨tb, 0, none⟩) hlt).trans c0
      have hc := sort_any gb cap w.heap.size ss wr hrow (by omega)
      clear h6 hb h5
      go_wp2_with (go_at_call 72; refine hc.mono ?_; rintro e w' ⟨rfl, ho', hk'⟩)
      go_ret
      refine ⟨_, ss, hS, rfl, by rw [srtBy_length]; exact ho', by simp, ?_⟩
      exact hnx.trans (hk'.below hnx.size (fun k hk => by rw [hk]; exact hbase))
    · intro ta tb' tc tp c kl yd yp w2 cnt2 hkey hlk hv hat hrg2 hlt2 hg2 hs2 hen
      obtain ⟨x, hx⟩ : ∃ x : Tm, x = ⟨(ta, tb', tc), tp⟩ := ⟨_, rfl⟩
      rw [← hx] at hkey hen ⊢
      clear hx tp ta tb' tc
      obtain rfl : kl = ZT.lit x := by
        have h7 := (ZT.key x).symm.trans hkey
        exact (Option.some.inj h7).symm
      have hrow2 := hrow.kept hg2 (Or.inr (row_ne_iter hrow hrg).symm)
      have B2 : Below w.heap.size w w2 := hnx.grown hg2 hnx.size (fun j hj => by cases hj; exact hg1.size)
      have HC2 := hC.step hlk hat
      clear hs2 hv hat hkey hlk
      go_wp2_with (first
        | (at_builtin; refine Cn.wpApp1 rfl _ _ rfl w.heap.size _ ss.length _ rfl (hrow2.alloc _) x (by show Value.slice (some ⟨w2.heap.size + 1, 0, none⟩) 1 1 = _; simp) (by omega) (by have := B2.size; simp; omega) ?_; intro g' cap' w3 ho3 hg3 hl3)
        | go_in)
      have hrg3 := (hrg2.alloc _).kept hg3 (row_ne_low hrow2 hbl) (row_ne_iter hrow2 hrg2)
      go_roundw
      case rel =>
        refine ⟨_, cnt2, ss ++ [x], hrg3, by simp; omega, ?_, by simp, HC2, ?_⟩
        · rw [flT_append, flT_one, List.length_append]
          exact ho3
        · exact (B2.alloc B2.size _).grown hg3 (by have := B2.size; simp; omega) (fun j hj => (hrow2.lt j hj).1)
      case measure => rw [hrg3.left_eq, hrg.left_eq]; exact hlt2
theorem mtimes_any {tb b n : Nat} {f : Tm → Int} (w : World) (h : Tl w tb b 24 n f) (hn : n * 24 ≤ 140737488355328) :
    Calls Tryz.prog 36 #[cv tb] w fun e w' => ∃ (v : Value) (ks : List Tm), Sup f ks ∧ e = .returned v ∧
      w'.ownsRow w.heap.size 37 3 v (stT ks).length (flT (stT ks)) ∧ v ≠ .slice none 0 0 ∧ Below w.heap.size w w' := by
  have hk := fun o => keys_any _ (h.gr ((Gr.refl w).alloc o)) hn
  have HG : Hid (∀ o, Gr w (w.alloc o)) := fun o => (Gr.refl w).alloc o
  clear h
  go_enter Tryz.func36, Tryz.ntmps36
  go_wp2_with fail
  refine (hk _).mono ?_
  rintro e w1 ⟨v, ks, hS, rfl, ho, hv, hb⟩
  go_wp2
  go_ret
  exact ⟨_, ks, hS, rfl, owns_base ho (by simp), hv, (HG.out _).below.trans (hb.mono (by simp))⟩
end Go.Proofs.YtnpmmodcmfgbjaaGreat

namespace Go.Proofs.YtnpmmodcmfgbjaaGreat.Cn
open Go.RowKit Go.Sort
attribute [local go_sem ↓] Go.wp_at_zero Go.wp_at_succ

set_option maxHeartbeats 1000000 in
set_option maxRecDepth 100000 in
theorem cut_any {cb fb ff : Nat} {v : Value} {l : List Tm} {bel : Tm → Tm → Bool} (x : Tm) (w : World) (hc : Ch w cb fb ff v l) (hl : l.length * 24 ≤ 140737488355328) (hB : FnOk fb bel) :
    Calls Tryz.prog 62 #[.pointer (some ⟨cb, 0, none⟩), tv x] w fun e w' => ∃ v', e = .returned (.int .i64 ((l.length - (ccut bel l x).length : Nat) : Int)) ∧ Ch w' cb fb ff v' (ccut bel l x) ∧ Kp (fun k => k = cb) w w' ∧ ∀ g, v'.ownBlock = some g → v.ownBlock = some g ∨ w.heap.size ≤ g := by
  obtain ⟨W1, hW1⟩ : ∃ W1, W1 = w.alloc (.cells #[.int .u64 x.1.1, .int .u64 x.1.2.1, .int .u64 x.1.2.2] 37) := ⟨_, rfl⟩
  have G1 : Gr w W1 := by rw [hW1]; exact (Gr.refl _).alloc _
  have HZ : Hid (w.heap.size < W1.heap.size) := by rw [hW1]; simp [Hid]
  have hc1 := hc.below G1.below
  have h1 := staying_any (bel := bel) x W1 hc1 hl hB
  have hml := ccut_length (bel := bel) l x
  generalize hm : ccut bel l x = m at *
  have HC : Hid (Ch w cb fb ff v l) := hc
  obtain ⟨pl, cl, rfl⟩ := hc.lst.form
  clear hm hc hc1
  subst hW1
  go_enter Tryz.func62, Tryz.ntmps62
  go_wp2_with fail
  refine h1.mono ?_
  rintro e w3 ⟨v3, rfl, ho3, hb3, hor⟩
  have A3 : Hid (Below w.heap.size w w3) := G1.below.trans (hb3.mono (Nat.le_of_lt HZ.out))
  obtain ⟨d1, d2, d3⟩ := Blk.cells (HC.out.below A3.out).blk
  obtain ⟨p3, c3, rfl⟩ := (owns_lst ho3).form
  have zz : IntKind.i64.wrap ((l.length : Int) - (m.length : Int)) = ((l.length - m.length : Nat) : Int) := by rw [IntKind.wrap_i64]; omega
  clear h1
  go_wp2
  go_ret
  have hlt := HC.out.lt
  have hnoff : (Value.slice p3 m.length c3).ownBlock ≠ some cb := by
    intro h
    rcases hor with h' | h'
    · exact HC.out.off (h' ▸ h)
    · have := h' cb h; have := HZ.out; omega
  obtain ⟨hch, hks⟩ := Blk.set (HC.out.below A3.out).blk (v2 := .slice p3 m.length c3) (l2 := m) ho3 hnoff
  refine ⟨_, by first | rfl | simp, hch, (Kp.of_below A3.out).trans hks (fun _ _ h => h), fun g hg => ?_⟩
  rcases hor with h' | h'
  · left; rw [← h']; exact hg
  · right; have := h' g hg; have := HZ.out; omega

set_option maxHeartbeats 1000000 in
theorem len_any {cb fb ff : Nat} {v : Value} {l : List Tm} (w : World) (hc : Ch w cb fb ff v l) :
    Calls Tryz.prog 63 #[.pointer (some ⟨cb, 0, none⟩)] w fun e w' => e = .returned (.int .i64 (l.length : Nat)) ∧ w' = w := by
  obtain ⟨pl, cl, rfl⟩ := hc.lst.form
  have k2 := hc.c2
  have kl := hc.lt
  go_enter Tryz.func63, Tryz.ntmps63
  go_wp2
  go_ret
  exact ⟨rfl, rfl⟩

end Go.Proofs.YtnpmmodcmfgbjaaGreat.Cn
