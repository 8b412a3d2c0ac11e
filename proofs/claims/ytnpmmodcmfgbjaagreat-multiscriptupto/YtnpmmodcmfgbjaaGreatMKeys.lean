import Derived.Test.YtnpmmodcmfgbjaaGreatMBeh
import Derived.Test.YtnpmmodcmfgbjaaGreatMRest
import Derived.Test.YtnpmmodcmfgbjaaGreatLSort
import Derived.Test.YtnpmmodcmfgbjaaGreatMSo
namespace Go.Proofs.YtnpmmodcmfgbjaaGreat
open Go.RowKit Go.Sort Go.Maps Go.Shelf Go.Lib
open Tt (Tl byd byd_f byd_t)
attribute [local go_sem ↓] Go.wp_at_zero Go.wp_at_succ

theorem ltOf_tcm (x y : Tm) : ltOf tcm x y = tol x y := rfl
theorem swoT : SWO (ltOf tcm) where
  irrefl x := ords.irr x
  trans x y z h1 h2 := ords.tr x y z h1 h2
  ntrans x y z h1 h2 := by
    rw [ltOf_tcm, tol_not] at *
    omega
theorem totT (x y : Tm) (h1 : ltOf tcm x y = false) (h2 : ltOf tcm y x = false) : x = y := by
  by_cases e : x = y
  · exact e
  · have := ords.tot x y e h1
    rw [ltOf_tcm] at h2
    rw [this] at h2
    cases h2
theorem cmpLaysT (blk off size : Nat) (w : World) : CmpLays Tryz.prog 24 #[] ET.enc 3 tcm blk off size w :=
  fun _ _ _ _ x y => Compare_any x.1.1 x.1.2.1 x.1.2.2 y.1.1 y.1.2.1 y.1.2.2 _
/-- The keys, in the order of telling. -/
abbrev stT (ks : List Tm) : List Tm := srtBy tcm ks
theorem stT_sorted {ks : List Tm} (h : ks.Nodup) : (stT ks).Pairwise fun a b => tol a b = true := by
  have h1 := srtBy_sorted swoT ks
  have h2 : (stT ks).Nodup := (srtBy_perm tcm ks).nodup_iff.2 h
  refine List.Pairwise.imp₂ (R := fun x y => (!(ltOf tcm) y x) = true) (S := fun x y => x ≠ y) (fun {a b} ha hb => ?_) h1 h2
  have ha' : tol b a = false := by simpa [ltOf_tcm] using ha
  exact ords.tot b a (fun e => hb e.symm) ha'
theorem sort_any (g cap base : Nat) (ts : List Tm) (w : World) (h : w.ownsRow base 37 3 (.slice (some ⟨g, 0, none⟩) ts.length cap) ts.length (flT ts)) (hsz : ts.length < 4611686018427387904) :
    Calls Tryz.prog 72 #[.slice (some ⟨g, 0, none⟩) ts.length cap, .func (.func 24) #[] #[]] w fun e w' => e = .returned (.tuple #[]) ∧ w'.ownsRow base 37 3 (.slice (some ⟨g, 0, none⟩) ts.length cap) ts.length (flT (stT ts)) ∧ Kp (fun k => k = g) w w' := by
  have eg : ∀ args w, (callFunc 24 args).run Tryz.prog w = .ok (.enter 24 args) w := enters_of Tryz.func24 (by kernel_rfl) rfl
  have hg : g < w.heap.size := (h.lt g rfl).2
  have hcon := AnyQ.slices_SortFunc_total Tryz.lSortT 3 Tryz.isAgg37 Tryz.sizeOf37 ET.enc (fun _ => rfl) ET.one tcm swoT 24 #[] g 0 cap ts.toArray w eg (cmpLaysT g 0 _ w) (holdsK_of_owns (E := ET) (by decide) h) hg (by simpa using hsz) totT
  change Calls Tryz.prog 72 _ _ _ at hcon
  rw [List.size_toArray] at hcon
  refine hcon.mono ?_
  rintro e w' ⟨rfl, n, os, rfl⟩
  exact ⟨rfl, owns_sorted (E := ET) (by decide) h (srtBy_length tcm ts), kp_sorted (E := ET)⟩

set_option maxHeartbeats 4000000 in
set_option maxRecDepth 100000 in
theorem keys_any {tb b n : Nat} {f : Tm → Int} (w : World) (h : Tl w tb b 24 n f) (hn : n * 24 ≤ 140737488355328) :
    Calls Tryz.prog 58 #[.pointer (some ⟨tb, 0, none⟩)] w fun e w' => ∃ (v : Value) (ks : List Tm), Sup f ks ∧ e = .returned v ∧
      w'.ownsRow w.heap.size 37 3 v (stT ks).length (flT (stT ks)) ∧ v ≠ .slice none 0 0 ∧ Below w.heap.size w w' := by
  obtain ⟨i0, hi, hz0, hz1, hz2⟩ := info_parts infoTm
  have HT : Hid (Tl w tb b 24 n f) := h
  have c0 := h.c0
  have c1 := h.c1
  have hlt := h.lt
  obtain ⟨D, hown, h1, h2⟩ := h.ta
  have hbl := hown.lt
  have hsz := hown.size_le
  have hlen := fun ty => hown.len Tryz.underlying92 ty
  clear h h1
  go_enter Tryz.func58, Tryz.ntmps58
  go_wp2_with (first
    | (at_make; refine wpList_make_own _ rfl _ _ 42 rfl w.heap.size 37 i0 (.agg #[.int .u64 0, .int .u64 0, .int .u64 0]) 3 Tryz.underlying42 hi hz0 hz1 _ _ _ (Maps.size D) rfl rfl rfl (by rw [hz2]; omega) (by unfold maxLen; omega) (Nat.le_refl _) ?_; intro w1 hrow1 hg1
       have c1b := (HT.out.kp (Kp.grownBy (S := fun _ => False) hg1 (fun k hk => by cases hk)) (fun h => h) (fun h => h)).c1)
    | (at_range; refine wpList_range_own _ rfl _ 92 rfl 37 2 ZT.law Tryz.underlying92 _ b n _ rfl (hown.kept hg1 (by simp)) ?_; intro w0 hrg0 hg0 hs0)
    | go_in)
  go_frame
  go_loopw [3, 4] (fun v _ wr => ∃ (left : Lit → Bool) (cnt : Nat) (ss : List Tm), wr.ranges Tryz.prog 37 (plainElem Tryz.prog 2) b w1.heap.size n D left cnt ∧ ss.length + cnt ≤ Maps.size D ∧
      wr.ownsRow w.heap.size 37 3 v ss.length (flT ss) ∧ v ≠ .slice none 0 0 ∧ Coll ZT D left ss ∧ Below w.heap.size w wr)
    (fun _ _ wr => wr.rangeLeft b w1.heap.size)
  case atStart =>
    exact ⟨_, _, [], hrg0, by simp, hrow1.kept hg0 (Or.inr (by simp [Value.ownBlock])), by simp, Coll.start D,
      ((Below.refl _ _).grown hg1 (Nat.le_refl _) (fun j hj => by cases hj)).grown hg0 hg1.size (fun j hj => by cases hj)⟩
  case round =>
    obtain ⟨left, cnt, ss, hrg, hcs, hrow, hnn, hC, hnx⟩ := hrel
    go_wp2_with (first
      | (at_next; refine wpList_next_ranges _ rfl _ rfl 37 ZT.law (plainElem Tryz.prog 2) tv (Value.int .i64) (fun key kl hk => tv_inv hk) (fun v y hv => by obtain ⟨c, rfl, _⟩ := plainElem_int_inv Tryz.underlying2 hv; exact ⟨c, rfl⟩) b w1.heap.size n _ _ _ rfl hrg ?_ ?_)
      | go_in)
    · intro hc0 hl0
      rcases hrow.2 with ⟨hnil, _⟩ | ⟨gb, cap, cur, rfl, hbase, hb, h3, h4, h5, h6⟩
      · exact absurd hnil hnn
      have hS := hC.sup h2 hl0
      have c0r := (hnx.cell (p := ⟨tb, 0, none⟩) hlt).trans c0
      have hc := sort_any gb cap w.heap.size ss wr hrow (by omega)
      clear h6 hb h5
      go_wp2_with (go_at_call 72; refine hc.mono ?_; rintro e w' ⟨rfl, ho', hk'⟩)
      go_ret
      refine ⟨_, ss, hS, rfl, by rw [srtBy_length]; exact ho', by simp, ?_⟩
      exact hnx.trans (hk'.below hnx.size (fun k hk => by rw [hk]; exact hbase))
    · intro ta tb' tc tp c kl yd yp w2 cnt2 hkey hlk hv hat hrg2 hlt2 hg2 hs2 hen
      obtain ⟨x, hx⟩ : ∃ x : Tm, x = ⟨(ta, tb', tc), tp⟩ := ⟨_, rfl⟩
      rw [← hx] at hkey hen ⊢
      clear hx tp ta tb' tc
      obtain rfl : kl = ZT.lit x := by
        have h7 := (ZT.key x).symm.trans hkey
        exact (Option.some.inj h7).symm
      have hrow2 := hrow.kept hg2 (Or.inr (row_ne_iter hrow hrg).symm)
      have B2 : Below w.heap.size w w2 := hnx.grown hg2 hnx.size (fun j hj => by cases hj; exact hg1.size)
      have HC2 := hC.step hlk hat
      clear hs2 hv hat hkey hlk
      go_wp2_with (first
        | (at_builtin; refine Cn.wpApp1 rfl _ _ rfl w.heap.size _ ss.length _ rfl (hrow2.alloc _) x (by show Value.slice (some ⟨w2.heap.size + 1, 0, none⟩) 1 1 = _; simp) (by omega) (by have := B2.size; simp; omega) ?_; intro g' cap' w3 ho3 hg3 hl3)
        | go_in)
      have hrg3 := (hrg2.alloc _).kept hg3 (row_ne_low hrow2 hbl) (row_ne_iter hrow2 hrg2)
      go_roundw
      case rel =>
        refine ⟨_, cnt2, ss ++ [x], hrg3, by simp; omega, ?_, by simp, HC2, ?_⟩
        · rw [flT_append, flT_one, List.length_append]
          exact ho3
        · exact (B2.alloc B2.size _).grown hg3 (by have := B2.size; simp; omega) (fun j hj => (hrow2.lt j hj).1)
      case measure => rw [hrg3.left_eq, hrg.left_eq]; exact hlt2
theorem mtimes_any {tb b n : Nat} {f : Tm → Int} (w : World) (h : Tl w tb b 24 n f) (hn : n * 24 ≤ 140737488355328) :
    Calls Tryz.prog 36 #[cv tb] w fun e w' => ∃ (v : Value) (ks : List Tm), Sup f ks ∧ e = .returned v ∧
      w'.ownsRow w.heap.size 37 3 v (stT ks).length (flT (stT ks)) ∧ v ≠ .slice none 0 0 ∧ Below w.heap.size w w' := by
  have hk := fun o => keys_any _ (h.gr ((Gr.refl w).alloc o)) hn
  have HG : Hid (∀ o, Gr w (w.alloc o)) := fun o => (Gr.refl w).alloc o
  clear h
  go_enter Tryz.func36, Tryz.ntmps36
  go_wp2_with fail
  refine (hk _).mono ?_
  rintro e w1 ⟨v, ks, hS, rfl, ho, hv, hb⟩
  go_wp2
  go_ret
  exact ⟨_, ks, hS, rfl, owns_base ho (by simp), hv, (HG.out _).below.trans (hb.mono (by simp))⟩
end Go.Proofs.YtnpmmodcmfgbjaaGreat
