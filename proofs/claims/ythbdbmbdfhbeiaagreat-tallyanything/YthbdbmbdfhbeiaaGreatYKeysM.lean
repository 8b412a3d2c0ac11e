import Derived.Test.YthbdbmbdfhbeiaaGreatYPx
import Derived.Test.YthbdbmbdfhbeiaaGreatYSp
import Derived.Test.YthbdbmbdfhbeiaaGreatYKeys
import Derived.Maps.AppendAt
namespace Go.Proofs.YthbdbmbdfhbeiaaGreat.Mm
open Go.RowKit Go.Sort Go.Maps Go.Shelf Go.Lib
attribute [local go_sem ↓] Go.wp_at_zero Go.wp_at_succ

instance : Inhabited Sm := ⟨⟨(0, 0, 0, 0), by decide, by decide, by decide, by decide⟩⟩
def EM : Q.El Sm where
  k := 4
  enc p := [.int .i64 p.1.1, .int .u64 p.1.2.1, .int .u64 p.1.2.2.1, .int .u64 p.1.2.2.2]
  len _ := rfl
  one x u hu := by
    simp at hu
    rcases hu with rfl | rfl | rfl | rfl <;> rfl
theorem u64_0 : (Lit.int .u64 0).wf = true := by decide
theorem st_wf {n : Nat} (h : n < 1000) : (Lit.int .i64 (n : Int)).wf = true := WalkArith.wf_i64 (by omega)
/-- Such stamps alone. -/
abbrev Sz := { n : Nat // n < 1000 }
instance : Inhabited Sz := ⟨⟨0, by decide⟩⟩
/-- The stamp of place n, of the least time. -/
def st (z : Sz) : Sm := ⟨((z.1 : Int), 0, 0, 0), st_wf z.2, u64_0, u64_0, u64_0⟩
theorem st_inj {x y : Sz} (h : st x = st y) : x = y := by
  have h1 := congrArg (fun s : Sm => s.1.1) h
  simp only [st] at h1
  apply Subtype.ext
  omega
def EZ : Q.El Sz where
  k := 4
  enc z := EM.enc (st z)
  len _ := rfl
  one _ u hu := EM.one _ u hu
theorem fl_st (zs : List Sz) : Q.fl EM (zs.map st) = Q.fl EZ zs := by
  induction zs with
  | nil => rfl
  | cons z zs ih => rw [List.map_cons, Q.fl_cons, Q.fl_cons, ih]; rfl
theorem pre_st {ss : List Sm} (h : ∀ s ∈ ss, ∃ z, s = st z) : ∃ zs : List Sz, ss = zs.map st := by
  induction ss with
  | nil => exact ⟨[], rfl⟩
  | cons s ss ih =>
    obtain ⟨z, hz⟩ := h s List.mem_cons_self
    obtain ⟨zs, hs⟩ := ih fun z hz => h z (List.mem_cons_of_mem _ hz)
    exact ⟨z :: zs, by rw [List.map_cons, ← hz, ← hs]⟩
def cfz (x y : Sz) : Int := wrap64 ((st x).1.1 - (st y).1.1)
theorem lt_cfz (x y : Sz) : ltOf cfz x y = decide (x.1 < y.1) := by
  have h1 := x.2
  have h2 := y.2
  unfold ltOf cfz st
  simp only
  rw [show wrap64 ((x.1 : Int) - (y.1 : Int)) = (x.1 : Int) - (y.1 : Int) by unfold wrap64; omega]
  by_cases h : x.1 < y.1
  · rw [decide_eq_true h, decide_eq_true (by omega)]
  · rw [decide_eq_false h, decide_eq_false (by omega)]
theorem totZ (x y : Sz) (h1 : ltOf cfz x y = false) (h2 : ltOf cfz y x = false) : x = y := by
  rw [lt_cfz] at h1 h2
  simp only [decide_eq_false_iff_not] at h1 h2
  apply Subtype.ext
  omega
theorem swoZ : SWO (ltOf cfz) := swo_of (fun x => by rw [lt_cfz]; simp) (fun x y z h1 h2 => by
  rw [lt_cfz] at *
  simp only [decide_eq_true_eq] at *
  omega) totZ
theorem infoE : (Tryz.prog.info? 40).map (fun i => (i.zero, i.size, i.bytes)) = some (some (.agg #[.int .i64 0, .int .u64 0, .int .u64 0, .int .u64 0]), 4, 32) := by kernel_rfl
theorem cmpLays (blk off size : Nat) (w : World) : CmpLays Tryz.prog 7 #[] EZ.enc 4 cfz blk off size w :=
  fun _ _ _ _ x y => Pp.byPlace_any (st x) (st y) _
theorem sort_any (g cap base : Nat) (ts : List Sz) (w : World) (h : w.ownsRow base 40 4 (.slice (some ⟨g, 0, none⟩) ts.length cap) ts.length (Q.fl EZ ts)) (hsz : ts.length < 4611686018427387904) :
    Calls Tryz.prog 38 #[.slice (some ⟨g, 0, none⟩) ts.length cap, .func (.func 7) #[] #[]] w fun e w' => e = .returned (.tuple #[]) ∧ w'.ownsRow base 40 4 (.slice (some ⟨g, 0, none⟩) ts.length cap) ts.length (Q.fl EZ (Q.srtBy cfz ts)) ∧ Q.Kp (fun k => k = g) w w' := by
  have eg : ∀ args w, (callFunc 7 args).run Tryz.prog w = .ok (.enter 7 args) w := enters_of Tryz.func7 (by kernel_rfl) rfl
  have hg : g < w.heap.size := (h.lt g rfl).2
  have hcon := AnyQ.slices_SortFunc_total Tryz.lSortM 4 Tryz.isAgg40 Tryz.sizeOf40 EZ.enc (fun _ => rfl) EZ.one cfz swoZ 7 #[] g 0 cap ts.toArray w eg (cmpLays g 0 _ w) (Q.holdsK_of_owns (E := EZ) (by decide) h) hg (by simpa using hsz) totZ
  change Calls Tryz.prog 38 _ _ _ at hcon
  rw [List.size_toArray] at hcon
  refine hcon.mono ?_
  rintro e w' ⟨rfl, n, os, rfl⟩
  exact ⟨rfl, Q.owns_sorted (E := EZ) (by decide) h (Q.srtBy_length cfz ts), Q.kp_sorted (E := EZ)⟩

set_option maxHeartbeats 4000000 in
set_option maxRecDepth 100000 in
theorem keys_any {tb b n : Nat} {f : Sm → Int} (w : World) (h : Tl w tb b 7 n f) (hn : n * 32 ≤ 140737488355328) (hf : ∀ s, f s ≠ 0 → ∃ z, s = st z) :
    Calls Tryz.prog 18 #[.pointer (some ⟨tb, 0, none⟩)] w fun e w' => ∃ (v : Value) (zs : List Sz), Sup f (zs.map st) ∧ e = .returned v ∧
      w'.ownsRow w.heap.size 40 4 v ((Q.srtBy cfz zs).map st).length (Q.fl EM ((Q.srtBy cfz zs).map st)) ∧ v ≠ .slice none 0 0 ∧ Below w.heap.size w w' := by
  obtain ⟨i0, hi, hz0, hz1, hz2⟩ := Q.info_parts infoE
  have HT : Hid (Tl w tb b 7 n f) := h
  have c0 := h.c0
  have c1 := h.c1
  have hlt := h.lt
  obtain ⟨D, hown, h1, h2⟩ := h.ta
  have hbl := hown.lt
  have hsz := hown.size_le
  have hlen := fun ty => hown.len Tryz.underlying64 ty
  clear h h1
  go_enter Tryz.func18, Tryz.ntmps18
  go_wp2_with (first
    | (at_make; refine wpList_make_own _ rfl _ _ 57 rfl w.heap.size 40 i0 (.agg #[.int .i64 0, .int .u64 0, .int .u64 0, .int .u64 0]) 4 Tryz.underlying57 hi hz0 hz1 _ _ _ (Maps.size D) rfl rfl rfl (by rw [hz2]; omega) (by unfold maxLen; omega) (Nat.le_refl _) ?_; intro w1 hrow1 hg1
       have c1b := (HT.out.kp (Kp.grownBy (S := fun _ => False) hg1 (fun k hk => by cases hk)) (fun h => h) (fun h => h)).c1)
    | (at_range; refine wpList_range_own _ rfl _ 64 rfl 40 2 ZM.law Tryz.underlying64 _ b n _ rfl (hown.kept hg1 (by simp)) ?_; intro w0 hrg0 hg0 hs0)
    | go_in)
  go_frame
  go_loopw [3, 4] (fun v _ wr => ∃ (left : Lit → Bool) (cnt : Nat) (ss : List Sm), wr.ranges Tryz.prog 40 (plainElem Tryz.prog 2) b w1.heap.size n D left cnt ∧ ss.length + cnt ≤ Maps.size D ∧
      wr.ownsRow w.heap.size 40 4 v ss.length (Q.fl EM ss) ∧ v ≠ .slice none 0 0 ∧ Coll ZM D left ss ∧ Below w.heap.size w wr)
    (fun _ _ wr => wr.rangeLeft b w1.heap.size)
  case atStart =>
    exact ⟨_, _, [], hrg0, by simp, hrow1.kept hg0 (Or.inr (by simp [Value.ownBlock])), by simp, Coll.start D,
      ((Below.refl _ _).grown hg1 (Nat.le_refl _) (fun j hj => by cases hj)).grown hg0 hg1.size (fun j hj => by cases hj)⟩
  case round =>
    obtain ⟨left, cnt, ss, hrg, hcs, hrow, hnn, hC, hnx⟩ := hrel
    go_wp2_with (first
      | (at_next; refine wpList_next_ranges _ rfl _ rfl 40 ZM.law (plainElem Tryz.prog 2) mv (Value.int .i64) (fun key kl hk => invSm key kl hk) (fun v y hv => by obtain ⟨c, rfl, _⟩ := plainElem_int_inv Tryz.underlying2 hv; exact ⟨c, rfl⟩) b w1.heap.size n _ _ _ rfl hrg ?_ ?_)
      | go_in)
    · intro hc0 hl0
      rcases hrow.2 with ⟨hnil, _⟩ | ⟨gb, cap, cur, rfl, hbase, hb, h3, h4, h5, h6⟩
      · exact absurd hnil hnn
      have hS := hC.sup h2 hl0
      have c0r := (hnx.cell (p := ⟨tb, 0, none⟩) hlt).trans c0
      obtain ⟨zs, hzs⟩ := pre_st (ss := ss) fun s hs => hf s ((hS.2 s).1 hs)
      have hzl : ss.length = zs.length := by rw [hzs, List.length_map]
      rw [hzl] at hrow hcs ⊢
      have HRZ : wr.ownsRow w.heap.size 40 4 (.slice (some ⟨gb, 0, none⟩) zs.length cap) zs.length (Q.fl EZ zs) := by rw [← fl_st, ← hzs]; exact hrow
      rw [hzs] at hS
      have hc := sort_any gb cap w.heap.size zs wr HRZ (by omega)
      clear h6 hb h5
      go_wp2_with (go_at_call 38; refine hc.mono ?_; rintro e w' ⟨rfl, ho', hk'⟩)
      go_ret
      refine ⟨_, zs, hS, rfl, by rw [List.length_map, Q.srtBy_length, fl_st]; exact ho', by simp, ?_⟩
      exact hnx.trans (hk'.below hnx.size (fun k hk => by rw [hk]; exact hbase))
    · intro ta tb' tc td tp c kl yd yp w2 cnt2 hkey hlk hv hat hrg2 hlt2 hg2 hs2 hen
      obtain ⟨x, hx⟩ : ∃ x : Sm, x = ⟨(ta, tb', tc, td), tp⟩ := ⟨_, rfl⟩
      rw [← hx] at hkey hen ⊢
      clear hx tp ta tb' tc td
      obtain rfl : kl = ZM.lit x := by
        have h7 := (ZM.key x).symm.trans hkey
        exact (Option.some.inj h7).symm
      have hrow2 := hrow.kept hg2 (Or.inr (row_ne_iter hrow hrg).symm)
      have B2 : Below w.heap.size w w2 := hnx.grown hg2 hnx.size (fun j hj => by cases hj; exact hg1.size)
      have HC2 := hC.step hlk hat
      clear hs2 hv hat hkey hlk
      go_wp2_with (first
        | (at_builtin; refine Q.wpApp1 (E := EM) Tryz.underlying57 infoE rfl (by decide) rfl _ _ rfl w.heap.size _ ss.length _ rfl (hrow2.alloc _) x (by show Value.slice (some ⟨w2.heap.size + 1, 0, none⟩) 1 1 = _; simp) (by omega) (by unfold maxLen; omega) (by have := B2.size; simp; omega) _ rfl _ ?_; intro g' cap' w3 ho3 hg3 hl3)
        | go_in)
      have hrg3 := (hrg2.alloc _).kept hg3 (row_ne_low hrow2 hbl) (row_ne_iter hrow2 hrg2)
      go_roundw
      case rel =>
        refine ⟨_, cnt2, ss ++ [x], hrg3, by simp; omega, ?_, by simp, HC2, ?_⟩
        · rw [Q.fl_append, Q.fl_one, List.length_append]
          exact ho3
        · exact (B2.alloc B2.size _).grown hg3 (by have := B2.size; simp; omega) (fun j hj => (hrow2.lt j hj).1)
      case measure => rw [hrg3.left_eq, hrg.left_eq]; exact hlt2
end Go.Proofs.YthbdbmbdfhbeiaaGreat.Mm
