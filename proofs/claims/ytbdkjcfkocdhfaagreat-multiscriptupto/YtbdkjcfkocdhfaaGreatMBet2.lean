import Derived.Test.YtbdkjcfkocdhfaaGreatMBet
namespace Go.Proofs.YtbdkjcfkocdhfaaGreat
open Go.RowKit Go.Sort Go.Maps Go.Shelf Go.Lib
attribute [local go_sem ↓] Go.wp_at_zero Go.wp_at_succ

/-- Deltas whose numbers hang on their times. -/
def EN (N : Tm → Int) : El Tm where
  k := 4
  enc t := [.int .u64 t.1.1, .int .u64 t.1.2.1, .int .u64 t.1.2.2, .int .i64 (N t)]
  len _ := rfl
  one x u hu := by
    simp at hu
    rcases hu with rfl | rfl | rfl | rfl <;> rfl
theorem fl_EN (N : Tm → Int) (ts : List Tm) : fl (EN N) ts = fl ED (ts.map fun t => (t, N t)) := by
  unfold fl
  rw [List.flatMap_map]
  rfl
set_option maxHeartbeats 1000000 in
theorem betw1_any (N : Tm → Int) (x y : Tm) (w : World) : Calls Tryz.prog 67 #[.agg #[.int .u64 x.1.1, .int .u64 x.1.2.1, .int .u64 x.1.2.2, .int .i64 (N x)], .agg #[.int .u64 y.1.1, .int .u64 y.1.2.1, .int .u64 y.1.2.2, .int .i64 (N y)]] w fun e w' => e = .returned (.int .i64 (tcm x y)) ∧ Gr w w' := by
  have h : ∀ W, Calls Tryz.prog fC #[tv x, tv y] W fun e w' => e = .returned (.int .i64 (tcm x y)) ∧ Gr W w' := fun W => Compare_any _ _ _ _ _ _ W
  generalize tcm x y = r at h ⊢
  generalize N x = nx
  generalize N y = ny
  go_enter Tryz.func67, Tryz.ntmps67
  go_wp2_with fail
  refine (h _).mono ?_
  rintro e w' ⟨rfl, hg⟩
  go_wp2
  go_ret
  exact ⟨rfl, (((Gr.refl _).alloc _).alloc _).trans hg⟩
theorem sortD_any (N : Tm → Int) (v : Value) (base : Nat) (ts : List Tm) (w : World) (h : w.ownsRow base 34 4 v ts.length (fl (EN N) ts)) (hsz : ts.length < 4611686018427387904) :
    Calls Tryz.prog 66 #[v, .func (.func 67) #[] #[]] w fun e w' => e = .returned (.tuple #[]) ∧ w'.ownsRow base 34 4 v ts.length (fl (EN N) (stT ts)) ∧ Kp (fun k => v.ownBlock = some k) w w' := by
  obtain ⟨_, ⟨rfl, h0⟩ | ⟨g, cap, cur, rfl, _⟩⟩ := id h
  · have hc := AnyF.slices_SortFunc_none Tryz.lSortD none 0 (.func (.func 67) #[] #[]) w
    refine (show Calls Tryz.prog 66 _ _ _ from hc).mono ?_
    rintro e w' ⟨rfl, rfl⟩
    obtain rfl := List.eq_nil_of_length_eq_zero h0
    exact ⟨rfl, by simpa [srtBy] using h, Kp.refl _ _⟩
  · have eg : ∀ args w, (callFunc 67 args).run Tryz.prog w = .ok (.enter 67 args) w := enters_of Tryz.func67 (by kernel_rfl) rfl
    have hg : g < w.heap.size := (h.lt g rfl).2
    have hcon := AnyQ.slices_SortFunc_total Tryz.lSortD 4 Tryz.isAgg34 Tryz.sizeOf34 (EN N).enc (fun _ => rfl) (EN N).one tcm swoT 67 #[] g 0 cap ts.toArray w eg (fun _ _ _ _ x y => betw1_any N x y _) (holdsK_of_owns (E := EN N) (show 0 < 4 by decide) h) hg (by simpa using hsz) totT
    change Calls Tryz.prog 66 _ _ _ at hcon
    rw [List.size_toArray] at hcon
    refine hcon.mono ?_
    rintro e w' ⟨rfl, n, os, rfl⟩
    exact ⟨rfl, owns_sorted (E := EN N) (show 0 < 4 by decide) h (srtBy_length tcm ts), (kp_sorted (E := EN N)).mono (fun k hk => by rw [hk]; rfl)⟩

/-- What leads from one front to another. -/
def dlt (a b : List Tm) : List Dl := (stT (mis a b ++ mis b a)).map fun t => (t, if t ∈ b then 1 else -1)
theorem mis_parts (a b : List Tm) : (mis a b).map (fun t => (t, (-1 : Int))) ++ (mis b a).map (fun t => (t, (1 : Int))) = (mis a b ++ mis b a).map fun t => (t, if t ∈ b then 1 else -1) := by
  rw [List.map_append]
  congr 1
  · refine List.map_congr_left fun t ht => ?_
    have : t ∉ b := by simpa using (List.mem_filter.1 ht).2
    rw [if_neg this]
  · refine List.map_congr_left fun t ht => ?_
    rw [if_pos (List.mem_filter.1 ht).1]

set_option maxHeartbeats 1000000 in
set_option maxRecDepth 100000 in
theorem between_any (v u : Value) (l m : List Tm) (w : World) (hv : Lst w v l) (hu : Lst w u m) (hl : (l.length + m.length) * 32 ≤ 140737488355328) (hs : l.Pairwise fun a b => tol a b = true) (ht : m.Pairwise fun a b => tol a b = true) :
    Calls Tryz.prog 40 #[v, u] w fun e w' => ∃ v', e = .returned v' ∧ w'.ownsRow w.heap.size 34 4 v' (dlt l m).length (fl ED (dlt l m)) ∧ Below w.heap.size w w' := by
  have h1 := missing_any v u l m (-1) w hv hu (by omega) (by omega) ht
  have h2 := fun W (hW : Below w.heap.size w W) => missing_any u v m l 1 W (hu.below hW) (hv.below hW) (by omega) (by omega) hs
  have hl1 : (mis l m).length ≤ l.length := List.length_filter_le _ _
  have hl2 : (mis m l).length ≤ m.length := List.length_filter_le _ _
  have HP := mis_parts l m
  have HD : Hid (dlt l m = (stT (mis l m ++ mis m l)).map fun t => (t, if t ∈ m then 1 else -1)) := rfl
  obtain ⟨N, hN⟩ : ∃ N : Tm → Int, N = fun t => if t ∈ m then 1 else -1 := ⟨_, rfl⟩
  have HD2 : Hid (dlt l m = (stT (mis l m ++ mis m l)).map fun t => (t, N t)) := by rw [hN]; exact rfl
  have HP2 : Hid ((mis l m).map (fun t => (t, (-1 : Int))) ++ (mis m l).map (fun t => (t, (1 : Int))) = (mis l m ++ mis m l).map fun t => (t, N t)) := by rw [hN]; exact HP
  clear HP HD hN
  generalize mis l m = A at *
  generalize mis m l = B at *
  clear hs ht
  go_enter Tryz.func40, Tryz.ntmps40
  go_wp2_with fail
  refine h1.mono ?_
  rintro e w1 ⟨v1, rfl, ho1, hb1⟩
  have h2' := h2 w1 hb1
  clear h1 h2
  go_wp2_with fail
  refine h2'.mono ?_
  rintro e w2 ⟨v2, rfl, ho2, hb2⟩
  have L1 : Ls ED w2 v1 (A.map fun t => (t, -1)) := owns_ls (E := ED) (ts := A.map fun t => (t, (-1 : Int))) (by rw [List.length_map]; exact owns_below ho1 hb2)
  have L2 : Ls ED w2 v2 (B.map fun t => (t, 1)) := owns_ls (E := ED) (ts := B.map fun t => (t, (1 : Int))) (by rw [List.length_map]; exact ho2)
  clear ho1 ho2
  obtain ⟨p1, d1, hv1⟩ := L1.form
  obtain ⟨p2, d2, hv2⟩ := L2.form
  rw [List.length_map] at hv1 hv2
  subst hv1
  subst hv2
  have hcc := fun (te : TypeId) => concat_any w2.heap.size (.slice p1 A.length d1) (.slice p2 B.length d2) (A.map fun t => (t, -1)) (B.map fun t => (t, 1)) (w2.alloc (.cells #[.slice p1 A.length d1, .slice p2 B.length d2] te)) (by simp) (by simp) (by simp) (L1.below ((Gr.refl _).alloc _).below) (L2.below ((Gr.refl _).alloc _).below) (by simp only [List.length_map]; omega)
  rw [HP2.out] at hcc
  have B2 : Below w.heap.size w w2 := hb1.trans (hb2.mono hb1.size)
  clear h2'
  go_wp2_with fail
  refine (hcc _).mono ?_
  rintro e w3 ⟨v3, rfl, ho3, hb3⟩
  have B3 : Below w.heap.size w w3 := (B2.alloc B2.size _).trans (hb3.mono (by have := B2.size; simp; omega))
  have ho3' : w3.ownsRow w.heap.size 34 4 v3 (A ++ B).length (fl (EN N) (A ++ B)) := by
    have := owns_base ho3 (b' := w.heap.size) (by have := B2.size; simp; omega)
    rw [List.length_map] at this
    rw [fl_EN]
    exact this
  have hso := sortD_any N v3 w.heap.size (A ++ B) w3 ho3' (by rw [List.length_append]; omega)
  clear hcc
  go_wp2_with fail
  refine hso.mono ?_
  rintro e w4 ⟨rfl, ho4, hk4⟩
  go_wp2
  go_ret
  refine ⟨_, rfl, ?_, B3.trans (hk4.below B3.size (fun k hk => (ho3'.lt k hk).1))⟩
  rw [HD2.out, List.length_map, srtBy_length, ← fl_EN]
  exact ho4
end Go.Proofs.YtbdkjcfkocdhfaaGreat
