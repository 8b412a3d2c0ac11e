import Derived.Test.YtmhbpelbkeclpaaGreatDoorRef2
import Derived.Test.YtmhbpelbkeclpaaGreatDoorTimes
import Derived.Test.YtmhbpelbkeclpaaGreatDoorPure
import Derived.Shelf.SlSortCmp.QuietGrown
namespace Go.Proofs.YtmhbpelbkeclpaaGreatDoor
open Go.RowKit Go.Shelf Go.Lib
open Go.Sort hiding Below

theorem take_any {ts : List T3} {f : T3 → Bool} {k : Nat} {s : T3} (hs : ts[k]? = some s) (h : (ts.take k).any f = false) (hf : f s = false) : (ts.take (k + 1)).any f = false := by
  rw [List.take_add_one, hs, List.any_append, h, Option.toList_some]
  simp [hf]
theorem any_here {ts : List T3} {f : T3 → Bool} {k : Nat} {s : T3} (hs : ts[k]? = some s) (hf : f s = true) : ts.any f = true :=
  List.any_eq_true.2 ⟨s, List.mem_of_getElem? hs, hf⟩
theorem any_end {ts : List T3} {f : T3 → Bool} {k : Nat} (hk : ¬ k < ts.length) (h : (ts.take k).any f = false) : ts.any f = false := by
  rwa [List.take_of_length_le (by omega)] at h
theorem topen_any (ts : List T3) (t : T3) : topen ts t = ts.any fun s => le3 s t := rfl

set_option maxHeartbeats 2000000 in
set_option maxRecDepth 100000 in
theorem refOpen_any (v : Value) (ts : List T3) (a b c : Int) (w : World) (hv : Lst w v ts) (hlen : ts.length ≤ maxLen) :
    Calls Tryz.prog 11 #[v, .agg #[.int .u64 a, .int .u64 b, .int .u64 c]] w fun e w' => e = .returned (.bool ((ts.any fun s => le3 s (a, b, c)))) ∧ Gr w w' := by
  unfold maxLen at hlen
  obtain ⟨pl, cl, rfl⟩ := hv.form
  have hA := fun a b c x y z W => refAhead_any a b c x y z W
  have hm : Tryz.prog.follows .mixedOrders = true := by kernel_rfl
  have HL : Hid (Lst w (.slice pl ts.length cl) ts) := hv
  clear hv
  go_enter Tryz.func11, Tryz.ntmps11
  go_wp2_with fail
  go_loopw [5] (fun s5 wr => ∃ k : Nat, k ≤ ts.length ∧ s5 = .int .i64 k ∧ (ts.take k).any (fun s => le3 s (a, b, c)) = false ∧ Gr (w.alloc (.cells #[.int .u64 a, .int .u64 b, .int .u64 c] 25)) wr) (fun s5 _ => ts.length - (RowKit.intOf s5).toNat)
  case atStart => exact ⟨0, Nat.zero_le _, rfl, rfl, Gr.refl _⟩
  case round =>
    obtain ⟨k, hk, rfl, hno, hgr⟩ := hrel
    have hgw : Gr w wr := ((Gr.refl w).alloc _).trans hgr
    by_cases hlt : k < ts.length
    · have hltz : (k : Int) < (ts.length : Int) := by omega
      obtain ⟨s, hs⟩ : ∃ s, ts[k]? = some s := ⟨ts[k], by simp⟩
      obtain ⟨b1, o1, c1, e1, z1, x1, x2, x3⟩ := (HL.out.below hgw.below).at hs
      simp only [Value.slice.injEq] at e1
      obtain ⟨rfl, _, rfl⟩ := e1
      have zb : w.heap.size < wr.heap.size := by have := hgr.size; simp at this; omega
      have y1 : wr.cell? ⟨w.heap.size, 0, none⟩ = some (.int .u64 a) := (hgr.cell (by simp)).trans (by go_simp)
      have y2 : wr.cell? ⟨w.heap.size, 1, none⟩ = some (.int .u64 b) := (hgr.cell (by simp)).trans (by go_simp)
      have y3 : wr.cell? ⟨w.heap.size, 2, none⟩ = some (.int .u64 c) := (hgr.cell (by simp)).trans (by go_simp)
      have HS : Hid (ts[k]? = some s) := hs
      have HN : Hid ((ts.take k).any (fun s => le3 s (a, b, c)) = false) := hno
      clear hs hno
      have gx1 := cell_grown z1 x1
      have gx2 := cell_grown z1 x2
      have gx3 := cell_grown z1 x3
      have gy1 := cell_grown (a := ⟨w.heap.size, 0, none⟩) zb y1
      have gy2 := cell_grown (a := ⟨w.heap.size, 1, none⟩) zb y2
      have gy3 := cell_grown (a := ⟨w.heap.size, 2, none⟩) zb y3
      cases hle : tle s.1 s.2.1 s.2.2 a b c with
      | true =>
        have HF : Hid (le3 s (a, b, c) = true) := hle
        go_wp2_with fail
        go_quiet_grown (first | (go_at_call 32; refine Calls.grown_of (hA _ _ _ _ _ _ _)))
        have hgn : Gr wr (grow (wr.drewN nq) osq) := ⟨nq, osq, rfl⟩
        generalize grow (wr.drewN nq) osq = wn at hgn ⊢
        clear gx1 gx2 gx3 gy1 gy2 gy3
        try rw [hle]
        go_wp2
        go_ret
        exact ⟨ret_bool (any_here HS.out HF.out).symm, hgw.trans hgn⟩
      | false =>
        have HF : Hid (le3 s (a, b, c) = false) := hle
        go_wp2_with fail
        go_quiet_grown (first | (go_at_call 32; refine Calls.grown_of (hA _ _ _ _ _ _ _)))
        have hgn : Gr wr (grow (wr.drewN nq) osq) := ⟨nq, osq, rfl⟩
        generalize grow (wr.drewN nq) osq = wn at hgn ⊢
        clear gx1 gx2 gx3 gy1 gy2 gy3
        try rw [hle]
        go_wp2
        exact ⟨⟨k + 1, by omega, by go_num, take_any HS.out HN.out HF.out, hgr.trans hgn⟩, by simp [RowKit.intOf]; omega⟩
    · have hltz : ¬ (k : Int) < (ts.length : Int) := by omega
      have HE : Hid (ts.any (fun s => le3 s (a, b, c)) = false) := any_end hlt hno
      clear hno
      go_wp2
      go_ret
      exact ⟨ret_bool HE.out.symm, hgw⟩

set_option maxHeartbeats 2000000 in
set_option maxRecDepth 100000 in
theorem within_any (v : Value) (ts : List T3) (a b c : Int) (w : World) (hv : Lst w v ts) (hlen : ts.length ≤ maxLen) :
    Calls Tryz.prog 24 #[v, .agg #[.int .u64 a, .int .u64 b, .int .u64 c]] w fun e w' => e = .returned (.bool ((ts.any fun s => decide (s = (a, b, c))))) ∧ Gr w w' := by
  unfold maxLen at hlen
  obtain ⟨pl, cl, rfl⟩ := hv.form
  have heq := fun a b c x y z W => run_eqT a b c x y z W
  have hm : Tryz.prog.follows .mixedOrders = true := by kernel_rfl
  have HL : Hid (Lst w (.slice pl ts.length cl) ts) := hv
  clear hv
  go_enter Tryz.func24, Tryz.ntmps24
  go_wp2_with fail
  go_loopw [5] (fun s5 wr => ∃ k : Nat, k ≤ ts.length ∧ s5 = .int .i64 k ∧ (ts.take k).any (fun s => decide (s = (a, b, c))) = false ∧ Gr (w.alloc (.cells #[.int .u64 a, .int .u64 b, .int .u64 c] 25)) wr) (fun s5 _ => ts.length - (RowKit.intOf s5).toNat)
  case atStart => exact ⟨0, Nat.zero_le _, rfl, rfl, Gr.refl _⟩
  case round =>
    obtain ⟨k, hk, rfl, hno, hgr⟩ := hrel
    have hgw : Gr w wr := ((Gr.refl w).alloc _).trans hgr
    by_cases hlt : k < ts.length
    · have hltz : (k : Int) < (ts.length : Int) := by omega
      obtain ⟨s, hs⟩ : ∃ s, ts[k]? = some s := ⟨ts[k], by simp⟩
      obtain ⟨b1, o1, c1, e1, z1, x1, x2, x3⟩ := (HL.out.below hgw.below).at hs
      simp only [Value.slice.injEq] at e1
      obtain ⟨rfl, _, rfl⟩ := e1
      have zb : w.heap.size < wr.heap.size := by have := hgr.size; simp at this; omega
      have y1 : wr.cell? ⟨w.heap.size, 0, none⟩ = some (.int .u64 a) := (hgr.cell (by simp)).trans (by go_simp)
      have y2 : wr.cell? ⟨w.heap.size, 1, none⟩ = some (.int .u64 b) := (hgr.cell (by simp)).trans (by go_simp)
      have y3 : wr.cell? ⟨w.heap.size, 2, none⟩ = some (.int .u64 c) := (hgr.cell (by simp)).trans (by go_simp)
      have HS : Hid (ts[k]? = some s) := hs
      have HN : Hid ((ts.take k).any (fun s => decide (s = (a, b, c))) = false) := hno
      clear hs hno
      by_cases hst : s = (a, b, c)
      · have hq : teq s.1 s.2.1 s.2.2 a b c = true := teq_true hst
        have HF : Hid (decide (s = (a, b, c)) = true) := decide_eq_true hst
        clear hst
        go_wp2_with fail
        go_quiet (fail)
        go_wp2
        go_ret
        exact ⟨ret_bool (any_here HS.out HF.out).symm, hgw.drewN _⟩
      · have hq : teq s.1 s.2.1 s.2.2 a b c = false := teq_false hst
        have HF : Hid (decide (s = (a, b, c)) = false) := decide_eq_false hst
        clear hst
        go_wp2_with fail
        go_quiet (fail)
        go_wp2
        exact ⟨⟨k + 1, by omega, by go_num, take_any HS.out HN.out HF.out, hgr.drewN _⟩, by simp [RowKit.intOf]; omega⟩
    · have hltz : ¬ (k : Int) < (ts.length : Int) := by omega
      have HE : Hid (ts.any (fun s => decide (s = (a, b, c))) = false) := any_end hlt hno
      clear hno
      go_wp2
      go_ret
      exact ⟨ret_bool HE.out.symm, hgw⟩

set_option maxHeartbeats 2000000 in
set_option maxRecDepth 100000 in
theorem refleast_any (v : Value) (ts : List T3) (a b c : Int) (w : World) (hv : Lst w v ts) (hlen : ts.length ≤ maxLen) :
    Calls Tryz.prog 25 #[v, .agg #[.int .u64 a, .int .u64 b, .int .u64 c]] w fun e w' => e = .returned (.bool (!(ts.any fun s => !decide (s = (a, b, c)) && le3 s (a, b, c)))) ∧ Gr w w' := by
  unfold maxLen at hlen
  obtain ⟨pl, cl, rfl⟩ := hv.form
  have hA := fun a b c x y z W => refAhead_any a b c x y z W
  have hm : Tryz.prog.follows .mixedOrders = true := by kernel_rfl
  have heq := fun a b c x y z W => run_eqT a b c x y z W
  have HL : Hid (Lst w (.slice pl ts.length cl) ts) := hv
  clear hv
  go_enter Tryz.func25, Tryz.ntmps25
  go_wp2_with fail
  go_loopw [5] (fun s5 wr => ∃ k : Nat, k ≤ ts.length ∧ s5 = .int .i64 k ∧ (ts.take k).any (fun s => !decide (s = (a, b, c)) && le3 s (a, b, c)) = false ∧ Gr (w.alloc (.cells #[.int .u64 a, .int .u64 b, .int .u64 c] 25)) wr) (fun s5 _ => ts.length - (RowKit.intOf s5).toNat)
  case atStart => exact ⟨0, Nat.zero_le _, rfl, rfl, Gr.refl _⟩
  case round =>
    obtain ⟨k, hk, rfl, hno, hgr⟩ := hrel
    have hgw : Gr w wr := ((Gr.refl w).alloc _).trans hgr
    by_cases hlt : k < ts.length
    · have hltz : (k : Int) < (ts.length : Int) := by omega
      obtain ⟨s, hs⟩ : ∃ s, ts[k]? = some s := ⟨ts[k], by simp⟩
      obtain ⟨b1, o1, c1, e1, z1, x1, x2, x3⟩ := (HL.out.below hgw.below).at hs
      simp only [Value.slice.injEq] at e1
      obtain ⟨rfl, _, rfl⟩ := e1
      have zb : w.heap.size < wr.heap.size := by have := hgr.size; simp at this; omega
      have y1 : wr.cell? ⟨w.heap.size, 0, none⟩ = some (.int .u64 a) := (hgr.cell (by simp)).trans (by go_simp)
      have y2 : wr.cell? ⟨w.heap.size, 1, none⟩ = some (.int .u64 b) := (hgr.cell (by simp)).trans (by go_simp)
      have y3 : wr.cell? ⟨w.heap.size, 2, none⟩ = some (.int .u64 c) := (hgr.cell (by simp)).trans (by go_simp)
      have HS : Hid (ts[k]? = some s) := hs
      have HN : Hid ((ts.take k).any (fun s => !decide (s = (a, b, c)) && le3 s (a, b, c)) = false) := hno
      clear hs hno
      by_cases hst : s = (a, b, c)
      · have hq : teq s.1 s.2.1 s.2.2 a b c = true := teq_true hst
        have HF : Hid ((!decide (s = (a, b, c)) && le3 s (a, b, c)) = false) := by unfold Hid; rw [decide_eq_true hst]; rfl
        clear hst
        go_wp2_with fail
        go_quiet (fail)
        go_wp2
        exact ⟨⟨k + 1, by omega, by go_num, take_any HS.out HN.out HF.out, hgr.drewN _⟩, by simp [RowKit.intOf]; omega⟩
      · have hq : teq s.1 s.2.1 s.2.2 a b c = false := teq_false hst
        have gx1 := cell_grown z1 x1
        have gx2 := cell_grown z1 x2
        have gx3 := cell_grown z1 x3
        have gy1 := cell_grown (a := ⟨w.heap.size, 0, none⟩) zb y1
        have gy2 := cell_grown (a := ⟨w.heap.size, 1, none⟩) zb y2
        have gy3 := cell_grown (a := ⟨w.heap.size, 2, none⟩) zb y3
        cases hle : tle s.1 s.2.1 s.2.2 a b c with
        | true =>
          have HF : Hid ((!decide (s = (a, b, c)) && le3 s (a, b, c)) = true) := by unfold Hid; rw [decide_eq_false hst, show le3 s (a, b, c) = true from hle]; rfl
          clear hst
          go_wp2_with fail
          go_quiet_grown (first | (go_at_call 32; refine Calls.grown_of (hA _ _ _ _ _ _ _)))
          have hgn : Gr wr (grow (wr.drewN nq) osq) := ⟨nq, osq, rfl⟩
          generalize grow (wr.drewN nq) osq = wn at hgn ⊢
          clear gx1 gx2 gx3 gy1 gy2 gy3
          try rw [hle]
          go_wp2
          go_ret
          exact ⟨ret_bool (by rw [any_here HS.out HF.out]; rfl), hgw.trans hgn⟩
        | false =>
          have HF : Hid ((!decide (s = (a, b, c)) && le3 s (a, b, c)) = false) := by unfold Hid; rw [show le3 s (a, b, c) = false from hle, Bool.and_false]
          clear hst
          go_wp2_with fail
          go_quiet_grown (first | (go_at_call 32; refine Calls.grown_of (hA _ _ _ _ _ _ _)))
          have hgn : Gr wr (grow (wr.drewN nq) osq) := ⟨nq, osq, rfl⟩
          generalize grow (wr.drewN nq) osq = wn at hgn ⊢
          clear gx1 gx2 gx3 gy1 gy2 gy3
          try rw [hle]
          go_wp2
          exact ⟨⟨k + 1, by omega, by go_num, take_any HS.out HN.out HF.out, hgr.trans hgn⟩, by simp [RowKit.intOf]; omega⟩
    · have hltz : ¬ (k : Int) < (ts.length : Int) := by omega
      have HE : Hid (ts.any (fun s => !decide (s = (a, b, c)) && le3 s (a, b, c)) = false) := any_end hlt hno
      clear hno
      go_wp2
      go_ret
      exact ⟨ret_bool (by rw [HE.out]; rfl), hgw⟩
end Go.Proofs.YtmhbpelbkeclpaaGreatDoor
