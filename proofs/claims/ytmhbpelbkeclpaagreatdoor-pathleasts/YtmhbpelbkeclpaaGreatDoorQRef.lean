import Derived.Test.YtmhbpelbkeclpaaGreatDoorQPure
import Derived.Test.YtmhbpelbkeclpaaGreatDoorPRef1
import Derived.Test.YtmhbpelbkeclpaaGreatDoorPLeast
import Derived.Test.YtmhbpelbkeclpaaGreatDoorPSame
import Derived.Deep.LoopGhost
import Derived.Deep.DeepCutAuto
namespace Go.Proofs.YtmhbpelbkeclpaaGreatDoor
open Go.RowKit Go.Shelf Go.Lib
open Go.Sort hiding Below

theorem any_succ {ts : List T3} {f : T3 → Bool} {k : Nat} {s : T3} (hs : ts[k]? = some s) : (ts.take (k + 1)).any f = ((ts.take k).any f || f s) := by
  rw [List.take_add_one, hs, List.any_append]
  simp
theorem hideA {p : Prop} (h : p) : Hid p := h
/-- Is it none of the list but itself that is at or ahead of it? -/
def fq (x s : T3) : Bool := !decide (s = x) && le3 s x
theorem lst_fq (ts : List T3) (x : T3) : (!ts.any (fq x)) = lst ts x := rfl
theorem not_any_succ {ts : List T3} {f : T3 → Bool} {k : Nat} {s : T3} (hs : ts[k]? = some s) {r b : Bool} (hb : b = !(ts.take k).any f) (hf : f s = r) : (b && !r) = !(ts.take (k + 1)).any f := by
  rw [any_succ hs, hf, hb, Bool.not_or]
theorem any_mem (out : List T3) (x : T3) : (out.any fun s => decide (s = x)) = decide (x ∈ out) := by
  rw [Bool.eq_iff_iff, List.any_eq_true, decide_eq_true_iff]
  constructor
  · rintro ⟨y, hy, he⟩; rw [decide_eq_true_iff] at he; subst he; exact hy
  · exact fun h => ⟨x, h, by simp⟩

theorem flat_set (xs : List T3) (i : Nat) (t : T3) : (((flat xs).set (i * 3) (.int .u64 t.1)).set (i * 3 + 1) (.int .u64 t.2.1)).set (i * 3 + 2) (.int .u64 t.2.2) = flat (xs.set i t) := by
  induction xs generalizing i with
  | nil => simp [flat]
  | cons x xs ih =>
    cases i with
    | zero => simp [flat, encT]
    | succ i =>
      have h := ih i
      rw [List.set_cons_succ, flat_cons, flat_cons, ← h]
      rw [show (i + 1) * 3 = i * 3 + 3 by omega]
      simp [encT]
/-- One of a row of one's own is stored. -/
theorem owns_tm {w : World} {e : TypeId} {B g N n cap i : Nat} {L : List T3} (x : T3) (h : w.ownsRow B e 3 (.slice (some ⟨g, 0, none⟩) N cap) n (flat L)) :
    (((w.setCell ⟨g, i * 3, none⟩ (.int .u64 x.1)).setCell ⟨g, i * 3 + 1, none⟩ (.int .u64 x.2.1)).setCell ⟨g, i * 3 + 2, none⟩ (.int .u64 x.2.2)).ownsRow B e 3 (.slice (some ⟨g, 0, none⟩) N cap) n (flat (L.set i x)) := by
  rw [← flat_set]
  have one : ∀ (w : World) (xs : List Value) (q : Nat) (u : Value), w.ownsRow B e 3 (.slice (some ⟨g, 0, none⟩) N cap) n xs → (w.setCell ⟨g, q, none⟩ u).ownsRow B e 3 (.slice (some ⟨g, 0, none⟩) N cap) n (xs.set q u) := by
    intro w xs q u h
    obtain ⟨h1, ⟨h0, _⟩ | ⟨g', cap', cur, hv, hg, hh, h2, h3, h4, h5⟩⟩ := h
    · cases h0
    · cases hv
      have e1 := setCell_eq_setRow w g q _ _ _ u hh
      refine ⟨by simpa using h1, Or.inr ⟨g, cap, _, rfl, hg, by rw [e1]; exact setRow_heap _ g _ _ _ _ hh, h2, h3, ?_, ?_⟩⟩
      · simp [h4]
      · rw [Array.toList_setIfInBounds, List.take_set, h5]
  exact one _ _ _ _ (one _ _ _ _ (one _ _ _ _ h))
theorem below_tm {B i g : Nat} {w0 w : World} (h : Below B w0 w) (hg : B ≤ g) (x : T3) : Below B w0 (((w.setCell ⟨g, i * 3, none⟩ (.int .u64 x.1)).setCell ⟨g, i * 3 + 1, none⟩ (.int .u64 x.2.1)).setCell ⟨g, i * 3 + 2, none⟩ (.int .u64 x.2.2)) :=
  ((h.setCell (p := ⟨g, i * 3, none⟩) hg _).setCell (p := ⟨g, i * 3 + 1, none⟩) hg _).setCell (p := ⟨g, i * 3 + 2, none⟩) hg _
theorem below_drew {B : Nat} {w0 w : World} (h : Below B w0 w) : Below B w0 w.drew := ⟨h.os, h.tape, h.output, h.size, h.block⟩

set_option maxHeartbeats 4000000 in
set_option maxRecDepth 100000 in
theorem prefLeast_any (v : Value) (ts : List T3) (w : World) (hv : Lst w v ts) (hbig : ts.length * 24 ≤ 140737488355328) :
    Calls Tryz.prog 16 #[v] w fun e w' => ∃ v', e = .returned v' ∧ w'.ownsRow w.heap.size 34 3 v' (tfront ts).length (flat (tfront ts)) ∧ Below w.heap.size w w' := by
  obtain ⟨pl, cl, rfl⟩ := hv.form
  have HL : Hid (Lst w (.slice pl ts.length cl) ts) := hv
  clear hv
  have hA := fun a b c x y z W => prefAhead_any a b c x y z W
  have hC := fun a b c x y z W => prefCompare_any a b c x y z W
  have heq := fun a b c x y z W => run_eqP a b c x y z W
  have hm : Tryz.prog.follows .mixedOrders = true := by kernel_rfl
  go_enter Tryz.func16, Tryz.ntmps16
  go_wp2_with fail
  go_loopw [3, 15] (fun s3 s15 wr => ∃ (k : Nat) (out : List T3), k ≤ ts.length ∧ s15 = .int .i64 k ∧ RL ts out k ∧ wr.ownsRow w.heap.size 34 3 s3 out.length (flat out) ∧ Below w.heap.size w wr) (fun _ s15 _ => ts.length - (RowKit.intOf s15).toNat)
  case atStart => exact ⟨0, [], Nat.zero_le _, rfl, RL.zero ts, ⟨rfl, Or.inl ⟨rfl, rfl⟩⟩, Below.refl _ _⟩
  case round =>
    obtain ⟨k, out, hk, rfl, hrl, hown, hbw⟩ := hrel
    have hol : out.length ≤ k := hrl.len
    have HR : Hid (RL ts out k) := hrl
    clear hrl
    have hsz := hbw.size
    by_cases hlt : k < ts.length
    · have hltz : (k : Int) < (ts.length : Int) := by omega
      obtain ⟨x, hx⟩ : ∃ x, ts[k]? = some x := ⟨ts[k], by simp⟩
      obtain ⟨b1, o1, c1, e1, z1, x1, x2, x3⟩ := (HL.out.below hbw).at2 hx
      simp only [Value.slice.injEq] at e1
      obtain ⟨rfl, _, rfl⟩ := e1
      have HX : Hid (ts[k]? = some x) := hx
      clear hx
      obtain ⟨bp, hbp⟩ : ∃ b, b = wr.heap.size := ⟨_, rfl⟩
      obtain ⟨W5, hW5⟩ : ∃ W, W = wr.alloc (.cells #[.int .u64 x.1, .int .u64 x.2.1, .int .u64 x.2.2] 34) := ⟨_, rfl⟩
      have g5 : Gr wr W5 := by rw [hW5]; exact (Gr.refl _).alloc _
      have hbk : W5.heap[bp]? = some (.cells #[.int .u64 x.1, .int .u64 x.2.1, .int .u64 x.2.2] 34 (0, 0)) := by rw [hW5, hbp]; exact heap_new' _ _
      have zp : bp < W5.heap.size := (Array.getElem?_eq_some_iff.1 hbk).1
      obtain ⟨p1, p2, p3⟩ : W5.cell? ⟨bp, 0, none⟩ = some (.int .u64 x.1) ∧ W5.cell? ⟨bp, 1, none⟩ = some (.int .u64 x.2.1) ∧ W5.cell? ⟨bp, 2, none⟩ = some (.int .u64 x.2.2) := by simp [World.cell?, hbk]
      go_wp2_with fail
      rw [← hW5, ← hbp]
      have hbw5 := hbw.trans (g5.below.mono hsz)
      have hown5 := owns_below2 hown g5.below
      have hsz5 := hbw5.size
      clear hW5 hbp hbk hown hbw g5 x1 x2 x3 z1
      generalize wr = wr0 at *
      go_loopw [6, 21] (fun s6 s21 wr => ∃ (j : Nat) (b : Bool), j ≤ ts.length ∧ s21 = .int .i64 j ∧ s6 = .bool b ∧ b = !(ts.take j).any (fq x) ∧ Gr W5 wr) (fun _ s21 _ => ts.length - (RowKit.intOf s21).toNat)
      case atStart => exact ⟨0, true, Nat.zero_le _, rfl, rfl, rfl, Gr.refl _⟩
      case round =>
        obtain ⟨j, b, hj, rfl, rfl, hb, hg⟩ := hrel
        have HB := hideA hb
        clear hb
        have q1 := (hg.cell (b := bp) (o := 0) zp).trans p1
        have q2 := (hg.cell (b := bp) (o := 1) zp).trans p2
        have q3 := (hg.cell (b := bp) (o := 2) zp).trans p3
        have zq := Nat.lt_of_lt_of_le zp hg.size
        by_cases hjl : j < ts.length
        · have hjz : (j : Int) < (ts.length : Int) := by omega
          obtain ⟨s, hs⟩ : ∃ s, ts[j]? = some s := ⟨ts[j], by simp⟩
          obtain ⟨b2, o2, c2, e2, z2, y1, y2, y3⟩ := (HL.out.below (hbw5.trans (hg.below.mono hsz5))).at2 hs
          simp only [Value.slice.injEq, Option.some.injEq, Addr.mk.injEq, and_true] at e2
          obtain ⟨⟨rfl, rfl⟩, _, rfl⟩ := e2
          have HS := hideA hs
          clear hs
          obtain ⟨W6, hW6⟩ : ∃ W, W = wr.alloc (.cells #[.int .u64 s.1, .int .u64 s.2.1, .int .u64 s.2.2] 34) := ⟨_, rfl⟩
          have g6 : Gr wr W6 := by rw [hW6]; exact (Gr.refl _).alloc _
          by_cases hsx : s = x
          · have hq := teq_t hsx
            have HF : Hid (fq x s = false) := by unfold Hid fq; rw [decide_eq_true hsx]; rfl
            clear hsx
            go_wp2_with fail
            rw [← hW6]
            exact ⟨⟨j + 1, b, by omega, by go_num, rfl, by rw [← not_any_succ HS.out HB.out HF.out]; simp, hg.trans g6⟩, by simp [RowKit.intOf]; omega⟩
          · have hq := teq_f hsx
            go_wp2_with fail
            rw [← hW6]
            refine (hA _ _ _ _ _ _ _).mono ?_
            rintro e w7 ⟨rfl, hg7⟩
            cases hle : tle s.1 s.2.1 s.2.2 x.1 x.2.1 x.2.2 with
            | true =>
              have HF : Hid (fq x s = true) := by unfold Hid fq; rw [decide_eq_false hsx, show le3 s x = true from hle]; rfl
              clear hsx
              go_wp2
              exact ⟨⟨j + 1, false, by omega, by go_num, rfl, by rw [← not_any_succ HS.out HB.out HF.out]; simp, (hg.trans g6).trans hg7⟩, by simp [RowKit.intOf]; omega⟩
            | false =>
              have HF : Hid (fq x s = false) := by unfold Hid fq; rw [show le3 s x = false from hle, Bool.and_false]
              clear hsx
              go_wp2
              exact ⟨⟨j + 1, b, by omega, by go_num, rfl, by rw [← not_any_succ HS.out HB.out HF.out]; simp, (hg.trans g6).trans hg7⟩, by simp [RowKit.intOf]; omega⟩
        · have hjz : ¬ (j : Int) < (ts.length : Int) := by omega
          have hbl : b = lst ts x := by rw [HB.out, List.take_of_length_le (by omega)]; rfl
          have HBl := hideA hbl
          have hbw6 := hbw5.trans (hg.below.mono hsz5)
          have hown6 := owns_below2 hown5 hg.below
          have hsz6 := hbw6.size
          have HO : Hid (Lst wr u3 out) := owns_lst hown6
          obtain ⟨po, co, rfl⟩ := HO.out.form
          clear HB hbl hg hbw5 hown5 hsz5 p1 p2 p3 zp
          generalize wr = W6 at *
          go_wp2_with fail
          go_loopw [6, 36] (fun s6 s36 wr => ∃ (i : Nat) (d : Bool), i ≤ out.length ∧ s36 = .int .i64 i ∧ s6 = .bool d ∧ d = (b && !(out.take i).any fun s => decide (s = x)) ∧ Gr W6 wr) (fun _ s36 _ => out.length - (RowKit.intOf s36).toNat)
          case atStart => exact ⟨0, b, Nat.zero_le _, rfl, rfl, by simp, Gr.refl _⟩
          case round =>
            obtain ⟨i, d, hi, rfl, rfl, hd, hg⟩ := hrel
            have HD := hideA hd
            clear hd
            have r1 := (hg.cell (b := bp) (o := 0) zq).trans q1
            have r2 := (hg.cell (b := bp) (o := 1) zq).trans q2
            have r3 := (hg.cell (b := bp) (o := 2) zq).trans q3
            have zr := Nat.lt_of_lt_of_le zq hg.size
            by_cases hil : i < out.length
            · have hiz : (i : Int) < (out.length : Int) := by omega
              obtain ⟨s, hs⟩ : ∃ s, out[i]? = some s := ⟨out[i], by simp⟩
              obtain ⟨b2, o2, c2, e2, z2, y1, y2, y3⟩ := (HO.out.below hg.below).at2 hs
              simp only [Value.slice.injEq] at e2
              obtain ⟨rfl, _, rfl⟩ := e2
              have HS := hideA hs
              clear hs
              obtain ⟨W7, hW7⟩ : ∃ W, W = wr.alloc (.cells #[.int .u64 s.1, .int .u64 s.2.1, .int .u64 s.2.2] 34) := ⟨_, rfl⟩
              have g7 : Gr wr W7 := by rw [hW7]; exact (Gr.refl _).alloc _
              by_cases hsx : s = x
              · have hq := teq_t hsx
                have HE : Hid (decide (s = x) = true) := decide_eq_true hsx
                clear hsx
                go_wp2
                rw [← hW7]
                exact ⟨⟨i + 1, false, by omega, by go_num, rfl, by rw [any_succ HS.out, HE.out]; simp, hg.trans g7⟩, by simp [RowKit.intOf]; omega⟩
              · have hq := teq_f hsx
                have HE : Hid (decide (s = x) = false) := decide_eq_false hsx
                clear hsx
                go_wp2
                rw [← hW7]
                exact ⟨⟨i + 1, d, by omega, by go_num, rfl, by rw [any_succ HS.out, HE.out, Bool.or_false]; exact HD.out, hg.trans g7⟩, by simp [RowKit.intOf]; omega⟩
            · have hiz : ¬ (i : Int) < (out.length : Int) := by omega
              have HDD : Hid (d = (lst ts x && !decide (x ∈ out))) := by
                unfold Hid
                rw [HD.out, List.take_of_length_le (by omega), any_mem, HBl.out]
              have hbw7 := hbw6.trans (hg.below.mono hsz6)
              have hown7 := owns_below2 hown6 hg.below
              have hsz7 := hbw7.size
              clear HD hbw6 hown6 hg q1 q2 q3 zq HO hsz6
              cases d with
              | true =>
                have HDt : Hid (lst ts x = true ∧ x ∉ out) := by
                  have := HDD.out.symm
                  unfold Hid
                  simpa using this
                go_wp2_with (at_builtin; refine wpApp1 Tryz.underlying33 infoP rfl _ _ rfl w.heap.size _ out.length (flat out) rfl hown7 x rfl (by omega) (by omega) ?_)
                intro vn wm hom hbm
                go_wp2
                exact ⟨⟨k + 1, out ++ [x], by omega, by go_num, HR.out.put HX.out HDt.out.2 HDt.out.1, by rw [List.length_append, flat_append]; simpa [flat] using hom, hbw7.trans hbm⟩, by simp [RowKit.intOf]; omega⟩
              | false =>
                have HDt : Hid (x ∈ out ∨ lst ts x = false) := by
                  have := HDD.out.symm
                  rw [Bool.and_eq_false_iff] at this
                  rcases this with h | h
                  · exact Or.inr h
                  · exact Or.inl (by simpa using h)
                go_wp2
                exact ⟨⟨k + 1, out, by omega, by go_num, HR.out.skip HX.out HDt.out, hown7, hbw7⟩, by simp [RowKit.intOf]; omega⟩
    · have hltz : ¬ (k : Int) < (ts.length : Int) := by omega
      have HK : Hid (¬ k < ts.length) := hlt
      have hn24 : out.length * 24 ≤ 140737488355328 := by omega
      have HX0 : Hid (Xs out out 0) := Xs.zero HR.out.nd
      clear hlt hol
      obtain ⟨pn, cn, hu⟩ := (owns_lst hown).form
      subst hu
      go_wp2_with fail
      go_loopw [52] (fun s52 wr => ∃ (i : Nat) (L : List T3), i ≤ out.length ∧ s52 = .int .i64 i ∧ Hid (Xs out L i) ∧ wr.ownsRow w.heap.size 34 3 (.slice pn out.length cn) out.length (flat L) ∧ Below w.heap.size w wr) (fun s52 _ => out.length - (RowKit.intOf s52).toNat)
      case atStart => exact ⟨0, out, Nat.zero_le _, rfl, HX0, hown, hbw⟩
      case round =>
        clear HX0 hown hbw hsz
        obtain ⟨i, L, hi, rfl, HXs, hown, hbw⟩ := hrel
        by_cases hil : i < out.length
        · have hiz : (i : Int) < (out.length : Int) := by omega
          go_wp2_with fail
          go_loopw [12] (fun s12 wr => ∃ (j : Nat) (L : List T3), i < j ∧ j ≤ out.length ∧ s12 = .int .i64 j ∧ Hid (Xj out L i j) ∧ wr.ownsRow w.heap.size 34 3 (.slice pn out.length cn) out.length (flat L) ∧ Below w.heap.size w wr) (fun s12 _ => out.length - (RowKit.intOf s12).toNat)
          case atStart => exact ⟨i + 1, L, by omega, by omega, by go_num, HXs.out.start, hown, hbw⟩
          case round =>
            clear HXs hown hbw
            obtain ⟨j, L, hij, hj, rfl, HXj, hown, hbw⟩ := hrel
            have hsz := hbw.size
            by_cases hjl : j < out.length
            · have hjz : (j : Int) < (out.length : Int) := by omega
              have hlen := HXj.out.len
              obtain ⟨x, hx⟩ : ∃ x, L[i]? = some x := ⟨L[i]'(by omega), by simp⟩
              obtain ⟨y, hy⟩ : ∃ y, L[j]? = some y := ⟨L[j]'(by omega), by simp⟩
              obtain ⟨g, cap, hpn, hBg, hg⟩ := hown.form (by omega)
              simp only [Value.slice.injEq] at hpn
              obtain ⟨rfl, -, rfl⟩ := hpn
              have x1 : wr.cell? ⟨g, i * 3, none⟩ = some (.int .u64 x.1) := by rw [hown.cellAt _ (by omega)]; exact flat_get _ i 0 x hx (by omega)
              have x2 : wr.cell? ⟨g, i * 3 + 1, none⟩ = some (.int .u64 x.2.1) := by rw [hown.cellAt _ (by omega)]; exact flat_get _ i 1 x hx (by omega)
              have x3 : wr.cell? ⟨g, i * 3 + 2, none⟩ = some (.int .u64 x.2.2) := by rw [hown.cellAt _ (by omega)]; exact flat_get _ i 2 x hx (by omega)
              have y1 : wr.cell? ⟨g, j * 3, none⟩ = some (.int .u64 y.1) := by rw [hown.cellAt _ (by omega)]; exact flat_get _ j 0 y hy (by omega)
              have y2 : wr.cell? ⟨g, j * 3 + 1, none⟩ = some (.int .u64 y.2.1) := by rw [hown.cellAt _ (by omega)]; exact flat_get _ j 1 y hy (by omega)
              have y3 : wr.cell? ⟨g, j * 3 + 2, none⟩ = some (.int .u64 y.2.2) := by rw [hown.cellAt _ (by omega)]; exact flat_get _ j 2 y hy (by omega)
              have HXY : Hid (L[i]? = some x ∧ L[j]? = some y) := ⟨hx, hy⟩
              have HLen : Hid (L.length = out.length) := hlen
              have gx1 := cell_grown hg x1
              have gx2 := cell_grown hg x2
              have gx3 := cell_grown hg x3
              have gy1 := cell_grown hg y1
              have gy2 := cell_grown hg y2
              have gy3 := cell_grown hg y3
              have HW : Hid (wr.ownsRow w.heap.size 34 3 (.slice (some ⟨g, 0, none⟩) out.length cn) out.length (flat L) ∧ Below w.heap.size w wr) := ⟨hown, hbw⟩
              clear hx hy hlen hown hbw
              by_cases hc : tcmp y.1 y.2.1 y.2.2 x.1 x.2.1 x.2.2 < 0
              · go_wp2_with fail
                go_quiet_grown (first | (go_at_call 43; refine Calls.grown_of (hC _ _ _ _ _ _ _)))
                have hgn : Gr wr (grow (wr.drewN nq) osq) := ⟨nq, osq, rfl⟩
                generalize grow (wr.drewN nq) osq = wn at hgn ⊢
                replace x1 := (hgn.cell (b := g) (o := i * 3) hg).trans x1
                replace x2 := (hgn.cell (b := g) (o := i * 3 + 1) hg).trans x2
                replace x3 := (hgn.cell (b := g) (o := i * 3 + 2) hg).trans x3
                replace y1 := (hgn.cell (b := g) (o := j * 3) hg).trans y1
                replace y2 := (hgn.cell (b := g) (o := j * 3 + 1) hg).trans y2
                replace y3 := (hgn.cell (b := g) (o := j * 3 + 2) hg).trans y3
                have hon := owns_below2 HW.out.1 hgn.below
                have f1 := hon.frozenAt (i * 3)
                have f2 := hon.frozenAt (i * 3 + 1)
                have f3 := hon.frozenAt (i * 3 + 2)
                have f4 := hon.frozenAt (j * 3)
                have f5 := hon.frozenAt (j * 3 + 1)
                have f6 := hon.frozenAt (j * 3 + 2)
                have HC : Hid (lt3 y x) := (cmp3_neg _ _).1 hc
                have HON := hideA hon
                have HBn := hideA (HW.out.2.trans (hgn.below.mono hsz))
                clear gx1 gx2 gx3 gy1 gy2 gy3 hc hon HW
                go_wp2_with fail
                have d1 : i * 3 ≠ j * 3 := by omega
                have d2 : i * 3 ≠ j * 3 + 1 := by omega
                have d3 : i * 3 ≠ j * 3 + 2 := by omega
                have d4 : i * 3 + 1 ≠ j * 3 := by omega
                have d5 : i * 3 + 1 ≠ j * 3 + 1 := by omega
                have d6 : i * 3 + 1 ≠ j * 3 + 2 := by omega
                have d7 : i * 3 + 2 ≠ j * 3 := by omega
                have d8 : i * 3 + 2 ≠ j * 3 + 1 := by omega
                have d9 : i * 3 + 2 ≠ j * 3 + 2 := by omega
                go_region
                clear x1 x2 x3 y1 y2 y3 f1 f2 f3 f4 f5 f6 d1 d2 d3 d4 d5 d6 d7 d8 d9
                have HF : Hid (∀ W, W = _ → W.ownsRow w.heap.size 34 3 (.slice (some ⟨g, 0, none⟩) out.length cn) out.length (flat ((L.set i y).set j x)) ∧ Below w.heap.size w W) := fun W hW => by
                  rw [hW]
                  exact ⟨owns_below2 (owns_tm (i := j) x (owns_tm (i := i) y HON.out)) (Gr.refl _).drew.below, below_drew (below_tm (i := j) (below_tm (i := i) HBn.out hBg y) hBg x)⟩
                go_wp2
                exact ⟨⟨j + 1, (L.set i y).set j x, by omega, by omega, by go_num, HXj.out.swap hij HXY.out.1 HXY.out.2 HC.out, HF.out _ rfl⟩, by simp [RowKit.intOf]; omega⟩
              · have HC : Hid (¬ lt3 y x) := fun h => hc ((cmp3_neg _ _).2 h)
                go_wp2_with fail
                go_quiet_grown (first | (go_at_call 43; refine Calls.grown_of (hC _ _ _ _ _ _ _)))
                have hgn : Gr wr (grow (wr.drewN nq) osq) := ⟨nq, osq, rfl⟩
                generalize grow (wr.drewN nq) osq = wn at hgn ⊢
                have hon := owns_below2 HW.out.1 hgn.below
                have hbn := HW.out.2.trans (hgn.below.mono hsz)
                clear gx1 gx2 gx3 gy1 gy2 gy3
                go_wp2
                exact ⟨⟨j + 1, L, by omega, by omega, by go_num, HXj.out.stay hij HXY.out.1 HXY.out.2 HC.out, hon, hbn⟩, by simp [RowKit.intOf]; omega⟩
            · have hjz : ¬ (j : Int) < (out.length : Int) := by omega
              have HN : Hid (Xs out L (i + 1)) := HXj.out.next hjl
              go_wp2
              exact ⟨⟨i + 1, L, by omega, by go_num, HN, hown, hbw⟩, by simp [RowKit.intOf]; omega⟩
        · have hiz : ¬ (i : Int) < (out.length : Int) := by omega
          have HD : Hid (L = tfront ts) := HXs.out.done hil HR.out HK.out
          have HLen : Hid (L.length = out.length) := HXs.out.len
          go_wp2
          go_ret
          refine ⟨_, rfl, ?_, hbw⟩
          rw [← HD.out, HLen.out]
          exact hown
end Go.Proofs.YtmhbpelbkeclpaaGreatDoor
