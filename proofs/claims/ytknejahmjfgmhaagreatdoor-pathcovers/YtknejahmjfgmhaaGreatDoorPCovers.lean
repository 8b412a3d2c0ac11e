import Derived.Test.YtknejahmjfgmhaaGreatDoorPSame
import Derived.Test.YtknejahmjfgmhaaGreatDoorPKnown
import Derived.Shelf.SlSortCmp.QuietGrown
namespace Go.Proofs.YtknejahmjfgmhaaGreatDoor
open Go.RowKit Go.Shelf Go.Lib
open Go.Sort hiding Below

theorem pw_off' {fs : List T3} (h : fs.Pairwise fun u v => lt3 u v ∧ le3 u v = false ∧ le3 v u = false) {i k : Nat} {s t : T3} (hs : fs[k]? = some s) (ht : fs[i]? = some t) (hne : k ≠ i) : le3 t s = false := by
  obtain ⟨hk, rfl⟩ := List.getElem?_eq_some_iff.1 hs
  obtain ⟨hi, rfl⟩ := List.getElem?_eq_some_iff.1 ht
  rcases Nat.lt_or_gt_of_ne hne with h1 | h1
  · exact (List.pairwise_iff_getElem.1 h k i hk hi h1).2.2
  · exact (List.pairwise_iff_getElem.1 h i k hi hk h1).2.1
theorem pw_cmp' {fs : List T3} (h : fs.Pairwise fun u v => lt3 u v ∧ le3 u v = false ∧ le3 v u = false) {i : Nat} {s t : T3} (hs : fs[i]? = some s) (ht : fs[i + 1]? = some t) : cmp3 s t < 0 := by
  obtain ⟨hk, rfl⟩ := List.getElem?_eq_some_iff.1 hs
  obtain ⟨hi, rfl⟩ := List.getElem?_eq_some_iff.1 ht
  exact (cmp3_neg _ _).2 (List.pairwise_iff_getElem.1 h i (i + 1) hk hi (by omega)).1
theorem take_found' {ts : List T3} {k : Nat} {s t : T3} (hs : ts[k]? = some s) : decide (t ∈ ts.take (k + 1)) = (decide (t ∈ ts.take k) || decide (t = s)) := by
  rw [List.take_add_one, hs, Bool.eq_iff_iff, Bool.or_eq_true, decide_eq_true_iff, decide_eq_true_iff, decide_eq_true_iff, List.mem_append, Option.toList_some, List.mem_singleton]
theorem take_open {fs : List T3} {k : Nat} {s t : T3} (hs : fs[k]? = some s) : topen (fs.take (k + 1)) t = (topen (fs.take k) t || le3 s t) := by
  unfold topen
  rw [List.take_add_one, hs, List.any_append]
  simp

theorem At3.grown {W : World} {b : Nat} {x y z : Value} (h : At3 W b x y z) : (∀ (n : Nat) (os : Array Obj), (grow (W.drewN n) os).cell? ⟨b, 0, none⟩ = some x) ∧ (∀ (n : Nat) (os : Array Obj), (grow (W.drewN n) os).cell? ⟨b, 1, none⟩ = some y) ∧ (∀ (n : Nat) (os : Array Obj), (grow (W.drewN n) os).cell? ⟨b, 2, none⟩ = some z) :=
  ⟨cell_grown (a := ⟨b, 0, none⟩) h.lt h.c0, cell_grown (a := ⟨b, 1, none⟩) h.lt h.c1, cell_grown (a := ⟨b, 2, none⟩) h.lt h.c2⟩

set_option maxHeartbeats 8000000 in
set_option maxRecDepth 100000 in
theorem covers_any (v : Value) (ts : List T3) (w : World) (he : Env w) (hv : Lst w v ts) (hbig : ts.length * 24 ≤ 140737488351232) :
    Calls Tryz.prog 7 #[v] w fun e w' => e = .returned (.bool true) ∧ Below w.heap.size w w' := by
  have hF := Least_any v ts w hv (by omega)
  obtain ⟨pl, cl, rfl⟩ := hv.form
  have heq := fun a b c x y z W => run_eqP a b c x y z W
  have hA := fun a b c x y z W => pAhead_any a b c x y z W
  have hC := fun a b c x y z W => pCompare_any a b c x y z W
  have hm : Tryz.prog.follows .mixedOrders = true := by kernel_rfl
  go_enter Tryz.func7, Tryz.ntmps7
  go_wp2_with fail
  refine hF.mono ?_
  rintro e w1 ⟨vf, rfl, ho1, B1⟩
  have hfl := tfront_len ts
  obtain ⟨fs, hfs⟩ : ∃ fs, fs = tfront ts := ⟨_, rfl⟩
  rw [← hfs] at ho1 hfl
  have HFS : Hid (fs = tfront ts) := hfs
  have HF : Hid (Lst w1 vf fs) := owns_lst ho1
  obtain ⟨pf, cf, rfl⟩ := HF.out.form
  have HL : Hid (Lst w1 (.slice pl ts.length cl) ts) := hv.below B1
  have hpw : Hid (fs.Pairwise fun u v => lt3 u v ∧ le3 u v = false ∧ le3 v u = false) := by rw [hfs]; exact tfront_pw ts
  have hin : Hid (∀ t ∈ fs, t ∈ ts) := by rw [hfs]; exact fun t ht => tfront_sub ht
  have hop : Hid (∀ t ∈ ts, topen fs t = true) := by rw [hfs]; exact fun t ht => tfront_open ht
  clear hF hfs ho1 hv
  go_wp2_with fail
  go_loopw [20] (fun s20 wr => ∃ k : Nat, k ≤ ts.length ∧ s20 = .int .i64 k ∧ Below w1.heap.size w1 wr) (fun s20 _ => ts.length - (RowKit.intOf s20).toNat)
  case atStart => exact ⟨0, Nat.zero_le _, rfl, Below.refl _ _⟩
  case round =>
    obtain ⟨k, hk, rfl, hbw⟩ := hrel
    have hsz := hbw.size
    by_cases hlt : k < ts.length
    · have hltz : (k : Int) < (ts.length : Int) := by omega
      obtain ⟨x, hx⟩ : ∃ x, ts[k]? = some x := ⟨ts[k], by simp⟩
      obtain ⟨b1, o1, c1, e1, z1, x1, x2, x3⟩ := (HL.out.below hbw).at2 hx
      simp only [Value.slice.injEq] at e1
      obtain ⟨rfl, _, rfl⟩ := e1
      have HO : Hid (topen fs x = true) := hop.out x (List.mem_of_getElem? hx)
      clear hx
      go_wp2_with fail
      go_loopw [6, 26] (fun s6 s26 wr2 => ∃ m : Nat, m ≤ fs.length ∧ s26 = .int .i64 m ∧ s6 = .bool (topen (fs.take m) x) ∧ At3 wr2 wr.heap.size (.int .u64 x.1) (.int .u64 x.2.1) (.int .u64 x.2.2) ∧ Below w1.heap.size w1 wr2) (fun _ s26 _ => fs.length - (RowKit.intOf s26).toNat)
      case atStart => exact ⟨0, Nat.zero_le _, rfl, rfl, At3.new _ _ _ _ _, hbw.alloc hsz _⟩
      case round =>
        clear hbw x1 x2 x3 z1
        obtain ⟨m, hm', rfl, rfl, LP, hbw⟩ := hrel
        have hsz2 := hbw.size
        by_cases hml : m < fs.length
        · have hmz : (m : Int) < (fs.length : Int) := by omega
          obtain ⟨q, hq⟩ : ∃ q, fs[m]? = some q := ⟨fs[m], by simp⟩
          obtain ⟨b2, o2, c2, e2, z2, y1, y2, y3⟩ := (HF.out.below hbw).at2 hq
          simp only [Value.slice.injEq] at e2
          obtain ⟨rfl, _, rfl⟩ := e2
          have HN : Hid (topen (fs.take (m + 1)) x = (topen (fs.take m) x || le3 q x)) := take_open hq
          clear hq
          obtain ⟨lp, p0, p1, p2⟩ := id LP
          generalize topen (fs.take m) x = cv at *
          cases cv with
          | true =>
            go_wp2_with fail
            refine ⟨⟨m + 1, by omega, by go_num, by rw [HN.out]; rfl, LP.alloc _, hbw.alloc hsz2 _⟩, by simp [RowKit.intOf]; omega⟩
          | false =>
            go_wp2_with fail
            refine (hA _ _ _ _ _ _ _).mono ?_
            rintro e w5 ⟨rfl, hg5⟩
            go_wp2
            refine ⟨⟨m + 1, by omega, by go_num, by rw [HN.out]; rfl, At3.below hg5.below (LP.alloc _), (hbw.alloc hsz2 _).trans (hg5.below.mono (hbw.alloc hsz2 _).size)⟩, by simp [RowKit.intOf]; omega⟩
        · have hmz : ¬ (m : Int) < (fs.length : Int) := by omega
          have hcv : topen (fs.take m) x = true := by rw [List.take_of_length_le (by omega)]; exact HO.out
          rw [hcv]
          clear hcv
          go_wp2
          refine ⟨⟨k + 1, by omega, by go_num, hbw⟩, by simp [RowKit.intOf]; omega⟩
    · have hltz : ¬ (k : Int) < (ts.length : Int) := by omega
      go_wp2_with fail
      go_loopw [42] (fun s42 wr => ∃ i : Nat, i ≤ fs.length ∧ s42 = .int .i64 i ∧ Below w1.heap.size w1 wr) (fun s42 _ => fs.length - (RowKit.intOf s42).toNat)
      case atStart => exact ⟨0, Nat.zero_le _, rfl, hbw⟩
      case round =>
        clear hbw hsz hk hlt hltz
        obtain ⟨i, hi, rfl, hbw⟩ := hrel
        generalize wr = W3 at *
        have hsz := hbw.size
        by_cases hlt : i < fs.length
        · have hltz : (i : Int) < (fs.length : Int) := by omega
          obtain ⟨t, ht⟩ : ∃ t, fs[i]? = some t := ⟨fs[i], by simp⟩
          obtain ⟨b1, o1, c1, e1, z1, x1, x2, x3⟩ := (HF.out.below hbw).at2 ht
          simp only [Value.slice.injEq] at e1
          obtain ⟨rfl, _, rfl⟩ := e1
          have HT : Hid (fs[i]? = some t) := ht
          have HM : Hid (t ∈ ts) := hin.out t (List.mem_of_getElem? ht)
          clear ht
          go_wp2_with fail
          go_loopw [11, 49] (fun s11 s49 wr2 => ∃ m : Nat, m ≤ ts.length ∧ s49 = .int .i64 m ∧ s11 = .bool (decide (t ∈ ts.take m)) ∧ At3 wr2 W3.heap.size (.int .u64 t.1) (.int .u64 t.2.1) (.int .u64 t.2.2) ∧ Below w1.heap.size w1 wr2) (fun _ s49 _ => ts.length - (RowKit.intOf s49).toNat)
          case atStart => exact ⟨0, Nat.zero_le _, rfl, by simp, At3.new _ _ _ _ _, hbw.alloc hsz _⟩
          case round =>
            clear hbw x1 x2 x3 z1
            obtain ⟨m, hm', rfl, rfl, LP, hbw⟩ := hrel
            have hsz2 := hbw.size
            by_cases hml : m < ts.length
            · have hmz : (m : Int) < (ts.length : Int) := by omega
              obtain ⟨q, hq⟩ : ∃ q, ts[m]? = some q := ⟨ts[m], by simp⟩
              obtain ⟨b2, o2, c2, e2, z2, y1, y2, y3⟩ := (HL.out.below hbw).at2 hq
              simp only [Value.slice.injEq] at e2
              obtain ⟨rfl, _, rfl⟩ := e2
              have HN : Hid (decide (t ∈ ts.take (m + 1)) = (decide (t ∈ ts.take m) || decide (t = q))) := take_found' hq
              clear hq
              obtain ⟨lp, p0, p1, p2⟩ := id LP
              generalize decide (t ∈ ts.take m) = fd at *
              cases fd with
              | true =>
                go_wp2
                refine ⟨⟨m + 1, by omega, by go_num, by rw [HN.out]; rfl, LP.alloc _, hbw.alloc hsz2 _⟩, by simp [RowKit.intOf]; omega⟩
              | false =>
                by_cases hst : t = q
                · have hq := teq_t hst
                  have HST : Hid (t = q) := hst
                  clear hst
                  go_wp2
                  refine ⟨⟨m + 1, by omega, by go_num, by rw [HN.out, decide_eq_true HST.out]; rfl, LP.alloc _, hbw.alloc hsz2 _⟩, by simp [RowKit.intOf]; omega⟩
                · have hq := teq_f hst
                  have HST : Hid (¬ t = q) := hst
                  clear hst
                  go_wp2
                  refine ⟨⟨m + 1, by omega, by go_num, by rw [HN.out, decide_eq_false HST.out]; rfl, LP.alloc _, hbw.alloc hsz2 _⟩, by simp [RowKit.intOf]; omega⟩
            · have hmz : ¬ (m : Int) < (ts.length : Int) := by omega
              have hfd : decide (t ∈ ts.take m) = true := by rw [List.take_of_length_le (by omega)]; exact decide_eq_true HM.out
              rw [hfd]
              clear hfd hml hm'
              obtain ⟨lp, p0, p1, p2⟩ := id LP
              rcases Nat.eq_zero_or_pos i with hi0 | hi0
              case' inl =>
                have hiz : decide ((0 : Int) < (i : Int)) = false := decide_eq_false (by omega)
                have hiN : decide (0 < i) = false := decide_eq_false (by omega)
                clear hi0
                go_wp2_with fail
                go_quiet (fail)
                have hgn : Gr wr (wr.drewN nq) := (Gr.refl _).drewN nq
                generalize wr.drewN nq = wn at hgn ⊢
              case' inr =>
                have hiz : (0 : Int) < (i : Int) := by omega
                have hiN : 0 < i := hi0
                obtain ⟨j, hj⟩ : ∃ j, i = j + 1 := ⟨i - 1, by omega⟩
                obtain ⟨s, hs⟩ : ∃ s, fs[j]? = some s := ⟨fs[j]'(by omega), by simp⟩
                have hcm : cmp3 s t < 0 := pw_cmp' hpw.out hs (by rw [← hj]; exact HT.out)
                have hsub : (i : Int) - 1 = (j : Int) := by omega
                unfold cmp3 at hcm
                have hcn : ¬ (0 : Int) ≤ tcmp s.1 s.2.1 s.2.2 t.1 t.2.1 t.2.2 := by omega
                have hjz : (j : Int) < (fs.length : Int) := by omega
                have hwj : IntKind.i64.wrap (j : Int) = (j : Int) := by rw [IntKind.wrap_i64]; omega
                obtain ⟨b3, o3, c3, e3, z3, y1, y2, y3⟩ := (HF.out.below hbw).at2 hs
                simp only [Value.slice.injEq] at e3
                obtain ⟨e4, _, rfl⟩ := e3
                simp only [Option.some.injEq, Addr.mk.injEq, and_true] at e4
                obtain ⟨rfl, rfl⟩ := e4
                have gx1 := cell_grown z3 y1
                have gx2 := cell_grown z3 y2
                have gx3 := cell_grown z3 y3
                obtain ⟨gt1, gt2, gt3⟩ := LP.grown
                clear hs y1 y2 y3 hcm hj
                go_wp2_with fail
                go_quiet_grown (first | (go_at_call 27; refine Calls.grown_of (hC _ _ _ _ _ _ _)))
                have hgn : Gr wr (grow (wr.drewN nq) osq) := ⟨nq, osq, rfl⟩
                generalize grow (wr.drewN nq) osq = wn at hgn ⊢
                clear gx1 gx2 gx3 gt1 gt2 gt3 hsub hjz hwj z3
              all_goals replace hbw := hbw.trans (hgn.below.mono hsz2)
              all_goals replace LP := At3.below hgn.below LP
              all_goals clear lp p0 p1 p2 hgn
              all_goals go_wp2_with fail
              all_goals
                go_loopw [78] (fun s78 wr3 => ∃ j : Nat, j ≤ fs.length ∧ s78 = .int .i64 j ∧ At3 wr3 W3.heap.size (.int .u64 t.1) (.int .u64 t.2.1) (.int .u64 t.2.2) ∧ Below w1.heap.size w1 wr3) (fun s78 _ => fs.length - (RowKit.intOf s78).toNat)
                case atStart => exact ⟨0, Nat.zero_le _, rfl, LP, hbw⟩
                case round =>
                  clear hbw LP hsz2
                  obtain ⟨j, hj, rfl, LP, hbw⟩ := hrel
                  have hsz2 := hbw.size
                  by_cases hjl : j < fs.length
                  · have hjz : (j : Int) < (fs.length : Int) := by omega
                    obtain ⟨s, hs⟩ : ∃ s, fs[j]? = some s := ⟨fs[j], by simp⟩
                    obtain ⟨b3, o3, c3, e3, z3, y1, y2, y3⟩ := (HF.out.below hbw).at2 hs
                    simp only [Value.slice.injEq] at e3
                    obtain ⟨e4, _, rfl⟩ := e3
                    simp only [Option.some.injEq, Addr.mk.injEq, and_true] at e4
                    obtain ⟨rfl, rfl⟩ := e4
                    obtain ⟨lp, p0, p1, p2⟩ := id LP
                    by_cases hji : j = i
                    · have hne : ((i : Int) != (j : Int)) = false := by rw [hji]; simp
                      clear hs hji
                      go_wp2
                      refine ⟨⟨j + 1, by omega, by go_num, LP.alloc _, hbw.alloc hsz2 _⟩, by simp [RowKit.intOf]; omega⟩
                    · have hne : ((i : Int) != (j : Int)) = true := by rw [bne_iff_ne]; omega
                      have hle := pw_off' hpw.out hs HT.out hji
                      unfold le3 at hle
                      clear hs hji
                      go_wp2_with fail
                      refine (hA _ _ _ _ _ _ _).mono ?_
                      rintro e w5 ⟨rfl, hg5⟩
                      rw [hle]
                      go_wp2
                      refine ⟨⟨j + 1, by omega, by go_num, At3.below hg5.below (LP.alloc _), (hbw.alloc hsz2 _).trans (hg5.below.mono (hbw.alloc hsz2 _).size)⟩, by simp [RowKit.intOf]; omega⟩
                  · have hjz : ¬ (j : Int) < (fs.length : Int) := by omega
                    go_wp2
                    refine ⟨⟨i + 1, by omega, by go_num, hbw⟩, by simp [RowKit.intOf]; omega⟩
        · have hltz : ¬ (i : Int) < (fs.length : Int) := by omega
          have BW : Below w.heap.size w W3 := B1.trans (hbw.mono B1.size)
          have HF3 := HF.out.below hbw
          have etf : tfront fs = fs := by rw [HFS.out]; exact tfront_twice ts
          clear hA hC hpw hin hop
          go_wp2_with fail
          refine (known_true _ (he.below BW)).mono ?_
          rintro e w4 ⟨rfl, hb4⟩
          replace HF3 := HF3.below hb4
          replace BW := BW.trans (hb4.mono BW.size)
          have hL4 := Least_any _ fs w4 HF3 (by omega)
          rw [etf] at hL4
          clear etf
          go_wp2_with fail
          refine hL4.mono ?_
          rintro e w5 ⟨v5, rfl, ho5, hb5⟩
          have HF5 := owns_lst ho5
          replace HF3 := HF3.below hb5
          replace BW := BW.trans (hb5.mono BW.size)
          have hS := same_any v5 _ fs fs w5 HF5 HF3 (by unfold maxLen; omega)
          rw [decide_eq_true rfl] at hS
          go_wp2_with fail
          refine hS.mono ?_
          rintro e w6 ⟨rfl, hg6⟩
          go_wp2
          go_ret
          exact ⟨rfl, BW.trans (hg6.below.mono BW.size)⟩
end Go.Proofs.YtknejahmjfgmhaaGreatDoor
