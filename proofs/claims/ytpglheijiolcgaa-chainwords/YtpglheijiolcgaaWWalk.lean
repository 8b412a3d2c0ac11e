import Derived.Test.YtpglheijiolcgaaWPure
import Derived.Test.YtpglheijiolcgaaCKn2
import Derived.Laws.Cover1
namespace Go.Proofs.Ytpglheijiolcgaa.Wd
open Go.RowKit Go.Sort Classical
attribute [local go_sem ↓] Go.wp_at_zero Go.wp_at_succ

theorem new_at (fb ff : Nat) (w : World) : Calls Try.prog 22 #[fv fb, fv ff] w fun e w' => ∃ cb, e = .returned (.pointer (some ⟨cb, 0, none⟩)) ∧ w.heap.size ≤ cb ∧ Ch w' cb fb ff (.slice none 0 0) [] ∧ Gr w w' := by
  refine (new_any fb ff w).mono ?_
  rintro e w1 ⟨rfl, hc, hg⟩
  exact ⟨_, rfl, Nat.le_refl _, hc, hg⟩
theorem beq_t {a b : ByteArray} (h : a = b) : (a.toList == b.toList) = true := by rw [h]; simp
theorem beq_f {a b : ByteArray} (h : ¬ a = b) : (a.toList == b.toList) = false := by rw [beq_of]; simp [h]
theorem take_all {l : List ByteArray} {k : Nat} {s : ByteArray} {p : ByteArray → Bool} (hs : l[k]? = some s) : (l.take (k + 1)).all p = ((l.take k).all p && p s) := by
  rw [List.take_add_one, hs, List.all_append]
  simp
theorem take_in {l : List ByteArray} {k : Nat} {s t : ByteArray} (hs : l[k]? = some s) : decide (t ∈ l.take (k + 1)) = (decide (t ∈ l.take k) || decide (s = t)) := by
  rw [List.take_add_one, hs, Bool.eq_iff_iff, Bool.or_eq_true, decide_eq_true_iff, decide_eq_true_iff, decide_eq_true_iff, List.mem_append, Option.toList_some, List.mem_singleton, eq_comm (a := t)]

set_option maxHeartbeats 2000000 in
set_option maxRecDepth 100000 in
theorem chainWords_any (u : Value) (l : List ByteArray) (w : World) (hu : Lst w u l) (hbig : l.length * 16 ≤ 140737488351232) (hsz : ∀ x ∈ l, x.size ≤ 140737488351232) :
    Calls Try.prog 6 #[u] w fun e w' => e = .returned (.bool true) ∧ Below w.heap.size w w' := by
  have hmx : Try.prog.follows .mixedOrders = true := by kernel_rfl
  have HU : Hid (Lst w u l) := hu
  have HSZ : Hid (∀ x ∈ l, x.size ≤ 140737488351232) := hsz
  obtain ⟨pu, cu, rfl⟩ := hu.form
  have hm := new_at 23 24 w
  clear hu hsz
  go_enter Try.func6, Try.ntmps6
  go_wp2_with fail
  refine hm.mono ?_
  rintro e w1 ⟨cb, rfl, hcb, hc, hg⟩
  have B1 : Hid (Below w.heap.size w w1) := hg.below
  have C1 : Hid (Ch w1 cb 23 24 (.slice none 0 0) []) := hc
  clear hm hc hg
  go_wp2_with fail
  refine (known_any _).mono ?_
  rintro e w2 ⟨rfl, hb2⟩
  have B2 : Hid (Below w.heap.size w w2) := B1.out.trans (hb2.mono B1.out.size)
  have C2 : Hid (Ch w2 cb 23 24 (.slice none 0 0) []) := C1.out.below hb2
  clear hb2 B1 C1
  go_wp2_with fail
  go_loopw [4] (fun s4 wr => ∃ (k : Nat) (vr : Value), k ≤ l.length ∧ s4 = .int .i64 k ∧ Hid (Ch wr cb 23 24 vr (cjoin wbel wfst [] (l.take k)) ∧ Below w.heap.size w wr ∧ ∀ g, vr.ownBlock = some g → w.heap.size ≤ g)) (fun s4 _ => l.length - (RowKit.intOf s4).toNat)
  case atStart => exact ⟨0, .slice none 0 0, Nat.zero_le _, rfl, C2.out, B2.out, fun g h => by simp [Value.ownBlock] at h⟩
  case round =>
    obtain ⟨k, vr, hk, rfl, HI⟩ := hrel
    clear B2 C2
    by_cases hlt : k < l.length
    · have hltz : (k : Int) < (l.length : Int) := by omega
      obtain ⟨hch, hbw, hrow⟩ := HI.out
      obtain ⟨y, hy⟩ : ∃ y, l[k]? = some y := ⟨l[k], by simp⟩
      obtain ⟨b1, o1, c1, e1, z1, x1⟩ := (HU.out.below hbw).at2 hy
      simp only [Value.slice.injEq] at e1
      obtain ⟨rfl, -, rfl⟩ := e1
      have hjl := cjoin_length (bel := wbel) (fst := wfst) [] (l.take k)
      have htl : (l.take k).length = k := by simp; omega
      have HJ : Hid (cjoin wbel wfst [] (l.take (k + 1)) = cins wbel wfst (cjoin wbel wfst [] (l.take k)) y) := cjoin_take_succ hy
      rw [htl, List.length_nil, Nat.zero_add] at hjl
      clear hy
      generalize cjoin wbel wfst [] (l.take k) = f at *
      have hin := insert_any (bel := wbel) (fst := wfst) y wr hch (by omega) ahead_ok before_ok
      have HBW : Hid (Below w.heap.size w wr) := hbw
      have HRO : Hid (∀ g, vr.ownBlock = some g → w.heap.size ≤ g) := hrow
      clear hch hbw hrow HI htl
      go_wp2_with fail
      refine hin.mono ?_
      rintro e w5 ⟨v5, rfl, hch5, ht5⟩
      have B5 := ht5.below (B := w.heap.size) HBW.out.size hcb HRO.out
      go_wp2
      exact ⟨⟨k + 1, v5, by omega, by go_num, by rw [HJ.out]; exact hch5, HBW.out.trans B5.1, B5.2⟩, by simp [RowKit.intOf]; omega⟩
    · have hltz : ¬ (k : Int) < (l.length : Int) := by omega
      rw [List.take_of_length_le (by omega)] at HI
      obtain ⟨hch, hbw, -⟩ := HI.out
      have hFl := cjoin_length (bel := wbel) (fst := wfst) [] l
      rw [List.length_nil, Nat.zero_add] at hFl
      have HG : Hid (Good wbel wfst (cjoin wbel wfst [] l)) := good_join ordsW good_nil l
      have HM : Hid (∀ t ∈ cjoin wbel wfst [] l, t ∈ l) := fun t ht => by
        rcases mem_join ht with h | h
        · exact h
        · simp at h
      have HLS : Hid (∀ x ∈ l, decide (x ∈ cjoin wbel wfst [] l) = wleast l x) := fun x hx => wleast_iff hx
      have HCV : Hid (∀ x ∈ l, ∀ s, ccov wbel (cjoin wbel wfst [] l) (x ++ s) = true) := fun x hx s => cov_more hx s
      obtain ⟨F, hF⟩ : ∃ F, F = cjoin wbel wfst [] l := ⟨_, rfl⟩
      rw [← hF] at hch hFl HG HM HLS HCV
      have hli := list_any wr hch (by omega)
      clear hF HI hlt
      go_wp2_with fail
      refine hli.mono ?_
      rintro e w3 ⟨v3, rfl, ho3, hb3⟩
      have LF : Hid (Lst w3 v3 F) := owns_lst ho3
      obtain ⟨pg, cg, rfl⟩ := LF.out.form
      have B3 : Hid (Below w.heap.size w w3) := hbw.trans (hb3.mono hbw.size)
      have LL : Hid (Lst w3 (.slice pu l.length cu) l) := HU.out.below B3.out
      have C3 : Hid (Ch w3 cb 23 24 vr F) := hch.below hb3
      have HND : Hid (F.Nodup) := good_nodup HG.out
      clear hli ho3 hb3 hbw hch HU hcb hk hltz
      go_wp2_with fail
      go_loopw [6] (fun s6 wr => ∃ i : Nat, i ≤ F.length ∧ s6 = .int .i64 i ∧ Below w3.heap.size w3 wr) (fun s6 _ => F.length - (RowKit.intOf s6).toNat)
      case atStart => exact ⟨0, Nat.zero_le _, rfl, Below.refl _ _⟩
      case round =>
        obtain ⟨i, hi, rfl, hbw⟩ := hrel
        have hsz := hbw.size
        by_cases hlt : i < F.length
        · have hltz : (i : Int) < (F.length : Int) := by omega
          obtain ⟨t, ht⟩ : ∃ t, F[i]? = some t := ⟨F[i], by simp⟩
          obtain ⟨b1, o1, c1, e1, z1, t1⟩ := (LF.out.below hbw).at2 ht
          simp only [Value.slice.injEq] at e1
          obtain ⟨rfl, -, rfl⟩ := e1
          rcases Nat.eq_zero_or_pos i with hi0 | hi0
          · have hiz : decide ((0 : Int) < (i : Int)) = false := decide_eq_false (by omega)
            have hiN : decide (0 < i) = false := decide_eq_false (by omega)
            clear hi0 ht
            go_wp2_with fail
            go_quiet (fail)
            go_wp2
            exact ⟨⟨i + 1, by omega, by go_num, hbw.trans (((Gr.refl wr).drewN _).below.mono hsz)⟩, by simp [RowKit.intOf]; omega⟩
          · have hiz : (0 : Int) < (i : Int) := by omega
            have hiN : 0 < i := hi0
            obtain ⟨p, hp⟩ : ∃ p, i = p + 1 := ⟨i - 1, by omega⟩
            obtain ⟨q, hq⟩ : ∃ q, F[p]? = some q := ⟨F[p]'(by omega), by simp⟩
            have hfs : Op.bytesLess q.toList t.toList = true := good_next HG.out hq (by rw [← hp]; exact ht)
            have hsub : (i : Int) - 1 = (p : Int) := by omega
            have hpz : (p : Int) < (F.length : Int) := by omega
            have hwp : IntKind.i64.wrap (p : Int) = (p : Int) := by rw [IntKind.wrap_i64]; omega
            obtain ⟨b2, o2, c2, e2, z2, y1⟩ := (LF.out.below hbw).at2 hq
            simp only [Value.slice.injEq, Option.some.injEq, Addr.mk.injEq, and_true] at e2
            obtain ⟨⟨rfl, rfl⟩, -, rfl⟩ := e2
            clear hq ht hp
            go_wp2_with fail
            go_quiet (fail)
            go_wp2
            exact ⟨⟨i + 1, by omega, by go_num, hbw.trans (((Gr.refl wr).drewN _).below.mono hsz)⟩, by simp [RowKit.intOf]; omega⟩
        · have hltz : ¬ (i : Int) < (F.length : Int) := by omega
          clear hi hlt
          go_wp2_with fail
          go_loopw [7, 8] (fun s7 s8 wr => ∃ i : Nat, i ≤ l.length ∧ s8 = .int .i64 i ∧ s7 = .int .i64 (upto F l i : Nat) ∧ Below w3.heap.size w3 wr) (fun _ s8 _ => l.length - (RowKit.intOf s8).toNat)
          case atStart => exact ⟨0, Nat.zero_le _, rfl, by rw [upto_zero]; rfl, hbw⟩
          case round =>
            clear hbw hsz hltz
            obtain ⟨i, hi, rfl, rfl, hbw⟩ := hrel
            have hsz := hbw.size
            by_cases hlt : i < l.length
            · have hltz : (i : Int) < (l.length : Int) := by omega
              obtain ⟨x, hx⟩ : ∃ x, l[i]? = some x := ⟨l[i], by simp⟩
              have HUP : Hid (upto F l (i + 1) = upto F l i + (if x ∈ F ∧ ¬ x ∈ l.take i then 1 else 0)) := upto_succ HND.out hx
              have HXM : Hid (x ∈ l) := List.mem_of_getElem? hx
              obtain ⟨b1, o1, c1, e1, z1, -⟩ := LL.out.at2 hx
              simp only [Value.slice.injEq] at e1
              obtain ⟨rfl, -, rfl⟩ := e1
              have AT : Hid (∀ W, Below w3.heap.size w3 W → b1 < W.heap.size ∧ W.cell? ⟨b1, o1 + i, none⟩ = some (.string x)) := fun W hW => by
                obtain ⟨b2, o2, c2, e2, z2, x1⟩ := (LL.out.below hW).at2 hx
                simp only [Value.slice.injEq, Option.some.injEq, Addr.mk.injEq, and_true] at e2
                obtain ⟨⟨rfl, rfl⟩, -⟩ := e2
                exact ⟨z2, x1⟩
              clear hx z1
              go_wp2_with fail
              go_loopw [9, 10, 11] (fun s9 s10 s11 wr => ∃ m : Nat, m ≤ l.length ∧ s11 = .int .i64 m ∧ s9 = .bool ((l.take m).all (fun y => decide (y = x) || !wbel y x)) ∧ s10 = .bool (decide (x ∈ l.take (min m i))) ∧ Below w3.heap.size w3 wr) (fun _ _ s11 _ => l.length - (RowKit.intOf s11).toNat)
              case atStart => exact ⟨0, Nat.zero_le _, rfl, by simp, by simp, hbw⟩
              case round =>
                clear hbw hsz
                obtain ⟨m, hm, rfl, rfl, rfl, hbw⟩ := hrel
                have hsz := hbw.size
                by_cases hml : m < l.length
                · have hmz : (m : Int) < (l.length : Int) := by omega
                  obtain ⟨y, hy⟩ : ∃ y, l[m]? = some y := ⟨l[m], by simp⟩
                  have ATY : Hid (∀ W, Below w3.heap.size w3 W → W.cell? ⟨b1, o1 + m, none⟩ = some (.string y)) := fun W hW => by
                    obtain ⟨b2, o2, c2, e2, z2, x1⟩ := (LL.out.below hW).at2 hy
                    simp only [Value.slice.injEq, Option.some.injEq, Addr.mk.injEq, and_true] at e2
                    obtain ⟨⟨rfl, rfl⟩, -⟩ := e2
                    exact x1
                  have HN1 : Hid ((l.take (m + 1)).all (fun y => decide (y = x) || !wbel y x) = ((l.take m).all (fun y => decide (y = x) || !wbel y x) && (decide (y = x) || !wbel y x))) := take_all hy
                  have HN2 : Hid (decide (x ∈ l.take (min (m + 1) i)) = (decide (x ∈ l.take (min m i)) || (decide (m < i) && decide (y = x)))) := by
                    show _ = _
                    by_cases hmi : m < i
                    · rw [Nat.min_eq_left hmi, Nat.min_eq_left (Nat.le_of_lt hmi), take_in hy, decide_eq_true hmi]; simp
                    · rw [Nat.min_eq_right (by omega), Nat.min_eq_right (by omega), decide_eq_false hmi]; simp
                  have hah := fun W => ahead_ok.calls y x W
                  clear hy
                  generalize (l.take m).all (fun y => decide (y = x) || !wbel y x) = lb at *
                  generalize decide (x ∈ l.take (min m i)) = ab at *
                  generalize wbel y x = wb at *
                  obtain ⟨z1, x1⟩ := AT.out wr hbw
                  have y1 := ATY.out wr hbw
                  have iz : (i : Int) < (l.length : Int) := by omega
                  go_upto_region 23 with fail
                  go_cut [9] from 67 to 90 (fun s9 w' => s9 = .bool (lb && (decide (y = x) || !wb)) ∧ Gr wr w')
                  case first =>
                    cases lb with
                    | false =>
                      go_quiet (fail)
                      go_wp2_with fail
                      go_meet
                      exact ⟨rfl, (Gr.refl _).drewN _⟩
                    | true =>
                      by_cases hyx : y = x
                      · have hq := beq_t hyx
                        have HYX : Hid (y = x) := hyx
                        clear hyx
                        go_quiet (fail)
                        go_wp2_with fail
                        go_meet
                        exact ⟨by rw [decide_eq_true HYX.out]; rfl, (Gr.refl _).drewN _⟩
                      · have hq := beq_f hyx
                        have HYX : Hid (¬ y = x) := hyx
                        have g1 := cell_grown (a := ⟨b1, o1 + i, none⟩) z1 x1
                        have g2 := cell_grown (a := ⟨b1, o1 + m, none⟩) z1 y1
                        clear hyx x1 y1
                        go_quiet_grown (first | (go_at_call 23; refine Calls.grown_of (v := .bool wb) (hah _)))
                        go_wp2_with fail
                        go_meet
                        exact ⟨by rw [decide_eq_false HYX.out]; cases wb <;> rfl, ((Gr.refl _).drewN _).grown _⟩
                  case rest =>
                    obtain ⟨rfl, hgc⟩ := hcut
                    have hbc : Below w3.heap.size w3 wc := hbw.trans (hgc.below.mono hsz)
                    have hsc := hbc.size
                    clear z1 x1 y1 hgc hbw
                    obtain ⟨z1, x1⟩ := AT.out wc hbc
                    have y1 := ATY.out wc hbc
                    cases ab with
                    | true =>
                      go_wp2_with fail
                      go_quiet (fail)
                      go_wp2
                      exact ⟨⟨m + 1, by omega, by go_num, by rw [HN1.out], by rw [HN2.out]; rfl, hbc.trans (((Gr.refl _).drewN _).below.mono hsc)⟩, by simp [RowKit.intOf]; omega⟩
                    | false =>
                      by_cases hmi : m < i
                      · have hmiz : (m : Int) < (i : Int) := by omega
                        by_cases hyx : y = x
                        · have hq := beq_t hyx
                          have HYX : Hid (y = x) := hyx
                          clear hyx
                          go_wp2_with fail
                          go_quiet (fail)
                          go_wp2
                          exact ⟨⟨m + 1, by omega, by go_num, by rw [HN1.out], by rw [HN2.out, decide_eq_true hmi, decide_eq_true HYX.out]; rfl, hbc.trans (((Gr.refl _).drewN _).below.mono hsc)⟩, by simp [RowKit.intOf]; omega⟩
                        · have hq := beq_f hyx
                          have HYX : Hid (¬ y = x) := hyx
                          clear hyx
                          go_wp2_with fail
                          go_quiet (fail)
                          go_wp2
                          exact ⟨⟨m + 1, by omega, by go_num, by rw [HN1.out], by rw [HN2.out, decide_eq_true hmi, decide_eq_false HYX.out]; rfl, hbc.trans (((Gr.refl _).drewN _).below.mono hsc)⟩, by simp [RowKit.intOf]; omega⟩
                      · have hmiz : ¬ (m : Int) < (i : Int) := by omega
                        go_wp2_with fail
                        go_quiet (fail)
                        go_wp2
                        exact ⟨⟨m + 1, by omega, by go_num, by rw [HN1.out], by rw [HN2.out, decide_eq_false hmi]; rfl, hbc.trans (((Gr.refl _).drewN _).below.mono hsc)⟩, by simp [RowKit.intOf]; omega⟩
                · have hmz : ¬ (m : Int) < (l.length : Int) := by omega
                  have hLB : (l.take m).all (fun y => decide (y = x) || !wbel y x) = wleast l x := by rw [List.take_of_length_le (by omega)]; rfl
                  have hAB : decide (x ∈ l.take (min m i)) = decide (x ∈ l.take i) := by rw [Nat.min_eq_right (by omega)]
                  rw [hLB, hAB]
                  have HLB : Hid (decide (x ∈ F) = wleast l x) := HLS.out x HXM.out
                  have HAB : Hid (decide (x ∈ l.take i) = decide (x ∈ l.take i)) := rfl
                  generalize hab : decide (x ∈ l.take i) = AB at *
                  have HAB' : Hid (decide (x ∈ l.take i) = AB) := hab
                  generalize wleast l x = LB at *
                  clear hLB hAB hab HAB hml hm
                  go_wp2_with fail
                  go_loopw [12, 13] (fun s12 s13 wr => ∃ m : Nat, m ≤ F.length ∧ s13 = .int .i64 m ∧ s12 = .bool (decide (x ∈ F.take m)) ∧ Below w3.heap.size w3 wr) (fun _ s13 _ => F.length - (RowKit.intOf s13).toNat)
                  case atStart => exact ⟨0, Nat.zero_le _, rfl, by simp, hbw⟩
                  case round =>
                    clear hbw hsz hmz
                    obtain ⟨m, hm, rfl, rfl, hbw⟩ := hrel
                    have hsz := hbw.size
                    obtain ⟨z1, x1⟩ := AT.out wr hbw
                    by_cases hml : m < F.length
                    · have hmz : (m : Int) < (F.length : Int) := by omega
                      obtain ⟨q, hq⟩ : ∃ q, F[m]? = some q := ⟨F[m], by simp⟩
                      obtain ⟨b2, o2, c2, e2, z2, y1⟩ := (LF.out.below hbw).at2 hq
                      simp only [Value.slice.injEq] at e2
                      obtain ⟨rfl, -, rfl⟩ := e2
                      have HN : Hid (decide (x ∈ F.take (m + 1)) = (decide (x ∈ F.take m) || decide (q = x))) := take_in hq
                      clear hq
                      generalize decide (x ∈ F.take m) = fd at *
                      cases fd with
                      | true =>
                        go_wp2_with fail
                        go_quiet (fail)
                        go_wp2
                        exact ⟨⟨m + 1, by omega, by go_num, by rw [HN.out]; rfl, hbw.trans (((Gr.refl wr).drewN _).below.mono hsz)⟩, by simp [RowKit.intOf]; omega⟩
                      | false =>
                        by_cases hyx : q = x
                        · have hq := beq_t hyx
                          have HYX : Hid (q = x) := hyx
                          clear hyx
                          go_wp2_with fail
                          go_quiet (fail)
                          go_wp2
                          exact ⟨⟨m + 1, by omega, by go_num, by rw [HN.out, decide_eq_true HYX.out]; rfl, hbw.trans (((Gr.refl wr).drewN _).below.mono hsz)⟩, by simp [RowKit.intOf]; omega⟩
                        · have hq := beq_f hyx
                          have HYX : Hid (¬ q = x) := hyx
                          clear hyx
                          go_wp2_with fail
                          go_quiet (fail)
                          go_wp2
                          exact ⟨⟨m + 1, by omega, by go_num, by rw [HN.out, decide_eq_false HYX.out]; rfl, hbw.trans (((Gr.refl wr).drewN _).below.mono hsz)⟩, by simp [RowKit.intOf]; omega⟩
                    · have hmz : ¬ (m : Int) < (F.length : Int) := by omega
                      have hin : decide (x ∈ F.take m) = LB := by rw [List.take_of_length_le (by omega)]; exact HLB.out
                      rw [hin]
                      have hcv := covers_any (bel := wbel) (x ++ ⟨#[120]⟩) wr (C3.out.below hbw) (by omega) ahead_ok
                      rw [HCV.out x HXM.out] at hcv
                      have hxs : (x.size : Int) + 1 ≤ 9223372036854775807 := by have := HSZ.out x HXM.out; omega
                      have hself : (LB != LB) = false := by simp
                      clear hin
                      go_wp2_with fail
                      refine hcv.mono ?_
                      rintro e w9 ⟨rfl, hg9⟩
                      have b9 : Below w3.heap.size w3 w9 := hbw.trans (hg9.below.mono hsz)
                      clear hcv hxs x1 z1
                      have hiff : (x ∈ F ∧ ¬ x ∈ l.take i) ↔ (LB = true ∧ AB = false) := by
                        rw [← HLB.out, ← HAB'.out]; simp
                      rw [show (if x ∈ F ∧ ¬ x ∈ l.take i then 1 else 0) = (if LB = true ∧ AB = false then 1 else 0) by simp only [hiff]] at HUP
                      have hul : upto F l i ≤ F.length := List.length_filter_le _ _
                      clear hiff HAB' HLB
                      generalize upto F l i = U at *
                      cases LB with
                      | true =>
                        cases AB with
                        | true =>
                          go_wp2
                          exact ⟨⟨i + 1, by omega, by go_num, by rw [HUP.out]; simp, b9⟩, by simp [RowKit.intOf]; omega⟩
                        | false =>
                          go_wp2
                          exact ⟨⟨i + 1, by omega, by go_num, by rw [HUP.out]; simp, b9⟩, by simp [RowKit.intOf]; omega⟩
                      | false =>
                        go_wp2
                        exact ⟨⟨i + 1, by omega, by go_num, by rw [HUP.out]; simp, b9⟩, by simp [RowKit.intOf]; omega⟩
            · have hltz : ¬ (i : Int) < (l.length : Int) := by omega
              have hie : i = l.length := by omega
              subst hie
              rw [upto_all HM.out]
              have hle := len_any wr (C3.out.below hbw)
              go_wp2_with fail
              refine hle.mono ?_
              rintro e w9 ⟨rfl, rfl⟩
              go_wp2
              go_ret
              exact ⟨by first | rfl | simp, B3.out.trans (hbw.mono B3.out.size)⟩
end Go.Proofs.Ytpglheijiolcgaa.Wd
