import Derived.Test.YtmhbpelbkeclpaaGreatDoorPWays
import Derived.Test.YtmhbpelbkeclpaaGreatDoorPParse
import Derived.Test.YtmhbpelbkeclpaaGreatDoorPLeast
import Derived.Test.YtmhbpelbkeclpaaGreatDoorPure
namespace Go.Proofs.YtmhbpelbkeclpaaGreatDoor
open Go.RowKit Go.Shelf Go.Lib
open Go.Sort hiding Below

theorem ptext70 : (ptext 7 0 0 ((2 : Nat) : Int)).toArray = #[43, 55, 44, 48] := by
  have h1 : decDigits 7 = [55] := by rw [dec_small (by omega)]; rfl
  have h2 : decDigits 0 = [48] := by rw [dec_small (by omega)]; rfl
  simp [ptext, ttext, h1, h2, swp]
theorem isp70 : IsPText (⟨#[43, 55, 44, 48]⟩ : ByteArray).data.toList ((2 : Nat) : Int) 7 0 0 := by
  refine ⟨by omega, by omega, by omega, fun h => absurd h (by omega), fun _ => rfl, ?_⟩
  have := congrArg Array.toList ptext70
  simpa using this.symm
theorem pparse70 {e : Ending} (h : PParseEnd (⟨#[43, 55, 44, 48]⟩ : ByteArray).data.toList 2 e) : e = .returned (.tuple #[.agg #[.int .u64 7, .int .u64 0, .int .u64 0], .int .i64 0]) := by
  rcases h with ⟨h, _⟩ | ⟨_, ⟨u, v, x, ht, rfl⟩ | ⟨hno, _⟩⟩
  · omega
  · obtain ⟨rfl, rfl, rfl⟩ := ptext_unique (n := 2) (by omega) (by omega) ht isp70
    rfl
  · exact absurd isp70 (hno 7 0 0)
theorem least3 : tfront [(2, 0, 0), (0, 1, 0), (2, 1, 0)] = [(0, 1, 0), (2, 0, 0)] := by
  refine rise_unique (tfront_rise _) (by simp [lt3]) fun x => ?_
  rw [tfront_mem]
  simp only [List.mem_cons, List.not_mem_nil, or_false]
  constructor
  · rintro ⟨rfl | rfl | rfl, h⟩
    · simp
    · simp
    · have := h (2, 0, 0) (by simp) (by simp [le3, tle])
      simp at this
  · rintro (rfl | rfl)
    · exact ⟨Or.inr (Or.inl rfl), fun y hy hle => by rcases hy with rfl | rfl | rfl <;> simp [le3, tle] at hle ⊢⟩
    · exact ⟨Or.inl rfl, fun y hy hle => by rcases hy with rfl | rfl | rfl <;> simp [le3, tle] at hle ⊢⟩

set_option maxHeartbeats 8000000 in
set_option maxRecDepth 100000 in
theorem known_any (w : World) (he : Env w) : Calls Tryz.prog 14 #[] w fun e w' => e = .returned (.bool true) ∧ Below w.heap.size w w' := by
  have H1 : ∀ W, Calls Tryz.prog 34 #[.agg #[.int .u64 1, .int .u64 2, .int .u64 3], .agg #[.int .u64 4, .int .u64 0, .int .u64 18446744073709551612]] W fun e w' => e = .returned (.tuple #[.agg #[.int .u64 5, .int .u64 2, .int .u64 18446744073709551615], .bool true]) ∧ Below W.heap.size W w' := fun W => Then_any 1 2 3 4 0 18446744073709551612 W (by omega) (by omega) (by omega) (by omega) (by omega) (by omega)
  have H2 : ∀ W, Calls Tryz.prog 34 #[.agg #[.int .u64 1, .int .u64 0, .int .u64 0], .agg #[.int .u64 18446744073709551615, .int .u64 0, .int .u64 0]] W fun e w' => e = .returned (.tuple #[.agg #[.int .u64 0, .int .u64 0, .int .u64 0], .bool false]) ∧ Below W.heap.size W w' := fun W => Then_any 1 0 0 18446744073709551615 0 0 W (by omega) (by omega) (by omega) (by omega) (by omega) (by omega)
  have H3 : ∀ W, Calls Tryz.prog 35 #[.agg #[.int .u64 1, .int .u64 0, .int .u64 0], .agg #[.int .u64 4, .int .u64 18446744073709551615, .int .u64 0]] W fun e w' => e = .returned (.tuple #[.agg #[.int .u64 5, .int .u64 18446744073709551615, .int .u64 0], .bool true]) ∧ Below W.heap.size W w' := fun W => On_any 1 0 0 4 18446744073709551615 0 W (by omega) (by omega) (by omega) (by omega) (by omega) (by omega)
  have hT := fun W hW => PText_ok 7 0 0 2 W hW (by omega) (by omega) (by omega) (by omega) (by omega) (by simp [tfits])
  rw [ptext70] at hT
  have hT : ∀ W, Env W → Calls Tryz.prog 36 #[.agg #[.int .u64 7, .int .u64 0, .int .u64 0], .int .i64 2] W _ := hT
  have hA : ∀ W, Calls Tryz.prog 38 #[.agg #[.int .u64 5, .int .u64 2, .int .u64 18446744073709551615]] W fun e w' => e = .returned (.bool true) ∧ Gr W w' := fun W => Advances_any 5 2 18446744073709551615 W
  have hB : ∀ W, Calls Tryz.prog 39 #[.agg #[.int .u64 0, .int .u64 0, .int .u64 0], .agg #[.int .u64 5, .int .u64 2, .int .u64 18446744073709551615]] W fun e w' => e = .returned (.bool true) ∧ Gr W w' := fun W => pAhead_any 0 0 0 5 2 18446744073709551615 W
  have hC : ∀ W, Calls Tryz.prog 40 #[.agg #[.int .u64 1, .int .u64 0, .int .u64 0], .agg #[.int .u64 0, .int .u64 0, .int .u64 0]] W fun e w' => e = .returned (.int .i64 1) ∧ Gr W w' := fun W => pCompare_any 1 0 0 0 0 0 W
  have hF : ∀ W, Calls Tryz.prog 41 #[.agg #[.int .u64 5, .int .u64 2, .int .u64 18446744073709551615], .int .i64 1] W fun e w' => e = .returned (.int .i64 10) ∧ Gr W w' := fun W => pFits_any 5 2 18446744073709551615 1 W
  have heq := fun a b c x y z W => run_eqP a b c x y z W
  have heqT := fun a b c x y z W => run_eqT a b c x y z W
  have e0 : teq 5 2 18446744073709551615 5 2 18446744073709551615 = true := rfl
  have e1 : teq 5 18446744073709551615 0 5 18446744073709551615 0 = true := rfl
  have e2 : teq 7 0 0 7 0 0 = true := rfl
  have e3 : teq 0 1 0 0 1 0 = true := rfl
  have e4 : teq 2 0 0 2 0 0 = true := rfl
  go_enter Tryz.func14, Tryz.ntmps14
  have BB := Below.refl w.heap.size w
  go_wp2_with fail
  refine (H1 _).mono ?_
  rintro e v1 ⟨rfl, hb⟩
  replace BB : Below w.heap.size w v1 := by first | exact BB.trans (hb.mono BB.size) | exact (BB.alloc BB.size _).trans (hb.mono (BB.alloc BB.size _).size)
  clear hb
  go_wp2_with fail
  refine (H2 _).mono ?_
  rintro e v2 ⟨rfl, hb⟩
  have LP : At3 v2 (v1.heap.size) (.int .u64 5) (.int .u64 2) (.int .u64 18446744073709551615) := At3.below hb (At3.new _ _ _ _ _)
  replace BB : Below w.heap.size w v2 := by first | exact BB.trans (hb.mono BB.size) | exact (BB.alloc BB.size _).trans (hb.mono (BB.alloc BB.size _).size)
  clear hb
  obtain ⟨lP, P0, P1, P2⟩ := id LP
  go_wp2_with fail
  refine (H3 _).mono ?_
  rintro e v3 ⟨rfl, hb⟩
  clear lP P0 P1 P2
  replace LP : At3 v3 (v1.heap.size) (.int .u64 5) (.int .u64 2) (.int .u64 18446744073709551615) := At3.below hb (by first | exact LP | exact LP.alloc _ | exact At3.new _ _ _ _ _)
  have LN : At3 v3 (v2.heap.size) (.int .u64 0) (.int .u64 0) (.int .u64 0) := At3.below hb (At3.new _ _ _ _ _)
  replace BB : Below w.heap.size w v3 := by first | exact BB.trans (hb.mono BB.size) | exact (BB.alloc BB.size _).trans (hb.mono (BB.alloc BB.size _).size)
  clear hb
  obtain ⟨lP, P0, P1, P2⟩ := id LP
  obtain ⟨lN, N0, N1, N2⟩ := id LN
  go_wp2_with fail
  refine (hT _ (he.below (by first | exact BB | exact BB.alloc BB.size _))).mono ?_
  rintro e v4 ⟨rfl, hb⟩
  clear lP P0 P1 P2 lN N0 N1 N2
  replace LP : At3 v4 (v1.heap.size) (.int .u64 5) (.int .u64 2) (.int .u64 18446744073709551615) := At3.below hb (by first | exact LP | exact LP.alloc _ | exact At3.new _ _ _ _ _)
  replace LN : At3 v4 (v2.heap.size) (.int .u64 0) (.int .u64 0) (.int .u64 0) := At3.below hb (by first | exact LN | exact LN.alloc _ | exact At3.new _ _ _ _ _)
  have LT : At3 v4 (v3.heap.size) (.int .u64 5) (.int .u64 18446744073709551615) (.int .u64 0) := At3.below hb (At3.new _ _ _ _ _)
  replace BB : Below w.heap.size w v4 := by first | exact BB.trans (hb.mono BB.size) | exact (BB.alloc BB.size _).trans (hb.mono (BB.alloc BB.size _).size)
  clear hb
  obtain ⟨lP, P0, P1, P2⟩ := id LP
  obtain ⟨lN, N0, N1, N2⟩ := id LN
  obtain ⟨lT, T0, T1, T2⟩ := id LT
  go_wp2_with fail
  refine (PParse_any ⟨#[43, 55, 44, 48]⟩ 2 _ (he.below (by first | exact BB | exact BB.alloc BB.size _)) (by simp [ByteArray.size])).mono ?_
  rintro e vp ⟨hpe, hb⟩
  replace hpe := pparse70 hpe
  subst hpe
  clear lP P0 P1 P2 lN N0 N1 N2 lT T0 T1 T2
  replace LP : At3 vp (v1.heap.size) (.int .u64 5) (.int .u64 2) (.int .u64 18446744073709551615) := At3.below hb (by first | exact LP | exact LP.alloc _)
  replace LN : At3 vp (v2.heap.size) (.int .u64 0) (.int .u64 0) (.int .u64 0) := At3.below hb (by first | exact LN | exact LN.alloc _)
  replace LT : At3 vp (v3.heap.size) (.int .u64 5) (.int .u64 18446744073709551615) (.int .u64 0) := At3.below hb (by first | exact LT | exact LT.alloc _)
  replace BB : Below w.heap.size w vp := by first | exact BB.trans (hb.mono BB.size) | exact (BB.alloc BB.size _).trans (hb.mono (BB.alloc BB.size _).size)
  clear hb
  obtain ⟨lP, P0, P1, P2⟩ := id LP
  obtain ⟨lN, N0, N1, N2⟩ := id LN
  obtain ⟨lT, T0, T1, T2⟩ := id LT
  go_wp2_with fail
  refine (Least_any _ [(2, 0, 0), (0, 1, 0), (2, 1, 0)] _ (Or.inr ⟨vp.heap.size + 1, 0, 3, rfl, by simp, ?_⟩) (by simp)).mono ?_
  · intro j u hj
    match j, hj with
    | 0, hj => simp [flat, encT] at hj; subst hj; simp
    | 1, hj => simp [flat, encT] at hj; subst hj; simp
    | 2, hj => simp [flat, encT] at hj; subst hj; simp
    | 3, hj => simp [flat, encT] at hj; subst hj; simp
    | 4, hj => simp [flat, encT] at hj; subst hj; simp
    | 5, hj => simp [flat, encT] at hj; subst hj; simp
    | 6, hj => simp [flat, encT] at hj; subst hj; simp
    | 7, hj => simp [flat, encT] at hj; subst hj; simp
    | 8, hj => simp [flat, encT] at hj; subst hj; simp
    | j + 9, hj => simp [flat, encT] at hj
  rintro e vl ⟨v', rfl, hown, hb⟩
  rw [least3] at hown
  rcases owns_at (ts := [(0, 1, 0), (2, 0, 0)]) hown with ⟨_, h⟩ | ⟨g, cap, rfl, hg1, hg2, hat, _⟩
  · simp at h
  clear lP P0 P1 P2 lN N0 N1 N2 lT T0 T1 T2
  obtain ⟨k0, k1, k2⟩ := hat.three (j := 0) (t := (0, 1, 0)) rfl
  obtain ⟨m0, m1, m2⟩ := hat.three (j := 1) (t := (2, 0, 0)) rfl
  have K0 : vl.cell? ⟨g, 0, none⟩ = some (.int .u64 0) := k0
  have K1 : vl.cell? ⟨g, 1, none⟩ = some (.int .u64 1) := k1
  have K2 : vl.cell? ⟨g, 2, none⟩ = some (.int .u64 0) := k2
  have M0 : vl.cell? ⟨g, 3, none⟩ = some (.int .u64 2) := m0
  have M1 : vl.cell? ⟨g, 4, none⟩ = some (.int .u64 0) := m1
  have M2 : vl.cell? ⟨g, 5, none⟩ = some (.int .u64 0) := m2
  clear k0 k1 k2 m0 m1 m2 hat hown
  have LK : At3 vl g (.int .u64 0) (.int .u64 1) (.int .u64 0) := ⟨hg2, K0, K1, K2⟩
  have LM : ∀ W, Below vl.heap.size vl W → W.cell? ⟨g, 3, none⟩ = some (.int .u64 2) ∧ W.cell? ⟨g, 4, none⟩ = some (.int .u64 0) ∧ W.cell? ⟨g, 5, none⟩ = some (.int .u64 0) := fun W h => ⟨(h.cell (p := ⟨g, 3, none⟩) hg2).trans M0, (h.cell (p := ⟨g, 4, none⟩) hg2).trans M1, (h.cell (p := ⟨g, 5, none⟩) hg2).trans M2⟩
  have HM : Hid (∀ W, Below vl.heap.size vl W → W.cell? ⟨g, 3, none⟩ = some (.int .u64 2) ∧ W.cell? ⟨g, 4, none⟩ = some (.int .u64 0) ∧ W.cell? ⟨g, 5, none⟩ = some (.int .u64 0)) := LM
  clear LM K0 K1 K2 M0 M1 M2
  replace LP : At3 vl (v1.heap.size) (.int .u64 5) (.int .u64 2) (.int .u64 18446744073709551615) := At3.below hb (by first | exact LP.alloc _ | exact (LP.alloc _).alloc _)
  replace LN : At3 vl (v2.heap.size) (.int .u64 0) (.int .u64 0) (.int .u64 0) := At3.below hb (by first | exact LN.alloc _ | exact (LN.alloc _).alloc _)
  replace LT : At3 vl (v3.heap.size) (.int .u64 5) (.int .u64 18446744073709551615) (.int .u64 0) := At3.below hb (by first | exact LT.alloc _ | exact (LT.alloc _).alloc _)
  have LQ : At3 vl (vp.heap.size) (.int .u64 7) (.int .u64 0) (.int .u64 0) := At3.below hb ((At3.new _ _ _ _ _).alloc _)
  replace BB : Below w.heap.size w vl := ((BB.alloc BB.size _).alloc (BB.alloc BB.size _).size _).trans (hb.mono ((BB.alloc BB.size _).alloc (BB.alloc BB.size _).size _).size)
  clear hb
  simp only [List.length_cons, List.length_nil]
  have BL : Below vl.heap.size vl vl := Below.refl _ _
  obtain ⟨lP, P0, P1, P2⟩ := id LP
  obtain ⟨lN, N0, N1, N2⟩ := id LN
  obtain ⟨lT, T0, T1, T2⟩ := id LT
  obtain ⟨lQ, Q0, Q1, Q2⟩ := id LQ
  obtain ⟨lK, K0, K1, K2⟩ := id LK
  go_wp2_with fail
  refine (hA _).mono ?_
  rintro e v5 ⟨rfl, hg⟩
  have hb := hg.below
  clear lP P0 P1 P2 lN N0 N1 N2 lT T0 T1 T2 lQ Q0 Q1 Q2 lK K0 K1 K2
  replace LP : At3 v5 (v1.heap.size) (.int .u64 5) (.int .u64 2) (.int .u64 18446744073709551615) := At3.below hb LP
  replace LN : At3 v5 (v2.heap.size) (.int .u64 0) (.int .u64 0) (.int .u64 0) := At3.below hb LN
  replace LT : At3 v5 (v3.heap.size) (.int .u64 5) (.int .u64 18446744073709551615) (.int .u64 0) := At3.below hb LT
  replace LQ : At3 v5 (vp.heap.size) (.int .u64 7) (.int .u64 0) (.int .u64 0) := At3.below hb LQ
  replace LK : At3 v5 (g) (.int .u64 0) (.int .u64 1) (.int .u64 0) := At3.below hb LK
  replace BB : Below w.heap.size w v5 := BB.trans (hb.mono BB.size)
  replace BL : Below vl.heap.size vl v5 := BL.trans (hb.mono BL.size)
  clear hb hg
  obtain ⟨lP, P0, P1, P2⟩ := id LP
  obtain ⟨lN, N0, N1, N2⟩ := id LN
  obtain ⟨lT, T0, T1, T2⟩ := id LT
  obtain ⟨lQ, Q0, Q1, Q2⟩ := id LQ
  obtain ⟨lK, K0, K1, K2⟩ := id LK
  go_wp2_with fail
  refine (hB _).mono ?_
  rintro e v6 ⟨rfl, hg⟩
  have hb := hg.below
  clear lP P0 P1 P2 lN N0 N1 N2 lT T0 T1 T2 lQ Q0 Q1 Q2 lK K0 K1 K2
  replace LP : At3 v6 (v1.heap.size) (.int .u64 5) (.int .u64 2) (.int .u64 18446744073709551615) := At3.below hb LP
  replace LN : At3 v6 (v2.heap.size) (.int .u64 0) (.int .u64 0) (.int .u64 0) := At3.below hb LN
  replace LT : At3 v6 (v3.heap.size) (.int .u64 5) (.int .u64 18446744073709551615) (.int .u64 0) := At3.below hb LT
  replace LQ : At3 v6 (vp.heap.size) (.int .u64 7) (.int .u64 0) (.int .u64 0) := At3.below hb LQ
  replace LK : At3 v6 (g) (.int .u64 0) (.int .u64 1) (.int .u64 0) := At3.below hb LK
  replace BB : Below w.heap.size w v6 := BB.trans (hb.mono BB.size)
  replace BL : Below vl.heap.size vl v6 := BL.trans (hb.mono BL.size)
  clear hb hg
  obtain ⟨lP, P0, P1, P2⟩ := id LP
  obtain ⟨lN, N0, N1, N2⟩ := id LN
  obtain ⟨lT, T0, T1, T2⟩ := id LT
  obtain ⟨lQ, Q0, Q1, Q2⟩ := id LQ
  obtain ⟨lK, K0, K1, K2⟩ := id LK
  go_wp2_with fail
  refine (hC _).mono ?_
  rintro e v7 ⟨rfl, hg⟩
  have hb := hg.below
  clear lP P0 P1 P2 lN N0 N1 N2 lT T0 T1 T2 lQ Q0 Q1 Q2 lK K0 K1 K2
  replace LP : At3 v7 (v1.heap.size) (.int .u64 5) (.int .u64 2) (.int .u64 18446744073709551615) := At3.below hb LP
  replace LN : At3 v7 (v2.heap.size) (.int .u64 0) (.int .u64 0) (.int .u64 0) := At3.below hb LN
  replace LT : At3 v7 (v3.heap.size) (.int .u64 5) (.int .u64 18446744073709551615) (.int .u64 0) := At3.below hb LT
  replace LQ : At3 v7 (vp.heap.size) (.int .u64 7) (.int .u64 0) (.int .u64 0) := At3.below hb LQ
  replace LK : At3 v7 (g) (.int .u64 0) (.int .u64 1) (.int .u64 0) := At3.below hb LK
  replace BB : Below w.heap.size w v7 := BB.trans (hb.mono BB.size)
  replace BL : Below vl.heap.size vl v7 := BL.trans (hb.mono BL.size)
  clear hb hg
  obtain ⟨lP, P0, P1, P2⟩ := id LP
  obtain ⟨lN, N0, N1, N2⟩ := id LN
  obtain ⟨lT, T0, T1, T2⟩ := id LT
  obtain ⟨lQ, Q0, Q1, Q2⟩ := id LQ
  obtain ⟨lK, K0, K1, K2⟩ := id LK
  go_wp2_with fail
  refine (hF _).mono ?_
  rintro e v8 ⟨rfl, hg⟩
  have hb := hg.below
  clear lP P0 P1 P2 lN N0 N1 N2 lT T0 T1 T2 lQ Q0 Q1 Q2 lK K0 K1 K2
  replace LP : At3 v8 (v1.heap.size) (.int .u64 5) (.int .u64 2) (.int .u64 18446744073709551615) := At3.below hb LP
  replace LN : At3 v8 (v2.heap.size) (.int .u64 0) (.int .u64 0) (.int .u64 0) := At3.below hb LN
  replace LT : At3 v8 (v3.heap.size) (.int .u64 5) (.int .u64 18446744073709551615) (.int .u64 0) := At3.below hb LT
  replace LQ : At3 v8 (vp.heap.size) (.int .u64 7) (.int .u64 0) (.int .u64 0) := At3.below hb LQ
  replace LK : At3 v8 (g) (.int .u64 0) (.int .u64 1) (.int .u64 0) := At3.below hb LK
  replace BB : Below w.heap.size w v8 := BB.trans (hb.mono BB.size)
  replace BL : Below vl.heap.size vl v8 := BL.trans (hb.mono BL.size)
  clear hb hg
  obtain ⟨M0, M1, M2⟩ := HM.out _ BL
  obtain ⟨lP, P0, P1, P2⟩ := id LP
  obtain ⟨lN, N0, N1, N2⟩ := id LN
  obtain ⟨lT, T0, T1, T2⟩ := id LT
  obtain ⟨lQ, Q0, Q1, Q2⟩ := id LQ
  obtain ⟨lK, K0, K1, K2⟩ := id LK
  go_wp2
  go_ret
  exact ⟨rfl, BB⟩
theorem known_true : KnownTrue := fun W hW => known_any W hW
end Go.Proofs.YtmhbpelbkeclpaaGreatDoor
