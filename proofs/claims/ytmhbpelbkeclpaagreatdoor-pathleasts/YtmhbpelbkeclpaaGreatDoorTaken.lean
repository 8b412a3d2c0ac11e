import Derived.Test.YtmhbpelbkeclpaaGreatDoorParseAll
import Derived.Test.YtmhbpelbkeclpaaGreatDoorText
import Derived.Test.YtmhbpelbkeclpaaGreatDoorPure
namespace Go.Proofs.YtmhbpelbkeclpaaGreatDoor
open Go.RowKit Go.Shelf Go.Lib
open Go.Sort hiding Below

theorem text5012 : (ttext 5 0 12 ((3 : Nat) : Int)).toArray = #[53, 46, 48, 46, 49, 50] := by
  have h1 : decDigits 5 = [53] := by rw [dec_small (by omega)]; rfl
  have h2 : decDigits 0 = [48] := by rw [dec_small (by omega)]; rfl
  have h3 : decDigits 12 = [49, 50] := by rw [dec_big (by omega), dec_small (by omega)]; rfl
  simp [ttext, h1, h2, h3]
theorem text71 : IsText (⟨#[55, 46, 49]⟩ : ByteArray).data.toList ((2 : Nat) : Int) 7 1 0 := by
  have h1 : decDigits 7 = [55] := by rw [dec_small (by omega)]; rfl
  have h2 : decDigits 1 = [49] := by rw [dec_small (by omega)]; rfl
  exact ⟨by omega, by omega, by omega, fun h => absurd h (by omega), fun _ => rfl, by simp [ttext, h1, h2]⟩
theorem parse71 {e : Ending} (h : ParseEnd ⟨#[55, 46, 49]⟩ 2 e) : e = .returned (.tuple #[.agg #[.int .u64 7, .int .u64 1, .int .u64 0], .int .i64 0]) := by
  rcases h with ⟨h, _⟩ | ⟨_, ⟨u, v, x, ht, rfl⟩ | ⟨hno, _⟩⟩
  · omega
  · obtain ⟨rfl, rfl, rfl⟩ := text_unique (n := 2) (by omega) (by omega) ht text71
    rfl
  · exact absurd text71 (hno 7 1 0)
theorem front213 : tfront [(2, 0, 0), (1, 3, 0)] = [(1, 3, 0), (2, 0, 0)] := by
  refine rise_unique (tfront_rise _) (by simp [lt3]) fun x => ?_
  rw [tfront_mem]
  simp only [List.mem_cons, List.not_mem_nil, or_false]
  constructor
  · rintro ⟨rfl | rfl, _⟩ <;> simp
  · rintro (rfl | rfl)
    · exact ⟨Or.inr rfl, fun y hy hle => by rcases hy with rfl | rfl <;> simp [le3, tle] at hle ⊢⟩
    · exact ⟨Or.inl rfl, fun y hy hle => by rcases hy with rfl | rfl <;> simp [le3, tle] at hle ⊢⟩

set_option maxHeartbeats 4000000 in
set_option maxRecDepth 100000 in
theorem taken_any (w : World) (he : Env w) :
    Calls Tryz.prog 5 #[] w fun e w' => e = .returned (.bool true) ∧ Below w.heap.size w w' := by
  have hT := Text_ok 5 0 12 3 w he (by omega) (by omega) (by omega) (by omega) (by omega) (by simp [tfits])
  rw [text5012] at hT
  have hT : Calls Tryz.prog 20 #[.agg #[.int .u64 5, .int .u64 0, .int .u64 12], .int .i64 3] w _ := hT
  have heq := fun a b c x y z W => run_eqT a b c x y z W
  have e1 : teq 7 1 0 7 1 0 = true := rfl
  have e2 : teq 1 3 0 1 3 0 = true := rfl
  go_enter Tryz.func5, Tryz.ntmps5
  go_wp2_with fail
  refine hT.mono ?_
  rintro e w1 ⟨rfl, hb1⟩
  have he1 := he.below hb1
  go_wp2_with fail
  refine (Parse_any ⟨#[55, 46, 49]⟩ 2 w1 he1 (by simp [ByteArray.size])).mono ?_
  rintro e w2 ⟨hpe, hb2⟩
  have hpe := parse71 hpe
  subst hpe
  have he2 := he1.below hb2
  go_wp2_with fail
  refine (Front_any _ [(2, 0, 0), (1, 3, 0)] _ (Or.inr ⟨w2.heap.size + 1, 0, 2, rfl, by simp, ?_⟩) (by simp)).mono ?_
  · intro j u hj
    match j, hj with
    | 0, hj => simp [flat, encT] at hj; subst hj; simp
    | 1, hj => simp [flat, encT] at hj; subst hj; simp
    | 2, hj => simp [flat, encT] at hj; subst hj; simp
    | 3, hj => simp [flat, encT] at hj; subst hj; simp
    | 4, hj => simp [flat, encT] at hj; subst hj; simp
    | 5, hj => simp [flat, encT] at hj; subst hj; simp
    | j + 6, hj => simp [flat, encT] at hj
  rintro e w3 ⟨v', rfl, hown, hb3⟩
  rw [front213] at hown
  rcases owns_at (ts := [(1, 3, 0), (2, 0, 0)]) hown with ⟨_, h⟩ | ⟨g, cap, rfl, hg1, hg2, hat, _⟩
  · simp at h
  obtain ⟨k0, k1, k2⟩ := hat.three (j := 0) (t := (1, 3, 0)) rfl
  have k0 : w3.cell? ⟨g, 0, none⟩ = some (.int .u64 1) := k0
  have k1 : w3.cell? ⟨g, 1, none⟩ = some (.int .u64 3) := k1
  have k2 : w3.cell? ⟨g, 2, none⟩ = some (.int .u64 0) := k2
  obtain ⟨hc3, hf3⟩ := below_cells hb3
  have hz3 : w2.heap.size < w3.heap.size := by have := hb3.size; simp at this; omega
  have hA := fun W => Ahead_any 7 1 0 7 1 0 W
  have hA' : tle 7 1 0 7 1 0 = true := rfl
  rw [hA'] at hA
  have hFt := fun W => Fits_any 7 1 0 1 W
  have hF' : tfits 7 1 0 1 = 10 := by simp [tfits]
  rw [hF'] at hFt
  have r0 : w3.cell? ⟨w2.heap.size, 0, none⟩ = some (.int .u64 7) := by rw [hc3 _ _ (by simp; omega)]; simp
  have r1 : w3.cell? ⟨w2.heap.size, 1, none⟩ = some (.int .u64 1) := by rw [hc3 _ _ (by simp; omega)]; simp
  have r2 : w3.cell? ⟨w2.heap.size, 2, none⟩ = some (.int .u64 0) := by rw [hc3 _ _ (by simp; omega)]; simp
  clear hA' hF' hT hat hown hc3 hf3
  simp only [List.length_cons, List.length_nil]
  go_wp2_with fail
  refine (hA _).mono ?_
  rintro e w4 ⟨rfl, hg4⟩
  obtain ⟨hc4, hf4⟩ := hg4.cells
  go_wp2_with fail
  refine (hFt _).mono ?_
  rintro e w5 ⟨rfl, hg5⟩
  go_wp2
  go_ret
  have z2 := hb1.size
  have z3 := hb2.size
  have B2 := hb1.trans (hb2.mono z2)
  have B3 := ((B2.alloc (by omega) _).alloc (by simp; omega) _).trans (hb3.mono (by simp; omega))
  have z4 := hg4.size
  exact ⟨rfl, (B3.trans (hg4.below.mono (by omega))).trans (hg5.below.mono (by omega))⟩
end Go.Proofs.YtmhbpelbkeclpaaGreatDoor
