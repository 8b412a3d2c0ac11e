import Derived.Test.YtmhbpelbkeclpaaGreatDoorTexts
import Derived.Test.YtmhbpelbkeclpaaGreatDoorFormat
import Derived.Deep.AppendLies
namespace Go.Proofs.YtmhbpelbkeclpaaGreatDoor
open Go.RowKit Go.Shelf Go.Lib
open Go.Sort hiding Below

theorem owns_below' {w w' : World} {base : Nat} {e : TypeId} {size : Nat} {v : Value} {n : Nat} {xs : List Value} (h : w.ownsRow base e size v n xs) (hb : Below w.heap.size w w') : w'.ownsRow base e size v n xs := by
  obtain ⟨h1, h2⟩ := h
  refine ⟨h1, ?_⟩
  rcases h2 with h2 | ⟨g, cap, cur, hv, hg, hh, r⟩
  · exact Or.inl h2
  · exact Or.inr ⟨g, cap, cur, hv, hg, by rw [hb.block g (Array.getElem?_eq_some_iff.1 hh).1]; exact hh, r⟩
def dg8 (u : Nat) : ByteArray := ⟨(decDigits u).toArray⟩
theorem infoS : (Tryz.prog.info? 9).map (fun i => (i.zero, i.size, i.bytes)) = some (some (.string ByteArray.empty), 1, 16) := by kernel_rfl
theorem dec_len (u : Nat) (h : u < 18446744073709551616) : (decDigits u).length ≤ 20 := by
  rw [decDigits_length]
  by_cases h0 : u = 0
  · subst h0; rw [nDigits_small (by omega)]; omega
  · exact nDigits_le u (by omega) h
theorem text_len (u v x : Nat) (n : Int) (hu : u < 18446744073709551616) (hv : v < 18446744073709551616) (hx : x < 18446744073709551616) : (ttext u v x n).length ≤ 62 := by
  have h1 := dec_len u hu; have h2 := dec_len v hv; have h3 := dec_len x hx
  unfold ttext
  split
  · omega
  · split <;> simp <;> omega
theorem join_text (u v x n : Nat) (h1 : 1 ≤ n) (h3 : n ≤ 3) : Lib.join ((([u, v, x].take n).map dg8).map (·.data.toList)) [46] = ttext u v x n := by
  have : n = 1 ∨ n = 2 ∨ n = 3 := by omega
  rcases this with rfl | rfl | rfl <;> simp [Lib.join, dg8, ttext, List.intercalate, List.intersperse]

set_option maxHeartbeats 1000000 in
set_option maxRecDepth 100000 in
theorem Text_bad (u v x : Nat) (n : Int) (w : World) (hf : tfits u v x n = 10) :
    Calls Tryz.prog 20 #[.agg #[.int .u64 u, .int .u64 v, .int .u64 x], .int .i64 n] w fun e w' => e = .returned (.tuple #[.string ⟨#[]⟩, .int .i64 10]) ∧ Below w.heap.size w w' := by
  have hF := fun W => Fits_any u v x n W
  rw [hf] at hF
  clear hf
  go_enter Tryz.func20, Tryz.ntmps20
  go_wp2_with (go_at_call 23; refine (hF _).mono ?_; rintro e w1 ⟨rfl, hg⟩)
  go_ret2
  exact ⟨rfl, ((Below.refl _ w).alloc (Nat.le_refl _) _).trans (hg.below.mono (by simp))⟩

set_option maxHeartbeats 2000000 in
set_option maxRecDepth 100000 in
theorem Text_ok (u v x n : Nat) (w : World) (he : Env w) (hu : u < 18446744073709551616) (hv : v < 18446744073709551616) (hx : x < 18446744073709551616) (h1 : 1 ≤ n) (h3 : n ≤ 3) (hf : tfits u v x n = 0) :
    Calls Tryz.prog 20 #[.agg #[.int .u64 u, .int .u64 v, .int .u64 x], .int .i64 n] w fun e w' => e = .returned (.tuple #[.string ⟨(ttext u v x n).toArray⟩, .int .i64 0]) ∧ Below w.heap.size w w' := by
  have hF := fun W => Fits_any u v x n W
  rw [hf] at hF
  clear hf
  have hnum := fun W => numbersOf_any u v x W
  obtain ⟨i0, hi, hz0, hz1, hz2⟩ := info_parts infoS
  have hal : Tryz.prog.arrayLen 64 = 3 := by kernel_rfl
  have hsl : ∀ b W, (Instr.sliceAt 64 (.pointer (some ⟨b, 0, none⟩)) none (some (.int .i64 (n : Int))) none).run Tryz.prog W = .ok (.slice (some ⟨b, 0, none⟩) n 3) W := fun b W => by
    rw [run_sliceAt_array_h W 64 ⟨b, 0, none⟩ (by simp [Program.arrayLen, Program.elem, Tryz.underlying64]) .i64 (n : Int) (by omega) (by rw [hal]; omega)]
    go_simp
  clear hal
  go_enter Tryz.func20, Tryz.ntmps20
  go_wp2_with fail
  refine (hF _).mono ?_
  rintro e w1 ⟨rfl, hg⟩
  obtain ⟨hc, hf⟩ := hg.cells
  have hz : w.heap.size < w1.heap.size := by have := hg.size; simp at this; omega
  go_wp2_with fail
  refine (hnum _).mono ?_
  rintro e w2 ⟨rfl, hg2⟩
  have hB : Below w.heap.size w w2 := (((Below.refl _ w).alloc (Nat.le_refl _) _).trans (hg.below.mono (by simp))).trans (hg2.below.mono (by omega))
  have hz2' := hg2.size
  clear hF hnum hc hf
  go_wp2
  have hnum3 : ∀ k, k < 3 → ∃ y, [u, v, x][k]? = some y ∧ y < 18446744073709551616 ∧ (w2.alloc (.cells #[.int .u64 u, .int .u64 v, .int .u64 x] 64)).cell? ⟨w2.heap.size, k, none⟩ = some (.int .u64 (y : Nat)) := by
    intro k hk
    have : k = 0 ∨ k = 1 ∨ k = 2 := by omega
    rcases this with rfl | rfl | rfl
    · exact ⟨u, rfl, hu, by simp⟩
    · exact ⟨v, rfl, hv, by simp⟩
    · exact ⟨x, rfl, hx, by simp⟩
  have Hnum3 : Hid (∀ k, k < 3 → ∃ y, [u, v, x][k]? = some y ∧ y < 18446744073709551616 ∧ (w2.alloc (.cells #[.int .u64 u, .int .u64 v, .int .u64 x] 64)).cell? ⟨w2.heap.size, k, none⟩ = some (.int .u64 (y : Nat))) := hnum3
  clear hnum3 hsl
  go_loopw [8, 22] (fun s8 s22 wr => ∃ k : Nat, k ≤ n ∧ s22 = .int .i64 k ∧ wr.ownsRow (w2.heap.size + 1) 9 1 s8 k ((([u, v, x].take k).map dg8).map Value.string) ∧ Below (w2.heap.size + 1) (w2.alloc (.cells #[.int .u64 u, .int .u64 v, .int .u64 x] 64)) wr) (fun _ s22 _ => n - (RowKit.intOf s22).toNat)
  case atStart => exact ⟨0, Nat.zero_le _, rfl, ⟨rfl, Or.inl ⟨rfl, rfl⟩⟩, Below.refl _ _⟩
  case round =>
    obtain ⟨k, hk, rfl, hown, hbw⟩ := hrel
    have hEr : Env wr := he.below (hB.trans (((Below.refl _ w2).alloc (Nat.le_refl _) _).trans (hbw.mono (by omega)) |>.mono (by omega)))
    have hzr : w2.heap.size < wr.heap.size := by have := hbw.size; simp at this; omega
    by_cases hlt : k < n
    · have hltz : (k : Int) < (n : Int) := by omega
      obtain ⟨y, hy, hy64, hcy⟩ := Hnum3.out k (by omega)
      have c0 := (hbw.cell (p := ⟨w2.heap.size, k, none⟩) (by show w2.heap.size < w2.heap.size + 1; omega)).trans hcy
      have HT : Hid ([u, v, x].take (k + 1) = [u, v, x].take k ++ [y]) := by unfold Hid; rw [List.take_add_one, hy]; rfl
      have hFm := FormatUint_any y hy64 wr hEr
      have hFm : Calls Tryz.prog 45 _ _ fun e w' => e = .returned (.string (dg8 y)) ∧ Gr wr w' := hFm
      have hk3 : k ≤ 3 := by omega
      clear hcy hy
      generalize [u, v, x].take k = f at *
      generalize hd : dg8 y = d at *
      have HD : Hid (dg8 y = d) := hd
      clear hd
      go_wp2_with fail
      refine hFm.mono ?_
      rintro e w3 ⟨rfl, hg3⟩
      have hown3 := owns_below' hown hg3.below
      have hz3 := hg3.size
      go_wp2_with (at_builtin; refine wpList_append_own _ rfl _ _ 66 rfl (w2.heap.size + 1) 9 i0 (.string ByteArray.empty) 1 16 Tryz.underlying66 hi hz0 hz1 hz2 rfl (by decide) _ _ _ rfl (hown3.alloc _) ⟨w3.heap.size, 0, none⟩ 1 1 [.string d] rfl rfl (cell_one_new _ _ _) (fun u hu => by simp at hu; subst hu; rfl) (by unfold maxLen; omega) (by omega) (by simp; omega) ?_)
      intro v' w4 hown4 hgrow hnil
      go_wp2
      refine ⟨⟨k + 1, by omega, by go_num, ?_, ?_⟩, by simp [RowKit.intOf]; omega⟩
      · rw [HT.out, List.map_append, List.map_append]
        simp only [List.map_cons, List.map_nil, HD.out, List.map_map]
        exact hown4
      · exact ((hbw.trans (hg3.below.mono (by omega))).alloc (by omega) _).grown hgrow (by simp; omega) (fun k hk => (hown3.lt k hk).1)
    · have hltz : ¬ (k : Int) < (n : Int) := by omega
      have hkn : k = n := by omega
      subst hkn
      obtain ⟨hl1, hown2⟩ := hown
      rcases hown2 with ⟨rfl, hk0⟩ | ⟨g, cap, cur, rfl, hg1, hh, hc1, hc2, hcs, htk⟩
      · omega
      · have hglt : g < wr.heap.size := (Array.getElem?_eq_some_iff.1 hh).1
        have hxl : (([u, v, x].take k).map dg8).length = k := by simp; omega
        have hJ := Any.strings_Join Tryz.lays156 Tryz.Builder_Extra_156 g 0 cap (([u, v, x].take k).map dg8) ⟨#[46]⟩ wr (by
            intro j d hj
            have h2 : (((([u, v, x].take k).map dg8).map Value.string))[j]? = some (.string d) := by rw [List.getElem?_map, hj]; rfl
            rw [← htk, Nat.mul_one] at h2
            have hjl : j < k := by have := (List.getElem?_eq_some_iff.1 h2).1; rw [List.length_take] at this; omega
            rw [List.getElem?_take_of_lt hjl] at h2
            simp only [World.cell?, hh, Nat.zero_add]
            simpa using h2) hglt (by rw [hxl]; omega) (by rw [hxl]; omega) (by
            have := text_len u v x k hu hv hx
            rw [show (⟨#[46]⟩ : ByteArray).data.toList = [46] from rfl, join_text u v x k h1 h3]; omega)
        change Calls Tryz.prog 46 _ _ _ at hJ
        rw [hxl, show (⟨#[46]⟩ : ByteArray).data.toList = [46] from rfl, join_text u v x k h1 h3] at hJ
        generalize hr : (ttext u v x k).toArray = r at *
        have HR : Hid ((ttext u v x k).toArray = r) := hr
        clear Hnum3 htk hh hl1 hr
        go_wp2_with fail
        refine hJ.mono ?_
        rintro e w5 ⟨rfl, hb5⟩
        go_wp2
        go_ret2
        rw [HR.out]
        exact ⟨rfl, ((hB.trans (((Below.refl _ w2).alloc (Nat.le_refl _) _).trans (hbw.mono (by omega)) |>.mono (by omega)))).trans (hb5.mono (by omega))⟩
end Go.Proofs.YtmhbpelbkeclpaaGreatDoor
