import Derived.Test.YtmhbpelbkeclpaaGreatDoorParse
namespace Go.Proofs.YtmhbpelbkeclpaaGreatDoor
open Go.RowKit Go.Shelf Go.Lib
open Go.Sort hiding Below

theorem len_two {l : List ByteArray} (h : l.length = 2) : ∃ a b, l = [a, b] := by
  match l, h with
  | [a, b], _ => exact ⟨a, b, rfl⟩
theorem len_three {l : List ByteArray} (h : l.length = 3) : ∃ a b c, l = [a, b, c] := by
  match l, h with
  | [a, b, c], _ => exact ⟨a, b, c, rfl⟩
theorem noText_len {s : ByteArray} {n : Nat} (h1 : 1 ≤ n) (h3 : n ≤ 3) (hl : (spl (min (n + 1) (s.size + 1) - 1) s).length ≠ n) (u v x : Nat) : ¬ IsText s.data.toList n u v x := fun h => by
  have e := split_text s u v x n h1 h3 h.ht _ rfl
  have e2 := congrArg List.length e
  rw [List.length_map, List.length_take] at e2
  simp only [List.length_cons, List.length_nil] at e2
  exact hl (by rw [e2]; omega)
theorem noText_part {s : ByteArray} {n : Nat} (h1 : 1 ≤ n) (h3 : n ≤ 3) {ps : List ByteArray} (hl : spl (min (n + 1) (s.size + 1) - 1) s = ps) {p : ByteArray} (hp : p ∈ ps) (hno : ∀ u, ¬ IsNum p.data.toList u) (u v x : Nat) : ¬ IsText s.data.toList n u v x := fun h => by
  have e := split_text s u v x n h1 h3 h.ht _ rfl
  rw [hl] at e
  have hm : p.data.toList ∈ ps.map (·.data.toList) := List.mem_map.2 ⟨p, hp, rfl⟩
  rw [e] at hm
  have hm' := List.mem_of_mem_take hm
  simp at hm'
  rcases hm' with h' | h' | h'
  · exact hno u ⟨h.hu, h'.symm⟩
  · exact hno v ⟨h.hv, h'.symm⟩
  · exact hno x ⟨h.hx, h'.symm⟩
theorem text_join {s : ByteArray} {k : Nat} {ps : List ByteArray} (hl : spl k s = ps) : s.data.toList = joinP (ps.map (·.data.toList)) := by
  rw [← hl]; exact (spl_join k s).symm

theorem Parse_any (s : ByteArray) (n : Int) (w : World) (he : Env w) (hs : s.size ≤ 281474976710656) :
    Calls Tryz.prog 21 #[.string s, .int .i64 n] w fun e w' => ParseEnd s n e ∧ Below w.heap.size w w' := by
  by_cases hb : n < 1 ∨ 3 < n
  · exact (Parse_bad s n w hb).mono fun e w' ⟨h1, h2⟩ => ⟨Or.inl ⟨hb, h1⟩, h2⟩
  · obtain ⟨m, rfl⟩ : ∃ m : Nat, n = m := ⟨n.toNat, by omega⟩
    have h1 : 1 ≤ m := by omega
    have h3 : m ≤ 3 := by omega
    by_cases hl : (spl (min (m + 1) (s.size + 1) - 1) s).length = m
    · have hm : m = 1 ∨ m = 2 ∨ m = 3 := by omega
      rcases hm with rfl | rfl | rfl
      · obtain ⟨p0, hps⟩ := List.length_eq_one_iff.1 hl
        refine (Parse_one s w he hs p0 hps).mono ?_
        rintro e w' ⟨⟨u0, h0, rfl⟩ | ⟨⟨p, hp, hno⟩, rfl⟩, hb'⟩
        · refine ⟨Or.inr ⟨by omega, Or.inl ⟨u0, 0, 0, ⟨h0.1, by omega, by omega, fun _ => rfl, fun _ => rfl, ?_⟩, rfl⟩⟩, hb'⟩
          rw [text_join hps]
          simp [joinP, ttext, h0.2]
        · exact ⟨Or.inr ⟨by omega, Or.inr ⟨noText_part h1 h3 hps hp hno, rfl⟩⟩, hb'⟩
      · obtain ⟨p0, p1, hps⟩ := len_two hl
        refine (Parse_two s w he hs p0 p1 hps).mono ?_
        rintro e w' ⟨⟨u0, u1, ⟨h0, h1'⟩, rfl⟩ | ⟨⟨p, hp, hno⟩, rfl⟩, hb'⟩
        · refine ⟨Or.inr ⟨by omega, Or.inl ⟨u0, u1, 0, ⟨h0.1, h1'.1, by omega, fun h => absurd h (by omega), fun _ => rfl, ?_⟩, rfl⟩⟩, hb'⟩
          rw [text_join hps]
          simp [joinP, ttext, h0.2, h1'.2]
        · exact ⟨Or.inr ⟨by omega, Or.inr ⟨noText_part h1 h3 hps hp hno, rfl⟩⟩, hb'⟩
      · obtain ⟨p0, p1, p2, hps⟩ := len_three hl
        refine (Parse_three s w he hs p0 p1 p2 hps).mono ?_
        rintro e w' ⟨⟨u0, u1, u2, ⟨h0, h1', h2'⟩, rfl⟩ | ⟨⟨p, hp, hno⟩, rfl⟩, hb'⟩
        · refine ⟨Or.inr ⟨by omega, Or.inl ⟨u0, u1, u2, ⟨h0.1, h1'.1, h2'.1, fun h => absurd h (by omega), fun h => absurd h (by omega), ?_⟩, rfl⟩⟩, hb'⟩
          rw [text_join hps]
          simp [joinP, ttext, h0.2, h1'.2, h2'.2]
        · exact ⟨Or.inr ⟨by omega, Or.inr ⟨noText_part h1 h3 hps hp hno, rfl⟩⟩, hb'⟩
    · refine (Parse_len s m w h1 h3 hs hl).mono fun e w' ⟨e1, e2⟩ => ⟨Or.inr ⟨by omega, Or.inr ⟨noText_len h1 h3 hl, e1⟩⟩, e2⟩
end Go.Proofs.YtmhbpelbkeclpaaGreatDoor
