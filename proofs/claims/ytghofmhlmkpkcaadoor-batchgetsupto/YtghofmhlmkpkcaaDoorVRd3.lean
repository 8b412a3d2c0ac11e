import Derived.Test.YtghofmhlmkpkcaaDoorVRd2
namespace Go.Proofs.YtghofmhlmkpkcaaDoor.Wi
open Go.RowKit Go.Sort
attribute [local go_sem ↓] Go.wp_at_zero Go.wp_at_succ

/-- The most that a number of bytes may be. -/
def lim (most : Int) : Nat := (min (max most 0) 65536).toNat
/-- What Bytes takes: the bytes, how many with the number's form, the error. -/
def cnt (most : Int) (l : List UInt8) : List UInt8 × Nat × Nat :=
  if (scan (lim most) 0 0 l).2.2 ≠ 0 then ([], 0, (scan (lim most) 0 0 l).2.2)
  else if most < 0 then ([], 0, 12)
  else if l.length - (scan (lim most) 0 0 l).2.1 < (scan (lim most) 0 0 l).1 then ([], 0, 30)
  else ((l.drop (scan (lim most) 0 0 l).2.1).take (scan (lim most) 0 0 l).1, (scan (lim most) 0 0 l).2.1 + (scan (lim most) 0 0 l).1, 0)
/-- Bytes out of the midst of a list. -/
theorem ls_mid {w : World} {p : Option Addr} {c n m : Nat} {L : List UInt8} (h : Ls EB w (.slice p L.length c) L) (hle : n + m ≤ L.length) (hc : L.length ≤ c) :
    Ls EB w (.slice (if c = n then p else Option.map (fun x => x.add n) p) m (c - n)) ((L.drop n).take m) ∧ ∀ k, (Value.slice (if c = n then p else Option.map (fun x => x.add n) p) m (c - n)).ownBlock = some k → (Value.slice p L.length c).ownBlock = some k := by
  obtain ⟨h1, h2⟩ := ls_rest (at_ := n) h (by omega) hc
  generalize (if c = n then p else Option.map (fun x => x.add n) p) = q at h1 h2 ⊢
  have hl : m ≤ (L.drop n).length := by rw [List.length_drop]; omega
  refine ⟨?_, fun k hk => h2 k ?_⟩
  · rcases h1 with ⟨e, h⟩ | ⟨b, off, c', hv, hb, ht⟩
    · rw [e] at hl ⊢
      have hm : m = 0 := by simpa using hl
      subst hm
      simp only [Value.slice.injEq] at h
      obtain ⟨rfl, -, h5⟩ := h
      rw [h5]
      exact Or.inl ⟨rfl, rfl⟩
    · simp only [Value.slice.injEq] at hv
      obtain ⟨rfl, h3, rfl⟩ := hv
      have hL : Ls EB w (.slice (some ⟨b, off, none⟩) (L.length - n) (c - n)) (L.drop n) := Or.inr ⟨b, off, c - n, by rw [h3], hb, ht⟩
      exact hL.cut hl _
  · cases q with
    | none => simp [Value.ownBlock] at hk
    | some a => simpa [Value.ownBlock] using hk
/-- What Bytes takes, behind an error nothing. -/
def rbs (e : Nat) (most : Int) (l : List UInt8) : List UInt8 × Nat × Nat := if e = 0 then cnt most l else ([], 0, e)
theorem cnt_le (most : Int) (l : List UInt8) : (cnt most l).2.1 ≤ l.length ∧ ((cnt most l).2.2 ≠ 0 → (cnt most l).2.1 = 0) ∧ (cnt most l).1.length ≤ l.length := by
  have h := (scan_le (lim most) l).1
  unfold cnt
  split
  · simp
  · split
    · simp
    · split
      · simp
      · simp [List.length_take]
        omega
/-- Nil ones. -/
theorem rnum_nil (u : Nat) (w : World) : Calls Tryd.prog 22 #[.pointer none, .int .u64 u] w fun r w' => r = .returned (.int .u64 0) ∧ w' = w := by
  go_enter Tryd.func22, Tryd.ntmps22
  go_wp2_with fail
  go_ret
  exact ⟨rfl, rfl⟩
theorem rint_nil (w : World) : Calls Tryd.prog 47 #[.pointer none] w fun r w' => r = .returned (.int .i64 0) ∧ w' = w := by
  have hn := rnum_nil 18446744073709551615 w
  have hu := unfolded_any 0 (by decide) w
  rw [show unfold 0 = 0 from rfl] at hu
  go_enter Tryd.func47, Tryd.ntmps47
  go_wp2_with (first | (go_at_call 22; refine hn.mono ?_; rintro r w4 ⟨rfl, rfl⟩) | (go_at_call 68; refine hu.mono ?_; rintro r w5 ⟨rfl, rfl⟩))
  go_ret
  exact ⟨rfl, rfl⟩
theorem rend_nil (w : World) : Calls Tryd.prog 26 #[.pointer none] w fun r w' => r = .returned (.tuple #[]) ∧ w' = w := by
  go_enter Tryd.func26, Tryd.ntmps26
  go_wp2_with fail
  go_end0
  exact ⟨rfl, rfl⟩
theorem rat_nil (w : World) : Calls Tryd.prog 46 #[.pointer none] w fun r w' => r = .returned (.int .i64 0) ∧ w' = w := by
  go_enter Tryd.func46, Tryd.ntmps46
  go_wp2_with fail
  go_ret
  exact ⟨rfl, rfl⟩
theorem rerr_nil (w : World) : Calls Tryd.prog 23 #[.pointer none] w fun r w' => r = .returned (.int .i64 0) ∧ w' = w := by
  go_enter Tryd.func23, Tryd.ntmps23
  go_wp2_with fail
  go_ret
  exact ⟨rfl, rfl⟩
end Go.Proofs.YtghofmhlmkpkcaaDoor.Wi
