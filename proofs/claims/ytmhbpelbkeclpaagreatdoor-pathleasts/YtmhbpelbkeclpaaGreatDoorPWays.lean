import Derived.Test.YtmhbpelbkeclpaaGreatDoorPOps
import Derived.Test.YtmhbpelbkeclpaaGreatDoorPText
namespace Go.Proofs.YtmhbpelbkeclpaaGreatDoor
open Go.RowKit Go.Shelf Go.Lib
open Go.Sort hiding Below

/-- What known answers. -/
def KnownTrue : Prop := ∀ W : World, Env W → Calls Tryz.prog 14 #[] W fun e w' => e = .returned (.bool true) ∧ Below W.heap.size W w'
theorem pon_lt (ok : Bool) (s : Nat) (h : ok = true → s < 18446744073709551616) : pon ok s < 18446744073709551616 := by
  unfold pon; split
  · exact h (by assumption)
  · omega
theorem pok_iff (a b c x y z : Nat) : pok a b c x y z = true ↔ a + x < 18446744073709551616 ∧ b + y < 18446744073709551616 ∧ c + z < 18446744073709551616 := by simp [pok]
theorem pon_true (s : Nat) : pon true s = s := rfl
theorem pon_false (s : Nat) : pon false s = 0 := rfl
/-- Then in any grouping. -/
theorem pok_group (a b c x y z p q r : Nat) :
    (pok (pon (pok a b c x y z) (a + x)) (pon (pok a b c x y z) (b + y)) (pon (pok a b c x y z) (c + z)) p q r && pok a b c x y z) = (pok a b c (pon (pok x y z p q r) (x + p)) (pon (pok x y z p q r) (y + q)) (pon (pok x y z p q r) (z + r)) && pok x y z p q r) := by
  rw [Bool.eq_iff_iff, Bool.and_eq_true, Bool.and_eq_true]
  cases h1 : pok a b c x y z <;> cases h2 : pok x y z p q r
  · simp
  · simp only [Bool.false_eq_true, and_false, and_true, false_iff, pok_iff, pon_true]
    rw [← Bool.not_eq_true, pok_iff] at h1
    omega
  · simp only [Bool.false_eq_true, and_false, and_true, iff_false, pok_iff, pon_true]
    rw [← Bool.not_eq_true, pok_iff] at h2
    omega
  · simp only [and_true, pok_iff, pon_true]
    omega
/-- A block with three cells. -/
structure At3 (W : World) (b : Nat) (x y z : Value) : Prop where
  lt : b < W.heap.size
  c0 : W.cell? ⟨b, 0, none⟩ = some x
  c1 : W.cell? ⟨b, 1, none⟩ = some y
  c2 : W.cell? ⟨b, 2, none⟩ = some z
theorem At3.below {W W' : World} {b : Nat} {x y z : Value} (hb : Below W.heap.size W W') (h : At3 W b x y z) : At3 W' b x y z :=
  ⟨Nat.lt_of_lt_of_le h.lt hb.size, (hb.cell (p := ⟨b, 0, none⟩) h.lt).trans h.c0, (hb.cell (p := ⟨b, 1, none⟩) h.lt).trans h.c1, (hb.cell (p := ⟨b, 2, none⟩) h.lt).trans h.c2⟩
theorem At3.alloc {W : World} {b : Nat} {x y z : Value} (h : At3 W b x y z) (o : Obj) : At3 (W.alloc o) b x y z := At3.below ((Gr.refl W).alloc o).below h
theorem At3.new (W : World) (x y z : Value) (t : TypeId) : At3 (W.alloc (.cells #[x, y, z] t)) W.heap.size x y z :=
  ⟨by simp, by rw [World.cell?_alloc_mark]; rfl, by rw [World.cell?_alloc_mark]; rfl, by rw [World.cell?_alloc_mark]; rfl⟩
theorem At3.new1 (W : World) (x y z : Value) (t : TypeId) (o : Obj) : At3 ((W.alloc o).alloc (.cells #[x, y, z] t)) (W.heap.size + 1) x y z := by
  have := At3.new (W.alloc o) x y z t
  simpa using this
end Go.Proofs.YtmhbpelbkeclpaaGreatDoor
