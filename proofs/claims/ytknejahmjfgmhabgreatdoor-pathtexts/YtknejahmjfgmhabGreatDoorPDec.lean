import Derived.Test.YtknejahmjfgmhabGreatDoorPRef2
import Derived.Test.YtknejahmjfgmhabGreatDoorPText
import Derived.Deep.RegionHeld3
namespace Go.Proofs.YtknejahmjfgmhabGreatDoor
open Go.RowKit Go.Shelf Go.Lib
open Go.Sort hiding Below

theorem run_byte_at (k : Nat) (z : Int) (hz : z = ((48 + k : Nat) : Int)) (hk : k < 10) (W : World) (g : Nat) (h : W.cell? ⟨g, 0, none⟩ = some (.int .u8 z)) :
    (convert 72 9 (.slice (some ⟨g, 0, none⟩) 1 1)).run Tryz.prog W = .ok (.string ⟨#[UInt8.ofNat (48 + k)]⟩) W := by
  subst hz
  exact run_convert_bytes_back (P := Tryz.prog) W 72 9 5 ⟨g, 0, none⟩ 1 [UInt8.ofNat (48 + k)] Tryz.underlying72 Tryz.underlying5 Tryz.underlying9 (fun j hj => by
    have hj0 : j = 0 := by simp at hj; omega
    subst hj0
    have e : ((UInt8.ofNat (48 + k)).toNat : Int) = ((48 + k : Nat) : Int) := by rw [UInt8.toNat_ofNat']; omega
    show W.cell? _ = some (.int .u8 ((UInt8.ofNat (48 + k)).toNat : Int))
    rw [e]
    simpa [Addr.add] using h)

theorem dec_b1 {w w1 : World} (hb1 : Below w.drew.heap.size w.drew w1) (o : Obj) : Below w.heap.size w (w1.alloc o) := by
  have h : Below w.heap.size w w1 := ((Gr.refl w).drew).below.trans hb1
  exact h.alloc h.size o
theorem dec_b2 {w w1 : World} {o : Obj} (hb1 : Below (w.alloc o).drew.heap.size (w.alloc o).drew w1) : Below w.heap.size w w1 := by
  have h := ((Gr.refl w).alloc o).drew.below
  exact h.trans (hb1.mono h.size)

set_option maxHeartbeats 4000000 in
set_option maxRecDepth 100000 in
theorem decimal_any (u : Nat) : ∀ (w : World), u < 18446744073709551616 →
    Calls Tryz.prog 24 #[.int .u64 u] w fun e w' => e = .returned (.string (dg8 u)) ∧ Below w.heap.size w w' := by
  induction u using Nat.strongRecOn with
  | ind u ih =>
    intro w hu
    by_cases h9 : u < 10
    · have h9z : (u : Int) < 10 := by omega
      have hcv := run_byte_at u (48 + (u : Int)) (by omega) h9
      have HD : Hid ((⟨#[UInt8.ofNat (48 + u)]⟩ : ByteArray) = dg8 u) := by
        unfold Hid dg8
        rw [dec_small (by omega)]
      generalize (⟨#[UInt8.ofNat (48 + u)]⟩ : ByteArray) = o at *
      clear ih
      go_enter Tryz.func24, Tryz.ntmps24
      go_wp2
      go_ret
      rw [HD.out]
      exact ⟨rfl, (Below.refl _ _).alloc (Nat.le_refl _) _⟩
    · have h9z : ¬ (u : Int) < 10 := by omega
      have hcv := run_byte_at (u % 10) (48 + (u : Int) % 10) (by omega) (by omega)
      have hih : ∀ (z : Int) W, z = ((u / 10 : Nat) : Int) → Calls Tryz.prog 24 #[.int .u64 z] W fun e w' => e = .returned (.string (dg8 (u / 10))) ∧ Below W.heap.size W w' := fun z W hz => by rw [hz]; exact ih (u / 10) (by omega) W (by omega)
      have q1 : IntKind.u64.wrap ((u : Int) / 10) = (u : Int) / 10 := by rw [IntKind.wrap_u64]; omega
      have q2 : (u : Int).tmod 10 = (u : Int) % 10 := Int.tmod_eq_emod_of_nonneg (by omega)
      have q3 : IntKind.u64.wrap (48 + (u : Int) % 10) = 48 + (u : Int) % 10 := by rw [IntKind.wrap_u64]; omega
      have q4 : IntKind.u8.wrap (48 + (u : Int) % 10) = 48 + (u : Int) % 10 := by simp [IntKind.wrap, IntKind.signed, IntKind.bits]; omega
      have hl : (dg8 (u / 10)).size ≤ 20 := dec_len (u / 10) (by omega)
      have HD : Hid (dg8 (u / 10) ++ (⟨#[UInt8.ofNat (48 + u % 10)]⟩ : ByteArray) = dg8 u) := by
        unfold Hid
        apply ByteArray.ext
        apply Array.toList_inj.1
        simp only [dg8]
        rw [dec_big (u := u) (by omega)]
        simp
      have ho : (⟨#[UInt8.ofNat (48 + u % 10)]⟩ : ByteArray).size = 1 := rfl
      generalize (⟨#[UInt8.ofNat (48 + u % 10)]⟩ : ByteArray) = o at *
      generalize dg8 (u / 10) = dd at *
      have hcat : ¬ 9223372036854775807 < dd.size + o.size := by omega
      have hcat' : ¬ 9223372036854775807 < dd.size + 1 := by omega
      clear ih
      go_enter Tryz.func24, Tryz.ntmps24
      go_wp2_with fail
      go_region_with (first | (go_at_call 24; refine (hih _ _ (by first | omega | (rw [q1]; omega))).mono ?_; rintro e w1 ⟨rfl, hb1⟩; obtain ⟨hc1, hf1⟩ := below_cells hb1))
      all_goals go_wp2
      all_goals go_ret
      all_goals rw [← HD.out]
      all_goals first | exact ⟨rfl, dec_b1 hb1 _⟩ | exact ⟨rfl, dec_b2 hb1⟩
end Go.Proofs.YtknejahmjfgmhabGreatDoor
