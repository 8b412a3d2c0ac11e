import Derived.Test.YtmhbpelbkeclpaaGreatDoorFits
import Derived.Test.YtmhbpelbkeclpaaGreatDoorSt
import Derived.Lib.AppendIntMem
import Derived.WalkSmall
namespace Go.Proofs.YtmhbpelbkeclpaaGreatDoor
open Go.RowKit Go.Shelf Go.Lib
open Go.Sort hiding Below

/-- What the library's own variables hold. -/
structure Env (w : World) : Prop where
  tab : Lib.TabIs Tryz.prog w "internal/strconv.uint64pow10" .u64 Lib.pow10Tab
  syn : ∃ tp p, w.var? Tryz.prog "strconv.ErrSyntax" = some #[.iface tp p]
  rng : ∃ tp p, w.var? Tryz.prog "strconv.ErrRange" = some #[.iface tp p]

theorem var_below {w w' : World} {n : String} {cs : Array Value} (hv : w.var? Tryz.prog n = some cs) (hb : Below w.heap.size w w') : w'.var? Tryz.prog n = some cs := by
  cases hg : Tryz.prog.globalNamed n with
  | none => unfold World.var? at hv; simp [hg] at hv
  | some g =>
    have hlt : g < w.heap.size := by
      unfold World.var? at hv
      simp only [hg, Option.bind_some] at hv
      cases hh : w.heap[g]? with
      | none => rw [hh] at hv; simp at hv
      | some o => exact (Array.getElem?_eq_some_iff.1 hh).1
    exact var?_below hb hg hlt hv
theorem Env.below {w w' : World} (h : Env w) (hb : Below w.heap.size w w') : Env w' :=
  ⟨var_below h.tab hb, h.syn.imp fun _ h => h.imp fun _ h => var_below h hb, h.rng.imp fun _ h => h.imp fun _ h => var_below h hb⟩
theorem Env.gr {w w' : World} (h : Env w) (hb : Gr w w') : Env w' := h.below hb.below
theorem Env.alloc {w : World} (h : Env w) (o : Obj) : Env (w.alloc o) := h.gr ((Gr.refl _).alloc o)

theorem nDigits_le (u : Nat) (h1 : 1 ≤ u) (hu64 : u < 18446744073709551616) : Lib.nDigits u ≤ 20 := by
  have := Lib.numDigits_eq u h1 hu64
  split at this <;> omega

set_option maxHeartbeats 1000000 in
set_option maxRecDepth 100000 in
theorem iFormatUint_any (u : Nat) (hu : u < 18446744073709551616) (w : World) (he : Env w) :
    Calls Tryz.prog 62 #[.int .u64 u, .int .i64 10] w fun e w' => e = .returned (.string ⟨(Lib.decDigits u).toArray⟩) ∧ Gr w w' := by
  by_cases hs : u < 100
  · have hsm := fun W => Any.internal_strconv_small Tryz.lays283 u hs W
    change ∀ W, Calls Tryz.prog 81 _ _ _ at hsm
    have hlt : (u : Int) < 100 := by omega
    have hwr : IntKind.i64.wrap (u : Int) = (u : Int) := by rw [IntKind.wrap_i64]; omega
    generalize (Lib.decDigits u).toArray = r at *
    go_enter Tryz.func62, Tryz.ntmps62
    go_wp2_with fail
    refine (hsm _).mono ?_
    rintro e w1 ⟨rfl, rfl⟩
    go_wp2
    go_ret
    exact ⟨rfl, Gr.refl _⟩
  · have hu1 : 1 ≤ u := by omega
    have hnlt : ¬ (u : Int) < 100 := by omega
    have hnd := nDigits_le u hu1 hu
    have hnum := fun W hW => Any.internal_strconv_numDigits Tryz.laysM284 u hu1 hu W hW
    change ∀ W, _ → Calls Tryz.prog 82 _ _ _ at hnum
    have hH0 := Lib.holds_zero0 w 117 (Lib.nDigits u) (by omega)
    have hfmt := Any.internal_strconv_formatBase10 Tryz.lays285 w.heap.size 0 24 u (Array.replicate (Lib.nDigits u) 0) (w.alloc (.cells Lib.zeros24 117)) hH0 (by rw [Array.size_replicate]; exact Lib.lt_pow_nDigits u) hu (by rw [Array.size_replicate]; omega)
    change Calls Tryz.prog 83 _ _ _ at hfmt
    rw [Array.size_replicate] at hfmt
    have HH0 : Hid (Holds (fun (b : UInt8) => Value.int .u8 (b.toNat : Int)) (w.alloc (.cells Lib.zeros24 117)) w.heap.size 0 (Array.replicate (Lib.nDigits u) 0)) := hH0
    clear hH0
    have hal : Tryz.prog.arrayLen 117 = 24 := by kernel_rfl
    have hsl : ∀ W, (Instr.sliceAt 117 (.pointer (some ⟨w.heap.size, 0, none⟩)) none (some (.int .i64 (Lib.nDigits u : Int))) none).run Tryz.prog W = .ok (.slice (some ⟨w.heap.size, 0, none⟩) (Lib.nDigits u) 24) W := fun W => by
      rw [run_sliceAt_array_h W 117 ⟨w.heap.size, 0, none⟩ (by simp [Program.arrayLen, Program.elem, Tryz.underlying117]) .i64 (Lib.nDigits u : Int) (by omega) (by rw [hal]; omega)]
      go_simp
    have htab := (he.alloc (.cells Lib.zeros24 117)).tab
    have HT : Hid (Lib.TabIs Tryz.prog (w.alloc (.cells Lib.zeros24 117)) "internal/strconv.uint64pow10" .u64 Lib.pow10Tab) := htab
    clear htab hal
    go_enter Tryz.func62, Tryz.ntmps62
    go_wp2_with fail
    refine (hnum _ HT.out).mono ?_
    rintro e w1 ⟨rfl, rfl⟩
    go_wp2_with fail
    refine hfmt.mono ?_
    rintro e w2 ⟨rfl, k, v', dk, rfl, hF⟩
    have hcv : (convert 91 9 (.slice (some ⟨w.heap.size, 0, none⟩) (Lib.nDigits u) 24)).run Tryz.prog ((putRow (fun (b : UInt8) => Value.int .u8 (b.toNat : Int)) (w.alloc (.cells Lib.zeros24 117)) w.heap.size 0 dk).drewN k) = .ok (.string ⟨(Lib.decDigits u).toArray⟩) ((putRow (fun (b : UInt8) => Value.int .u8 (b.toNat : Int)) (w.alloc (.cells Lib.zeros24 117)) w.heap.size 0 dk).drewN k) := by
      have h := run_convert_bytes_back (P := Tryz.prog) ((putRow (fun (b : UInt8) => Value.int .u8 (b.toNat : Int)) (w.alloc (.cells Lib.zeros24 117)) w.heap.size 0 dk).drewN k) 91 9 5 ⟨w.heap.size, 0, none⟩ 24 (Lib.decDigits u) Tryz.underlying91 Tryz.underlying5 Tryz.underlying9 (fun j hj => by
        rw [Lib.row_is_numeral hF j hj, Lib.add_plain, World.cell?_drewN]
        exact cell?_putRow (fun (b : UInt8) => Value.int .u8 (b.toNat : Int)) _ w.heap.size 0 _ dk HH0.out (by rw [hF.size, Array.size_replicate]) j (by rw [hF.size]; rw [Lib.decDigits_length] at hj; exact hj))
      rw [Lib.decDigits_length] at h
      exact h
    go_wp2
    go_ret
    obtain ⟨os', _, e⟩ := putRow_grow_new (fun (b : UInt8) => Value.int .u8 (b.toNat : Int)) w #[.cells Lib.zeros24 117] w.heap.size 0 dk (Nat.le_refl _)
    refine ⟨rfl, k, os', ?_⟩
    rw [alloc_eq_grow, e]
    rfl

set_option maxHeartbeats 1000000 in
theorem FormatUint_any (u : Nat) (hu : u < 18446744073709551616) (w : World) (he : Env w) :
    Calls Tryz.prog 45 #[.int .u64 u, .int .i64 10] w fun e w' => e = .returned (.string ⟨(Lib.decDigits u).toArray⟩) ∧ Gr w w' := by
  have H := iFormatUint_any u hu w he
  generalize (Lib.decDigits u).toArray = r at *
  go_enter Tryz.func45, Tryz.ntmps45
  go_wp2_with (go_at_call 62; refine H.mono ?_; rintro e w1 ⟨rfl, hg⟩)
  go_ret
  exact ⟨rfl, hg⟩
end Go.Proofs.YtmhbpelbkeclpaaGreatDoor
