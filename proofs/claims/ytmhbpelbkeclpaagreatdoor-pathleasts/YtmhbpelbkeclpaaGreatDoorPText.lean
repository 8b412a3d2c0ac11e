import Derived.Test.YtmhbpelbkeclpaaGreatDoorPRep
import Derived.Test.YtmhbpelbkeclpaaGreatDoorText
namespace Go.Proofs.YtmhbpelbkeclpaaGreatDoor
open Go.RowKit Go.Shelf Go.Lib
open Go.Sort hiding Below

set_option maxHeartbeats 1000000 in
set_option maxRecDepth 100000 in
theorem PText_bad (u v x : Nat) (n : Int) (w : World) (hf : tfits u v x n = 10) :
    Calls Tryz.prog 36 #[.agg #[.int .u64 u, .int .u64 v, .int .u64 x], .int .i64 n] w fun e w' => e = .returned (.tuple #[.string ⟨#[]⟩, .int .i64 10]) ∧ Below w.heap.size w w' := by
  have hT := fun W => Text_bad u v x n W hf
  clear hf
  go_enter Tryz.func36, Tryz.ntmps36
  go_wp2_with (go_at_call 20; refine (hT _).mono ?_; rintro e w1 ⟨rfl, hb1⟩)
  go_ret2
  exact ⟨rfl, ((Gr.refl _).alloc _).below.trans (hb1.mono (by simp))⟩

set_option maxHeartbeats 2000000 in
set_option maxRecDepth 100000 in
theorem PText_ok (u v x n : Nat) (w : World) (he : Env w) (hu : u < 18446744073709551616) (hv : v < 18446744073709551616) (hx : x < 18446744073709551616) (h1 : 1 ≤ n) (h3 : n ≤ 3) (hf : tfits u v x n = 0) :
    Calls Tryz.prog 36 #[.agg #[.int .u64 u, .int .u64 v, .int .u64 x], .int .i64 n] w fun e w' => e = .returned (.tuple #[.string ⟨(ptext u v x n).toArray⟩, .int .i64 0]) ∧ Below w.heap.size w w' := by
  have he' : Env (w.alloc (.cells #[.int .u64 u, .int .u64 v, .int .u64 x] 34)) := he.below ((Gr.refl _).alloc _).below
  have hT := Text_ok u v x n _ he' hu hv hx h1 h3 hf
  have hl := text_len u v x n hu hv hx
  have hR := fun W => ReplaceAll_one ⟨(ttext u v x n).toArray⟩ 46 44 W (by simp [ByteArray.size]; omega) (by decide)
  have hls : ¬ 9223372036854775807 < 1 + (swp 46 44 (ttext u v x n)).length := by rw [swp_len]; omega
  have HE : Hid ((⟨#[43]⟩ ++ ⟨(swp 46 44 (ttext u v x n)).toArray⟩ : ByteArray) = ⟨(ptext u v x n).toArray⟩) := by
    unfold Hid; ext1; simp [ptext]
  clear hf he hu hv hx h1 h3 hl
  generalize ttext u v x n = tt at *
  generalize ptext u v x n = pp at *
  go_enter Tryz.func36, Tryz.ntmps36
  go_wp2_with (first | (go_at_call 20; refine hT.mono ?_; rintro e w1 ⟨rfl, hb1⟩) | (go_at_call 59; refine (hR _).mono ?_; rintro e w2 ⟨rfl, hb2⟩))
  go_ret2
  rw [← HE.out]
  have hB := ((Gr.refl w).alloc (.cells #[.int .u64 u, .int .u64 v, .int .u64 x] 34)).below.trans (hb1.mono (by simp))
  exact ⟨rfl, hB.trans (hb2.mono hB.size)⟩
end Go.Proofs.YtmhbpelbkeclpaaGreatDoor
