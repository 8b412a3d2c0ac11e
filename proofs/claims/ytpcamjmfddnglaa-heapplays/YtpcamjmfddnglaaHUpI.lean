import Derived.Test.YtpcamjmfddnglaaHBaseI
namespace Go.Proofs.Ytpcamjmfddnglaa.Hi
open Go.RowKit Go.Sort Hp
attribute [local go_sem ↓] Go.wp_at_zero Go.wp_at_succ

set_option maxHeartbeats 2000000 in
set_option maxRecDepth 100000 in
theorem upTo_any {hb ff np : Nat} {v : Value} {L : List It} {r : Th → Th → Bool} (x : It) (w : World) (hH : Hb w hb ff v L np) (hl : L.length ≤ 140737488355328) (hF : FnOk ff r) :
    Calls Try.prog 45 #[.pointer (some ⟨hb, 0, none⟩), iv x] w fun e w' => ∃ at_ : Nat, e = .returned (.int .i64 at_) ∧ Wy (QU (ahd r) L x) L.length at_ ∧ (at_ = 0 ∨ ∃ y, L[par at_]? = some y ∧ ahd r x y = false) ∧ Gr w w' := by
  have hmx : Try.prog.follows .mixedOrders = true := by kernel_rfl
  have ep : ∀ args w, (callFunc 33 args).run Try.prog w = .ok (.enter 33 args) w := enters_of Try.func33 (by kernel_rfl) rfl
  obtain ⟨pl, cl, rfl⟩ := hH.lst.form
  obtain ⟨B0, hB0⟩ : ∃ B0, B0 = w.heap.size := ⟨_, rfl⟩
  obtain ⟨W1, hW1⟩ : ∃ W1, W1 = w.alloc (.cells #[.int .i64 x.1, .int .u64 (x.2 : Nat)] 86) := ⟨_, rfl⟩
  have G1 : Gr w W1 := by rw [hW1]; exact (Gr.refl _).alloc _
  have HG : Hid (Gr w W1) := G1
  have hB : B0 < W1.heap.size := by rw [hW1, hB0]; simp
  obtain ⟨q0, q1⟩ : W1.cell? ⟨B0, 0, none⟩ = some (.int .i64 x.1) ∧ W1.cell? ⟨B0, 1, none⟩ = some (.int .u64 (x.2 : Nat)) := by rw [hW1, hB0]; simp
  have hH1 := hH.gr G1
  have HL : Hid (Ls EI W1 (.slice pl L.length cl) L) := hH1.lst
  have k0 := hH1.c0
  have k1 := hH1.c1
  have kl := hH1.lt
  have k1w := hH.c1
  have klw := hH.lt
  have HF : Hid (FnOk ff r) := hF
  clear hH hH1 G1 hF
  go_enter Try.func45, Try.ntmps45
  go_wp2_with fail
  rw [← hW1, ← hB0]
  clear hW1 hB0 k1w klw
  go_loopw [5] (fun s5 wr => ∃ a : Nat, a ≤ L.length ∧ s5 = .int .i64 a ∧ Gr W1 wr ∧ Hid (Wy (QU (ahd r) L x) L.length a)) (fun s5 _ => (RowKit.intOf s5).toNat)
  case atStart => exact ⟨L.length, Nat.le_refl _, rfl, Gr.refl _, .refl _⟩
  case round =>
    obtain ⟨a, hal, rfl, hgr, AA⟩ := hrel
    by_cases h0 : a = 0
    · subst h0
      go_upto_region 2 with fail
      go_quiet (fail)
      go_wp2
      go_ret
      exact ⟨0, rfl, AA.out, Or.inl rfl, HG.out.trans (hgr.drewN _)⟩
    · have ha0 : 0 < a := Nat.pos_of_ne_zero h0
      have haz : (0 : Int) < (a : Int) := by omega
      have hpa := par_lt ha0
      have hpz : (par a : Int) < (L.length : Int) := by omega
      have hp0 : (0 : Int) ≤ (par a : Int) := by omega
      obtain ⟨y, hy⟩ : ∃ y, L[par a]? = some y := ⟨L[par a]'(by omega), by rw [List.getElem?_eq_getElem]⟩
      obtain ⟨b1, o1, c1, e1, z1, x0, x1⟩ := ls_at (HL.out.below hgr.below) hy
      simp only [Value.slice.injEq] at e1
      obtain ⟨rfl, -, rfl⟩ := e1
      have HY : Hid (L[par a]? = some y) := hy
      have S0 : (wr.drew.cell? ⟨b1, o1 + par a * 2, none⟩ = some (.int .i64 y.1) ∧ wr.drew.cell? ⟨b1, o1 + par a * 2 + 1, none⟩ = some (.int .u64 (y.2 : Nat)) ∧ wr.drew.cell? ⟨B0, 0, none⟩ = some (.int .i64 x.1) ∧ wr.drew.cell? ⟨B0, 1, none⟩ = some (.int .u64 (x.2 : Nat)) ∧ wr.drew.cell? ⟨hb, 0, none⟩ = some (fv ff) ∧ wr.drew.cell? ⟨hb, 1, none⟩ = some (.slice (some ⟨b1, o1, none⟩) L.length cl) ∧ b1 < wr.drew.heap.size ∧ B0 < wr.drew.heap.size ∧ hb < wr.drew.heap.size) := ⟨x0, x1, (hgr.cell hB).trans q0,(hgr.cell hB).trans q1, (hgr.cell kl).trans k0, (hgr.cell kl).trans k1, z1, Nat.lt_of_lt_of_le hB hgr.size, Nat.lt_of_lt_of_le kl hgr.size⟩
      have keepG : ∀ W W' : World, (W.cell? ⟨b1, o1 + par a * 2, none⟩ = some (.int .i64 y.1) ∧ W.cell? ⟨b1, o1 + par a * 2 + 1, none⟩ = some (.int .u64 (y.2 : Nat)) ∧ W.cell? ⟨B0, 0, none⟩ = some (.int .i64 x.1) ∧ W.cell? ⟨B0, 1, none⟩ = some (.int .u64 (x.2 : Nat)) ∧ W.cell? ⟨hb, 0, none⟩ = some (fv ff) ∧ W.cell? ⟨hb, 1, none⟩ = some (.slice (some ⟨b1, o1, none⟩) L.length cl) ∧ b1 < W.heap.size ∧ B0 < W.heap.size ∧ hb < W.heap.size) → Gr W W' → (W'.cell? ⟨b1, o1 + par a * 2, none⟩ = some (.int .i64 y.1) ∧ W'.cell? ⟨b1, o1 + par a * 2 + 1, none⟩ = some (.int .u64 (y.2 : Nat)) ∧ W'.cell? ⟨B0, 0, none⟩ = some (.int .i64 x.1) ∧ W'.cell? ⟨B0, 1, none⟩ = some (.int .u64 (x.2 : Nat)) ∧ W'.cell? ⟨hb, 0, none⟩ = some (fv ff) ∧ W'.cell? ⟨hb, 1, none⟩ = some (.slice (some ⟨b1, o1, none⟩) L.length cl) ∧ b1 < W'.heap.size ∧ B0 < W'.heap.size ∧ hb < W'.heap.size) := by
        rintro W W' ⟨a0, a1, b0, b1, d0, d1, d2, d3, d4⟩ hg
        exact ⟨(hg.cell d2).trans a0,(hg.cell d2).trans a1, (hg.cell d3).trans b0,(hg.cell d3).trans b1, (hg.cell d4).trans d0, (hg.cell d4).trans d1, Nat.lt_of_lt_of_le d2 hg.size, Nat.lt_of_lt_of_le d3 hg.size, Nat.lt_of_lt_of_le d4 hg.size⟩
      have hpar : ∀ W, Calls Try.prog 33 #[.int .i64 a] W fun e w' => e = .returned (.int .i64 (par a : Nat)) ∧ w' = W := fun W => parent_any a ha0 (by omega) W
      have hah : ∀ W : World, hb < W.heap.size → W.cell? ⟨hb, 0, none⟩ = some (fv ff) → Calls Try.prog 51 #[.pointer (some ⟨hb, 0, none⟩), iv x, iv y] W fun e w' => e = .returned (.bool (ahd r x y)) ∧ Gr W w' := fun W h1 h2 => ahead_any ff r HF.out x y hb W h1 h2
      have HGR : Hid (Gr W1 wr.drew) := hgr.drew
      have HPA : Hid (par a < a) := hpa
      have HAL : Hid (a ≤ L.length) := hal
      have hr : ahd r x y = true ∨ ahd r x y = false := by cases ahd r x y; exact Or.inr rfl; exact Or.inl rfl
      clear hy hgr x0 x1 hpa
      have dh0 : wr.drew.cell? ⟨hb, 0, none⟩ = some (fv ff) := S0.2.2.2.2.1
      have dh1 : hb < wr.drew.heap.size := S0.2.2.2.2.2.2.2.2
      rcases hr with hr | hr
      · have HR : Hid (ahd r x y = true) := hr
        rw [hr] at hah
        clear hr
        go_upto_region 2 with fail
        go_region_held3 (fun w' => w'.cell? ⟨b1, o1 + par a * 2, none⟩ = some (.int .i64 y.1) ∧ w'.cell? ⟨b1, o1 + par a * 2 + 1, none⟩ = some (.int .u64 (y.2 : Nat)) ∧ w'.cell? ⟨B0, 0, none⟩ = some (.int .i64 x.1) ∧ w'.cell? ⟨B0, 1, none⟩ = some (.int .u64 (x.2 : Nat)) ∧ w'.cell? ⟨hb, 0, none⟩ = some (fv ff) ∧ w'.cell? ⟨hb, 1, none⟩ = some (.slice (some ⟨b1, o1, none⟩) L.length cl) ∧ b1 < w'.heap.size ∧ B0 < w'.heap.size ∧ hb < w'.heap.size)
          (first | exact S0 | exact keepG _ _ (by assumption) (by assumption) | assumption)
          (first | (go_at_call 33; refine (hpar _).mono ?_; rintro e w4 ⟨rfl, rfl⟩) | (go_at_call 51; refine (hah _ (by assumption) (by assumption)).mono ?_; rintro e w5 ⟨rfl, hg5⟩))
        go_wp2_with (go_at_call 33; refine (hpar _).mono ?_; rintro e w6 ⟨rfl, rfl⟩)
        go_roundw
        case rel => exact ⟨par a, Nat.le_of_lt (Nat.lt_of_lt_of_le HPA.out HAL.out), rfl, HGR.out.trans hg5, AA.out.snoc ha0 ⟨y, HY.out, HR.out⟩⟩
        case measure => simp [RowKit.intOf]; exact HPA.out
      · have HR : Hid (ahd r x y = false) := hr
        rw [hr] at hah
        clear hr
        go_upto_region 2 with fail
        go_region_held3 (fun w' => w'.cell? ⟨b1, o1 + par a * 2, none⟩ = some (.int .i64 y.1) ∧ w'.cell? ⟨b1, o1 + par a * 2 + 1, none⟩ = some (.int .u64 (y.2 : Nat)) ∧ w'.cell? ⟨B0, 0, none⟩ = some (.int .i64 x.1) ∧ w'.cell? ⟨B0, 1, none⟩ = some (.int .u64 (x.2 : Nat)) ∧ w'.cell? ⟨hb, 0, none⟩ = some (fv ff) ∧ w'.cell? ⟨hb, 1, none⟩ = some (.slice (some ⟨b1, o1, none⟩) L.length cl) ∧ b1 < w'.heap.size ∧ B0 < w'.heap.size ∧ hb < w'.heap.size)
          (first | exact S0 | exact keepG _ _ (by assumption) (by assumption) | assumption)
          (first | (go_at_call 33; refine (hpar _).mono ?_; rintro e w4 ⟨rfl, rfl⟩) | (go_at_call 51; refine (hah _ (by assumption) (by assumption)).mono ?_; rintro e w5 ⟨rfl, hg5⟩))
        go_wp2
        go_ret
        exact ⟨a, rfl, AA.out, Or.inr ⟨y, HY.out, HR.out⟩, HG.out.trans (HGR.out.trans hg5)⟩
end Go.Proofs.Ytpcamjmfddnglaa.Hi
