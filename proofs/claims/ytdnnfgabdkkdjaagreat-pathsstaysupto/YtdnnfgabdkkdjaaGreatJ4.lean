import Derived.Test.YtdnnfgabdkkdjaaGreatJ3
import Derived.Test.YtdnnfgabdkkdjaaGreatLRow
namespace Go.Proofs.YtdnnfgabdkkdjaaGreat.Hf
open Go.RowKit Go.Sort Hp
attribute [local go_sem ↓] Go.wp_at_zero Go.wp_at_succ
theorem pick_up {q : It → It → Bool} {M : List It} {a d : Nat} {p : It} (h : Pick q M a d p) : a < d := by
 rcases h.2 with h | h
 ·have := h.1; omega
 ·have := h.1; omega
set_option maxHeartbeats 16000000 in
set_option maxRecDepth 100000 in
theorem downTo_any {hb ff : Nat} {r : Th → Th → Bool} (u : Value) (M : List It) (x : It) (w : World) (kl : hb < w.heap.size) (k0 : w.cell? ⟨hb, 0, none⟩ = some (fv ff)) (hu : Ls EI w u M) (hl : M.length ≤ 140737488355328) (hF : FnOk ff r) :
    Calls Tryz.prog 124 #[.pointer (some ⟨hb, 0, none⟩), u, iv x] w fun e w' => ∃ at_ : Nat, e = .returned (.int .i64 at_) ∧ Dn (ahd r) M x at_ ∧ DnEnd (ahd r) M x at_ ∧ Gr w w' := by
 have hmx : Tryz.prog.follows .mixedOrders = true := by kernel_rfl
 obtain ⟨pl, cl, rfl⟩ := hu.form
 obtain ⟨B0, hB0⟩ : ∃ B0, B0 = w.heap.size := ⟨_, rfl⟩
 obtain ⟨W1, hW1⟩ : ∃ W1, W1 = w.alloc (.cells #[.int .i64 x.1.1, .int .u64 x.1.2.1.1, .int .u64 x.1.2.1.2.1, .int .u64 x.1.2.1.2.2, .int .u64 (x.2 : Nat)] 188) := ⟨_, rfl⟩
 have G1 : Gr w W1 := by rw [hW1]; exact (Gr.refl _).alloc _
 have HG : Hid (Gr w W1) := G1
 have hB : B0 < W1.heap.size := by rw [hW1, hB0]; simp
 obtain ⟨q0, q1, q2, q3, q4⟩ : W1.cell? ⟨B0, 0, none⟩ = some (.int .i64 x.1.1) ∧ W1.cell? ⟨B0, 1, none⟩ = some (.int .u64 x.1.2.1.1) ∧ W1.cell? ⟨B0, 2, none⟩ = some (.int .u64 x.1.2.1.2.1) ∧ W1.cell? ⟨B0, 3, none⟩ = some (.int .u64 x.1.2.1.2.2) ∧ W1.cell? ⟨B0, 4, none⟩ = some (.int .u64 (x.2 : Nat)) := by rw [hW1, hB0]; simp
 have HL : Hid (Ls EI W1 (.slice pl M.length cl) M) := hu.below G1.below
 have kl1 : hb < W1.heap.size := Nat.lt_of_lt_of_le kl G1.size
 have k01 := (G1.cell kl).trans k0
 have hah : ∀ (y z : It) (W : World), hb < W.heap.size → W.cell? ⟨hb, 0, none⟩ = some (fv ff) → Calls Tryz.prog 143 #[.pointer (some ⟨hb, 0, none⟩), iv y, iv z] W fun e w' => e = .returned (.bool (ahd r y z)) ∧ Gr W w' := fun y z W h1 h2 => ahead_any ff r hF y z hb W h1 h2
 have HAH : Hid (∀ (y z : It) (W : World), hb < W.heap.size → W.cell? ⟨hb, 0, none⟩ = some (fv ff) → Calls Tryz.prog 143 #[.pointer (some ⟨hb, 0, none⟩), iv y, iv z] W fun e w' => e = .returned (.bool (ahd r y z)) ∧ Gr W w') := hah
 clear hu G1 hF kl k0 hah
 go_enter Tryz.func124, Tryz.ntmps124
 go_wp2_with fail
 rw [← hW1, ← hB0]
 clear hW1 hB0
 go_loopw [7, 8, 9] (fun s7 s8 _ wr => ∃ a c : Nat, a ≤ M.length ∧ s7 = .int .i64 a ∧ s8 = .int .i64 c ∧ Hid (c = 2 * a + 1) ∧ Gr W1 wr ∧ Hid (Dn (ahd r) M x a)) (fun s7 _ _ _ => M.length - (RowKit.intOf s7).toNat)
 case atStart => exact ⟨0, 1, Nat.zero_le _, rfl, rfl, rfl, Gr.refl _, ⟨Or.inl rfl, .refl _⟩⟩
 case round =>
  obtain ⟨a, c, hal, rfl, rfl, HCA, hgr, AA⟩ := hrel
  by_cases hlt : c < M.length
  ·have hltz : (c : Int) < (M.length : Int) := by omega
   obtain ⟨y, hy⟩ : ∃ y, M[c]? = some y := ⟨M[c]'hlt, by rw [List.getElem?_eq_getElem]⟩
   obtain ⟨b1, o1, c1, e1, z1, x0, x1, x2, x3, x4⟩ := ls_at (HL.out.below hgr.below) hy
   simp only [Value.slice.injEq] at e1
   obtain ⟨rfl, -, rfl⟩ := e1
   have HY : Hid (M[c]? = some y) := hy
   have kr0 := (hgr.cell kl1).trans k01
   have krl := Nat.lt_of_lt_of_le kl1 hgr.size
   have HGR : Hid (Gr W1 wr) := hgr
   have HX : Hid (wr.cell? ⟨b1, o1 + c * 5, none⟩ = some (.int .i64 y.1.1) ∧ wr.cell? ⟨b1, o1 + c * 5 + 1, none⟩ = some (.int .u64 y.1.2.1.1) ∧ wr.cell? ⟨b1, o1 + c * 5 + 2, none⟩ = some (.int .u64 y.1.2.1.2.1) ∧ wr.cell? ⟨b1, o1 + c * 5 + 3, none⟩ = some (.int .u64 y.1.2.1.2.2) ∧ wr.cell? ⟨b1, o1 + c * 5 + 4, none⟩ = some (.int .u64 (y.2 : Nat))) := ⟨x0, x1, x2, x3, x4⟩
   clear hy hgr x0 x1 x2 x3 x4
   go_upto_region 6 with fail
   go_cut [34] (fun sb w' => ∃ b : Bool, sb = .bool b ∧ Hid (∃ p, Pick (ahd r) M a (if b then c + 1 else c) p) ∧ Gr W1 w')
   case first =>
    by_cases hlt2 : c + 1 < M.length
    ·have hlt2z : (c : Int) + 1 < (M.length : Int) := by omega
     have hd0 : (0 : Int) ≤ (c : Int) + 1 := by omega
     have hc0 : (0 : Int) ≤ (c : Int) := by omega
     obtain ⟨z, hz⟩ : ∃ z, M[c + 1]? = some z := ⟨M[c + 1]'hlt2, by rw [List.getElem?_eq_getElem]⟩
     obtain ⟨b2, o2, c2, e2, z2, y0, y1, y2, y3, y4⟩ := ls_at (HL.out.below HGR.out.below) hz
     simp only [Value.slice.injEq, Option.some.injEq, Addr.mk.injEq, and_true] at e2
     obtain ⟨⟨rfl, rfl⟩, -, rfl⟩ := e2
     have HZ : Hid (M[c + 1]? = some z) := hz
     obtain ⟨x0, x1, x2, x3, x4⟩ := HX.out
     have S0 : (wr.drew.cell? ⟨b1, o1 + (c + 1) * 5, none⟩ = some (.int .i64 z.1.1) ∧ wr.drew.cell? ⟨b1, o1 + (c + 1) * 5 + 1, none⟩ = some (.int .u64 z.1.2.1.1) ∧ wr.drew.cell? ⟨b1, o1 + (c + 1) * 5 + 2, none⟩ = some (.int .u64 z.1.2.1.2.1) ∧ wr.drew.cell? ⟨b1, o1 + (c + 1) * 5 + 3, none⟩ = some (.int .u64 z.1.2.1.2.2) ∧ wr.drew.cell? ⟨b1, o1 + (c + 1) * 5 + 4, none⟩ = some (.int .u64 (z.2 : Nat)) ∧ wr.drew.cell? ⟨b1, o1 + c * 5, none⟩ = some (.int .i64 y.1.1) ∧ wr.drew.cell? ⟨b1, o1 + c * 5 + 1, none⟩ = some (.int .u64 y.1.2.1.1) ∧ wr.drew.cell? ⟨b1, o1 + c * 5 + 2, none⟩ = some (.int .u64 y.1.2.1.2.1) ∧ wr.drew.cell? ⟨b1, o1 + c * 5 + 3, none⟩ = some (.int .u64 y.1.2.1.2.2) ∧ wr.drew.cell? ⟨b1, o1 + c * 5 + 4, none⟩ = some (.int .u64 (y.2 : Nat)) ∧ wr.drew.cell? ⟨hb, 0, none⟩ = some (fv ff) ∧ b1 < wr.drew.heap.size ∧ hb < wr.drew.heap.size) := ⟨y0, y1, y2, y3, y4, x0, x1, x2, x3, x4, kr0, z1, krl⟩
     have keepG : ∀ W W' : World, (W.cell? ⟨b1, o1 + (c + 1) * 5, none⟩ = some (.int .i64 z.1.1) ∧ W.cell? ⟨b1, o1 + (c + 1) * 5 + 1, none⟩ = some (.int .u64 z.1.2.1.1) ∧ W.cell? ⟨b1, o1 + (c + 1) * 5 + 2, none⟩ = some (.int .u64 z.1.2.1.2.1) ∧ W.cell? ⟨b1, o1 + (c + 1) * 5 + 3, none⟩ = some (.int .u64 z.1.2.1.2.2) ∧ W.cell? ⟨b1, o1 + (c + 1) * 5 + 4, none⟩ = some (.int .u64 (z.2 : Nat)) ∧ W.cell? ⟨b1, o1 + c * 5, none⟩ = some (.int .i64 y.1.1) ∧ W.cell? ⟨b1, o1 + c * 5 + 1, none⟩ = some (.int .u64 y.1.2.1.1) ∧ W.cell? ⟨b1, o1 + c * 5 + 2, none⟩ = some (.int .u64 y.1.2.1.2.1) ∧ W.cell? ⟨b1, o1 + c * 5 + 3, none⟩ = some (.int .u64 y.1.2.1.2.2) ∧ W.cell? ⟨b1, o1 + c * 5 + 4, none⟩ = some (.int .u64 (y.2 : Nat)) ∧ W.cell? ⟨hb, 0, none⟩ = some (fv ff) ∧ b1 < W.heap.size ∧ hb < W.heap.size) → Gr W W' → (W'.cell? ⟨b1, o1 + (c + 1) * 5, none⟩ = some (.int .i64 z.1.1) ∧ W'.cell? ⟨b1, o1 + (c + 1) * 5 + 1, none⟩ = some (.int .u64 z.1.2.1.1) ∧ W'.cell? ⟨b1, o1 + (c + 1) * 5 + 2, none⟩ = some (.int .u64 z.1.2.1.2.1) ∧ W'.cell? ⟨b1, o1 + (c + 1) * 5 + 3, none⟩ = some (.int .u64 z.1.2.1.2.2) ∧ W'.cell? ⟨b1, o1 + (c + 1) * 5 + 4, none⟩ = some (.int .u64 (z.2 : Nat)) ∧ W'.cell? ⟨b1, o1 + c * 5, none⟩ = some (.int .i64 y.1.1) ∧ W'.cell? ⟨b1, o1 + c * 5 + 1, none⟩ = some (.int .u64 y.1.2.1.1) ∧ W'.cell? ⟨b1, o1 + c * 5 + 2, none⟩ = some (.int .u64 y.1.2.1.2.1) ∧ W'.cell? ⟨b1, o1 + c * 5 + 3, none⟩ = some (.int .u64 y.1.2.1.2.2) ∧ W'.cell? ⟨b1, o1 + c * 5 + 4, none⟩ = some (.int .u64 (y.2 : Nat)) ∧ W'.cell? ⟨hb, 0, none⟩ = some (fv ff) ∧ b1 < W'.heap.size ∧ hb < W'.heap.size) := by
      rintro W W' ⟨a0, a1, a2, a3, a4, b0, b1, b2, b3, b4, d0, d1, d2⟩ hg
      exact ⟨(hg.cell d1).trans a0,(hg.cell d1).trans a1,(hg.cell d1).trans a2,(hg.cell d1).trans a3,(hg.cell d1).trans a4, (hg.cell d1).trans b0,(hg.cell d1).trans b1,(hg.cell d1).trans b2,(hg.cell d1).trans b3,(hg.cell d1).trans b4, (hg.cell d2).trans d0, Nat.lt_of_lt_of_le d1 hg.size, Nat.lt_of_lt_of_le d2 hg.size⟩
     have hah := HAH.out z y
     obtain ⟨bb, hr⟩ : ∃ bb, ahd r z y = bb := ⟨_, rfl⟩
     rw [hr] at hah
     have HP : Hid (∃ p, Pick (ahd r) M a (if bb then c + 1 else c) p) := by
      cases bb
      ·exact ⟨y, HY.out, Or.inl ⟨HCA.out, fun z' hz' => by
         have hzz := HZ.out
         rw [show c + 1 = 2 * a + 2 by have := HCA.out; omega, hz'] at hzz
         cases hzz
         exact hr⟩⟩
      ·exact ⟨z, HZ.out, Or.inr ⟨by rw [HCA.out]; rfl, y, by rw [← HCA.out]; exact HY.out, hr⟩⟩
     have HGD : Hid (Gr W1 wr.drew) := HGR.out.drew
     have kd0 : wr.drew.cell? ⟨hb, 0, none⟩ = some (fv ff) := kr0
     have kdl : hb < wr.drew.heap.size := krl
     clear hz hr x0 x1 x2 x3 x4 y0 y1 y2 y3 y4
     go_region_held3 (fun w' => w'.cell? ⟨b1, o1 + (c + 1) * 5, none⟩ = some (.int .i64 z.1.1) ∧ w'.cell? ⟨b1, o1 + (c + 1) * 5 + 1, none⟩ = some (.int .u64 z.1.2.1.1) ∧ w'.cell? ⟨b1, o1 + (c + 1) * 5 + 2, none⟩ = some (.int .u64 z.1.2.1.2.1) ∧ w'.cell? ⟨b1, o1 + (c + 1) * 5 + 3, none⟩ = some (.int .u64 z.1.2.1.2.2) ∧ w'.cell? ⟨b1, o1 + (c + 1) * 5 + 4, none⟩ = some (.int .u64 (z.2 : Nat)) ∧ w'.cell? ⟨b1, o1 + c * 5, none⟩ = some (.int .i64 y.1.1) ∧ w'.cell? ⟨b1, o1 + c * 5 + 1, none⟩ = some (.int .u64 y.1.2.1.1) ∧ w'.cell? ⟨b1, o1 + c * 5 + 2, none⟩ = some (.int .u64 y.1.2.1.2.1) ∧ w'.cell? ⟨b1, o1 + c * 5 + 3, none⟩ = some (.int .u64 y.1.2.1.2.2) ∧ w'.cell? ⟨b1, o1 + c * 5 + 4, none⟩ = some (.int .u64 (y.2 : Nat)) ∧ w'.cell? ⟨hb, 0, none⟩ = some (fv ff) ∧ b1 < w'.heap.size ∧ hb < w'.heap.size)
      (first | exact S0 | exact keepG _ _ (by assumption) (by assumption) | assumption)
      (first | (go_at_call 143; refine (hah _ (by assumption) (by assumption)).mono ?_; rintro e w5 ⟨rfl, hg5⟩))
     go_wp2_with fail
     go_meet
     exact ⟨bb, rfl, HP, HGD.out.trans hg5⟩
    ·have hlt2z : ¬ (c : Int) + 1 < (M.length : Int) := by omega
     have hc0 : (0 : Int) ≤ (c : Int) := by omega
     have HP : Hid (∃ p, Pick (ahd r) M a (if false then c + 1 else c) p) := ⟨y, HY.out, Or.inl ⟨HCA.out, fun z' hz' => by
      have := (List.getElem?_eq_some_iff.1 hz').1
      have := HCA.out
      omega⟩⟩
     go_quiet (fail)
     go_wp2_with fail
     go_meet
     exact ⟨false, rfl, HP, HGR.out.drewN _⟩
   case rest =>
    obtain ⟨bb, rfl, HPb, hgb⟩ := hcut
    clear HX HY kr0 krl z1
    go_upto_if 34 with fail
    go_cut [8] (fun s8 w' => ∃ (d : Nat) (p : It), s8 = .int .i64 d ∧ Hid (Pick (ahd r) M a d p) ∧ Gr W1 w')
    case first =>
     obtain ⟨p, hp⟩ := HPb.out
     cases bb
     ·go_wp2_with fail
      go_meet
      exact ⟨c, p, rfl, hp, hgb⟩
     ·go_wp2_with fail
      go_meet
      exact ⟨c + 1, p, by first | rfl | simp, hp, hgb⟩
    case rest =>
     obtain ⟨d, y, rfl, HP, hgc⟩ := hcut
     have HGC : Hid (Gr W1 wc) := hgc
     obtain ⟨b2, o2, c2, e2, z2, y0, y1, y2, y3, y4⟩ := ls_at (HL.out.below hgc.below) HP.out.1
     simp only [Value.slice.injEq, Option.some.injEq, Addr.mk.injEq, and_true] at e2
     obtain ⟨⟨rfl, rfl⟩, -, rfl⟩ := e2
     have hdl : d < M.length := (List.getElem?_eq_some_iff.1 HP.out.1).1
     have hdz : (d : Int) < (M.length : Int) := by omega
     have hd0 : (0 : Int) ≤ (d : Int) := by omega
     have kc0 : wc.drew.cell? ⟨hb, 0, none⟩ = some (fv ff) := (HGC.out.cell kl1).trans k01
     have kcl : hb < wc.drew.heap.size := Nat.lt_of_lt_of_le kl1 HGC.out.size
     have S1 : (wc.drew.cell? ⟨b1, o1 + d * 5, none⟩ = some (.int .i64 y.1.1) ∧ wc.drew.cell? ⟨b1, o1 + d * 5 + 1, none⟩ = some (.int .u64 y.1.2.1.1) ∧ wc.drew.cell? ⟨b1, o1 + d * 5 + 2, none⟩ = some (.int .u64 y.1.2.1.2.1) ∧ wc.drew.cell? ⟨b1, o1 + d * 5 + 3, none⟩ = some (.int .u64 y.1.2.1.2.2) ∧ wc.drew.cell? ⟨b1, o1 + d * 5 + 4, none⟩ = some (.int .u64 (y.2 : Nat)) ∧ wc.drew.cell? ⟨B0, 0, none⟩ = some (.int .i64 x.1.1) ∧ wc.drew.cell? ⟨B0, 1, none⟩ = some (.int .u64 x.1.2.1.1) ∧ wc.drew.cell? ⟨B0, 2, none⟩ = some (.int .u64 x.1.2.1.2.1) ∧ wc.drew.cell? ⟨B0, 3, none⟩ = some (.int .u64 x.1.2.1.2.2) ∧ wc.drew.cell? ⟨B0, 4, none⟩ = some (.int .u64 (x.2 : Nat)) ∧ wc.drew.cell? ⟨hb, 0, none⟩ = some (fv ff) ∧ b1 < wc.drew.heap.size ∧ B0 < wc.drew.heap.size ∧ hb < wc.drew.heap.size) := ⟨y0, y1, y2, y3, y4, (HGC.out.cell hB).trans q0,(HGC.out.cell hB).trans q1,(HGC.out.cell hB).trans q2,(HGC.out.cell hB).trans q3,(HGC.out.cell hB).trans q4, kc0, z2, Nat.lt_of_lt_of_le hB HGC.out.size, kcl⟩
     have keepG1 : ∀ W W' : World, (W.cell? ⟨b1, o1 + d * 5, none⟩ = some (.int .i64 y.1.1) ∧ W.cell? ⟨b1, o1 + d * 5 + 1, none⟩ = some (.int .u64 y.1.2.1.1) ∧ W.cell? ⟨b1, o1 + d * 5 + 2, none⟩ = some (.int .u64 y.1.2.1.2.1) ∧ W.cell? ⟨b1, o1 + d * 5 + 3, none⟩ = some (.int .u64 y.1.2.1.2.2) ∧ W.cell? ⟨b1, o1 + d * 5 + 4, none⟩ = some (.int .u64 (y.2 : Nat)) ∧ W.cell? ⟨B0, 0, none⟩ = some (.int .i64 x.1.1) ∧ W.cell? ⟨B0, 1, none⟩ = some (.int .u64 x.1.2.1.1) ∧ W.cell? ⟨B0, 2, none⟩ = some (.int .u64 x.1.2.1.2.1) ∧ W.cell? ⟨B0, 3, none⟩ = some (.int .u64 x.1.2.1.2.2) ∧ W.cell? ⟨B0, 4, none⟩ = some (.int .u64 (x.2 : Nat)) ∧ W.cell? ⟨hb, 0, none⟩ = some (fv ff) ∧ b1 < W.heap.size ∧ B0 < W.heap.size ∧ hb < W.heap.size) → Gr W W' → (W'.cell? ⟨b1, o1 + d * 5, none⟩ = some (.int .i64 y.1.1) ∧ W'.cell? ⟨b1, o1 + d * 5 + 1, none⟩ = some (.int .u64 y.1.2.1.1) ∧ W'.cell? ⟨b1, o1 + d * 5 + 2, none⟩ = some (.int .u64 y.1.2.1.2.1) ∧ W'.cell? ⟨b1, o1 + d * 5 + 3, none⟩ = some (.int .u64 y.1.2.1.2.2) ∧ W'.cell? ⟨b1, o1 + d * 5 + 4, none⟩ = some (.int .u64 (y.2 : Nat)) ∧ W'.cell? ⟨B0, 0, none⟩ = some (.int .i64 x.1.1) ∧ W'.cell? ⟨B0, 1, none⟩ = some (.int .u64 x.1.2.1.1) ∧ W'.cell? ⟨B0, 2, none⟩ = some (.int .u64 x.1.2.1.2.1) ∧ W'.cell? ⟨B0, 3, none⟩ = some (.int .u64 x.1.2.1.2.2) ∧ W'.cell? ⟨B0, 4, none⟩ = some (.int .u64 (x.2 : Nat)) ∧ W'.cell? ⟨hb, 0, none⟩ = some (fv ff) ∧ b1 < W'.heap.size ∧ B0 < W'.heap.size ∧ hb < W'.heap.size) := by
      rintro W W' ⟨a0, a1, a2, a3, a4, b0, b1, b2, b3, b4, d0, d1, d2, d3⟩ hg
      exact ⟨(hg.cell d1).trans a0,(hg.cell d1).trans a1,(hg.cell d1).trans a2,(hg.cell d1).trans a3,(hg.cell d1).trans a4, (hg.cell d2).trans b0,(hg.cell d2).trans b1,(hg.cell d2).trans b2,(hg.cell d2).trans b3,(hg.cell d2).trans b4, (hg.cell d3).trans d0, Nat.lt_of_lt_of_le d1 hg.size, Nat.lt_of_lt_of_le d2 hg.size, Nat.lt_of_lt_of_le d3 hg.size⟩
     have hah1 := HAH.out y x
     obtain ⟨b8, hr1⟩ : ∃ b8, ahd r y x = b8 := ⟨_, rfl⟩
     have HR8 : Hid (ahd r y x = b8) := hr1
     rw [hr1] at hah1
     have HGD1 : Hid (Gr W1 wc.drew) := HGC.out.drew
     clear y0 y1 y2 y3 y4 hgc hr1
     go_upto_region 8 with fail
     go_cut [43] (fun sb w' => sb = .bool (!b8) ∧ Gr W1 w')
     case first =>
      go_region_held3 (fun w' => w'.cell? ⟨b1, o1 + d * 5, none⟩ = some (.int .i64 y.1.1) ∧ w'.cell? ⟨b1, o1 + d * 5 + 1, none⟩ = some (.int .u64 y.1.2.1.1) ∧ w'.cell? ⟨b1, o1 + d * 5 + 2, none⟩ = some (.int .u64 y.1.2.1.2.1) ∧ w'.cell? ⟨b1, o1 + d * 5 + 3, none⟩ = some (.int .u64 y.1.2.1.2.2) ∧ w'.cell? ⟨b1, o1 + d * 5 + 4, none⟩ = some (.int .u64 (y.2 : Nat)) ∧ w'.cell? ⟨B0, 0, none⟩ = some (.int .i64 x.1.1) ∧ w'.cell? ⟨B0, 1, none⟩ = some (.int .u64 x.1.2.1.1) ∧ w'.cell? ⟨B0, 2, none⟩ = some (.int .u64 x.1.2.1.2.1) ∧ w'.cell? ⟨B0, 3, none⟩ = some (.int .u64 x.1.2.1.2.2) ∧ w'.cell? ⟨B0, 4, none⟩ = some (.int .u64 (x.2 : Nat)) ∧ w'.cell? ⟨hb, 0, none⟩ = some (fv ff) ∧ b1 < w'.heap.size ∧ B0 < w'.heap.size ∧ hb < w'.heap.size)
       (first | exact S1 | exact keepG1 _ _ (by assumption) (by assumption) | assumption)
       (first | (go_at_call 143; refine (hah1 _ (by assumption) (by assumption)).mono ?_; rintro e w7 ⟨rfl, hg7⟩))
      go_wp2_with fail
      go_meet
      exact ⟨by first | rfl | simp, HGD1.out.trans hg7⟩
     case rest =>
      obtain ⟨rfl, hg8⟩ := hcut
      clear S1 keepG1 hah1 kc0 kcl z2
      cases b8
      ·have HR1 : Hid (DnEnd (ahd r) M x a) := Dn.stop HP.out HR8.out
       go_wp2
       go_ret
       exact ⟨a, rfl, AA.out, HR1.out, HG.out.trans hg8⟩
      ·have HR1 : Hid (Dn (ahd r) M x d) := AA.out.step HP.out HR8.out
       go_wp2
       go_roundw
       case rel => exact ⟨d, 2 * d + 1, Nat.le_of_lt hdl, by first | rfl | simp, by first | rfl | go_num | simp, rfl, hg8, HR1.out⟩
       case measure =>
        have := HCA.out
        have := pick_up HP.out
        simp [RowKit.intOf]; omega
  ·have hltz : ¬ (c : Int) < (M.length : Int) := by omega
   have HE : Hid (DnEnd (ahd r) M x a) := Dn.none (by have := HCA.out; omega)
   go_wp2
   go_ret
   exact ⟨a, rfl, AA.out, HE.out, HG.out.trans hgr⟩
end Go.Proofs.YtdnnfgabdkkdjaaGreat.Hf

namespace Go.Proofs.YtdnnfgabdkkdjaaGreat
open Go.RowKit Go.Sort
theorem run_clear_row {P : Program} (w : World) (sT ty elem : TypeId) (z : Value) (g o n c : Nat) (cur : Array Value) (t : TypeId)
    (hu : P.underlying sT = some (.slice elem)) (hz : (zeroValue elem).run P w = .ok z w) (hn : 0 < n)
    (hg : w.heap[g]? = some (.cells cur t (0, 0))) (hfit : o + (Builtin.zeroCells z.cells n).size ≤ cur.size) (h1 : ∀ v ∈ (Builtin.zeroCells z.cells n).toList, v.oneCell' = true) :
    (Builtin.clear_ #[sT] ty #[.slice (some ⟨g, o, none⟩) n c]).run P w =
     .ok (.tuple #[]) (w.setRow g (cur.toList.take o ++ (Builtin.zeroCells z.cells n).toList ++ cur.toList.drop (o + (Builtin.zeroCells z.cells n).size)).toArray) := by
 have hst := run_storeCells_at P g o t (Builtin.zeroCells z.cells n).toList 0 cur w hg (by simpa using hfit) h1
 obtain ⟨m, rfl⟩ : ∃ m, n = m + 1 := ⟨n - 1, by omega⟩
 simp [Builtin.clear_, run_underlying hu, hz, Result.andThen]
 simp at hst
 rw [hst]
theorem owns_clear {P : Program} {α : Type} {E : El α} {w : World} {base : Nat} {e sT : TypeId} {z : Value} {g N cap i : Nat} {M : List α} (ty : TypeId) (c : Nat) (hu : P.underlying sT = some (.slice e)) (hz : ∀ u : World, (zeroValue e).run P u = .ok z u) (hzs : z.cells.size = E.k)
    (hz1 : ∀ j, j < E.k → (z.cells[j]!).oneCell' = true) (hk : 0 < E.k) (h : w.ownsRow base e E.k (.slice (some ⟨g, 0, none⟩) N cap) N (fl E M)) (hM : M.length = N) (hi : i < N) :
    ∃ w', (Builtin.clear_ #[sT] ty #[.slice (some ⟨g, i * E.k, none⟩) (N - i) c]).run P w = .ok (.tuple #[]) w' ∧ w'.ownsRow base e E.k (.slice (some ⟨g, 0, none⟩) i cap) i (fl E (M.take i)) ∧ Kp (fun k => k = g) w w' := by
 obtain ⟨hlen, ⟨h0, _⟩ | ⟨g', cap', cur, hv, hbs, hgg, hn, hm, hcs, htk⟩⟩ := id h
 ·cases h0
 cases hv
 have hsz : (Builtin.zeroCells z.cells (N - i)).size = (N - i) * E.k := by simp [Builtin.zeroCells, hzs]
 have hNk : i * E.k + (N - i) * E.k = N * E.k := by rw [← Nat.add_mul]; congr 1; omega
 have hNc : N * E.k ≤ cap * E.k := Nat.mul_le_mul_right _ hn
 have hfit : i * E.k + (Builtin.zeroCells z.cells (N - i)).size ≤ cur.size := by rw [hsz, hNk, hcs]; exact hNc
 have h1 : ∀ v ∈ (Builtin.zeroCells z.cells (N - i)).toList, v.oneCell' = true := by
  intro v hv
  simp [Builtin.zeroCells] at hv
  obtain ⟨j, _, rfl⟩ := hv
  have := hz1 (j % z.cells.size) (by rw [hzs]; exact Nat.mod_lt _ hk)
  simpa using this
 have hrun := run_clear_row w sT ty e z g (i * E.k) (N - i) c cur e hu (hz w) (by omega) hgg hfit h1
 have hle : i * E.k ≤ cur.size := by omega
 refine ⟨_, hrun, ⟨by rw [fl_length, List.length_take]; congr 1; omega, Or.inr ⟨g, cap, _, rfl, hbs, setRow_heap w g _ _ _ _ hgg, by omega, hm, ?_, ?_⟩⟩, ⟨rfl, rfl, rfl, by simp [World.setRow], fun j _ hne => setRow_other w g j _ hne⟩⟩
 ·simp only [List.size_toArray, List.length_append, List.length_take, List.length_drop, Array.length_toList, hsz]
  omega
 ·rw [List.toList_toArray, List.append_assoc, List.take_append_of_le_length (by simp [hle]), List.take_take, Nat.min_self, ← fl_take, ← htk, List.take_take, Nat.min_eq_left (Nat.mul_le_mul_right _ (by omega))]
end Go.Proofs.YtdnnfgabdkkdjaaGreat

namespace Go.Proofs.YtdnnfgabdkkdjaaGreat.Hf
open Go.RowKit Go.Sort Hp
attribute [local go_sem ↓] Go.wp_at_zero Go.wp_at_succ
theorem own_eq {g n c k : Nat} (h : (Value.slice (some ⟨g, 0, none⟩) n c).ownBlock = some k) : g = k := by simpa [Value.ownBlock] using h
theorem zeroI (w : World) : (zeroValue 188).run Tryz.prog w = .ok (.agg #[.int .i64 0, .int .u64 0, .int .u64 0, .int .u64 0, .int .u64 0]) w := by kernel_rfl
theorem two_set {w : World} {b : Nat} {T : TypeId} {d0 d1 d2 d3 c0 c1 c2 c3 : Value} (h : w.heap[b]? = some (.cells #[d0, d1, d2, d3] T (0, 0))) : ((((w.setCell ⟨b, 0, none⟩ c0).setCell ⟨b, 1, none⟩ c1).setCell ⟨b, 2, none⟩ c2).setCell ⟨b, 3, none⟩ c3).heap[b]? = some (.cells #[c0, c1, c2, c3] T (0, 0)) ∧ Kp (fun k => k = b) w ((((w.setCell ⟨b, 0, none⟩ c0).setCell ⟨b, 1, none⟩ c1).setCell ⟨b, 2, none⟩ c2).setCell ⟨b, 3, none⟩ c3) := by
 have e0 := setCell_eq_setRow w b 0 _ _ _ c0 h
 have h0 := setRow_heap w b _ ((#[d0, d1, d2, d3] : Array Value).setIfInBounds 0 c0) _ _ h
 rw [← e0] at h0
 have k0 : Kp (fun k => k = b) w (w.setCell ⟨b, 0, none⟩ c0) := by rw [e0]; exact ⟨rfl, rfl, rfl, by simp [World.setRow], fun k _ hne => setRow_other _ b k _ (by omega)⟩
 have e1 := setCell_eq_setRow (w.setCell ⟨b, 0, none⟩ c0) b 1 _ _ _ c1 h0
 have h1 := setRow_heap (w.setCell ⟨b, 0, none⟩ c0) b _ (((#[d0, d1, d2, d3] : Array Value).setIfInBounds 0 c0).setIfInBounds 1 c1) _ _ h0
 rw [← e1] at h1
 have k1 : Kp (fun k => k = b) (w.setCell ⟨b, 0, none⟩ c0) ((w.setCell ⟨b, 0, none⟩ c0).setCell ⟨b, 1, none⟩ c1) := by rw [e1]; exact ⟨rfl, rfl, rfl, by simp [World.setRow], fun k _ hne => setRow_other _ b k _ (by omega)⟩
 have e2 := setCell_eq_setRow ((w.setCell ⟨b, 0, none⟩ c0).setCell ⟨b, 1, none⟩ c1) b 2 _ _ _ c2 h1
 have h2 := setRow_heap ((w.setCell ⟨b, 0, none⟩ c0).setCell ⟨b, 1, none⟩ c1) b _ ((((#[d0, d1, d2, d3] : Array Value).setIfInBounds 0 c0).setIfInBounds 1 c1).setIfInBounds 2 c2) _ _ h1
 rw [← e2] at h2
 have k2 : Kp (fun k => k = b) ((w.setCell ⟨b, 0, none⟩ c0).setCell ⟨b, 1, none⟩ c1) (((w.setCell ⟨b, 0, none⟩ c0).setCell ⟨b, 1, none⟩ c1).setCell ⟨b, 2, none⟩ c2) := by rw [e2]; exact ⟨rfl, rfl, rfl, by simp [World.setRow], fun k _ hne => setRow_other _ b k _ (by omega)⟩
 have e3 := setCell_eq_setRow (((w.setCell ⟨b, 0, none⟩ c0).setCell ⟨b, 1, none⟩ c1).setCell ⟨b, 2, none⟩ c2) b 3 _ _ _ c3 h2
 have h3 := setRow_heap (((w.setCell ⟨b, 0, none⟩ c0).setCell ⟨b, 1, none⟩ c1).setCell ⟨b, 2, none⟩ c2) b _ (((((#[d0, d1, d2, d3] : Array Value).setIfInBounds 0 c0).setIfInBounds 1 c1).setIfInBounds 2 c2).setIfInBounds 3 c3) _ _ h2
 rw [← e3] at h3
 have k3 : Kp (fun k => k = b) (((w.setCell ⟨b, 0, none⟩ c0).setCell ⟨b, 1, none⟩ c1).setCell ⟨b, 2, none⟩ c2) ((((w.setCell ⟨b, 0, none⟩ c0).setCell ⟨b, 1, none⟩ c1).setCell ⟨b, 2, none⟩ c2).setCell ⟨b, 3, none⟩ c3) := by rw [e3]; exact ⟨rfl, rfl, rfl, by simp [World.setRow], fun k _ hne => setRow_other _ b k _ (by omega)⟩
 exact ⟨by simpa using h3, (((k0.trans k1 (fun _ _ h => h)).trans k2 (fun _ _ h => h)).trans k3 (fun _ _ h => h))⟩
set_option maxHeartbeats 1000000 in
theorem pop_none {hb ff np : Nat} {v : Value} (w : World) (hH : Hb w hb ff v [] np) : Calls Tryz.prog 94 #[.pointer (some ⟨hb, 0, none⟩)] w fun e w' => e = .returned (ans zt false) ∧ Below w.heap.size w w' := by
 have hpk : ∀ W : World, Gr w W → Calls Tryz.prog 123 #[.pointer (some ⟨hb, 0, none⟩)] W fun e w' => e = .returned (ans zt false) ∧ Gr W w' := fun W h => peek_none W (hH.gr h)
 clear hH
 obtain ⟨W0, hW0⟩ : ∃ W0, W0 = w.alloc (.cells #[.int .i64 0, .int .u64 0, .int .u64 0, .int .u64 0] 149) := ⟨_, rfl⟩
 have G0 : Gr w W0 := by rw [hW0]; exact (Gr.refl _).alloc _
 obtain ⟨A0, hA0⟩ : ∃ A0, A0 = w.heap.size := ⟨_, rfl⟩
 have hA : W0.heap[A0]? = some (.cells #[.int .i64 0, .int .u64 0, .int .u64 0, .int .u64 0] 149 (0, 0)) := by rw [hW0, hA0]; exact heap_new' _ _
 have HAW : Hid (w.heap.size ≤ A0) := by rw [hA0]; exact Nat.le_refl _
 go_enter Tryz.func94, Tryz.ntmps94
 go_wp2_with fail
 rw [← hW0, ← hA0]
 clear hW0 hA0
 refine (hpk _ G0).mono ?_
 rintro e w1 ⟨rfl, hg1⟩
 have HA1 := hid ((hg1.below.block A0 (Array.getElem?_eq_some_iff.1 hA).1).trans hA)
 have hAl : A0 < w1.heap.size := (Array.getElem?_eq_some_iff.1 HA1.out).1
 obtain ⟨a0, a1, a2, a3⟩ : w1.cell? ⟨A0, 0, none⟩ = some (.int .i64 zt.1) ∧ w1.cell? ⟨A0, 1, none⟩ = some (.int .u64 zt.2.1.1) ∧ w1.cell? ⟨A0, 2, none⟩ = some (.int .u64 zt.2.1.2.1) ∧ w1.cell? ⟨A0, 3, none⟩ = some (.int .u64 zt.2.1.2.2) := by simp [World.cell?, HA1.out]
 obtain ⟨b0, b1, b2, b3⟩ : w1.frozen? ⟨A0, 0, none⟩ = false ∧ w1.frozen? ⟨A0, 1, none⟩ = false ∧ w1.frozen? ⟨A0, 2, none⟩ = false ∧ w1.frozen? ⟨A0, 3, none⟩ = false := by simp [World.frozen?, HA1.out]
 clear hA
 go_wp2
 obtain ⟨s1, s2⟩ := two_set (c0 := .int .i64 0) (c1 := .int .u64 0) (c2 := .int .u64 0) (c3 := .int .u64 0) HA1.out
 generalize ((((w1.setCell ⟨A0, 0, none⟩ (.int .i64 0)).setCell ⟨A0, 1, none⟩ (.int .u64 0)).setCell ⟨A0, 2, none⟩ (.int .u64 0)).setCell ⟨A0, 3, none⟩ (.int .u64 0)) = W5 at s1 s2 ⊢
 have hA5 : A0 < W5.heap.size := (Array.getElem?_eq_some_iff.1 s1).1
 obtain ⟨q0, q1, q2, q3⟩ : W5.cell? ⟨A0, 0, none⟩ = some (.int .i64 0) ∧ W5.cell? ⟨A0, 1, none⟩ = some (.int .u64 0) ∧ W5.cell? ⟨A0, 2, none⟩ = some (.int .u64 0) ∧ W5.cell? ⟨A0, 3, none⟩ = some (.int .u64 0) := by simp [World.cell?, s1]
 refine bodyPost_ret (v := ans zt false) (by simp [results, Tryz.results94, go_sem, q0, q1, q2, q3, hA5]) rfl ?_
 refine ⟨rfl, ((((Kp.of_gr (S := fun k => k = A0) (G0.trans hg1)).trans s2 (fun _ _ h => h)).trans (Kp.of_gr (S := fun k => k = A0) ((Gr.refl W5).alloc _)) (fun _ _ h => h)).below (Nat.le_refl _) (fun k hk => by subst hk; exact HAW.out))⟩
structure Po (w2 : World) (hb ff np B2 g cap : Nat) (s : It) (M0 : List It) (r : Th → Th → Bool) (M : List It) (i : Nat) (mv : It) (wr : World) : Prop where
 inv : (M0 = [] ∧ M = [] ∧ i = 0) ∨ PopInv (ahd r) M0 s M i mv
 hp : Hb wr hb ff (.slice (some ⟨g, 0, none⟩) (M0.length + 1) cap) (M ++ [s]) np
 bx : wr.heap[B2]? = some (.cells #[.int .i64 mv.1.1, .int .u64 mv.1.2.1.1, .int .u64 mv.1.2.1.2.1, .int .u64 mv.1.2.1.2.2, .int .u64 (mv.2 : Nat)] 188 (0, 0))
 kp : Kp (fun k => k = g ∨ k = B2) w2 wr
 ne : B2 ≠ g ∧ B2 ≠ hb
theorem Po.len {w2 wr : World} {hb ff np B2 g cap i : Nat} {s mv : It} {M0 M : List It} {r : Th → Th → Bool} (h : Po w2 hb ff np B2 g cap s M0 r M i mv wr) : M.length = M0.length := by
 rcases h.inv with ⟨h1, h2, _⟩ | h
 ·rw [h1, h2]
 ·exact h.len
theorem Po.row {w2 wr : World} {hb ff np B2 g cap i : Nat} {s mv : It} {M0 M : List It} {r : Th → Th → Bool} (h : Po w2 hb ff np B2 g cap s M0 r M i mv wr) : wr.ownsRow 0 188 5 (.slice (some ⟨g, 0, none⟩) (M0.length + 1) cap) (M0.length + 1) (fl EI (M ++ [s])) := by
 have := h.hp.own
 rw [List.length_append, h.len] at this
 exact this
theorem box_set {w : World} {b : Nat} {x y : It} (h : w.heap[b]? = some (.cells #[.int .i64 x.1.1, .int .u64 x.1.2.1.1, .int .u64 x.1.2.1.2.1, .int .u64 x.1.2.1.2.2, .int .u64 (x.2 : Nat)] 188 (0, 0))) : (((((w.setCell ⟨b, 0, none⟩ (.int .i64 y.1.1)).setCell ⟨b, 1, none⟩ (.int .u64 y.1.2.1.1)).setCell ⟨b, 2, none⟩ (.int .u64 y.1.2.1.2.1)).setCell ⟨b, 3, none⟩ (.int .u64 y.1.2.1.2.2)).setCell ⟨b, 4, none⟩ (.int .u64 (y.2 : Nat))).heap[b]? = some (.cells #[.int .i64 y.1.1, .int .u64 y.1.2.1.1, .int .u64 y.1.2.1.2.1, .int .u64 y.1.2.1.2.2, .int .u64 (y.2 : Nat)] 188 (0, 0)) ∧ Kp (fun k => k = b) w (((((w.setCell ⟨b, 0, none⟩ (.int .i64 y.1.1)).setCell ⟨b, 1, none⟩ (.int .u64 y.1.2.1.1)).setCell ⟨b, 2, none⟩ (.int .u64 y.1.2.1.2.1)).setCell ⟨b, 3, none⟩ (.int .u64 y.1.2.1.2.2)).setCell ⟨b, 4, none⟩ (.int .u64 (y.2 : Nat))) := by
 have e0 := setCell_eq_setRow w b 0 _ _ _ (.int .i64 y.1.1) h
 have h0 := setRow_heap w b _ ((#[.int .i64 x.1.1, .int .u64 x.1.2.1.1, .int .u64 x.1.2.1.2.1, .int .u64 x.1.2.1.2.2, .int .u64 (x.2 : Nat)] : Array Value).setIfInBounds 0 (.int .i64 y.1.1)) _ _ h
 rw [← e0] at h0
 have k0 : Kp (fun k => k = b) w (w.setCell ⟨b, 0, none⟩ (.int .i64 y.1.1)) := by rw [e0]; exact ⟨rfl, rfl, rfl, by simp [World.setRow], fun k _ hne => setRow_other _ b k _ (by omega)⟩
 have e1 := setCell_eq_setRow (w.setCell ⟨b, 0, none⟩ (.int .i64 y.1.1)) b 1 _ _ _ (.int .u64 y.1.2.1.1) h0
 have h1 := setRow_heap (w.setCell ⟨b, 0, none⟩ (.int .i64 y.1.1)) b _ (((#[.int .i64 x.1.1, .int .u64 x.1.2.1.1, .int .u64 x.1.2.1.2.1, .int .u64 x.1.2.1.2.2, .int .u64 (x.2 : Nat)] : Array Value).setIfInBounds 0 (.int .i64 y.1.1)).setIfInBounds 1 (.int .u64 y.1.2.1.1)) _ _ h0
 rw [← e1] at h1
 have k1 : Kp (fun k => k = b) (w.setCell ⟨b, 0, none⟩ (.int .i64 y.1.1)) ((w.setCell ⟨b, 0, none⟩ (.int .i64 y.1.1)).setCell ⟨b, 1, none⟩ (.int .u64 y.1.2.1.1)) := by rw [e1]; exact ⟨rfl, rfl, rfl, by simp [World.setRow], fun k _ hne => setRow_other _ b k _ (by omega)⟩
 have e2 := setCell_eq_setRow ((w.setCell ⟨b, 0, none⟩ (.int .i64 y.1.1)).setCell ⟨b, 1, none⟩ (.int .u64 y.1.2.1.1)) b 2 _ _ _ (.int .u64 y.1.2.1.2.1) h1
 have h2 := setRow_heap ((w.setCell ⟨b, 0, none⟩ (.int .i64 y.1.1)).setCell ⟨b, 1, none⟩ (.int .u64 y.1.2.1.1)) b _ ((((#[.int .i64 x.1.1, .int .u64 x.1.2.1.1, .int .u64 x.1.2.1.2.1, .int .u64 x.1.2.1.2.2, .int .u64 (x.2 : Nat)] : Array Value).setIfInBounds 0 (.int .i64 y.1.1)).setIfInBounds 1 (.int .u64 y.1.2.1.1)).setIfInBounds 2 (.int .u64 y.1.2.1.2.1)) _ _ h1
 rw [← e2] at h2
 have k2 : Kp (fun k => k = b) ((w.setCell ⟨b, 0, none⟩ (.int .i64 y.1.1)).setCell ⟨b, 1, none⟩ (.int .u64 y.1.2.1.1)) (((w.setCell ⟨b, 0, none⟩ (.int .i64 y.1.1)).setCell ⟨b, 1, none⟩ (.int .u64 y.1.2.1.1)).setCell ⟨b, 2, none⟩ (.int .u64 y.1.2.1.2.1)) := by rw [e2]; exact ⟨rfl, rfl, rfl, by simp [World.setRow], fun k _ hne => setRow_other _ b k _ (by omega)⟩
 have e3 := setCell_eq_setRow (((w.setCell ⟨b, 0, none⟩ (.int .i64 y.1.1)).setCell ⟨b, 1, none⟩ (.int .u64 y.1.2.1.1)).setCell ⟨b, 2, none⟩ (.int .u64 y.1.2.1.2.1)) b 3 _ _ _ (.int .u64 y.1.2.1.2.2) h2
 have h3 := setRow_heap (((w.setCell ⟨b, 0, none⟩ (.int .i64 y.1.1)).setCell ⟨b, 1, none⟩ (.int .u64 y.1.2.1.1)).setCell ⟨b, 2, none⟩ (.int .u64 y.1.2.1.2.1)) b _ (((((#[.int .i64 x.1.1, .int .u64 x.1.2.1.1, .int .u64 x.1.2.1.2.1, .int .u64 x.1.2.1.2.2, .int .u64 (x.2 : Nat)] : Array Value).setIfInBounds 0 (.int .i64 y.1.1)).setIfInBounds 1 (.int .u64 y.1.2.1.1)).setIfInBounds 2 (.int .u64 y.1.2.1.2.1)).setIfInBounds 3 (.int .u64 y.1.2.1.2.2)) _ _ h2
 rw [← e3] at h3
 have k3 : Kp (fun k => k = b) (((w.setCell ⟨b, 0, none⟩ (.int .i64 y.1.1)).setCell ⟨b, 1, none⟩ (.int .u64 y.1.2.1.1)).setCell ⟨b, 2, none⟩ (.int .u64 y.1.2.1.2.1)) ((((w.setCell ⟨b, 0, none⟩ (.int .i64 y.1.1)).setCell ⟨b, 1, none⟩ (.int .u64 y.1.2.1.1)).setCell ⟨b, 2, none⟩ (.int .u64 y.1.2.1.2.1)).setCell ⟨b, 3, none⟩ (.int .u64 y.1.2.1.2.2)) := by rw [e3]; exact ⟨rfl, rfl, rfl, by simp [World.setRow], fun k _ hne => setRow_other _ b k _ (by omega)⟩
 have e4 := setCell_eq_setRow ((((w.setCell ⟨b, 0, none⟩ (.int .i64 y.1.1)).setCell ⟨b, 1, none⟩ (.int .u64 y.1.2.1.1)).setCell ⟨b, 2, none⟩ (.int .u64 y.1.2.1.2.1)).setCell ⟨b, 3, none⟩ (.int .u64 y.1.2.1.2.2)) b 4 _ _ _ (.int .u64 (y.2 : Nat)) h3
 have h4 := setRow_heap ((((w.setCell ⟨b, 0, none⟩ (.int .i64 y.1.1)).setCell ⟨b, 1, none⟩ (.int .u64 y.1.2.1.1)).setCell ⟨b, 2, none⟩ (.int .u64 y.1.2.1.2.1)).setCell ⟨b, 3, none⟩ (.int .u64 y.1.2.1.2.2)) b _ ((((((#[.int .i64 x.1.1, .int .u64 x.1.2.1.1, .int .u64 x.1.2.1.2.1, .int .u64 x.1.2.1.2.2, .int .u64 (x.2 : Nat)] : Array Value).setIfInBounds 0 (.int .i64 y.1.1)).setIfInBounds 1 (.int .u64 y.1.2.1.1)).setIfInBounds 2 (.int .u64 y.1.2.1.2.1)).setIfInBounds 3 (.int .u64 y.1.2.1.2.2)).setIfInBounds 4 (.int .u64 (y.2 : Nat))) _ _ h3
 rw [← e4] at h4
 have k4 : Kp (fun k => k = b) ((((w.setCell ⟨b, 0, none⟩ (.int .i64 y.1.1)).setCell ⟨b, 1, none⟩ (.int .u64 y.1.2.1.1)).setCell ⟨b, 2, none⟩ (.int .u64 y.1.2.1.2.1)).setCell ⟨b, 3, none⟩ (.int .u64 y.1.2.1.2.2)) (((((w.setCell ⟨b, 0, none⟩ (.int .i64 y.1.1)).setCell ⟨b, 1, none⟩ (.int .u64 y.1.2.1.1)).setCell ⟨b, 2, none⟩ (.int .u64 y.1.2.1.2.1)).setCell ⟨b, 3, none⟩ (.int .u64 y.1.2.1.2.2)).setCell ⟨b, 4, none⟩ (.int .u64 (y.2 : Nat))) := by rw [e4]; exact ⟨rfl, rfl, rfl, by simp [World.setRow], fun k _ hne => setRow_other _ b k _ (by omega)⟩
 exact ⟨by simpa using h4, ((((k0.trans k1 (fun _ _ h => h)).trans k2 (fun _ _ h => h)).trans k3 (fun _ _ h => h)).trans k4 (fun _ _ h => h))⟩
theorem Po.move {w2 wr w3 w4 : World} {hb ff np B2 g cap i : Nat} {s mv z : It} {M0 M : List It} {r : Th → Th → Bool} (h : Po w2 hb ff np B2 g cap s M0 r M i mv wr) (h0 : 0 < i) (hz : (M ++ [s])[i]? = some z)
    (b1 : w3.heap[B2]? = some (.cells #[.int .i64 z.1.1, .int .u64 z.1.2.1.1, .int .u64 z.1.2.1.2.1, .int .u64 z.1.2.1.2.2, .int .u64 (z.2 : Nat)] 188 (0, 0))) (b2 : Kp (fun k => k = B2) wr w3) (o4 : w4.ownsRow 0 188 5 (.slice (some ⟨g, 0, none⟩) (M0.length + 1) cap) (M0.length + 1) (fl EI ((M ++ [s]).set i mv))) (k4 : Kp (fun k => k = g) w3 w4) :
    Po w2 hb ff np B2 g cap s M0 r (M.set i mv) (par i) z w4.drew := by
 have hgb : hb ≠ g := fun e => h.hp.off (by rw [e]; rfl)
 rcases h.inv with ⟨_, _, e⟩ | hi
 ·omega
 ·obtain ⟨y, hy, hs⟩ := hi.step h0
  have hil : i < M.length := by rw [hi.len]; exact hi.ilt
  rw [List.getElem?_append_left hil, hy] at hz
  cases hz
  have kD : Kp (fun k => k = g ∨ k = B2) wr w4.drew := ((b2.mono (fun _ h => Or.inr h)).trans (k4.mono (fun _ h => Or.inl h)) (fun _ _ h => h)).trans (Kp.of_gr (S := fun k => k = g ∨ k = B2) (Gr.refl _).drew) (fun _ _ h => h)
  rw [List.set_append_left _ _ hil] at o4
  refine ⟨Or.inr hs, ⟨(kD.block hb h.hp.lt (fun e => e.elim hgb (fun e => h.ne.2 e.symm))).trans h.hp.blk, ?_, h.hp.off⟩, ?_, h.kp.trans kD (fun _ _ h => h), h.ne⟩
  ·rw [List.length_append, List.length_set, hi.len]
   exact owns_below o4 (Gr.refl _).drew.below
  ·exact ((Gr.refl w4).drew.below.block B2 (Nat.lt_of_lt_of_le (Array.getElem?_eq_some_iff.1 b1).1 k4.size)).trans ((k4.block B2 (Array.getElem?_eq_some_iff.1 b1).1 h.ne.1).trans b1)
theorem Po.done {w2 wr : World} {hb ff np B2 g cap : Nat} {s mv t : It} {M0 M : List It} {r : Th → Th → Bool} (h : Po w2 hb ff np B2 g cap s M0 r M 0 mv wr) (ht : (M0 ++ [s])[0]? = some t) :
    ((M ++ [s]).set 0 mv).take M0.length = M.set 0 mv ∧ (t :: M.set 0 mv).Perm (M0 ++ [s]) ∧ (Tot (ahd r) → Heapy (ahd r) (M0 ++ [s]) → Heapy (ahd r) (M.set 0 mv)) := by
 rcases h.inv with ⟨rfl, rfl, _⟩ | hi
 ·simp at ht
  subst ht
  exact ⟨by simp, by simp, fun _ _ i x y _ hx _ => by simp at hx⟩
 ·have hil : 0 < M.length := by rw [hi.len]; exact hi.ilt
  obtain ⟨⟨u, hu, hp⟩, hh⟩ := hi.done
  rw [List.getElem?_append_left hi.ilt, hu] at ht
  cases ht
  refine ⟨?_, hp.trans ?_, fun hA hH => hh hA ?_⟩
  ·rw [List.set_append_left _ _ hil, List.take_left' (by rw [List.length_set, hi.len])]
  ·exact (List.perm_append_comm (l₁ := [s]) (l₂ := M0))
  ·have := hH.take M0.length
   rwa [List.take_left' rfl] at this
set_option maxHeartbeats 16000000 in
set_option maxRecDepth 100000 in
theorem pop_any {hb ff np : Nat} {v : Value} {L : List It} {t : It} {r : Th → Th → Bool} (w : World) (hH : Hb w hb ff v L np) (ht : L[0]? = some t) (hl : L.length ≤ 140737488355328) (hF : FnOk ff r) :
    Calls Tryz.prog 94 #[.pointer (some ⟨hb, 0, none⟩)] w fun e w' => e = .returned (ans t.1 true) ∧ ∃ v' L', Hb w' hb ff v' L' np ∧ (t :: L').Perm L ∧ (Tot (ahd r) → Heapy (ahd r) L → Heapy (ahd r) L') ∧ Turn hb v v' w w' := by
 have hmx : Tryz.prog.follows .mixedOrders = true := by kernel_rfl
 have hpk : ∀ W : World, Gr w W → Calls Tryz.prog 123 #[.pointer (some ⟨hb, 0, none⟩)] W fun e w' => e = .returned (ans t.1 true) ∧ Gr W w' := fun W h => peek_any W (hH.gr h) ht
 obtain ⟨M0, s, rfl⟩ : ∃ M0 s, L = M0 ++ [s] := by
  have hne : L ≠ [] := by intro e; rw [e] at ht; simp at ht
  exact ⟨L.dropLast, L.getLast hne, (List.dropLast_concat_getLast hne).symm⟩
 have HT : Hid ((M0 ++ [s])[0]? = some t) := ht
 have hlm : M0.length + 1 ≤ 140737488355328 := by simpa using hl
 obtain ⟨g, cap, rfl, hcp⟩ : ∃ g cap, v = .slice (some ⟨g, 0, none⟩) (M0.length + 1) cap ∧ M0.length + 1 ≤ cap ∧ cap ≤ maxLen := by
  obtain ⟨h1, ⟨_, h0⟩ | ⟨g', cap', cur, hv, _, _, hn, hm, _⟩⟩ := id hH.own
  ·simp at h0
  ·rw [List.length_append] at hv hn
   exact ⟨g', cap', hv, hn, hm⟩
 obtain ⟨hcp1, hcp2⟩ := hcp
 unfold maxLen at hcp2
 have HH0 : Hid (Hb w hb ff (.slice (some ⟨g, 0, none⟩) (M0.length + 1) cap) (M0 ++ [s]) np) := hH
 clear hH ht hl
 obtain ⟨W0, hW0⟩ : ∃ W0, W0 = w.alloc (.cells #[.int .i64 0, .int .u64 0, .int .u64 0, .int .u64 0] 149) := ⟨_, rfl⟩
 have G0 : Gr w W0 := by rw [hW0]; exact (Gr.refl _).alloc _
 obtain ⟨A0, hA0⟩ : ∃ A0, A0 = w.heap.size := ⟨_, rfl⟩
 have hA : W0.heap[A0]? = some (.cells #[.int .i64 0, .int .u64 0, .int .u64 0, .int .u64 0] 149 (0, 0)) := by rw [hW0, hA0]; exact heap_new' _ _
 have HAW : Hid (w.heap.size ≤ A0) := by rw [hA0]; exact Nat.le_refl _
 go_enter Tryz.func94, Tryz.ntmps94
 go_wp2_with fail
 rw [← hW0, ← hA0]
 clear hA0
 clear hW0
 refine (hpk _ G0).mono ?_
 rintro e w1 ⟨rfl, hg1⟩
 clear hpk
 have HG1 : Hid (Gr w w1) := G0.trans hg1
 have HH1 : Hid (Hb w1 hb ff (.slice (some ⟨g, 0, none⟩) (M0.length + 1) cap) (M0 ++ [s]) np) := HH0.out.gr HG1.out
 have k1 := HH1.out.c1
 have kl := HH1.out.lt
 obtain ⟨b1, o1, c1, e1, z1, x0, x1, x2, x3, x4⟩ := ls_at HH1.out.lst (j := M0.length) (x := s) (by simp)
 clear z1
 simp only [Value.slice.injEq, Option.some.injEq, Addr.mk.injEq, and_true] at e1
 obtain ⟨⟨rfl, rfl⟩, -, rfl⟩ := e1
 rw [Nat.zero_add] at x0 x1 x2 x3 x4
 have hgl : g < w1.heap.size := HH1.out.row g rfl
 have m0 : (0 : Int) ≤ (M0.length : Int) := by omega
 have m1 : (M0.length : Int) < (M0.length : Int) + 1 := by omega
 obtain ⟨A1, hA1⟩ : ∃ A1, A1 = w1.heap.size := ⟨_, rfl⟩
 obtain ⟨B2, hB2⟩ : ∃ B2, B2 = A1 + 1 := ⟨_, rfl⟩
 obtain ⟨W2, hW2⟩ : ∃ W2, W2 = (w1.alloc (.cells #[.int .i64 t.1.1, .int .u64 t.1.2.1.1, .int .u64 t.1.2.1.2.1, .int .u64 t.1.2.1.2.2] 149)).alloc (.cells #[.int .i64 s.1.1, .int .u64 s.1.2.1.1, .int .u64 s.1.2.1.2.1, .int .u64 s.1.2.1.2.2, .int .u64 (s.2 : Nat)] 188) := ⟨_, rfl⟩
 have hBX : W2.heap[B2]? = some (.cells #[.int .i64 s.1.1, .int .u64 s.1.2.1.1, .int .u64 s.1.2.1.2.1, .int .u64 s.1.2.1.2.2, .int .u64 (s.2 : Nat)] 188 (0, 0)) := by
  have h := heap_new' (w1.alloc (.cells #[.int .i64 t.1.1, .int .u64 t.1.2.1.1, .int .u64 t.1.2.1.2.1, .int .u64 t.1.2.1.2.2] 149)) (.cells #[.int .i64 s.1.1, .int .u64 s.1.2.1.1, .int .u64 s.1.2.1.2.1, .int .u64 s.1.2.1.2.2, .int .u64 (s.2 : Nat)] 188)
  rw [show (w1.alloc (.cells #[.int .i64 t.1.1, .int .u64 t.1.2.1.1, .int .u64 t.1.2.1.2.1, .int .u64 t.1.2.1.2.2] 149)).heap.size = w1.heap.size + 1 by simp] at h
  rw [hW2, hB2, hA1]; exact h
 have G2 : Gr w1 W2 := by rw [hW2]; exact ((Gr.refl _).alloc _).alloc _
 have HA0 : Hid (W2.heap[A0]? = some (.cells #[.int .i64 0, .int .u64 0, .int .u64 0, .int .u64 0] 149 (0, 0))) := ((hg1.trans G2).below.block A0 (Array.getElem?_eq_some_iff.1 hA).1).trans hA
 have HA1 : Hid (W2.heap[A1]? = some (.cells #[.int .i64 t.1.1, .int .u64 t.1.2.1.1, .int .u64 t.1.2.1.2.1, .int .u64 t.1.2.1.2.2] 149 (0, 0))) := by
  rw [hW2, hA1]
  exact (((Gr.refl (w1.alloc (.cells #[.int .i64 t.1.1, .int .u64 t.1.2.1.1, .int .u64 t.1.2.1.2.1, .int .u64 t.1.2.1.2.2] 149))).alloc _).below.block w1.heap.size (by simp)).trans (heap_new' _ _)
 have HNE : Hid (A1 ≠ g ∧ A0 ≠ g ∧ A1 ≠ hb ∧ A0 ≠ hb ∧ A0 ≠ A1 ∧ A1 ≠ B2 ∧ A0 ≠ B2 ∧ w.heap.size ≤ A1 ∧ w.heap.size ≤ A0) := by
  have h1 := HH0.out.lt
  have h2 := HH0.out.row g rfl
  have h3 := HG1.out.size
  have h4 := Nat.lt_of_lt_of_le (Array.getElem?_eq_some_iff.1 hA).1 hg1.size
  have h5 := HAW.out
  refine ⟨?_, ?_, ?_, ?_, ?_, ?_, ?_, ?_, ?_⟩ <;> omega
 have HBN : Hid (B2 ≠ g ∧ B2 ≠ hb ∧ w.heap.size ≤ B2) := by
  have h1 := HH0.out.lt
  have h2 := HH0.out.row g rfl
  have h3 := HG1.out.size
  refine ⟨?_, ?_, ?_⟩ <;> omega
 have HG2 : Hid (Gr w W2) := HG1.out.trans G2
 have HH2 : Hid (Hb W2 hb ff (.slice (some ⟨g, 0, none⟩) (M0.length + 1) cap) (M0 ++ [s]) np) := HH1.out.gr G2
 have HBX : Hid (W2.heap[B2]? = some (.cells #[.int .i64 s.1.1, .int .u64 s.1.2.1.1, .int .u64 s.1.2.1.2.1, .int .u64 s.1.2.1.2.2, .int .u64 (s.2 : Nat)] 188 (0, 0))) := hBX
 clear hg1 hBX G2
 clear hA
 go_upto_region 6 with fail
 rw [← hW2, ← hA1, ← hB2]
 clear hW2 hA1 hB2
 have hBl : B2 < W2.heap.size := (Array.getElem?_eq_some_iff.1 HBX.out).1
 obtain ⟨q0, q1, q2, q3, q4⟩ : W2.cell? ⟨B2, 0, none⟩ = some (.int .i64 s.1.1) ∧ W2.cell? ⟨B2, 1, none⟩ = some (.int .u64 s.1.2.1.1) ∧ W2.cell? ⟨B2, 2, none⟩ = some (.int .u64 s.1.2.1.2.1) ∧ W2.cell? ⟨B2, 3, none⟩ = some (.int .u64 s.1.2.1.2.2) ∧ W2.cell? ⟨B2, 4, none⟩ = some (.int .u64 (s.2 : Nat)) := by simp [World.cell?, HBX.out]
 have hLs : Ls EI W2 (.slice (some ⟨g, 0, none⟩) M0.length cap) M0 := by
  have := HH2.out.lst.cut (k := M0.length) (by simp) cap
  simpa using this
 have S0 : (W2.drew.cell? ⟨hb, 0, none⟩ = some (fv ff) ∧ W2.drew.cell? ⟨hb, 1, none⟩ = some (.slice (some ⟨g, 0, none⟩) (M0.length + 1) cap) ∧ W2.drew.cell? ⟨B2, 0, none⟩ = some (.int .i64 s.1.1) ∧ W2.drew.cell? ⟨B2, 1, none⟩ = some (.int .u64 s.1.2.1.1) ∧ W2.drew.cell? ⟨B2, 2, none⟩ = some (.int .u64 s.1.2.1.2.1) ∧ W2.drew.cell? ⟨B2, 3, none⟩ = some (.int .u64 s.1.2.1.2.2) ∧ W2.drew.cell? ⟨B2, 4, none⟩ = some (.int .u64 (s.2 : Nat)) ∧ hb < W2.drew.heap.size ∧ B2 < W2.drew.heap.size ∧ Ls EI W2.drew (.slice (some ⟨g, 0, none⟩) M0.length cap) M0) := ⟨HH2.out.c0, HH2.out.c1, q0, q1, q2, q3, q4, HH2.out.lt, hBl, hLs.below (Gr.refl W2).drew.below⟩
 have keepG : ∀ W W' : World, (W.cell? ⟨hb, 0, none⟩ = some (fv ff) ∧ W.cell? ⟨hb, 1, none⟩ = some (.slice (some ⟨g, 0, none⟩) (M0.length + 1) cap) ∧ W.cell? ⟨B2, 0, none⟩ = some (.int .i64 s.1.1) ∧ W.cell? ⟨B2, 1, none⟩ = some (.int .u64 s.1.2.1.1) ∧ W.cell? ⟨B2, 2, none⟩ = some (.int .u64 s.1.2.1.2.1) ∧ W.cell? ⟨B2, 3, none⟩ = some (.int .u64 s.1.2.1.2.2) ∧ W.cell? ⟨B2, 4, none⟩ = some (.int .u64 (s.2 : Nat)) ∧ hb < W.heap.size ∧ B2 < W.heap.size ∧ Ls EI W (.slice (some ⟨g, 0, none⟩) M0.length cap) M0) → Gr W W' → (W'.cell? ⟨hb, 0, none⟩ = some (fv ff) ∧ W'.cell? ⟨hb, 1, none⟩ = some (.slice (some ⟨g, 0, none⟩) (M0.length + 1) cap) ∧ W'.cell? ⟨B2, 0, none⟩ = some (.int .i64 s.1.1) ∧ W'.cell? ⟨B2, 1, none⟩ = some (.int .u64 s.1.2.1.1) ∧ W'.cell? ⟨B2, 2, none⟩ = some (.int .u64 s.1.2.1.2.1) ∧ W'.cell? ⟨B2, 3, none⟩ = some (.int .u64 s.1.2.1.2.2) ∧ W'.cell? ⟨B2, 4, none⟩ = some (.int .u64 (s.2 : Nat)) ∧ hb < W'.heap.size ∧ B2 < W'.heap.size ∧ Ls EI W' (.slice (some ⟨g, 0, none⟩) M0.length cap) M0) := by
  rintro W W' ⟨d0, d1, a0, a1, a2, a3, a4, d2, d3, d4⟩ hg
  exact ⟨(hg.cell d2).trans d0, (hg.cell d2).trans d1, (hg.cell d3).trans a0,(hg.cell d3).trans a1,(hg.cell d3).trans a2,(hg.cell d3).trans a3,(hg.cell d3).trans a4, Nat.lt_of_lt_of_le d2 hg.size, Nat.lt_of_lt_of_le d3 hg.size, d4.below hg.below⟩
 have hdown : Calls Tryz.prog 124 #[.pointer (some ⟨hb, 0, none⟩), .slice (some ⟨g, 0, none⟩) M0.length cap, iv s] W2.drew fun e w' => ∃ at_ : Nat, e = .returned (.int .i64 at_) ∧ Dn (ahd r) M0 s at_ ∧ DnEnd (ahd r) M0 s at_ ∧ Gr W2.drew w' := downTo_any _ M0 s W2.drew HH2.out.lt HH2.out.c0 (hLs.below (Gr.refl W2).drew.below) (by omega) hF
 have m2 : (M0.length : Int) ≤ (cap : Int) := by omega
 have m3 : (M0.length : Int) ≤ (M0.length : Int) + 1 := by omega
 clear hLs q0 q1 q2 q3 q4 x0 x1 x2 x3 x4 k1 kl
 go_region_held3 (fun w' => w'.cell? ⟨hb, 0, none⟩ = some (fv ff) ∧ w'.cell? ⟨hb, 1, none⟩ = some (.slice (some ⟨g, 0, none⟩) (M0.length + 1) cap) ∧ w'.cell? ⟨B2, 0, none⟩ = some (.int .i64 s.1.1) ∧ w'.cell? ⟨B2, 1, none⟩ = some (.int .u64 s.1.2.1.1) ∧ w'.cell? ⟨B2, 2, none⟩ = some (.int .u64 s.1.2.1.2.1) ∧ w'.cell? ⟨B2, 3, none⟩ = some (.int .u64 s.1.2.1.2.2) ∧ w'.cell? ⟨B2, 4, none⟩ = some (.int .u64 (s.2 : Nat)) ∧ hb < w'.heap.size ∧ B2 < w'.heap.size ∧ Ls EI w' (.slice (some ⟨g, 0, none⟩) M0.length cap) M0)
  (first | exact S0 | exact keepG _ _ (by assumption) (by assumption) | assumption)
  (first | (go_at_call 124; refine hdown.mono ?_; rintro e w6 ⟨at_, rfl, hdn, hde, hg6⟩))
 have HP6 : Hid (Po W2 hb ff np B2 g cap s M0 r M0 at_ s w6) := by
  have hgg : Gr W2 w6 := (Gr.refl W2).drew.trans hg6
  refine ⟨?_, HH2.out.gr hgg, (hgg.below.block B2 hBl).trans HBX.out, Kp.of_gr hgg, HBN.out.1, HBN.out.2.1⟩
  by_cases hm : M0 = []
  ·refine Or.inl ⟨hm, hm, ?_⟩
   rcases hdn.lt with h | h
   ·exact h
   ·rw [hm] at h; simp at h
  ·exact Or.inr (PopInv.init hdn hde (List.length_pos_iff.2 hm))
 clear hdown S0 keepG hdn hde hg6
 go_wp2_with fail
 go_loopw [9] (fun s9 wr => ∃ (i : Nat) (M : List It) (mv : It), i ≤ M0.length ∧ s9 = .int .i64 i ∧ Hid (Po W2 hb ff np B2 g cap s M0 r M i mv wr)) (fun s9 _ => (RowKit.intOf s9).toNat)
 case atStart =>
  refine ⟨at_, M0, s, ?_, rfl, HP6.out⟩
  rcases HP6.out.inv with ⟨_, _, h⟩ | h
  ·omega
  ·exact Nat.le_of_lt h.ilt
 case round =>
  clear HP6
  obtain ⟨i, M, mv, hil, rfl, HP⟩ := hrel
  have HRO : Hid (wr.ownsRow 0 188 5 (.slice (some ⟨g, 0, none⟩) (M0.length + 1) cap) (M0.length + 1) (fl EI (M ++ [s]))) := HP.out.row
  have hfz := owns_fz HRO.out
  have r1 := HP.out.hp.c1
  have r1f := HP.out.hp.fz 1
  have hlr := HP.out.hp.lt
  have hglr : g < wr.heap.size := (HRO.out.lt g rfl).2
  have hBr : B2 < wr.heap.size := (Array.getElem?_eq_some_iff.1 HP.out.bx).1
  obtain ⟨q0, q1, q2, q3, q4⟩ : wr.cell? ⟨B2, 0, none⟩ = some (.int .i64 mv.1.1) ∧ wr.cell? ⟨B2, 1, none⟩ = some (.int .u64 mv.1.2.1.1) ∧ wr.cell? ⟨B2, 2, none⟩ = some (.int .u64 mv.1.2.1.2.1) ∧ wr.cell? ⟨B2, 3, none⟩ = some (.int .u64 mv.1.2.1.2.2) ∧ wr.cell? ⟨B2, 4, none⟩ = some (.int .u64 (mv.2 : Nat)) := by simp [World.cell?, HP.out.bx]
  obtain ⟨p0, p1, p2, p3, p4⟩ : wr.frozen? ⟨B2, 0, none⟩ = false ∧ wr.frozen? ⟨B2, 1, none⟩ = false ∧ wr.frozen? ⟨B2, 2, none⟩ = false ∧ wr.frozen? ⟨B2, 3, none⟩ = false ∧ wr.frozen? ⟨B2, 4, none⟩ = false := by simp [World.frozen?, HP.out.bx]
  have hil1 : (i : Int) < (M0.length : Int) + 1 := by omega
  have hi0 : (0 : Int) ≤ (i : Int) := by omega
  obtain ⟨z, hz⟩ : ∃ z, (M ++ [s])[i]? = some z := ⟨(M ++ [s])[i]'(by rw [List.length_append, HP.out.len]; simp; omega), by rw [List.getElem?_eq_getElem]⟩
  obtain ⟨b1, o1, c1, e1, z1, y0, y1, y2, y3, y4⟩ := ls_at HP.out.hp.lst hz
  simp only [Value.slice.injEq, Option.some.injEq, Addr.mk.injEq, and_true] at e1
  obtain ⟨⟨rfl, rfl⟩, -, rfl⟩ := e1
  rw [Nat.zero_add] at y0 y1 y2 y3 y4
  have f0 := hfz (i * 5 + 0)
  have f1 := hfz (i * 5 + 1)
  have f2 := hfz (i * 5 + 2)
  have f3 := hfz (i * 5 + 3)
  have f4 := hfz (i * 5 + 4)
  rw [Nat.add_zero] at f0
  have HZ : Hid ((M ++ [s])[i]? = some z) := hz
  have hbg : B2 ≠ g := HBN.out.1
  have hgb : g ≠ B2 := fun e => HBN.out.1 e.symm
  have hbh : B2 ≠ hb := HBN.out.2.1
  have hhb : hb ≠ B2 := fun e => HBN.out.2.1 e.symm
  have hhg : hb ≠ g := fun e => HH0.out.off (by rw [e]; rfl)
  have hgh : g ≠ hb := fun e => HH0.out.off (by rw [← e]; rfl)
  clear hz z1 hfz
  by_cases hpos : 0 < i
  ·have hposz : (0 : Int) < (i : Int) := by omega
   go_wp2_with fail
   go_region
   obtain ⟨hb1, hb2⟩ := box_set (y := z) HP.out.bx
   have hgk : ∀ k, (Value.slice (some ⟨g, 0, none⟩) (M0.length + 1) cap).ownBlock = some k → ¬ k = B2 := by
    intro k hk e
    have h : g = k := by simpa [Value.ownBlock] using hk
    exact hgb (h.trans e)
   have ho3 := owns_kp hb2 HRO.out hgk
   obtain ⟨ho4, hk4⟩ := owns_item (i := i) mv ho3
   have HP2 := hid (HP.out.move hpos HZ.out hb1 hb2 ho4 hk4)
   have hpa := par_lt hpos
   have HPA : Hid (par i < i) := hpa
   have hpar : ∀ W, Calls Tryz.prog 122 #[.int .i64 i] W fun e w' => e = .returned (.int .i64 (par i : Nat)) ∧ w' = W := fun W => parent_any i hpos (by omega) W
   clear hgk hb1 hb2 ho3 ho4 hk4 r1 q0 q1 q2 q3 q4 p0 p1 p2 p3 p4 y0 y1 y2 y3 y4 f0 f1 f2 f3 f4 hpa r1f
   go_wp2_with (go_at_call 122; refine (hpar _).mono ?_; rintro e w4 ⟨rfl, rfl⟩)
   go_roundw
   case rel => exact ⟨par i, _, _, by have := HPA.out; omega, rfl, HP2.out⟩
   case measure => simp [RowKit.intOf]; exact HPA.out
  ·have hpz : ¬ (0 : Int) < (i : Int) := by omega
   have hi00 : i = 0 := by omega
   subst hi00
   simp only [Nat.zero_mul, Nat.zero_add] at y0 y1 y2 y3 y4 f0 f1 f2 f3 f4
   have hm00 : (0 : Int) < (M0.length : Int) + 1 := by omega
   go_wp2_with fail
   go_region
   obtain ⟨ho4, hk4⟩ := owns_item (i := 0) mv HRO.out
   simp only [Nat.zero_mul, Nat.zero_add] at ho4 hk4
   have ho7 := owns_below ho4 (Gr.refl _).drew.below
   have hk7 := hk4.trans (Kp.of_gr (S := fun k => k = g) (Gr.refl _).drew) (fun _ _ h => h)
   generalize World.drew _ = w7 at ho7 hk7 ⊢
   obtain ⟨hD1, hD2, hD3⟩ := HP.out.done HT.out
   obtain ⟨w9, hrun, ho9, hk9⟩ := owns_clear (P := Tryz.prog) (E := EI) (sT := 184) (z := .agg #[.int .i64 0, .int .u64 0, .int .u64 0, .int .u64 0, .int .u64 0]) (i := M0.length) 0 (cap - M0.length) Tryz.underlying184 zeroI rfl (fun j hj => by have hj' : j < 5 := hj; (match j, hj' with | 0, _ => rfl | 1, _ => rfl | 2, _ => rfl | 3, _ => rfl | 4, _ => rfl)) (by decide) ho7 (by rw [List.length_set, List.length_append, HP.out.len]; rfl) (by omega)
   have hrun : Sem.run Tryz.prog (Builtin.clear_ #[184] 0 #[.slice (some ⟨g, M0.length * 5, none⟩) 1 (cap - M0.length)]) w7 = .ok (.tuple #[]) w9 := by
    have e : M0.length + 1 - M0.length = 1 := by omega
    rw [e] at hrun
    exact hrun
   rw [hD1] at ho9
   have HK7 : Hid (Kp (fun k => k = g) wr w7) := hk7
   have HK9 : Hid (Kp (fun k => k = g) wr w9) := hk7.trans hk9 (fun _ _ h => h)
   have HO9 : Hid (w9.ownsRow 0 188 5 (.slice (some ⟨g, 0, none⟩) M0.length cap) M0.length (fl EI (M.set 0 mv))) := ho9
   have HBK : Hid (w9.heap[hb]? = some (.cells #[fv ff, .slice (some ⟨g, 0, none⟩) (M0.length + 1) cap, .int .u64 (np : Nat)] 186 (0, 0))) := (HK9.out.block hb hlr hhg).trans HP.out.hp.blk
   have a7 : w7.cell? ⟨hb, 1, none⟩ = some (.slice (some ⟨g, 0, none⟩) (M0.length + 1) cap) := (HK7.out.cell hlr hhg).trans r1
   have hl7 := Nat.lt_of_lt_of_le hlr HK7.out.size
   have a9 : w9.cell? ⟨hb, 1, none⟩ = some (.slice (some ⟨g, 0, none⟩) (M0.length + 1) cap) := (HK9.out.cell hlr hhg).trans r1
   have a9f : w9.frozen? ⟨hb, 1, none⟩ = false := by simp [World.frozen?, HBK.out]
   have hl9 := Nat.lt_of_lt_of_le hlr HK9.out.size
   have HD : Hid ((t :: M.set 0 mv).Perm (M0 ++ [s]) ∧ (Tot (ahd r) → Heapy (ahd r) (M0 ++ [s]) → Heapy (ahd r) (M.set 0 mv))) := ⟨hD2, hD3⟩
   have HML : Hid ((M.set 0 mv).length = M0.length) := by rw [List.length_set]; exact HP.out.len
   have z3 : ¬ cap = M0.length := by omega
   have z5 : ¬ cap = 0 := by omega
   have HA09 : Hid (w9.heap[A0]? = some (.cells #[.int .i64 0, .int .u64 0, .int .u64 0, .int .u64 0] 149 (0, 0))) := ((HP.out.kp.trans (HK9.out.mono (fun _ h => Or.inl h)) (fun _ _ h => h)).block A0 (Array.getElem?_eq_some_iff.1 HA0.out).1 (fun h => h.elim HNE.out.2.1 HNE.out.2.2.2.2.2.2.1)).trans HA0.out
   have HA19 : Hid (w9.heap[A1]? = some (.cells #[.int .i64 t.1.1, .int .u64 t.1.2.1.1, .int .u64 t.1.2.1.2.1, .int .u64 t.1.2.1.2.2] 149 (0, 0))) := ((HP.out.kp.trans (HK9.out.mono (fun _ h => Or.inl h)) (fun _ _ h => h)).block A1 (Array.getElem?_eq_some_iff.1 HA1.out).1 (fun h => h.elim HNE.out.1 HNE.out.2.2.2.2.2.1)).trans HA1.out
   obtain ⟨u0, u1, u2, u3⟩ : w9.cell? ⟨A0, 0, none⟩ = some (.int .i64 zt.1) ∧ w9.cell? ⟨A0, 1, none⟩ = some (.int .u64 zt.2.1.1) ∧ w9.cell? ⟨A0, 2, none⟩ = some (.int .u64 zt.2.1.2.1) ∧ w9.cell? ⟨A0, 3, none⟩ = some (.int .u64 zt.2.1.2.2) := by simp [World.cell?, HA09.out]
   obtain ⟨ub0, ub1, ub2, ub3⟩ : w9.frozen? ⟨A0, 0, none⟩ = false ∧ w9.frozen? ⟨A0, 1, none⟩ = false ∧ w9.frozen? ⟨A0, 2, none⟩ = false ∧ w9.frozen? ⟨A0, 3, none⟩ = false := by simp [World.frozen?, HA09.out]
   obtain ⟨ut0, ut1, ut2, ut3⟩ : w9.cell? ⟨A1, 0, none⟩ = some (.int .i64 t.1.1) ∧ w9.cell? ⟨A1, 1, none⟩ = some (.int .u64 t.1.2.1.1) ∧ w9.cell? ⟨A1, 2, none⟩ = some (.int .u64 t.1.2.1.2.1) ∧ w9.cell? ⟨A1, 3, none⟩ = some (.int .u64 t.1.2.1.2.2) := by simp [World.cell?, HA19.out]
   have hA0l : A0 < w9.heap.size := (Array.getElem?_eq_some_iff.1 HA09.out).1
   have hA1l : A1 < w9.heap.size := (Array.getElem?_eq_some_iff.1 HA19.out).1
   have n1 : A1 ≠ hb := HNE.out.2.2.1
   have n2 : A0 ≠ hb := HNE.out.2.2.2.1
   have n3 : hb ≠ A1 := fun e => n1 e.symm
   have n4 : hb ≠ A0 := fun e => n2 e.symm
   clear ho4 hk4 ho7 hk7 hk9 ho9 hD1 hD2 hD3 r1 r1f q0 q1 q2 q3 q4 p0 p1 p2 p3 p4 y0 y1 y2 y3 y4 f0 f1 f2 f3 f4
   go_wp2
   obtain ⟨hs1, hs2⟩ := (blk_set HBK.out).1 (.slice (some ⟨g, 0, none⟩) M0.length cap)
   have ho10 := owns_kp hs2 HO9.out (fun k hk e => hgh ((own_eq hk).trans e))
   have hK9 : Kp (fun k => k = hb ∨ (Value.slice (some ⟨g, 0, none⟩) (M0.length + 1) cap).ownBlock = some k) w w9 := (Kp.of_gr HG2.out).trans ((HP.out.kp.trans (HK9.out.mono (fun _ h => Or.inl h)) (fun _ _ h => h))) (fun j hj h => by
    rcases h with h | h
    ·exact Or.inr (by rw [h]; rfl)
    ·have := HBN.out.2.2; omega)
   have hK10 := hK9.trans hs2 (fun _ _ h => Or.inl h)
   generalize w9.setCell ⟨hb, 1, none⟩ (.slice (some ⟨g, 0, none⟩) M0.length cap) = w10 at hs1 hs2 ho10 hK10 ⊢
   have hA10 := (hs2.block A0 hA0l n2).trans HA09.out
   obtain ⟨t1, t2⟩ := two_set (c0 := .int .i64 t.1.1) (c1 := .int .u64 t.1.2.1.1) (c2 := .int .u64 t.1.2.1.2.1) (c3 := .int .u64 t.1.2.1.2.2) hA10
   have ho11 := owns_kp t2 ho10 (fun k hk e => HNE.out.2.1 ((own_eq hk).trans e).symm)
   have hb11 := (t2.block hb (Array.getElem?_eq_some_iff.1 hs1).1 n4).trans hs1
   have hK11 := hK10.trans t2 (fun j hj e => by have := HNE.out.2.2.2.2.2.2.2.2; omega)
   generalize ((((w10.setCell ⟨A0, 0, none⟩ (.int .i64 t.1.1)).setCell ⟨A0, 1, none⟩ (.int .u64 t.1.2.1.1)).setCell ⟨A0, 2, none⟩ (.int .u64 t.1.2.1.2.1)).setCell ⟨A0, 3, none⟩ (.int .u64 t.1.2.1.2.2)) = w11 at t1 t2 ho11 hb11 hK11 ⊢
   obtain ⟨v0, v1, v2, v3⟩ : w11.cell? ⟨A0, 0, none⟩ = some (.int .i64 t.1.1) ∧ w11.cell? ⟨A0, 1, none⟩ = some (.int .u64 t.1.2.1.1) ∧ w11.cell? ⟨A0, 2, none⟩ = some (.int .u64 t.1.2.1.2.1) ∧ w11.cell? ⟨A0, 3, none⟩ = some (.int .u64 t.1.2.1.2.2) := by simp [World.cell?, t1]
   refine bodyPost_ret (v := ans t.1 true) (by simp [results, Tryz.results94, go_sem, v0, v1, v2, v3]) rfl ?_
   refine ⟨rfl, _, M.set 0 mv, ⟨hb11, by rw [HML.out]; exact ho11, ?_⟩, HD.out.1, HD.out.2, hK11, fun q hq => Or.inl hq⟩
   simpa [Value.ownBlock] using hgh
end Go.Proofs.YtdnnfgabdkkdjaaGreat.Hf

namespace Go.Proofs.YtdnnfgabdkkdjaaGreat.Hf
open Go.RowKit Go.Sort Hp
abbrev key (f : Th → Int) : Th → Th → Bool := fun a b => decide (f a < f b)
theorem ahd_false {f : Th → Int} {a b : It} : ahd (key f) a b = false ↔ (f b.1 < f a.1 ∨ (f a.1 = f b.1 ∧ b.2 ≤ a.2)) := by
 unfold ahd key
 split <;> simp <;> omega
theorem tot_key (f : Th → Int) : Tot (ahd (key f)) := by
 refine ⟨fun a b c h1 h2 => ?_, fun a b h => ?_⟩
 ·rw [ahd_false] at *; omega
 ·rw [ahd_false]
  have : ¬ (ahd (key f) a b = false) := by rw [h]; simp
  rw [ahd_false] at this
  omega
structure Hq (w : World) (hb ff : Nat) (v : Value) (f : Th → Int) (L : List It) (np : Nat) : Prop where
 h : Hb w hb ff v L np
 hp : Heapy (ahd (key f)) L
 nd : (L.map Prod.snd).Nodup
 lt : ∀ x ∈ L, x.2 < np
theorem Hq.kp {w w' : World} {hb ff np : Nat} {v : Value} {f : Th → Int} {L : List It} {S : Nat → Prop} (h : Hq w hb ff v f L np) (hk : Kp S w w') (h1 : ¬ S hb) (h2 : ∀ k, v.ownBlock = some k → ¬ S k) : Hq w' hb ff v f L np := ⟨h.h.kp hk h1 h2, h.hp, h.nd, h.lt⟩
theorem newq_any (ff : Nat) (f : Th → Int) (w : World) : Calls Tryz.prog 91 #[fv ff] w fun e w' => ∃ hb, e = .returned (.pointer (some ⟨hb, 0, none⟩)) ∧ w.heap.size ≤ hb ∧ Hq w' hb ff (.slice none 0 0) f [] 0 ∧ Gr w w' := by
 refine (new_any ff w).mono ?_
 rintro e w' ⟨hb, rfl, h1, h2, h3⟩
 exact ⟨hb, rfl, h1, ⟨h2, fun i x y _ hx => by simp at hx, by simp, by simp⟩, h3⟩
theorem pushq_any {hb ff np : Nat} {v : Value} {f : Th → Int} {L : List It} (x : Th) (w : World) (hH : Hq w hb ff v f L np) (hl : (L.length + 1) * 40 ≤ 140737488355328) (hnp : np + 1 < 18446744073709551616) (hF : FnOk ff (key f)) :
    Calls Tryz.prog 93 #[.pointer (some ⟨hb, 0, none⟩), tv x] w fun e w' => ∃ v' L', e = .returned (.tuple #[]) ∧ Hq w' hb ff v' f L' (np + 1) ∧ L'.Perm (L ++ [(x, np)]) ∧ Turn hb v v' w w' := by
 refine (push_any x w hH.h hl hnp hF).mono ?_
 rintro e w' ⟨v', L', rfl, h1, h2, h3, h4⟩
 refine ⟨v', L', rfl, ⟨h1, h3 (tot_key f) hH.hp, ?_, fun y hy => ?_⟩, h2, h4⟩
 ·rw [(h2.map Prod.snd).nodup_iff, List.map_append, List.nodup_append]
  refine ⟨hH.nd, by simp, fun a ha b hb e => ?_⟩
  obtain ⟨y, hy, rfl⟩ := List.mem_map.1 ha
  have := hH.lt y hy
  simp at hb
  omega
 ·rcases List.mem_append.1 (h2.mem_iff.1 hy) with h | h
  ·have := hH.lt y h; omega
  ·simp at h; subst h; simp
theorem popq_any {hb ff np : Nat} {v : Value} {f : Th → Int} {L : List It} {t : It} (w : World) (hH : Hq w hb ff v f L np) (ht : L[0]? = some t) (hl : L.length ≤ 140737488355328) (hF : FnOk ff (key f)) :
    Calls Tryz.prog 94 #[.pointer (some ⟨hb, 0, none⟩)] w fun e w' => ∃ v' L', e = .returned (ans t.1 true) ∧ Hq w' hb ff v' f L' np ∧ (t :: L').Perm L ∧ (∀ x ∈ L', f t.1 < f x.1 ∨ (f t.1 = f x.1 ∧ t.2 < x.2)) ∧ Turn hb v v' w w' := by
 refine (pop_any w hH.h ht hl hF).mono ?_
 rintro e w' ⟨rfl, v', L', h1, h2, h3, h4⟩
 have hnd : ((t :: L').map Prod.snd).Nodup := (h2.map Prod.snd).nodup_iff.2 hH.nd
 rw [List.map_cons, List.nodup_cons] at hnd
 refine ⟨v', L', rfl, ⟨h1, h3 (tot_key f) hH.hp, hnd.2, fun y hy => hH.lt y (h2.mem_iff.1 (List.mem_cons_of_mem _ hy))⟩, h2, fun x hx => ?_, h4⟩
 obtain ⟨i, hi⟩ := List.getElem?_of_mem (h2.mem_iff.1 (List.mem_cons_of_mem t hx))
 have := ahd_false.1 (Heapy.top (tot_key f) hH.hp ht i x hi)
 have hne : t.2 ≠ x.2 := fun e => hnd.1 (List.mem_map.2 ⟨x, hx, e.symm⟩)
 omega
end Go.Proofs.YtdnnfgabdkkdjaaGreat.Hf
