import Derived.Test.YtbomkeginbhhoaaCRef
namespace Go.Proofs.Ytbomkeginbhhoaa
open Go.RowKit Go.Sort
attribute [local go_sem ↓] Go.wp_at_zero Go.wp_at_succ

set_option maxHeartbeats 2000000 in
set_option maxRecDepth 100000 in
theorem rcut_any {rb : Nat} {kind : Int} {v : Value} {l : List P2} (x : P2) (w : World) (hc : RCh w rb kind v l) (hl : l.length * 16 ≤ 140737488355328) :
    Calls Try.prog 32 #[.pointer (some ⟨rb, 0, none⟩), pv x] w fun e w' => e = .returned (.int .i64 ((l.length - (ccut (rbel kind) l x).length : Nat) : Int)) ∧ ∃ v', RCh w' rb kind v' (ccut (rbel kind) l x) ∧ Kp (fun k => k = rb) w w' ∧ ∀ g, v'.ownBlock = some g → w.heap.size ≤ g := by
  have hmx : Try.prog.follows .mixedOrders = true := by kernel_rfl
  obtain ⟨pl, cl, rfl⟩ := hc.lst.form
  obtain ⟨W1, hW1⟩ : ∃ W1, W1 = w.alloc (.cells #[.int .i64 x.1, .int .i64 x.2] 28) := ⟨_, rfl⟩
  have BX0 : Hid (Bx W1 w.heap.size x) := by rw [hW1]; exact Bx.new w x
  have G0 : Gr w W1 := by rw [hW1]; exact (Gr.refl _).alloc _
  have hz := G0.size
  have HC : Hid (RCh W1 rb kind (.slice pl l.length cl) l) := hc.below G0.below
  have HC0 : Hid (RCh w rb kind (.slice pl l.length cl) l) := hc
  have hrb := hc.lt
  obtain ⟨M, hM⟩ : ∃ M, M = ccut (rbel kind) l x := ⟨_, rfl⟩
  have hml := ccut_length (bel := rbel kind) l x
  rw [← hM] at hml ⊢
  have HM : Hid (M = ccut (rbel kind) l x) := hM
  clear hM hc
  go_enter Try.func32, Try.ntmps32
  go_wp2_with fail
  rw [← hW1]
  obtain ⟨bx, hbx⟩ : ∃ bx, bx = w.heap.size := ⟨_, rfl⟩
  rw [← hbx]
  have HX : Hid (∀ W, Below W1.heap.size W1 W → Bx W bx x) := fun W hW => by rw [hbx]; exact BX0.out.below hW BX0.out.1
  have HWS : Hid (w.heap.size < W1.heap.size) := BX0.out.1
  clear hbx BX0 hW1
  go_loopw [5, 6] (fun s5 s6 wr => ∃ k : Nat, k ≤ l.length ∧ s6 = .int .i64 k ∧ wr.ownsRow W1.heap.size 28 2 s5 (ccut (rbel kind) (l.take k) x).length (flatP (ccut (rbel kind) (l.take k) x)) ∧ Below W1.heap.size W1 wr) (fun _ s6 _ => l.length - (RowKit.intOf s6).toNat)
  case atStart => exact ⟨0, Nat.zero_le _, rfl, by simp [ccut, flatP]; exact World.ownsRow_nil _ _ _ _, Below.refl _ _⟩
  case round =>
    obtain ⟨k, hk, rfl, hown, hbw⟩ := hrel
    have hsz := hbw.size
    have C1 := HC.out.below hbw
    have k0 := C1.c0
    have k1 := C1.c1
    have kl := C1.lt
    by_cases hlt : k < l.length
    · have hltz : (k : Int) < (l.length : Int) := by omega
      obtain ⟨y, hy⟩ : ∃ y, l[k]? = some y := ⟨l[k], by simp⟩
      obtain ⟨b1, o1, c1, e1, z1, y1, y2⟩ := C1.lst.at2 hy
      simp only [Value.slice.injEq] at e1
      obtain ⟨rfl, -, rfl⟩ := e1
      obtain ⟨g1, g2⟩ := (HX.out wr hbw).grown
      have g3 := cell_grown (a := ⟨b1, o1 + k * 2, none⟩) z1 y1
      have g4 := cell_grown (a := ⟨b1, o1 + k * 2 + 1, none⟩) z1 y2
      have g5 := cell_grown (a := ⟨rb, 0, none⟩) kl k0
      have g6 := cell_grown (a := ⟨rb, 1, none⟩) kl k1
      have HY : Hid (ccut (rbel kind) (l.take (k + 1)) x = ccut (rbel kind) (l.take k) x ++ (if rbel kind x y then [] else [y])) := ccut_take_succ hy
      have hcl := ccut_le (bel := rbel kind) (m := l) (x := x) k
      have hb := fun W => Below_any kind x y W
      clear hy y1 y2 C1
      generalize ccut (rbel kind) (l.take k) x = f at *
      cases hq : rbel kind x y with
      | true =>
        rw [hq] at hb
        have HE : Hid (ccut (rbel kind) (l.take (k + 1)) x = f) := by rw [HY.out, hq]; simp [Hid]
        clear hq
        go_wp2_with fail
        clear k0 k1
        go_quiet_grown (first | (go_at_call 20; refine Calls.grown_of (v := .bool true) (hb _)))
        have G9 : Gr wr (grow (wr.drewN nq) osq) := ((Gr.refl _).drewN _).grown _
        go_wp2
        refine ⟨⟨k + 1, by omega, by go_num, by rw [HE.out]; exact owns_below hown G9.below, hbw.trans (G9.below.mono hsz)⟩, by simp [RowKit.intOf]; omega⟩
      | false =>
        rw [hq] at hb
        have HE : Hid (ccut (rbel kind) (l.take (k + 1)) x = f ++ [y]) := by rw [HY.out, hq]; simp [Hid]
        clear hq
        go_wp2_with fail
        clear k0 k1
        go_quiet_grown (first | (go_at_call 20; refine Calls.grown_of (v := .bool false) (hb _)))
        have G9 : Gr wr (grow (wr.drewN nq) osq) := ((Gr.refl _).drewN _).grown _
        have hy3 := g3 nq osq
        have hy4 := g4 nq osq
        have hy5 := g6 nq osq
        generalize grow (wr.drewN nq) osq = w9 at *
        have hown9 := owns_below hown G9.below
        have hs9 := G9.size
        clear g1 g2 g3 g4 g5 g6
        go_wp2_with (at_builtin; refine wpApp1 rfl _ _ rfl W1.heap.size _ f.length _ rfl hown9 y rfl (by omega) (by omega) ?_)
        intro g10 c10 w10 ho10 hg10 hl10
        go_wp2
        refine ⟨⟨k + 1, by omega, by go_num, ?_, ?_⟩, by simp [RowKit.intOf]; omega⟩
        · rw [HE.out]
          simpa [flatP_append, flatP_one] using ho10
        · exact (hbw.trans (G9.below.mono hsz)).trans ((Kp.grownBy (S := fun k => W1.heap.size ≤ k) hg10 (fun k hk => (hown9.lt k hk).1)).below (by omega) (fun _ h => h))
    · have hltz : ¬ (k : Int) < (l.length : Int) := by omega
      rw [List.take_of_length_le (by omega), ← HM.out] at hown
      obtain ⟨pw, cw, rfl⟩ := (owns_lst hown).form
      have k2 := C1.fz
      have HO : Hid (wr.ownsRow W1.heap.size 28 2 (.slice pw M.length cw) M.length (flatP M)) := hown
      have HCR : Hid (RCh wr rb kind (.slice pl l.length cl) l) := C1
      have zz : IntKind.i64.wrap ((l.length : Int) - (M.length : Int)) = ((l.length - M.length : Nat) : Int) := by rw [IntKind.wrap_i64]; omega
      clear hown C1
      go_wp2
      go_ret
      have hnoff : (Value.slice pw M.length cw).ownBlock ≠ some rb := fun h => by have := (HO.out.lt rb h).1; omega
      obtain ⟨hch, hks⟩ := HCR.out.set (v2 := .slice pw M.length cw) (l2 := M) (owns_base HO.out (Nat.zero_le _)) hnoff
      refine ⟨by first | rfl | simp, _, hch, (Kp.of_below (G0.below.trans (hbw.mono hz))).trans hks (fun _ _ h => h), fun g hg => Nat.le_trans hz (HO.out.lt g hg).1⟩
end Go.Proofs.Ytbomkeginbhhoaa
