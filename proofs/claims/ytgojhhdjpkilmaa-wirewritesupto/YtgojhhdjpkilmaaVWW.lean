import Derived.Test.YtgojhhdjpkilmaaVWW0
import Derived.Test.YtgojhhdjpkilmaaVWrites
import Derived.Test.YtgojhhdjpkilmaaVTak
namespace Go.Proofs.Ytgojhhdjpkilmaa.Wi
open Go.RowKit Go.Sort
attribute [local go_sem ↓] Go.wp_at_zero Go.wp_at_succ

theorem wpAnyH_strong {P : Program} {ops : Array Oper} {Q : Exit → Act → World → Prop} {md : Region.Mode} {S S' : World → Prop} (hS : ∀ w, S' w → S w) :
    ∀ (fuel : Nat) (listed : Array Bool) (a : Act) (w : World), wpAnyH P md ops Q S' fuel listed a w → wpAnyH P md ops Q S fuel listed a w
  | 0, _, _, _, h => h
  | fuel + 1, _, _, _, h => ⟨h.1, fun i hi => wpOp_mono (fun a' w' h' => ⟨hS _ h'.1, wpAnyH_strong hS fuel _ a' w' h'.2⟩) (h.2 i hi)⟩
theorem rw_new {w : World} {rb : Nat} (h : w.heap[rb]? = some (.cells #[.slice none 0 0, .int .i64 0] 51 (0, 0))) : Rw w rb (.slice none 0 0) [] 0 := ⟨h, ow_nil _, by simp [Value.ownBlock]⟩
theorem bok_new {w : World} {kb : Nat} (V : Nat → Value) (C : Nat → List UInt8) (h : w.heap[kb]? = some (.cells #[.slice none 0 0, .slice none 0 0] 56 (0, 0))) : Bok w kb (.slice none 0 0) (.slice none 0 0) 0 V C :=
  ⟨h, World.ownsRow_nil _ _ _ _, World.ownsRow_nil _ _ _ _, ⟨fun i hi => by omega, fun i j hi => by omega⟩, by simp [Value.ownBlock], by simp [Value.ownBlock], by simp [Value.ownBlock], fun q ⟨i, hi, _⟩ => by omega⟩
set_option maxHeartbeats 2000000 in
set_option maxRecDepth 100000 in
theorem ww_any {v : Value} {os : List Opw} (w : World) (hS : ScrAt w v os) (hbig : (os.map (fun o => 10 + o.l.length)).sum ≤ 4194304) (hlen : os.length ≤ 4194304) :
    Calls Try.prog 6 #[v] w fun e w' => e = .returned (.bool true) ∧ Below w.heap.size w w' := by
  have hmx : Try.prog.follows .mixedOrders = true := by kernel_rfl
  obtain ⟨p, c, rfl, hcell⟩ := hS
  have HC := hid hcell
  have HT : Hid (∀ i, tsum os i ≤ 4194304) := fun i => Nat.le_trans (tsum_le os i) hbig
  clear hcell
  go_enter Try.func6, Try.ntmps6
  go_wp2_with fail
  refine (taken_any _).mono ?_
  rintro r w1 ⟨rfl, hb1⟩
  have B1 := hid hb1
  clear hb1
  go_wp2_with fail
  refine (newwriter_any _).mono ?_
  rintro r w2 ⟨a1, rfl, ha, hA, hg2⟩
  have A2 := hid hA
  have GA := hid ha
  have G2 := hid hg2
  clear ha hA hg2
  go_wp2_with fail
  refine (newwriter_any _).mono ?_
  rintro r w3 ⟨a2, rfl, hx, hX, hg3⟩
  have A3 := hid (A2.out.gr hg3)
  have X3 := hid hX
  have GX : Hid (a1 < w2.heap.size ∧ w2.heap.size ≤ a2) := ⟨A2.out.lt, hx⟩
  have G3 := hid hg3
  clear hX hx hg3
  obtain ⟨W4, hW4⟩ : ∃ W4, W4 = ((w3.alloc (.cells #[.slice none 0 0, .int .i64 0] 51)).alloc (.cells #[.slice none 0 0, .int .i64 0] 51)).alloc (.cells #[.slice none 0 0, .slice none 0 0] 56) := ⟨_, rfl⟩
  obtain ⟨b1, hb1⟩ : ∃ b1, b1 = w3.heap.size := ⟨_, rfl⟩
  have I4 : Hid (WWI w W4 ⟨a1, b1, .slice none 0 0, .slice none 0 0, [], 0⟩ ⟨a2, b1 + 1, .slice none 0 0, .slice none 0 0, [], 0⟩ ⟨b1 + 2, .slice none 0 0, .slice none 0 0, 0, fun _ => .slice none 0 0, fun _ => []⟩ (tsum os 0) 0) := by
    have g4 : Gr w3 W4 := by rw [hW4]; exact (((Gr.refl _).alloc _).alloc _).alloc _
    have r1 : W4.heap[b1]? = some (.cells #[.slice none 0 0, .int .i64 0] 51 (0, 0)) := by
      rw [hW4, hb1]
      rw [((Gr.refl ((w3.alloc (.cells #[.slice none 0 0, .int .i64 0] 51)))).alloc _).alloc _ |>.below.block _ (by simp)]
      exact heap_new' _ _
    have r2 : W4.heap[b1 + 1]? = some (.cells #[.slice none 0 0, .int .i64 0] 51 (0, 0)) := by
      rw [hW4, hb1]
      rw [((Gr.refl ((w3.alloc (.cells #[.slice none 0 0, .int .i64 0] 51)).alloc (.cells #[.slice none 0 0, .int .i64 0] 51))).alloc _) |>.below.block _ (by simp)]
      have := heap_new' (w3.alloc (.cells #[.slice none 0 0, .int .i64 0] 51)) (.cells #[.slice none 0 0, .int .i64 0] 51 (0, 0))
      simpa using this
    have r3 : W4.heap[b1 + 2]? = some (.cells #[.slice none 0 0, .slice none 0 0] 56 (0, 0)) := by
      rw [hW4, hb1]
      have := heap_new' ((w3.alloc (.cells #[.slice none 0 0, .int .i64 0] 51)).alloc (.cells #[.slice none 0 0, .int .i64 0] 51)) (.cells #[.slice none 0 0, .slice none 0 0] 56 (0, 0))
      simpa using this
    have h1 := GA.out
    have h2 := GX.out
    have h3 : a2 < w3.heap.size := X3.out.lt
    have h4 := B1.out.size
    have h5 := G2.out.size
    have h6 := G3.out.size
    have nb : ∀ q, (Value.slice none 0 0).ownBlock = some q → False := fun q h => by simp [Value.ownBlock] at h
    have ps : ∀ a b q, PS a b (.slice none 0 0) (.slice none 0 0) q → q = a ∨ q = b := fun a b q h => by
      rcases h with h | h | h | h
      · exact Or.inl h
      · exact Or.inr h
      · exact (nb q h).elim
      · exact (nb q h).elim
    have ks : ∀ k q, KS k (.slice none 0 0) (.slice none 0 0) 0 (fun _ => .slice none 0 0) q → q = k := fun k q h => by
      rcases h with h | h | h | ⟨i, hi, _⟩
      · exact h
      · exact (nb q h).elim
      · exact (nb q h).elim
      · omega
    have hb4 : Below w.heap.size w W4 := B1.out.trans (((G2.out.trans G3.out).trans g4).below.mono h4)
    refine ⟨⟨A3.out.gr g4, rw_new r1, by simp; omega, by simp [Value.ownBlock], by simp [Value.ownBlock], by simp [Value.ownBlock]⟩, ⟨X3.out.gr g4, rw_new r2, by simp; omega, by simp [Value.ownBlock], by simp [Value.ownBlock], by simp [Value.ownBlock]⟩, bok_new _ _ r3, fun q h7 h8 => ?_, fun q h7 h8 => ?_, fun q h7 h8 => ?_, fun q h7 => ?_, hb4, by simp, by simp, by simp, fun j hj => by simp at hj⟩
    · have e1 := ps _ _ q h7; have e2 := ps _ _ q h8; simp only at e1 e2; omega
    · have e1 := ps _ _ q h7; have e2 := ks _ q h8; simp only at e1 e2; omega
    · have e1 := ps _ _ q h7; have e2 := ks _ q h8; simp only at e1 e2; omega
    · rcases h7 with h7 | h7 | h7
      · have e1 := ps _ _ q h7; simp only at e1; omega
      · have e1 := ps _ _ q h7; simp only at e1; omega
      · have e1 := ks _ q h7; simp only at e1; omega
  clear B1 A2 GA G2 A3 X3 GX G3
  go_wp2_with fail
  rw [← hW4, ← hb1]
  clear hW4 hb1
  go_loopw [8, 9] (fun s8 _ wr => ∃ (i : Nat) (p1 p2 : Pv) (k : Bv), i ≤ os.length ∧ s8 = .int .i64 i ∧ Hid (p1.wb = a1 ∧ p1.rb = b1 ∧ p2.wb = a2 ∧ p2.rb = b1 + 1 ∧ k.kb = b1 + 2 ∧ WWI w wr p1 p2 k (tsum os i) i)) (fun s8 _ _ => os.length - (RowKit.intOf s8).toNat)
  case atStart => exact ⟨0, _, _, _, Nat.zero_le _, rfl, rfl, rfl, rfl, rfl, rfl, I4.out⟩
  case round =>
    clear I4
    obtain ⟨i, p1, p2, k, hi, rfl, HI⟩ := hrel
    by_cases hlt : i < os.length
    · have hltz : (i : Int) < (os.length : Int) := by omega
      obtain ⟨o, ho⟩ : ∃ o, os[i]? = some o := ⟨os[i], by rw [List.getElem?_eq_getElem]⟩
      obtain ⟨hok, b, off, rfl, hb, c0, c1, c2, c3, c4⟩ := HC.out i o ho
      have e : ∀ j, wr.cell? ⟨b, j, none⟩ = w.cell? ⟨b, j, none⟩ := fun j => HI.out.2.2.2.2.2.bl.cell (p := ⟨b, j, none⟩) hb
      rw [← e] at c0 c1 c2 c3 c4
      have hb' : b < wr.heap.size := Nat.lt_of_lt_of_le hb HI.out.2.2.2.2.2.bl.size
      have HOK := hid hok
      have HOI := hid ho
      have HTS : Hid (tsum os i + (10 + o.l.length) ≤ 4194304) := by rw [← tsum_succ ho]; exact HT.out (i + 1)
      clear e hok ho
      obtain ⟨kind, two, vv, z, u, l⟩ := o
      simp only at c0 c1 c2 c3 c4 HTS
      cases two
      · obtain ⟨q1, q2, q3, q4, q5, hI⟩ := HI.out
        have hwr := writes_any _ wr hI.wk (fun W hk => HOK.out.below (hI.bl.trans (hk.below hI.bl.size (fun q hq => hI.ge q (hq.elim Or.inl (fun e => Or.inr (Or.inr e))))))) (by have := hI.l1; have := HTS.out; omega) (by have := HTS.out; show l.length + 2 ≤ _; omega) (by have := hI.cn; omega)
        rw [q1, q2, q5] at hwr
        have HX := hid (fun (w' : World) vw' vr' L' e' sl' sw' n' V' C' (h : Ws wr w' a1 b1 p1.vw p1.vr p1.L (b1 + 2) k.sl k.sw k.n k.V k.C (10 + l.length) vw' vr' L' e' sl' sw' n' V' C') => show ∃ p1' p2' k', p1'.wb = a1 ∧ p1'.rb = b1 ∧ p2'.wb = a2 ∧ p2'.rb = b1 + 1 ∧ k'.kb = b1 + 2 ∧ WWI w w' p1' p2' k' (tsum os (i + 1)) (i + 1) from by
          rw [tsum_succ HOI.out]
          exact ⟨⟨p1.wb, p1.rb, vw', vr', L', e'⟩, p2, ⟨k.kb, sl', sw', n', V', C'⟩, q1, q2, q3, q4, q5, hI.step (by rw [q1, q2, q5]; exact h)⟩)
        clear hI q1 q2 q3 q4 q5 HI
        go_wp2_with fail
        refine hwr.mono ?_
        rintro r w5 ⟨rfl, vw', vr', L', e', sl', sw', n', V', C', h5⟩
        have H5 := hid (HX.out _ _ _ _ _ _ _ _ _ _ h5)
        clear h5 hwr HX
        go_wp2_with fail
        go_roundw
        case rel =>
          obtain ⟨p1', p2', k', h6⟩ := H5.out
          exact ⟨i + 1, p1', p2', k', by omega, by go_num, h6⟩
        case measure => simp [RowKit.intOf]; omega
      · obtain ⟨q1, q2, q3, q4, q5, hI0⟩ := HI.out
        have hI := hI0.swap
        have hwr := writes_any _ wr hI.wk (fun W hk => HOK.out.below (hI.bl.trans (hk.below hI.bl.size (fun q hq => hI.ge q (hq.elim Or.inl (fun e => Or.inr (Or.inr e))))))) (by have := hI.l1; have := HTS.out; omega) (by have := HTS.out; show l.length + 2 ≤ _; omega) (by have := hI.cn; omega)
        rw [q3, q4, q5] at hwr
        have HX := hid (fun (w' : World) vw' vr' L' e' sl' sw' n' V' C' (h : Ws wr w' a2 (b1 + 1) p2.vw p2.vr p2.L (b1 + 2) k.sl k.sw k.n k.V k.C (10 + l.length) vw' vr' L' e' sl' sw' n' V' C') => show ∃ p1' p2' k', p1'.wb = a1 ∧ p1'.rb = b1 ∧ p2'.wb = a2 ∧ p2'.rb = b1 + 1 ∧ k'.kb = b1 + 2 ∧ WWI w w' p1' p2' k' (tsum os (i + 1)) (i + 1) from by
          rw [tsum_succ HOI.out]
          exact ⟨p1, ⟨p2.wb, p2.rb, vw', vr', L', e'⟩, ⟨k.kb, sl', sw', n', V', C'⟩, q1, q2, q3, q4, q5, (hI.step (by rw [q3, q4, q5]; exact h)).swap⟩)
        clear hI hI0 q1 q2 q3 q4 q5 HI
        go_wp2_with fail
        refine hwr.mono ?_
        rintro r w5 ⟨rfl, vw', vr', L', e', sl', sw', n', V', C', h5⟩
        have H5 := hid (HX.out _ _ _ _ _ _ _ _ _ _ h5)
        clear h5 hwr HX
        go_wp2_with fail
        go_roundw
        case rel =>
          obtain ⟨p1', p2', k', h6⟩ := H5.out
          exact ⟨i + 1, p1', p2', k', by omega, by go_num, h6⟩
        case measure => simp [RowKit.intOf]; omega
    · have hltz : ¬ (i : Int) < (os.length : Int) := by omega
      obtain ⟨q1, q2, q3, q4, q5, hI⟩ := HI.out
      have hwh := whole_any wr hI.ok (by have := hI.cn; omega) (fun j hj => by have := hI.cl j hj; have := HT.out i; omega)
      rw [q5] at hwh
      have HJ := hid hI
      have HQ := hid (And.intro q1 (And.intro q2 (And.intro q3 q4)))
      clear hI q1 q2 q3 q4 q5 HI
      go_wp2_with fail
      refine hwh.mono ?_
      rintro r w5 ⟨rfl, k5⟩
      have hsq : ∀ q, SqF k.n k.V q → k.s q := fun q h => Or.inr (Or.inr (Or.inr h))
      have P1 : Hid (Pr w5 a1 b1 p1.vw p1.vr p1.L p1.e) := by
        have := HJ.out.o1.kp k5 (fun q hq e => HJ.out.d1k q hq (hsq q e))
        rw [HQ.out.1, HQ.out.2.1] at this
        exact this
      have P2 : Hid (Pr w5 a2 (b1 + 1) p2.vw p2.vr p2.L p2.e) := by
        have := HJ.out.o2.kp k5 (fun q hq e => HJ.out.d2k q hq (hsq q e))
        rw [HQ.out.2.2.1, HQ.out.2.2.2] at this
        exact this
      have B5 : Hid (Below w.heap.size w w5) := HJ.out.bl.trans (k5.below HJ.out.bl.size (fun q hq => HJ.out.ge q (Or.inr (Or.inr (hsq q hq)))))
      have L1 : Hid (p1.L.length ≤ 140737488355328) := by have := HJ.out.l1; have := HT.out i; show p1.L.length ≤ _; omega
      have L2 : Hid (p2.L.length ≤ 140737488355328) := by have := HJ.out.l2; have := HT.out i; show p2.L.length ≤ _; omega
      clear k5 hsq hwh HJ HQ
      generalize p1.vw = vw1 at P1
      generalize p1.vr = vr1 at P1
      generalize p1.L = M1 at P1 L1
      generalize p1.e = e1 at P1
      generalize p2.vw = vw2 at P2
      generalize p2.vr = vr2 at P2
      generalize p2.L = M2 at P2 L2
      generalize p2.e = e2 at P2
      obtain ⟨pa, na, ca, rfl⟩ := ow_form P1.out.rf.own
      obtain ⟨pb, nb, cb, rfl⟩ := ow_form P2.out.rf.own
      have hda : ∀ W wb vw L e, Below w5.heap.size w5 W → Wr w5 wb vw L e → L.length ≤ 140737488355328 → Calls Try.prog 17 #[.pointer (some ⟨wb, 0, none⟩)] W fun r w' => ∃ q m k, r = .returned (.slice q m k) ∧ (∀ W2, Below w'.heap.size w' W2 → (convert 22 9 (.slice q m k)).run Try.prog W2 = .ok (tx L) W2) ∧ Below W.heap.size W w' := fun W wb vw L e hb hw hl => by
        refine (wdata_any W (hw.below hb) hl).mono ?_
        rintro r w' ⟨d, rfl, ho, hb'⟩
        obtain ⟨q, m, k, rfl⟩ := ow_form (owns_base ho (Nat.zero_le _))
        exact ⟨q, m, k, rfl, fun W2 hb2 => to_text ((ow_ls (owns_base ho (Nat.zero_le _))).below hb2), hb'⟩
      have hd1 := fun W (hb : Below w5.heap.size w5 W) => hda W _ _ _ _ hb P1.out.wt L1.out
      have hd2 := fun W (hb : Below w5.heap.size w5 W) => hda W _ _ _ _ hb P2.out.wt L2.out
      have he1 := fun W (hb : Below w5.heap.size w5 W) => werr_any W (P1.out.wt.below hb)
      have he2 := fun W (hb : Below w5.heap.size w5 W) => werr_any W (P2.out.wt.below hb)
      have htr1 : ∀ W, Below w5.heap.size w5 W → (convert 22 9 (.slice pa na ca)).run Try.prog W = .ok (tx M1) W := fun W hb => to_text ((ow_ls P1.out.rf.own).below hb)
      have htr2 : ∀ W, Below w5.heap.size w5 W → (convert 22 9 (.slice pb nb cb)).run Try.prog W = .ok (tx M2) W := fun W hb => to_text ((ow_ls P2.out.rf.own).below hb)
      have HC1 : Hid (∀ W, Below w5.heap.size w5 W → W.cell? ⟨b1, 0, none⟩ = some (.slice pa na ca) ∧ W.cell? ⟨b1, 1, none⟩ = some (.int .i64 (e1 : Nat)) ∧ W.cell? ⟨b1 + 1, 0, none⟩ = some (.slice pb nb cb) ∧ W.cell? ⟨b1 + 1, 1, none⟩ = some (.int .i64 (e2 : Nat)) ∧ b1 < W.heap.size ∧ b1 + 1 < W.heap.size) := fun W hb => ⟨(P1.out.rf.below hb).c0, (P1.out.rf.below hb).c1, (P2.out.rf.below hb).c0, (P2.out.rf.below hb).c1, (P1.out.rf.below hb).lt, (P2.out.rf.below hb).lt⟩
      obtain ⟨x1, x2, x3, x4, x5, x6⟩ := HC1.out w5 (Below.refl _ _)
      have hs0 := (Gr.refl w5).drew.below
      have hx0 := htr1 _ hs0
      have hx1 := htr2 _ hs0
      have keepB : ∀ W W' : World, Below w5.heap.size w5 W → Below W.heap.size W W' → Below w5.heap.size w5 W' := fun W W' h hb => h.trans (hb.mono h.size)
      clear hda P1 P2 L1 L2
      go_wp2_with fail
      refine wp_region_held_drew (S := fun W => Below w5.heap.size w5 W) (by kernel_rfl) (by first | exact hs0 | exact Below.refl _ _) (fun hHeld => ?_)
      refine' wpAnyH_take (i := 0) (oi := { dst := some 58, op := Go.Op.move (Go.Operand.tmp 3), type := 27, pos := "law.go:167", after := #[], guard := none }) (v := _) rfl (by kernel_rfl) (by kernel_rfl) (by kernel_rfl) (fun _ _ _ h => h) (Or.inl ⟨by rfl, ?hy0⟩) (by assumption) ?rest0
      case hy0 => (intro W hSw; (try dsimp only at hSw); obtain ⟨x1, x2, x3, x4, x5, x6⟩ := HC1.out W (hSw); have t1 := htr1 W (hSw); have t2 := htr2 W (hSw); go_simp; try (with_reducible rfl))
      try simp only [Act.put, List.setIfInBounds_toArray, List.set_cons_zero, List.set_cons_succ]
      refine' wpAnyH_take (i := 3) (oi := { dst := some 61, op := Go.Op.move (Go.Operand.tmp 5), type := 49, pos := "law.go:167", after := #[], guard := none }) (v := _) rfl (by kernel_rfl) (by kernel_rfl) (by kernel_rfl) (fun _ _ _ h => h) (Or.inl ⟨by rfl, ?hy3⟩) (by assumption) ?rest3
      case hy3 => (intro W hSw; (try dsimp only at hSw); obtain ⟨x1, x2, x3, x4, x5, x6⟩ := HC1.out W (hSw); have t1 := htr1 W (hSw); have t2 := htr2 W (hSw); go_simp; try (with_reducible rfl))
      try simp only [Act.put, List.setIfInBounds_toArray, List.set_cons_zero, List.set_cons_succ]
      refine' wpAnyH_take (i := 4) (oi := { dst := some 62, op := Go.Op.nilCheck (Go.Operand.tmp 61), type := 0, pos := "law.go:167", after := #[{ on := 3, ground := Go.Ground.data }], guard := none }) (v := _) rfl (by kernel_rfl) (by kernel_rfl) (by kernel_rfl) (fun _ _ _ h => h) (Or.inl ⟨by rfl, ?hy4⟩) (by assumption) ?rest4
      case hy4 => (intro W hSw; (try dsimp only at hSw); obtain ⟨x1, x2, x3, x4, x5, x6⟩ := HC1.out W (hSw); have t1 := htr1 W (hSw); have t2 := htr2 W (hSw); go_simp; try (with_reducible rfl))
      try simp only [Act.put, List.setIfInBounds_toArray, List.set_cons_zero, List.set_cons_succ]
      refine' wpAnyH_take (i := 5) (oi := { dst := some 63, op := Go.Op.fieldAddr 51 (Go.Operand.tmp 62) 0, type := 0, pos := "law.go:167", after := #[{ on := 4, ground := Go.Ground.data }], guard := none }) (v := _) rfl (by kernel_rfl) (by kernel_rfl) (by kernel_rfl) (fun _ _ _ h => h) (Or.inl ⟨by rfl, ?hy5⟩) (by assumption) ?rest5
      case hy5 => (intro W hSw; (try dsimp only at hSw); obtain ⟨x1, x2, x3, x4, x5, x6⟩ := HC1.out W (hSw); have t1 := htr1 W (hSw); have t2 := htr2 W (hSw); go_simp; try (with_reducible rfl))
      try simp only [Act.put, List.setIfInBounds_toArray, List.set_cons_zero, List.set_cons_succ]
      refine' wpAnyH_take (i := 6) (oi := { dst := some 64, op := Go.Op.load 22 (Go.Operand.tmp 63), type := 22, pos := "law.go:167", after := #[{ on := 5, ground := Go.Ground.data }], guard := none }) (v := _) rfl (by kernel_rfl) (by kernel_rfl) (by kernel_rfl) (fun _ _ _ h => h) (Or.inl ⟨by rfl, ?hy6⟩) (by assumption) ?rest6
      case hy6 => (intro W hSw; (try dsimp only at hSw); obtain ⟨x1, x2, x3, x4, x5, x6⟩ := HC1.out W (hSw); have t1 := htr1 W (hSw); have t2 := htr2 W (hSw); go_simp; try (with_reducible rfl))
      try simp only [Act.put, List.setIfInBounds_toArray, List.set_cons_zero, List.set_cons_succ]
      refine' wpAnyH_take (i := 7) (oi := { dst := some 65, op := Go.Op.convert 22 9 (Go.Operand.tmp 64), type := 9, pos := "law.go:167", after := #[{ on := 6, ground := Go.Ground.data }], guard := none }) (v := _) rfl (by kernel_rfl) (by kernel_rfl) (by kernel_rfl) (fun _ _ _ h => h) (Or.inl ⟨by rfl, ?hy7⟩) (by assumption) ?rest7
      case hy7 => (intro W hSw; (try dsimp only at hSw); obtain ⟨x1, x2, x3, x4, x5, x6⟩ := HC1.out W (hSw); have t1 := htr1 W (hSw); have t2 := htr2 W (hSw); go_simp; try (with_reducible rfl))
      try simp only [Act.put, List.setIfInBounds_toArray, List.set_cons_zero, List.set_cons_succ]
      refine wpAnyH_ready (rs := [1]) (by kernel_rfl) (by simp) ?_
      refine AllReadyH.cons (o := { dst := some 59, op := Go.Op.call { callee := Go.Callee.value (Go.Operand.func 17), args := #[Go.Operand.tmp 58], argTypes := #[27] }, type := 22, pos := "law.go:167", after := #[{ on := 0, ground := Go.Ground.data }], guard := none }) rfl (fun K hK => ?_) AllReadyH.nil
      go_simp
      refine (hd1 _ hs0).mono ?_
      rintro r w7 ⟨q7, m7, k7, rfl, ht7, hb7⟩
      have hs7 := keepB _ _ hs0 hb7
      go_wp2_with fail
      refine hK.out _ _ hs7 (fun _ => ?_)
      clear hK K hHeld
      refine wpAnyH_strong (S' := fun W => Below w7.heap.size w7 W) (fun W h => keepB _ _ hs7 h) _ _ _ _ ?_
      have hHeld := Below.refl w7.heap.size w7
      try simp only [Act.put, List.setIfInBounds_toArray, List.set_cons_zero, List.set_cons_succ]
      refine' wpAnyH_take (i := 2) (oi := { dst := some 60, op := Go.Op.convert 22 9 (Go.Operand.tmp 59), type := 9, pos := "law.go:167", after := #[{ on := 1, ground := Go.Ground.data }], guard := none }) (v := _) rfl (by kernel_rfl) (by kernel_rfl) (by kernel_rfl) (fun _ _ _ h => h) (Or.inl ⟨by rfl, ?hy2⟩) (by assumption) ?rest2
      case hy2 => (intro W hSw; (try dsimp only at hSw); obtain ⟨x1, x2, x3, x4, x5, x6⟩ := HC1.out W (keepB _ _ hs7 hSw); have t1 := htr1 W (keepB _ _ hs7 hSw); have t2 := htr2 W (keepB _ _ hs7 hSw); have t7 := ht7 W hSw; go_simp; try (with_reducible rfl))
      try simp only [Act.put, List.setIfInBounds_toArray, List.set_cons_zero, List.set_cons_succ]
      refine' wpAnyH_take (i := 8) (oi := { dst := some 66, op := Go.Op.binOp Go.BinOp.eql 9 (Go.Operand.tmp 60) (Go.Operand.tmp 65) 9, type := 4, pos := "law.go:167", after := #[{ on := 2, ground := Go.Ground.data }, { on := 7, ground := Go.Ground.data }], guard := none }) (v := _) rfl (by kernel_rfl) (by kernel_rfl) (by kernel_rfl) (fun _ _ _ h => h) (Or.inl ⟨by rfl, ?hy8⟩) (by assumption) ?rest8
      case hy8 => (intro W hSw; (try dsimp only at hSw); obtain ⟨x1, x2, x3, x4, x5, x6⟩ := HC1.out W (keepB _ _ hs7 hSw); have t1 := htr1 W (keepB _ _ hs7 hSw); have t2 := htr2 W (keepB _ _ hs7 hSw); have t7 := ht7 W hSw; go_simp; try (with_reducible rfl))
      try simp only [Act.put, List.setIfInBounds_toArray, List.set_cons_zero, List.set_cons_succ]
      refine' wpAnyH_take (i := 9) (oi := { dst := some 67, op := Go.Op.move (Go.Operand.tmp 66), type := 4, pos := "law.go:167", after := #[{ on := 8, ground := Go.Ground.data }, { on := 1, ground := Go.Ground.chain }], guard := none }) (v := _) rfl (by kernel_rfl) (by kernel_rfl) (by kernel_rfl) (fun _ _ _ h => h) (Or.inl ⟨by rfl, ?hy9⟩) (by assumption) ?rest9
      case hy9 => (intro W hSw; (try dsimp only at hSw); obtain ⟨x1, x2, x3, x4, x5, x6⟩ := HC1.out W (keepB _ _ hs7 hSw); have t1 := htr1 W (keepB _ _ hs7 hSw); have t2 := htr2 W (keepB _ _ hs7 hSw); have t7 := ht7 W hSw; go_simp; try (with_reducible rfl))
      try simp only [Act.put, List.setIfInBounds_toArray, List.set_cons_zero, List.set_cons_succ]
      refine' wpAnyH_take (i := 10) (oi := { dst := some 68, op := Go.Op.move (Go.Operand.tmp 4), type := 27, pos := "law.go:167", after := #[{ on := 9, ground := Go.Ground.guard }], guard := some (9, true) }) (v := _) rfl (by kernel_rfl) (by kernel_rfl) (by kernel_rfl) (fun _ _ _ h => h) (Or.inl ⟨by rfl, ?hy10⟩) (by assumption) ?rest10
      case hy10 => (intro W hSw; (try dsimp only at hSw); obtain ⟨x1, x2, x3, x4, x5, x6⟩ := HC1.out W (keepB _ _ hs7 hSw); have t1 := htr1 W (keepB _ _ hs7 hSw); have t2 := htr2 W (keepB _ _ hs7 hSw); have t7 := ht7 W hSw; go_simp; try (with_reducible rfl))
      try simp only [Act.put, List.setIfInBounds_toArray, List.set_cons_zero, List.set_cons_succ]
      refine' wpAnyH_take (i := 13) (oi := { dst := some 71, op := Go.Op.move (Go.Operand.tmp 6), type := 49, pos := "law.go:167", after := #[{ on := 9, ground := Go.Ground.guard }], guard := some (9, true) }) (v := _) rfl (by kernel_rfl) (by kernel_rfl) (by kernel_rfl) (fun _ _ _ h => h) (Or.inl ⟨by rfl, ?hy13⟩) (by assumption) ?rest13
      case hy13 => (intro W hSw; (try dsimp only at hSw); obtain ⟨x1, x2, x3, x4, x5, x6⟩ := HC1.out W (keepB _ _ hs7 hSw); have t1 := htr1 W (keepB _ _ hs7 hSw); have t2 := htr2 W (keepB _ _ hs7 hSw); have t7 := ht7 W hSw; go_simp; try (with_reducible rfl))
      try simp only [Act.put, List.setIfInBounds_toArray, List.set_cons_zero, List.set_cons_succ]
      refine' wpAnyH_take (i := 14) (oi := { dst := some 72, op := Go.Op.nilCheck (Go.Operand.tmp 71), type := 0, pos := "law.go:167", after := #[{ on := 13, ground := Go.Ground.data }, { on := 9, ground := Go.Ground.guard }], guard := some (9, true) }) (v := _) rfl (by kernel_rfl) (by kernel_rfl) (by kernel_rfl) (fun _ _ _ h => h) (Or.inl ⟨by rfl, ?hy14⟩) (by assumption) ?rest14
      case hy14 => (intro W hSw; (try dsimp only at hSw); obtain ⟨x1, x2, x3, x4, x5, x6⟩ := HC1.out W (keepB _ _ hs7 hSw); have t1 := htr1 W (keepB _ _ hs7 hSw); have t2 := htr2 W (keepB _ _ hs7 hSw); have t7 := ht7 W hSw; go_simp; try (with_reducible rfl))
      try simp only [Act.put, List.setIfInBounds_toArray, List.set_cons_zero, List.set_cons_succ]
      refine' wpAnyH_take (i := 15) (oi := { dst := some 73, op := Go.Op.fieldAddr 51 (Go.Operand.tmp 72) 0, type := 0, pos := "law.go:167", after := #[{ on := 14, ground := Go.Ground.data }, { on := 9, ground := Go.Ground.guard }], guard := some (9, true) }) (v := _) rfl (by kernel_rfl) (by kernel_rfl) (by kernel_rfl) (fun _ _ _ h => h) (Or.inl ⟨by rfl, ?hy15⟩) (by assumption) ?rest15
      case hy15 => (intro W hSw; (try dsimp only at hSw); obtain ⟨x1, x2, x3, x4, x5, x6⟩ := HC1.out W (keepB _ _ hs7 hSw); have t1 := htr1 W (keepB _ _ hs7 hSw); have t2 := htr2 W (keepB _ _ hs7 hSw); have t7 := ht7 W hSw; go_simp; try (with_reducible rfl))
      try simp only [Act.put, List.setIfInBounds_toArray, List.set_cons_zero, List.set_cons_succ]
      refine' wpAnyH_take (i := 16) (oi := { dst := some 74, op := Go.Op.load 22 (Go.Operand.tmp 73), type := 22, pos := "law.go:167", after := #[{ on := 15, ground := Go.Ground.data }, { on := 9, ground := Go.Ground.guard }], guard := some (9, true) }) (v := _) rfl (by kernel_rfl) (by kernel_rfl) (by kernel_rfl) (fun _ _ _ h => h) (Or.inl ⟨by rfl, ?hy16⟩) (by assumption) ?rest16
      case hy16 => (intro W hSw; (try dsimp only at hSw); obtain ⟨x1, x2, x3, x4, x5, x6⟩ := HC1.out W (keepB _ _ hs7 hSw); have t1 := htr1 W (keepB _ _ hs7 hSw); have t2 := htr2 W (keepB _ _ hs7 hSw); have t7 := ht7 W hSw; go_simp; try (with_reducible rfl))
      try simp only [Act.put, List.setIfInBounds_toArray, List.set_cons_zero, List.set_cons_succ]
      refine' wpAnyH_take (i := 17) (oi := { dst := some 75, op := Go.Op.convert 22 9 (Go.Operand.tmp 74), type := 9, pos := "law.go:167", after := #[{ on := 16, ground := Go.Ground.data }, { on := 9, ground := Go.Ground.guard }], guard := some (9, true) }) (v := _) rfl (by kernel_rfl) (by kernel_rfl) (by kernel_rfl) (fun _ _ _ h => h) (Or.inl ⟨by rfl, ?hy17⟩) (by assumption) ?rest17
      case hy17 => (intro W hSw; (try dsimp only at hSw); obtain ⟨x1, x2, x3, x4, x5, x6⟩ := HC1.out W (keepB _ _ hs7 hSw); have t1 := htr1 W (keepB _ _ hs7 hSw); have t2 := htr2 W (keepB _ _ hs7 hSw); have t7 := ht7 W hSw; go_simp; try (with_reducible rfl))
      try simp only [Act.put, List.setIfInBounds_toArray, List.set_cons_zero, List.set_cons_succ]
      refine wpAnyH_ready (rs := [11]) (by kernel_rfl) (by simp) ?_
      refine AllReadyH.cons (o := { dst := some 69, op := Go.Op.call { callee := Go.Callee.value (Go.Operand.func 17), args := #[Go.Operand.tmp 68], argTypes := #[27] }, type := 22, pos := "law.go:167", after := #[{ on := 10, ground := Go.Ground.data }, { on := 9, ground := Go.Ground.chain }, { on := 9, ground := Go.Ground.guard }], guard := some (9, true) }) rfl (fun K hK => ?_) AllReadyH.nil
      go_simp
      refine (hd2 _ hs7).mono ?_
      rintro r w8 ⟨q8, m8, k8, rfl, ht8, hb8⟩
      have hs8 := keepB _ _ hs7 hb8
      go_wp2_with fail
      refine hK.out _ _ hb8 (fun _ => ?_)
      clear hK K hHeld
      refine wpAnyH_strong (S' := fun W => Below w8.heap.size w8 W) (fun W h => hb8.trans (h.mono hb8.size)) _ _ _ _ ?_
      have hHeld := Below.refl w8.heap.size w8
      try simp only [Act.put, List.setIfInBounds_toArray, List.set_cons_zero, List.set_cons_succ]
      refine' wpAnyH_take (i := 12) (oi := { dst := some 70, op := Go.Op.convert 22 9 (Go.Operand.tmp 69), type := 9, pos := "law.go:167", after := #[{ on := 11, ground := Go.Ground.data }, { on := 9, ground := Go.Ground.guard }], guard := some (9, true) }) (v := _) rfl (by kernel_rfl) (by kernel_rfl) (by kernel_rfl) (fun _ _ _ h => h) (Or.inl ⟨by rfl, ?hy12⟩) (by assumption) ?rest12
      case hy12 => (intro W hSw; (try dsimp only at hSw); obtain ⟨x1, x2, x3, x4, x5, x6⟩ := HC1.out W (keepB _ _ hs8 hSw); have t1 := htr1 W (keepB _ _ hs8 hSw); have t2 := htr2 W (keepB _ _ hs8 hSw); have t7 := ht7 W (hb8.trans (hSw.mono hb8.size)); have t8 := ht8 W hSw; go_simp; try (with_reducible rfl))
      try simp only [Act.put, List.setIfInBounds_toArray, List.set_cons_zero, List.set_cons_succ]
      refine' wpAnyH_take (i := 18) (oi := { dst := some 76, op := Go.Op.binOp Go.BinOp.eql 9 (Go.Operand.tmp 70) (Go.Operand.tmp 75) 9, type := 4, pos := "law.go:167", after := #[{ on := 12, ground := Go.Ground.data }, { on := 17, ground := Go.Ground.data }, { on := 9, ground := Go.Ground.guard }], guard := some (9, true) }) (v := _) rfl (by kernel_rfl) (by kernel_rfl) (by kernel_rfl) (fun _ _ _ h => h) (Or.inl ⟨by rfl, ?hy18⟩) (by assumption) ?rest18
      case hy18 => (intro W hSw; (try dsimp only at hSw); obtain ⟨x1, x2, x3, x4, x5, x6⟩ := HC1.out W (keepB _ _ hs8 hSw); have t1 := htr1 W (keepB _ _ hs8 hSw); have t2 := htr2 W (keepB _ _ hs8 hSw); have t7 := ht7 W (hb8.trans (hSw.mono hb8.size)); have t8 := ht8 W hSw; go_simp; try (with_reducible rfl))
      try simp only [Act.put, List.setIfInBounds_toArray, List.set_cons_zero, List.set_cons_succ]
      refine' wpAnyH_take (i := 19) (oi := { dst := some 77, op := Go.Op.pick (Go.Operand.tmp 67) (Go.Operand.tmp 76) (Go.Operand.const (Go.Value.bool false)), type := 4, pos := "law.go:167", after := #[{ on := 9, ground := Go.Ground.data }, { on := 18, ground := Go.Ground.data }], guard := none }) (v := _) rfl (by kernel_rfl) (by kernel_rfl) (by kernel_rfl) (fun _ _ _ h => h) (Or.inl ⟨by rfl, ?hy19⟩) (by assumption) ?rest19
      case hy19 => (intro W hSw; (try dsimp only at hSw); obtain ⟨x1, x2, x3, x4, x5, x6⟩ := HC1.out W (keepB _ _ hs8 hSw); have t1 := htr1 W (keepB _ _ hs8 hSw); have t2 := htr2 W (keepB _ _ hs8 hSw); have t7 := ht7 W (hb8.trans (hSw.mono hb8.size)); have t8 := ht8 W hSw; go_simp; try (with_reducible rfl))
      try simp only [Act.put, List.setIfInBounds_toArray, List.set_cons_zero, List.set_cons_succ]
      refine' wpAnyH_take (i := 20) (oi := { dst := some 78, op := Go.Op.move (Go.Operand.tmp 77), type := 4, pos := "law.go:167", after := #[{ on := 19, ground := Go.Ground.data }, { on := 11, ground := Go.Ground.chain }], guard := none }) (v := _) rfl (by kernel_rfl) (by kernel_rfl) (by kernel_rfl) (fun _ _ _ h => h) (Or.inl ⟨by rfl, ?hy20⟩) (by assumption) ?rest20
      case hy20 => (intro W hSw; (try dsimp only at hSw); obtain ⟨x1, x2, x3, x4, x5, x6⟩ := HC1.out W (keepB _ _ hs8 hSw); have t1 := htr1 W (keepB _ _ hs8 hSw); have t2 := htr2 W (keepB _ _ hs8 hSw); have t7 := ht7 W (hb8.trans (hSw.mono hb8.size)); have t8 := ht8 W hSw; go_simp; try (with_reducible rfl))
      try simp only [Act.put, List.setIfInBounds_toArray, List.set_cons_zero, List.set_cons_succ]
      refine' wpAnyH_take (i := 21) (oi := { dst := some 79, op := Go.Op.move (Go.Operand.tmp 3), type := 27, pos := "law.go:167", after := #[{ on := 20, ground := Go.Ground.guard }], guard := some (20, true) }) (v := _) rfl (by kernel_rfl) (by kernel_rfl) (by kernel_rfl) (fun _ _ _ h => h) (Or.inl ⟨by rfl, ?hy21⟩) (by assumption) ?rest21
      case hy21 => (intro W hSw; (try dsimp only at hSw); obtain ⟨x1, x2, x3, x4, x5, x6⟩ := HC1.out W (keepB _ _ hs8 hSw); have t1 := htr1 W (keepB _ _ hs8 hSw); have t2 := htr2 W (keepB _ _ hs8 hSw); have t7 := ht7 W (hb8.trans (hSw.mono hb8.size)); have t8 := ht8 W hSw; go_simp; try (with_reducible rfl))
      try simp only [Act.put, List.setIfInBounds_toArray, List.set_cons_zero, List.set_cons_succ]
      refine' wpAnyH_take (i := 23) (oi := { dst := some 81, op := Go.Op.move (Go.Operand.tmp 5), type := 49, pos := "law.go:167", after := #[{ on := 20, ground := Go.Ground.guard }], guard := some (20, true) }) (v := _) rfl (by kernel_rfl) (by kernel_rfl) (by kernel_rfl) (fun _ _ _ h => h) (Or.inl ⟨by rfl, ?hy23⟩) (by assumption) ?rest23
      case hy23 => (intro W hSw; (try dsimp only at hSw); obtain ⟨x1, x2, x3, x4, x5, x6⟩ := HC1.out W (keepB _ _ hs8 hSw); have t1 := htr1 W (keepB _ _ hs8 hSw); have t2 := htr2 W (keepB _ _ hs8 hSw); have t7 := ht7 W (hb8.trans (hSw.mono hb8.size)); have t8 := ht8 W hSw; go_simp; try (with_reducible rfl))
      try simp only [Act.put, List.setIfInBounds_toArray, List.set_cons_zero, List.set_cons_succ]
      refine' wpAnyH_take (i := 24) (oi := { dst := some 82, op := Go.Op.nilCheck (Go.Operand.tmp 81), type := 0, pos := "law.go:167", after := #[{ on := 23, ground := Go.Ground.data }, { on := 20, ground := Go.Ground.guard }], guard := some (20, true) }) (v := _) rfl (by kernel_rfl) (by kernel_rfl) (by kernel_rfl) (fun _ _ _ h => h) (Or.inl ⟨by rfl, ?hy24⟩) (by assumption) ?rest24
      case hy24 => (intro W hSw; (try dsimp only at hSw); obtain ⟨x1, x2, x3, x4, x5, x6⟩ := HC1.out W (keepB _ _ hs8 hSw); have t1 := htr1 W (keepB _ _ hs8 hSw); have t2 := htr2 W (keepB _ _ hs8 hSw); have t7 := ht7 W (hb8.trans (hSw.mono hb8.size)); have t8 := ht8 W hSw; go_simp; try (with_reducible rfl))
      try simp only [Act.put, List.setIfInBounds_toArray, List.set_cons_zero, List.set_cons_succ]
      refine' wpAnyH_take (i := 25) (oi := { dst := some 83, op := Go.Op.fieldAddr 51 (Go.Operand.tmp 82) 1, type := 0, pos := "law.go:167", after := #[{ on := 24, ground := Go.Ground.data }, { on := 20, ground := Go.Ground.guard }], guard := some (20, true) }) (v := _) rfl (by kernel_rfl) (by kernel_rfl) (by kernel_rfl) (fun _ _ _ h => h) (Or.inl ⟨by rfl, ?hy25⟩) (by assumption) ?rest25
      case hy25 => (intro W hSw; (try dsimp only at hSw); obtain ⟨x1, x2, x3, x4, x5, x6⟩ := HC1.out W (keepB _ _ hs8 hSw); have t1 := htr1 W (keepB _ _ hs8 hSw); have t2 := htr2 W (keepB _ _ hs8 hSw); have t7 := ht7 W (hb8.trans (hSw.mono hb8.size)); have t8 := ht8 W hSw; go_simp; try (with_reducible rfl))
      try simp only [Act.put, List.setIfInBounds_toArray, List.set_cons_zero, List.set_cons_succ]
      refine' wpAnyH_take (i := 26) (oi := { dst := some 84, op := Go.Op.load 3 (Go.Operand.tmp 83), type := 3, pos := "law.go:167", after := #[{ on := 25, ground := Go.Ground.data }, { on := 20, ground := Go.Ground.guard }], guard := some (20, true) }) (v := _) rfl (by kernel_rfl) (by kernel_rfl) (by kernel_rfl) (fun _ _ _ h => h) (Or.inl ⟨by rfl, ?hy26⟩) (by assumption) ?rest26
      case hy26 => (intro W hSw; (try dsimp only at hSw); obtain ⟨x1, x2, x3, x4, x5, x6⟩ := HC1.out W (keepB _ _ hs8 hSw); have t1 := htr1 W (keepB _ _ hs8 hSw); have t2 := htr2 W (keepB _ _ hs8 hSw); have t7 := ht7 W (hb8.trans (hSw.mono hb8.size)); have t8 := ht8 W hSw; go_simp; try (with_reducible rfl))
      try simp only [Act.put, List.setIfInBounds_toArray, List.set_cons_zero, List.set_cons_succ]
      refine wpAnyH_ready (rs := [22]) (by kernel_rfl) (by simp) ?_
      refine AllReadyH.cons (o := { dst := some 80, op := Go.Op.call { callee := Go.Callee.value (Go.Operand.func 25), args := #[Go.Operand.tmp 79], argTypes := #[27] }, type := 33, pos := "law.go:167", after := #[{ on := 21, ground := Go.Ground.data }, { on := 20, ground := Go.Ground.chain }, { on := 20, ground := Go.Ground.guard }], guard := some (20, true) }) rfl (fun K hK => ?_) AllReadyH.nil
      go_simp
      refine (he1 _ hs8).mono ?_
      rintro r w9 ⟨rfl, rfl⟩
      go_wp2_with fail
      refine hK.out _ _ (Below.refl _ _) (fun _ => ?_)
      clear hK K
      try simp only [Act.put, List.setIfInBounds_toArray, List.set_cons_zero, List.set_cons_succ]
      refine' wpAnyH_take (i := 27) (oi := { dst := some 85, op := Go.Op.binOp Go.BinOp.eql 3 (Go.Operand.tmp 80) (Go.Operand.tmp 84) 3, type := 4, pos := "law.go:167", after := #[{ on := 22, ground := Go.Ground.data }, { on := 26, ground := Go.Ground.data }, { on := 20, ground := Go.Ground.guard }], guard := some (20, true) }) (v := _) rfl (by kernel_rfl) (by kernel_rfl) (by kernel_rfl) (fun _ _ _ h => h) (Or.inl ⟨by rfl, ?hy27⟩) (by assumption) ?rest27
      case hy27 => (intro W hSw; (try dsimp only at hSw); obtain ⟨x1, x2, x3, x4, x5, x6⟩ := HC1.out W (keepB _ _ hs8 hSw); have t1 := htr1 W (keepB _ _ hs8 hSw); have t2 := htr2 W (keepB _ _ hs8 hSw); have t7 := ht7 W (hb8.trans (hSw.mono hb8.size)); have t8 := ht8 W hSw; go_simp; try (with_reducible rfl))
      try simp only [Act.put, List.setIfInBounds_toArray, List.set_cons_zero, List.set_cons_succ]
      refine' wpAnyH_take (i := 28) (oi := { dst := some 86, op := Go.Op.pick (Go.Operand.tmp 78) (Go.Operand.tmp 85) (Go.Operand.const (Go.Value.bool false)), type := 4, pos := "law.go:167", after := #[{ on := 20, ground := Go.Ground.data }, { on := 27, ground := Go.Ground.data }], guard := none }) (v := _) rfl (by kernel_rfl) (by kernel_rfl) (by kernel_rfl) (fun _ _ _ h => h) (Or.inl ⟨by rfl, ?hy28⟩) (by assumption) ?rest28
      case hy28 => (intro W hSw; (try dsimp only at hSw); obtain ⟨x1, x2, x3, x4, x5, x6⟩ := HC1.out W (keepB _ _ hs8 hSw); have t1 := htr1 W (keepB _ _ hs8 hSw); have t2 := htr2 W (keepB _ _ hs8 hSw); have t7 := ht7 W (hb8.trans (hSw.mono hb8.size)); have t8 := ht8 W hSw; go_simp; try (with_reducible rfl))
      try simp only [Act.put, List.setIfInBounds_toArray, List.set_cons_zero, List.set_cons_succ]
      refine' wpAnyH_take (i := 29) (oi := { dst := some 87, op := Go.Op.move (Go.Operand.tmp 86), type := 4, pos := "law.go:167", after := #[{ on := 28, ground := Go.Ground.data }, { on := 22, ground := Go.Ground.chain }], guard := none }) (v := _) rfl (by kernel_rfl) (by kernel_rfl) (by kernel_rfl) (fun _ _ _ h => h) (Or.inl ⟨by rfl, ?hy29⟩) (by assumption) ?rest29
      case hy29 => (intro W hSw; (try dsimp only at hSw); obtain ⟨x1, x2, x3, x4, x5, x6⟩ := HC1.out W (keepB _ _ hs8 hSw); have t1 := htr1 W (keepB _ _ hs8 hSw); have t2 := htr2 W (keepB _ _ hs8 hSw); have t7 := ht7 W (hb8.trans (hSw.mono hb8.size)); have t8 := ht8 W hSw; go_simp; try (with_reducible rfl))
      try simp only [Act.put, List.setIfInBounds_toArray, List.set_cons_zero, List.set_cons_succ]
      refine' wpAnyH_take (i := 30) (oi := { dst := some 88, op := Go.Op.move (Go.Operand.tmp 4), type := 27, pos := "law.go:167", after := #[{ on := 29, ground := Go.Ground.guard }], guard := some (29, true) }) (v := _) rfl (by kernel_rfl) (by kernel_rfl) (by kernel_rfl) (fun _ _ _ h => h) (Or.inl ⟨by rfl, ?hy30⟩) (by assumption) ?rest30
      case hy30 => (intro W hSw; (try dsimp only at hSw); obtain ⟨x1, x2, x3, x4, x5, x6⟩ := HC1.out W (keepB _ _ hs8 hSw); have t1 := htr1 W (keepB _ _ hs8 hSw); have t2 := htr2 W (keepB _ _ hs8 hSw); have t7 := ht7 W (hb8.trans (hSw.mono hb8.size)); have t8 := ht8 W hSw; go_simp; try (with_reducible rfl))
      try simp only [Act.put, List.setIfInBounds_toArray, List.set_cons_zero, List.set_cons_succ]
      refine' wpAnyH_take (i := 32) (oi := { dst := some 90, op := Go.Op.move (Go.Operand.tmp 6), type := 49, pos := "law.go:167", after := #[{ on := 29, ground := Go.Ground.guard }], guard := some (29, true) }) (v := _) rfl (by kernel_rfl) (by kernel_rfl) (by kernel_rfl) (fun _ _ _ h => h) (Or.inl ⟨by rfl, ?hy32⟩) (by assumption) ?rest32
      case hy32 => (intro W hSw; (try dsimp only at hSw); obtain ⟨x1, x2, x3, x4, x5, x6⟩ := HC1.out W (keepB _ _ hs8 hSw); have t1 := htr1 W (keepB _ _ hs8 hSw); have t2 := htr2 W (keepB _ _ hs8 hSw); have t7 := ht7 W (hb8.trans (hSw.mono hb8.size)); have t8 := ht8 W hSw; go_simp; try (with_reducible rfl))
      try simp only [Act.put, List.setIfInBounds_toArray, List.set_cons_zero, List.set_cons_succ]
      refine' wpAnyH_take (i := 33) (oi := { dst := some 91, op := Go.Op.nilCheck (Go.Operand.tmp 90), type := 0, pos := "law.go:167", after := #[{ on := 32, ground := Go.Ground.data }, { on := 29, ground := Go.Ground.guard }], guard := some (29, true) }) (v := _) rfl (by kernel_rfl) (by kernel_rfl) (by kernel_rfl) (fun _ _ _ h => h) (Or.inl ⟨by rfl, ?hy33⟩) (by assumption) ?rest33
      case hy33 => (intro W hSw; (try dsimp only at hSw); obtain ⟨x1, x2, x3, x4, x5, x6⟩ := HC1.out W (keepB _ _ hs8 hSw); have t1 := htr1 W (keepB _ _ hs8 hSw); have t2 := htr2 W (keepB _ _ hs8 hSw); have t7 := ht7 W (hb8.trans (hSw.mono hb8.size)); have t8 := ht8 W hSw; go_simp; try (with_reducible rfl))
      try simp only [Act.put, List.setIfInBounds_toArray, List.set_cons_zero, List.set_cons_succ]
      refine' wpAnyH_take (i := 34) (oi := { dst := some 92, op := Go.Op.fieldAddr 51 (Go.Operand.tmp 91) 1, type := 0, pos := "law.go:167", after := #[{ on := 33, ground := Go.Ground.data }, { on := 29, ground := Go.Ground.guard }], guard := some (29, true) }) (v := _) rfl (by kernel_rfl) (by kernel_rfl) (by kernel_rfl) (fun _ _ _ h => h) (Or.inl ⟨by rfl, ?hy34⟩) (by assumption) ?rest34
      case hy34 => (intro W hSw; (try dsimp only at hSw); obtain ⟨x1, x2, x3, x4, x5, x6⟩ := HC1.out W (keepB _ _ hs8 hSw); have t1 := htr1 W (keepB _ _ hs8 hSw); have t2 := htr2 W (keepB _ _ hs8 hSw); have t7 := ht7 W (hb8.trans (hSw.mono hb8.size)); have t8 := ht8 W hSw; go_simp; try (with_reducible rfl))
      try simp only [Act.put, List.setIfInBounds_toArray, List.set_cons_zero, List.set_cons_succ]
      refine' wpAnyH_take (i := 35) (oi := { dst := some 93, op := Go.Op.load 3 (Go.Operand.tmp 92), type := 3, pos := "law.go:167", after := #[{ on := 34, ground := Go.Ground.data }, { on := 29, ground := Go.Ground.guard }], guard := some (29, true) }) (v := _) rfl (by kernel_rfl) (by kernel_rfl) (by kernel_rfl) (fun _ _ _ h => h) (Or.inl ⟨by rfl, ?hy35⟩) (by assumption) ?rest35
      case hy35 => (intro W hSw; (try dsimp only at hSw); obtain ⟨x1, x2, x3, x4, x5, x6⟩ := HC1.out W (keepB _ _ hs8 hSw); have t1 := htr1 W (keepB _ _ hs8 hSw); have t2 := htr2 W (keepB _ _ hs8 hSw); have t7 := ht7 W (hb8.trans (hSw.mono hb8.size)); have t8 := ht8 W hSw; go_simp; try (with_reducible rfl))
      try simp only [Act.put, List.setIfInBounds_toArray, List.set_cons_zero, List.set_cons_succ]
      refine wpAnyH_ready (rs := [31]) (by kernel_rfl) (by simp) ?_
      refine AllReadyH.cons (o := { dst := some 89, op := Go.Op.call { callee := Go.Callee.value (Go.Operand.func 25), args := #[Go.Operand.tmp 88], argTypes := #[27] }, type := 33, pos := "law.go:167", after := #[{ on := 30, ground := Go.Ground.data }, { on := 29, ground := Go.Ground.chain }, { on := 29, ground := Go.Ground.guard }], guard := some (29, true) }) rfl (fun K hK => ?_) AllReadyH.nil
      go_simp
      refine (he2 _ hs8).mono ?_
      rintro r w9 ⟨rfl, rfl⟩
      go_wp2_with fail
      refine hK.out _ _ (Below.refl _ _) (fun _ => ?_)
      clear hK K
      try simp only [Act.put, List.setIfInBounds_toArray, List.set_cons_zero, List.set_cons_succ]
      refine' wpAnyH_take (i := 36) (oi := { dst := some 94, op := Go.Op.binOp Go.BinOp.eql 3 (Go.Operand.tmp 89) (Go.Operand.tmp 93) 3, type := 4, pos := "law.go:167", after := #[{ on := 31, ground := Go.Ground.data }, { on := 35, ground := Go.Ground.data }, { on := 29, ground := Go.Ground.guard }], guard := some (29, true) }) (v := _) rfl (by kernel_rfl) (by kernel_rfl) (by kernel_rfl) (fun _ _ _ h => h) (Or.inl ⟨by rfl, ?hy36⟩) (by assumption) ?rest36
      case hy36 => (intro W hSw; (try dsimp only at hSw); obtain ⟨x1, x2, x3, x4, x5, x6⟩ := HC1.out W (keepB _ _ hs8 hSw); have t1 := htr1 W (keepB _ _ hs8 hSw); have t2 := htr2 W (keepB _ _ hs8 hSw); have t7 := ht7 W (hb8.trans (hSw.mono hb8.size)); have t8 := ht8 W hSw; go_simp; try (with_reducible rfl))
      try simp only [Act.put, List.setIfInBounds_toArray, List.set_cons_zero, List.set_cons_succ]
      refine' wpAnyH_take (i := 37) (oi := { dst := some 95, op := Go.Op.pick (Go.Operand.tmp 87) (Go.Operand.tmp 94) (Go.Operand.const (Go.Value.bool false)), type := 4, pos := "law.go:167", after := #[{ on := 29, ground := Go.Ground.data }, { on := 36, ground := Go.Ground.data }], guard := none }) (v := _) rfl (by kernel_rfl) (by kernel_rfl) (by kernel_rfl) (fun _ _ _ h => h) (Or.inl ⟨by rfl, ?hy37⟩) (by assumption) ?rest37
      case hy37 => (intro W hSw; (try dsimp only at hSw); obtain ⟨x1, x2, x3, x4, x5, x6⟩ := HC1.out W (keepB _ _ hs8 hSw); have t1 := htr1 W (keepB _ _ hs8 hSw); have t2 := htr2 W (keepB _ _ hs8 hSw); have t7 := ht7 W (hb8.trans (hSw.mono hb8.size)); have t8 := ht8 W hSw; go_simp; try (with_reducible rfl))
      try simp only [Act.put, List.setIfInBounds_toArray, List.set_cons_zero, List.set_cons_succ]
      refine' wpAnyH_take (i := 38) (oi := { dst := some 2, op := Go.Op.assign (Go.Operand.tmp 95), type := 4, pos := "law.go:167", after := #[{ on := 37, ground := Go.Ground.data }, { on := 31, ground := Go.Ground.chain }, { on := 0, ground := Go.Ground.phase }, { on := 1, ground := Go.Ground.phase }, { on := 2, ground := Go.Ground.phase }, { on := 3, ground := Go.Ground.phase }, { on := 4, ground := Go.Ground.phase }, { on := 5, ground := Go.Ground.phase }, { on := 6, ground := Go.Ground.phase }, { on := 7, ground := Go.Ground.phase }, { on := 8, ground := Go.Ground.phase }, { on := 9, ground := Go.Ground.phase }, { on := 10, ground := Go.Ground.phase }, { on := 11, ground := Go.Ground.phase }, { on := 12, ground := Go.Ground.phase }, { on := 13, ground := Go.Ground.phase }, { on := 14, ground := Go.Ground.phase }, { on := 15, ground := Go.Ground.phase }, { on := 16, ground := Go.Ground.phase }, { on := 17, ground := Go.Ground.phase }, { on := 18, ground := Go.Ground.phase }, { on := 19, ground := Go.Ground.phase }, { on := 20, ground := Go.Ground.phase }, { on := 21, ground := Go.Ground.phase }, { on := 22, ground := Go.Ground.phase }, { on := 23, ground := Go.Ground.phase }, { on := 24, ground := Go.Ground.phase }, { on := 25, ground := Go.Ground.phase }, { on := 26, ground := Go.Ground.phase }, { on := 27, ground := Go.Ground.phase }, { on := 28, ground := Go.Ground.phase }, { on := 29, ground := Go.Ground.phase }, { on := 30, ground := Go.Ground.phase }, { on := 31, ground := Go.Ground.phase }, { on := 32, ground := Go.Ground.phase }, { on := 33, ground := Go.Ground.phase }, { on := 34, ground := Go.Ground.phase }, { on := 35, ground := Go.Ground.phase }, { on := 36, ground := Go.Ground.phase }, { on := 37, ground := Go.Ground.phase }], guard := none }) (v := _) rfl (by kernel_rfl) (by kernel_rfl) (by kernel_rfl) (fun _ _ _ h => h) (Or.inl ⟨by rfl, ?hy38⟩) (by assumption) ?rest38
      case hy38 => (intro W hSw; (try dsimp only at hSw); obtain ⟨x1, x2, x3, x4, x5, x6⟩ := HC1.out W (keepB _ _ hs8 hSw); have t1 := htr1 W (keepB _ _ hs8 hSw); have t2 := htr2 W (keepB _ _ hs8 hSw); have t7 := ht7 W (hb8.trans (hSw.mono hb8.size)); have t8 := ht8 W hSw; go_simp; try (with_reducible rfl))
      try simp only [Act.put, List.setIfInBounds_toArray, List.set_cons_zero, List.set_cons_succ]
      refine wpAnyH_done (by kernel_rfl) ?_ _
      go_wp2_with fail
      go_ret
      exact ⟨by first | rfl | simp, B5.out.trans (hs8.mono B5.out.size)⟩
end Go.Proofs.Ytgojhhdjpkilmaa.Wi
