import Derived.Test.YtcmgmgnmhhkdgaaLgAp0
import Derived.Deep.CutBlock
import Derived.Deep.DeepCutAuto
namespace Go.Proofs.Ytcmgmgnmhhkdgaa
open Go.RowKit Go.Sort Go.Maps Go.Shelf
attribute [local go_sem ↓] Go.wp_at_zero Go.wp_at_succ
def SqB (V U : Nat → Value) (q : Nat) : Prop := Sq V q ∨ Sq U q
theorem byt5 {n : Nat} (h : n ≤ 1000) : (n + 1) * 40 ≤ 140737488355328 ∧ (n + 1) * 32 ≤ 140737488355328 ∧ n + 1 ≤ maxLen ∧ n < 1000000 ∧ n + 1 < 1000000 := by unfold maxLen; omega
theorem byt6 {k : Nat} (h : k < 5) : k + 1 ≤ maxLen ∧ (k + 1) * 24 ≤ 140737488355328 ∧ k < 1000 := by unfold maxLen; omega
/-- The fourth cells of a list of changes, the first ones of a list of stamps. -/
theorem atKC {w : World} {v : Value} {l : List Rc} (h : Ls KC w v l) {j : Nat} {p : Rc} (hj : l[j]? = some p) : ∃ b off c, v = .slice (some ⟨b, off, none⟩) l.length c ∧ b < w.heap.size ∧ w.cell? ⟨b, off + j * 5 + 4, none⟩ = some (.int .i64 p.2) := by
  obtain ⟨b, off, c, hv, hb, hc⟩ := h.get hj
  exact ⟨b, off, c, hv, hb, hc 4 _ (by decide) rfl⟩
theorem atKS {w : World} {v : Value} {l : List Rs} (h : Ls KS w v l) {j : Nat} {p : Rs} (hj : l[j]? = some p) : ∃ b off c, v = .slice (some ⟨b, off, none⟩) l.length c ∧ b < w.heap.size ∧ w.cell? ⟨b, off + j * 4, none⟩ = some (.int .i64 p.1) := by
  obtain ⟨b, off, c, hv, hb, hc⟩ := h.get hj
  exact ⟨b, off, c, hv, hb, hc 0 _ (by decide) rfl⟩
theorem row_at {w : World} {base : Nat} {e : TypeId} {p : Option Addr} {c : Nat} {X : Nat → Value} (h : w.ownsRow base e 1 (.slice p 5 c) 5 ((List.range 5).map X)) : ∃ g, p = some ⟨g, 0, none⟩ ∧ g < w.heap.size ∧ ∀ i, i < 5 → w.cell? ⟨g, i, none⟩ = some (X i) := by
  obtain ⟨_, ⟨_, h1⟩ | ⟨ga, cap, cur, h0, hbg, hgg, _⟩⟩ := id h
  · cases h1
  · simp only [Value.slice.injEq] at h0
    refine ⟨ga, h0.1, (Array.getElem?_eq_some_iff.1 hgg).1, fun i hi => ?_⟩
    have := h.cells (g := ga) (by rw [h0.1]; rfl) i (X i) (by simp [hi])
    rw [addA, Nat.zero_add] at this
    exact this
set_option maxHeartbeats 16000000 in
set_option maxRecDepth 100000 in
theorem apart_any (bl bk cl ck : Nat) (V U : Nat → Value) (C : Nat → List Rc) (Q : Nat → List Rs) (w : World)
    (hl : ∀ k, k < 5 → w.cell? ⟨bl, k, none⟩ = some (V k)) (hbl : bl < w.heap.size) (hk : ∀ k, k < 5 → w.cell? ⟨bk, k, none⟩ = some (U k)) (hbk : bk < w.heap.size)
    (hnl : ∀ k, k < 5 → (V k).ownBlock ≠ some bl ∧ (U k).ownBlock ≠ some bl ∧ (V k).ownBlock ≠ some bk ∧ (U k).ownBlock ≠ some bk)
    (hF : Fam KC 47 w 5 V C) (hG : Fam KS 35 w 5 U Q) (hX : ∀ i j, i < 5 → j < 5 → ∀ g, (V i).ownBlock = some g → (U j).ownBlock ≠ some g) (hN : ∀ k, k < 5 → (C k).length ≤ 1000) (hM : ∀ k, k < 5 → (Q k).length ≤ 1000) :
    Calls Try.prog 16 #[.slice (some ⟨bl, 0, none⟩) 5 cl, .slice (some ⟨bk, 0, none⟩) 5 ck] w fun e w' => e = .returned (.bool true) ∧ Kp (SqB V U) w w' := by
  have hmx : Try.prog.follows .mixedOrders = true := by kernel_rfl
  have hMA := fun i j hi hj W => mark_any i j hi hj W
  have HBL : Hid (∀ W, Kp (SqB V U) w W → (∀ k, k < 5 → W.cell? ⟨bl, k, none⟩ = some (V k)) ∧ bl < W.heap.size) := fun W h => ⟨fun k hk4 => (h.cell hbl (fun e => by
    rcases e with ⟨i, hi, e⟩ | ⟨i, hi, e⟩
    · exact (hnl i hi).1 e
    · exact (hnl i hi).2.1 e)).trans (hl k hk4), Nat.lt_of_lt_of_le hbl h.size⟩
  have HBK : Hid (∀ W, Kp (SqB V U) w W → (∀ k, k < 5 → W.cell? ⟨bk, k, none⟩ = some (U k)) ∧ bk < W.heap.size) := fun W h => ⟨fun k hk4 => (h.cell hbk (fun e => by
    rcases e with ⟨i, hi, e⟩ | ⟨i, hi, e⟩
    · exact (hnl i hi).2.2.1 e
    · exact (hnl i hi).2.2.2 e)).trans (hk k hk4), Nat.lt_of_lt_of_le hbk h.size⟩
  have HF := hid hF
  have HG := hid hG
  have HX := hid hX
  have HN := hid hN
  have HM := hid hM
  clear hl hbl hk hbk hnl hF hG hX hN hM
  go_enter Try.func16, Try.ntmps16
  have KW : Hid (∀ W, Kp (Sq V) w W → Kp (SqB V U) w W) := fun W h => h.mono (fun _ h => Or.inl h)
  go_upto_block 0 with fail
  go_cut [4] (fun s4 w' => s4 = .bool false ∧ Hid (Fam KC 47 w' 5 V (stage mkC C 5 0) ∧ Kp (Sq V) w w'))
  case first =>
    go_wp2_with fail
    go_loopw [25] (fun s wr => ∃ k : Nat, k ≤ 5 ∧ s = .int .i64 (k : Nat) ∧ Hid (Fam KC 47 wr 5 V (stage mkC C k 0) ∧ Kp (Sq V) w wr)) (fun s _ => 5 - (RowKit.intOf s).toNat)
    case atStart => exact ⟨0, by omega, rfl, by rw [stage_zero]; exact HF.out, Kp.refl _ _⟩
    case round =>
      obtain ⟨k, hk, rfl, HI⟩ := hrel
      by_cases hk4 : k < 5
      · have hkz : (k : Int) < 5 := by omega
        have hk0 : (0 : Int) ≤ (k : Int) := by omega
        have hNk := byt5 (HN.out k hk4)
        obtain ⟨hc, hblr⟩ := HBL.out wr (KW.out wr HI.out.2)
        have x0 := hc k hk4
        obtain ⟨pk, ck', ek⟩ := owns_form (HF.out.own k hk4)
        rw [ek] at x0
        have HE := hid ek
        clear hc ek
        go_wp2_with fail
        go_loopw [32] (fun s wr => ∃ i : Nat, i ≤ (C k).length ∧ s = .int .i64 (i : Nat) ∧ Hid (Fam KC 47 wr 5 V (stage mkC C k i) ∧ Kp (Sq V) w wr)) (fun s _ => (C k).length - (RowKit.intOf s).toNat)
        case atStart => exact ⟨0, Nat.zero_le _, rfl, HI⟩
        case round =>
          clear HI x0 hblr
          obtain ⟨i, hi, rfl, HI⟩ := hrel
          by_cases hlt : i < (C k).length
          · have hltz : (i : Int) < ((C k).length : Int) := by omega
            have hi0 : (0 : Int) ≤ (i : Int) := by omega
            have hlen := stage_len mkC C k i k hi
            have hown : wr.ownsRow 0 47 5 (.slice pk (C k).length ck') (C k).length (fl KC (stage mkC C k i k)) := by
              have := HI.out.1.own k hk4
              rw [hlen, HE.out] at this
              exact this
            obtain ⟨g, cap, hV, _, _⟩ := owns_form0 hown (by omega)
            simp only [Value.slice.injEq] at hV
            obtain ⟨rfl, -, rfl⟩ := hV
            obtain ⟨s', hs'⟩ : ∃ s', (stage mkC C k i k)[i]? = some s' := ⟨(stage mkC C k i k)[i]'(by omega), by simp⟩
            have q0 : wr.cell? ⟨g, i * 5, none⟩ = some (.int .i64 s'.1.1) := row_cell hown (fl_get KC _ i 0 s' hs' (by decide))
            have f0 := owns_frozen0 hown (i * 5)
            have q1 : wr.cell? ⟨g, i * 5 + 1, none⟩ = some (.int .u64 s'.1.2.1) := row_cell hown (fl_get KC _ i 1 s' hs' (by decide))
            have f1 := owns_frozen0 hown (i * 5 + 1)
            have q2 : wr.cell? ⟨g, i * 5 + 2, none⟩ = some (.int .u64 s'.1.2.2.1) := row_cell hown (fl_get KC _ i 2 s' hs' (by decide))
            have f2 := owns_frozen0 hown (i * 5 + 2)
            have q3 : wr.cell? ⟨g, i * 5 + 3, none⟩ = some (.int .u64 s'.1.2.2.2) := row_cell hown (fl_get KC _ i 3 s' hs' (by decide))
            have f3 := owns_frozen0 hown (i * 5 + 3)
            have q4 : wr.cell? ⟨g, i * 5 + 4, none⟩ = some (.int .i64 s'.2) := row_cell hown (fl_get KC _ i 4 s' hs' (by decide))
            have f4 := owns_frozen0 hown (i * 5 + 4)
            have hmk := hMA k i (by omega) (by omega)
            have hgl : g < wr.heap.size := (hown.lt g rfl).2
            clear hown hs' hlen
            have HS := hid (fam_markC HI.out.1 hk4 HE.out rfl hlt)
            have HK := hid (HI.out.2.trans (HS.out.2.mono (fun q hq => ⟨k, hk4, hq⟩)) (fun _ _ h => h))
            go_wp2_with fail
            refine (hmk _).mono ?_
            rintro e w5 ⟨rfl, hw5⟩
            subst hw5
            go_wp2_with fail
            go_roundw
            case rel => exact ⟨i + 1, by omega, by go_num, HS.out.1, HK.out⟩
            case measure => simp [RowKit.intOf]; omega
          · have hltz : ¬ (i : Int) < ((C k).length : Int) := by omega
            have hie : i = (C k).length := by omega
            have HI2 : Hid (Fam KC 47 wr 5 V (stage mkC C (k + 1) 0) ∧ Kp (Sq V) w wr) := by
              have := HI.out
              rw [hie, stage_next] at this
              exact this
            go_wp2_with fail
            go_roundw
            case rel => exact ⟨k + 1, by omega, by go_num, HI2⟩
            case measure => simp [RowKit.intOf]; omega
      · have hkz : ¬ (k : Int) < 5 := by omega
        have hk' : k = 5 := by omega
        subst hk'
        go_wp2_with fail
        go_meet
        exact ⟨rfl, HI⟩
  case rest =>
    obtain ⟨rfl, H1⟩ := hcut
    obtain ⟨W1, hW1⟩ : ∃ W, W = wc := ⟨_, rfl⟩
    rw [← hW1] at H1 ⊢
    clear hW1 KW
    have K1 := hid (show Kp (SqB V U) w W1 from H1.out.2.mono (fun _ h => Or.inl h))
    have HG1 := hid (HG.out.kp H1.out.2 (fun i hi g hg => fun ⟨i', hi', e⟩ => HX.out i' i hi' hi g e hg))
    have KW : Hid (∀ W, Kp (Sq U) W1 W → Kp (SqB V U) w W) := fun W h => K1.out.trans (h.mono (fun _ h => Or.inr h)) (fun _ _ h => h)
    go_upto_block 4 with fail
    go_cut [4] (fun s4 w' => s4 = .bool false ∧ Hid (Fam KS 35 w' 5 U (stage mkS Q 5 0) ∧ Kp (Sq U) W1 w'))
    case first =>
      go_wp2_with fail
      go_loopw [46] (fun s wr => ∃ k : Nat, k ≤ 5 ∧ s = .int .i64 (k : Nat) ∧ Hid (Fam KS 35 wr 5 U (stage mkS Q k 0) ∧ Kp (Sq U) W1 wr)) (fun s _ => 5 - (RowKit.intOf s).toNat)
      case atStart => exact ⟨0, by omega, rfl, by rw [stage_zero]; exact HG1.out, Kp.refl _ _⟩
      case round =>
        obtain ⟨k, hk, rfl, HI⟩ := hrel
        by_cases hk4 : k < 5
        · have hkz : (k : Int) < 5 := by omega
          have hk0 : (0 : Int) ≤ (k : Int) := by omega
          have hNk := byt5 (HM.out k hk4)
          obtain ⟨hc, hblr⟩ := HBK.out wr (KW.out wr HI.out.2)
          have x0 := hc k hk4
          obtain ⟨pk, ck', ek⟩ := owns_form (HG1.out.own k hk4)
          rw [ek] at x0
          have HE := hid ek
          clear hc ek
          go_wp2_with fail
          go_loopw [53] (fun s wr => ∃ i : Nat, i ≤ (Q k).length ∧ s = .int .i64 (i : Nat) ∧ Hid (Fam KS 35 wr 5 U (stage mkS Q k i) ∧ Kp (Sq U) W1 wr)) (fun s _ => (Q k).length - (RowKit.intOf s).toNat)
          case atStart => exact ⟨0, Nat.zero_le _, rfl, HI⟩
          case round =>
            clear HI x0 hblr
            obtain ⟨i, hi, rfl, HI⟩ := hrel
            by_cases hlt : i < (Q k).length
            · have hltz : (i : Int) < ((Q k).length : Int) := by omega
              have hi0 : (0 : Int) ≤ (i : Int) := by omega
              have hlen := stage_len mkS Q k i k hi
              have hown : wr.ownsRow 0 35 4 (.slice pk (Q k).length ck') (Q k).length (fl KS (stage mkS Q k i k)) := by
                have := HI.out.1.own k hk4
                rw [hlen, HE.out] at this
                exact this
              obtain ⟨g, cap, hV, _, _⟩ := owns_form0 hown (by omega)
              simp only [Value.slice.injEq] at hV
              obtain ⟨rfl, -, rfl⟩ := hV
              obtain ⟨s', hs'⟩ : ∃ s', (stage mkS Q k i k)[i]? = some s' := ⟨(stage mkS Q k i k)[i]'(by omega), by simp⟩
              have q0 : wr.cell? ⟨g, i * 4, none⟩ = some (.int .i64 s'.1) := row_cell hown (fl_get KS _ i 0 s' hs' (by decide))
              have f0 := owns_frozen0 hown (i * 4)
              have q1 : wr.cell? ⟨g, i * 4 + 1, none⟩ = some (.int .u64 s'.2.1) := row_cell hown (fl_get KS _ i 1 s' hs' (by decide))
              have f1 := owns_frozen0 hown (i * 4 + 1)
              have q2 : wr.cell? ⟨g, i * 4 + 2, none⟩ = some (.int .u64 s'.2.2.1) := row_cell hown (fl_get KS _ i 2 s' hs' (by decide))
              have f2 := owns_frozen0 hown (i * 4 + 2)
              have q3 : wr.cell? ⟨g, i * 4 + 3, none⟩ = some (.int .u64 s'.2.2.2) := row_cell hown (fl_get KS _ i 3 s' hs' (by decide))
              have f3 := owns_frozen0 hown (i * 4 + 3)
              have hmk := hMA k i (by omega) (by omega)
              have hgl : g < wr.heap.size := (hown.lt g rfl).2
              clear hown hs' hlen
              have HS := hid (fam_markS HI.out.1 hk4 HE.out rfl hlt)
              have HK := hid (HI.out.2.trans (HS.out.2.mono (fun q hq => ⟨k, hk4, hq⟩)) (fun _ _ h => h))
              go_wp2_with fail
              refine (hmk _).mono ?_
              rintro e w5 ⟨rfl, hw5⟩
              subst hw5
              go_wp2_with fail
              go_roundw
              case rel => exact ⟨i + 1, by omega, by go_num, HS.out.1, HK.out⟩
              case measure => simp [RowKit.intOf]; omega
            · have hltz : ¬ (i : Int) < ((Q k).length : Int) := by omega
              have hie : i = (Q k).length := by omega
              have HI2 : Hid (Fam KS 35 wr 5 U (stage mkS Q (k + 1) 0) ∧ Kp (Sq U) W1 wr) := by
                have := HI.out
                rw [hie, stage_next] at this
                exact this
              go_wp2_with fail
              go_roundw
              case rel => exact ⟨k + 1, by omega, by go_num, HI2⟩
              case measure => simp [RowKit.intOf]; omega
        · have hkz : ¬ (k : Int) < 5 := by omega
          have hk' : k = 5 := by omega
          subst hk'
          go_wp2_with fail
          go_meet
          exact ⟨rfl, HI⟩
    case rest =>
      obtain ⟨rfl, H2⟩ := hcut
      obtain ⟨W2, hW2⟩ : ∃ W, W = wc := ⟨_, rfl⟩
      rw [← hW2] at H2 ⊢
      clear hW2
      have K2 := hid (KW.out W2 H2.out.2)
      have FC2 := hid (H1.out.1.kp H2.out.2 (fun i hi g hg => fun ⟨i', hi', e⟩ => HX.out i i' hi hi' g hg e))
      have FS2 := hid H2.out.1
      clear KW H1 H2 K1 HG1 HF HG
      have G0 : Hid (Grw KC 47 27 mkC 1 W2 5 V (fun i => (C i).length) W2 0 V (.slice none 0 0)) := ⟨fun i hi => by omega, fun i hi => by omega, fun i _ hi => by
        have := FC2.out.own i hi
        rw [stage_full mkC C 5 i hi, mks_len] at this
        exact this, fun i hi => by omega, World.ownsRow_nil _ _ _ _, fun g hg => by simp [Value.ownBlock] at hg, Kp.refl _ _⟩
      have FAR := hid FC2.out.far
      have LOW := hid (fun i hi g hg => FC2.out.lt (i := i) hi g hg)
      go_upto_block 8 with fail
      go_cut [11] (fun s w' => ∃ X : Nat → Value, Hid (Grw KC 47 27 mkC 1 W2 5 V (fun i => (C i).length) w' 5 X s))
      case first =>
        obtain ⟨iS, hiS, hs0, hs1, hs2⟩ := info_parts infoLC
        go_wp2_with fail
        go_loopw [11, 67] (fun s sc' wr => ∃ (k : Nat) (X : Nat → Value), k ≤ 5 ∧ sc' = .int .i64 (k : Nat) ∧ Hid (Grw KC 47 27 mkC 1 W2 5 V (fun i => (C i).length) wr k X s)) (fun _ sc' _ => 5 - (RowKit.intOf sc').toNat)
        case atStart => exact ⟨0, V, Nat.zero_le _, rfl, G0⟩
        case round =>
          clear G0
          obtain ⟨k, X, hk, rfl, HG⟩ := hrel
          by_cases hk4 : k < 5
          · have hkz : (k : Int) < 5 := by omega
            have hk0 : (0 : Int) ≤ (k : Int) := by omega
            obtain ⟨hc, hblr⟩ := HBL.out wr (K2.out.trans (HG.out.kp.mono (fun q hq => Or.inl hq)) (fun _ _ h => h))
            have hNk := byt5 (HN.out k hk4)
            have hK5 := byt6 hk4
            have x0 := hc k hk4
            have hOk := HG.out.rest k (Nat.le_refl _) hk4
            obtain ⟨pk, ck', ek⟩ := owns_form hOk
            rw [ek] at x0 hOk
            have HOK : Hid (wr.ownsRow 0 47 KC.k (.slice pk (C k).length ck') (C k).length (fl KC (mks mkC k (C k).length))) := hOk
            have HEK : Hid (V k = .slice pk (C k).length ck') := ek
            obtain ⟨pu, cu, hu⟩ := owns_form HG.out.more
            subst hu
            have hsw := HG.out.kp.size
            have hmk := hMA k (C k).length hK5.2.2 hNk.2.2.2.1
            clear hOk ek hc
            go_wp2_with fail
            refine (hmk _).mono ?_
            rintro e w5 ⟨rfl, hw5⟩
            rw [hw5]
            clear hw5
            go_wp2_with (first
              | (at_builtin; refine wpAppKeep1 KC Try.underlying27 infoC rfl (by decide) rfl _ _ rfl (.slice pk (C k).length ck') (C k).length (mks mkC k (C k).length) rfl HOK.out (mkC k (C k).length) (by first | rfl | simp) hNk.1 hNk.2.2.1 _ rfl _ ?_; intro g cap W1' ho1 hk1 hl1 hold
                 have HX1 : Hid (Ls KC W1' (.slice (some ⟨g, 0, none⟩) ((C k).length + 1) cap) (mks mkC k ((C k).length + 1))) := owns_ls (E := KC) (by rw [mks_len, ← mks_fl]; exact ho1)
                 have HOLD : Hid (Ls KC W1' (V k) (mks mkC k (C k).length)) := by
                   unfold Hid
                   rw [HEK.out]
                   exact old_ls HOK.out (mks_len ..) hk1.size hold
                 have HK1 : Hid (Kp (fun q => (V k).ownBlock = some q) wr W1') := by
                   unfold Hid
                   rw [HEK.out]
                   exact hk1
                 have HL1 : Hid (∀ q, (Value.slice (some ⟨g, 0, none⟩) ((C k).length + 1) cap).ownBlock = some q → (V k).ownBlock = some q ∨ wr.heap.size ≤ q) := fun q hq => by
                   have : q = g := by simpa [Value.ownBlock] using hq.symm
                   rw [this, HEK.out]
                   exact hl1
                 have HM1 : Hid (W1'.ownsRow W2.heap.size 27 1 (.slice pu k cu) k ((List.range k).map X)) := owns_kp HK1.out HG.out.more (fun q hq e => by
                   have h1 := (HG.out.more.lt q hq).1
                   have h2 := LOW.out k hk4 q e
                   omega)
                 have hz1 := HK1.out.size
                 clear ho1 hk1 hl1 hold)
              | (at_builtin; refine wpList_append_lies _ rfl _ _ 44 rfl W2.heap.size 27 iS (.slice none 0 0) 1 24 Try.underlying44 hiS hs0 hs1 hs2 rfl (by decide) (.slice pu k cu) k _ rfl (World.ownsRow.alloc HM1.out _) ⟨W1'.heap.size, 0, none⟩ 1 1 [.slice (some ⟨g, 0, none⟩) ((C k).length + 1) cap] (by first | rfl | simp) rfl (World.news_of_block (heap_new' _ _)) (fun u hu => by simp at hu; subst hu; rfl) (by decide) hK5.1 hK5.2.1 (Nat.le_trans (Nat.le_trans hsw hz1) (by simp)) _ rfl ?_; intro g7 c7 W3' ho3 hg3 hl3 _)
              | go_in)
            have HSS := hid (HG.out.step hk4 FAR.out LOW.out HX1.out HL1.out HOLD.out HK1.out ho3 ((Kp.of_below ((Gr.refl W1').alloc _).below).trans (Kp.grownBy (S := fun q => (Value.slice pu k cu).ownBlock = some q) hg3 (fun _ h => h)) (fun _ _ h => h)) (fun q hq => by
              have : q = g7 := by simpa [Value.ownBlock] using hq.symm
              rw [this]
              exact hl3.imp id (fun e => by rw [e]; simp)))
            clear ho3 hg3 hl3 HX1 HOLD HK1 HL1 HM1
            go_wp2_with fail
            go_roundw
            case rel => exact ⟨k + 1, _, by omega, by go_num, HSS⟩
            case measure => exact meas_up 5 k hk4
          · have hkz : ¬ (k : Int) < 5 := by omega
            have hk' : k = 5 := by omega
            subst hk'
            go_wp2_with fail
            go_meet
            exact ⟨X, HG⟩
      case rest =>
        obtain ⟨X, GC⟩ := hcut
        obtain ⟨W3, hW3⟩ : ∃ W, W = wc := ⟨_, rfl⟩
        rw [← hW3] at GC ⊢
        clear hW3 G0
        obtain ⟨pm, cm, hpm⟩ := owns_form GC.out.more
        subst hpm
        have K3 := hid (show Kp (SqB V U) w W3 from K2.out.trans (GC.out.kp.mono (fun q hq => Or.inl hq)) (fun _ _ h => h))
        have FS3 := hid (FS2.out.kp GC.out.kp (fun i hi g hg => fun ⟨i', hi', e⟩ => HX.out i' i hi' hi g e hg))
        have LOWU := hid (fun i hi g hg => FS2.out.lt (i := i) hi g hg)
        have LOWV := LOW
        clear FAR LOW FS2 FC2
        have G0 : Hid (Grw KS 35 29 mkS 1 W3 5 U (fun i => (Q i).length) W3 0 U (.slice none 0 0)) := ⟨fun i hi => by omega, fun i hi => by omega, fun i _ hi => by
          have := FS3.out.own i hi
          rw [stage_full mkS Q 5 i hi, mks_len] at this
          exact this, fun i hi => by omega, World.ownsRow_nil _ _ _ _, fun g hg => by simp [Value.ownBlock] at hg, Kp.refl _ _⟩
        have FAR := hid FS3.out.far
        have LOW := hid (fun i hi g hg => FS3.out.lt (i := i) hi g hg)
        go_upto_block 10 with fail
        go_cut [12] (fun s w' => ∃ X : Nat → Value, Hid (Grw KS 35 29 mkS 1 W3 5 U (fun i => (Q i).length) w' 5 X s))
        case first =>
          obtain ⟨iS, hiS, hs0, hs1, hs2⟩ := info_parts infoLS
          go_wp2_with fail
          go_loopw [12, 86] (fun s sc' wr => ∃ (k : Nat) (X : Nat → Value), k ≤ 5 ∧ sc' = .int .i64 (k : Nat) ∧ Hid (Grw KS 35 29 mkS 1 W3 5 U (fun i => (Q i).length) wr k X s)) (fun _ sc' _ => 5 - (RowKit.intOf sc').toNat)
          case atStart => exact ⟨0, U, Nat.zero_le _, rfl, G0⟩
          case round =>
            clear G0
            obtain ⟨k, X, hk, rfl, HG⟩ := hrel
            by_cases hk4 : k < 5
            · have hkz : (k : Int) < 5 := by omega
              have hk0 : (0 : Int) ≤ (k : Int) := by omega
              obtain ⟨hc, hblr⟩ := HBK.out wr (K3.out.trans (HG.out.kp.mono (fun q hq => Or.inr hq)) (fun _ _ h => h))
              have hNk := byt5 (HM.out k hk4)
              have hK5 := byt6 hk4
              have x0 := hc k hk4
              have hOk := HG.out.rest k (Nat.le_refl _) hk4
              obtain ⟨pk, ck', ek⟩ := owns_form hOk
              rw [ek] at x0 hOk
              have HOK : Hid (wr.ownsRow 0 35 KS.k (.slice pk (Q k).length ck') (Q k).length (fl KS (mks mkS k (Q k).length))) := hOk
              have HEK : Hid (U k = .slice pk (Q k).length ck') := ek
              obtain ⟨pu, cu, hu⟩ := owns_form HG.out.more
              subst hu
              have hsw := HG.out.kp.size
              have hmk := hMA k (Q k).length hK5.2.2 hNk.2.2.2.1
              clear hOk ek hc
              go_wp2_with fail
              refine (hmk _).mono ?_
              rintro e w5 ⟨rfl, hw5⟩
              rw [hw5]
              clear hw5
              go_wp2_with (first
                | (at_builtin; refine wpAppKeep1 KS Try.underlying29 infoS rfl (by decide) rfl _ _ rfl (.slice pk (Q k).length ck') (Q k).length (mks mkS k (Q k).length) rfl HOK.out (mkS k (Q k).length) (by first | rfl | simp) hNk.2.1 hNk.2.2.1 _ rfl _ ?_; intro g cap W1' ho1 hk1 hl1 hold
                   have HX1 : Hid (Ls KS W1' (.slice (some ⟨g, 0, none⟩) ((Q k).length + 1) cap) (mks mkS k ((Q k).length + 1))) := owns_ls (E := KS) (by rw [mks_len, ← mks_fl]; exact ho1)
                   have HOLD : Hid (Ls KS W1' (U k) (mks mkS k (Q k).length)) := by
                     unfold Hid
                     rw [HEK.out]
                     exact old_ls HOK.out (mks_len ..) hk1.size hold
                   have HK1 : Hid (Kp (fun q => (U k).ownBlock = some q) wr W1') := by
                     unfold Hid
                     rw [HEK.out]
                     exact hk1
                   have HL1 : Hid (∀ q, (Value.slice (some ⟨g, 0, none⟩) ((Q k).length + 1) cap).ownBlock = some q → (U k).ownBlock = some q ∨ wr.heap.size ≤ q) := fun q hq => by
                     have : q = g := by simpa [Value.ownBlock] using hq.symm
                     rw [this, HEK.out]
                     exact hl1
                   have HM1 : Hid (W1'.ownsRow W3.heap.size 29 1 (.slice pu k cu) k ((List.range k).map X)) := owns_kp HK1.out HG.out.more (fun q hq e => by
                     have h1 := (HG.out.more.lt q hq).1
                     have h2 := LOW.out k hk4 q e
                     omega)
                   have hz1 := HK1.out.size
                   clear ho1 hk1 hl1 hold)
                | (at_builtin; refine wpList_append_lies _ rfl _ _ 45 rfl W3.heap.size 29 iS (.slice none 0 0) 1 24 Try.underlying45 hiS hs0 hs1 hs2 rfl (by decide) (.slice pu k cu) k _ rfl (World.ownsRow.alloc HM1.out _) ⟨W1'.heap.size, 0, none⟩ 1 1 [.slice (some ⟨g, 0, none⟩) ((Q k).length + 1) cap] (by first | rfl | simp) rfl (World.news_of_block (heap_new' _ _)) (fun u hu => by simp at hu; subst hu; rfl) (by decide) hK5.1 hK5.2.1 (Nat.le_trans (Nat.le_trans hsw hz1) (by simp)) _ rfl ?_; intro g7 c7 W3' ho3 hg3 hl3 _)
                | go_in)
              have HSS := hid (HG.out.step hk4 FAR.out LOW.out HX1.out HL1.out HOLD.out HK1.out ho3 ((Kp.of_below ((Gr.refl W1').alloc _).below).trans (Kp.grownBy (S := fun q => (Value.slice pu k cu).ownBlock = some q) hg3 (fun _ h => h)) (fun _ _ h => h)) (fun q hq => by
                have : q = g7 := by simpa [Value.ownBlock] using hq.symm
                rw [this]
                exact hl3.imp id (fun e => by rw [e]; simp)))
              clear ho3 hg3 hl3 HX1 HOLD HK1 HL1 HM1
              go_wp2_with fail
              go_roundw
              case rel => exact ⟨k + 1, _, by omega, by go_num, HSS⟩
              case measure => exact meas_up 5 k hk4
            · have hkz : ¬ (k : Int) < 5 := by omega
              have hk' : k = 5 := by omega
              subst hk'
              go_wp2_with fail
              go_meet
              exact ⟨X, HG⟩
        case rest =>
          obtain ⟨Y, GS⟩ := hcut
          obtain ⟨W4, hW4⟩ : ∃ W, W = wc := ⟨_, rfl⟩
          rw [← hW4] at GS ⊢
          clear hW4 G0
          obtain ⟨pn, cn, hpn⟩ := owns_form GS.out.more
          subst hpn
          have K4 := hid (show Kp (SqB V U) w W4 from K3.out.trans (GS.out.kp.mono (fun q hq => Or.inr hq)) (fun _ _ h => h))
          have hu2 : Hid (∀ q, (∃ i, i < 5 ∧ (U i).ownBlock = some q) → q < W2.heap.size) := fun q ⟨i, hi, e⟩ => LOWU.out i hi q e
          have BIGC : Hid (∀ i, i < 5 → Ls KC W4 (X i) (mks mkC i ((C i).length + 1)) ∧ Ls KC W4 (V i) (mks mkC i (C i).length)) := fun i hi => ⟨GS.out.kp.ls (GC.out.big i hi) (fun q hq e => by
            rcases GC.out.lie i hi q hq with h | h
            · obtain ⟨i', hi', e⟩ := e
              exact HX.out i i' hi hi' q h e
            · have := hu2.out q e
              omega), GS.out.kp.ls (GC.out.old i hi) (fun q hq e => by
            obtain ⟨i', hi', e⟩ := e
            exact HX.out i i' hi hi' q hq e)⟩
          have BIGS : Hid (∀ i, i < 5 → Ls KS W4 (Y i) (mks mkS i ((Q i).length + 1)) ∧ Ls KS W4 (U i) (mks mkS i (Q i).length)) := fun i hi => ⟨GS.out.big i hi, GS.out.old i hi⟩
          have MR := hid (owns_kp GS.out.kp GC.out.more (fun q hq e => by
            have h1 := (GC.out.more.lt q hq).1
            have h2 := hu2.out q e
            omega))
          have NR := hid GS.out.more
          have CBL := hid (HBL.out W4 K4.out)
          have CBK := hid (HBK.out W4 K4.out)
          clear GC GS HBL HBK K2 K3 FS3 LOWU LOWV FAR LOW hu2 HX
          obtain ⟨gm, hgm, zm, cmk⟩ := row_at MR.out
          subst hgm
          go_upto_block 12 with fail
          go_cut [4] (fun _ w' => Hid (Gr W4 w'))
          case first =>
            go_wp2_with fail
            go_loopw [105] (fun s wr => ∃ k : Nat, k ≤ 5 ∧ s = .int .i64 (k : Nat) ∧ Gr W4 wr) (fun s _ => 5 - (RowKit.intOf s).toNat)
            case atStart => exact ⟨0, by omega, rfl, Gr.refl _⟩
            case round =>
              obtain ⟨k, hk, rfl, hg3⟩ := hrel
              by_cases hk4 : k < 5
              · have hkz : (k : Int) < 5 := by omega
                have hk0 : (0 : Int) ≤ (k : Int) := by omega
                have hNk := byt5 (HN.out k hk4)
                have hK5 := byt6 hk4
                have m1 := (hg3.cell zm).trans (cmk k hk4)
                have hb := BIGC.out k hk4
                obtain ⟨px, cx, ex⟩ := hb.1.form
                obtain ⟨pv, cv, ev⟩ := hb.2.form
                rw [mks_len] at ex ev
                rw [ex] at m1
                have HLX : Hid (Ls KC W4 (.slice px ((C k).length + 1) cx) (mks mkC k ((C k).length + 1))) := by rw [← ex]; exact hb.1
                have HLV : Hid (Ls KC W4 (.slice pv (C k).length cv) (mks mkC k (C k).length)) := by rw [← ev]; exact hb.2
                have HCk : Hid (W4.cell? ⟨bl, k, none⟩ = some (.slice pv (C k).length cv)) := by rw [← ev]; exact CBL.out.1 k hk4
                have zb := CBL.out.2
                clear ex ev hb
                obtain ⟨n, hn⟩ : ∃ n, n = (C k).length := ⟨_, rfl⟩
                rw [← hn] at HLX HLV HCk hNk m1
                clear hn
                go_wp2_with fail
                clear m1
                go_loopw [112] (fun s wr => ∃ i : Nat, i ≤ n + 1 ∧ s = .int .i64 (i : Nat) ∧ Gr W4 wr) (fun s _ => n + 1 - (RowKit.intOf s).toNat)
                case atStart => exact ⟨0, Nat.zero_le _, rfl, hg3⟩
                case round =>
                  clear hg3
                  obtain ⟨i, hi, rfl, hg4⟩ := hrel
                  by_cases hlt : i < n + 1
                  · have hltz : (i : Int) < ((n + 1 : Nat) : Int) := Int.ofNat_lt.2 hlt
                    have hltz2 : (i : Int) < (n : Int) + 1 := by omega
                    have hi0 : (0 : Int) ≤ (i : Int) := by omega
                    obtain ⟨b1, o1, c1, e1, z1, x0⟩ := atKC (HLX.out.below hg4.below) (j := i) (mks_get mkC hlt)
                    simp only [Value.slice.injEq] at e1
                    obtain ⟨rfl, -, rfl⟩ := e1
                    have x0 : wr.cell? ⟨b1, o1 + i * 5 + 4, none⟩ = some (.int .i64 (mz k i)) := x0
                    have y0 := (hg4.cell zb).trans HCk.out
                    have zb4 := Nat.lt_of_lt_of_le zb hg4.size
                    have hmk := hMA k i hK5.2.2 (Nat.lt_of_lt_of_le hlt (Nat.le_of_lt hNk.2.2.2.2))
                    have hzz : (mz k i != mz k i) = false := by simp
                    have hS0 : Gr wr wr.drew := (Gr.refl wr).drew
                    have HG4 := hid hg4
                    by_cases hlv : i < n
                    · have hlvz : (i : Int) < (n : Int) := by omega
                      obtain ⟨b2, o2, c2, e2, z2, v0⟩ := atKC (HLV.out.below hg4.below) (j := i) (mks_get mkC hlv)
                      simp only [Value.slice.injEq] at e2
                      obtain ⟨rfl, -, rfl⟩ := e2
                      have v0 : wr.cell? ⟨b2, o2 + i * 5 + 4, none⟩ = some (.int .i64 (mz k i)) := v0
                      clear hg4
                      generalize mz k i = zz at *
                      go_upto_region 37 with fail
                      refine wp_regionD (S := fun W => Gr wr W) (D := []) hmx ?_
                      refine' wpAnyD_take (i := 0) (oi := { dst := some 115, op := Go.Op.move (Go.Operand.tmp 18), type := 27, pos := "outright.go:128", after := #[], guard := none }) (v := _) rfl (by kernel_rfl) (by kernel_rfl) (by kernel_rfl) (fun _ _ _ h => h) (by kernel_rfl) (Or.inl ⟨by rfl, ?hy1⟩) hS0 ?rest1
                      case hy1 => (intro W hSw; go_simp; try (with_reducible rfl))
                      try simp only [Act.put, List.setIfInBounds_toArray, List.set_cons_zero, List.set_cons_succ]
                      refine' wpAnyD_take (i := 1) (oi := { dst := some 116, op := Go.Op.move (Go.Operand.tmp 19), type := 3, pos := "outright.go:128", after := #[], guard := none }) (v := _) rfl (by kernel_rfl) (by kernel_rfl) (by kernel_rfl) (fun _ _ _ h => h) (by kernel_rfl) (Or.inl ⟨by rfl, ?hy2⟩) hS0 ?rest2
                      case hy2 => (intro W hSw; go_simp; try (with_reducible rfl))
                      try simp only [Act.put, List.setIfInBounds_toArray, List.set_cons_zero, List.set_cons_succ]
                      refine' wpAnyD_take (i := 2) (oi := { dst := some 117, op := Go.Op.indexAddr 27 (Go.Operand.tmp 115) (Go.Operand.tmp 116), type := 0, pos := "outright.go:128", after := #[{ on := 0, ground := Go.Ground.data }, { on := 1, ground := Go.Ground.data }], guard := none }) (v := _) rfl (by kernel_rfl) (by kernel_rfl) (by kernel_rfl) (fun _ _ _ h => h) (by kernel_rfl) (Or.inl ⟨by rfl, ?hy3⟩) hS0 ?rest3
                      case hy3 => (intro W hSw; go_simp; try (with_reducible rfl))
                      try simp only [Act.put, List.setIfInBounds_toArray, List.set_cons_zero, List.set_cons_succ]
                      refine' wpAnyD_take (i := 3) (oi := { dst := some 118, op := Go.Op.fieldAddr 47 (Go.Operand.tmp 117) 1, type := 0, pos := "outright.go:128", after := #[{ on := 2, ground := Go.Ground.data }], guard := none }) (v := _) rfl (by kernel_rfl) (by kernel_rfl) (by kernel_rfl) (fun _ _ _ h => h) (by kernel_rfl) (Or.inl ⟨by rfl, ?hy4⟩) hS0 ?rest4
                      case hy4 => (intro W hSw; go_simp; try (with_reducible rfl))
                      try simp only [Act.put, List.setIfInBounds_toArray, List.set_cons_zero, List.set_cons_succ]
                      refine' wpAnyD_take (i := 4) (oi := { dst := some 119, op := Go.Op.load 2 (Go.Operand.tmp 118), type := 2, pos := "outright.go:128", after := #[{ on := 3, ground := Go.Ground.data }], guard := none }) (v := _) rfl (by kernel_rfl) (by kernel_rfl) (by kernel_rfl) (fun _ _ _ h => h) (by kernel_rfl) (Or.inl ⟨by rfl, ?hy5⟩) hS0 ?rest5
                      case hy5 => (intro W hSw; have h0 := (hSw.cell z1).trans x0; go_simp; try (with_reducible rfl))
                      try simp only [Act.put, List.setIfInBounds_toArray, List.set_cons_zero, List.set_cons_succ]
                      refine' wpAnyD_take (i := 5) (oi := { dst := some 120, op := Go.Op.move (Go.Operand.tmp 17), type := 3, pos := "outright.go:128", after := #[], guard := none }) (v := _) rfl (by kernel_rfl) (by kernel_rfl) (by kernel_rfl) (fun _ _ _ h => h) (by kernel_rfl) (Or.inl ⟨by rfl, ?hy6⟩) hS0 ?rest6
                      case hy6 => (intro W hSw; go_simp; try (with_reducible rfl))
                      try simp only [Act.put, List.setIfInBounds_toArray, List.set_cons_zero, List.set_cons_succ]
                      refine' wpAnyD_take (i := 6) (oi := { dst := some 121, op := Go.Op.move (Go.Operand.tmp 19), type := 3, pos := "outright.go:128", after := #[], guard := none }) (v := _) rfl (by kernel_rfl) (by kernel_rfl) (by kernel_rfl) (fun _ _ _ h => h) (by kernel_rfl) (Or.inl ⟨by rfl, ?hy7⟩) hS0 ?rest7
                      case hy7 => (intro W hSw; go_simp; try (with_reducible rfl))
                      try simp only [Act.put, List.setIfInBounds_toArray, List.set_cons_zero, List.set_cons_succ]
                      refine wpAnyD_one (i := 7) (o := { dst := some 122, op := Go.Op.call { callee := Go.Callee.value (Go.Operand.func 27), args := #[Go.Operand.tmp 120, Go.Operand.tmp 121], argTypes := #[3, 3] }, type := 2, pos := "outright.go:128", after := #[{ on := 5, ground := Go.Ground.data }, { on := 6, ground := Go.Ground.data }], guard := none }) (by kernel_rfl) rfl (fun K hK => ?_)
                      go_simp
                      refine (hmk _).mono ?_
                      rintro e wx7 ⟨rfl, hwx7⟩
                      have hSx7 : Gr wr wx7 := by rw [hwx7]; exact hS0
                      clear hwx7
                      go_wp2_with fail
                      refine hK.out _ _ (fun hD => hSx7) ?_
                      clear hK K
                      try simp only [Act.put, List.setIfInBounds_toArray, List.set_cons_zero, List.set_cons_succ]
                      refine' wpAnyD_take (i := 8) (oi := { dst := some 123, op := Go.Op.binOp Go.BinOp.neq 2 (Go.Operand.tmp 119) (Go.Operand.tmp 122) 2, type := 4, pos := "outright.go:128", after := #[{ on := 4, ground := Go.Ground.data }, { on := 7, ground := Go.Ground.data }], guard := none }) (v := _) rfl (by kernel_rfl) (by kernel_rfl) (by kernel_rfl) (fun _ _ _ h => h) (by kernel_rfl) (Or.inl ⟨by rfl, ?hy9⟩) hSx7 ?rest9
                      case hy9 => (intro W hSw; go_simp; try (with_reducible rfl))
                      try simp only [Act.put, List.setIfInBounds_toArray, List.set_cons_zero, List.set_cons_succ]
                      refine' wpAnyD_take (i := 9) (oi := { dst := some 124, op := Go.Op.move (Go.Operand.tmp 123), type := 4, pos := "outright.go:128", after := #[{ on := 8, ground := Go.Ground.data }, { on := 7, ground := Go.Ground.chain }], guard := none }) (v := _) rfl (by kernel_rfl) (by kernel_rfl) (by kernel_rfl) (fun _ _ _ h => h) (by kernel_rfl) (Or.inl ⟨by rfl, ?hy10⟩) hSx7 ?rest10
                      case hy10 => (intro W hSw; go_simp; try (with_reducible rfl))
                      try simp only [Act.put, List.setIfInBounds_toArray, List.set_cons_zero, List.set_cons_succ]
                      refine' wpAnyD_take (i := 10) (oi := { dst := some 125, op := Go.Op.move (Go.Operand.tmp 19), type := 3, pos := "outright.go:128", after := #[{ on := 9, ground := Go.Ground.guard }], guard := some (9, false) }) (v := _) rfl (by kernel_rfl) (by kernel_rfl) (by kernel_rfl) (fun _ _ _ h => h) (by kernel_rfl) (Or.inl ⟨by rfl, ?hy11⟩) hSx7 ?rest11
                      case hy11 => (intro W hSw; go_simp; try (with_reducible rfl))
                      try simp only [Act.put, List.setIfInBounds_toArray, List.set_cons_zero, List.set_cons_succ]
                      refine' wpAnyD_take (i := 11) (oi := { dst := some 126, op := Go.Op.move (Go.Operand.tmp 0), type := 44, pos := "outright.go:128", after := #[{ on := 9, ground := Go.Ground.guard }], guard := some (9, false) }) (v := _) rfl (by kernel_rfl) (by kernel_rfl) (by kernel_rfl) (fun _ _ _ h => h) (by kernel_rfl) (Or.inl ⟨by rfl, ?hy12⟩) hSx7 ?rest12
                      case hy12 => (intro W hSw; go_simp; try (with_reducible rfl))
                      try simp only [Act.put, List.setIfInBounds_toArray, List.set_cons_zero, List.set_cons_succ]
                      refine' wpAnyD_take (i := 12) (oi := { dst := some 127, op := Go.Op.move (Go.Operand.tmp 17), type := 3, pos := "outright.go:128", after := #[{ on := 9, ground := Go.Ground.guard }], guard := some (9, false) }) (v := _) rfl (by kernel_rfl) (by kernel_rfl) (by kernel_rfl) (fun _ _ _ h => h) (by kernel_rfl) (Or.inl ⟨by rfl, ?hy13⟩) hSx7 ?rest13
                      case hy13 => (intro W hSw; go_simp; try (with_reducible rfl))
                      try simp only [Act.put, List.setIfInBounds_toArray, List.set_cons_zero, List.set_cons_succ]
                      refine' wpAnyD_take (i := 13) (oi := { dst := some 128, op := Go.Op.indexAddr 44 (Go.Operand.tmp 126) (Go.Operand.tmp 127), type := 0, pos := "outright.go:128", after := #[{ on := 11, ground := Go.Ground.data }, { on := 12, ground := Go.Ground.data }, { on := 9, ground := Go.Ground.guard }], guard := some (9, false) }) (v := _) rfl (by kernel_rfl) (by kernel_rfl) (by kernel_rfl) (fun _ _ _ h => h) (by kernel_rfl) (Or.inl ⟨by rfl, ?hy14⟩) hSx7 ?rest14
                      case hy14 => (intro W hSw; go_simp; try (with_reducible rfl))
                      try simp only [Act.put, List.setIfInBounds_toArray, List.set_cons_zero, List.set_cons_succ]
                      refine' wpAnyD_take (i := 14) (oi := { dst := some 129, op := Go.Op.load 27 (Go.Operand.tmp 128), type := 27, pos := "outright.go:128", after := #[{ on := 13, ground := Go.Ground.data }, { on := 9, ground := Go.Ground.guard }], guard := some (9, false) }) (v := _) rfl (by kernel_rfl) (by kernel_rfl) (by kernel_rfl) (fun _ _ _ h => h) (by kernel_rfl) (Or.inl ⟨by rfl, ?hy15⟩) hSx7 ?rest15
                      case hy15 => (intro W hSw; have h0 := (hSw.cell zb4).trans y0; go_simp; try (with_reducible rfl))
                      try simp only [Act.put, List.setIfInBounds_toArray, List.set_cons_zero, List.set_cons_succ]
                      refine' wpAnyD_take (i := 15) (oi := { dst := some 130, op := Go.Op.call { callee := Go.Callee.builtin Go.Builtin.len, args := #[Go.Operand.tmp 129], argTypes := #[27] }, type := 3, pos := "outright.go:128", after := #[{ on := 14, ground := Go.Ground.data }, { on := 9, ground := Go.Ground.guard }], guard := some (9, false) }) (v := _) rfl (by kernel_rfl) (by kernel_rfl) (by kernel_rfl) (fun _ _ _ h => h) (by kernel_rfl) (Or.inl ⟨by rfl, ?hy16⟩) hSx7 ?rest16
                      case hy16 => (intro W hSw; go_simp; try (with_reducible rfl))
                      try simp only [Act.put, List.setIfInBounds_toArray, List.set_cons_zero, List.set_cons_succ]
                      refine' wpAnyD_take (i := 16) (oi := { dst := some 131, op := Go.Op.binOp Go.BinOp.lss 3 (Go.Operand.tmp 125) (Go.Operand.tmp 130) 3, type := 4, pos := "outright.go:128", after := #[{ on := 10, ground := Go.Ground.data }, { on := 15, ground := Go.Ground.data }, { on := 9, ground := Go.Ground.guard }], guard := some (9, false) }) (v := _) rfl (by kernel_rfl) (by kernel_rfl) (by kernel_rfl) (fun _ _ _ h => h) (by kernel_rfl) (Or.inl ⟨by rfl, ?hy17⟩) hSx7 ?rest17
                      case hy17 => (intro W hSw; go_simp; try (with_reducible rfl))
                      try simp only [Act.put, List.setIfInBounds_toArray, List.set_cons_zero, List.set_cons_succ]
                      refine' wpAnyD_take (i := 17) (oi := { dst := some 132, op := Go.Op.move (Go.Operand.tmp 131), type := 4, pos := "outright.go:128", after := #[{ on := 16, ground := Go.Ground.data }, { on := 9, ground := Go.Ground.chain }, { on := 9, ground := Go.Ground.guard }], guard := some (9, false) }) (v := _) rfl (by kernel_rfl) (by kernel_rfl) (by kernel_rfl) (fun _ _ _ h => h) (by kernel_rfl) (Or.inl ⟨by rfl, ?hy18⟩) hSx7 ?rest18
                      case hy18 => (intro W hSw; go_simp; try (with_reducible rfl))
                      try simp only [Act.put, List.setIfInBounds_toArray, List.set_cons_zero, List.set_cons_succ]
                      refine' wpAnyD_take (i := 18) (oi := { dst := some 133, op := Go.Op.move (Go.Operand.tmp 0), type := 44, pos := "outright.go:128", after := #[{ on := 17, ground := Go.Ground.guard }], guard := some (17, true) }) (v := _) rfl (by kernel_rfl) (by kernel_rfl) (by kernel_rfl) (fun _ _ _ h => h) (by kernel_rfl) (Or.inl ⟨by rfl, ?hy19⟩) hSx7 ?rest19
                      case hy19 => (intro W hSw; go_simp; try (with_reducible rfl))
                      try simp only [Act.put, List.setIfInBounds_toArray, List.set_cons_zero, List.set_cons_succ]
                      refine' wpAnyD_take (i := 19) (oi := { dst := some 134, op := Go.Op.move (Go.Operand.tmp 17), type := 3, pos := "outright.go:128", after := #[{ on := 17, ground := Go.Ground.guard }], guard := some (17, true) }) (v := _) rfl (by kernel_rfl) (by kernel_rfl) (by kernel_rfl) (fun _ _ _ h => h) (by kernel_rfl) (Or.inl ⟨by rfl, ?hy20⟩) hSx7 ?rest20
                      case hy20 => (intro W hSw; go_simp; try (with_reducible rfl))
                      try simp only [Act.put, List.setIfInBounds_toArray, List.set_cons_zero, List.set_cons_succ]
                      refine' wpAnyD_take (i := 20) (oi := { dst := some 135, op := Go.Op.indexAddr 44 (Go.Operand.tmp 133) (Go.Operand.tmp 134), type := 0, pos := "outright.go:128", after := #[{ on := 18, ground := Go.Ground.data }, { on := 19, ground := Go.Ground.data }, { on := 17, ground := Go.Ground.guard }], guard := some (17, true) }) (v := _) rfl (by kernel_rfl) (by kernel_rfl) (by kernel_rfl) (fun _ _ _ h => h) (by kernel_rfl) (Or.inl ⟨by rfl, ?hy21⟩) hSx7 ?rest21
                      case hy21 => (intro W hSw; go_simp; try (with_reducible rfl))
                      try simp only [Act.put, List.setIfInBounds_toArray, List.set_cons_zero, List.set_cons_succ]
                      refine' wpAnyD_take (i := 21) (oi := { dst := some 136, op := Go.Op.load 27 (Go.Operand.tmp 135), type := 27, pos := "outright.go:128", after := #[{ on := 20, ground := Go.Ground.data }, { on := 17, ground := Go.Ground.guard }], guard := some (17, true) }) (v := _) rfl (by kernel_rfl) (by kernel_rfl) (by kernel_rfl) (fun _ _ _ h => h) (by kernel_rfl) (Or.inl ⟨by rfl, ?hy22⟩) hSx7 ?rest22
                      case hy22 => (intro W hSw; have h0 := (hSw.cell zb4).trans y0; go_simp; try (with_reducible rfl))
                      try simp only [Act.put, List.setIfInBounds_toArray, List.set_cons_zero, List.set_cons_succ]
                      refine' wpAnyD_take (i := 22) (oi := { dst := some 137, op := Go.Op.move (Go.Operand.tmp 19), type := 3, pos := "outright.go:128", after := #[{ on := 17, ground := Go.Ground.guard }], guard := some (17, true) }) (v := _) rfl (by kernel_rfl) (by kernel_rfl) (by kernel_rfl) (fun _ _ _ h => h) (by kernel_rfl) (Or.inl ⟨by rfl, ?hy23⟩) hSx7 ?rest23
                      case hy23 => (intro W hSw; go_simp; try (with_reducible rfl))
                      try simp only [Act.put, List.setIfInBounds_toArray, List.set_cons_zero, List.set_cons_succ]
                      refine' wpAnyD_take (i := 23) (oi := { dst := some 138, op := Go.Op.indexAddr 27 (Go.Operand.tmp 136) (Go.Operand.tmp 137), type := 0, pos := "outright.go:128", after := #[{ on := 21, ground := Go.Ground.data }, { on := 22, ground := Go.Ground.data }, { on := 17, ground := Go.Ground.guard }], guard := some (17, true) }) (v := _) rfl (by kernel_rfl) (by kernel_rfl) (by kernel_rfl) (fun _ _ _ h => h) (by kernel_rfl) (Or.inl ⟨by rfl, ?hy24⟩) hSx7 ?rest24
                      case hy24 => (intro W hSw; go_simp; try (with_reducible rfl))
                      try simp only [Act.put, List.setIfInBounds_toArray, List.set_cons_zero, List.set_cons_succ]
                      refine' wpAnyD_take (i := 24) (oi := { dst := some 139, op := Go.Op.fieldAddr 47 (Go.Operand.tmp 138) 1, type := 0, pos := "outright.go:128", after := #[{ on := 23, ground := Go.Ground.data }, { on := 17, ground := Go.Ground.guard }], guard := some (17, true) }) (v := _) rfl (by kernel_rfl) (by kernel_rfl) (by kernel_rfl) (fun _ _ _ h => h) (by kernel_rfl) (Or.inl ⟨by rfl, ?hy25⟩) hSx7 ?rest25
                      case hy25 => (intro W hSw; go_simp; try (with_reducible rfl))
                      try simp only [Act.put, List.setIfInBounds_toArray, List.set_cons_zero, List.set_cons_succ]
                      refine' wpAnyD_take (i := 25) (oi := { dst := some 140, op := Go.Op.load 2 (Go.Operand.tmp 139), type := 2, pos := "outright.go:128", after := #[{ on := 24, ground := Go.Ground.data }, { on := 17, ground := Go.Ground.guard }], guard := some (17, true) }) (v := _) rfl (by kernel_rfl) (by kernel_rfl) (by kernel_rfl) (fun _ _ _ h => h) (by kernel_rfl) (Or.inl ⟨by rfl, ?hy26⟩) hSx7 ?rest26
                      case hy26 => (intro W hSw; have h0 := (hSw.cell z2).trans v0; go_simp; try (with_reducible rfl))
                      try simp only [Act.put, List.setIfInBounds_toArray, List.set_cons_zero, List.set_cons_succ]
                      refine' wpAnyD_take (i := 26) (oi := { dst := some 141, op := Go.Op.move (Go.Operand.tmp 17), type := 3, pos := "outright.go:128", after := #[{ on := 17, ground := Go.Ground.guard }], guard := some (17, true) }) (v := _) rfl (by kernel_rfl) (by kernel_rfl) (by kernel_rfl) (fun _ _ _ h => h) (by kernel_rfl) (Or.inl ⟨by rfl, ?hy27⟩) hSx7 ?rest27
                      case hy27 => (intro W hSw; go_simp; try (with_reducible rfl))
                      try simp only [Act.put, List.setIfInBounds_toArray, List.set_cons_zero, List.set_cons_succ]
                      refine' wpAnyD_take (i := 27) (oi := { dst := some 142, op := Go.Op.move (Go.Operand.tmp 19), type := 3, pos := "outright.go:128", after := #[{ on := 17, ground := Go.Ground.guard }], guard := some (17, true) }) (v := _) rfl (by kernel_rfl) (by kernel_rfl) (by kernel_rfl) (fun _ _ _ h => h) (by kernel_rfl) (Or.inl ⟨by rfl, ?hy28⟩) hSx7 ?rest28
                      case hy28 => (intro W hSw; go_simp; try (with_reducible rfl))
                      try simp only [Act.put, List.setIfInBounds_toArray, List.set_cons_zero, List.set_cons_succ]
                      refine wpAnyD_one (i := 28) (o := { dst := some 143, op := Go.Op.call { callee := Go.Callee.value (Go.Operand.func 27), args := #[Go.Operand.tmp 141, Go.Operand.tmp 142], argTypes := #[3, 3] }, type := 2, pos := "outright.go:128", after := #[{ on := 26, ground := Go.Ground.data }, { on := 27, ground := Go.Ground.data }, { on := 17, ground := Go.Ground.chain }, { on := 17, ground := Go.Ground.guard }], guard := some (17, true) }) (by kernel_rfl) rfl (fun K hK => ?_)
                      go_simp
                      refine (hmk _).mono ?_
                      rintro e wx28 ⟨rfl, hwx28⟩
                      have hSx28 : Gr wr wx28 := by rw [hwx28]; exact hSx7
                      clear hwx28
                      go_wp2_with fail
                      refine hK.out _ _ (fun hD => hSx28) ?_
                      clear hK K
                      try simp only [Act.put, List.setIfInBounds_toArray, List.set_cons_zero, List.set_cons_succ]
                      refine' wpAnyD_take (i := 29) (oi := { dst := some 144, op := Go.Op.binOp Go.BinOp.neq 2 (Go.Operand.tmp 140) (Go.Operand.tmp 143) 2, type := 4, pos := "outright.go:128", after := #[{ on := 25, ground := Go.Ground.data }, { on := 28, ground := Go.Ground.data }, { on := 17, ground := Go.Ground.guard }], guard := some (17, true) }) (v := _) rfl (by kernel_rfl) (by kernel_rfl) (by kernel_rfl) (fun _ _ _ h => h) (by kernel_rfl) (Or.inl ⟨by rfl, ?hy30⟩) hSx28 ?rest30
                      case hy30 => (intro W hSw; go_simp; try (with_reducible rfl))
                      try simp only [Act.put, List.setIfInBounds_toArray, List.set_cons_zero, List.set_cons_succ]
                      refine' wpAnyD_take (i := 30) (oi := { dst := some 145, op := Go.Op.pick (Go.Operand.tmp 132) (Go.Operand.tmp 144) (Go.Operand.const (Go.Value.bool false)), type := 4, pos := "outright.go:128", after := #[{ on := 17, ground := Go.Ground.data }, { on := 29, ground := Go.Ground.data }, { on := 9, ground := Go.Ground.guard }], guard := some (9, false) }) (v := _) rfl (by kernel_rfl) (by kernel_rfl) (by kernel_rfl) (fun _ _ _ h => h) (by kernel_rfl) (Or.inl ⟨by rfl, ?hy31⟩) hSx28 ?rest31
                      case hy31 => (intro W hSw; go_simp; try (with_reducible rfl))
                      try simp only [Act.put, List.setIfInBounds_toArray, List.set_cons_zero, List.set_cons_succ]
                      refine' wpAnyD_take (i := 31) (oi := { dst := some 146, op := Go.Op.pick (Go.Operand.tmp 124) (Go.Operand.const (Go.Value.bool true)) (Go.Operand.tmp 145), type := 4, pos := "outright.go:128", after := #[{ on := 9, ground := Go.Ground.data }, { on := 30, ground := Go.Ground.data }], guard := none }) (v := _) rfl (by kernel_rfl) (by kernel_rfl) (by kernel_rfl) (fun _ _ _ h => h) (by kernel_rfl) (Or.inl ⟨by rfl, ?hy32⟩) hSx28 ?rest32
                      case hy32 => (intro W hSw; go_simp; try (with_reducible rfl))
                      try simp only [Act.put, List.setIfInBounds_toArray, List.set_cons_zero, List.set_cons_succ]
                      refine wpAnyD_done (by kernel_rfl) ?_ _
                      go_wp2_with fail
                      go_roundw
                      case rel => exact ⟨i + 1, by omega, by go_num, HG4.out.trans hSx28⟩
                      case measure => simp [RowKit.intOf]; omega
                    · have hlvz : ¬ (i : Int) < (n : Int) := by omega
                      clear hg4
                      generalize mz k i = zz at *
                      go_upto_region 37 with fail
                      refine wp_regionD (S := fun W => Gr wr W) (D := []) hmx ?_
                      refine' wpAnyD_take (i := 0) (oi := { dst := some 115, op := Go.Op.move (Go.Operand.tmp 18), type := 27, pos := "outright.go:128", after := #[], guard := none }) (v := _) rfl (by kernel_rfl) (by kernel_rfl) (by kernel_rfl) (fun _ _ _ h => h) (by kernel_rfl) (Or.inl ⟨by rfl, ?hy33⟩) hS0 ?rest33
                      case hy33 => (intro W hSw; go_simp; try (with_reducible rfl))
                      try simp only [Act.put, List.setIfInBounds_toArray, List.set_cons_zero, List.set_cons_succ]
                      refine' wpAnyD_take (i := 1) (oi := { dst := some 116, op := Go.Op.move (Go.Operand.tmp 19), type := 3, pos := "outright.go:128", after := #[], guard := none }) (v := _) rfl (by kernel_rfl) (by kernel_rfl) (by kernel_rfl) (fun _ _ _ h => h) (by kernel_rfl) (Or.inl ⟨by rfl, ?hy34⟩) hS0 ?rest34
                      case hy34 => (intro W hSw; go_simp; try (with_reducible rfl))
                      try simp only [Act.put, List.setIfInBounds_toArray, List.set_cons_zero, List.set_cons_succ]
                      refine' wpAnyD_take (i := 2) (oi := { dst := some 117, op := Go.Op.indexAddr 27 (Go.Operand.tmp 115) (Go.Operand.tmp 116), type := 0, pos := "outright.go:128", after := #[{ on := 0, ground := Go.Ground.data }, { on := 1, ground := Go.Ground.data }], guard := none }) (v := _) rfl (by kernel_rfl) (by kernel_rfl) (by kernel_rfl) (fun _ _ _ h => h) (by kernel_rfl) (Or.inl ⟨by rfl, ?hy35⟩) hS0 ?rest35
                      case hy35 => (intro W hSw; go_simp; try (with_reducible rfl))
                      try simp only [Act.put, List.setIfInBounds_toArray, List.set_cons_zero, List.set_cons_succ]
                      refine' wpAnyD_take (i := 3) (oi := { dst := some 118, op := Go.Op.fieldAddr 47 (Go.Operand.tmp 117) 1, type := 0, pos := "outright.go:128", after := #[{ on := 2, ground := Go.Ground.data }], guard := none }) (v := _) rfl (by kernel_rfl) (by kernel_rfl) (by kernel_rfl) (fun _ _ _ h => h) (by kernel_rfl) (Or.inl ⟨by rfl, ?hy36⟩) hS0 ?rest36
                      case hy36 => (intro W hSw; go_simp; try (with_reducible rfl))
                      try simp only [Act.put, List.setIfInBounds_toArray, List.set_cons_zero, List.set_cons_succ]
                      refine' wpAnyD_take (i := 4) (oi := { dst := some 119, op := Go.Op.load 2 (Go.Operand.tmp 118), type := 2, pos := "outright.go:128", after := #[{ on := 3, ground := Go.Ground.data }], guard := none }) (v := _) rfl (by kernel_rfl) (by kernel_rfl) (by kernel_rfl) (fun _ _ _ h => h) (by kernel_rfl) (Or.inl ⟨by rfl, ?hy37⟩) hS0 ?rest37
                      case hy37 => (intro W hSw; have h0 := (hSw.cell z1).trans x0; go_simp; try (with_reducible rfl))
                      try simp only [Act.put, List.setIfInBounds_toArray, List.set_cons_zero, List.set_cons_succ]
                      refine' wpAnyD_take (i := 5) (oi := { dst := some 120, op := Go.Op.move (Go.Operand.tmp 17), type := 3, pos := "outright.go:128", after := #[], guard := none }) (v := _) rfl (by kernel_rfl) (by kernel_rfl) (by kernel_rfl) (fun _ _ _ h => h) (by kernel_rfl) (Or.inl ⟨by rfl, ?hy38⟩) hS0 ?rest38
                      case hy38 => (intro W hSw; go_simp; try (with_reducible rfl))
                      try simp only [Act.put, List.setIfInBounds_toArray, List.set_cons_zero, List.set_cons_succ]
                      refine' wpAnyD_take (i := 6) (oi := { dst := some 121, op := Go.Op.move (Go.Operand.tmp 19), type := 3, pos := "outright.go:128", after := #[], guard := none }) (v := _) rfl (by kernel_rfl) (by kernel_rfl) (by kernel_rfl) (fun _ _ _ h => h) (by kernel_rfl) (Or.inl ⟨by rfl, ?hy39⟩) hS0 ?rest39
                      case hy39 => (intro W hSw; go_simp; try (with_reducible rfl))
                      try simp only [Act.put, List.setIfInBounds_toArray, List.set_cons_zero, List.set_cons_succ]
                      refine wpAnyD_one (i := 7) (o := { dst := some 122, op := Go.Op.call { callee := Go.Callee.value (Go.Operand.func 27), args := #[Go.Operand.tmp 120, Go.Operand.tmp 121], argTypes := #[3, 3] }, type := 2, pos := "outright.go:128", after := #[{ on := 5, ground := Go.Ground.data }, { on := 6, ground := Go.Ground.data }], guard := none }) (by kernel_rfl) rfl (fun K hK => ?_)
                      go_simp
                      refine (hmk _).mono ?_
                      rintro e wx8 ⟨rfl, hwx8⟩
                      have hSx8 : Gr wr wx8 := by rw [hwx8]; exact hS0
                      clear hwx8
                      go_wp2_with fail
                      refine hK.out _ _ (fun hD => hSx8) ?_
                      clear hK K
                      try simp only [Act.put, List.setIfInBounds_toArray, List.set_cons_zero, List.set_cons_succ]
                      refine' wpAnyD_take (i := 8) (oi := { dst := some 123, op := Go.Op.binOp Go.BinOp.neq 2 (Go.Operand.tmp 119) (Go.Operand.tmp 122) 2, type := 4, pos := "outright.go:128", after := #[{ on := 4, ground := Go.Ground.data }, { on := 7, ground := Go.Ground.data }], guard := none }) (v := _) rfl (by kernel_rfl) (by kernel_rfl) (by kernel_rfl) (fun _ _ _ h => h) (by kernel_rfl) (Or.inl ⟨by rfl, ?hy41⟩) hSx8 ?rest41
                      case hy41 => (intro W hSw; go_simp; try (with_reducible rfl))
                      try simp only [Act.put, List.setIfInBounds_toArray, List.set_cons_zero, List.set_cons_succ]
                      refine' wpAnyD_take (i := 9) (oi := { dst := some 124, op := Go.Op.move (Go.Operand.tmp 123), type := 4, pos := "outright.go:128", after := #[{ on := 8, ground := Go.Ground.data }, { on := 7, ground := Go.Ground.chain }], guard := none }) (v := _) rfl (by kernel_rfl) (by kernel_rfl) (by kernel_rfl) (fun _ _ _ h => h) (by kernel_rfl) (Or.inl ⟨by rfl, ?hy42⟩) hSx8 ?rest42
                      case hy42 => (intro W hSw; go_simp; try (with_reducible rfl))
                      try simp only [Act.put, List.setIfInBounds_toArray, List.set_cons_zero, List.set_cons_succ]
                      refine' wpAnyD_take (i := 10) (oi := { dst := some 125, op := Go.Op.move (Go.Operand.tmp 19), type := 3, pos := "outright.go:128", after := #[{ on := 9, ground := Go.Ground.guard }], guard := some (9, false) }) (v := _) rfl (by kernel_rfl) (by kernel_rfl) (by kernel_rfl) (fun _ _ _ h => h) (by kernel_rfl) (Or.inl ⟨by rfl, ?hy43⟩) hSx8 ?rest43
                      case hy43 => (intro W hSw; go_simp; try (with_reducible rfl))
                      try simp only [Act.put, List.setIfInBounds_toArray, List.set_cons_zero, List.set_cons_succ]
                      refine' wpAnyD_take (i := 11) (oi := { dst := some 126, op := Go.Op.move (Go.Operand.tmp 0), type := 44, pos := "outright.go:128", after := #[{ on := 9, ground := Go.Ground.guard }], guard := some (9, false) }) (v := _) rfl (by kernel_rfl) (by kernel_rfl) (by kernel_rfl) (fun _ _ _ h => h) (by kernel_rfl) (Or.inl ⟨by rfl, ?hy44⟩) hSx8 ?rest44
                      case hy44 => (intro W hSw; go_simp; try (with_reducible rfl))
                      try simp only [Act.put, List.setIfInBounds_toArray, List.set_cons_zero, List.set_cons_succ]
                      refine' wpAnyD_take (i := 12) (oi := { dst := some 127, op := Go.Op.move (Go.Operand.tmp 17), type := 3, pos := "outright.go:128", after := #[{ on := 9, ground := Go.Ground.guard }], guard := some (9, false) }) (v := _) rfl (by kernel_rfl) (by kernel_rfl) (by kernel_rfl) (fun _ _ _ h => h) (by kernel_rfl) (Or.inl ⟨by rfl, ?hy45⟩) hSx8 ?rest45
                      case hy45 => (intro W hSw; go_simp; try (with_reducible rfl))
                      try simp only [Act.put, List.setIfInBounds_toArray, List.set_cons_zero, List.set_cons_succ]
                      refine' wpAnyD_take (i := 13) (oi := { dst := some 128, op := Go.Op.indexAddr 44 (Go.Operand.tmp 126) (Go.Operand.tmp 127), type := 0, pos := "outright.go:128", after := #[{ on := 11, ground := Go.Ground.data }, { on := 12, ground := Go.Ground.data }, { on := 9, ground := Go.Ground.guard }], guard := some (9, false) }) (v := _) rfl (by kernel_rfl) (by kernel_rfl) (by kernel_rfl) (fun _ _ _ h => h) (by kernel_rfl) (Or.inl ⟨by rfl, ?hy46⟩) hSx8 ?rest46
                      case hy46 => (intro W hSw; go_simp; try (with_reducible rfl))
                      try simp only [Act.put, List.setIfInBounds_toArray, List.set_cons_zero, List.set_cons_succ]
                      refine' wpAnyD_take (i := 14) (oi := { dst := some 129, op := Go.Op.load 27 (Go.Operand.tmp 128), type := 27, pos := "outright.go:128", after := #[{ on := 13, ground := Go.Ground.data }, { on := 9, ground := Go.Ground.guard }], guard := some (9, false) }) (v := _) rfl (by kernel_rfl) (by kernel_rfl) (by kernel_rfl) (fun _ _ _ h => h) (by kernel_rfl) (Or.inl ⟨by rfl, ?hy47⟩) hSx8 ?rest47
                      case hy47 => (intro W hSw; have h0 := (hSw.cell zb4).trans y0; go_simp; try (with_reducible rfl))
                      try simp only [Act.put, List.setIfInBounds_toArray, List.set_cons_zero, List.set_cons_succ]
                      refine' wpAnyD_take (i := 15) (oi := { dst := some 130, op := Go.Op.call { callee := Go.Callee.builtin Go.Builtin.len, args := #[Go.Operand.tmp 129], argTypes := #[27] }, type := 3, pos := "outright.go:128", after := #[{ on := 14, ground := Go.Ground.data }, { on := 9, ground := Go.Ground.guard }], guard := some (9, false) }) (v := _) rfl (by kernel_rfl) (by kernel_rfl) (by kernel_rfl) (fun _ _ _ h => h) (by kernel_rfl) (Or.inl ⟨by rfl, ?hy48⟩) hSx8 ?rest48
                      case hy48 => (intro W hSw; go_simp; try (with_reducible rfl))
                      try simp only [Act.put, List.setIfInBounds_toArray, List.set_cons_zero, List.set_cons_succ]
                      refine' wpAnyD_take (i := 16) (oi := { dst := some 131, op := Go.Op.binOp Go.BinOp.lss 3 (Go.Operand.tmp 125) (Go.Operand.tmp 130) 3, type := 4, pos := "outright.go:128", after := #[{ on := 10, ground := Go.Ground.data }, { on := 15, ground := Go.Ground.data }, { on := 9, ground := Go.Ground.guard }], guard := some (9, false) }) (v := _) rfl (by kernel_rfl) (by kernel_rfl) (by kernel_rfl) (fun _ _ _ h => h) (by kernel_rfl) (Or.inl ⟨by rfl, ?hy49⟩) hSx8 ?rest49
                      case hy49 => (intro W hSw; go_simp; try (with_reducible rfl))
                      try simp only [Act.put, List.setIfInBounds_toArray, List.set_cons_zero, List.set_cons_succ]
                      refine' wpAnyD_take (i := 17) (oi := { dst := some 132, op := Go.Op.move (Go.Operand.tmp 131), type := 4, pos := "outright.go:128", after := #[{ on := 16, ground := Go.Ground.data }, { on := 9, ground := Go.Ground.chain }, { on := 9, ground := Go.Ground.guard }], guard := some (9, false) }) (v := _) rfl (by kernel_rfl) (by kernel_rfl) (by kernel_rfl) (fun _ _ _ h => h) (by kernel_rfl) (Or.inl ⟨by rfl, ?hy50⟩) hSx8 ?rest50
                      case hy50 => (intro W hSw; go_simp; try (with_reducible rfl))
                      try simp only [Act.put, List.setIfInBounds_toArray, List.set_cons_zero, List.set_cons_succ]
                      refine' wpAnyD_take (i := 18) (oi := { dst := some 133, op := Go.Op.move (Go.Operand.tmp 0), type := 44, pos := "outright.go:128", after := #[{ on := 17, ground := Go.Ground.guard }], guard := some (17, true) }) (v := undef) rfl (by kernel_rfl) (by kernel_rfl) (by kernel_rfl) (fun _ _ _ h => h) (by kernel_rfl) (Or.inr ⟨by rfl, rfl⟩) hSx8 ?rest51
                      try simp only [Act.put, List.setIfInBounds_toArray, List.set_cons_zero, List.set_cons_succ]
                      refine' wpAnyD_take (i := 19) (oi := { dst := some 134, op := Go.Op.move (Go.Operand.tmp 17), type := 3, pos := "outright.go:128", after := #[{ on := 17, ground := Go.Ground.guard }], guard := some (17, true) }) (v := undef) rfl (by kernel_rfl) (by kernel_rfl) (by kernel_rfl) (fun _ _ _ h => h) (by kernel_rfl) (Or.inr ⟨by rfl, rfl⟩) hSx8 ?rest52
                      try simp only [Act.put, List.setIfInBounds_toArray, List.set_cons_zero, List.set_cons_succ]
                      refine' wpAnyD_take (i := 20) (oi := { dst := some 135, op := Go.Op.indexAddr 44 (Go.Operand.tmp 133) (Go.Operand.tmp 134), type := 0, pos := "outright.go:128", after := #[{ on := 18, ground := Go.Ground.data }, { on := 19, ground := Go.Ground.data }, { on := 17, ground := Go.Ground.guard }], guard := some (17, true) }) (v := undef) rfl (by kernel_rfl) (by kernel_rfl) (by kernel_rfl) (fun _ _ _ h => h) (by kernel_rfl) (Or.inr ⟨by rfl, rfl⟩) hSx8 ?rest53
                      try simp only [Act.put, List.setIfInBounds_toArray, List.set_cons_zero, List.set_cons_succ]
                      refine' wpAnyD_take (i := 21) (oi := { dst := some 136, op := Go.Op.load 27 (Go.Operand.tmp 135), type := 27, pos := "outright.go:128", after := #[{ on := 20, ground := Go.Ground.data }, { on := 17, ground := Go.Ground.guard }], guard := some (17, true) }) (v := undef) rfl (by kernel_rfl) (by kernel_rfl) (by kernel_rfl) (fun _ _ _ h => h) (by kernel_rfl) (Or.inr ⟨by rfl, rfl⟩) hSx8 ?rest54
                      try simp only [Act.put, List.setIfInBounds_toArray, List.set_cons_zero, List.set_cons_succ]
                      refine' wpAnyD_take (i := 22) (oi := { dst := some 137, op := Go.Op.move (Go.Operand.tmp 19), type := 3, pos := "outright.go:128", after := #[{ on := 17, ground := Go.Ground.guard }], guard := some (17, true) }) (v := undef) rfl (by kernel_rfl) (by kernel_rfl) (by kernel_rfl) (fun _ _ _ h => h) (by kernel_rfl) (Or.inr ⟨by rfl, rfl⟩) hSx8 ?rest55
                      try simp only [Act.put, List.setIfInBounds_toArray, List.set_cons_zero, List.set_cons_succ]
                      refine' wpAnyD_take (i := 23) (oi := { dst := some 138, op := Go.Op.indexAddr 27 (Go.Operand.tmp 136) (Go.Operand.tmp 137), type := 0, pos := "outright.go:128", after := #[{ on := 21, ground := Go.Ground.data }, { on := 22, ground := Go.Ground.data }, { on := 17, ground := Go.Ground.guard }], guard := some (17, true) }) (v := undef) rfl (by kernel_rfl) (by kernel_rfl) (by kernel_rfl) (fun _ _ _ h => h) (by kernel_rfl) (Or.inr ⟨by rfl, rfl⟩) hSx8 ?rest56
                      try simp only [Act.put, List.setIfInBounds_toArray, List.set_cons_zero, List.set_cons_succ]
                      refine' wpAnyD_take (i := 24) (oi := { dst := some 139, op := Go.Op.fieldAddr 47 (Go.Operand.tmp 138) 1, type := 0, pos := "outright.go:128", after := #[{ on := 23, ground := Go.Ground.data }, { on := 17, ground := Go.Ground.guard }], guard := some (17, true) }) (v := undef) rfl (by kernel_rfl) (by kernel_rfl) (by kernel_rfl) (fun _ _ _ h => h) (by kernel_rfl) (Or.inr ⟨by rfl, rfl⟩) hSx8 ?rest57
                      try simp only [Act.put, List.setIfInBounds_toArray, List.set_cons_zero, List.set_cons_succ]
                      refine' wpAnyD_take (i := 25) (oi := { dst := some 140, op := Go.Op.load 2 (Go.Operand.tmp 139), type := 2, pos := "outright.go:128", after := #[{ on := 24, ground := Go.Ground.data }, { on := 17, ground := Go.Ground.guard }], guard := some (17, true) }) (v := undef) rfl (by kernel_rfl) (by kernel_rfl) (by kernel_rfl) (fun _ _ _ h => h) (by kernel_rfl) (Or.inr ⟨by rfl, rfl⟩) hSx8 ?rest58
                      try simp only [Act.put, List.setIfInBounds_toArray, List.set_cons_zero, List.set_cons_succ]
                      refine' wpAnyD_take (i := 26) (oi := { dst := some 141, op := Go.Op.move (Go.Operand.tmp 17), type := 3, pos := "outright.go:128", after := #[{ on := 17, ground := Go.Ground.guard }], guard := some (17, true) }) (v := undef) rfl (by kernel_rfl) (by kernel_rfl) (by kernel_rfl) (fun _ _ _ h => h) (by kernel_rfl) (Or.inr ⟨by rfl, rfl⟩) hSx8 ?rest59
                      try simp only [Act.put, List.setIfInBounds_toArray, List.set_cons_zero, List.set_cons_succ]
                      refine' wpAnyD_take (i := 27) (oi := { dst := some 142, op := Go.Op.move (Go.Operand.tmp 19), type := 3, pos := "outright.go:128", after := #[{ on := 17, ground := Go.Ground.guard }], guard := some (17, true) }) (v := undef) rfl (by kernel_rfl) (by kernel_rfl) (by kernel_rfl) (fun _ _ _ h => h) (by kernel_rfl) (Or.inr ⟨by rfl, rfl⟩) hSx8 ?rest60
                      try simp only [Act.put, List.setIfInBounds_toArray, List.set_cons_zero, List.set_cons_succ]
                      refine' wpAnyD_take (i := 28) (oi := { dst := some 143, op := Go.Op.call { callee := Go.Callee.value (Go.Operand.func 27), args := #[Go.Operand.tmp 141, Go.Operand.tmp 142], argTypes := #[3, 3] }, type := 2, pos := "outright.go:128", after := #[{ on := 26, ground := Go.Ground.data }, { on := 27, ground := Go.Ground.data }, { on := 17, ground := Go.Ground.chain }, { on := 17, ground := Go.Ground.guard }], guard := some (17, true) }) (v := undef) rfl (by kernel_rfl) (by kernel_rfl) (by kernel_rfl) (fun _ _ _ h => h) (by kernel_rfl) (Or.inr ⟨by rfl, rfl⟩) hSx8 ?rest61
                      try simp only [Act.put, List.setIfInBounds_toArray, List.set_cons_zero, List.set_cons_succ]
                      refine' wpAnyD_take (i := 29) (oi := { dst := some 144, op := Go.Op.binOp Go.BinOp.neq 2 (Go.Operand.tmp 140) (Go.Operand.tmp 143) 2, type := 4, pos := "outright.go:128", after := #[{ on := 25, ground := Go.Ground.data }, { on := 28, ground := Go.Ground.data }, { on := 17, ground := Go.Ground.guard }], guard := some (17, true) }) (v := undef) rfl (by kernel_rfl) (by kernel_rfl) (by kernel_rfl) (fun _ _ _ h => h) (by kernel_rfl) (Or.inr ⟨by rfl, rfl⟩) hSx8 ?rest62
                      try simp only [Act.put, List.setIfInBounds_toArray, List.set_cons_zero, List.set_cons_succ]
                      refine' wpAnyD_take (i := 30) (oi := { dst := some 145, op := Go.Op.pick (Go.Operand.tmp 132) (Go.Operand.tmp 144) (Go.Operand.const (Go.Value.bool false)), type := 4, pos := "outright.go:128", after := #[{ on := 17, ground := Go.Ground.data }, { on := 29, ground := Go.Ground.data }, { on := 9, ground := Go.Ground.guard }], guard := some (9, false) }) (v := _) rfl (by kernel_rfl) (by kernel_rfl) (by kernel_rfl) (fun _ _ _ h => h) (by kernel_rfl) (Or.inl ⟨by rfl, ?hy63⟩) hSx8 ?rest63
                      case hy63 => (intro W hSw; go_simp; try (with_reducible rfl))
                      try simp only [Act.put, List.setIfInBounds_toArray, List.set_cons_zero, List.set_cons_succ]
                      refine' wpAnyD_take (i := 31) (oi := { dst := some 146, op := Go.Op.pick (Go.Operand.tmp 124) (Go.Operand.const (Go.Value.bool true)) (Go.Operand.tmp 145), type := 4, pos := "outright.go:128", after := #[{ on := 9, ground := Go.Ground.data }, { on := 30, ground := Go.Ground.data }], guard := none }) (v := _) rfl (by kernel_rfl) (by kernel_rfl) (by kernel_rfl) (fun _ _ _ h => h) (by kernel_rfl) (Or.inl ⟨by rfl, ?hy64⟩) hSx8 ?rest64
                      case hy64 => (intro W hSw; go_simp; try (with_reducible rfl))
                      try simp only [Act.put, List.setIfInBounds_toArray, List.set_cons_zero, List.set_cons_succ]
                      refine wpAnyD_done (by kernel_rfl) ?_ _
                      go_wp2_with fail
                      go_roundw
                      case rel => exact ⟨i + 1, by omega, by go_num, HG4.out.trans hSx8⟩
                      case measure => simp [RowKit.intOf]; omega
                  · have hltz : ¬ (i : Int) < ((n + 1 : Nat) : Int) := by omega
                    have hltz2 : ¬ (i : Int) < (n : Int) + 1 := by omega
                    go_wp2_with fail
                    go_roundw
                    case rel => exact ⟨k + 1, by omega, by go_num, hg4⟩
                    case measure => simp [RowKit.intOf]; omega
              · have hkz : ¬ (k : Int) < 5 := by omega
                go_wp2_with fail
                go_meet
                exact hg3
          case rest =>
            have GG := hcut
            obtain ⟨W5, hW5⟩ : ∃ W, W = wc := ⟨_, rfl⟩
            rw [← hW5] at GG ⊢
            clear hW5 zm cmk
            have K5 := hid (K4.out.trans (Kp.of_gr (S := SqB V U) GG.out) (fun _ _ h => h))
            have BIG5 : Hid (∀ i, i < 5 → Ls KS W5 (Y i) (mks mkS i ((Q i).length + 1)) ∧ Ls KS W5 (U i) (mks mkS i (Q i).length)) := fun i hi => ⟨(BIGS.out i hi).1.below GG.out.below, (BIGS.out i hi).2.below GG.out.below⟩
            have NR5 := hid (owns_below NR.out GG.out.below)
            have CB5 : Hid ((∀ k, k < 5 → W5.cell? ⟨bk, k, none⟩ = some (U k)) ∧ bk < W5.heap.size) := ⟨fun k hk => (GG.out.cell CBK.out.2).trans (CBK.out.1 k hk), Nat.lt_of_lt_of_le CBK.out.2 GG.out.size⟩
            clear GG K4 BIGC BIGS MR NR CBL CBK
            obtain ⟨gm, hgm, zm, cmk⟩ := row_at NR5.out
            subst hgm
            go_upto_block 16 with fail
            go_cut [4] (fun _ w' => Hid (Gr W5 w'))
            case first =>
              go_wp2_with fail
              go_loopw [151] (fun s wr => ∃ k : Nat, k ≤ 5 ∧ s = .int .i64 (k : Nat) ∧ Gr W5 wr) (fun s _ => 5 - (RowKit.intOf s).toNat)
              case atStart => exact ⟨0, by omega, rfl, Gr.refl _⟩
              case round =>
                obtain ⟨k, hk, rfl, hg3⟩ := hrel
                by_cases hk4 : k < 5
                · have hkz : (k : Int) < 5 := by omega
                  have hk0 : (0 : Int) ≤ (k : Int) := by omega
                  have hNk := byt5 (HM.out k hk4)
                  have hK5 := byt6 hk4
                  have m1 := (hg3.cell zm).trans (cmk k hk4)
                  have hb := BIG5.out k hk4
                  obtain ⟨px, cx, ex⟩ := hb.1.form
                  obtain ⟨pv, cv, ev⟩ := hb.2.form
                  rw [mks_len] at ex ev
                  rw [ex] at m1
                  have HLX : Hid (Ls KS W5 (.slice px ((Q k).length + 1) cx) (mks mkS k ((Q k).length + 1))) := by rw [← ex]; exact hb.1
                  have HLV : Hid (Ls KS W5 (.slice pv (Q k).length cv) (mks mkS k (Q k).length)) := by rw [← ev]; exact hb.2
                  have HCk : Hid (W5.cell? ⟨bk, k, none⟩ = some (.slice pv (Q k).length cv)) := by rw [← ev]; exact CB5.out.1 k hk4
                  have zb := CB5.out.2
                  clear ex ev hb
                  obtain ⟨n, hn⟩ : ∃ n, n = (Q k).length := ⟨_, rfl⟩
                  rw [← hn] at HLX HLV HCk hNk m1
                  clear hn
                  go_wp2_with fail
                  clear m1
                  go_loopw [158] (fun s wr => ∃ i : Nat, i ≤ n + 1 ∧ s = .int .i64 (i : Nat) ∧ Gr W5 wr) (fun s _ => n + 1 - (RowKit.intOf s).toNat)
                  case atStart => exact ⟨0, Nat.zero_le _, rfl, hg3⟩
                  case round =>
                    clear hg3
                    obtain ⟨i, hi, rfl, hg4⟩ := hrel
                    by_cases hlt : i < n + 1
                    · have hltz : (i : Int) < ((n + 1 : Nat) : Int) := Int.ofNat_lt.2 hlt
                      have hltz2 : (i : Int) < (n : Int) + 1 := by omega
                      have hi0 : (0 : Int) ≤ (i : Int) := by omega
                      obtain ⟨b1, o1, c1, e1, z1, x0⟩ := atKS (HLX.out.below hg4.below) (j := i) (mks_get mkS hlt)
                      simp only [Value.slice.injEq] at e1
                      obtain ⟨rfl, -, rfl⟩ := e1
                      have x0 : wr.cell? ⟨b1, o1 + i * 4, none⟩ = some (.int .i64 (mz k i)) := x0
                      have y0 := (hg4.cell zb).trans HCk.out
                      have zb4 := Nat.lt_of_lt_of_le zb hg4.size
                      have hmk := hMA k i hK5.2.2 (Nat.lt_of_lt_of_le hlt (Nat.le_of_lt hNk.2.2.2.2))
                      have hzz : (mz k i != mz k i) = false := by simp
                      have hS0 : Gr wr wr.drew := (Gr.refl wr).drew
                      have HG4 := hid hg4
                      by_cases hlv : i < n
                      · have hlvz : (i : Int) < (n : Int) := by omega
                        obtain ⟨b2, o2, c2, e2, z2, v0⟩ := atKS (HLV.out.below hg4.below) (j := i) (mks_get mkS hlv)
                        simp only [Value.slice.injEq] at e2
                        obtain ⟨rfl, -, rfl⟩ := e2
                        have v0 : wr.cell? ⟨b2, o2 + i * 4, none⟩ = some (.int .i64 (mz k i)) := v0
                        clear hg4
                        generalize mz k i = zz at *
                        go_upto_region 47 with fail
                        refine wp_regionD (S := fun W => Gr wr W) (D := []) hmx ?_
                        refine' wpAnyD_take (i := 0) (oi := { dst := some 161, op := Go.Op.move (Go.Operand.tmp 21), type := 29, pos := "outright.go:135", after := #[], guard := none }) (v := _) rfl (by kernel_rfl) (by kernel_rfl) (by kernel_rfl) (fun _ _ _ h => h) (by kernel_rfl) (Or.inl ⟨by rfl, ?hy65⟩) hS0 ?rest65
                        case hy65 => (intro W hSw; go_simp; try (with_reducible rfl))
                        try simp only [Act.put, List.setIfInBounds_toArray, List.set_cons_zero, List.set_cons_succ]
                        refine' wpAnyD_take (i := 1) (oi := { dst := some 162, op := Go.Op.move (Go.Operand.tmp 22), type := 3, pos := "outright.go:135", after := #[], guard := none }) (v := _) rfl (by kernel_rfl) (by kernel_rfl) (by kernel_rfl) (fun _ _ _ h => h) (by kernel_rfl) (Or.inl ⟨by rfl, ?hy66⟩) hS0 ?rest66
                        case hy66 => (intro W hSw; go_simp; try (with_reducible rfl))
                        try simp only [Act.put, List.setIfInBounds_toArray, List.set_cons_zero, List.set_cons_succ]
                        refine' wpAnyD_take (i := 2) (oi := { dst := some 163, op := Go.Op.indexAddr 29 (Go.Operand.tmp 161) (Go.Operand.tmp 162), type := 0, pos := "outright.go:135", after := #[{ on := 0, ground := Go.Ground.data }, { on := 1, ground := Go.Ground.data }], guard := none }) (v := _) rfl (by kernel_rfl) (by kernel_rfl) (by kernel_rfl) (fun _ _ _ h => h) (by kernel_rfl) (Or.inl ⟨by rfl, ?hy67⟩) hS0 ?rest67
                        case hy67 => (intro W hSw; go_simp; try (with_reducible rfl))
                        try simp only [Act.put, List.setIfInBounds_toArray, List.set_cons_zero, List.set_cons_succ]
                        refine' wpAnyD_take (i := 3) (oi := { dst := some 164, op := Go.Op.fieldAddr 35 (Go.Operand.tmp 163) 0, type := 0, pos := "outright.go:135", after := #[{ on := 2, ground := Go.Ground.data }], guard := none }) (v := _) rfl (by kernel_rfl) (by kernel_rfl) (by kernel_rfl) (fun _ _ _ h => h) (by kernel_rfl) (Or.inl ⟨by rfl, ?hy68⟩) hS0 ?rest68
                        case hy68 => (intro W hSw; go_simp; try (with_reducible rfl))
                        try simp only [Act.put, List.setIfInBounds_toArray, List.set_cons_zero, List.set_cons_succ]
                        refine' wpAnyD_take (i := 4) (oi := { dst := some 165, op := Go.Op.load 3 (Go.Operand.tmp 164), type := 3, pos := "outright.go:135", after := #[{ on := 3, ground := Go.Ground.data }], guard := none }) (v := _) rfl (by kernel_rfl) (by kernel_rfl) (by kernel_rfl) (fun _ _ _ h => h) (by kernel_rfl) (Or.inl ⟨by rfl, ?hy69⟩) hS0 ?rest69
                        case hy69 => (intro W hSw; have h0 := (hSw.cell z1).trans x0; go_simp; try (with_reducible rfl))
                        try simp only [Act.put, List.setIfInBounds_toArray, List.set_cons_zero, List.set_cons_succ]
                        refine' wpAnyD_take (i := 5) (oi := { dst := some 166, op := Go.Op.move (Go.Operand.tmp 20), type := 3, pos := "outright.go:135", after := #[], guard := none }) (v := _) rfl (by kernel_rfl) (by kernel_rfl) (by kernel_rfl) (fun _ _ _ h => h) (by kernel_rfl) (Or.inl ⟨by rfl, ?hy70⟩) hS0 ?rest70
                        case hy70 => (intro W hSw; go_simp; try (with_reducible rfl))
                        try simp only [Act.put, List.setIfInBounds_toArray, List.set_cons_zero, List.set_cons_succ]
                        refine' wpAnyD_take (i := 6) (oi := { dst := some 167, op := Go.Op.move (Go.Operand.tmp 22), type := 3, pos := "outright.go:135", after := #[], guard := none }) (v := _) rfl (by kernel_rfl) (by kernel_rfl) (by kernel_rfl) (fun _ _ _ h => h) (by kernel_rfl) (Or.inl ⟨by rfl, ?hy71⟩) hS0 ?rest71
                        case hy71 => (intro W hSw; go_simp; try (with_reducible rfl))
                        try simp only [Act.put, List.setIfInBounds_toArray, List.set_cons_zero, List.set_cons_succ]
                        refine wpAnyD_one (i := 7) (o := { dst := some 168, op := Go.Op.call { callee := Go.Callee.value (Go.Operand.func 27), args := #[Go.Operand.tmp 166, Go.Operand.tmp 167], argTypes := #[3, 3] }, type := 2, pos := "outright.go:135", after := #[{ on := 5, ground := Go.Ground.data }, { on := 6, ground := Go.Ground.data }], guard := none }) (by kernel_rfl) rfl (fun K hK => ?_)
                        go_simp
                        refine (hmk _).mono ?_
                        rintro e wy7 ⟨rfl, hwy7⟩
                        have hSy7 : Gr wr wy7 := by rw [hwy7]; exact hS0
                        clear hwy7
                        go_wp2_with fail
                        refine hK.out _ _ (fun hD => hSy7) ?_
                        clear hK K
                        try simp only [Act.put, List.setIfInBounds_toArray, List.set_cons_zero, List.set_cons_succ]
                        refine' wpAnyD_take (i := 8) (oi := { dst := some 169, op := Go.Op.binOp Go.BinOp.neq 3 (Go.Operand.tmp 165) (Go.Operand.tmp 168) 3, type := 4, pos := "outright.go:135", after := #[{ on := 4, ground := Go.Ground.data }, { on := 7, ground := Go.Ground.data }], guard := none }) (v := _) rfl (by kernel_rfl) (by kernel_rfl) (by kernel_rfl) (fun _ _ _ h => h) (by kernel_rfl) (Or.inl ⟨by rfl, ?hy73⟩) hSy7 ?rest73
                        case hy73 => (intro W hSw; go_simp; try (with_reducible rfl))
                        try simp only [Act.put, List.setIfInBounds_toArray, List.set_cons_zero, List.set_cons_succ]
                        refine' wpAnyD_take (i := 9) (oi := { dst := some 170, op := Go.Op.move (Go.Operand.tmp 169), type := 4, pos := "outright.go:135", after := #[{ on := 8, ground := Go.Ground.data }, { on := 7, ground := Go.Ground.chain }], guard := none }) (v := _) rfl (by kernel_rfl) (by kernel_rfl) (by kernel_rfl) (fun _ _ _ h => h) (by kernel_rfl) (Or.inl ⟨by rfl, ?hy74⟩) hSy7 ?rest74
                        case hy74 => (intro W hSw; go_simp; try (with_reducible rfl))
                        try simp only [Act.put, List.setIfInBounds_toArray, List.set_cons_zero, List.set_cons_succ]
                        refine' wpAnyD_take (i := 10) (oi := { dst := some 171, op := Go.Op.move (Go.Operand.tmp 22), type := 3, pos := "outright.go:135", after := #[{ on := 9, ground := Go.Ground.guard }], guard := some (9, false) }) (v := _) rfl (by kernel_rfl) (by kernel_rfl) (by kernel_rfl) (fun _ _ _ h => h) (by kernel_rfl) (Or.inl ⟨by rfl, ?hy75⟩) hSy7 ?rest75
                        case hy75 => (intro W hSw; go_simp; try (with_reducible rfl))
                        try simp only [Act.put, List.setIfInBounds_toArray, List.set_cons_zero, List.set_cons_succ]
                        refine' wpAnyD_take (i := 11) (oi := { dst := some 172, op := Go.Op.move (Go.Operand.tmp 1), type := 45, pos := "outright.go:135", after := #[{ on := 9, ground := Go.Ground.guard }], guard := some (9, false) }) (v := _) rfl (by kernel_rfl) (by kernel_rfl) (by kernel_rfl) (fun _ _ _ h => h) (by kernel_rfl) (Or.inl ⟨by rfl, ?hy76⟩) hSy7 ?rest76
                        case hy76 => (intro W hSw; go_simp; try (with_reducible rfl))
                        try simp only [Act.put, List.setIfInBounds_toArray, List.set_cons_zero, List.set_cons_succ]
                        refine' wpAnyD_take (i := 12) (oi := { dst := some 173, op := Go.Op.move (Go.Operand.tmp 20), type := 3, pos := "outright.go:135", after := #[{ on := 9, ground := Go.Ground.guard }], guard := some (9, false) }) (v := _) rfl (by kernel_rfl) (by kernel_rfl) (by kernel_rfl) (fun _ _ _ h => h) (by kernel_rfl) (Or.inl ⟨by rfl, ?hy77⟩) hSy7 ?rest77
                        case hy77 => (intro W hSw; go_simp; try (with_reducible rfl))
                        try simp only [Act.put, List.setIfInBounds_toArray, List.set_cons_zero, List.set_cons_succ]
                        refine' wpAnyD_take (i := 13) (oi := { dst := some 174, op := Go.Op.indexAddr 45 (Go.Operand.tmp 172) (Go.Operand.tmp 173), type := 0, pos := "outright.go:135", after := #[{ on := 11, ground := Go.Ground.data }, { on := 12, ground := Go.Ground.data }, { on := 9, ground := Go.Ground.guard }], guard := some (9, false) }) (v := _) rfl (by kernel_rfl) (by kernel_rfl) (by kernel_rfl) (fun _ _ _ h => h) (by kernel_rfl) (Or.inl ⟨by rfl, ?hy78⟩) hSy7 ?rest78
                        case hy78 => (intro W hSw; go_simp; try (with_reducible rfl))
                        try simp only [Act.put, List.setIfInBounds_toArray, List.set_cons_zero, List.set_cons_succ]
                        refine' wpAnyD_take (i := 14) (oi := { dst := some 175, op := Go.Op.load 29 (Go.Operand.tmp 174), type := 29, pos := "outright.go:135", after := #[{ on := 13, ground := Go.Ground.data }, { on := 9, ground := Go.Ground.guard }], guard := some (9, false) }) (v := _) rfl (by kernel_rfl) (by kernel_rfl) (by kernel_rfl) (fun _ _ _ h => h) (by kernel_rfl) (Or.inl ⟨by rfl, ?hy79⟩) hSy7 ?rest79
                        case hy79 => (intro W hSw; have h0 := (hSw.cell zb4).trans y0; go_simp; try (with_reducible rfl))
                        try simp only [Act.put, List.setIfInBounds_toArray, List.set_cons_zero, List.set_cons_succ]
                        refine' wpAnyD_take (i := 15) (oi := { dst := some 176, op := Go.Op.call { callee := Go.Callee.builtin Go.Builtin.len, args := #[Go.Operand.tmp 175], argTypes := #[29] }, type := 3, pos := "outright.go:135", after := #[{ on := 14, ground := Go.Ground.data }, { on := 9, ground := Go.Ground.guard }], guard := some (9, false) }) (v := _) rfl (by kernel_rfl) (by kernel_rfl) (by kernel_rfl) (fun _ _ _ h => h) (by kernel_rfl) (Or.inl ⟨by rfl, ?hy80⟩) hSy7 ?rest80
                        case hy80 => (intro W hSw; go_simp; try (with_reducible rfl))
                        try simp only [Act.put, List.setIfInBounds_toArray, List.set_cons_zero, List.set_cons_succ]
                        refine' wpAnyD_take (i := 16) (oi := { dst := some 177, op := Go.Op.binOp Go.BinOp.lss 3 (Go.Operand.tmp 171) (Go.Operand.tmp 176) 3, type := 4, pos := "outright.go:135", after := #[{ on := 10, ground := Go.Ground.data }, { on := 15, ground := Go.Ground.data }, { on := 9, ground := Go.Ground.guard }], guard := some (9, false) }) (v := _) rfl (by kernel_rfl) (by kernel_rfl) (by kernel_rfl) (fun _ _ _ h => h) (by kernel_rfl) (Or.inl ⟨by rfl, ?hy81⟩) hSy7 ?rest81
                        case hy81 => (intro W hSw; go_simp; try (with_reducible rfl))
                        try simp only [Act.put, List.setIfInBounds_toArray, List.set_cons_zero, List.set_cons_succ]
                        refine' wpAnyD_take (i := 17) (oi := { dst := some 178, op := Go.Op.move (Go.Operand.tmp 177), type := 4, pos := "outright.go:135", after := #[{ on := 16, ground := Go.Ground.data }, { on := 9, ground := Go.Ground.chain }, { on := 9, ground := Go.Ground.guard }], guard := some (9, false) }) (v := _) rfl (by kernel_rfl) (by kernel_rfl) (by kernel_rfl) (fun _ _ _ h => h) (by kernel_rfl) (Or.inl ⟨by rfl, ?hy82⟩) hSy7 ?rest82
                        case hy82 => (intro W hSw; go_simp; try (with_reducible rfl))
                        try simp only [Act.put, List.setIfInBounds_toArray, List.set_cons_zero, List.set_cons_succ]
                        refine' wpAnyD_take (i := 18) (oi := { dst := some 179, op := Go.Op.move (Go.Operand.tmp 1), type := 45, pos := "outright.go:135", after := #[{ on := 17, ground := Go.Ground.guard }], guard := some (17, true) }) (v := _) rfl (by kernel_rfl) (by kernel_rfl) (by kernel_rfl) (fun _ _ _ h => h) (by kernel_rfl) (Or.inl ⟨by rfl, ?hy83⟩) hSy7 ?rest83
                        case hy83 => (intro W hSw; go_simp; try (with_reducible rfl))
                        try simp only [Act.put, List.setIfInBounds_toArray, List.set_cons_zero, List.set_cons_succ]
                        refine' wpAnyD_take (i := 19) (oi := { dst := some 180, op := Go.Op.move (Go.Operand.tmp 20), type := 3, pos := "outright.go:135", after := #[{ on := 17, ground := Go.Ground.guard }], guard := some (17, true) }) (v := _) rfl (by kernel_rfl) (by kernel_rfl) (by kernel_rfl) (fun _ _ _ h => h) (by kernel_rfl) (Or.inl ⟨by rfl, ?hy84⟩) hSy7 ?rest84
                        case hy84 => (intro W hSw; go_simp; try (with_reducible rfl))
                        try simp only [Act.put, List.setIfInBounds_toArray, List.set_cons_zero, List.set_cons_succ]
                        refine' wpAnyD_take (i := 20) (oi := { dst := some 181, op := Go.Op.indexAddr 45 (Go.Operand.tmp 179) (Go.Operand.tmp 180), type := 0, pos := "outright.go:135", after := #[{ on := 18, ground := Go.Ground.data }, { on := 19, ground := Go.Ground.data }, { on := 17, ground := Go.Ground.guard }], guard := some (17, true) }) (v := _) rfl (by kernel_rfl) (by kernel_rfl) (by kernel_rfl) (fun _ _ _ h => h) (by kernel_rfl) (Or.inl ⟨by rfl, ?hy85⟩) hSy7 ?rest85
                        case hy85 => (intro W hSw; go_simp; try (with_reducible rfl))
                        try simp only [Act.put, List.setIfInBounds_toArray, List.set_cons_zero, List.set_cons_succ]
                        refine' wpAnyD_take (i := 21) (oi := { dst := some 182, op := Go.Op.load 29 (Go.Operand.tmp 181), type := 29, pos := "outright.go:135", after := #[{ on := 20, ground := Go.Ground.data }, { on := 17, ground := Go.Ground.guard }], guard := some (17, true) }) (v := _) rfl (by kernel_rfl) (by kernel_rfl) (by kernel_rfl) (fun _ _ _ h => h) (by kernel_rfl) (Or.inl ⟨by rfl, ?hy86⟩) hSy7 ?rest86
                        case hy86 => (intro W hSw; have h0 := (hSw.cell zb4).trans y0; go_simp; try (with_reducible rfl))
                        try simp only [Act.put, List.setIfInBounds_toArray, List.set_cons_zero, List.set_cons_succ]
                        refine' wpAnyD_take (i := 22) (oi := { dst := some 183, op := Go.Op.move (Go.Operand.tmp 22), type := 3, pos := "outright.go:135", after := #[{ on := 17, ground := Go.Ground.guard }], guard := some (17, true) }) (v := _) rfl (by kernel_rfl) (by kernel_rfl) (by kernel_rfl) (fun _ _ _ h => h) (by kernel_rfl) (Or.inl ⟨by rfl, ?hy87⟩) hSy7 ?rest87
                        case hy87 => (intro W hSw; go_simp; try (with_reducible rfl))
                        try simp only [Act.put, List.setIfInBounds_toArray, List.set_cons_zero, List.set_cons_succ]
                        refine' wpAnyD_take (i := 23) (oi := { dst := some 184, op := Go.Op.indexAddr 29 (Go.Operand.tmp 182) (Go.Operand.tmp 183), type := 0, pos := "outright.go:135", after := #[{ on := 21, ground := Go.Ground.data }, { on := 22, ground := Go.Ground.data }, { on := 17, ground := Go.Ground.guard }], guard := some (17, true) }) (v := _) rfl (by kernel_rfl) (by kernel_rfl) (by kernel_rfl) (fun _ _ _ h => h) (by kernel_rfl) (Or.inl ⟨by rfl, ?hy88⟩) hSy7 ?rest88
                        case hy88 => (intro W hSw; go_simp; try (with_reducible rfl))
                        try simp only [Act.put, List.setIfInBounds_toArray, List.set_cons_zero, List.set_cons_succ]
                        refine' wpAnyD_take (i := 24) (oi := { dst := some 185, op := Go.Op.fieldAddr 35 (Go.Operand.tmp 184) 0, type := 0, pos := "outright.go:135", after := #[{ on := 23, ground := Go.Ground.data }, { on := 17, ground := Go.Ground.guard }], guard := some (17, true) }) (v := _) rfl (by kernel_rfl) (by kernel_rfl) (by kernel_rfl) (fun _ _ _ h => h) (by kernel_rfl) (Or.inl ⟨by rfl, ?hy89⟩) hSy7 ?rest89
                        case hy89 => (intro W hSw; go_simp; try (with_reducible rfl))
                        try simp only [Act.put, List.setIfInBounds_toArray, List.set_cons_zero, List.set_cons_succ]
                        refine' wpAnyD_take (i := 25) (oi := { dst := some 186, op := Go.Op.load 3 (Go.Operand.tmp 185), type := 3, pos := "outright.go:135", after := #[{ on := 24, ground := Go.Ground.data }, { on := 17, ground := Go.Ground.guard }], guard := some (17, true) }) (v := _) rfl (by kernel_rfl) (by kernel_rfl) (by kernel_rfl) (fun _ _ _ h => h) (by kernel_rfl) (Or.inl ⟨by rfl, ?hy90⟩) hSy7 ?rest90
                        case hy90 => (intro W hSw; have h0 := (hSw.cell z2).trans v0; go_simp; try (with_reducible rfl))
                        try simp only [Act.put, List.setIfInBounds_toArray, List.set_cons_zero, List.set_cons_succ]
                        refine' wpAnyD_take (i := 26) (oi := { dst := some 187, op := Go.Op.move (Go.Operand.tmp 20), type := 3, pos := "outright.go:135", after := #[{ on := 17, ground := Go.Ground.guard }], guard := some (17, true) }) (v := _) rfl (by kernel_rfl) (by kernel_rfl) (by kernel_rfl) (fun _ _ _ h => h) (by kernel_rfl) (Or.inl ⟨by rfl, ?hy91⟩) hSy7 ?rest91
                        case hy91 => (intro W hSw; go_simp; try (with_reducible rfl))
                        try simp only [Act.put, List.setIfInBounds_toArray, List.set_cons_zero, List.set_cons_succ]
                        refine' wpAnyD_take (i := 27) (oi := { dst := some 188, op := Go.Op.move (Go.Operand.tmp 22), type := 3, pos := "outright.go:135", after := #[{ on := 17, ground := Go.Ground.guard }], guard := some (17, true) }) (v := _) rfl (by kernel_rfl) (by kernel_rfl) (by kernel_rfl) (fun _ _ _ h => h) (by kernel_rfl) (Or.inl ⟨by rfl, ?hy92⟩) hSy7 ?rest92
                        case hy92 => (intro W hSw; go_simp; try (with_reducible rfl))
                        try simp only [Act.put, List.setIfInBounds_toArray, List.set_cons_zero, List.set_cons_succ]
                        refine wpAnyD_one (i := 28) (o := { dst := some 189, op := Go.Op.call { callee := Go.Callee.value (Go.Operand.func 27), args := #[Go.Operand.tmp 187, Go.Operand.tmp 188], argTypes := #[3, 3] }, type := 2, pos := "outright.go:135", after := #[{ on := 26, ground := Go.Ground.data }, { on := 27, ground := Go.Ground.data }, { on := 17, ground := Go.Ground.chain }, { on := 17, ground := Go.Ground.guard }], guard := some (17, true) }) (by kernel_rfl) rfl (fun K hK => ?_)
                        go_simp
                        refine (hmk _).mono ?_
                        rintro e wy28 ⟨rfl, hwy28⟩
                        have hSy28 : Gr wr wy28 := by rw [hwy28]; exact hSy7
                        clear hwy28
                        go_wp2_with fail
                        refine hK.out _ _ (fun hD => hSy28) ?_
                        clear hK K
                        try simp only [Act.put, List.setIfInBounds_toArray, List.set_cons_zero, List.set_cons_succ]
                        refine' wpAnyD_take (i := 29) (oi := { dst := some 190, op := Go.Op.binOp Go.BinOp.neq 3 (Go.Operand.tmp 186) (Go.Operand.tmp 189) 3, type := 4, pos := "outright.go:135", after := #[{ on := 25, ground := Go.Ground.data }, { on := 28, ground := Go.Ground.data }, { on := 17, ground := Go.Ground.guard }], guard := some (17, true) }) (v := _) rfl (by kernel_rfl) (by kernel_rfl) (by kernel_rfl) (fun _ _ _ h => h) (by kernel_rfl) (Or.inl ⟨by rfl, ?hy94⟩) hSy28 ?rest94
                        case hy94 => (intro W hSw; go_simp; try (with_reducible rfl))
                        try simp only [Act.put, List.setIfInBounds_toArray, List.set_cons_zero, List.set_cons_succ]
                        refine' wpAnyD_take (i := 30) (oi := { dst := some 191, op := Go.Op.pick (Go.Operand.tmp 178) (Go.Operand.tmp 190) (Go.Operand.const (Go.Value.bool false)), type := 4, pos := "outright.go:135", after := #[{ on := 17, ground := Go.Ground.data }, { on := 29, ground := Go.Ground.data }, { on := 9, ground := Go.Ground.guard }], guard := some (9, false) }) (v := _) rfl (by kernel_rfl) (by kernel_rfl) (by kernel_rfl) (fun _ _ _ h => h) (by kernel_rfl) (Or.inl ⟨by rfl, ?hy95⟩) hSy28 ?rest95
                        case hy95 => (intro W hSw; go_simp; try (with_reducible rfl))
                        try simp only [Act.put, List.setIfInBounds_toArray, List.set_cons_zero, List.set_cons_succ]
                        refine' wpAnyD_take (i := 31) (oi := { dst := some 192, op := Go.Op.pick (Go.Operand.tmp 170) (Go.Operand.const (Go.Value.bool true)) (Go.Operand.tmp 191), type := 4, pos := "outright.go:135", after := #[{ on := 9, ground := Go.Ground.data }, { on := 30, ground := Go.Ground.data }], guard := none }) (v := _) rfl (by kernel_rfl) (by kernel_rfl) (by kernel_rfl) (fun _ _ _ h => h) (by kernel_rfl) (Or.inl ⟨by rfl, ?hy96⟩) hSy28 ?rest96
                        case hy96 => (intro W hSw; go_simp; try (with_reducible rfl))
                        try simp only [Act.put, List.setIfInBounds_toArray, List.set_cons_zero, List.set_cons_succ]
                        refine wpAnyD_done (by kernel_rfl) ?_ _
                        go_wp2_with fail
                        go_roundw
                        case rel => exact ⟨i + 1, by omega, by go_num, HG4.out.trans hSy28⟩
                        case measure => simp [RowKit.intOf]; omega
                      · have hlvz : ¬ (i : Int) < (n : Int) := by omega
                        clear hg4
                        generalize mz k i = zz at *
                        go_upto_region 47 with fail
                        refine wp_regionD (S := fun W => Gr wr W) (D := []) hmx ?_
                        refine' wpAnyD_take (i := 0) (oi := { dst := some 161, op := Go.Op.move (Go.Operand.tmp 21), type := 29, pos := "outright.go:135", after := #[], guard := none }) (v := _) rfl (by kernel_rfl) (by kernel_rfl) (by kernel_rfl) (fun _ _ _ h => h) (by kernel_rfl) (Or.inl ⟨by rfl, ?hy97⟩) hS0 ?rest97
                        case hy97 => (intro W hSw; go_simp; try (with_reducible rfl))
                        try simp only [Act.put, List.setIfInBounds_toArray, List.set_cons_zero, List.set_cons_succ]
                        refine' wpAnyD_take (i := 1) (oi := { dst := some 162, op := Go.Op.move (Go.Operand.tmp 22), type := 3, pos := "outright.go:135", after := #[], guard := none }) (v := _) rfl (by kernel_rfl) (by kernel_rfl) (by kernel_rfl) (fun _ _ _ h => h) (by kernel_rfl) (Or.inl ⟨by rfl, ?hy98⟩) hS0 ?rest98
                        case hy98 => (intro W hSw; go_simp; try (with_reducible rfl))
                        try simp only [Act.put, List.setIfInBounds_toArray, List.set_cons_zero, List.set_cons_succ]
                        refine' wpAnyD_take (i := 2) (oi := { dst := some 163, op := Go.Op.indexAddr 29 (Go.Operand.tmp 161) (Go.Operand.tmp 162), type := 0, pos := "outright.go:135", after := #[{ on := 0, ground := Go.Ground.data }, { on := 1, ground := Go.Ground.data }], guard := none }) (v := _) rfl (by kernel_rfl) (by kernel_rfl) (by kernel_rfl) (fun _ _ _ h => h) (by kernel_rfl) (Or.inl ⟨by rfl, ?hy99⟩) hS0 ?rest99
                        case hy99 => (intro W hSw; go_simp; try (with_reducible rfl))
                        try simp only [Act.put, List.setIfInBounds_toArray, List.set_cons_zero, List.set_cons_succ]
                        refine' wpAnyD_take (i := 3) (oi := { dst := some 164, op := Go.Op.fieldAddr 35 (Go.Operand.tmp 163) 0, type := 0, pos := "outright.go:135", after := #[{ on := 2, ground := Go.Ground.data }], guard := none }) (v := _) rfl (by kernel_rfl) (by kernel_rfl) (by kernel_rfl) (fun _ _ _ h => h) (by kernel_rfl) (Or.inl ⟨by rfl, ?hy100⟩) hS0 ?rest100
                        case hy100 => (intro W hSw; go_simp; try (with_reducible rfl))
                        try simp only [Act.put, List.setIfInBounds_toArray, List.set_cons_zero, List.set_cons_succ]
                        refine' wpAnyD_take (i := 4) (oi := { dst := some 165, op := Go.Op.load 3 (Go.Operand.tmp 164), type := 3, pos := "outright.go:135", after := #[{ on := 3, ground := Go.Ground.data }], guard := none }) (v := _) rfl (by kernel_rfl) (by kernel_rfl) (by kernel_rfl) (fun _ _ _ h => h) (by kernel_rfl) (Or.inl ⟨by rfl, ?hy101⟩) hS0 ?rest101
                        case hy101 => (intro W hSw; have h0 := (hSw.cell z1).trans x0; go_simp; try (with_reducible rfl))
                        try simp only [Act.put, List.setIfInBounds_toArray, List.set_cons_zero, List.set_cons_succ]
                        refine' wpAnyD_take (i := 5) (oi := { dst := some 166, op := Go.Op.move (Go.Operand.tmp 20), type := 3, pos := "outright.go:135", after := #[], guard := none }) (v := _) rfl (by kernel_rfl) (by kernel_rfl) (by kernel_rfl) (fun _ _ _ h => h) (by kernel_rfl) (Or.inl ⟨by rfl, ?hy102⟩) hS0 ?rest102
                        case hy102 => (intro W hSw; go_simp; try (with_reducible rfl))
                        try simp only [Act.put, List.setIfInBounds_toArray, List.set_cons_zero, List.set_cons_succ]
                        refine' wpAnyD_take (i := 6) (oi := { dst := some 167, op := Go.Op.move (Go.Operand.tmp 22), type := 3, pos := "outright.go:135", after := #[], guard := none }) (v := _) rfl (by kernel_rfl) (by kernel_rfl) (by kernel_rfl) (fun _ _ _ h => h) (by kernel_rfl) (Or.inl ⟨by rfl, ?hy103⟩) hS0 ?rest103
                        case hy103 => (intro W hSw; go_simp; try (with_reducible rfl))
                        try simp only [Act.put, List.setIfInBounds_toArray, List.set_cons_zero, List.set_cons_succ]
                        refine wpAnyD_one (i := 7) (o := { dst := some 168, op := Go.Op.call { callee := Go.Callee.value (Go.Operand.func 27), args := #[Go.Operand.tmp 166, Go.Operand.tmp 167], argTypes := #[3, 3] }, type := 2, pos := "outright.go:135", after := #[{ on := 5, ground := Go.Ground.data }, { on := 6, ground := Go.Ground.data }], guard := none }) (by kernel_rfl) rfl (fun K hK => ?_)
                        go_simp
                        refine (hmk _).mono ?_
                        rintro e wy8 ⟨rfl, hwy8⟩
                        have hSy8 : Gr wr wy8 := by rw [hwy8]; exact hS0
                        clear hwy8
                        go_wp2_with fail
                        refine hK.out _ _ (fun hD => hSy8) ?_
                        clear hK K
                        try simp only [Act.put, List.setIfInBounds_toArray, List.set_cons_zero, List.set_cons_succ]
                        refine' wpAnyD_take (i := 8) (oi := { dst := some 169, op := Go.Op.binOp Go.BinOp.neq 3 (Go.Operand.tmp 165) (Go.Operand.tmp 168) 3, type := 4, pos := "outright.go:135", after := #[{ on := 4, ground := Go.Ground.data }, { on := 7, ground := Go.Ground.data }], guard := none }) (v := _) rfl (by kernel_rfl) (by kernel_rfl) (by kernel_rfl) (fun _ _ _ h => h) (by kernel_rfl) (Or.inl ⟨by rfl, ?hy105⟩) hSy8 ?rest105
                        case hy105 => (intro W hSw; go_simp; try (with_reducible rfl))
                        try simp only [Act.put, List.setIfInBounds_toArray, List.set_cons_zero, List.set_cons_succ]
                        refine' wpAnyD_take (i := 9) (oi := { dst := some 170, op := Go.Op.move (Go.Operand.tmp 169), type := 4, pos := "outright.go:135", after := #[{ on := 8, ground := Go.Ground.data }, { on := 7, ground := Go.Ground.chain }], guard := none }) (v := _) rfl (by kernel_rfl) (by kernel_rfl) (by kernel_rfl) (fun _ _ _ h => h) (by kernel_rfl) (Or.inl ⟨by rfl, ?hy106⟩) hSy8 ?rest106
                        case hy106 => (intro W hSw; go_simp; try (with_reducible rfl))
                        try simp only [Act.put, List.setIfInBounds_toArray, List.set_cons_zero, List.set_cons_succ]
                        refine' wpAnyD_take (i := 10) (oi := { dst := some 171, op := Go.Op.move (Go.Operand.tmp 22), type := 3, pos := "outright.go:135", after := #[{ on := 9, ground := Go.Ground.guard }], guard := some (9, false) }) (v := _) rfl (by kernel_rfl) (by kernel_rfl) (by kernel_rfl) (fun _ _ _ h => h) (by kernel_rfl) (Or.inl ⟨by rfl, ?hy107⟩) hSy8 ?rest107
                        case hy107 => (intro W hSw; go_simp; try (with_reducible rfl))
                        try simp only [Act.put, List.setIfInBounds_toArray, List.set_cons_zero, List.set_cons_succ]
                        refine' wpAnyD_take (i := 11) (oi := { dst := some 172, op := Go.Op.move (Go.Operand.tmp 1), type := 45, pos := "outright.go:135", after := #[{ on := 9, ground := Go.Ground.guard }], guard := some (9, false) }) (v := _) rfl (by kernel_rfl) (by kernel_rfl) (by kernel_rfl) (fun _ _ _ h => h) (by kernel_rfl) (Or.inl ⟨by rfl, ?hy108⟩) hSy8 ?rest108
                        case hy108 => (intro W hSw; go_simp; try (with_reducible rfl))
                        try simp only [Act.put, List.setIfInBounds_toArray, List.set_cons_zero, List.set_cons_succ]
                        refine' wpAnyD_take (i := 12) (oi := { dst := some 173, op := Go.Op.move (Go.Operand.tmp 20), type := 3, pos := "outright.go:135", after := #[{ on := 9, ground := Go.Ground.guard }], guard := some (9, false) }) (v := _) rfl (by kernel_rfl) (by kernel_rfl) (by kernel_rfl) (fun _ _ _ h => h) (by kernel_rfl) (Or.inl ⟨by rfl, ?hy109⟩) hSy8 ?rest109
                        case hy109 => (intro W hSw; go_simp; try (with_reducible rfl))
                        try simp only [Act.put, List.setIfInBounds_toArray, List.set_cons_zero, List.set_cons_succ]
                        refine' wpAnyD_take (i := 13) (oi := { dst := some 174, op := Go.Op.indexAddr 45 (Go.Operand.tmp 172) (Go.Operand.tmp 173), type := 0, pos := "outright.go:135", after := #[{ on := 11, ground := Go.Ground.data }, { on := 12, ground := Go.Ground.data }, { on := 9, ground := Go.Ground.guard }], guard := some (9, false) }) (v := _) rfl (by kernel_rfl) (by kernel_rfl) (by kernel_rfl) (fun _ _ _ h => h) (by kernel_rfl) (Or.inl ⟨by rfl, ?hy110⟩) hSy8 ?rest110
                        case hy110 => (intro W hSw; go_simp; try (with_reducible rfl))
                        try simp only [Act.put, List.setIfInBounds_toArray, List.set_cons_zero, List.set_cons_succ]
                        refine' wpAnyD_take (i := 14) (oi := { dst := some 175, op := Go.Op.load 29 (Go.Operand.tmp 174), type := 29, pos := "outright.go:135", after := #[{ on := 13, ground := Go.Ground.data }, { on := 9, ground := Go.Ground.guard }], guard := some (9, false) }) (v := _) rfl (by kernel_rfl) (by kernel_rfl) (by kernel_rfl) (fun _ _ _ h => h) (by kernel_rfl) (Or.inl ⟨by rfl, ?hy111⟩) hSy8 ?rest111
                        case hy111 => (intro W hSw; have h0 := (hSw.cell zb4).trans y0; go_simp; try (with_reducible rfl))
                        try simp only [Act.put, List.setIfInBounds_toArray, List.set_cons_zero, List.set_cons_succ]
                        refine' wpAnyD_take (i := 15) (oi := { dst := some 176, op := Go.Op.call { callee := Go.Callee.builtin Go.Builtin.len, args := #[Go.Operand.tmp 175], argTypes := #[29] }, type := 3, pos := "outright.go:135", after := #[{ on := 14, ground := Go.Ground.data }, { on := 9, ground := Go.Ground.guard }], guard := some (9, false) }) (v := _) rfl (by kernel_rfl) (by kernel_rfl) (by kernel_rfl) (fun _ _ _ h => h) (by kernel_rfl) (Or.inl ⟨by rfl, ?hy112⟩) hSy8 ?rest112
                        case hy112 => (intro W hSw; go_simp; try (with_reducible rfl))
                        try simp only [Act.put, List.setIfInBounds_toArray, List.set_cons_zero, List.set_cons_succ]
                        refine' wpAnyD_take (i := 16) (oi := { dst := some 177, op := Go.Op.binOp Go.BinOp.lss 3 (Go.Operand.tmp 171) (Go.Operand.tmp 176) 3, type := 4, pos := "outright.go:135", after := #[{ on := 10, ground := Go.Ground.data }, { on := 15, ground := Go.Ground.data }, { on := 9, ground := Go.Ground.guard }], guard := some (9, false) }) (v := _) rfl (by kernel_rfl) (by kernel_rfl) (by kernel_rfl) (fun _ _ _ h => h) (by kernel_rfl) (Or.inl ⟨by rfl, ?hy113⟩) hSy8 ?rest113
                        case hy113 => (intro W hSw; go_simp; try (with_reducible rfl))
                        try simp only [Act.put, List.setIfInBounds_toArray, List.set_cons_zero, List.set_cons_succ]
                        refine' wpAnyD_take (i := 17) (oi := { dst := some 178, op := Go.Op.move (Go.Operand.tmp 177), type := 4, pos := "outright.go:135", after := #[{ on := 16, ground := Go.Ground.data }, { on := 9, ground := Go.Ground.chain }, { on := 9, ground := Go.Ground.guard }], guard := some (9, false) }) (v := _) rfl (by kernel_rfl) (by kernel_rfl) (by kernel_rfl) (fun _ _ _ h => h) (by kernel_rfl) (Or.inl ⟨by rfl, ?hy114⟩) hSy8 ?rest114
                        case hy114 => (intro W hSw; go_simp; try (with_reducible rfl))
                        try simp only [Act.put, List.setIfInBounds_toArray, List.set_cons_zero, List.set_cons_succ]
                        refine' wpAnyD_take (i := 18) (oi := { dst := some 179, op := Go.Op.move (Go.Operand.tmp 1), type := 45, pos := "outright.go:135", after := #[{ on := 17, ground := Go.Ground.guard }], guard := some (17, true) }) (v := undef) rfl (by kernel_rfl) (by kernel_rfl) (by kernel_rfl) (fun _ _ _ h => h) (by kernel_rfl) (Or.inr ⟨by rfl, rfl⟩) hSy8 ?rest115
                        try simp only [Act.put, List.setIfInBounds_toArray, List.set_cons_zero, List.set_cons_succ]
                        refine' wpAnyD_take (i := 19) (oi := { dst := some 180, op := Go.Op.move (Go.Operand.tmp 20), type := 3, pos := "outright.go:135", after := #[{ on := 17, ground := Go.Ground.guard }], guard := some (17, true) }) (v := undef) rfl (by kernel_rfl) (by kernel_rfl) (by kernel_rfl) (fun _ _ _ h => h) (by kernel_rfl) (Or.inr ⟨by rfl, rfl⟩) hSy8 ?rest116
                        try simp only [Act.put, List.setIfInBounds_toArray, List.set_cons_zero, List.set_cons_succ]
                        refine' wpAnyD_take (i := 20) (oi := { dst := some 181, op := Go.Op.indexAddr 45 (Go.Operand.tmp 179) (Go.Operand.tmp 180), type := 0, pos := "outright.go:135", after := #[{ on := 18, ground := Go.Ground.data }, { on := 19, ground := Go.Ground.data }, { on := 17, ground := Go.Ground.guard }], guard := some (17, true) }) (v := undef) rfl (by kernel_rfl) (by kernel_rfl) (by kernel_rfl) (fun _ _ _ h => h) (by kernel_rfl) (Or.inr ⟨by rfl, rfl⟩) hSy8 ?rest117
                        try simp only [Act.put, List.setIfInBounds_toArray, List.set_cons_zero, List.set_cons_succ]
                        refine' wpAnyD_take (i := 21) (oi := { dst := some 182, op := Go.Op.load 29 (Go.Operand.tmp 181), type := 29, pos := "outright.go:135", after := #[{ on := 20, ground := Go.Ground.data }, { on := 17, ground := Go.Ground.guard }], guard := some (17, true) }) (v := undef) rfl (by kernel_rfl) (by kernel_rfl) (by kernel_rfl) (fun _ _ _ h => h) (by kernel_rfl) (Or.inr ⟨by rfl, rfl⟩) hSy8 ?rest118
                        try simp only [Act.put, List.setIfInBounds_toArray, List.set_cons_zero, List.set_cons_succ]
                        refine' wpAnyD_take (i := 22) (oi := { dst := some 183, op := Go.Op.move (Go.Operand.tmp 22), type := 3, pos := "outright.go:135", after := #[{ on := 17, ground := Go.Ground.guard }], guard := some (17, true) }) (v := undef) rfl (by kernel_rfl) (by kernel_rfl) (by kernel_rfl) (fun _ _ _ h => h) (by kernel_rfl) (Or.inr ⟨by rfl, rfl⟩) hSy8 ?rest119
                        try simp only [Act.put, List.setIfInBounds_toArray, List.set_cons_zero, List.set_cons_succ]
                        refine' wpAnyD_take (i := 23) (oi := { dst := some 184, op := Go.Op.indexAddr 29 (Go.Operand.tmp 182) (Go.Operand.tmp 183), type := 0, pos := "outright.go:135", after := #[{ on := 21, ground := Go.Ground.data }, { on := 22, ground := Go.Ground.data }, { on := 17, ground := Go.Ground.guard }], guard := some (17, true) }) (v := undef) rfl (by kernel_rfl) (by kernel_rfl) (by kernel_rfl) (fun _ _ _ h => h) (by kernel_rfl) (Or.inr ⟨by rfl, rfl⟩) hSy8 ?rest120
                        try simp only [Act.put, List.setIfInBounds_toArray, List.set_cons_zero, List.set_cons_succ]
                        refine' wpAnyD_take (i := 24) (oi := { dst := some 185, op := Go.Op.fieldAddr 35 (Go.Operand.tmp 184) 0, type := 0, pos := "outright.go:135", after := #[{ on := 23, ground := Go.Ground.data }, { on := 17, ground := Go.Ground.guard }], guard := some (17, true) }) (v := undef) rfl (by kernel_rfl) (by kernel_rfl) (by kernel_rfl) (fun _ _ _ h => h) (by kernel_rfl) (Or.inr ⟨by rfl, rfl⟩) hSy8 ?rest121
                        try simp only [Act.put, List.setIfInBounds_toArray, List.set_cons_zero, List.set_cons_succ]
                        refine' wpAnyD_take (i := 25) (oi := { dst := some 186, op := Go.Op.load 3 (Go.Operand.tmp 185), type := 3, pos := "outright.go:135", after := #[{ on := 24, ground := Go.Ground.data }, { on := 17, ground := Go.Ground.guard }], guard := some (17, true) }) (v := undef) rfl (by kernel_rfl) (by kernel_rfl) (by kernel_rfl) (fun _ _ _ h => h) (by kernel_rfl) (Or.inr ⟨by rfl, rfl⟩) hSy8 ?rest122
                        try simp only [Act.put, List.setIfInBounds_toArray, List.set_cons_zero, List.set_cons_succ]
                        refine' wpAnyD_take (i := 26) (oi := { dst := some 187, op := Go.Op.move (Go.Operand.tmp 20), type := 3, pos := "outright.go:135", after := #[{ on := 17, ground := Go.Ground.guard }], guard := some (17, true) }) (v := undef) rfl (by kernel_rfl) (by kernel_rfl) (by kernel_rfl) (fun _ _ _ h => h) (by kernel_rfl) (Or.inr ⟨by rfl, rfl⟩) hSy8 ?rest123
                        try simp only [Act.put, List.setIfInBounds_toArray, List.set_cons_zero, List.set_cons_succ]
                        refine' wpAnyD_take (i := 27) (oi := { dst := some 188, op := Go.Op.move (Go.Operand.tmp 22), type := 3, pos := "outright.go:135", after := #[{ on := 17, ground := Go.Ground.guard }], guard := some (17, true) }) (v := undef) rfl (by kernel_rfl) (by kernel_rfl) (by kernel_rfl) (fun _ _ _ h => h) (by kernel_rfl) (Or.inr ⟨by rfl, rfl⟩) hSy8 ?rest124
                        try simp only [Act.put, List.setIfInBounds_toArray, List.set_cons_zero, List.set_cons_succ]
                        refine' wpAnyD_take (i := 28) (oi := { dst := some 189, op := Go.Op.call { callee := Go.Callee.value (Go.Operand.func 27), args := #[Go.Operand.tmp 187, Go.Operand.tmp 188], argTypes := #[3, 3] }, type := 2, pos := "outright.go:135", after := #[{ on := 26, ground := Go.Ground.data }, { on := 27, ground := Go.Ground.data }, { on := 17, ground := Go.Ground.chain }, { on := 17, ground := Go.Ground.guard }], guard := some (17, true) }) (v := undef) rfl (by kernel_rfl) (by kernel_rfl) (by kernel_rfl) (fun _ _ _ h => h) (by kernel_rfl) (Or.inr ⟨by rfl, rfl⟩) hSy8 ?rest125
                        try simp only [Act.put, List.setIfInBounds_toArray, List.set_cons_zero, List.set_cons_succ]
                        refine' wpAnyD_take (i := 29) (oi := { dst := some 190, op := Go.Op.binOp Go.BinOp.neq 3 (Go.Operand.tmp 186) (Go.Operand.tmp 189) 3, type := 4, pos := "outright.go:135", after := #[{ on := 25, ground := Go.Ground.data }, { on := 28, ground := Go.Ground.data }, { on := 17, ground := Go.Ground.guard }], guard := some (17, true) }) (v := undef) rfl (by kernel_rfl) (by kernel_rfl) (by kernel_rfl) (fun _ _ _ h => h) (by kernel_rfl) (Or.inr ⟨by rfl, rfl⟩) hSy8 ?rest126
                        try simp only [Act.put, List.setIfInBounds_toArray, List.set_cons_zero, List.set_cons_succ]
                        refine' wpAnyD_take (i := 30) (oi := { dst := some 191, op := Go.Op.pick (Go.Operand.tmp 178) (Go.Operand.tmp 190) (Go.Operand.const (Go.Value.bool false)), type := 4, pos := "outright.go:135", after := #[{ on := 17, ground := Go.Ground.data }, { on := 29, ground := Go.Ground.data }, { on := 9, ground := Go.Ground.guard }], guard := some (9, false) }) (v := _) rfl (by kernel_rfl) (by kernel_rfl) (by kernel_rfl) (fun _ _ _ h => h) (by kernel_rfl) (Or.inl ⟨by rfl, ?hy127⟩) hSy8 ?rest127
                        case hy127 => (intro W hSw; go_simp; try (with_reducible rfl))
                        try simp only [Act.put, List.setIfInBounds_toArray, List.set_cons_zero, List.set_cons_succ]
                        refine' wpAnyD_take (i := 31) (oi := { dst := some 192, op := Go.Op.pick (Go.Operand.tmp 170) (Go.Operand.const (Go.Value.bool true)) (Go.Operand.tmp 191), type := 4, pos := "outright.go:135", after := #[{ on := 9, ground := Go.Ground.data }, { on := 30, ground := Go.Ground.data }], guard := none }) (v := _) rfl (by kernel_rfl) (by kernel_rfl) (by kernel_rfl) (fun _ _ _ h => h) (by kernel_rfl) (Or.inl ⟨by rfl, ?hy128⟩) hSy8 ?rest128
                        case hy128 => (intro W hSw; go_simp; try (with_reducible rfl))
                        try simp only [Act.put, List.setIfInBounds_toArray, List.set_cons_zero, List.set_cons_succ]
                        refine wpAnyD_done (by kernel_rfl) ?_ _
                        go_wp2_with fail
                        go_roundw
                        case rel => exact ⟨i + 1, by omega, by go_num, HG4.out.trans hSy8⟩
                        case measure => simp [RowKit.intOf]; omega
                    · have hltz : ¬ (i : Int) < ((n + 1 : Nat) : Int) := by omega
                      have hltz2 : ¬ (i : Int) < (n : Int) + 1 := by omega
                      go_wp2_with fail
                      go_roundw
                      case rel => exact ⟨k + 1, by omega, by go_num, hg4⟩
                      case measure => simp [RowKit.intOf]; omega
                · have hkz : ¬ (k : Int) < 5 := by omega
                  go_wp2_with fail
                  go_meet
                  exact hg3
            case rest =>
              have GG := hcut
              have K6 := hid (K5.out.trans (Kp.of_gr (S := SqB V U) GG.out) (fun _ _ h => h))
              go_wp2_with fail
              go_ret
              exact ⟨rfl, K6.out⟩
end Go.Proofs.Ytcmgmgnmhhkdgaa
