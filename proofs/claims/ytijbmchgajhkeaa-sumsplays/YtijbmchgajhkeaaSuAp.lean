import Derived.Test.YtijbmchgajhkeaaSuAp0
import Derived.Test.YtijbmchgajhkeaaLHold2
namespace Go.Proofs.Ytijbmchgajhkeaa
open Go.RowKit Go.Sort Go.Maps Go.Shelf
attribute [local go_sem ↓] Go.wp_at_zero Go.wp_at_succ
set_option maxHeartbeats 16000000 in
set_option maxRecDepth 100000 in
theorem apart_any (n bl cl : Nat) (pl : Option Addr) (V : Nat → Value) (C : Nat → List (Int × Int × Int)) (w : World) (hn : n ≤ 2000) (hp : 0 < n → pl = some ⟨bl, 0, none⟩)
    (hl : ∀ k, k < n → w.cell? ⟨bl, k, none⟩ = some (V k)) (hbl : 0 < n → bl < w.heap.size) (hnl : ∀ k, k < n → (V k).ownBlock ≠ some bl)
    (hF : Fam KT 32 w n V C) (hN : ∀ k, k < n → (C k).length ≤ 2000) :
    Calls Try.prog 16 #[.slice pl n cl] w fun e w' => e = .returned (.bool true) ∧ Kp (SqN n V) w w' := by
  have hmx : Try.prog.follows .mixedOrders = true := by kernel_rfl
  have heq : ∀ (a b c : Int) (W : World), Sem.run Try.prog (Op.equalIn 10000 32 (.agg #[.int .u64 a, .int .u64 b, .int .u64 c]) (.agg #[.int .u64 a, .int .u64 b, .int .u64 c])) W = .ok true W := fun a b c W => by rw [run_eqT]; simp [teq]
  have HBL : Hid (∀ W, Kp (SqN n V) w W → (∀ k, k < n → W.cell? ⟨bl, k, none⟩ = some (V k) ∧ bl < W.heap.size)) := fun W h k hk => ⟨(h.cell (hbl (by omega)) (fun ⟨i, hi, e⟩ => hnl i hi e)).trans (hl k hk), Nat.lt_of_lt_of_le (hbl (by omega)) h.size⟩
  have HF := hid hF
  have HN := hid hN
  have HP := hid hp
  clear hl hbl hnl hF hN hp
  go_enter Try.func16, Try.ntmps16
  go_wp2_with fail
  go_loopw [3, 4, 5, 15] (fun _ _ _ s wr => ∃ k : Nat, k ≤ n ∧ s = .int .i64 (k : Nat) ∧ Hid (Fam KT 32 wr n V (stage mkT C k 0) ∧ Kp (SqN n V) w wr)) (fun _ _ _ s _ => n - (RowKit.intOf s).toNat)
  case atStart => exact ⟨0, by omega, rfl, by rw [stage_zero]; exact HF.out, Kp.refl _ _⟩
  case round =>
    obtain ⟨k, hk, rfl, HI⟩ := hrel
    by_cases hk4 : k < n
    · have hkz : (k : Int) < (n : Int) := by omega
      have hk0 : (0 : Int) ≤ (k : Int) := by omega
      have hNk := byt5 (HN.out k hk4)
      obtain ⟨hK1, hK2, hK3⟩ := byt6 hk4 hn
      obtain ⟨wk, wk2⟩ := wrapN hK3
      obtain ⟨x0, hblr⟩ := HBL.out wr HI.out.2 k hk4
      obtain ⟨pk, ck', ek⟩ := owns_form (HF.out.own k hk4)
      rw [ek] at x0
      have HE := hid ek
      have hpl := HP.out (by omega)
      rw [hpl]
      clear ek
      go_wp2_with fail
      go_loopw [5, 22] (fun _ s wr => ∃ i : Nat, i ≤ (C k).length ∧ s = .int .i64 (i : Nat) ∧ Hid (Fam KT 32 wr n V (stage mkT C k i) ∧ Kp (SqN n V) w wr)) (fun _ s _ => (C k).length - (RowKit.intOf s).toNat)
      case atStart => exact ⟨0, Nat.zero_le _, rfl, HI⟩
      case round =>
        clear HI x0 hblr
        obtain ⟨i, hi, rfl, HI⟩ := hrel
        by_cases hlt : i < (C k).length
        · have hltz : (i : Int) < ((C k).length : Int) := by omega
          have hi0 : (0 : Int) ≤ (i : Int) := by omega
          have wi := (wrapN (i := i) (by have := hNk.2.2.2.1; omega)).1
          have hlen := stage_len mkT C k i k hi
          have hown : wr.ownsRow 0 32 3 (.slice pk (C k).length ck') (C k).length (fl KT (stage mkT C k i k)) := by
            have := HI.out.1.own k hk4
            rw [hlen, HE.out] at this
            exact this
          obtain ⟨g, cap, hV, _, _⟩ := owns_form0 hown (by omega)
          simp only [Value.slice.injEq] at hV
          obtain ⟨rfl, -, rfl⟩ := hV
          obtain ⟨s', hs'⟩ : ∃ s', (stage mkT C k i k)[i]? = some s' := ⟨(stage mkT C k i k)[i]'(by omega), by simp⟩
          have q0 : wr.cell? ⟨g, i * 3, none⟩ = some (.int .u64 s'.1) := row_cell hown (fl_get KT _ i 0 s' hs' (by decide))
          have f0 := owns_frozen0 hown (i * 3)
          have q1 : wr.cell? ⟨g, i * 3 + 1, none⟩ = some (.int .u64 s'.2.1) := row_cell hown (fl_get KT _ i 1 s' hs' (by decide))
          have f1 := owns_frozen0 hown (i * 3 + 1)
          have q2 : wr.cell? ⟨g, i * 3 + 2, none⟩ = some (.int .u64 s'.2.2) := row_cell hown (fl_get KT _ i 2 s' hs' (by decide))
          have f2 := owns_frozen0 hown (i * 3 + 2)
          have hgl : g < wr.heap.size := (hown.lt g rfl).2
          clear hown hs' hlen
          have HS := hid (fam_markT HI.out.1 hk4 HE.out rfl hlt)
          have HK := hid (HI.out.2.trans (HS.out.2.mono (fun q hq => ⟨k, hk4, hq⟩)) (fun _ _ h => h))
          go_wp2_with fail
          go_roundw
          case rel => exact ⟨i + 1, by omega, by go_num, HS.out.1, HK.out⟩
          case measure => simp [RowKit.intOf]; omega
        · have hltz : ¬ (i : Int) < ((C k).length : Int) := by omega
          have hie : i = (C k).length := by omega
          have HI2 : Hid (Fam KT 32 wr n V (stage mkT C (k + 1) 0) ∧ Kp (SqN n V) w wr) := by
            have := HI.out
            rw [hie, stage_next] at this
            exact this
          go_wp2_with fail
          go_roundw
          case rel => exact ⟨k + 1, by omega, by go_num, HI2⟩
          case measure => simp [RowKit.intOf]; omega
    · have hkz : ¬ (k : Int) < (n : Int) := by omega
      have hk' : n = k := by omega
      subst hk'
      obtain ⟨W2, hW2⟩ : ∃ W, W = wr := ⟨_, rfl⟩
      rw [← hW2] at HI ⊢
      clear hW2 hkz hk HF
      have G0 : Hid (Grw KT 32 23 mkT 1 W2 n V (fun i => (C i).length) W2 0 V (.slice none 0 0)) := ⟨fun i hi => by omega, fun i hi => by omega, fun i _ hi => by
        have := HI.out.1.own i hi
        rw [stage_full mkT C n i hi, mks_len] at this
        exact this, fun i hi => by omega, World.ownsRow_nil _ _ _ _, fun g hg => by simp [Value.ownBlock] at hg, Kp.refl _ _⟩
      have FAR := hid HI.out.1.far
      have LOW := hid (fun i hi g hg => HI.out.1.lt (i := i) hi g hg)
      obtain ⟨iS, hiS, hs0, hs1, hs2⟩ := info_parts infoLT
      go_wp2_with fail
      go_loopw [6, 7, 8, 37] (fun s _ _ sc' wr => ∃ (j : Nat) (X : Nat → Value), j ≤ n ∧ sc' = .int .i64 (j : Nat) ∧ Hid (Grw KT 32 23 mkT 1 W2 n V (fun i => (C i).length) wr j X s)) (fun _ _ _ sc' _ => n - (RowKit.intOf sc').toNat)
      case atStart => exact ⟨0, V, Nat.zero_le _, rfl, G0⟩
      case round =>
        clear G0
        obtain ⟨k, X, hk, rfl, HG⟩ := hrel
        by_cases hk4 : k < n
        · have hkz : (k : Int) < (n : Int) := by omega
          have hk0 : (0 : Int) ≤ (k : Int) := by omega
          obtain ⟨x0, hblr⟩ := HBL.out wr (HI.out.2.trans HG.out.kp (fun _ _ h => h)) k hk4
          have hNk := byt5 (HN.out k hk4)
          have hK5 := byt6 hk4 hn
          obtain ⟨wk, wk2⟩ := wrapN hK5.2.2
          have wl := (wrapN (i := (C k).length) hNk.2.2.2.1).1
          have hOk := HG.out.rest k (Nat.le_refl _) hk4
          obtain ⟨pk, ck', ek⟩ := owns_form hOk
          rw [ek] at x0 hOk
          have HOK : Hid (wr.ownsRow 0 32 KT.k (.slice pk (C k).length ck') (C k).length (fl KT (mks mkT k (C k).length))) := hOk
          have HEK : Hid (V k = .slice pk (C k).length ck') := ek
          obtain ⟨pu, cu, hu⟩ := owns_form HG.out.more
          subst hu
          have hsw := HG.out.kp.size
          have hpl := HP.out (by omega)
          rw [hpl]
          clear hOk ek
          go_wp2_with (first
            | (at_builtin; refine wpAppKeep1 KT Try.underlying23 infoTm rfl (by decide) rfl _ _ rfl (.slice pk (C k).length ck') (C k).length (mks mkT k (C k).length) rfl HOK.out (mkT k (C k).length) (by first | rfl | simp) (by omega) hNk.2.2.1 _ rfl _ ?_; intro g cap W1' ho1 hk1 hl1 hold
               have HX1 : Hid (Ls KT W1' (.slice (some ⟨g, 0, none⟩) ((C k).length + 1) cap) (mks mkT k ((C k).length + 1))) := owns_ls (E := KT) (by rw [mks_len, ← mks_fl]; exact ho1)
               have HOLD : Hid (Ls KT W1' (V k) (mks mkT k (C k).length)) := by
                 unfold Hid
                 rw [HEK.out]
                 exact old_ls HOK.out (mks_len ..) hk1.size hold
               have HK1 : Hid (Kp (fun q => (V k).ownBlock = some q) wr W1') := by
                 unfold Hid
                 rw [HEK.out]
                 exact hk1
               have HL1 : Hid (∀ q, (Value.slice (some ⟨g, 0, none⟩) ((C k).length + 1) cap).ownBlock = some q → (V k).ownBlock = some q ∨ wr.heap.size ≤ q) := fun q hq => by
                 have : q = g := by simpa [Value.ownBlock] using hq.symm
                 rw [this, HEK.out]
                 exact hl1
               have HM1 : Hid (W1'.ownsRow W2.heap.size 23 1 (.slice pu k cu) k ((List.range k).map X)) := owns_kp HK1.out HG.out.more (fun q hq e => by
                 have h1 := (HG.out.more.lt q hq).1
                 have h2 := LOW.out k hk4 q e
                 omega)
               have hz1 := HK1.out.size
               clear ho1 hk1 hl1 hold)
            | (at_builtin; refine wpList_append_lies _ rfl _ _ 42 rfl W2.heap.size 23 iS (.slice none 0 0) 1 24 Try.underlying42 hiS hs0 hs1 hs2 rfl (by decide) (.slice pu k cu) k _ rfl (World.ownsRow.alloc HM1.out _) ⟨W1'.heap.size, 0, none⟩ 1 1 [.slice (some ⟨g, 0, none⟩) ((C k).length + 1) cap] (by first | rfl | simp) rfl (World.news_of_block (heap_new' _ _)) (fun u hu => by simp at hu; subst hu; rfl) (by decide) hK5.1 hK5.2.1 (Nat.le_trans (Nat.le_trans hsw hz1) (by simp)) _ rfl ?_; intro g7 c7 W3' ho3 hg3 hl3 _)
            | go_in)
          have HSS := hid (HG.out.step hk4 FAR.out LOW.out HX1.out HL1.out HOLD.out HK1.out ho3 ((Kp.of_below ((Gr.refl W1').alloc _).below).trans (Kp.grownBy (S := fun q => (Value.slice pu k cu).ownBlock = some q) hg3 (fun _ h => h)) (fun _ _ h => h)) (fun q hq => by
            have : q = g7 := by simpa [Value.ownBlock] using hq.symm
            rw [this]
            exact hl3.imp id (fun e => by rw [e]; simp)))
          clear ho3 hg3 hl3 HX1 HOLD HK1 HL1 HM1
          go_wp2_with fail
          go_roundw
          case rel => exact ⟨k + 1, _, by omega, by go_num, HSS⟩
          case measure => exact meas_up n k hk4
        · have hkz : ¬ (k : Int) < (n : Int) := by omega
          have hk' : n = k := by omega
          subst hk'
          obtain ⟨W4, hW4⟩ : ∃ W, W = wr := ⟨_, rfl⟩
          rw [← hW4] at HG ⊢
          clear hW4
          obtain ⟨pm, cm, hpm⟩ := owns_form HG.out.more
          subst hpm
          have K4 := hid (HI.out.2.trans HG.out.kp (fun _ _ h => h))
          have BIG : Hid (∀ i, i < n → Ls KT W4 (X i) (mks mkT i ((C i).length + 1)) ∧ Ls KT W4 (V i) (mks mkT i (C i).length)) := fun i hi => ⟨HG.out.big i hi, HG.out.old i hi⟩
          have MR := hid HG.out.more
          have CBL := hid (HBL.out W4 K4.out)
          clear HG HI FAR LOW HBL hkz hk hiS hs0 hs1 hs2
          go_wp2_with fail
          go_loopw [9, 10, 11, 12, 57] (fun _ _ _ _ s wr => ∃ k : Nat, k ≤ n ∧ s = .int .i64 (k : Nat) ∧ Gr W4 wr) (fun _ _ _ _ s _ => n - (RowKit.intOf s).toNat)
          case atStart => exact ⟨0, by omega, rfl, Gr.refl _⟩
          case round =>
            obtain ⟨k, hk, rfl, hg3⟩ := hrel
            by_cases hk4 : k < n
            · have hkz : (k : Int) < (n : Int) := by omega
              have hk0 : (0 : Int) ≤ (k : Int) := by omega
              have hNk := byt5 (HN.out k hk4)
              obtain ⟨wk, wk2⟩ := wrapN (byt6 hk4 hn).2.2
              obtain ⟨gm, hgm, zm, cmk⟩ := row_at MR.out (by omega)
              have m1 := (hg3.cell zm).trans (cmk k hk4)
              have zm3 := Nat.lt_of_lt_of_le zm hg3.size
              have hb := BIG.out k hk4
              obtain ⟨px, cx, ex⟩ := hb.1.form
              obtain ⟨pv, cv, ev⟩ := hb.2.form
              rw [mks_len] at ex ev
              rw [ex] at m1
              have HLX : Hid (Ls KT W4 (.slice px ((C k).length + 1) cx) (mks mkT k ((C k).length + 1))) := by rw [← ex]; exact hb.1
              have HLV : Hid (Ls KT W4 (.slice pv (C k).length cv) (mks mkT k (C k).length)) := by rw [← ev]; exact hb.2
              have HCk : Hid (W4.cell? ⟨bl, k, none⟩ = some (.slice pv (C k).length cv)) := by rw [← ev]; exact (CBL.out k hk4).1
              have zb := (CBL.out k hk4).2
              clear ex ev hb cmk
              obtain ⟨m, hm⟩ : ∃ m, m = (C k).length := ⟨_, rfl⟩
              rw [← hm] at HLX HLV HCk hNk m1
              clear hm
              have hpl := HP.out (by omega)
              rw [hgm, hpl]
              go_wp2_with fail
              clear m1
              go_loopw [11, 12, 64] (fun _ _ s wr => ∃ i : Nat, i ≤ m + 1 ∧ s = .int .i64 (i : Nat) ∧ Gr W4 wr) (fun _ _ s _ => m + 1 - (RowKit.intOf s).toNat)
              case atStart => exact ⟨0, Nat.zero_le _, rfl, hg3⟩
              case round =>
                clear hg3 zm3
                obtain ⟨i, hi, rfl, hg4⟩ := hrel
                by_cases hlt : i < m + 1
                · have hltz : (i : Int) < ((m + 1 : Nat) : Int) := Int.ofNat_lt.2 hlt
                  have hltz2 : (i : Int) < (m : Int) + 1 := by omega
                  have hi0 : (0 : Int) ≤ (i : Int) := by omega
                  have wi := (wrapN (i := i) (by have := hNk.2.2.2.2; omega)).1
                  obtain ⟨W5, hW5⟩ : ∃ W5, W5 = wr.alloc (.cells #[.int .u64 1152921504606846976, .int .u64 (k : Int), .int .u64 (i : Int)] 32) := ⟨_, rfl⟩
                  obtain ⟨b5, hb5⟩ : ∃ b5, b5 = wr.heap.size := ⟨_, rfl⟩
                  have G5 : Gr wr W5 := by rw [hW5]; exact (Gr.refl _).alloc _
                  have hX5 : W5.heap[b5]? = some (.cells #[.int .u64 1152921504606846976, .int .u64 (k : Int), .int .u64 (i : Int)] 32 (0, 0)) := by rw [hW5, hb5]; exact heap_new' _ _
                  have g45 := hg4.trans G5
                  obtain ⟨M, hM⟩ : ∃ M : Int, M = 1152921504606846976 := ⟨_, rfl⟩
                  have k0 : W5.cell? ⟨b5, 0, none⟩ = some (.int .u64 M) := by rw [hM]; simp [World.cell?, hX5]
                  have k1 : W5.cell? ⟨b5, 1, none⟩ = some (.int .u64 (k : Int)) := by simp [World.cell?, hX5]
                  have k2 : W5.cell? ⟨b5, 2, none⟩ = some (.int .u64 (i : Int)) := by simp [World.cell?, hX5]
                  have kz := (Array.getElem?_eq_some_iff.1 hX5).1
                  obtain ⟨b1, o1, c1, e1, z1, x0, x1, x2⟩ := atKT (HLX.out.below g45.below) (j := i) (mks_get mkT hlt)
                  simp only [Value.slice.injEq] at e1
                  obtain ⟨rfl, -, rfl⟩ := e1
                  replace x0 : W5.cell? ⟨b1, o1 + i * 3, none⟩ = some (.int .u64 M) := by rw [hM]; exact x0
                  replace x1 : W5.cell? ⟨b1, o1 + i * 3 + 1, none⟩ = some (.int .u64 (k : Int)) := by exact x1
                  replace x2 : W5.cell? ⟨b1, o1 + i * 3 + 2, none⟩ = some (.int .u64 (i : Int)) := by exact x2
                  have y0 := (g45.cell zb).trans HCk.out
                  have zb4 := Nat.lt_of_lt_of_le zb g45.size
                  have HG4 := hid g45
                  by_cases hlv : i < m
                  · have hlvz : (i : Int) < (m : Int) := by omega
                    obtain ⟨b2, o2, c2, e2, z2, v0, v1, v2⟩ := atKT (HLV.out.below g45.below) (j := i) (mks_get mkT hlv)
                    simp only [Value.slice.injEq] at e2
                    obtain ⟨rfl, -, rfl⟩ := e2
                    replace v0 : W5.cell? ⟨b2, o2 + i * 3, none⟩ = some (.int .u64 M) := by rw [hM]; exact v0
                    replace v1 : W5.cell? ⟨b2, o2 + i * 3 + 1, none⟩ = some (.int .u64 (k : Int)) := by exact v1
                    replace v2 : W5.cell? ⟨b2, o2 + i * 3 + 2, none⟩ = some (.int .u64 (i : Int)) := by exact v2
                    clear hg4 g45 G5 hX5 hM
                    go_upto_region 23 with fail
                    rw [← hW5, ← hb5]
                    clear hW5 hb5
                    go_quiet (fail)
                    go_wp2_with fail
                    go_roundw
                    case rel => exact ⟨i + 1, by omega, by go_num, HG4.out.drewN _⟩
                    case measure => simp [RowKit.intOf]; omega
                  · have hlvz : ¬ (i : Int) < (m : Int) := by omega
                    clear hg4 g45 G5 hX5 hM
                    go_upto_region 23 with fail
                    rw [← hW5, ← hb5]
                    clear hW5 hb5
                    go_quiet (fail)
                    go_wp2_with fail
                    go_roundw
                    case rel => exact ⟨i + 1, by omega, by go_num, HG4.out.drewN _⟩
                    case measure => simp [RowKit.intOf]; omega
                · have hltz : ¬ (i : Int) < ((m + 1 : Nat) : Int) := by omega
                  have hltz2 : ¬ (i : Int) < (m : Int) + 1 := by omega
                  go_wp2_with fail
                  go_roundw
                  case rel => exact ⟨k + 1, by omega, by go_num, hg4⟩
                  case measure => simp [RowKit.intOf]; omega
            · have hkz : ¬ (k : Int) < (n : Int) := by omega
              have K6 := hid (K4.out.trans (Kp.of_gr (S := SqN n V) hg3) (fun _ _ h => h))
              go_wp2_with fail
              go_ret
              exact ⟨rfl, K6.out⟩
set_option maxHeartbeats 16000000 in
set_option maxRecDepth 100000 in
theorem alone_any (n bl cl : Nat) (pl : Option Addr) (V : Nat → Value) (C : Nat → List (Int × Int)) (w : World) (hn : n ≤ 2000) (hp : 0 < n → pl = some ⟨bl, 0, none⟩)
    (hl : ∀ k, k < n → w.cell? ⟨bl, k, none⟩ = some (V k)) (hbl : 0 < n → bl < w.heap.size) (hnl : ∀ k, k < n → (V k).ownBlock ≠ some bl)
    (hF : Fam KR 37 w n V C) (hN : ∀ k, k < n → (C k).length ≤ 2000) :
    Calls Try.prog 17 #[.slice pl n cl] w fun e w' => e = .returned (.bool true) ∧ Kp (SqN n V) w w' := by
  have hmx : Try.prog.follows .mixedOrders = true := by kernel_rfl
  have heq := fun a b W => run_eqR a b W
  have HBL : Hid (∀ W, Kp (SqN n V) w W → (∀ k, k < n → W.cell? ⟨bl, k, none⟩ = some (V k) ∧ bl < W.heap.size)) := fun W h k hk => ⟨(h.cell (hbl (by omega)) (fun ⟨i, hi, e⟩ => hnl i hi e)).trans (hl k hk), Nat.lt_of_lt_of_le (hbl (by omega)) h.size⟩
  have HF := hid hF
  have HN := hid hN
  have HP := hid hp
  clear hl hbl hnl hF hN hp
  go_enter Try.func17, Try.ntmps17
  go_wp2_with fail
  go_loopw [3, 4, 5, 15] (fun _ _ _ s wr => ∃ k : Nat, k ≤ n ∧ s = .int .i64 (k : Nat) ∧ Hid (Fam KR 37 wr n V (stage mkR C k 0) ∧ Kp (SqN n V) w wr)) (fun _ _ _ s _ => n - (RowKit.intOf s).toNat)
  case atStart => exact ⟨0, by omega, rfl, by rw [stage_zero]; exact HF.out, Kp.refl _ _⟩
  case round =>
    obtain ⟨k, hk, rfl, HI⟩ := hrel
    by_cases hk4 : k < n
    · have hkz : (k : Int) < (n : Int) := by omega
      have hk0 : (0 : Int) ≤ (k : Int) := by omega
      have hNk := byt5 (HN.out k hk4)
      obtain ⟨hK1, hK2, hK3⟩ := byt6 hk4 hn
      obtain ⟨wk, wk2⟩ := wrapN hK3
      obtain ⟨x0, hblr⟩ := HBL.out wr HI.out.2 k hk4
      obtain ⟨pk, ck', ek⟩ := owns_form (HF.out.own k hk4)
      rw [ek] at x0
      have HE := hid ek
      have hpl := HP.out (by omega)
      rw [hpl]
      clear ek
      go_wp2_with fail
      go_loopw [5, 22] (fun _ s wr => ∃ i : Nat, i ≤ (C k).length ∧ s = .int .i64 (i : Nat) ∧ Hid (Fam KR 37 wr n V (stage mkR C k i) ∧ Kp (SqN n V) w wr)) (fun _ s _ => (C k).length - (RowKit.intOf s).toNat)
      case atStart => exact ⟨0, Nat.zero_le _, rfl, HI⟩
      case round =>
        clear HI x0 hblr
        obtain ⟨i, hi, rfl, HI⟩ := hrel
        by_cases hlt : i < (C k).length
        · have hltz : (i : Int) < ((C k).length : Int) := by omega
          have hi0 : (0 : Int) ≤ (i : Int) := by omega
          have wi := (wrapN (i := i) (by have := hNk.2.2.2.1; omega)).1
          have hlen := stage_len mkR C k i k hi
          have hown : wr.ownsRow 0 37 2 (.slice pk (C k).length ck') (C k).length (fl KR (stage mkR C k i k)) := by
            have := HI.out.1.own k hk4
            rw [hlen, HE.out] at this
            exact this
          obtain ⟨g, cap, hV, _, _⟩ := owns_form0 hown (by omega)
          simp only [Value.slice.injEq] at hV
          obtain ⟨rfl, -, rfl⟩ := hV
          obtain ⟨s', hs'⟩ : ∃ s', (stage mkR C k i k)[i]? = some s' := ⟨(stage mkR C k i k)[i]'(by omega), by simp⟩
          have q0 : wr.cell? ⟨g, i * 2, none⟩ = some (.int .u64 s'.1) := row_cell hown (fl_get KR _ i 0 s' hs' (by decide))
          have f0 := owns_frozen0 hown (i * 2)
          have q1 : wr.cell? ⟨g, i * 2 + 1, none⟩ = some (.int .u64 s'.2) := row_cell hown (fl_get KR _ i 1 s' hs' (by decide))
          have f1 := owns_frozen0 hown (i * 2 + 1)
          have hgl : g < wr.heap.size := (hown.lt g rfl).2
          clear hown hs' hlen
          have HS := hid (fam_markR HI.out.1 hk4 HE.out rfl hlt)
          have HK := hid (HI.out.2.trans (HS.out.2.mono (fun q hq => ⟨k, hk4, hq⟩)) (fun _ _ h => h))
          go_wp2_with fail
          go_roundw
          case rel => exact ⟨i + 1, by omega, by go_num, HS.out.1, HK.out⟩
          case measure => simp [RowKit.intOf]; omega
        · have hltz : ¬ (i : Int) < ((C k).length : Int) := by omega
          have hie : i = (C k).length := by omega
          have HI2 : Hid (Fam KR 37 wr n V (stage mkR C (k + 1) 0) ∧ Kp (SqN n V) w wr) := by
            have := HI.out
            rw [hie, stage_next] at this
            exact this
          go_wp2_with fail
          go_roundw
          case rel => exact ⟨k + 1, by omega, by go_num, HI2⟩
          case measure => simp [RowKit.intOf]; omega
    · have hkz : ¬ (k : Int) < (n : Int) := by omega
      have hk' : n = k := by omega
      subst hk'
      obtain ⟨W2, hW2⟩ : ∃ W, W = wr := ⟨_, rfl⟩
      rw [← hW2] at HI ⊢
      clear hW2 hkz hk HF
      have G0 : Hid (Grw KR 37 33 mkR 1 W2 n V (fun i => (C i).length) W2 0 V (.slice none 0 0)) := ⟨fun i hi => by omega, fun i hi => by omega, fun i _ hi => by
        have := HI.out.1.own i hi
        rw [stage_full mkR C n i hi, mks_len] at this
        exact this, fun i hi => by omega, World.ownsRow_nil _ _ _ _, fun g hg => by simp [Value.ownBlock] at hg, Kp.refl _ _⟩
      have FAR := hid HI.out.1.far
      have LOW := hid (fun i hi g hg => HI.out.1.lt (i := i) hi g hg)
      obtain ⟨iS, hiS, hs0, hs1, hs2⟩ := info_parts infoLR
      go_wp2_with fail
      go_loopw [6, 7, 8, 38] (fun s _ _ sc' wr => ∃ (j : Nat) (X : Nat → Value), j ≤ n ∧ sc' = .int .i64 (j : Nat) ∧ Hid (Grw KR 37 33 mkR 1 W2 n V (fun i => (C i).length) wr j X s)) (fun _ _ _ sc' _ => n - (RowKit.intOf sc').toNat)
      case atStart => exact ⟨0, V, Nat.zero_le _, rfl, G0⟩
      case round =>
        clear G0
        obtain ⟨k, X, hk, rfl, HG⟩ := hrel
        by_cases hk4 : k < n
        · have hkz : (k : Int) < (n : Int) := by omega
          have hk0 : (0 : Int) ≤ (k : Int) := by omega
          obtain ⟨x0, hblr⟩ := HBL.out wr (HI.out.2.trans HG.out.kp (fun _ _ h => h)) k hk4
          have hNk := byt5 (HN.out k hk4)
          have hK5 := byt6 hk4 hn
          obtain ⟨wk, wk2⟩ := wrapN hK5.2.2
          have wl := (wrapN (i := (C k).length) hNk.2.2.2.1).1
          have hOk := HG.out.rest k (Nat.le_refl _) hk4
          obtain ⟨pk, ck', ek⟩ := owns_form hOk
          rw [ek] at x0 hOk
          have HOK : Hid (wr.ownsRow 0 37 KR.k (.slice pk (C k).length ck') (C k).length (fl KR (mks mkR k (C k).length))) := hOk
          have HEK : Hid (V k = .slice pk (C k).length ck') := ek
          obtain ⟨pu, cu, hu⟩ := owns_form HG.out.more
          subst hu
          have hsw := HG.out.kp.size
          have hpl := HP.out (by omega)
          rw [hpl]
          clear hOk ek
          go_wp2_with (first
            | (at_builtin; refine wpAppKeep1 KR Try.underlying33 infoR rfl (by decide) rfl _ _ rfl (.slice pk (C k).length ck') (C k).length (mks mkR k (C k).length) rfl HOK.out (mkR k (C k).length) (by first | rfl | simp) (by omega) hNk.2.2.1 _ rfl _ ?_; intro g cap W1' ho1 hk1 hl1 hold
               have HX1 : Hid (Ls KR W1' (.slice (some ⟨g, 0, none⟩) ((C k).length + 1) cap) (mks mkR k ((C k).length + 1))) := owns_ls (E := KR) (by rw [mks_len, ← mks_fl]; exact ho1)
               have HOLD : Hid (Ls KR W1' (V k) (mks mkR k (C k).length)) := by
                 unfold Hid
                 rw [HEK.out]
                 exact old_ls HOK.out (mks_len ..) hk1.size hold
               have HK1 : Hid (Kp (fun q => (V k).ownBlock = some q) wr W1') := by
                 unfold Hid
                 rw [HEK.out]
                 exact hk1
               have HL1 : Hid (∀ q, (Value.slice (some ⟨g, 0, none⟩) ((C k).length + 1) cap).ownBlock = some q → (V k).ownBlock = some q ∨ wr.heap.size ≤ q) := fun q hq => by
                 have : q = g := by simpa [Value.ownBlock] using hq.symm
                 rw [this, HEK.out]
                 exact hl1
               have HM1 : Hid (W1'.ownsRow W2.heap.size 33 1 (.slice pu k cu) k ((List.range k).map X)) := owns_kp HK1.out HG.out.more (fun q hq e => by
                 have h1 := (HG.out.more.lt q hq).1
                 have h2 := LOW.out k hk4 q e
                 omega)
               have hz1 := HK1.out.size
               clear ho1 hk1 hl1 hold)
            | (at_builtin; refine wpList_append_lies _ rfl _ _ 45 rfl W2.heap.size 33 iS (.slice none 0 0) 1 24 Try.underlying45 hiS hs0 hs1 hs2 rfl (by decide) (.slice pu k cu) k _ rfl (World.ownsRow.alloc HM1.out _) ⟨W1'.heap.size, 0, none⟩ 1 1 [.slice (some ⟨g, 0, none⟩) ((C k).length + 1) cap] (by first | rfl | simp) rfl (World.news_of_block (heap_new' _ _)) (fun u hu => by simp at hu; subst hu; rfl) (by decide) hK5.1 hK5.2.1 (Nat.le_trans (Nat.le_trans hsw hz1) (by simp)) _ rfl ?_; intro g7 c7 W3' ho3 hg3 hl3 _)
            | go_in)
          have HSS := hid (HG.out.step hk4 FAR.out LOW.out HX1.out HL1.out HOLD.out HK1.out ho3 ((Kp.of_below ((Gr.refl W1').alloc _).below).trans (Kp.grownBy (S := fun q => (Value.slice pu k cu).ownBlock = some q) hg3 (fun _ h => h)) (fun _ _ h => h)) (fun q hq => by
            have : q = g7 := by simpa [Value.ownBlock] using hq.symm
            rw [this]
            exact hl3.imp id (fun e => by rw [e]; simp)))
          clear ho3 hg3 hl3 HX1 HOLD HK1 HL1 HM1
          go_wp2_with fail
          go_roundw
          case rel => exact ⟨k + 1, _, by omega, by go_num, HSS⟩
          case measure => exact meas_up n k hk4
        · have hkz : ¬ (k : Int) < (n : Int) := by omega
          have hk' : n = k := by omega
          subst hk'
          obtain ⟨W4, hW4⟩ : ∃ W, W = wr := ⟨_, rfl⟩
          rw [← hW4] at HG ⊢
          clear hW4
          obtain ⟨pm, cm, hpm⟩ := owns_form HG.out.more
          subst hpm
          have K4 := hid (HI.out.2.trans HG.out.kp (fun _ _ h => h))
          have BIG : Hid (∀ i, i < n → Ls KR W4 (X i) (mks mkR i ((C i).length + 1)) ∧ Ls KR W4 (V i) (mks mkR i (C i).length)) := fun i hi => ⟨HG.out.big i hi, HG.out.old i hi⟩
          have MR := hid HG.out.more
          have CBL := hid (HBL.out W4 K4.out)
          clear HG HI FAR LOW HBL hkz hk hiS hs0 hs1 hs2
          go_wp2_with fail
          go_loopw [9, 10, 11, 12, 59] (fun _ _ _ _ s wr => ∃ k : Nat, k ≤ n ∧ s = .int .i64 (k : Nat) ∧ Gr W4 wr) (fun _ _ _ _ s _ => n - (RowKit.intOf s).toNat)
          case atStart => exact ⟨0, by omega, rfl, Gr.refl _⟩
          case round =>
            obtain ⟨k, hk, rfl, hg3⟩ := hrel
            by_cases hk4 : k < n
            · have hkz : (k : Int) < (n : Int) := by omega
              have hk0 : (0 : Int) ≤ (k : Int) := by omega
              have hNk := byt5 (HN.out k hk4)
              obtain ⟨wk, wk2⟩ := wrapN (byt6 hk4 hn).2.2
              obtain ⟨gm, hgm, zm, cmk⟩ := row_at MR.out (by omega)
              have m1 := (hg3.cell zm).trans (cmk k hk4)
              have zm3 := Nat.lt_of_lt_of_le zm hg3.size
              have hb := BIG.out k hk4
              obtain ⟨px, cx, ex⟩ := hb.1.form
              obtain ⟨pv, cv, ev⟩ := hb.2.form
              rw [mks_len] at ex ev
              rw [ex] at m1
              have HLX : Hid (Ls KR W4 (.slice px ((C k).length + 1) cx) (mks mkR k ((C k).length + 1))) := by rw [← ex]; exact hb.1
              have HLV : Hid (Ls KR W4 (.slice pv (C k).length cv) (mks mkR k (C k).length)) := by rw [← ev]; exact hb.2
              have HCk : Hid (W4.cell? ⟨bl, k, none⟩ = some (.slice pv (C k).length cv)) := by rw [← ev]; exact (CBL.out k hk4).1
              have zb := (CBL.out k hk4).2
              clear ex ev hb cmk
              obtain ⟨m, hm⟩ : ∃ m, m = (C k).length := ⟨_, rfl⟩
              rw [← hm] at HLX HLV HCk hNk m1
              clear hm
              have hpl := HP.out (by omega)
              rw [hgm, hpl]
              go_wp2_with fail
              clear m1
              go_loopw [11, 12, 66] (fun _ _ s wr => ∃ i : Nat, i ≤ m + 1 ∧ s = .int .i64 (i : Nat) ∧ Gr W4 wr) (fun _ _ s _ => m + 1 - (RowKit.intOf s).toNat)
              case atStart => exact ⟨0, Nat.zero_le _, rfl, hg3⟩
              case round =>
                clear hg3 zm3
                obtain ⟨i, hi, rfl, hg4⟩ := hrel
                by_cases hlt : i < m + 1
                · have hltz : (i : Int) < ((m + 1 : Nat) : Int) := Int.ofNat_lt.2 hlt
                  have hltz2 : (i : Int) < (m : Int) + 1 := by omega
                  have hi0 : (0 : Int) ≤ (i : Int) := by omega
                  have wi := (wrapN (i := i) (by have := hNk.2.2.2.2; omega)).1
                  obtain ⟨W5, hW5⟩ : ∃ W5, W5 = wr.alloc (.cells #[.int .u64 (1152921504606846976 + (k : Int)), .int .u64 (i : Int)] 37) := ⟨_, rfl⟩
                  obtain ⟨b5, hb5⟩ : ∃ b5, b5 = wr.heap.size := ⟨_, rfl⟩
                  have G5 : Gr wr W5 := by rw [hW5]; exact (Gr.refl _).alloc _
                  have hX5 : W5.heap[b5]? = some (.cells #[.int .u64 (1152921504606846976 + (k : Int)), .int .u64 (i : Int)] 37 (0, 0)) := by rw [hW5, hb5]; exact heap_new' _ _
                  have g45 := hg4.trans G5
                  obtain ⟨M, hM⟩ : ∃ M : Int, M = 1152921504606846976 + (k : Int) := ⟨_, rfl⟩
                  have k0 : W5.cell? ⟨b5, 0, none⟩ = some (.int .u64 M) := by rw [hM]; simp [World.cell?, hX5]
                  have k1 : W5.cell? ⟨b5, 1, none⟩ = some (.int .u64 (i : Int)) := by simp [World.cell?, hX5]
                  have kz := (Array.getElem?_eq_some_iff.1 hX5).1
                  obtain ⟨b1, o1, c1, e1, z1, x0, x1⟩ := atKR (HLX.out.below g45.below) (j := i) (mks_get mkR hlt)
                  simp only [Value.slice.injEq] at e1
                  obtain ⟨rfl, -, rfl⟩ := e1
                  replace x0 : W5.cell? ⟨b1, o1 + i * 2, none⟩ = some (.int .u64 M) := by rw [hM]; exact x0
                  replace x1 : W5.cell? ⟨b1, o1 + i * 2 + 1, none⟩ = some (.int .u64 (i : Int)) := by exact x1
                  have y0 := (g45.cell zb).trans HCk.out
                  have zb4 := Nat.lt_of_lt_of_le zb g45.size
                  have HG4 := hid g45
                  by_cases hlv : i < m
                  · have hlvz : (i : Int) < (m : Int) := by omega
                    obtain ⟨b2, o2, c2, e2, z2, v0, v1⟩ := atKR (HLV.out.below g45.below) (j := i) (mks_get mkR hlv)
                    simp only [Value.slice.injEq] at e2
                    obtain ⟨rfl, -, rfl⟩ := e2
                    replace v0 : W5.cell? ⟨b2, o2 + i * 2, none⟩ = some (.int .u64 M) := by rw [hM]; exact v0
                    replace v1 : W5.cell? ⟨b2, o2 + i * 2 + 1, none⟩ = some (.int .u64 (i : Int)) := by exact v1
                    clear hg4 g45 G5 hX5 hM
                    go_upto_region 23 with fail
                    rw [← hW5, ← hb5]
                    clear hW5 hb5
                    go_quiet (fail)
                    go_wp2_with fail
                    go_roundw
                    case rel => exact ⟨i + 1, by omega, by go_num, HG4.out.drewN _⟩
                    case measure => simp [RowKit.intOf]; omega
                  · have hlvz : ¬ (i : Int) < (m : Int) := by omega
                    clear hg4 g45 G5 hX5 hM
                    go_upto_region 23 with fail
                    rw [← hW5, ← hb5]
                    clear hW5 hb5
                    go_quiet (fail)
                    go_wp2_with fail
                    go_roundw
                    case rel => exact ⟨i + 1, by omega, by go_num, HG4.out.drewN _⟩
                    case measure => simp [RowKit.intOf]; omega
                · have hltz : ¬ (i : Int) < ((m + 1 : Nat) : Int) := by omega
                  have hltz2 : ¬ (i : Int) < (m : Int) + 1 := by omega
                  go_wp2_with fail
                  go_roundw
                  case rel => exact ⟨k + 1, by omega, by go_num, hg4⟩
                  case measure => simp [RowKit.intOf]; omega
            · have hkz : ¬ (k : Int) < (n : Int) := by omega
              have K6 := hid (K4.out.trans (Kp.of_gr (S := SqN n V) hg3) (fun _ _ h => h))
              go_wp2_with fail
              go_ret
              exact ⟨rfl, K6.out⟩
end Go.Proofs.Ytijbmchgajhkeaa
