import Derived.Test.YtcdmgclkgojgaaaPoOrd0
import Derived.Test.YtcdmgclkgojgaaaPoOrdP
import Derived.Test.YtcdmgclkgojgaaaPoKnown
import Derived.Deep.RegionLaw
import Derived.Deep.RegionWith
import Derived.WalkMore
namespace Go.Proofs.Ytcdmgclkgojgaaa.Po
open Go.RowKit Go.Sort
attribute [local go_sem ↓] Go.wp_at_zero Go.wp_at_succ
abbrev zput : Array Value := #[.slice none 0 0, .slice none 0 0, .slice none 0 0, .slice none 0 0, .slice none 0 0, .slice none 0 0, .slice none 0 0, .slice none 0 0, .slice none 0 0, .slice none 0 0, .slice none 0 0, .slice none 0 0, .slice none 0 0, .slice none 0 0, .slice none 0 0, .slice none 0 0, .slice none 0 0, .slice none 0 0, .slice none 0 0, .slice none 0 0, .slice none 0 0, .slice none 0 0, .slice none 0 0, .slice none 0 0, .slice none 0 0, .slice none 0 0, .slice none 0 0, .slice none 0 0, .slice none 0 0, .slice none 0 0, .slice none 0 0, .slice none 0 0, .slice none 0 0, .slice none 0 0, .slice none 0 0, .slice none 0 0, .slice none 0 0, .slice none 0 0, .slice none 0 0, .slice none 0 0, .slice none 0 0, .slice none 0 0, .slice none 0 0, .slice none 0 0, .slice none 0 0, .slice none 0 0, .slice none 0 0, .slice none 0 0, .slice none 0 0, .slice none 0 0, .slice none 0 0, .slice none 0 0, .slice none 0 0, .slice none 0 0, .slice none 0 0, .slice none 0 0, .slice none 0 0, .slice none 0 0, .slice none 0 0, .slice none 0 0, .slice none 0 0, .slice none 0 0, .slice none 0 0, .slice none 0 0]
abbrev ztook : Array Value := #[.int .i64 0, .int .i64 0, .int .i64 0, .int .i64 0, .int .i64 0, .int .i64 0, .int .i64 0, .int .i64 0, .int .i64 0, .int .i64 0, .int .i64 0, .int .i64 0, .int .i64 0, .int .i64 0, .int .i64 0, .int .i64 0, .int .i64 0, .int .i64 0, .int .i64 0, .int .i64 0, .int .i64 0, .int .i64 0, .int .i64 0, .int .i64 0, .int .i64 0, .int .i64 0, .int .i64 0, .int .i64 0, .int .i64 0, .int .i64 0, .int .i64 0, .int .i64 0, .int .i64 0, .int .i64 0, .int .i64 0, .int .i64 0, .int .i64 0, .int .i64 0, .int .i64 0, .int .i64 0, .int .i64 0, .int .i64 0, .int .i64 0, .int .i64 0, .int .i64 0, .int .i64 0, .int .i64 0, .int .i64 0, .int .i64 0, .int .i64 0, .int .i64 0, .int .i64 0, .int .i64 0, .int .i64 0, .int .i64 0, .int .i64 0, .int .i64 0, .int .i64 0, .int .i64 0, .int .i64 0, .int .i64 0, .int .i64 0, .int .i64 0, .int .i64 0]
theorem zero_put : zput = Array.replicate 64 (Value.slice none 0 0) := by kernel_rfl
theorem zero_took : ztook = Array.replicate 64 (Value.int .i64 0) := by kernel_rfl
/-- As it begins. -/
theorem St.init {w w2 w3 : World} {hb W : Nat} (hP : Pq w2 (fun k => k = hb) hb W 0 (fun _ => [])) (hhb : w.heap.size ≤ hb) (hB : Below w.heap.size w w2) (h3 : w3 = (w2.alloc (.cells zput 30)).alloc (.cells ztook 31)) :
    St w (fun _ => False) hb w2.heap.size (w2.heap.size + 1) W 0 (fun _ => []) (fun _ => []) (fun _ => 0) w3 := by
  have hG : Gr w2 w3 := by rw [h3]; exact ((Gr.refl _).alloc _).alloc _
  have hs : w3.heap.size = w2.heap.size + 2 := by rw [h3]; simp
  have hl := hP.lt
  refine ⟨⟨fun k => k = hb, fun k => k = w2.heap.size, fun _ => .slice none 0 0, hP.gr hG, ⟨⟨_, by rw [h3]; exact heap_alloc2_old _ _ _, by rw [zero_put, Array.size_replicate], fun i hi => by rw [zero_put, Array.getElem?_replicate, if_pos hi]⟩, fun _ _ => owns_nil _ _ _ _, fun _ _ _ _ _ h => by simp [Value.ownBlock] at h, fun _ _ h => by simp [Value.ownBlock] at h, rfl, fun _ _ _ h => by simp [Value.ownBlock] at h⟩,
    ⟨_, by rw [h3]; exact heap_alloc2_new _ _ _, by rw [zero_took, Array.size_replicate], fun i hi => by rw [zero_took, Array.getElem?_replicate, if_pos hi]; rfl⟩, fun j e1 e2 => by omega, by omega, by omega, fun j e => by omega, fun j e => ?_, ?_, fun _ h => h.elim⟩, hB.trans (hG.below.mono hB.size)⟩
  · have := hB.size; omega
  · have := hB.size; omega
set_option maxHeartbeats 16000000 in
set_option maxRecDepth 100000 in
theorem postOrder_any (n : Int) (v : Value) (sc : List Th) (w : World) (hL : Ls ET w v sc) (hlen : sc.length * 40 ≤ 140737488351232) : Calls Try.prog 3 #[.int .i64 n, v] w fun e w' => e = .returned (.bool true) ∧ Below w.heap.size w w' := by
  have hmx : Try.prog.follows .mixedOrders = true := by kernel_rfl
  obtain ⟨ps, cs, rfl⟩ := hL.form
  have HL := hid hL
  have HLN := hid hlen
  have hsc : sc.length ≤ 3518437208784 := by omega
  clear hL hlen
  go_enter Try.func3, Try.ntmps3
  go_upto_region 1 with fail
  go_cut [25] (fun s25 w' => ∃ b : Bool, s25 = .bool b ∧ (b = true ↔ n < 2 ∨ 8 < n) ∧ w' = w)
  case first =>
    by_cases h1 : n < 2
    · go_wp2_with fail
      go_meet
      exact ⟨true, rfl, ⟨fun _ => Or.inl h1, fun _ => rfl⟩, rfl⟩
    · by_cases h2 : 8 < n
      · go_wp2_with fail
        go_meet
        exact ⟨true, rfl, ⟨fun _ => Or.inr h2, fun _ => rfl⟩, rfl⟩
      · go_wp2_with fail
        go_meet
        exact ⟨false, rfl, ⟨fun h => (by cases h), fun h => (by omega)⟩, rfl⟩
  case rest =>
    obtain ⟨b, rfl, hbn, hwc⟩ := hcut
    rw [hwc]
    clear hwc
    go_upto_if 25 with fail
    go_cut [0] (fun s0 w' => ∃ W : Nat, 2 ≤ W ∧ W ≤ 8 ∧ s0 = .int .i64 W ∧ w' = w)
    case first =>
      by_cases hb : b = true
      · subst hb
        go_wp2_with fail
        go_meet
        exact ⟨3, by omega, by omega, rfl, rfl⟩
      · have hb2 : b = false := by simpa using hb
        have hn : ¬ (n < 2 ∨ 8 < n) := fun h => hb (hbn.2 h)
        subst hb2
        clear hbn
        go_wp2_with fail
        go_meet
        exact ⟨n.toNat, by omega, by omega, by rw [Int.toNat_of_nonneg (by omega)], rfl⟩
    case rest =>
      obtain ⟨W, hW2, hW8, rfl, hwc⟩ := hcut
      rw [hwc]
      clear hwc hbn
      have hnew := new_any W w (by omega) (by omega)
      rw [Int.toNat_natCast] at hnew
      obtain ⟨hb, hhb⟩ : ∃ hb, hb = w.heap.size := ⟨_, rfl⟩
      rw [← hhb] at hnew
      have HHB := hid hhb
      clear hhb
      go_wp2_with fail
      refine hnew.mono ?_
      rintro e w1 ⟨rfl, hP1, hG1⟩
      have P1 := hid hP1
      have B1 := hid hG1.below
      have hkn := Ps.known_any w1
      clear hnew hP1 hG1
      go_wp2_with fail
      refine hkn.mono ?_
      rintro e w2 ⟨rfl, hB2⟩
      have P2 := hid (P1.out.below hB2)
      have B2 := hid (B1.out.trans (hB2.mono B1.out.size))
      clear hkn hB2
      obtain ⟨bp, hbp⟩ : ∃ bp, bp = w2.heap.size := ⟨_, rfl⟩
      obtain ⟨w3, hw3⟩ : ∃ w3, w3 = (w2.alloc (.cells #[.slice none 0 0, .slice none 0 0, .slice none 0 0, .slice none 0 0, .slice none 0 0, .slice none 0 0, .slice none 0 0, .slice none 0 0, .slice none 0 0, .slice none 0 0, .slice none 0 0, .slice none 0 0, .slice none 0 0, .slice none 0 0, .slice none 0 0, .slice none 0 0, .slice none 0 0, .slice none 0 0, .slice none 0 0, .slice none 0 0, .slice none 0 0, .slice none 0 0, .slice none 0 0, .slice none 0 0, .slice none 0 0, .slice none 0 0, .slice none 0 0, .slice none 0 0, .slice none 0 0, .slice none 0 0, .slice none 0 0, .slice none 0 0, .slice none 0 0, .slice none 0 0, .slice none 0 0, .slice none 0 0, .slice none 0 0, .slice none 0 0, .slice none 0 0, .slice none 0 0, .slice none 0 0, .slice none 0 0, .slice none 0 0, .slice none 0 0, .slice none 0 0, .slice none 0 0, .slice none 0 0, .slice none 0 0, .slice none 0 0, .slice none 0 0, .slice none 0 0, .slice none 0 0, .slice none 0 0, .slice none 0 0, .slice none 0 0, .slice none 0 0, .slice none 0 0, .slice none 0 0, .slice none 0 0, .slice none 0 0, .slice none 0 0, .slice none 0 0, .slice none 0 0, .slice none 0 0] 30)).alloc (.cells #[.int .i64 0, .int .i64 0, .int .i64 0, .int .i64 0, .int .i64 0, .int .i64 0, .int .i64 0, .int .i64 0, .int .i64 0, .int .i64 0, .int .i64 0, .int .i64 0, .int .i64 0, .int .i64 0, .int .i64 0, .int .i64 0, .int .i64 0, .int .i64 0, .int .i64 0, .int .i64 0, .int .i64 0, .int .i64 0, .int .i64 0, .int .i64 0, .int .i64 0, .int .i64 0, .int .i64 0, .int .i64 0, .int .i64 0, .int .i64 0, .int .i64 0, .int .i64 0, .int .i64 0, .int .i64 0, .int .i64 0, .int .i64 0, .int .i64 0, .int .i64 0, .int .i64 0, .int .i64 0, .int .i64 0, .int .i64 0, .int .i64 0, .int .i64 0, .int .i64 0, .int .i64 0, .int .i64 0, .int .i64 0, .int .i64 0, .int .i64 0, .int .i64 0, .int .i64 0, .int .i64 0, .int .i64 0, .int .i64 0, .int .i64 0, .int .i64 0, .int .i64 0, .int .i64 0, .int .i64 0, .int .i64 0, .int .i64 0, .int .i64 0, .int .i64 0] 31) := ⟨_, rfl⟩
      have S3 := hid (St.init P2.out (by rw [HHB.out]; exact Nat.le_refl _) B2.out hw3)
      rw [← hbp] at S3
      go_upto_region 8 with fail
      rw [← hw3, ← hbp]
      clear hw3 hbp
      have I3 := hid (Iv.init W hW8)
      go_wp2_with fail
      go_loopw [9, 10] (fun s9 s10 wr => ∃ (k t : Nat) (Q pu : Nat → List Th) (tk : Nat → Nat), k ≤ sc.length ∧ s10 = .int .i64 k ∧ s9 = .int .i64 t ∧ Hid (Iv W k Q pu tk t) ∧ Hid (St w (fun _ => False) hb bp (bp + 1) W k Q pu tk wr)) (fun _ s10 _ => sc.length - (RowKit.intOf s10).toNat)
      case atStart => exact ⟨0, 0, _, _, _, Nat.zero_le _, rfl, rfl, I3, S3⟩
      case round =>
        clear I3 S3
        obtain ⟨k, t, Q, pu, tk, hk, rfl, rfl, I, S⟩ := hrel
        by_cases hlt : k < sc.length
        · have hltz : (k : Int) < (sc.length : Int) := by omega
          have k0 : (0 : Int) ≤ (k : Int) := by omega
          obtain ⟨x, hx⟩ : ∃ x, sc[k]? = some x := ⟨sc[k], by rw [List.getElem?_eq_getElem]⟩
          obtain ⟨xa, xo, F, T, xv⟩ := x
          obtain ⟨b2, o2, c2, e2, z2, x0, x1, x2, x3, x4⟩ := ls_at (HL.out.below S.out.bel) hx
          dsimp only at x0 x1 x2 x3 x4
          simp only [Value.slice.injEq] at e2
          obtain ⟨rfl, -, rfl⟩ := e2
          clear hx
          obtain ⟨b1, hb1⟩ : ∃ b1, b1 = wr.heap.size := ⟨_, rfl⟩
          obtain ⟨W1, hW1⟩ : ∃ W1, W1 = wr.alloc (.cells #[.int .i64 xa, .int .i64 xo, .int .i64 F, .int .i64 T, .int .i64 xv] 28) := ⟨_, rfl⟩
          have G1 : Gr wr W1 := by rw [hW1]; exact (Gr.refl _).alloc _
          have X1 : Hid (W1.heap[b1]? = some (.cells #[.int .i64 xa, .int .i64 xo, .int .i64 F, .int .i64 T, .int .i64 xv] 28 (0, 0))) := by rw [hW1, hb1]; exact heap_new' _ _
          have S1 := hid (S.out.free G1.below)
          have F1 : Hid (wr.heap.size ≤ b1 ∧ b1 < W1.heap.size) := ⟨by omega, (Array.getElem?_eq_some_iff.1 X1.out).1⟩
          go_upto_region 13 with fail
          rw [← hW1, ← hb1]
          clear hW1 hb1 G1 x0 x1 x2 x3 x4 z2
          have hput := S1.out.put F T (xa, xo, F, T, xv) (by have := HLN.out; omega)
          obtain ⟨⟨q0, q1, q2, q3, q4⟩, -, q5⟩ := box_at (x := (xa, xo, F, T, xv)) X1.out
          dsimp only at q0 q1 q2 q3 q4
          have HPE : Hid (pe W F T = if Lnk W F T then 0 else 40) := rfl
          generalize pe W F T = pv at hput HPE
          go_wp2_with fail
          refine hput.mono ?_
          rintro e w4 ⟨rfl, S4⟩
          have X4 : Hid (w4.heap[b1]? = some (.cells #[.int .i64 xa, .int .i64 xo, .int .i64 F, .int .i64 T, .int .i64 xv] 28 (0, 0))) := (S4.out.2 b1 F1.out).trans X1.out
          clear q0 q1 q2 q3 q4 q5 hput
          obtain ⟨⟨r0, r1, r2, r3, r4⟩, -, r5⟩ := box_at (x := (xa, xo, F, T, xv)) X4.out
          dsimp only at r0 r1 r2 r3 r4
          go_upto_region 14 with fail
          go_cut [13] (fun s13 w' => ∃ b : Bool, s13 = .bool b ∧ (b = true ↔ Lnk W F T) ∧ w' = w4)
          case first =>
            by_cases f0 : 0 ≤ F
            · by_cases t0 : 0 ≤ T
              · by_cases fw : F < (W : Int)
                · by_cases tw : T < (W : Int)
                  · go_wp2_with fail
                    go_meet
                    exact ⟨F != T, rfl, ⟨fun h => ⟨⟨f0, fw⟩, ⟨t0, tw⟩, by simpa using h⟩, fun h => by simpa using h.2.2⟩, rfl⟩
                  · go_wp2_with fail
                    go_meet
                    exact ⟨false, rfl, ⟨fun h => (by cases h), fun h => absurd h.2.1.2 (by omega)⟩, rfl⟩
                · go_wp2_with fail
                  go_meet
                  exact ⟨false, rfl, ⟨fun h => (by cases h), fun h => absurd h.1.2 (by omega)⟩, rfl⟩
              · go_wp2_with fail
                go_meet
                exact ⟨false, rfl, ⟨fun h => (by cases h), fun h => absurd h.2.1.1 (by omega)⟩, rfl⟩
            · go_wp2_with fail
              go_meet
              exact ⟨false, rfl, ⟨fun h => (by cases h), fun h => absurd h.1.1 (by omega)⟩, rfl⟩
          case rest =>
            obtain ⟨lb, rfl, hlb, hwc⟩ := hcut
            rw [hwc]
            clear hwc
            by_cases hlk : Lnk W F T
            · have hlt' : lb = true := hlb.2 hlk
              have hpv : pv = 0 := by rw [HPE.out, if_pos hlk]
              subst hlt' hpv
              clear hlb HPE
              obtain ⟨⟨f0, fw⟩, ⟨t0, tw⟩, ft⟩ := id hlk
              obtain ⟨f, rfl⟩ : ∃ f : Nat, F = f := ⟨F.toNat, by omega⟩
              obtain ⟨u, rfl⟩ : ∃ u : Nat, T = u := ⟨T.toNat, by omega⟩
              have f8 : (f : Int) < 8 := by omega
              have u8 : (u : Int) < 8 := by omega
              have HLK := hid hlk
              clear hlk fw tw ft
              obtain ⟨A, hA⟩ : ∃ A, A = 8 * f + u := ⟨_, rfl⟩
              have HAZ : Hid (8 * (f : Int) + (u : Int) = (A : Int)) := by show _ = _; omega
              have hA64 : A < 64 := by omega
              have HAE := hid hA
              have I5 := hid (I.out.put hW8 HLK.out (xa, xo, (f : Int), (u : Int), xv))
              have HTL : Hid (t ≤ 64 * k) := by
                have h1 := I.out.n
                have h2 := tot_le hW8 S.out.ln_le
                show _ ≤ _
                omega
              have HTK : Hid (tk A ≤ (pu A).length ∧ (pu A).length ≤ k) := ⟨I.out.le A hA64, I.out.lim A hA64⟩
              rw [← hA] at I5
              clear hA
              go_upto_region 19 with fail
              rw [HAZ.out]
              have A0 : (0 : Int) ≤ (A : Int) := by omega
              have A1 : (A : Int) < 64 := by omega
              obtain ⟨vi, c0, hown, hvo, hbl, hfz, happ⟩ := S4.out.1.app hA64 (xa, xo, (f : Int), (u : Int), xv)
              have HOW : Hid (w4.drew.ownsRow 0 28 5 vi (pu A).length (fl ET (pu A))) := owns_below hown (Gr.refl _).drew.below
              have HAP := hid happ
              have f5 := hfz A
              have HF4 := hid S4.out.2
              have FB := F1.out
              clear happ hown hfz
              go_cut [103] (fun _ w' => Hid (St w (fun q => wr.heap.size ≤ q ∧ q < W1.heap.size) hb bp (bp + 1) W (k + 1) (ptn W Q f u (xa, xo, (f : Int), (u : Int), xv)) (upd pu A (pu A ++ [(xa, xo, (f : Int), (u : Int), xv)])) tk w' ∧ w'.heap[b1]? = w4.heap[b1]?))
              case first =>
                have hbg : ((pu A).length + 1) * 40 ≤ 140737488355328 ∧ (pu A).length + 1 ≤ maxLen := by
                  have h1 := HTK.out.2
                  have h2 := HLN.out
                  unfold maxLen
                  omega
                have HBG := hid hbg
                clear hbg
                go_region_law (refine step_app1 ET Try.underlying22 infoO rfl (by decide) rfl _ _ rfl 0 vi (pu A).length _ rfl HOW.out (xa, xo, (f : Int), (u : Int), xv) (by first | rfl | (go_simp; done)) HBG.out.1 HBG.out.2 (Nat.zero_le _) _ rfl _ ?_
                               intro g cap w5 ho5 hg5 hn5
                               have hk5 : Hid (Kp (fun k => vi.ownBlock = some k) w4 w5) := (Kp.of_gr (Gr.refl _).drew).trans (T := fun k => vi.ownBlock = some k) (Kp.grownBy hg5.out (fun _ h => h)) (fun _ _ h => h)
                               have d0 : w5.cell? ⟨bp, A, none⟩ = some vi := (hk5.out.cell hbl hvo).trans c0
                               have g0 : w5.frozen? ⟨bp, A, none⟩ = false := (frozen_of_block (hk5.out.block bp hbl hvo)).trans f5
                               have l5 : bp < w5.heap.size := Nat.lt_of_lt_of_le hbl hk5.out.size)
                all_goals (
                  go_wp2_with fail
                  go_meet
                  have HG := HAP.out (.slice (some ⟨g, 0, none⟩) ((pu A).length + 1) cap) w5 ho5.out hk5.out (fun k hk => by rw [← own_eq hk]; exact hn5.out)
                  exact ⟨HG.1, HG.2 b1 FB⟩)
              case rest =>
                have S6 := hid hcut.out.1
                have X6 : Hid (wc.heap[b1]? = some (.cells #[.int .i64 xa, .int .i64 xo, .int .i64 (f : Int), .int .i64 (u : Int), .int .i64 xv] 28 (0, 0))) := hcut.out.2.trans X4.out
                obtain ⟨⟨s0, s1, s2, s3, s4⟩, -, s5⟩ := box_at (x := (xa, xo, (f : Int), (u : Int), xv)) X6.out
                dsimp only at s0 s1 s2 s3 s4
                have htb : t ≤ 225179981362176 := by have := HTL.out; omega
                clear hcut r0 r1 r2 r3 r4 r5 c0 hvo hbl f5 FB HOW HAP HF4
                by_cases hm : xa.tmod 3 = 0
                · have hmb : (xa.tmod 3 == 0) = true := by simp [hm]
                  have hmn : (xa.tmod 3 != 0) = false := by simp [hm]
                  clear hm
                  have hlt6 : tk (8 * f + u) < (upd pu A (pu A ++ [(xa, xo, (f : Int), (u : Int), xv)]) (8 * f + u)).length := by
                    rw [← HAE.out, upd_self]
                    have := HTK.out.1
                    simp; omega
                  obtain ⟨y, hy, hlk6, hn6, hI6⟩ := I5.out.take hW8 HLK.out hlt6 (by rw [← HAE.out]; exact hA64)
                  rw [← HAE.out] at hy hI6
                  have htk := S6.out.take (f : Int) (u : Int) (by have := HLN.out; omega)
                  rw [hlk6] at htk
                  unfold lv at htk
                  have I6 := hid hI6
                  have HY := hid hy
                  clear hlt6 hlk6 hn6 hI6 hy
                  go_upto_region 22 with fail
                  go_wp2_with fail
                  refine htk.mono ?_
                  rintro e w7 ⟨rfl, S7⟩
                  clear htk s0 s1 s2 s3 s4 s5
                  obtain ⟨b7, hb7⟩ : ∃ b7, b7 = w7.heap.size := ⟨_, rfl⟩
                  obtain ⟨V, hV⟩ : ∃ V, V = w7.alloc (.cells #[.int .i64 y.1, .int .i64 y.2.1, .int .i64 y.2.2.1, .int .i64 y.2.2.2.1, .int .i64 y.2.2.2.2] 28) := ⟨_, rfl⟩
                  have GV : Gr w7 V := by rw [hV]; exact (Gr.refl _).alloc _
                  have XV : Hid (V.heap[b7]? = some (.cells #[.int .i64 y.1, .int .i64 y.2.1, .int .i64 y.2.2.1, .int .i64 y.2.2.2.1, .int .i64 y.2.2.2.2] 28 (0, 0))) := by rw [hV, hb7]; exact heap_new' _ _
                  have SV := hid (S7.out.1.below GV.below)
                  go_upto_region 23 with fail
                  rw [← hV, ← hb7]
                  clear hV hb7 GV
                  obtain ⟨⟨s0, s1, s2, s3, s4⟩, -, s5⟩ := box_at (x := y) XV.out
                  obtain ⟨p8, c8, e8, hl8, hbp8, e9, hbk8, f9⟩ := SV.out.look hA64
                  obtain ⟨b9, o9, c9, z9, l9, y0, y1, y2, y3, y4⟩ := ls_at hl8 HY.out
                  simp only [Value.slice.injEq] at z9
                  obtain ⟨rfl, -, rfl⟩ := z9
                  have hlt8 : ((tk A : Nat) : Int) < ((upd pu A (pu A ++ [(xa, xo, (f : Int), (u : Int), xv)]) A).length : Int) := by
                    have := (List.getElem?_eq_some_iff.1 HY.out).1
                    omega
                  have tk0 : (0 : Int) ≤ ((tk A : Nat) : Int) := by omega
                  have tkb : ((tk A : Nat) : Int) < 3518437208784 := by have := HTK.out; omega
                  generalize (upd pu A (pu A ++ [(xa, xo, (f : Int), (u : Int), xv)]) A).length = n8 at *
                  have heq := run_eqSame y
                  have HT8 : Hid (St w (fun q => wr.heap.size ≤ q ∧ q < W1.heap.size) hb bp (bp + 1) W (k + 1) (tkn W (ptn W Q f u (xa, xo, (f : Int), (u : Int), xv)) f u) (upd pu A (pu A ++ [(xa, xo, (f : Int), (u : Int), xv)])) tk V) := SV.out
                  clear hl8
                  obtain ⟨tA, htA⟩ : ∃ tA, tA = tk A := ⟨_, rfl⟩
                  have HTA := hid htA
                  rw [← htA] at e9 y0 y1 y2 y3 y4 hlt8 tk0 tkb
                  clear htA
                  go_quiet (fail)
                  have SD := hid (HT8.out.below ((Gr.refl V).drewN nq).below)
                  have e9 : (V.drewN nq).cell? ⟨bp + 1, A, none⟩ = some (.int .i64 (tA : Nat)) := e9
                  have f9 : (V.drewN nq).frozen? ⟨bp + 1, A, none⟩ = false := f9
                  have hbk8 : bp + 1 < (V.drewN nq).heap.size := hbk8
                  generalize V.drewN nq = VD at *
                  clear s0 s1 s2 s3 s4 s5 y0 y1 y2 y3 y4 e8 l9 hbp8 heq hlt8
                  have S9 := hid (SD.out.nof.tok hA64 (tA + 1))
                  have eT : ((tA + 1 : Nat) : Int) = (tA : Int) + 1 := by omega
                  rw [eT] at S9
                  clear eT
                  have htot := S9.out.total (by have := HLN.out; omega)
                  have hnn := I6.out.n
                  rw [← hnn, show t + 1 - 1 = t by omega] at htot
                  clear hnn
                  go_upto_region 26 with fail
                  go_wp2_with fail
                  refine htot.mono ?_
                  rintro e w10 ⟨rfl, S10⟩
                  clear htot e9 f9 hbk8
                  go_wp2_with fail
                  go_roundw
                  case rel =>
                    refine ⟨k + 1, t, _, _, _, hlt, by simp, by simp, ?_, S10⟩
                    have := I6.out
                    rw [← HTA.out, show t + 1 - 1 = t by omega] at this
                    exact this
                  case measure => simp [RowKit.intOf]; omega
                · have hmb : (xa.tmod 3 == 0) = false := by simp [hm]
                  have hmn : (xa.tmod 3 != 0) = true := by simp [hm]
                  clear hm
                  go_wp2_with fail
                  go_roundw
                  case rel => exact ⟨k + 1, t + 1, _, _, tk, hlt, by simp, by simp, I5, S6.out.nof⟩
                  case measure => simp [RowKit.intOf]; omega
            · have hlf : lb = false := by
                cases lb
                · rfl
                · exact absurd (hlb.1 rfl) hlk
              have hpv : pv = 40 := by rw [HPE.out, if_neg hlk]
              have HPT : Hid (ptn W Q F T (xa, xo, F, T, xv) = Q) := by show _ = _; unfold ptn; rw [if_neg hlk]
              subst hlf hpv
              clear hlb HPE hlk
              go_wp2_with fail
              go_roundw
              case rel => exact ⟨k + 1, t, Q, pu, tk, hlt, by simp, rfl, I.out.mono, by have := S4.out.1.nof; rw [HPT.out] at this; exact this⟩
              case measure => simp [RowKit.intOf]; omega
        · have hltz : ¬ (k : Int) < (sc.length : Int) := by omega
          have hkn : k = sc.length := by omega
          subst hkn
          clear hltz hlt
          go_wp2_with fail
          go_loopw [17] (fun s17 wr => ∃ (a t : Nat) (Q : Nat → List Th) (tk : Nat → Nat), a ≤ 64 ∧ s17 = .int .i64 a ∧ Hid (Iv W sc.length Q pu tk t ∧ ∀ i, i < a → (pu i).length ≤ tk i) ∧ Hid (St w (fun _ => False) hb bp (bp + 1) W sc.length Q pu tk wr)) (fun s17 _ => 64 - (RowKit.intOf s17).toNat)
          case atStart => exact ⟨0, t, Q, tk, Nat.zero_le _, rfl, ⟨I.out, fun i hi => absurd hi (Nat.not_lt_zero _)⟩, S⟩
          case round =>
            clear I S
            obtain ⟨a, t, Q, tk, ha, rfl, I, S⟩ := hrel
            by_cases hlt : a < 64
            · have hltz : (a : Int) < 64 := by omega
              have a0 : (0 : Int) ≤ (a : Int) := by omega
              go_wp2_with fail
              go_loopw [19] (fun _ wr => ∃ (t : Nat) (Q : Nat → List Th) (tk : Nat → Nat), Hid (Iv W sc.length Q pu tk t ∧ ∀ i, i < a → (pu i).length ≤ tk i) ∧ Hid (St w (fun _ => False) hb bp (bp + 1) W sc.length Q pu tk wr)) (fun _ wr => (pu a).length - (RowKit.intOf ((wr.cell? ⟨bp + 1, a, none⟩).getD undef)).toNat)
              case atStart => exact ⟨t, Q, tk, I, S⟩
              case round =>
                clear I S
                obtain ⟨t, Q, tk, I, S⟩ := hrel
                obtain ⟨p8, c8, e8, hl8, hbp8, e9, hbk8, f9⟩ := S.out.look hlt
                have HMS : Hid ((pu a).length - (RowKit.intOf ((wr.cell? ⟨bp + 1, a, none⟩).getD undef)).toNat = (pu a).length - tk a) := by rw [e9]; rfl
                have HLS := hid hl8
                have HLM : Hid (tk a ≤ (pu a).length ∧ (pu a).length ≤ sc.length) := ⟨I.out.1.le a hlt, I.out.1.lim a hlt⟩
                clear hl8
                by_cases hm : tk a < (pu a).length
                · have hmz : ((tk a : Nat) : Int) < ((pu a).length : Int) := by omega
                  obtain ⟨f, u, hlk, hfu⟩ := I.out.1.lnk a hlt (fun e => by rw [e] at hm; simp at hm)
                  obtain ⟨⟨f0, fw⟩, ⟨t0, tw⟩, ft⟩ := id hlk
                  have hq : (a : Int).tdiv 8 = (f : Int) := by rw [Int.tdiv_eq_ediv_of_nonneg a0]; omega
                  have hr : (a : Int).tmod 8 = (u : Int) := by rw [Int.tmod_eq_emod_of_nonneg a0]; omega
                  have f8 : (f : Int) < 8 := by omega
                  have u8 : (u : Int) < 8 := by omega
                  have HLK := hid hlk
                  obtain ⟨y, hy, hlk6, hn6, hI6⟩ := I.out.1.take hW8 hlk (by rw [← hfu]; exact hm) (by rw [← hfu]; exact hlt)
                  rw [← hfu] at hy hI6
                  have HD : Hid (∀ i, i < a → (pu i).length ≤ upd tk a (tk a + 1) i) := fun i hi => by
                    rw [upd_ne _ _ (by omega)]
                    exact I.out.2 i hi
                  have I6 := hid hI6
                  have HY := hid hy
                  clear hlk ft fw tw hn6 hI6 hy hfu
                  obtain ⟨tA, htA⟩ : ∃ tA, tA = tk a := ⟨_, rfl⟩
                  have HTA := hid htA
                  rw [← htA] at e9 hmz HMS HLM hm
                  clear htA
                  obtain ⟨n8, hn8⟩ : ∃ n8, n8 = (pu a).length := ⟨_, rfl⟩
                  have HN8 := hid hn8
                  rw [← hn8] at e8 hmz HMS HLM hm
                  clear hn8
                  have htb : (tA : Int) < 3518437208784 := by have := HLM.out; omega
                  go_wp2_with fail
                  go_quiet (fail)
                  have htk : Calls Try.prog 9 #[.pointer (some ⟨hb, 0, none⟩), .int .i64 (f : Int), .int .i64 (u : Int)] (wr.drewN nq) fun e w' => e = .returned (.tuple #[tv y, .int .i64 0]) ∧ Hid (St w (fun _ => False) hb bp (bp + 1) W sc.length (tkn W Q f u) pu tk w' ∧ ∀ q : Nat, False → w'.heap[q]? = (wr.drewN nq).heap[q]?) := by
                    have := (S.out.below ((Gr.refl wr).drewN nq).below).take (f : Int) (u : Int) (by have := HLN.out; omega)
                    rw [hlk6] at this
                    exact this
                  clear e8 hbp8 e9 hbk8 f9 hlk6
                  go_wp2_with fail
                  refine htk.mono ?_
                  rintro e w7 ⟨rfl, S7⟩
                  clear htk
                  obtain ⟨b7, hb7⟩ : ∃ b7, b7 = w7.heap.size := ⟨_, rfl⟩
                  obtain ⟨V, hV⟩ : ∃ V, V = w7.alloc (.cells #[.int .i64 y.1, .int .i64 y.2.1, .int .i64 y.2.2.1, .int .i64 y.2.2.2.1, .int .i64 y.2.2.2.2] 28) := ⟨_, rfl⟩
                  have GV : Gr w7 V := by rw [hV]; exact (Gr.refl _).alloc _
                  have XV : Hid (V.heap[b7]? = some (.cells #[.int .i64 y.1, .int .i64 y.2.1, .int .i64 y.2.2.1, .int .i64 y.2.2.2.1, .int .i64 y.2.2.2.2] 28 (0, 0))) := by rw [hV, hb7]; exact heap_new' _ _
                  have SV := hid (S7.out.1.below GV.below)
                  go_upto_region 34 with fail
                  rw [← hV, ← hb7]
                  clear hV hb7 GV
                  obtain ⟨⟨s0, s1, s2, s3, s4⟩, -, s5⟩ := box_at (x := y) XV.out
                  obtain ⟨p9, c9, e8, hl8, hbp8, e9, hbk8, f9⟩ := SV.out.look hlt
                  obtain ⟨b9, o9, c10, z9, l9, y0, y1, y2, y3, y4⟩ := ls_at hl8 HY.out
                  simp only [Value.slice.injEq] at z9
                  obtain ⟨rfl, -, rfl⟩ := z9
                  have heq := run_eqSame y
                  rw [← HTA.out] at e9 y0 y1 y2 y3 y4
                  rw [← HN8.out] at e8
                  have tk0 : (0 : Int) ≤ (tA : Int) := by omega
                  clear hl8
                  go_quiet (fail)
                  have SD := hid (SV.out.below ((Gr.refl V).drewN nq).below)
                  have e9 : (V.drewN nq).cell? ⟨bp + 1, a, none⟩ = some (.int .i64 (tA : Nat)) := e9
                  have f9 : (V.drewN nq).frozen? ⟨bp + 1, a, none⟩ = false := f9
                  have hbk8 : bp + 1 < (V.drewN nq).heap.size := hbk8
                  generalize V.drewN nq = VD at *
                  clear s0 s1 s2 s3 s4 s5 y0 y1 y2 y3 y4 e8 l9 hbp8 heq
                  have S9 := hid (SD.out.tok hlt (tA + 1))
                  have HC9 : Hid ((VD.setCell ⟨bp + 1, a, none⟩ (.int .i64 ((tA + 1 : Nat)))).cell? ⟨bp + 1, a, none⟩ = some (.int .i64 ((tA + 1 : Nat)))) := by
                    obtain ⟨_, _, _, _, _, h, _, _⟩ := S9.out.look hlt
                    rw [upd_self] at h
                    exact h
                  have eT : ((tA + 1 : Nat) : Int) = (tA : Int) + 1 := by omega
                  rw [eT] at S9 HC9
                  clear eT
                  go_wp2_with fail
                  generalize VD.setCell ⟨bp + 1, a, none⟩ (.int .i64 ((tA : Int) + 1)) = VE at *
                  go_roundw
                  case rel =>
                    refine ⟨t - 1, tkn W Q f u, upd tk a (tk a + 1), ⟨?_, HD.out⟩, ?_⟩
                    · exact I6.out
                    · have := S9.out
                      rw [HTA.out] at this
                      exact this
                  case measure =>
                    have h1 := HMS.out
                    have h2 := HC9.out
                    rw [h2, ← HN8.out, h1]
                    simp [RowKit.intOf]
                    omega
                · have hmz : ¬ ((tk a : Nat) : Int) < ((pu a).length : Int) := by omega
                  have HD : Hid (∀ i, i < a + 1 → (pu i).length ≤ tk i) := fun i hi => by
                    by_cases e : i = a
                    · rw [e]; omega
                    · exact I.out.2 i (by omega)
                  obtain ⟨tA, htA⟩ : ∃ tA, tA = tk a := ⟨_, rfl⟩
                  rw [← htA] at e9 hmz
                  clear htA hm HMS
                  obtain ⟨n8, hn8⟩ : ∃ n8, n8 = (pu a).length := ⟨_, rfl⟩
                  rw [← hn8] at e8 hmz
                  clear hn8
                  go_wp2_with fail
                  go_quiet (fail)
                  have SQ := hid (S.out.below ((Gr.refl wr).drewN nq).below)
                  generalize wr.drewN nq = w5 at *
                  go_wp2_with fail
                  go_roundw
                  case rel => exact ⟨a + 1, t, Q, tk, hlt, by simp, ⟨I.out.1, HD.out⟩, SQ⟩
                  case measure => simp [RowKit.intOf]; omega
            · have hltz : ¬ (a : Int) < 64 := by omega
              have ha64 : a = 64 := by omega
              subst ha64
              obtain ⟨hd1, hd2⟩ := I.out.1.done hW8 I.out.2
              have htot := S.out.total (by have := HLN.out; omega)
              rw [hd1] at htot
              have HD2 := hid hd2
              clear hd1 hd2
              go_wp2_with fail
              refine htot.mono ?_
              rintro e w10 ⟨rfl, S10⟩
              have hbs := S10.out.busy HD2.out
              go_wp2_with fail
              refine hbs.mono ?_
              rintro e w11 ⟨p11, c11, rfl, hB11⟩
              go_wp2
              go_ret
              exact ⟨rfl, hB11.out⟩
end Go.Proofs.Ytcdmgclkgojgaaa.Po
