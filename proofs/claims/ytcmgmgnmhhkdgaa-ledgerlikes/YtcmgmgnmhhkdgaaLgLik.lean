import Derived.Test.YtcmgmgnmhhkdgaaLgLk0
namespace Go.Proofs.Ytcmgmgnmhhkdgaa
open Go.RowKit Go.Sort Go.Maps Go.Shelf
open Tt (Tl addc addf byd byd_f)
attribute [local go_sem ↓] Go.wp_at_zero Go.wp_at_succ
theorem wrap_small {q : Nat} (h : q ≤ 100000) : wrap64 (q : Int) = (q : Int) := by unfold wrap64; omega
theorem half_small {n q : Nat} (h : q = n / 2) : Int.tdiv (n : Int) 2 = (q : Int) := by rw [h, Int.tdiv_eq_ediv_of_nonneg (by omega)]; omega
theorem num_ok {l : List Opx} (q : Nat) (h : l.length ≤ 300) (s : Sm) : smf (Go.Proofs.Ytcmgmgnmhhkdgaa.wr l) s = smf (Go.Proofs.Ytcmgmgnmhhkdgaa.wr (l.take q)) s + smf (Go.Proofs.Ytcmgmgnmhhkdgaa.wr (l.drop q)) s ∧ IntKind.i64.wrap (smf (Go.Proofs.Ytcmgmgnmhhkdgaa.wr (l.take q)) s + smf (Go.Proofs.Ytcmgmgnmhhkdgaa.wr (l.drop q)) s) = smf (Go.Proofs.Ytcmgmgnmhhkdgaa.wr l) s := by
  have h1 := wr_halves l q s
  have h2 := wr_bd h s
  refine ⟨h1, ?_⟩
  rw [← h1, IntKind.wrap_i64]
  omega
theorem small_ok {n : Nat} (h : n ≤ 300) : n * 32 ≤ 140737488355328 := by omega
theorem app_ok {m n : Nat} (h : m ≤ 300 ∧ n ≤ 300) : (m + n) * 32 ≤ 140737488355328 ∧ m + n ≤ maxLen := by unfold maxLen; omega
theorem max_ok {n : Nat} (h : n ≤ 300 + 3 * 300) : n < maxLen ∧ n + 1 < maxLen ∧ n + 1 + 1 < maxLen := by unfold maxLen; omega
theorem byt_ok {n : Nat} (h : n ≤ 300 + 3 * 300) : n * 40 ≤ 140737488355328 ∧ n * 32 ≤ 140737488355328 := by omega
theorem flen_ok {l : List Opx} (h : l.length ≤ 300) (i : Nat) : (Go.Proofs.Ytcmgmgnmhhkdgaa.wr l ++ tk (l.take i)).length ≤ 1300 := by
  have h1 := tk_len (l.take i)
  rw [List.length_take] at h1
  rw [List.length_append, wr_length]
  omega
/-- A ledger that was made behind a world and holds such sums. -/
def Mk (W0 W : World) (lb tb b n : Nat) (f : Sm → Int) : Prop := Lg W lb tb b n f ∧ (∀ k, Lo lb tb b k → W0.heap.size ≤ k)
theorem Lg.len {w : World} {lb tb b n : Nat} {f : Sm → Int} (h : Lg w lb tb b n f) {ks : List Sm} (hs : Sup f ks) : ks.length ≤ n := by
  obtain ⟨k0, h0, h1⟩ := h.sup
  rw [(hs.perm h0).length_eq]
  exact h1
set_option maxHeartbeats 4000000 in
set_option maxRecDepth 100000 in
theorem ledgerLikes_any (vs : Value) (sc : List Opx) (w : World) (hs : Ls EO w vs sc) (hcap : ∀ p n c, vs = .slice p n c → n ≤ c) (hn : sc.length * 48 ≤ 140737488355328) :
    Calls Try.prog 3 #[vs] w fun e w' => e = .returned (.bool true) ∧ Below w.heap.size w w' := by
  have hmx : Try.prog.follows .mixedOrders = true := by kernel_rfl
  obtain ⟨ps0, cs0, rfl⟩ := hs.form
  have hc0 : sc.length ≤ cs0 := hcap _ _ _ rfl
  have HS := hid hs
  clear hs hcap
  obtain ⟨l, hl⟩ : ∃ l, l = sc.take 300 := ⟨_, rfl⟩
  have hll : l.length ≤ 300 := by rw [hl, List.length_take]; omega
  go_enter Try.func3, Try.ntmps3
  go_upto_if 16 with fail
  go_cut [0] (fun s0 w' => ∃ p c, s0 = .slice p l.length c ∧ l.length ≤ c ∧ Hid (Ls EO w (.slice p l.length c) l) ∧ w' = w)
  case first =>
    by_cases h3 : 300 < sc.length
    · have h3z : (300 : Int) < (sc.length : Int) := by omega
      have hlen : l.length = 300 := by rw [hl, List.length_take]; omega
      have hls := HS.out
      obtain ⟨b1, o1, c1, e1, z1, x0⟩ := hls.atO (j := 0) (t := sc[0]) (by simp)
      simp only [Value.slice.injEq] at e1
      obtain ⟨rfl, -, rfl⟩ := e1
      have hcut := hls.cut (k := 300) (by omega) cs0
      rw [← hl] at hcut
      have HC : Hid (Ls EO w (.slice (some ⟨b1, o1, none⟩) l.length cs0) l) := by rw [hlen]; exact hcut
      clear hls hcut x0
      go_wp2_with fail
      go_meet
      exact ⟨_, cs0, by rw [hlen], by omega, HC.out, rfl⟩
    · have h3z : ¬ (300 : Int) < (sc.length : Int) := by omega
      have hle : sc = l := by rw [hl, List.take_of_length_le (by omega)]
      have HC : Hid (Ls EO w (.slice ps0 l.length cs0) l) := by rw [← hle]; exact HS.out
      have HE := hid hle
      clear hle hl
      go_wp2_with fail
      go_meet
      exact ⟨_, _, by rw [HE.out], by rw [← HE.out]; exact hc0, HC.out, rfl⟩
  case rest =>
    obtain ⟨p, c, rfl, hlc, HL, hwc⟩ := hcut
    rw [hwc]
    clear HS hl hc0 hwc hn
    have ht3 : l.take 300 = l := List.take_of_length_le hll
    have h48 : l.length * 48 ≤ 140737488355328 := by omega
    obtain ⟨q, hq⟩ : ∃ q, q = l.length / 2 := ⟨_, rfl⟩
    have hql : q ≤ l.length := by omega
    have hqcn : q ≤ c := by omega
    have hq3 : q ≤ 100000 := by omega
    have hdc : l.length - q ≤ c - q := by omega
    have hdv : c = q → l = [] := fun e => List.eq_nil_of_length_eq_zero (by omega)
    have hqz : Int.tdiv (l.length : Int) 2 = (q : Int) := half_small hq
    have hq0 : (0 : Int) ≤ (q : Int) := by omega
    have hqc : (q : Int) ≤ (c : Int) := by omega
    have hqc2 : (q : Int) ≤ (l.length : Int) := by omega
    have hlcz : (l.length : Int) ≤ (c : Int) := by omega
    have h48a : (l.take q).length * 48 ≤ 140737488355328 := by rw [List.length_take]; omega
    have h48b : (l.drop q).length * 48 ≤ 140737488355328 := by rw [List.length_drop]; omega
    have h30a : (l.take q).take 300 = l.take q := List.take_of_length_le (by rw [List.length_take]; omega)
    have h30b : (l.drop q).take 300 = l.drop q := List.take_of_length_le (by rw [List.length_drop]; omega)
    have hq00 : l = [] → q = 0 := fun e => by rw [hq, e]; rfl
    clear hq
    have hqw : wrap64 (q : Int) = (q : Int) := wrap_small hq3
    have FCT := hid (And.intro hql (And.intro hqcn (And.intro hdc (And.intro hdv (And.intro h48a (And.intro h48b (And.intro h30a (And.intro h30b hq00))))))))
    clear hql hqcn hdc hdv h48a h48b h30a h30b hq00 hq3
    have hkn := known_any w
    go_wp2_with fail
    refine hkn.mono ?_
    rintro e w1 ⟨rfl, hb1⟩
    clear hkn
    have B1 := hid hb1
    have hfa := filled_any (.slice p l.length c) l false w1 (HL.out.below hb1) (fun _ _ _ e => by cases e; exact hlc) h48
    rw [ht3] at hfa
    clear hb1
    go_wp2_with fail
    refine hfa.mono ?_
    rintro e w2 ⟨la, ta, ba, rfl, hoa, hga, hb2⟩
    have A2 : Hid (Mk w1 w2 la ta ba l.length (smf (Go.Proofs.Ytcmgmgnmhhkdgaa.wr l))) := ⟨hga, hoa⟩
    have B2 := hid (B1.out.trans (hb2.mono B1.out.size))
    have hz12 := hb2.size
    have hfb := filled_any (.slice p l.length c) l true w2 (HL.out.below B2.out) (fun _ _ _ e => by cases e; exact hlc) h48
    rw [ht3] at hfb
    clear hfa hoa hga hb2
    go_wp2_with fail
    refine hfb.mono ?_
    rintro e w3 ⟨lbb, tbb, bbb, rfl, hob, hgb, hb3⟩
    have A3 : Hid (Mk w1 w3 la ta ba l.length (smf (Go.Proofs.Ytcmgmgnmhhkdgaa.wr l))) := ⟨A2.out.1.below hb3, A2.out.2⟩
    have C3 : Hid (Mk w1 w3 lbb tbb bbb l.length (smf (Go.Proofs.Ytcmgmgnmhhkdgaa.wr l))) := ⟨by have h := hgb; rw [show smf (Go.Proofs.Ytcmgmgnmhhkdgaa.wr (ord true l)) = smf (Go.Proofs.Ytcmgmgnmhhkdgaa.wr l) from funext (smf_ord true l)] at h; exact h, fun k hk => Nat.le_trans hz12 (hob k hk)⟩
    have B3 := hid (B2.out.trans (hb3.mono B2.out.size))
    have hz3 := hb3.size
    clear hfb hob hgb hb3 A2
    go_upto_region 7 with fail
    go_cut [5] (fun s5 w' => ∃ lc tc bc, s5 = lp lc ∧ Hid (Lg w' lc tc bc (l.take q).length (smf (Go.Proofs.Ytcmgmgnmhhkdgaa.wr (l.take q)))) ∧ Hid (Below w3.heap.size w3 w'))
    case first =>
      rcases HL.out with ⟨hn0, hv⟩ | ⟨b1, o1, c1, hv, hb1, hli⟩
      · subst hn0
        simp only [Value.slice.injEq] at hv
        obtain ⟨rfl, -, rfl⟩ := hv
        obtain rfl := FCT.out.2.2.2.2.2.2.2.2 rfl
        have hfc := filled_any (.slice none 0 0) [] false w3 (Ls.nil _) (fun _ _ _ e => by cases e; exact Nat.le_refl _) (by simp)
        go_wp2_with fail
        refine hfc.mono ?_
        rintro e w4 ⟨lc, tc, bc, rfl, hoc, hgc, hb4⟩
        go_wp2_with fail
        go_meet
        exact ⟨lc, tc, bc, rfl, hgc, hb4⟩
      · simp only [Value.slice.injEq] at hv
        obtain ⟨rfl, -, rfl⟩ := hv
        have hcut := (HL.out.below B3.out).cut (k := q) FCT.out.1 c
        have hfc := filled_any (.slice (some ⟨b1, o1, none⟩) q c) (l.take q) false w3 hcut (fun _ _ _ e => by cases e; exact FCT.out.2.1) FCT.out.2.2.2.2.1
        rw [FCT.out.2.2.2.2.2.2.1] at hfc
        clear hcut hli
        go_wp2_with fail
        refine hfc.mono ?_
        rintro e w4 ⟨lc, tc, bc, rfl, hoc, hgc, hb4⟩
        go_wp2_with fail
        go_meet
        exact ⟨lc, tc, bc, rfl, hgc, hb4⟩
    case rest =>
      obtain ⟨lc, tc, bc, rfl, HC4, HB4⟩ := hcut
      obtain ⟨w4, hw4⟩ : ∃ W, W = wc := ⟨_, rfl⟩
      rw [← hw4] at HC4 HB4 ⊢
      clear hw4
      have A4 : Hid (Mk w1 w4 la ta ba l.length (smf (Go.Proofs.Ytcmgmgnmhhkdgaa.wr l))) := ⟨A3.out.1.below HB4.out, A3.out.2⟩
      have C4 : Hid (Mk w1 w4 lbb tbb bbb l.length (smf (Go.Proofs.Ytcmgmgnmhhkdgaa.wr l))) := ⟨C3.out.1.below HB4.out, C3.out.2⟩
      have B4 := hid (B3.out.trans (HB4.out.mono B3.out.size))
      have hz4 := HB4.out.size
      clear HB4 A3 C3
      go_upto_region 8 with fail
      go_cut [6] (fun s6 w' => ∃ ld td bd, s6 = lp ld ∧ Hid (Lg w' ld td bd (l.drop q).length (smf (Go.Proofs.Ytcmgmgnmhhkdgaa.wr (l.drop q)))) ∧ Hid (Below w4.heap.size w4 w'))
      case first =>
        rcases HL.out with ⟨hn0, hv⟩ | ⟨b1, o1, c1, hv, hb1, hli⟩
        · subst hn0
          simp only [Value.slice.injEq] at hv
          obtain ⟨rfl, -, rfl⟩ := hv
          obtain rfl := FCT.out.2.2.2.2.2.2.2.2 rfl
          have hfc := filled_any (.slice none 0 0) [] false w4 (Ls.nil _) (fun _ _ _ e => by cases e; exact Nat.le_refl _) (by simp)
          go_wp2_with fail
          refine hfc.mono ?_
          rintro e w5 ⟨ld, td, bd, rfl, hoc, hgc, hb5⟩
          go_wp2_with fail
          go_meet
          exact ⟨ld, td, bd, rfl, hgc, hb5⟩
        · simp only [Value.slice.injEq] at hv
          obtain ⟨rfl, -, rfl⟩ := hv
          have hfin : ∀ (o2 c2 : Nat), Ls EO w4 (.slice (some ⟨b1, o2, none⟩) (l.length - q) c2) (l.drop q) → l.length - q ≤ c2 → Calls Try.prog 7 #[.slice (some ⟨b1, o2, none⟩) (l.length - q) c2, .bool false] w4 fun e w' => ∃ lb tb b, e = .returned (lp lb) ∧ (∀ k, Lo lb tb b k → w4.heap.size ≤ k) ∧ Lg w' lb tb b (l.drop q).length (smf (Go.Proofs.Ytcmgmgnmhhkdgaa.wr (l.drop q))) ∧ Below w4.heap.size w4 w' := fun o2 c2 h1 h2 => by
            have hfc := filled_any (.slice (some ⟨b1, o2, none⟩) (l.length - q) c2) (l.drop q) false w4 h1 (fun _ _ _ e => by cases e; exact h2) FCT.out.2.2.2.2.2.1
            rw [FCT.out.2.2.2.2.2.2.2.1] at hfc
            exact hfc
          by_cases hl0 : l = []
          · subst hl0
            obtain rfl := FCT.out.2.2.2.2.2.2.2.2 rfl
            have hfc := filled_any (.slice (some ⟨b1, o1, none⟩) 0 c) [] false w4 (HL.out.below B4.out) (fun _ _ _ e => by cases e; exact Nat.zero_le _) (by simp)
            clear hfin hli
            go_wp2_with fail
            refine hfc.mono ?_
            rintro e w5 ⟨ld, td, bd, rfl, hoc, hgc, hb5⟩
            go_wp2_with fail
            go_meet
            exact ⟨ld, td, bd, rfl, hgc, hb5⟩
          · have hcq : ¬ c = q := fun e => hl0 (FCT.out.2.2.2.1 e)
            clear hl0
            have hfc := hfin (o1 + q * 6) (c - q) ((HL.out.below B4.out).tail (k := q) (c - q)) FCT.out.2.2.1
            clear hfin hli
            go_wp2_with fail
            refine hfc.mono ?_
            rintro e w5 ⟨ld, td, bd, rfl, hoc, hgc, hb5⟩
            go_wp2_with fail
            go_meet
            exact ⟨ld, td, bd, rfl, hgc, hb5⟩
      case rest =>
        obtain ⟨ld, td, bd, rfl, HD5, HB5⟩ := hcut
        obtain ⟨w5, hw5⟩ : ∃ W, W = wc := ⟨_, rfl⟩
        rw [← hw5] at HD5 HB5 ⊢
        clear hw5
        have A5 : Hid (Mk w1 w5 la ta ba l.length (smf (Go.Proofs.Ytcmgmgnmhhkdgaa.wr l))) := ⟨A4.out.1.below HB5.out, A4.out.2⟩
        have C5 : Hid (Mk w1 w5 lbb tbb bbb l.length (smf (Go.Proofs.Ytcmgmgnmhhkdgaa.wr l))) := ⟨C4.out.1.below HB5.out, C4.out.2⟩
        have D5 := hid (HC4.out.below HB5.out)
        have B5 := hid (B4.out.trans (HB5.out.mono B4.out.size))
        clear HB5 A4 C4 HC4 hqz hq0 hqc hqc2 hqw
        have hca := changes_any w5 A5.out.1 (by omega)
        go_wp2_with fail
        refine hca.mono ?_
        rintro e w6 ⟨v6, ks6, hs6, rfl, ho6, -, hb6⟩
        have hcb := changes_any w6 (C5.out.1.below hb6) (by omega)
        have LA6 := hid (owns_ls (E := EC) ho6)
        have B6 := hid hb6
        have S6 := hid hs6
        clear hca hs6 ho6 hb6
        go_wp2_with fail
        refine hcb.mono ?_
        rintro e w7 ⟨v7, ks7, hs7, rfl, ho7, -, hb7⟩
        have hsm := same_any w7 (LA6.out.below hb7) (by rw [chs_sup S6.out hs7]; exact owns_ls (E := EC) ho7) (by rw [chs_length]; have := A5.out.1.len S6.out; omega)
        have B7 := hid (B6.out.trans (hb7.mono B6.out.size))
        clear hcb hs7 ho7 hb7 LA6
        go_wp2_with fail
        refine hsm.mono ?_
        rintro e w8 ⟨rfl, hg8⟩
        have B8 := hid (B7.out.trans (hg8.below.mono B7.out.size))
        clear hsm hg8 B6 B7 S6
        have A8 := hid (A5.out.1.below B8.out)
        have hka := lkeys_any w8 A8.out (by omega)
        go_wp2_with fail
        refine hka.mono ?_
        rintro e w9 ⟨v9, ks9, hs9, rfl, ho9, -, hb9⟩
        obtain ⟨p9, c9, rfl⟩ := owns_form ho9
        obtain ⟨K, hK⟩ : ∃ K, K = stS ks9 := ⟨_, rfl⟩
        rw [← hK] at ho9 ⊢
        have hKl : K.length ≤ 300 := by have := A8.out.len hs9; rw [hK, srtBy_length]; omega
        have KM : Hid (∀ s ∈ K, smf (Go.Proofs.Ytcmgmgnmhhkdgaa.wr l) s ≠ 0) := fun s hs => by rw [hK] at hs; exact (hs9.2 s).1 (srtBy_mem.1 hs)
        have LK := hid (owns_ls (E := ES) ho9)
        have B9 := hid (B8.out.trans (hb9.mono B8.out.size))
        have A9 := hid (A8.out.below hb9)
        have C9 : Hid (Lg w9 lc tc bc (l.take q).length (smf (Go.Proofs.Ytcmgmgnmhhkdgaa.wr (l.take q)))) := (D5.out.below B9.out)
        have D9 : Hid (Lg w9 ld td bd (l.drop q).length (smf (Go.Proofs.Ytcmgmgnmhhkdgaa.wr (l.drop q)))) := (HD5.out.below B9.out)
        have BW9 := hid (B5.out.trans (B9.out.mono B5.out.size))
        have NUM := hid (num_ok q hll)
        have OA : Hid (w.heap.size ≤ ba) := Nat.le_trans B1.out.size (A5.out.2 ba (Or.inr (Or.inr rfl)))
        clear hka hK hs9 ho9 hb9 B8 A8 A5 C5 D5 HD5 B5
        go_wp2_with fail
        go_loopw [62] (fun s62 wr => ∃ k : Nat, k ≤ K.length ∧ s62 = .int .i64 (k : Nat) ∧ Gr w9 wr) (fun s62 _ => K.length - (RowKit.intOf s62).toNat)
        case atStart => exact ⟨0, Nat.zero_le _, rfl, Gr.refl _⟩
        case round =>
          obtain ⟨k, hk, rfl, hgr⟩ := hrel
          by_cases hlt : k < K.length
          · have hltz : (k : Int) < (K.length : Int) := by omega
            have hk0 : (0 : Int) ≤ (k : Int) := by omega
            obtain ⟨s, hs⟩ : ∃ s, K[k]? = some s := ⟨K[k], by simp⟩
            obtain ⟨b1, o1, c1, e1, z1, x0, x1, x2, x3⟩ := (LK.out.below hgr.below).atS hs
            simp only [Value.slice.injEq] at e1
            obtain ⟨rfl, -, rfl⟩ := e1
            go_upto_region 14 with fail
            obtain ⟨W5, hW5⟩ : ∃ W, W = Tt.bx s wr := ⟨_, rfl⟩
            have g5 : Gr wr W5 := by rw [hW5]; exact (Gr.refl _).alloc _
            have z5 : wr.heap.size < W5.heap.size := by rw [hW5]; simp
            obtain ⟨a0, a1, a2, a3⟩ : W5.cell? ⟨wr.heap.size, 0, none⟩ = some (.int .i64 s.1.1) ∧ W5.cell? ⟨wr.heap.size, 1, none⟩ = some (.int .u64 s.1.2.1) ∧ W5.cell? ⟨wr.heap.size, 2, none⟩ = some (.int .u64 s.1.2.2.1) ∧ W5.cell? ⟨wr.heap.size, 3, none⟩ = some (.int .u64 s.1.2.2.2) := by rw [hW5]; exact Tt.bx_cells s wr
            rw [show wr.alloc (.cells #[.int .i64 s.1.1, .int .u64 s.1.2.1, .int .u64 s.1.2.2.1, .int .u64 s.1.2.2.2] 35) = W5 from hW5.symm]
            have GG := hid (hgr.trans g5)
            have hga : ∀ W, Gr W5 W → Calls Try.prog 11 #[lp la, mv s] W fun e w' => e = .returned (.int .i64 (smf (Go.Proofs.Ytcmgmgnmhhkdgaa.wr l) s)) ∧ Gr W w' := fun W h => get_any s W (A9.out.gr (GG.out.trans h))
            have hgc : ∀ W, Gr W5 W → Calls Try.prog 11 #[lp lc, mv s] W fun e w' => e = .returned (.int .i64 (smf (Go.Proofs.Ytcmgmgnmhhkdgaa.wr (l.take q)) s)) ∧ Gr W w' := fun W h => get_any s W (C9.out.gr (GG.out.trans h))
            have hgd : ∀ W, Gr W5 W → Calls Try.prog 11 #[lp ld, mv s] W fun e w' => e = .returned (.int .i64 (smf (Go.Proofs.Ytcmgmgnmhhkdgaa.wr (l.drop q)) s)) ∧ Gr W w' := fun W h => get_any s W (D9.out.gr (GG.out.trans h))
            have hw64 := (NUM.out s).2
            have hA0 : ((smf (Go.Proofs.Ytcmgmgnmhhkdgaa.wr l) s) == 0) = false := by have h := KM.out s (List.mem_of_getElem? hs); simpa using h
            generalize smf (Go.Proofs.Ytcmgmgnmhhkdgaa.wr l) s = A at *
            generalize smf (Go.Proofs.Ytcmgmgnmhhkdgaa.wr (l.take q)) s = C at *
            generalize smf (Go.Proofs.Ytcmgmgnmhhkdgaa.wr (l.drop q)) s = E at *
            have hAA : (A != A) = false := by simp
            clear hs x0 x1 x2 x3 z1 g5 hW5 hgr
            have hS0 : Gr W5 W5.drew := (Gr.refl W5).drew
            refine wp_regionD (S := fun W => Gr W5 W) (D := []) hmx ?_
            refine' wpAnyD_take (i := 0) (oi := { dst := some 66, op := Go.Op.move (Go.Operand.tmp 3), type := 24, pos := "outright.go:46", after := #[], guard := none }) (v := _) rfl (by kernel_rfl) (by kernel_rfl) (by kernel_rfl) (fun _ _ _ h => h) (by kernel_rfl) (Or.inl ⟨by rfl, ?hy1⟩) hS0 ?rest1
            case hy1 => (intro W hSw; go_simp; try (with_reducible rfl))
            try simp only [Act.put, List.setIfInBounds_toArray, List.set_cons_zero, List.set_cons_succ]
            refine' wpAnyD_take (i := 1) (oi := { dst := some 67, op := Go.Op.load 35 (Go.Operand.tmp 8), type := 35, pos := "outright.go:46", after := #[], guard := none }) (v := _) rfl (by kernel_rfl) (by kernel_rfl) (by kernel_rfl) (fun _ _ _ h => h) (by kernel_rfl) (Or.inl ⟨by rfl, ?hy2⟩) hS0 ?rest2
            case hy2 => (intro W hSw; have h0 := (hSw.cell z5).trans a0; have h1 := (hSw.cell z5).trans a1; have h2 := (hSw.cell z5).trans a2; have h3 := (hSw.cell z5).trans a3; go_simp; try (with_reducible rfl))
            try simp only [Act.put, List.setIfInBounds_toArray, List.set_cons_zero, List.set_cons_succ]
            refine' wpAnyD_take (i := 3) (oi := { dst := some 69, op := Go.Op.move (Go.Operand.tmp 5), type := 24, pos := "outright.go:46", after := #[], guard := none }) (v := _) rfl (by kernel_rfl) (by kernel_rfl) (by kernel_rfl) (fun _ _ _ h => h) (by kernel_rfl) (Or.inl ⟨by rfl, ?hy3⟩) hS0 ?rest3
            case hy3 => (intro W hSw; go_simp; try (with_reducible rfl))
            try simp only [Act.put, List.setIfInBounds_toArray, List.set_cons_zero, List.set_cons_succ]
            refine' wpAnyD_take (i := 4) (oi := { dst := some 70, op := Go.Op.load 35 (Go.Operand.tmp 8), type := 35, pos := "outright.go:46", after := #[], guard := none }) (v := _) rfl (by kernel_rfl) (by kernel_rfl) (by kernel_rfl) (fun _ _ _ h => h) (by kernel_rfl) (Or.inl ⟨by rfl, ?hy4⟩) hS0 ?rest4
            case hy4 => (intro W hSw; have h0 := (hSw.cell z5).trans a0; have h1 := (hSw.cell z5).trans a1; have h2 := (hSw.cell z5).trans a2; have h3 := (hSw.cell z5).trans a3; go_simp; try (with_reducible rfl))
            try simp only [Act.put, List.setIfInBounds_toArray, List.set_cons_zero, List.set_cons_succ]
            refine' wpAnyD_take (i := 6) (oi := { dst := some 72, op := Go.Op.move (Go.Operand.tmp 6), type := 24, pos := "outright.go:46", after := #[], guard := none }) (v := _) rfl (by kernel_rfl) (by kernel_rfl) (by kernel_rfl) (fun _ _ _ h => h) (by kernel_rfl) (Or.inl ⟨by rfl, ?hy5⟩) hS0 ?rest5
            case hy5 => (intro W hSw; go_simp; try (with_reducible rfl))
            try simp only [Act.put, List.setIfInBounds_toArray, List.set_cons_zero, List.set_cons_succ]
            refine' wpAnyD_take (i := 7) (oi := { dst := some 73, op := Go.Op.load 35 (Go.Operand.tmp 8), type := 35, pos := "outright.go:46", after := #[], guard := none }) (v := _) rfl (by kernel_rfl) (by kernel_rfl) (by kernel_rfl) (fun _ _ _ h => h) (by kernel_rfl) (Or.inl ⟨by rfl, ?hy6⟩) hS0 ?rest6
            case hy6 => (intro W hSw; have h0 := (hSw.cell z5).trans a0; have h1 := (hSw.cell z5).trans a1; have h2 := (hSw.cell z5).trans a2; have h3 := (hSw.cell z5).trans a3; go_simp; try (with_reducible rfl))
            try simp only [Act.put, List.setIfInBounds_toArray, List.set_cons_zero, List.set_cons_succ]
            refine wpAnyD_one (i := 2) (o := { dst := some 68, op := Go.Op.call { callee := Go.Callee.value (Go.Operand.func 11), args := #[Go.Operand.tmp 66, Go.Operand.tmp 67], argTypes := #[24, 35] }, type := 2, pos := "outright.go:46", after := #[{ on := 0, ground := Go.Ground.data }, { on := 1, ground := Go.Ground.data }], guard := none }) (by kernel_rfl) rfl (fun K hK => ?_)
            go_simp
            refine (hga _ hS0).mono ?_
            rintro e w2a ⟨rfl, g2a⟩
            have hS2a := (hS0).trans g2a
            clear g2a
            go_wp2_with fail
            refine hK.out _ _ (fun hD => hS2a) ?_
            clear hK K
            try simp only [Act.put, List.setIfInBounds_toArray, List.set_cons_zero, List.set_cons_succ]
            refine wpAnyD_one (i := 5) (o := { dst := some 71, op := Go.Op.call { callee := Go.Callee.value (Go.Operand.func 11), args := #[Go.Operand.tmp 69, Go.Operand.tmp 70], argTypes := #[24, 35] }, type := 2, pos := "outright.go:46", after := #[{ on := 3, ground := Go.Ground.data }, { on := 4, ground := Go.Ground.data }, { on := 2, ground := Go.Ground.chain }], guard := none }) (by kernel_rfl) rfl (fun K hK => ?_)
            go_simp
            refine (hgc _ hS2a).mono ?_
            rintro e w5a ⟨rfl, g5a⟩
            have hS5a := (hS2a).trans g5a
            clear g5a
            go_wp2_with fail
            refine hK.out _ _ (fun hD => hS5a) ?_
            clear hK K
            try simp only [Act.put, List.setIfInBounds_toArray, List.set_cons_zero, List.set_cons_succ]
            refine wpAnyD_one (i := 8) (o := { dst := some 74, op := Go.Op.call { callee := Go.Callee.value (Go.Operand.func 11), args := #[Go.Operand.tmp 72, Go.Operand.tmp 73], argTypes := #[24, 35] }, type := 2, pos := "outright.go:46", after := #[{ on := 6, ground := Go.Ground.data }, { on := 7, ground := Go.Ground.data }, { on := 5, ground := Go.Ground.chain }], guard := none }) (by kernel_rfl) rfl (fun K hK => ?_)
            go_simp
            refine (hgd _ hS5a).mono ?_
            rintro e w8a ⟨rfl, g8a⟩
            have hS8a := (hS5a).trans g8a
            clear g8a
            go_wp2_with fail
            refine hK.out _ _ (fun hD => hS8a) ?_
            clear hK K
            try simp only [Act.put, List.setIfInBounds_toArray, List.set_cons_zero, List.set_cons_succ]
            refine' wpAnyD_take (i := 9) (oi := { dst := some 75, op := Go.Op.binOp Go.BinOp.add 2 (Go.Operand.tmp 71) (Go.Operand.tmp 74) 2, type := 2, pos := "outright.go:46", after := #[{ on := 5, ground := Go.Ground.data }, { on := 8, ground := Go.Ground.data }], guard := none }) (v := _) rfl (by kernel_rfl) (by kernel_rfl) (by kernel_rfl) (fun _ _ _ h => h) (by kernel_rfl) (Or.inl ⟨by rfl, ?hy10⟩) hS8a ?rest10
            case hy10 => (intro W hSw; go_simp; try (with_reducible rfl))
            try simp only [Act.put, List.setIfInBounds_toArray, List.set_cons_zero, List.set_cons_succ]
            refine' wpAnyD_take (i := 10) (oi := { dst := some 76, op := Go.Op.binOp Go.BinOp.neq 2 (Go.Operand.tmp 68) (Go.Operand.tmp 75) 2, type := 4, pos := "outright.go:46", after := #[{ on := 2, ground := Go.Ground.data }, { on := 9, ground := Go.Ground.data }], guard := none }) (v := _) rfl (by kernel_rfl) (by kernel_rfl) (by kernel_rfl) (fun _ _ _ h => h) (by kernel_rfl) (Or.inl ⟨by rfl, ?hy11⟩) hS8a ?rest11
            case hy11 => (intro W hSw; go_simp; try (with_reducible rfl))
            try simp only [Act.put, List.setIfInBounds_toArray, List.set_cons_zero, List.set_cons_succ]
            refine' wpAnyD_take (i := 11) (oi := { dst := some 77, op := Go.Op.move (Go.Operand.tmp 76), type := 4, pos := "outright.go:46", after := #[{ on := 10, ground := Go.Ground.data }, { on := 8, ground := Go.Ground.chain }], guard := none }) (v := _) rfl (by kernel_rfl) (by kernel_rfl) (by kernel_rfl) (fun _ _ _ h => h) (by kernel_rfl) (Or.inl ⟨by rfl, ?hy12⟩) hS8a ?rest12
            case hy12 => (intro W hSw; go_simp; try (with_reducible rfl))
            try simp only [Act.put, List.setIfInBounds_toArray, List.set_cons_zero, List.set_cons_succ]
            refine' wpAnyD_take (i := 12) (oi := { dst := some 78, op := Go.Op.move (Go.Operand.tmp 3), type := 24, pos := "outright.go:46", after := #[{ on := 11, ground := Go.Ground.guard }], guard := some (11, false) }) (v := _) rfl (by kernel_rfl) (by kernel_rfl) (by kernel_rfl) (fun _ _ _ h => h) (by kernel_rfl) (Or.inl ⟨by rfl, ?hy13⟩) hS8a ?rest13
            case hy13 => (intro W hSw; go_simp; try (with_reducible rfl))
            try simp only [Act.put, List.setIfInBounds_toArray, List.set_cons_zero, List.set_cons_succ]
            refine' wpAnyD_take (i := 13) (oi := { dst := some 79, op := Go.Op.load 35 (Go.Operand.tmp 8), type := 35, pos := "outright.go:46", after := #[{ on := 11, ground := Go.Ground.guard }], guard := some (11, false) }) (v := _) rfl (by kernel_rfl) (by kernel_rfl) (by kernel_rfl) (fun _ _ _ h => h) (by kernel_rfl) (Or.inl ⟨by rfl, ?hy14⟩) hS8a ?rest14
            case hy14 => (intro W hSw; have h0 := (hSw.cell z5).trans a0; have h1 := (hSw.cell z5).trans a1; have h2 := (hSw.cell z5).trans a2; have h3 := (hSw.cell z5).trans a3; go_simp; try (with_reducible rfl))
            try simp only [Act.put, List.setIfInBounds_toArray, List.set_cons_zero, List.set_cons_succ]
            refine wpAnyD_one (i := 14) (o := { dst := some 80, op := Go.Op.call { callee := Go.Callee.value (Go.Operand.func 11), args := #[Go.Operand.tmp 78, Go.Operand.tmp 79], argTypes := #[24, 35] }, type := 2, pos := "outright.go:46", after := #[{ on := 12, ground := Go.Ground.data }, { on := 13, ground := Go.Ground.data }, { on := 11, ground := Go.Ground.chain }, { on := 11, ground := Go.Ground.guard }], guard := some (11, false) }) (by kernel_rfl) rfl (fun K hK => ?_)
            go_simp
            refine (hga _ hS8a).mono ?_
            rintro e w14a ⟨rfl, g14a⟩
            have hS14a := (hS8a).trans g14a
            clear g14a
            go_wp2_with fail
            refine hK.out _ _ (fun hD => hS14a) ?_
            clear hK K
            try simp only [Act.put, List.setIfInBounds_toArray, List.set_cons_zero, List.set_cons_succ]
            refine' wpAnyD_take (i := 15) (oi := { dst := some 81, op := Go.Op.binOp Go.BinOp.eql 2 (Go.Operand.tmp 80) (Go.Operand.const (Go.Value.int Go.IntKind.i64 0)) 2, type := 4, pos := "outright.go:46", after := #[{ on := 14, ground := Go.Ground.data }, { on := 11, ground := Go.Ground.guard }], guard := some (11, false) }) (v := _) rfl (by kernel_rfl) (by kernel_rfl) (by kernel_rfl) (fun _ _ _ h => h) (by kernel_rfl) (Or.inl ⟨by rfl, ?hy16⟩) hS14a ?rest16
            case hy16 => (intro W hSw; go_simp; try (with_reducible rfl))
            try simp only [Act.put, List.setIfInBounds_toArray, List.set_cons_zero, List.set_cons_succ]
            refine' wpAnyD_take (i := 16) (oi := { dst := some 82, op := Go.Op.pick (Go.Operand.tmp 77) (Go.Operand.const (Go.Value.bool true)) (Go.Operand.tmp 81), type := 4, pos := "outright.go:46", after := #[{ on := 11, ground := Go.Ground.data }, { on := 15, ground := Go.Ground.data }], guard := none }) (v := _) rfl (by kernel_rfl) (by kernel_rfl) (by kernel_rfl) (fun _ _ _ h => h) (by kernel_rfl) (Or.inl ⟨by rfl, ?hy17⟩) hS14a ?rest17
            case hy17 => (intro W hSw; go_simp; try (with_reducible rfl))
            try simp only [Act.put, List.setIfInBounds_toArray, List.set_cons_zero, List.set_cons_succ]
            refine wpAnyD_done (by kernel_rfl) ?_ _
            go_wp2_with fail
            go_roundw
            case rel => exact ⟨k + 1, by omega, by go_num, GG.out.trans hS14a⟩
            case measure => simp [RowKit.intOf]; omega
          · have hltz : ¬ (k : Int) < (K.length : Int) := by omega
            clear hlt
            have hq1 : (l.take q).length ≤ 300 := by rw [List.length_take]; exact Nat.le_trans (Nat.min_le_right _ _) hll
            have hq2 : (l.drop q).length ≤ 300 := by rw [List.length_drop]; exact Nat.le_trans (Nat.sub_le _ _) hll
            have hkc := lkeys_any wr (C9.out.gr hgr) (small_ok hq1)
            have HG := hid hgr
            clear hgr
            go_wp2_with fail
            refine hkc.mono ?_
            rintro e w11 ⟨v11, ks11, hs11, rfl, ho11, -, hb11⟩
            have B11 := hid (HG.out.below.trans (hb11.mono HG.out.size))
            have hkd := lkeys_any w11 (D9.out.below B11.out) (small_ok hq2)
            have n11 := (C9.out.len hs11)
            have R11 := hid ho11
            have Z11 := hid hb11
            clear hkc hs11 ho11 hb11
            go_wp2_with fail
            refine hkd.mono ?_
            rintro e w12 ⟨v12, ks12, hs12, rfl, ho12, -, hb12⟩
            have n12 := (D9.out.len hs12)
            have R12 := hid (owns_below R11.out hb12)
            have L12 := hid (owns_ls (E := ES) ho12)
            have Z12 := hid (Z11.out.trans (hb12.mono Z11.out.size))
            have hsz : (stS ks11).length ≤ 300 ∧ (stS ks12).length ≤ 300 := ⟨by rw [srtBy_length]; exact Nat.le_trans n11 hq1, by rw [srtBy_length]; exact Nat.le_trans n12 hq2⟩
            clear hkd hs12 ho12 hb12 R11 Z11 n11 n12
            obtain ⟨M, hM⟩ : ∃ M, M = stS ks11 ++ stS ks12 := ⟨_, rfl⟩
            have eM : (stS ks11).length + (stS ks12).length = M.length := by rw [hM, List.length_append]
            have fM : fl ES (stS ks11) ++ fl ES (stS ks12) = fl ES M := by rw [hM, fl_append]
            have hMl : M.length ≤ 600 := by rw [← eM]; omega
            go_wp2_with (first | (at_builtin; refine wpAppL (E := ES) Try.underlying29 infoS rfl (by decide) rfl _ _ rfl wr.heap.size _ _ _ rfl R12.out _ (stS ks12) rfl L12.out (app_ok hsz).1 (app_ok hsz).2 Z12.out.size ?_; intro v13 w13 ho13 hg13; obtain ⟨p13, c13, rfl⟩ := owns_form ho13; rw [eM, fM] at ho13; rw [eM]) | go_in)
            have K13 := hid (Kp.grownBy (S := fun k => v11.ownBlock = some k) hg13 (fun _ h => h))
            have Z13 := hid (Z12.out.trans (K13.out.below Z12.out.size (fun k hk => (R12.out.lt k hk).1)))
            have LM := hid (owns_ls (E := ES) ho13)
            have T13 := hid (HG.out.below.trans (Z13.out.mono HG.out.size))
            have A13 := hid (A9.out.below T13.out)
            have C13 := hid (C9.out.below T13.out)
            have D13 := hid (D9.out.below T13.out)
            have BW13 := hid (BW9.out.trans (T13.out.mono BW9.out.size))
            clear hg13 ho13 K13 Z13 T13 A9 C9 D9 BW9 R12 L12 Z12 hM eM fM HG LK KM B11 hsz
            go_wp2_with fail
            go_loopw [90] (fun s90 wr => ∃ k : Nat, k ≤ M.length ∧ s90 = .int .i64 (k : Nat) ∧ Gr w13 wr) (fun s90 _ => M.length - (RowKit.intOf s90).toNat)
            case atStart => exact ⟨0, Nat.zero_le _, rfl, Gr.refl _⟩
            case round =>
              obtain ⟨k, hk, rfl, hgr⟩ := hrel
              by_cases hlt : k < M.length
              · have hltz : (k : Int) < (M.length : Int) := by omega
                have hk0 : (0 : Int) ≤ (k : Int) := by omega
                obtain ⟨s, hs⟩ : ∃ s, M[k]? = some s := ⟨M[k], by simp⟩
                obtain ⟨b1, o1, c1, e1, z1, x0, x1, x2, x3⟩ := (LM.out.below hgr.below).atS hs
                simp only [Value.slice.injEq] at e1
                obtain ⟨rfl, -, rfl⟩ := e1
                go_upto_region 20 with fail
                obtain ⟨W5, hW5⟩ : ∃ W, W = Tt.bx s wr := ⟨_, rfl⟩
                have g5 : Gr wr W5 := by rw [hW5]; exact (Gr.refl _).alloc _
                have z5 : wr.heap.size < W5.heap.size := by rw [hW5]; simp
                obtain ⟨a0, a1, a2, a3⟩ : W5.cell? ⟨wr.heap.size, 0, none⟩ = some (.int .i64 s.1.1) ∧ W5.cell? ⟨wr.heap.size, 1, none⟩ = some (.int .u64 s.1.2.1) ∧ W5.cell? ⟨wr.heap.size, 2, none⟩ = some (.int .u64 s.1.2.2.1) ∧ W5.cell? ⟨wr.heap.size, 3, none⟩ = some (.int .u64 s.1.2.2.2) := by rw [hW5]; exact Tt.bx_cells s wr
                rw [show wr.alloc (.cells #[.int .i64 s.1.1, .int .u64 s.1.2.1, .int .u64 s.1.2.2.1, .int .u64 s.1.2.2.2] 35) = W5 from hW5.symm]
                have GG := hid (hgr.trans g5)
                have hga : ∀ W, Gr W5 W → Calls Try.prog 11 #[lp la, mv s] W fun e w' => e = .returned (.int .i64 (smf (Go.Proofs.Ytcmgmgnmhhkdgaa.wr l) s)) ∧ Gr W w' := fun W h => get_any s W (A13.out.gr (GG.out.trans h))
                have hgc : ∀ W, Gr W5 W → Calls Try.prog 11 #[lp lc, mv s] W fun e w' => e = .returned (.int .i64 (smf (Go.Proofs.Ytcmgmgnmhhkdgaa.wr (l.take q)) s)) ∧ Gr W w' := fun W h => get_any s W (C13.out.gr (GG.out.trans h))
                have hgd : ∀ W, Gr W5 W → Calls Try.prog 11 #[lp ld, mv s] W fun e w' => e = .returned (.int .i64 (smf (Go.Proofs.Ytcmgmgnmhhkdgaa.wr (l.drop q)) s)) ∧ Gr W w' := fun W h => get_any s W (D13.out.gr (GG.out.trans h))
                have hw64 := (NUM.out s).2
                generalize smf (Go.Proofs.Ytcmgmgnmhhkdgaa.wr l) s = A at *
                generalize smf (Go.Proofs.Ytcmgmgnmhhkdgaa.wr (l.take q)) s = C at *
                generalize smf (Go.Proofs.Ytcmgmgnmhhkdgaa.wr (l.drop q)) s = E at *
                have hAA : (A != A) = false := by simp
                clear hs x0 x1 x2 x3 z1 g5 hW5 hgr
                have hS0 : Gr W5 W5.drew := (Gr.refl W5).drew
                refine wp_regionD (S := fun W => Gr W5 W) (D := []) hmx ?_
                refine' wpAnyD_take (i := 0) (oi := { dst := some 94, op := Go.Op.move (Go.Operand.tmp 3), type := 24, pos := "outright.go:51", after := #[], guard := none }) (v := _) rfl (by kernel_rfl) (by kernel_rfl) (by kernel_rfl) (fun _ _ _ h => h) (by kernel_rfl) (Or.inl ⟨by rfl, ?hy18⟩) hS0 ?rest18
                case hy18 => (intro W hSw; go_simp; try (with_reducible rfl))
                try simp only [Act.put, List.setIfInBounds_toArray, List.set_cons_zero, List.set_cons_succ]
                refine' wpAnyD_take (i := 1) (oi := { dst := some 95, op := Go.Op.load 35 (Go.Operand.tmp 10), type := 35, pos := "outright.go:51", after := #[], guard := none }) (v := _) rfl (by kernel_rfl) (by kernel_rfl) (by kernel_rfl) (fun _ _ _ h => h) (by kernel_rfl) (Or.inl ⟨by rfl, ?hy19⟩) hS0 ?rest19
                case hy19 => (intro W hSw; have h0 := (hSw.cell z5).trans a0; have h1 := (hSw.cell z5).trans a1; have h2 := (hSw.cell z5).trans a2; have h3 := (hSw.cell z5).trans a3; go_simp; try (with_reducible rfl))
                try simp only [Act.put, List.setIfInBounds_toArray, List.set_cons_zero, List.set_cons_succ]
                refine' wpAnyD_take (i := 3) (oi := { dst := some 97, op := Go.Op.move (Go.Operand.tmp 5), type := 24, pos := "outright.go:51", after := #[], guard := none }) (v := _) rfl (by kernel_rfl) (by kernel_rfl) (by kernel_rfl) (fun _ _ _ h => h) (by kernel_rfl) (Or.inl ⟨by rfl, ?hy20⟩) hS0 ?rest20
                case hy20 => (intro W hSw; go_simp; try (with_reducible rfl))
                try simp only [Act.put, List.setIfInBounds_toArray, List.set_cons_zero, List.set_cons_succ]
                refine' wpAnyD_take (i := 4) (oi := { dst := some 98, op := Go.Op.load 35 (Go.Operand.tmp 10), type := 35, pos := "outright.go:51", after := #[], guard := none }) (v := _) rfl (by kernel_rfl) (by kernel_rfl) (by kernel_rfl) (fun _ _ _ h => h) (by kernel_rfl) (Or.inl ⟨by rfl, ?hy21⟩) hS0 ?rest21
                case hy21 => (intro W hSw; have h0 := (hSw.cell z5).trans a0; have h1 := (hSw.cell z5).trans a1; have h2 := (hSw.cell z5).trans a2; have h3 := (hSw.cell z5).trans a3; go_simp; try (with_reducible rfl))
                try simp only [Act.put, List.setIfInBounds_toArray, List.set_cons_zero, List.set_cons_succ]
                refine' wpAnyD_take (i := 6) (oi := { dst := some 100, op := Go.Op.move (Go.Operand.tmp 6), type := 24, pos := "outright.go:51", after := #[], guard := none }) (v := _) rfl (by kernel_rfl) (by kernel_rfl) (by kernel_rfl) (fun _ _ _ h => h) (by kernel_rfl) (Or.inl ⟨by rfl, ?hy22⟩) hS0 ?rest22
                case hy22 => (intro W hSw; go_simp; try (with_reducible rfl))
                try simp only [Act.put, List.setIfInBounds_toArray, List.set_cons_zero, List.set_cons_succ]
                refine' wpAnyD_take (i := 7) (oi := { dst := some 101, op := Go.Op.load 35 (Go.Operand.tmp 10), type := 35, pos := "outright.go:51", after := #[], guard := none }) (v := _) rfl (by kernel_rfl) (by kernel_rfl) (by kernel_rfl) (fun _ _ _ h => h) (by kernel_rfl) (Or.inl ⟨by rfl, ?hy23⟩) hS0 ?rest23
                case hy23 => (intro W hSw; have h0 := (hSw.cell z5).trans a0; have h1 := (hSw.cell z5).trans a1; have h2 := (hSw.cell z5).trans a2; have h3 := (hSw.cell z5).trans a3; go_simp; try (with_reducible rfl))
                try simp only [Act.put, List.setIfInBounds_toArray, List.set_cons_zero, List.set_cons_succ]
                refine wpAnyD_one (i := 2) (o := { dst := some 96, op := Go.Op.call { callee := Go.Callee.value (Go.Operand.func 11), args := #[Go.Operand.tmp 94, Go.Operand.tmp 95], argTypes := #[24, 35] }, type := 2, pos := "outright.go:51", after := #[{ on := 0, ground := Go.Ground.data }, { on := 1, ground := Go.Ground.data }], guard := none }) (by kernel_rfl) rfl (fun K hK => ?_)
                go_simp
                refine (hga _ hS0).mono ?_
                rintro e w2b ⟨rfl, g2b⟩
                have hS2b := (hS0).trans g2b
                clear g2b
                go_wp2_with fail
                refine hK.out _ _ (fun hD => hS2b) ?_
                clear hK K
                try simp only [Act.put, List.setIfInBounds_toArray, List.set_cons_zero, List.set_cons_succ]
                refine wpAnyD_one (i := 5) (o := { dst := some 99, op := Go.Op.call { callee := Go.Callee.value (Go.Operand.func 11), args := #[Go.Operand.tmp 97, Go.Operand.tmp 98], argTypes := #[24, 35] }, type := 2, pos := "outright.go:51", after := #[{ on := 3, ground := Go.Ground.data }, { on := 4, ground := Go.Ground.data }, { on := 2, ground := Go.Ground.chain }], guard := none }) (by kernel_rfl) rfl (fun K hK => ?_)
                go_simp
                refine (hgc _ hS2b).mono ?_
                rintro e w5b ⟨rfl, g5b⟩
                have hS5b := (hS2b).trans g5b
                clear g5b
                go_wp2_with fail
                refine hK.out _ _ (fun hD => hS5b) ?_
                clear hK K
                try simp only [Act.put, List.setIfInBounds_toArray, List.set_cons_zero, List.set_cons_succ]
                refine wpAnyD_one (i := 8) (o := { dst := some 102, op := Go.Op.call { callee := Go.Callee.value (Go.Operand.func 11), args := #[Go.Operand.tmp 100, Go.Operand.tmp 101], argTypes := #[24, 35] }, type := 2, pos := "outright.go:51", after := #[{ on := 6, ground := Go.Ground.data }, { on := 7, ground := Go.Ground.data }, { on := 5, ground := Go.Ground.chain }], guard := none }) (by kernel_rfl) rfl (fun K hK => ?_)
                go_simp
                refine (hgd _ hS5b).mono ?_
                rintro e w8b ⟨rfl, g8b⟩
                have hS8b := (hS5b).trans g8b
                clear g8b
                go_wp2_with fail
                refine hK.out _ _ (fun hD => hS8b) ?_
                clear hK K
                try simp only [Act.put, List.setIfInBounds_toArray, List.set_cons_zero, List.set_cons_succ]
                refine' wpAnyD_take (i := 9) (oi := { dst := some 103, op := Go.Op.binOp Go.BinOp.add 2 (Go.Operand.tmp 99) (Go.Operand.tmp 102) 2, type := 2, pos := "outright.go:51", after := #[{ on := 5, ground := Go.Ground.data }, { on := 8, ground := Go.Ground.data }], guard := none }) (v := _) rfl (by kernel_rfl) (by kernel_rfl) (by kernel_rfl) (fun _ _ _ h => h) (by kernel_rfl) (Or.inl ⟨by rfl, ?hy27⟩) hS8b ?rest27
                case hy27 => (intro W hSw; go_simp; try (with_reducible rfl))
                try simp only [Act.put, List.setIfInBounds_toArray, List.set_cons_zero, List.set_cons_succ]
                refine' wpAnyD_take (i := 10) (oi := { dst := some 104, op := Go.Op.binOp Go.BinOp.neq 2 (Go.Operand.tmp 96) (Go.Operand.tmp 103) 2, type := 4, pos := "outright.go:51", after := #[{ on := 2, ground := Go.Ground.data }, { on := 9, ground := Go.Ground.data }], guard := none }) (v := _) rfl (by kernel_rfl) (by kernel_rfl) (by kernel_rfl) (fun _ _ _ h => h) (by kernel_rfl) (Or.inl ⟨by rfl, ?hy28⟩) hS8b ?rest28
                case hy28 => (intro W hSw; go_simp; try (with_reducible rfl))
                try simp only [Act.put, List.setIfInBounds_toArray, List.set_cons_zero, List.set_cons_succ]
                refine wpAnyD_done (by kernel_rfl) ?_ _
                go_wp2_with fail
                go_roundw
                case rel => exact ⟨k + 1, by omega, by go_num, GG.out.trans hS8b⟩
                case measure => simp [RowKit.intOf]; omega
              · have hltz : ¬ (k : Int) < (M.length : Int) := by omega
                clear hlt
                have HG := hid hgr
                have A14 := hid (A13.out.gr hgr)
                have B14 := hid (BW13.out.trans (hgr.below.mono BW13.out.size))
                clear hgr A13 C13 D13 BW13 LM
                go_wp2_with fail
                go_loopw [108] (fun s108 wr => ∃ i n : Nat, i ≤ l.length ∧ s108 = .int .i64 (i : Nat) ∧ n ≤ 300 + 3 * i ∧ Hid (Lg wr la ta ba n (smf (Go.Proofs.Ytcmgmgnmhhkdgaa.wr l ++ tk (l.take i)))) ∧ Hid (Below w.heap.size w wr)) (fun s108 _ => l.length - (RowKit.intOf s108).toNat)
                case atStart => exact ⟨0, l.length, Nat.zero_le _, rfl, hll, by have h := A14.out; rw [show Go.Proofs.Ytcmgmgnmhhkdgaa.wr l = Go.Proofs.Ytcmgmgnmhhkdgaa.wr l ++ tk (l.take 0) by simp [tk]] at h; exact h, B14.out⟩
                case round =>
                  clear A14 B14 HG
                  obtain ⟨i, n, hi, rfl, hnn, HA, HB⟩ := hrel
                  have hnm' := byt_ok (Nat.le_trans hnn (Nat.add_le_add_left (Nat.mul_le_mul_left 3 (Nat.le_trans hi hll)) 300))
                  have hnm := max_ok (Nat.le_trans hnn (Nat.add_le_add_left (Nat.mul_le_mul_left 3 (Nat.le_trans hi hll)) 300))
                  by_cases hlt : i < l.length
                  · have hltz : (i : Int) < (l.length : Int) := by omega
                    have hi0 : (0 : Int) ≤ (i : Int) := by omega
                    obtain ⟨o, ho⟩ : ∃ o, l[i]? = some o := ⟨l[i], by simp⟩
                    obtain ⟨b1, o1, c1, e1, z1, x0, x1, x2, x3, x4, x5⟩ := (HL.out.below HB.out).atO ho
                    simp only [Value.slice.injEq] at e1
                    obtain ⟨rfl, -, rfl⟩ := e1
                    obtain ⟨W5, hW5⟩ : ∃ W, W = wr.alloc (.cells (ob o) 38) := ⟨_, rfl⟩
                    have G5 : Gr wr W5 := by rw [hW5]; exact (Gr.refl _).alloc _
                    have bO : W5.heap[wr.heap.size]? = some (.cells (ob o) 38 (0, 0)) := by rw [hW5]; exact heap_new' _ _
                    have zO := (Array.getElem?_eq_some_iff.1 bO).1
                    have hbl : ba < wr.heap.size := HA.out.tl.ta.lt
                    have KO : Hid (∀ W, Kp (fun k => k = ba) W5 W → W.cell? ⟨wr.heap.size, 0, none⟩ = some (.int .i64 o.k) ∧ W.cell? ⟨wr.heap.size, 1, none⟩ = some (.int .i64 o.i) ∧ W.cell? ⟨wr.heap.size, 2, none⟩ = some (.int .i64 o.s.1.1) ∧ W.cell? ⟨wr.heap.size, 3, none⟩ = some (.int .u64 o.s.1.2.1) ∧ W.cell? ⟨wr.heap.size, 4, none⟩ = some (.int .u64 o.s.1.2.2.1) ∧ W.cell? ⟨wr.heap.size, 5, none⟩ = some (.int .u64 o.s.1.2.2.2)) := fun W hk => ob_cells ((hk.block _ zO (Nat.ne_of_gt hbl)).trans bO)
                    obtain ⟨F, hF⟩ : ∃ F, F = Go.Proofs.Ytcmgmgnmhhkdgaa.wr l ++ tk (l.take i) := ⟨_, rfl⟩
                    rw [← hF] at HA
                    have hon : Ones F := by rw [hF]; exact (wr_ones l).append (tk_ones _)
                    have hfl : F.length ≤ 1300 := by rw [hF]; exact flen_ok hll i
                    have e1 := add_smf hon (Nat.le_trans hfl (by decide)) (x := o.s) (Or.inr rfl : (-1 : Int) = 1 ∨ (-1 : Int) = -1)
                    have hon1 : Ones (F ++ [(o.s, -1)]) := hon.snoc (Or.inr rfl)
                    have e2 := add_smf hon1 (by rw [List.length_append]; exact Nat.le_trans (Nat.add_le_add_right hfl 1) (by decide)) (x := o.s) (Or.inl rfl : (1 : Int) = 1 ∨ (1 : Int) = -1)
                    have hon2 : Ones (F ++ [(o.s, -1)] ++ [(o.s, 1)]) := hon1.snoc (Or.inl rfl)
                    have e3 := add_smf hon2 (by rw [List.length_append, List.length_append]; exact Nat.le_trans (Nat.add_le_add_right (Nat.add_le_add_right hfl 1) 1) (by decide)) (x := o.s) (Or.inl rfl : (1 : Int) = 1 ∨ (1 : Int) = -1)
                    have NX : Hid (∀ G, F ++ tk1 o = G → smf (Go.Proofs.Ytcmgmgnmhhkdgaa.wr l ++ tk (l.take (i + 1))) = smf G) := fun G hG => by rw [tk_take_succ ho, ← List.append_assoc, ← hF, hG]
                    have hu := use_any o.s W5 (HA.out.gr G5) hnm.1
                    rw [e1.1, e1.2] at hu
                    have BB := hid (HB.out.trans (G5.below.mono HB.out.size))
                    have HFIN : Hid (∀ W, Kp (fun k => k = ba) W5 W → Below w.heap.size w W) := fun W hk => BB.out.trans (hk.below BB.out.size (fun k hk => by rw [hk]; exact OA.out))
                    obtain ⟨t0, t1, t2, t3, t4, t5⟩ := KO.out W5 (Kp.refl _ _)
                    clear HB HA hF hon hon1 hon2 hfl e1 bO
                    go_upto_region 26 with fail
                    rw [show wr.alloc (.cells #[.int .i64 o.k, .int .i64 o.i, .int .i64 o.s.1.1, .int .u64 o.s.1.2.1, .int .u64 o.s.1.2.2.1, .int .u64 o.s.1.2.2.2] 38) = W5 from hW5.symm]
                    clear hW5 x0 x1 x2 x3 x4 x5 ho G5
                    go_wp2_with fail
                    refine hu.mono ?_
                    rintro e w21 ⟨rfl, L21, K21⟩
                    clear hu t0 t1 t2 t3 t4 t5
                    obtain ⟨t0, t1, t2, t3, t4, t5⟩ := KO.out w21 K21
                    by_cases hk : o.k.tmod 2 = 0
                    · have hkb : (o.k.tmod 2 != 0) = false := by simp [hk]
                      have L22 : Hid (Lg w21 la ta ba (n + 1) (smf (Go.Proofs.Ytcmgmgnmhhkdgaa.wr l ++ tk (l.take (i + 1))))) := by rw [NX.out _ (by unfold tk1; rw [if_pos hk])]; exact L21
                      have B22 := hid (HFIN.out _ K21)
                      clear L21 K21 e2 e3 NX HFIN KO
                      go_wp2_with fail
                      go_roundw
                      case rel => exact ⟨i + 1, n + 1, by omega, by go_num, by omega, L22.out, B22.out⟩
                      case measure => simp [RowKit.intOf]; omega
                    · have hkb : (o.k.tmod 2 != 0) = true := by simp [hk]
                      have hm := make_any o.s w21 L21 hnm.2.1
                      rw [e2.1, e2.2] at hm
                      have K21' := hid K21
                      clear K21 L21
                      go_wp2_with fail
                      refine hm.mono ?_
                      rintro e w22 ⟨rfl, L22, K22⟩
                      have K22' := hid (K21'.out.trans K22 (fun _ _ h => h))
                      clear hm t0 t1 t2 t3 t4 t5 K22
                      obtain ⟨t0, t1, t2, t3, t4, t5⟩ := KO.out w22 K22'.out
                      have hm := make_any o.s w22 L22 hnm.2.2
                      rw [e3.1, e3.2] at hm
                      clear L22
                      go_wp2_with fail
                      refine hm.mono ?_
                      rintro e w23 ⟨rfl, L23, K23⟩
                      have L24 : Hid (Lg w23 la ta ba (n + 1 + 1 + 1) (smf (Go.Proofs.Ytcmgmgnmhhkdgaa.wr l ++ tk (l.take (i + 1))))) := by rw [NX.out (F ++ [(o.s, -1)] ++ [(o.s, 1)] ++ [(o.s, 1)]) (by unfold tk1; rw [if_neg hk]; simp)]; exact L23
                      have B24 := hid (HFIN.out _ (K22'.out.trans K23 (fun _ _ h => h)))
                      clear hm L23 K23 K22' K21' t0 t1 t2 t3 t4 t5 e2 e3 NX HFIN KO
                      go_wp2_with fail
                      go_roundw
                      case rel => exact ⟨i + 1, n + 1 + 1 + 1, by omega, by go_num, by omega, L24.out, B24.out⟩
                      case measure => simp [RowKit.intOf]; omega
                  · have hltz : ¬ (i : Int) < (l.length : Int) := by omega
                    have hie : i = l.length := by omega
                    subst hie
                    have L30 : Hid (Lg wr la ta ba n (fun _ => 0)) := by
                      have h := HA.out
                      rw [List.take_length, tk_zero] at h
                      exact h
                    have hle := len_any wr L30.out
                    clear HA hlt
                    go_wp2_with fail
                    refine hle.mono ?_
                    rintro e w31 ⟨ks31, hs31, rfl, hg31⟩
                    rw [sup_zero hs31]
                    have hch := changes_any w31 (L30.out.gr hg31) hnm'.1
                    have B31 := hid (HB.out.trans (hg31.below.mono HB.out.size))
                    have L31 := hid (L30.out.gr hg31)
                    clear hle hs31 hg31 HB
                    go_wp2_with fail
                    refine hch.mono ?_
                    rintro e w32 ⟨v32, ks32, hs32, rfl, ho32, -, hb32⟩
                    obtain ⟨p32, c32, rfl⟩ := owns_form ho32
                    rw [chs_length, sup_zero hs32]
                    have hke := lkeys_any w32 (L31.out.below hb32) hnm'.2
                    have B32 := hid (B31.out.trans (hb32.mono B31.out.size))
                    clear hch hs32 hb32 ho32 B31
                    go_wp2_with fail
                    refine hke.mono ?_
                    rintro e w33 ⟨v33, ks33, hs33, rfl, ho33, -, hb33⟩
                    obtain ⟨p33, c33, rfl⟩ := owns_form ho33
                    rw [srtBy_length, sup_zero hs33]
                    have B33 := hid (B32.out.trans (hb33.mono B32.out.size))
                    clear hke hs33 hb33 ho33
                    go_wp2_with fail
                    go_ret
                    exact ⟨rfl, B33.out⟩
end Go.Proofs.Ytcmgmgnmhhkdgaa
