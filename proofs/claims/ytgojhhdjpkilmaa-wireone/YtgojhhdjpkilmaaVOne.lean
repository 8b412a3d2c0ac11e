import Derived.Test.YtgojhhdjpkilmaaVTak
namespace Go.Proofs.Ytgojhhdjpkilmaa.Wi
open Go.RowKit Go.Sort
attribute [local go_sem ↓] Go.wp_at_zero Go.wp_at_succ

/-- What stands behind reading and putting: a reader and a writer. -/
structure One (w wr : World) (rb wb : Nat) (dr vw : Value) (l : List UInt8) (u n e : Nat) : Prop where
  rd : Rd wr rb dr l n e
  wt : Wr wr wb vw (form u) 0
  ne : rb ≠ wb ∧ dr.ownBlock ≠ some wb ∧ vw.ownBlock ≠ some rb
  ge : w.heap.size ≤ rb ∧ w.heap.size ≤ wb
  bl : Below w.heap.size w wr
theorem One.below {w wr w' : World} {rb wb u n e : Nat} {dr vw : Value} {l : List UInt8} (h : One w wr rb wb dr vw l u n e) (hb : Below wr.heap.size wr w') : One w w' rb wb dr vw l u n e :=
  ⟨h.rd.below hb, h.wt.below hb, h.ne, h.ge, h.bl.trans (hb.mono h.bl.size)⟩
theorem cut_ls {w : World} {p : Option Addr} {c n : Nat} {l : List UInt8} (h : Ls EB w (.slice p l.length c) l) (hn : n ≤ l.length) : Ls EB w (.slice p n c) (l.take n) := by
  rcases h with ⟨rfl, h⟩ | ⟨b, off, c', hv, hb, ht⟩
  · simp only [Value.slice.injEq] at h
    obtain ⟨rfl, -, rfl⟩ := h
    have hn0 : n = 0 := by simpa using hn
    subst hn0
    exact Or.inl ⟨rfl, rfl⟩
  · simp only [Value.slice.injEq, true_and] at hv
    obtain ⟨rfl, rfl⟩ := hv
    have hL : Ls EB w (.slice (some ⟨b, off, none⟩) l.length c) l := Or.inr ⟨b, off, c, rfl, hb, ht⟩
    exact hL.cut hn _
set_option maxHeartbeats 4000000 in
theorem one_any {v : Value} {l : List UInt8} (most : Nat) (hm : most < 18446744073709551616) (whole : Bool) (w : World) (hL : Ls EB w v l) (hl : l.length ≤ 140737488351232) (hcap : ∀ p n c, v = .slice p n c → n ≤ c) :
    Calls Try.prog 3 #[v, .int .u64 most, .bool whole] w fun e w' => e = .returned (.bool true) ∧ Below w.heap.size w w' := by
  have HL := hid hL
  obtain ⟨p, c, rfl⟩ := hL.form
  have hcl := hcap _ _ _ rfl
  clear hL hcap
  go_enter Try.func3, Try.ntmps3
  go_wp2_with fail
  refine (taken_any _).mono ?_
  rintro r w1 ⟨rfl, hb1⟩
  have B1 := hid hb1
  have L1 := hid (HL.out.below hb1)
  clear hb1
  go_wp2_with (at_builtin; refine wpBL rfl _ _ rfl w1.heap.size _ [] rfl (World.ownsRow_made w1 #[] 0 (Nat.le_refl _) (Nat.zero_le _) rfl) _ l rfl (Or.inl (L1.out.below ((Gr.refl _).alloc _).below)) (by simp; omega) (by simp) ?_)
  intro v2 w2 h2 t2
  have hal := ((Gr.refl w1).alloc (.cells #[] 5)).below
  have B12 : Hid (Below w1.heap.size w1 w2) := hal.trans (t2.out.1.below hal.size (fun k hk => by simp [Value.ownBlock] at hk; omega))
  have hls2 : Ls EB w2 v2 l := by simpa using ow_ls (owns_base h2.out (Nat.zero_le _))
  have hnr := newreader_any w2 hls2 (by omega)
  clear h2 t2 hal hls2
  go_wp2_with fail
  refine hnr.mono ?_
  rintro r w3 ⟨rb, dr, rfl, hge3, hR, hd, hb3⟩
  have R3 := hid hR
  have B3 : Hid (Below w.heap.size w w3) := B1.out.trans ((B12.out.trans (hb3.mono B12.out.size)).mono B1.out.size)
  have GE3 : Hid (w.heap.size ≤ rb) := by
    have h1 := B1.out.size
    have h2 := B12.out.size
    show w.heap.size ≤ rb
    omega
  clear hnr hge3 hR hd hb3 B12 B1 L1
  go_wp2_with fail
  refine (newwriter_any _).mono ?_
  rintro r w4 ⟨wb, rfl, hge4, hW, hg4⟩
  have R4 := hid (R3.out.gr hg4)
  have W4 := hid hW
  have B4 : Hid (Below w.heap.size w w4) := B3.out.trans (hg4.below.mono B3.out.size)
  have GE4 : Hid (w.heap.size ≤ wb) := Nat.le_trans B3.out.size hge4
  have NE : Hid (rb ≠ wb ∧ dr.ownBlock ≠ some wb) := ⟨fun e => by have := R3.out.lt; omega, fun e => by have := R3.out.ls.blk wb e; omega⟩
  clear hge4 hW hg4 R3 B3
  obtain ⟨mo, hmo⟩ : ∃ mo, mo = if whole then 18446744073709551615 else most := ⟨_, rfl⟩
  have HW4 : Hid (whole = true → mo = 18446744073709551615) := fun h => by rw [hmo, h]; rfl
  have hmol : mo < 18446744073709551616 := by rw [hmo]; split <;> omega
  have hone : ∀ (w5 w6 : World) (vw : Value) (u n e : Nat), scan mo 0 0 l = (u, n, e) → Rd w5 rb dr l (0 + n) e → Kp (fun k => k = rb) w4 w5 → Wr w6 wb vw (form u) 0 → Turn wb (.slice none 0 0) vw w5 w6 → One w w6 rb wb dr vw l (scan mo 0 0 l).1 (scan mo 0 0 l).2.1 (scan mo 0 0 l).2.2 := fun w5 w6 vw u n e hs hr hk hw ht => by
    rw [hs]
    have h2 : Kp (fun k => k = wb) w5 w6 := ht.1.mono (fun k hk => by simpa [Value.ownBlock] using hk)
    have hb5 : Below w.heap.size w w5 := B4.out.trans (hk.below B4.out.size (fun k hk => by subst hk; exact GE3.out))
    refine ⟨?_, hw, ⟨NE.out.1, NE.out.2, fun e => ?_⟩, ⟨GE3.out, GE4.out⟩, hb5.trans (h2.below hb5.size (fun k hk => by subst hk; exact GE4.out))⟩
    · have := hr.kp h2 NE.out.1 (fun k hk e => NE.out.2 (e ▸ hk))
      rw [Nat.zero_add] at this
      exact this
    · rcases ht.2 rb e with h3 | h3
      · simp [Value.ownBlock] at h3
      · have := hr.lt; omega
  go_upto_if 23 with fail
  go_cut [24] from 24 to 32 (fun _ w' => ∃ vw, Hid (One w w' rb wb dr vw l (scan mo 0 0 l).1 (scan mo 0 0 l).2.1 (scan mo 0 0 l).2.2))
  case first =>
    have hmoS := hid hmo
    have HONE := hid hone
    have hwlt : ∀ w5, Kp (fun k => k = rb) w4 w5 → Wr w5 wb (.slice none 0 0) [] 0 := fun w5 hk => W4.out.kp hk (fun e => NE.out.1 e.symm) (by simp [Value.ownBlock])
    have hsl := (scan_le mo l).2.2
    clear hone hmo
    cases whole
    · have hmm : mo = most := by rw [hmoS.out]; rfl
      subst hmm
      have hn := rnum_any mo w4 R4.out
      rw [show rn 0 mo (List.drop 0 l) = scan mo 0 0 l from rfl] at hn
      have hwn := fun w5 hk => wnum_any (scan mo 0 0 l).1 hsl w5 (hwlt w5 hk) (by simp)
      have HS : Hid (∀ S, S = scan mo 0 0 l → S = scan mo 0 0 l) := fun _ h => h
      generalize hS : scan mo 0 0 l = S at hn hwn
      obtain ⟨u, n, e⟩ := S
      have HSE := hid hS
      clear hS hmoS
      go_wp2_with fail
      refine hn.mono ?_
      rintro r w5 ⟨rfl, h5, k5⟩
      have R5 := hid h5
      have K5 := hid k5
      clear h5 k5
      go_wp2_with fail
      refine (hwn w5 K5.out).mono ?_
      rintro r w6 ⟨v6, rfl, h6, t6⟩
      have W6 := hid h6
      have T6 := hid t6
      clear h6 t6
      go_wp2_with fail
      go_meet
      exact ⟨v6, HONE.out w5 w6 v6 u n e HSE.out R5.out K5.out W6.out T6.out⟩
    · have hmm : mo = 18446744073709551615 := by rw [hmoS.out]; rfl
      subst hmm
      have hn := rint_any w4 R4.out
      rw [show rn 0 18446744073709551615 (List.drop 0 l) = scan 18446744073709551615 0 0 l from rfl] at hn
      have hub : -9223372036854775808 ≤ unfold (scan 18446744073709551615 0 0 l).1 ∧ unfold (scan 18446744073709551615 0 0 l).1 ≤ 9223372036854775807 := by
        unfold unfold
        split <;> omega
      have hwn := fun w5 hk => wint_any (unfold (scan 18446744073709551615 0 0 l).1) hub.1 hub.2 w5 (hwlt w5 hk) (by simp)
      rw [fold_unfold] at hwn
      generalize hS : scan 18446744073709551615 0 0 l = S at hn hwn
      obtain ⟨u, n, e⟩ := S
      have HSE := hid hS
      clear hS hmoS hub
      go_wp2_with fail
      refine hn.mono ?_
      rintro r w5 ⟨rfl, h5, k5⟩
      have R5 := hid h5
      have K5 := hid k5
      clear h5 k5
      go_wp2_with fail
      refine (hwn w5 K5.out).mono ?_
      rintro r w6 ⟨v6, rfl, h6, t6⟩
      have W6 := hid h6
      have T6 := hid t6
      clear h6 t6
      go_wp2_with fail
      go_meet
      exact ⟨v6, HONE.out w5 w6 v6 u n e HSE.out R5.out K5.out W6.out T6.out⟩
  case rest =>
    obtain ⟨vw, HO⟩ := hcut
    have hsb := hid (scan_back mo l 0 0 (by decide) (by decide))
    have LC := hid (HL.out.below (HO.out.bl))
    have BLC := hid HO.out.bl
    clear hone hmo R4 W4 B4 GE3 GE4 NE HL
    rcases hsb.out with ⟨e, hS, he⟩ | ⟨u, n, hS, h2, h3, h4, h5, h6, h7, h8⟩
    · rw [hS] at HO
      clear hS hsb
      have he' : (e = 30 ∨ e = 31 ∨ (e = 12 ∧ whole = false)) := by
        rcases he with h | h | ⟨h, h2⟩
        · exact Or.inl h
        · exact Or.inr (Or.inl h)
        · refine Or.inr (Or.inr ⟨h, ?_⟩)
          cases whole
          · rfl
          · have := HW4.out rfl; omega
      clear he HW4
      have h0 : e ≠ 0 := by rcases he' with h | h | ⟨h, _⟩ <;> omega
      have E1 := hid he'
      clear he'
      have hrr := rerr_any wc HO.out.rd
      have hra := rat_any wc HO.out.rd
      have hz0 : ¬ (e : Int) = 0 := by omega
      go_wp2_with fail
      refine hrr.mono ?_
      rintro r w7 ⟨rfl, rfl⟩
      go_wp2_with fail
      refine hra.mono ?_
      rintro r w7 ⟨rfl, rfl⟩
      clear hrr hra
      have hen := rend_any w7 HO.out.rd
      rw [show re1 e (List.drop 0 l) = e by unfold re1; rw [if_neg h0]] at hen
      have hby : ∀ W, Rd W rb dr l 0 e → Calls Try.prog 19 #[.pointer (some ⟨rb, 0, none⟩)] W fun r w' => r = .returned (.int .u8 0) ∧ Rd w' rb dr l 0 e ∧ Kp (fun k => k = rb) W w' := fun W h => by
        have := rbyte_any W h
        rw [show rb1 e (List.drop 0 l) = (0, 0, e) by unfold rb1; rw [if_neg h0]] at this
        exact this
      have hbs : ∀ W, Rd W rb dr l 0 e → Calls Try.prog 20 #[.pointer (some ⟨rb, 0, none⟩), .int .i64 9] W fun r w' => ∃ d, r = .returned d ∧ w'.ownsRow W.heap.size 5 1 d 0 [] ∧ Rd w' rb dr l 0 e ∧ Kp (fun k => k = rb) W w' := fun W h => by
        have := rbytes_any 9 W h
        rw [show rbs e 9 (List.drop 0 l) = ([], 0, e) by unfold rbs; rw [if_neg h0]] at this
        exact this
      have hnm : ∀ W, Rd W rb dr l 0 e → Calls Try.prog 14 #[.pointer (some ⟨rb, 0, none⟩), .int .u64 (9 : Nat)] W fun r w' => r = .returned (.int .u64 0) ∧ Rd w' rb dr l 0 e ∧ Kp (fun k => k = rb) W w' := fun W h => by
        have := rnum_any 9 W h
        rw [show rn e 9 (List.drop 0 l) = (0, 0, e) by unfold rn; rw [if_neg h0]] at this
        exact this
      have hin : ∀ W, Rd W rb dr l 0 e → Calls Try.prog 12 #[.pointer (some ⟨rb, 0, none⟩)] W fun r w' => r = .returned (.int .i64 0) ∧ Rd w' rb dr l 0 e ∧ Kp (fun k => k = rb) W w' := fun W h => by
        have := rint_any W h
        rw [show rn e 18446744073709551615 (List.drop 0 l) = (0, 0, e) by unfold rn; rw [if_neg h0]] at this
        simpa [show unfold 0 = 0 from rfl] using this
      have her := fun W (h : Rd W rb dr l 0 e) => rerr_any W h
      have hat := fun W (h : Rd W rb dr l 0 e) => rat_any W h
      clear h0
      have GE := hid HO.out.ge.1
      clear HO
      have hcas : (e = 30 ∧ whole = true) ∨ (e = 30 ∧ whole = false) ∨ (e = 31 ∧ whole = true) ∨ (e = 31 ∧ whole = false) ∨ (e = 12 ∧ whole = false) := by
        have := E1.out
        cases whole <;> simp_all
      clear E1
      rcases hcas with ⟨rfl, rfl⟩ | ⟨rfl, rfl⟩ | ⟨rfl, rfl⟩ | ⟨rfl, rfl⟩ | ⟨rfl, rfl⟩
      all_goals (
        go_wp2_with fail
        refine hen.mono ?_
        rintro r w8 ⟨rfl, h8, k8⟩
        have R8 := hid h8
        have K8 := hid k8
        clear h8 k8
        go_wp2_with fail
        refine (hby _ R8.out).mono ?_
        rintro r w9 ⟨rfl, h9, k9⟩
        have R9 := hid h9
        have K9 := hid (K8.out.trans k9 (fun _ _ h => h))
        clear h9 k9 R8 K8
        go_wp2_with fail
        refine (hbs _ R9.out).mono ?_
        rintro r w10 ⟨d10, rfl, o10, h10, k10⟩
        obtain ⟨p10, c10, rfl⟩ := (ow_ls (L := []) (owns_base o10 (Nat.zero_le _))).form
        have R10 := hid h10
        have K10 := hid (K9.out.trans k10 (fun _ _ h => h))
        clear h10 k10 R9 K9 o10
        go_wp2_with fail
        refine (hnm _ R10.out).mono ?_
        rintro r w11 ⟨rfl, h11, k11⟩
        have R11 := hid h11
        have K11 := hid (K10.out.trans k11 (fun _ _ h => h))
        clear h11 k11 R10 K10
        go_wp2_with fail
        refine (hin _ R11.out).mono ?_
        rintro r w12 ⟨rfl, h12, k12⟩
        have R12 := hid h12
        have K12 := hid (K11.out.trans k12 (fun _ _ h => h))
        clear h12 k12 R11 K11
        go_wp2_with fail
        refine (her _ R12.out).mono ?_
        rintro r w13 ⟨rfl, rfl⟩
        go_wp2_with fail
        refine (hat _ R12.out).mono ?_
        rintro r w13 ⟨rfl, rfl⟩
        go_wp2_with fail
        go_ret
        exact ⟨rfl, BLC.out.trans (K12.out.below BLC.out.size (fun k hk => by subst hk; exact GE.out))⟩)
    · simp only [Nat.pow_zero, Nat.mul_one, Nat.zero_add] at hS h2 h3 h7
      rw [hS] at HO
      clear hS hsb HW4
      have hn1 : 1 ≤ n := by rw [h4]; exact form_pos u
      have FE := hid h5
      clear h4 h5 h6 h2 h3
      have hrr := rerr_any wc HO.out.rd
      go_wp2_with fail
      refine hrr.mono ?_
      rintro r w7 ⟨rfl, rfl⟩
      clear hrr
      have hra : ∀ W, Below w7.heap.size w7 W → Calls Try.prog 16 #[.pointer (some ⟨rb, 0, none⟩)] W fun r w' => r = .returned (.int .i64 (n : Nat)) ∧ w' = W := fun W hb => rat_any W (HO.out.rd.below hb)
      have hda : ∀ W, Below w7.heap.size w7 W → Calls Try.prog 17 #[.pointer (some ⟨wb, 0, none⟩)] W fun r w' => ∃ q m k, r = .returned (.slice q m k) ∧ (∀ W2, Below w'.heap.size w' W2 → (convert 22 9 (.slice q m k)).run Try.prog W2 = .ok (tx (l.take n)) W2) ∧ Below W.heap.size W w' := fun W hb => by
        refine (wdata_any W (HO.out.wt.below hb) (by rw [← FE.out, List.length_take]; omega)).mono ?_
        rintro r w' ⟨d, rfl, ho, hb'⟩
        obtain ⟨q, m, k, rfl⟩ := ow_form (owns_base ho (Nat.zero_le _))
        refine ⟨q, m, k, rfl, fun W2 hb2 => ?_, hb'⟩
        rw [FE.out]
        exact to_text ((ow_ls (owns_base ho (Nat.zero_le _))).below hb2)
      have htx : ∀ W, Below w7.heap.size w7 W → (convert 22 9 (.slice p n c)).run Try.prog W = .ok (tx (l.take n)) W := fun W hb => to_text (cut_ls (LC.out.below hb) h8)
      have hz1 : (1 : Int) ≤ (n : Int) := by omega
      have hz2 : (n : Int) ≤ 10 := by omega
      have hz3 : (n : Int) ≤ (l.length : Int) := by omega
      have hz4 : (n : Int) ≤ (c : Int) := by omega
      have hz5 : n ≤ c := by omega
      have keepB : ∀ W W' : World, Below w7.heap.size w7 W → Below W.heap.size W W' → Below w7.heap.size w7 W' := fun W W' h hb => h.trans (hb.mono h.size)
      have S0 := Below.refl w7.heap.size w7
      clear HO FE
      have hx0 := htx _ (Gr.refl w7).drew.below
      go_wp2_with fail
      have hs0 := (Gr.refl w7).drew.below
      go_region_with (first | (go_at_call 16; refine (hra _ (by assumption)).mono ?_; rintro r w8 ⟨rfl, rfl⟩) | (go_at_call 17; refine (hda _ (by assumption)).mono ?_; rintro r w9 ⟨q9, m9, k9, rfl, ht9, hb9⟩; have hs9 := keepB _ _ (by assumption) hb9; have hx9 := htx _ hs9; have hy9 := ht9 _ (Below.refl _ _)))
      all_goals (
        go_wp2_with fail
        go_ret
        exact ⟨rfl, BLC.out.trans (hs9.mono BLC.out.size)⟩)
end Go.Proofs.Ytgojhhdjpkilmaa.Wi
