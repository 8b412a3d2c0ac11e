import Derived.Test.YthbdbmbdfhbeiaaGreatYKeysP
namespace Go.Proofs.YthbdbmbdfhbeiaaGreat.Pp
open Go.RowKit Go.Sort Go.Maps
attribute [local go_sem ↓] Go.wp_at_zero Go.wp_at_succ

theorem ls_at3 {w : World} {v : Value} {l : List Pr} (h : Q.Ls EP w v l) {j : Nat} {p : Pr} (hj : l[j]? = some p) :
    ∃ b off c, v = .slice (some ⟨b, off, none⟩) l.length c ∧ b < w.heap.size ∧ w.cell? ⟨b, off + j * 3, none⟩ = some (.int .i64 p.1.1) ∧ w.cell? ⟨b, off + j * 3 + 1, none⟩ = some (.int .u8 p.1.2.1) ∧ w.cell? ⟨b, off + j * 3 + 2, none⟩ = some (.int .u8 p.1.2.2) := by
  rcases h with ⟨rfl, _⟩ | ⟨b, off, c, hv, hb, ht⟩
  · simp at hj
  · have hg := fun (i : Nat) (hi : i < 3) => Q.fl_get EP l j i p hj hi
    refine ⟨b, off, c, hv, hb, ?_, ?_, ?_⟩
    · exact ht (j * 3) _ (hg 0 (by decide))
    · exact ht (j * 3 + 1) _ (hg 1 (by decide))
    · exact ht (j * 3 + 2) _ (hg 2 (by decide))
set_option maxHeartbeats 8000000 in
set_option maxRecDepth 100000 in
theorem paired_any {tb b n : Nat} {r : Rf} {f : Pr → Int} {N : List Rk} {C : List Int} (w : World) (ht : Tl w tb b 5 n f) (hr : RT w r 0 N C) (hrel : Rel f N C) (hn : n * 16 ≤ 140737488355328) :
    Calls Tryz.prog 14 #[.pointer (some ⟨tb, 0, none⟩), rp r] w fun e w' => e = .returned (.bool true) ∧ Below w.heap.size w w' := by
  have hmx : Tryz.prog.follows .mixedOrders = true := by kernel_rfl
  have HT : Hid (Tl w tb b 5 n f) := ht
  have HR : Hid (RT w r 0 N C) := hr
  have HREL : Hid (Rel f N C) := hrel
  have HKS : Hid (∀ ks, Sup f ks → rkeys 0 N C N.length = (Q.srtBy cfp ks).map kr) := fun ks hs => keys_rel hrel hr.len hr.nd hs
  have hke := rkeys_any w hr
  have hfew := hr.few
  have hlen := rkeys_len 0 hr.len N.length (Nat.le_refl _)
  clear ht hr hrel
  go_enter Tryz.func14, Tryz.ntmps14
  go_wp2_with fail
  refine hke.mono ?_
  rintro e w1 ⟨vk, rfl, H1⟩
  obtain ⟨R, hR⟩ : ∃ R, R = rkeys 0 N C N.length := ⟨_, rfl⟩
  rw [← hR] at hlen
  have HK1 : Hid (Lk w1 vk R) := by rw [hR]; exact H1.out.1
  have HKS' : Hid (∀ ks, Sup f ks → R = (Q.srtBy cfp ks).map kr) := fun ks hs => by rw [hR]; exact HKS.out ks hs
  have HB1 : Hid (Below w.heap.size w w1) := H1.out.2.1
  obtain ⟨pk, ck, rfl, _⟩ := HK1.out.form
  have hka := keys_any w1 (HT.out.below HB1.out) hn
  clear hke H1 hR HKS
  go_wp2_with fail
  refine hka.mono ?_
  rintro e w6 ⟨vl, ks2, hs2, rfl, how, -, hb6⟩
  have HB6 : Hid (Below w.heap.size w w6) := HB1.out.trans (hb6.mono HB1.out.size)
  have HK6 : Hid (Lk w6 (.slice pk R.length ck) R) := HK1.out.below hb6
  have HRK := HKS'.out ks2 hs2
  obtain ⟨K, hK⟩ : ∃ K, K = Q.srtBy cfp ks2 := ⟨_, rfl⟩
  rw [← hK] at HRK how
  have hl6 : Q.Ls EP w6 vl K := Q.owns_ls (E := EP) how
  obtain ⟨pl, cl, rfl⟩ := hl6.form
  have HL6 : Hid (Q.Ls EP w6 (.slice pl K.length cl) K) := hl6
  have HRK' : Hid (R = K.map kr) := HRK
  have hKl : R.length = K.length := by rw [HRK, List.length_map]
  have hKl0 : K.length ≤ 100000 := by omega
  have hle := len_any w6 (HT.out.below HB6.out)
  have HLN : Hid (∀ ks, Sup f ks → ks.length = K.length) := fun ks hs => by
    have := congrArg List.length (HKS'.out ks hs)
    rw [List.length_map, Q.srtBy_length] at this
    omega
  rw [hKl] at HK6 ⊢
  clear HRK hK how hb6 hs2 hka HB1 HK1 hKl hlen hl6 HKS'
  go_wp2_with fail
  refine hle.mono ?_
  rintro e w2 ⟨ks, hks, rfl, rfl⟩
  rw [HLN.out ks hks]
  clear hks hle
  go_wp2_with fail
  go_loopw [26] (fun s26 wr => ∃ i : Nat, i ≤ K.length ∧ s26 = .int .i64 i ∧ Gr w2 wr) (fun s26 _ => K.length - (RowKit.intOf s26).toNat)
  case atStart => exact ⟨0, Nat.zero_le _, rfl, Gr.refl _⟩
  case round =>
    obtain ⟨i, hi, rfl, hgr⟩ := hrel
    by_cases hlt : i < K.length
    · have hltz : (i : Int) < (K.length : Int) := by omega
      obtain ⟨y, hy⟩ : ∃ y, K[i]? = some y := ⟨K[i], by simp⟩
      obtain ⟨b1, o1, c1, e1, z1, x1, x2, x3⟩ := ls_at3 (HL6.out.below hgr.below) hy
      simp only [Value.slice.injEq] at e1
      obtain ⟨rfl, -, rfl⟩ := e1
      obtain ⟨b2, o2, c2, e2, z2, y1, y2⟩ := (HK6.out.below hgr.below).at2 (j := i) (x := kr y) (by rw [HRK'.out, List.getElem?_map, hy]; rfl)
      simp only [Value.slice.injEq] at e2
      obtain ⟨rfl, -, rfl⟩ := e2
      have hBr : Below w.heap.size w wr := HB6.out.trans (hgr.below.mono HB6.out.size)
      have HTr : Hid (Tl wr tb b 5 n f) := HT.out.below hBr
      have HRr : Hid (RT wr r 0 N C) := HR.out.bel hBr
      have hk1 := fun W => key_any y W
      have hg1 := fun W (hW : Gr wr W) => get_any y W (HTr.out.gr hW)
      have hg2 := fun W (hW : Gr wr W) => rget_any (kr y) W (HRr.out.gr hW)
      have heq := fun W => run_eqK (tx y) (tx y) y.1.1 y.1.1 W
      rw [show keq (tx y) y.1.1 (tx y) y.1.1 = true by simp [keq]] at heq
      have hfk := HREL.out.eq y
      obtain ⟨s, hs⟩ : ∃ s, s = rget N C (kr y) := ⟨_, rfl⟩
      rw [hfk, ← hs] at hg1
      rw [← hs] at hg2
      have hse : (s != s) = false := by simp
      have S0 : (wr.cell? ⟨b1, o1 + i * 3, none⟩ = some (.int .i64 y.1.1) ∧ wr.cell? ⟨b1, o1 + i * 3 + 1, none⟩ = some (.int .u8 y.1.2.1) ∧ wr.cell? ⟨b1, o1 + i * 3 + 2, none⟩ = some (.int .u8 y.1.2.2) ∧ wr.cell? ⟨b2, o2 + i * 2, none⟩ = some (.string (tx y).1) ∧ wr.cell? ⟨b2, o2 + i * 2 + 1, none⟩ = some (.int .i64 y.1.1)) ∧ Gr wr wr := ⟨⟨x1, x2, x3, y1, y2⟩, Gr.refl _⟩
      have keepB : ∀ W W' : World, ((W.cell? ⟨b1, o1 + i * 3, none⟩ = some (.int .i64 y.1.1) ∧ W.cell? ⟨b1, o1 + i * 3 + 1, none⟩ = some (.int .u8 y.1.2.1) ∧ W.cell? ⟨b1, o1 + i * 3 + 2, none⟩ = some (.int .u8 y.1.2.2) ∧ W.cell? ⟨b2, o2 + i * 2, none⟩ = some (.string (tx y).1) ∧ W.cell? ⟨b2, o2 + i * 2 + 1, none⟩ = some (.int .i64 y.1.1)) ∧ Gr wr W) → Gr W W' → ((W'.cell? ⟨b1, o1 + i * 3, none⟩ = some (.int .i64 y.1.1) ∧ W'.cell? ⟨b1, o1 + i * 3 + 1, none⟩ = some (.int .u8 y.1.2.1) ∧ W'.cell? ⟨b1, o1 + i * 3 + 2, none⟩ = some (.int .u8 y.1.2.2) ∧ W'.cell? ⟨b2, o2 + i * 2, none⟩ = some (.string (tx y).1) ∧ W'.cell? ⟨b2, o2 + i * 2 + 1, none⟩ = some (.int .i64 y.1.1)) ∧ Gr wr W') := fun W W' h hb => by
        have q1 : b1 < W.heap.size := Nat.lt_of_lt_of_le z1 h.2.size
        have q2 : b2 < W.heap.size := Nat.lt_of_lt_of_le z2 h.2.size
        exact ⟨⟨(hb.cell q1).trans h.1.1, (hb.cell q1).trans h.1.2.1, (hb.cell q1).trans h.1.2.2.1, (hb.cell q2).trans h.1.2.2.2.1, (hb.cell q2).trans h.1.2.2.2.2⟩, h.2.trans hb⟩
      clear hy hfk hs hBr x1 x2 x3 y1 y2
      go_wp2_with fail
      go_region_held3 (fun W => (W.cell? ⟨b1, o1 + i * 3, none⟩ = some (.int .i64 y.1.1) ∧ W.cell? ⟨b1, o1 + i * 3 + 1, none⟩ = some (.int .u8 y.1.2.1) ∧ W.cell? ⟨b1, o1 + i * 3 + 2, none⟩ = some (.int .u8 y.1.2.2) ∧ W.cell? ⟨b2, o2 + i * 2, none⟩ = some (.string (tx y).1) ∧ W.cell? ⟨b2, o2 + i * 2 + 1, none⟩ = some (.int .i64 y.1.1)) ∧ Gr wr W)
        (first | exact S0 | exact keepB _ _ (by assumption) (Gr.refl _).drew | exact keepB _ _ (by assumption) (by assumption))
        (first | (go_at_call 11; refine (hk1 _).mono ?_; rintro e w7 ⟨rfl, g7⟩) | (go_at_call 12; refine (hg1 _ (And.right (by assumption))).mono ?_; rintro e w8 ⟨rfl, g8⟩) | (go_at_call 13; refine (hg2 _ (And.right (by assumption))).mono ?_; rintro e w9 ⟨rfl, g9⟩))
      have G9 : Gr w2 w9 := hgr.trans ((Gr.refl wr).drew.trans (g7.trans (g8.trans g9)))
      clear g7 g8 g9 S0 keepB hg1 hg2 hgr hk1 heq
      go_wp2
      exact ⟨⟨i + 1, by omega, by go_num, G9⟩, by simp [RowKit.intOf]; omega⟩
    · have hltz : ¬ (i : Int) < (K.length : Int) := by omega
      go_wp2
      go_ret
      exact ⟨rfl, HB6.out.trans (hgr.below.mono HB6.out.size)⟩
end Go.Proofs.YthbdbmbdfhbeiaaGreat.Pp
