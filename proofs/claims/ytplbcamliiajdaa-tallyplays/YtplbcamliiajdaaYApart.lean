import Derived.Test.YtplbcamliiajdaaYKeep
namespace Go.Proofs.Ytplbcamliiajdaa
open Go.RowKit Go.Sort Go.Maps
attribute [local go_sem ↓] Go.wp_at_zero Go.wp_at_succ

theorem infoSl : (Try.prog.info? 32).map (fun i => (i.zero, i.size, i.bytes)) = some (some (.slice none 0 0), 1, 24) := by kernel_rfl
set_option maxHeartbeats 4000000 in
set_option maxRecDepth 100000 in
theorem apart_any (N ga c3 : Nat) (V : Nat → Value) (C : Nat → List BS) (w : World) (FM : Fam w N V C) (hN : N ≤ 100) (hC : ∀ i, i < N → (C i).length ≤ 1000) (hgl : ga < w.heap.size) (hgv : ∀ i, i < N → w.cell? ⟨ga, i, none⟩ = some (V i) ∧ (V i).ownBlock ≠ some ga) :
    Calls Try.prog 16 #[.slice (some ⟨ga, 0, none⟩) N c3] w fun e w' => e = .returned (.bool true) ∧ Kp (fun q => ∃ i, i < N ∧ (V i).ownBlock = some q) w w' := by
  have hmx : Try.prog.follows .mixedOrders = true := by kernel_rfl
  have HF : Hid (Fam w N V C) := FM
  have HC : Hid (∀ i, i < N → (C i).length ≤ 1000) := hC
  have HG : Hid (∀ i, i < N → w.cell? ⟨ga, i, none⟩ = some (V i) ∧ (V i).ownBlock ≠ some ga) := hgv
  have ht4 := fun W a b c d => run_text4 W a b c d
  have ht2 := fun W a b => run_text2 W a b
  obtain ⟨iS, hiS, hs0, hs1, hs2⟩ := info_parts infoSl
  have HiS : Hid (Try.prog.info? 32 = some iS) := hiS
  have Hs0 : Hid (iS.zero = some (.slice none 0 0)) := hs0
  have Hs1 : Hid (iS.size = 1) := hs1
  have Hs2 : Hid (iS.bytes = 24) := hs2
  clear hiS hs0 hs1 hs2
  clear FM hC hgv
  go_enter Try.func16, Try.ntmps16
  go_wp2_with fail
  go_loopw [3, 4, 5, 15] (fun _ _ _ s15 wr => ∃ j : Nat, j ≤ N ∧ s15 = .int .i64 j ∧ Hid (Fam wr N V (stage C j 0) ∧ Kp (fun q => ∃ i, i < N ∧ (V i).ownBlock = some q) w wr)) (fun _ _ _ s15 _ => N - (RowKit.intOf s15).toNat)
  case atStart => exact ⟨0, Nat.zero_le _, rfl, by rw [stage_zero]; exact HF.out, Kp.refl _ _⟩
  case round =>
    obtain ⟨j, hj, rfl, HI⟩ := hrel
    by_cases hjN : j < N
    · have hjz : (j : Int) < (N : Int) := by omega
      have HCA : Hid (∀ W, Kp (fun q => ∃ i, i < N ∧ (V i).ownBlock = some q) w W → W.cell? ⟨ga, j, none⟩ = some (V j)) := fun W hW => (World.cell?_of_block (a := ⟨ga, j, none⟩) (hW.block ga hgl (fun ⟨i, hi, e⟩ => (HG.out i hi).2 e))).trans (HG.out j hjN).1
      have hCj := HC.out j hjN
      obtain ⟨pj, cj, ej⟩ := (owns_ls (HF.out.own j hjN)).form
      have ca := HCA.out wr HI.out.2
      rw [ej] at ca
      have hga3 : ga < wr.heap.size := Nat.lt_of_lt_of_le hgl HI.out.2.size
      go_wp2_with fail
      go_loopw [5, 22] (fun _ s22 wr => ∃ i : Nat, i ≤ (C j).length ∧ s22 = .int .i64 i ∧ Hid (Fam wr N V (stage C j i) ∧ Kp (fun q => ∃ i, i < N ∧ (V i).ownBlock = some q) w wr)) (fun _ s22 _ => (C j).length - (RowKit.intOf s22).toNat)
      case atStart => exact ⟨0, Nat.zero_le _, rfl, HI.out⟩
      case round =>
        clear HI ca hga3
        obtain ⟨i, hi, rfl, HI⟩ := hrel
        by_cases hil : i < (C j).length
        · have hilz : (i : Int) < ((C j).length : Int) := by omega
          have hlen := stage_len C j i j hi
          have how := HI.out.1.own j hjN
          rw [hlen, ej] at how
          obtain ⟨g', rfl⟩ : ∃ g', pj = some ⟨g', 0, none⟩ := by
            obtain ⟨_, ⟨h0, h1⟩ | ⟨g', cap', cur, hv, _⟩⟩ := id how
            · omega
            · simp only [Value.slice.injEq] at hv
              exact ⟨g', hv.1⟩
          have hgg := (how.lt g' rfl).2
          have f1 : wr.frozen? ⟨g', i, none⟩ = false := by
            obtain ⟨_, ⟨h0, _⟩ | ⟨g'', cap', cur, hv, _, hgg, _⟩⟩ := id how
            · cases h0
            · cases hv
              simp [World.frozen?, hgg]
          obtain ⟨y, hy⟩ : ∃ y, (stage C j i j)[i]? = some y := ⟨(stage C j i j)[i]'(by omega), by simp⟩
          have x1 : wr.cell? ⟨g', i, none⟩ = some (sv y) := by
            have := how.cells (g := g') rfl i (sv y) (by simp [hy])
            rw [show (⟨g', 0, none⟩ : Addr).add i = ⟨g', 0 + i, none⟩ by unfold Addr.add; split <;> simp_all, Nat.zero_add] at this
            exact this
          have HS := fam_set (i := i) HI.out.1 hjN ej hlen (mk j i) (stage_step C j i hil)
          have HSS : Hid (Fam (wr.setCell ⟨g', i, none⟩ (.string (mk j i).1)) N V (stage C j (i + 1)) ∧ Kp (fun q => (V j).ownBlock = some q) wr (wr.setCell ⟨g', i, none⟩ (.string (mk j i).1))) := HS
          clear HS how hy
          go_wp2
          refine ⟨⟨i + 1, by omega, by go_num, HSS.out.1.below ((Gr.refl _).alloc _).below, (HI.out.2.trans HSS.out.2 (fun q _ h => ⟨j, hjN, h⟩)).trans (Kp.of_gr (S := fun _ => False) ((Gr.refl _).alloc _)) (fun _ _ h => h.elim)⟩, by simp [RowKit.intOf]; omega⟩
        · have hilz : ¬ (i : Int) < ((C j).length : Int) := by omega
          have hie : i = (C j).length := by omega
          subst hie
          have HI2 := HI.out
          rw [stage_next] at HI2
          have HI3 : Hid (Fam wr N V (stage C (j + 1) 0) ∧ Kp (fun q => ∃ i, i < N ∧ (V i).ownBlock = some q) w wr) := HI2
          clear HI2
          go_wp2
          exact ⟨⟨j + 1, by omega, by go_num, HI3.out⟩, by simp [RowKit.intOf]; omega⟩
    · have hjz : ¬ (j : Int) < (N : Int) := by omega
      have hjN' : j = N := by omega
      subst hjN'
      have hst : ∀ i, i < j → stage C j 0 i = mks i (C i).length := fun i hi => if_pos hi
      have G2 : Hid (Grw wr j V (fun i => (C i).length) wr 0 V (.slice none 0 0)) := ⟨fun i hi => by omega, fun i hi => by omega, fun i _ hi => by
        have := HI.out.1.own i hi
        rw [hst i hi, mks_len] at this
        exact this, fun i hi => by omega, World.ownsRow_nil _ _ _ _, fun g hg => by simp [Value.ownBlock] at hg, Kp.refl _ _⟩
      have K2 : Hid (Kp (fun q => ∃ i, i < j ∧ (V i).ownBlock = some q) w wr) := HI.out.2
      have FAR : Hid (∀ i i', i < j → i' < j → i ≠ i' → ∀ g, (V i).ownBlock = some g → (V i').ownBlock ≠ some g) := HI.out.1.far
      have LOW : Hid (∀ i, i < j → ∀ g, (V i).ownBlock = some g → g < wr.heap.size) := fun i hi g hg => (HI.out.1.own i hi).lt g hg |>.2
      clear HI hst HF
      generalize wr = w2 at *
      have hs12 := K2.out.size
      go_wp2_with fail
      clear hjz
      go_loopw [6, 7, 8, 41] (fun s6 _ _ s41 wr => ∃ (k : Nat) (X : Nat → Value), k ≤ j ∧ s41 = .int .i64 k ∧ Hid (Grw w2 j V (fun i => (C i).length) wr k X s6)) (fun _ _ _ s41 _ => j - (RowKit.intOf s41).toNat)
      case atStart => exact ⟨0, V, Nat.zero_le _, rfl, G2.out⟩
      case round =>
        clear G2
        obtain ⟨k, X, hk, rfl, HW⟩ := hrel
        by_cases hkj : k < j
        · have hkz : (k : Int) < (j : Int) := by omega
          have hgaV : ∀ i, i < j → (V i).ownBlock ≠ some ga := fun i hi => (HG.out i hi).2
          have ca : wr.cell? ⟨ga, k, none⟩ = some (V k) := ((World.cell?_of_block (a := ⟨ga, k, none⟩) (HW.out.kp.block ga (Nat.lt_of_lt_of_le hgl hs12) (fun ⟨i, hi, e⟩ => hgaV i hi e))).trans (World.cell?_of_block (a := ⟨ga, k, none⟩) (K2.out.block ga hgl (fun ⟨i, hi, e⟩ => hgaV i hi e)))).trans (HG.out k hkj).1
          have hga3 : ga < wr.heap.size := Nat.lt_of_lt_of_le (Nat.lt_of_lt_of_le hgl hs12) HW.out.kp.size
          have hCk := HC.out k hkj
          have hOk := HW.out.rest k (Nat.le_refl _) hkj
          obtain ⟨pk, ck, ek⟩ := (owns_ls (l := mks k (C k).length) (by rw [mks_len]; exact hOk)).form
          rw [mks_len] at ek
          rw [ek] at ca hOk
          have HOK : Hid (wr.ownsRow 0 9 1 (.slice pk (C k).length ck) (C k).length ((mks k (C k).length).map sv)) := hOk
          have HEK : Hid (V k = .slice pk (C k).length ck) := ek
          have hsw := HW.out.kp.size
          clear hOk ek hgaV
          go_wp2_with (at_builtin; refine wpAppKeep1 rfl _ _ rfl (.slice pk (C k).length ck) (C k).length (mks k (C k).length) rfl (HOK.out.alloc _) (mks_len _ _) (mke k) (by show Value.slice (some ⟨wr.heap.size + 1, 0, none⟩) 1 1 = _; simp) (by omega) ?_)
          intro g cap W1 ho1 hk1a hl1a hold
          have hk1 : Kp (fun q => (Value.slice pk (C k).length ck).ownBlock = some q) wr W1 := (Kp.of_below ((Gr.refl wr).alloc _).below).trans hk1a (fun _ _ h => h)
          have hl1 : (Value.slice pk (C k).length ck).ownBlock = some g ∨ wr.heap.size ≤ g := hl1a.imp id (fun h => Nat.le_trans (by simp) h)
          have HM1 : Hid (W1.ownsRow w2.heap.size 32 1 u6 k ((List.range k).map X)) := owns_kp hk1 HW.out.more (fun q hq e => by
            have h1 := (HW.out.more.lt q hq).1
            have h2 := LOW.out k hkj q (by rw [HEK.out]; exact e)
            omega)
          have hz1 := hk1.size
          have HX1 : Hid (Ls W1 (.slice (some ⟨g, 0, none⟩) ((C k).length + 1) cap) (mks k (C k).length ++ [mke k])) := by
            have := owns_ls (l := mks k (C k).length ++ [mke k]) (by simpa [mks_len] using ho1)
            exact this
          have HK1 : Hid (Kp (fun q => (V k).ownBlock = some q) wr W1) := by rw [HEK.out]; exact hk1
          have HL1 : Hid (∀ q, (Value.slice (some ⟨g, 0, none⟩) ((C k).length + 1) cap).ownBlock = some q → (V k).ownBlock = some q ∨ wr.heap.size ≤ q) := fun q hq => by
            have : q = g := by simpa [Value.ownBlock] using hq.symm
            rw [this, HEK.out]; exact hl1
          have HOLD : Hid (Ls W1 (V k) (mks k (C k).length)) := by rw [HEK.out]; exact hold
          clear ho1 hk1 hl1 hold hk1a hl1a
          go_wp2_with (at_builtin; refine wpList_append_lies _ rfl _ _ 40 rfl w2.heap.size 32 iS (.slice none 0 0) 1 24 Try.underlying40 HiS.out Hs0.out Hs1.out Hs2.out rfl (by decide) u6 k _ rfl (World.ownsRow.alloc HM1.out _) ⟨W1.heap.size, 0, none⟩ 1 1 [.slice (some ⟨g, 0, none⟩) ((C k).length + 1) cap] rfl rfl (World.news_of_block (heap_alloc_new _ _)) (fun u hu => by simp at hu; subst hu; rfl) (by decide) (by unfold maxLen; omega) (by omega) (by simp; omega) _ rfl ?_)
          intro g7 c7 W3 ho3 hg3 hl3 _
          have HS := HW.out.step hkj FAR.out LOW.out HX1.out HL1.out HOLD.out HK1.out ho3 ((Kp.of_below ((Gr.refl W1).alloc _).below).trans (Kp.grownBy (S := fun q => u6.ownBlock = some q) hg3 (fun _ h => h)) (fun _ _ h => h)) (fun q hq => by
            have : q = g7 := by simpa [Value.ownBlock] using hq.symm
            rw [this]
            exact hl3.imp id (fun e => by rw [e]; simp))
          have HSS : Hid (Grw w2 j V (fun i => (C i).length) W3 (k + 1) (fun i => if i = k then .slice (some ⟨g, 0, none⟩) ((C k).length + 1) cap else X i) (.slice (some ⟨g7, 0, none⟩) (k + 1) c7)) := HS
          clear HS ho3 hg3 hl3
          go_wp2
          exact ⟨⟨k + 1, _, by omega, by go_num, HSS.out⟩, by simp [RowKit.intOf]; omega⟩
        · have hkz : ¬ (k : Int) < (j : Int) := by omega
          have hkj' : k = j := by omega
          subst hkj'
          have GW : Hid (Grw w2 k V (fun i => (C i).length) wr k X u6) := HW.out
          have hmore := HW.out.more
          obtain ⟨p7, c7, g7, rfl, h7⟩ : ∃ p7 c7 g7, u6 = .slice p7 k c7 ∧ ∀ i, i < k → p7 = some ⟨g7, 0, none⟩ ∧ g7 < wr.heap.size ∧ wr.cell? ⟨g7, i, none⟩ = some (X i) := by
            obtain ⟨_, ⟨h0, h1⟩ | ⟨ga, cap, cur, h0, hbg, hgg, _⟩⟩ := id hmore
            · exact ⟨none, 0, 0, by rw [h0, h1], fun i hi => by omega⟩
            · refine ⟨_, _, ga, h0, fun i hi => ⟨rfl, (Array.getElem?_eq_some_iff.1 hgg).1, ?_⟩⟩
              have := hmore.cells (g := ga) (by rw [h0]; rfl) i (X i) (by simp [hi])
              rw [addP, Nat.zero_add] at this
              exact this
          have H7 : Hid (∀ i, i < k → p7 = some ⟨g7, 0, none⟩ ∧ g7 < wr.heap.size ∧ wr.cell? ⟨g7, i, none⟩ = some (X i)) := h7
          have hga3 : ga < wr.heap.size := Nat.lt_of_lt_of_le (Nat.lt_of_lt_of_le hgl hs12) HW.out.kp.size
          have HCA : Hid (∀ i, i < k → wr.cell? ⟨ga, i, none⟩ = some (V i)) := fun i hi => by
            have hgaV : ∀ i, i < k → (V i).ownBlock ≠ some ga := fun i hi => (HG.out i hi).2
            exact ((World.cell?_of_block (a := ⟨ga, i, none⟩) (HW.out.kp.block ga (Nat.lt_of_lt_of_le hgl hs12) (fun ⟨i, hi, e⟩ => hgaV i hi e))).trans (World.cell?_of_block (a := ⟨ga, i, none⟩) (K2.out.block ga hgl (fun ⟨i, hi, e⟩ => hgaV i hi e)))).trans (HG.out i hi).1
          have BF : Hid (Kp (fun q => ∃ i, i < k ∧ (V i).ownBlock = some q) w wr) := K2.out.trans HW.out.kp (fun _ _ h => h)
          clear hmore h7 HW K2 LOW FAR HiS Hs0 Hs1 Hs2 hs12 HG
          generalize wr = w3 at *
          go_wp2_with fail
          clear hkz
          go_loopw [9, 10, 11, 12, 59] (fun _ _ _ _ s59 wr => ∃ i : Nat, i ≤ k ∧ s59 = .int .i64 i ∧ Gr w3 wr) (fun _ _ _ _ s59 _ => k - (RowKit.intOf s59).toNat)
          case atStart => exact ⟨0, Nat.zero_le _, rfl, Gr.refl _⟩
          case round =>
            obtain ⟨i, hi, rfl, hgr⟩ := hrel
            by_cases hik : i < k
            · have hikz : (i : Int) < (k : Int) := by omega
              obtain ⟨hp7, hg7, c7x0⟩ := H7.out i hik
              have c3x0 := HCA.out i hik
              subst hp7
              have hCi := HC.out i hik
              have LX := GW.out.big i hik
              have LV := GW.out.old i hik
              obtain ⟨px, cx, ex⟩ := LX.form
              obtain ⟨pv, cv, ev⟩ := LV.form
              rw [List.length_append, mks_len, List.length_singleton] at ex
              rw [mks_len] at ev
              rw [ex] at LX c7x0
              rw [ev] at LV c3x0
              have HLX : Hid (Ls w3 (.slice px ((C i).length + 1) cx) (mks i (C i).length ++ [mke i])) := LX
              have HLV : Hid (Ls w3 (.slice pv (C i).length cv) (mks i (C i).length)) := LV
              have H7X : Hid (w3.cell? ⟨g7, i, none⟩ = some (.slice px ((C i).length + 1) cx)) := c7x0
              have c3x := (hgr.cell hga3).trans c3x0
              have hga4 := Nat.lt_of_lt_of_le hga3 hgr.size
              generalize (C i).length = n at *
              clear ex ev LX LV c7x0 c3x0
              go_wp2_with fail
              clear c3x hga4
              go_loopw [11, 12, 66] (fun _ _ s66 wr => ∃ q : Nat, q ≤ n ∧ s66 = .int .i64 q ∧ Gr w3 wr) (fun _ _ s66 _ => n - (RowKit.intOf s66).toNat)
              case atStart => exact ⟨0, Nat.zero_le _, rfl, hgr⟩
              case round =>
                clear hgr
                obtain ⟨q, hq, rfl, hgr⟩ := hrel
                have c7x := (hgr.cell hg7).trans H7X.out
                have hg74 := Nat.lt_of_lt_of_le hg7 hgr.size
                by_cases hqn : q < n
                · have hqz : (q : Int) < (n : Int) := by omega
                  have hqz1 : (q : Int) < (n : Int) + 1 := by omega
                  obtain ⟨b1, o1, c1, e1, z1, x1⟩ := (HLX.out.below hgr.below).at1 (j := q) (x := mk i q) (by rw [List.getElem?_append_left (by rw [mks_len]; exact hqn)]; exact mks_get hqn)
                  obtain ⟨b2, o2, c2, e2, z2, y1⟩ := (HLV.out.below hgr.below).at1 (j := q) (x := mk i q) (mks_get hqn)
                  simp only [Value.slice.injEq] at e1 e2
                  obtain ⟨rfl, -, rfl⟩ := e1
                  obtain ⟨rfl, -, rfl⟩ := e2
                  have X1 : wr.cell? ⟨b1, o1 + q, none⟩ = some (.string (bts [255, (i : Int), (q : Int) % 256, (q : Int) / 256])) := x1
                  have Y1 : wr.cell? ⟨b2, o2 + q, none⟩ = some (.string (bts [255, (i : Int), (q : Int) % 256, (q : Int) / 256])) := y1
                  have hself : ((bts [255, (i : Int), (q : Int) % 256, (q : Int) / 256]).toList == (bts [255, (i : Int), (q : Int) % 256, (q : Int) / 256]).toList) = true := by simp
                  clear x1 y1
                  go_wp2
                  exact ⟨⟨q + 1, by omega, by go_num, hgr.alloc _⟩, by simp [RowKit.intOf]; omega⟩
                · have hqz : ¬ (q : Int) < (n : Int) := by omega
                  obtain ⟨b1, o1, c1, e1, z1, x1⟩ := (HLX.out.below hgr.below).at1 (j := n) (x := mke i) (by rw [List.getElem?_append_right (by rw [mks_len]; exact Nat.le_refl _), mks_len, Nat.sub_self]; rfl)
                  simp only [Value.slice.injEq] at e1
                  obtain ⟨rfl, -, rfl⟩ := e1
                  have X1 : wr.cell? ⟨b1, o1 + n, none⟩ = some (.string (bts [254, (i : Int)])) := x1
                  have hself : ((bts [254, (i : Int)]).toList == (bts [254, (i : Int)]).toList) = true := by simp
                  clear x1
                  have S0 : wr.cell? ⟨g7, i, none⟩ = some (.slice (some ⟨b1, o1, none⟩) (n + 1) cx) ∧ wr.cell? ⟨b1, o1 + n, none⟩ = some (.string (bts [254, (i : Int)])) ∧ g7 < wr.heap.size ∧ b1 < wr.heap.size := ⟨c7x, X1, hg74, z1⟩
                  have keepB : ∀ W W' : World, (W.cell? ⟨g7, i, none⟩ = some (.slice (some ⟨b1, o1, none⟩) (n + 1) cx) ∧ W.cell? ⟨b1, o1 + n, none⟩ = some (.string (bts [254, (i : Int)])) ∧ g7 < W.heap.size ∧ b1 < W.heap.size) → Below W.heap.size W W' → (W'.cell? ⟨g7, i, none⟩ = some (.slice (some ⟨b1, o1, none⟩) (n + 1) cx) ∧ W'.cell? ⟨b1, o1 + n, none⟩ = some (.string (bts [254, (i : Int)])) ∧ g7 < W'.heap.size ∧ b1 < W'.heap.size) := fun W W' h hb =>
                    ⟨(hb.cell (p := ⟨g7, i, none⟩) h.2.2.1).trans h.1, (hb.cell (p := ⟨b1, o1 + n, none⟩) h.2.2.2).trans h.2.1, Nat.lt_of_lt_of_le h.2.2.1 hb.size, Nat.lt_of_lt_of_le h.2.2.2 hb.size⟩
                  have hn1 : (n : Int) < (n : Int) + 1 := by omega
                  have hn2 : (n : Int) < ((n + 1 : Nat) : Int) := by omega
                  have ht2d := run_text2d wr 254 (i : Int)
                  have hwi : IntKind.u8.wrap (i : Int) = (i : Int) := by simp [IntKind.wrap, IntKind.bits, IntKind.signed]; omega
                  go_wp2_with fail
                  clear keepB S0
                  go_region
                  all_goals go_wp2
                  all_goals exact ⟨⟨i + 1, by omega, by go_num, (hgr.alloc _).drew⟩, by simp [RowKit.intOf]; omega⟩
            · have hikz : ¬ (i : Int) < (k : Int) := by omega
              go_wp2
              go_ret
              exact ⟨rfl, BF.out.trans (Kp.of_gr (S := fun _ => False) hgr) (fun _ _ h => h.elim)⟩
end Go.Proofs.Ytplbcamliiajdaa
