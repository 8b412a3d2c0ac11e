import Derived.Test.YtcmgmgnmhhkdgaaLgKp0
import Derived.Test.YtcmgmgnmhhkdgaaLgAp
import Derived.Deep.CutBlock
namespace Go.Proofs.Ytcmgmgnmhhkdgaa
open Go.RowKit Go.Sort Go.Maps Go.Shelf
open Tt (addc addf)
attribute [local go_sem ↓] Go.wp_at_zero Go.wp_at_succ
theorem m600 {n : Nat} (h : n ≤ 600) : n * 40 ≤ 140737488355328 ∧ n * 32 ≤ 140737488355328 ∧ n < maxLen ∧ n ≤ 1000 ∧ n ≤ 140737488355328 := by unfold maxLen; omega
@[reducible] def pick5 {α : Type} (a b c d e : α) : Nat → α
  | 0 => a
  | 1 => b
  | 2 => c
  | 3 => d
  | _ => e
theorem five {P : Nat → Prop} (h0 : P 0) (h1 : P 1) (h2 : P 2) (h3 : P 3) (h4 : P 4) : ∀ i, i < 5 → P i := fun i hi => by
  have : i = 0 ∨ i = 1 ∨ i = 2 ∨ i = 3 ∨ i = 4 := by omega
  rcases this with rfl | rfl | rfl | rfl | rfl <;> assumption
theorem far_of {V : Nat → Value} {lo hi : Nat → Nat} (hb : ∀ i, i < 5 → ∀ g, (V i).ownBlock = some g → lo i ≤ g ∧ g < hi i) (hs : ∀ i, i < 5 → ∀ j, j < 5 → i < j → hi i ≤ lo j) : ∀ i j, i < 5 → j < 5 → i ≠ j → ∀ g, (V i).ownBlock = some g → (V j).ownBlock ≠ some g := fun i j hi' hj hne g h1 h2 => by
  have a := hb i hi' g h1
  have b := hb j hj g h2
  rcases Nat.lt_or_ge i j with h | h
  · have := hs i hi' j hj h; omega
  · have := hs j hj i hi' (by omega); omega
theorem far_x {V U : Nat → Value} {lo hi lo' hi' : Nat → Nat} (hb : ∀ i, i < 5 → ∀ g, (V i).ownBlock = some g → lo i ≤ g ∧ g < hi i) (hb' : ∀ i, i < 5 → ∀ g, (U i).ownBlock = some g → lo' i ≤ g ∧ g < hi' i) (hs : ∀ i, i < 5 → ∀ j, j < 5 → hi i ≤ lo' j ∨ hi' j ≤ lo i) : ∀ i j, i < 5 → j < 5 → ∀ g, (V i).ownBlock = some g → (U j).ownBlock ≠ some g := fun i j hi' hj g h1 h2 => by
  have a := hb i hi' g h1
  have b := hb' j hj g h2
  rcases hs i hi' j hj with h | h <;> omega
theorem far_g {V : Nat → Value} {lo hi : Nat → Nat} {x y a b g : Nat} (hb : ∀ i, i < 5 → ∀ g, (V i).ownBlock = some g → lo i ≤ g ∧ g < hi i) (hg : (x ≤ g ∧ g < y) ∨ (a ≤ g ∧ g < b)) (h1 : ∀ i, i < 5 → hi i ≤ x ∨ y ≤ lo i) (h2 : ∀ i, i < 5 → hi i ≤ a ∨ b ≤ lo i) : ∀ i, i < 5 → (V i).ownBlock ≠ some g := fun i hi' e => by
  have q := hb i hi' g e
  have r1 := h1 i hi'
  have r2 := h2 i hi'
  omega
theorem ltne {a b m : Nat} (h1 : a < m) (h2 : m ≤ b) : ¬ a = b := by omega
set_option maxHeartbeats 16000000 in
set_option maxRecDepth 100000 in
theorem ledgerKeeps_any (vs vm : Value) (sc mr : List Opx) (w : World) (hs : Ls EO w vs sc) (hcap : ∀ p n c, vs = .slice p n c → n ≤ c) (hn : sc.length * 48 ≤ 140737488355328) (hm : Ls EO w vm mr) (hmn : mr.length * 48 ≤ 140737488355328) :
    Calls Try.prog 4 #[vs, vm] w fun e w' => e = .returned (.bool true) ∧ Below w.heap.size w w' := by
  have hmx : Try.prog.follows .mixedOrders = true := by kernel_rfl
  obtain ⟨pm, cm, rfl⟩ := hm.form
  obtain ⟨ps, cs, rfl⟩ := hs.form
  have HM := hid hm
  have hfl := filled_any _ sc false w hs hcap hn
  have h300 := len300 sc
  have hmz : (mr.length : Int) ≤ 2932031007402 := by omega
  clear hmn
  clear hs hm hcap
  go_enter Try.func4, Try.ntmps4
  go_wp2_with fail
  refine hfl.mono ?_
  rintro e w1 ⟨la, ta, ba, rfl, ho1, hg1, hb1⟩
  obtain ⟨n1, hn1⟩ : ∃ n, n = (sc.take 300).length := ⟨_, rfl⟩
  rw [← hn1] at hg1 h300
  have hkn := known_any w1
  clear hfl hn1
  go_wp2_with fail
  refine hkn.mono ?_
  rintro e w2 ⟨rfl, hb2⟩
  have L2 : Hid (Lg w2 la ta ba n1 (smf (Go.Proofs.Ytcmgmgnmhhkdgaa.wr (sc.take 300)))) := hg1.below hb2
  have OA : Hid (∀ k, Lo la ta ba k → w.heap.size ≤ k) := ho1
  have B2 := hid (hb1.trans (hb2.mono hb1.size))
  have hcp := copy_any w2 L2.out
  clear hkn hb2 hb1 hg1 ho1
  go_wp2_with fail
  refine hcp.mono ?_
  rintro e w3 ⟨lc, tc, bc, rfl, ho3, hg3, hb3⟩
  have L3 := hid (L2.out.below hb3)
  have C3 := hid hg3
  have OC := hid ho3
  have B3 := hid (B2.out.trans (hb3.mono B2.out.size))
  have HBC : Hid (bc < w3.heap.size) := hg3.tl.ta.lt
  have HTC : Hid (tc < w3.heap.size) := hg3.tl.lt
  have HLC : Hid (w.heap.size ≤ bc) := Nat.le_trans B2.out.size (ho3 bc (Or.inr (Or.inr rfl)))
  have HLT : Hid (w.heap.size ≤ tc) := Nat.le_trans B2.out.size (ho3 tc (Or.inr (Or.inl rfl)))
  have LAC : Hid (∀ k, Lo la ta ba k → k < w2.heap.size) := fun k hk => L2.out.own hk
  have LCC : Hid (w2.heap.size ≤ bc ∧ w2.heap.size ≤ tc) := ⟨ho3 bc (Or.inr (Or.inr rfl)), ho3 tc (Or.inr (Or.inl rfl))⟩
  have Z23 := hid hb3.size
  have HLL : Hid (lc < w3.heap.size) := hg3.lt
  have B3S := hid B3.out.size
  obtain ⟨F, hF⟩ : ∃ F, F = smf (Go.Proofs.Ytcmgmgnmhhkdgaa.wr (sc.take 300)) := ⟨_, rfl⟩
  have HF := hid hF
  rw [← hF] at L3 C3
  obtain ⟨kk, hkk, hkl⟩ := L3.out.sup
  obtain ⟨K, hK⟩ : ∃ K, K = stS kk := ⟨_, rfl⟩
  obtain ⟨R, hR⟩ : ∃ R, R = chs F kk := ⟨_, rfl⟩
  have HRK : Hid (∀ ks, Sup F ks → chs F ks = R ∧ stS ks = K) := fun ks h => ⟨by rw [hR]; exact chs_sup h hkk, by rw [hK]; exact stS_sup h hkk⟩
  have RK : Hid (R = K.map fun s => (s, F s)) := by rw [hR, hK]; rfl
  have hRl : R.length ≤ 300 := by rw [hR, chs_length]; exact Nat.le_trans hkl h300
  have hKl : K.length = R.length := by rw [RK.out, List.length_map]
  have KL := hid hKl
  have N1 := m600 (show n1 ≤ 600 by omega)
  clear hcp hb3 hg3 ho3 L2 hF hkk hkl hR hK kk hKl
  have LL := L3
  have CC := C3
  have BW := B3
  clear L3 C3 B3 B2
  have hc := changes_any w3 LL.out N1.1
  go_wp2_with fail
  refine hc.mono ?_
  rintro e w4 ⟨v0, k0, hs0, rfl, ho0, -, hb⟩
  rw [(HRK.out k0 hs0).1] at ho0
  obtain ⟨p0, c0, rfl⟩ := owns_form ho0
  clear hc
  have LL' := hid (LL.out.below hb)
  clear LL
  have LL := LL'
  clear LL'
  have CC' := hid (CC.out.below hb)
  clear CC
  have CC := CC'
  clear CC'
  have BW' := hid (BW.out.trans (hb.mono BW.out.size))
  clear BW
  have BW := BW'
  clear BW'
  have Zw3w4 := hid hb.size
  have OV0 := hid (Own.mk' ho0)
  clear ho0 hs0 hb
  have hc := changes_any w4 CC.out N1.1
  go_wp2_with fail
  refine hc.mono ?_
  rintro e w5 ⟨v1, k1, hs1, rfl, ho1, -, hb⟩
  rw [(HRK.out k1 hs1).1] at ho1
  obtain ⟨p1, c1, rfl⟩ := owns_form ho1
  clear hc
  have OV0' := hid (OV0.out.below hb)
  clear OV0
  have OV0 := OV0'
  clear OV0'
  have LL' := hid (LL.out.below hb)
  clear LL
  have LL := LL'
  clear LL'
  have CC' := hid (CC.out.below hb)
  clear CC
  have CC := CC'
  clear CC'
  have BW' := hid (BW.out.trans (hb.mono BW.out.size))
  clear BW
  have BW := BW'
  clear BW'
  have Zw4w5 := hid hb.size
  have OV1 := hid (Own.mk' ho1)
  clear ho1 hs1 hb
  have hc := changes_any w5 LL.out N1.1
  go_wp2_with fail
  refine hc.mono ?_
  rintro e w6 ⟨v2, k2, hs2, rfl, ho2, -, hb⟩
  rw [(HRK.out k2 hs2).1] at ho2
  obtain ⟨p2, c2, rfl⟩ := owns_form ho2
  clear hc
  have OV0' := hid (OV0.out.below hb)
  clear OV0
  have OV0 := OV0'
  clear OV0'
  have OV1' := hid (OV1.out.below hb)
  clear OV1
  have OV1 := OV1'
  clear OV1'
  have LL' := hid (LL.out.below hb)
  clear LL
  have LL := LL'
  clear LL'
  have CC' := hid (CC.out.below hb)
  clear CC
  have CC := CC'
  clear CC'
  have BW' := hid (BW.out.trans (hb.mono BW.out.size))
  clear BW
  have BW := BW'
  clear BW'
  have Zw5w6 := hid hb.size
  have OV2 := hid (Own.mk' ho2)
  clear ho2 hs2 hb
  go_wp2_with (first | (at_builtin; refine wpAppL (E := EV) Try.underlying44 infoLC rfl (by decide) rfl _ _ rfl w6.heap.size (.slice none 0 0) 0 [] rfl (World.ownsRow_nil _ _ _ _) _ [vw p0 R.length c0, vw p1 R.length c1, vw p2 R.length c2] rfl (lit_ls rfl) (by show (0 + 3) * 24 ≤ 140737488355328; decide) (by show 0 + 3 ≤ maxLen; unfold maxLen; decide) ((Gr.refl w6).alloc _).size ?_; intro v' w7 ho hg; have ho : w7.ownsRow w6.heap.size 27 1 v' 3 (fl EV [vw p0 R.length c0, vw p1 R.length c1, vw p2 R.length c2]) := ho; obtain ⟨pl, cpl, rfl⟩ := owns_form ho))
  have hb : Below w6.heap.size w6 w7 := ((Gr.refl w6).alloc _).below.trans ((Kp.grownBy (S := fun _ => False) hg (fun k hk => by cases hk)).below ((Gr.refl w6).alloc _).size (fun k hk => hk.elim))
  have OV0' := hid (OV0.out.below hb)
  clear OV0
  have OV0 := OV0'
  clear OV0'
  have OV1' := hid (OV1.out.below hb)
  clear OV1
  have OV1 := OV1'
  clear OV1'
  have OV2' := hid (OV2.out.below hb)
  clear OV2
  have OV2 := OV2'
  clear OV2'
  have LL' := hid (LL.out.below hb)
  clear LL
  have LL := LL'
  clear LL'
  have CC' := hid (CC.out.below hb)
  clear CC
  have CC := CC'
  clear CC'
  have BW' := hid (BW.out.trans (hb.mono BW.out.size))
  clear BW
  have BW := BW'
  clear BW'
  have Zw6w7 := hid hb.size
  have OLV : Hid (Own w7 27 1 (.slice pl 3 cpl) 3 (fl EV [vw p0 R.length c0, vw p1 R.length c1, vw p2 R.length c2]) w6.heap.size w7.heap.size) := Own.mk' ho
  clear ho hg hb
  have hc := lkeys_any w7 LL.out N1.2.1
  go_wp2_with fail
  refine hc.mono ?_
  rintro e w8 ⟨u0, k0, hs0, rfl, ho0, -, hb⟩
  rw [(HRK.out k0 hs0).2, KL.out] at ho0
  obtain ⟨q0, d0, rfl⟩ := owns_form ho0
  clear hc
  have OV0' := hid (OV0.out.below hb)
  clear OV0
  have OV0 := OV0'
  clear OV0'
  have OV1' := hid (OV1.out.below hb)
  clear OV1
  have OV1 := OV1'
  clear OV1'
  have OV2' := hid (OV2.out.below hb)
  clear OV2
  have OV2 := OV2'
  clear OV2'
  have OLV' := hid (OLV.out.below hb)
  clear OLV
  have OLV := OLV'
  clear OLV'
  have LL' := hid (LL.out.below hb)
  clear LL
  have LL := LL'
  clear LL'
  have CC' := hid (CC.out.below hb)
  clear CC
  have CC := CC'
  clear CC'
  have BW' := hid (BW.out.trans (hb.mono BW.out.size))
  clear BW
  have BW := BW'
  clear BW'
  have Zw7w8 := hid hb.size
  have OU0 := hid (Own.mk' ho0)
  clear ho0 hs0 hb
  have hc := lkeys_any w8 CC.out N1.2.1
  go_wp2_with fail
  refine hc.mono ?_
  rintro e w9 ⟨u1, k1, hs1, rfl, ho1, -, hb⟩
  rw [(HRK.out k1 hs1).2, KL.out] at ho1
  obtain ⟨q1, d1, rfl⟩ := owns_form ho1
  clear hc
  have OV0' := hid (OV0.out.below hb)
  clear OV0
  have OV0 := OV0'
  clear OV0'
  have OV1' := hid (OV1.out.below hb)
  clear OV1
  have OV1 := OV1'
  clear OV1'
  have OV2' := hid (OV2.out.below hb)
  clear OV2
  have OV2 := OV2'
  clear OV2'
  have OLV' := hid (OLV.out.below hb)
  clear OLV
  have OLV := OLV'
  clear OLV'
  have OU0' := hid (OU0.out.below hb)
  clear OU0
  have OU0 := OU0'
  clear OU0'
  have LL' := hid (LL.out.below hb)
  clear LL
  have LL := LL'
  clear LL'
  have CC' := hid (CC.out.below hb)
  clear CC
  have CC := CC'
  clear CC'
  have BW' := hid (BW.out.trans (hb.mono BW.out.size))
  clear BW
  have BW := BW'
  clear BW'
  have Zw8w9 := hid hb.size
  have OU1 := hid (Own.mk' ho1)
  clear ho1 hs1 hb
  have hc := lkeys_any w9 LL.out N1.2.1
  go_wp2_with fail
  refine hc.mono ?_
  rintro e w10 ⟨u2, k2, hs2, rfl, ho2, -, hb⟩
  rw [(HRK.out k2 hs2).2, KL.out] at ho2
  obtain ⟨q2, d2, rfl⟩ := owns_form ho2
  clear hc
  have OV0' := hid (OV0.out.below hb)
  clear OV0
  have OV0 := OV0'
  clear OV0'
  have OV1' := hid (OV1.out.below hb)
  clear OV1
  have OV1 := OV1'
  clear OV1'
  have OV2' := hid (OV2.out.below hb)
  clear OV2
  have OV2 := OV2'
  clear OV2'
  have OLV' := hid (OLV.out.below hb)
  clear OLV
  have OLV := OLV'
  clear OLV'
  have OU0' := hid (OU0.out.below hb)
  clear OU0
  have OU0 := OU0'
  clear OU0'
  have OU1' := hid (OU1.out.below hb)
  clear OU1
  have OU1 := OU1'
  clear OU1'
  have LL' := hid (LL.out.below hb)
  clear LL
  have LL := LL'
  clear LL'
  have CC' := hid (CC.out.below hb)
  clear CC
  have CC := CC'
  clear CC'
  have BW' := hid (BW.out.trans (hb.mono BW.out.size))
  clear BW
  have BW := BW'
  clear BW'
  have Zw9w10 := hid hb.size
  have OU2 := hid (Own.mk' ho2)
  clear ho2 hs2 hb
  go_wp2_with (first | (at_builtin; refine wpAppL (E := EV) Try.underlying45 infoLS rfl (by decide) rfl _ _ rfl w10.heap.size (.slice none 0 0) 0 [] rfl (World.ownsRow_nil _ _ _ _) _ [vw q0 R.length d0, vw q1 R.length d1, vw q2 R.length d2] rfl (lit_ls rfl) (by show (0 + 3) * 24 ≤ 140737488355328; decide) (by show 0 + 3 ≤ maxLen; unfold maxLen; decide) ((Gr.refl w10).alloc _).size ?_; intro v' w11 ho hg; have ho : w11.ownsRow w10.heap.size 29 1 v' 3 (fl EV [vw q0 R.length d0, vw q1 R.length d1, vw q2 R.length d2]) := ho; obtain ⟨pk, cpk, rfl⟩ := owns_form ho))
  have hb : Below w10.heap.size w10 w11 := ((Gr.refl w10).alloc _).below.trans ((Kp.grownBy (S := fun _ => False) hg (fun k hk => by cases hk)).below ((Gr.refl w10).alloc _).size (fun k hk => hk.elim))
  have OV0' := hid (OV0.out.below hb)
  clear OV0
  have OV0 := OV0'
  clear OV0'
  have OV1' := hid (OV1.out.below hb)
  clear OV1
  have OV1 := OV1'
  clear OV1'
  have OV2' := hid (OV2.out.below hb)
  clear OV2
  have OV2 := OV2'
  clear OV2'
  have OLV' := hid (OLV.out.below hb)
  clear OLV
  have OLV := OLV'
  clear OLV'
  have OU0' := hid (OU0.out.below hb)
  clear OU0
  have OU0 := OU0'
  clear OU0'
  have OU1' := hid (OU1.out.below hb)
  clear OU1
  have OU1 := OU1'
  clear OU1'
  have OU2' := hid (OU2.out.below hb)
  clear OU2
  have OU2 := OU2'
  clear OU2'
  have LL' := hid (LL.out.below hb)
  clear LL
  have LL := LL'
  clear LL'
  have CC' := hid (CC.out.below hb)
  clear CC
  have CC := CC'
  clear CC'
  have BW' := hid (BW.out.trans (hb.mono BW.out.size))
  clear BW
  have BW := BW'
  clear BW'
  have Zw10w11 := hid hb.size
  have OLU : Hid (Own w11 29 1 (.slice pk 3 cpk) 3 (fl EV [vw q0 R.length d0, vw q1 R.length d1, vw q2 R.length d2]) w10.heap.size w11.heap.size) := Own.mk' ho
  clear ho hg hb
  obtain ⟨gl, hgl, zgl, cgl⟩ := rows_at OLV.out.row (by decide)
  subst hgl
  have cg0 := cgl 0 _ rfl
  have lv0 := hid (owns_ls (E := EC) OV0.out.row)
  have hix : ∀ W : World, Sem.run Try.prog (Instr.indexAt 44 (.slice (some ⟨gl, 0, none⟩) 3 cpl) (.int .i64 0)) W = .ok (.pointer (some ⟨gl, 0, none⟩)) W := by intro W; go_simp
  clear cgl
  go_wp2_with fail
  rw [hix]
  clear hix
  go_wp2_with (first | (at_builtin; refine wpAppL (E := EC) Try.underlying27 infoC rfl (by decide) rfl _ _ rfl w11.heap.size (.slice (some ⟨w11.heap.size, 0, none⟩) 0 0) 0 [] rfl (World.ownsRow_made w11 #[] 0 (Nat.le_refl _) (by unfold maxLen; omega) rfl) _ R rfl (lv0.out.below ((Gr.refl w11).alloc _).below) (by omega) (by unfold maxLen; omega) ((Gr.refl w11).alloc _).size ?_; intro v' w12 ho hg; rw [Nat.zero_add, List.nil_append] at ho; obtain ⟨pw, cw, rfl⟩ := owns_form ho))
  have hb : Below w11.heap.size w11 w12 := ((Gr.refl w11).alloc _).below.trans ((Kp.grownBy (S := fun k => k = w11.heap.size) hg (fun k hk => by simpa [Value.ownBlock] using hk.symm)).below ((Gr.refl w11).alloc _).size (fun k hk => by rw [hk]; exact Nat.le_refl _))
  have OV0' := hid (OV0.out.below hb)
  clear OV0
  have OV0 := OV0'
  clear OV0'
  have OV1' := hid (OV1.out.below hb)
  clear OV1
  have OV1 := OV1'
  clear OV1'
  have OV2' := hid (OV2.out.below hb)
  clear OV2
  have OV2 := OV2'
  clear OV2'
  have OLV' := hid (OLV.out.below hb)
  clear OLV
  have OLV := OLV'
  clear OLV'
  have OU0' := hid (OU0.out.below hb)
  clear OU0
  have OU0 := OU0'
  clear OU0'
  have OU1' := hid (OU1.out.below hb)
  clear OU1
  have OU1 := OU1'
  clear OU1'
  have OU2' := hid (OU2.out.below hb)
  clear OU2
  have OU2 := OU2'
  clear OU2'
  have OLU' := hid (OLU.out.below hb)
  clear OLU
  have OLU := OLU'
  clear OLU'
  have LL' := hid (LL.out.below hb)
  clear LL
  have LL := LL'
  clear LL'
  have CC' := hid (CC.out.below hb)
  clear CC
  have CC := CC'
  clear CC'
  have BW' := hid (BW.out.trans (hb.mono BW.out.size))
  clear BW
  have BW := BW'
  clear BW'
  have Zw11w12 := hid hb.size
  have OWW : Hid (Own w12 47 5 (.slice pw R.length cw) R.length (fl EC R) w11.heap.size w12.heap.size) := Own.mk' ho
  clear ho hg hb zgl cg0 lv0
  go_loopw [50] (fun s50 wr => ∃ i n : Nat, i ≤ mr.length ∧ s50 = .int .i64 (i : Nat) ∧ n ≤ 300 + min i 300 ∧ Hid (Lg wr lc tc bc n (smf (mo sc mr i))) ∧ Hid (Kp (fun k => k = bc) w12 wr)) (fun s50 _ => mr.length - (RowKit.intOf s50).toNat)
  case atStart => exact ⟨0, n1, Nat.zero_le _, rfl, Nat.le_trans h300 (Nat.le_add_right _ _), by rw [mo_zero, ← HF.out]; exact CC.out, Kp.refl _ _⟩
  case round =>
    obtain ⟨i, n, hi, rfl, hnn, HA, HK⟩ := hrel
    have HBr := hid (BW.out.trans (HK.out.below BW.out.size (fun k hk => by rw [hk]; exact HLC.out)))
    by_cases hlt : i < mr.length
    · have hltz : (i : Int) < (mr.length : Int) := by omega
      have hi0 : (0 : Int) ≤ (i : Int) := by omega
      obtain ⟨o, ho⟩ : ∃ o, mr[i]? = some o := ⟨mr[i], by simp⟩
      obtain ⟨b1, o1, c1', e1, z1, x0, x1, x2, x3, x4, x5⟩ := (HM.out.below HBr.out).atO ho
      simp only [Value.slice.injEq] at e1
      obtain ⟨rfl, -, rfl⟩ := e1
      obtain ⟨W5, hW5⟩ : ∃ W, W = wr.alloc (.cells (ob o) 38) := ⟨_, rfl⟩
      have G5 : Gr wr W5 := by rw [hW5]; exact (Gr.refl _).alloc _
      have bO : W5.heap[wr.heap.size]? = some (.cells (ob o) 38 (0, 0)) := by rw [hW5]; exact heap_new' _ _
      obtain ⟨t0, t1, t2, t3, t4, t5⟩ := ob_cells bO
      have zO := (Array.getElem?_eq_some_iff.1 bO).1
      have hon := mo_ones sc mr i
      have hml := mo_len sc mr i
      have hm5 := m600 (show n ≤ 600 by omega)
      have A5 := hid (HA.out.gr G5)
      have K5 := hid (HK.out.trans (Kp.of_gr (S := fun k => k = bc) G5) (fun _ _ h => h))
      go_upto_region 13 with fail
      rw [show wr.alloc (.cells #[.int .i64 o.k, .int .i64 o.i, .int .i64 o.s.1.1, .int .u64 o.s.1.2.1, .int .u64 o.s.1.2.2.1, .int .u64 o.s.1.2.2.2] 38) = W5 from hW5.symm]
      clear hW5 x0 x1 x2 x3 x4 x5 G5 bO z1 HA HK HBr
      by_cases hi3 : i < 300
      · have hi3z : (i : Int) < 300 := by omega
        have NX := hid (mo_succ (sc := sc) ho hi3)
        by_cases hk : o.k.tmod 2 = 0
        · have hkb : (o.k.tmod 2 == 0) = true := by simp [hk]
          have e1 := add_smf hon (Nat.le_trans hml (by decide)) (x := o.s) (Or.inl rfl : (1 : Int) = 1 ∨ (1 : Int) = -1)
          have hu := make_any o.s W5 A5.out hm5.2.2.1
          rw [e1.1, e1.2] at hu
          have HSG := hid (show sg o.k = 1 by unfold sg; rw [if_pos hk])
          clear hk e1 ho
          go_wp2_with fail
          refine hu.mono ?_
          rintro e w5' ⟨rfl, L5, K6⟩
          have L6 : Hid (Lg w5' lc tc bc (n + 1) (smf (mo sc mr (i + 1)))) := by rw [NX.out, HSG.out]; exact L5
          have K7 := hid (K5.out.trans K6 (fun _ _ h => h))
          have hn6 : n + 1 ≤ 300 + min (i + 1) 300 := by omega
          clear hu L5 K6
          go_wp2_with fail
          go_roundw
          case rel => exact ⟨i + 1, n + 1, by omega, by go_num, hn6, L6.out, K7.out⟩
          case measure => simp [RowKit.intOf]; omega
        · have hkb : (o.k.tmod 2 == 0) = false := by simp [hk]
          have e1 := add_smf hon (Nat.le_trans hml (by decide)) (x := o.s) (Or.inr rfl : (-1 : Int) = 1 ∨ (-1 : Int) = -1)
          have hu := use_any o.s W5 A5.out hm5.2.2.1
          rw [e1.1, e1.2] at hu
          have HSG := hid (show sg o.k = -1 by unfold sg; rw [if_neg hk])
          clear hk e1 ho
          go_wp2_with fail
          refine hu.mono ?_
          rintro e w5' ⟨rfl, L5, K6⟩
          have L6 : Hid (Lg w5' lc tc bc (n + 1) (smf (mo sc mr (i + 1)))) := by rw [NX.out, HSG.out]; exact L5
          have K7 := hid (K5.out.trans K6 (fun _ _ h => h))
          have hn6 : n + 1 ≤ 300 + min (i + 1) 300 := by omega
          clear hu L5 K6
          go_wp2_with fail
          go_roundw
          case rel => exact ⟨i + 1, n + 1, by omega, by go_num, hn6, L6.out, K7.out⟩
          case measure => simp [RowKit.intOf]; omega
      · have hi3z : ¬ (i : Int) < 300 := by omega
        have L6 : Hid (Lg W5 lc tc bc n (smf (mo sc mr (i + 1)))) := by rw [mo_stay (by omega)]; exact A5.out
        have hn6 : n ≤ 300 + min (i + 1) 300 := by omega
        clear ho
        go_wp2_with fail
        go_roundw
        case rel => exact ⟨i + 1, n, by omega, by go_num, hn6, L6.out, K5.out⟩
        case measure => simp [RowKit.intOf]; omega
    · have hltz : ¬ (i : Int) < (mr.length : Int) := by omega
      have hie : i = mr.length := by omega
      subst hie
      obtain ⟨n3, hn3e⟩ : ∃ q, q = n := ⟨_, rfl⟩
      rw [← hn3e] at HA hnn
      have hn3 : n3 ≤ 600 := by omega
      clear hn3e hnn hlt hi
      have CN := HA
      have KN := HK
      obtain ⟨w13, hw13⟩ : ∃ W, W = wr := ⟨_, rfl⟩
      rw [← hw13] at CN KN ⊢
      clear hw13 CC HA HK HBr
      obtain ⟨G, hG⟩ : ∃ G, G = smf (mo sc mr mr.length) := ⟨_, rfl⟩
      rw [← hG] at CN
      clear hG
      have N3 := m600 hn3
      have OV0' := hid (OV0.out.kp KN.out (fun k hk => Or.inl (by rw [hk]; exact Nat.lt_of_lt_of_le HBC.out (Nat.le_refl _))))
      clear OV0
      have OV0 := OV0'
      clear OV0'
      have OV1' := hid (OV1.out.kp KN.out (fun k hk => Or.inl (by rw [hk]; exact Nat.lt_of_lt_of_le HBC.out Zw3w4.out)))
      clear OV1
      have OV1 := OV1'
      clear OV1'
      have OV2' := hid (OV2.out.kp KN.out (fun k hk => Or.inl (by rw [hk]; exact Nat.lt_of_lt_of_le HBC.out (Nat.le_trans Zw3w4.out Zw4w5.out))))
      clear OV2
      have OV2 := OV2'
      clear OV2'
      have OLV' := hid (OLV.out.kp KN.out (fun k hk => Or.inl (by rw [hk]; exact Nat.lt_of_lt_of_le HBC.out (Nat.le_trans (Nat.le_trans Zw3w4.out Zw4w5.out) Zw5w6.out))))
      clear OLV
      have OLV := OLV'
      clear OLV'
      have OU0' := hid (OU0.out.kp KN.out (fun k hk => Or.inl (by rw [hk]; exact Nat.lt_of_lt_of_le HBC.out (Nat.le_trans (Nat.le_trans (Nat.le_trans Zw3w4.out Zw4w5.out) Zw5w6.out) Zw6w7.out))))
      clear OU0
      have OU0 := OU0'
      clear OU0'
      have OU1' := hid (OU1.out.kp KN.out (fun k hk => Or.inl (by rw [hk]; exact Nat.lt_of_lt_of_le HBC.out (Nat.le_trans (Nat.le_trans (Nat.le_trans (Nat.le_trans Zw3w4.out Zw4w5.out) Zw5w6.out) Zw6w7.out) Zw7w8.out))))
      clear OU1
      have OU1 := OU1'
      clear OU1'
      have OU2' := hid (OU2.out.kp KN.out (fun k hk => Or.inl (by rw [hk]; exact Nat.lt_of_lt_of_le HBC.out (Nat.le_trans (Nat.le_trans (Nat.le_trans (Nat.le_trans (Nat.le_trans Zw3w4.out Zw4w5.out) Zw5w6.out) Zw6w7.out) Zw7w8.out) Zw8w9.out))))
      clear OU2
      have OU2 := OU2'
      clear OU2'
      have OLU' := hid (OLU.out.kp KN.out (fun k hk => Or.inl (by rw [hk]; exact Nat.lt_of_lt_of_le HBC.out (Nat.le_trans (Nat.le_trans (Nat.le_trans (Nat.le_trans (Nat.le_trans (Nat.le_trans Zw3w4.out Zw4w5.out) Zw5w6.out) Zw6w7.out) Zw7w8.out) Zw8w9.out) Zw9w10.out))))
      clear OLU
      have OLU := OLU'
      clear OLU'
      have OWW' := hid (OWW.out.kp KN.out (fun k hk => Or.inl (by rw [hk]; exact Nat.lt_of_lt_of_le HBC.out (Nat.le_trans (Nat.le_trans (Nat.le_trans (Nat.le_trans (Nat.le_trans (Nat.le_trans (Nat.le_trans Zw3w4.out Zw4w5.out) Zw5w6.out) Zw6w7.out) Zw7w8.out) Zw8w9.out) Zw9w10.out) Zw10w11.out))))
      clear OWW
      have OWW := OWW'
      clear OWW'
      have LL' := hid (LL.out.kp KN.out (ltne (LAC.out _ (Or.inl rfl)) LCC.out.1) (ltne (LAC.out _ (Or.inr (Or.inl rfl))) LCC.out.1) (ltne (LAC.out _ (Or.inr (Or.inr rfl))) LCC.out.1))
      clear LL
      have LL := LL'
      clear LL'
      have BW' := hid (BW.out.trans (KN.out.below BW.out.size (fun k hk => by rw [hk]; exact HLC.out)))
      clear BW
      have BW := BW'
      clear BW'
      have Zw12w13 := hid KN.out.size
      have CC := CN
      clear CN KN
      obtain ⟨kx, hk3, hkl3⟩ := CC.out.sup
      obtain ⟨K3, hK3⟩ : ∃ K, K = stS kx := ⟨_, rfl⟩
      obtain ⟨R3, hR3⟩ : ∃ R, R = chs G kx := ⟨_, rfl⟩
      have HRK3 : Hid (∀ ks, Sup G ks → chs G ks = R3 ∧ stS ks = K3) := fun ks h => ⟨by rw [hR3]; exact chs_sup h hk3, by rw [hK3]; exact stS_sup h hk3⟩
      have RK3 : Hid (R3 = K3.map fun s => (s, G s)) := by rw [hR3, hK3]; rfl
      have hRl3 : R3.length ≤ 600 := by rw [hR3, chs_length]; exact Nat.le_trans hkl3 hn3
      have KL3 := hid (show K3.length = R3.length by rw [RK3.out, List.length_map])
      clear hK3 hR3 hkl3 hk3 kx
      have hc := changes_any w13 CC.out N3.1
      go_wp2_with fail
      refine hc.mono ?_
      rintro e w14 ⟨v3, k3, hs3, rfl, ho3, -, hb⟩
      rw [(HRK3.out k3 hs3).1] at ho3
      obtain ⟨p3, c3, rfl⟩ := owns_form ho3
      clear hc
      have OV0' := hid (OV0.out.below hb)
      clear OV0
      have OV0 := OV0'
      clear OV0'
      have OV1' := hid (OV1.out.below hb)
      clear OV1
      have OV1 := OV1'
      clear OV1'
      have OV2' := hid (OV2.out.below hb)
      clear OV2
      have OV2 := OV2'
      clear OV2'
      have OLV' := hid (OLV.out.below hb)
      clear OLV
      have OLV := OLV'
      clear OLV'
      have OU0' := hid (OU0.out.below hb)
      clear OU0
      have OU0 := OU0'
      clear OU0'
      have OU1' := hid (OU1.out.below hb)
      clear OU1
      have OU1 := OU1'
      clear OU1'
      have OU2' := hid (OU2.out.below hb)
      clear OU2
      have OU2 := OU2'
      clear OU2'
      have OLU' := hid (OLU.out.below hb)
      clear OLU
      have OLU := OLU'
      clear OLU'
      have OWW' := hid (OWW.out.below hb)
      clear OWW
      have OWW := OWW'
      clear OWW'
      have LL' := hid (LL.out.below hb)
      clear LL
      have LL := LL'
      clear LL'
      have CC' := hid (CC.out.below hb)
      clear CC
      have CC := CC'
      clear CC'
      have BW' := hid (BW.out.trans (hb.mono BW.out.size))
      clear BW
      have BW := BW'
      clear BW'
      have Zw13w14 := hid hb.size
      have OV3 := hid (Own.mk' ho3)
      clear ho3 hs3 hb
      have hc := changes_any w14 LL.out N1.1
      go_wp2_with fail
      refine hc.mono ?_
      rintro e w15 ⟨v4, k4, hs4, rfl, ho4, -, hb⟩
      rw [(HRK.out k4 hs4).1] at ho4
      obtain ⟨p4, c4, rfl⟩ := owns_form ho4
      clear hc
      have OV0' := hid (OV0.out.below hb)
      clear OV0
      have OV0 := OV0'
      clear OV0'
      have OV1' := hid (OV1.out.below hb)
      clear OV1
      have OV1 := OV1'
      clear OV1'
      have OV2' := hid (OV2.out.below hb)
      clear OV2
      have OV2 := OV2'
      clear OV2'
      have OLV' := hid (OLV.out.below hb)
      clear OLV
      have OLV := OLV'
      clear OLV'
      have OU0' := hid (OU0.out.below hb)
      clear OU0
      have OU0 := OU0'
      clear OU0'
      have OU1' := hid (OU1.out.below hb)
      clear OU1
      have OU1 := OU1'
      clear OU1'
      have OU2' := hid (OU2.out.below hb)
      clear OU2
      have OU2 := OU2'
      clear OU2'
      have OLU' := hid (OLU.out.below hb)
      clear OLU
      have OLU := OLU'
      clear OLU'
      have OWW' := hid (OWW.out.below hb)
      clear OWW
      have OWW := OWW'
      clear OWW'
      have OV3' := hid (OV3.out.below hb)
      clear OV3
      have OV3 := OV3'
      clear OV3'
      have LL' := hid (LL.out.below hb)
      clear LL
      have LL := LL'
      clear LL'
      have CC' := hid (CC.out.below hb)
      clear CC
      have CC := CC'
      clear CC'
      have BW' := hid (BW.out.trans (hb.mono BW.out.size))
      clear BW
      have BW := BW'
      clear BW'
      have Zw14w15 := hid hb.size
      have OV4 := hid (Own.mk' ho4)
      clear ho4 hs4 hb
      go_wp2_with (first | (at_builtin; refine wpAppKeep2 EV Try.underlying44 infoLC rfl (by decide) rfl _ _ rfl (.slice (some ⟨gl, 0, none⟩) 3 cpl) 3 [vw p0 R.length c0, vw p1 R.length c1, vw p2 R.length c2] rfl OLV.out.z [vw p3 R3.length c3, vw p4 R.length c4] 2 rfl (by decide) (by first | rfl | simp) (by decide) (by unfold maxLen; decide) _ rfl _ ?_; intro g5 eg5 w16 ho hk hl _))
      have BXOLV := hid OLV
      clear OLV
      have OV0' := hid (OV0.out.kp hk (fun k hk => Or.inr (Nat.le_trans (Nat.le_trans Zw4w5.out Zw5w6.out) (BXOLV.out.bd hk).1)))
      clear OV0
      have OV0 := OV0'
      clear OV0'
      have OV1' := hid (OV1.out.kp hk (fun k hk => Or.inr (Nat.le_trans Zw5w6.out (BXOLV.out.bd hk).1)))
      clear OV1
      have OV1 := OV1'
      clear OV1'
      have OV2' := hid (OV2.out.kp hk (fun k hk => Or.inr (Nat.le_trans (Nat.le_refl _) (BXOLV.out.bd hk).1)))
      clear OV2
      have OV2 := OV2'
      clear OV2'
      have OU0' := hid (OU0.out.kp hk (fun k hk => Or.inl (Nat.lt_of_lt_of_le (BXOLV.out.bd hk).2 (Nat.le_refl _))))
      clear OU0
      have OU0 := OU0'
      clear OU0'
      have OU1' := hid (OU1.out.kp hk (fun k hk => Or.inl (Nat.lt_of_lt_of_le (BXOLV.out.bd hk).2 Zw7w8.out)))
      clear OU1
      have OU1 := OU1'
      clear OU1'
      have OU2' := hid (OU2.out.kp hk (fun k hk => Or.inl (Nat.lt_of_lt_of_le (BXOLV.out.bd hk).2 (Nat.le_trans Zw7w8.out Zw8w9.out))))
      clear OU2
      have OU2 := OU2'
      clear OU2'
      have OLU' := hid (OLU.out.kp hk (fun k hk => Or.inl (Nat.lt_of_lt_of_le (BXOLV.out.bd hk).2 (Nat.le_trans (Nat.le_trans Zw7w8.out Zw8w9.out) Zw9w10.out))))
      clear OLU
      have OLU := OLU'
      clear OLU'
      have OWW' := hid (OWW.out.kp hk (fun k hk => Or.inl (Nat.lt_of_lt_of_le (BXOLV.out.bd hk).2 (Nat.le_trans (Nat.le_trans (Nat.le_trans Zw7w8.out Zw8w9.out) Zw9w10.out) Zw10w11.out))))
      clear OWW
      have OWW := OWW'
      clear OWW'
      have OV3' := hid (OV3.out.kp hk (fun k hk => Or.inl (Nat.lt_of_lt_of_le (BXOLV.out.bd hk).2 (Nat.le_trans (Nat.le_trans (Nat.le_trans (Nat.le_trans (Nat.le_trans Zw7w8.out Zw8w9.out) Zw9w10.out) Zw10w11.out) Zw11w12.out) Zw12w13.out))))
      clear OV3
      have OV3 := OV3'
      clear OV3'
      have OV4' := hid (OV4.out.kp hk (fun k hk => Or.inl (Nat.lt_of_lt_of_le (BXOLV.out.bd hk).2 (Nat.le_trans (Nat.le_trans (Nat.le_trans (Nat.le_trans (Nat.le_trans (Nat.le_trans Zw7w8.out Zw8w9.out) Zw9w10.out) Zw10w11.out) Zw11w12.out) Zw12w13.out) Zw13w14.out))))
      clear OV4
      have OV4 := OV4'
      clear OV4'
      have LL' := hid (LL.out.kp hk (fun e => ltne (Nat.lt_of_lt_of_le (Nat.lt_of_lt_of_le (LAC.out _ (Or.inl rfl)) Z23.out) (Nat.le_trans (Nat.le_trans Zw3w4.out Zw4w5.out) Zw5w6.out)) (BXOLV.out.bd e).1 rfl) (fun e => ltne (Nat.lt_of_lt_of_le (Nat.lt_of_lt_of_le (LAC.out _ (Or.inr (Or.inl rfl))) Z23.out) (Nat.le_trans (Nat.le_trans Zw3w4.out Zw4w5.out) Zw5w6.out)) (BXOLV.out.bd e).1 rfl) (fun e => ltne (Nat.lt_of_lt_of_le (Nat.lt_of_lt_of_le (LAC.out _ (Or.inr (Or.inr rfl))) Z23.out) (Nat.le_trans (Nat.le_trans Zw3w4.out Zw4w5.out) Zw5w6.out)) (BXOLV.out.bd e).1 rfl))
      clear LL
      have LL := LL'
      clear LL'
      have CC' := hid (CC.out.kp hk (fun e => ltne (Nat.lt_of_lt_of_le (HLL.out) (Nat.le_trans (Nat.le_trans Zw3w4.out Zw4w5.out) Zw5w6.out)) (BXOLV.out.bd e).1 rfl) (fun e => ltne (Nat.lt_of_lt_of_le (HTC.out) (Nat.le_trans (Nat.le_trans Zw3w4.out Zw4w5.out) Zw5w6.out)) (BXOLV.out.bd e).1 rfl) (fun e => ltne (Nat.lt_of_lt_of_le (HBC.out) (Nat.le_trans (Nat.le_trans Zw3w4.out Zw4w5.out) Zw5w6.out)) (BXOLV.out.bd e).1 rfl))
      clear CC
      have CC := CC'
      clear CC'
      have BW' := hid (BW.out.trans (hk.below BW.out.size (fun k hk => Nat.le_trans (Nat.le_trans B3S.out (Nat.le_trans (Nat.le_trans Zw3w4.out Zw4w5.out) Zw5w6.out)) (BXOLV.out.bd hk).1)))
      clear BW
      have BW := BW'
      clear BW'
      have Zw15w16 := hid hk.size
      have Rg5 : Hid (w16.ownsRow 0 27 1 (.slice (some ⟨g5, 0, none⟩) 5 eg5) 5 (fl EV [vw p0 R.length c0, vw p1 R.length c1, vw p2 R.length c2, vw p3 R3.length c3, vw p4 R.length c4])) := ho
      have Pg5 : Hid ((w6.heap.size ≤ g5 ∧ g5 < w7.heap.size) ∨ (w15.heap.size ≤ g5 ∧ g5 < w16.heap.size)) := hl.imp (fun e => BXOLV.out.bd e) (fun h => ⟨h, (ho.lt _ rfl).2⟩)
      clear ho hk hl BXOLV
      have hc := lkeys_any w16 CC.out N3.2.1
      go_wp2_with fail
      refine hc.mono ?_
      rintro e w17 ⟨u3, k3, hs3, rfl, ho3, -, hb⟩
      rw [(HRK3.out k3 hs3).2, KL3.out] at ho3
      obtain ⟨q3, d3, rfl⟩ := owns_form ho3
      clear hc
      have OV0' := hid (OV0.out.below hb)
      clear OV0
      have OV0 := OV0'
      clear OV0'
      have OV1' := hid (OV1.out.below hb)
      clear OV1
      have OV1 := OV1'
      clear OV1'
      have OV2' := hid (OV2.out.below hb)
      clear OV2
      have OV2 := OV2'
      clear OV2'
      have OU0' := hid (OU0.out.below hb)
      clear OU0
      have OU0 := OU0'
      clear OU0'
      have OU1' := hid (OU1.out.below hb)
      clear OU1
      have OU1 := OU1'
      clear OU1'
      have OU2' := hid (OU2.out.below hb)
      clear OU2
      have OU2 := OU2'
      clear OU2'
      have OLU' := hid (OLU.out.below hb)
      clear OLU
      have OLU := OLU'
      clear OLU'
      have OWW' := hid (OWW.out.below hb)
      clear OWW
      have OWW := OWW'
      clear OWW'
      have OV3' := hid (OV3.out.below hb)
      clear OV3
      have OV3 := OV3'
      clear OV3'
      have OV4' := hid (OV4.out.below hb)
      clear OV4
      have OV4 := OV4'
      clear OV4'
      have Rg5' := hid (owns_below Rg5.out hb)
      clear Rg5
      have Rg5 := Rg5'
      clear Rg5'
      have LL' := hid (LL.out.below hb)
      clear LL
      have LL := LL'
      clear LL'
      have CC' := hid (CC.out.below hb)
      clear CC
      have CC := CC'
      clear CC'
      have BW' := hid (BW.out.trans (hb.mono BW.out.size))
      clear BW
      have BW := BW'
      clear BW'
      have Zw16w17 := hid hb.size
      have OU3 := hid (Own.mk' ho3)
      clear ho3 hs3 hb
      have hc := lkeys_any w17 LL.out N1.2.1
      go_wp2_with fail
      refine hc.mono ?_
      rintro e w18 ⟨u4, k4, hs4, rfl, ho4, -, hb⟩
      rw [(HRK.out k4 hs4).2, KL.out] at ho4
      obtain ⟨q4, d4, rfl⟩ := owns_form ho4
      clear hc
      have OV0' := hid (OV0.out.below hb)
      clear OV0
      have OV0 := OV0'
      clear OV0'
      have OV1' := hid (OV1.out.below hb)
      clear OV1
      have OV1 := OV1'
      clear OV1'
      have OV2' := hid (OV2.out.below hb)
      clear OV2
      have OV2 := OV2'
      clear OV2'
      have OU0' := hid (OU0.out.below hb)
      clear OU0
      have OU0 := OU0'
      clear OU0'
      have OU1' := hid (OU1.out.below hb)
      clear OU1
      have OU1 := OU1'
      clear OU1'
      have OU2' := hid (OU2.out.below hb)
      clear OU2
      have OU2 := OU2'
      clear OU2'
      have OLU' := hid (OLU.out.below hb)
      clear OLU
      have OLU := OLU'
      clear OLU'
      have OWW' := hid (OWW.out.below hb)
      clear OWW
      have OWW := OWW'
      clear OWW'
      have OV3' := hid (OV3.out.below hb)
      clear OV3
      have OV3 := OV3'
      clear OV3'
      have OV4' := hid (OV4.out.below hb)
      clear OV4
      have OV4 := OV4'
      clear OV4'
      have OU3' := hid (OU3.out.below hb)
      clear OU3
      have OU3 := OU3'
      clear OU3'
      have Rg5' := hid (owns_below Rg5.out hb)
      clear Rg5
      have Rg5 := Rg5'
      clear Rg5'
      have LL' := hid (LL.out.below hb)
      clear LL
      have LL := LL'
      clear LL'
      have CC' := hid (CC.out.below hb)
      clear CC
      have CC := CC'
      clear CC'
      have BW' := hid (BW.out.trans (hb.mono BW.out.size))
      clear BW
      have BW := BW'
      clear BW'
      have Zw17w18 := hid hb.size
      have OU4 := hid (Own.mk' ho4)
      clear ho4 hs4 hb
      go_wp2_with (first | (at_builtin; refine wpAppKeep2 EV Try.underlying45 infoLS rfl (by decide) rfl _ _ rfl (.slice pk 3 cpk) 3 [vw q0 R.length d0, vw q1 R.length d1, vw q2 R.length d2] rfl OLU.out.z [vw q3 R3.length d3, vw q4 R.length d4] 2 rfl (by decide) (by first | rfl | simp) (by decide) (by unfold maxLen; decide) _ rfl _ ?_; intro g6 eg6 w19 ho hk hl _))
      have BXOLU := hid OLU
      clear OLU
      have OV0' := hid (OV0.out.kp hk (fun k hk => Or.inr (Nat.le_trans (Nat.le_trans (Nat.le_trans (Nat.le_trans (Nat.le_trans (Nat.le_trans Zw4w5.out Zw5w6.out) Zw6w7.out) Zw7w8.out) Zw8w9.out) Zw9w10.out) (BXOLU.out.bd hk).1)))
      clear OV0
      have OV0 := OV0'
      clear OV0'
      have OV1' := hid (OV1.out.kp hk (fun k hk => Or.inr (Nat.le_trans (Nat.le_trans (Nat.le_trans (Nat.le_trans (Nat.le_trans Zw5w6.out Zw6w7.out) Zw7w8.out) Zw8w9.out) Zw9w10.out) (BXOLU.out.bd hk).1)))
      clear OV1
      have OV1 := OV1'
      clear OV1'
      have OV2' := hid (OV2.out.kp hk (fun k hk => Or.inr (Nat.le_trans (Nat.le_trans (Nat.le_trans (Nat.le_trans Zw6w7.out Zw7w8.out) Zw8w9.out) Zw9w10.out) (BXOLU.out.bd hk).1)))
      clear OV2
      have OV2 := OV2'
      clear OV2'
      have OU0' := hid (OU0.out.kp hk (fun k hk => Or.inr (Nat.le_trans (Nat.le_trans Zw8w9.out Zw9w10.out) (BXOLU.out.bd hk).1)))
      clear OU0
      have OU0 := OU0'
      clear OU0'
      have OU1' := hid (OU1.out.kp hk (fun k hk => Or.inr (Nat.le_trans Zw9w10.out (BXOLU.out.bd hk).1)))
      clear OU1
      have OU1 := OU1'
      clear OU1'
      have OU2' := hid (OU2.out.kp hk (fun k hk => Or.inr (Nat.le_trans (Nat.le_refl _) (BXOLU.out.bd hk).1)))
      clear OU2
      have OU2 := OU2'
      clear OU2'
      have OWW' := hid (OWW.out.kp hk (fun k hk => Or.inl (Nat.lt_of_lt_of_le (BXOLU.out.bd hk).2 (Nat.le_refl _))))
      clear OWW
      have OWW := OWW'
      clear OWW'
      have OV3' := hid (OV3.out.kp hk (fun k hk => Or.inl (Nat.lt_of_lt_of_le (BXOLU.out.bd hk).2 (Nat.le_trans Zw11w12.out Zw12w13.out))))
      clear OV3
      have OV3 := OV3'
      clear OV3'
      have OV4' := hid (OV4.out.kp hk (fun k hk => Or.inl (Nat.lt_of_lt_of_le (BXOLU.out.bd hk).2 (Nat.le_trans (Nat.le_trans Zw11w12.out Zw12w13.out) Zw13w14.out))))
      clear OV4
      have OV4 := OV4'
      clear OV4'
      have OU3' := hid (OU3.out.kp hk (fun k hk => Or.inl (Nat.lt_of_lt_of_le (BXOLU.out.bd hk).2 (Nat.le_trans (Nat.le_trans (Nat.le_trans (Nat.le_trans Zw11w12.out Zw12w13.out) Zw13w14.out) Zw14w15.out) Zw15w16.out))))
      clear OU3
      have OU3 := OU3'
      clear OU3'
      have OU4' := hid (OU4.out.kp hk (fun k hk => Or.inl (Nat.lt_of_lt_of_le (BXOLU.out.bd hk).2 (Nat.le_trans (Nat.le_trans (Nat.le_trans (Nat.le_trans (Nat.le_trans Zw11w12.out Zw12w13.out) Zw13w14.out) Zw14w15.out) Zw15w16.out) Zw16w17.out))))
      clear OU4
      have OU4 := OU4'
      clear OU4'
      have Rg5' := hid (owns_kp hk Rg5.out (fun k hk' e => by
            have h1 := BXOLU.out.bd e
            have h2 := Pg5.out
            have h3 : k = g5 := by simpa [Value.ownBlock] using hk'.symm
            have h4 := (Nat.le_trans (Nat.le_trans Zw7w8.out Zw8w9.out) Zw9w10.out)
            have h5 := (Nat.le_trans (Nat.le_trans (Nat.le_trans Zw11w12.out Zw12w13.out) Zw13w14.out) Zw14w15.out)
            omega))
      clear Rg5
      have Rg5 := Rg5'
      clear Rg5'
      have LL' := hid (LL.out.kp hk (fun e => ltne (Nat.lt_of_lt_of_le (Nat.lt_of_lt_of_le (LAC.out _ (Or.inl rfl)) Z23.out) (Nat.le_trans (Nat.le_trans (Nat.le_trans (Nat.le_trans (Nat.le_trans (Nat.le_trans Zw3w4.out Zw4w5.out) Zw5w6.out) Zw6w7.out) Zw7w8.out) Zw8w9.out) Zw9w10.out)) (BXOLU.out.bd e).1 rfl) (fun e => ltne (Nat.lt_of_lt_of_le (Nat.lt_of_lt_of_le (LAC.out _ (Or.inr (Or.inl rfl))) Z23.out) (Nat.le_trans (Nat.le_trans (Nat.le_trans (Nat.le_trans (Nat.le_trans (Nat.le_trans Zw3w4.out Zw4w5.out) Zw5w6.out) Zw6w7.out) Zw7w8.out) Zw8w9.out) Zw9w10.out)) (BXOLU.out.bd e).1 rfl) (fun e => ltne (Nat.lt_of_lt_of_le (Nat.lt_of_lt_of_le (LAC.out _ (Or.inr (Or.inr rfl))) Z23.out) (Nat.le_trans (Nat.le_trans (Nat.le_trans (Nat.le_trans (Nat.le_trans (Nat.le_trans Zw3w4.out Zw4w5.out) Zw5w6.out) Zw6w7.out) Zw7w8.out) Zw8w9.out) Zw9w10.out)) (BXOLU.out.bd e).1 rfl))
      clear LL
      have LL := LL'
      clear LL'
      have CC' := hid (CC.out.kp hk (fun e => ltne (Nat.lt_of_lt_of_le (HLL.out) (Nat.le_trans (Nat.le_trans (Nat.le_trans (Nat.le_trans (Nat.le_trans (Nat.le_trans Zw3w4.out Zw4w5.out) Zw5w6.out) Zw6w7.out) Zw7w8.out) Zw8w9.out) Zw9w10.out)) (BXOLU.out.bd e).1 rfl) (fun e => ltne (Nat.lt_of_lt_of_le (HTC.out) (Nat.le_trans (Nat.le_trans (Nat.le_trans (Nat.le_trans (Nat.le_trans (Nat.le_trans Zw3w4.out Zw4w5.out) Zw5w6.out) Zw6w7.out) Zw7w8.out) Zw8w9.out) Zw9w10.out)) (BXOLU.out.bd e).1 rfl) (fun e => ltne (Nat.lt_of_lt_of_le (HBC.out) (Nat.le_trans (Nat.le_trans (Nat.le_trans (Nat.le_trans (Nat.le_trans (Nat.le_trans Zw3w4.out Zw4w5.out) Zw5w6.out) Zw6w7.out) Zw7w8.out) Zw8w9.out) Zw9w10.out)) (BXOLU.out.bd e).1 rfl))
      clear CC
      have CC := CC'
      clear CC'
      have BW' := hid (BW.out.trans (hk.below BW.out.size (fun k hk => Nat.le_trans (Nat.le_trans B3S.out (Nat.le_trans (Nat.le_trans (Nat.le_trans (Nat.le_trans (Nat.le_trans (Nat.le_trans Zw3w4.out Zw4w5.out) Zw5w6.out) Zw6w7.out) Zw7w8.out) Zw8w9.out) Zw9w10.out)) (BXOLU.out.bd hk).1)))
      clear BW
      have BW := BW'
      clear BW'
      have Zw18w19 := hid hk.size
      have Rg6 : Hid (w19.ownsRow 0 29 1 (.slice (some ⟨g6, 0, none⟩) 5 eg6) 5 (fl EV [vw q0 R.length d0, vw q1 R.length d1, vw q2 R.length d2, vw q3 R3.length d3, vw q4 R.length d4])) := ho
      have Pg6 : Hid ((w10.heap.size ≤ g6 ∧ g6 < w11.heap.size) ∨ (w18.heap.size ≤ g6 ∧ g6 < w19.heap.size)) := hl.imp (fun e => BXOLU.out.bd e) (fun h => ⟨h, (ho.lt _ rfl).2⟩)
      clear ho hk hl BXOLU
      obtain ⟨gx, hgx, zg5, cg5⟩ := rows_at Rg5.out (by decide)
      obtain rfl : g5 = gx := by simpa using hgx
      obtain ⟨gy, hgy, zg6, cg6⟩ := rows_at Rg6.out (by decide)
      obtain rfl : g6 = gy := by simpa using hgy
      have CG5 := hid cg5
      have CG6 := hid cg6
      have HALL : Hid (∀ k, k < 5 → ∃ (p q : Option Addr) (c d : Nat) (XL : List Cg) (KK : List Sm) (ff : Sm → Int), w19.cell? ⟨g5, k, none⟩ = some (.slice p XL.length c) ∧ w19.cell? ⟨g6, k, none⟩ = some (.slice q XL.length d) ∧ Ls EC w19 (.slice p XL.length c) XL ∧ Ls ES w19 (.slice q XL.length d) KK ∧ XL = KK.map (fun s => (s, ff s)) ∧ (k ≠ 3 → XL = R) ∧ XL.length ≤ 600) := five
        ⟨p0, q0, c0, d0, R, K, F, cg5 0 _ rfl, cg6 0 _ rfl, owns_ls (E := EC) OV0.out.row, owns_ls (E := ES) (by rw [KL.out]; exact OU0.out.row), RK.out, fun _ => rfl, Nat.le_trans hRl (by decide)⟩
        ⟨p1, q1, c1, d1, R, K, F, cg5 1 _ rfl, cg6 1 _ rfl, owns_ls (E := EC) OV1.out.row, owns_ls (E := ES) (by rw [KL.out]; exact OU1.out.row), RK.out, fun _ => rfl, Nat.le_trans hRl (by decide)⟩
        ⟨p2, q2, c2, d2, R, K, F, cg5 2 _ rfl, cg6 2 _ rfl, owns_ls (E := EC) OV2.out.row, owns_ls (E := ES) (by rw [KL.out]; exact OU2.out.row), RK.out, fun _ => rfl, Nat.le_trans hRl (by decide)⟩
        ⟨p3, q3, c3, d3, R3, K3, G, cg5 3 _ rfl, cg6 3 _ rfl, owns_ls (E := EC) OV3.out.row, owns_ls (E := ES) (by rw [KL3.out]; exact OU3.out.row), RK3.out, fun h => absurd rfl h, hRl3⟩
        ⟨p4, q4, c4, d4, R, K, F, cg5 4 _ rfl, cg6 4 _ rfl, owns_ls (E := EC) OV4.out.row, owns_ls (E := ES) (by rw [KL.out]; exact OU4.out.row), RK.out, fun _ => rfl, Nat.le_trans hRl (by decide)⟩
      have LWW := hid (owns_ls (E := EC) OWW.out.row)
      clear hgx hgy cg5 cg6
      go_wp2_with fail
      go_loopw [90] (fun s90 wr => ∃ k : Nat, k ≤ 5 ∧ s90 = .int .i64 (k : Nat) ∧ Gr w19 wr) (fun s90 _ => 5 - (RowKit.intOf s90).toNat)
      case atStart => exact ⟨0, by omega, rfl, Gr.refl _⟩
      case round =>
        obtain ⟨k, hk, rfl, hgr⟩ := hrel
        by_cases hk4 : k < 5
        · have hkz : (k : Int) < 5 := by omega
          have hk0 : (0 : Int) ≤ (k : Int) := by omega
          obtain ⟨p, q, c, d, XL, KK, ff, m1, y1, lx, lk, hxk, hne, hxl⟩ := HALL.out k hk4
          have LX := hid lx
          have LK := hid lk
          have HXK := hid hxk
          have HY := hid y1
          have m2 := (hgr.cell zg5).trans m1
          have y2 := (hgr.cell zg6).trans y1
          have zr6 := Nat.lt_of_lt_of_le zg6 hgr.size
          have HNE := hid hne
          clear lx lk hxk m1 y1 hne
          go_upto_region 23 with fail
          go_cut [112] (fun s112 w' => s112 = .bool false ∧ Hid (Gr w19 w'))
          case first =>
            by_cases h3 : k = 3
            · have h3b : ((k : Int) != 3) = false := by simp [h3]
              clear h3
              go_wp2_with fail
              go_meet
              exact ⟨rfl, hgr⟩
            · have h3b : ((k : Int) != 3) = true := by
                have h : ¬ (k : Int) = 3 := by omega
                simpa using h
              have hsm : Calls Try.prog 8 #[.slice p XL.length c, .slice pw R.length cw] wr fun e w' => e = .returned (.bool true) ∧ Gr wr w' := same_any (l := XL) wr (LX.out.below hgr.below) (by rw [HNE.out h3]; exact LWW.out.below hgr.below) (Nat.le_trans hxl (by decide))
              clear h3
              go_wp2_with fail
              refine hsm.mono ?_
              rintro e w30 ⟨rfl, g30⟩
              have y3 := (g30.cell zr6).trans y2
              have G30 := hid (hgr.trans g30)
              clear hsm g30
              go_wp2_with fail
              go_meet
              exact ⟨rfl, G30.out⟩
          case rest =>
            obtain ⟨rfl, GR⟩ := hcut
            clear m2 y2 zr6 hgr HNE
            go_wp2_with fail
            go_loopw [115] (fun s115 wr => ∃ j : Nat, j ≤ XL.length ∧ s115 = .int .i64 (j : Nat) ∧ Gr w19 wr) (fun s115 _ => XL.length - (RowKit.intOf s115).toNat)
            case atStart => exact ⟨0, Nat.zero_le _, rfl, GR.out⟩
            case round =>
              clear GR
              obtain ⟨j, hj, rfl, hgj⟩ := hrel
              by_cases hlj : j < XL.length
              · have hljz : (j : Int) < (XL.length : Int) := by omega
                have hj0 : (0 : Int) ≤ (j : Int) := by omega
                obtain ⟨x, hx⟩ : ∃ x, KK[j]? = some x := ⟨KK[j]'(by have h := hlj; rw [HXK.out, List.length_map] at h; exact h), by simp⟩
                obtain ⟨b1, o1, c1', e1, z1, x0, x1, x2, x3, x4⟩ := (LX.out.below hgj.below).atC (j := j) (p := (x, ff x)) (by rw [HXK.out, List.getElem?_map, hx]; rfl)
                simp only [Value.slice.injEq] at e1
                obtain ⟨rfl, -, rfl⟩ := e1
                obtain ⟨b2, o2, c2', e2, z2, y0, y1, y2, y3⟩ := (LK.out.below hgj.below).atS hx
                simp only [Value.slice.injEq] at e2
                obtain ⟨rfl, -, rfl⟩ := e2
                simp only at x0 x1 x2 x3 x4
                have m3 := (hgj.cell zg6).trans HY.out
                have zj6 := Nat.lt_of_lt_of_le zg6 hgj.size
                have heq : ∀ W, Sem.run Try.prog (Op.equalIn 10000 35 (mv x) (mv x)) W = .ok true W := fun W => (run_eqS x x W).trans (by rw [decide_eq_true rfl])
                have HGJ := hid hgj
                clear hx hgj
                go_wp2_with fail
                go_quiet (fail)
                go_wp2_with fail
                go_roundw
                case rel => exact ⟨j + 1, by omega, by go_num, HGJ.out.drewN _⟩
                case measure => simp [RowKit.intOf]; omega
              · have hljz : ¬ (j : Int) < (XL.length : Int) := by omega
                go_wp2_with fail
                go_roundw
                case rel => exact ⟨k + 1, by omega, by go_num, hgj⟩
                case measure => simp [RowKit.intOf]; omega
        · have hkz : ¬ (k : Int) < 5 := by omega
          obtain ⟨w20, hw20⟩ : ∃ W, W = wr := ⟨_, rfl⟩
          rw [← hw20] at hgr ⊢
          have G20 := hid hgr
          clear hw20 hgr hk4
          obtain ⟨V, hV⟩ : ∃ V : Nat → Value, V = pick5 (.slice p0 R.length c0) (.slice p1 R.length c1) (.slice p2 R.length c2) (.slice p3 R3.length c3) (.slice p4 R.length c4) := ⟨_, rfl⟩
          obtain ⟨U, hU⟩ : ∃ V : Nat → Value, V = pick5 (.slice q0 R.length d0) (.slice q1 R.length d1) (.slice q2 R.length d2) (.slice q3 R3.length d3) (.slice q4 R.length d4) := ⟨_, rfl⟩
          have BV : Hid (∀ i, i < 5 → ∀ g, (V i).ownBlock = some g → (pick5 w3.heap.size w4.heap.size w5.heap.size w13.heap.size w14.heap.size) i ≤ g ∧ g < (pick5 w4.heap.size w5.heap.size w6.heap.size w14.heap.size w15.heap.size) i) := by rw [hV]; exact five (fun g hg => OV0.out.bd hg) (fun g hg => OV1.out.bd hg) (fun g hg => OV2.out.bd hg) (fun g hg => OV3.out.bd hg) (fun g hg => OV4.out.bd hg)
          have BU : Hid (∀ i, i < 5 → ∀ g, (U i).ownBlock = some g → (pick5 w7.heap.size w8.heap.size w9.heap.size w16.heap.size w17.heap.size) i ≤ g ∧ g < (pick5 w8.heap.size w9.heap.size w10.heap.size w17.heap.size w18.heap.size) i) := by rw [hU]; exact five (fun g hg => OU0.out.bd hg) (fun g hg => OU1.out.bd hg) (fun g hg => OU2.out.bd hg) (fun g hg => OU3.out.bd hg) (fun g hg => OU4.out.bd hg)
          have FV := hid (far_of BV.out (five (five (fun h => absurd h (by decide)) (fun _ => (Nat.le_refl _)) (fun _ => Zw4w5.out) (fun _ => (Nat.le_trans (Nat.le_trans (Nat.le_trans (Nat.le_trans (Nat.le_trans (Nat.le_trans (Nat.le_trans (Nat.le_trans Zw4w5.out Zw5w6.out) Zw6w7.out) Zw7w8.out) Zw8w9.out) Zw9w10.out) Zw10w11.out) Zw11w12.out) Zw12w13.out)) (fun _ => (Nat.le_trans (Nat.le_trans (Nat.le_trans (Nat.le_trans (Nat.le_trans (Nat.le_trans (Nat.le_trans (Nat.le_trans (Nat.le_trans Zw4w5.out Zw5w6.out) Zw6w7.out) Zw7w8.out) Zw8w9.out) Zw9w10.out) Zw10w11.out) Zw11w12.out) Zw12w13.out) Zw13w14.out))) (five (fun h => absurd h (by decide)) (fun h => absurd h (by decide)) (fun _ => (Nat.le_refl _)) (fun _ => (Nat.le_trans (Nat.le_trans (Nat.le_trans (Nat.le_trans (Nat.le_trans (Nat.le_trans (Nat.le_trans Zw5w6.out Zw6w7.out) Zw7w8.out) Zw8w9.out) Zw9w10.out) Zw10w11.out) Zw11w12.out) Zw12w13.out)) (fun _ => (Nat.le_trans (Nat.le_trans (Nat.le_trans (Nat.le_trans (Nat.le_trans (Nat.le_trans (Nat.le_trans (Nat.le_trans Zw5w6.out Zw6w7.out) Zw7w8.out) Zw8w9.out) Zw9w10.out) Zw10w11.out) Zw11w12.out) Zw12w13.out) Zw13w14.out))) (five (fun h => absurd h (by decide)) (fun h => absurd h (by decide)) (fun h => absurd h (by decide)) (fun _ => (Nat.le_trans (Nat.le_trans (Nat.le_trans (Nat.le_trans (Nat.le_trans (Nat.le_trans Zw6w7.out Zw7w8.out) Zw8w9.out) Zw9w10.out) Zw10w11.out) Zw11w12.out) Zw12w13.out)) (fun _ => (Nat.le_trans (Nat.le_trans (Nat.le_trans (Nat.le_trans (Nat.le_trans (Nat.le_trans (Nat.le_trans Zw6w7.out Zw7w8.out) Zw8w9.out) Zw9w10.out) Zw10w11.out) Zw11w12.out) Zw12w13.out) Zw13w14.out))) (five (fun h => absurd h (by decide)) (fun h => absurd h (by decide)) (fun h => absurd h (by decide)) (fun h => absurd h (by decide)) (fun _ => (Nat.le_refl _))) (five (fun h => absurd h (by decide)) (fun h => absurd h (by decide)) (fun h => absurd h (by decide)) (fun h => absurd h (by decide)) (fun h => absurd h (by decide)))))
          have FU := hid (far_of BU.out (five (five (fun h => absurd h (by decide)) (fun _ => (Nat.le_refl _)) (fun _ => Zw8w9.out) (fun _ => (Nat.le_trans (Nat.le_trans (Nat.le_trans (Nat.le_trans (Nat.le_trans (Nat.le_trans (Nat.le_trans Zw8w9.out Zw9w10.out) Zw10w11.out) Zw11w12.out) Zw12w13.out) Zw13w14.out) Zw14w15.out) Zw15w16.out)) (fun _ => (Nat.le_trans (Nat.le_trans (Nat.le_trans (Nat.le_trans (Nat.le_trans (Nat.le_trans (Nat.le_trans (Nat.le_trans Zw8w9.out Zw9w10.out) Zw10w11.out) Zw11w12.out) Zw12w13.out) Zw13w14.out) Zw14w15.out) Zw15w16.out) Zw16w17.out))) (five (fun h => absurd h (by decide)) (fun h => absurd h (by decide)) (fun _ => (Nat.le_refl _)) (fun _ => (Nat.le_trans (Nat.le_trans (Nat.le_trans (Nat.le_trans (Nat.le_trans (Nat.le_trans Zw9w10.out Zw10w11.out) Zw11w12.out) Zw12w13.out) Zw13w14.out) Zw14w15.out) Zw15w16.out)) (fun _ => (Nat.le_trans (Nat.le_trans (Nat.le_trans (Nat.le_trans (Nat.le_trans (Nat.le_trans (Nat.le_trans Zw9w10.out Zw10w11.out) Zw11w12.out) Zw12w13.out) Zw13w14.out) Zw14w15.out) Zw15w16.out) Zw16w17.out))) (five (fun h => absurd h (by decide)) (fun h => absurd h (by decide)) (fun h => absurd h (by decide)) (fun _ => (Nat.le_trans (Nat.le_trans (Nat.le_trans (Nat.le_trans (Nat.le_trans Zw10w11.out Zw11w12.out) Zw12w13.out) Zw13w14.out) Zw14w15.out) Zw15w16.out)) (fun _ => (Nat.le_trans (Nat.le_trans (Nat.le_trans (Nat.le_trans (Nat.le_trans (Nat.le_trans Zw10w11.out Zw11w12.out) Zw12w13.out) Zw13w14.out) Zw14w15.out) Zw15w16.out) Zw16w17.out))) (five (fun h => absurd h (by decide)) (fun h => absurd h (by decide)) (fun h => absurd h (by decide)) (fun h => absurd h (by decide)) (fun _ => (Nat.le_refl _))) (five (fun h => absurd h (by decide)) (fun h => absurd h (by decide)) (fun h => absurd h (by decide)) (fun h => absurd h (by decide)) (fun h => absurd h (by decide)))))
          have FX := hid (far_x BV.out BU.out (five (five (Or.inl (Nat.le_trans (Nat.le_trans Zw4w5.out Zw5w6.out) Zw6w7.out)) (Or.inl (Nat.le_trans (Nat.le_trans (Nat.le_trans Zw4w5.out Zw5w6.out) Zw6w7.out) Zw7w8.out)) (Or.inl (Nat.le_trans (Nat.le_trans (Nat.le_trans (Nat.le_trans Zw4w5.out Zw5w6.out) Zw6w7.out) Zw7w8.out) Zw8w9.out)) (Or.inl (Nat.le_trans (Nat.le_trans (Nat.le_trans (Nat.le_trans (Nat.le_trans (Nat.le_trans (Nat.le_trans (Nat.le_trans (Nat.le_trans (Nat.le_trans (Nat.le_trans Zw4w5.out Zw5w6.out) Zw6w7.out) Zw7w8.out) Zw8w9.out) Zw9w10.out) Zw10w11.out) Zw11w12.out) Zw12w13.out) Zw13w14.out) Zw14w15.out) Zw15w16.out)) (Or.inl (Nat.le_trans (Nat.le_trans (Nat.le_trans (Nat.le_trans (Nat.le_trans (Nat.le_trans (Nat.le_trans (Nat.le_trans (Nat.le_trans (Nat.le_trans (Nat.le_trans (Nat.le_trans Zw4w5.out Zw5w6.out) Zw6w7.out) Zw7w8.out) Zw8w9.out) Zw9w10.out) Zw10w11.out) Zw11w12.out) Zw12w13.out) Zw13w14.out) Zw14w15.out) Zw15w16.out) Zw16w17.out))) (five (Or.inl (Nat.le_trans Zw5w6.out Zw6w7.out)) (Or.inl (Nat.le_trans (Nat.le_trans Zw5w6.out Zw6w7.out) Zw7w8.out)) (Or.inl (Nat.le_trans (Nat.le_trans (Nat.le_trans Zw5w6.out Zw6w7.out) Zw7w8.out) Zw8w9.out)) (Or.inl (Nat.le_trans (Nat.le_trans (Nat.le_trans (Nat.le_trans (Nat.le_trans (Nat.le_trans (Nat.le_trans (Nat.le_trans (Nat.le_trans (Nat.le_trans Zw5w6.out Zw6w7.out) Zw7w8.out) Zw8w9.out) Zw9w10.out) Zw10w11.out) Zw11w12.out) Zw12w13.out) Zw13w14.out) Zw14w15.out) Zw15w16.out)) (Or.inl (Nat.le_trans (Nat.le_trans (Nat.le_trans (Nat.le_trans (Nat.le_trans (Nat.le_trans (Nat.le_trans (Nat.le_trans (Nat.le_trans (Nat.le_trans (Nat.le_trans Zw5w6.out Zw6w7.out) Zw7w8.out) Zw8w9.out) Zw9w10.out) Zw10w11.out) Zw11w12.out) Zw12w13.out) Zw13w14.out) Zw14w15.out) Zw15w16.out) Zw16w17.out))) (five (Or.inl Zw6w7.out) (Or.inl (Nat.le_trans Zw6w7.out Zw7w8.out)) (Or.inl (Nat.le_trans (Nat.le_trans Zw6w7.out Zw7w8.out) Zw8w9.out)) (Or.inl (Nat.le_trans (Nat.le_trans (Nat.le_trans (Nat.le_trans (Nat.le_trans (Nat.le_trans (Nat.le_trans (Nat.le_trans (Nat.le_trans Zw6w7.out Zw7w8.out) Zw8w9.out) Zw9w10.out) Zw10w11.out) Zw11w12.out) Zw12w13.out) Zw13w14.out) Zw14w15.out) Zw15w16.out)) (Or.inl (Nat.le_trans (Nat.le_trans (Nat.le_trans (Nat.le_trans (Nat.le_trans (Nat.le_trans (Nat.le_trans (Nat.le_trans (Nat.le_trans (Nat.le_trans Zw6w7.out Zw7w8.out) Zw8w9.out) Zw9w10.out) Zw10w11.out) Zw11w12.out) Zw12w13.out) Zw13w14.out) Zw14w15.out) Zw15w16.out) Zw16w17.out))) (five (Or.inr (Nat.le_trans (Nat.le_trans (Nat.le_trans (Nat.le_trans Zw8w9.out Zw9w10.out) Zw10w11.out) Zw11w12.out) Zw12w13.out)) (Or.inr (Nat.le_trans (Nat.le_trans (Nat.le_trans Zw9w10.out Zw10w11.out) Zw11w12.out) Zw12w13.out)) (Or.inr (Nat.le_trans (Nat.le_trans Zw10w11.out Zw11w12.out) Zw12w13.out)) (Or.inl (Nat.le_trans Zw14w15.out Zw15w16.out)) (Or.inl (Nat.le_trans (Nat.le_trans Zw14w15.out Zw15w16.out) Zw16w17.out))) (five (Or.inr (Nat.le_trans (Nat.le_trans (Nat.le_trans (Nat.le_trans (Nat.le_trans Zw8w9.out Zw9w10.out) Zw10w11.out) Zw11w12.out) Zw12w13.out) Zw13w14.out)) (Or.inr (Nat.le_trans (Nat.le_trans (Nat.le_trans (Nat.le_trans Zw9w10.out Zw10w11.out) Zw11w12.out) Zw12w13.out) Zw13w14.out)) (Or.inr (Nat.le_trans (Nat.le_trans (Nat.le_trans Zw10w11.out Zw11w12.out) Zw12w13.out) Zw13w14.out)) (Or.inl Zw15w16.out) (Or.inl (Nat.le_trans Zw15w16.out Zw16w17.out)))))
          have GV5 := hid (far_g BV.out Pg5.out (five (Or.inl (Nat.le_trans Zw4w5.out Zw5w6.out)) (Or.inl Zw5w6.out) (Or.inl (Nat.le_refl _)) (Or.inr (Nat.le_trans (Nat.le_trans (Nat.le_trans (Nat.le_trans (Nat.le_trans Zw7w8.out Zw8w9.out) Zw9w10.out) Zw10w11.out) Zw11w12.out) Zw12w13.out)) (Or.inr (Nat.le_trans (Nat.le_trans (Nat.le_trans (Nat.le_trans (Nat.le_trans (Nat.le_trans Zw7w8.out Zw8w9.out) Zw9w10.out) Zw10w11.out) Zw11w12.out) Zw12w13.out) Zw13w14.out))) (five (Or.inl (Nat.le_trans (Nat.le_trans (Nat.le_trans (Nat.le_trans (Nat.le_trans (Nat.le_trans (Nat.le_trans (Nat.le_trans (Nat.le_trans (Nat.le_trans Zw4w5.out Zw5w6.out) Zw6w7.out) Zw7w8.out) Zw8w9.out) Zw9w10.out) Zw10w11.out) Zw11w12.out) Zw12w13.out) Zw13w14.out) Zw14w15.out)) (Or.inl (Nat.le_trans (Nat.le_trans (Nat.le_trans (Nat.le_trans (Nat.le_trans (Nat.le_trans (Nat.le_trans (Nat.le_trans (Nat.le_trans Zw5w6.out Zw6w7.out) Zw7w8.out) Zw8w9.out) Zw9w10.out) Zw10w11.out) Zw11w12.out) Zw12w13.out) Zw13w14.out) Zw14w15.out)) (Or.inl (Nat.le_trans (Nat.le_trans (Nat.le_trans (Nat.le_trans (Nat.le_trans (Nat.le_trans (Nat.le_trans (Nat.le_trans Zw6w7.out Zw7w8.out) Zw8w9.out) Zw9w10.out) Zw10w11.out) Zw11w12.out) Zw12w13.out) Zw13w14.out) Zw14w15.out)) (Or.inl Zw14w15.out) (Or.inl (Nat.le_refl _))))
          have GU5 := hid (far_g BU.out Pg5.out (five (Or.inr (Nat.le_refl _)) (Or.inr Zw7w8.out) (Or.inr (Nat.le_trans Zw7w8.out Zw8w9.out)) (Or.inr (Nat.le_trans (Nat.le_trans (Nat.le_trans (Nat.le_trans (Nat.le_trans (Nat.le_trans (Nat.le_trans (Nat.le_trans Zw7w8.out Zw8w9.out) Zw9w10.out) Zw10w11.out) Zw11w12.out) Zw12w13.out) Zw13w14.out) Zw14w15.out) Zw15w16.out)) (Or.inr (Nat.le_trans (Nat.le_trans (Nat.le_trans (Nat.le_trans (Nat.le_trans (Nat.le_trans (Nat.le_trans (Nat.le_trans (Nat.le_trans Zw7w8.out Zw8w9.out) Zw9w10.out) Zw10w11.out) Zw11w12.out) Zw12w13.out) Zw13w14.out) Zw14w15.out) Zw15w16.out) Zw16w17.out))) (five (Or.inl (Nat.le_trans (Nat.le_trans (Nat.le_trans (Nat.le_trans (Nat.le_trans (Nat.le_trans Zw8w9.out Zw9w10.out) Zw10w11.out) Zw11w12.out) Zw12w13.out) Zw13w14.out) Zw14w15.out)) (Or.inl (Nat.le_trans (Nat.le_trans (Nat.le_trans (Nat.le_trans (Nat.le_trans Zw9w10.out Zw10w11.out) Zw11w12.out) Zw12w13.out) Zw13w14.out) Zw14w15.out)) (Or.inl (Nat.le_trans (Nat.le_trans (Nat.le_trans (Nat.le_trans Zw10w11.out Zw11w12.out) Zw12w13.out) Zw13w14.out) Zw14w15.out)) (Or.inr (Nat.le_refl _)) (Or.inr Zw16w17.out)))
          have GV6 := hid (far_g BV.out Pg6.out (five (Or.inl (Nat.le_trans (Nat.le_trans (Nat.le_trans (Nat.le_trans (Nat.le_trans Zw4w5.out Zw5w6.out) Zw6w7.out) Zw7w8.out) Zw8w9.out) Zw9w10.out)) (Or.inl (Nat.le_trans (Nat.le_trans (Nat.le_trans (Nat.le_trans Zw5w6.out Zw6w7.out) Zw7w8.out) Zw8w9.out) Zw9w10.out)) (Or.inl (Nat.le_trans (Nat.le_trans (Nat.le_trans Zw6w7.out Zw7w8.out) Zw8w9.out) Zw9w10.out)) (Or.inr (Nat.le_trans Zw11w12.out Zw12w13.out)) (Or.inr (Nat.le_trans (Nat.le_trans Zw11w12.out Zw12w13.out) Zw13w14.out))) (five (Or.inl (Nat.le_trans (Nat.le_trans (Nat.le_trans (Nat.le_trans (Nat.le_trans (Nat.le_trans (Nat.le_trans (Nat.le_trans (Nat.le_trans (Nat.le_trans (Nat.le_trans (Nat.le_trans (Nat.le_trans Zw4w5.out Zw5w6.out) Zw6w7.out) Zw7w8.out) Zw8w9.out) Zw9w10.out) Zw10w11.out) Zw11w12.out) Zw12w13.out) Zw13w14.out) Zw14w15.out) Zw15w16.out) Zw16w17.out) Zw17w18.out)) (Or.inl (Nat.le_trans (Nat.le_trans (Nat.le_trans (Nat.le_trans (Nat.le_trans (Nat.le_trans (Nat.le_trans (Nat.le_trans (Nat.le_trans (Nat.le_trans (Nat.le_trans (Nat.le_trans Zw5w6.out Zw6w7.out) Zw7w8.out) Zw8w9.out) Zw9w10.out) Zw10w11.out) Zw11w12.out) Zw12w13.out) Zw13w14.out) Zw14w15.out) Zw15w16.out) Zw16w17.out) Zw17w18.out)) (Or.inl (Nat.le_trans (Nat.le_trans (Nat.le_trans (Nat.le_trans (Nat.le_trans (Nat.le_trans (Nat.le_trans (Nat.le_trans (Nat.le_trans (Nat.le_trans (Nat.le_trans Zw6w7.out Zw7w8.out) Zw8w9.out) Zw9w10.out) Zw10w11.out) Zw11w12.out) Zw12w13.out) Zw13w14.out) Zw14w15.out) Zw15w16.out) Zw16w17.out) Zw17w18.out)) (Or.inl (Nat.le_trans (Nat.le_trans (Nat.le_trans Zw14w15.out Zw15w16.out) Zw16w17.out) Zw17w18.out)) (Or.inl (Nat.le_trans (Nat.le_trans Zw15w16.out Zw16w17.out) Zw17w18.out))))
          have GU6 := hid (far_g BU.out Pg6.out (five (Or.inl (Nat.le_trans Zw8w9.out Zw9w10.out)) (Or.inl Zw9w10.out) (Or.inl (Nat.le_refl _)) (Or.inr (Nat.le_trans (Nat.le_trans (Nat.le_trans (Nat.le_trans Zw11w12.out Zw12w13.out) Zw13w14.out) Zw14w15.out) Zw15w16.out)) (Or.inr (Nat.le_trans (Nat.le_trans (Nat.le_trans (Nat.le_trans (Nat.le_trans Zw11w12.out Zw12w13.out) Zw13w14.out) Zw14w15.out) Zw15w16.out) Zw16w17.out))) (five (Or.inl (Nat.le_trans (Nat.le_trans (Nat.le_trans (Nat.le_trans (Nat.le_trans (Nat.le_trans (Nat.le_trans (Nat.le_trans (Nat.le_trans Zw8w9.out Zw9w10.out) Zw10w11.out) Zw11w12.out) Zw12w13.out) Zw13w14.out) Zw14w15.out) Zw15w16.out) Zw16w17.out) Zw17w18.out)) (Or.inl (Nat.le_trans (Nat.le_trans (Nat.le_trans (Nat.le_trans (Nat.le_trans (Nat.le_trans (Nat.le_trans (Nat.le_trans Zw9w10.out Zw10w11.out) Zw11w12.out) Zw12w13.out) Zw13w14.out) Zw14w15.out) Zw15w16.out) Zw16w17.out) Zw17w18.out)) (Or.inl (Nat.le_trans (Nat.le_trans (Nat.le_trans (Nat.le_trans (Nat.le_trans (Nat.le_trans (Nat.le_trans Zw10w11.out Zw11w12.out) Zw12w13.out) Zw13w14.out) Zw14w15.out) Zw15w16.out) Zw16w17.out) Zw17w18.out)) (Or.inl Zw17w18.out) (Or.inl (Nat.le_refl _))))
          have FC : Hid (Fam KC 47 w20 5 V (pick5 (R.map rw1) (R.map rw1) (R.map rw1) (R3.map rw1) (R.map rw1))) := ⟨by rw [hV]; exact five (by show w20.ownsRow 0 47 5 (.slice p0 R.length c0) (R.map rw1).length (fl KC (R.map rw1)); rw [List.length_map, ← fl_KC]; exact (OV0.out.gr G20.out).z) (by show w20.ownsRow 0 47 5 (.slice p1 R.length c1) (R.map rw1).length (fl KC (R.map rw1)); rw [List.length_map, ← fl_KC]; exact (OV1.out.gr G20.out).z) (by show w20.ownsRow 0 47 5 (.slice p2 R.length c2) (R.map rw1).length (fl KC (R.map rw1)); rw [List.length_map, ← fl_KC]; exact (OV2.out.gr G20.out).z) (by show w20.ownsRow 0 47 5 (.slice p3 R3.length c3) (R3.map rw1).length (fl KC (R3.map rw1)); rw [List.length_map, ← fl_KC]; exact (OV3.out.gr G20.out).z) (by show w20.ownsRow 0 47 5 (.slice p4 R.length c4) (R.map rw1).length (fl KC (R.map rw1)); rw [List.length_map, ← fl_KC]; exact (OV4.out.gr G20.out).z), FV.out⟩
          have FS : Hid (Fam KS 35 w20 5 U (pick5 (K.map (·.1)) (K.map (·.1)) (K.map (·.1)) (K3.map (·.1)) (K.map (·.1)))) := ⟨by rw [hU]; exact five (by show w20.ownsRow 0 35 4 (.slice q0 R.length d0) (K.map (·.1)).length (fl KS (K.map (·.1))); rw [List.length_map, ← fl_KS, KL.out]; exact (OU0.out.gr G20.out).z) (by show w20.ownsRow 0 35 4 (.slice q1 R.length d1) (K.map (·.1)).length (fl KS (K.map (·.1))); rw [List.length_map, ← fl_KS, KL.out]; exact (OU1.out.gr G20.out).z) (by show w20.ownsRow 0 35 4 (.slice q2 R.length d2) (K.map (·.1)).length (fl KS (K.map (·.1))); rw [List.length_map, ← fl_KS, KL.out]; exact (OU2.out.gr G20.out).z) (by show w20.ownsRow 0 35 4 (.slice q3 R3.length d3) (K3.map (·.1)).length (fl KS (K3.map (·.1))); rw [List.length_map, ← fl_KS, KL3.out]; exact (OU3.out.gr G20.out).z) (by show w20.ownsRow 0 35 4 (.slice q4 R.length d4) (K.map (·.1)).length (fl KS (K.map (·.1))); rw [List.length_map, ← fl_KS, KL.out]; exact (OU4.out.gr G20.out).z), FU.out⟩
          have hap := apart_any g5 g6 eg5 eg6 V U _ _ w20 (by rw [hV]; exact five ((G20.out.cell zg5).trans (CG5.out 0 _ rfl)) ((G20.out.cell zg5).trans (CG5.out 1 _ rfl)) ((G20.out.cell zg5).trans (CG5.out 2 _ rfl)) ((G20.out.cell zg5).trans (CG5.out 3 _ rfl)) ((G20.out.cell zg5).trans (CG5.out 4 _ rfl))) (Nat.lt_of_lt_of_le zg5 G20.out.size) (by rw [hU]; exact five ((G20.out.cell zg6).trans (CG6.out 0 _ rfl)) ((G20.out.cell zg6).trans (CG6.out 1 _ rfl)) ((G20.out.cell zg6).trans (CG6.out 2 _ rfl)) ((G20.out.cell zg6).trans (CG6.out 3 _ rfl)) ((G20.out.cell zg6).trans (CG6.out 4 _ rfl))) (Nat.lt_of_lt_of_le zg6 G20.out.size) (fun k hk => ⟨GV5.out k hk, GU5.out k hk, GV6.out k hk, GU6.out k hk⟩) FC.out FS.out FX.out (five (by show (R.map rw1).length ≤ 1000; rw [List.length_map]; exact Nat.le_trans hRl (by decide)) (by show (R.map rw1).length ≤ 1000; rw [List.length_map]; exact Nat.le_trans hRl (by decide)) (by show (R.map rw1).length ≤ 1000; rw [List.length_map]; exact Nat.le_trans hRl (by decide)) (by show (R3.map rw1).length ≤ 1000; rw [List.length_map]; exact Nat.le_trans hRl3 (by decide)) (by show (R.map rw1).length ≤ 1000; rw [List.length_map]; exact Nat.le_trans hRl (by decide))) (five (by show (K.map (·.1)).length ≤ 1000; rw [List.length_map, KL.out]; exact Nat.le_trans hRl (by decide)) (by show (K.map (·.1)).length ≤ 1000; rw [List.length_map, KL.out]; exact Nat.le_trans hRl (by decide)) (by show (K.map (·.1)).length ≤ 1000; rw [List.length_map, KL.out]; exact Nat.le_trans hRl (by decide)) (by show (K3.map (·.1)).length ≤ 1000; rw [List.length_map, KL3.out]; exact Nat.le_trans hRl3 (by decide)) (by show (K.map (·.1)).length ≤ 1000; rw [List.length_map, KL.out]; exact Nat.le_trans hRl (by decide)))
          have SQ : Hid (∀ k, SqB V U k → w3.heap.size ≤ k ∧ (k < w11.heap.size ∨ w12.heap.size ≤ k)) := by
            rintro k (⟨i, hi, e⟩ | ⟨i, hi, e⟩)
            · have h := BV.out i hi k e
              have h2 := five (P := fun i => w3.heap.size ≤ (pick5 w3.heap.size w4.heap.size w5.heap.size w13.heap.size w14.heap.size) i ∧ ((pick5 w4.heap.size w5.heap.size w6.heap.size w14.heap.size w15.heap.size) i ≤ w11.heap.size ∨ w12.heap.size ≤ (pick5 w3.heap.size w4.heap.size w5.heap.size w13.heap.size w14.heap.size) i)) ⟨(Nat.le_refl _), Or.inl (Nat.le_trans (Nat.le_trans (Nat.le_trans (Nat.le_trans (Nat.le_trans (Nat.le_trans Zw4w5.out Zw5w6.out) Zw6w7.out) Zw7w8.out) Zw8w9.out) Zw9w10.out) Zw10w11.out)⟩ ⟨Zw3w4.out, Or.inl (Nat.le_trans (Nat.le_trans (Nat.le_trans (Nat.le_trans (Nat.le_trans Zw5w6.out Zw6w7.out) Zw7w8.out) Zw8w9.out) Zw9w10.out) Zw10w11.out)⟩ ⟨(Nat.le_trans Zw3w4.out Zw4w5.out), Or.inl (Nat.le_trans (Nat.le_trans (Nat.le_trans (Nat.le_trans Zw6w7.out Zw7w8.out) Zw8w9.out) Zw9w10.out) Zw10w11.out)⟩ ⟨(Nat.le_trans (Nat.le_trans (Nat.le_trans (Nat.le_trans (Nat.le_trans (Nat.le_trans (Nat.le_trans (Nat.le_trans (Nat.le_trans Zw3w4.out Zw4w5.out) Zw5w6.out) Zw6w7.out) Zw7w8.out) Zw8w9.out) Zw9w10.out) Zw10w11.out) Zw11w12.out) Zw12w13.out), Or.inr Zw12w13.out⟩ ⟨(Nat.le_trans (Nat.le_trans (Nat.le_trans (Nat.le_trans (Nat.le_trans (Nat.le_trans (Nat.le_trans (Nat.le_trans (Nat.le_trans (Nat.le_trans Zw3w4.out Zw4w5.out) Zw5w6.out) Zw6w7.out) Zw7w8.out) Zw8w9.out) Zw9w10.out) Zw10w11.out) Zw11w12.out) Zw12w13.out) Zw13w14.out), Or.inr (Nat.le_trans Zw12w13.out Zw13w14.out)⟩ i hi
              omega
            · have h := BU.out i hi k e
              have h2 := five (P := fun i => w3.heap.size ≤ (pick5 w7.heap.size w8.heap.size w9.heap.size w16.heap.size w17.heap.size) i ∧ ((pick5 w8.heap.size w9.heap.size w10.heap.size w17.heap.size w18.heap.size) i ≤ w11.heap.size ∨ w12.heap.size ≤ (pick5 w7.heap.size w8.heap.size w9.heap.size w16.heap.size w17.heap.size) i)) ⟨(Nat.le_trans (Nat.le_trans (Nat.le_trans Zw3w4.out Zw4w5.out) Zw5w6.out) Zw6w7.out), Or.inl (Nat.le_trans (Nat.le_trans Zw8w9.out Zw9w10.out) Zw10w11.out)⟩ ⟨(Nat.le_trans (Nat.le_trans (Nat.le_trans (Nat.le_trans Zw3w4.out Zw4w5.out) Zw5w6.out) Zw6w7.out) Zw7w8.out), Or.inl (Nat.le_trans Zw9w10.out Zw10w11.out)⟩ ⟨(Nat.le_trans (Nat.le_trans (Nat.le_trans (Nat.le_trans (Nat.le_trans Zw3w4.out Zw4w5.out) Zw5w6.out) Zw6w7.out) Zw7w8.out) Zw8w9.out), Or.inl Zw10w11.out⟩ ⟨(Nat.le_trans (Nat.le_trans (Nat.le_trans (Nat.le_trans (Nat.le_trans (Nat.le_trans (Nat.le_trans (Nat.le_trans (Nat.le_trans (Nat.le_trans (Nat.le_trans (Nat.le_trans Zw3w4.out Zw4w5.out) Zw5w6.out) Zw6w7.out) Zw7w8.out) Zw8w9.out) Zw9w10.out) Zw10w11.out) Zw11w12.out) Zw12w13.out) Zw13w14.out) Zw14w15.out) Zw15w16.out), Or.inr (Nat.le_trans (Nat.le_trans (Nat.le_trans Zw12w13.out Zw13w14.out) Zw14w15.out) Zw15w16.out)⟩ ⟨(Nat.le_trans (Nat.le_trans (Nat.le_trans (Nat.le_trans (Nat.le_trans (Nat.le_trans (Nat.le_trans (Nat.le_trans (Nat.le_trans (Nat.le_trans (Nat.le_trans (Nat.le_trans (Nat.le_trans Zw3w4.out Zw4w5.out) Zw5w6.out) Zw6w7.out) Zw7w8.out) Zw8w9.out) Zw9w10.out) Zw10w11.out) Zw11w12.out) Zw12w13.out) Zw13w14.out) Zw14w15.out) Zw15w16.out) Zw16w17.out), Or.inr (Nat.le_trans (Nat.le_trans (Nat.le_trans (Nat.le_trans Zw12w13.out Zw13w14.out) Zw14w15.out) Zw15w16.out) Zw16w17.out)⟩ i hi
              omega
          have L20 := hid (LL.out.gr G20.out)
          have C20 := hid (CC.out.gr G20.out)
          have O20 := hid (OWW.out.gr G20.out)
          have B20 := hid (BW.out.trans (G20.out.below.mono BW.out.size))
          clear OV0 OV1 OV2 OV3 OV4 OU0 OU1 OU2 OU3 OU4 FC FS FV FU FX GV5 GU5 GV6 GU6 BV BU hV hU Rg5 Rg6 Pg5 Pg6 CG5 CG6 HALL LWW LL CC OWW BW
          have ZA : Hid (∀ k, Lo la ta ba k → k < w3.heap.size) := fun k hk => Nat.lt_of_lt_of_le (LAC.out k hk) Z23.out
          have ZC : Hid (∀ k, Lo lc tc bc k → k < w3.heap.size) := fun k hk => by
            rcases hk with rfl | rfl | rfl
            · exact HLL.out
            · exact HTC.out
            · exact HBC.out
          go_wp2_with fail
          refine hap.mono ?_
          rintro e w22 ⟨rfl, k22⟩
          have nq : ∀ k, k < w3.heap.size → ¬ SqB V U k := fun k h e => by have := (SQ.out k e).1; omega
          have L22 := hid (L20.out.kp k22 (nq _ (ZA.out _ (Or.inl rfl))) (nq _ (ZA.out _ (Or.inr (Or.inl rfl)))) (nq _ (ZA.out _ (Or.inr (Or.inr rfl)))))
          have C22 := hid (C20.out.kp k22 (nq _ (ZC.out _ (Or.inl rfl))) (nq _ (ZC.out _ (Or.inr (Or.inl rfl)))) (nq _ (ZC.out _ (Or.inr (Or.inr rfl)))))
          have O22 := hid (O20.out.kp k22 (fun k hk => (SQ.out k hk).2))
          have B22 := hid (B20.out.trans (k22.below B20.out.size (fun k hk => Nat.le_trans B3S.out (SQ.out k hk).1)))
          have hc := changes_any w22 L22.out N1.1
          clear hap k22 nq L20 C20 O20 B20 SQ
          go_wp2_with fail
          refine hc.mono ?_
          rintro e w23 ⟨v23, k23, hs23, rfl, ho23, -, hb23⟩
          rw [(HRK.out k23 hs23).1] at ho23
          obtain ⟨p23, c23, rfl⟩ := owns_form ho23
          have hsm : Calls Try.prog 8 #[.slice p23 R.length c23, .slice pw R.length cw] w23 fun e w' => e = .returned (.bool true) ∧ Gr w23 w' := same_any (l := R) w23 (owns_ls (E := EC) ho23) (owns_ls (E := EC) (O22.out.below hb23).row) (Nat.le_trans hRl (by decide))
          have L23 := hid (L22.out.below hb23)
          have C23 := hid (C22.out.below hb23)
          have O23 := hid (O22.out.below hb23)
          have B23 := hid (B22.out.trans (hb23.mono B22.out.size))
          clear hc hs23 ho23 hb23 L22 C22 O22 B22
          go_wp2_with fail
          refine hsm.mono ?_
          rintro e w24 ⟨rfl, g24⟩
          have L24 := hid (L23.out.gr g24)
          have O24 := hid (O23.out.gr g24)
          have B24 := hid (B23.out.trans (g24.below.mono B23.out.size))
          have hcl := clear_any w24 (C23.out.gr g24)
          clear hsm g24 L23 C23 O23 B23
          go_wp2_with fail
          refine hcl.mono ?_
          rintro e w25 ⟨b25, rfl, hb25, C25, k25⟩
          have L25 := hid (L24.out.kp k25 (ltne (LAC.out _ (Or.inl rfl)) LCC.out.2) (ltne (LAC.out _ (Or.inr (Or.inl rfl))) LCC.out.2) (ltne (LAC.out _ (Or.inr (Or.inr rfl))) LCC.out.2))
          have O25 := hid (O24.out.kp k25 (fun k hk => Or.inl (by rw [hk]; exact Nat.lt_of_lt_of_le HTC.out (Nat.le_trans (Nat.le_trans (Nat.le_trans (Nat.le_trans (Nat.le_trans (Nat.le_trans (Nat.le_trans Zw3w4.out Zw4w5.out) Zw5w6.out) Zw6w7.out) Zw7w8.out) Zw8w9.out) Zw9w10.out) Zw10w11.out))))
          have B25 := hid (B24.out.trans (k25.below B24.out.size (fun k hk => by rw [hk]; exact HLT.out)))
          have hle := len_any w25 C25
          clear hcl hb25 C25 k25 L24 O24 B24
          go_wp2_with fail
          refine hle.mono ?_
          rintro e w26 ⟨k26, hs26, rfl, g26⟩
          rw [sup_zero hs26]
          have L26 := hid (L25.out.gr g26)
          have O26 := hid (O25.out.gr g26)
          have B26 := hid (B25.out.trans (g26.below.mono B25.out.size))
          have hc := changes_any w26 L26.out N1.1
          clear hle hs26 g26 L25 O25 B25
          go_wp2_with fail
          refine hc.mono ?_
          rintro e w27 ⟨v27, k27, hs27, rfl, ho27, -, hb27⟩
          rw [(HRK.out k27 hs27).1] at ho27
          obtain ⟨p27, c27, rfl⟩ := owns_form ho27
          have hsm : Calls Try.prog 8 #[.slice p27 R.length c27, .slice pw R.length cw] w27 fun e w' => e = .returned (.bool true) ∧ Gr w27 w' := same_any (l := R) w27 (owns_ls (E := EC) ho27) (owns_ls (E := EC) (O26.out.below hb27).row) (Nat.le_trans hRl (by decide))
          have B27 := hid (B26.out.trans (hb27.mono B26.out.size))
          clear hc hs27 ho27 hb27 L26 O26 B26
          go_wp2_with fail
          refine hsm.mono ?_
          rintro e w28 ⟨rfl, g28⟩
          have B28 := hid (B27.out.trans (g28.below.mono B27.out.size))
          clear hsm g28
          go_wp2_with fail
          go_ret
          exact ⟨rfl, B28.out⟩
end Go.Proofs.Ytcmgmgnmhhkdgaa
