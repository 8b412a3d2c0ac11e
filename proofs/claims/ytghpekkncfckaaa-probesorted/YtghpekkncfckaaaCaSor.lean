import Derived.Test.YtghpekkncfckaaaCaFro
namespace Go.Proofs.Ytghpekkncfckaaa.Ca
open Go.RowKit Go.Sort
attribute [local go_sem ↓] Go.wp_at_zero Go.wp_at_succ
/-- Three rows of one's own, apart from each other. -/
structure R3 (B : Nat) (w : World) (v1 v2 v3 : Value) (l1 l2 l3 : List Ct) : Prop where
  o1 : w.ownsRow B 36 5 v1 l1.length (fl EC l1)
  o2 : w.ownsRow B 36 5 v2 l2.length (fl EC l2)
  o3 : w.ownsRow B 36 5 v3 l3.length (fl EC l3)
  n12 : ∀ k, v1.ownBlock = some k → v2.ownBlock ≠ some k
  n23 : ∀ k, v2.ownBlock = some k → v3.ownBlock ≠ some k
  n31 : ∀ k, v3.ownBlock = some k → v1.ownBlock ≠ some k
section
variable {B : Nat} {w w' : World} {v1 v2 v3 : Value} {l1 l2 l3 : List Ct}
theorem R3.rot (h : R3 B w v1 v2 v3 l1 l2 l3) : R3 B w v2 v3 v1 l2 l3 l1 := ⟨h.o2, h.o3, h.o1, h.n23, h.n31, h.n12⟩
theorem R3.below (h : R3 B w v1 v2 v3 l1 l2 l3) (hb : Below w.heap.size w w') : R3 B w' v1 v2 v3 l1 l2 l3 := ⟨owns_below h.o1 hb, owns_below h.o2 hb, owns_below h.o3 hb, h.n12, h.n23, h.n31⟩
theorem R3.app (h : R3 B w v1 v2 v3 l1 l2 l3) {x : Ct} {b cap : Nat} (ho : w'.ownsRow B 36 5 (.slice (some ⟨b, 0, none⟩) (l1.length + 1) cap) (l1.length + 1) (fl EC l1 ++ EC.enc x)) (hg : w.grownBy w' v1.ownBlock) (hn : v1.ownBlock = some b ∨ w.heap.size ≤ b) :
    R3 B w' (.slice (some ⟨b, 0, none⟩) (l1 ++ [x]).length cap) v2 v3 (l1 ++ [x]) l2 l3 := by
  have hk : Kp (fun k => v1.ownBlock = some k) w w' := Kp.grownBy hg (fun _ h => h)
  have hb : ∀ k, v2.ownBlock = some k ∨ v3.ownBlock = some k → b ≠ k := fun k hk e => by
    subst e
    rcases hn with hn | hn
    · rcases hk with hk | hk
      · exact h.n12 b hn hk
      · exact h.n31 b hk hn
    · rcases hk with hk | hk
      · have := (h.o2.lt b hk).2; omega
      · have := (h.o3.lt b hk).2; omega
  refine ⟨?_, owns_kp hk h.o2 (fun k e e2 => h.n12 k e2 e), owns_kp hk h.o3 (fun k e e2 => h.n31 k e e2), fun k e e2 => ?_, h.n23, fun k e e2 => ?_⟩
  · rw [List.length_append, fl_append, fl_one]; exact ho
  · have : b = k := by simpa [Value.ownBlock] using e
    exact hb k (Or.inl e2) this
  · have : b = k := by simpa [Value.ownBlock] using e2
    exact hb k (Or.inr e) this
theorem R3.bel (h : R3 B w v1 v2 v3 l1 l2 l3) (hB : B ≤ w.heap.size) (hg : w.grownBy w' v1.ownBlock) : Below B w w' :=
  (Kp.grownBy (S := fun k => v1.ownBlock = some k) hg (fun _ h => h)).below hB (fun k hk => (h.o1.lt k hk).1)
end
theorem srt_cle {l : List Ct} {i : Nat} {x y : Ct} (h1 : (srt l)[i]? = some x) (h2 : (srt l)[i + 1]? = some y) : cle x y = true := by
  obtain ⟨a1, rfl⟩ := List.getElem?_eq_some_iff.1 h1
  obtain ⟨a2, rfl⟩ := List.getElem?_eq_some_iff.1 h2
  have := List.pairwise_iff_getElem.1 (srt_sd l) i (i + 1) a1 a2 (Nat.lt_succ_self i)
  unfold cle
  rw [this]; rfl
theorem take_count {l : List Ct} {i : Nat} {x y : Ct} (h : l[i]? = some y) : (l.take (i + 1)).count x = (l.take i).count x + (if y = x then 1 else 0) := by
  rw [List.take_add_one, h, List.count_append]
  congr 1
  simp [List.count_cons]
theorem drop_rev {l : List Ct} {i : Nat} {x : Ct} (h : l[i]? = some x) : (l.drop (i + 1)).reverse ++ [x] = (l.drop i).reverse := by
  obtain ⟨hi, rfl⟩ := List.getElem?_eq_some_iff.1 h
  rw [← List.getElem_cons_drop hi, List.reverse_cons]
set_option maxHeartbeats 32000000 in
set_option maxRecDepth 100000 in
theorem probeSorted_any {p q : Option Addr} {c d : Nat} {L : List Ct} {F : List T3} (t : T3) (ky : Int) (w : World) (hL : Ls EC w (.slice p L.length c) L) (hF : Ls ET w (.slice q F.length d) F) (hnb : L.length * 40 ≤ 140737488351232) (hmb : F.length * 24 ≤ 140737488351232) :
    Calls Try.prog 3 #[.slice p L.length c, .agg #[.int .u64 t.1, .int .u64 t.2.1, .int .u64 t.2.2, .slice q F.length d, .int .u64 ky]] w fun e w' => e = .returned (.bool true) ∧ Below w.heap.size w w' := by
  have hmx : Try.prog.follows .mixedOrders = true := by kernel_rfl
  have BDL : Hid (L.length * 40 ≤ 140737488355328 ∧ (0 + L.length) * 40 ≤ 140737488355328 ∧ 0 + L.length ≤ maxLen ∧ (([] : List Ct).length + L.length) * 40 ≤ 140737488355328 ∧ L.length ≤ 5864062014806) := ⟨by omega, by omega, by unfold maxLen; omega, by simp; omega, by omega⟩
  have BDF : Hid (F.length ≤ maxLen ∧ F.length ≤ 9223372036854775807) := ⟨by unfold maxLen; omega, by omega⟩
  obtain ⟨W0, hW0⟩ : ∃ W0, W0 = (w.alloc (.cells #[.int .u64 t.1, .int .u64 t.2.1, .int .u64 t.2.2, .slice q F.length d, .int .u64 ky] 28)).alloc (.cells #[.int .u64 t.1, .int .u64 t.2.1, .int .u64 t.2.2] 25) := ⟨_, rfl⟩
  obtain ⟨B, hB⟩ : ∃ B, B = w.heap.size + 1 := ⟨_, rfl⟩
  have G0 : Gr w W0 := by rw [hW0]; exact ((Gr.refl _).alloc _).alloc _
  have HL := hid (hL.below G0.below)
  have HF := hid (hF.below G0.below)
  have MO : Hid (Tc W0 B 0 t ∧ B < W0.heap.size) := by
    rw [hW0, hB]
    have h1 := tc_new (w.alloc (.cells #[.int .u64 t.1, .int .u64 t.2.1, .int .u64 t.2.2, .slice q F.length d, .int .u64 ky] 28)) t
    rw [show (w.alloc (.cells #[.int .u64 t.1, .int .u64 t.2.1, .int .u64 t.2.2, .slice q F.length d, .int .u64 ky] 28)).heap.size = w.heap.size + 1 by simp] at h1
    exact ⟨h1, by simp⟩
  have HG0 := hid G0
  have hnb2 : L.length ≤ 3518437208780 := by omega
  obtain ⟨n, hn⟩ : ∃ n, n = L.length := ⟨_, rfl⟩
  have HN := hid hn
  rw [← hn] at HL hnb2
  rw [← hn]
  clear hL hF G0 hnb hmb hn
  go_enter Try.func3, Try.ntmps3
  have hc := new_any W0
  go_wp2_with fail
  rw [← hB, ← hW0]
  clear hB hW0
  refine hc.mono ?_
  clear hc
  rintro e W1 ⟨pb, rfl, H1⟩
  have BW : Hid (Below W0.heap.size W0 W1) := H1.out.2
  obtain ⟨SP, hSP⟩ : ∃ S : Nat → Prop, S = fun k => W0.heap.size ≤ k ∧ k < W1.heap.size := ⟨_, rfl⟩
  have HSP : Hid (∀ k, SP k → W0.heap.size ≤ k ∧ k < W1.heap.size) := fun k h => by rw [hSP] at h; exact h
  have PB : Hid (Pb W1 SP pb []) := H1.out.1.mono fun k h1 h2 => by rw [hSP]; exact ⟨h2, h1⟩
  clear H1 hSP
  have hc := new_any W1
  go_wp2_with fail
  refine hc.mono ?_
  clear hc
  rintro e W2 ⟨qb, rfl, H2⟩
  have hb := H2.out.2
  obtain ⟨SQ, hSQ⟩ : ∃ S : Nat → Prop, S = fun k => W1.heap.size ≤ k ∧ k < W2.heap.size := ⟨_, rfl⟩
  have HSQ : Hid (∀ k, SQ k → W1.heap.size ≤ k ∧ k < W2.heap.size) := fun k h => by rw [hSQ] at h; exact h
  have QB0 : Hid (Pb W2 SQ qb []) := H2.out.1.mono fun k h1 h2 => by rw [hSQ]; exact ⟨h2, h1⟩
  have Z01 : Hid (W0.heap.size ≤ W1.heap.size) := BW.out.size
  have Z12 : Hid (W1.heap.size ≤ W2.heap.size) := hb.size
  clear H2 hSQ
  have BW' := hid (BW.out.trans (hb.mono BW.out.size))
  clear BW
  have BW := BW'
  clear BW'
  have PB' := hid (PB.out.below hb)
  clear PB
  have PB := PB'
  clear PB'
  clear hb
  have QB := QB0
  clear QB0
  have hc := known_any W2
  go_wp2_with fail
  refine hc.mono ?_
  clear hc
  rintro e W3 ⟨rfl, hk⟩
  have hb : Below W2.heap.size W2 W3 := hk
  have Z23 : Hid (W2.heap.size ≤ W3.heap.size) := hk.size
  have BW' := hid (BW.out.trans (hb.mono BW.out.size))
  clear BW
  have BW := BW'
  clear BW'
  have PB' := hid (PB.out.below hb)
  clear PB
  have PB := PB'
  clear PB'
  have QB' := hid (QB.out.below hb)
  clear QB
  have QB := QB'
  clear QB'
  clear hb
  clear hk
  have HZ : Hid (Below W3.heap.size W3 (W3.alloc (.cells #[] 36))) := ((Gr.refl _).alloc _).below
  go_wp2_with (at_builtin; refine wpAppL EC Try.underlying22 infoC rfl (by decide) rfl _ _ rfl W3.heap.size _ 0 [] rfl (World.ownsRow_made W3 #[] 0 (Nat.le_refl _) (Nat.zero_le _) rfl) _ L rfl (HL.out.below (BW.out.trans (HZ.out.mono BW.out.size))) BDL.out.2.1 BDL.out.2.2.1 HZ.out.size ?_)
  intro v4 W4 ho4 hg4
  have HO4 := hid ho4
  have HB4 : Hid (Below W3.heap.size W3 W4) := HZ.out.trans ((Kp.grownBy (S := fun k => k = W3.heap.size) hg4 (fun k hk => by simpa [Value.ownBlock] using hk.symm)).below HZ.out.size (fun k hk => by rw [hk]; exact Nat.le_refl _))
  clear ho4 hg4 HZ
  obtain ⟨p4, c4, rfl⟩ := own_form HO4.out
  have hb := HB4.out
  have Z34 : Hid (W3.heap.size ≤ W4.heap.size) := hb.size
  have BW' := hid (BW.out.trans (hb.mono BW.out.size))
  clear BW
  have BW := BW'
  clear BW'
  have PB' := hid (PB.out.below hb)
  clear PB
  have PB := PB'
  clear PB'
  have QB' := hid (QB.out.below hb)
  clear QB
  have QB := QB'
  clear QB'
  clear hb HB4
  have hc := catch_any W4 PB.out (owns_ls (E := EC) (owns_re HO4.out (by simp) (by simp))) BDL.out.2.2.2.1
  rw [List.nil_append] at hc
  go_wp2_with fail
  refine hc.mono ?_
  clear hc
  rintro e W5 ⟨rfl, H5⟩
  obtain ⟨SR, hSR⟩ : ∃ S : Nat → Prop, S = fun k => (SP k ∨ W4.heap.size ≤ k) ∧ k < W5.heap.size := ⟨_, rfl⟩
  have HSR : Hid (∀ k, SR k → (SP k ∨ W4.heap.size ≤ k) ∧ k < W5.heap.size) := fun k h => by rw [hSR] at h; exact h
  have PB' : Hid (Pb W5 SR pb L) := H5.out.1.mono fun k h1 h2 => by rw [hSR]; exact ⟨h2, h1⟩
  have QB' : Hid (Pb W5 SQ qb []) := QB.out.kp H5.out.2 (fun k h1 h2 => by have h3 := (HSQ.out k h1).1; have h4 := (HSP.out k h2).2; omega)
  have BW' : Hid (Below W0.heap.size W0 W5) := BW.out.trans (H5.out.2.below BW.out.size (fun k hk => (HSP.out k hk).1))
  have Z45 : Hid (W4.heap.size ≤ W5.heap.size) := H5.out.2.size
  clear BW PB QB H5 HO4 hSR
  have BW := BW'
  have PB := PB'
  have QB := QB'
  clear BW' PB' QB'
  obtain ⟨SU, hSU⟩ : ∃ S : Nat → Prop, S = fun k => SQ k ∨ W5.heap.size ≤ k := ⟨_, rfl⟩
  have HSU : Hid (∀ k, SU k ↔ SQ k ∨ W5.heap.size ≤ k) := fun k => by rw [hSU]
  have HUR : Hid (∀ k, SR k → ¬ SU k) := fun k h1 h2 => by
    have h3 := HSR.out k h1
    have z1 := Z01.out
    have z2 := Z12.out
    have z3 := Z23.out
    have z4 := Z34.out
    rcases (HSU.out k).1 h2 with h4 | h4
    · have h5 := HSQ.out k h4
      rcases h3.1 with h6 | h6
      · have h7 := HSP.out k h6; omega
      · omega
    · omega
  have HUW : Hid (∀ k, SU k → W0.heap.size ≤ k) := fun k h => by
    have z1 := Z01.out
    have z0 := BW.out.size
    rcases (HSU.out k).1 h with h4 | h4
    · have h5 := HSQ.out k h4; omega
    · omega
  have QS : Hid (Pb W5 SU qb [] ∧ Kp SU W5 W5) := ⟨QB.out.mono fun k _ h => (HSU.out k).2 (Or.inl h), Kp.refl _ _⟩
  clear QB hSU HSR HSQ HSP Z01 Z12 Z23 Z34 Z45
  go_wp2_with fail
  go_loopw [10] (fun s10 wr => ∃ (j : Nat) (e : Int), j ≤ n ∧ e = (j : Int) - 1 ∧ s10 = .int .i64 e ∧ Hid (Pb wr SU qb (L.drop j).reverse ∧ Kp SU W5 wr)) (fun s10 _ => (RowKit.intOf s10 + 1).toNat)
  case atStart => exact ⟨n, _, Nat.le_refl _, rfl, rfl, by rw [HN.out, List.drop_length]; exact QS.out⟩
  case round =>
    clear QS
    obtain ⟨j, e, hj, he, rfl, HI⟩ := hrel
    by_cases hlt : 0 < j
    · obtain ⟨i, rfl⟩ : ∃ i, j = i + 1 := ⟨j - 1, by omega⟩
      obtain rfl : e = (i : Int) := by omega
      have hi0 : (0 : Int) ≤ (i : Int) := by omega
      have hin : (i : Int) < (n : Int) := by omega
      have hib : i ≤ 3518437208780 := by omega
      clear he hlt
      obtain ⟨x, hx⟩ : ∃ x, L[i]? = some x := ⟨L[i]'(by have := HN.out; omega), by simp⟩
      have BWr : Below W0.heap.size W0 wr := BW.out.trans (HI.out.2.below BW.out.size HUW.out)
      obtain ⟨b1, o1, q1, e1, l1, x0, x1, x2, x3, x4⟩ := atC (HL.out.below BWr) hx
      simp only [Value.slice.injEq] at e1
      obtain ⟨rfl, -, rfl⟩ := e1
      have HX : Hid ((L.drop (i + 1)).reverse ++ [x] = (L.drop i).reverse) := drop_rev hx
      obtain ⟨Wa, hWa⟩ : ∃ V, V = wr.alloc (.cells #[.int .u64 x.a, .int .u64 x.b, .int .u64 x.c, .int .u64 x.k, .int .u64 x.v] 36) := ⟨_, rfl⟩
      obtain ⟨bx, hbx⟩ : ∃ b, b = wr.heap.size := ⟨_, rfl⟩
      have Ga : Gr wr Wa := by rw [hWa]; exact (Gr.refl _).alloc _
      have La : Ls EC Wa (.slice (some ⟨bx, 0, none⟩) 1 1) [x] := ls_lit (by rw [hWa, hbx]; exact heap_new' _ _) rfl _ _ rfl
      have hc := catch_any Wa (HI.out.1.below Ga.below) La (by rw [List.length_reverse, List.length_drop]; have := BDL.out.1; have := HN.out; simp; omega)
      rw [HX.out] at hc
      have HKa : Hid (Kp SU W5 Wa) := HI.out.2.trans (Kp.of_gr (S := SU) Ga) (fun _ _ h => h)
      have HZa : Hid (W5.heap.size ≤ Wa.heap.size) := HKa.out.size
      clear hx HX Ga La BWr HI
      go_wp2_with fail
      rw [← hWa, ← hbx]
      clear hWa hbx x0 x1 x2 x3 x4 l1
      refine hc.mono ?_
      clear hc
      rintro e Wb ⟨rfl, H⟩
      have HE : Hid (Pb Wb SU qb (L.drop i).reverse ∧ Kp SU W5 Wb) := ⟨H.out.1.mono (fun k _ h => h.elim id (fun h => (HSU.out k).2 (Or.inr (Nat.le_trans HZa.out h)))), HKa.out.trans H.out.2 (fun _ _ h => h)⟩
      clear H HKa HZa
      go_wp2_with fail
      go_roundw
      case rel => exact ⟨i, (i : Int) - 1, by omega, rfl, by go_num, HE.out⟩
      case measure => simp [RowKit.intOf]
    · obtain rfl : j = 0 := by omega
      obtain rfl : e = -1 := by omega
      obtain ⟨W6, hW6⟩ : ∃ V, V = wr := ⟨_, rfl⟩
      rw [← hW6] at HI ⊢
      have BW' : Hid (Below W0.heap.size W0 W6) := BW.out.trans (HI.out.2.below BW.out.size HUW.out)
      have PB' : Hid (Pb W6 SR pb L) := PB.out.kp HI.out.2 HUR.out
      have QB : Hid (Pb W6 SU qb L.reverse) := HI.out.1
      clear PB BW HI hW6 hlt he hj HUW HUR HSU
      have PB := PB'
      have BW := BW'
      clear PB' BW' 
      have hc := all_any W6 PB.out BDL.out.1
      go_wp2_with fail
      refine hc.mono ?_
      clear hc
      rintro e W7 ⟨pa, ca, rfl, H⟩
      have hb : Below W6.heap.size W6 W7 := H.out.2
      have LA : Hid (Ls EC W7 (.slice pa L.length ca) (srt L)) := Tld.ls H.out
      clear H
      rw [← HN.out] at LA ⊢
      have BW' := hid (BW.out.trans (hb.mono BW.out.size))
      clear BW
      have BW := BW'
      clear BW'
      have PB' := hid (PB.out.below hb)
      clear PB
      have PB := PB'
      clear PB'
      have QB' := hid (QB.out.below hb)
      clear QB
      have QB := QB'
      clear QB'
      clear hb
      have hc := len_any W7 PB.out
      rw [← HN.out] at hc
      go_wp2_with fail
      refine hc.mono ?_
      clear hc
      rintro e w' ⟨rfl, hw⟩
      rw [hw]
      clear hw w'
      have hc := all_any W7 QB.out (by rw [List.length_reverse]; exact BDL.out.1)
      rw [srt_of_perm (List.reverse_perm L), List.length_reverse, ← HN.out] at hc
      go_wp2_with fail
      refine hc.mono ?_
      clear hc
      rintro e W8 ⟨pz, cz, rfl, H⟩
      have hb : Below W7.heap.size W7 W8 := H.out.2
      have LZ : Hid (Ls EC W8 (.slice pz n cz) (srt L)) := Tld.ls H.out
      clear H
      have BW' := hid (BW.out.trans (hb.mono BW.out.size))
      clear BW
      have BW := BW'
      clear BW'
      have PB' := hid (PB.out.below hb)
      clear PB
      have PB := PB'
      clear PB'
      have QB' := hid (QB.out.below hb)
      clear QB
      have QB := QB'
      clear QB'
      have LA' := hid (LA.out.below hb)
      clear LA
      have LA := LA'
      clear LA'
      clear hb
      have hc := same_eq W8 LA.out LZ.out (by rw [srt_len]; exact BDL.out.2.2.2.2)
      go_wp2_with fail
      refine hc.mono ?_
      clear hc
      rintro e W9 ⟨rfl, g9⟩
      have hb : Below W8.heap.size W8 W9 := g9.below
      have BW' := hid (BW.out.trans (hb.mono BW.out.size))
      clear BW
      have BW := BW'
      clear BW'
      have PB' := hid (PB.out.below hb)
      clear PB
      have PB := PB'
      clear PB'
      have QB' := hid (QB.out.below hb)
      clear QB
      have QB := QB'
      clear QB'
      have LA' := hid (LA.out.below hb)
      clear LA
      have LA := LA'
      clear LA'
      clear hb
      clear g9 LZ QB
      obtain ⟨A, hA⟩ : ∃ A, A = srt L := ⟨_, rfl⟩
      rw [← hA] at LA
      have HA := hid hA
      have HAL : Hid (n = A.length) := by rw [hA, srt_len]; exact HN.out
      clear hA
      have hba : n ≤ 3518437208780 := hnb2
      have heq : ∀ (y x : Ct) (W : World), Sem.run Try.prog (Op.equalIn 10000 36 (cv y) (cv x)) W = .ok (decide (y = x)) W := fun y x W => run_eqC y x W
      have HEQ := hid heq
      clear heq
      go_wp2_with fail
      go_loopw [12, 13, 14, 15, 16] (fun s12 _ _ _ _ wr => ∃ i : Nat, i ≤ n ∧ s12 = .int .i64 (i : Nat) ∧ Hid (Below W9.heap.size W9 wr)) (fun s12 _ _ _ _ _ => n - (RowKit.intOf s12).toNat)
      case atStart => exact ⟨0, Nat.zero_le _, rfl, Below.refl _ _⟩
      case round =>
        obtain ⟨i, hi, rfl, HI⟩ := hrel
        by_cases hlt : i < n
        · have hz : (i : Int) < (n : Int) := by omega
          have hi0 : (0 : Int) ≤ (i : Int) := by omega
          obtain ⟨x, hx⟩ : ∃ x, L[i]? = some x := ⟨L[i]'(by have := HN.out; omega), by simp⟩
          have HX := hid hx
          obtain ⟨b1, o1, q1, e1, l1, x0, x1, x2, x3, x4⟩ := atC (HL.out.below (BW.out.trans (HI.out.mono BW.out.size))) hx
          simp only [Value.slice.injEq] at e1
          obtain ⟨rfl, -, rfl⟩ := e1
          clear hx l1 x0 x1 x2 x3 x4
          have HXA : Hid (∀ W, Below W9.heap.size W9 W → b1 < W.heap.size ∧ Cc W b1 (o1 + i * 5) x) := fun W h => by
            obtain ⟨b, o, q', e', l', h'⟩ := atC (HL.out.below (BW.out.trans (h.mono BW.out.size))) HX.out
            simp only [Value.slice.injEq, Option.some.injEq, Addr.mk.injEq, and_true] at e'
            obtain ⟨⟨rfl, rfl⟩, -⟩ := e'
            exact ⟨l', h'⟩
          obtain ⟨V0, hV0⟩ : ∃ V, V = wr := ⟨_, rfl⟩
          rw [← hV0] at HI ⊢
          clear hV0
          go_wp2_with fail
          go_loopw [13, 14] (fun sC sJ wq => ∃ j : Nat, j ≤ n ∧ sJ = .int .i64 (j : Nat) ∧ sC = .int .i64 ((A.take j).count x : Nat) ∧ Hid (Below W9.heap.size W9 wq)) (fun _ sJ _ => n - (RowKit.intOf sJ).toNat)
          case atStart => exact ⟨0, Nat.zero_le _, rfl, by simp, HI.out⟩
          case round =>
            obtain ⟨j, hj, rfl, rfl, HJ⟩ := hrel
            by_cases hjl : j < n
            · have hjz : (j : Int) < (n : Int) := by omega
              have hj0 : (0 : Int) ≤ (j : Int) := by omega
              obtain ⟨y, hy⟩ : ∃ y, A[j]? = some y := ⟨A[j]'(by have := HAL.out; omega), by simp⟩
              have HF : Hid ((A.take (j + 1)).count x = (A.take j).count x + (if y = x then 1 else 0)) := take_count hy
              have hcb : (A.take j).count x ≤ 3518437208780 := Nat.le_trans List.count_le_length (by rw [List.length_take]; omega)
              obtain ⟨b2, o2, q2, e2, l2, y0, y1, y2, y3, y4⟩ := atC (LA.out.below HJ.out) hy
              simp only [Value.slice.injEq] at e2
              obtain ⟨rfl, -, rfl⟩ := e2
              obtain ⟨l1, z0, z1, z2, z3, z4⟩ := HXA.out _ HJ.out
              have heq2 := HEQ.out y x
              generalize (A.take j).count x = k at *
              clear hy
              by_cases hyx : y = x
              · rw [decide_eq_true hyx] at heq2
                have HF' := HF.out
                rw [if_pos hyx] at HF'
                have HF2 := hid HF'
                clear hyx HF HF'
                go_wp2_with fail
                go_quiet (fail)
                go_wp2_with fail
                go_roundw
                case rel => exact ⟨j + 1, hjl, by go_num, by rw [HF2.out]; go_num, HJ.out.trans (((Gr.refl _).drewN _).below.mono HJ.out.size)⟩
                case measure => simp [RowKit.intOf]; omega
              · rw [decide_eq_false hyx] at heq2
                have HF' := HF.out
                rw [if_neg hyx, Nat.add_zero] at HF'
                have HF2 := hid HF'
                clear hyx HF HF'
                go_wp2_with fail
                go_quiet (fail)
                go_wp2_with fail
                go_roundw
                case rel => exact ⟨j + 1, hjl, by go_num, by rw [HF2.out]; simp, HJ.out.trans (((Gr.refl _).drewN _).below.mono HJ.out.size)⟩
                case measure => simp [RowKit.intOf]; omega
            · have hjz : ¬ ((j : Int) < (n : Int)) := by omega
              have hjn : A.take j = A := List.take_of_length_le (by have := HAL.out; omega)
              rw [hjn]
              have HI := hid HJ.out
              clear hjn HJ hj hjl
              have HCA := hid (show A.count x = L.count x by rw [HA.out, srt_count])
              rw [HCA.out]
              go_wp2_with fail
              go_loopw [15, 16] (fun sC sJ wq => ∃ j : Nat, j ≤ n ∧ sJ = .int .i64 (j : Nat) ∧ sC = .int .i64 ((L.take j).count x : Nat) ∧ Hid (Below W9.heap.size W9 wq)) (fun _ sJ _ => n - (RowKit.intOf sJ).toNat)
              case atStart => exact ⟨0, Nat.zero_le _, rfl, by simp, HI.out⟩
              case round =>
                obtain ⟨j, hj, rfl, rfl, HJ⟩ := hrel
                by_cases hjl : j < n
                · have hjz : (j : Int) < (n : Int) := by omega
                  have hj0 : (0 : Int) ≤ (j : Int) := by omega
                  obtain ⟨y, hy⟩ : ∃ y, L[j]? = some y := ⟨L[j]'(by have := HN.out; omega), by simp⟩
                  have HF : Hid ((L.take (j + 1)).count x = (L.take j).count x + (if y = x then 1 else 0)) := take_count hy
                  have hcb : (L.take j).count x ≤ 3518437208780 := Nat.le_trans List.count_le_length (by rw [List.length_take]; omega)
                  obtain ⟨b2, o2, q2, e2, l2, y0, y1, y2, y3, y4⟩ := atC (HL.out.below (BW.out.trans (HJ.out.mono BW.out.size))) hy
                  simp only [Value.slice.injEq, Option.some.injEq, Addr.mk.injEq, and_true] at e2
                  obtain ⟨⟨rfl, rfl⟩, -⟩ := e2
                  obtain ⟨l1, z0, z1, z2, z3, z4⟩ := HXA.out _ HJ.out
                  have heq2 := HEQ.out y x
                  generalize (L.take j).count x = k at *
                  clear hy
                  by_cases hyx : y = x
                  · rw [decide_eq_true hyx] at heq2
                    have HF' := HF.out
                    rw [if_pos hyx] at HF'
                    have HF2 := hid HF'
                    clear hyx HF HF'
                    go_wp2_with fail
                    go_quiet (fail)
                    go_wp2_with fail
                    go_roundw
                    case rel => exact ⟨j + 1, hjl, by go_num, by rw [HF2.out]; go_num, HJ.out.trans (((Gr.refl _).drewN _).below.mono HJ.out.size)⟩
                    case measure => simp [RowKit.intOf]; omega
                  · rw [decide_eq_false hyx] at heq2
                    have HF' := HF.out
                    rw [if_neg hyx, Nat.add_zero] at HF'
                    have HF2 := hid HF'
                    clear hyx HF HF'
                    go_wp2_with fail
                    go_quiet (fail)
                    go_wp2_with fail
                    go_roundw
                    case rel => exact ⟨j + 1, hjl, by go_num, by rw [HF2.out]; simp, HJ.out.trans (((Gr.refl _).drewN _).below.mono HJ.out.size)⟩
                    case measure => simp [RowKit.intOf]; omega
                · have hjz : ¬ ((j : Int) < (n : Int)) := by omega
                  have hjn : L.take j = L := List.take_of_length_le (by have := HN.out; omega)
                  rw [hjn]
                  have HI := hid HJ.out
                  clear hjn HJ hj hjl
                  obtain ⟨ct, hct⟩ : ∃ k, k = L.count x := ⟨_, rfl⟩
                  rw [← hct]
                  have HCT := hid hct
                  have hctb : ct ≤ 3518437208780 := by rw [hct]; exact Nat.le_trans List.count_le_length (by rw [← HN.out]; exact hnb2)
                  clear hct HCA
                  have hS0 : Below W9.heap.size W9 wr.drew := HI.out.trans ((Gr.refl wr).drew.below.mono HI.out.size)
                  have hcn : ∀ W, Below W9.heap.size W9 W → Calls Try.prog 12 #[.pointer (some ⟨pb, 0, none⟩), .agg #[.int .u64 x.a, .int .u64 x.b, .int .u64 x.c, .int .u64 x.k, .int .u64 x.v]] W fun e w' => e = .returned (.int .i64 (ct : Nat)) ∧ Gr W w' := fun W h => by
                    rw [HCT.out]
                    exact count_any x W (PB.out.below h) BDL.out.1
                  by_cases hi1 : 0 < i
                  · obtain ⟨i', hi'⟩ : ∃ i', i = i' + 1 := ⟨i - 1, by omega⟩
                    have hiz : decide ((0 : Int) < (i : Int)) = true := by simp; omega
                    obtain ⟨y, hy⟩ : ∃ y, A[i']? = some y := ⟨A[i']'(by have := HAL.out; omega), by simp⟩
                    obtain ⟨z, hz2⟩ : ∃ z, A[i]? = some z := ⟨A[i]'(by have := HAL.out; omega), by simp⟩
                    have hle : cle y z = true := srt_cle (by rw [← HA.out]; exact hy) (by rw [← HA.out, ← hi']; exact hz2)
                    have htl : ∀ W, Calls Try.prog 13 #[.agg #[.int .u64 y.a, .int .u64 y.b, .int .u64 y.c, .int .u64 y.k, .int .u64 y.v], .agg #[.int .u64 z.a, .int .u64 z.b, .int .u64 z.c, .int .u64 z.k, .int .u64 z.v]] W fun e w' => e = .returned (.bool true) ∧ Gr W w' := fun W => by
                      have := ltold_any y z W
                      rw [hle] at this
                      exact this
                    obtain ⟨b2, o2, hpa⟩ : ∃ b o, pa = some ⟨b, o, none⟩ := by
                      obtain ⟨b, o, q', e', -, -⟩ := atC LA.out hy
                      simp only [Value.slice.injEq] at e'
                      exact ⟨b, o, e'.1⟩
                    subst hpa
                    have HYA : Hid (∀ W, Below W9.heap.size W9 W → b2 < W.heap.size ∧ Cc W b2 (o2 + i' * 5) y ∧ Cc W b2 (o2 + i * 5) z) := fun W h => by
                      obtain ⟨b, o, q', e', l', h'⟩ := atC (LA.out.below h) hy
                      obtain ⟨b', o', q'', e'', l'', h''⟩ := atC (LA.out.below h) hz2
                      simp only [Value.slice.injEq, Option.some.injEq, Addr.mk.injEq, and_true] at e' e''
                      obtain ⟨⟨rfl, rfl⟩, -⟩ := e'
                      obtain ⟨⟨rfl, rfl⟩, -⟩ := e''
                      exact ⟨l', h', h''⟩
                    have hip : (i' : Int) < (n : Int) := by omega
                    have hip0 : (0 : Int) ≤ (i' : Int) := by omega
                    have his : (i : Int) - 1 = (i' : Int) := by omega
                    clear hy hz2 hle hi'
                    go_upto_region 31 with fail
                    refine wp_regionD (S := fun W' => Below W9.heap.size W9 W') (D := []) hmx ?_
                    refine' wpAnyD_take (i := 0) (oi := { dst := some 119, op := Go.Op.move (Go.Operand.tmp 13), type := 3, pos := "law.go:212", after := #[], guard := none }) (v := _) rfl (by kernel_rfl) (by kernel_rfl) (by kernel_rfl) (fun _ _ _ h => h) (by kernel_rfl) (Or.inl ⟨by rfl, ?hy1⟩) hS0 ?rest1
                    case hy1 => (intro W hSw; go_simp; try (with_reducible rfl))
                    try simp only [Act.put, List.setIfInBounds_toArray, List.set_cons_zero, List.set_cons_succ]
                    refine' wpAnyD_take (i := 1) (oi := { dst := some 120, op := Go.Op.move (Go.Operand.tmp 15), type := 3, pos := "law.go:212", after := #[], guard := none }) (v := _) rfl (by kernel_rfl) (by kernel_rfl) (by kernel_rfl) (fun _ _ _ h => h) (by kernel_rfl) (Or.inl ⟨by rfl, ?hy2⟩) hS0 ?rest2
                    case hy2 => (intro W hSw; go_simp; try (with_reducible rfl))
                    try simp only [Act.put, List.setIfInBounds_toArray, List.set_cons_zero, List.set_cons_succ]
                    refine' wpAnyD_take (i := 2) (oi := { dst := some 121, op := Go.Op.binOp Go.BinOp.neq 3 (Go.Operand.tmp 119) (Go.Operand.tmp 120) 3, type := 4, pos := "law.go:212", after := #[{ on := 0, ground := Go.Ground.data }, { on := 1, ground := Go.Ground.data }], guard := none }) (v := .bool false) rfl (by kernel_rfl) (by kernel_rfl) (by kernel_rfl) (fun _ _ _ h => h) (by kernel_rfl) (Or.inl ⟨by rfl, ?hy3⟩) hS0 ?rest3
                    case hy3 => (intro W hSw; go_simp; try (with_reducible rfl))
                    try simp only [Act.put, List.setIfInBounds_toArray, List.set_cons_zero, List.set_cons_succ]
                    refine' wpAnyD_take (i := 3) (oi := { dst := some 122, op := Go.Op.move (Go.Operand.tmp 121), type := 4, pos := "law.go:212", after := #[{ on := 2, ground := Go.Ground.data }], guard := none }) (v := .bool false) rfl (by kernel_rfl) (by kernel_rfl) (by kernel_rfl) (fun _ _ _ h => h) (by kernel_rfl) (Or.inl ⟨by rfl, ?hy4⟩) hS0 ?rest4
                    case hy4 => (intro W hSw; go_simp; try (with_reducible rfl))
                    try simp only [Act.put, List.setIfInBounds_toArray, List.set_cons_zero, List.set_cons_succ]
                    refine' wpAnyD_take (i := 4) (oi := { dst := some 123, op := Go.Op.move (Go.Operand.tmp 8), type := 29, pos := "law.go:212", after := #[{ on := 3, ground := Go.Ground.guard }], guard := some (3, false) }) (v := _) rfl (by kernel_rfl) (by kernel_rfl) (by kernel_rfl) (fun _ _ _ h => h) (by kernel_rfl) (Or.inl ⟨by rfl, ?hy5⟩) hS0 ?rest5
                    case hy5 => (intro W hSw; go_simp; try (with_reducible rfl))
                    try simp only [Act.put, List.setIfInBounds_toArray, List.set_cons_zero, List.set_cons_succ]
                    refine' wpAnyD_take (i := 5) (oi := { dst := some 124, op := Go.Op.move (Go.Operand.tmp 0), type := 22, pos := "law.go:212", after := #[{ on := 3, ground := Go.Ground.guard }], guard := some (3, false) }) (v := _) rfl (by kernel_rfl) (by kernel_rfl) (by kernel_rfl) (fun _ _ _ h => h) (by kernel_rfl) (Or.inl ⟨by rfl, ?hy6⟩) hS0 ?rest6
                    case hy6 => (intro W hSw; go_simp; try (with_reducible rfl))
                    try simp only [Act.put, List.setIfInBounds_toArray, List.set_cons_zero, List.set_cons_succ]
                    refine' wpAnyD_take (i := 6) (oi := { dst := some 125, op := Go.Op.move (Go.Operand.tmp 12), type := 3, pos := "law.go:212", after := #[{ on := 3, ground := Go.Ground.guard }], guard := some (3, false) }) (v := _) rfl (by kernel_rfl) (by kernel_rfl) (by kernel_rfl) (fun _ _ _ h => h) (by kernel_rfl) (Or.inl ⟨by rfl, ?hy7⟩) hS0 ?rest7
                    case hy7 => (intro W hSw; go_simp; try (with_reducible rfl))
                    try simp only [Act.put, List.setIfInBounds_toArray, List.set_cons_zero, List.set_cons_succ]
                    refine' wpAnyD_take (i := 7) (oi := { dst := some 126, op := Go.Op.indexAddr 22 (Go.Operand.tmp 124) (Go.Operand.tmp 125), type := 0, pos := "law.go:212", after := #[{ on := 5, ground := Go.Ground.data }, { on := 6, ground := Go.Ground.data }, { on := 3, ground := Go.Ground.guard }], guard := some (3, false) }) (v := _) rfl (by kernel_rfl) (by kernel_rfl) (by kernel_rfl) (fun _ _ _ h => h) (by kernel_rfl) (Or.inl ⟨by rfl, ?hy8⟩) hS0 ?rest8
                    case hy8 => (intro W hSw; go_simp; try (with_reducible rfl))
                    try simp only [Act.put, List.setIfInBounds_toArray, List.set_cons_zero, List.set_cons_succ]
                    refine' wpAnyD_take (i := 8) (oi := { dst := some 127, op := Go.Op.load 36 (Go.Operand.tmp 126), type := 36, pos := "law.go:212", after := #[{ on := 7, ground := Go.Ground.data }, { on := 3, ground := Go.Ground.guard }], guard := some (3, false) }) (v := _) rfl (by kernel_rfl) (by kernel_rfl) (by kernel_rfl) (fun _ _ _ h => h) (by kernel_rfl) (Or.inl ⟨by rfl, ?hy9⟩) hS0 ?rest9
                    case hy9 => (intro W hSw; obtain ⟨s5, ⟨s6, s7, s8, s9, s10⟩⟩ := HXA.out W hSw; go_simp; try (with_reducible rfl))
                    try simp only [Act.put, List.setIfInBounds_toArray, List.set_cons_zero, List.set_cons_succ]
                    refine' wpAnyD_take (i := 10) (oi := { dst := some 129, op := Go.Op.move (Go.Operand.tmp 13), type := 3, pos := "law.go:212", after := #[{ on := 3, ground := Go.Ground.guard }], guard := some (3, false) }) (v := _) rfl (by kernel_rfl) (by kernel_rfl) (by kernel_rfl) (fun _ _ _ h => h) (by kernel_rfl) (Or.inl ⟨by rfl, ?hy10⟩) hS0 ?rest10
                    case hy10 => (intro W hSw; go_simp; try (with_reducible rfl))
                    try simp only [Act.put, List.setIfInBounds_toArray, List.set_cons_zero, List.set_cons_succ]
                    refine wpAnyD_one (i := 9) (o := { dst := some 128, op := Go.Op.call { callee := Go.Callee.value (Go.Operand.func 12), args := #[Go.Operand.tmp 123, Go.Operand.tmp 127], argTypes := #[29, 36] }, type := 3, pos := "law.go:212", after := #[{ on := 4, ground := Go.Ground.data }, { on := 8, ground := Go.Ground.data }, { on := 3, ground := Go.Ground.chain }, { on := 3, ground := Go.Ground.guard }], guard := some (3, false) }) (by kernel_rfl) rfl (fun K hK => ?_)
                    rw [if_pos (by kernel_rfl)]
                    go_simp
                    refine (hcn _ hS0).mono ?_
                    rintro e w21 ⟨rfl, g21⟩
                    have hS21 : Below W9.heap.size W9 w21 := hS0.trans (g21.below.mono hS0.size)
                    clear g21
                    dsimp only
                    refine hK.out _ _ (fun hD => hS21) ?_
                    clear hK K
                    try simp only [Act.put, List.setIfInBounds_toArray, List.set_cons_zero, List.set_cons_succ]
                    refine' wpAnyD_take (i := 11) (oi := { dst := some 130, op := Go.Op.binOp Go.BinOp.neq 3 (Go.Operand.tmp 128) (Go.Operand.tmp 129) 3, type := 4, pos := "law.go:212", after := #[{ on := 9, ground := Go.Ground.data }, { on := 10, ground := Go.Ground.data }, { on := 3, ground := Go.Ground.guard }], guard := some (3, false) }) (v := .bool false) rfl (by kernel_rfl) (by kernel_rfl) (by kernel_rfl) (fun _ _ _ h => h) (by kernel_rfl) (Or.inl ⟨by rfl, ?hy12⟩) hS21 ?rest12
                    case hy12 => (intro W hSw; go_simp; try (with_reducible rfl))
                    try simp only [Act.put, List.setIfInBounds_toArray, List.set_cons_zero, List.set_cons_succ]
                    refine' wpAnyD_take (i := 12) (oi := { dst := some 131, op := Go.Op.pick (Go.Operand.tmp 122) (Go.Operand.const (Go.Value.bool true)) (Go.Operand.tmp 130), type := 4, pos := "law.go:212", after := #[{ on := 3, ground := Go.Ground.data }, { on := 11, ground := Go.Ground.data }], guard := none }) (v := .bool false) rfl (by kernel_rfl) (by kernel_rfl) (by kernel_rfl) (fun _ _ _ h => h) (by kernel_rfl) (Or.inl ⟨by rfl, ?hy13⟩) hS21 ?rest13
                    case hy13 => (intro W hSw; go_simp; try (with_reducible rfl))
                    try simp only [Act.put, List.setIfInBounds_toArray, List.set_cons_zero, List.set_cons_succ]
                    refine' wpAnyD_take (i := 13) (oi := { dst := some 132, op := Go.Op.move (Go.Operand.tmp 131), type := 4, pos := "law.go:212", after := #[{ on := 12, ground := Go.Ground.data }, { on := 9, ground := Go.Ground.chain }], guard := none }) (v := .bool false) rfl (by kernel_rfl) (by kernel_rfl) (by kernel_rfl) (fun _ _ _ h => h) (by kernel_rfl) (Or.inl ⟨by rfl, ?hy14⟩) hS21 ?rest14
                    case hy14 => (intro W hSw; go_simp; try (with_reducible rfl))
                    try simp only [Act.put, List.setIfInBounds_toArray, List.set_cons_zero, List.set_cons_succ]
                    refine' wpAnyD_take (i := 14) (oi := { dst := some 133, op := Go.Op.move (Go.Operand.tmp 12), type := 3, pos := "law.go:212", after := #[{ on := 13, ground := Go.Ground.guard }], guard := some (13, false) }) (v := _) rfl (by kernel_rfl) (by kernel_rfl) (by kernel_rfl) (fun _ _ _ h => h) (by kernel_rfl) (Or.inl ⟨by rfl, ?hy15⟩) hS21 ?rest15
                    case hy15 => (intro W hSw; go_simp; try (with_reducible rfl))
                    try simp only [Act.put, List.setIfInBounds_toArray, List.set_cons_zero, List.set_cons_succ]
                    refine' wpAnyD_take (i := 15) (oi := { dst := some 134, op := Go.Op.binOp Go.BinOp.gtr 3 (Go.Operand.tmp 133) (Go.Operand.const (Go.Value.int Go.IntKind.i64 0)) 3, type := 4, pos := "law.go:212", after := #[{ on := 14, ground := Go.Ground.data }, { on := 13, ground := Go.Ground.guard }], guard := some (13, false) }) (v := .bool true) rfl (by kernel_rfl) (by kernel_rfl) (by kernel_rfl) (fun _ _ _ h => h) (by kernel_rfl) (Or.inl ⟨by rfl, ?hy16⟩) hS21 ?rest16
                    case hy16 => (intro W hSw; go_simp; first | done | omega)
                    try simp only [Act.put, List.setIfInBounds_toArray, List.set_cons_zero, List.set_cons_succ]
                    refine' wpAnyD_take (i := 16) (oi := { dst := some 135, op := Go.Op.move (Go.Operand.tmp 134), type := 4, pos := "law.go:212", after := #[{ on := 15, ground := Go.Ground.data }, { on := 13, ground := Go.Ground.chain }, { on := 13, ground := Go.Ground.guard }], guard := some (13, false) }) (v := .bool true) rfl (by kernel_rfl) (by kernel_rfl) (by kernel_rfl) (fun _ _ _ h => h) (by kernel_rfl) (Or.inl ⟨by rfl, ?hy17⟩) hS21 ?rest17
                    case hy17 => (intro W hSw; go_simp; try (with_reducible rfl))
                    try simp only [Act.put, List.setIfInBounds_toArray, List.set_cons_zero, List.set_cons_succ]
                    refine' wpAnyD_take (i := 17) (oi := { dst := some 136, op := Go.Op.move (Go.Operand.tmp 11), type := 22, pos := "law.go:212", after := #[{ on := 16, ground := Go.Ground.guard }], guard := some (16, true) }) (v := _) rfl (by kernel_rfl) (by kernel_rfl) (by kernel_rfl) (fun _ _ _ h => h) (by kernel_rfl) (Or.inl ⟨by rfl, ?hy18⟩) hS21 ?rest18
                    case hy18 => (intro W hSw; go_simp; try (with_reducible rfl))
                    try simp only [Act.put, List.setIfInBounds_toArray, List.set_cons_zero, List.set_cons_succ]
                    refine' wpAnyD_take (i := 18) (oi := { dst := some 137, op := Go.Op.move (Go.Operand.tmp 12), type := 3, pos := "law.go:212", after := #[{ on := 16, ground := Go.Ground.guard }], guard := some (16, true) }) (v := _) rfl (by kernel_rfl) (by kernel_rfl) (by kernel_rfl) (fun _ _ _ h => h) (by kernel_rfl) (Or.inl ⟨by rfl, ?hy19⟩) hS21 ?rest19
                    case hy19 => (intro W hSw; go_simp; try (with_reducible rfl))
                    try simp only [Act.put, List.setIfInBounds_toArray, List.set_cons_zero, List.set_cons_succ]
                    refine' wpAnyD_take (i := 19) (oi := { dst := some 138, op := Go.Op.binOp Go.BinOp.sub 3 (Go.Operand.tmp 137) (Go.Operand.const (Go.Value.int Go.IntKind.i64 1)) 3, type := 3, pos := "law.go:212", after := #[{ on := 18, ground := Go.Ground.data }, { on := 16, ground := Go.Ground.guard }], guard := some (16, true) }) (v := .int .i64 (i' : Int)) rfl (by kernel_rfl) (by kernel_rfl) (by kernel_rfl) (fun _ _ _ h => h) (by kernel_rfl) (Or.inl ⟨by rfl, ?hy20⟩) hS21 ?rest20
                    case hy20 => (intro W hSw; go_simp; rw [IntKind.wrap_i64]; omega)
                    try simp only [Act.put, List.setIfInBounds_toArray, List.set_cons_zero, List.set_cons_succ]
                    refine' wpAnyD_take (i := 20) (oi := { dst := some 139, op := Go.Op.indexAddr 22 (Go.Operand.tmp 136) (Go.Operand.tmp 138), type := 0, pos := "law.go:212", after := #[{ on := 17, ground := Go.Ground.data }, { on := 19, ground := Go.Ground.data }, { on := 16, ground := Go.Ground.guard }], guard := some (16, true) }) (v := _) rfl (by kernel_rfl) (by kernel_rfl) (by kernel_rfl) (fun _ _ _ h => h) (by kernel_rfl) (Or.inl ⟨by rfl, ?hy21⟩) hS21 ?rest21
                    case hy21 => (intro W hSw; go_simp; try (with_reducible rfl))
                    try simp only [Act.put, List.setIfInBounds_toArray, List.set_cons_zero, List.set_cons_succ]
                    refine' wpAnyD_take (i := 21) (oi := { dst := some 140, op := Go.Op.load 36 (Go.Operand.tmp 139), type := 36, pos := "law.go:212", after := #[{ on := 20, ground := Go.Ground.data }, { on := 16, ground := Go.Ground.guard }], guard := some (16, true) }) (v := _) rfl (by kernel_rfl) (by kernel_rfl) (by kernel_rfl) (fun _ _ _ h => h) (by kernel_rfl) (Or.inl ⟨by rfl, ?hy22⟩) hS21 ?rest22
                    case hy22 => (intro W hSw; obtain ⟨s5, ⟨s6, s7, s8, s9, s10⟩, ⟨s11, s12, s13, s14, s15⟩⟩ := HYA.out W hSw; go_simp; try (with_reducible rfl))
                    try simp only [Act.put, List.setIfInBounds_toArray, List.set_cons_zero, List.set_cons_succ]
                    refine' wpAnyD_take (i := 22) (oi := { dst := some 141, op := Go.Op.move (Go.Operand.tmp 11), type := 22, pos := "law.go:212", after := #[{ on := 16, ground := Go.Ground.guard }], guard := some (16, true) }) (v := _) rfl (by kernel_rfl) (by kernel_rfl) (by kernel_rfl) (fun _ _ _ h => h) (by kernel_rfl) (Or.inl ⟨by rfl, ?hy23⟩) hS21 ?rest23
                    case hy23 => (intro W hSw; go_simp; try (with_reducible rfl))
                    try simp only [Act.put, List.setIfInBounds_toArray, List.set_cons_zero, List.set_cons_succ]
                    refine' wpAnyD_take (i := 23) (oi := { dst := some 142, op := Go.Op.move (Go.Operand.tmp 12), type := 3, pos := "law.go:212", after := #[{ on := 16, ground := Go.Ground.guard }], guard := some (16, true) }) (v := _) rfl (by kernel_rfl) (by kernel_rfl) (by kernel_rfl) (fun _ _ _ h => h) (by kernel_rfl) (Or.inl ⟨by rfl, ?hy24⟩) hS21 ?rest24
                    case hy24 => (intro W hSw; go_simp; try (with_reducible rfl))
                    try simp only [Act.put, List.setIfInBounds_toArray, List.set_cons_zero, List.set_cons_succ]
                    refine' wpAnyD_take (i := 24) (oi := { dst := some 143, op := Go.Op.indexAddr 22 (Go.Operand.tmp 141) (Go.Operand.tmp 142), type := 0, pos := "law.go:212", after := #[{ on := 22, ground := Go.Ground.data }, { on := 23, ground := Go.Ground.data }, { on := 16, ground := Go.Ground.guard }], guard := some (16, true) }) (v := _) rfl (by kernel_rfl) (by kernel_rfl) (by kernel_rfl) (fun _ _ _ h => h) (by kernel_rfl) (Or.inl ⟨by rfl, ?hy25⟩) hS21 ?rest25
                    case hy25 => (intro W hSw; go_simp; try (with_reducible rfl))
                    try simp only [Act.put, List.setIfInBounds_toArray, List.set_cons_zero, List.set_cons_succ]
                    refine' wpAnyD_take (i := 25) (oi := { dst := some 144, op := Go.Op.load 36 (Go.Operand.tmp 143), type := 36, pos := "law.go:212", after := #[{ on := 24, ground := Go.Ground.data }, { on := 16, ground := Go.Ground.guard }], guard := some (16, true) }) (v := _) rfl (by kernel_rfl) (by kernel_rfl) (by kernel_rfl) (fun _ _ _ h => h) (by kernel_rfl) (Or.inl ⟨by rfl, ?hy26⟩) hS21 ?rest26
                    case hy26 => (intro W hSw; obtain ⟨s5, ⟨s6, s7, s8, s9, s10⟩, ⟨s11, s12, s13, s14, s15⟩⟩ := HYA.out W hSw; go_simp; try (with_reducible rfl))
                    try simp only [Act.put, List.setIfInBounds_toArray, List.set_cons_zero, List.set_cons_succ]
                    refine wpAnyD_one (i := 26) (o := { dst := some 145, op := Go.Op.call { callee := Go.Callee.value (Go.Operand.func 13), args := #[Go.Operand.tmp 140, Go.Operand.tmp 144], argTypes := #[36, 36] }, type := 4, pos := "law.go:212", after := #[{ on := 21, ground := Go.Ground.data }, { on := 25, ground := Go.Ground.data }, { on := 16, ground := Go.Ground.chain }, { on := 16, ground := Go.Ground.guard }], guard := some (16, true) }) (by kernel_rfl) rfl (fun K hK => ?_)
                    rw [if_pos (by kernel_rfl)]
                    go_simp
                    refine (htl _).mono ?_
                    rintro e w22 ⟨rfl, g22⟩
                    have hS22 : Below W9.heap.size W9 w22 := hS21.trans (g22.below.mono hS21.size)
                    clear g22
                    dsimp only
                    refine hK.out _ _ (fun hD => hS22) ?_
                    clear hK K
                    try simp only [Act.put, List.setIfInBounds_toArray, List.set_cons_zero, List.set_cons_succ]
                    refine' wpAnyD_take (i := 27) (oi := { dst := some 146, op := Go.Op.unOp Go.UnOp.not 4 (Go.Operand.tmp 145), type := 4, pos := "law.go:212", after := #[{ on := 26, ground := Go.Ground.data }, { on := 16, ground := Go.Ground.guard }], guard := some (16, true) }) (v := .bool false) rfl (by kernel_rfl) (by kernel_rfl) (by kernel_rfl) (fun _ _ _ h => h) (by kernel_rfl) (Or.inl ⟨by rfl, ?hy28⟩) hS22 ?rest28
                    case hy28 => (intro W hSw; go_simp; try (with_reducible rfl))
                    try simp only [Act.put, List.setIfInBounds_toArray, List.set_cons_zero, List.set_cons_succ]
                    refine' wpAnyD_take (i := 28) (oi := { dst := some 147, op := Go.Op.pick (Go.Operand.tmp 135) (Go.Operand.tmp 146) (Go.Operand.const (Go.Value.bool false)), type := 4, pos := "law.go:212", after := #[{ on := 16, ground := Go.Ground.data }, { on := 27, ground := Go.Ground.data }, { on := 13, ground := Go.Ground.guard }], guard := some (13, false) }) (v := .bool false) rfl (by kernel_rfl) (by kernel_rfl) (by kernel_rfl) (fun _ _ _ h => h) (by kernel_rfl) (Or.inl ⟨by rfl, ?hy29⟩) hS22 ?rest29
                    case hy29 => (intro W hSw; go_simp; try (with_reducible rfl))
                    try simp only [Act.put, List.setIfInBounds_toArray, List.set_cons_zero, List.set_cons_succ]
                    refine' wpAnyD_take (i := 29) (oi := { dst := some 148, op := Go.Op.pick (Go.Operand.tmp 132) (Go.Operand.const (Go.Value.bool true)) (Go.Operand.tmp 147), type := 4, pos := "law.go:212", after := #[{ on := 13, ground := Go.Ground.data }, { on := 28, ground := Go.Ground.data }], guard := none }) (v := .bool false) rfl (by kernel_rfl) (by kernel_rfl) (by kernel_rfl) (fun _ _ _ h => h) (by kernel_rfl) (Or.inl ⟨by rfl, ?hy30⟩) hS22 ?rest30
                    case hy30 => (intro W hSw; go_simp; try (with_reducible rfl))
                    try simp only [Act.put, List.setIfInBounds_toArray, List.set_cons_zero, List.set_cons_succ]
                    refine wpAnyD_done (by kernel_rfl) ?_ _
                    have HI2 := hid hS22
                    clear hcn hS0 hS21 htl hS22
                    go_wp2_with fail
                    go_roundw
                    case rel => exact ⟨_, hlt, by go_num, HI2.out⟩
                    case measure => simp [RowKit.intOf]; omega
                  · have hiz : decide ((0 : Int) < (i : Int)) = false := by simp; omega
                    go_upto_region 31 with fail
                    refine wp_regionD (S := fun W' => Below W9.heap.size W9 W') (D := []) hmx ?_
                    refine' wpAnyD_take (i := 0) (oi := { dst := some 119, op := Go.Op.move (Go.Operand.tmp 13), type := 3, pos := "law.go:212", after := #[], guard := none }) (v := _) rfl (by kernel_rfl) (by kernel_rfl) (by kernel_rfl) (fun _ _ _ h => h) (by kernel_rfl) (Or.inl ⟨by rfl, ?hy31⟩) hS0 ?rest31
                    case hy31 => (intro W hSw; go_simp; try (with_reducible rfl))
                    try simp only [Act.put, List.setIfInBounds_toArray, List.set_cons_zero, List.set_cons_succ]
                    refine' wpAnyD_take (i := 1) (oi := { dst := some 120, op := Go.Op.move (Go.Operand.tmp 15), type := 3, pos := "law.go:212", after := #[], guard := none }) (v := _) rfl (by kernel_rfl) (by kernel_rfl) (by kernel_rfl) (fun _ _ _ h => h) (by kernel_rfl) (Or.inl ⟨by rfl, ?hy32⟩) hS0 ?rest32
                    case hy32 => (intro W hSw; go_simp; try (with_reducible rfl))
                    try simp only [Act.put, List.setIfInBounds_toArray, List.set_cons_zero, List.set_cons_succ]
                    refine' wpAnyD_take (i := 2) (oi := { dst := some 121, op := Go.Op.binOp Go.BinOp.neq 3 (Go.Operand.tmp 119) (Go.Operand.tmp 120) 3, type := 4, pos := "law.go:212", after := #[{ on := 0, ground := Go.Ground.data }, { on := 1, ground := Go.Ground.data }], guard := none }) (v := .bool false) rfl (by kernel_rfl) (by kernel_rfl) (by kernel_rfl) (fun _ _ _ h => h) (by kernel_rfl) (Or.inl ⟨by rfl, ?hy33⟩) hS0 ?rest33
                    case hy33 => (intro W hSw; go_simp; try (with_reducible rfl))
                    try simp only [Act.put, List.setIfInBounds_toArray, List.set_cons_zero, List.set_cons_succ]
                    refine' wpAnyD_take (i := 3) (oi := { dst := some 122, op := Go.Op.move (Go.Operand.tmp 121), type := 4, pos := "law.go:212", after := #[{ on := 2, ground := Go.Ground.data }], guard := none }) (v := .bool false) rfl (by kernel_rfl) (by kernel_rfl) (by kernel_rfl) (fun _ _ _ h => h) (by kernel_rfl) (Or.inl ⟨by rfl, ?hy34⟩) hS0 ?rest34
                    case hy34 => (intro W hSw; go_simp; try (with_reducible rfl))
                    try simp only [Act.put, List.setIfInBounds_toArray, List.set_cons_zero, List.set_cons_succ]
                    refine' wpAnyD_take (i := 4) (oi := { dst := some 123, op := Go.Op.move (Go.Operand.tmp 8), type := 29, pos := "law.go:212", after := #[{ on := 3, ground := Go.Ground.guard }], guard := some (3, false) }) (v := _) rfl (by kernel_rfl) (by kernel_rfl) (by kernel_rfl) (fun _ _ _ h => h) (by kernel_rfl) (Or.inl ⟨by rfl, ?hy35⟩) hS0 ?rest35
                    case hy35 => (intro W hSw; go_simp; try (with_reducible rfl))
                    try simp only [Act.put, List.setIfInBounds_toArray, List.set_cons_zero, List.set_cons_succ]
                    refine' wpAnyD_take (i := 5) (oi := { dst := some 124, op := Go.Op.move (Go.Operand.tmp 0), type := 22, pos := "law.go:212", after := #[{ on := 3, ground := Go.Ground.guard }], guard := some (3, false) }) (v := _) rfl (by kernel_rfl) (by kernel_rfl) (by kernel_rfl) (fun _ _ _ h => h) (by kernel_rfl) (Or.inl ⟨by rfl, ?hy36⟩) hS0 ?rest36
                    case hy36 => (intro W hSw; go_simp; try (with_reducible rfl))
                    try simp only [Act.put, List.setIfInBounds_toArray, List.set_cons_zero, List.set_cons_succ]
                    refine' wpAnyD_take (i := 6) (oi := { dst := some 125, op := Go.Op.move (Go.Operand.tmp 12), type := 3, pos := "law.go:212", after := #[{ on := 3, ground := Go.Ground.guard }], guard := some (3, false) }) (v := _) rfl (by kernel_rfl) (by kernel_rfl) (by kernel_rfl) (fun _ _ _ h => h) (by kernel_rfl) (Or.inl ⟨by rfl, ?hy37⟩) hS0 ?rest37
                    case hy37 => (intro W hSw; go_simp; try (with_reducible rfl))
                    try simp only [Act.put, List.setIfInBounds_toArray, List.set_cons_zero, List.set_cons_succ]
                    refine' wpAnyD_take (i := 7) (oi := { dst := some 126, op := Go.Op.indexAddr 22 (Go.Operand.tmp 124) (Go.Operand.tmp 125), type := 0, pos := "law.go:212", after := #[{ on := 5, ground := Go.Ground.data }, { on := 6, ground := Go.Ground.data }, { on := 3, ground := Go.Ground.guard }], guard := some (3, false) }) (v := _) rfl (by kernel_rfl) (by kernel_rfl) (by kernel_rfl) (fun _ _ _ h => h) (by kernel_rfl) (Or.inl ⟨by rfl, ?hy38⟩) hS0 ?rest38
                    case hy38 => (intro W hSw; go_simp; try (with_reducible rfl))
                    try simp only [Act.put, List.setIfInBounds_toArray, List.set_cons_zero, List.set_cons_succ]
                    refine' wpAnyD_take (i := 8) (oi := { dst := some 127, op := Go.Op.load 36 (Go.Operand.tmp 126), type := 36, pos := "law.go:212", after := #[{ on := 7, ground := Go.Ground.data }, { on := 3, ground := Go.Ground.guard }], guard := some (3, false) }) (v := _) rfl (by kernel_rfl) (by kernel_rfl) (by kernel_rfl) (fun _ _ _ h => h) (by kernel_rfl) (Or.inl ⟨by rfl, ?hy39⟩) hS0 ?rest39
                    case hy39 => (intro W hSw; obtain ⟨s5, ⟨s6, s7, s8, s9, s10⟩⟩ := HXA.out W hSw; go_simp; try (with_reducible rfl))
                    try simp only [Act.put, List.setIfInBounds_toArray, List.set_cons_zero, List.set_cons_succ]
                    refine' wpAnyD_take (i := 10) (oi := { dst := some 129, op := Go.Op.move (Go.Operand.tmp 13), type := 3, pos := "law.go:212", after := #[{ on := 3, ground := Go.Ground.guard }], guard := some (3, false) }) (v := _) rfl (by kernel_rfl) (by kernel_rfl) (by kernel_rfl) (fun _ _ _ h => h) (by kernel_rfl) (Or.inl ⟨by rfl, ?hy40⟩) hS0 ?rest40
                    case hy40 => (intro W hSw; go_simp; try (with_reducible rfl))
                    try simp only [Act.put, List.setIfInBounds_toArray, List.set_cons_zero, List.set_cons_succ]
                    refine wpAnyD_one (i := 9) (o := { dst := some 128, op := Go.Op.call { callee := Go.Callee.value (Go.Operand.func 12), args := #[Go.Operand.tmp 123, Go.Operand.tmp 127], argTypes := #[29, 36] }, type := 3, pos := "law.go:212", after := #[{ on := 4, ground := Go.Ground.data }, { on := 8, ground := Go.Ground.data }, { on := 3, ground := Go.Ground.chain }, { on := 3, ground := Go.Ground.guard }], guard := some (3, false) }) (by kernel_rfl) rfl (fun K hK => ?_)
                    rw [if_pos (by kernel_rfl)]
                    go_simp
                    refine (hcn _ hS0).mono ?_
                    rintro e w21 ⟨rfl, g21⟩
                    have hS21 : Below W9.heap.size W9 w21 := hS0.trans (g21.below.mono hS0.size)
                    clear g21
                    dsimp only
                    refine hK.out _ _ (fun hD => hS21) ?_
                    clear hK K
                    try simp only [Act.put, List.setIfInBounds_toArray, List.set_cons_zero, List.set_cons_succ]
                    refine' wpAnyD_take (i := 11) (oi := { dst := some 130, op := Go.Op.binOp Go.BinOp.neq 3 (Go.Operand.tmp 128) (Go.Operand.tmp 129) 3, type := 4, pos := "law.go:212", after := #[{ on := 9, ground := Go.Ground.data }, { on := 10, ground := Go.Ground.data }, { on := 3, ground := Go.Ground.guard }], guard := some (3, false) }) (v := .bool false) rfl (by kernel_rfl) (by kernel_rfl) (by kernel_rfl) (fun _ _ _ h => h) (by kernel_rfl) (Or.inl ⟨by rfl, ?hy42⟩) hS21 ?rest42
                    case hy42 => (intro W hSw; go_simp; try (with_reducible rfl))
                    try simp only [Act.put, List.setIfInBounds_toArray, List.set_cons_zero, List.set_cons_succ]
                    refine' wpAnyD_take (i := 12) (oi := { dst := some 131, op := Go.Op.pick (Go.Operand.tmp 122) (Go.Operand.const (Go.Value.bool true)) (Go.Operand.tmp 130), type := 4, pos := "law.go:212", after := #[{ on := 3, ground := Go.Ground.data }, { on := 11, ground := Go.Ground.data }], guard := none }) (v := .bool false) rfl (by kernel_rfl) (by kernel_rfl) (by kernel_rfl) (fun _ _ _ h => h) (by kernel_rfl) (Or.inl ⟨by rfl, ?hy43⟩) hS21 ?rest43
                    case hy43 => (intro W hSw; go_simp; try (with_reducible rfl))
                    try simp only [Act.put, List.setIfInBounds_toArray, List.set_cons_zero, List.set_cons_succ]
                    refine' wpAnyD_take (i := 13) (oi := { dst := some 132, op := Go.Op.move (Go.Operand.tmp 131), type := 4, pos := "law.go:212", after := #[{ on := 12, ground := Go.Ground.data }, { on := 9, ground := Go.Ground.chain }], guard := none }) (v := .bool false) rfl (by kernel_rfl) (by kernel_rfl) (by kernel_rfl) (fun _ _ _ h => h) (by kernel_rfl) (Or.inl ⟨by rfl, ?hy44⟩) hS21 ?rest44
                    case hy44 => (intro W hSw; go_simp; try (with_reducible rfl))
                    try simp only [Act.put, List.setIfInBounds_toArray, List.set_cons_zero, List.set_cons_succ]
                    refine' wpAnyD_take (i := 14) (oi := { dst := some 133, op := Go.Op.move (Go.Operand.tmp 12), type := 3, pos := "law.go:212", after := #[{ on := 13, ground := Go.Ground.guard }], guard := some (13, false) }) (v := _) rfl (by kernel_rfl) (by kernel_rfl) (by kernel_rfl) (fun _ _ _ h => h) (by kernel_rfl) (Or.inl ⟨by rfl, ?hy45⟩) hS21 ?rest45
                    case hy45 => (intro W hSw; go_simp; try (with_reducible rfl))
                    try simp only [Act.put, List.setIfInBounds_toArray, List.set_cons_zero, List.set_cons_succ]
                    refine' wpAnyD_take (i := 15) (oi := { dst := some 134, op := Go.Op.binOp Go.BinOp.gtr 3 (Go.Operand.tmp 133) (Go.Operand.const (Go.Value.int Go.IntKind.i64 0)) 3, type := 4, pos := "law.go:212", after := #[{ on := 14, ground := Go.Ground.data }, { on := 13, ground := Go.Ground.guard }], guard := some (13, false) }) (v := .bool false) rfl (by kernel_rfl) (by kernel_rfl) (by kernel_rfl) (fun _ _ _ h => h) (by kernel_rfl) (Or.inl ⟨by rfl, ?hy46⟩) hS21 ?rest46
                    case hy46 => (intro W hSw; go_simp; first | done | omega)
                    try simp only [Act.put, List.setIfInBounds_toArray, List.set_cons_zero, List.set_cons_succ]
                    refine' wpAnyD_take (i := 16) (oi := { dst := some 135, op := Go.Op.move (Go.Operand.tmp 134), type := 4, pos := "law.go:212", after := #[{ on := 15, ground := Go.Ground.data }, { on := 13, ground := Go.Ground.chain }, { on := 13, ground := Go.Ground.guard }], guard := some (13, false) }) (v := .bool false) rfl (by kernel_rfl) (by kernel_rfl) (by kernel_rfl) (fun _ _ _ h => h) (by kernel_rfl) (Or.inl ⟨by rfl, ?hy47⟩) hS21 ?rest47
                    case hy47 => (intro W hSw; go_simp; try (with_reducible rfl))
                    try simp only [Act.put, List.setIfInBounds_toArray, List.set_cons_zero, List.set_cons_succ]
                    refine' wpAnyD_take (i := 17) (oi := { dst := some 136, op := Go.Op.move (Go.Operand.tmp 11), type := 22, pos := "law.go:212", after := #[{ on := 16, ground := Go.Ground.guard }], guard := some (16, true) }) (v := undef) rfl (by kernel_rfl) (by kernel_rfl) (by kernel_rfl) (fun _ _ _ h => h) (by kernel_rfl) (Or.inr ⟨by rfl, rfl⟩) hS21 ?rest48
                    try simp only [Act.put, List.setIfInBounds_toArray, List.set_cons_zero, List.set_cons_succ]
                    refine' wpAnyD_take (i := 18) (oi := { dst := some 137, op := Go.Op.move (Go.Operand.tmp 12), type := 3, pos := "law.go:212", after := #[{ on := 16, ground := Go.Ground.guard }], guard := some (16, true) }) (v := undef) rfl (by kernel_rfl) (by kernel_rfl) (by kernel_rfl) (fun _ _ _ h => h) (by kernel_rfl) (Or.inr ⟨by rfl, rfl⟩) hS21 ?rest49
                    try simp only [Act.put, List.setIfInBounds_toArray, List.set_cons_zero, List.set_cons_succ]
                    refine' wpAnyD_take (i := 19) (oi := { dst := some 138, op := Go.Op.binOp Go.BinOp.sub 3 (Go.Operand.tmp 137) (Go.Operand.const (Go.Value.int Go.IntKind.i64 1)) 3, type := 3, pos := "law.go:212", after := #[{ on := 18, ground := Go.Ground.data }, { on := 16, ground := Go.Ground.guard }], guard := some (16, true) }) (v := undef) rfl (by kernel_rfl) (by kernel_rfl) (by kernel_rfl) (fun _ _ _ h => h) (by kernel_rfl) (Or.inr ⟨by rfl, rfl⟩) hS21 ?rest50
                    try simp only [Act.put, List.setIfInBounds_toArray, List.set_cons_zero, List.set_cons_succ]
                    refine' wpAnyD_take (i := 20) (oi := { dst := some 139, op := Go.Op.indexAddr 22 (Go.Operand.tmp 136) (Go.Operand.tmp 138), type := 0, pos := "law.go:212", after := #[{ on := 17, ground := Go.Ground.data }, { on := 19, ground := Go.Ground.data }, { on := 16, ground := Go.Ground.guard }], guard := some (16, true) }) (v := undef) rfl (by kernel_rfl) (by kernel_rfl) (by kernel_rfl) (fun _ _ _ h => h) (by kernel_rfl) (Or.inr ⟨by rfl, rfl⟩) hS21 ?rest51
                    try simp only [Act.put, List.setIfInBounds_toArray, List.set_cons_zero, List.set_cons_succ]
                    refine' wpAnyD_take (i := 21) (oi := { dst := some 140, op := Go.Op.load 36 (Go.Operand.tmp 139), type := 36, pos := "law.go:212", after := #[{ on := 20, ground := Go.Ground.data }, { on := 16, ground := Go.Ground.guard }], guard := some (16, true) }) (v := undef) rfl (by kernel_rfl) (by kernel_rfl) (by kernel_rfl) (fun _ _ _ h => h) (by kernel_rfl) (Or.inr ⟨by rfl, rfl⟩) hS21 ?rest52
                    try simp only [Act.put, List.setIfInBounds_toArray, List.set_cons_zero, List.set_cons_succ]
                    refine' wpAnyD_take (i := 22) (oi := { dst := some 141, op := Go.Op.move (Go.Operand.tmp 11), type := 22, pos := "law.go:212", after := #[{ on := 16, ground := Go.Ground.guard }], guard := some (16, true) }) (v := undef) rfl (by kernel_rfl) (by kernel_rfl) (by kernel_rfl) (fun _ _ _ h => h) (by kernel_rfl) (Or.inr ⟨by rfl, rfl⟩) hS21 ?rest53
                    try simp only [Act.put, List.setIfInBounds_toArray, List.set_cons_zero, List.set_cons_succ]
                    refine' wpAnyD_take (i := 23) (oi := { dst := some 142, op := Go.Op.move (Go.Operand.tmp 12), type := 3, pos := "law.go:212", after := #[{ on := 16, ground := Go.Ground.guard }], guard := some (16, true) }) (v := undef) rfl (by kernel_rfl) (by kernel_rfl) (by kernel_rfl) (fun _ _ _ h => h) (by kernel_rfl) (Or.inr ⟨by rfl, rfl⟩) hS21 ?rest54
                    try simp only [Act.put, List.setIfInBounds_toArray, List.set_cons_zero, List.set_cons_succ]
                    refine' wpAnyD_take (i := 24) (oi := { dst := some 143, op := Go.Op.indexAddr 22 (Go.Operand.tmp 141) (Go.Operand.tmp 142), type := 0, pos := "law.go:212", after := #[{ on := 22, ground := Go.Ground.data }, { on := 23, ground := Go.Ground.data }, { on := 16, ground := Go.Ground.guard }], guard := some (16, true) }) (v := undef) rfl (by kernel_rfl) (by kernel_rfl) (by kernel_rfl) (fun _ _ _ h => h) (by kernel_rfl) (Or.inr ⟨by rfl, rfl⟩) hS21 ?rest55
                    try simp only [Act.put, List.setIfInBounds_toArray, List.set_cons_zero, List.set_cons_succ]
                    refine' wpAnyD_take (i := 25) (oi := { dst := some 144, op := Go.Op.load 36 (Go.Operand.tmp 143), type := 36, pos := "law.go:212", after := #[{ on := 24, ground := Go.Ground.data }, { on := 16, ground := Go.Ground.guard }], guard := some (16, true) }) (v := undef) rfl (by kernel_rfl) (by kernel_rfl) (by kernel_rfl) (fun _ _ _ h => h) (by kernel_rfl) (Or.inr ⟨by rfl, rfl⟩) hS21 ?rest56
                    try simp only [Act.put, List.setIfInBounds_toArray, List.set_cons_zero, List.set_cons_succ]
                    refine' wpAnyD_take (i := 26) (oi := { dst := some 145, op := Go.Op.call { callee := Go.Callee.value (Go.Operand.func 13), args := #[Go.Operand.tmp 140, Go.Operand.tmp 144], argTypes := #[36, 36] }, type := 4, pos := "law.go:212", after := #[{ on := 21, ground := Go.Ground.data }, { on := 25, ground := Go.Ground.data }, { on := 16, ground := Go.Ground.chain }, { on := 16, ground := Go.Ground.guard }], guard := some (16, true) }) (v := undef) rfl (by kernel_rfl) (by kernel_rfl) (by kernel_rfl) (fun _ _ _ h => h) (by kernel_rfl) (Or.inr ⟨by rfl, rfl⟩) hS21 ?rest57
                    try simp only [Act.put, List.setIfInBounds_toArray, List.set_cons_zero, List.set_cons_succ]
                    refine' wpAnyD_take (i := 27) (oi := { dst := some 146, op := Go.Op.unOp Go.UnOp.not 4 (Go.Operand.tmp 145), type := 4, pos := "law.go:212", after := #[{ on := 26, ground := Go.Ground.data }, { on := 16, ground := Go.Ground.guard }], guard := some (16, true) }) (v := undef) rfl (by kernel_rfl) (by kernel_rfl) (by kernel_rfl) (fun _ _ _ h => h) (by kernel_rfl) (Or.inr ⟨by rfl, rfl⟩) hS21 ?rest58
                    try simp only [Act.put, List.setIfInBounds_toArray, List.set_cons_zero, List.set_cons_succ]
                    refine' wpAnyD_take (i := 28) (oi := { dst := some 147, op := Go.Op.pick (Go.Operand.tmp 135) (Go.Operand.tmp 146) (Go.Operand.const (Go.Value.bool false)), type := 4, pos := "law.go:212", after := #[{ on := 16, ground := Go.Ground.data }, { on := 27, ground := Go.Ground.data }, { on := 13, ground := Go.Ground.guard }], guard := some (13, false) }) (v := .bool false) rfl (by kernel_rfl) (by kernel_rfl) (by kernel_rfl) (fun _ _ _ h => h) (by kernel_rfl) (Or.inl ⟨by rfl, ?hy59⟩) hS21 ?rest59
                    case hy59 => (intro W hSw; go_simp; try (with_reducible rfl))
                    try simp only [Act.put, List.setIfInBounds_toArray, List.set_cons_zero, List.set_cons_succ]
                    refine' wpAnyD_take (i := 29) (oi := { dst := some 148, op := Go.Op.pick (Go.Operand.tmp 132) (Go.Operand.const (Go.Value.bool true)) (Go.Operand.tmp 147), type := 4, pos := "law.go:212", after := #[{ on := 13, ground := Go.Ground.data }, { on := 28, ground := Go.Ground.data }], guard := none }) (v := .bool false) rfl (by kernel_rfl) (by kernel_rfl) (by kernel_rfl) (fun _ _ _ h => h) (by kernel_rfl) (Or.inl ⟨by rfl, ?hy60⟩) hS21 ?rest60
                    case hy60 => (intro W hSw; go_simp; try (with_reducible rfl))
                    try simp only [Act.put, List.setIfInBounds_toArray, List.set_cons_zero, List.set_cons_succ]
                    refine wpAnyD_done (by kernel_rfl) ?_ _
                    have HI2 := hid hS21
                    clear hcn hS0 hS21
                    go_wp2_with fail
                    go_roundw
                    case rel => exact ⟨_, hlt, by go_num, HI2.out⟩
                    case measure => simp [RowKit.intOf]; omega
        · have hz : ¬ ((i : Int) < (n : Int)) := by omega
          obtain ⟨W10, hW10⟩ : ∃ V, V = wr := ⟨_, rfl⟩
          rw [← hW10] at HI ⊢
          have hb := HI.out
          clear hi hlt HI hW10
          have BW' := hid (BW.out.trans (hb.mono BW.out.size))
          clear BW
          have BW := BW'
          clear BW'
          have PB' := hid (PB.out.below hb)
          clear PB
          have PB := PB'
          clear PB'
          have LA' := hid (LA.out.below hb)
          clear LA
          have LA := LA'
          clear LA'
          clear hb
          have hrows : Hid (R3 W10.heap.size W10 (.slice none 0 0) (.slice none 0 0) (.slice none 0 0) ((A.take 0).filter fun x => bel x.t t) ((A.take 0).filter fun x => decide (x.k = ky)) ((A.take 0).filter fun x => !opn F x.t) ∧ Below W10.heap.size W10 W10) := ⟨⟨World.ownsRow_nil _ _ _ _, World.ownsRow_nil _ _ _ _, World.ownsRow_nil _ _ _ _, fun k h => by simp [Value.ownBlock] at h, fun k h => by simp [Value.ownBlock] at h, fun k h => by simp [Value.ownBlock] at h⟩, Below.refl _ _⟩
          go_wp2_with fail
          go_loopw [17, 18, 19, 20] (fun s17 s18 s19 s20 wr => ∃ i : Nat, i ≤ n ∧ s20 = .int .i64 (i : Nat) ∧ Hid (R3 W10.heap.size wr s17 s18 s19 ((A.take i).filter fun x => bel x.t t) ((A.take i).filter fun x => decide (x.k = ky)) ((A.take i).filter fun x => !opn F x.t) ∧ Below W10.heap.size W10 wr)) (fun _ _ _ s20 _ => n - (RowKit.intOf s20).toNat)
          case atStart => exact ⟨0, Nat.zero_le _, rfl, hrows⟩
          case round =>
            clear hrows
            obtain ⟨i, hi, rfl, HI⟩ := hrel
            by_cases hlt : i < n
            · have hz : (i : Int) < (n : Int) := by omega
              have hi0 : (0 : Int) ≤ (i : Int) := by omega
              obtain ⟨x, hx⟩ : ∃ x, A[i]? = some x := ⟨A[i]'(by have := HAL.out; omega), by simp⟩
              obtain ⟨b2, o2, hpa⟩ : ∃ b o, pa = some ⟨b, o, none⟩ := by
                obtain ⟨b, o, q', e', -, -⟩ := atC LA.out hx
                simp only [Value.slice.injEq] at e'
                exact ⟨b, o, e'.1⟩
              subst hpa
              have HSC : Hid (∀ W, Below W10.heap.size W10 W → (Tc W B 0 t ∧ B < W.heap.size) ∧ b2 < W.heap.size ∧ Cc W b2 (o2 + i * 5) x) := fun W h => by
                have h2 := BW.out.trans (h.mono BW.out.size)
                obtain ⟨b, o, q', e', l', h'⟩ := atC (LA.out.below h) hx
                simp only [Value.slice.injEq, Option.some.injEq, Addr.mk.injEq, and_true] at e'
                obtain ⟨⟨rfl, rfl⟩, -⟩ := e'
                exact ⟨⟨MO.out.1.below MO.out.2 h2, Nat.lt_of_lt_of_le MO.out.2 h2.size⟩, l', h'⟩
              have F1 := hid (filter_take_succ (p := fun x : Ct => bel x.t t) hx)
              have F2 := hid (filter_take_succ (p := fun x : Ct => decide (x.k = ky)) hx)
              have F3 := hid (filter_take_succ (p := fun x : Ct => !opn F x.t) hx)
              have M1 : ((A.take i).filter fun x => bel x.t t).length ≤ 3518437208780 := Nat.le_trans (List.length_filter_le _ _) (by rw [List.length_take]; omega)
              have M2 : ((A.take i).filter fun x => decide (x.k = ky)).length ≤ 3518437208780 := Nat.le_trans (List.length_filter_le _ _) (by rw [List.length_take]; omega)
              have M3 : ((A.take i).filter fun x => !opn F x.t).length ≤ 3518437208780 := Nat.le_trans (List.length_filter_le _ _) (by rw [List.length_take]; omega)
              have hah := fun W => r5ahead_any x.t t W
              have hop := fun W (h : Below W10.heap.size W10 W) => r5open_any _ F x.t W (HF.out.below (BW.out.trans (h.mono BW.out.size))) BDF.out.2
              obtain ⟨N1, hN1⟩ : ∃ N, N = ((A.take (i + 1)).filter fun x => bel x.t t) := ⟨_, rfl⟩
              rw [← hN1] at F1
              have HN1 := hid hN1
              clear hN1
              obtain ⟨N2, hN2⟩ : ∃ N, N = ((A.take (i + 1)).filter fun x => decide (x.k = ky)) := ⟨_, rfl⟩
              rw [← hN2] at F2
              have HN2 := hid hN2
              clear hN2
              obtain ⟨N3, hN3⟩ : ∃ N, N = ((A.take (i + 1)).filter fun x => !opn F x.t) := ⟨_, rfl⟩
              rw [← hN3] at F3
              have HN3 := hid hN3
              clear hN3
              generalize ((A.take i).filter fun x => bel x.t t) = K1 at HI F1 M1
              generalize ((A.take i).filter fun x => decide (x.k = ky)) = K2 at HI F2 M2
              generalize ((A.take i).filter fun x => !opn F x.t) = K3 at HI F3 M3
              obtain ⟨p17, c17, rfl⟩ := own_form HI.out.1.o1
              obtain ⟨p18, c18, rfl⟩ := own_form HI.out.1.o2
              obtain ⟨p19, c19, rfl⟩ := own_form HI.out.1.o3
              obtain ⟨bb, hbb⟩ : ∃ b, b = bel x.t t := ⟨_, rfl⟩
              obtain ⟨ob, hob⟩ : ∃ b, b = opn F x.t := ⟨_, rfl⟩
              rw [← hbb] at hah F1
              rw [← hob] at hop F3
              dsimp only [Ct.t] at hah hop
              have BD1 : Hid ((K1.length + 1) * 40 ≤ 140737488355328 ∧ K1.length + 1 ≤ maxLen) := ⟨by omega, by unfold maxLen; omega⟩
              have BD2 : Hid ((K2.length + 1) * 40 ≤ 140737488355328 ∧ K2.length + 1 ≤ maxLen) := ⟨by omega, by unfold maxLen; omega⟩
              have BD3 : Hid ((K3.length + 1) * 40 ≤ 140737488355328 ∧ K3.length + 1 ≤ maxLen) := ⟨by omega, by unfold maxLen; omega⟩
              have hS0 : Below W10.heap.size W10 wr.drew := HI.out.2.trans ((Gr.refl wr).drew.below.mono HI.out.2.size)
              have HRd : Hid (R3 W10.heap.size wr.drew (.slice p17 K1.length c17) (.slice p18 K2.length c18) (.slice p19 K3.length c19) K1 K2 K3) := HI.out.1.below (Gr.refl wr).drew.below
              clear hx hbb hob M1 M2 M3 HI
              go_upto_region 39 with fail
              refine wp_regionD (S := fun W' => Below W10.heap.size W10 W') (D := []) hmx ?_
              refine' wpAnyD_take (i := 0) (oi := { dst := some 155, op := Go.Op.move (Go.Operand.tmp 11), type := 22, pos := "law.go:220", after := #[], guard := none }) (v := _) rfl (by kernel_rfl) (by kernel_rfl) (by kernel_rfl) (fun _ _ _ h => h) (by kernel_rfl) (Or.inl ⟨by rfl, ?hy61⟩) hS0 ?rest61
              case hy61 => (intro W hSw; go_simp; try (with_reducible rfl))
              try simp only [Act.put, List.setIfInBounds_toArray, List.set_cons_zero, List.set_cons_succ]
              refine' wpAnyD_take (i := 1) (oi := { dst := some 156, op := Go.Op.move (Go.Operand.tmp 20), type := 3, pos := "law.go:220", after := #[], guard := none }) (v := _) rfl (by kernel_rfl) (by kernel_rfl) (by kernel_rfl) (fun _ _ _ h => h) (by kernel_rfl) (Or.inl ⟨by rfl, ?hy62⟩) hS0 ?rest62
              case hy62 => (intro W hSw; go_simp; try (with_reducible rfl))
              try simp only [Act.put, List.setIfInBounds_toArray, List.set_cons_zero, List.set_cons_succ]
              refine' wpAnyD_take (i := 2) (oi := { dst := some 157, op := Go.Op.indexAddr 22 (Go.Operand.tmp 155) (Go.Operand.tmp 156), type := 0, pos := "law.go:220", after := #[{ on := 0, ground := Go.Ground.data }, { on := 1, ground := Go.Ground.data }], guard := none }) (v := _) rfl (by kernel_rfl) (by kernel_rfl) (by kernel_rfl) (fun _ _ _ h => h) (by kernel_rfl) (Or.inl ⟨by rfl, ?hy63⟩) hS0 ?rest63
              case hy63 => (intro W hSw; obtain ⟨⟨⟨s1, s2, s3⟩, s4⟩, s5, ⟨s6, s7, s8, s9, s10⟩⟩ := HSC.out W hSw; go_simp; try (with_reducible rfl))
              try simp only [Act.put, List.setIfInBounds_toArray, List.set_cons_zero, List.set_cons_succ]
              refine' wpAnyD_take (i := 3) (oi := { dst := some 158, op := Go.Op.fieldAddr 36 (Go.Operand.tmp 157) 0, type := 0, pos := "law.go:220", after := #[{ on := 2, ground := Go.Ground.data }], guard := none }) (v := _) rfl (by kernel_rfl) (by kernel_rfl) (by kernel_rfl) (fun _ _ _ h => h) (by kernel_rfl) (Or.inl ⟨by rfl, ?hy64⟩) hS0 ?rest64
              case hy64 => (intro W hSw; go_simp; try (with_reducible rfl))
              try simp only [Act.put, List.setIfInBounds_toArray, List.set_cons_zero, List.set_cons_succ]
              refine' wpAnyD_take (i := 4) (oi := { dst := some 159, op := Go.Op.load 25 (Go.Operand.tmp 158), type := 25, pos := "law.go:220", after := #[{ on := 3, ground := Go.Ground.data }], guard := none }) (v := _) rfl (by kernel_rfl) (by kernel_rfl) (by kernel_rfl) (fun _ _ _ h => h) (by kernel_rfl) (Or.inl ⟨by rfl, ?hy65⟩) hS0 ?rest65
              case hy65 => (intro W hSw; obtain ⟨⟨⟨s1, s2, s3⟩, s4⟩, s5, ⟨s6, s7, s8, s9, s10⟩⟩ := HSC.out W hSw; go_simp; try (with_reducible rfl))
              try simp only [Act.put, List.setIfInBounds_toArray, List.set_cons_zero, List.set_cons_succ]
              refine' wpAnyD_take (i := 5) (oi := { dst := some 160, op := Go.Op.load 25 (Go.Operand.tmp 5), type := 25, pos := "law.go:220", after := #[], guard := none }) (v := _) rfl (by kernel_rfl) (by kernel_rfl) (by kernel_rfl) (fun _ _ _ h => h) (by kernel_rfl) (Or.inl ⟨by rfl, ?hy66⟩) hS0 ?rest66
              case hy66 => (intro W hSw; obtain ⟨⟨⟨s1, s2, s3⟩, s4⟩, s5, ⟨s6, s7, s8, s9, s10⟩⟩ := HSC.out W hSw; go_simp; try (with_reducible rfl))
              try simp only [Act.put, List.setIfInBounds_toArray, List.set_cons_zero, List.set_cons_succ]
              refine wpAnyD_one (i := 6) (o := { dst := some 161, op := Go.Op.call { callee := Go.Callee.value (Go.Operand.func 14), args := #[Go.Operand.tmp 159, Go.Operand.tmp 160], argTypes := #[25, 25] }, type := 4, pos := "law.go:220", after := #[{ on := 4, ground := Go.Ground.data }, { on := 5, ground := Go.Ground.data }], guard := none }) (by kernel_rfl) rfl (fun K hK => ?_)
              rw [if_pos (by kernel_rfl)]
              go_simp
              refine (hah _).mono ?_
              rintro e w5 ⟨rfl, g5⟩
              have hS5 : Below W10.heap.size W10 w5 := hS0.trans (g5.below.mono hS0.size)
              have HR5 := hid (HRd.out.below g5.below)
              clear g5
              dsimp only
              refine hK.out _ _ (fun hD => hS5) ?_
              clear hK K
              try simp only [Act.put, List.setIfInBounds_toArray, List.set_cons_zero, List.set_cons_succ]
              refine wpAnyD_done (by kernel_rfl) ?_ _
              have HB5 := hid hS5
              clear hS0 hS5 HRd hah
              go_upto_if 161 with fail
              go_cut [17] from 149 to 198 (fun s17 w' => ∃ p c, s17 = .slice p N1.length c ∧ Hid (R3 W10.heap.size w' (.slice p N1.length c) (.slice p18 K2.length c18) (.slice p19 K3.length c19) N1 K2 K3 ∧ Below W10.heap.size W10 w'))
              case first =>
                obtain ⟨⟨⟨s1, s2, s3⟩, s4⟩, s5, ⟨s6, s7, s8, s9, s10⟩⟩ := HSC.out _ HB5.out
                clear s1 s2 s3 s4
                cases bb with
                | true =>
                  have HE : Hid (N1 = K1 ++ [x]) := show _ = _ by have := F1.out; simpa using this
                  clear F1 F2 F3
                  go_wp2_with (at_builtin; refine wpApp1 EC Try.underlying22 infoC rfl (by decide) rfl _ _ rfl W10.heap.size _ K1.length _ rfl HR5.out.o1 x (by first | rfl | (go_simp; done)) BD1.out.1 BD1.out.2 HB5.out.size _ rfl _ ?_)
                  intro g6 c6 w6 ho6 hg6 hn6
                  have HR6 := hid ((HR5.out.app ho6 hg6 hn6))
                  have HB6 : Hid (Below W10.heap.size W10 w6) := HB5.out.trans (HR5.out.bel HB5.out.size hg6)
                  clear ho6 hg6 hn6
                  go_wp2_with fail
                  go_meet
                  rw [HE.out]
                  exact ⟨_, _, by simp, HR6.out, HB6.out⟩
                | false =>
                  have HE : Hid (N1 = K1) := show _ = _ by have := F1.out; simpa using this
                  clear F1 F2 F3
                  go_wp2_with fail
                  go_meet
                  rw [HE.out]
                  exact ⟨_, _, rfl, HR5.out, HB5.out⟩
              case rest =>
                obtain ⟨p27, c27, rfl, HC⟩ := hcut
                obtain ⟨X1, hX1⟩ : ∃ V, V = wc := ⟨_, rfl⟩
                rw [← hX1] at HC ⊢
                have HR51 := hid HC.out.1
                have HB51 := hid HC.out.2
                clear HC hX1 HR5 HB5 F1 BD1
                obtain ⟨⟨⟨t1, t2, t3⟩, t4⟩, t5, ⟨t6, t7, t8, t9, t10⟩⟩ := HSC.out _ HB51.out
                clear t1 t2 t3 t4
                go_upto_if 176 with fail
                go_cut [18] from 149 to 198 (fun s18 w' => ∃ p c, s18 = .slice p N2.length c ∧ Hid (R3 W10.heap.size w' (.slice p27 N1.length c27) (.slice p N2.length c) (.slice p19 K3.length c19) N1 N2 K3 ∧ Below W10.heap.size W10 w'))
                case first =>
                  obtain ⟨⟨⟨s1, s2, s3⟩, s4⟩, s5, ⟨s6, s7, s8, s9, s10⟩⟩ := HSC.out _ HB51.out
                  clear s1 s2 s3 s4
                  by_cases hk : x.k = ky
                  · have hkb : (x.k == ky) = true := by simp [hk]
                    have HE : Hid (N2 = K2 ++ [x]) := show _ = _ by have := F2.out; simpa [hk] using this
                    clear hk F2 F3
                    go_wp2_with (at_builtin; refine wpApp1 EC Try.underlying22 infoC rfl (by decide) rfl _ _ rfl W10.heap.size _ K2.length _ rfl HR51.out.o2 x (by first | rfl | (go_simp; done)) BD2.out.1 BD2.out.2 HB51.out.size _ rfl _ ?_)
                    intro g6 c6 w6 ho6 hg6 hn6
                    have HR6 := hid ((HR51.out.rot.app ho6 hg6 hn6).rot.rot)
                    have HB6 : Hid (Below W10.heap.size W10 w6) := HB51.out.trans (HR51.out.rot.bel HB51.out.size hg6)
                    clear ho6 hg6 hn6
                    go_wp2_with fail
                    go_meet
                    rw [HE.out]
                    exact ⟨_, _, by simp, HR6.out, HB6.out⟩
                  · have hkb : (x.k == ky) = false := by simp [hk]
                    have HE : Hid (N2 = K2) := show _ = _ by have := F2.out; simpa [hk] using this
                    clear hk F2 F3
                    go_wp2_with fail
                    go_meet
                    rw [HE.out]
                    exact ⟨_, _, rfl, HR51.out, HB51.out⟩
                case rest =>
                  obtain ⟨p28, c28, rfl, HC⟩ := hcut
                  obtain ⟨X2, hX2⟩ : ∃ V, V = wc := ⟨_, rfl⟩
                  rw [← hX2] at HC ⊢
                  have HR52 := hid HC.out.1
                  have HB52 := hid HC.out.2
                  clear HC hX2 HR51 HB51 F2 BD2
                  obtain ⟨⟨⟨t1, t2, t3⟩, t4⟩, t5, ⟨t6, t7, t8, t9, t10⟩⟩ := HSC.out _ HB52.out
                  clear t1 t2 t3 t4
                  have hc := hop X2 HB52.out
                  go_wp2_with fail
                  refine hc.mono ?_
                  clear hc
                  rintro e X4 ⟨rfl, g4⟩
                  have HR53' := hid (HR52.out.below g4.below)
                  have HB53' : Hid (Below W10.heap.size W10 X4) := HB52.out.trans (g4.below.mono HB52.out.size)
                  clear g4 HR52 HB52 t5 t6 t7 t8 t9 t10
                  obtain ⟨-, s5, ⟨s6, s7, s8, s9, s10⟩⟩ := HSC.out _ HB53'.out
                  cases ob with
                  | false =>
                    have HE : Hid (N3 = K3 ++ [x]) := show _ = _ by have := F3.out; simpa using this
                    clear F3
                    go_wp2_with (at_builtin; refine wpApp1 EC Try.underlying22 infoC rfl (by decide) rfl _ _ rfl W10.heap.size _ K3.length _ rfl HR53'.out.o3 x (by first | rfl | (go_simp; done)) BD3.out.1 BD3.out.2 HB53'.out.size _ rfl _ ?_)
                    intro g6 c6 w6 ho6 hg6 hn6
                    have HR6 := hid ((HR53'.out.rot.rot.app ho6 hg6 hn6).rot)
                    have HB6 : Hid (Below W10.heap.size W10 w6) := HB53'.out.trans (HR53'.out.rot.rot.bel HB53'.out.size hg6)
                    clear ho6 hg6 hn6
                    go_wp2_with fail
                    go_roundw
                    case rel =>
                      refine ⟨i + 1, hlt, by go_num, ?_⟩
                      have h := And.intro HR6.out HB6.out
                      rw [← HN1.out, ← HN2.out, ← HN3.out, HE.out]
                      rw [List.length_append] at h
                      exact h
                    case measure => simp [RowKit.intOf]; omega
                  | true =>
                    have HE : Hid (N3 = K3) := show _ = _ by have := F3.out; simpa using this
                    clear F3
                    go_wp2_with fail
                    go_roundw
                    case rel => exact ⟨i + 1, hlt, by go_num, by rw [← HN1.out, ← HN2.out, ← HN3.out, HE.out]; exact HR53'.out, HB53'.out⟩
                    case measure => simp [RowKit.intOf]; omega
            · have hz : ¬ ((i : Int) < (n : Int)) := by omega
              obtain ⟨W11, hW11⟩ : ∃ V, V = wr := ⟨_, rfl⟩
              rw [← hW11] at HI ⊢
              have hb := HI.out.2
              have hAi : A.take i = A := List.take_of_length_le (by have := HAL.out; omega)
              rw [hAi] at HI
              obtain ⟨p17, c17, rfl⟩ := own_form HI.out.1.o1
              obtain ⟨p18, c18, rfl⟩ := own_form HI.out.1.o2
              obtain ⟨p19, c19, rfl⟩ := own_form HI.out.1.o3
              have L1 : Hid (Ls EC W11 (.slice p17 (A.filter fun x => bel x.t t).length c17) (A.filter fun x => bel x.t t)) := owns_ls (E := EC) HI.out.1.o1
              have L2 : Hid (Ls EC W11 (.slice p18 (A.filter fun x => decide (x.k = ky)).length c18) (A.filter fun x => decide (x.k = ky))) := owns_ls (E := EC) HI.out.1.o2
              have L3 : Hid (Ls EC W11 (.slice p19 (A.filter fun x => !opn F x.t).length c19) (A.filter fun x => !opn F x.t)) := owns_ls (E := EC) HI.out.1.o3
              have HK : Hid ((A.filter fun x => bel x.t t).length ≤ 5864062014806 ∧ (A.filter fun x => decide (x.k = ky)).length ≤ 5864062014806 ∧ (A.filter fun x => !opn F x.t).length ≤ 5864062014806 ∧ A.length ≤ 5864062014806) := by
                have h0 : A.length ≤ 5864062014806 := by have := HAL.out; omega
                exact ⟨Nat.le_trans (List.length_filter_le _ _) h0, Nat.le_trans (List.length_filter_le _ _) h0, Nat.le_trans (List.length_filter_le _ _) h0, h0⟩
              clear hi hlt HI hW11 hAi
              have BW' := hid (BW.out.trans (hb.mono BW.out.size))
              clear BW
              have BW := BW'
              clear BW'
              have PB' := hid (PB.out.below hb)
              clear PB
              have PB := PB'
              clear PB'
              have LA' := hid (LA.out.below hb)
              clear LA
              have LA := LA'
              clear LA'
              clear hb
              obtain ⟨⟨q1, q2, q3⟩, q4⟩ : Tc W11 B 0 t ∧ B < W11.heap.size := ⟨MO.out.1.below MO.out.2 BW.out, Nat.lt_of_lt_of_le MO.out.2 BW.out.size⟩
              have hc := upto_any t W11 PB.out BDL.out.1
              rw [← HA.out] at hc
              go_wp2_with fail
              refine hc.mono ?_
              clear hc
              rintro e W12 ⟨px, nx', cx, rfl, H⟩
              have hb : Below W11.heap.size W11 W12 := H.out.1.2
              have LX : Hid (Ls EC W12 (.slice px nx' cx) (A.filter fun x => bel x.t t)) := Tld.ls H.out.1
              have NX := hid H.out.2
              clear H q1 q2 q3 q4
              have BW' := hid (BW.out.trans (hb.mono BW.out.size))
              clear BW
              have BW := BW'
              clear BW'
              have PB' := hid (PB.out.below hb)
              clear PB
              have PB := PB'
              clear PB'
              have LA' := hid (LA.out.below hb)
              clear LA
              have LA := LA'
              clear LA'
              have L1' := hid (L1.out.below hb)
              clear L1
              have L1 := L1'
              clear L1'
              have L2' := hid (L2.out.below hb)
              clear L2
              have L2 := L2'
              clear L2'
              have L3' := hid (L3.out.below hb)
              clear L3
              have L3 := L3'
              clear L3'
              clear hb
              have hc := same_eq W12 LX.out L1.out HK.out.1
              go_wp2_with fail
              refine hc.mono ?_
              clear hc
              rintro e W13 ⟨rfl, gx⟩
              have hb := gx.below
              have BW' := hid (BW.out.trans (hb.mono BW.out.size))
              clear BW
              have BW := BW'
              clear BW'
              have PB' := hid (PB.out.below hb)
              clear PB
              have PB := PB'
              clear PB'
              have LA' := hid (LA.out.below hb)
              clear LA
              have LA := LA'
              clear LA'
              have L1' := hid (L1.out.below hb)
              clear L1
              have L1 := L1'
              clear L1'
              have L2' := hid (L2.out.below hb)
              clear L2
              have L2 := L2'
              clear L2'
              have L3' := hid (L3.out.below hb)
              clear L3
              have L3 := L3'
              clear L3'
              clear hb gx LX NX
              clear L1
              have hc := of_any ky W13 PB.out BDL.out.1
              rw [← HA.out] at hc
              go_wp2_with fail
              refine hc.mono ?_
              clear hc
              rintro e W14 ⟨px, nx', cx, rfl, H⟩
              have hb : Below W13.heap.size W13 W14 := H.out.1.2
              have LX : Hid (Ls EC W14 (.slice px nx' cx) (A.filter fun x => decide (x.k = ky))) := Tld.ls H.out.1
              have NX := hid H.out.2
              clear H
              have BW' := hid (BW.out.trans (hb.mono BW.out.size))
              clear BW
              have BW := BW'
              clear BW'
              have PB' := hid (PB.out.below hb)
              clear PB
              have PB := PB'
              clear PB'
              have LA' := hid (LA.out.below hb)
              clear LA
              have LA := LA'
              clear LA'
              have L2' := hid (L2.out.below hb)
              clear L2
              have L2 := L2'
              clear L2'
              have L3' := hid (L3.out.below hb)
              clear L3
              have L3 := L3'
              clear L3'
              clear hb
              have hc := same_eq W14 LX.out L2.out HK.out.2.1
              go_wp2_with fail
              refine hc.mono ?_
              clear hc
              rintro e W15 ⟨rfl, gx⟩
              have hb := gx.below
              have BW' := hid (BW.out.trans (hb.mono BW.out.size))
              clear BW
              have BW := BW'
              clear BW'
              have PB' := hid (PB.out.below hb)
              clear PB
              have PB := PB'
              clear PB'
              have LA' := hid (LA.out.below hb)
              clear LA
              have LA := LA'
              clear LA'
              have L2' := hid (L2.out.below hb)
              clear L2
              have L2 := L2'
              clear L2'
              have L3' := hid (L3.out.below hb)
              clear L3
              have L3 := L3'
              clear L3'
              clear hb gx LX NX
              clear L2
              have hc := done_any W15 PB.out BDL.out.1 (HF.out.below BW.out) BDF.out.1
              rw [← HA.out] at hc
              go_wp2_with fail
              refine hc.mono ?_
              clear hc
              rintro e W16 ⟨px, nx', cx, rfl, H⟩
              have hb : Below W15.heap.size W15 W16 := H.out.1.2
              have LX : Hid (Ls EC W16 (.slice px nx' cx) (A.filter fun x => !opn F x.t)) := Tld.ls H.out.1
              have NX := hid H.out.2
              clear H
              have BW' := hid (BW.out.trans (hb.mono BW.out.size))
              clear BW
              have BW := BW'
              clear BW'
              have PB' := hid (PB.out.below hb)
              clear PB
              have PB := PB'
              clear PB'
              have LA' := hid (LA.out.below hb)
              clear LA
              have LA := LA'
              clear LA'
              have L3' := hid (L3.out.below hb)
              clear L3
              have L3 := L3'
              clear L3'
              clear hb
              have hc := same_eq W16 LX.out L3.out HK.out.2.2.1
              go_wp2_with fail
              refine hc.mono ?_
              clear hc
              rintro e W17 ⟨rfl, gx⟩
              have hb := gx.below
              have BW' := hid (BW.out.trans (hb.mono BW.out.size))
              clear BW
              have BW := BW'
              clear BW'
              have PB' := hid (PB.out.below hb)
              clear PB
              have PB := PB'
              clear PB'
              have LA' := hid (LA.out.below hb)
              clear LA
              have LA := LA'
              clear LA'
              have L3' := hid (L3.out.below hb)
              clear L3
              have L3 := L3'
              clear L3'
              clear hb gx LX NX
              clear L3
              have hc := done_any W17 PB.out BDL.out.1 (Ls.nil _) (Nat.zero_le _)
              rw [← HA.out] at hc
              rw [show (A.filter fun x => !opn [] x.t) = A from List.filter_eq_self.2 (fun _ _ => rfl)] at hc
              go_wp2_with fail
              refine hc.mono ?_
              clear hc
              rintro e W18 ⟨px, nx', cx, rfl, H⟩
              have hb : Below W17.heap.size W17 W18 := H.out.1.2
              have LX : Hid (Ls EC W18 (.slice px nx' cx) A) := Tld.ls H.out.1
              have NX := hid H.out.2
              clear H
              have BW' := hid (BW.out.trans (hb.mono BW.out.size))
              clear BW
              have BW := BW'
              clear BW'
              have PB' := hid (PB.out.below hb)
              clear PB
              have PB := PB'
              clear PB'
              have LA' := hid (LA.out.below hb)
              clear LA
              have LA := LA'
              clear LA'
              clear hb
              have hc := same_eq W18 LX.out LA.out HK.out.2.2.2
              go_wp2_with fail
              refine hc.mono ?_
              clear hc
              rintro e W19 ⟨rfl, gx⟩
              have hb := gx.below
              have BW' := hid (BW.out.trans (hb.mono BW.out.size))
              clear BW
              have BW := BW'
              clear BW'
              have PB' := hid (PB.out.below hb)
              clear PB
              have PB := PB'
              clear PB'
              have LA' := hid (LA.out.below hb)
              clear LA
              have LA := LA'
              clear LA'
              clear hb gx LX NX
              go_wp2
              go_ret
              exact ⟨rfl, HG0.out.below.trans (BW.out.mono HG0.out.size)⟩
theorem probeSorted_all {v : Value} {q : Option Addr} {m d : Nat} {L : List Ct} {F : List T3} (t : T3) (ky : Int) (w : World) (hL : Ls EC w v L) (hF : Ls ET w (.slice q m d) F) (hnb : L.length * 40 ≤ 140737488351232) (hmb : F.length * 24 ≤ 140737488351232) :
    Calls Try.prog 3 #[v, .agg #[.int .u64 t.1, .int .u64 t.2.1, .int .u64 t.2.2, .slice q m d, .int .u64 ky]] w fun e w' => e = .returned (.bool true) ∧ Below w.heap.size w w' := by
  obtain ⟨p, c, rfl⟩ := hL.form
  obtain ⟨q', d', h⟩ := hF.form
  cases h
  exact probeSorted_any t ky w hL hF hnb hmb
end Go.Proofs.Ytghpekkncfckaaa.Ca
